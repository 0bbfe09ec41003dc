import PyProof.Rows.All
import KE.KDictList
import KE.KNest
import KE.KSortAsk
import Lean
import OpenK.AllK
import PyProof.Dict
import PyProof.EqAt
import PyProof.EqKinds
import PyProof.NeKinds
import PyProof.Rows.Range3
import PyProof.Rows.SetFrom
import PyProof.TupleCall
import Wide.All
import Wide.FinOn
import PySem.Challenge.RW_evenclimb_k62_fields_of_rows
set_option Elab.async false
set_option linter.all false
set_option maxRecDepth 100000
set_option maxHeartbeats 8000000
set_option bootstrap.genMatcherCode false
noncomputable section
noncomputable def ae:=@PySem.wpAny_bind
noncomputable def ah:=@PySem.wpAny_pure
noncomputable def aj:=@PyProof.Rows.wpS_bind
noncomputable def aq:=@List.getElem?_eq_getElem
noncomputable def au:=@PySem.Heap.get?_push_of_some
noncomputable def ay:=@PyProof.Rows.wpS_pure
noncomputable def aB:=@Nat.le_refl
noncomputable def aD:=@List.length_map
noncomputable def aG:=@PySem.Heap.lt_size
noncomputable def aO:=@List.getD_eq_getElem?_getD
noncomputable def aP:=@Nat.ne_of_lt
noncomputable def aQ:=@PySem.Heap.get?_push_size
noncomputable def a9:=@List.mem_cons
noncomputable def a_:=@List.size_toArray
noncomputable def bB:=@List.getElem?_map
noncomputable def bE:=@Nat.zero_le
noncomputable def bF:=@List.getElem?_eq_some_iff
noncomputable def bG:=@List.mem_cons_of_mem
noncomputable def bJ:=@List.map_cons
noncomputable def bK:=@List.mem_of_getElem?
noncomputable def bQ:=@Int.toNat_natCast
noncomputable def bR:=@List.mem_cons_self
noncomputable def bS:=@PySem.Paired.length
noncomputable def bX:=@PyProof.Rows.wpS_forRange
noncomputable def bY:=@PyProof.Rows.wpS_mono
noncomputable def b9:=@decide_eq_true
noncomputable def ck:=@Bool.and_eq_true
noncomputable def cn:=@List.all_eq_true
noncomputable def cq:=@Nat.lt_of_lt_of_le
noncomputable def cu:=@Ne.symm
noncomputable def cz:=@PySem.PassesOwn.never
noncomputable def cG:=@List.mem_map
noncomputable def cH:=@Nat.le_trans
noncomputable def cX:=@List.length_append
noncomputable def cY:=@PySem.W.mg_none_of
noncomputable def cZ:=@decide_eq_false
noncomputable def c5:=@decide_eq_true_iff
noncomputable def c6:=@if_false
noncomputable def dc:=@List.length_cons
noncomputable def dw:=@Array.length_toList
noncomputable def dz:=@Bool.false_eq_true
noncomputable def dB:=@List.map_map
noncomputable def dC:=@Option.some.inj
noncomputable def dE:=@PyProof.Rows.boot_isinstance
noncomputable def dR:=@Bool.eq_iff_iff
noncomputable def dS:=@List.mem_append_right
noncomputable def dU:=@PySem.Heap.size_push
noncomputable def dW:=@PySem.boot_len
noncomputable def dX:=@PySem.wpAny_call_entry
noncomputable def dY:=@PySem.wpAny_holding
noncomputable def dZ:=@PySem.wpAny_mono
noncomputable def eG:=@List.lookup_cons
noncomputable def eI:=@List.not_mem_nil
noncomputable def eJ:=@Nat.lt_irrefl
noncomputable def eK:=@Nat.ne_of_gt
noncomputable def eL:=@PySem.codeAny_mono
noncomputable def eN:=@beq_iff_eq
noncomputable def eS:=@or_false
noncomputable def eV:=@List.mem_singleton
noncomputable def eX:=@PyProof.Rows.wpS_get
noncomputable def eY:=@PySem.wpAny_setField_rec
noncomputable def fz:=@List.map_append
noncomputable def fB:=@PySem.W.kia_one
noncomputable def fC:=@PySem.mem_of_lookup
noncomputable def fD:=@PySem.wpAny_field
noncomputable def fE:=@PySem.wpAny_truthy_bool
noncomputable def fP:=@Array.getElem?_eq_getElem
noncomputable def fS:=@List.nodup_cons
noncomputable def fT:=@Nat.le_of_lt
noncomputable def fU:=@PyProof.Rows.wpS_modify
noncomputable def fV:=@PySem.codeAny_builtin
noncomputable def fW:=@PySem.wpAny_attempt
noncomputable def fX:=@PySem.wpAny_callSpecial?_slot
noncomputable def fZ:=@PySem.wpAny_seqItems
noncomputable def gX:=@Bool.or_eq_true
noncomputable def g0:=@Int.zero_add
noncomputable def hJ:=@List.ext_getElem
noncomputable def hV:=@List.mem_append
noncomputable def hW:=@List.pairwise_map
noncomputable def h6:=@PyProof.Rows.listUpdate_at
noncomputable def h7:=@PySem.F.plainAttrs_list
noncomputable def h9:=@PySem.Heap.get?_update_ne
noncomputable def h_:=@PySem.wpAny_newList
noncomputable def ic:=@PySem.wpAny_newObj_type
noncomputable def ie:=@PySem.wpAny_rule
noncomputable def iL:=@Int.le_refl
noncomputable def iN:=@List.getElem?_append_right
noncomputable def iO:=@List.mem_filter
noncomputable def iP:=@List.mem_range
noncomputable def iQ:=@List.range_succ
noncomputable def iR:=@Option.map_eq_some_iff
noncomputable def iS:=@PyProof.Rows.get?_update_seq
noncomputable def iT:=@PySem.F.called_set
noncomputable def iU:=@beq_eq_false_iff_ne
noncomputable def jc:=@if_true
noncomputable def jy:=@List.getElem?_append_left
noncomputable def jz:=@List.getElem_mem
noncomputable def jA:=@List.getElem_of_mem
noncomputable def jB:=@List.map_congr_left
noncomputable def jC:=@List.zip_cons_cons
noncomputable def jG:=@PyProof.Rows.listItems_at
noncomputable def jH:=@PyProof.Rows.seqEpoch_at
noncomputable def jI:=@PySem.W.mg_of
noncomputable def jJ:=@PySem.wpAny_Call_Name_kw
noncomputable def jK:=@PySem.wpAny_passesOwn
noncomputable def kJ:=@Array.getElem?_toList
noncomputable def kK:=@Array.toList_push
noncomputable def kR:=@List.any_cons
noncomputable def kT:=@List.append_nil
noncomputable def kU:=@List.find?_cons
noncomputable def kW:=@List.length_range
noncomputable def kY:=@List.length_singleton
noncomputable def k0:=@Nat.lt_succ_self
noncomputable def k8:=@PyProof.Rows.callWith_type1
noncomputable def k9:=@PySem.Heap.SameBut.update
noncomputable def k_:=@PySem.Heap.get?_update_self
noncomputable def la:=@PySem.wpAny_call
noncomputable def lg:=@PySem.wpAny_fieldsOf
noncomputable def lh:=@PySem.wpAny_setState_of
noncomputable def mV:=@Array.toList_map
noncomputable def m6:=@Int.emod_nonneg
noncomputable def m8:=@Int.le_trans
noncomputable def m_:=@Int.not_lt
noncomputable def nj:=@List.forIn_cons
noncomputable def nq:=@List.getElem_map
noncomputable def nr:=@List.of_mem_zip
noncomputable def nz:=@Nat.le_of_eq
noncomputable def nA:=@Nat.le_succ
noncomputable def nB:=@Nat.lt_succ_of_lt
noncomputable def nE:=@PySem.F.slot_dict_keyiterator_next
noncomputable def nG:=@PySem.F.slot_list_append
noncomputable def nL:=@PySem.SeqAt.EqAt.same
noncomputable def nO:=@PySem.wpAny_isInstance
noncomputable def nQ:=@PySem.wpAny_newTuple
noncomputable def nS:=@PySem.wpAny_setEntries_of
noncomputable def oR:=@getElem?_pos
noncomputable def qK:=@Array.getElem?_eq_none
noncomputable def qL:=@Array.getElem_mem
noncomputable def qM:=@Array.mem_toList_iff
noncomputable def qN:=@Bool.false_and
noncomputable def qR:=@Int.emod_lt_of_pos
noncomputable def qS:=@Int.le_of_lt
noncomputable def qV:=@List.filterMap_cons
noncomputable def qW:=@List.filter_append
noncomputable def qX:=@List.forIn_nil
noncomputable def qY:=@List.getElem?_eq_none
noncomputable def qZ:=@List.getElem?_set_ne
noncomputable def q0:=@List.getElem?_zip_eq_some
noncomputable def q8:=@List.length_filter_le
noncomputable def q9:=@List.length_nil
noncomputable def q_:=@List.map_snd_zip
noncomputable def rg:=@List.take_add_one
noncomputable def rh:=@Nat.le_of_not_lt
noncomputable def rj:=@Nat.lt_of_le_of_lt
noncomputable def rn:=@Option.some.injEq
noncomputable def rq:=@PySem.Code.quiet_builtin
noncomputable def rA:=@PySem.F.slot_bool_hash
noncomputable def rB:=@PySem.F.slot_list_extend
noncomputable def rC:=@PySem.F.slot_tuple_iterator_next
noncomputable def rD:=@PySem.F.slot_zip_next
noncomputable def rE:=@PySem.F.type_list_append
noncomputable def rF:=@PySem.Heap.get?_update_other
noncomputable def rG:=@PySem.Obj.data_mapFields
noncomputable def rH:=@PySem.SeqAt.EqAt.int_int
noncomputable def rJ:=@PySem.SeqAt.EqAt.of_refs
noncomputable def rK:=@PySem.isSubtype_stop
noncomputable def rL:=@PySem.plainId_quiet
noncomputable def rM:=@PySem.wpAny_execs_nil
noncomputable def rN:=@PySem.wpAny_letGo
noncomputable def rO:=@PySem.wpAny_of_eq
noncomputable def rP:=@PySem.wpAny_onRaise
noncomputable def rQ:=@PySem.wpAny_pyIter_list
noncomputable def rR:=@PySem.wpAny_runValue
noncomputable def rS:=@PySem.wpAny_setField
noncomputable def rT:=@PySem.wpAny_typeNameOfWhole_keyiter
noncomputable def sf:=@bne_self_eq_false
noncomputable def vJ:=@Bool.true_and
noncomputable def vO:=@List.all_cons
noncomputable def vP:=@List.cons.injEq
noncomputable def vQ:=@List.eraseIdx_cons_succ
noncomputable def vR:=@List.foldl_append
noncomputable def vS:=@List.getElem?_range
noncomputable def vT:=@List.getElem?_set_self
noncomputable def vU:=@List.getElem_range
noncomputable def vV:=@List.isPerm_iff
noncomputable def vW:=@List.length_eq_zero_iff
noncomputable def vX:=@List.length_set
noncomputable def vY:=@List.length_take
noncomputable def vZ:=@List.length_zip
noncomputable def v7:=@List.nodup_append
noncomputable def v8:=@List.pairwise_iff_getElem
noncomputable def v9:=@List.perm_middle
noncomputable def wa:=@List.take_length
noncomputable def wc:=@List.zipIdx_cons
noncomputable def wg:=@List.zipIdx_nil
noncomputable def wj:=@Nat.lt_trans
noncomputable def wk:=@Option.map_some
noncomputable def wo:=@PyProof.Rows.F.plain_set_update_loop
noncomputable def wq:=@PyProof.Rows.call_function_entry_kw
noncomputable def wt:=@PyProof.Rows.entry_proto_collect'
noncomputable def wu:=@PyProof.Rows.wpAny_call_entry_kw
noncomputable def wx:=@PySem.Around.under_plainId
noncomputable def wy:=@PySem.Calls.callWith_builtin
noncomputable def wz:=@PySem.F.slot_dict_get
noncomputable def wA:=@PySem.F.type_list_extend
noncomputable def wB:=@PySem.SeqAt.EqAt.bool_bool
noncomputable def wC:=@PySem.Value.isInt_shape
noncomputable def wD:=@PySem.W.callWith_K
noncomputable def wF:=@PySem.W.cellsFrom_some
noncomputable def wG:=@PySem.tupleKind_room_in1
noncomputable def wH:=@PySem.wpAny_askSetting
noncomputable def wI:=@PySem.wpAny_dictEntries
noncomputable def wJ:=@PySem.wpAny_dictEpoch
noncomputable def wK:=@PySem.wpAny_ite_split
noncomputable def wL:=@PySem.wpAny_pyIter_slot
noncomputable def wM:=@PySem.wpAny_specialOf
noncomputable def wN:=@PySem.wpAny_updateSeq_pair
noncomputable def DG:=@Array.mem_iff_getElem
noncomputable def DK:=@Array.perm_iff_toList_perm
noncomputable def DR:=@Int.fdiv_eq_ediv_of_nonneg
noncomputable def DX:=@List.eq_nil_of_length_eq_zero
noncomputable def DY:=@List.filter_eq_nil_iff
noncomputable def D_:=@List.findIdx?_eq_none_iff
noncomputable def D':=@List.getElem?_cons_zero
noncomputable def Ea:=@List.getElem?_replicate
noncomputable def Eb:=@List.getElem?_take_of_lt
noncomputable def Ec:=@List.length_eraseIdx_of_lt
noncomputable def Ed:=@List.length_replicate
noncomputable def Ee:=@List.mem_or_eq_of_mem_set
noncomputable def Ef:=@List.pairwise_lt_range
noncomputable def Eg:=@List.pairwise_singleton
noncomputable def Eh:=@List.perm_append_singleton
noncomputable def Ei:=@List.take_of_length_le
noncomputable def Ek:=@PySem.F.args_dict_get_2
noncomputable def El:=@PySem.F.args_dict_keyiterator_next_1
noncomputable def Em:=@PySem.F.args_tuple_iterator_next_1
noncomputable def En:=@PySem.F.entry_dict_get
noncomputable def Eo:=@PySem.F.entry_dict_keyiterator_next
noncomputable def Ep:=@PySem.F.entry_tuple_iterator_next

set_option genSizeOf false
namespace L2
open PySem PySem.Spec PyProof.Rows
abbrev Key:=Sum Int Str
noncomputable def j7:Int->Value->Bool
 |k,.bool b=>k==(if b then 1 else 0)
 |_,_=>false
noncomputable def iA:Key->Value->Bool
 |.inl k,v=>Value.isInt k v||j7 k v
 |.inr x,v=>Value.isStrOf x v
noncomputable def Jh(w:World):Key->Int
 |.inl k=>hashInt k
 |.inr x=>hashStr w x
theorem Iz{k:Int}{v:Value}(h:j7 k v=true):∃b:Bool,k=(if b then 1 else 0)/\v=Value.bool b:=by
 cases v with
 |bool b=>exact⟨b,by simpa[j7]using h,rfl⟩
 |_=>simp[j7]at h
theorem fb:∀{k:Key} {v:Value},iA k v=true->(∃i t,k=Sum.inl i/\v=Value.int i t)\/(∃x t,k=Sum.inr x/\v=Value.str x t)\/(∃b:Bool,k=Sum.inl (if b then 1 else 0)/\v=Value.bool b)
 |.inl i,v,h=>by
  rcases(gX _ _).mp (show(Value.isInt i v||j7 i v)=true from h)with h|h
  ·obtain⟨t,e⟩:=wC (k:=i) (v:=v) h
   exact .inl ⟨i,t,rfl,e⟩
  ·obtain⟨b,e,e'⟩:=Iz h
   exact .inr (.inr ⟨b,by rw[e],e'⟩)
 |.inr x,v,h=>by
  obtain⟨t,e⟩:=Value.isStrOf_shape (x:=x) (v:=v) h;exact .inr (.inl ⟨x,t,rfl,e⟩)
theorem Jj(i:Int)(t:Tok):iA (.inl i) (.int i t)=true:=by simp[iA,Value.isInt]
theorem Jk(x:Str)(t:Tok):iA (.inr x) (.str x t)=true:=by simp[iA,Value.isStrOf]
theorem Ji(b:Bool):iA (.inl (if b then 1 else 0)) (.bool b)=true:=by cases b<;>simp[iA,j7]
theorem Hx{prog:Program}{w:World}{A:Around}{E:Value->Shared->Prop}{s:Shared}{b:Bool}{Q:Int->Shared->Prop}(h:Q (hashInt (if b then 1 else 0)) {s with toks:=s.toks+1}):
  wpAny (model prog w) A (pyHash (.bool b)) Q E s:=by
 have hr:=rawHash_range (if b then 1 else 0);have hT:s.TypeIs (.bool b) "bool" :=rfl;unfold pyHash;have hv:[Value.bool b].any Value.onHeap=false:=rfl;refine ae ?_;rw[cRoomFor,if_neg (by rw[hv];exact Bool.false_ne_true)];refine ah ?_;refine ae (wM hT rA.lookup ?_);show wpAny _ _ (if(some (Value.builtin "int.__hash__")==some Value.none)=true then _ else _) Q E s;rw[if_neg (by rw[beq_builtin_none];exact Bool.false_ne_true)];refine ae (wM hT rA.lookup ?_);show wpAny _ _ (callSpecialIfBoundUnlessNone? (.bool b) "__hash__" _>>=_) Q E s;refine ae (wpAny_callSpecialIfBoundUnlessNone?_slot hT rA
  (dX rA hT entry_int_hash
   (show wpAny _ _ (do ret (<- mkInt (rawHash (if b then 1 else 0)))) _ _ s from wpAny_ret_mkInt ?_) (args_int_hash _)))
 show wpAny _ _ (if(decide (-(2:Int) ^ 63<=rawHash (if b then 1 else 0))&&decide (rawHash (if b then 1 else 0)<2 ^ 63))=true then _ else _) Q E _;rw[if_pos (by rw[b9 hr.1,b9 hr.2];rfl)];exact ah h
theorem oZ(a b:Int):decide ((Sum.inl a:Key)=Sum.inl b)=(a==b):=by
 by_cases e:a=b
 ·subst e;simp
 ·have h:¬ (Sum.inl a:Key)=Sum.inl b:=λq=>e (Sum.inl.inj q)
  rw[cZ h];exact(iU.mpr e).symm
theorem Jn(a b:Str):decide ((Sum.inr a:Key)=Sum.inr b)=decide (a=b):=by
 by_cases e:a=b
 ·subst e;simp
 ·have h:¬ (Sum.inr a:Key)=Sum.inr b:=λq=>e (Sum.inr.inj q)
  rw[cZ h,cZ e]
theorem yS(a:Int)(b:Str):decide ((Sum.inl a:Key)=Sum.inr b)=false:=cZ (λq=>nomatch q)
theorem yT(a:Str)(b:Int):decide ((Sum.inr a:Key)=Sum.inl b)=false:=cZ (λq=>nomatch q)
noncomputable def cw(prog:Program)(w:World):PySem.KeyKind prog w Key where
 is:=iA
 hash:=Jh w
 inj:=λv a b ha hb=>by
  rcases fb ha with⟨i,t,rfl,rfl⟩|⟨x,t,rfl,rfl⟩|⟨x,rfl,rfl⟩
  ·rcases fb hb with⟨j,u,rfl,e⟩|⟨y,u,rfl,e⟩|⟨y,rfl,e⟩
   ·injection e with e1 _;rw[e1]
   ·exact nomatch e
   ·exact nomatch e
  ·rcases fb hb with⟨j,u,rfl,e⟩|⟨y,u,rfl,e⟩|⟨y,rfl,e⟩
   ·exact nomatch e
   ·injection e with e1 _;rw[e1]
   ·exact nomatch e
  ·rcases fb hb with⟨j,u,rfl,e⟩|⟨y,u,rfl,e⟩|⟨y,rfl,e⟩
   ·exact nomatch e
   ·exact nomatch e
   ·injection e with e1;rw[e1]
 byValue:=λk v h=>by
  rcases fb h with⟨i,t,rfl,rfl⟩|⟨x,t,rfl,rfl⟩|⟨x,rfl,rfl⟩<;>rfl
 pyHash:=λhv h=>by
  rcases fb hv with⟨i,t,rfl,rfl⟩|⟨x,t,rfl,rfl⟩|⟨x,rfl,rfl⟩
  ·exact wpAny_pyHash_int h
  ·exact wpAny_pyHash_str h
  ·exact Hx h
 eqBool:=λhu hv h=>by
  rcases fb hu with⟨i,t,rfl,rfl⟩|⟨x,t,rfl,rfl⟩|⟨x,rfl,rfl⟩
  ·rcases fb hv with⟨j,u,rfl,rfl⟩|⟨y,u,rfl,rfl⟩|⟨y,rfl,rfl⟩
   ·rw[oZ]at h;exact wpAny_eqBool_int h
   ·rw[yS]at h;exact SeqAt.EqAt.int_str i t y u _ _ _ _ h
   ·rw[oZ]at h;exact SeqAt.EqAt.int_bool i t y _ _ _ _ h
  ·rcases fb hv with⟨j,u,rfl,rfl⟩|⟨y,u,rfl,rfl⟩|⟨y,rfl,rfl⟩
   ·rw[yT]at h;exact SeqAt.EqAt.str_int x t j u _ _ _ _ h
   ·rw[Jn]at h;exact wpAny_eqBool_str h
   ·rw[yT]at h;exact SeqAt.EqAt.str_bool x t y _ _ _ _ h
  ·rcases fb hv with⟨j,u,rfl,rfl⟩|⟨y,u,rfl,rfl⟩|⟨y,rfl,rfl⟩
   ·rw[oZ]at h;exact SeqAt.EqAt.bool_int x j u _ _ _ _ h
   ·rw[yS]at h;exact SeqAt.EqAt.bool_str x y u _ _ _ _ h
   ·rw[oZ]at h
    have e:((if x then(1:Int)else 0)==(if y then(1:Int)else 0))=(x==y):=by cases x<;>cases y<;>rfl
    rw[e]at h;exact wB x y _ _ _ _ h
 «strs»:=λk x t v h=>by
  rcases fb h with⟨i,u,rfl,e⟩|⟨y,u,rfl,e⟩|⟨y,rfl,e⟩
  ·exact nomatch e
  ·injection e with e1 _
   subst e1;cases v<;>rfl
  ·exact nomatch e
theorem J6(prog:Program)(w:World)(i:Int)(t:Tok):(cw prog w).is (.inl i) (.int i t)=true:=Jj i t
theorem J7(prog:Program)(w:World)(x:Str)(t:Tok):(cw prog w).is (.inr x) (.str x t)=true:=Jk x t
inductive V where
 |non|bl (b:Bool)|int (i:Int)|str (x:Str)|eO (b:Array UInt8)|flt (b:UInt64)|ref (a:Addr)|ty (n:String)
 deriving DecidableEq
noncomputable def RelV:V->Value->Prop
 |.non,u=>u=Value.none
 |.bl b,u=>u=Value.bool b
 |.int i,u=>∃t,u=Value.int i t
 |.str x,u=>∃t,u=Value.str x t
 |.eO b,u=>∃t,u=Value.bytes b t
 |.flt b,u=>∃t,u=Value.float b t
 |.ref a,u=>u=Value.ref a
 |.ty n,u=>u=Value.type n
abbrev Vals:List V->List Value->Prop:=Paired RelV
theorem Vals.length{xs:List V}{us:List Value}(r:Vals xs us):xs.length=us.length:=bS r
theorem Vals.get:∀{xs:List V} {us:List Value} {i:Nat} {x:V},Vals xs us->xs[i]?=some x->∃u,us[i]?=some u/\RelV x u
 |_,_,_,_,.nil,e=>by simp at e
 |_,_,0,_,.cons r _,e=>by simp at e;subst e;exact⟨_,rfl,r⟩
 |_,_,i+1,x,.cons _ t,e=>by
  obtain⟨u,h1,h2⟩:=Vals.get (i:=i) (x:=x) t (by simpa using e);exact⟨u,by simpa using h1,h2⟩
theorem Vals.set{x:V}{u:Value}(r:RelV x u):∀{xs:List V} {us:List Value} (i:Nat),Vals xs us->Vals (xs.set i x) (us.set i u)
 |_,_,_,.nil=>.nil
 |_,_,0,.cons _ t=>.cons r t
 |_,_,i+1,.cons q t=>.cons q (Vals.set r i t)
theorem Vals.append:∀{xs ys:List V} {us ws:List Value},Vals xs us->Vals ys ws->Vals (xs++ys) (us++ws)
 |_,_,_,_,.nil,s=>s
 |_,_,_,_,.cons r t,s=>.cons r (Vals.append t s)
noncomputable def d0:Option V->Option Value->Prop
 |some v,some u=>RelV v u
 |none,none=>True
 |_,_=>False
noncomputable def KV{κ:Type}:List (κ × V)->List (κ × Value)->Prop:=Paired λ(p:κ × V) (q:κ × Value)=>p.1=q.1/\RelV p.2 q.2
noncomputable def kV:Key->V
 |.inl i=>.int i
 |.inr x=>.str x
inductive HO where
 |lst (xs:List V)
 |tup (xs:List V)
 |dK (kvs:List (Key × V))|dT (kvs:List (List Key × V))
 |set (S:Int->Bool) (n:Nat)
 |ins (C dx:Addr) (fs:List (Str × V))
 |own (x:Addr)
 |xd (fs:List (Str × V))
 |met (f x:Addr)
 |rng (lo hi:Int)
 |bU (o:Obj) (u:HO)
 |jq (ps:Array Value)
 |lam (pos:Pos) (qual:Str)
 |ext (φ:Heap->Prop)
noncomputable def yN(k:Key)(v:V):Prop:=v=kV k\/∃b:Bool,v = .bl b/\k = .inl (if b then 1 else 0)
abbrev oY:List Key->List V->Prop:=Paired yN
noncomputable def f6(H:Addr->Option HO)(b:Addr)(ks:List Key):Prop:=∃ws,oY ks ws/\H b=some (.tup ws)
abbrev Hp:=Addr->Option HO
noncomputable def upd(H:Hp)(a:Addr)(o:HO):Hp:=λb=>if b=a then some o else H b
theorem av{H:Hp}{a:Addr}{o:HO}:upd H a o a=some o:=by unfold upd;rw[if_pos rfl]
theorem aA{H:Hp}{a b:Addr}{o:HO}(h:b≠a):upd H a o b=H b:=by unfold upd;rw[if_neg h]
theorem vB{H:Hp}{a:Addr}{o u:HO}:upd (upd H a o) a u=upd H a u:=by
 funext b;unfold upd;split<;>rfl
theorem gF{H:Hp}{a b:Addr}{o u:HO}(h:H a=some o)(h':H b=some u)(d:o≠u):a≠b:=by
 intro e;subst e;rw[h]at h';exact d (dC h')
theorem b_{H:Hp}{a b:Addr}{o:HO}(h:H a=some o)(h':H b=none):a≠b:=by
 intro e;subst e;rw[h]at h';cases h'
section
variable (P:Program) (w:World)
noncomputable def aK(H:Hp)(h:Heap)(a:Addr):HO->Prop
 |.lst xs=>xs.length<=sizeLine/\∃(its:List Value) (n:Nat),Vals xs its/\h.get? a=some {cls:=.type "list", data:=.seq its.toArray n}
 |.tup xs=>xs.length<=sizeLine/\∃its:List Value,Vals xs its/\IsTup h a its.toArray/\∃o,h.get? a=some o/\o.dict=none
 |.dK kvs=>kvs.length<=sizeLine/\(a==sysModules)=false/\∃vs,KV kvs vs/\h.DictOf (cw P w) a vs
 |.dT kvs=>kvs.length<=sizeLine/\(a==sysModules)=false/\∃xs:List (List Key × Addr × Value),
   Paired (λ(p:List Key × V) (q:List Key × Addr × Value)=>p.1=q.1/\f6 H q.2.1 p.1/\RelV p.2 q.2.2) kvs xs /\
   ∃o es ep,h.get? a=some o/\o.ExactDict/\o.data = .dict es ep/\es.toList=xs.map (entryOfKey (tupleKind (cw P w)))/\(xs.map (·.1)).Nodup
 |.set S n=>h.SetOf (intKind P w) a S n
 |.ins C dx fs=>H dx=some (.own a)/\fs.length<=1000/\dx≠a/\h.get? a=some (W.instObj C dx) /\
   ∃mA,h.Ns1 dx mA/\(∀f,d0 (fs.lookup f) (mA f))/\PySem.Within mA (fs.map (·.1))
 |.own _=>∃o,h.get? a=some o
 |.xd fs=>∃mA,h.Ns1 a mA/\∀f,d0 (fs.lookup f) (mA f)
 |.rng lo hi=>∃t u v,h.get? a=some {cls:=.type "range", data:=.fields #[.int lo t,.int hi u,.int 1 v]}
 |.bU o u=>h.get? a=some o/\aK H h a u
 |.jq ps=>h.get? a=some {cls:=.none,data:=.fields ps}
 |.lam pos qual=>∃ps,h.get? a=some {cls:=.none,data:=.fields ps}/\TriplesOk ps.toList/\∀cv,codeAmong pos ps.toList=some cv->∃c o u vs t,cv = .ref c/\H c=some (.bU o u)/\o.data = .fields vs/\vs[1]?=some (.str qual t)
 |.met f x=>h.get? a=some (W.methodObj (.ref f) (.ref x))
 |.ext φ=>φ h/\(∃o,h.get? a=some o)/\∀h1 h2:Heap,φ h1->(∀o,h1.get? a=some o->h2.get? a=some o)->φ h2
noncomputable def aZ(H:Hp)(h:Heap):Prop:=∀a o,H a=some o->aK P w H h a o
end
section
variable {P:Program} {w:World} {H H':Hp} {h h':Heap} {a:Addr} {o:HO}
theorem aK.lt(x:aK P w H h a o):a<h.objs.size:=by
 cases o with
 |lst xs=>obtain⟨_,_,_,_,e⟩:=x;exact aG e
 |tup xs=>obtain⟨_,_,_,p,_⟩:=x;exact p.lt
 |dK kvs=>obtain⟨_,_,_,_,o,_,_,e,_⟩:=x;exact aG e
 |dT kvs=>obtain⟨_,_,_,_,o,_,_,e,_⟩:=x;exact aG e
 |set S n=>obtain⟨o,_,_,_,e,_⟩:=x;exact aG e
 |ins C dx fs=>obtain⟨_,_,_,e,_⟩:=x;exact aG e
 |own y=>obtain⟨_,e⟩:=x;exact aG e
 |xd fs=>obtain⟨_,⟨_,_,_,e,_⟩,_⟩:=x;exact aG e
 |rng lo hi=>obtain⟨_,_,_,e⟩:=x;exact aG e
 |bU ob u=>obtain⟨e,_⟩:=x;exact aG e
 |jq ps=>exact aG (show h.get? a=some _ from x)
 |lam pos qual=>obtain⟨_,e,_⟩:=x;exact aG e
 |met f y=>exact aG (show h.get? a=some _ from x)
 |ext φ=>obtain⟨_,⟨_,e⟩,_⟩:=x;exact aG e
theorem Paired.bL{α β:Type}{F G:α->β->Prop}:∀{l₁:List α} {l₂:List β},Paired F l₁ l₂->(∀a b,F a b->G a b)->Paired G l₁ l₂
 |_,_,.nil,_=>.nil
 |_,_,.cons r t,f=>.cons (f _ _ r) (Paired.bL t f)
theorem aK.stay(x:aK P w H h a o)(k:∀b u,(b=a\/H b=some (.own a))->h.get? b=some u->h'.get? b=some u)(ho:∀b,H b=some (.own a)->H' b=some (.own a))(ht:∀b xs,H b=some (.tup xs)->H' b=some (.tup xs))(hz:∀b ob u,H b=some (.bU ob u)->H' b=some (.bU ob u)):aK P w H' h' a o:=by
 induction o with
 |lst xs=>obtain⟨z,its,n,r,e⟩:=x;exact⟨z,its,n,r,k _ _ (.inl rfl) e⟩
 |tup xs=>obtain⟨z,its,r,⟨ob,e,c⟩,od,e2,d⟩:=x;exact⟨z,its,r,⟨ob,k _ _ (.inl rfl) e,c⟩,od,k _ _ (.inl rfl) e2,d⟩
 |dK kvs=>obtain⟨z,y,vs,r,ob,es,ep,e,c⟩:=x;exact⟨z,y,vs,r,ob,es,ep,k _ _ (.inl rfl) e,c⟩
 |dT kvs =>
  obtain⟨z,y,xs,r,ob,es,ep,e,c⟩:=x;exact⟨z,y,xs,Paired.bL r λp q z=>⟨z.1,(let⟨ws,k1,k2⟩:=z.2.1;⟨ws,k1,ht _ _ k2⟩),z.2.2⟩,ob,es,ep,k _ _ (.inl rfl) e,c⟩
 |set S n=>obtain⟨ob,es,ep,t,e,c⟩:=x;exact⟨ob,es,ep,t,k _ _ (.inl rfl) e,c⟩
 |ins C dx fs =>
  obtain⟨d,z,ne,e,mA,⟨od,es,ep,e2,c⟩,r⟩:=x;exact⟨ho _ d,z,ne,k _ _ (.inl rfl) e,mA,⟨od,es,ep,k _ _ (.inr d) e2,c⟩,r⟩
 |own y=>obtain⟨ob,e⟩:=x;exact⟨ob,k _ _ (.inl rfl) e⟩
 |xd fs=>obtain⟨mA,⟨od,es,ep,e,c⟩,r⟩:=x;exact⟨mA,⟨od,es,ep,k _ _ (.inl rfl) e,c⟩,r⟩
 |rng lo hi=>obtain⟨t,u,v,e⟩:=x;exact⟨t,u,v,k _ _ (.inl rfl) e⟩
 |bU ob u ih=>obtain⟨e,q⟩:=x;exact⟨k _ _ (.inl rfl) e,ih q⟩
 |jq ps =>
  have e:h.get? a=some {cls:=.none,data:=.fields ps}:=x;show h'.get? a=some {cls:=.none,data:=.fields ps};exact k a _ (.inl rfl) e
 |lam pos qual=>obtain⟨ps,e,t,q⟩:=x;exact⟨ps,k _ _ (.inl rfl) e,t,λcv z=>let⟨c,o,u,vs,t,q1,q2,q3⟩:=q cv z;⟨c,o,u,vs,t,q1,hz _ _ _ q2,q3⟩⟩
 |met f y =>
  have e:h.get? a=some (W.methodObj (.ref f) (.ref y)):=x;show h'.get? a=some (W.methodObj (.ref f) (.ref y));exact k a _ (.inl rfl) e
 |ext φ=>obtain⟨p,⟨o,e⟩,st⟩:=x;exact⟨st _ _ p λo q=>k _ _ (.inl rfl) q,⟨o,k _ _ (.inl rfl) e⟩,st⟩
theorem aZ.lt(x:aZ P w H h)(e:H a=some o):a<h.objs.size:=(x a o e).lt
theorem aZ.fresh(x:aZ P w H h)(e:h.objs.size<=a):H a=none:=by
 cases q:H a with
 |none=>rfl
 |some u=>exact absurd (cq (x.lt q) e) (eJ _)
theorem aZ.kept(x:aZ P w H h)(k:∀b u,h.get? b=some u->h'.get? b=some u):aZ P w H h':=λa o e =>
 (x a o e).stay (λb u _ q=>k b u q) (λ_ q=>q) (λ_ _ q=>q) λ_ _ _ q=>q
theorem aZ.laid(x:aZ P w H h)(k:∀b u,h.get? b=some u->h'.get? b=some u)(hp:h.objs.size<=a)(new:aK P w (upd H a o) h' a o):aZ P w (upd H a o) h':=λb u e=>by
 have hn:=x.fresh hp
 by_cases hb:b=a
 ·subst hb;rw[av]at e;cases e;exact new
 ·rw[aA hb]at e
  exact(x b u e).stay (λc v _ q=>k c v q) (λc q=>by rw[aA (b_ q hn)];exact q) (λc xs q=>by rw[aA (b_ q hn)];exact q) λc ob u q=>by rw[aA (b_ q hn)];exact q
end
noncomputable def Rd(H:Hp)(a:Addr)(u:HO):Prop:=H a=some u\/∃o,H a=some (.bU o u)
theorem Rd.ok{P:Program}{w:World}{H:Hp}{h:Heap}{a:Addr}{u:HO}(r:Rd H a u)(x:aZ P w H h):aK P w H h a u:=by
 rcases r with r|⟨o,r⟩
 ·exact x a u r
 ·obtain⟨_,q⟩:=x a _ r
  exact q
noncomputable def kZ:Option HO->Prop
 |some (.lst _)=>True
 |some (.dK _)=>True
 |some (.dT _)=>True
 |some (.set _ _)=>True
 |some (.ins _ _ _)=>True
 |some (.ext _)=>True
 |some (.lam _ _)=>True
 |_=>False
section
variable {P:Program} {w:World} {H:Hp} {h h':Heap} {x e:Addr} {o':HO}
theorem aZ.write(ok:aZ P w H h)(mu:kZ (H x))(he:e=x\/H e=some (.own x))(k:∀b u,b≠e->h.get? b=some u->h'.get? b=some u)(heo:∃u,h'.get? e=some u)
  (new:aK P w (upd H x o') h' x o'):aZ P w (upd H x o') h':=λb u q=>by
 have zK:∀c y,H c=some (.own y)->c≠x:=λc y r z=>by subst z;rw[r]at mu;exact mu
 have Kn:∀c xs,H c=some (.tup xs)->c≠x:=λc xs r z=>by subst z;rw[r]at mu;exact mu
 have Ke:∀c ob u,H c=some (.bU ob u)->c≠x:=λc ob u r z=>by subst z;rw[r]at mu;exact mu
 by_cases hb:b=x
 ·subst hb;rw[av]at q;cases q;exact new
 ·rw[aA hb]at q
  by_cases hbe:b=e
  ·have q':H b=some (.own x):=by
    rcases he with z|z
    ·exact absurd (hbe.trans z) hb
    ·rw[hbe];exact z
   rw[q]at q';cases q';obtain⟨v,hv⟩:=heo;exact⟨v,by rw[hbe];exact hv⟩
  ·refine(ok b u q).stay (λc v hc r=>k c v ?_ r) (λc r=>by rw[aA (zK c b r)];exact r) (λc xs r=>by rw[aA (Kn c xs r)];exact r) λc ob u r=>by rw[aA (Ke c ob u r)];exact r
   rcases hc with rfl|hc
   ·exact hbe
   ·rintro rfl
    rcases he with z|z
    ·exact zK c b hc z
    ·rw[hc]at z;cases z;exact hb rfl
end
structure Un (fs ex:List Addr) (H H':Hp) (h h':Heap):Prop where
 keep:∀b o,h.get? b=some o->H b=none->b ∉ fs->b ∉ ex->h'.get? b=some o
 slot:∀b o,h.get? b=some o->H b=none->b∈fs->b ∉ ex->∃sl,h'.get? b=some {o with slots:=sl}
 free:∀b o,h.get? b=some o->H b=none->b ∉ ex->H' b=none
 there:∀b o,h.get? b=some o->b ∉ ex->∃o',h'.get? b=some o'
 tups:∀b xs,H b=some (.tup xs)->H' b=some (.tup xs)
 gs:∀b o u,H b=some (.bU o u)->H' b=some (.bU o u)
 iI:∀b ps,H b=some (.jq ps)->∃more,H' b=some (.jq (ps++more))
section
variable {fs fs' ex ex':List Addr} {H H1 H2:Hp} {h h1 h2 h':Heap} {a x e:Addr} {o:HO}
theorem Un.any(u:Un fs ex H H1 h h1){b:Addr}{ob:Obj}(q:h.get? b=some ob)(n:H b=none)(hx:b ∉ ex):∃sl,h1.get? b=some {ob with slots:=sl}:=by
 by_cases hb:b∈fs
 ·exact u.slot b ob q n hb hx
 ·exact⟨ob.slots,u.keep b ob q n hb hx⟩
theorem Un.kept(k:∀b u,h.get? b=some u->h'.get? b=some u):Un fs ex H H h h':=
 ⟨λb ob q _ _ _=>k b ob q,λb ob q _ _ _=>⟨ob.slots,k b ob q⟩,λ_ _ _ n _=>n,λb ob q _=>⟨ob,k b ob q⟩,λ_ _ q=>q,λ_ _ _ q=>q,λ_ ps q=>⟨#[],by rw[q];simp⟩⟩
theorem Un.refl:Un fs ex H H h h:=Un.kept λ_ _ q=>q
theorem Un.laid(k:∀b u,h.get? b=some u->h'.get? b=some u)(hp:h.objs.size<=a)(hn:H a=none):Un fs ex H (upd H a o) h h' where
 keep:=λb u q _ _ _=>k b u q
 slot:=λb u q _ _ _=>⟨u.slots,k b u q⟩
 free:=λb u q n _=>by rw[aA (aP (cq (aG q) hp))];exact n
 there:=λb u q _=>⟨u,k b u q⟩
 tups:=λb xs q=>by rw[aA (b_ q hn)];exact q
 gs:=λb u xs q=>by rw[aA (b_ q hn)];exact q
 iI:=λb ps q=>⟨#[],by rw[aA (b_ q hn),q];simp⟩
theorem Un.write(mu:kZ (H x))(he:e=x\/H e=some (.own x))(k:∀b u,b≠e->h.get? b=some u->h'.get? b=some u)(heo:∃u,h'.get? e=some u):Un fs ex H (upd H x o) h h':=by
 have hx:∀b,H b=none->b≠x:=λb n z=>by subst z;rw[n]at mu;exact mu
 have hb:∀b,H b=none->b≠e:=λb n z=>by
  subst z
  rcases he with r|r
  ·exact hx b n r
  ·rw[n]at r;cases r
 have hm:∀b u,H b=some u->¬ kZ (some u)->b≠x:=λb u q nm z=>by subst z;rw[q]at mu;exact nm mu
 refine⟨λb u q n _ _=>k b u (hb b n) q,λb u q n _ _=>⟨u.slots,k b u (hb b n) q⟩,λb u q n _=>by rw[aA (hx b n)];exact n,λb u q _=>?_,
  λb xs q=>by rw[aA (hm b _ q λz=>z)];exact q,λb u xs q=>by rw[aA (hm b _ q λz=>z)];exact q,λb ps q=>⟨#[],by rw[aA (hm b _ q λz=>z),q];simp⟩⟩
 by_cases hbe:b=e
 ·subst hbe;exact heo
 ·exact⟨u,k b u hbe q⟩
end
noncomputable def qB(h:Heap)(H:Hp):List Addr:=(List.range h.objs.size).filter λa=>(H a).isSome
noncomputable def fK(h:Heap)(H:Hp):Heap:=W.hideAll h (qB h H)
theorem HB(h:Heap)(H:Hp):(fK h H).objs.size=h.objs.size:=W.hideAll_size _ _
theorem Hz{h:Heap}{H:Hp}{b:Addr}{o:Obj}(e:h.get? b=some o)(n:H b=none):(fK h H).get? b=some o:=
 W.hideAll_get _ e λhm=>by
  have q:(H b).isSome=true:=(iO.mp hm).2;rw[n]at q;simp at q
theorem Ko{h:Heap}{H:Hp}{b:Addr}{o:Obj}(e:(fK h H).get? b=some o):h.get? b=some o/\H b=none:=by
 have e':h.get? b=some o:=W.of_hideAll (qB h H) e;refine⟨e',?_⟩;cases q:H b with
 |none=>rfl
 |some x =>
  have hm:b∈qB h H:=iO.mpr ⟨iP.mpr (aG e'),by simp[q]⟩;have z:(fK h H).get? b=none:=W.hideAll_none (qB h H) hm;rw[z]at e;cases e
noncomputable def Et(g h:Heap)(L:Addr):List (Addr × Obj):=(List.range h.objs.size).filterMap λa=>if a=L\/(g.get? a).isSome=true then none else(h.get? a).map λo=>(a,o)
noncomputable def rest(g h:Heap)(L d:Addr):List (Addr × Obj):=(Et g h L).filter λp=>decide (p.1≠d)
structure Mod (K:W.Frag) (mg:Str->Option Value) (base:Heap):Prop where
 j9:K.In base
 glob:base.Ns mainGlobals mg
 blt:∃mb,base.Ns builtinsNs mb/\∀x:Str,x ≠ "__name__" -> mb x=bootBuiltins x
 nolimit:base.NoLimit
structure Cx where
 prog:Program
 w:World
 K:W.Frag
 mg:Str->Option Value
 base:Heap
 A:Around
 N:List Str
 s₀:Shared
 H₀:Hp
 env:Env
 outer:List Env
 stack:List Env
 ex:List Addr
 fn:Str->Bool
 calm:Bool
 pn:List (Addr × Obj)
 xe:Value->Shared->Prop
noncomputable def frs(l:List Env):List Addr:=l.filterMap (·.frame)
abbrev Cx.fs (X:Cx):List Addr:=frs X.outer
noncomputable def nX(sc:Scope)(x:Str):Prop:=sc.names.lookup x=some .local\/sc.names.lookup x=some .cell\/sc.names.lookup x=some .free
noncomputable def Loc(sc:Scope)(x:Str):Prop:=sc.names.lookup x=some .local\/sc.names.lookup x=some .cell
noncomputable def Look(env:Env)(h:Heap)(m:Str->Option Value)(x:Str)(u:Value):Prop:=
 (env.kindOf x=some .local/\m x=some u)\/((env.kindOf x=some .cell\/env.kindOf x=some .free)/\∃c,env.cells.lookup x=some c/\h.IsCell c (some u))
structure Cx.Ok (X:Cx):Prop where
 mod:Mod X.K X.mg X.base
 kind:X.env.scope.kind = .function
 glob:X.env.globals=mainGlobals
 blt:X.env.builtins=builtinsNs
 above:X.s₀.heap.objs.size<=X.env.locals
 inj:∀x y c,X.env.cells.lookup x=some c->X.env.cells.lookup y=some c->x=y
 has:∀x,(X.env.kindOf x=some .cell\/X.env.kindOf x=some .free)->∃c,X.env.cells.lookup x=some c
 cab:∀x c,X.fn x=true->X.env.cells.lookup x=some c->X.s₀.heap.objs.size<=c
 hd:X.calm=true->X.A.handled=none
 frames:X.A.frames=some X.stack
 stk:X.stack=X.outer\/(X.stack=X.env::X.outer/\X.env.frame=some X.env.locals)
 ow:∀b∈X.ex,b≠X.env.locals/\∀x c,X.env.cells.lookup x=some c->c≠b
 bs:∀b o,X.base.get? b=some o->X.s₀.heap.get? b=some o/\X.H₀ b=none
 d5:X.base.objs.size<=X.s₀.heap.objs.size
 jh:∀b o,X.base.get? b=some o->b ∉ X.ex
 jV:∀b∈X.ex,b ∉ X.fs
 dh:X.s₀.heap.FunFrames X.base X.outer
 fJ:∀b∈X.fs,X.H₀ b=none
structure Inv (X:Cx) (pins:List (Addr × Obj)) (σ:List (Option V)) (H:Hp) (s:Shared):Prop where
 ok:X.Ok
 os:s.os=X.s₀.os
 bare:AllBare s.gens
 base:Un X.fs X.ex X.H₀ H X.s₀.heap s.heap
 loc:∃m,s.heap.Ns X.env.locals m/\∀(i:Nat) (x:Str) (v:V),X.N[i]?=some x->σ[i]?=some (some v)->nX X.env.scope x->∃u,RelV v u/\Look X.env s.heap m x u
 cell:∀x c,X.env.cells.lookup x=some c->∃v,s.heap.IsCell c v
 free:H X.env.locals=none
 dJ:∀x c,X.env.cells.lookup x=some c->H c=none
 pin:∀p∈X.pn++pins,s.heap.get? p.1=some p.2/\H p.1=none/\p.1≠X.env.locals/\p.1 ∉ X.fs/\∀v,p.2.data≠.cell v
 hok:aZ X.prog X.w H s.heap
 len:σ.length=X.N.length
section
variable {X:Cx} {pins:List (Addr × Obj)} {σ:List (Option V)} {H H':Hp} {s:Shared} {h':Heap}
theorem Cx.Ok.Ki(ok:X.Ok){b:Addr}{o:Obj}(e:X.base.get? b=some o):b ∉ X.fs:=λhb=>by
 have:=(ok.dh.mem hb).1;rw[e]at this;cases this
theorem Inv.bs(I:Inv X pins σ H s):∀b o,X.base.get? b=some o->s.heap.get? b=some o/\H b=none:=λb o e =>
 ⟨I.base.keep b o (I.ok.bs b o e).1 (I.ok.bs b o e).2 (I.ok.Ki e) (I.ok.jh b o e),I.base.free b o (I.ok.bs b o e).1 (I.ok.bs b o e).2 (I.ok.jh b o e)⟩
theorem Inv.bk(I:Inv X pins σ H s):∀b o,X.base.get? b=some o->s.heap.get? b=some o:=λb o e=>(I.bs b o e).1
theorem Inv.mod(I:Inv X pins σ H s):Mod X.K X.mg X.base:=I.ok.mod
theorem Inv.bI(I:Inv X pins σ H s):X.K.In s.heap:=I.ok.mod.j9.keeps I.bk
theorem Inv.lt(I:Inv X pins σ H s):X.env.locals<s.heap.objs.size:=let⟨_,hn,_⟩:=I.loc;hn.lt
theorem Inv.sz(I:Inv X pins σ H s):X.s₀.heap.objs.size<=s.heap.objs.size:=cH I.ok.above (fT I.lt)
theorem Inv.Kj(I:Inv X pins σ H s){a:Addr}(h:s.heap.objs.size<=a):a ∉ X.fs:=λhb=>by
 obtain⟨_,o,ho,_⟩:=I.ok.dh.mem hb;exact absurd (cq (aG ho) (cH I.sz h)) (eJ _)
theorem Inv.iX(I:Inv X pins σ H s):∀x c,X.env.cells.lookup x=some c->c≠X.env.locals:=λx c e z=>by
 obtain⟨v,o,ho,hd⟩:=I.cell x c e;obtain⟨m,⟨o',es,ep,ho',hd',_⟩,_⟩:=I.loc;rw[z,ho']at ho;cases ho;rw[hd']at hd;cases hd
theorem Inv.dh(I:Inv X pins σ H s):s.heap.FunFrames X.base X.outer:=by
 have all:∀(l:List Env),(∀b∈frs l,b∈X.fs)->X.s₀.heap.FunFrames X.base l->s.heap.FunFrames X.base l:=by
  intro l
  induction l with
  |nil=>intro _ _;trivial
  |cons env r ih =>
   intro hs hl;obtain⟨hk,⟨L,o,hf,hn,ho,hd⟩,hr⟩:=hl;have hL:L∈X.fs:=hs L (by unfold frs;rw[qV,hf];exact bR);obtain⟨sl,e⟩:=I.base.slot L o ho (I.ok.fJ L hL) hL λz=>I.ok.jV L z hL;exact⟨hk,⟨L,_,hf,hn,e,hd⟩,ih (λb hb=>hs b (by unfold frs;rw[qV,hf];exact bG _ hb)) hr⟩
 exact all X.outer (λ_ hb=>hb) I.ok.dh
theorem Inv.stack(I:Inv X pins σ H s):s.heap.FunFrames X.base X.stack:=by
 rcases I.ok.stk with e|⟨e,hf⟩
 ·rw[e];exact I.dh
 ·rw[e]
  obtain⟨m,hn,_⟩:=I.loc;refine .cons (by rw[I.ok.kind];decide) hf hn ?_ I.dh;exact Heap.get?_none_of_le (cH I.ok.d5 I.ok.above)
theorem Inv.vl(I:Inv X pins σ H s):∀b∈frs X.stack,b∈X.env.locals::X.fs:=λb hb=>by
 rcases I.ok.stk with e|⟨e,hf⟩
 ·rw[e]at hb;exact bG _ hb
 ·rw[e]at hb
  unfold frs at hb;rw[qV,hf]at hb;exact hb
theorem Inv.CN(I:Inv X pins σ H s):∀b∈frs X.stack,H b=none:=λb hb=>by
 rcases a9.mp (I.vl b hb)with e|hb
 ·rw[e];exact I.free
 ·obtain⟨_,o,ho,_⟩:=I.ok.dh.mem hb
  exact I.base.free b o ho (I.ok.fJ b hb) λz=>I.ok.jV b z hb
theorem Inv.step{g':Array GenState}{t':Nat}{d':Drawn}{ch:List Addr}(I:Inv X pins σ H s)(hch:∀b∈ch,(b∈X.ex\/X.s₀.heap.objs.size<=b)/\b≠X.env.locals/\(∀x c,X.env.cells.lookup x=some c->c≠b)/\∀p∈X.pn++pins,p.1≠b)(keep:∀b o,b≠X.env.locals->b ∉ X.fs->b ∉ ch->s.heap.get? b=some o->H b=none->h'.get? b=some o)
  (slot:∀b o,b≠X.env.locals->b∈X.fs->b ∉ ch->s.heap.get? b=some o->H b=none->∃sl,h'.get? b=some {o with slots:=sl}) (free:∀b o,b ∉ ch->s.heap.get? b=some o->H b=none->H' b=none)
  (there:∀b o,b ∉ ch->s.heap.get? b=some o->∃o',h'.get? b=some o')
  (tups:∀b xs,H b=some (.tup xs)->H' b=some (.tup xs)) (gs:∀b o u,H b=some (.bU o u)->H' b=some (.bU o u)) (iI:∀b ps,H b=some (.jq ps)->∃more,H' b=some (.jq (ps++more)))
  (ns:∀m,s.heap.Ns X.env.locals m->h'.Ns X.env.locals m) (hok:aZ X.prog X.w H' h') (hg:AllBare g') :
  Inv X pins σ H' {s with heap:=h',gens:=g',drawn:=d',toks:=t'}:=by
 have zA:∀b o,X.s₀.heap.get? b=some o->b≠X.env.locals:=λb o e=>aP (cq (aG e) I.ok.above);have pk:∀b o,X.s₀.heap.get? b=some o->b ∉ X.ex->b ∉ ch:=λb o e hx hb=>by
  rcases(hch b hb).1 with z|z
  ·exact hx z
  ·exact absurd (cq (aG e) z) (eJ _)
 have cellK:∀x c,X.env.cells.lookup x=some c->∀v,s.heap.IsCell c v->h'.IsCell c v:=λx c e v ⟨o,ho,hd⟩=>by
  have mn:c ∉ ch:=λz=>(hch c z).2.2.1 x c e rfl
  by_cases hc:c∈X.fs
  ·obtain⟨sl,q⟩:=slot c o (I.iX x c e) hc mn ho (I.dJ x c e)
   exact⟨_,q,hd⟩
  ·exact⟨o,keep c o (I.iX x c e) hc mn ho (I.dJ x c e),hd⟩
 refine⟨I.ok,I.os,hg,⟨λb o e n hb hx=>?_,λb o e n hb hx=>?_,λb o e n hx=>?_,λb o e hx=>?_,λb xs e=>tups b xs (I.base.tups b xs e),λb o xs e=>gs b o xs (I.base.gs b o xs e),λb ps e=>?_⟩,?_,λx c e=>?_,?_,λx c e=>?_,λp hp=>?_,hok,I.len⟩
 ·exact keep b o (zA b o e) hb (pk b o e hx) (I.base.keep b o e n hb hx) (I.base.free b o e n hx)
 ·obtain⟨sl,e1⟩:=I.base.slot b o e n hb hx
  obtain⟨sl',e2⟩:=slot b _ (zA b o e) hb (pk b o e hx) e1 (I.base.free b o e n hx);exact⟨sl',e2⟩
 ·obtain⟨o',e1⟩:=I.base.there b o e hx
  exact free b o' (pk b o e hx) e1 (I.base.free b o e n hx)
 ·obtain⟨o',e1⟩:=I.base.there b o e hx
  exact there b o' (pk b o e hx) e1
 ·obtain⟨m1,e1⟩:=I.base.iI b ps e
  obtain⟨m2,e2⟩:=iI b _ e1;exact⟨m1++m2,by rw[e2,Array.append_assoc]⟩
 ·obtain⟨m,hn,hl⟩:=I.loc
  refine⟨m,ns m hn,λi x v e1 e2 e3=>?_⟩;obtain⟨u,r,l⟩:=hl i x v e1 e2 e3;refine⟨u,r,?_⟩
  rcases l with l|⟨k,c,e,z⟩
  ·exact .inl l
  ·exact .inr ⟨k,c,e,cellK x c e _ z⟩
 ·obtain⟨v,z⟩:=I.cell x c e
  exact⟨v,cellK x c e v z⟩
 ·obtain⟨m,⟨o,_,_,ho,_⟩,_⟩:=I.loc
  exact free _ o (λz=>(hch _ z).2.1 rfl) ho I.free
 ·obtain⟨v,o,ho,hd⟩:=I.cell x c e
  exact free c o (λz=>(hch c z).2.2.1 x c e rfl) ho (I.dJ x c e)
 ·obtain⟨e,n,ne,nf,d⟩:=I.pin p hp
  have mn:p.1 ∉ ch:=λz=>(hch p.1 z).2.2.2 p hp rfl;exact⟨keep p.1 p.2 ne nf mn e n,free p.1 p.2 mn e n,ne,nf,d⟩
theorem Inv.un{t':Nat}(I:Inv X pins σ H s)(u:Un X.fs [] H H' s.heap h')(hok:aZ X.prog X.w H' h'):Inv X pins σ H' {s with heap:=h',toks:=t'}:=by
 obtain⟨m,⟨o,es,ep,ho,r⟩,_⟩:=id I.loc;obtain⟨sl,hL⟩:=u.any ho I.free (by simp);exact I.step (g':=s.gens) (d':=s.drawn) (ch:=[]) (λ_ z=>nomatch z) (λb o _ hb _ e n=>u.keep b o e n hb (by simp)) (λb o _ hb _ e n=>u.slot b o e n hb (by simp)) (λb o _ e n=>u.free b o e n (by simp)) (λb o _ e=>u.there b o e (by simp)) u.tups u.gs u.iI (λm' hm=>by
  obtain⟨o',es',ep',ho',r'⟩:=hm;rw[ho]at ho';cases ho';exact⟨_,es',ep',hL,r'⟩) hok I.bare
theorem Inv.call{g':Array GenState}{t':Nat}{d':Drawn}{ch:List Addr}(I:Inv X pins σ H s)(u:Un (frs X.stack) ch H H' s.heap h')(hok:aZ X.prog X.w H' h')(hg:AllBare g')(hch:∀b∈ch,(b∈X.ex\/X.s₀.heap.objs.size<=b)/\b≠X.env.locals/\(∀x c,X.env.cells.lookup x=some c->c≠b)/\∀p∈X.pn++pins,p.1≠b):
  Inv X pins σ H' {s with heap:=h',gens:=g',drawn:=d',toks:=t'}:=by
 obtain⟨m,⟨o,es,ep,ho,r⟩,_⟩:=id I.loc;obtain⟨sl,hL⟩:=u.any ho I.free λz=>(hch _ z).2.1 rfl;exact I.step (ch:=ch) hch (λb o hL hb hc e n=>u.keep b o e n (λz=>(a9.mp (I.vl b z)).elim hL hb) hc) (λb o _ _ hc e n=>u.any e n hc) (λb o hc e n=>u.free b o e n hc) (λb o hc e=>u.there b o e hc) u.tups u.gs u.iI (λm' hm=>by
  obtain⟨o',es',ep',ho',r'⟩:=hm;rw[ho]at ho';cases ho';exact⟨_,es',ep',hL,r'⟩) hok hg
theorem Inv.turned{t':Nat}{it:Addr}(I:Inv X pins σ H s)(k:∀b o,b≠it->s.heap.get? b=some o->h'.get? b=some o)(hn:H it=none)(hL:it≠X.env.locals)
  (h1:it∈X.ex\/X.s₀.heap.objs.size<=it) (h2:∀x c,X.env.cells.lookup x=some c->c≠it) (h3:∀p∈X.pn++pins,p.1≠it):Inv X pins σ H {s with heap:=h',toks:=t'}:=by
 have zF:∀b u,H b=some u->b≠it:=λb u e z=>by rw[z,hn]at e;cases e
 refine I.step (g':=s.gens) (d':=s.drawn) (ch:=[it]) (λb hb=>?_) (λb o _ _ hc e _=>k b o (λz=>hc (by simp[z])) e) (λb o _ _ hc e _=>⟨o.slots,k b o (λz=>hc (by simp[z])) e⟩) (λ_ _ _ _ n=>n)
  (λb o hc e=>⟨o,k b o (λz=>hc (by simp[z])) e⟩) (λ_ _ e=>e) (λ_ _ _ e=>e) (λb ps e=>⟨#[],by rw[e];simp⟩) (λm hm=>?_) (λb u e=>?_) I.bare
 ·have e:b=it:=by simpa using hb
  subst e;exact⟨h1,hL,h2,h3⟩
 ·obtain⟨o,es,ep,ho,r⟩:=hm
  exact⟨o,es,ep,k _ o (cu hL) ho,r⟩
 ·refine(I.hok b u e).stay (λc v hc q=>k c v ?_ q) (λ_ q=>q) (λ_ _ q=>q) λ_ _ _ q=>q
  rcases hc with z|z
  ·rw[z];exact zF b u e
  ·exact zF c _ z
theorem Inv.tok(I:Inv X pins σ H s)(t:Nat):Inv X pins σ H {s with toks:=t}:=I.un (h':=s.heap) (t':=t) Un.refl I.hok
theorem Inv.kept{t':Nat}(I:Inv X pins σ H s)(k:∀b u,s.heap.get? b=some u->h'.get? b=some u):Inv X pins σ H {s with heap:=h',toks:=t'}:=I.un (Un.kept k) (I.hok.kept k)
theorem Inv.laid{a:Addr}{o:HO}{t':Nat}(I:Inv X pins σ H s)(k:∀b u,s.heap.get? b=some u->h'.get? b=some u)(hp:s.heap.objs.size<=a)(new:aK X.prog X.w (upd H a o) h' a o):
  Inv X pins σ (upd H a o) {s with heap:=h',toks:=t'}:=I.un (Un.laid k hp (I.hok.fresh hp)) (I.hok.laid k hp new)
theorem Inv.write{x e:Addr}{o:HO}{t':Nat}(I:Inv X pins σ H s)(mu:kZ (H x))(he:e=x\/H e=some (.own x))(k:∀b u,b≠e->s.heap.get? b=some u->h'.get? b=some u)(heo:∃u,h'.get? e=some u)
  (new:aK X.prog X.w (upd H x o) h' x o):Inv X pins σ (upd H x o) {s with heap:=h',toks:=t'}:=I.un (Un.write mu he k heo) (I.hok.write mu he k heo new)
theorem Inv.weak{σ':List (Option V)}(I:Inv X pins σ H s)(hl:σ'.length=σ.length)(w:∀(i:Nat) v,σ'[i]?=some (some v)->σ[i]?=some (some v)):Inv X pins σ' H s:=
 ⟨I.ok,I.os,I.bare,I.base,let⟨m,hn,hl'⟩:=I.loc;⟨m,hn,λi x v e1 e2 e3=>hl' i x v e1 (w i v e2) e3⟩,I.cell,I.free,I.dJ,I.pin,I.hok,hl.trans I.len⟩
theorem Inv.pN{Av:List (Addr × Obj)}(I:Inv X pins σ H s)(h:∀p∈Av,s.heap.get? p.1=some p.2/\H p.1=none/\p.1≠X.env.locals/\p.1 ∉ X.fs/\∀v,p.2.data≠.cell v):Inv X Av σ H s:=
 ⟨I.ok,I.os,I.bare,I.base,I.loc,I.cell,I.free,I.dJ,λp hp=>(hV.mp hp).elim (λz=>I.pin p (List.mem_append_left _ z)) (h p),I.hok,I.len⟩
theorem zH{N:List Str}(hN:N.Nodup){i j:Nat}{x:Str}(a:N[i]?=some x)(b:N[j]?=some x):i=j:=by
 obtain⟨h1,e1⟩:=bF.mp a;obtain⟨h2,e2⟩:=bF.mp b;exact(List.getElem_inj hN).mp (e1.trans e2.symm)
theorem CT{M:Model}{A:Around}{E:Value->Shared->Prop}{i:Nat}{x:Str}{v:V}{u:Value}{Q:Unit->Shared->Prop}(I:Inv X pins σ H s)(hN:X.N.Nodup)(hi:X.N[i]?=some x)(hx:Loc X.env.scope x)(r:RelV v u)(h:∀s',Inv X pins (σ.set i (some v)) H s'->(∃a,Heap.SameBut a s.heap s'.heap/\(a=X.env.locals\/X.env.cells.lookup x=some a))->Q () s')(hf:X.fn x=true\/X.env.scope.names.lookup x=some .local:=by first|exact .inl rfl|exact .inr rfl|assumption):wpAny M A (storeName X.env x u) Q E s:=by
 obtain⟨m,hn,hl⟩:=id I.loc;have hcls:(X.env.scope.kind==.class||(X.env.scope.kind==.module&&X.env.locals != X.env.globals))=false:=by rw[I.ok.kind];rfl
 have hiσ:i<σ.length:=by rw[I.len];exact(bF.mp hi).1
 have iX:=I.iX;have tracked:∀{a:Addr} {h':Heap},(∃o,s.heap.get? a=some o/\H a=none)->Heap.SameBut a s.heap h'->aZ X.prog X.w H h':=λ{a h'} ha hs b ob e=>by
  obtain⟨_,_,hfree⟩:=ha;refine(I.hok b ob e).stay (λc w' hc q=>(hs.2 c ?_).trans q) (λ_ q=>q) (λ_ _ q=>q) λ_ _ _ q=>q;rintro rfl
  rcases hc with rfl|hc
  ·rw[hfree]at e;cases e
  ·rw[hfree]at hc;cases hc
 rcases hx with hk|hk
 ·refine wpAny_storeName_local hk hn (λh' hn' hs=>?_) hcls
  obtain⟨oL,_,_,hoL,_⟩:=id hn;refine h _ ⟨I.ok,I.os,I.bare,⟨λb o e n hb hx=>?_,λb o e n hb hx=>?_,I.base.free,λb o e hx=>?_,I.base.tups,I.base.gs,I.base.iI⟩,⟨_,hn',λj y v' e1 e2 e3=>?_⟩,λy c e=>?_,I.free,I.dJ,λp hp=>?_,tracked ⟨oL,hoL,I.free⟩ hs,by simpa using I.len⟩ ⟨_,hs,.inl rfl⟩
  ·exact(hs.2 b (aP (cq (aG e) I.ok.above))).trans (I.base.keep b o e n hb hx)
  ·obtain⟨sl,e1⟩:=I.base.slot b o e n hb hx
   exact⟨sl,(hs.2 b (aP (cq (aG e) I.ok.above))).trans e1⟩
  ·obtain⟨o',e1⟩:=I.base.there b o e hx
   exact⟨o',(hs.2 b (aP (cq (aG e) I.ok.above))).trans e1⟩
  ·by_cases hj:j=i
   ·subst hj
    rw[hi]at e1;cases e1;rw[vT hiσ]at e2;cases e2;exact⟨u,r,.inl ⟨hk,by simp⟩⟩
   ·rw[qZ (cu hj)]at e2
    obtain⟨u',r',q⟩:=hl j y v' e1 e2 e3;refine⟨u',r',?_⟩
    rcases q with⟨k,e⟩|⟨k,c,e,z⟩
    ·refine .inl ⟨k,?_⟩
     have:y≠x:=λe=>hj (zH hN e1 (e▸hi));simp[this,e]
    ·exact .inr ⟨k,c,e,z.sameBut hs (iX y c e)⟩
  ·obtain⟨w',z⟩:=I.cell y c e
   exact⟨w',z.sameBut hs (iX y c e)⟩
  ·obtain⟨e,n,ne,nf,d⟩:=I.pin p hp
   exact⟨(hs.2 p.1 ne).trans e,n,ne,nf,d⟩
 ·have hfn:X.fn x=true:=by
   rcases hf with z|z
   ·exact z
   ·rw[z]at hk;cases hk
  obtain⟨c,hc⟩:=I.ok.has x (.inl hk);obtain⟨w',z⟩:=I.cell x c hc;refine wpAny_storeName_cell I.ok.kind hk hc z (λh' hc' hs=>?_);obtain⟨oc,hoc,HR⟩:=id z;refine h {s with heap:=h'} ⟨I.ok,I.os,I.bare,⟨λb o e n hb hx=>?_,λb o e n hb hx=>?_,I.base.free,λb o e hx=>?_,I.base.tups,I.base.gs,I.base.iI⟩,⟨m,hn.sameBut hs (cu (iX x c hc)),λj y v' e1 e2 e3=>?_⟩,λy c' e=>?_,I.free,I.dJ,λp hp=>?_,tracked ⟨oc,hoc,I.dJ x c hc⟩ hs,by simpa using I.len⟩ ⟨c,hs,.inr hc⟩
  ·exact(hs.2 b (aP (cq (aG e) (I.ok.cab x c hfn hc)))).trans (I.base.keep b o e n hb hx)
  ·obtain⟨sl,e1⟩:=I.base.slot b o e n hb hx
   exact⟨sl,(hs.2 b (aP (cq (aG e) (I.ok.cab x c hfn hc)))).trans e1⟩
  ·obtain⟨o',e1⟩:=I.base.there b o e hx
   exact⟨o',(hs.2 b (aP (cq (aG e) (I.ok.cab x c hfn hc)))).trans e1⟩
  ·by_cases hj:j=i
   ·subst hj
    rw[hi]at e1;cases e1;rw[vT hiσ]at e2;cases e2;exact⟨u,r,.inr ⟨.inl hk,c,hc,hc'⟩⟩
   ·rw[qZ (cu hj)]at e2
    obtain⟨u',r',q⟩:=hl j y v' e1 e2 e3;refine⟨u',r',?_⟩
    rcases q with q|⟨k,c',e,z'⟩
    ·exact .inl q
    ·refine .inr ⟨k,c',e,z'.sameBut hs ?_⟩
     rintro rfl;exact hj (zH hN e1 (I.ok.inj _ _ _ e hc▸hi))
  ·by_cases hcc:c'=c
   ·subst hcc;exact⟨_,hc'⟩
   ·obtain⟨w2,z2⟩:=I.cell y c' e
    exact⟨w2,z2.sameBut hs hcc⟩
  ·obtain⟨e,n,ne,nf,d⟩:=I.pin p hp
   refine⟨(hs.2 p.1 ?_).trans e,n,ne,nf,d⟩;intro q;rw[q,hoc]at e;have q':oc=p.2:=dC e;exact d w' (by rw[<- q'];exact HR)
theorem CQ{M:Model}{A:Around}{E:Value->Shared->Prop}{i:Nat}{x:Str}{v:V}{u:Value}{Q:Unit->Shared->Prop}(I:Inv X pins σ H s)(hN:X.N.Nodup)(hi:X.N[i]?=some x)(hx:Loc X.env.scope x)(r:RelV v u)(h:∀s',Inv X pins (σ.set i (some v)) H s'->Q () s')(hf:X.fn x=true\/X.env.scope.names.lookup x=some .local:=by first|exact .inl rfl|exact .inr rfl|assumption):wpAny M A (storeName X.env x u) Q E s:=
 CT I hN hi hx r (λs' I' _=>h s' I') hf
theorem Inv.call'{s':Shared}{ch:List Addr}(I:Inv X pins σ H s)(ho:s'.os=s.os)(u:Un (frs X.stack) ch H H' s.heap s'.heap)(hok:aZ X.prog X.w H' s'.heap)(hg:AllBare s'.gens)(hch:∀b∈ch,(b∈X.ex\/X.s₀.heap.objs.size<=b)/\b≠X.env.locals/\(∀x c,X.env.cells.lookup x=some c->c≠b)/\∀p∈X.pn++pins,p.1≠b):Inv X pins σ H' s':=by
 obtain⟨h',g',d',t',o'⟩:=s';have e:o'=s.os:=ho;subst e;exact I.call (g':=g') (t':=t') (d':=d') u hok hg hch
end
abbrev XK:=Value->Option Addr->Hp->Prop
abbrev St:=List (Option V)
abbrev VK:=V->Hp->Prop
abbrev TE:=St->Hp->VK->Prop
abbrev TT:=St->Hp->(Bool->Hp->Prop)->Prop
abbrev TA:=St->Hp->(List V->Hp->Prop)->Prop
structure Ends where
 nx:St->Hp->Prop
 rt:VK
 bk:St->Hp->Prop:=λ_ _=>False
 ct:St->Hp->Prop:=λ_ _=>False
abbrev TS:=Ends->St->Hp->Prop
noncomputable def EP(X:Cx)(pins:List (Addr × Obj))(σ:St)(Q:VK)(u:Value)(s':Shared):Prop:=∃v H',Inv X pins σ H' s'/\RelV v u/\Q v H'
noncomputable def TP(X:Cx)(pins:List (Addr × Obj))(σ:St)(Q:Bool->Hp->Prop)(b:Bool)(s':Shared):Prop:=∃H',Inv X pins σ H' s'/\Q b H'
noncomputable def AP(X:Cx)(pins:List (Addr × Obj))(σ:St)(Q:List V->Hp->Prop)(us:List Value)(s':Shared):Prop:=∃vs H',Inv X pins σ H' s'/\Vals vs us/\Q vs H'
noncomputable def SP(X:Cx)(pins:List (Addr × Obj))(D:Ends)(f:Flow)(s':Shared):Prop:=
 match f with
 |.next=>∃σ' H',Inv X pins σ' H' s'/\D.nx σ' H'
 |.brk=>∃σ' H',Inv X pins σ' H' s'/\D.bk σ' H'
 |.cont=>∃σ' H',Inv X pins σ' H' s'/\D.ct σ' H'
 |.ret u=>∃v σ' H',Inv X pins σ' H' s'/\RelV v u/\D.rt v H'
noncomputable def PE(X:Cx)(e:Expr)(t:TE):Prop:=
 ∀(pins:List (Addr × Obj)) (s:Shared) (σ:St) (H:Hp) (Q:VK),Inv X pins σ H s->t σ H Q->wpAny (model X.prog X.w) X.A (eval e X.env) (EP X pins σ Q) X.xe s
noncomputable def PT(X:Cx)(e:Expr)(t:TT):Prop:=
 ∀(pins:List (Addr × Obj)) (s:Shared) (σ:St) (H:Hp) (Q:Bool->Hp->Prop),Inv X pins σ H s->t σ H Q->wpAny (model X.prog X.w) X.A (isTrue e X.env (eval e X.env)) (TP X pins σ Q) X.xe s
noncomputable def PW(X:Cx)(e:Expr)(t:TT):Prop:=
 ∀(whole:Sem Value) (pins:List (Addr × Obj)) (s:Shared) (σ:St) (H:Hp) (Q:Bool->Hp->Prop),Inv X pins σ H s->t σ H Q->wpAny (model X.prog X.w) X.A (isTrue e X.env whole) (TP X pins σ Q) X.xe s
theorem PW.pt{X:Cx}{e:Expr}{t:TT}(h:PW X e t):PT X e t:=h _
noncomputable def PA(X:Cx)(es:List Expr)(t:TA):Prop:=
 ∀(pos:Pos) (pins:List (Addr × Obj)) (s:Shared) (σ:St) (H:Hp) (Q:List V->Hp->Prop),Inv X pins σ H s->t σ H Q->wpAny (model X.prog X.w) X.A (spliced (backTo pos (starEach es X.env))) (AP X pins σ Q) X.xe s
noncomputable def PS(X:Cx)(st:Stmt)(t:TS):Prop:=
 ∀(pins:List (Addr × Obj)) (s:Shared) (σ:St) (H:Hp) (D:Ends),Inv X pins σ H s->t D σ H->wpAny (model X.prog X.w) X.A (exec st X.env) (SP X pins D) X.xe s
noncomputable def dD(X:Cx)(st:List Stmt)(t:TS):Prop:=
 ∀(pins:List (Addr × Obj)) (s:Shared) (σ:St) (H:Hp) (D:Ends),Inv X pins σ H s->t D σ H->wpAny (model X.prog X.w) X.A (execs st X.env) (SP X pins D) X.xe s
theorem ao{α:Type}{t:Sem α}{Q Q':α->Shared->Prop}{M:Model}{A:Around}{E:Value->Shared->Prop}{s:Shared}(h:wpAny M A t Q E s)(hQ:∀a s,Q a s->Q' a s):wpAny M A t Q' E s:=dZ h hQ λ_ _ x=>x
section
variable {X:Cx}
noncomputable def du(i:Nat):TE:=λσ H Q=>∃v,σ[i]?=some (some v)/\Q v H
noncomputable def tC(v:V):TE:=λ_ H Q=>Q v H
theorem LK {i:Nat} {x:Str} {pos:Pos} (hN:X.N[i]?=some x) (hv:nX X.env.scope x) (hd:(x==("__debug__" : Str))=false:=by decide) (hcd:(x==("__classdict__" : Str))=false:=by decide):PE X (.Name x pos) (du i):=by
 intro pins s σ H Q I h;obtain⟨v,e,h⟩:=h;obtain⟨m,hn,hl⟩:=I.loc;obtain⟨u,r,l⟩:=hl i x v hN e hv;have fin:EP X pins σ Q u s:=⟨v,H,I,r,h⟩
 rcases l with⟨hk,hm⟩|⟨hk,c,hc,hcell⟩
 ·exact wpAny_Name (wpAny_loadName_local I.ok.kind hk hn hm fin) hd
 ·rcases hk with hk|hk
  ·exact wpAny_Name (wpAny_loadName_cell I.ok.kind hk hc hcell fin) hd
  ·exact wpAny_Name (wpAny_loadName_free I.ok.kind hk hc hcell fin hcd) hd
theorem aL{i j pos}:PE X (.Constant (.int i) j pos) (tC (.int i)):=λ_ _ _ H _ I h=>wpAny_Constant_int ⟨.int i,H,I.tok _,⟨_,rfl⟩,h⟩
theorem d8{b j pos}:PE X (.Constant (.bool b) j pos) (tC (.bl b)):=λ_ _ _ H _ I h=>Constant_bool ⟨.bl b,H,I,rfl,h⟩
theorem pK{j pos}:PE X (.Constant .none j pos) (tC .non):=λ_ _ _ H _ I h=>Constant_none ⟨.non,H,I,rfl,h⟩
noncomputable def Gl(X:Cx)(x:Str):Prop:=X.env.kindOf x=some .globalImplicit
theorem o5{E:Value->Shared->Prop}{pins:List (Addr × Obj)}{s:Shared}{σ:St}{H:Hp}{x:Str}{u:Value}{pos:Pos}{Q:Value->Shared->Prop}(I:Inv X pins σ H s)(hg:Gl X x)(hm:X.mg x=some u)(h:Q u s)
  (hd:(x==("__debug__" : Str))=false:=by decide):wpAny (model X.prog X.w) X.A (eval (.Name x pos) X.env) Q E s:=
 Calls.Name_function_global I.ok.kind hg (Calls.loadGlobal_global (by rw[I.ok.glob];exact I.mod.glob.keeps I.bk) hm h) hd
theorem gD{E:Value->Shared->Prop}{pins:List (Addr × Obj)}{s:Shared}{σ:St}{H:Hp}{x:Str}{u:Value}{pos:Pos}{Q:Value->Shared->Prop}(I:Inv X pins σ H s)(hg:Gl X x)(hm:X.mg x=none)(hv:bootBuiltins x=some u)(h:Q u s)
  (hn:x ≠ "__name__" :=by decide) (hd:(x==("__debug__" : Str))=false:=by decide):wpAny (model X.prog X.w) X.A (eval (.Name x pos) X.env) Q E s:=by
 obtain⟨mb,h1,h2⟩:=I.mod.blt;exact Calls.Name_function_global I.ok.kind hg (Calls.loadGlobal_builtin (by rw[I.ok.glob];exact I.mod.glob.keeps I.bk) hm (by rw[I.ok.blt];exact h1.keeps I.bk) ((h2 x hn).trans hv) h) hd
theorem uC {x:Str} {v:V} {u:Value} {pos:Pos} (hg:Gl X x) (hm:X.mg x=some u) (r:RelV v u) (hd:(x==("__debug__" : Str))=false:=by decide):PE X (.Name x pos) (tC v):=
 λ_ _ _ H _ I h=>o5 I hg hm ⟨v,H,I,r,h⟩ hd
theorem dq {x:Str} {v:V} {u:Value} {pos:Pos} (hg:Gl X x) (hm:X.mg x=none) (hv:bootBuiltins x=some u) (r:RelV v u) (hn:x ≠ "__name__" :=by decide) (hd:(x==("__debug__" : Str))=false:=by decide):PE X (.Name x pos) (tC v):=
 λ_ _ _ H _ I h=>gD I hg hm hv ⟨v,H,I,r,h⟩ hn hd
variable {a b:Expr} {ta tb:TE} {pos:Pos}
noncomputable def tB(t:TE):TT:=λσ H Q=>t σ H λx H1=>∃c,x = .bl c/\Q c H1
theorem cN{e:Expr}{t:TE}(h:PE X e t)(he:∀whole,isTrue e X.env whole=(do let v <- whole;standAt e.pos;holding [v] (truthy v)):=by intro _;rfl):PT X e (tB t):=by
 intro pins s σ H Q I hw;refine isTrue_plain (ao (h pins s σ H _ I hw) λv s1 ⟨x,H1,I1,r1,q1⟩=>?_) (he _);obtain⟨d,rfl,q⟩:=q1;cases r1;exact fE ⟨H1,I1,q⟩
variable {tA qw:TT} {rest:List Expr}
noncomputable def Oc(t u:TT):TT:=λσ H Q=>t σ H λc H1=>if c=true then u σ H1 Q else Q false H1
noncomputable def Oq(t u:TT):TT:=λσ H Q=>t σ H λc H1=>if c=true then Q true H1 else u σ H1 Q
noncomputable def vt(t:TT):TT:=λσ H Q=>t σ H λc H1=>Q (!c) H1
theorem uG(ha:PT X a tA):PW X (.BoolOp .And [a] pos) tA:=by
 intro wh pins s σ H Q I h;refine isTrue_and (ao (ha pins s σ H Q I h) λc s1 e=>?_);cases c with
 |true=>exact isTrue_and_nil e
 |false=>exact e
theorem mH(ha:PT X a tA):PW X (.BoolOp .Or [a] pos) tA:=by
 intro wh pins s σ H Q I h;refine isTrue_or (ao (ha pins s σ H Q I h) λc s1 e=>?_);cases c with
 |false=>exact isTrue_or_nil e
 |true=>exact e
theorem uF(ha:PT X a tA)(hb:PW X (.BoolOp .And (b::rest) pos) qw):PW X (.BoolOp .And (a::b::rest) pos) (Oc tA qw):=by
 intro wh pins s σ H Q I h;refine isTrue_and (ao (ha pins s σ H _ I h) λc s1 ⟨H1,I1,q1⟩=>?_);cases c with
 |true=>exact hb wh pins s1 σ H1 Q I1 q1
 |false=>exact⟨H1,I1,q1⟩
theorem mG(ha:PT X a tA)(hb:PW X (.BoolOp .Or (b::rest) pos) qw):PW X (.BoolOp .Or (a::b::rest) pos) (Oq tA qw):=by
 intro wh pins s σ H Q I h;refine isTrue_or (ao (ha pins s σ H _ I h) λc s1 ⟨H1,I1,q1⟩=>?_);cases c with
 |true=>exact⟨H1,I1,q1⟩
 |false=>exact hb wh pins s1 σ H1 Q I1 q1
theorem gJ(ha:PT X a tA):PT X (.UnaryOp .Not a pos) (vt tA):=by
 intro pins s σ H Q I h;exact isTrue_not (ha pins s σ H (λc H1=>Q (!c) H1) I h)
noncomputable def Od(ta tb:TE):TE:=λσ H Q=>ta σ H λx H1=>∃c,x = .bl c/\if c=true then tb σ H1 Q else Q (.bl false) H1
noncomputable def Ot(ta tb:TE):TE:=λσ H Q=>ta σ H λx H1=>∃c,x = .bl c/\if c=true then Q (.bl true) H1 else tb σ H1 Q
noncomputable def Oo(ta:TE):TE:=λσ H Q=>ta σ H λx H1=>∃c,x = .bl c/\Q (.bl (!c)) H1
theorem iE{op}{t:TE}(h:PE X a t):PE X (.BoolOp op [a] pos) t:=λpins s σ H Q I hw=>BoolOp_one (h pins s σ H Q I hw)
theorem iB(ha:PE X a ta)(hb:PE X (.BoolOp .And (b::rest) pos) tb):PE X (.BoolOp .And (a::b::rest) pos) (Od ta tb):=by
 intro pins s σ H Q I h;refine BoolOp_and (ao (ha pins s σ H _ I h) λv s1 ⟨x,H1,I1,r1,q1⟩=>?_);obtain⟨c,rfl,q1⟩:=q1;cases r1;refine fE ?_;cases c with
 |true=>exact hb pins s1 σ H1 Q I1 q1
 |false=>exact⟨.bl false,H1,I1,rfl,q1⟩
theorem Lz(ha:PE X a ta)(hb:PE X (.BoolOp .Or (b::rest) pos) tb):PE X (.BoolOp .Or (a::b::rest) pos) (Ot ta tb):=by
 intro pins s σ H Q I h;refine BoolOp_or (ao (ha pins s σ H _ I h) λv s1 ⟨x,H1,I1,r1,q1⟩=>?_);obtain⟨c,rfl,q1⟩:=q1;cases r1;refine fE ?_;cases c with
 |false=>exact hb pins s1 σ H1 Q I1 q1
 |true=>exact⟨.bl true,H1,I1,rfl,q1⟩
theorem Am(ha:PE X a ta):PE X (.UnaryOp .Not a pos) (Oo ta):=by
 intro pins s σ H Q I h;refine UnaryOp_ (ao (ha pins s σ H _ I h) λv s1 ⟨x,H1,I1,r1,q1⟩=>?_);obtain⟨c,rfl,q1⟩:=q1;cases r1;exact not_of (fE ⟨.bl (!c),H1,I1,rfl,q1⟩)
end
noncomputable def ak(K:W.Frag)(H:Hp)(a:Addr)(xs:List V):Prop:=
 Rd H a (.lst xs) \/
  ∃(o:Obj) (its:Array Value) (n:Nat),K.lookup a=some o/\o.cls = .type "list" /\ o.dict=none/\o.data = .seq its n/\its.size<=sizeLine/\Vals xs its.toList
noncomputable def az(K:W.Frag)(H:Hp)(a:Addr)(xs:List V):Prop:=
 Rd H a (.tup xs) \/
  ∃(o:Obj) (its:Array Value) (n:Nat),K.lookup a=some o/\o.cls = .type "tuple" /\ o.data = .seq its n/\its.size<=sizeLine/\Vals xs its.toList
noncomputable def Es:Value->Option V
 |.none=>some .non
 |.bool b=>some (.bl b)
 |.int i _=>some (.int i)
 |.str x _=>some (.str x)
 |.bytes b _=>some (.eO b)
 |.float b _=>some (.flt b)
 |.ref a=>some (.ref a)
 |.type n=>some (.ty n)
 |_=>none
theorem RelV.abs{x:V}{u:Value}(r:RelV x u):Es u=some x:=by
 cases x with
 |non=>cases r;rfl
 |bl _=>cases r;rfl
 |int _=>obtain⟨t,rfl⟩:=r;rfl
 |str _=>obtain⟨t,rfl⟩:=r;rfl
 |eO _=>obtain⟨t,rfl⟩:=r;rfl
 |flt _=>obtain⟨t,rfl⟩:=r;rfl
 |ref _=>cases r;rfl
 |ty _=>cases r;rfl
theorem RelV.inj{x y:V}{u:Value}(r:RelV x u)(q:RelV y u):x=y:=dC (r.abs.symm.trans q.abs)
theorem Vals.inj:∀{xs ys:List V} {us:List Value},Vals xs us->Vals ys us->xs=ys
 |_,_,_,.nil,.nil=>rfl
 |_,_,_,.cons r t,.cons r' t'=>by rw[r.inj r',Vals.inj t t']
section
variable {X:Cx} {pins:List (Addr × Obj)} {σ:St} {H:Hp} {s:Shared} {a:Addr} {xs ys:List V}
theorem ak.of{K:W.Frag}(h:H a=some (.lst xs)):ak K H a xs:=.inl (.inl h)
theorem az.of{K:W.Frag}(h:H a=some (.tup xs)):az K H a xs:=.inl (.inl h)
theorem Inv.list(I:Inv X pins σ H s)(h:ak X.K H a xs):∃its:List Value,Vals xs its/\PlainL s.heap a its.toArray/\xs.length<=sizeLine:=by
 rcases h with h|⟨o,its,n,hk,hc,hd,hs,hz,r⟩
 ·obtain⟨z,its,n,r,e⟩:=h.ok I.hok
  exact⟨its,r,⟨_,n,e,rfl,rfl,rfl⟩,z⟩
 ·refine⟨its.toList,r,⟨o,n,I.bI a o hk,hc,hd,by simpa using hs⟩,?_⟩
  have e:=r.length;simp only[dw]at e;omega
theorem Inv.tuple(I:Inv X pins σ H s)(h:az X.K H a xs):∃its:List Value,Vals xs its/\IsTup s.heap a its.toArray/\xs.length<=sizeLine:=by
 rcases h with h|⟨o,its,n,hk,hc,hs,hz,r⟩
 ·obtain⟨z,its,r,p,_⟩:=h.ok I.hok
  exact⟨its,r,p,z⟩
 ·refine⟨its.toList,r,⟨o,I.bI a o hk,hc,n,by simpa using hs⟩,?_⟩
  have e:=r.length;simp only[dw]at e;omega
theorem Inv.zj(I:Inv X pins σ H s)(h:ak X.K H a xs)(h':ak X.K H a ys):xs=ys:=by
 obtain⟨its,r,⟨o,n,e,_,_,d⟩,_⟩:=I.list h;obtain⟨its',r',⟨o',n',e',_,_,d'⟩,_⟩:=I.list h';rw[e]at e';cases e';rw[d]at d';injection d' with d1 _
 have:its=its':=by simpa using congrArg Array.toList d1
 subst this;exact r.inj r'
theorem Inv.vw(I:Inv X pins σ H s)(h:az X.K H a xs)(h':az X.K H a ys):xs=ys:=by
 obtain⟨its,r,⟨o,e,_,n,d⟩,_⟩:=I.tuple h;obtain⟨its',r',⟨o',e',_,n',d'⟩,_⟩:=I.tuple h';rw[e]at e';cases e';rw[d]at d';injection d' with d1 _
 have:its=its':=by simpa using congrArg Array.toList d1
 subst this;exact r.inj r'
end
abbrev Cx.wish (X:Cx) (E:Value->Shared->Prop):Cx:={X with xe:=E}
abbrev Cx.ji (X:Cx):Cx:=X.wish λ_ _=>False
theorem Cx.Ok.wish{X:Cx}(ok:X.Ok)(E:Value->Shared->Prop):(X.wish E).Ok:=
 ⟨ok.mod,ok.kind,ok.glob,ok.blt,ok.above,ok.inj,ok.has,ok.cab,ok.hd,ok.frames,ok.stk,ok.ow,ok.bs,ok.d5,ok.jh,ok.jV,ok.dh,ok.fJ⟩
theorem Cx.Ok.iJ{X:Cx}{E:Value->Shared->Prop}(ok:(X.wish E).Ok):X.Ok:=
 ⟨ok.mod,ok.kind,ok.glob,ok.blt,ok.above,ok.inj,ok.has,ok.cab,ok.hd,ok.frames,ok.stk,ok.ow,ok.bs,ok.d5,ok.jh,ok.jV,ok.dh,ok.fJ⟩
section
variable {X:Cx} {pins:List (Addr × Obj)} {σ:St} {H:Hp} {s:Shared} {E:Value->Shared->Prop}
theorem Inv.wish(I:Inv X pins σ H s)(E:Value->Shared->Prop):Inv (X.wish E) pins σ H s:=⟨I.ok.wish E,I.os,I.bare,I.base,I.loc,I.cell,I.free,I.dJ,I.pin,I.hok,I.len⟩
theorem Inv.iJ(I:Inv (X.wish E) pins σ H s):Inv X pins σ H s:=⟨I.ok.iJ,I.os,I.bare,I.base,I.loc,I.cell,I.free,I.dJ,I.pin,I.hok,I.len⟩
theorem SP.iJ{D:Ends}{f:Flow}{s':Shared}(h:SP (X.wish E) pins D f s'):SP X pins D f s':=by
 cases f with
 |next=>obtain⟨σ',H',I,q⟩:=h;exact⟨σ',H',I.iJ,q⟩
 |brk=>obtain⟨σ',H',I,q⟩:=h;exact⟨σ',H',I.iJ,q⟩
 |cont=>obtain⟨σ',H',I,q⟩:=h;exact⟨σ',H',I.iJ,q⟩
 |ret u=>obtain⟨v,σ',H',I,r,q⟩:=h;exact⟨v,σ',H',I.iJ,r,q⟩
theorem dD.ji{st:List Stmt}{t:TS}(h:dD X.ji st t):dD X st t:=λpins s σ H D I hw =>
 dZ (h pins s σ H D (I.wish _) hw) (λ_ _ q=>q.iJ) λ_ _ z=>False.elim z
end
section
variable {X:Cx} {st:Stmt} {rest:List Stmt} {t u:TS} {e:Expr} {te:TE} {pos:Pos}
noncomputable def qz:TS:=λD σ H=>D.nx σ H
noncomputable def cS(t u:TS):TS:=λD σ H=>t {D with nx:=u D} σ H
theorem cx:dD X [] qz:=λ_ _ σ H _ I h=>rM ⟨σ,H,I,h⟩
theorem aH(h1:PS X st t)(h2:dD X rest u):dD X (st::rest) (cS t u):=by
 intro pins s σ H D I h;refine wpAny_execs_cons (ao (h1 pins s σ H {D with nx:=u D} I h) λf s1 q=>?_);cases f with
 |next =>
  obtain⟨σ',H',I',q⟩:=q;exact h2 pins s1 σ' H' D I' q
 |ret v=>exact q
 |brk=>exact q
 |cont=>exact q
theorem aC(h1:PS X st t):dD X [st] t:=by
 intro pins s σ H D I h;refine wpAny_execs_cons (ao (h1 pins s σ H D I h) λf s1 q=>?_);cases f with
 |next=>exact rM q
 |ret v=>exact q
 |brk=>exact q
 |cont=>exact q
theorem Inv.quiet{pins:List (Addr × Obj)}{σ:St}{H:Hp}{s:Shared}(I:Inv X pins σ H s):interactive X.env=false:=by simp[interactive,I.ok.kind]
noncomputable def Dd(te:TE):TS:=λD σ H=>te σ H λ_ H1=>D.nx σ H1
theorem dN(he:PE X e te)(hs:swapsWith e none pos.line X.env=pure false:=by rfl):PS X (.Expr e pos) (Dd te):=by
 intro pins s σ H D I h;exact wpAny_Expr_any (ao (he pins s σ H _ I h) λv s1 ⟨x,H1,I1,r1,q1⟩=>⟨σ,H1,I1,q1⟩) I.quiet hs
noncomputable def kD(te:TE):TS:=λD σ H=>te σ H D.rt
theorem a8(he:PE X e te):PS X (.Return (some e) pos) (kD te):=by
 intro pins s σ H D I h;exact wpAny_Return_some (ao (he pins s σ H _ I h) λv s1 ⟨x,H1,I1,r1,q1⟩=>⟨x,σ,H1,I1,r1,q1⟩)
noncomputable def mU(c:TT)(t u:TS):TS:=λD σ H=>c σ H λb H1=>if b=true then t D σ H1 else u D σ H1
theorem cj{c:Expr}{a b:List Stmt}{tc:TT}(hc:PT X c tc)(ha:dD X a t)(hb:dD X b u):PS X (.If c a b pos) (mU tc t u):=by
 intro pins s σ H D I h;refine wpAny_If (ao (hc pins s σ H _ I h) λd s1 ⟨H1,I1,q1⟩=>?_);cases d with
 |true=>exact ha pins s1 σ H1 D I1 q1
 |false=>exact hb pins s1 σ H1 D I1 q1
noncomputable def Om:TS:=λ_ _ _=>False
theorem mF:PS X st Om:=λ_ _ _ _ _ _ h=>h.elim
end
abbrev TG:=V->St->Hp->(St->Hp->Prop)->Prop
abbrev il:=List V->St->Hp->(St->Hp->Prop)->Prop
noncomputable def PG(X:Cx)(target:Expr)(t:TG):Prop:=
 ∀(pins:List (Addr × Obj)) (s:Shared) (σ:St) (H:Hp) (v:V) (u:Value) (Q:St->Hp->Prop),Inv X pins σ H s->RelV v u->t v σ H Q ->
  wpAny (model X.prog X.w) X.A (assign target X.env u) (λ_ s'=>∃σ' H',Inv X pins σ' H' s'/\Q σ' H') X.xe s
noncomputable def k7(X:Cx)(ts:List Expr)(t:il):Prop:=
 ∀(pins:List (Addr × Obj)) (s:Shared) (σ:St) (H:Hp) (vs:List V) (us:List Value) (Q:St->Hp->Prop),Inv X pins σ H s->Vals vs us->t vs σ H Q ->
  wpAny (model X.prog X.w) X.A (assignInOrder ((assignEach ts X.env).map (·.2)) us) (λ_ s'=>∃σ' H',Inv X pins σ' H' s'/\Q σ' H') X.xe s
abbrev rV:=V->V->V->Hp->(Hp->Prop)->Prop
noncomputable def wm(X:Cx)(t:rV):Prop:=
 ∀(pins:List (Addr × Obj)) (s:Shared) (σ:St) (H:Hp) (o i v:V) (ov iv u:Value) (Q:Hp->Prop),Inv X pins σ H s->RelV o ov->RelV i iv->RelV v u->t o i v H Q ->
  wpAny (model X.prog X.w) X.A (setItem ov iv u) (λ_ s'=>∃H',Inv X pins σ H' s'/\Q H') X.xe s
section
variable {X:Cx} {pos:Pos}
noncomputable def aU(i:Nat):TG:=λv σ H Q=>Q (σ.set i (some v)) H
theorem bh{i:Nat}{x:Str}(hN:X.N.Nodup)(hi:X.N[i]?=some x)(hx:Loc X.env.scope x)(hf:X.fn x=true\/X.env.scope.names.lookup x=some .local:=by first|exact .inl rfl|exact .inr rfl|assumption):PG X (.Name x pos) (aU i):=by
 intro pins s σ H v u Q I r h;exact wpAny_assign_Name (CQ I hN hi hx r (λs' I'=>⟨_,H,I',h⟩) hf)
noncomputable def lT:il:=λvs σ H Q=>vs = []/\Q σ H
noncomputable def gu(t:TG)(u:il):il:=λvs σ H Q=>∃v r,vs=v::r/\t v σ H λσ' H'=>u r σ' H' Q
theorem Aq:k7 X [] lT:=by
 intro pins s σ H vs us Q I r h;obtain⟨e,h⟩:=h;subst e;cases r;exact assignInOrder_nil ⟨σ,H,I,h⟩
theorem pL{e:Expr}{es:List Expr}{t:TG}{u:il}(h1:PG X e t)(h2:k7 X es u)(hs:(assignEach (e::es) X.env).map (·.2)=assign e X.env::(assignEach es X.env).map (·.2):=by rfl):k7 X (e::es) (gu t u):=by
 intro pins s σ H vs us Q I r h;obtain⟨v,vr,e1,h⟩:=h;subst e1;cases r with
 |cons r rr =>
  rw[hs];refine assignInOrder_cons (ao (h1 pins s σ H _ _ _ I r h) λ_ s1 ⟨σ1,H1,I1,q1⟩=>?_);exact h2 pins s1 σ1 H1 _ _ Q I1 rr q1
noncomputable def jX(K:W.Frag)(n:Nat)(t:il):TG:=λv σ H Q=>∃a xs,v = .ref a/\az K H a xs/\xs.length=n/\t xs σ H Q
theorem Ap{es:List Expr}{k:Nat}{t:il}{n:Nat}(hc:X.calm=true)(h:k7 X es t)(hn:(assignEach es X.env).length=n:=by rfl)(hst:(assignEach es X.env).findIdx? (·.1)=none:=by rfl):PG X (.Tuple es k pos) (jX X.K n t):=by
 intro pins s σ H v u Q I r hw;obtain⟨a,xs,e1,hq,hl,hw⟩:=hw;subst e1;cases r;obtain⟨its,rv,ht,hz⟩:=I.tuple hq;refine assign_Tuple_tuple (I.ok.hd hc) ht (by simp[hn,<- hl,rv.length]) hst λh' hx=>?_;have I1:Inv X pins σ H {s with heap:=h'}:=I.kept (t':=s.toks) λb o e=>hx b o (aP (aG e)) e;exact h pins _ σ H xs _ Q I1 (by simpa using rv) hw
noncomputable def G5(to ti:TE)(t:rV):TG:=λv σ H Q=>to σ H λo H1=>ti σ H1 λi H2=>t o i v H2 λH3=>Q σ H3
theorem Ao{o i:Expr}{to ti:TE}{t:rV}(ho:PE X o to)(hi:PE X i ti)(hs:wm X t)
  (ha:∀v,assign (.Subscript o i pos) X.env v=(do
   let ov <- holding [v] (eval o X.env)
   let iv <- holding [v,ov] (eval i X.env)
   standAt pos
   holding [v,ov,iv] (setItem ov iv v)
   release [v,ov,iv] []):=by intro _;rfl):PG X (.Subscript o i pos) (G5 to ti t):=by
 intro pins s σ H v u Q I r h;rw[ha];refine ae (dY (ao (ho pins s σ H _ I h) λov s1 ⟨x,H1,I1,r1,q1⟩=>?_));refine ae (dY (ao (hi pins s1 σ H1 _ I1 q1) λiv s2 ⟨y,H2,I2,r2,q2⟩=>?_));refine ae (wpAny_standAt (ae (dY (ao (hs pins s2 σ H2 x y v ov iv u _ I2 r1 r2 r q2) λ_ s3 ⟨H3,I3,q3⟩=>?_))));exact wpAny_release ⟨σ,H3,I3,q3⟩
noncomputable def vo(te:TE)(g:TG):TS:=λD σ H=>te σ H λx H1=>g x σ H1 D.nx
theorem Aw{tg e:Expr}{te:TE}{g:TG}(he:PE X e te)(hg:PG X tg g)(hs:swapsWithSole [tg] e pos.line X.env=pure false:=by rfl)(hw:swappedStores [tg] e X.env=pure none:=by rfl)
  (h1:(assignEach [tg] X.env).map (·.2) = [assign tg X.env]:=by rfl):PS X (.Assign [tg] e pos) (vo te g):=by
 intro pins s σ H D I h;refine wpAny_Assign_stores (ao (he pins s σ H _ I h) λv s1 ⟨x,H1,I1,r1,q1⟩=>?_) hs hw;rw[h1];exact ao (hg pins s1 σ H1 x v _ I1 r1 q1) λ_ s2 q=>q
theorem bV{i:Nat}{x:Str}{e:Expr}{te:TE}{pos':Pos}(hN:X.N.Nodup)(hi:X.N[i]?=some x)(hx:Loc X.env.scope x)(he:PE X e te)(hs:swapsWith e (some (.Name x pos')) pos.line X.env=pure false:=by rfl)(hf:X.fn x=true\/X.env.scope.names.lookup x=some .local:=by first|exact .inl rfl|exact .inr rfl|assumption):
  PS X (.Assign [.Name x pos'] e pos) (vo te (aU i)):=by
 intro pins s σ H D I h;refine wpAny_Assign_Name (ao (he pins s σ H _ I h) λv s1 ⟨y,H1,I1,r1,q1⟩=>?_) hs;exact CQ I1 hN hi hx r1 (λs2 I2=>⟨_,H1,I2,q1⟩) hf
noncomputable def OD(c:TT)(tb:TS):TS:=λD σ H=>∃W:Nat->St->Hp->Prop,(∃m,W m σ H)/\∀m σ H,W m σ H ->
 c σ H λb H1=>if b=true then ∃N:St->Hp->Prop,(∀σ' H',N σ' H'->∃m',m'<m/\W m' σ' H')/\tb {D with nx:=N,ct:=N,bk:=D.nx} σ H1 else D.nx σ H1
theorem Mh{c:Expr}{body:List Stmt}{tc:TT}{tb:TS}(hp:PassesOwn (model X.prog X.w) X.A X.env X.xe)(hc:PT X c tc)(hb:dD X body tb):PS X (.While c body [] pos) (OD tc tb):=by
 intro pins s σ H D I h;obtain⟨W,⟨m0,w0⟩,turn⟩:=h;refine wpAny_While (codeAny_whileLoop (λn s'=>∃σ' H',Inv X pins σ' H' s'/\W n σ' H') ?_ m0 ⟨σ,H,I,w0⟩);rintro n s1 ⟨σ1,H1,I1,w1⟩;refine jK hp (ao (hc pins s1 σ1 H1 _ I1 (turn n σ1 H1 w1)) λb s2 ⟨H2,I2,q2⟩=>?_);cases b with
 |true =>
  obtain⟨N,hN,q2⟩:=q2;rw[if_pos rfl];refine jK hp (ao (hb pins s2 σ1 H2 _ I2 q2) λf s3 q3=>?_);cases f with
  |next =>
   obtain⟨σ3,H3,I3,n3⟩:=q3;obtain⟨m',hm,w3⟩:=hN σ3 H3 n3;exact⟨m',hm,σ3,H3,I3,w3⟩
  |cont =>
   obtain⟨σ3,H3,I3,n3⟩:=q3;obtain⟨m',hm,w3⟩:=hN σ3 H3 n3;exact⟨m',hm,σ3,H3,I3,w3⟩
  |brk=>exact q3
  |ret v=>exact q3
 |false =>
  rw[if_neg Bool.false_ne_true];exact rM ⟨σ1,H2,I2,q2⟩
end
structure It where
 go:Nat->Hp->Prop
 gW:Nat->Hp->V->Hp->Prop
 stop:Nat->Hp->Prop
noncomputable def bW(X:Cx)(pins:List (Addr × Obj))(H:Hp)(b:Addr):Prop:=
 H b=none/\b≠X.env.locals/\b ∉ X.fs/\(b∈X.ex\/X.s₀.heap.objs.size<=b)/\(∀x c,X.env.cells.lookup x=some c->c≠b)/\∀p∈X.pn++pins,p.1≠b
theorem Inv.i_{X:Cx}{pins:List (Addr × Obj)}{σ:St}{H H':Hp}{s:Shared}{b:Addr}(I:Inv X pins σ H s)(hb:s.heap.objs.size<=b)(hn:H' b=none):bW X pins H' b:=by
 refine⟨hn,eK (cq I.lt hb),I.Kj hb,.inr (cH I.sz hb),λx c e z=>?_,λp hp z=>?_⟩
 ·obtain⟨v,q⟩:=I.cell x c e
  exact absurd (cq q.lt (by rw[z];exact hb)) (eJ _)
 ·exact absurd (cq (aG (I.pin p hp).1) (by rw[z];exact hb)) (eJ _)
structure Turn (P:Program) (w:World) (K:W.Frag) (tg:Expr) (J:It) (fp:List Addr) (it:Addr) (tn:Nat->Heap->Prop):Prop where
 mem:it∈fp
 obj:∀i h,tn i h->∀b∈fp,∃o,h.get? b=some o/\∀v,o.data≠.cell v
 keep:∀i h h',tn i h->(∀b∈fp,∀o,h.get? b=some o->h'.get? b=some o)->tn i h'
 item:∀(X:Cx),X.prog=P->X.w=w->X.K=K->X.calm=true->∀(i:Nat) (pins:List (Addr × Obj)) (s:Shared) (σ:St) (H:Hp) (E:Value->Shared->Prop),Inv X pins σ H s->(∀b∈fp,bW X pins H b)->tn i s.heap->J.go i H ->
  wpAny (model P w) X.A (pyNext (.ref it)) (λr s1=>∃u,r=some u /\
   wpAny (model P w) X.A (letOwnedTupleGo tg (.ref it) u) (λ_ s2=>∃x H',Inv X pins σ H' s2/\RelV x u/\J.gW i H x H'/\tn (i+1) s2.heap/\∀b∈fp,H' b=none) E s1) E s
 done:∀(X:Cx),X.prog=P->X.w=w->X.K=K->X.calm=true->∀(i:Nat) (pins:List (Addr × Obj)) (s:Shared) (σ:St) (H:Hp) (E:Value->Shared->Prop),Inv X pins σ H s->(∀b∈fp,bW X pins H b)->tn i s.heap->J.stop i H ->
  wpAny (model P w) X.A (pyNext (.ref it)) (λr s1=>r=none/\Inv X pins σ H s1) E s
 self:∀(A:Around) (i:Nat) (s:Shared) (Q:Value->Shared->Prop) (E:Value->Shared->Prop),tn i s.heap->Q (.ref it) s->wpAny (model P w) A (pyIter (.ref it)) Q E s
abbrev TI:=St->Hp->(It->Hp->Prop)->Prop
noncomputable def PIE(X:Cx)(pins:List (Addr × Obj))(σ:St)(tg:Expr)(R:It->Hp->Prop)(itv:Value)(s2:Shared):Prop:=
 ∃(it:Addr) (fp:List Addr) (tn:Nat->Heap->Prop) (J:It) (H':Hp),itv = .ref it/\Inv X pins σ H' s2/\Turn X.prog X.w X.K tg J fp it tn/\tn 0 s2.heap/\(∀b∈fp,bW X pins H' b)/\R J H'
noncomputable def PI(X:Cx)(tg iter:Expr)(wi:TI):Prop:=
 ∀(pins:List (Addr × Obj)) (s:Shared) (σ:St) (H:Hp) (R:It->Hp->Prop),Inv X pins σ H s->wi σ H R ->
  wpAny (model X.prog X.w) X.A (eval iter X.env) (λv s1=>wpAny (model X.prog X.w) X.A (pyIter v) (PIE X pins σ tg R) X.xe s1) X.xe s
theorem oS{M:Model}{A:Around}{E:Value->Shared->Prop}{s:Shared}{tg:Expr}{it:Addr}{u:Value}{o:Obj}{n:String}{vs:Array Value}{Q:Unit->Shared->Prop}(ho:s.heap.get? it=some o)(hc:o.cls = .type n)(hd:o.data = .fields vs)
  (hn:["enumerate","zip","dict_itemiterator","dict_reverseitemiterator","odict_iterator","itertools.zip_longest","itertools.pairwise"].contains n=false) (hQ:Q () s):wpAny M A (letOwnedTupleGo tg (.ref it) u) Q E s:=by
 unfold letOwnedTupleGo;cases tg<;>first
  |exact ah hQ
  | (cases u<;>first
    |exact ah hQ
    | (refine ae (wpAny_load ho ?_);rw[hc,hd];show wpAny M A (if(["enumerate","zip","dict_itemiterator","dict_reverseitemiterator","odict_iterator","itertools.zip_longest","itertools.pairwise"].contains n&&vs[0]?==some (rawInt _))=true then _ else _) Q E s;rw[if_neg (by intro h;rw[hn,qN]at h;cases h)];exact ah hQ))
noncomputable def g6(K:W.Frag)(a:Addr):It:=
 ⟨λi H=>∃xs x,ak K H a xs/\xs[i]?=some x,λi H x H'=>H'=H/\∀xs,ak K H a xs->xs[i]?=some x,λi H=>∃xs,ak K H a xs/\xs.length<=i⟩
noncomputable def iM(K:W.Frag)(a:Addr):It:=
 ⟨λi H=>∃xs x,az K H a xs/\xs[i]?=some x,λi H x H'=>H'=H/\∀xs,az K H a xs->xs[i]?=some x,λi H=>∃xs,az K H a xs/\xs.length<=i⟩
noncomputable def g9(lo:Int)(n:Nat):It:=⟨λi _=>i<n,λi H x H'=>H'=H/\x = .int (lo+i),λi _=>n<=i⟩
theorem O9{P:Program}{w:World}{K:W.Frag}{tg:Expr}(a it:Addr):Turn P w K tg (g6 K a) [it] it (λi h=>h.IsListIter it a i) where
 mem:=by simp
 obj:=λi h st b hb=>by
  have e:b=it:=by simpa using hb
  subst e;obtain⟨o,e,c,d⟩:=st;exact⟨o,e,λv z=>by rw[d]at z;cases z⟩
 keep:=λi h h' st k=>st.at λo e=>k it (by simp) o e
 item:=by
  intro X hP hw hK hc i pins s σ H E I hf st hg;subst hP hw hK;obtain⟨xs,x,hq,hx⟩:=hg;obtain⟨its,rv,p,hz⟩:=I.list hq;obtain⟨u,hu,ru⟩:=rv.get hx;obtain⟨f0,f1,f2,f3,f4,f5⟩:=hf it (by simp);refine wpAny_pyNext_list_item st p.isList (x:=u) (by simpa using hu) λh' st' sb=>?_;have I1:Inv X pins σ H {s with heap:=h'}:=I.turned (t':=s.toks) (λb o hb e=>(sb.2 b hb).trans e) f0 f1 f3 f4 f5;obtain⟨o,e,c,d⟩:=id st';exact⟨u,rfl,oS (s:={s with heap:=h'}) e c d (by decide) ⟨x,H,I1,ru,⟨rfl,λys hy=>by rw[I.zj hy hq];exact hx⟩,st',λb hb=>(hf b hb).1⟩⟩
 done:=by
  intro X hP hw hK hc i pins s σ H E I hf st hg;subst hP hw hK;obtain⟨xs,hq,hx⟩:=hg;obtain⟨its,rv,p,hz⟩:=I.list hq;obtain⟨f0,f1,f2,f3,f4,f5⟩:=hf it (by simp);have hl:=rv.length;exact wpAny_pyNext_list_end (I.ok.hd hc) st p.isList (by simp;omega) λh' eb=>⟨rfl,I.turned (t':=s.toks) (λb o hb e=>eb b o hb e) f0 f1 f3 f4 f5⟩
 self:=λ_ _ _ _ _ st h=>wpAny_pyIter_listiter st h
theorem Pb{P:Program}{w:World}{K:W.Frag}{tg:Expr}(a it:Addr):Turn P w K tg (iM K a) [it] it (λi h=>h.IsTupleIter it a i) where
 mem:=by simp
 obj:=λi h st b hb=>by
  have e:b=it:=by simpa using hb
  subst e;obtain⟨o,e,c,d⟩:=st;exact⟨o,e,λv z=>by rw[d]at z;cases z⟩
 keep:=λi h h' st k=>st.at λo e=>k it (by simp) o e
 item:=by
  intro X hP hw hK hc i pins s σ H E I hf st hg;subst hP hw hK;obtain⟨xs,x,hq,hx⟩:=hg;obtain⟨its,rv,p,hz⟩:=I.tuple hq;obtain⟨u,hu,ru⟩:=rv.get hx;obtain⟨f0,f1,f2,f3,f4,f5⟩:=hf it (by simp);refine wpAny_pyNext_tuple_item st (show s.heap.IsTuple a its.toArray from p) (x:=u) (by simpa using hu) λh' st' sb=>?_;have I1:Inv X pins σ H {s with heap:=h'}:=I.turned (t':=s.toks) (λb o hb e=>(sb.2 b hb).trans e) f0 f1 f3 f4 f5;obtain⟨o,e,c,d⟩:=id st';exact⟨u,rfl,oS (s:={s with heap:=h'}) e c d (by decide) ⟨x,H,I1,ru,⟨rfl,λys hy=>by rw[I.vw hy hq];exact hx⟩,st',λb hb=>(hf b hb).1⟩⟩
 done:=by
  intro X hP hw hK hc i pins s σ H E I hf st hg;subst hP hw hK;obtain⟨xs,hq,hx⟩:=hg;obtain⟨its,rv,p,hz⟩:=I.tuple hq;obtain⟨f0,f1,f2,f3,f4,f5⟩:=hf it (by simp);have hl:=rv.length;exact wpAny_pyNext_tuple_end (I.ok.hd hc) st (show s.heap.IsTuple a its.toArray from p) (by simp;omega) λh' eb=>⟨rfl,I.turned (t':=s.toks) (λb o hb e=>eb b o hb e) f0 f1 f3 f4 f5⟩
 self:=λ_ _ _ _ _ st h=>wpAny_pyIter_tupleiter st h
theorem O_{P:Program}{w:World}{K:PySem.W.Frag}{tg:Expr}(it:Addr)(lo:Int)(n:Nat):Turn P w K tg (g9 lo n) [it] it (λi h=>IsRangeIter h it (lo+(i:Nat)*1) ((n:Int) - (i:Nat)) 1) where
 mem:=by simp
 obj:=λi h st b hb=>by
  have e:b=it:=by simpa using hb
  subst e;exact⟨_,st,λv z=>by
   have z':Data.fields _=Data.cell v:=z;cases z'⟩
 keep:=λi h h' st k=>k it (by simp) _ st
 item:=by
  intro X hP hw hK hc i pins s σ H E I hf st hg;subst hP hw hK;obtain⟨f0,f1,f2,f3,f4,f5⟩:=hf it (by simp);have W:=Walks.range (prog:=X.prog) (w:=X.w) (I.ok.hd hc) it lo 1 n;refine W.item i s _ _ hg st λv h' tk hv st' kk=>?_;obtain⟨t,rfl⟩:=hv;have I1:Inv X pins σ H {s with heap:=h',toks:=tk}:=I.turned (λb o hb e=>kk b o (by simpa using hb) e) f0 f1 f3 f4 f5;refine⟨_,rfl,oS (s:={s with heap:=h',toks:=tk}) (n:= "range_iterator") st' rfl rfl (by decide) ⟨.int (lo+i),H,I1,⟨t,?_⟩,⟨rfl,rfl⟩,st',λb hb=>(hf b hb).1⟩⟩;rw[Int.mul_one]
 done:=by
  intro X hP hw hK hc i pins s σ H E I hf st hg;subst hP hw hK;obtain⟨f0,f1,f2,f3,f4,f5⟩:=hf it (by simp);exact wpAny_pyNext_range_end (I.ok.hd hc) st (by have:n<=i:=hg;omega) λh' eb=>⟨rfl,I.turned (t':=s.toks) (λb o hb e=>eb b o hb e) f0 f1 f3 f4 f5⟩
 self:=λ_ _ _ _ _ st h=>wpAny_pyIter_rangeiter st h
section
variable {X:Cx} {tg:Expr}
noncomputable def yw(K:W.Frag)(tl:TE):TI:=λσ H R=>tl σ H λx H1=>∃a,x = .ref a/\(∃xs,ak K H1 a xs)/\R (g6 K a) H1
noncomputable def yx(K:W.Frag)(tl:TE):TI:=λσ H R=>tl σ H λx H1=>∃a,x = .ref a/\(∃xs,az K H1 a xs)/\R (iM K a) H1
theorem L0{l:Expr}{tl:TE}(hl:PE X l tl):PI X tg l (yw X.K tl):=by
 intro pins s σ H R I h;refine ao (hl pins s σ H _ I h) λv s1 ⟨x,H1,I1,r1,q1⟩=>?_;obtain⟨a,e,⟨xs,hq⟩,q⟩:=q1;subst e;cases r1;obtain⟨its,rv,p,hz⟩:=I1.list hq;refine rQ p.isList ?_;refine⟨s1.heap.objs.size,[s1.heap.objs.size],_,_,H1,rfl,I1.kept (t':=s1.toks) λb o e=>au _ e,O9 a _,⟨_,aQ _ rfl,rfl,rfl⟩,λb hb=>?_,q⟩;have e:b=s1.heap.objs.size:=by simpa using hb
 subst e;exact I1.i_ (aB _) (I1.hok.fresh (aB _))
theorem L7{l:Expr}{tl:TE}(hl:PE X l tl):PI X tg l (yx X.K tl):=by
 intro pins s σ H R I h;refine ao (hl pins s σ H _ I h) λv s1 ⟨x,H1,I1,r1,q1⟩=>?_;obtain⟨a,e,⟨xs,hq⟩,q⟩:=q1;subst e;cases r1;obtain⟨its,rv,p,hz⟩:=I1.tuple hq;refine wpAny_pyIter_tuple (show s1.heap.IsTuple a its.toArray from p) ?_;refine⟨s1.heap.objs.size,[s1.heap.objs.size],_,_,H1,rfl,I1.kept (t':=s1.toks) λb o e=>au _ e,Pb a _,⟨_,aQ _ rfl,rfl,rfl⟩,λb hb=>?_,q⟩;have e:b=s1.heap.objs.size:=by simpa using hb
 subst e;exact I1.i_ (aB _) (I1.hok.fresh (aB _))
theorem Be{pins:List (Addr × Obj)}{σ:St}{H:Hp}{s:Shared}{R:It->Hp->Prop}{E:Value->Shared->Prop}{lo hi:Int}{t u v:Tok}{tk:Nat}(I:Inv X pins σ H s)(h1:-(2 ^ 62)<=lo)(h2:lo<2 ^ 62)(h3:-(2 ^ 62)<=hi)(h4:hi<2 ^ 62)
  (q:R (g9 lo (hi - lo).toNat) H):wpAny (model X.prog X.w) X.A (pyIter (.ref s.heap.objs.size)) (PIE X pins σ tg R) E {s with heap:=s.heap.push {cls:=.type "range", data:=.fields #[.int lo t,.int hi u,.int 1 v]},toks:=tk}:=by
 refine wpAny_pyIter_range (IsRange.new ..) (small_one h1 h2 h3 h4) ?_;have I1:Inv X pins σ H {s with heap:=s.heap.push {cls:=.type "range", data:=.fields #[.int lo t,.int hi u,.int 1 v]},toks:=tk}:=I.kept λb o e=>au _ e;refine⟨(s.heap.push {cls:=.type "range", data:=.fields #[.int lo t,.int hi u,.int 1 v]}).objs.size,[(s.heap.push {cls:=.type "range", data:=.fields #[.int lo t,.int hi u,.int 1 v]}).objs.size],_,_,H,rfl,
  I1.kept (t':=tk) λb o e=>au _ e,O_ _ lo (hi - lo).toNat,?_,λb hb=>?_,q⟩
 ·have e1:lo+((0:Nat):Int)*1=lo:=by simp
  have e2:(((hi - lo).toNat:Nat):Int) - ((0:Nat):Int)=Builtin.Range.rangeSize lo hi 1:=by rw[rangeSize_one];split<;>omega
  show IsRangeIter _ _ (lo+((0:Nat):Int)*1) ((((hi - lo).toNat:Nat):Int) - ((0:Nat):Int)) 1;rw[e1,e2];exact aQ _ rfl
 ·have e:b=(s.heap.push {cls:=.type "range", data:=.fields #[.int lo t,.int hi u,.int 1 v]}).objs.size:=by simpa using hb
  subst e;exact I1.i_ (aB _) (I1.hok.fresh (aB _))
noncomputable def tQ(ta:TA):TI:=λσ H R=>ta σ H λvs H1=>∃j:Int,vs = [.int j]/\-(2 ^ 62)<=j/\j<2 ^ 62/\R (g9 0 j.toNat) H1
noncomputable def Im(ta:TA):TI:=λσ H R=>ta σ H λvs H1=>∃i j:Int,vs = [.int i,.int j]/\(-(2 ^ 62)<=i/\i<2 ^ 62/\-(2 ^ 62)<=j/\j<2 ^ 62)/\R (g9 i (j - i).toNat) H1
theorem dM {a:Expr} {ta:TA} {p pos:Pos} (hg:Gl X "range") (hm:X.mg "range" = none) (ha:PA X [a] ta) (hs:starEach [a] X.env = [(false,eval a X.env)]:=by rfl):PI X tg (.Call (.Name "range" p) [a] [] pos) (tQ ta):=by
 intro pins s σ H R I h;refine Call_ (gD I hg hm boot_range (k8 (ao (ha pos pins s σ H _ I h) λus s1 ⟨vs,H1,I1,r1,q1⟩=>?_) hs rfl));obtain⟨j,e,q1,q2,q⟩:=q1;subst e;cases r1 with
 |cons r rr =>
  cases rr;obtain⟨t,rfl⟩:=r;exact call_range_1 (Be I1 (by omega) (by omega) q1 q2 (by simpa using q))
theorem Ar {a b:Expr} {ta:TA} {p pos:Pos} (hg:Gl X "range") (hm:X.mg "range" = none) (ha:PA X [a,b] ta) (hs:starEach [a,b] X.env = [(false,eval a X.env),(false,eval b X.env)]:=by rfl) (hs2:starEach [b] X.env = [(false,eval b X.env)]:=by rfl) :
  PI X tg (.Call (.Name "range" p) [a,b] [] pos) (Im ta):=by
 intro pins s σ H R I h;refine Call_ (gD I hg hm boot_range (k8 (ao (ha pos pins s σ H _ I h) λus s1 ⟨vs,H1,I1,r1,q1⟩=>?_) (by rw[hs,hs2]) (by rw[hs2];rfl)));obtain⟨i,j,e,⟨q1,q2,q3,q4⟩,q⟩:=q1;subst e;cases r1 with
 |cons r rr =>
  cases rr with
  |cons r' rr =>
   cases rr;obtain⟨t,rfl⟩:=r;obtain⟨t',rfl⟩:=r';exact call_range_2 (Be I1 q1 q2 q3 q4 q)
noncomputable def vq(wi:TI)(g:TG)(tb:TS):TS:=λD σ H=>wi σ H λJ H1=>∃W:Nat->Nat->St->Hp->Prop,(∃m,W 0 m σ H1)/\∀i m σ H,W i m σ H ->
 (J.stop i H/\D.nx σ H)\/(J.go i H/\∃N:St->Hp->Prop,(∀σ' H',N σ' H'->∃m',m'<m/\W (i+1) m' σ' H')/\∀x H',J.gW i H x H'->g x σ H' λσ2 H2=>tb {D with nx:=N,ct:=N,bk:=D.nx} σ2 H2)
noncomputable def mD(fp:List Addr)(h:Heap):List (Addr × Obj):=fp.filterMap λb=>(h.get? b).map λo=>(b,o)
theorem o9{fp:List Addr}{h:Heap}{b:Addr}{o:Obj}(hb:b∈fp)(e:h.get? b=some o):(b,o)∈mD fp h:=List.mem_filterMap.mpr ⟨b,hb,by rw[e];rfl⟩
theorem Kq{fp:List Addr}{h:Heap}{p:Addr × Obj}(hp:p∈mD fp h):p.1∈fp/\h.get? p.1=some p.2:=by
 obtain⟨b,hb,e⟩:=List.mem_filterMap.mp hp;cases q:h.get? b with
 |none=>rw[q]at e;cases e
 |some o =>
  rw[q]at e;have e':(b,o)=p:=dC e;subst e';exact⟨hb,q⟩
theorem Inv.pinned{pins:List (Addr × Obj)}{σ:St}{H:Hp}{s:Shared}{fp:List Addr}(I:Inv X pins σ H s)(hf:∀b∈fp,bW X pins H b)(ho:∀b∈fp,∃o,s.heap.get? b=some o/\∀v,o.data≠.cell v):Inv X (pins++mD fp s.heap) σ H s:=
 I.pN λp hp=>(hV.mp hp).elim (λz=>I.pin p (dS _ z)) λz=>by
  obtain⟨hb,e⟩:=Kq z;obtain⟨f0,f1,f2,_⟩:=hf p.1 hb;obtain⟨o,e',d⟩:=ho p.1 hb;rw[e]at e';cases e';exact⟨e,f0,f1,f2,d⟩
theorem Inv.qD{pins pl:List (Addr × Obj)}{σ:St}{H:Hp}{s:Shared}(I:Inv X (pins++pl) σ H s):Inv X pins σ H s:=I.pN λp hp=>I.pin p (dS _ (List.mem_append_left _ hp))
theorem cD{iter:Expr}{body:List Stmt}{wi:TI}{g:TG}{tb:TS}{pos:Pos}(hp:PassesOwn (model X.prog X.w) X.A X.env X.xe)(hc:X.calm=true)(hi:PI X tg iter wi)(hg:PG X tg g)(hb:dD X body tb)(hs:∀x,foldedSetIterable iter X.env x=pure x:=by intro _;rfl):PS X (.For tg iter body [] pos) (vq wi g tb):=by
 intro pins s σ H D I h;refine wpAny_For (ao (hi pins s σ H _ I h) λv s1 h1=>ao h1 λitv s2 h2=>?_) hs;obtain⟨it,fp,tn,J,H2,e,I2,T,st2,f2,W,⟨m0,w0⟩,turn⟩:=h2;subst e;have stat:∀{H':Hp},(∀b∈fp,H' b=none)->∀b∈fp,bW X pins H' b:=λhn b hb=>⟨hn b hb,(f2 b hb).2⟩;refine codeAny_forLoop_any (λn s'=>∃i σ' H',Inv X pins σ' H' s'/\tn i s'.heap/\(∀b∈fp,H' b=none)/\W i n σ' H') ?_ m0 ⟨0,σ,H2,I2,st2,λb hb=>(f2 b hb).1,w0⟩;rintro n s3 ⟨i,σ3,H3,I3,st3,lS,w3⟩
 rcases turn i n σ3 H3 w3 with⟨stop,qn⟩|⟨go,N,hN,step⟩
 ·refine jK hp (ao (T.done X rfl rfl rfl hc i pins s3 σ3 H3 X.xe I3 (stat lS) st3 stop) λr s4 ⟨hr,I4⟩=>?_)
  subst hr;exact rM ⟨σ3,H3,I4,qn⟩
 ·refine jK hp (ao (T.item X rfl rfl rfl hc i pins s3 σ3 H3 X.xe I3 (stat lS) st3 go) λr s4 ⟨u,hr,h4⟩=>?_)
  subst hr;refine jK hp (ao h4 λ_ s5 ⟨x,H5,I5,r5,y5,fN,tE⟩=>?_);have qQ:=I5.pinned (stat tE) (T.obj _ _ fN);refine jK hp (ao (hg _ s5 σ3 H5 x u _ qQ r5 (step x H5 y5)) λ_ s6 ⟨σ6,H6,I6,q6⟩=>?_);refine jK hp (ao (hb _ s6 σ6 H6 _ I6 q6) λf s7 q7=>?_);have again:∀{σ7:St} {H7:Hp},Inv X (pins++mD fp s5.heap) σ7 H7 s7->N σ7 H7->∃m,m<n/\∃i σ' H',Inv X pins σ' H' s7/\tn i s7.heap/\(∀b∈fp,H' b=none)/\W i m σ' H':=λ{σ7 H7} I7 n7=>by
   obtain⟨m',hm,w7⟩:=hN σ7 H7 n7;refine⟨m',hm,i+1,σ7,H7,I7.qD,T.keep _ _ _ fN λb hb o e=>(I7.pin (b,o) (dS _ (dS _ (o9 hb e)))).1,λb hb=>?_,w7⟩;obtain⟨o,e,d⟩:=T.obj _ _ fN b hb;exact(I7.pin (b,o) (dS _ (dS _ (o9 hb e)))).2.1
  cases f with
  |next=>obtain⟨σ7,H7,I7,n7⟩:=q7;exact again I7 n7
  |cont=>obtain⟨σ7,H7,I7,n7⟩:=q7;exact again I7 n7
  |brk=>obtain⟨σ7,H7,I7,q7⟩:=q7;exact⟨σ7,H7,I7.qD,q7⟩
  |ret v=>obtain⟨x7,σ7,H7,I7,r7,q7⟩:=q7;exact⟨x7,σ7,H7,I7.qD,r7,q7⟩
end
theorem lR{K:PySem.W.Frag}{a:Addr}{xs:List V}{g:TG}{tb:TS}{D:Ends}{σ:St}{H:Hp}(Pv:Nat->St->Hp->Prop)(h0:Pv 0 σ H)(hl:∀i σ H,i<=xs.length->Pv i σ H->ak K H a xs)
  (hs:∀i x σ H,xs[i]?=some x->Pv i σ H->g x σ H λσ2 H2=>tb {D with nx:=Pv (i+1),ct:=Pv (i+1),bk:=D.nx} σ2 H2) (hd:∀σ H,Pv xs.length σ H->D.nx σ H) :
  ∃W:Nat->Nat->St->Hp->Prop,(∃m,W 0 m σ H)/\∀i m σ H,W i m σ H ->
   ((g6 K a).stop i H/\D.nx σ H)\/((g6 K a).go i H/\∃N:St->Hp->Prop,(∀σ' H',N σ' H'->∃m',m'<m/\W (i+1) m' σ' H')/\∀x H',(g6 K a).gW i H x H'->g x σ H' λσ2 H2=>tb {D with nx:=N,ct:=N,bk:=D.nx} σ2 H2):=by
 refine⟨λi m σ H=>m=xs.length - i/\i<=xs.length/\Pv i σ H,⟨xs.length,by simp,bE _,h0⟩,?_⟩;rintro i m σ H ⟨rfl,hi,p⟩;have q:=hl i σ H hi p
 by_cases hlt:i<xs.length
 ·refine .inr ⟨⟨xs,xs[i],q,by simp[hlt]⟩,Pv (i+1),λσ' H' p'=>⟨xs.length - (i+1),by omega,rfl,hlt,p'⟩,λx H' y=>?_⟩
  obtain⟨e,y⟩:=y;subst e;exact hs i x σ _ (y xs q) p
 ·have e:i=xs.length:=by omega
  subst e;exact .inl ⟨⟨xs,q,aB _⟩,hd σ H p⟩
theorem xQ{K:PySem.W.Frag}{a:Addr}{xs:List V}{g:TG}{tb:TS}{D:Ends}{σ:St}{H:Hp}(Pv:Nat->St->Hp->Prop)(h0:Pv 0 σ H)(hl:∀i σ H,i<=xs.length->Pv i σ H->az K H a xs)
  (hs:∀i x σ H,xs[i]?=some x->Pv i σ H->g x σ H λσ2 H2=>tb {D with nx:=Pv (i+1),ct:=Pv (i+1),bk:=D.nx} σ2 H2) (hd:∀σ H,Pv xs.length σ H->D.nx σ H) :
  ∃W:Nat->Nat->St->Hp->Prop,(∃m,W 0 m σ H)/\∀i m σ H,W i m σ H ->
   ((iM K a).stop i H/\D.nx σ H)\/((iM K a).go i H/\∃N:St->Hp->Prop,(∀σ' H',N σ' H'->∃m',m'<m/\W (i+1) m' σ' H')/\∀x H',(iM K a).gW i H x H'->g x σ H' λσ2 H2=>tb {D with nx:=N,ct:=N,bk:=D.nx} σ2 H2):=by
 refine⟨λi m σ H=>m=xs.length - i/\i<=xs.length/\Pv i σ H,⟨xs.length,by simp,bE _,h0⟩,?_⟩;rintro i m σ H ⟨rfl,hi,p⟩;have q:=hl i σ H hi p
 by_cases hlt:i<xs.length
 ·refine .inr ⟨⟨xs,xs[i],q,by simp[hlt]⟩,Pv (i+1),λσ' H' p'=>⟨xs.length - (i+1),by omega,rfl,hlt,p'⟩,λx H' y=>?_⟩
  obtain⟨e,y⟩:=y;subst e;exact hs i x σ _ (y xs q) p
 ·have e:i=xs.length:=by omega
  subst e;exact .inl ⟨⟨xs,q,aB _⟩,hd σ H p⟩
theorem gq{lo:Int}{n:Nat}{g:TG}{tb:TS}{D:Ends}{σ:St}{H:Hp}(Pv:Nat->St->Hp->Prop)(h0:Pv 0 σ H)
  (hs:∀i σ H,i<n->Pv i σ H->g (.int (lo+i)) σ H λσ2 H2=>tb {D with nx:=Pv (i+1),ct:=Pv (i+1),bk:=D.nx} σ2 H2) (hd:∀σ H,Pv n σ H->D.nx σ H) :
  ∃W:Nat->Nat->St->Hp->Prop,(∃m,W 0 m σ H)/\∀i m σ H,W i m σ H ->
   ((g9 lo n).stop i H/\D.nx σ H)\/((g9 lo n).go i H/\∃N:St->Hp->Prop,(∀σ' H',N σ' H'->∃m',m'<m/\W (i+1) m' σ' H')/\∀x H',(g9 lo n).gW i H x H'->g x σ H' λσ2 H2=>tb {D with nx:=N,ct:=N,bk:=D.nx} σ2 H2):=by
 refine⟨λi m σ H=>m=n - i/\i<=n/\Pv i σ H,⟨n,by simp,bE _,h0⟩,?_⟩;rintro i m σ H ⟨rfl,hi,p⟩
 by_cases hlt:i<n
 ·refine .inr ⟨hlt,Pv (i+1),λσ' H' p'=>⟨n - (i+1),by omega,rfl,hlt,p'⟩,λx H' y=>?_⟩
  obtain⟨e,y⟩:=y;subst e y;exact hs i σ _ hlt p
 ·have e:i=n:=by omega
  subst e;exact .inl ⟨aB _,hd σ H p⟩
abbrev R2:=V->V->Hp->VK->Prop
noncomputable def bj(X:Cx)(f:Value->Value->Sem Value)(r:R2):Prop:=
 ∀(pins:List (Addr × Obj)) (s:Shared) (σ:St) (H:Hp) (x y:V) (v u:Value) (Q:VK),Inv X pins σ H s->RelV x v->RelV y u->r x y H Q ->
  wpAny (model X.prog X.w) X.A (f v u) (EP X pins σ Q) X.xe s
noncomputable def cV(X:Cx)(f:Value)(r:List V->Hp->VK->Prop):Prop:=
 ∀(pins:List (Addr × Obj)) (s:Shared) (σ:St) (H:Hp) (xs:List V) (us:List Value) (Q:VK),Inv X pins σ H s->Vals xs us->r xs H Q ->
  wpAny (model X.prog X.w) X.A (call f us) (EP X pins σ Q) X.xe s
noncomputable def gQ(r:R2)(ta tb:TE):TE:=λσ H Q=>ta σ H λx H1=>tb σ H1 λy H2=>r x y H2 Q
noncomputable def rI(C:Int->Int->Prop)(g:Int->Int->V):R2:=λx y H Q=>∃i j,x = .int i/\y = .int j/\C i j/\Q (g i j) H
noncomputable def gN(g:Int->Int->V):R2:=λx y H Q=>∃i j,x = .int i/\y = .int j/\Q (g i j) H
section
variable {X:Cx} {a b c:Expr} {ta tb tc:TE} {pos:Pos}
theorem se(ha:PE X a ta)(hb:PE X b tb){pins:List (Addr × Obj)}{s:Shared}{σ:St}{H:Hp}{R:V->V->Hp->Prop}(I:Inv X pins σ H s)(h:ta σ H λx H1=>tb σ H1 λy H2=>R x y H2){Q:Value->Shared->Prop}{f:Value->Value->Sem Value}(hf:∀v u s2 x y H2,Inv X pins σ H2 s2->RelV x v->RelV y u->R x y H2->wpAny (model X.prog X.w) X.A (f v u) Q X.xe s2):wpAny (model X.prog X.w) X.A (eval a X.env) (λv s₁=>wpAny (model X.prog X.w) X.A (eval b X.env) (λu s₂=>wpAny (model X.prog X.w) X.A (f v u) Q X.xe s₂) X.xe s₁) X.xe s:=by
 refine ao (ha pins s σ H _ I h) λv s1 ⟨x,H1,I1,r1,q1⟩=>?_;refine ao (hb pins s1 σ H1 _ I1 q1) λu s2 ⟨y,H2,I2,r2,q2⟩=>?_;exact hf v u s2 x y H2 I2 r1 r2 q2
theorem bD{op:Operator}{r:R2}(ho:bj X (binaryOp op) r)(ha:PE X a ta)(hb:PE X b tb):PE X (.BinOp a op b pos) (gQ r ta tb):=by
 intro pins s σ H Q I h;exact wpAny_BinOp (se ha hb I h λv u s2 x y H2 I2 rx ry q=>ho pins s2 σ H2 x y v u Q I2 rx ry q)
theorem kh{f:Value->Value->Sem Value}{C:Int->Int->Prop}{g:Int->Int->Int}
  (rule:∀(i j:Int) (t u:Tok) (s:Shared) (Q:Value->Shared->Prop) (E:Value->Shared->Prop),C i j->Q (.int (g i j) s.toks) {s with toks:=s.toks+1}->wpAny (model X.prog X.w) X.A (f (.int i t) (.int j u)) Q E s) :
  bj X f (rI C λi j=>.int (g i j)):=by
 intro pins s σ H x y v u Q I rx ry h;obtain⟨i,j,rfl,rfl,hc,q⟩:=h;obtain⟨t,rfl⟩:=rx;obtain⟨t',rfl⟩:=ry;exact rule i j t t' s _ _ hc ⟨.int (g i j),H,I.tok _,⟨_,rfl⟩,q⟩
theorem pC{f:Value->Value->Sem Value}{g:Int->Int->Int}
  (rule:∀(i j:Int) (t u:Tok) (s:Shared) (Q:Value->Shared->Prop) (E:Value->Shared->Prop),Q (.int (g i j) s.toks) {s with toks:=s.toks+1}->wpAny (model X.prog X.w) X.A (f (.int i t) (.int j u)) Q E s) :
  bj X f (gN λi j=>.int (g i j)):=by
 intro pins s σ H x y v u Q I rx ry h;obtain⟨i,j,rfl,rfl,q⟩:=h;obtain⟨t,rfl⟩:=rx;obtain⟨t',rfl⟩:=ry;exact rule i j t t' s _ _ ⟨.int (g i j),H,I.tok _,⟨_,rfl⟩,q⟩
theorem ur{f:Value->Value->Sem Value}{g:Int->Int->Bool}(rule:∀(i j:Int) (t u:Tok) (s:Shared) (Q:Value->Shared->Prop) (E:Value->Shared->Prop),Q (.bool (g i j)) s->wpAny (model X.prog X.w) X.A (f (.int i t) (.int j u)) Q E s):bj X f (gN λi j=>.bl (g i j)):=by
 intro pins s σ H x y v u Q I rx ry h;obtain⟨i,j,rfl,rfl,q⟩:=h;obtain⟨t,rfl⟩:=rx;obtain⟨t',rfl⟩:=ry;exact rule i j t t' s _ _ ⟨.bl (g i j),H,I,rfl,q⟩
noncomputable def DN(i j:Int):Prop:=0<j/\j<1073741824
noncomputable def mX(i j:Int):Prop:=0<=j/\j<=1000000/\i.natAbs<2 ^ 64
noncomputable def mW(i j:Int):Prop:=(-(2 ^ 64)<i/\i<2 ^ 64)\/(-(2 ^ 64)<j/\j<2 ^ 64)
theorem mW.ok{i j:Int}(h:mW i j):IntMulOk i j:=by
 rcases h with⟨h1,h2⟩|⟨h1,h2⟩
 ·exact .of_left (intBits_le_64 h1 h2)
 ·exact .of_right (intBits_le_64 h1 h2)
theorem Ph(k:Nat):(0:Int)<=2 ^ k:=by
 rw[two_pow_cast];exact Int.natCast_nonneg _
theorem ki:bj X (binaryOp .Add) (gN λi j=>.int (i+j)):=pC λ_ _ _ _ _ _ _ q=>add_int q
theorem K9:bj X (binaryOp .Sub) (gN λi j=>.int (i - j)):=pC λ_ _ _ _ _ _ _ q=>sub_int q
theorem mx:bj X (binaryOp .Mult) (rI mW λi j=>.int (i*j)):=kh λ_ _ _ _ _ _ _ hc q=>mul_int q hc.ok
theorem Ac:bj X (binaryOp .FloorDiv) (rI DN λi j=>.int (i / j)):=kh λi j _ _ _ _ _ hc q=>by
 have h1:(0:Int)<j:=hc.1;have h2:j<1073741824:=hc.2;exact floordiv_int (by omega) (by rw[DR i (by omega)];exact q) (.inl (PyProof.noPylong_small (by omega)))
theorem km:bj X (binaryOp .Mod) (rI (λ_ j=>0<j) λi j=>.int (i % j)):=kh λi j _ _ _ _ _ hc q=>by
 have h1:(0:Int)<j:=hc;exact mod_int' (by omega) (by rw[Int.fmod_eq_emod_of_nonneg i (by omega)];exact q)
theorem K7:bj X (binaryOp .Pow) (rI mX λi j=>.int (i ^ j.toNat)):=kh λ_ _ _ _ _ _ _ hc q=>pow_int_small hc.1 hc.2.1 hc.2.2 q
theorem uw:bj X (binaryOp .LShift) (rI mX λi j=>.int (i*2 ^ j.toNat)):=kh λ_ _ _ _ _ _ _ hc q=>lshift_int_small hc.1 hc.2.1 hc.2.2 q
theorem K8:bj X (binaryOp .RShift) (rI (λ_ j=>0<=j) λi j=>.int (i / 2 ^ j.toNat)):=kh λi j _ _ _ _ _ hc q =>
 rshift_int hc (by rw[DR i (Ph _)];exact q)
theorem KS:bj X (binaryOp .BitAnd) (gN λi j=>.int (Builtin.bitAnd i j)):=pC λ_ _ _ _ _ _ _ q=>and_int q
theorem Ae:bj X (binaryOp .BitXor) (gN λi j=>.int (Builtin.bitXor i j)):=pC λ_ _ _ _ _ _ _ q=>xor_int q
end
noncomputable def Cq:V->V->Bool
 |.non,.non=>true | .non,.int _=>true | .int _,.non=>true | .non,.bl _=>true | .bl _,.non=>true | .non,.str _=>true | .str _,.non=>true
 |.int _,.int _=>true | .bl _,.bl _=>true | .str _,.str _=>true | .eO _,.eO _=>true
 |.int _,.str _=>true | .str _,.int _=>true | .bl _,.str _=>true | .str _,.bl _=>true
 |_,_=>false
noncomputable def Mw:R2:=λx y H Q=>Cq x y=true/\Q (.bl (decide (x=y))) H
noncomputable def Bc:R2:=λx y H Q=>Cq x y=true/\Q (.bl (!decide (x=y))) H
theorem xq{i j:Int}:decide (V.int i=V.int j)=(i==j):=by
 rw[dR];simp
theorem xn{i j:Bool}:decide (V.bl i=V.bl j)=(i==j):=by
 rw[dR];simp
theorem xr{i j:Str}:decide (V.str i=V.str j)=(i==j):=by
 rw[dR];simp
theorem xo{i j:Array UInt8}:decide (V.eO i=V.eO j)=(i.toList==j.toList):=by
 rw[dR];cases i;cases j;simp
section
variable {X:Cx} {a b c:Expr} {ta tb tc:TE} {pos:Pos}
theorem bw{pins:List (Addr × Obj)}{σ:St}{H:Hp}{s:Shared}{Q:VK}{k k':Bool}(I:Inv X pins σ H s)(q:Q (.bl k) H)(e:k=k'):EP X pins σ Q (.bool k') s:=by
 subst e;exact⟨.bl k,H,I,rfl,q⟩
theorem kj:bj X (compareOp .Eq) Mw:=by
 intro pins s σ H x y v u Q I rx ry h;obtain⟨hs,q⟩:=h;cases x with
 |non =>
  cases rx;cases y with
  |non=>cases ry;exact PySem.EqNone.eq_none_none (bw I q (by simp))
  |bl j=>cases ry;exact PySem.EqNone.eq_none_bool (bw I q (by simp))
  |int j=>obtain⟨t',rfl⟩:=ry;exact PySem.EqNone.eq_none_int (bw I q (by simp))
  |str j=>obtain⟨t',rfl⟩:=ry;exact PySem.EqNone.eq_none_str (bw I q (by simp))
  |_=>exact absurd (show false=true from hs) Bool.false_ne_true
 |bl i =>
  cases rx;cases y with
  |non=>cases ry;exact PySem.EqNone.eq_bool_none (bw I q (by simp))
  |bl j=>cases ry;exact eq_bool (bw I q xn)
  |str j=>obtain⟨t',rfl⟩:=ry;exact PySem.EqMixed.eq_bool_str (bw I q (by simp))
  |_=>exact absurd (show false=true from hs) Bool.false_ne_true
 |int i =>
  obtain⟨t,rfl⟩:=rx;cases y with
  |non=>cases ry;exact PySem.EqNone.eq_int_none (bw I q (by simp))
  |int j=>obtain⟨t',rfl⟩:=ry;exact eq_int (bw I q xq)
  |str j=>obtain⟨t',rfl⟩:=ry;exact PySem.EqMixed.eq_int_str (bw I q (by simp))
  |_=>exact absurd (show false=true from hs) Bool.false_ne_true
 |str i =>
  obtain⟨t,rfl⟩:=rx;cases y with
  |non=>cases ry;exact PySem.EqNone.eq_str_none (bw I q (by simp))
  |bl j=>cases ry;exact PySem.EqMixed.eq_str_bool (bw I q (by simp))
  |int j=>obtain⟨t',rfl⟩:=ry;exact PySem.EqMixed.eq_str_int (bw I q (by simp))
  |str j=>obtain⟨t',rfl⟩:=ry;exact eq_str (bw I q xr)
  |_=>exact absurd (show false=true from hs) Bool.false_ne_true
 |eO i =>
  obtain⟨t,rfl⟩:=rx;cases y with
  |eO j=>obtain⟨t',rfl⟩:=ry;exact W.eq_bytes (bw I q xo)
  |_=>exact absurd (show false=true from hs) Bool.false_ne_true
 |_=>cases y<;>exact absurd (show false=true from hs) Bool.false_ne_true
theorem my:bj X (compareOp .NotEq) Bc:=by
 intro pins s σ H x y v u Q I rx ry h;obtain⟨hs,q⟩:=h;cases x with
 |non =>
  cases rx;cases y with
  |non=>cases ry;exact PySem.EqNone.ne_none_none (bw I q (by simp))
  |bl j=>cases ry;exact PySem.EqNone.ne_none_bool (bw I q (by simp))
  |int j=>obtain⟨t',rfl⟩:=ry;exact PySem.EqNone.ne_none_int (bw I q (by simp))
  |str j=>obtain⟨t',rfl⟩:=ry;exact PySem.EqNone.ne_none_str (bw I q (by simp))
  |_=>exact absurd (show false=true from hs) Bool.false_ne_true
 |bl i =>
  cases rx;cases y with
  |non=>cases ry;exact PySem.EqNone.ne_bool_none (bw I q (by simp))
  |bl j=>cases ry;exact ne_bool (bw I q (congrArg not xn))
  |str j=>obtain⟨t',rfl⟩:=ry;exact PySem.EqMixed.ne_bool_str (bw I q (by simp))
  |_=>exact absurd (show false=true from hs) Bool.false_ne_true
 |int i =>
  obtain⟨t,rfl⟩:=rx;cases y with
  |non=>cases ry;exact PySem.EqNone.ne_int_none (bw I q (by simp))
  |int j=>obtain⟨t',rfl⟩:=ry;exact ne_int (bw I q (congrArg not xq))
  |str j=>obtain⟨t',rfl⟩:=ry;exact PySem.EqMixed.ne_int_str (bw I q (by simp))
  |_=>exact absurd (show false=true from hs) Bool.false_ne_true
 |str i =>
  obtain⟨t,rfl⟩:=rx;cases y with
  |non=>cases ry;exact PySem.EqNone.ne_str_none (bw I q (by simp))
  |bl j=>cases ry;exact PySem.EqMixed.ne_str_bool (bw I q (by simp))
  |int j=>obtain⟨t',rfl⟩:=ry;exact PySem.EqMixed.ne_str_int (bw I q (by simp))
  |str j=>obtain⟨t',rfl⟩:=ry;exact ne_str (bw I q (congrArg not xr))
  |_=>exact absurd (show false=true from hs) Bool.false_ne_true
 |eO i =>
  obtain⟨t,rfl⟩:=rx;cases y with
  |eO j=>obtain⟨t',rfl⟩:=ry;exact W.ne_bytes (bw I q (congrArg not xo))
  |_=>exact absurd (show false=true from hs) Bool.false_ne_true
 |_=>cases y<;>exact absurd (show false=true from hs) Bool.false_ne_true
theorem uv:bj X (compareOp .Lt) (gN λi j=>.bl (decide (i<j))):=ur λ_ _ _ _ _ _ _ q=>lt_int q
theorem pE:bj X (compareOp .LtE) (gN λi j=>.bl (decide (i<=j))):=ur λ_ _ _ _ _ _ _ q=>le_int q
theorem KZ:bj X (compareOp .GtE) (gN λi j=>.bl (decide (j<=i))):=ur λ_ _ _ _ _ _ _ q=>ge_int q
theorem pD:bj X (compareOp .Is) (λx y H Q=>y = .non/\Q (.bl (decide (x = .non))) H):=by
 intro pins s σ H x y v u Q I rx ry h;obtain⟨rfl,q⟩:=h;cases ry;refine is_none_gen (bw I q ?_);cases x<;>first
  | (cases rx;rfl)
  | (obtain⟨t,rfl⟩:=rx;rfl)
theorem cL(b:Expr){op:CmpOp}(h:op≠.In:=by decide)(h2:op≠.NotIn:=by decide):behindInMarks op b=false:=by
 have e1:(op==CmpOp.In)=false:=by cases op<;>first|rfl|exact absurd rfl h
 have e2:(op==CmpOp.NotIn)=false:=by cases op<;>first|rfl|exact absurd rfl h2
 cases b<;>simp[behindInMarks,e1,e2]
theorem jj{op:CmpOp}{r:R2}(ho:bj X (compareOp op) r)(ha:PE X a ta)(hb:PE X b tb)(hm:behindInMarks op b=false):PE X (.Compare a [op] [b] pos) (gQ r ta tb):=by
 intro pins s σ H Q I h;exact wpAny_Compare1 (se ha hb I h λv u s2 x y H2 I2 rx ry q=>ho pins s2 σ H2 x y v u Q I2 rx ry q) hm
noncomputable def vu(t:TE):TT:=λσ H Q=>t σ H λx H'=>∃k,x = .bl k/\Q k H'
theorem dO{op:CmpOp}{r:R2}(ho:bj X (compareOp op) r)(ha:PE X a ta)(hb:PE X b tb)(hm:behindInMarks op b=false):PT X (.Compare a [op] [b] pos) (vu (gQ r ta tb)):=by
 intro pins s σ H Q I h;refine wpAny_isTrue_Compare1 (ao (ha pins s σ H _ I h) λv s1 ⟨x,H1,I1,r1,q1⟩=>ao (hb pins s1 σ H1 _ I1 q1) λu s2 ⟨y,H2,I2,r2,q2⟩ =>
  ao (ho pins s2 σ H2 x y v u _ I2 r1 r2 q2) λc s3 ⟨z,H3,I3,r3,k,e,q3⟩=>?_) hm
 subst e;cases r3;exact fE ⟨H3,I3,q3⟩
noncomputable def C_(r r':R2)(ta tb tc:TE):TE:=λσ H Q=>ta σ H λx H1=>tb σ H1 λy H2=>r x y H2 λz H3=>∃k,z = .bl k /\
 (if k=true then tc σ H3 λw' H4=>r' y w' H4 Q else Q (.bl false) H3)
theorem Lq{op op':CmpOp}{r r':R2}(ho:bj X (compareOp op) r)(ho':bj X (compareOp op') r')(ha:PE X a ta)(hb:PE X b tb)(hc:PE X c tc)(hm:lastMarks [op,op'] [b,c]=false:=by with_unfolding_all rfl):PE X (.Compare a [op,op'] [b,c] pos) (C_ r r' ta tb tc):=by
 intro pins s σ H Q I h;refine Compare_chain (ao (ha pins s σ H _ I h) λv s1 ⟨x,H1,I1,r1,q1⟩=>chain_link (ao (hb pins s1 σ H1 _ I1 q1) λu s2 ⟨y,H2,I2,r2,q2⟩ =>
  ao (ho pins s2 σ H2 x y v u _ I2 r1 r2 q2) λd s3 ⟨z,H3,I3,r3,k,e,q3⟩=>?_)) hm
 subst e;cases r3;refine fE ?_;cases k with
 |false=>exact ite_ff ⟨.bl false,H3,I3,rfl,q3⟩
 |true=>exact ite_tt (chain_last (ao (hc pins s3 σ H3 _ I3 q3) λw' s4 ⟨z',H4,I4,r4,q4⟩=>ho' pins s4 σ H4 y z' u w' Q I4 r2 r4 q4))
theorem Ax{op op':CmpOp}{r r':R2}(ho:bj X (compareOp op) r)(ho':bj X (compareOp op') r')(ha:PE X a ta)(hb:PE X b tb)(hc:PE X c tc)(hm:lastMarks [op,op'] [b,c]=false:=by with_unfolding_all rfl):PT X (.Compare a [op,op'] [b,c] pos) (vu (C_ r r' ta tb tc)):=by
 intro pins s σ H Q I h;refine isTrue_chain (ao (ha pins s σ H _ I h) λv s1 ⟨x,H1,I1,r1,q1⟩=>test_link (ao (hb pins s1 σ H1 _ I1 q1) λu s2 ⟨y,H2,I2,r2,q2⟩ =>
  ao (ho pins s2 σ H2 x y v u _ I2 r1 r2 q2) λd s3 ⟨z,H3,I3,r3,k,e,q3⟩=>?_)) hm
 subst e;cases r3;refine fE ?_;cases k with
 |false =>
  obtain⟨k',e',q'⟩:=q3;cases e';exact ite_ff ⟨H3,I3,q'⟩
 |true =>
  refine ite_tt (test_last (ao (hc pins s3 σ H3 _ I3 q3) λw' s4 ⟨z',H4,I4,r4,q4⟩=>ao (ho' pins s4 σ H4 y z' u w' _ I4 r2 r4 q4) λd' s5 ⟨z2,H5,I5,r5,k2,e2,q5⟩=>?_));subst e2;cases r5;exact fE ⟨H5,I5,q5⟩
theorem o7:(sizeLine:Nat)<2 ^ 63:=by rw[sizeLine_eq];decide
theorem vals1{x:V}{us:List Value}(r:Vals [x] us):∃u,us = [u]/\RelV x u:=by
 cases r with
 |cons r1 r2=>cases r2;exact⟨_,rfl,r1⟩
end
structure jD (h:Heap) (x dx C:Addr) (mA:Str->Option Value):Prop where
 obj:h.get? x=some (W.instObj C dx)
 ns:h.Ns1 dx mA
 ne:dx≠x
theorem JF{h:Heap}{dx:Addr}{mA:Str->Option Value}(n:h.Ns1 dx mA):∃od,h.get? dx=some od/\∀name,W.lookIn name od=some (mA name):=by
 obtain⟨o,es,ep,ho,hd,hk,_,hm⟩:=n;refine⟨o,ho,λname=>?_⟩;have e:=hm name;unfold nsFind findBy at e;rw[<- Array.find?_toList]at e;unfold W.lookIn;rw[hd];dsimp only
 split
 ·rename_i y q
  rw[q]at e;exact congrArg some e
 ·rename_i q
  rw[q]at e;have a:es.toList.any (·.refKey)=false:=by
   rw[List.any_eq_false];intro y hy;obtain⟨z,t,hkey⟩:=hk y (qM.mp hy);simp[DictEntry.refKey,hkey]
  have a':¬ es.toList.any (·.refKey)=true:=by rw[a];exact Bool.false_ne_true
  rw[if_neg a'];exact congrArg some e
theorem jD.look{h:Heap}{x dx C:Addr}{mA:Str->Option Value}(I:jD h x dx C mA):∃od,W.InstAt h x (W.instObj C dx) C (some od)/\∀name,W.lookIn name od=some (mA name):=
 let⟨od,ho,hl⟩:=JF I.ns
 ⟨od,⟨I.obj,rfl,rfl,ho⟩,hl⟩
section
variable {prog:Program} {w:World} {A:Around} {E:Value->Shared->Prop} {s:Shared} {K:W.Frag} {x dx C f:Addr} {mA:Str->Option Value} {name:Str} {v:Value}
theorem get_map{expr:Bool}{Q:Value->Shared->Prop}(X:K.In s.heap)(I:jD s.heap x dx C mA)(hg:W.plainGet K C name=true)(hh:W.hasDictIn K C=true)
  (ha:W.findIn K (.ref C) name=some none) (hv:mA name=some v) (hv':W.handedIn v=true) (h:Q v {s with toks:=s.toks+1}) :
  wpAny (model prog w) A (getAttr (.ref x) name expr) Q E s:=by
 obtain⟨od,J,hl⟩:=I.look;exact W.get_value X J (W.plainGet_of hg).1 (W.findObj_own hh ha rfl (by rw[hl,hv])) hv' h
theorem Ny{ns:List Str}{Q:Unit->Shared->Prop}(X:K.In s.heap)(I:jD s.heap x dx C mA)
  (hs:W.findIn K (.ref C) "__setattr__" = some (some (.builtin "object.__setattr__"))) (hp:W.plainOver K C=true) (ht:W.takerIn K C name=some none) (hh:W.hasDictIn K C=true)
  (hw:PySem.Within mA ns) (hsz:ns.length<=sizeLine)
  (h:∀h',jD h' x dx C (λy=>if y=name then some v else mA y)->Heap.SameBut dx s.heap h'->Q () {s with heap:=h',toks:=s.toks+2}) :
  wpAny (model prog w) A (setAttr (.ref x) name v) Q E s:=by
 obtain⟨od,J,hl⟩:=I.look;refine W.set_plain X J hs (W.osa_open (s:={s with toks:=s.toks+1}) (r:=none) X J hp ht λb=>?_);obtain⟨cd,hc,hd'⟩:=W.any_some hh;have hx:s.heap.get? x=some ⟨.ref C,some dx,.plain,#[]⟩:=I.obj;refine ae (ah (ae (ae (wpAny_loadPart hx (ae (W.Looks.here (s:={s with toks:=s.toks+1}) (W.looks_clsIn X hc) ?_))))));rw[hd'];refine ah (a:=some dx) (ae (ah (ae ?_)));refine wpAny_nsSet1 (s:={s with toks:=s.toks+1}) I.ns λh' hn2 hs2=>?_;obtain⟨oD,esD,epD,hoD,hdD,hcD⟩:=hn2.count (PySem.Within.cons name v hw);refine ae (wpAny_lookBehind hoD (by rw[hdD];exact pastItsLine_dict (cH hcD (by rw[dc];omega))) ?_);exact ah (h _ ⟨(hs2.2 _ (cu I.ne)).trans I.obj,hn2,I.ne⟩ hs2)
theorem JN{R:Result->Shared->Prop}{vs:List Value}{kw:List (Str × Value)}(X:K.In s.heap)(hm:W.makesIn K C=true)
  (hi:W.findIn K (.ref C) "__init__" = some (some (.ref f))) (hf:W.typeIn K (.ref f)=some (.type "function"))
  (h:codeAny (model prog w) (A.under (.builtin "type.__call__" ⟨.ref C::vs,kw⟩)) (.call (.ref f) ⟨.ref (s.heap.objs.size+1)::vs,kw⟩) (W.InitBack (s.heap.objs.size+1) R)
   {s with heap:=(s.heap.push W.emptyDict).push (W.instObj C s.heap.objs.size)}) :
  codeAny (model prog w) A (.call (.ref C) ⟨vs,kw⟩) R s:=by
 obtain⟨hh,g,d,t,os⟩:=s;exact W.make_core (W.makes_of X hm) (W.looks_findIn X hi) (λself=>W.bind_fn X self hf) (.inl rfl) h
end
noncomputable def aM(f:Str)(v:V):List (Str × V)->List (Str × V)
 | []=>[(f,v)]
 | (g,x)::r=>if g=f then(g,v)::r else(g,x)::aM f v r
theorem fc(f g:Str)(v:V):∀fs:List (Str × V),(aM f v fs).lookup g=if g=f then some v else fs.lookup g
 | []=>by
  show List.lookup g [(f,v)]=_
  by_cases h:g=f
  ·have hb:(g==f)=true:=eN.mpr h
   simp only[List.lookup,hb,if_pos h]
  ·have hb:(g==f)=false:=iU.mpr h
   simp only[List.lookup,hb,if_neg h]
 | (k,x)::r=>by
  have ih:=fc f g v r;rw[show aM f v ((k,x)::r)=(if k=f then(k,v)::r else(k,x)::aM f v r)from rfl]
  by_cases hk:k=f
  ·rw[if_pos hk]
   by_cases h:g=k
   ·have hb:(g==k)=true:=eN.mpr h
    simp only[List.lookup,hb,if_pos (h.trans hk)]
   ·have hb:(g==k)=false:=iU.mpr h
    simp only[List.lookup,hb,if_neg (λe:g=f=>h (e.trans hk.symm))]
  ·rw[if_neg hk]
   by_cases h:g=k
   ·have hb:(g==k)=true:=eN.mpr h
    simp only[List.lookup,hb,if_neg (λe:g=f=>hk (h.symm.trans e))]
   ·have hb:(g==k)=false:=iU.mpr h
    simp only[List.lookup,hb];exact ih
theorem tZ(f:Str)(v:V):∀fs:List (Str × V),f∈(aM f v fs).map (·.1)/\∀g,g∈fs.map (·.1)->g∈(aM f v fs).map (·.1)
 | []=>⟨by simp[aM],λg h=>by simp at h⟩
 | (k,x)::r=>by
  obtain⟨i1,i2⟩:=tZ f v r;rw[show aM f v ((k,x)::r)=(if k=f then(k,v)::r else(k,x)::aM f v r)from rfl]
  by_cases hk:k=f
  ·rw[if_pos hk]
   subst hk;exact⟨by simp,λg h=>by simpa using h⟩
  ·rw[if_neg hk]
   refine⟨?_,λg h=>?_⟩
   ·rw[bJ]
    exact bG _ i1
   ·rw[bJ]at h ⊢
    rcases a9.mp h with e|e
    ·exact a9.mpr (.inl e)
    ·exact bG _ (i2 g e)
theorem ka(f:Str)(v:V):∀fs:List (Str × V),(aM f v fs).length<=fs.length+1
 | []=>by simp[aM]
 | (k,x)::r=>by
  have ih:=ka f v r;rw[show aM f v ((k,x)::r)=(if k=f then(k,v)::r else(k,x)::aM f v r)from rfl]
  by_cases hk:k=f
  ·rw[if_pos hk,dc,dc];omega
  ·rw[if_neg hk,dc,dc];omega
theorem d0.some_of{v:V}{o:Option Value}(r:d0 (some v) o):∃u,o=some u/\RelV v u:=by
 cases o with
 |none=>exact(show False from r).elim
 |some u=>exact⟨u,rfl,r⟩
theorem Hw{v:V}{u:Value}(r:RelV v u):W.handedIn u=true:=by
 cases v with
 |non=>cases(show u=Value.none from r);rfl
 |bl b=>cases(show u=Value.bool b from r);rfl
 |int i=>obtain⟨t,e⟩:=(show ∃t,u=Value.int i t from r);cases e;rfl
 |str x=>obtain⟨t,e⟩:=(show ∃t,u=Value.str x t from r);cases e;rfl
 |eO b=>obtain⟨t,e⟩:=(show ∃t,u=Value.bytes b t from r);cases e;rfl
 |flt b=>obtain⟨t,e⟩:=(show ∃t,u=Value.float b t from r);cases e;rfl
 |ref a=>cases(show u=Value.ref a from r);rfl
 |ty n=>cases(show u=Value.type n from r);rfl
section
variable {P:Program} {w:World} {H H':Hp} {h h':Heap} {a C dx:Addr} {fs fs':List (Str × V)}
theorem tS(hok:aZ P w H h)(e:H a=some (.ins C dx fs)):∃mA,jD h a dx C mA/\(∀f,d0 (fs.lookup f) (mA f))/\PySem.Within mA (fs.map (·.1))/\fs.length<=1000/\H dx=some (.own a):=by
 obtain⟨d,z,ne,ob,mA,n,r,q⟩:=(show aK P w H h a (.ins C dx fs)from hok a _ e);exact⟨mA,⟨ob,n,ne⟩,r,q,z,d⟩
end
structure Cls (K:W.Frag) (C:Addr):Prop where
 pg:W.plainGet K C Str.empty=true
 hd:W.hasDictIn K C=true
 po:W.plainOver K C=true
 sa:W.findIn K (.ref C) "__setattr__" = some (some (.builtin "object.__setattr__"))
theorem Cls.get{K:W.Frag}{C:Addr}(c:Cls K C)(f:Str):W.plainGet K C f=true:=c.pg
noncomputable def eW(K:W.Frag)(C:Addr)(f:Str):Prop:=W.findIn K (.ref C) f=some none
theorem eW.taker{K:W.Frag}{C:Addr}{f:Str}(n:eW K C f):W.takerIn K C f=some none:=by
 unfold W.takerIn;rw[show W.findIn K (.ref C) f=some none from n];rfl
section
variable {X:Cx} {pins:List (Addr × Obj)} {σ:St} {H:Hp} {s:Shared} {a C dx:Addr} {fs:List (Str × V)} {f:Str} {v:V} {A:Around} {E:Value->Shared->Prop}
theorem G8{b:Bool}{Q:Value->Shared->Prop}(I:Inv X pins σ H s)(e:H a=some (.ins C dx fs))(c:Cls X.K C)(n:eW X.K C f)(l:fs.lookup f=some v)(h:∀u s',Inv X pins σ H s'->RelV v u->Q u s'):wpAny (model X.prog X.w) A (getAttr (.ref a) f b) Q E s:=by
 obtain⟨mA,O,r,_,_,_⟩:=tS I.hok e;obtain⟨u,hu,ru⟩:=d0.some_of (v:=v) (o:=mA f) (by rw[<- l];exact r f);exact get_map I.bI O (c.get f) c.hd n hu (Hw ru) (h u _ (I.tok _) ru)
theorem NK{y:V}{u:Value}{Q:Unit->Shared->Prop}(I:Inv X pins σ H s)(e:H a=some (.ins C dx fs))(c:Cls X.K C)(n:eW X.K C f)(hl:fs.length<1000)(ry:RelV y u)(h:∀s',Inv X pins σ (upd H a (.ins C dx (aM f y fs))) s'->Q () s'):wpAny (model X.prog X.w) A (setAttr (.ref a) f u) Q E s:=by
 obtain⟨mA,O,r,wi,_,ho⟩:=tS I.hok e;have hz:(fs.map (·.1)).length<=sizeLine:=by rw[aD,sizeLine_eq];omega
 refine Ny I.bI O c.sa c.po n.taker c.hd wi hz λh' O' sb=>h _ ?_;have hd:∃o,h'.get? dx=some o:=let⟨o,_,_,e',_⟩:=O'.ns;⟨o,e'⟩
 refine I.write (x:=a) (e:=dx) (by rw[e];exact True.intro) (.inr ho) (λb q hb z=>(sb.2 b hb).trans z) hd ?_;refine⟨by rw[aA O.ne];exact ho,?_,O.ne,O'.obj,_,O'.ns,λg=>?_,λg hg=>?_⟩
 ·have:=ka f y fs;omega
 ·show d0 ((aM f y fs).lookup g) (if g=f then some u else mA g)
  rw[fc]
  by_cases q:g=f
  ·rw[if_pos q,if_pos q];exact ry
  ·rw[if_neg q,if_neg q];exact r g
 ·by_cases q:g=f
  ·rw[q];exact(tZ f y fs).1
  ·refine(tZ f y fs).2 g (wi g λz=>hg ?_)
   show(if g=f then some u else mA g)=none;rw[if_neg q];exact z
theorem Inv.made(I:Inv X pins σ H s):Inv X pins σ (upd (upd H s.heap.objs.size (.own (s.heap.objs.size+1))) (s.heap.objs.size+1) (.ins C s.heap.objs.size []))
  {s with heap:=(s.heap.push W.emptyDict).push (W.instObj C s.heap.objs.size)}:=by
 have e1:(s.heap.push W.emptyDict).get? s.heap.objs.size=some W.emptyDict:=aQ s.heap rfl;have e2:((s.heap.push W.emptyDict).push (W.instObj C s.heap.objs.size)).get? (s.heap.objs.size+1)=some (W.instObj C s.heap.objs.size):=by
  have:=aQ (s.heap.push W.emptyDict) (o:=W.instObj C s.heap.objs.size) rfl
  rwa [dU]at this
 have e3:(s.heap.push W.emptyDict).Ns s.heap.objs.size (λ_=>none):=⟨W.emptyDict,#[],_,e1,rfl,(λe he=>absurd he (by simp)),λ_=>rfl⟩;have I1:=I.laid (a:=s.heap.objs.size) (o:=.own (s.heap.objs.size+1)) (h':=s.heap.push W.emptyDict) (t':=s.toks) (λb u q=>au _ q) (aB _) ⟨_,e1⟩;refine I1.laid (a:=s.heap.objs.size+1) (o:=.ins C s.heap.objs.size []) (t':=s.toks) (λb u q=>au _ q) (nz (dU _ _)) ?_;have ne:s.heap.objs.size≠s.heap.objs.size+1:=aP (k0 _);refine⟨by rw[aA ne,av],bE _,ne,e2,λ_=>none,(Heap.Ns1.of_empty e3).at λo q=>au _ q,λ_=>True.intro,λy hy=>absurd rfl hy⟩
theorem EY{prog:Program}{w:World}{env:Env}{e:Expr}{f:Str}{pos:Pos}{s:Shared}{Q:Value->Shared->Prop}(hb:attributeBase e f env (eval e env)=eval e env)(h:wpAny (model prog w) A (eval e env) (λo s₁=>wpAny (model prog w) A (getAttr o f true) Q E s₁) E s):wpAny (model prog w) A (eval (.Attribute e f pos) env) Q E s:=
 Attribute_any_ h (by rw[arm_eval_Attribute,hb])
end
noncomputable def De(K:W.Frag)(ta:TE)(f:Str):TE:=λσ H Q=>ta σ H λx H1=>∃a C dx fs v,x = .ref a/\H1 a=some (.ins C dx fs)/\Cls K C/\eW K C f/\fs.lookup f=some v/\Q v H1
noncomputable def Br(K:W.Frag)(ta tv:TE)(f:Str):TS:=λD σ H=>tv σ H λy H1=>ta σ H1 λx H2=>∃a C dx fs,x = .ref a/\H2 a=some (.ins C dx fs)/\Cls K C/\eW K C f/\fs.length<1000 /\
 D.nx σ (upd H2 a (.ins C dx (aM f y fs)))
section
variable {X:Cx} {o e value:Expr} {f:Str} {pos pos' tpos:Pos} {ta tv:TE}
theorem Lw(he:PE X e ta)(hb:attributeBase e f X.env (eval e X.env)=eval e X.env):PE X (.Attribute e f pos) (De X.K ta f):=by
 intro pins s σ H Q I h;refine EY hb (ao (he pins s σ H _ I h) λu s1 ⟨x,H1,I1,rx,a,C,dx,fs,v,ex,ea,c,n,l,q⟩=>?_);subst ex;obtain rfl:u=Value.ref a:=rx;exact G8 I1 ea c n l λu' s2 I2 ru=>⟨v,H1,I2,ru,q⟩
theorem Mf(ha:PE X o ta)(hv:PE X value tv)(hs:swapsWith value (some (.Attribute o f pos')) pos.line X.env=pure false):PS X (.Assign [.Attribute o f pos'] value pos) (Br X.K ta tv f):=by
 intro pins s σ H D I h;refine plainObj_wpAny_Assign_Attribute (ao (hv pins s σ H _ I h) λu s1 ⟨y,H1,I1,ry,q⟩=>ao (ha pins s1 σ H1 _ I1 q) λov s2 ⟨x,H2,I2,rx,a,C,dx,fs,ex,ea,c,n,l,q2⟩=>?_) hs;subst ex;obtain rfl:ov=Value.ref a:=rx;exact NK I2 ea c n l ry λs3 I3=>⟨σ,_,I3,q2⟩
end
section
variable {X:Cx} {pins:List (Addr × Obj)} {σ:St} {H:Hp} {s:Shared} {A:Around} {E:Value->Shared->Prop} {Q:Value->Shared->Prop} {c:Value} {b:Bool}
inductive dG (K:W.Frag) (H:Hp):V->Value->Prop where
 |non:dG K H .non (.type "NoneType")
 |bl (x:Bool):dG K H (.bl x) (.type "bool")
 |int (i:Int):dG K H (.int i) (.type "int")
 |str (x:Str):dG K H (.str x) (.type "str")
 |flt (x:UInt64):dG K H (.flt x) (.type "float")
 |lst {a:Addr} {xs:List V} (e:H a=some (.lst xs)):dG K H (.ref a) (.type "list")
 |bU {a:Addr} {o:Obj} {xs:List V} (e:H a=some (.bU o (.lst xs))):dG K H (.ref a) (.type "list")
 |tup {a:Addr} {xs:List V} (e:H a=some (.tup xs)):dG K H (.ref a) (.type "tuple")
 |dK {a:Addr} {kvs:List (Key × V)} (e:H a=some (.dK kvs)):dG K H (.ref a) (.type "dict")
 |dT {a:Addr} {kvs:List (List Key × V)} (e:H a=some (.dT kvs)):dG K H (.ref a) (.type "dict")
 |ins {a C dx:Addr} {fs:List (Str × V)} (e:H a=some (.ins C dx fs)) (cl:Cls K C) (ha:W.findIn K (.ref C) "__class__" = some (some (.builtin "object.__class__")))
   (hn:W.specialIn K (.builtin "object.__class__") "__get__" = some (some (.builtin "getset_descriptor.__get__"))) (htk:W.takesIn K (.builtin "object.__class__")=some true)
   (hm:W.mroIn K C (.type "object")=some true):dG K H (.ref a) (.ref C)
theorem IW{x:V}{u t:Value}(I:Inv X pins σ H s)(rx:RelV x u)(ty:dG X.K H x t)(e:W.kitOne X.K t c=some b)(h:∀tk,Q (.bool b) {s with toks:=tk}):
  wpAny (model X.prog X.w) A (call (.builtin "isinstance") [u,c]) Q E s:=by
 cases ty with
 |non=>cases(show u=Value.none from rx);exact W.kia_one W.kitx_none I.bI True.intro e (λz=>nomatch z) h
 |bl y=>cases(show u=Value.bool y from rx);exact W.kia_one W.kitx_bool I.bI True.intro e (λz=>nomatch z) h
 |int i=>obtain⟨t,q⟩:=(show ∃t,u=Value.int i t from rx);cases q;exact W.kia_one W.kitx_int I.bI True.intro e (λz=>nomatch z) h
 |str y=>obtain⟨t,q⟩:=(show ∃t,u=Value.str y t from rx);cases q;exact W.kia_one W.kitx_str I.bI True.intro e (λz=>nomatch z) h
 |flt y=>obtain⟨t,q⟩:=(show ∃t,u=Value.float y t from rx);cases q;exact W.kia_one W.kitx_float I.bI True.intro e (λz=>nomatch z) h
 | @lst a xs ea =>
  cases(show u=Value.ref a from rx);obtain⟨_,_,n,_,h1⟩:=(show aK X.prog X.w H s.heap a (.lst xs)from I.hok a _ ea);exact W.kia_one W.kitx_list I.bI ⟨_,h1,rfl⟩ e (λz=>nomatch z) h
 | @bU a ob xs ea =>
  cases(show u=Value.ref a from rx);obtain⟨_,_,_,n,_,h1⟩:=(show aK X.prog X.w H s.heap a (.bU ob (.lst xs))from I.hok a _ ea);exact W.kia_one W.kitx_list I.bI ⟨_,h1,rfl⟩ e (λz=>nomatch z) h
 | @tup a xs ea =>
  cases(show u=Value.ref a from rx);obtain⟨_,_,_,p,_⟩:=(show aK X.prog X.w H s.heap a (.tup xs)from I.hok a _ ea);obtain⟨o,h1,h2,_⟩:=p;exact W.kia_one W.kitx_tuple I.bI ⟨o,h1,h2⟩ e (λz=>nomatch z) h
 | @dK a kvs ea =>
  cases(show u=Value.ref a from rx);obtain⟨_,_,vs,_,p⟩:=(show aK X.prog X.w H s.heap a (.dK kvs)from I.hok a _ ea);obtain⟨o,es,ep,h1,h2,_⟩:=p;exact W.kia_one W.kitx_dict I.bI ⟨o,h1,h2.1⟩ e (λz=>nomatch z) h
 | @dT a kvs ea =>
  cases(show u=Value.ref a from rx);obtain⟨_,_,xs,_,o,es,ep,h1,h2,_⟩:=(show aK X.prog X.w H s.heap a (.dT kvs)from I.hok a _ ea);exact W.kia_one W.kitx_dict I.bI ⟨o,h1,h2.1⟩ e (λz=>nomatch z) h
 | @ins a C dx fs ea cl ha hn htk hm =>
  cases(show u=Value.ref a from rx);obtain⟨mA,O,_⟩:=tS I.hok ea;obtain⟨od,J,_⟩:=O.look;exact W.kia_one (W.kitx_own (cl.get _) cl.hd ha hn htk hm) I.bI J e (λz=>nomatch z) h
end
structure aV (k:Nat) (A:Around):Prop where
 hd:A.handled=none
 dp:A.depth+3*k+5<recursionLimit
 un:A.units+16*k+200<cLine
 gd:A.guards=some []
theorem aV.mono{j k:Nat}{A:Around}(r:aV k A)(h:j<=k):aV j A:=⟨r.hd,by have:=r.dp;omega,by have:=r.un;omega,r.gd⟩
theorem aV.deeper{k:Nat}{A:Around}(r:aV (k+1) A)(env:Env):aV k (A.deeper env):=
 ⟨r.hd,by have:=r.dp;show A.depth+1+3*k+5<_;omega,by have:=r.un;show A.units+3+16*k+200<_;omega,r.gd⟩
theorem JL {A:Around} {C:Addr} {us:List Value} {kw:List (Str × Value)}:(A.under (.builtin "type.__call__" ⟨.ref C::us,kw⟩)).depth=A.depth+1:=by
 first|rfl|simp[Around.under,Code.weight,Code.isCreation,Code.isGuard,Code.isCaller,Code.frames,Code.isFrame,guardIds]
theorem JQ {A:Around} {C:Addr} {us:List Value} {kw:List (Str × Value)}:(A.under (.builtin "type.__call__" ⟨.ref C::us,kw⟩)).units=A.units+1:=by
 first|rfl|simp[Around.under,Code.cUnits,Code.frames,Code.isFrame]
theorem JM {A:Around} {C:Addr} {us:List Value} {kw:List (Str × Value)}:(A.under (.builtin "type.__call__" ⟨.ref C::us,kw⟩)).guards=A.guards:=by
 first|rfl | (cases h:A.guards<;>simp[Around.under,Code.guards,pushGuards,Code.isGuard,guardIds,h])
theorem aV.make {k:Nat} {A:Around} (r:aV (k+1) A) (C:Addr) (us:List Value) (kw:List (Str × Value)):aV k (A.under (.builtin "type.__call__" ⟨.ref C::us,kw⟩)):=
 ⟨r.hd,by have:=r.dp;rw[JL];omega,by have:=r.un;rw[JQ];omega,by rw[JM];exact r.gd⟩
theorem aV.depth{k:Nat}{A:Around}(r:aV k A):A.depth<recursionLimit:=by have:=r.dp;omega
theorem aV.units{k:Nat}{A:Around}(r:aV k A):A.units+64<cLine:=by have:=r.un;omega
noncomputable def fq:TA:=λ_ H Q=>Q [] H
noncomputable def dr(ta:TE)(tr:TA):TA:=λσ H Q=>ta σ H λx H1=>tr σ H1 λxs H2=>Q (x::xs) H2
section
variable {X:Cx} {e:Expr} {es:List Expr} {te:TE} {t:TA} {pos:Pos}
theorem ai:PA X [] fq:=λ_ _ _ _ H Q I h=>Calls.spliced_nil ⟨[],H,I,.nil,h⟩
theorem ag(ha:PE X e te)(hr:PA X es t)(hs:starEach (e::es) X.env=(false,eval e X.env)::starEach es X.env:=by rfl):PA X (e::es) (dr te t):=by
 intro pos pins s σ H Q I h;rw[hs];show wpAny _ _ (spliced ((false,eval e X.env)::backTo pos (starEach es X.env))) _ _ s;refine Calls.spliced_cons (ao (ha pins s σ H _ I h) λu s1 ⟨x,H1,I1,r1,q1⟩=>?_);exact ao (hr pos pins s1 σ H1 _ I1 q1) λus s2 ⟨xs,H2,I2,r2,q2⟩=>⟨x::xs,H2,I2,.cons r1 r2,q2⟩
noncomputable def Oz(t:TA):TE:=λσ H Q=>t σ H λxs H1=>xs.length<=sizeLine/\∀p,H1 p=none->Q (.ref p) (upd H1 p (.tup xs))
noncomputable def Ol(t:TA):TE:=λσ H Q=>t σ H λxs H1=>xs.length<=sizeLine/\∀p,H1 p=none->Q (.ref p) (upd H1 p (.lst xs))
theorem gI{x1}(h:PA X es t):PE X (.Tuple es x1 pos) (Oz t):=by
 intro pins s σ H Q I hq;refine wpAny_Tuple_spliced (ao (h pos pins s σ H _ I hq) λus s1 ⟨xs,H1,I1,r,z,q⟩=>⟨by rw[<- r.length];exact z,?_⟩);have hf:H1 s1.heap.objs.size=none:=I1.hok.fresh (aB _);refine⟨.ref s1.heap.objs.size,upd H1 s1.heap.objs.size (.tup xs),I1.laid (t':=s1.toks) (λb u e=>au _ e) (aB _) ?_,rfl,q _ hf⟩;exact⟨z,us,r,⟨_,aQ _ rfl,rfl,_,rfl⟩,_,aQ _ rfl,rfl⟩
theorem iD(h:PA X es t):PE X (.List es pos) (Ol t):=by
 intro pins s σ H Q I hq;refine wpAny_List_spliced (ao (h pos pins s σ H _ I hq) λus s1 ⟨xs,H1,I1,r,z,q⟩=>⟨by rw[<- r.length];exact z,?_⟩);have hf:H1 s1.heap.objs.size=none:=I1.hok.fresh (aB _);refine⟨.ref s1.heap.objs.size,upd H1 s1.heap.objs.size (.lst xs),I1.laid (t':=s1.toks) (λb u e=>au _ e) (aB _) ?_,rfl,q _ hf⟩;exact⟨z,us,0,r,aQ _ rfl⟩
end
abbrev Sp:=List V->Hp->VK->XK->Prop
abbrev eA:=List Env->Hp->Shared->XK->Value->Shared->Prop
structure eD (P:Program) (w:World) (K:W.Frag) (mg:Str->Option Value) (base:Heap) (A:Around) (outer:List Env) (s:Shared) (H:Hp):Prop where
 frames:A.frames=some outer
 mod:Mod K mg base
 bs:∀b o,base.get? b=some o->s.heap.get? b=some o/\H b=none
 d5:base.objs.size<=s.heap.objs.size
 dh:s.heap.FunFrames base outer
 fJ:∀b∈frs outer,H b=none
 hok:aZ P w H s.heap
 bare:AllBare s.gens
noncomputable def CE(outer:List Env)(P:Program)(w:World)(H:Hp)(s:Shared)(Q:VK)(u:Value)(s':Shared):Prop:=
 ∃v H',s'.os=s.os/\AllBare s'.gens/\Un (frs outer) [] H H' s.heap s'.heap/\aZ P w H' s'.heap/\RelV v u/\Q v H'
noncomputable def CR(CX:eA)(outer:List Env)(P:Program)(w:World)(H:Hp)(s:Shared)(Q:VK)(E:XK)(r:Result)(s':Shared):Prop:=
 match r with
 |.ok (.ret u)=>CE outer P w H s Q u s'
 |.ok _=>False
 |.error e=>CX outer H s E e s'
structure aI (P:Program) (w:World) (K:W.Frag) (mg:Str->Option Value) (base:Heap) (CX:eA) (k:Nat) (f:Addr) (fd:FuncData) (ps:List Str) (sp:Sp):Prop where
 len:∀vs H Q E,sp vs H Q E->vs.length=ps.length
 run:∀(A:Around) (outer:List Env) (s:Shared) (H:Hp) (args:Args) (us:List Value) (vs:List V) (Q:VK) (E:XK),aV k A->eD P w K mg base A outer s H->BindsTo s fd args (ps.zip us)->Vals vs us->sp vs H Q E ->
  codeAny (model P w) A (.call (.ref f) args) (CR CX outer P w H s Q E) s
theorem aI.mono{P:Program}{w:World}{K:W.Frag}{mg:Str->Option Value}{base:Heap}{CX:eA}{j k:Nat}{f:Addr}{fd:FuncData}{ps:List Str}{sp:Sp}(F:aI P w K mg base CX j f fd ps sp)(h:j<=k):aI P w K mg base CX k f fd ps sp:=⟨F.len,λA outer s H args us vs Q E hr=>F.run A outer s H args us vs Q E (hr.mono h)⟩
theorem eD.make{P:Program}{w:World}{K:W.Frag}{mg:Str->Option Value}{base:Heap}{A:Around}{outer:List Env}{s:Shared}{H:Hp}(e:eD P w K mg base A outer s H)(C:Addr)(us:List Value)(kw:List (Str × Value)):
  eD P w K mg base (A.under (.builtin "type.__call__" ⟨.ref C::us,kw⟩)) outer s H:=⟨by first|exact e.frames | (simpa[Around.under,Code.envs,Code.isFrame,pushEnvs]using e.frames),e.mod,e.bs,e.d5,e.dh,e.fJ,e.hok,e.bare⟩
section
variable {X:Cx} {pins:List (Addr × Obj)} {σ:St} {H:Hp} {s s':Shared}
theorem Inv.env0(I:Inv X pins σ H s):eD X.prog X.w X.K X.mg X.base X.A X.stack s H:=
 ⟨I.ok.frames,I.ok.mod,I.bs,cH I.ok.d5 I.sz,I.stack,I.CN,I.hok,I.bare⟩
theorem Inv.after{Q:VK}{u:Value}(I:Inv X pins σ H s)(h:CE X.stack X.prog X.w H s Q u s'):EP X pins σ Q u s':=by
 obtain⟨v,H',os,bare,un,hok,r,q⟩:=h;obtain⟨hh,g,d,t,os'⟩:=s';obtain rfl:os'=s.os:=os;exact⟨v,H',I.call (h':=hh) (g':=g) (d':=d) (t':=t) (ch:=[]) un hok bare (λb z=>absurd z (by simp)),r,q⟩
end
noncomputable def qx(sp:Sp)(df:List V)(E:XK)(t:TA):TE:=λσ H Q=>t σ H λvs H1=>sp (vs++df) H1 Q E
noncomputable def Df(C:Addr)(sp:Sp)(df:List V)(E:XK)(t:TA):TE:=λσ H Q=>t σ H λvs H1=>∀x dx,H1 x=none->H1 dx=none->dx≠x ->
 sp (.ref x::(vs++df)) (upd (upd H1 dx (.own x)) x (.ins C dx [])) (λv H2=>v = .non/\Q (.ref x) H2) E
noncomputable def Binds(K:W.Frag)(fd:FuncData)(ps:List Str)(ds:List Value):Prop:=
 ∀(s:Shared) (us:List Value),K.In s.heap->(us++ds).length=ps.length->BindsTo s fd ⟨us,[]⟩ (ps.zip (us++ds))
theorem Binds.all{K:W.Frag}{fd:FuncData}{ps:List Str}(h:∀us:List Value,us.length=ps.length->bindArgs fd ⟨us,[]⟩=pure (ps.zip us)):Binds K fd ps []:=λs us _ hl=>by
 rw[kT]at hl ⊢;exact .of_eq (h us hl)
noncomputable def Passes(CX:eA)(X:Cx)(E:XK):Prop:=∀(pins:List (Addr × Obj)) (σ:St) (H:Hp) (s:Shared) (e:Value) (s':Shared),Inv X pins σ H s->CX X.stack H s E e s'->X.xe e s'
section
variable {X:Cx} {CX:eA} {k:Nat} {f C:Addr} {fd:FuncData} {ps:List Str} {sp:Sp} {df:List V} {ds:List Value} {E:XK} {x m:Str} {p pos apos:Pos} {e o:Expr} {es:List Expr} {ta:TE} {t:TA}
theorem Nj{pins:List (Addr × Obj)}{σ:St}{H:Hp}{s:Shared}{Q:VK}{us:List Value}{vs:List V}(F:aI X.prog X.w X.K X.mg X.base CX k f fd ps sp)(hr:aV k X.A)(hb:Binds X.K fd ps ds)(hd:Vals df ds)(hx:Passes CX X E)(I:Inv X pins σ H s)(r:Vals vs us)(h:sp (vs++df) H Q E):wpAny (model X.prog X.w) X.A (call (.ref f) us) (EP X pins σ Q) X.xe s:=by
 have r2:Vals (vs++df) (us++ds):=r.append hd;have hl:(us++ds).length=ps.length:=by rw[<- r2.length];exact F.len _ _ _ _ h
 refine la (eL (F.run X.A X.stack s H ⟨us,[]⟩ (us++ds) (vs++df) Q E hr I.env0 (hb s us I.bI hl) r2 h) λr s' hq=>?_);cases r with
 |error e=>exact hx pins σ H s e s' I hq
 |ok fl =>
  cases fl with
  |ret u=>exact I.after hq
  |next=>exact False.elim hq
  |brk=>exact False.elim hq
  |cont=>exact False.elim hq
theorem Lk(F:aI X.prog X.w X.K X.mg X.base CX k f fd ps sp)(hr:aV k X.A)(hg:Gl X x)(hm:X.mg x=some (.ref f))(hk:W.keepIn X.K (.ref f)=true)(hb:Binds X.K fd ps ds)(hd:Vals df ds)(hx:Passes CX X E)
  (ha:PA X (e::es) t) (hdb:(x==("__debug__" : Str))=false:=by decide) (he:starEach (e::es) X.env=(false,eval e X.env)::starEach es X.env:=by rfl) (hpl:(backTo pos (starEach es X.env)).any (·.1)=false:=by rfl) :
  PE X (.Call (.Name x p) (e::es) [] pos) (qx sp df E t):=by
 intro pins s σ H Q I h;refine jJ (o5 I hg hm ?_ hdb);refine W.callWith_K (h₀:=X.base) I.ok.mod.j9 hk (ao (ha pos pins s σ H _ I h) λus s1 ⟨vs,H1,I1,r,q⟩=>⟨I1.bI,?_⟩) he hpl;exact Nj F hr hb hd hx I1 r q
structure Mk (K:W.Frag) (C f:Addr):Prop where
 makes:W.makesIn K C=true
 init:W.findIn K (.ref C) "__init__" = some (some (.ref f))
 fn:W.isFn K (.ref f)=true
 kp:W.keepIn K (.ref C)=true
theorem Nk{pins:List (Addr × Obj)}{σ:St}{H:Hp}{s:Shared}{Q:VK}{us:List Value}{vs:List V}(M:Mk X.K C f)(F:aI X.prog X.w X.K X.mg X.base CX k f fd ps sp)(hr:aV (k+1) X.A)(hb:Binds X.K fd ps ds)(hd:Vals df ds)(hx:Passes CX X E)(I:Inv X pins σ H s)(r:Vals vs us)(h:∀x dx,H x=none->H dx=none->dx≠x->sp (.ref x::(vs++df)) (upd (upd H dx (.own x)) x (.ins C dx [])) (λv H2=>v = .non/\Q (.ref x) H2) E):wpAny (model X.prog X.w) X.A (call (.ref C) us) (EP X pins σ Q) X.xe s:=by
 have hq:=h (s.heap.objs.size+1) s.heap.objs.size (I.hok.fresh (nA _)) (I.hok.fresh (aB _)) (aP (k0 _));have I2:=Inv.made (C:=C) I;have r2:Vals (V.ref (s.heap.objs.size+1)::(vs++df)) (Value.ref (s.heap.objs.size+1)::(us++ds)):=.cons rfl (r.append hd);have hl:(Value.ref (s.heap.objs.size+1)::us++ds).length=ps.length:=by
  have e:=r2.length;rw[F.len _ _ _ _ hq]at e;exact e.symm
 refine la (JN (f:=f) I.bI M.makes M.init (eN.mp M.fn) (eL (F.run _ X.stack _ _ ⟨Value.ref (s.heap.objs.size+1)::us,[]⟩ (Value.ref (s.heap.objs.size+1)::(us++ds)) _ _ E (hr.make C us [])
  (I2.env0.make C us []) (hb _ (Value.ref (s.heap.objs.size+1)::us) I2.bI hl) r2 hq) λr s' hq'=>?_))
 cases r with
 |error e=>exact hx pins σ _ _ e s' I2 hq'
 |ok fl =>
  cases fl with
  |ret u =>
   obtain⟨v,H',I3,rv,ev,q3⟩:=I2.after hq';subst ev;exact⟨rv,⟨V.ref (s.heap.objs.size+1),H',I3,rfl,q3⟩⟩
  |next=>exact False.elim hq'
  |brk=>exact False.elim hq'
  |cont=>exact False.elim hq'
theorem Lx(M:Mk X.K C f)(F:aI X.prog X.w X.K X.mg X.base CX k f fd ps sp)(hr:aV (k+1) X.A)(hg:Gl X x)(hm:X.mg x=some (.ref C))(hb:Binds X.K fd ps ds)(hd:Vals df ds)(hx:Passes CX X E)
  (ha:PA X (e::es) t) (hdb:(x==("__debug__" : Str))=false:=by decide) (he:starEach (e::es) X.env=(false,eval e X.env)::starEach es X.env:=by rfl) (hpl:(backTo pos (starEach es X.env)).any (·.1)=false:=by rfl) :
  PE X (.Call (.Name x p) (e::es) [] pos) (Df C sp df E t):=by
 intro pins s σ H Q I h;refine jJ (o5 I hg hm ?_ hdb);refine W.callWith_K (h₀:=X.base) I.ok.mod.j9 M.kp (ao (ha pos pins s σ H _ I h) λus s1 ⟨vs,H1,I1,r,q⟩=>⟨I1.bI,?_⟩) he hpl;exact Nk M F hr hb hd hx I1 r q
end
section
variable {X:Cx} {CX:eA} {k:Nat} {f C:Addr} {fd:FuncData} {ps ks:List Str} {sp:Sp} {E:XK} {x m:Str} {p pos apos kpos:Pos} {e o:Expr} {es:List Expr} {kws:List Keyword} {te ta:TE} {t tk:TA} {nm:Option Str}
variable {g:List Value->List Value->List Value} {gV:List V->List V->List V}
end
structure aY (N P:List Str) (sc:Scope):Prop where
 kind:sc.kind = .function
 co:sc.isCoroutine=false
 gen:sc.isGenerator=false
 nd:N.Nodup
 pre:N.take P.length=P
 par:∀x∈P,sc.names.lookup x=some .local\/sc.names.lookup x=some .cell
 zJ:∀y∈sc.names,y.2≠.free
theorem w9{kindOf:Str->Option NameKind}{x:Str}:∀{binds:List (Str × Value)} {m:Str->Option Value},(∀v,(x,v) ∉ binds)->bindL kindOf binds m x=m x
 | [],_,_=>rfl
 | (n,v)::r,m,h=>by
  unfold bindL;rw[w9 λw hw=>h w (bG _ hw)]
  split
  ·have:x≠n:=by rintro rfl;exact h v bR
   simp[this]
  ·rfl
theorem w6{kindOf:Str->Option NameKind}{x:Str}:∀{binds:List (Str × Value)} {m:Str->Option Value},(∀v,(x,v) ∉ binds)->bindC kindOf binds m x=m x
 | [],_,_=>rfl
 | (n,v)::r,m,h=>by
  unfold bindC;rw[w6 λw hw=>h w (bG _ hw)]
  split
  ·rfl
  ·have:x≠n:=by rintro rfl;exact h v bR
   simp[this]
theorem w8{kindOf:Str->Option NameKind}{x:Str}{v:Value}:∀{P:List Str} {vs:List Value} {i:Nat} {m:Str->Option Value},P.Nodup->P[i]?=some x->vs[i]?=some v->kindOf x=some .local->bindL kindOf (P.zip vs) m x=some v
 | [],_,_,_,_,h,_,_=>by simp at h
 |_::_,[],_,_,_,_,h,_=>by simp at h
 |p::P,w::vs,0,m,nd,h1,h2,hk=>by
  simp at h1 h2;subst h1;subst h2;show bindL kindOf ((p,w)::P.zip vs) m p=_;unfold bindL;rw[w9 λv hv=>(fS.mp nd).1 (nr hv).1,if_pos hk];simp
 |p::P,w::vs,i+1,m,nd,h1,h2,hk=>by
  show bindL kindOf ((p,w)::P.zip vs) m x=_;unfold bindL;exact w8 (i:=i) (fS.mp nd).2 (by simpa using h1) (by simpa using h2) hk
theorem w5{kindOf:Str->Option NameKind}{x:Str}{v:Value}:∀{P:List Str} {vs:List Value} {i:Nat} {m:Str->Option Value},P.Nodup->P[i]?=some x->vs[i]?=some v->kindOf x≠some .local->bindC kindOf (P.zip vs) m x=some v
 | [],_,_,_,_,h,_,_=>by simp at h
 |_::_,[],_,_,_,_,h,_=>by simp at h
 |p::P,w::vs,0,m,nd,h1,h2,hk=>by
  simp at h1 h2;subst h1;subst h2;show bindC kindOf ((p,w)::P.zip vs) m p=_;unfold bindC;rw[w6 λv hv=>(fS.mp nd).1 (nr hv).1,if_neg hk];simp
 |p::P,w::vs,i+1,m,nd,h1,h2,hk=>by
  show bindC kindOf ((p,w)::P.zip vs) m x=_;unfold bindC;exact w5 (i:=i) (fS.mp nd).2 (by simpa using h1) (by simpa using h2) hk
noncomputable def start(N:List Str)(vs:List V):St:=vs.map some++List.replicate (N.length - vs.length) none
noncomputable def iu(CX:eA)(P:Program)(w:World)(K:W.Frag)(mg:Str->Option Value)(base:Heap)(N:List Str)(qual:Str)(scope:Scope)(f:Addr)(cd:Value)(A:Around)(outer:List Env)(s:Shared)(H:Hp)(E:XK):Cx where
 prog:=P
 w:=w
 K:=K
 mg:=mg
 base:=base
 A:=A.deeper (envOfC qual scope s.heap.objs.size f cd)
 N:=N
 s₀:=s
 H₀:=H
 env:=envOfC qual scope s.heap.objs.size f cd
 outer:=outer
 stack:=envOfC qual scope s.heap.objs.size f cd::outer
 ex:=[]
 calm:=true
 fn:=λ_=>true
 pn:=[]
 xe:=λe s'=>wpAny (model P w) (A.deeper (envOfC qual scope s.heap.objs.size f cd)) (leaving (envOfC qual scope s.heap.objs.size f cd) e) (λ_ s''=>CX outer H s E e s'') (λe' s''=>CX outer H s E e' s'') s'
theorem xi{sc:Scope}{n:Nat}{x:Str}(h:sc.names.lookup x=some .cell):∃c,(cellsFrom n sc.names []).lookup x=some c:=by
 have q:=W.cellsFrom_some sc.names n [] (.inl h);exact Option.isSome_iff_exists.mp q
theorem yH{CX:eA}{P:Program}{w:World}{K:W.Frag}{mg:Str->Option Value}{base:Heap}{N ps:List Str}{qual:Str}{scope:Scope}{f:Addr}{cd:Value}{A:Around}{outer:List Env}{s s1:Shared}{H:Hp}{E:XK}{us:List Value}{vs:List V}(S:aY N ps scope)(hd:A.handled=none)(e0:eD P w K mg base A outer s H)(hl:vs.length=ps.length)(r:Vals vs us)(x:InCallC s s.heap.objs.size (bindL (envOfC qual scope s.heap.objs.size f cd).kindOf (ps.zip us) λ_=>none) (cellsFrom (s.heap.objs.size+1) scope.names []) (bindC (envOfC qual scope s.heap.objs.size f cd).kindOf (ps.zip us) λ_=>none) s1):Inv (iu CX P w K mg base N qual scope f cd A outer s H E) [] (start N vs) H s1:=by
 have hpl:ps.length<=N.length:=by have:=congrArg List.length S.pre;rw[vY]at this;omega
 obtain⟨h1,tk,rfl,hk⟩:=x.done;have gG:∀b:Addr,b ∉ (iu CX P w K mg base N qual scope f cd A outer s H E).ex:=λb z=>absurd (show b∈([]:List Addr)from z) (by simp);refine⟨⟨e0.mod,S.kind,rfl,rfl,aB _,λy z c h1 h2=>?_,λy hy=>?_,λy c _ h=>?_,λ_=>hd,Around.frames_deeper e0.frames,.inr ⟨rfl,rfl⟩,λb z=>absurd z (gG b),e0.bs,e0.d5,λb _ _=>gG b,λb z=>absurd z (gG b),e0.dh,e0.fJ⟩,
  rfl,e0.bare,Un.kept hk,⟨_,x.toInCall.ns,λi y v h1 h2 h3=>?_⟩,λy c h=>⟨_,x.cell y c h⟩,e0.hok.fresh (aB _),λy c h=>?_,λp hp=>absurd (show p∈([]:List (Addr × Obj))from hp) (by simp),e0.hok.kept hk,?_⟩
 ·exact name_of_addr x.apart (fC h1) (fC h2)
 ·have hy:scope.names.lookup y=some .cell\/scope.names.lookup y=some .free:=hy
  rcases hy with hy|hy
  ·exact xi hy
  ·exact absurd rfl (S.zJ _ (fC hy))
 ·exact fT (x.above y c (fC h))
 ·have hi:i<vs.length:=by
   unfold start at h2
   by_cases hi:i<vs.length
   ·exact hi
   ·rw[iN (by simpa using hi)]at h2
    rw[Ea]at h2
    split at h2<;>cases h2
  have ha:vs[i]?=some v:=by
   unfold start at h2;rw[jy (by simpa using hi),bB]at h2;cases e:vs[i]? with
   |none=>rw[e]at h2;cases h2
   |some a=>rw[e]at h2;cases h2;rfl
  obtain⟨u,hu,rv⟩:=r.get ha;have hp:ps[i]?=some y:=by
   rw[<- S.pre,Eb (by omega)];exact h1
  have zv:ps.Nodup:=by rw[<- S.pre];exact S.nd.sublist (List.take_sublist _ _)
  refine⟨u,rv,?_⟩
  rcases S.par y (bK hp)with k|k
  ·exact .inl ⟨k,w8 zv hp hu k⟩
  ·obtain⟨c,e⟩:=xi (n:=s.heap.objs.size+1) k
   refine .inr ⟨.inl k,c,e,?_⟩;have q:=x.cell y c e;rw[w5 zv hp hu (by show scope.names.lookup y≠_;rw[k];decide)]at q;exact q
 ·exact e0.hok.fresh (fT (x.above y c (fC h)))
 ·unfold start
  show _=N.length;rw[cX,aD,Ed];omega
theorem xN{CX:eA}{P:Program}{w:World}{K:W.Frag}{mg:Str->Option Value}{base:Heap}{k:Nat}{f:Addr}{name qual:Str}{params:Arguments}{body:List Stmt}{scope:Scope}{dV kV doc pm cdv ct oc:Value}{an od:Option Addr}
  {osl:Array (Option Value)} {N ps:List Str} {sp:Sp} (lk:K.lookup f=some ⟨oc,od,.func (W.fnOf name qual params body scope dV kV doc pm an cdv ct),osl⟩) (hcd:W.codeIn K cdv qual=true) (S:aY N ps scope)
  (len:∀vs H Q E,sp vs H Q E->vs.length=ps.length)
  (hbody:∀(A:Around) (outer:List Env) (s:Shared) (H:Hp) (vs:List V) (Q:VK) (E:XK),aV k (A.deeper (envOfC qual scope s.heap.objs.size f cdv))->sp vs H Q E ->
   ∃t,dD (iu CX P w K mg base N qual scope f cdv A outer s H E) body t/\t {nx:=λ_ H'=>Q .non H',rt:=Q} (start N vs) H) :
  aI P w K mg base CX (k+1) f (W.fnOf name qual params body scope dV kV doc pm an cdv ct) ps sp:=by
 refine⟨len,λA outer s H args us vs Q E hr e0 hb r hsp=>?_⟩;have hl:=len _ _ _ _ hsp;have KX:K.In s.heap:=e0.mod.j9.keeps λb o e=>(e0.bs b o e).1;have lim:s.heap.NoLimit:=e0.mod.nolimit.keeps λb o e=>(e0.bs b o e).1;have hkind:∀y∈ps.zip us,scope.names.lookup y.1=some .local\/(scope.names.lookup y.1=some .cell/\((cellsFrom (s.heap.objs.size+1) scope.names []).lookup y.1).isSome=true):=λ⟨n,v⟩ hy=>by
  rcases S.par n (nr hy).1 with q|q
  ·exact .inl q
  ·exact .inr ⟨q,W.cellsFrom_some _ _ _ (.inl q)⟩
 refine codeAny_call_function hr.depth (KX _ _ lk) rfl S.co S.gen rfl (W.codeRec_of KX hcd) (hb _ _ _ _ ?_);refine wpAny_newFunctionEnv_cells S.kind hkind λenv he s1 x=>?_;subst he;refine⟨lim.keeps x.toInCall.keep,codeAny_func ?_⟩;obtain⟨t,ht,hq⟩:=hbody A outer s H vs Q E (hr.deeper _) hsp;have I:Inv (iu CX P w K mg base N qual scope f cdv A outer s H E) [] (start N vs) H s1:=yH S hr.hd e0 hl r x;refine dZ (ht [] s1 (start N vs) H _ I hq) (λfl s' hs=>?_) λe s' hs=>hs;have fin:∀{σ':St} {H':Hp} {v:V} {u:Value},Inv (iu CX P w K mg base N qual scope f cdv A outer s H E) [] σ' H' s'->RelV v u->Q v H'->CE outer P w H s Q u s':=
  λ{σ' H' v u} J rv q=>⟨v,H',J.os,J.bare,J.base,J.hok,rv,q⟩
 cases fl with
 |ret u =>
  obtain⟨v,σ',H',J,rv,q⟩:=hs;exact fin J rv q
 |next =>
  obtain⟨σ',H',J,q⟩:=hs;exact fin (v:=V.non) (u:=Value.none) J rfl q
 |brk =>
  obtain⟨_,_,_,q⟩:=hs;exact False.elim q
 |cont =>
  obtain⟨_,_,_,q⟩:=hs;exact False.elim q
section
variable {X:Cx} {x:Str} {p pos:Pos} {e:Expr} {es:List Expr} {t:TA} {id T:String} {r:List V->Hp->VK->Prop}
noncomputable def kC(r:List V->Hp->VK->Prop)(t:TA):TE:=λσ H Q=>t σ H λvs H1=>r vs H1 Q
theorem bu (hc:cV X (.builtin id) r) (hg:Gl X x) (hm:X.mg x=none) (hv:bootBuiltins x=some (.builtin id)) (ha:PA X (e::es) t) (hn:x ≠ "__name__" :=by decide) (hdb:(x==("__debug__" : Str))=false:=by decide)
  (he:starEach (e::es) X.env=(false,eval e X.env)::starEach es X.env:=by rfl) (hpl:(backTo pos (starEach es X.env)).any (·.1)=false:=by rfl):PE X (.Call (.Name x p) (e::es) [] pos) (kC r t):=by
 intro pins s σ H Q I h;refine jJ (gD I hg hm hv ?_ hn hdb);exact PyProof.Rows.callWith_builtin1 (ao (ha pos pins s σ H _ I h) λus s1 ⟨vs,H1,I1,r1,q1⟩=>hc pins s1 σ H1 vs us Q I1 r1 q1) he hpl
theorem d9 (hc:cV X (.type T) r) (hg:Gl X x) (hm:X.mg x=none) (hv:bootBuiltins x=some (.type T)) (ha:PA X (e::es) t) (hn:x ≠ "__name__" :=by decide) (hdb:(x==("__debug__" : Str))=false:=by decide)
  (he:starEach (e::es) X.env=(false,eval e X.env)::starEach es X.env:=by rfl) (hpl:(backTo pos (starEach es X.env)).any (·.1)=false:=by rfl):PE X (.Call (.Name x p) (e::es) [] pos) (kC r t):=by
 intro pins s σ H Q I h;refine jJ (gD I hg hm hv ?_ hn hdb);exact k8 (ao (ha pos pins s σ H _ I h) λus s1 ⟨vs,H1,I1,r1,q1⟩=>hc pins s1 σ H1 vs us Q I1 r1 q1) he hpl
end
end L2
namespace HT
open PySem PyProof.Rows
noncomputable def lexLt:List Int->List Int->Bool
 | [],[]=>false
 | [],_::_=>true
 |_::_,[]=>false
 |x::xs,y::ys=>if x=y then lexLt xs ys else decide (x<y)
theorem zc(x y:Int)(xs ys:List Int):lexLt (x::xs) (y::ys)=if x=y then lexLt xs ys else decide (x<y):=rfl
theorem Jz:lexLt [] []=false:=rfl
theorem Jy(y:Int)(ys:List Int):lexLt [] (y::ys)=true:=rfl
theorem Jx(x:Int)(xs:List Int):lexLt (x::xs) []=false:=rfl
theorem Gz(A:Around)(s:Shared)(a:Int)(t:Tok)(c:Int)(u:Tok):∃e,SeqAt.EqAt A s (.int a t) (.int c u) e/\(e=true ↔ a=c):=
 ⟨(a==c),rH a t c u,by simp⟩
theorem M8(A:Around)(s:Shared)(a:Int)(t:Tok)(c:Int)(u:Tok)(prog:Program)(w:World)(E:Value->Shared->Prop)(Q:Value->Shared->Prop)(h:Q (.bool (decide (a<c))) s):wpAny (model prog w) A (richCompare .Lt (.int a t) (.int c u)) Q E s:=
 (PyProof.Rows.lt_int h:wpAny (model prog w) A (compareOp .Lt (.int a t) (.int c u)) Q E s)
section
open PySem.SeqAt
open PySem.AutoSeq1 (wpAny_loadPart')
open PySem.MeetsSeq PySem.MeetsSeq2 PySem.MeetsSeq3
theorem O7(l b:Addr)(items items2:Array Value)(n n2:Nat)(dd dd2:Option Addr)(sl sl2:Array (Option Value))(ns ms:List Int)(hi:IntsAre items.toList ns)(hj:IntsAre items2.toList ms):Meets (Builtin.«tuple.__lt__» ⟨[.ref l,.ref b],[]⟩)
   (λ_ R s=>s.heap.get? l=some {cls:=.type "tuple", dict:=dd,data:=.seq items n,slots:=sl}/\s.heap.get? b=some {cls:=.type "tuple", dict:=dd2,data:=.seq items2 n2,slots:=sl2} /\
    R (.ok (.ret (.bool (lexLt ns ms)))) s):=
 .of_wp λprog w A R s h=>by
  obtain⟨hp,g,d,tk,os⟩:=s;obtain⟨hl,hb,h⟩:=h;have f2:=AutoSeq1.sub_tuple_tuple;have z1:items.size=ns.length:=by rw[<- hi.length];simp
  have z2:items2.size=ms.length:=by rw[<- hj.length];simp
  wp_walk using wpAny_loadPart' hl,wpAny_loadPart' hb,wpAny_forIn_list _ (λrest b s'=>b.1=none/\s'=⟨hp,g,d,tk,os⟩/\∃(vs ws:List Value) (ns' kg:List Int),rest=vs.zip ws /\
   IntsAre vs ns'/\IntsAre ws kg/\ns'.length+items2.size=kg.length+items.size/\R (.ok (.ret (.bool (lexLt ns' kg)))) ⟨hp,g,d,tk,os⟩) _
  case turn =>
   rintro⟨y,x⟩ rest b s' ⟨hb',rfl,vs,ws,ns',kg,hz,tN,hwi,hlen,hR⟩;cases tN with
   |nil=>rw[List.zip_nil_left]at hz;cases hz
   |cons a t Ih =>
    cases hwi with
    |nil=>rw[List.zip_nil_right]at hz;cases hz
    |cons c u Ii =>
     rw[jC]at hz;injection hz with hyx hrest
     injection hyx with hy hx
     subst hy hx;rw[zc]at hR;simp only[dc]at hlen;obtain⟨e,he,hiff⟩:=Gz A.in1 ⟨hp,g,d,tk,os⟩ a t c u;refine ae (he prog w _ _ ?_);cases e with
     |true =>
      rw[if_pos (hiff.mp rfl)]at hR
      wp_walk
      exact⟨rfl,rfl,_,_,_,_,hrest,Ih,Ii,by omega,hR⟩
     |false =>
      rw[if_neg (λq=>absurd (hiff.mpr q) Bool.false_ne_true)]at hR;have HX:=M8 A.in1 ⟨hp,g,d,tk,os⟩ a t c u prog w
      wp_walk using HX
      exact⟨_,rfl,by simpa using hR⟩
  case fin =>
   rintro⟨b1,b2⟩ s' ⟨hb',rfl,vs,ws,ns',kg,hz,tN,hwi,hlen,hR⟩;simp only at hb';subst hb';have hv:lexLt ns' kg=decide (items.size<items2.size):=by
    cases tN with
    |nil =>
     cases hwi with
     |nil =>
      simp only[q9]at hlen;rw[Jz];exact(cZ (by omega)).symm
     |cons c u hw =>
      simp only[q9,dc]at hlen;rw[Jy];exact(b9 (by omega)).symm
    |cons a t hv =>
     cases hwi with
     |nil =>
      simp only[q9,dc]at hlen;rw[Jx];exact(cZ (by omega)).symm
     |cons c u hw =>
      rw[jC]at hz;cases hz
   rw[hv]at hR
   wp_walk
   exact⟨_,rfl,by simpa[Builtin.Tuple.tupleCompareSizes]using hR⟩
  case h =>
   exact⟨rfl,rfl,items.toList,items2.toList,ns,ms,rfl,hi,hj,by omega,h⟩
end
section
variable {prog:Program} {w:World} {A:Around} {E:Value->Shared->Prop} {s:Shared}
theorem JK{l b:Addr}{items items2:Array Value}{ns ms:List Int}{Q:Value->Shared->Prop}(hl:IsTup s.heap l items)(hb:IsTup s.heap b items2)(hi:IntsAre items.toList ns)(hj:IntsAre items2.toList ms)(hu:A.units<cLine)(h:Q (.bool (lexLt ns ms)) s):wpAny (model prog w) A (compareOp .Lt (.ref l) (.ref b)) Q E s:=by
 obtain⟨⟨cls,dd,data,sl⟩,ho,hc,n,hd⟩:=id hl;obtain⟨⟨cls2,dd2,data2,sl2⟩,ho2,hc2,n2,hd2⟩:=id hb;simp only at hc hd hc2 hd2;subst hc hd hc2 hd2;exact richCompare_meets_room (op:=.Lt) ⟨_,ho,rfl⟩ ⟨_,ho2,rfl⟩ PySem.F.slot_tuple_lt PySem.F.entry_tuple_lt (PySem.F.args_tuple_lt_2 _ _) (O7 l b items items2 n n2 dd dd2 sl sl2 ns ms hi hj)
  ⟨ho,ho2,show Value.bool (lexLt ns ms)≠Value.notImplemented/\Q (.bool (lexLt ns ms)) s from⟨(λx=>nomatch x),h⟩⟩ hu
end
end HT
namespace L2
open PySem PySem.Spec PyProof.Rows
abbrev TO:=St->Hp->(Option Int->Hp->Prop)->Prop
section
variable {X:Cx} {e:Expr} {te:TE} {lo hi:Option Expr} {tl th:TO} {pos p2:Pos}
end
noncomputable def fL(n:Nat)(i:Int):Option Nat:=if 0<=i then(if i<n then some i.toNat else none)else if -(n:Int)<=i then some (i+n).toNat else none
noncomputable def f9{α:Type}(xs:List α)(i:Int):Option α:=(fL xs.length i).bind λj=>xs[j]?
theorem yL{n:Nat}{i:Int}{j:Nat}(h:fL n i=some j):seqIndex? i n=some j/\j<n/\-(n:Int)<=i/\i<n:=by
 unfold fL at h
 by_cases h0:0<=i
 ·rw[if_pos h0]at h
  by_cases h1:i<n
  ·rw[if_pos h1]at h
   have e:i.toNat=j:=dC h;exact⟨by rw[seqIndex_of h0 h1,e],by omega,by omega,h1⟩
  ·rw[if_neg h1]at h;cases h
 ·rw[if_neg h0]at h
  by_cases h1:-(n:Int)<=i
  ·rw[if_pos h1]at h
   have e:(i+n).toNat=j:=dC h;exact⟨by rw[seqIndex_neg (by omega) h1,e],by omega,h1,by omega⟩
  ·rw[if_neg h1]at h;cases h
theorem wZ{α:Type}{xs:List α}{i:Int}{v:α}(h:f9 xs i=some v):∃j,seqIndex? i xs.length=some j/\xs[j]?=some v/\j<xs.length/\-(xs.length:Int)<=i/\i<xs.length:=by
 unfold f9 at h;cases e:fL xs.length i with
 |none=>rw[e]at h;cases h
 |some j =>
  rw[e]at h;obtain⟨h1,h2,h3,h4⟩:=yL e;exact⟨j,h1,h,h2,h3,h4⟩
theorem e9{α:Type}{xs:List α}{j:Nat}{v:α}(h:xs[j]?=some v):f9 xs (j:Int)=some v:=by
 have hj:j<xs.length:=(bF.mp h).1;have e:fL xs.length (j:Int)=some j:=by
  unfold fL;rw[if_pos (by omega),if_pos (by omega)];simp
 unfold f9;rw[e];exact h
noncomputable def Ej(b:Expr):Prop:=∀o i,subscripted b false o i=operate [o,i] (getItem o i)
noncomputable def jx(X:Cx)(r:R2):Prop:=
 ∀(value slice:Expr) (pins:List (Addr × Obj)) (s:Shared) (σ:St) (H:Hp) (x y:V) (v u:Value) (Q:VK),Inv X pins σ H s->RelV x v->RelV y u->r x y H Q ->
  subscripted slice false v u=operate [v,u] (getItem v u)->wpAny (model X.prog X.w) X.A (subscriptTail value slice v u) (EP X pins σ Q) X.xe s
noncomputable def ny(X:Cx)(id:String)(r:V->List V->Hp->VK->Prop):Prop:=
 ∀(pins:List (Addr × Obj)) (s:Shared) (σ:St) (H:Hp) (x:V) (xs:List V) (v:Value) (us:List Value) (Q:VK),Inv X pins σ H s->RelV x v->Vals xs us->r x xs H Q ->
  wpAny (model X.prog X.w) X.A (call (.builtin id) (v::us)) (EP X pins σ Q) X.xe s
section
variable {X:Cx} {a b:Expr} {ta tb:TE} {pos:Pos}
theorem aX{r:R2}(hr:jx X r)(ha:PE X a ta)(hb:PE X b tb)(hs:Ej b):PE X (.Subscript a b pos) (gQ r ta tb):=by
 intro pins s σ H Q I h;exact Subscript_ (se ha hb I h λv u s2 x y H2 I2 rx ry q=>hr a b pins s2 σ H2 x y v u Q I2 rx ry q (hs _ _))
noncomputable def Ba(K:W.Frag):R2:=λx y H Q=>∃p xs i v,x = .ref p/\y = .int i/\ak K H p xs/\f9 xs i=some v/\Q v H
noncomputable def Bb(K:W.Frag):R2:=λx y H Q=>∃p xs i v,x = .ref p/\y = .int i/\az K H p xs/\f9 xs i=some v/\Q v H
theorem Jc:jx X (Ba X.K):=by
 intro value slice pins s σ H x y v u Q I rx ry h hs;obtain⟨p,xs,i,z,rfl,rfl,hq,he,q⟩:=h;cases rx;obtain⟨t,rfl⟩:=ry;obtain⟨its,r,pl,hz⟩:=I.list hq;obtain⟨j,h1,h2,h3,h4,h5⟩:=wZ he;obtain⟨w,ew,jl⟩:=r.get h2;have hl:=r.length;have hn:=o7;have fin:EP X pins σ Q w s:=⟨z,H,I,jl,q⟩
 by_cases h0:0<=i
 ·have hj:i.toNat=j:=by
   rw[seqIndex_of h0 h5]at h1;exact dC h1
  exact item_listR pl.isList h0 (by omega) (by rw[hj];simpa using ew) fin hs
 ·have hj:(i+(its.toArray.size:Int)).toNat=j:=by
   rw[seqIndex_neg (by omega) h4]at h1;rw[a_,<- hl];exact dC h1
  exact subscriptTail_builtinR (x:=w) pl.isList.typeIs slot_list_getitem.lookup
   (wpAny_getItem_list_neg (Q:=λr s'=>r=w/\EP X pins σ Q r s') pl.isList (by omega) (by rw[a_]<;>omega) (by omega) (by rw[hj];simpa using ew) ⟨rfl,fin⟩) hs
theorem Jd:jx X (Bb X.K):=by
 intro value slice pins s σ H x y v u Q I rx ry h hs;obtain⟨p,xs,i,z,rfl,rfl,hq,he,q⟩:=h;cases rx;obtain⟨t,rfl⟩:=ry;obtain⟨its,r,pl,hz⟩:=I.tuple hq;obtain⟨j,h1,h2,h3,h4,h5⟩:=wZ he;obtain⟨w,ew,jl⟩:=r.get h2;have hl:=r.length;have hn:=o7;have fin:EP X pins σ Q w s:=⟨z,H,I,jl,q⟩;exact subscriptTail_builtinR (x:=w) pl.typeIs slot_tuple_getitem.lookup
  (getItem_tuple (j:=j) (Q:=λr s'=>r=w/\EP X pins σ Q r s') pl (by omega) (by omega) (by rw[a_,<- hl];exact h1) (by simpa using ew) ⟨rfl,fin⟩) hs
theorem JR (its:List Value) (n j:Nat) (u:Value):Obj.mapSeq (·.setIfInBounds j u) {cls:=.type "list", data:=.seq its.toArray n} = {cls:=.type "list", data:=.seq (its.set j u).toArray n}:=by
 simp[Obj.mapSeq]
theorem Inv.lst{pins:List (Addr × Obj)}{σ:St}{H:Hp}{s:Shared}{p:Addr}{xs:List V}(I:Inv X pins σ H s)(h:H p=some (.lst xs)):
  ∃(its:List Value) (n:Nat),Vals xs its/\s.heap.get? p=some {cls:=.type "list", data:=.seq its.toArray n}/\xs.length<=sizeLine:=by
 obtain⟨z,its,n,r,e⟩:=I.hok p _ h;exact⟨its,n,r,e,z⟩
theorem Inv.JG{pins:List (Addr × Obj)}{σ:St}{H:Hp}{s:Shared}{p:Addr}{xs ys:List V}{its its':List Value}{n n':Nat}{f:Obj->Obj}(I:Inv X pins σ H s)(h:H p=some (.lst xs))
  (ho:s.heap.get? p=some {cls:=.type "list", data:=.seq its.toArray n}) (hf:f {cls:=.type "list", data:=.seq its.toArray n} = {cls:=.type "list", data:=.seq its'.toArray n'}) (r:Vals ys its') (hz:ys.length<=sizeLine) (t:Nat) :
  Inv X pins σ (upd H p (.lst ys)) {s with heap:=s.heap.update p f,toks:=t}:=by
 have e:(s.heap.update p f).get? p=some {cls:=.type "list", data:=.seq its'.toArray n'}:=by
  rw[k_ f ho (by rw[hf]<;>rfl),hf]
 refine I.write (x:=p) (e:=p) (by rw[h];trivial) (.inl rfl) (λb u hb q=>(rF _ _ (cu hb)).trans q) ⟨_,e⟩ ?_;exact⟨hz,its',n',r,e⟩
noncomputable def MP:V->V->V->Hp->(Hp->Prop)->Prop:=λo i v H Q=>∃p xs k j,o = .ref p/\i = .int k/\H p=some (.lst xs)/\fL xs.length k=some j/\Q (upd H p (.lst (xs.set j v)))
theorem set_list:wm X MP:=by
 intro pins s σ H o i v ov iv u Q I ro ri rv h;obtain⟨p,xs,k,j,rfl,rfl,hp,hj,q⟩:=h;cases ro;obtain⟨t,rfl⟩:=ri;obtain⟨its,n,r,ho,hz⟩:=I.lst hp;obtain⟨h1,h2,h3,h4⟩:=yL hj;have hl:=r.length;have hn:=o7;have I':Inv X pins σ (upd H p (.lst (xs.set j v))) {s with heap:=s.heap.update p (Obj.mapSeq (·.setIfInBounds j u))}:=
  I.JG hp ho (JR its n j u) (r.set rv j) (by rw[vX];exact hz) s.toks
 by_cases h0:0<=k
 ·have hk:k.toNat=j:=by
   rw[seqIndex_of h0 h4]at h1;exact dC h1
  exact W.ki_setAt ho h0 (by omega) (by rw[a_,<- hl];exact h4) (by rw[hk];exact⟨_,I',q⟩)
 ·have hk:(k+(its.toArray.size:Int)).toNat=j:=by
   rw[seqIndex_neg (by omega) h3]at h1;rw[a_,<- hl];exact dC h1
  exact W.ki_setBack ho (by omega) (by rw[a_,<- hl];exact h3) (by omega) (by rw[hk];exact⟨_,I',q⟩)
noncomputable def gj:V->Bool
 |.non=>true
 |.bl _=>true
 |.int _=>true
 |.str _=>true
 |_=>false
noncomputable def gi:V->V->Bool
 |.non,.non=>true
 |.bl a,.bl b=>a==b
 |.bl a,.int b=>(if a then 1 else 0)==b
 |.int a,.bl b=>a==(if b then 1 else 0)
 |.int a,.int b=>a==b
 |.str a,.str b=>a==b
 |_,_=>false
theorem Gy{A:Around}{s:Shared}{y x:V}{u v:Value}(ry:RelV y u)(rx:RelV x v)(fy:gj y=true)(fx:gj x=true):SeqAt.EqAt A s u v (gi y x):=by
 cases y with
 |non =>
  cases ry;cases x with
  |non=>cases rx;exact nL _
  |bl b=>cases rx;exact SeqAt.EqAt.none_bool b
  |int b=>obtain⟨t,rfl⟩:=rx;exact SeqAt.EqAt.none_int b t
  |str b=>obtain⟨t,rfl⟩:=rx;exact SeqAt.EqAt.none_str b t
  |_=>exact absurd (show false=true from fx) Bool.false_ne_true
 |bl a =>
  cases ry;cases x with
  |non=>cases rx;exact SeqAt.EqAt.bool_none a
  |bl b=>cases rx;exact wB a b
  |int b=>obtain⟨t,rfl⟩:=rx;exact SeqAt.EqAt.bool_int a b t
  |str b=>obtain⟨t,rfl⟩:=rx;exact SeqAt.EqAt.bool_str a b t
  |_=>exact absurd (show false=true from fx) Bool.false_ne_true
 |int a =>
  obtain⟨t',rfl⟩:=ry;cases x with
  |non=>cases rx;exact SeqAt.EqAt.int_none a t'
  |bl b=>cases rx;exact SeqAt.EqAt.int_bool a t' b
  |int b=>obtain⟨t,rfl⟩:=rx;exact rH a t' b t
  |str b=>obtain⟨t,rfl⟩:=rx;exact SeqAt.EqAt.int_str a t' b t
  |_=>exact absurd (show false=true from fx) Bool.false_ne_true
 |str a =>
  obtain⟨t',rfl⟩:=ry;cases x with
  |non=>cases rx;exact SeqAt.EqAt.str_none a t'
  |bl b=>cases rx;exact SeqAt.EqAt.str_bool a t' b
  |int b=>obtain⟨t,rfl⟩:=rx;exact SeqAt.EqAt.str_int a t' b t
  |str b=>obtain⟨t,rfl⟩:=rx;exact SeqAt.EqAt.str_str a t' b t
  |_=>exact absurd (show false=true from fx) Bool.false_ne_true
 |_=>exact absurd (show false=true from fy) Bool.false_ne_true
noncomputable def dg(x:V)(u:Value):Bool:=match u with
 |.none=>gi .non x
 |.bool b=>gi (.bl b) x
 |.int i _=>gi (.int i) x
 |.str z _=>gi (.str z) x
 |_=>false
theorem xI{x y:V}{u:Value}(r:RelV y u)(f:gj y=true):dg x u=gi y x:=by
 cases y with
 |non=>cases r;rfl
 |bl b=>cases r;rfl
 |int i=>obtain⟨t,rfl⟩:=r;rfl
 |str z=>obtain⟨t,rfl⟩:=r;rfl
 |_=>exact absurd (show false=true from f) Bool.false_ne_true
theorem lq{x:V}:∀{xs:List V} {us:List Value},Vals xs us->xs.all gj=true->us.any (dg x)=xs.any λy=>gi y x
 |_,_,.nil,_=>rfl
 |y::xs,u::us,.cons r t,f=>by
  rw[vO,ck]at f;rw[kR,kR,xI r f.1,lq t f.2]
theorem mj{A:Around}{s:Shared}{x:V}{v:Value}(rx:RelV x v)(fx:gj x=true):∀{xs:List V} {us:List Value},Vals xs us->xs.all gj=true->∀u∈us,SeqAt.EqAt A s u v (dg x u)
 |_,_,.nil,_=>λu hu=>by cases hu
 |y::xs,u::us,.cons r t,f=>λu' hu=>by
  rw[vO,ck]at f
  rcases a9.mp hu with rfl|hu
  ·rw[xI r f.1];exact Gy r rx f.1 fx
  ·exact mj rx fx t f.2 u' hu
noncomputable def inV(x:V)(xs:List V):Bool:=xs.any λy=>gi y x
noncomputable def pP(K:W.Frag)(neg:Bool):R2:=λx y H Q=>∃p xs,y = .ref p/\(ak K H p xs\/az K H p xs)/\gj x=true/\xs.all gj=true/\Q (.bl (if neg then !inV x xs else inV x xs)) H
theorem K3:bj X (compareOp .In) (pP X.K false):=by
 intro pins s σ H x y v u Q I rx ry h;obtain⟨p,xs,rfl,hq,fx,fs,q⟩:=h;cases ry
 rcases hq with hq|hq
 ·obtain⟨its,r,pl,hz⟩:=I.list hq
  refine SeqAt.in_listAt (dg x) pl.isList (λw hw=>mj rx fx r fs w (by simpa using hw)) ⟨.bl _,H,I,rfl,?_⟩;rw[show its.toArray.any (dg x)=its.any (dg x)by simp,lq r fs];exact q
 ·obtain⟨its,r,pl,hz⟩:=I.tuple hq
  refine SeqAt.in_tupleAt (dg x) pl (λw hw=>mj rx fx r fs w (by simpa using hw)) ⟨.bl _,H,I,rfl,?_⟩;rw[show its.toArray.any (dg x)=its.any (dg x)by simp,lq r fs];exact q
theorem K6:bj X (compareOp .NotIn) (pP X.K true):=by
 intro pins s σ H x y v u Q I rx ry h;obtain⟨p,xs,rfl,hq,fx,fs,q⟩:=h;cases ry
 rcases hq with hq|hq
 ·obtain⟨its,r,pl,hz⟩:=I.list hq
  refine SeqAt.notIn_listAt (dg x) pl.isList (λw hw=>mj rx fx r fs w (by simpa using hw)) ⟨.bl _,H,I,rfl,?_⟩;rw[show its.toArray.any (dg x)=its.any (dg x)by simp,lq r fs];exact q
 ·obtain⟨its,r,pl,hz⟩:=I.tuple hq
  refine SeqAt.notIn_tupleAt (dg x) pl (λw hw=>mj rx fx r fs w (by simpa using hw)) ⟨.bl _,H,I,rfl,?_⟩;rw[show its.toArray.any (dg x)=its.any (dg x)by simp,lq r fs];exact q
theorem Ft:cV X (.builtin "len") (λxs H Q=>∃p ys,xs = [.ref p]/\(ak X.K H p ys\/az X.K H p ys)/\Q (.int ys.length) H):=by
 intro pins s σ H xs us Q I r h;obtain⟨p,ys,rfl,hq,q⟩:=h;obtain⟨u,rfl,rx⟩:=vals1 r;cases rx;have hn:=o7
 rcases hq with hq|hq
 ·obtain⟨its,r',pl,hz⟩:=I.list hq
  have hlen:=r'.length;exact Calls.call_len_list pl.isList (by simp only[a_]<;>omega) ⟨.int ys.length,H,I.tok _,⟨s.toks+1,by rw[a_,hlen]⟩,q⟩
 ·obtain⟨its,r',pl,hz⟩:=I.tuple hq
  have hlen:=r'.length;exact len_tuple pl (by simp only[a_]<;>omega) ⟨.int ys.length,H,I.tok _,⟨s.toks+1,by rw[a_,hlen]⟩,q⟩
theorem Fw:cV X (.type "list") (λxs H Q=>∃p ys,xs = [.ref p]/\(ak X.K H p ys\/az X.K H p ys)/\∀l,H l=none->Q (.ref l) (upd H l (.lst ys))):=by
 intro pins s σ H xs us Q I r h;obtain⟨p,ys,rfl,hq,q⟩:=h;obtain⟨u,rfl,rx⟩:=vals1 r;cases rx;have fin:∀(its:List Value),Vals ys its->ys.length<=sizeLine->∀(h':Heap) (c':Nat),(∀b o',s.heap.get? b=some o'->h'.get? b=some o') ->
   h'.get? s.heap.objs.size=some {cls:=.type "list", dict:=none,data:=.seq its.toArray c',slots:=#[]}->EP X pins σ Q (.ref s.heap.objs.size) {s with heap:=h'}:=λits r' hz h' c' kp e =>
  ⟨.ref s.heap.objs.size,_,I.laid (t':=s.toks) kp (aB _) (show aK X.prog X.w _ h' _ (.lst ys)from⟨hz,its,c',r',e⟩),rfl,q _ (I.hok.fresh (aB _))⟩
 rcases hq with hq|hq
 ·obtain⟨its,r',pl,hz⟩:=I.list hq
  have hlen:=r'.length;obtain⟨o,ho,hc,n,hd⟩:=pl.isList;exact call_list_seq p (.inl rfl) ho hc hd (λh' c' kp e=>fin its r' hz h' c' kp e) (by simp only[a_]<;>omega)
 ·obtain⟨its,r',pl,hz⟩:=I.tuple hq
  have hlen:=r'.length;obtain⟨o,ho,hc,n,hd⟩:=pl;exact call_list_seq p (.inr rfl) ho hc hd (λh' c' kp e=>fin its r' hz h' c' kp e) (by simp only[a_]<;>omega)
theorem FH:cV X (.type "tuple") (λxs H Q=>∃p ys,xs = [.ref p]/\((ak X.K H p ys/\∀l,H l=none->Q (.ref l) (upd H l (.tup ys)))\/(az X.K H p ys/\Q (.ref p) H))):=by
 intro pins s σ H xs us Q I r h;obtain⟨p,ys,rfl,h⟩:=h;obtain⟨u,rfl,rx⟩:=vals1 r;cases rx
 rcases h with⟨hq,q⟩|⟨hq,q⟩
 ·obtain⟨its,r',pl,hz⟩:=I.list hq
  have hlen:=r'.length;refine call_tuple_list pl.isList (λh' kp=>?_) (by simp only[a_]<;>omega);have I1:Inv X pins σ H {s with heap:=h'}:=I.kept (t':=s.toks) kp;have I2:Inv X pins σ (upd H h'.objs.size (.tup ys)) {s with heap:=h'.push {cls:=.type "tuple", data:=.seq its.toArray}}:=
   I1.laid (t':=s.toks) (λb o e=>au _ e) (aB _) (show aK X.prog X.w _ _ _ (.tup ys)from⟨hz,its,r',IsTup.new _ _,_,aQ _ rfl,rfl⟩)
  exact⟨.ref h'.objs.size,_,I2,rfl,q _ (I1.hok.fresh (aB _))⟩
 ·obtain⟨its,r',pl,hz⟩:=I.tuple hq
  exact call_tuple_same pl ⟨.ref p,H,I,rfl,q⟩
noncomputable def vy(K:W.Frag)(T:String)(x:V)(H:Hp):Prop:=match x with
 |.str _=>T = "str"
 |.int _=>T = "int"
 |.ref p=>(T = "list" /\ ∃xs,ak K H p xs)\/(T = "tuple" /\ ∃o,K.lookup p=some o/\o.cls = .type "tuple" /\ o.dict=none) \/
   (T = "dict" /\ ((∃kvs,H p=some (.dK kvs))\/∃kvs,H p=some (.dT kvs)))\/(T = "set" /\ ∃S n,H p=some (.set S n))\/(T = "tuple" /\ ∃xs,H p=some (.tup xs))
 |_=>False
theorem Dq{pins:List (Addr × Obj)}{σ:St}{H:Hp}{s:Shared}{T:String}{x:V}{v:Value}(I:Inv X pins σ H s)(r:RelV x v)(ty:vy X.K T x H):s.TypeIs v T/\∀a,v = .ref a->∃ob,s.heap.get? a=some ob/\ob.dict=none:=by
 cases x with
 |str z =>
  obtain⟨t,rfl⟩:=r;cases(show T = "str" from ty);exact⟨typeIs_str s z t,λ_ e=>nomatch e⟩
 |int i =>
  obtain⟨t,rfl⟩:=r;cases(show T = "int" from ty);exact⟨typeIs_int s i t,λ_ e=>nomatch e⟩
 |ref p =>
  cases r
  rcases ty with⟨rfl,xs,hq⟩|⟨rfl,o,hk,hc,hd⟩|⟨rfl,hk⟩|⟨rfl,S,n,hk⟩|⟨rfl,zs,hk⟩
  ·obtain⟨its,_,pl,_⟩:=I.list hq
   refine⟨pl.isList.typeIs,λa e=>?_⟩;cases e;obtain⟨o,n,e,c,hd,_⟩:=pl;exact⟨o,e,hd⟩
  ·refine⟨⟨o,I.bI p o hk,hc⟩,λa e=>?_⟩
   cases e;exact⟨o,I.bI _ o hk,hd⟩
  ·have z:∃o,s.heap.get? p=some o/\o.ExactDict:=by
    rcases hk with⟨kvs,hk⟩|⟨kvs,hk⟩
    ·obtain⟨_,_,_,_,o,_,_,e,ex,_⟩:=I.hok p _ hk
     exact⟨o,e,ex⟩
    ·obtain⟨_,_,_,_,o,_,_,e,ex,_⟩:=I.hok p _ hk
     exact⟨o,e,ex⟩
   obtain⟨o,e,ex⟩:=z;refine⟨⟨o,e,ex.1⟩,λa e2=>?_⟩;cases e2;exact⟨o,e,ex.2.1⟩
  ·obtain⟨o,_,_,_,e,ex,_⟩:=I.hok p _ hk
   refine⟨⟨o,e,ex.1⟩,λa e2=>?_⟩;cases e2;exact⟨o,e,ex.2.1⟩
  ·obtain⟨_,_,_,⟨o2,e2,c2,_⟩,o,e,hd⟩:=(show aK X.prog X.w H s.heap p (.tup zs)from I.hok p _ hk)
   refine⟨⟨o2,e2,c2⟩,λa e3=>?_⟩;cases e3;exact⟨o,e,hd⟩
 |_=>exact False.elim ty
noncomputable def CZ(K:W.Frag)(T:String)(r:V->List V->Hp->VK->Prop)(to:TE):TE:=λσ H Q=>to σ H λx H1=>vy K T x H1/\r x [] H1 Q
noncomputable def CW(K:W.Frag)(T:String)(r:V->List V->Hp->VK->Prop)(to:TE)(t:TA):TE:=λσ H Q=>to σ H λx H1=>vy K T x H1/\t σ H1 λxs H2=>r x xs H2 Q
variable {o e:Expr} {es:List Expr} {to:TE} {t:TA} {name:Str} {apos cpos:Pos} {T id:String} {r:V->List V->Hp->VK->Prop}
theorem Li (pa:PlainAttrs T) (slot:Slot T name id) (hty:typeOf (.builtin id)=pure (.type "method_descriptor")) (hm:ny X id r) (ho:PE X o to)
  (hbase:attributeBase o name X.env (eval o X.env)=eval o X.env:=by rfl) (hline:(apos.endLine==cpos.line)=true:=by rfl):PE X (.Call (.Attribute o name apos) [] [] cpos) (CZ X.K T r to):=by
 intro pins s σ H Q I h;refine wpAny_Call_method0_late hbase hline (ao (ho pins s σ H _ I h) λv s1 ⟨x,H1,I1,r1,ty,q1⟩=>?_);obtain⟨h1,h2⟩:=Dq I1 r1 ty;exact⟨T,id,pa,slot,hty,h1,h2,wy rfl (PySem.evalArgs_none (hm pins s1 σ H1 x [] v [] Q I1 r1 .nil q1))⟩
theorem Lh (pa:PlainAttrs T) (slot:Slot T name id) (hty:typeOf (.builtin id)=pure (.type "method_descriptor")) (hm:ny X id r) (ho:PE X o to) (ha:PA X (e::es) t)
  (hbase:attributeBase o name X.env (eval o X.env)=eval o X.env:=by rfl)
  (hfew:((backTo cpos (starEach (e::es) X.env)).all (λx=>!x.1)&&(backToKw cpos (keywordEach [] X.env)).all (λx=>x.1.isSome)
   && decide ((e::es).length+([]:List Keyword).length+(if([]:List Keyword).isEmpty then 0 else 1)<30))=true:=by rfl)
  (hline:(apos.endLine==cpos.line)=true:=by rfl) (hs:starEach (e::es) X.env=(false,eval e X.env)::starEach es X.env:=by rfl) (hplain:(backTo cpos (starEach es X.env)).any (·.1)=false:=by rfl) :
  PE X (.Call (.Attribute o name apos) (e::es) [] cpos) (CW X.K T r to t):=by
 intro pins s σ H Q I h;refine wpAny_Call_method_late hbase hfew hline rfl (ao (ho pins s σ H _ I h) λv s1 ⟨x,H1,I1,r1,ty,q1⟩=>?_);obtain⟨h1,h2⟩:=Dq I1 r1 ty;refine⟨T,id,pa,slot,hty,h1,h2,?_⟩;have hA:=ha cpos pins s1 σ H1 _ I1 q1;rw[hs]at hA ⊢;refine wy (by show(false||(backTo cpos (starEach es X.env)).any (·.1))=false;rw[hplain]<;>rfl) (Calls.evalArgs_plain ?_);exact ao hA λus s2 ⟨vs,H2,I2,r2,q2⟩=>hm pins s2 σ H2 x vs v us Q I2 r1 r2 q2
end
noncomputable def nu(X:Cx)(id:String)(r:V->List V->Hp->VK->Prop):Prop:=
 ∀(pins:List (Addr × Obj)) (s:Shared) (σ:St) (H:Hp) (x:V) (xs:List V) (v:Value) (us:List Value) (Q:VK),Inv X pins σ H s->RelV x v->Vals xs us->r x xs H Q ->
  wpAny (model X.prog X.w) X.A (call (.builtin id) (v::us)) (EP X pins σ Q) X.xe s
theorem Vals.one{x:V}{us:List Value}(h:Vals [x] us):∃u,us = [u]/\RelV x u:=by
 cases h with
 |cons r t=>cases t;exact⟨_,rfl,r⟩
theorem Vals.two{x y:V}{us:List Value}(h:Vals [x,y] us):∃u v,us = [u,v]/\RelV x u/\RelV y v:=by
 cases h with
 |cons r t =>
  obtain⟨v,rfl,q⟩:=Vals.one t;exact⟨_,_,rfl,r,q⟩
theorem Vals.zero:∀{us:List Value},Vals [] us->us = []
 |_,.nil=>rfl
theorem Vals.eraseIdx:∀{xs:List V} {us:List Value} (i:Nat),Vals xs us->Vals (xs.eraseIdx i) (us.eraseIdx i)
 |_,_,_,.nil=>.nil
 |_,_,0,.cons _ t=>t
 |_,_,i+1,.cons r t=>.cons r (Vals.eraseIdx i t)
theorem y9{α:Type}:∀(l:List α) (i:Nat),(l.eraseIdx i).length<=l.length
 | [],_=>aB _
 |_::_,0=>nA _
 |_::r,i+1=>Nat.succ_le_succ (y9 r i)
section
variable {X:Cx} {pins:List (Addr × Obj)} {σ:St} {H:Hp} {s:Shared} {l b:Addr} {xs ys zs:List V}
theorem Inv.ke{its its':List Value}{n:Nat}{f:Array Value->Array Value}{t':Nat}(I:Inv X pins σ H s)(hH:H l=some (.lst xs))
  (e:s.heap.get? l=some {cls:=.type "list", data:=.seq its.toArray n}) (hf:f its.toArray=its'.toArray) (hv:Vals ys its') (hz:ys.length<=sizeLine) :
  Inv X pins σ (upd H l (.lst ys)) {s with heap:=s.heap.update l (Obj.mapSeq f),toks:=t'}:=by
 have q:=PySem.IsL.update e f;rw[hf]at q;refine I.write (x:=l) (e:=l) (by rw[hH];exact trivial) (.inl rfl) (λb' u hb hu=>(rF s.heap (Obj.mapSeq f) (cu hb)).trans hu) ⟨_,q⟩ ?_;exact⟨hz,its',_,hv,q⟩
theorem Inv.ud{its:List Value}{t':Nat}(I:Inv X pins σ H s)(hv:Vals ys its)(hz:ys.length<=sizeLine):
  Inv X pins σ (upd H s.heap.objs.size (.lst ys)) {s with heap:=s.heap.push {cls:=.type "list", data:=.seq its.toArray},toks:=t'}:=
 I.laid (λ_ _ q=>au _ q) (aB _) ⟨hz,its,0,hv,aQ _ rfl⟩
theorem Inv.fresh(I:Inv X pins σ H s):H s.heap.objs.size=none:=I.hok.fresh (aB _)
theorem Inv.gE (I:Inv X pins σ H s) (hH:H l=some (.lst xs)):xs.length<=sizeLine/\∃(its:List Value) (n:Nat),Vals xs its/\xs.length=its.length/\s.heap.get? l=some {cls:=.type "list", data:=.seq its.toArray n}:=by
 obtain⟨z,its,n,r,e⟩:=I.hok l _ hH;exact⟨z,its,n,r,r.length,e⟩
theorem Kl{n:Nat}(h:n<=sizeLine):Builtin.List.listTooLong n=false:=by
 unfold Builtin.List.listTooLong;exact cZ (by omega)
end
section
variable {X:Cx}
noncomputable def Mt:V->List V->Hp->VK->Prop:=λx vs H Q=>∃l xs y,x = .ref l/\vs = [y]/\H l=some (.lst xs)/\xs.length<sizeLine/\Q .non (upd H l (.lst (xs++[y])))
theorem ml:nu X "list.append" Mt:=by
 intro pins s σ H x vs v us Q I rx rv h;obtain⟨l,xs,y,rfl,rfl,hH,hz,q⟩:=h;cases rx;obtain⟨u,rfl,ru⟩:=rv.one;obtain⟨z,its,n,r,hl,e⟩:=I.gE hH;refine call_meets nG ⟨_,e,rfl⟩ F.entry_list_append (F.args_list_append_2 _ _) (PySem.list_append l its.toArray n u (by rw[a_];omega)) ⟨e,?_⟩;refine⟨.non,_,I.ke (its':=its++[u]) hH e (by simp) (r.append (.cons ru .nil)) ?_,rfl,q⟩;rw[cX,kY];omega
noncomputable def Mx:V->List V->Hp->VK->Prop:=λx vs H Q=>∃l b xs zs,x = .ref l/\vs = [.ref b]/\H l=some (.lst xs)/\H b=some (.lst zs)/\xs.length+zs.length<=sizeLine/\Q .non (upd H l (.lst (xs++zs)))
theorem ui:nu X "list.extend" Mx:=by
 intro pins s σ H x vs v us Q I rx rv h;obtain⟨l,b,xs,zs,rfl,rfl,hH,hB,hz,q⟩:=h;cases rx;obtain⟨u,rfl,ru⟩:=rv.one;cases ru;obtain⟨z,its,n,r,hl,e⟩:=I.gE hH;obtain⟨z2,its2,n2,r2,hl2,e2⟩:=I.gE hB;have hsz:its.toArray.size+its2.toArray.size<=sizeLine:=by rw[a_,a_];omega
 have HN:¬ (!its.toArray.isEmpty&&Builtin.List.listTooLong (its.toArray.size+its2.toArray.size))=true:=by
  rw[Kl hsz,Bool.and_false];exact Bool.false_ne_true
 refine call_meets rB ⟨_,e,rfl⟩ F.entry_list_extend (F.args_list_extend_2 _ _)
  (AutoSeq1.list_extend_list_list_0 l its.toArray n b its2.toArray n2 HN (by rw[a_];omega) (by omega)) ⟨e,e2,?_⟩
 refine⟨.non,_,I.ke (its':=its++its2) hH e (by simp) (r.append r2) ?_,rfl,q⟩;rw[cX];omega
noncomputable def MN:V->List V->Hp->VK->Prop:=λx vs H Q=>∃l xs i k y,x = .ref l/\vs = [.int i]/\H l=some (.lst xs)/\-(2 ^ 63)<=i/\i<2 ^ 63/\seqIndex? i xs.length=some k/\xs[k]?=some y/\Q y (upd H l (.lst (xs.eraseIdx k)))
theorem J9:nu X "list.pop" MN:=by
 intro pins s σ H x vs v us Q I rx rv h;obtain⟨l,xs,i,k,y,rfl,rfl,hH,h1,h2,hk,hy,q⟩:=h;cases rx;obtain⟨u,rfl,ru⟩:=rv.one;obtain⟨t,rfl⟩:=ru;obtain⟨z,its,n,r,hl,e⟩:=I.gE hH;obtain⟨w,hw,jl⟩:=r.get hy;refine call_meets F.slot_list_pop ⟨_,e,rfl⟩ F.entry_list_pop (F.args_list_pop_2 _ _)
  (MeetsSeq.list_pop_at l its.toArray n i t k w (fitsIndex_both h1 h2) (by rw[a_,<- hl];exact hk) (by rw[<- kJ];exact hw) (by rw[a_];omega)) ⟨e,?_⟩
 refine⟨y,_,I.ke (its':=its.eraseIdx k) hH e ?_ (r.eraseIdx k) ?_,jl,q⟩
 ·show its.toArray.eraseIdxIfInBounds k=(its.eraseIdx k).toArray
  rw[List.eraseIdxIfInBounds_toArray]
 ·have:=y9 xs k
  omega
noncomputable def Mv:V->List V->Hp->VK->Prop:=λx vs H Q=>∃l xs,x = .ref l/\vs = []/\H l=some (.lst xs)/\Q .non (upd H l (.lst []))
theorem J8:nu X "list.clear" Mv:=by
 intro pins s σ H x vs v us Q I rx rv h;obtain⟨l,xs,rfl,rfl,hH,q⟩:=h;cases rx;have hus:=rv.zero;subst hus;obtain⟨z,its,n,r,hl,e⟩:=I.gE hH;refine call_meets F.slot_list_clear ⟨_,e,rfl⟩ F.entry_list_clear (F.args_list_clear_1 _) (AutoSeq1.list_clear_list_0 l its.toArray n (by rw[a_];omega)) ⟨e,?_⟩;exact⟨.non,_,I.ke (its':=[]) (ys:=[]) hH e rfl .nil (bE _),rfl,q⟩
noncomputable def Mu:R2:=λx y H Q=>∃l b xs zs,x = .ref l/\y = .ref b/\H l=some (.lst xs)/\H b=some (.lst zs)/\xs.length+zs.length<=sizeLine/\∀p,H p=none->Q (.ref p) (upd H p (.lst (xs++zs)))
theorem KY:bj X (binaryOp .Add) Mu:=by
 intro pins s σ H x y v u Q I rx ry h;obtain⟨l,b,xs,zs,rfl,rfl,hH,hB,hz,q⟩:=h;cases rx;cases ry;obtain⟨z,its,n,r,hl,e⟩:=I.gE hH;obtain⟨z2,its2,n2,r2,hl2,e2⟩:=I.gE hB;refine PySem.P.add_list e e2 ?_ (by rw[a_,a_];omega);have ea:its.toArray++its2.toArray=(its++its2).toArray:=by simp
 rw[ea];exact⟨.ref _,_,I.ud (t':=s.toks) (r.append r2) (by rw[cX];omega),rfl,q _ I.fresh⟩
end
section
variable {prog:Program} {w:World} {A:Around} {E:Value->Shared->Prop} {s:Shared}
end
section
variable {X:Cx}
end
section
variable {κ:Type} [DecidableEq κ]
noncomputable def bP(kvs:List (κ × V))(k:κ):Option V:=(kvs.find? λkv=>decide (kv.1=k)).map (·.2)
noncomputable def putK(kvs:List (κ × V))(k:κ)(v:V):List (κ × V):=
 if(kvs.any λkv=>decide (kv.1=k))=true then kvs.map (λkv=>if kv.1=k then(kv.1,v)else kv)else kvs++[(k,v)]
theorem iK{p:κ × V}{r:List (κ × V)}{k:κ}(e:p.1=k):bP (p::r) k=some p.2:=by simp[bP,kU,e]
theorem gR{p:κ × V}{r:List (κ × V)}{k:κ}(e:¬ p.1=k):bP (p::r) k=bP r k:=by simp[bP,kU,e]
theorem vD(k:κ):∀kvs:List (κ × V),(kvs.any λkv=>decide (kv.1=k))=(bP kvs k).isSome
 | []=>rfl
 |p::r=>by
  rw[kR]
  by_cases e:p.1=k
  ·simp only[iK e,b9 e,Bool.true_or,Option.isSome_some]
  ·rw[gR e,cZ e,Bool.false_or];exact vD k r
theorem Dr(k j:κ)(y:V):∀kvs:List (κ × V),bP kvs k=none->bP (kvs++[(k,y)]) j=if j=k then some y else bP kvs j
 | [],_=>by
  by_cases e:k=j
  ·rw[if_pos e.symm];exact iK (p:=(k,y)) e
  ·rw[if_neg (λz=>e z.symm)];exact gR (p:=(k,y)) e
 |p::r,hn=>by
  rw[List.cons_append];have hk:¬ p.1=k:=λz=>by rw[iK z]at hn;cases hn
  rw[gR hk]at hn;have ih:=Dr k j y r hn
  by_cases e:p.1=j
  ·rw[iK e,iK e,if_neg (λz=>hk (e.trans z))]
  ·rw[gR e,gR e,ih]
theorem za(kvs:List (κ × V))(k:κ)(v:V):(putK kvs k v).length<=kvs.length+1:=by
 unfold putK
 split
 ·rw[aD];omega
 ·rw[cX,dc,q9];omega
theorem Mj{kvs:List (κ × V)}{k:κ}(v:V)(h:bP kvs k=none):putK kvs k v=kvs++[(k,v)]:=by
 unfold putK;rw[vD,h];exact if_neg (by decide)
theorem d0.IV{o:Option V}{u:Option Value}(r:d0 o u):o.isSome=u.isSome:=by
 cases o with
 |none=>cases u with
  |none=>rfl
  |some _=>exact(show False from r).elim
 |some _=>cases u with
  |none=>exact(show False from r).elim
  |some _=>rfl
theorem d0.getD{o:Option V}{u:Option Value}{d:V}{d':Value}(r:d0 o u)(rd:RelV d d'):RelV (o.getD d) (u.getD d'):=by
 cases o with
 |none=>cases u with
  |none=>exact rd
  |some _=>exact(show False from r).elim
 |some _=>cases u with
  |none=>exact(show False from r).elim
  |some _=>exact r
theorem KV.val{kvs:List (κ × V)}{vs:List (κ × Value)}(r:KV kvs vs)(k:κ):d0 (bP kvs k) (valueAt vs k):=by
 unfold KV at r
 induction r with
 |nil=>exact True.intro
 | @cons p q ps qs h t ih =>
  obtain⟨h1,h2⟩:=h
  by_cases e:p.1=k
  ·have e':q.1=k:=h1.symm.trans e
   have b:valueAt (q::qs) k=some q.2:=by simp[valueAt,kU,e']
   rw[iK e,b];exact h2
  ·have e':¬ q.1=k:=λz=>e (h1.trans z)
   have b:valueAt (q::qs) k=valueAt qs k:=by simp[valueAt,kU,e']
   rw[gR e,b];exact ih
theorem KV.any{kvs:List (κ × V)}{vs:List (κ × Value)}(r:KV kvs vs)(k:κ):(kvs.any λkv=>decide (kv.1=k))=vs.any λkv=>decide (kv.1=k):=by
 unfold KV at r
 induction r with
 |nil=>rfl
 |cons h t ih=>rw[kR,kR,ih,h.1]
theorem KV.repl{kvs:List (κ × V)}{vs:List (κ × Value)}(r:KV kvs vs)(k:κ){y:V}{u:Value}(ry:RelV y u):
  KV (kvs.map λkv=>if kv.1=k then(kv.1,y)else kv) (vs.map λkv=>if kv.1=k then(kv.1,u)else kv):=by
 unfold KV at r ⊢
 induction r with
 |nil=>exact .nil
 | @cons p q ps qs h t ih =>
  rw[bJ,bJ];refine .cons ?_ ih;obtain⟨h1,h2⟩:=h
  by_cases e:p.1=k
  ·rw[if_pos e,if_pos (h1.symm.trans e)];exact⟨h1,ry⟩
  ·rw[if_neg e,if_neg (λz=>e (h1.trans z))];exact⟨h1,h2⟩
theorem KV.put{kvs:List (κ × V)}{vs:List (κ × Value)}(r:KV kvs vs)(k:κ){y:V}{u:Value}(ry:RelV y u):KV (putK kvs k y) (stored vs k u):=by
 unfold putK stored;rw[r.any k]
 by_cases e:(vs.any λkv=>decide (kv.1=k))=true
 ·rw[if_pos e,if_pos e];exact r.repl k ry
 ·rw[if_neg e,if_neg e];exact Paired.snoc r ⟨rfl,ry⟩
theorem KV.length{kvs:List (κ × V)}{vs:List (κ × Value)}(r:KV kvs vs):kvs.length=vs.length:=bS r
end
theorem tX{P:Program}{w:World}{k:Key}{u:Value}(r:RelV (kV k) u):(cw P w).is k u=true:=by
 cases k with
 |inl i=>obtain⟨t,e⟩:=(show ∃t,u=Value.int i t from r);subst e;exact J6 P w i t
 |inr x=>obtain⟨t,e⟩:=(show ∃t,u=Value.str x t from r);subst e;exact J7 P w x t
theorem Jg{P:Program}{w:World}{k:Key}{v:V}{u:Value}(q:yN k v)(r:RelV v u):(cw P w).is k u=true:=by
 rcases q with e|⟨b,e,ek⟩
 ·subst e;exact tX r
 ·subst e;subst ek;cases(show u=Value.bool b from r);exact Ji b
theorem yI{P:Program}{w:World}:∀{ks:List Key} {ws:List V} {us:List Value},oY ks ws->Vals ws us->ItemsAre (cw P w) ks us
 |_,_,_,.nil,.nil=>.nil
 |_,_,_,.cons q t,.cons h t'=>.cons (Jg q h) (yI t t')
abbrev KT (H:Hp):List (List Key × V)->List (List Key × Addr × Value)->Prop:=Paired λp q=>p.1=q.1/\f6 H q.2.1 p.1/\RelV p.2 q.2.2
theorem KT.val{H:Hp}{kvs:List (List Key × V)}{xs:List (List Key × Addr × Value)}(r:KT H kvs xs)(k:List Key):d0 (bP kvs k) ((atKey xs k).map (·.2)):=by
 induction r with
 |nil=>exact True.intro
 | @cons p q ps qs h t ih =>
  obtain⟨h1,_,h2⟩:=h
  by_cases e:p.1=k
  ·have e':q.1=k:=h1.symm.trans e
   have b:atKey (q::qs) k=some q.2:=by simp[atKey,kU,e']
   rw[iK e,b];exact h2
  ·have e':¬ q.1=k:=λz=>e (h1.trans z)
   have b:atKey (q::qs) k=atKey qs k:=by simp[atKey,kU,e']
   rw[gR e,b];exact ih
theorem KT.repl{H:Hp}{kvs:List (List Key × V)}{xs:List (List Key × Addr × Value)}(r:KT H kvs xs)(k:List Key){y:V}{u:Value}(ry:RelV y u):
  KT H (kvs.map λkv=>if kv.1=k then(kv.1,y)else kv) (xs.map (putAt k u)):=by
 induction r with
 |nil=>exact .nil
 | @cons p q ps qs h t ih =>
  rw[bJ,bJ];refine .cons ?_ ih;obtain⟨h1,h2,h3⟩:=h;unfold putAt
  by_cases e:p.1=k
  ·rw[if_pos e,if_pos (h1.symm.trans e)];exact⟨h1,h2,ry⟩
  ·rw[if_neg e,if_neg (λz=>e (h1.trans z))];exact⟨h1,h2,h3⟩
theorem KT.put{H:Hp}{kvs:List (List Key × V)}{xs:List (List Key × Addr × Value)}(r:KT H kvs xs)(k:List Key){b:Addr}{y:V}{u:Value}(hb:f6 H b k)(ry:RelV y u):KT H (putK kvs k y) (storedH xs k b u):=by
 have e:(kvs.any λkv=>decide (kv.1=k))=(atKey xs k).isSome:=by
  rw[vD,(r.val k).IV,Option.isSome_map]
 unfold putK storedH;rw[e]
 by_cases q:(atKey xs k).isSome=true
 ·rw[if_pos q,if_pos q];exact r.repl k ry
 ·rw[if_neg q,if_neg q];exact Paired.snoc r ⟨rfl,hb,ry⟩
theorem KT.keeps{H H':Hp}{kvs:List (List Key × V)}{xs:List (List Key × Addr × Value)}(r:KT H kvs xs)(ht:∀b ys,H b=some (.tup ys)->H' b=some (.tup ys)):KT H' kvs xs:=
 Paired.bL r λ_ _ z=>⟨z.1,(let⟨ws,k1,k2⟩:=z.2.1;⟨ws,k1,ht _ _ k2⟩),z.2.2⟩
section
variable {P:Program} {w:World} {H:Hp} {h:Heap} {a:Addr}
theorem Bf{u:HO}(ok:aZ P w H h)(e:Rd H a u):aK P w H h a u:=e.ok ok
theorem sI{kvs:List (Key × V)}(ok:aZ P w H h)(e:Rd H a (.dK kvs)):kvs.length<=sizeLine/\(a==sysModules)=false/\∃vs,KV kvs vs/\h.DictOf (cw P w) a vs:=
 show aK P w H h a (.dK kvs)from Bf ok e
theorem Ge{kvs:List (Key × V)}(ok:aZ P w H h)(e:H a=some (.dK kvs)):kvs.length<=sizeLine/\(a==sysModules)=false/\∃vs,KV kvs vs/\h.DictOf (cw P w) a vs:=sI ok (.inl e)
theorem j8{ks:List Key}(ok:aZ P w H h)(e:f6 H a ks):(tupleKind (cw P w)).is h ks a:=by
 obtain⟨ws,q,e⟩:=e;obtain⟨_,its,r,⟨o,h1,h2,n,h3⟩,_⟩:=(show aK P w H h a (.tup ws)from ok a _ e);exact⟨o,its.toArray,n,h1,h2,h3,by simpa using yI q r⟩
theorem sJ{kvs:List (List Key × V)}(ok:aZ P w H h)(e:Rd H a (.dT kvs)):kvs.length<=sizeLine/\(a==sysModules)=false/\∃xs,KT H kvs xs/\h.DictOfH (tupleKind (cw P w)) a xs:=by
 obtain⟨z,y,xs,r,o,es,ep,h1,h2,h3,h4,h5⟩:=(show aK P w H h a (.dT kvs)from Bf ok e);refine⟨z,y,xs,r,o,es,ep,h1,h2,h3,h4,λx hx=>?_,h5⟩;have all:∀{l:List (List Key × V)} {m:List (List Key × Addr × Value)},KT H l m->∀x∈m,(tupleKind (cw P w)).is h x.1 x.2.1:=by
  intro l m q
  induction q with
  |nil=>intro x hx;exact nomatch hx
  | @cons p q ps qs hq t ih =>
   intro x hx
   rcases a9.mp hx with e|hx
   ·subst e
    exact j8 ok (by rw[<- hq.1];exact hq.2.1)
   ·exact ih x hx
 exact all r x hx
theorem xA{kvs:List (List Key × V)}(ok:aZ P w H h)(e:H a=some (.dT kvs)):kvs.length<=sizeLine/\(a==sysModules)=false/\∃xs,KT H kvs xs/\h.DictOfH (tupleKind (cw P w)) a xs:=sJ ok (.inl e)
end
noncomputable def kN(H:Hp)(a:Addr)(y:V)(r:Option V):Prop:=
 (∃kvs k,Rd H a (.dK kvs)/\y=kV k/\r=bP kvs k)\/∃kvs k b,Rd H a (.dT kvs)/\y = .ref b/\f6 H b k/\r=bP kvs k
noncomputable def kO(H:Hp)(a:Addr)(y v:V)(H':Hp):Prop:=
 (∃kvs k,H a=some (.dK kvs)/\y=kV k/\kvs.length<sizeLine/\H'=upd H a (.dK (putK kvs k v))) \/
 ∃kvs k b,H a=some (.dT kvs)/\y = .ref b/\f6 H b k/\kvs.length<sizeLine/\H'=upd H a (.dT (putK kvs k v))
theorem kN.t{H:Hp}{a b:Addr}{kvs:List (List Key × V)}{k:List Key}(e:H a=some (.dT kvs))(eb:f6 H b k):kN H a (.ref b) (bP kvs k):=.inr ⟨kvs,k,b,.inl e,rfl,eb,rfl⟩
theorem kO.t{H:Hp}{a b:Addr}{kvs:List (List Key × V)}{k:List Key}{v:V}(e:H a=some (.dT kvs))(eb:f6 H b k)(hl:kvs.length<sizeLine):kO H a (.ref b) v (upd H a (.dT (putK kvs k v))):=.inr ⟨kvs,k,b,e,rfl,eb,hl,rfl⟩
section
variable {X:Cx} {pins:List (Addr × Obj)} {σ:St} {H:Hp} {s:Shared} {a:Addr} {y v:V} {u r:Value} {o:Option V} {A:Around} {E:Value->Shared->Prop}
theorem Inv.big(I:Inv X pins σ H s):sysModules<s.heap.objs.size:=by
 have h:mainGlobals<s.heap.objs.size:=(I.mod.glob.keeps I.bk).lt;exact wj (by decide) h
theorem oq{h':Heap}{t':Nat}{ob:HO}(I:Inv X pins σ H s)(mu:kZ (H a))(hs:Heap.SameBut a s.heap h')(he:∃q,h'.get? a=some q)(new:aK X.prog X.w (upd H a ob) h' a ob):
  Inv X pins σ (upd H a ob) {s with heap:=h',toks:=t'}:=
 I.write (x:=a) (e:=a) mu (.inl rfl) (λb q hb z=>(hs.2 b hb).trans z) he new
theorem Gd{P:Program}{w:World}{H':Hp}{h':Heap}{kvs:List (Key × V)}{vs:List (Key × Value)}(z:kvs.length<=sizeLine)(hd:(a==sysModules)=false)(rel:KV kvs vs)(dd:h'.DictOf (cw P w) a vs):aK P w H' h' a (.dK kvs):=⟨z,hd,vs,rel,dd⟩
theorem Gb{H':Hp}{Q:Unit->Shared->Prop}(hu:A.units+1<cLine)(I:Inv X pins σ H s)(g:kO H a y v H')(ry:RelV y u)(rv:RelV v r)(h:∀s',Inv X pins σ H' s'->Q () s'):wpAny (model X.prog X.w) A (setItem (.ref a) u r) Q E s:=by
 rcases g with⟨kvs,k,e,ey,l,eH⟩|⟨kvs,k,b,e,ey,eb,l,eH⟩
 ·subst ey eH
  obtain⟨z,hd,vs,rel,dd⟩:=Ge I.hok e;have hz:vs.length<=sizeLine:=by rw[<- rel.length];exact z
  have hl:(putK kvs k v).length<=sizeLine:=by have:=za kvs k v;omega
  refine wpAny_setItem_pairs (hsz:=hz) (tX ry) dd λh' fI hs=>h _ ?_;have he:∃q,h'.get? a=some q:=let⟨q,_,_,hq,_⟩:=fI;⟨q,hq⟩
  exact oq I (by rw[e];exact True.intro) hs he (Gd hl hd (rel.put k rv) fI)
 ·subst ey eH
  cases(show u=Value.ref b from ry);obtain⟨z,hd,xs,rel,dd⟩:=xA I.hok e;have hz:xs.length<=sizeLine:=by rw[<- bS rel];exact z
  have hl:(putK kvs k v).length<=sizeLine:=by have:=za kvs k v;omega
  refine wpAny_setItem_heap (hsz:=hz) (wG hu) (j8 I.hok eb) dd λh' fI hs=>h _ ?_;obtain⟨q,es,ep,hq,h2,h3,h4,_,h5⟩:=fI;refine oq I (by rw[e];exact True.intro) hs ⟨q,hq⟩ ⟨hl,hd,_,(rel.put k eb rv).keeps λc ys ec=>?_,q,es,ep,hq,h2,h3,h4,h5⟩;rw[aA (gF ec e (λz=>nomatch z))];exact ec
end
section
variable {X:Cx} {pins:List (Addr × Obj)} {σ:St} {H:Hp} {s:Shared} {a:Addr} {kvs:List (Key × V)} {k:Key} {u:Value} {A:Around} {E:Value->Shared->Prop}
end
noncomputable def Nr(td ty tv:TE):TS:=λD σ H=>tv σ H λv H1=>td σ H1 λx H2=>ty σ H2 λy H3=>∃a H4,x = .ref a/\kO H3 a y v H4/\D.nx σ H4
section
variable {X:Cx} {o i e value:Expr} {pos pos' tpos:Pos} {td ty tv:TE}
theorem Mb(hu:X.A.units+1<cLine)(ho:PE X o td)(hi:PE X i ty)(hv:PE X value tv)(hs:swapsWith value (some (.Subscript o i pos')) pos.line X.env=pure false):PS X (.Assign [.Subscript o i pos'] value pos) (Nr td ty tv):=by
 intro pins s σ H D I h;refine wpAny_Assign_Subscript (ao (hv pins s σ H _ I h) λr s1 ⟨v,H1,I1,rv,q1⟩=>ao (ho pins s1 σ H1 _ I1 q1) λu s2 ⟨x,H2,I2,rx,q2⟩=>ao (hi pins s2 σ H2 _ I2 q2) λiv s3 ⟨y,H3,I3,ry,a,H4,ex,g,q3⟩=>?_) hs;subst ex;obtain rfl:u=Value.ref a:=rx;exact Gb hu I3 g ry rv λs4 I4=>⟨σ,H4,I4,q3⟩
end
theorem xx {P:Program} {w:World} {H:Hp} (h:Heap) (hb:sysModules<h.objs.size):aK P w H (h.push {cls:=.type "dict", data:=.dict #[]}) h.objs.size (.dT []):=
 ⟨bE _,iU.mpr (cu (aP hb)),[],.nil,_,#[],0,aQ _ rfl,⟨rfl,rfl,rfl⟩,rfl,rfl,List.nodup_nil⟩
noncomputable def Oi:TE:=λ_ H Q=>∀p,H p=none->Q (.ref p) (upd H p (.dT []))
section
variable {X:Cx} {pos:Pos}
theorem Lv:PE X (.Dict [] [] pos) Oi:=λpins s σ H Q I h =>
 wpAny_Dict_empty ⟨.ref s.heap.objs.size,_,I.laid (a:=s.heap.objs.size) (o:=.dT []) (t':=s.toks) (λ_ _ q=>au _ q) (aB _) (xx s.heap I.big),rfl,h _ (I.hok.fresh (aB _))⟩
end
noncomputable def Dh:List (TE × TE)->St->Hp->(List (V × V)->Hp->Prop)->Prop
 | [],_,H,Q=>Q [] H
 | (tk,tv)::r,σ,H,Q=>tk σ H λx H1=>tv σ H1 λy H2=>Dh r σ H2 λps H3=>Q ((x,y)::ps) H3
abbrev VV:List (V × V)->List (Value × Value)->Prop:=Paired λp q=>RelV p.1 q.1/\RelV p.2 q.2
noncomputable def nD(X:Cx)(pos:Pos)(keys:List (Option Expr))(values:List Expr)(qC:List (TE × TE)):Prop:=
 ∀(pins:List (Addr × Obj)) (s:Shared) (σ:St) (H:Hp) (Q:List (V × V)->Hp->Prop),Inv X pins σ H s->Dh qC σ H Q ->
  wpAny (model X.prog X.w) X.A (evalPairs (pairTrees keys values X.env pos)) (λvs s'=>∃ps H',Inv X pins σ H' s'/\VV ps vs/\Q ps H') X.xe s
theorem Ma{X:Cx}{pos:Pos}:nD X pos [] [] []:=λpins s σ H Q I h=>pairTrees_nil_walk ⟨[],H,I,.nil,h⟩
theorem L_{X:Cx}{pos:Pos}{k v:Expr}{ks:List (Option Expr)}{vs:List Expr}{tk tv:TE}{qC:List (TE × TE)}(hk:PE X k tk)(hv:PE X v tv)(hr:nD X pos ks vs qC):
  nD X pos (some k::ks) (v::vs) ((tk,tv)::qC):=λpins s σ H Q I h =>
 pairTrees_cons_walk (ao (hk pins s σ H _ I h) λu s1 ⟨x,H1,I1,rx,q1⟩=>ao (hv pins s1 σ H1 _ I1 q1) λw2 s2 ⟨y,H2,I2,ry,q2⟩ =>
  ao (hr pins s2 σ H2 _ I2 q2) λws s3 ⟨ps,H3,I3,rel,q3⟩=>⟨(x,y)::ps,H3,I3,.cons ⟨rx,ry⟩ rel,q3⟩)
structure M1 (X:Cx) (o:Expr) (m:Str) (apos:Pos) (e:Expr) (cpos:Pos):Prop where
 base:attributeBase o m X.env (eval o X.env)=eval o X.env
 few:((backTo cpos (starEach [e] X.env)).all (λx=>!x.1)&&(backToKw cpos (keywordEach [] X.env)).all (λx=>x.1.isSome)
  && decide (([e]:List Expr).length+([]:List Keyword).length+(if([]:List Keyword).isEmpty then 0 else 1)<30))=true
 line:(apos.endLine==cpos.line)=true
 trees:backTo cpos (starEach [e] X.env) = [(false,eval e X.env)]
noncomputable def vN(H:Hp)(a:Addr):Prop:=(∃kvs,Rd H a (.dK kvs))\/∃kvs,Rd H a (.dT kvs)
theorem IK{X:Cx}{pins:List (Addr × Obj)}{σ:St}{H:Hp}{s:Shared}{a:Addr}(I:Inv X pins σ H s)(d:vN H a):
  s.TypeIs (.ref a) "dict" /\ (∀b,Value.ref a = .ref b->∃ob,s.heap.get? b=some ob/\ob.dict=none)/\(a==sysModules)=false:=by
 rcases d with⟨kvs,e⟩|⟨kvs,e⟩
 ·obtain⟨_,hd,vs,_,dd⟩:=sI I.hok e
  refine⟨dd.typeIs,λb q=>?_,hd⟩;cases q;obtain⟨ob,_,_,h1,h2,_⟩:=dd;exact⟨ob,h1,h2.2.1⟩
 ·obtain⟨_,hd,xs,_,dd⟩:=sJ I.hok e
  refine⟨dd.typeIs,λb q=>?_,hd⟩;cases q;obtain⟨ob,_,_,h1,h2,_⟩:=dd;exact⟨ob,h1,h2.2.1⟩
section
variable {X:Cx} {pins:List (Addr × Obj)} {σ:St} {H:Hp} {s:Shared} {a:Addr} {y d:V} {u r:Value} {o:Option V} {A:Around} {E:Value->Shared->Prop}
theorem Ga{Q:Value->Shared->Prop}(hu:A.units+1<cLine)(I:Inv X pins σ H s)(g:kN H a y o)(ry:RelV y u)(h:∀w' s',Inv X pins σ H s'->RelV (o.getD .non) w'->Q w' s'):
  wpAny (model X.prog X.w) A (call (.builtin "dict.get") [.ref a,u]) Q E s:=by
 rcases g with⟨kvs,k,e,ey,l⟩|⟨kvs,k,b,e,ey,eb,l⟩
 ·subst ey
  obtain⟨z,hd,vs,rel,dd⟩:=sI I.hok e;refine call_meetsIn wz dd.typeIs En (Ek _ _) (meets_dict_get (cw X.prog X.w) a (tX ry) hd) ⟨_,dd.mapOf,h _ _ (I.tok _) ?_⟩;rw[l];exact(rel.val k).getD rfl
 ·subst ey
  cases(show u=Value.ref b from ry);obtain⟨z,hd,xs,rel,dd⟩:=sJ I.hok e;refine call_meetsIn wz dd.typeIs En (Ek _ _) (meetsH_dict_get (tupleKind (cw X.prog X.w)) a b hd) ⟨wG hu,k,xs,j8 I.hok eb,dd,h _ _ (I.tok _) ?_⟩;rw[l];exact(rel.val k).getD rfl
end
noncomputable def Oh(td ty:TE):TE:=λσ H Q=>td σ H λx H1=>∃a,x = .ref a/\vN H1 a/\ty σ H1 λy H2=>∃o,kN H2 a y o/\Q (o.getD .non) H2
section
variable {X:Cx} {o e f:Expr} {apos cpos:Pos} {td ty tx:TE}
theorem Lr (hu:X.A.units+1<cLine) (ho:PE X o td) (he:PE X e ty) (m:M1 X o "get" apos e cpos):PE X (.Call (.Attribute o "get" apos) [e] [] cpos) (Oh td ty):=by
 intro pins s σ H Q I h;refine wpAny_Call_method m.base m.few m.line PySem.F.plainAttrs_dict wz PySem.F.type_dict_get (ao (ho pins s σ H _ I h) λu s1 ⟨x,H1,I1,rx,a,ex,d,q1⟩=>?_);subst ex;obtain rfl:u=Value.ref a:=rx;obtain⟨t1,t2,_⟩:=IK I1 d;refine⟨t1,t2,?_⟩;rw[m.trees];refine wy rfl (Calls.evalArgs_plain (Calls.spliced_cons (ao (he pins s1 σ H1 _ I1 q1) λiv s2 ⟨y,H2,I2,ry,ov,g,q2⟩=>Calls.spliced_nil ?_)));exact Ga hu I2 g ry λw' s3 I3 jl=>⟨_,H2,I3,jl,q2⟩
end
section
variable {X:Cx} {pins:List (Addr × Obj)} {σ:St} {H:Hp} {s:Shared} {a:Addr} {kvs:List (Key × V)} {A:Around} {E:Value->Shared->Prop}
end
section
variable {X:Cx} {pins:List (Addr × Obj)} {σ:St} {H:Hp} {s:Shared} {a:Addr} {y:V} {u:Value} {A:Around} {E:Value->Shared->Prop}
end
end L2
namespace vH
open PySem PySem.W PySem.Calls PyProof.Rows
theorem Iy{P:Params}{h:Heap}:∀(ns:List Int) (vs:List Value),WellAll P h vs (ns.map WData.int)->IntsAre vs ns:=by
 intro ns
 induction ns with
 |nil =>
  intro vs w;rw[List.map_nil]at w;cases w;exact .nil
 |cons n ns ih =>
  intro vs w;rw[bJ]at w;cases w with
  |cons a b =>
   cases a;exact .cons _ _ (ih _ b)
theorem Nw{l:OpenLaw}{n:Nat}(hn:l.most=some n){P:Params}{h:Heap}{args:List WData}{vals:List Value}(hpre:l.row.toRowW.claim.pre args=true)(hwl:WellAll P h vals args):
  ∃a vs ns,vals = [Value.ref a]/\args = [WData.list (ns.map WData.int)]/\h.get? a=some {cls:=.type "list", data:=.seq vs.toArray}/\IntsAre vs ns/\ns.length<=n:=by
 have hsh:WShape.hasAll [] args [.list .int]=true:=(pre_splitW hpre).1;have hc:l.pre.holds [] {args:=args}=true:=(pre_splitW hpre).2;obtain⟨d,r,rfl,h1,h2⟩:=hasAllW_cons hsh;obtain rfl:=hasAllW_nil h2;obtain⟨xs,rfl,h3⟩:=hasW_list h1;obtain⟨ns,rfl⟩:=items_int h3;have hlen:ns.length<=n:=by
  unfold OpenLaw.pre at hc;have h4:(WTm.not (.lt (.lit (.int (n:Int))) (.len (.arg 0)))).holds [] {args:=[.list (ns.map .int)]}=true:=by
   have h4:=(holds_andW hc).1;rw[hn]at h4;exact h4
  have h5:=condW_of h4 (w_not (w_lt w_lit (w_len_list (w_arg rfl))));rw[aD]at h5;refine rh λq=>?_;have q':(n:Int)<((ns.length:Nat):Int):=by omega
  first
   | (rw[b9 q']at h5;exact absurd h5 (by decide))
   | (simp at h5;omega)
 cases hwl with
 |cons w1 w2 =>
  cases w2;cases w1 with
  |list ho hall=>exact⟨_,_,ns,rfl,rfl,ho,Iy ns _ hall,hlen⟩
theorem L9(l:OpenLaw)(args:List WData):l.row.toRowW.claim.post args (.bool true) args=true:=
 postW_of (r:=l.row.toRowW) (X:=(true==true))
  (show WShape.has [] (.bool true) .bool=true by first|rfl|decide|simp[WShape.has,WShape.arms,WShape.armsAll])
  (show(WTm.eq .res (.lit (.bool true))).value [] {args:=args,res:=some (.bool true),after:=args}=some (.bool (true==true))from w_eq_bool (w_res rfl) w_lit) rfl
theorem Ez{l:OpenLaw}{n:Nat}{q:Program}{loose:List Str}{XP:(Str->Option Value)->Heap->Prop}{YP:World->Heap->Prop}{d:DefRec}(hn:l.most=some n)(hdf:d.params.defaults = [])
  (call:∀(w:World) (s₀ s₁:Shared) (mg mb:Str->Option Value) (fa:Addr) (o:Obj) (pm cd doc:Value) (a:Addr) (vs:List Value) (ns:List Int),
   Ground q loose [] XP w s₀ mg mb s₁.heap->YP w s₁.heap ->
   s₁.heap.get? fa=some o->o.data = .func (docDef d.name d.params d.body d.scope pm cd doc)->s₁.heap.CodeRec cd d.name->mg d.name=some (.ref fa) ->
   s₁.heap.get? a=some {cls:=.type "list", data:=.seq vs.toArray}->IntsAre vs ns->ns.length<=n->s₁.gens = #[] ->
   codeAny (model l.prog w) callerA (.call (.ref fa) ⟨[.ref a],[]⟩) (λr s'=>r = .ok (.ret (.bool true))/\OldK s₁.heap s'.heap/\s'.os=s₁.os/\AllBare s'.gens) s₁) :
  WalkO q loose XP YP l.row.toRowW d [] (λf vs=>PySem.call f vs):=by
 intro w s₀ s₁ mg mb G Y fa o pm cd doc dV kV ho hd hcd hD hmg hg args vals as hpre hlay hrd hwl hlo;obtain rfl:dV = .none:=Dflts.none hD hdf;obtain rfl:kV = .none:=Dflts.noKw hD;obtain⟨a,vs,ns,rfl,rfl,hobj,hints,hlen⟩:=Nw hn hpre hwl;refine enter_call (eL (call w s₀ s₁ mg mb fa o pm cd doc a vs ns G Y ho (fd_plain hd) hcd hmg hobj hints hlen hg) λr s' hq=>?_);obtain⟨rfl,h2,h3,h4⟩:=hq;exact⟨.inl ⟨.bool true,.bool true,[],rfl,λ_=>rfl,.bool true,L9 l _,λ_=>⟨List.Pairwise.nil,λ_ hm=>(nomatch hm)⟩⟩,h2,h3,h4⟩
section
variable {prog:Program} {w:World} {A:Around} {E:Value->Shared->Prop} {s:Shared} {K:Frag}
end
end vH
namespace L2
open PySem PySem.Spec PyProof.Rows
theorem vE:∀{vs:List Value} {ns:List Int},IntsAre vs ns->Vals (ns.map V.int) vs
 |_,_,.nil=>.nil
 |_,_,.cons n t h=>.cons ⟨t,rfl⟩ (vE h)
noncomputable def inClass(s:Stmt)(j:Nat):Stmt:=match s with
 |.ClassDef _ _ _ body _ _ _ _ _ _ _=>body.getD j (.Pass ⟨0,0,0,0⟩)
 |_=>.Pass ⟨0,0,0,0⟩
noncomputable def gg(s:Stmt):Arguments:=match s with
 |.FunctionDef _ a _ _ _ _ _ _ _ _=>a
 |_=>{posonlyargs:=[],args:=[],vararg:=none,kwonlyargs:=[],kw_defaults:=[],kwarg:=none,defaults:=[]}
noncomputable def eQ(s:Stmt):List Stmt:=match s with
 |.FunctionDef _ _ b _ _ _ _ _ _ _=>b
 |_=>[]
noncomputable def aE(s:Stmt):Scope:=match s with
 |.FunctionDef _ _ _ _ _ _ sc _ _ _=>sc
 |_=>{kind:=.function,names:=[],isGenerator:=false,isCoroutine:=false}
abbrev aJ:eA:=λ_ _ _ _ _ _=>False
abbrev E0:XK:=λ_ _ _=>False
theorem uA{X:Cx}:Passes aJ X E0:=λ_ _ _ _ _ _ _ h=>h.elim
structure aN (K:W.Frag) (x qual:Str) (st:Stmt) (f:Addr) (fd:FuncData):Prop where
 ex:∃(oc:Value) (od:Option Addr) (kV doc pm:Value) (an:Option Addr) (cdv ct:Value) (osl:Array (Option Value)),
  fd=W.fnOf x qual (gg st) (eQ st) (aE st) .none kV doc pm an cdv ct/\K.lookup f=some ⟨oc,od,.func fd,osl⟩/\W.codeIn K cdv qual=true
 kp:W.keepIn K (.ref f)=true
section
variable {P:Program} {w:World} {K:W.Frag} {mg:Str->Option Value} {base:Heap}
theorem aN.ok{x qual:Str}{st:Stmt}{f:Addr}{fd:FuncData}{N ps:List Str}{k:Nat}{sp:Sp}(F:aN K x qual st f fd)(S:aY N ps (aE st))(len:∀vs H Q E,sp vs H Q E->vs.length=ps.length)(hbody:∀(cdv:Value) (A:Around) (outer:List Env) (s:Shared) (H:Hp) (vs:List V) (Q:VK) (E:XK),aV k (A.deeper (envOfC qual (aE st) s.heap.objs.size f cdv))->sp vs H Q E->∃t,dD (iu aJ P w K mg base N qual (aE st) f cdv A outer s H E).ji (eQ st) t/\t {nx:=λ_ H'=>Q .non H',rt:=Q} (start N vs) H):aI P w K mg base aJ (k+1) f fd ps sp:=by
 obtain⟨oc,od,kV,doc,pm,an,cdv,ct,osl,rfl,lk,hcd⟩:=F.ex;refine xN lk hcd S len λA outer s H vs Q E hr hsp=>?_;obtain⟨t,h,q⟩:=hbody cdv A outer s H vs Q E hr hsp;exact⟨t,h.ji,q⟩
theorem aN.binds{x qual:Str}{st:Stmt}{f:Addr}{fd:FuncData}{ps:List Str}(F:aN K x qual st f fd)
  (h:∀(kV doc pm:Value) (an:Option Addr) (cdv ct:Value) (us:List Value),us.length=ps.length->bindArgs (W.fnOf x qual (gg st) (eQ st) (aE st) .none kV doc pm an cdv ct) ⟨us,[]⟩=pure (ps.zip us)):Binds K fd ps []:=by
 obtain⟨oc,od,kV,doc,pm,an,cdv,ct,osl,rfl,lk,hcd⟩:=F.ex;exact .all (h kV doc pm an cdv ct)
theorem xS{x qual:Str}{st:Stmt}{f:Addr}{oc:Value}{od an:Option Addr}{osl:Array (Option Value)}{kV doc pm cdv ct:Value}(l:K.lookup f=some ⟨oc,od,.func (W.fnOf x qual (gg st) (eQ st) (aE st) .none kV doc pm an cdv ct),osl⟩)
  (c:W.codeIn K cdv qual=true) (k:W.keepIn K (.ref f)=true):aN K x qual st f (W.fnOf x qual (gg st) (eQ st) (aE st) .none kV doc pm an cdv ct):=⟨⟨oc,od,kV,doc,pm,an,cdv,ct,osl,rfl,l,c⟩,k⟩
end
theorem yq{A:Around}{k:Nat}(hr:aV k A):A.units+1<cLine:=rj (Nat.add_le_add_left (by decide:1<=64) _) hr.units
theorem p_{n:Nat}(h:n<=1000):n<sizeLine:=rj h (by decide)
section
variable {X:Cx}
theorem pv (i:Nat) {x:Str} {pos:Pos} (hN:X.N[i]?=some x:=by rfl) (hv:nX X.env.scope x:=by first|exact Or.inl rfl|exact Or.inr (Or.inl rfl)|exact Or.inr (Or.inr rfl)) (hd:(x==("__debug__" : Str))=false:=by decide)
  (hcd:(x==("__classdict__" : Str))=false:=by decide):PE X (.Name x pos) (du i):=LK hN hv hd hcd
end
theorem bf{A B:Prop}(h:B):if false=true then A else B:=by
 rw[if_neg Bool.false_ne_true];exact h
theorem c7{A B:Prop}(h:A):if true=true then A else B:=by
 rw[if_pos rfl];exact h
theorem dm{c A B:Prop}[Decidable c](h1:c->A)(h2:¬ c->B):if c then A else B:=by
 by_cases h:c
 ·rw[if_pos h]
  exact h1 h
 ·rw[if_neg h]
  exact h2 h
theorem I_{c A B:Prop}[Decidable c](hc:c)(h:B):if(!decide c)=true then A else B:=by
 rw[b9 hc];exact bf h
noncomputable def Same(H H':Hp):Prop:=∀b o,H b=some o->H' b=some o
theorem Same.refl(H:Hp):Same H H:=λ_ _ h=>h
theorem Same.trans{H H1 H2:Hp}(a:Same H H1)(b:Same H1 H2):Same H H2:=λc o h=>b c o (a c o h)
theorem Same.free{H H':Hp}(e:Same H H'){l:Addr}(h:H' l=Option.none):H l=Option.none:=by
 cases q:H l with
 |none=>rfl
 |some o =>
  rw[e l o q]at h;cases h
theorem Same.seq{K:W.Frag}{H H':Hp}{a:Addr}{xs:List V}(e:Same H H')(h:ak K H a xs):ak K H' a xs:=by
 rcases h with(h|⟨o,h⟩)|h
 ·exact .inl (.inl (e _ _ h))
 ·exact .inl (.inr ⟨o,e _ _ h⟩)
 ·exact .inr h
section
variable {κ:Type} [DecidableEq κ]
end
noncomputable def bx(cells:List (Str × Addr)):List (Str × NameKind)->List (Str × Addr)->List (Str × Addr)
 | [],acc=>acc
 | (n,k)::r,acc=>bx cells r (if(k==NameKind.free)=true then(n,(cells.lookup n).getD 0)::acc else acc)
theorem xj{cells:List (Str × Addr)}{x:Str}{c:Addr}:∀{names:List (Str × NameKind)} {acc:List (Str × Addr)},(bx cells names acc).lookup x=some c->acc.lookup x=some c\/((x,NameKind.free)∈names/\c=(cells.lookup x).getD 0)
 | [],acc,h=>.inl h
 | (n,k)::r,acc,h=>by
  unfold bx at h
  rcases xj h with h1|⟨h1,e⟩
  ·clear h
   split at h1
   ·rename_i hk
    rw[eG]at h1;cases hx:x==n with
    |true =>
     rw[hx]at h1;have hx':x=n:=by simpa using hx
     have hk':k = .free:=by simpa using hk
     subst hx' hk';exact .inr ⟨bR,(dC h1).symm⟩
    |false =>
     rw[hx]at h1;exact .inl h1
   ·exact .inl h1
  ·exact .inr ⟨bG _ h1,e⟩
theorem oj{cells:List (Str × Addr)}{x:Str}:∀{names:List (Str × NameKind)} {acc:List (Str × Addr)} {c:Addr},acc.lookup x=some c->∃c',(bx cells names acc).lookup x=some c'
 | [],_,c,h=>⟨c,h⟩
 | (n,k)::r,acc,c,h=>by
  unfold bx
  split
  ·cases hx:x==n with
   |true=>exact oj (c:=(cells.lookup n).getD 0) (by rw[eG,hx])
   |false=>exact oj (c:=c) (by rw[eG,hx];exact h)
  ·exact oj h
theorem lN{cells:List (Str × Addr)}{x:Str}:∀{names:List (Str × NameKind)} {acc:List (Str × Addr)},(x,NameKind.free)∈names->∃c,(bx cells names acc).lookup x=some c
 | [],_,h=>nomatch h
 | (n,k)::r,acc,h=>by
  unfold bx
  rcases a9.mp h with e|h
  ·injection e with e1 e2
   subst e1;subst e2;exact oj (c:=(cells.lookup x).getD 0) (by simp)
  ·exact lN h
theorem oh{scope:Scope}{env:Env}(h:∀x∈scope.names,x.2 = .free->∃c,env.cells.lookup x.1=some c):closureFor scope env=pure (bx env.cells scope.names []):=by
 have go:∀(names:List (Str × NameKind)) (acc:List (Str × Addr)),(∀x∈names,x.2 = .free->∃c,env.cells.lookup x.1=some c) ->
   (forIn names acc λx cs=>if(x.2==NameKind.free)=true then do let c <- cellOf env x.1;pure (ForInStep.yield ((x.1,c)::cs))else pure (ForInStep.yield cs):Sem (List (Str × Addr)))=pure (bx env.cells names acc):=by
  intro names
  induction names with
  |nil=>intro acc _;rfl
  |cons x r ih =>
   intro acc hx;obtain⟨n,k⟩:=x;rw[nj];unfold bx;cases hk:k==NameKind.free with
   |true =>
    obtain⟨c,hc⟩:=hx (n,k) bR (by simpa using hk);simp only[hk,jc,cellOf,hc,pure_bind,Option.getD_some];exact ih _ λy hy=>hx y (bG _ hy)
   |false =>
    simp only[hk,dz,c6,pure_bind];exact ih _ λy hy=>hx y (bG _ hy)
 have e:=go scope.names [] h;have e2:closureFor scope env=(forIn scope.names [] λx cs=>if(x.2==NameKind.free)=true then do let c <- cellOf env x.1;pure (ForInStep.yield ((x.1,c)::cs))else pure (ForInStep.yield cs):Sem (List (Str × Addr)))>>=λcs=>pure cs:=by
  rfl
 rw[e2,e];rfl
theorem zl{env:Env}:∀{names:List (Str × NameKind)} {x:Str},names.lookup x=some .free ->
  (names.map λ(n,k)=>if(k==NameKind.free&&env.scope.kind==.function&&env.kindOf n==some .cell)then(n,NameKind.cell)else(n,k)).lookup x=some .cell \/
  (names.map λ(n,k)=>if(k==NameKind.free&&env.scope.kind==.function&&env.kindOf n==some .cell)then(n,NameKind.cell)else(n,k)).lookup x=some .free
 | [],_,h=>by simp at h
 | (n,k)::r,x,h=>by
  have ih:=@zl env r x;show List.lookup x ((if(k==NameKind.free&&env.scope.kind==.function&&env.kindOf n==some .cell)=true then(n,NameKind.cell)else(n,k))::_)=_\/List.lookup x ((if(k==NameKind.free&&env.scope.kind==.function&&env.kindOf n==some .cell)=true then(n,NameKind.cell)else(n,k))::_)=_;cases hx:x==n with
  |true =>
   simp only[eG,hx]at h;cases h
   by_cases hc:(NameKind.free==NameKind.free&&env.scope.kind==.function&&env.kindOf n==some .cell)=true
   ·rw[if_pos hc];simp[eG,hx]
   ·rw[if_neg hc];simp[eG,hx]
  |false =>
   simp only[eG,hx]at h
   by_cases hc:(k==NameKind.free&&env.scope.kind==.function&&env.kindOf n==some .cell)=true
   ·rw[if_pos hc];simp only[eG,hx];exact ih h
   ·rw[if_neg hc];simp only[eG,hx];exact ih h
theorem zq{env:Env}:∀{names:List (Str × NameKind)} {x:Str},(∀y∈names,y.2≠.cell) ->
  ((names.map λ(n,k)=>if(k==NameKind.free&&env.scope.kind==.function&&env.kindOf n==some .cell)then(n,NameKind.cell)else(n,k)).lookup x=some .cell \/
  (names.map λ(n,k)=>if(k==NameKind.free&&env.scope.kind==.function&&env.kindOf n==some .cell)then(n,NameKind.cell)else(n,k)).lookup x=some .free)->(x,NameKind.free)∈names
 | [],_,_,h=>by simp at h
 | (n,k)::r,x,hn,h=>by
  have ih:=@zq env r x λy hy=>hn y (bG _ hy)
  change List.lookup x ((if(k==NameKind.free&&env.scope.kind==.function&&env.kindOf n==some .cell)=true then(n,NameKind.cell)else(n,k))::_)=_\/List.lookup x ((if(k==NameKind.free&&env.scope.kind==.function&&env.kindOf n==some .cell)=true then(n,NameKind.cell)else(n,k))::_)=_ at h
  cases hx:x==n with
  |true =>
   have e:x=n:=by simpa using hx
   subst e
   by_cases hc:(k==NameKind.free&&env.scope.kind==.function&&env.kindOf x==some .cell)=true
   ·have hk:k = .free:=by
     have:=(ck _ _▸hc:_/\_).1;have:=(ck _ _▸this:_/\_).1;simpa using this
    subst hk;exact bR
   ·rw[if_neg hc]at h
    simp only[eG,hx]at h
    rcases h with h|h
    ·cases h;exact absurd rfl (hn _ bR)
    ·cases h;exact bR
  |false =>
   by_cases hc:(k==NameKind.free&&env.scope.kind==.function&&env.kindOf n==some .cell)=true
   ·rw[if_pos hc]at h;simp only[eG,hx]at h;exact bG _ (ih h)
   ·rw[if_neg hc]at h;simp only[eG,hx]at h;exact bG _ (ih h)
noncomputable def blk(X:Cx)(scope:Scope)(N':List Str)(C:Addr)(s₀:Shared)(H₀:Hp)(fp:List Addr):Cx:=
 {X with N:=N',s₀:=s₀,H₀:=H₀,env:=compEnvC scope (bx X.env.cells scope.names []) C X.env,outer:=X.stack,stack:=X.stack,ex:=fp,fn:=λ_=>false,pn:=[],xe:=λ_ _=>False}
structure dQ (X:Cx) (scope:Scope) (fr:List (Str × Nat)):Prop where
 kind:scope.kind = .function
 mq:∀y∈scope.names,y.2≠.cell
 names:∀y∈scope.names,y.2 = .local->scope.names.lookup y.1=some .local
 free:∀y∈scope.names,y.2 = .free->X.env.scope.names.lookup y.1=some .cell\/X.env.scope.names.lookup y.1=some .free
 ix:∀p∈fr,X.N[p.2]?=some p.1/\scope.names.lookup p.1=some .free
noncomputable def blkσ(no:Nat)(fr:List (Str × Nat))(σ:St):St:=List.replicate no none++fr.map λp=>σ.getD p.2 none
noncomputable def Wk(σ σ':St):Prop:=σ.length=σ'.length/\∀(i:Nat) v,σ[i]?=some (some v)->σ'[i]?=some (some v)
theorem Wk.refl(σ:St):Wk σ σ:=⟨rfl,λ_ _ h=>h⟩
theorem Wk.set{σ σ':St}{i:Nat}{x:Option V}(h:Wk σ σ')(hi:σ[i]?=some none):Wk σ (σ'.set i x):=by
 refine⟨by rw[vX];exact h.1,λj v e=>?_⟩;have hj:j≠i:=by rintro rfl;rw[hi]at e;cases e
 rw[qZ (cu hj)];exact h.2 j v e
section
variable {X:Cx} {pins:List (Addr × Obj)} {σ:St} {H:Hp} {s:Shared} {scope:Scope} {fr:List (Str × Nat)} {own:List Str} {fp:List Addr}
theorem dQ.cell(B:dQ X scope fr)(ok:X.Ok):∀x∈scope.names,x.2 = .free->∃c,X.env.cells.lookup x.1=some c:=λx hx hk=>ok.has x.1 (B.free x hx hk)
theorem dQ.sub(B:dQ X scope fr)(ok:X.Ok){x:Str}{c:Addr}(h:(bx X.env.cells scope.names []).lookup x=some c):X.env.cells.lookup x=some c:=by
 rcases xj h with h|⟨hm,e⟩
 ·simp at h
 ·obtain⟨c',hc⟩:=B.cell ok _ hm rfl
  rw[e,hc];rfl
theorem Fg(B:dQ X scope fr)(I:Inv X pins σ H s)(hf:∀b∈fp,bW X pins H b)(hfs:∀b∈fp,b<s.heap.objs.size){N':List Str}:(blk X scope N' s.heap.objs.size s H fp).Ok where
 mod:=I.ok.mod
 kind:=B.kind
 glob:=I.ok.glob
 blt:=I.ok.blt
 above:=aB _
 inj:=λx y c h1 h2=>I.ok.inj x y c (B.sub I.ok h1) (B.sub I.ok h2)
 has:=λx h=>lN (zq B.mq h)
 cab:=λx c h=>by cases h
 hd:=I.ok.hd
 frames:=I.ok.frames
 stk:=.inl rfl
 ow:=λb hb=>⟨aP (hfs b hb),λx c h=>(hf b hb).2.2.2.2.1 x c (B.sub I.ok h)⟩
 bs:=I.bs
 d5:=cH I.ok.d5 I.sz
 jh:=λb o e hb=>by
  rcases(hf b hb).2.2.2.1 with h|h
  ·exact I.ok.jh b o e h
  ·exact absurd (cq (aG e) (cH I.ok.d5 h)) (eJ _)
 jV:=λb hb h=>by
  rcases a9.mp (I.vl b h)with e|h
  ·exact(hf b hb).2.1 e
  ·exact(hf b hb).2.2.1 h
 dh:=I.stack
 fJ:=I.CN
theorem Fh(B:dQ X scope fr)(I:Inv X pins σ H s)(hf:∀b∈fp,bW X pins H b)(hfs:∀b∈fp,b<s.heap.objs.size){h1:Heap}{m:Str->Option Value}{tk:Nat}(hn:h1.Ns s.heap.objs.size m)
  (hk:∀b o,s.heap.get? b=some o->h1.get? b=some o):Inv (blk X scope (own++fr.map (·.1)) s.heap.objs.size s H fp) [] (blkσ own.length fr σ) H {s with heap:=h1,toks:=tk} where
 ok:=Fg B I hf hfs
 os:=rfl
 bare:=I.bare
 base:=Un.kept hk
 loc:=by
  refine⟨m,hn,λi x v e1 e2 e3=>?_⟩
  change (own++fr.map (·.1))[i]?=some x at e1
  unfold blkσ at e2
  by_cases hi:i<own.length
  ·rw[jy (by simpa using hi),Ea]at e2
   split at e2<;>cases e2
  ·rw[iN (by simpa using rh hi),bB]at e1
   rw[iN (by simpa using rh hi),bB,Ed]at e2;cases hp:fr[i - own.length]? with
   |none=>rw[hp]at e1;cases e1
   |some p =>
    rw[hp]at e1 e2;simp only[wk,rn]at e1 e2;obtain⟨i1,i2⟩:=B.ix p (bK hp);subst e1;have e2':σ[p.2]?=some (some v):=by
     rw[aO]at e2;cases q:σ[p.2]? with
     |none=>rw[q]at e2;cases e2
     |some z=>rw[q]at e2;exact congrArg some e2
    have kX:X.env.kindOf p.1=some .cell\/X.env.kindOf p.1=some .free:=B.free (p.1,.free) (fC i2) rfl;obtain⟨m',hn',hl'⟩:=I.loc;have vis:nX X.env.scope p.1:=.inr kX;obtain⟨u,r,l⟩:=hl' p.2 p.1 v i1 e2' vis;refine⟨u,r,.inr ⟨zl i2,?_⟩⟩
    rcases l with⟨k,_⟩|⟨_,c,hc,z⟩
    ·rcases kX with q|q<;>(rw[k]at q;cases q)
    ·obtain⟨c',hc'⟩:=lN (cells:=X.env.cells) (acc:=[]) (fC i2)
     have:=B.sub I.ok hc';rw[hc]at this;cases this;exact⟨c,hc',z.keeps hk⟩
 cell:=λx c h=>by
  obtain⟨v,z⟩:=I.cell x c (B.sub I.ok h);exact⟨v,z.keeps hk⟩
 free:=I.hok.fresh (aB _)
 dJ:=λx c h=>I.dJ x c (B.sub I.ok h)
 pin:=λp hp=>absurd (show p∈([]:List (Addr × Obj))from hp) (by simp)
 hok:=I.hok.kept hk
 len:=by
  unfold blkσ;show _=(own++fr.map (·.1)).length;simp
theorem Ff{s':Shared}{H':Hp}{σ':St}{pY:List (Addr × Obj)}{N':List Str}(I:Inv X pins σ H s)(hf:∀b∈fp,bW X pins H b)(J:Inv (blk X scope N' s.heap.objs.size s H fp) pY σ' H' s'):Inv X pins σ H' s':=
 I.call' J.os J.base J.hok J.bare λb hb=>⟨(hf b hb).2.2.2.1,(hf b hb).2.1,(hf b hb).2.2.2.2.1,(hf b hb).2.2.2.2.2⟩
end
noncomputable def jE(Y:Cx)(ifs:List Expr)(t:TT):Prop:=
 ∀(pins:List (Addr × Obj)) (s:Shared) (σ:St) (H:Hp) (Q:Bool->Hp->Prop),Inv Y pins σ H s->t σ H Q ->
  wpAny (model Y.prog Y.w) Y.A (forIn ifs true λc r=>if r=true then do let ok <- isTrue c Y.env (eval c Y.env);pure (ForInStep.yield ok)else pure (ForInStep.yield r)) (TP Y pins σ Q) Y.xe s
noncomputable def kE:TT:=λ_ H Q=>Q true H
theorem d_{Y:Cx}:jE Y [] kE:=λ_ _ _ H _ I h=>wpAny_tests_nil ⟨H,I,h⟩
theorem pM{Y:Cx}{c:Expr}{t:TT}(h:PT Y c t):jE Y [c] t:=λpins s σ H Q I hq=>wpAny_tests_one (h pins s σ H Q I hq)
noncomputable def gY(J:It)(g:TG)(tc:TT)(te:TE)(σ₀:St)(D:Addr)(Q:Hp->Prop)(H:Hp):Prop:=
 ∃W:Nat->Nat->List V->Hp->Prop,(∃m,W 0 m [] H)/\∀i m ys H,W i m ys H ->
  (J.stop i H/\Q H)\/(J.go i H/\∃N:List V->Hp->Prop,(∀ys' H',N ys' H'->∃m',m'<m/\W (i+1) m' ys' H')/\∀x H',J.gW i H x H'->g x σ₀ H' λσ2 H2=>Wk σ₀ σ2 /\
   tc σ2 H2 λb H3=>if b=true then te σ2 H3 λy H4=>H4 D=some (.lst ys)/\ys.length<sizeLine/\N (ys++[y]) (upd H4 D (.lst (ys++[y])))else N ys H3)
theorem Inv.Pp{X:Cx}{pins:List (Addr × Obj)}{σ σ':St}{H:Hp}{s:Shared}(I:Inv X pins σ' H s)(h:Wk σ σ'):Inv X pins σ H s:=I.weak h.1 h.2
theorem FV{Y:Cx}{elt tg iter:Expr}{ifs:List Expr}{scope:Scope}{pos:Pos}{it D:Addr}{fp:List Addr}{tn:Nat->Heap->Prop}{J:It}{g:TG}{tc:TT}{te:TE}{σ₀:St}{H:Hp}{s:Shared}{Q:Hp->Prop}
  (hc:Y.calm=true) (T:Turn Y.prog Y.w Y.K tg J fp it tn) (hg:PG Y tg g) (hif:jE Y ifs tc) (he:PE Y elt te)
  (I:Inv Y [] σ₀ H s) (st:tn 0 s.heap) (hf:∀b∈fp,bW Y [] H b) (hw:gY J g tc te σ₀ D Q H) (hx:Y.xe=λ_ _=>False) :
  codeAny (model Y.prog Y.w) Y.A (.compLoop (.ListComp elt [⟨tg,iter,ifs,0⟩] scope pos) 0 (.ref it) (.ref D) Y.env) (λr s'=>∃H',r = .ok .next/\Inv Y [] σ₀ H' s'/\Q H') s:=by
 obtain⟨W,⟨m0,w0⟩,turn⟩:=hw;have stat:∀{H':Hp},(∀b∈fp,H' b=none)->∀b∈fp,bW Y [] H' b:=λhn b hb=>⟨hn b hb,(hf b hb).2⟩;refine codeAny_loop rfl (λn s'=>∃i ys H',Inv Y [] σ₀ H' s'/\tn i s'.heap/\(∀b∈fp,H' b=none)/\W i n ys H') ?_ m0 ⟨0,[],H,I,st,λb hb=>(hf b hb).1,w0⟩;rintro n s3 ⟨i,ys,H3,I3,st3,lS,w3⟩;show wpAny _ Y.A ((compTurn (.ListComp elt [⟨tg,iter,ifs,0⟩] scope pos) 0 (.ref it) (.ref D) Y.env).onRaise (λx=>do noteFrame x Y.env;theTreesLotGoes x)) _ _ s3;refine wpAny_noted ?_;rw[compTurn_list];refine ae (wpAny_standAt (ae ?_));have O2:∀{α:Type} {t:Sem α} {P:α->Shared->Prop} {E:Value->Shared->Prop} {s:Shared},wpAny (model Y.prog Y.w) Y.A t P Y.xe s->wpAny (model Y.prog Y.w) Y.A t P E s:=λ{α t P E s} h=>by
  rw[hx]at h;exact dZ h (λ_ _ q=>q) λ_ _ q=>q.elim
 rcases turn i n ys H3 w3 with⟨stop,qn⟩|⟨go,N,hN,step⟩
 ·refine ao (T.done Y rfl rfl rfl hc i [] s3 σ₀ H3 _ I3 (stat lS) st3 stop) λr s4 ⟨hr,I4⟩=>?_
  subst hr;exact ah ⟨H3,rfl,I4,qn⟩
 ·refine ao (T.item Y rfl rfl rfl hc i [] s3 σ₀ H3 _ I3 (stat lS) st3 go) λr s4 ⟨u,hr,h4⟩=>?_
  subst hr;refine ae (ao h4 λ_ s5 ⟨x,H5,I5,r5,y5,fN,tE⟩=>?_);have qQ:=I5.pinned (stat tE) (T.obj _ _ fN);refine ae (O2 (ao (hg _ s5 σ₀ H5 x u _ qQ r5 (step x H5 y5)) λ_ s6 ⟨σ6,H6,I6,Ds,q6⟩=>?_));have again:∀{s7:Shared} {σ7:St} {qF:List V} {H7:Hp},Inv Y ([]++mD fp s5.heap) σ7 H7 s7->Wk σ₀ σ7->N qF H7->∃m,m<n/\∃i ys H',Inv Y [] σ₀ H' s7/\tn i s7.heap/\(∀b∈fp,H' b=none)/\W i m ys H':=λ{s7 σ7 qF H7} I7 Pq n7=>by
   obtain⟨m',hm,w7⟩:=hN qF H7 n7;refine⟨m',hm,i+1,qF,H7,(I7.qD).Pp Pq,T.keep _ _ _ fN λb hb o e=>(I7.pin (b,o) (dS _ (dS _ (o9 hb e)))).1,λb hb=>?_,w7⟩;obtain⟨o,e,d⟩:=T.obj _ _ fN b hb;exact(I7.pin (b,o) (dS _ (dS _ (o9 hb e)))).2.1
  refine ae (dZ (hif _ s6 σ6 H6 _ I6 q6) (λok s7 ⟨H7,I7,q7⟩=>?_) λ_ _ q=>by rw[hx]at q;exact q.elim);cases ok with
  |false=>exact ah ⟨rfl,again I7 Ds q7⟩
  |true =>
   refine ae (ae (dZ (he _ s7 σ6 H7 _ I7 q7) (λv s8 ⟨y,H8,I8,r8,hD,hz,n8⟩=>?_) λ_ _ q=>by rw[hx]at q;exact q.elim));refine ae (dZ (ml _ s8 σ6 H8 (.ref D) [y] (.ref D) [v] (λ_ H9=>N (ys++[y]) H9) I8 rfl (.cons r8 .nil) ⟨D,ys,y,rfl,rfl,hD,hz,n8⟩) (λz s9 ⟨_,H9,I9,_,n9⟩=>?_) λ_ _ q=>by rw[hx]at q;exact q.elim);exact ah (ah ⟨rfl,again I9 Ds n9⟩)
noncomputable def Dc(wi:TI)(no:Nat)(fr:List (Str × Nat))(g:TG)(tc:TT)(te:TE):TE:=λσ H Q=>wi σ H λJ H1=>∀D,H1 D=none->gY J g tc te (blkσ no fr σ) D (λH'=>Q (.ref D) H') (upd H1 D (.lst []))
section
variable {X:Cx} {elt tg iter:Expr} {ifs:List Expr} {scope:Scope} {pos:Pos} {own:List Str} {fr:List (Str × Nat)} {wi:TI} {g:TG} {tc:TT} {te:TE}
theorem xl{pins:List (Addr × Obj)}{σ:St}{H2:Hp}{s2:Shared}{it:Addr}{fp:List Addr}{tn:Nat->Heap->Prop}{J:It}{Qd:V->Hp->Prop}{RR:Value->Addr->Result->Shared->Prop}{E:Value->Shared->Prop}(hc:X.calm=true)(B:dQ X scope fr)
  (hb:∀(C:Addr) (s₀:Shared) (H₀:Hp) (fp:List Addr),PG (blk X scope (own++fr.map (·.1)) C s₀ H₀ fp) tg g/\jE (blk X scope (own++fr.map (·.1)) C s₀ H₀ fp) ifs tc/\PE (blk X scope (own++fr.map (·.1)) C s₀ H₀ fp) elt te)
  (I2:Inv X pins σ H2 s2) (T:Turn X.prog X.w X.K tg J fp it tn) (st2:tn 0 s2.heap) (f2:∀b∈fp,bW X pins H2 b)
  (hw:∀D,H2 D=none->gY J g tc te (blkσ own.length fr σ) D (λH'=>Qd (.ref D) H') (upd H2 D (.lst [])))
  (hR:∀(D C:Addr) (s':Shared) (H':Hp) (m:Str->Option Value),Inv X pins σ H' s'->s'.heap.Ns C m->H' C=none->C≠X.env.locals->X.s₀.heap.objs.size<=C->(∀x c,X.env.cells.lookup x=some c->c≠C)->(∀p∈X.pn++pins,p.1≠C) ->
   Qd (.ref D) H'->RR (.ref D) C (.ok .next) s') :
  wpAny (model X.prog X.w) X.A (newList []) (λacc s₃=>wpAny (model X.prog X.w) X.A (newFunctionEnv scope X.env.globals (bx X.env.cells scope.names []) [] X.env.qual none .none (some X.env)) (λcenv s₄ =>
   codeAny (model X.prog X.w) X.A (.compStart (.ListComp elt [⟨tg,iter,ifs,0⟩] scope pos) 0 (.ref it) acc {cenv with scope:=relabel scope X.env}) (RR acc cenv.locals) s₄) E s₃) E s2:=by
 refine ic (wpAny_newFunctionEnv B.mq (by intro y hy;simp at hy) (λh₁ hns₁ hsb₁=>?_) B.kind);dsimp only at hns₁ hsb₁ ⊢;have hD:H2 s2.heap.objs.size=none:=I2.fresh;have I3:Inv X pins σ (upd H2 s2.heap.objs.size (.lst [])) {s2 with heap:=s2.heap.push {cls:=.type "list", data:=.seq ([]:List Value).toArray},toks:=s2.toks}:=I2.ud .nil (by simp);have zo:∀b∈fp,b<s2.heap.objs.size:=λb hb=>by obtain⟨o,e,_⟩:=T.obj _ _ st2 b hb;exact aG e
 have f3:∀b∈fp,bW X pins (upd H2 s2.heap.objs.size (.lst [])) b:=λb hb=>⟨by rw[aA (aP (zo b hb))];exact(f2 b hb).1,(f2 b hb).2⟩;generalize hs3:({s2 with heap:=s2.heap.push {cls:=.type "list", data:=.seq ([]:List Value).toArray},toks:=s2.toks}:Shared)=s3 at I3;have e3:s3.heap=s2.heap.push {cls:=.type "list", data:=.seq ([]:List Value).toArray}:=by rw[<- hs3]
 have zp:∀b∈fp,b<s3.heap.objs.size:=λb hb=>by rw[e3,dU];exact nB (zo b hb)
 have eC:(s2.heap.push {cls:=.type "list", dict:=none,data:=.seq ([]:List Value).toArray}).objs.size=s3.heap.objs.size:=by rw[e3]
 have old:∀b o,s3.heap.get? b=some o->h₁.get? b=some o:=λb o e=>by
  have hb:b<s3.heap.objs.size:=aG e;rw[e3]at e;exact hsb₁.extBut b o (by rw[eC];exact aP hb) (au _ e)
 rw[eC]at hns₁ ⊢;have IY:Inv (blk X scope (own++fr.map (·.1)) s3.heap.objs.size s3 (upd H2 s2.heap.objs.size (.lst [])) fp) [] (blkσ own.length fr σ) (upd H2 s2.heap.objs.size (.lst [])) {s3 with heap:=h₁,toks:=s2.toks+([]:List (Str × Value)).length}:=
  Fh (own:=own) B I3 f3 zp hns₁ old
 have st3:tn 0 h₁:=T.keep _ _ _ st2 λb hb o e=>old b o (by rw[e3];exact au _ e);have fY:∀b∈fp,bW (blk X scope (own++fr.map (·.1)) s3.heap.objs.size s3 (upd H2 s2.heap.objs.size (.lst [])) fp) [] (upd H2 s2.heap.objs.size (.lst [])) b:=λb hb =>
  ⟨(f3 b hb).1,aP (zp b hb),(IY.ok.jV b hb),.inl hb,(IY.ok.ow b hb).2,λp hp=>absurd (show p∈([]:List (Addr × Obj))from hp) (by simp)⟩
 obtain⟨b1,b2,b3⟩:=hb s3.heap.objs.size s3 (upd H2 s2.heap.objs.size (.lst [])) fp;have loop:=FV (Y:=blk X scope (own++fr.map (·.1)) s3.heap.objs.size s3 (upd H2 s2.heap.objs.size (.lst [])) fp) (iter:=iter) (scope:=scope) (pos:=pos) hc T b1 b2 b3 IY st3 fY (hw _ hD) rfl;have zm:codeAny (model X.prog X.w) X.A (.compLoop (.ListComp elt [⟨tg,iter,ifs,0⟩] scope pos) 0 (.ref it) (.ref s2.heap.objs.size) (compEnvC scope (bx X.env.cells scope.names []) s3.heap.objs.size X.env)) (RR (.ref s2.heap.objs.size) s3.heap.objs.size) {s3 with heap:=h₁,toks:=s2.toks+([]:List (Str × Value)).length}:=by
  refine eL loop λr s' ⟨H',hr,J',q⟩=>?_;subst hr;obtain⟨m',hn',_⟩:=id J'.loc;refine hR s2.heap.objs.size s3.heap.objs.size s' H' m' (Ff I3 f3 J') hn' J'.free (eK I3.lt) I3.sz (λx c e=>?_) (λp hp z=>?_) q
  ·obtain⟨v,z⟩:=I3.cell x c e
   exact aP z.lt
  ·exact absurd (aG (I3.pin p hp).1) (by rw[z];exact eJ _)
 have es:({s2 with heap:=h₁,toks:=s2.toks+([]:List (Str × Value)).length}:Shared) = {s3 with heap:=h₁,toks:=s2.toks+([]:List (Str × Value)).length}:=by rw[<- hs3]
 rw[es];exact codeAny_compStart_list zm (T.self X.A 0 _ _ _ st3 zm)
theorem c9(hc:X.calm=true)(B:dQ X scope fr)(hi:PI X tg iter wi)
  (hb:∀(C:Addr) (s₀:Shared) (H₀:Hp) (fp:List Addr),PG (blk X scope (own++fr.map (·.1)) C s₀ H₀ fp) tg g/\jE (blk X scope (own++fr.map (·.1)) C s₀ H₀ fp) ifs tc/\PE (blk X scope (own++fr.map (·.1)) C s₀ H₀ fp) elt te)
  (hs:∀x,foldedSetIterable iter X.env x=pure x:=by intro _;rfl):PE X (.ListComp elt [⟨tg,iter,ifs,0⟩] scope pos) (Dc wi own.length fr g tc te):=by
 intro pins s σ H Q I h;rw[eval_ListComp];refine wpAny_comprehension_free (use:=none) rfl hs (oh (B.cell I.ok)) B.kind B.names (ao (hi pins s σ H _ I h) λv s1 h1=>ao h1 λitv s2 h2=>?_);obtain⟨it,fp,tn,J,H2,e,I2,T,st2,f2,hD⟩:=h2;subst e;refine xl (own:=own) (Qd:=Q) (RR:=λacc C=>compPost (model X.prog X.w) X.A X.xe none (EP X pins σ Q) acc C) hc B hb I2 T st2 f2 hD ?_;intro D C s' H' m I' hn hC c1 c2 c3 c4 q;exact⟨m,hn,λh' sb=>⟨.ref D,H',I'.turned (t':=s'.toks) (λb o hb e=>sb.extBut b o hb e) hC (cu c1).symm (.inr c2) c3 c4,rfl,q⟩⟩
theorem Mg{i:Nat}{x:Str}{py spos:Pos}(hN:X.N.Nodup)(hx:X.N[i]?=some x)(hl:X.env.scope.names.lookup x=some .local)(hc:X.calm=true)(B:dQ X scope fr)(hi:PI X tg iter wi)
  (hb:∀(C:Addr) (s₀:Shared) (H₀:Hp) (fp:List Addr),PG (blk X scope (own++fr.map (·.1)) C s₀ H₀ fp) tg g/\jE (blk X scope (own++fr.map (·.1)) C s₀ H₀ fp) ifs tc/\PE (blk X scope (own++fr.map (·.1)) C s₀ H₀ fp) elt te)
  (hsw:swapsWith (.ListComp elt [⟨tg,iter,ifs,0⟩] scope pos) (some (.Name x py)) spos.line X.env=pure true:=by rfl)
  (hs:∀x,foldedSetIterable iter X.env x=pure x:=by intro _;rfl):PS X (.Assign [.Name x py] (.ListComp elt [⟨tg,iter,ifs,0⟩] scope pos) spos) (vo (Dc wi own.length fr g tc te) (aU i)):=by
 intro pins s σ H D0 I h;rw[exec_Assign_Name_used _ _ _ _ hsw];refine ae (wpAny_standAt (ae ?_));show wpAny _ X.A (do let _ <- comprehension (.ListComp elt [⟨tg,iter,ifs,0⟩] scope pos) scope X.env _ (newList []) false (eval iter X.env) (some (assign (.Name x py) X.env))) _ _ s;refine ae (dZ (wpAny_comprehension_free (use:=some (assign (.Name x py) X.env)) (Q:=λ_ s'=>SP X pins D0 .next s') rfl hs (oh (B.cell I.ok)) B.kind B.names
  (ao (hi pins s σ H _ I h) λv s1 h1=>ao h1 λitv s2 h2=>?_)) (λ_ s' hq=>ah (ah hq)) λ_ _ e=>e)
 obtain⟨it,fp,tn,J,H2,e,I2,T,st2,f2,hD⟩:=h2;subst e;refine xl (own:=own) (Qd:=λv H'=>aU i v σ H' D0.nx) (RR:=λacc C=>compPost (model X.prog X.w) X.A X.xe (some (assign (.Name x py) X.env)) (λ_ s'=>SP X pins D0 .next s') acc C) hc B hb I2 T st2 f2 hD ?_;intro D C s' H' m I' hn hC c1 c2 c3 c4 q;show wpAny _ X.A (assign (.Name x py) X.env (.ref D)) _ _ _;refine wpAny_assign_Name (CT I' hN hx (.inl hl) (v:=.ref D) rfl (λs'' DQ ⟨a,sb,ha⟩=>?_) (.inr hl));have Hf:C≠a:=by
  rcases ha with rfl|ha
  ·exact c1
  ·exact λe=>c3 x a ha e.symm
 refine⟨m,hn.sameBut sb Hf,λh' Nv=>?_⟩;exact⟨_,H',DQ.turned (t':=s''.toks) (λb o hb e=>Nv.extBut b o hb e) hC c1 (.inr c2) c3 c4,q⟩
end
noncomputable def bp(b:Bool)(h:Heap)(it a:Addr)(i:Nat):Prop:=match b with
 |true=>h.IsListIter it a i
 |false=>h.IsTupleIter it a i
noncomputable def bA(b:Bool)(h:Heap)(a:Addr)(items:Array Value):Prop:=match b with
 |true=>h.IsList a items
 |false=>h.IsTuple a items
theorem bp.at{b:Bool}{h h':Heap}{it a:Addr}{i:Nat}(x:bp b h it a i)(k:∀o,h.get? it=some o->h'.get? it=some o):bp b h' it a i:=by
 cases b with
 |true=>exact Heap.IsListIter.at x k
 |false=>exact Heap.IsTupleIter.at x k
theorem bA.at{b:Bool}{h h':Heap}{a:Addr}{items:Array Value}(x:bA b h a items)(k:∀o,h.get? a=some o->h'.get? a=some o):bA b h' a items:=by
 cases b with
 |true=>exact Heap.IsList.at x k
 |false=>obtain⟨o,e,r⟩:=x;exact⟨o,k o e,r⟩
theorem bp.obj{b:Bool}{h:Heap}{it a:Addr}{i:Nat}(x:bp b h it a i):∃o,h.get? it=some o/\∀v,o.data≠.cell v:=by
 cases b with
 |true=>obtain⟨o,e,c,d⟩:=x;exact⟨o,e,λv z=>by rw[d]at z;cases z⟩
 |false=>obtain⟨o,e,c,d⟩:=x;exact⟨o,e,λv z=>by rw[d]at z;cases z⟩
section
variable {prog:Program} {w:World} {A:Around} {E:Value->Shared->Prop} {s:Shared}
theorem Kc{it l:Addr}{i:Nat}{items:Array Value}{x:Value}{Q:Value->Shared->Prop}(hit:s.heap.IsTupleIter it l i)(hl:s.heap.IsTuple l items)(hx:items[i]?=some x)
  (hQ:∀h',h'.IsTupleIter it l (i+1)->Heap.SameBut it s.heap h'->Q x {s with heap:=h'}):wpAny (model prog w) A (Builtin.SmallTypes.nextOf (.ref it)) Q E s:=by
 obtain⟨o,ho,hc,hd⟩:=id hit;obtain⟨ol,hol,_,nl,hdl⟩:=hl;unfold Builtin.SmallTypes.nextOf;refine ae (fX (name:=Str.ofString "__next__") hit.typeIs rC (dX rC hit.typeIs Ep ?_ (Em _)));show wpAny _ _ (field (.ref it) 0>>=_) _ _ s;refine ae (fD ho hd (x:=.ref l) rfl ?_);show wpAny _ _ (if(Value.ref l==Value.none)=true then _ else _) _ _ s;rw[if_neg (show ¬ ((Value.ref l==Value.none)=true)from Bool.false_ne_true)];show wpAny _ _ (field (.ref it) 1>>=_) _ _ s;refine ae (fD ho hd (x:=.int i 0) rfl ?_);show wpAny _ _ (seqItems? (.ref l)>>=_) _ _ s;refine ae (fZ hol hdl ?_);simp only[bQ,hx];refine ae (rS ho hd (by simp) (ah ⟨x,rfl,ah (hQ _ ?_ (k9 ..))⟩));exact⟨_,k_ _ ho (Obj.isFreed_of_fields (rG hd _)),(Obj.cls_mapFields ..).trans hc,by rw[rG hd];simp[rawInt]⟩
theorem Kd{it l:Addr}{i:Nat}{items:Array Value}{Q:Value->Shared->Prop}(hh:A.handled=none)(hit:s.heap.IsTupleIter it l i)(hl:s.heap.IsTuple l items)(hx:items[i]?=none)
  (hE:∀h' e,Heap.ExtBut it s.heap h'->(∃o,h'.get? e=some o/\o.cls = .type "StopIteration")->E (.ref e) {s with heap:=h'}):wpAny (model prog w) A (Builtin.SmallTypes.nextOf (.ref it)) Q E s:=by
 obtain⟨o,ho,hc,hd⟩:=id hit;obtain⟨ol,hol,_,nl,hdl⟩:=hl;unfold Builtin.SmallTypes.nextOf;refine ae (fX (name:=Str.ofString "__next__") hit.typeIs rC (dX rC hit.typeIs Ep ?_ (Em _)));show wpAny _ _ (field (.ref it) 0>>=_) _ _ s;refine ae (fD ho hd (x:=.ref l) rfl ?_);show wpAny _ _ (if(Value.ref l==Value.none)=true then _ else _) _ _ s;rw[if_neg (show ¬ ((Value.ref l==Value.none)=true)from Bool.false_ne_true)];show wpAny _ _ (field (.ref it) 1>>=_) _ _ s;refine ae (fD ho hd (x:=.int i 0) rfl ?_);show wpAny _ _ (seqItems? (.ref l)>>=_) _ _ s;refine ae (fZ hol hdl ?_);simp only[bQ,hx];refine ae (ie (ae (rS ho hd (by simp) ?_)));show wpAny _ _ (newExc (.type "StopIteration") []>>=_) _ _ _;refine ae ?_;simp only[newExc,newTuple];refine ae (ic ?_ (by size_fits));refine ae (m:=firstArgMember _ _) (rO (a:=Value.none) (by first|rfl | (simp only[firstArgMember];rfl)) ?_);refine ic ?_ (by size_fits);simp only[raiseNew];refine ae (wpAny_handled ?_)
 first|rw[show A.in1.handled=none from hh] | rw[hh]
 refine ae (ah (wpAny_throw ?_));exact hE _ _ (((k9 ..).extBut.push _).push _) ⟨_,aQ _ rfl,rfl⟩
theorem pq{b:Bool}{it l:Addr}{i:Nat}{items:Array Value}{x:Value}{Q:Value->Shared->Prop}(hit:bp b s.heap it l i)(hl:bA b s.heap l items)(hx:items[i]?=some x)
  (hQ:∀h',bp b h' it l (i+1)->Heap.SameBut it s.heap h'->Q x {s with heap:=h'}):wpAny (model prog w) A (Builtin.SmallTypes.nextOf (.ref it)) Q E s:=by
 cases b with
 |true=>exact wpAny_nextOf_list_item hit hl hx hQ
 |false=>exact Kc hit hl hx hQ
theorem uo{b:Bool}{it l:Addr}{i:Nat}{items:Array Value}{Q:Value->Shared->Prop}(hh:A.handled=none)(hit:bp b s.heap it l i)(hl:bA b s.heap l items)(hx:items[i]?=none)
  (hE:∀h' e,Heap.ExtBut it s.heap h'->(∃o,h'.get? e=some o/\o.cls = .type "StopIteration")->E (.ref e) {s with heap:=h'}):wpAny (model prog w) A (Builtin.SmallTypes.nextOf (.ref it)) Q E s:=by
 cases b with
 |true=>exact wpAny_nextOf_list_end hh hit hl hx hE
 |false=>exact Kd hh hit hl hx hE
end
abbrev eU (h:Heap) (z TI TO:Addr) (f0:Value) (b:Bool):Prop:=
 h.get? z=some {cls:=.type "zip", dict:=none,data:=.fields #[f0,.bool b,.bool false,.ref TI,.ref TO],slots:=#[]}
section
variable {prog:Program} {w:World} {A:Around} {E:Value->Shared->Prop} {s:Shared} {c1 c2:Bool} {z TI TO i1 i2 l1 l2:Addr} {k1 k2:Nat} {xs ys:Array Value} {x y a b:Value}
theorem PN{f0:Value}{bb:Bool}{Q:Value->Shared->Prop}(D:ZipApart z TI TO i1 i2 l1 l2)(hz:eU s.heap z TI TO f0 bb)(hfree:∀{A':Around} {E':Value->Shared->Prop} {Q':Bool->Shared->Prop},Q' true s->wpAny (model prog w) A' (Builtin.SmallTypes.ownedTupleIsFree (.ref z)) Q' E' s)(hTI:IsPair s.heap TI (.ref i1) (.ref i2))(hTO:IsPair s.heap TO a b)(h1:bp c1 s.heap i1 l1 k1)(h2:bp c2 s.heap i2 l2 k2)(hl1:bA c1 s.heap l1 xs)(hl2:bA c2 s.heap l2 ys)(hx:xs[k1]?=some x)(hy:ys[k2]?=some y)(hQ:∀h',IsZip h' z TI TO (rawInt s.heap.objs.size)->IsPair h' TO x y->bp c1 h' i1 l1 (k1+1)->bp c2 h' i2 l2 (k2+1)->IsPair h' s.heap.objs.size x y->h'.objs.size=s.heap.objs.size+1 ->
   (∀c o,c≠z->c≠TO->c≠i1->c≠i2->s.heap.get? c=some o->h'.get? c=some o)->Q (.ref s.heap.objs.size) {s with heap:=h'}) :
  wpAny (model prog w) A (Builtin.«zip.__next__» ⟨[.ref z],[]⟩) (λfin s'=>∃v,fin = .done (.ret v)/\Q v s') E s:=by
 show wpAny _ _ (field (.ref z) 2>>=_) _ _ _;refine ae (fD hz rfl (x:=.bool false) rfl ?_);show wpAny _ _ (field (.ref z) 3>>=_) _ _ _;refine ae (fD hz rfl (x:=.ref TI) rfl ?_);refine ae (fZ hTI rfl ?_);show wpAny _ _ (Builtin.SmallTypes.ownedTupleIsFree (.ref z)>>=_) _ _ _;refine ae (hfree ?_);simp only[jc];refine ae (ie ?_);refine ae (fD hz rfl (x:=.ref TO) rfl ?_);refine ae (eY hz (by simp) λg1 hz1 e1=>?_)
 replace hz1:eU g1 z TI TO .ellipsis bb:=hz1
 refine ae ?_;simp only[wc,wg,nj,qX];refine ae (ae (rP ?_));show wpAny _ _ (Builtin.SmallTypes.nextOf (.ref i1)>>=_) _ _ _;refine ae (pq (h1.at λo q=>e1.extBut _ o D.i1z q) (hl1.at λo q=>e1.extBut _ o D.l1z q) hx λg2 h1' e2=>ah ?_);have lV:IsPair g2 TO a b:=e2.extBut _ _ D.TOi1 (e1.extBut _ _ D.TOz hTO);refine ae (fZ lV rfl ?_);refine ae (wN lV λg3 oT e3=>?_)
 replace oT:IsPair g3 TO x b:=oT
 refine ae (rN (ah ?_));refine ae (ae (rP ?_));show wpAny _ _ (Builtin.SmallTypes.nextOf (.ref i2)>>=_) _ _ _;have vz:∀o,s.heap.get? i2=some o->g3.get? i2=some o:=λo q=>e3.extBut _ o D.TOi2.symm (e2.extBut _ o D.i12.symm (e1.extBut _ o D.i2z q));have vA:∀o,s.heap.get? l2=some o->g3.get? l2=some o:=λo q=>e3.extBut _ o D.l2TO (e2.extBut _ o D.l2i1 (e1.extBut _ o D.l2z q));refine ae (pq (h2.at vz) (hl2.at vA) hy λg4 h2' e4=>ah ?_);have yb:IsPair g4 TO x b:=e4.extBut _ _ D.TOi2 oT;refine ae (fZ yb rfl ?_);refine ae (wN yb λg5 oU e5=>?_)
 replace oU:IsPair g5 TO x y:=oU
 refine ae (rN (ah (ah ?_)));refine ae (fZ oU rfl ?_);refine ae (nQ ?_);have sz:g5.objs.size=s.heap.objs.size:=by rw[e5.1,e4.1,e3.1,e2.1,e1.1]
 have yu:eU g5 z TI TO .ellipsis bb:=e5.extBut _ _ D.TOz.symm (e4.extBut _ _ D.i2z.symm (e3.extBut _ _ D.TOz.symm (e2.extBut _ _ D.i1z.symm hz1)));have k5:∀c o,c≠z->c≠TO->c≠i1->c≠i2->s.heap.get? c=some o->g5.get? c=some o:=λc o q1 q2 q3 q4 q =>
  e5.extBut _ _ q2 (e4.extBut _ _ q4 (e3.extBut _ _ q2 (e2.extBut _ _ q3 (e1.extBut _ _ q1 q))))
 have h15:bp c1 g5 i1 l1 (k1+1):=h1'.at λo q=>e5.extBut _ o D.TOi1.symm (e4.extBut _ o D.i12 (e3.extBut _ o D.TOi1.symm q));have He:bp c2 g5 i2 l2 (k2+1):=h2'.at λo q=>e5.extBut _ o D.TOi2.symm q;have Dz:z<g5.objs.size:=aG yu;show wpAny _ _ (Builtin.SmallTypes.ownedTupleHandOut (.ref z) (.ref g5.objs.size)>>=_) _ _ _;refine ae ?_;unfold Builtin.SmallTypes.ownedTupleHandOut;have Ik:eU (g5.push {cls:=.type "tuple", data:=.seq #[x,y]}) z TI TO .ellipsis bb:=au _ yu;refine ae (eY Ik (by simp) λg7 tP e7=>?_)
 replace tP:eU g7 z TI TO (rawInt g5.objs.size) bb:=tP
 refine eY tP (by simp) λg8 hz8 e8=>?_
 replace hz8:IsZip g8 z TI TO (rawInt g5.objs.size):=hz8
 have up:∀c o,c≠z->g5.get? c=some o->g8.get? c=some o:=λc o q1 q=>e8.extBut _ _ q1 (e7.extBut _ _ q1 (au _ q));have hT8:IsPair g8 g5.objs.size x y:=e8.extBut _ _ (eK Dz) (e7.extBut _ _ (eK Dz) (aQ _ rfl));have z8:g8.objs.size=g5.objs.size+1:=by rw[e8.1,e7.1,dU]
 rw[sz]at hz8 hT8 z8;refine ah ⟨_,rfl,?_⟩;show Q (.ref g5.objs.size) _;rw[sz];exact hQ g8 hz8 (up _ _ D.TOz oU) (h15.at λo q=>up _ o D.i1z q) (He.at λo q=>up _ o D.i2z q) hT8 z8 λc o q1 q2 q3 q4 q=>up c o q1 (k5 c o q1 q2 q3 q4 q)
theorem P4{f0:Value}{bb:Bool}{Q:Fin->Shared->Prop}(hh:A.handled=none)(D:ZipApart z TI TO i1 i2 l1 l2)(hz:eU s.heap z TI TO f0 bb)(hfree:∀{A':Around} {E':Value->Shared->Prop} {Q':Bool->Shared->Prop},Q' true s->wpAny (model prog w) A' (Builtin.SmallTypes.ownedTupleIsFree (.ref z)) Q' E' s)(hTI:IsPair s.heap TI (.ref i1) (.ref i2))(hTO:IsPair s.heap TO a b)(h1:bp c1 s.heap i1 l1 k1)(h2:bp c2 s.heap i2 l2 k2)(hl1:bA c1 s.heap l1 xs)(hl2:bA c2 s.heap l2 ys)(hend:xs[k1]?=none\/ys[k2]?=none)
  (hE:∀h' e,(∀c o,c≠z->c≠TO->c≠i1->c≠i2->s.heap.get? c=some o->h'.get? c=some o)->(∃o,h'.get? e=some o/\o.cls = .type "StopIteration")->E (.ref e) {s with heap:=h'}) :
  wpAny (model prog w) A (Builtin.«zip.__next__» ⟨[.ref z],[]⟩) Q E s:=by
 show wpAny _ _ (field (.ref z) 2>>=_) _ _ _;refine ae (fD hz rfl (x:=.bool false) rfl ?_);show wpAny _ _ (field (.ref z) 3>>=_) _ _ _;refine ae (fD hz rfl (x:=.ref TI) rfl ?_);refine ae (fZ hTI rfl ?_);show wpAny _ _ (Builtin.SmallTypes.ownedTupleIsFree (.ref z)>>=_) _ _ _;refine ae (hfree ?_);simp only[jc];refine ae (ie ?_);refine ae (fD hz rfl (x:=.ref TO) rfl ?_);refine ae (eY hz (by simp) λg1 hz1 e1=>?_)
 replace hz1:eU g1 z TI TO .ellipsis bb:=hz1
 refine ae ?_;simp only[wc,wg,nj,qX];refine ae (ae (rP ?_));show wpAny _ _ (Builtin.SmallTypes.nextOf (.ref i1)>>=_) _ _ _;have u1:∀o,s.heap.get? i1=some o->g1.get? i1=some o:=λo q=>e1.extBut _ o D.i1z q;have u2:∀o,s.heap.get? l1=some o->g1.get? l1=some o:=λo q=>e1.extBut _ o D.l1z q;cases hx:xs[k1]? with
 |none =>
  refine ae (uo hh (h1.at u1) (hl1.at u2) hx λg2 e e2 he=>?_);obtain⟨oe,hoe,hce⟩:=he;have hz2:eU g2 z TI TO .ellipsis bb:=e2 _ _ D.i1z.symm hz1;have hez:e≠z:=λq=>by subst q;rw[hz2]at hoe;cases hoe;simp at hce
  exact eY hz2 (by simp) λg3 _ e3=>hE g3 e (λc o q1 _ q3 _ q=>e3.extBut _ _ q1 (e2 _ _ q3 (e1.extBut _ _ q1 q))) ⟨oe,e3.extBut _ _ hez hoe,hce⟩
 |some x =>
  have hy:ys[k2]?=none:=by rcases hend with h|h;rw[hx]at h;cases h;exact h
  refine ae (pq (h1.at u1) (hl1.at u2) hx λg2 h1' e2=>ah ?_);have lV:IsPair g2 TO a b:=e2.extBut _ _ D.TOi1 (e1.extBut _ _ D.TOz hTO);refine ae (fZ lV rfl ?_);refine ae (wN lV λg3 oT e3=>?_);refine ae (rN (ah ?_));refine ae (ae (rP ?_));show wpAny _ _ (Builtin.SmallTypes.nextOf (.ref i2)>>=_) _ _ _;have vz:∀o,s.heap.get? i2=some o->g3.get? i2=some o:=λo q=>e3.extBut _ o D.TOi2.symm (e2.extBut _ o D.i12.symm (e1.extBut _ o D.i2z q));have vA:∀o,s.heap.get? l2=some o->g3.get? l2=some o:=λo q=>e3.extBut _ o D.l2TO (e2.extBut _ o D.l2i1 (e1.extBut _ o D.l2z q));refine ae (uo hh (h2.at vz) (hl2.at vA) hy λg4 e e4 he=>?_);obtain⟨oe,hoe,hce⟩:=he;have yt:eU g4 z TI TO .ellipsis bb:=e4 _ _ D.i2z.symm (e3.extBut _ _ D.TOz.symm (e2.extBut _ _ D.i1z.symm hz1));have hez:e≠z:=λq=>by subst q;rw[yt]at hoe;cases hoe;simp at hce
  exact eY yt (by simp) λg5 _ e5=>hE g5 e (λc o q1 q2 q3 q4 q=>e5.extBut _ _ q1 (e4 _ _ q4 (e3.extBut _ _ q2 (e2.extBut _ _ q3 (e1.extBut _ _ q1 q))))) ⟨oe,e5.extBut _ _ hez hoe,hce⟩
theorem PX{f0:Value}{bb:Bool}{Q:Option Value->Shared->Prop}(D:ZipApart z TI TO i1 i2 l1 l2)(hz:eU s.heap z TI TO f0 bb)(hfree:∀{A':Around} {E':Value->Shared->Prop} {Q':Bool->Shared->Prop},Q' true s->wpAny (model prog w) A' (Builtin.SmallTypes.ownedTupleIsFree (.ref z)) Q' E' s)(hTI:IsPair s.heap TI (.ref i1) (.ref i2))(hTO:IsPair s.heap TO a b)(h1:bp c1 s.heap i1 l1 k1)(h2:bp c2 s.heap i2 l2 k2)(hl1:bA c1 s.heap l1 xs)(hl2:bA c2 s.heap l2 ys)(hx:xs[k1]?=some x)(hy:ys[k2]?=some y)(hQ:∀h',IsZip h' z TI TO (rawInt s.heap.objs.size)->IsPair h' TO x y->bp c1 h' i1 l1 (k1+1)->bp c2 h' i2 l2 (k2+1)->IsPair h' s.heap.objs.size x y->h'.objs.size=s.heap.objs.size+1 ->
   (∀c o,c≠z->c≠TO->c≠i1->c≠i2->s.heap.get? c=some o->h'.get? c=some o)->Q (some (.ref s.heap.objs.size)) {s with heap:=h'}) :
  wpAny (model prog w) A (pyNext (.ref z)) Q E s:=by
 have hT:s.TypeIs (.ref z) "zip" :=⟨_,hz,rfl⟩;unfold pyNext;exact ae (fW (fX (name:=Str.ofString "__next__") hT rD (dX rD hT F.entry_zip_next
  (PN D hz hfree hTI hTO h1 h2 hl1 hl2 hx hy λh' a1 a2 a3 a4 a5 a6 a7=>ah (hQ h' a1 a2 a3 a4 a5 a6 a7)) (F.args_zip_next_1 _))))
theorem PL{f0:Value}{bb:Bool}{Q:Option Value->Shared->Prop}(hh:A.handled=none)(D:ZipApart z TI TO i1 i2 l1 l2)(hz:eU s.heap z TI TO f0 bb)(hfree:∀{A':Around} {E':Value->Shared->Prop} {Q':Bool->Shared->Prop},Q' true s->wpAny (model prog w) A' (Builtin.SmallTypes.ownedTupleIsFree (.ref z)) Q' E' s)(hTI:IsPair s.heap TI (.ref i1) (.ref i2))(hTO:IsPair s.heap TO a b)(h1:bp c1 s.heap i1 l1 k1)(h2:bp c2 s.heap i2 l2 k2)(hl1:bA c1 s.heap l1 xs)(hl2:bA c2 s.heap l2 ys)(hend:xs[k1]?=none\/ys[k2]?=none)
  (hQ:∀h',(∀c o,c≠z->c≠TO->c≠i1->c≠i2->s.heap.get? c=some o->h'.get? c=some o)->Q none {s with heap:=h'}):wpAny (model prog w) A (pyNext (.ref z)) Q E s:=by
 have hT:s.TypeIs (.ref z) "zip" :=⟨_,hz,rfl⟩;unfold pyNext;refine ae (fW (fX (name:=Str.ofString "__next__") hT rD (dX rD hT F.entry_zip_next (P4 hh D hz hfree hTI hTO h1 h2 hl1 hl2 hend λh' e hk he=>?_) (F.args_zip_next_1 _))));obtain⟨o,ho,hc⟩:=he;refine ae (nO (T:= "StopIteration") (b:=true) ⟨o,ho,hc⟩ rK ?_);exact ah (hQ _ hk)
theorem xR(hz:IsZip s.heap z TI TO .none){A':Around}{E':Value->Shared->Prop}{Q':Bool->Shared->Prop}(h:Q' true s):wpAny (model prog w) A' (Builtin.SmallTypes.ownedTupleIsFree (.ref z)) Q' E' s:=by
 unfold Builtin.SmallTypes.ownedTupleIsFree;exact ae (fD hz rfl (x:=.none) rfl (ah h))
theorem PQ{Q:Option Value->Shared->Prop}(D:ZipApart z TI TO i1 i2 l1 l2)(hz:IsZip s.heap z TI TO .none)(hTI:IsPair s.heap TI (.ref i1) (.ref i2))(hTO:IsPair s.heap TO a b)(h1:bp c1 s.heap i1 l1 k1)(h2:bp c2 s.heap i2 l2 k2)(hl1:bA c1 s.heap l1 xs)(hl2:bA c2 s.heap l2 ys)(hx:xs[k1]?=some x)(hy:ys[k2]?=some y)(hQ:∀h',IsZip h' z TI TO (rawInt s.heap.objs.size)->IsPair h' TO x y->bp c1 h' i1 l1 (k1+1)->bp c2 h' i2 l2 (k2+1)->IsPair h' s.heap.objs.size x y->h'.objs.size=s.heap.objs.size+1 ->
   (∀c o,c≠z->c≠TO->c≠i1->c≠i2->s.heap.get? c=some o->h'.get? c=some o)->Q (some (.ref s.heap.objs.size)) {s with heap:=h'}) :
  wpAny (model prog w) A (pyNext (.ref z)) Q E s:=PX D hz (xR hz) hTI hTO h1 h2 hl1 hl2 hx hy hQ
theorem PK{Q:Option Value->Shared->Prop}(hh:A.handled=none)(D:ZipApart z TI TO i1 i2 l1 l2)(hz:IsZip s.heap z TI TO .none)(hTI:IsPair s.heap TI (.ref i1) (.ref i2))(hTO:IsPair s.heap TO a b)(h1:bp c1 s.heap i1 l1 k1)(h2:bp c2 s.heap i2 l2 k2)(hl1:bA c1 s.heap l1 xs)(hl2:bA c2 s.heap l2 ys)(hend:xs[k1]?=none\/ys[k2]?=none)
  (hQ:∀h',(∀c o,c≠z->c≠TO->c≠i1->c≠i2->s.heap.get? c=some o->h'.get? c=some o)->Q none {s with heap:=h'}):wpAny (model prog w) A (pyNext (.ref z)) Q E s:=PL hh D hz (xR hz) hTI hTO h1 h2 hl1 hl2 hend hQ
end
noncomputable def Sq(b:Bool)(K:W.Frag)(H:Hp)(a:Addr)(xs:List V):Prop:=match b with
 |true=>ak K H a xs
 |false=>az K H a xs
section
variable {X:Cx} {pins:List (Addr × Obj)} {σ:St} {H:Hp} {s:Shared} {a:Addr} {xs ys:List V} {c:Bool}
theorem Inv.sq(I:Inv X pins σ H s)(h:Sq c X.K H a xs):∃its:List Value,Vals xs its/\bA c s.heap a its.toArray/\xs.length<=sizeLine:=by
 cases c with
 |true=>obtain⟨its,r,p,z⟩:=I.list h;exact⟨its,r,p.isList,z⟩
 |false=>obtain⟨its,r,p,z⟩:=I.tuple h;exact⟨its,r,p,z⟩
theorem Inv.vi(I:Inv X pins σ H s)(h:Sq c X.K H a xs)(h':Sq c X.K H a ys):xs=ys:=by
 cases c with
 |true=>exact I.zj h h'
 |false=>exact I.vw h h'
theorem Inv.cE(I:Inv X pins σ H s)(h:Sq c X.K H a xs){b:Addr}(f:bW X pins H b):a≠b:=by
 intro e;subst e;have base:∀o,X.K.lookup a=some o->False:=λo q=>by
  have e1:=I.ok.mod.j9 a o q
  rcases f.2.2.2.1 with z|z
  ·exact I.ok.jh a o e1 z
  ·exact absurd (cq (aG e1) (cH I.ok.d5 z)) (eJ _)
 cases c with
 |true =>
  rcases h with(h|⟨o,h⟩)|⟨o,_,_,h,_⟩
  ·rw[f.1]at h;cases h
  ·rw[f.1]at h;cases h
  ·exact base o h
 |false =>
  rcases h with(h|⟨o,h⟩)|⟨o,_,_,h,_⟩
  ·rw[f.1]at h;cases h
  ·rw[f.1]at h;cases h
  ·exact base o h
theorem Inv.Dp{h':Heap}{t':Nat}{ch:List Addr}{T:Addr}{o:HO}(I:Inv X pins σ H s)(hch:∀b∈ch,bW X pins H b)
  (k:∀b u,b ∉ ch->s.heap.get? b=some u->h'.get? b=some u) (hT:s.heap.objs.size<=T) (new:aK X.prog X.w (upd H T o) h' T o):Inv X pins σ (upd H T o) {s with heap:=h',toks:=t'}:=by
 have j3:H T=none:=I.hok.fresh hT;have mw:∀b u,H b=some u->b ∉ ch:=λb u e z=>by rw[(hch b z).1]at e;cases e
 have hb:∀b u,s.heap.get? b=some u->b≠T:=λb u e=>aP (cq (aG e) hT);refine I.step (g':=s.gens) (d':=s.drawn) (ch:=ch) (λb hb=>⟨(hch b hb).2.2.2.1,(hch b hb).2.1,(hch b hb).2.2.2.2.1,(hch b hb).2.2.2.2.2⟩) (λb u _ _ hc e _=>k b u hc e) (λb u _ _ hc e _=>⟨u.slots,k b u hc e⟩)
  (λb u _ e n=>by rw[aA (hb b u e)];exact n) (λb u hc e=>⟨u,k b u hc e⟩) (λb ys e=>by rw[aA (b_ e j3)];exact e) (λb u ys e=>by rw[aA (b_ e j3)];exact e)
  (λb ps e=>⟨#[],by rw[aA (b_ e j3),e];simp⟩) (λm hm=>?_) (λb u e=>?_) I.bare
 ·obtain⟨o',es,ep,ho,r⟩:=hm
  exact⟨o',es,ep,k _ o' (λz=>(hch _ z).2.1 rfl) ho,r⟩
 ·by_cases hbT:b=T
  ·subst hbT;rw[av]at e;cases e;exact new
  ·rw[aA hbT]at e
   refine(I.hok b u e).stay (λc v hc q=>k c v ?_ q) (λc q=>by rw[aA (b_ q j3)];exact q) (λc ys q=>by rw[aA (b_ q j3)];exact q) λc ob u q=>by rw[aA (b_ q j3)];exact q
   rcases hc with z|z
   ·rw[z];exact mw b u e
   ·exact mw c _ z
theorem Inv.Dm{h':Heap}{t':Nat}{ch:List Addr}(I:Inv X pins σ H s)(hch:∀b∈ch,bW X pins H b)
  (k:∀b u,b ∉ ch->s.heap.get? b=some u->h'.get? b=some u):Inv X pins σ H {s with heap:=h',toks:=t'}:=by
 have mw:∀b u,H b=some u->b ∉ ch:=λb u e z=>by rw[(hch b z).1]at e;cases e
 refine I.step (g':=s.gens) (d':=s.drawn) (ch:=ch) (λb hb=>⟨(hch b hb).2.2.2.1,(hch b hb).2.1,(hch b hb).2.2.2.2.1,(hch b hb).2.2.2.2.2⟩) (λb u _ _ hc e _=>k b u hc e) (λb u _ _ hc e _=>⟨u.slots,k b u hc e⟩)
  (λb u _ e n=>n) (λb u hc e=>⟨u,k b u hc e⟩) (λb ys e=>e) (λb u ys e=>e) (λb ps e=>⟨#[],by rw[e];simp⟩) (λm hm=>?_) (λb u e=>?_) I.bare
 ·obtain⟨o',es,ep,ho,r⟩:=hm
  exact⟨o',es,ep,k _ o' (λz=>(hch _ z).2.1 rfl) ho,r⟩
 ·refine(I.hok b u e).stay (λc v hc q=>k c v ?_ q) (λc q=>q) (λc ys q=>q) λc ob u q=>q
  rcases hc with z|z
  ·rw[z];exact mw b u e
  ·exact mw c _ z
end
noncomputable def qT(K:W.Frag)(c1 c2:Bool)(l1 l2:Addr):It:=
 ⟨λi H=>∃xs ys x y,Sq c1 K H l1 xs/\Sq c2 K H l2 ys/\xs[i]?=some x/\ys[i]?=some y,
   λi H v H'=>∃T x y,v = .ref T/\H T=none/\H'=upd H T (.tup [x,y])/\(∀xs,Sq c1 K H l1 xs->xs[i]?=some x)/\∀ys,Sq c2 K H l2 ys->ys[i]?=some y,
   λi H=>∃xs ys,Sq c1 K H l1 xs/\Sq c2 K H l2 ys/\(xs.length<=i\/ys.length<=i)⟩
structure wO (c1 c2:Bool) (z TI TO i1 i2 l1 l2:Addr) (i:Nat) (h:Heap):Prop where
 hz:IsZip h z TI TO .none
 ti:IsPair h TI (.ref i1) (.ref i2)
 to:∃a b,IsPair h TO a b
 h1:bp c1 h i1 l1 i
 h2:bp c2 h i2 l2 i
theorem Ag{P:Program}{w:World}{H:Hp}{h:Heap}{T:Addr}{x y:V}{u v:Value}(e:IsPair h T u v)(r1:RelV x u)(r2:RelV y v):aK P w H h T (.tup [x,y]):=
 ⟨by show 2<=sizeLine;decide,[u,v],.cons r1 (.cons r2 .nil),⟨_,e,rfl,_,rfl⟩,_,e,rfl⟩
theorem Pg{P:Program}{w:World}{K:W.Frag}{elts:List Expr}{k:Nat}{pos:Pos}{c1 c2:Bool}{z TI TO i1 i2:Addr}(l1 l2:Addr)(nd:TI≠z/\TO≠z/\i1≠z/\i2≠z/\TI≠TO/\TI≠i1/\TI≠i2/\TO≠i1/\TO≠i2/\i1≠i2):Turn P w K (.Tuple elts k pos) (qT K c1 c2 l1 l2) [z,TI,TO,i1,i2] z (wO c1 c2 z TI TO i1 i2 l1 l2) where
 mem:=by simp
 obj:=λi h st b hb=>by
  have fld:∀{a:Addr} {o:Obj},h.get? a=some o->(∀v,o.data≠.cell v)->∃o,h.get? a=some o/\∀v,o.data≠.cell v:=λe d=>⟨_,e,d⟩;simp only[a9,eI,eS]at hb
  rcases hb with rfl|rfl|rfl|rfl|rfl
  ·exact⟨_,st.hz,λv q=>by cases(show Data.fields _=Data.cell v from q)⟩
  ·exact⟨_,st.ti,λv q=>by cases(show Data.seq _ _=Data.cell v from q)⟩
  ·obtain⟨_,_,e⟩:=st.to
   exact⟨_,e,λv q=>by cases(show Data.seq _ _=Data.cell v from q)⟩
  ·exact st.h1.obj
  ·exact st.h2.obj
 keep:=λi h h' st kk=>⟨kk z (by simp) _ st.hz,kk TI (by simp) _ st.ti,let⟨a,b,e⟩:=st.to;⟨a,b,kk TO (by simp) _ e⟩,st.h1.at λo e=>kk i1 (by simp) o e,st.h2.at λo e=>kk i2 (by simp) o e⟩
 item:=by
  intro X hP hw hK hc i pins s σ H E I hf st hg;subst hP hw hK;obtain⟨xs,ys,x,y,q1,q2,hx,hy⟩:=hg;obtain⟨tT,uL,p1,z1⟩:=I.sq q1;obtain⟨tU,uM,p2,z2⟩:=I.sq q2;obtain⟨u,hu,ru⟩:=uL.get hx;obtain⟨v,hv,rv⟩:=uM.get hy;obtain⟨a,b,hTO⟩:=st.to;obtain⟨n1,n2,n3,n4,n5,n6,n7,n8,n9,n10⟩:=nd;have D:ZipApart z TI TO i1 i2 l1 l2:=⟨n1,n2,n3,n4,n5,n6,n7,n8,n9,n10,I.cE q1 (hf z (by simp)),I.cE q1 (hf TO (by simp)),I.cE q1 (hf i1 (by simp)),I.cE q1 (hf i2 (by simp)),
   I.cE q2 (hf z (by simp)),I.cE q2 (hf TO (by simp)),I.cE q2 (hf i1 (by simp)),I.cE q2 (hf i2 (by simp))⟩
  refine PQ D st.hz st.ti hTO st.h1 st.h2 p1 p2 (by simpa using hu) (by simpa using hv) λh' a1 a2 a3 a4 a5 a6 a7=>?_;refine⟨_,rfl,wpAny_letOwnedTupleGo_zip a1 λh2 b1 b2=>?_⟩;have hzlt:z<s.heap.objs.size:=aG st.hz;have Hs:IsPair h2 TI (.ref i1) (.ref i2):=b2.extBut _ _ n1 (a7 _ _ n1 n5 n6 n7 st.ti);have keep:∀b u,b ∉ [z,TO,i1,i2]->s.heap.get? b=some u->h2.get? b=some u:=λb u hb e=>by
   simp only[a9,eI,eS,not_or]at hb;exact b2.extBut _ _ hb.1 (a7 b u hb.1 hb.2.1 hb.2.2.1 hb.2.2.2 e)
  have hT2:IsPair h2 s.heap.objs.size u v:=b2.extBut _ _ (eK hzlt) a5;have vn:∀b∈[z,TO,i1,i2],b∈[z,TI,TO,i1,i2]:=λb hb=>by
   simp only[a9,eI,eS]at hb ⊢
   rcases hb with h|h|h|h<;>simp[h]
  have I2:Inv X pins σ (upd H s.heap.objs.size (.tup [x,y])) {s with heap:=h2,toks:=s.toks}:=
   I.Dp (λb hb=>hf b (vn b hb)) keep (aB _) (Ag hT2 ru rv)
  refine⟨.ref s.heap.objs.size,_,I2,rfl,⟨_,x,y,rfl,I.fresh,rfl,λzs hz=>by rw[I.vi hz q1];exact hx,λzs hz=>by rw[I.vi hz q2];exact hy⟩,
   ⟨b1,Hs,⟨u,v,b2.extBut _ _ n2 a2⟩,a3.at λo e=>b2.extBut _ o n3 e,a4.at λo e=>b2.extBut _ o n4 e⟩,λb hb=>?_⟩
  have hlt:b<s.heap.objs.size:=by
   have live:∀b∈[z,TI,TO,i1,i2],b<s.heap.objs.size:=λb hb=>by
    simp only[a9,eI,eS]at hb
    rcases hb with rfl|rfl|rfl|rfl|rfl
    ·exact hzlt
    ·exact aG st.ti
    ·exact aG hTO
    ·obtain⟨o,e,_⟩:=st.h1.obj;exact aG e
    ·obtain⟨o,e,_⟩:=st.h2.obj;exact aG e
   exact live b hb
  rw[aA (aP hlt)];exact(hf b hb).1
 done:=by
  intro X hP hw hK hc i pins s σ H E I hf st hg;subst hP hw hK;obtain⟨xs,ys,q1,q2,hend⟩:=hg;obtain⟨tT,uL,p1,z1⟩:=I.sq q1;obtain⟨tU,uM,p2,z2⟩:=I.sq q2;obtain⟨a,b,hTO⟩:=st.to;obtain⟨n1,n2,n3,n4,n5,n6,n7,n8,n9,n10⟩:=nd;have D:ZipApart z TI TO i1 i2 l1 l2:=⟨n1,n2,n3,n4,n5,n6,n7,n8,n9,n10,I.cE q1 (hf z (by simp)),I.cE q1 (hf TO (by simp)),I.cE q1 (hf i1 (by simp)),I.cE q1 (hf i2 (by simp)),
   I.cE q2 (hf z (by simp)),I.cE q2 (hf TO (by simp)),I.cE q2 (hf i1 (by simp)),I.cE q2 (hf i2 (by simp))⟩
  have e1:=uL.length;have e2:=uM.length;have hend':tT.toArray[i]?=none\/tU.toArray[i]?=none:=by
   rcases hend with h|h
   ·exact .inl (by simp;omega)
   ·exact .inr (by simp;omega)
  refine PK (I.ok.hd hc) D st.hz st.ti hTO st.h1 st.h2 p1 p2 hend' λh' kk=>⟨rfl,?_⟩;have vn:∀b∈[z,TO,i1,i2],b∈[z,TI,TO,i1,i2]:=λb hb=>by
   simp only[a9,eI,eS]at hb ⊢
   rcases hb with h|h|h|h<;>simp[h]
  exact I.Dm (t':=s.toks) (ch:=[z,TO,i1,i2]) (λb hb=>hf b (vn b hb)) λb u hb e=>by
   simp only[a9,eI,eS,not_or]at hb;exact kk b u hb.1 hb.2.1 hb.2.2.1 hb.2.2.2 e
 self:=λ_ _ _ _ _ st h=>wpAny_pyIter_zip st.hz h
noncomputable def eR (c:Bool) (l:Addr):Obj:={cls:=.type (match c with|true => "list_iterator" |false => "tuple_iterator"),data:=.fields #[.ref l,.int 0 0]}
theorem vg{c:Bool}{h:Heap}{it l:Addr}(e:h.get? it=some (eR c l)):bp c h it l 0:=by
 cases c with
 |true=>exact⟨_,e,rfl,rfl⟩
 |false=>exact⟨_,e,rfl,rfl⟩
section
variable {prog:Program} {w:World} {A:Around} {E:Value->Shared->Prop} {s:Shared}
theorem mh{c:Bool}{l:Addr}{items:Array Value}{Q:Value->Shared->Prop}(hl:bA c s.heap l items)
  (hQ:Q (.ref s.heap.objs.size) {s with heap:=s.heap.push (eR c l)}):wpAny (model prog w) A (pyIter (.ref l)) Q E s:=by
 cases c with
 |true=>exact rQ hl hQ
 |false=>exact wpAny_pyIter_tuple hl hQ
end
abbrev qG (c1:Bool) (h:Heap) (l1:Addr):Heap:=h.push (eR c1 l1)
abbrev qH (c1 c2:Bool) (h:Heap) (l1 l2:Addr):Heap:=(qG c1 h l1).push (eR c2 l2)
abbrev qI (c1 c2:Bool) (h:Heap) (l1 l2:Addr):Heap:=(qH c1 c2 h l1 l2).push {cls:=.type "tuple", data:=.seq #[.ref h.objs.size,.ref (qG c1 h l1).objs.size]}
abbrev qJ (c1 c2:Bool) (h:Heap) (l1 l2:Addr):Heap:=(qI c1 c2 h l1 l2).push {cls:=.type "tuple", data:=.seq #[.none,.none]}
abbrev jw (c1 c2:Bool) (h:Heap) (l1 l2:Addr):Heap:=(qJ c1 c2 h l1 l2).push {cls:=.type "zip", data:=.fields #[.none,.bool false,.bool false,.ref (qH c1 c2 h l1 l2).objs.size,.ref (qI c1 c2 h l1 l2).objs.size]}
theorem JX(c1 c2:Bool)(l1 l2:Addr)(xs ys:Array Value):
  Meets (Builtin.«zip.__new__» ⟨[.type "zip", .ref l1,.ref l2],[]⟩) (λ_ R s=>bA c1 s.heap l1 xs/\bA c2 s.heap l2 ys /\
   R (.ok (.ret (.ref (qJ c1 c2 s.heap l1 l2).objs.size))) {s with heap:=jw c1 c2 s.heap l1 l2}):=
 .of_wp λprog w A R s h=>by
  obtain⟨hp,g,d,tk,os⟩:=s;obtain⟨hl1,hl2,h⟩:=h;have hsub:=sub_zip;have hL1:bA c1 (Shared.heap ⟨hp,g,d,tk,os⟩) l1 xs:=hl1;have hL2:bA c2 (Shared.heap ⟨hp.push (eR c1 l1),g,d,tk,os⟩) l2 ys:=hl2.at λo e=>au _ e
  wp_walk using mh hL1,mh hL2
  exact⟨_,rfl,h⟩
section
variable {prog:Program} {w:World} {A:Around} {E:Value->Shared->Prop} {s:Shared}
theorem Fo{c1 c2:Bool}{l1 l2:Addr}{xs ys:Array Value}{Q:Value->Shared->Prop}(hl1:bA c1 s.heap l1 xs)(hl2:bA c2 s.heap l2 ys)(h:∀h',wO c1 c2 (s.heap.objs.size+4) (s.heap.objs.size+2) (s.heap.objs.size+3) s.heap.objs.size (s.heap.objs.size+1) l1 l2 0 h'->h'.objs.size=s.heap.objs.size+5 ->
   (∀c o,s.heap.get? c=some o->h'.get? c=some o)->Q (.ref (s.heap.objs.size+4)) {s with heap:=h'}) :
  wpAny (model prog w) A (call (.type "zip") [.ref l1,.ref l2]) Q E s:=by
 refine callType_new F.called_zip (by decide) (F.typeCall_zip_2 _ _) (F.newCall_zip_2 _ _) (λobj=>F.args_object_init_3 obj _ _) F.entry_zip_new (JX c1 c2 l1 l2 xs ys) ⟨hl1,hl2,?_⟩;have z1:(qG c1 s.heap l1).objs.size=s.heap.objs.size+1:=dU ..;have z2:(qH c1 c2 s.heap l1 l2).objs.size=s.heap.objs.size+2:=by rw[dU,z1]
 have z3:(qI c1 c2 s.heap l1 l2).objs.size=s.heap.objs.size+3:=by rw[dU,z2]
 have z4:(qJ c1 c2 s.heap l1 l2).objs.size=s.heap.objs.size+4:=by rw[dU,z3]
 have z5:(jw c1 c2 s.heap l1 l2).objs.size=s.heap.objs.size+5:=by rw[dU,z4]
 have g5:(jw c1 c2 s.heap l1 l2).get? (qJ c1 c2 s.heap l1 l2).objs.size=some _:=aQ _ rfl;have g4:(jw c1 c2 s.heap l1 l2).get? (qI c1 c2 s.heap l1 l2).objs.size=some _:=au _ (aQ _ rfl);have g3:(jw c1 c2 s.heap l1 l2).get? (qH c1 c2 s.heap l1 l2).objs.size=some _:=au _ (au _ (aQ _ rfl));have g2:(jw c1 c2 s.heap l1 l2).get? (qG c1 s.heap l1).objs.size=some _:=au _ (au _ (au _ (aQ _ rfl)));have g1:(jw c1 c2 s.heap l1 l2).get? s.heap.objs.size=some _:=au _ (au _ (au _ (au _ (aQ _ rfl))));show _/\_;rw[z2,z3,z4]at g5;rw[z1,z2]at g3;rw[z3]at g4;rw[z1]at g2;rw[z4];exact⟨⟨_,g5,rfl⟩,h _ ⟨g5,g3,⟨_,_,g4⟩,vg g1,vg g2⟩ z5 λc o x =>
  au _ (au _ (au _ (au _ (au _ x))))⟩
end
section
variable {X:Cx} {elts:List Expr} {k:Nat} {tpos:Pos}
noncomputable def yy(K:W.Frag)(c1 c2:Bool)(ta:TA):TI:=λσ H R=>ta σ H λvs H1=>∃l1 l2 xs ys,vs = [.ref l1,.ref l2]/\Sq c1 K H1 l1 xs/\Sq c2 K H1 l2 ys/\R (qT K c1 c2 l1 l2) H1
theorem L8 (c1 c2:Bool) {a b:Expr} {ta:TA} {p pos:Pos} (hg:Gl X "zip") (hm:X.mg "zip" = none) (ha:PA X [a,b] ta) (hs:starEach [a,b] X.env = [(false,eval a X.env),(false,eval b X.env)]:=by rfl) (hs2:starEach [b] X.env = [(false,eval b X.env)]:=by rfl) :
  PI X (.Tuple elts k tpos) (.Call (.Name "zip" p) [a,b] [] pos) (yy X.K c1 c2 ta):=by
 intro pins s σ H R I h;refine Call_ (gD I hg hm (show bootBuiltins "zip" = some (.type "zip")by decide +kernel) (k8 (ao (ha pos pins s σ H _ I h) λus s1 ⟨vs,H1,I1,r1,q1⟩=>?_) (by rw[hs,hs2]) (by rw[hs2];rfl)));obtain⟨l1,l2,xs,ys,e,q1,q2,q⟩:=q1;subst e;obtain⟨u,v,rfl,ru,rv⟩:=Vals.two r1;cases ru;cases rv;obtain⟨tT,_,p1,_⟩:=I1.sq q1;obtain⟨tU,_,p2,_⟩:=I1.sq q2;refine Fo p1 p2 λh' zr hz hk=>wpAny_pyIter_zip zr.hz ?_;have I2:Inv X pins σ H1 {s1 with heap:=h',toks:=s1.toks}:=I1.kept hk;have nd:∀n:Nat,n+2≠n+4/\n+3≠n+4/\n≠n+4/\n+1≠n+4/\n+2≠n+3/\n+2≠n/\n+2≠n+1/\n+3≠n/\n+3≠n+1/\n≠n+1:=λn=>by omega
 refine⟨_,_,_,_,H1,rfl,I2,Pg l1 l2 (nd s1.heap.objs.size),zr,λb hb=>?_,q⟩;simp only[a9,eI,eS]at hb;have ge:s1.heap.objs.size<=b:=by rcases hb with rfl|rfl|rfl|rfl|rfl<;>omega
 exact I1.i_ ge (I1.hok.fresh ge)
end
theorem xv{prog:Program}{w:World}{A:Around}(hh:A.handled=none)(c:Bool)(it l:Addr)(hne:l≠it)(items:Array Value):Draws prog w A it [it,l] items.size (λi v=>items[i]?=some v) (λi h=>bp c h it l i/\bA c h l items) where
 live:=λ_ _ st=>let⟨o,ho,_⟩:=st.1.obj;⟨o,ho⟩
 frame:=λ_ _ _ st hk=>⟨st.1.at λo e=>hk it (by simp) o e,st.2.at λo e=>hk l (by simp) o e⟩
 item:=λi s Q E hi st hQ=>pq st.1 st.2 (x:=items[i]) (by simp[hi]) λh' hit' hs'=>hQ _ h' s.toks (by simp[hi]) ⟨hit',st.2.at λo e=>hs'.extBut _ o hne e⟩ hs'
 done:=λs Q E st hE=>uo hh st.1 st.2 (by simp) hE
theorem JW(c:Bool)(l:Addr)(items:Array Value):
  Meets (Builtin.«enumerate.__new__» ⟨[.type "enumerate", .ref l],[]⟩) (λ_ R s=>bA c s.heap l items /\
   R (.ok (.ret (.ref (s.heap.push (eR c l)).objs.size))) {s with heap:=(s.heap.push (eR c l)).push {cls:=.type "enumerate", data:=.fields #[.none,.bool false,.ref s.heap.objs.size,rawInt 0,.none,.none]}}):=
 .of_wp λprog w A R s h=>by
  obtain⟨hp,g,d,tk,os⟩:=s;obtain⟨hl,h⟩:=h;have hsub:=sub_enumerate;have hL:bA c (Shared.heap ⟨hp,g,d,tk,os⟩) l items:=hl
  wp_walk
  refine wpAny_stack_any λst=>ah ?_
  split
  ·rename_i cc _ _ _ _ _
   cases(cc==Value.type "enumerate")
   ·wp_walk using mh hL
    exact⟨_,rfl,h⟩
   ·wp_walk using mh hL
    exact⟨_,rfl,h⟩
  ·wp_walk using mh hL
   exact⟨_,rfl,h⟩
structure vL (c:Bool) (e it l:Addr) (i:Nat) (h:Heap):Prop where
 he:∃old,IsEnum h e it i old
 h1:bp c h it l i
theorem Fn{prog:Program}{w:World}{A:Around}{E:Value->Shared->Prop}{s:Shared}{c:Bool}{l:Addr}{items:Array Value}{Q:Value->Shared->Prop}(hl:bA c s.heap l items)
  (h:∀h',vL c (s.heap.objs.size+1) s.heap.objs.size l 0 h'->h'.objs.size=s.heap.objs.size+2->(∀b o,s.heap.get? b=some o->h'.get? b=some o)->Q (.ref (s.heap.objs.size+1)) {s with heap:=h'}) :
  wpAny (model prog w) A (call (.type "enumerate") [.ref l]) Q E s:=by
 refine callType_new F.called_enumerate (by decide) (F.typeCall_enumerate_1 _) (F.newCall_enumerate_1 _) (λobj=>F.args_object_init_2 obj _) F.entry_enumerate_new (JW c l items) ⟨hl,?_⟩;have hz:(s.heap.push (eR c l)).objs.size=s.heap.objs.size+1:=dU ..;have g2:((s.heap.push (eR c l)).push {cls:=.type "enumerate", data:=.fields #[.none,.bool false,.ref s.heap.objs.size,rawInt 0,.none,.none]}).get? (s.heap.push (eR c l)).objs.size=some _:=aQ _ rfl;have g1:((s.heap.push (eR c l)).push {cls:=.type "enumerate", data:=.fields #[.none,.bool false,.ref s.heap.objs.size,rawInt 0,.none,.none]}).get? s.heap.objs.size=some (eR c l):=au _ (aQ _ rfl);show _/\_;rw[hz]at g2 ⊢;exact⟨⟨_,g2,rfl⟩,h _ ⟨⟨.none,g2⟩,vg g1⟩ (by rw[dU,hz]) λb o e=>au _ (au _ e)⟩
noncomputable def Ite(K:W.Frag)(c:Bool)(l:Addr):It:=
 ⟨λi H=>∃xs x,Sq c K H l xs/\xs[i]?=some x,
   λi H v H'=>∃T x,v = .ref T/\H T=none/\H'=upd H T (.tup [.int i,x])/\∀xs,Sq c K H l xs->xs[i]?=some x,
   λi H=>∃xs,Sq c K H l xs/\xs.length=i⟩
theorem O8{P:Program}{w:World}{K:W.Frag}{elts:List Expr}{k:Nat}{pos:Pos}{c:Bool}{e it:Addr}(l:Addr)(ne:e≠it):Turn P w K (.Tuple elts k pos) (Ite K c l) [e,it] e (vL c e it l) where
 mem:=by simp
 obj:=λi h st b hb=>by
  simp only[a9,eI,eS]at hb
  rcases hb with rfl|rfl
  ·obtain⟨old,q⟩:=st.he
   exact⟨_,q,λv q=>by cases(show Data.fields _=Data.cell v from q)⟩
  ·exact st.h1.obj
 keep:=λi h h' st kk=>⟨let⟨old,q⟩:=st.he;⟨old,kk e (by simp) _ q⟩,st.h1.at λo q=>kk it (by simp) o q⟩
 item:=by
  intro X hP hw hK hc i pins s σ H E I hf st hg;subst hP hw hK;obtain⟨xs,x,q1,hx⟩:=hg;obtain⟨its,rv,p,z⟩:=I.sq q1;obtain⟨u,hu,ru⟩:=rv.get hx;obtain⟨old,he⟩:=st.he;have n1:l≠e:=I.cE q1 (hf e (by simp));have n2:l≠it:=I.cE q1 (hf it (by simp));have hil:i<its.length:=by rw[<- rv.length];exact(bF.mp hx).1
  have hh:X.A.in1.handled=none:=I.ok.hd hc;refine wpAny_pyNext_enum_itemD (xv hh c it l n2 its.toArray) he ⟨st.h1,p⟩ (by simpa using hil) ne (by simp[ne,cu n1]) λx' h' tk hP ho hs' hT hsz hk=>?_;have ex:x'=u:=by
   have hu':its.toArray[i]?=some u:=by simpa using hu
   rw[hu']at hP;exact(dC hP).symm
  subst ex;refine⟨_,rfl,wpAny_letOwnedTupleGo_enum ho λh2 b1 b2=>?_⟩;have elt:e<s.heap.objs.size:=aG he;obtain⟨oi,ei,_⟩:=st.h1.obj;have Iu:it<s.heap.objs.size:=aG ei;have keep:∀b u,b ∉ [e,it]->s.heap.get? b=some u->h2.get? b=some u:=λb u hb q=>by
   simp only[a9,eI,eS,not_or]at hb;exact b2.extBut _ _ hb.1 (hk b u hb.1 hb.2 q)
  have hT2:IsPair h2 s.heap.objs.size (.int i tk) x':=b2.extBut _ _ (eK elt) hT;have I2:Inv X pins σ (upd H s.heap.objs.size (.tup [.int i,x])) {s with heap:=h2,toks:=tk+1}:=I.Dp hf keep (aB _) (Ag hT2 ⟨tk,rfl⟩ ru);refine⟨.ref s.heap.objs.size,_,I2,rfl,⟨_,x,rfl,I.fresh,rfl,λzs hz=>by rw[I.vi hz q1];exact hx⟩,⟨⟨x',by simpa using b1⟩,hs'.1.at λo q=>b2.extBut _ o (cu ne) q⟩,λb hb=>?_⟩;have hlt:b<s.heap.objs.size:=by
   simp only[a9,eI,eS]at hb
   rcases hb with rfl|rfl
   ·exact elt
   ·exact Iu
  rw[aA (aP hlt)];exact(hf b hb).1
 done:=by
  intro X hP hw hK hc i pins s σ H E I hf st hg;subst hP hw hK;obtain⟨xs,q1,hend⟩:=hg;obtain⟨its,rv,p,z⟩:=I.sq q1;obtain⟨old,he⟩:=st.he;have n2:l≠it:=I.cE q1 (hf it (by simp));have el:i=its.toArray.size:=by rw[<- hend,rv.length];simp
  have hh:X.A.in1.handled=none:=I.ok.hd hc;refine wpAny_pyNext_enum_endD (xv hh c it l n2 its.toArray) he (by rw[<- el];exact⟨st.h1,p⟩) λh' hx=>⟨rfl,?_⟩;exact I.Dm (t':=s.toks) (ch:=[e,it]) hf λb u hb q=>by
   simp only[a9,eI,eS,not_or]at hb;exact hx b u hb.2 q
 self:=λ_ _ _ _ _ st h=>let⟨_,he⟩:=st.he;wpAny_pyIter_enum he h
section
variable {X:Cx} {elts:List Expr} {k:Nat} {tpos:Pos}
noncomputable def yv(K:W.Frag)(c:Bool)(ta:TA):TI:=λσ H R=>ta σ H λvs H1=>∃l xs,vs = [.ref l]/\Sq c K H1 l xs/\R (Ite K c l) H1
theorem LW (c:Bool) {a:Expr} {ta:TA} {p pos:Pos} (hg:Gl X "enumerate") (hm:X.mg "enumerate" = none) (ha:PA X [a] ta) (hs:starEach [a] X.env = [(false,eval a X.env)]:=by rfl) :
  PI X (.Tuple elts k tpos) (.Call (.Name "enumerate" p) [a] [] pos) (yv X.K c ta):=by
 intro pins s σ H R I h;refine Call_ (gD I hg hm (show bootBuiltins "enumerate" = some (.type "enumerate")by decide +kernel) (k8 (ao (ha pos pins s σ H _ I h) λus s1 ⟨vs,H1,I1,r1,q1⟩=>?_) hs rfl));obtain⟨l,xs,e,q1,q⟩:=q1;subst e;obtain⟨u,rfl,ru⟩:=Vals.one r1;cases ru;obtain⟨its,_,p1,_⟩:=I1.sq q1;refine Fn p1 λh' er hz hk=>let⟨_,he⟩:=er.he;wpAny_pyIter_enum he ?_
 have I2:Inv X pins σ H1 {s1 with heap:=h',toks:=s1.toks}:=I1.kept hk;refine⟨_,_,_,_,H1,rfl,I2,O8 l (show s1.heap.objs.size+1≠s1.heap.objs.size by omega),er,λb hb=>?_,q⟩;simp only[a9,eI,eS]at hb;have ge:s1.heap.objs.size<=b:=by rcases hb with rfl|rfl<;>omega
 exact I1.i_ ge (I1.hok.fresh ge)
end
theorem Same.put{H:Hp}{a:Addr}{o:HO}(h:H a=none):Same H (upd H a o):=λb u e=>by rw[aA (b_ e h)];exact e
noncomputable def bT(D:Addr)(H H':Hp):Prop:=∀b o,b≠D->H b=some o->H' b=some o
theorem Same.x{H H':Hp}(s:Same H H')(D:Addr):bT D H H':=λb o _ e=>s b o e
theorem bT.put{D:Addr}{H:Hp}{o:HO}:bT D H (upd H D o):=λb u hb e=>by rw[aA hb];exact e
theorem bT.trans{D:Addr}{H H1 H2:Hp}(a:bT D H H1)(b:bT D H1 H2):bT D H H2:=λc o hc e=>b c o hc (a c o hc e)
theorem bT.of{D:Addr}{H H':Hp}(h:H D=none)(s:bT D H H'):Same H H':=λb o e=>s b o (b_ e h) e
theorem Same.sq{K:W.Frag}{H H':Hp}{a:Addr}{xs:List V}{c:Bool}(e:Same H H')(h:Sq c K H a xs):Sq c K H' a xs:=by
 cases c with
 |true=>exact e.seq h
 |false =>
  rcases h with(h|⟨o,h⟩)|h
  ·exact .inl (.inl (e _ _ h))
  ·exact .inl (.inr ⟨o,e _ _ h⟩)
  ·exact .inr h
theorem Same.vh{K:W.Frag}{H H':Hp}{a:Addr}{xs:List V}(e:Same H H')(h:az K H a xs):az K H' a xs:=e.sq (c:=false) h
structure eM (J:It) (g:TG) (σ₀:St) (H1:Hp) (n:Nat) (sl:Nat->St):Prop where
 go:∀i H,i<n->Same H1 H->J.go i H
 stop:∀H,Same H1 H->J.stop n H
 step:∀i H x H' (K:St->Hp->Prop),i<n->Same H1 H->J.gW i H x H'->(∀H2,Same H H2->K (sl i) H2)->g x σ₀ H' λσ2 H2=>Wk σ₀ σ2/\K σ2 H2
theorem src_range{lo:Int}{n:Nat}{ρ:St}{H1:Hp}:eM (g9 lo n) (aU 0) (none::ρ) H1 n (λi=>some (.int (lo+i))::ρ) where
 go:=λi H hi _=>hi
 stop:=λH _=>aB n
 step:=λi H x H' K hi hs hy hk=>by
  obtain⟨rfl,rfl⟩:=hy;exact⟨Wk.set (Wk.refl _) rfl,hk _ (Same.refl _)⟩
theorem src_list{K:W.Frag}{a:Addr}{xs:List V}{ρ:St}{H1:Hp}(h:ak K H1 a xs):eM (g6 K a) (aU 0) (none::ρ) H1 xs.length (λi=>some (xs.getD i .non)::ρ) where
 go:=λi H hi hs=>⟨xs,xs[i],hs.seq h,aq hi⟩
 stop:=λH hs=>⟨xs,hs.seq h,aB _⟩
 step:=λi H x H' K hi hs hy hk=>by
  obtain⟨rfl,hx⟩:=hy;have e:=hx xs (hs.seq h);have e2:xs.getD i .non=x:=by rw[aO,e];rfl
  refine⟨Wk.set (Wk.refl _) rfl,?_⟩;have:=hk _ (Same.refl _);rw[e2]at this;exact this
theorem mQ{K:W.Frag}{a:Addr}{xs:List V}{ρ:St}{H1:Hp}(h:az K H1 a xs):eM (iM K a) (aU 0) (none::ρ) H1 xs.length (λi=>some (xs.getD i .non)::ρ) where
 go:=λi H hi hs=>⟨xs,xs[i],hs.vh h,aq hi⟩
 stop:=λH hs=>⟨xs,hs.vh h,aB _⟩
 step:=λi H x H' K hi hs hy hk=>by
  obtain⟨rfl,hx⟩:=hy;have e:=hx xs (hs.vh h);have e2:xs.getD i .non=x:=by rw[aO,e];rfl
  refine⟨Wk.set (Wk.refl _) rfl,?_⟩;have:=hk _ (Same.refl _);rw[e2]at this;exact this
theorem CJ{K:W.Frag}{c1 c2:Bool}{a b:Addr}{xs ys:List V}{n:Nat}{ρ:St}{H1:Hp}(h1:Sq c1 K H1 a xs)(h2:Sq c2 K H1 b ys)(hn:n=min xs.length ys.length):eM (qT K c1 c2 a b) (jX K 2 (gu (aU 0) (gu (aU 1) lT))) (none::none::ρ) H1 n (λi=>some (xs.getD i .non)::some (ys.getD i .non)::ρ) where
 go:=λi H hi hs=>⟨xs,ys,xs[i]'(by omega),ys[i]'(by omega),hs.sq h1,hs.sq h2,aq (by omega),aq (by omega)⟩
 stop:=λH hs=>⟨xs,ys,hs.sq h1,hs.sq h2,by omega⟩
 step:=λi H v H' Kk hi hs hy hk=>by
  obtain⟨T,x,y,rfl,hT,rfl,hx,hy⟩:=hy;have e1:=hx xs (hs.sq h1);have e2:=hy ys (hs.sq h2);have e3:xs.getD i .non=x:=by rw[aO,e1];rfl
  have e4:ys.getD i .non=y:=by rw[aO,e2];rfl
  refine⟨T,[x,y],rfl,.inl (.inl av),rfl,x,[y],rfl,y,[],rfl,rfl,?_⟩;have:=hk (upd H T (.tup [x,y])) (Same.put hT);rw[e3,e4]at this;exact⟨Wk.set (Wk.set (Wk.refl _) rfl) rfl,this⟩
theorem oo{J:It}{g:TG}{tc:TT}{te:TE}{σ₀:St}{D:Addr}{Q:Hp->Prop}{H1:Hp}{n:Nat}{sl:Nat->St}(keep:Nat->Bool)(Rl:Nat->V->Hp->Prop)(S:eM J g σ₀ H1 n sl)(hD:H1 D=none)(hn:n<sizeLine)(mono:∀i v H H',bT D H H'->Rl i v H->Rl i v H')(step:∀i H (Kt:V->Hp->Prop) (Kf:Hp->Prop),i<n->Same H1 H->(∃ys,H D=some (.lst ys))->(∀v H',keep i=true->Same H H'->Rl i v H'->Kt v H')->(∀H',keep i=false->Same H H'->Kf H') ->
   tc (sl i) H λb H3=>if b=true then te (sl i) H3 Kt else Kf H3)
  (fin:∀H' ys,Same H1 H'->H' D=some (.lst ys)->Paired (λi v=>Rl i v H') ((List.range n).filter keep) ys->Q H'):gY J g tc te σ₀ D Q (upd H1 D (.lst [])):=by
 refine⟨λi m ys H=>m=n - i/\i<=n/\Same H1 H/\H D=some (.lst ys)/\Paired (λi v=>Rl i v H) ((List.range i).filter keep) ys,⟨n,by omega,by omega,Same.put hD,av,.nil⟩,?_⟩;rintro i m ys H ⟨hm,hi,hs,hl,hp⟩;have hlen:ys.length<=i:=by
  have:=bS hp;rw[<- this];exact cH (q8 _ _) (by simp)
 by_cases e:i=n
 ·subst e
  exact .inl ⟨S.stop H hs,fin H ys hs hl hp⟩
 ·have hin:i<n:=by omega
  refine .inr ⟨S.go i H hin hs,λys' H'=>i+1<=n/\Same H1 H'/\H' D=some (.lst ys')/\Paired (λi v=>Rl i v H') ((List.range (i+1)).filter keep) ys',λys' H' h=>⟨n - (i+1),by omega,rfl,h⟩,λx H' hy=>?_⟩;refine S.step i H x H' (λσ2 H2=>tc σ2 H2 λb H3=>if b=true then te σ2 H3 λy H4=>H4 D=some (.lst ys)/\ys.length<sizeLine/\_ else _) hin hs hy λH2 s2=>?_;have up:∀{H':Hp},Same H2 H'->Paired (λi v=>Rl i v H') ((List.range i).filter keep) ys:=λ{H'} s'=>Paired.bL hp λa b r=>mono a b _ _ ((s2.trans s').x D) r;refine step i H2 _ _ hin (hs.trans s2) ⟨ys,s2 _ _ hl⟩ (λv H4 hk s4 r=>?_) λH4 hk s4=>?_
  ·have gw:H4 D=some (.lst ys):=s4 _ _ (s2 _ _ hl)
   refine⟨gw,by omega,hin,?_,av,?_⟩
   ·exact bT.of hD (((hs.trans (s2.trans s4)).x D).trans bT.put)
   ·rw[iQ,qW]
    have e1:[i].filter keep = [i]:=by simp[hk]
    rw[e1];exact PySem.Paired.snoc (Paired.bL (up s4) λa b q=>mono a b _ _ bT.put q) (mono _ _ _ _ bT.put r)
  ·refine⟨hin,hs.trans (s2.trans s4),s4 _ _ (s2 _ _ hl),?_⟩
   rw[iQ,qW];have e1:[i].filter keep = []:=by simp[hk]
   rw[e1,kT];exact up s4
theorem Ai{α:Type}{f:α->V}:∀{l:List α} {ys:List V},Paired (λi v=>v=f i) l ys->ys=l.map f
 |_,_,.nil=>rfl
 |_,_,.cons h t=>by rw[h,Ai t];rfl
theorem sG{J:It}{g:TG}{tc:TT}{te:TE}{σ₀:St}{D:Addr}{Q:Hp->Prop}{H1:Hp}{n:Nat}{sl:Nat->St}(keep:Nat->Bool)(f:Nat->V)(S:eM J g σ₀ H1 n sl)(hD:H1 D=none)(hn:n<sizeLine)(step:∀i H (Kt:V->Hp->Prop) (Kf:Hp->Prop),i<n->Same H1 H->(∀H',keep i=true->Same H H'->Kt (f i) H')->(∀H',keep i=false->Same H H'->Kf H') ->
   tc (sl i) H λb H3=>if b=true then te (sl i) H3 Kt else Kf H3)
  (fin:∀H',Same H1 H'->H' D=some (.lst (((List.range n).filter keep).map f))->Q H'):gY J g tc te σ₀ D Q (upd H1 D (.lst [])):=
 oo keep (λi v _=>v=f i) S hD hn (λ_ _ _ _ _ h=>h) (λi H Kt Kf hi hs _ h1 h2=>step i H Kt Kf hi hs (λH' hk s'=>h1 _ H' hk s' rfl) h2)
  λH' ys hs hl hp=>fin H' hs (by rw[hl,Ai hp])
theorem filter_true{α:Type}(l:List α):l.filter (λ_=>true)=l:=List.filter_eq_self.mpr λ_ _=>rfl
theorem iq{J:It}{g:TG}{te:TE}{σ₀:St}{D:Addr}{Q:Hp->Prop}{H1:Hp}{n:Nat}{sl:Nat->St}(f:Nat->V)(S:eM J g σ₀ H1 n sl)(hD:H1 D=none)(hn:n<sizeLine)(step:∀i H (Kt:V->Hp->Prop),i<n->Same H1 H->(∀H',Same H H'->Kt (f i) H')->te (sl i) H Kt)(fin:∀H',Same H1 H'->H' D=some (.lst ((List.range n).map f))->Q H'):gY J g kE te σ₀ D Q (upd H1 D (.lst [])):=
 sG (λ_=>true) f S hD hn (λi H Kt Kf hi hs h1 _=>c7 (A:=te (sl i) H Kt) (B:=Kf H) (step i H Kt hi hs λH' s'=>h1 H' rfl s')) λH' hs hl=>fin H' hs (by rw[hl,filter_true])
theorem om{J:It}{g:TG}{te:TE}{σ₀:St}{D:Addr}{Q:Hp->Prop}{H1:Hp}{n:Nat}{sl:Nat->St}(Rl:Nat->V->Hp->Prop)(S:eM J g σ₀ H1 n sl)(hD:H1 D=none)(hn:n<sizeLine)(mono:∀i v H H',bT D H H'->Rl i v H->Rl i v H')(step:∀i H (Kt:V->Hp->Prop),i<n->Same H1 H->(∃ys,H D=some (.lst ys))->(∀v H',Same H H'->Rl i v H'->Kt v H')->te (sl i) H Kt)(fin:∀H' ys,Same H1 H'->H' D=some (.lst ys)->Paired (λi v=>Rl i v H') (List.range n) ys->Q H'):gY J g kE te σ₀ D Q (upd H1 D (.lst [])):=
 oo (λ_=>true) Rl S hD hn mono (λi H Kt Kf hi hs hy h1 _=>c7 (A:=te (sl i) H Kt) (B:=Kf H) (step i H Kt hi hs hy λv H' s' r=>h1 v H' rfl s' r)) λH' ys hs hl hp=>fin H' ys hs hl (by rw[filter_true]at hp;exact hp)
theorem FT{J:It}{g:TG}{te:TE}{σ₀:St}{D:Addr}{Q:Hp->Prop}{H1:Hp}{n:Nat}{sl:Nat->St}(c:Nat->List V)(S:eM J g σ₀ H1 n sl)(hD:H1 D=none)(hn:n<sizeLine)(step:∀i H (Kt:V->Hp->Prop),i<n->Same H1 H->(∀a H',Same H H'->H a=none->H' a=some (.lst (c i))->Kt (.ref a) H')->te (sl i) H Kt)(fin:∀H' (as:List Addr),Same H1 H'->H' D=some (.lst (as.map V.ref))->as.length=n->as.Nodup->(∀a∈as,H1 a=none/\a≠D)->(∀(i:Nat) a,as[i]?=some a->H' a=some (.lst (c i)))->Q H'):gY J g kE te σ₀ D Q (upd H1 D (.lst [])):=by
 refine⟨λi m ys H=>m=n - i/\i<=n/\Same H1 H/\H D=some (.lst ys)/\∃as:List Addr,ys=as.map V.ref/\as.length=i/\as.Nodup/\(∀a∈as,H1 a=none/\a≠D)/\∀(j:Nat) a,as[j]?=some a->H a=some (.lst (c j)),
  ⟨n,by omega,by omega,Same.put hD,av,[],rfl,rfl,List.nodup_nil,λ_ h=>(nomatch h),λj a h=>by simp at h⟩,?_⟩
 rintro i m ys H ⟨hm,hi,hs,hl,as,rfl,h1,h2,h3,h4⟩
 by_cases e:i=n
 ·subst e
  exact .inl ⟨S.stop H hs,fin H as hs hl h1 h2 h3 h4⟩
 ·have hin:i<n:=by omega
  refine .inr ⟨S.go i H hin hs,λys' H'=>i+1<=n/\Same H1 H'/\H' D=some (.lst ys')/\∃as:List Addr,ys'=as.map V.ref/\as.length=i+1/\as.Nodup/\(∀a∈as,H1 a=none/\a≠D)/\∀(j:Nat) a,as[j]?=some a->H' a=some (.lst (c j)),
   λys' H' h=>⟨n - (i+1),by omega,rfl,h⟩,λx H' hy=>?_⟩
  refine S.step i H x H' (λσ2 H2=>kE σ2 H2 λb H3=>if b=true then te σ2 H3 λy H4=>H4 D=some (.lst (as.map V.ref))/\(as.map V.ref).length<sizeLine/\_ else _) hin hs hy λH2 s2=>?_;dsimp only[kE];rw[if_pos rfl];refine step i H2 _ hin (hs.trans s2) λa H4 s4 ha hc=>?_;have gw:H4 D=some (.lst (as.map V.ref)):=s4 _ _ (s2 _ _ hl);have haD:a≠D:=λe=>by rw[e,s2 _ _ hl]at ha;cases ha
  have Eu:a ∉ as:=λhm=>by
   obtain⟨j,hj,e⟩:=jA hm;have:=s2 _ _ (h4 j a (by rw[aq hj,e]));rw[ha]at this;cases this
  refine⟨gw,by simp;omega,hin,bT.of hD (((hs.trans (s2.trans s4)).x D).trans bT.put),av,as++[a],by simp,by simp[h1],?_,?_,?_⟩
  ·exact v7.mpr ⟨h2,by simp,λx hx y hy=>by simp at hy;subst hy;exact λe=>Eu (e▸hx)⟩
  ·intro b hb
   rcases hV.mp hb with hb|hb
   ·exact h3 b hb
   ·simp at hb
    subst hb;exact⟨(hs.trans s2).free ha,haD⟩
  ·intro j b hj
   by_cases hjl:j<as.length
   ·rw[jy hjl]at hj
    have q:=h4 j b hj;have hbD:b≠D:=(h3 b (bK hj)).2;rw[aA hbD];exact s4 _ _ (s2 _ _ q)
   ·have hj2:(as++[a])[j]?=some b:=hj
    rw[iN (by omega)]at hj2;have e0:j=as.length:=by
     by_cases z:j - as.length=0
     ·omega
     ·rw[qY (by simp;omega)]at hj2;cases hj2
    subst e0;simp at hj2;subst hj2;rw[aA haD,h1];exact hc
noncomputable def Pu(pre:List V->Hp->Prop)(post:List V->Hp->V->Hp->Prop):Sp:=λvs H Q _=>pre vs H/\∀v H',Same H H'->post vs H v H'->Q v H'
noncomputable def w_(sc mz:Scope)(N:List Str)(fr:List (Str × Nat)):Bool:=
 sc.kind==.function&&sc.names.all (λy=>y.2 != .cell&&(y.2 != .local||sc.names.lookup y.1==some .local)&&(y.2 != .free||mz.names.lookup y.1==some .cell||mz.names.lookup y.1==some .free)) &&
 fr.all λp=>N[p.2]?==some p.1&&sc.names.lookup p.1==some .free
theorem cJ{X:Cx}{scope:Scope}{fr:List (Str × Nat)}(mz:Scope)(N:List Str)(h1:X.env.scope=mz)(h2:X.N=N)(h:w_ scope mz N fr=true):dQ X scope fr:=by
 unfold w_ at h;rw[ck,ck]at h;obtain⟨⟨a,b⟩,c⟩:=h;rw[cn]at b c;subst h1 h2;refine⟨by simpa using a,λy hy e=>?_,λy hy e=>?_,λy hy e=>?_,λp hp=>?_⟩
 ·have:=b y hy
  rw[e]at this;simp at this
 ·have:=b y hy
  rw[e]at this;simpa using this
 ·have:=b y hy
  rw[e]at this;simpa using this
 ·have:=c p hp
  simpa using this
structure ax (P:Program) (w:World) (K:W.Frag) (mg:Str->Option Value) (base:Heap) (x:Str) (ps:List Str) (k:Nat) (sp:Sp):Prop where
 ex:∃(f:Addr) (fd:FuncData),aI P w K mg base aJ k f fd ps sp/\mg x=some (.ref f)/\W.keepIn K (.ref f)=true/\Binds K fd ps []
section
variable {X:Cx} {x:Str} {ps:List Str} {k k':Nat} {sp:Sp} {e:Expr} {es:List Expr} {t:TA} {p pos:Pos}
theorem aW (c:ax X.prog X.w X.K X.mg X.base x ps k sp) (hr:aV k' X.A) (hg:Gl X x) (ha:PA X (e::es) t) (hk:k<=k':=by decide) (hdb:(x==("__debug__" : Str))=false:=by decide)
  (he:starEach (e::es) X.env=(false,eval e X.env)::starEach es X.env:=by rfl) (hpl:(backTo pos (starEach es X.env)).any (·.1)=false:=by rfl):PE X (.Call (.Name x p) (e::es) [] pos) (qx sp [] E0 t):=by
 obtain⟨f,fd,F,hm,kp,b⟩:=c.ex;exact Lk F (hr.mono hk) hg hm kp b .nil uA ha hdb he hpl
end
theorem Fs {X:Cx} (T:String):cV X (.builtin "isinstance") (λxs H Q=>∃x t b,xs = [x,.ty T]/\dG X.K H x t/\W.kitOne X.K t (.type T)=some b/\Q (.bl b) H):=by
 intro pins s σ H xs us Q I r h;obtain⟨x,t,b,rfl,ty,e,q⟩:=h;obtain⟨u,v,rfl,ru,rv⟩:=Vals.two r;cases rv;exact IW I ru ty e λtk=>⟨.bl b,H,I.tok _,rfl,q⟩
theorem n_:bootBuiltins "bool" = some (.type "bool"):=by decide +kernel
theorem xg:bootBuiltins "str" = some (.type "str"):=by decide +kernel
theorem sg:bootBuiltins "int" = some (.type "int"):=by decide +kernel
theorem lz:bootBuiltins "list" = some (.type "list"):=by decide +kernel
theorem d6:bootBuiltins "tuple" = some (.type "tuple"):=by decide +kernel
section
variable {X:Cx} {K:W.Frag}
theorem fM(h:X.K=K):jx X (Ba K):=h▸Jc
theorem bH(h:X.K=K):jx X (Bb K):=h▸Jd
theorem K0(h:X.K=K):bj X (compareOp .In) (pP K false):=h▸K3
theorem Ad(h:X.K=K):bj X (compareOp .NotIn) (pP K true):=h▸K6
noncomputable def mJ(K:W.Frag):List V->Hp->VK->Prop:=λxs H Q=>∃p ys,xs = [.ref p]/\(ak K H p ys\/az K H p ys)/\Q (.int ys.length) H
theorem dH (h:X.K=K):cV X (.builtin "len") (mJ K):=h▸Ft
noncomputable def MF(K:W.Frag):List V->Hp->VK->Prop:=λxs H Q=>∃p ys,xs = [.ref p]/\(ak K H p ys\/az K H p ys)/\∀l,H l=none->Q (.ref l) (upd H l (.lst ys))
theorem Fu (h:X.K=K):cV X (.type "list") (MF K):=h▸Fw
noncomputable def M4(K:W.Frag):List V->Hp->VK->Prop:=λxs H Q=>∃p ys,xs = [.ref p]/\((ak K H p ys/\∀l,H l=none->Q (.ref l) (upd H l (.tup ys)))\/(az K H p ys/\Q (.ref p) H))
theorem fH (h:X.K=K):cV X (.type "tuple") (M4 K):=h▸FH
noncomputable def Mz(K:W.Frag)(T:String):List V->Hp->VK->Prop:=λxs H Q=>∃x t b,xs = [x,.ty T]/\dG K H x t/\W.kitOne K t (.type T)=some b/\Q (.bl b) H
theorem de (T:String) (h:X.K=K):cV X (.builtin "isinstance") (Mz K T):=h▸Fs T
variable {tg:Expr} {l:Expr} {tl:TE} {elts:List Expr} {k:Nat} {tpos pos p apos cpos:Pos} {a b o e:Expr} {es:List Expr} {ta:TA} {te tv to:TE} {f:Str}
theorem iF(h:X.K=K)(hl:PE X l tl):PI X tg l (yw K tl):=h▸L0 hl
theorem jk(h:X.K=K)(hl:PE X l tl):PI X tg l (yx K tl):=h▸L7 hl
theorem As (c1 c2:Bool) (h:X.K=K) (hg:Gl X "zip") (hm:X.mg "zip" = none) (ha:PA X [a,b] ta) (hs:starEach [a,b] X.env = [(false,eval a X.env),(false,eval b X.env)]:=by rfl) (hs2:starEach [b] X.env = [(false,eval b X.env)]:=by rfl) :
  PI X (.Tuple elts k tpos) (.Call (.Name "zip" p) [a,b] [] pos) (yy K c1 c2 ta):=h▸L8 c1 c2 hg hm ha hs hs2
theorem uD (c:Bool) (h:X.K=K) (hg:Gl X "enumerate") (hm:X.mg "enumerate" = none) (ha:PA X [a] ta) (hs:starEach [a] X.env = [(false,eval a X.env)]:=by rfl) :
  PI X (.Tuple elts k tpos) (.Call (.Name "enumerate" p) [a] [] pos) (yv K c ta):=h▸LW c hg hm ha hs
theorem Ak(h:X.K=K)(he:PE X e te)(hb:attributeBase e f X.env (eval e X.env)=eval e X.env):PE X (.Attribute e f pos) (De K te f):=h▸Lw he hb
theorem mE{value:Expr}{pos':Pos}(h:X.K=K)(ha:PE X o te)(hv:PE X value tv)(hs:swapsWith value (some (.Attribute o f pos')) pos.line X.env=pure false):PS X (.Assign [.Attribute o f pos'] value pos) (Br K te tv f):=h▸Mf ha hv hs
variable {name:Str} {T id:String} {r:V->List V->Hp->VK->Prop} {t:TA}
theorem Lj (h:X.K=K) (pa:PlainAttrs T) (slot:Slot T name id) (hty:typeOf (.builtin id)=pure (.type "method_descriptor")) (hm:ny X id r) (ho:PE X o to)
  (hbase:attributeBase o name X.env (eval o X.env)=eval o X.env:=by rfl) (hline:(apos.endLine==cpos.line)=true:=by rfl):PE X (.Call (.Attribute o name apos) [] [] cpos) (CZ K T r to):=h▸Li pa slot hty hm ho hbase hline
theorem iC (h:X.K=K) (pa:PlainAttrs T) (slot:Slot T name id) (hty:typeOf (.builtin id)=pure (.type "method_descriptor")) (hm:ny X id r) (ho:PE X o to) (ha:PA X (e::es) t)
  (h1:attributeBase o name X.env (eval o X.env)=eval o X.env:=by rfl)
  (h2:((backTo cpos (starEach (e::es) X.env)).all (λx=>!x.1)&&(backToKw cpos (keywordEach [] X.env)).all (λx=>x.1.isSome)&&decide ((e::es).length+([]:List Keyword).length+(if([]:List Keyword).isEmpty then 0 else 1)<30))=true:=by rfl)
  (h3:(apos.endLine==cpos.line)=true:=by rfl) (h4:starEach (e::es) X.env=(false,eval e X.env)::starEach es X.env:=by rfl) (h5:(backTo cpos (starEach es X.env)).any (·.1)=false:=by rfl) :
  PE X (.Call (.Attribute o name apos) (e::es) [] cpos) (CW K T r to t):=h▸Lh pa slot hty hm ho ha h1 h2 h3 h4 h5
theorem mC{x y:Str}{i j:Nat}{p1 p2:Pos}(h:X.K=K)(hc:X.calm=true)(hN:X.N.Nodup)(hi:X.N[i]?=some x)(hj:X.N[j]?=some y)(hx:X.env.scope.names.lookup x=some .local)(hy:X.env.scope.names.lookup y=some .local):PG X (.Tuple [.Name x p1,.Name y p2] k tpos) (jX K 2 (gu (aU i) (gu (aU j) lT))):=
 h▸Ap hc (pL (bh hN hi (Or.inl hx) (Or.inr hx)) (pL (bh hN hj (Or.inl hy) (Or.inr hy)) Aq))
end
noncomputable def Its(c:Bool)(K:W.Frag)(a:Addr):It:=match c with
 |true=>g6 K a
 |false=>iM K a
noncomputable def Ip(K:W.Frag)(c:Bool)(tl:TE):TI:=λσ H R=>tl σ H λx H1=>∃a,x = .ref a/\(∃xs,Sq c K H1 a xs)/\R (Its c K a) H1
noncomputable def mI(K:W.Frag)(c:Bool):R2:=λx y H Q=>∃p xs i v,x = .ref p/\y = .int i/\Sq c K H p xs/\f9 xs i=some v/\Q v H
section
variable {X:Cx} {K:W.Frag} {tg l:Expr} {tl:TE}
theorem L5(c:Bool)(h:X.K=K)(hl:PE X l tl):PI X tg l (Ip K c tl):=by
 cases c with
 |true=>exact iF h hl
 |false=>exact jk h hl
theorem tV(c:Bool)(h:X.K=K):jx X (mI K c):=by
 cases c with
 |true=>exact fM h
 |false=>exact bH h
theorem N6{c:Bool}{a:Addr}{xs:List V}{ρ:St}{H1:Hp}(h:Sq c K H1 a xs):eM (Its c K a) (aU 0) (none::ρ) H1 xs.length (λi=>some (xs.getD i .non)::ρ):=by
 cases c with
 |true=>exact src_list h
 |false=>exact mQ h
end
section
variable {K:W.Frag} {g:TG} {tb:TS} {D:Ends} {σ:St} {H:Hp}
theorem xP{c:Bool}{l:Addr}{xs:List V}(Pv:Nat->St->Hp->Prop)(h0:Pv 0 σ H)(hl:∀i σ H,Pv i σ H->Sq c K H l xs)
  (hs:∀i x σ H T,xs[i]?=some x->H T=none->Pv i σ H->g (.ref T) σ (upd H T (.tup [.int i,x])) λσ2 H2=>tb {D with nx:=Pv (i+1),ct:=Pv (i+1),bk:=D.nx} σ2 H2) (hd:∀σ H,Pv xs.length σ H->D.nx σ H) :
  ∃W:Nat->Nat->St->Hp->Prop,(∃m,W 0 m σ H)/\∀i m σ H,W i m σ H ->
   ((Ite K c l).stop i H/\D.nx σ H)\/((Ite K c l).go i H/\∃N:St->Hp->Prop,(∀σ' H',N σ' H'->∃m',m'<m/\W (i+1) m' σ' H')/\∀x H',(Ite K c l).gW i H x H'->g x σ H' λσ2 H2=>tb {D with nx:=N,ct:=N,bk:=D.nx} σ2 H2):=by
 refine⟨λi m σ H=>m=xs.length - i/\i<=xs.length/\Pv i σ H,⟨xs.length,by simp,bE _,h0⟩,?_⟩;rintro i m σ H ⟨rfl,hi,p⟩;have q:=hl i σ H p
 by_cases hlt:i<xs.length
 ·refine .inr ⟨⟨xs,xs[i],q,by simp[hlt]⟩,Pv (i+1),λσ' H' p'=>⟨xs.length - (i+1),by omega,rfl,hlt,p'⟩,λx H' y=>?_⟩
  obtain⟨T,x,rfl,hT,rfl,hx⟩:=y;exact hs i x σ H T (hx xs q) hT p
 ·have e:i=xs.length:=by omega
  subst e;exact .inl ⟨⟨xs,q,rfl⟩,hd σ H p⟩
end
theorem gP{e:Expr}{es:List Expr}{env:Env}(h:∀v p,e≠.Starred v p):starEach (e::es) env=(false,eval e env)::starEach es env:=by
 cases e<;>first|rfl|exact absurd rfl (h _ _)
noncomputable def intOf:Expr->Option Int
 |.Constant (.int i) _ _=>some i
 |_=>none
noncomputable def intsOf:List Expr->Option (List Int)
 | []=>some []
 |e::r=>(intOf e).bind λi=>(intsOf r).map (i::·)
theorem Iw{e:Expr}{i:Int}(h:intOf e=some i):∃k p,e = .Constant (.int i) k p:=by
 cases e with
 |Constant c k p =>
  cases c with
  |int j=>cases h;exact⟨k,p,rfl⟩
  |_=>cases h
 |_=>cases h
theorem La{X:Cx}:∀{es:List Expr} (is:List Int),intsOf es=some is->PA X es (λ_ H Q=>Q (is.map V.int) H):=by
 intro es
 induction es with
 |nil =>
  intro is h;cases h;exact ai
 |cons e r ih =>
  intro is h;have h':(intOf e).bind (λi=>(intsOf r).map (i::·))=some is:=h;cases q1:intOf e with
  |none=>rw[q1]at h';cases h'
  |some i =>
   obtain⟨k,p,rfl⟩:=Iw q1;rw[q1]at h';cases q:intsOf r with
   |none=>rw[Option.bind_some,q]at h';cases h'
   |some js =>
    rw[Option.bind_some,q]at h';cases h';exact ag aL (ih js q)
theorem M5(bs:List Bool):((List.range bs.length).all λi=>(bs[i]?).getD true)=bs.all id:=by
 rw[dR,cn,cn]
 constructor
 ·intro h b hb
  obtain⟨i,hi,e⟩:=jA hb;have:=h i (by simpa using hi);rw[aq hi,e]at this;exact this
 ·intro h i hi
  have hi':i<bs.length:=by simpa using hi
  rw[aq hi'];exact h _ (jz hi')
noncomputable def Az(K:W.Frag):List V->Hp->VK->Prop:=λxs H Q=>∃(p:Addr) (bs:List Bool),xs = [.ref p]/\ak K H p (bs.map V.bl)/\Q (.bl (bs.all id)) H
theorem Fi{bs:List Bool}{its:List Value}(rv:Vals (bs.map V.bl) its){i:Nat}{v:Value}(h:its[i]?=some v):∃b,bs[i]?=some b/\v = .bool b:=by
 have hi:i<its.length:=(bF.mp h).1;have hlen:its.length=bs.length:=by rw[<- rv.length,aD]
 obtain⟨w',h1,h2⟩:=rv.get (i:=i) (x:=.bl (bs[i]'(by omega))) (by simp[show i<bs.length by omega]);rw[h]at h1;cases h1;exact⟨_,aq (by omega),h2⟩
theorem Fp {X:Cx} (hc:X.calm=true):cV X (.builtin "all") (Az X.K):=by
 intro pins s σ H xs us Q I r h;obtain⟨p,bs,rfl,hq,q⟩:=h;obtain⟨u,rfl,ru⟩:=Vals.one r;cases ru;obtain⟨its,rv,pl,hz⟩:=I.list hq;have hlen:its.length=bs.length:=by rw[<- rv.length,aD]
 have hp:p<s.heap.objs.size:=by obtain⟨o,_,e,_⟩:=pl;exact aG e
 refine call_all_walk (rQ pl.isList ?_);have hh:X.A.in1.handled=none:=I.ok.hd hc;refine⟨s.heap.objs.size,_,_,_,_,_,λi=>(bs[i]?).getD true,rfl,Walks.list hh s.heap.objs.size p (aP hp) its.toArray,⟨⟨_,aQ _ rfl,rfl,rfl⟩,pl.isList.at λo e=>au _ e⟩,λi v s' Q' E' hP hQ=>?_,λh' tk hk=>?_⟩
 ·obtain⟨b,e,rfl⟩:=Fi rv (by simpa using hP)
  simp only[e,Option.getD_some]at hQ;exact fE hQ
 ·have e:((List.range its.toArray.size).all λi=>(bs[i]?).getD true)=bs.all id:=by
   rw[a_,hlen];exact M5 bs
  rw[e];have I2:Inv X pins σ H {s with heap:=h',toks:=tk}:=by
   refine I.kept λb o e=>hk b o ?_ (au _ e);simp only[a9,eI,eS];exact aP (aG e)
  exact⟨.bl (bs.all id),H,I2,rfl,q⟩
theorem Fq {X:Cx} {K:W.Frag} (h:X.K=K) (hc:X.calm=true):cV X (.builtin "all") (Az K):=h▸Fp hc
inductive cF (K:W.Frag) (H:Hp):Nat->V->V->Bool->Prop
 |int (n:Nat) (i j:Int):cF K H n (.int i) (.int j) (i==j)
 |bl (n:Nat) (i j:Bool):cF K H n (.bl i) (.bl j) (i==j)
 |same (n:Nat) (a:Addr):cF K H n (.ref a) (.ref a) true
 |tup (n:Nat) (a b:Addr) (xs ys:List V) (e:Nat->Bool):az K H a xs->az K H b ys->xs.length=ys.length->(∀(j:Nat) x y,xs[j]?=some x->ys[j]?=some y->cF K H n x y (e j))->cF K H (n+1) (.ref a) (.ref b) ((List.range xs.length).all e)
 |lst (n:Nat) (a b:Addr) (xs ys:List V) (e:Nat->Bool):ak K H a xs->ak K H b ys->xs.length=ys.length->(∀(j:Nat) x y,xs[j]?=some x->ys[j]?=some y->cF K H n x y (e j))->cF K H (n+1) (.ref a) (.ref b) ((List.range xs.length).all e)
 |lens (n:Nat) (a b:Addr) (xs ys:List V):ak K H a xs->ak K H b ys->xs.length≠ys.length->cF K H (n+1) (.ref a) (.ref b) false
section
variable {X:Cx} {pins:List (Addr × Obj)} {σ:St} {H:Hp} {s:Shared}
theorem Inv.zi(I:Inv X pins σ H s){a:Addr}{xs ys:List V}(h:ak X.K H a xs)(h':ak X.K H a ys):∃its,Vals xs its/\Vals ys its:=by
 obtain⟨its,r,⟨o,n,e,d1,d2,d3⟩,_⟩:=I.list h;obtain⟨its',r',⟨o',n',e',f1,f2,f3⟩,_⟩:=I.list h';rw[e]at e';cases e';rw[d3]at f3;injection f3 with q1 q2
 have:its=its':=by simpa using q1
 subst this;exact⟨its,r,r'⟩
theorem cF.u3(I:Inv X pins σ H s){n:Nat}{x y:V}{b:Bool}(h:cF X.K H n x y b):∀{v:Value},RelV x v->RelV y v->b=true:=by
 induction h with
 |int n i j =>
  rintro v ⟨t,rfl⟩ ⟨u,e⟩;cases e;simp
 |bl n i j =>
  intro v h1 h2;cases h1;cases h2;simp
 |same n a=>intros;rfl
 |tup n a b xs ys e h1 h2 hl hi ih =>
  intro v r1 r2;cases r1;cases r2;have:=I.vw h1 h2;subst this;obtain⟨its,r,_,_⟩:=I.tuple h1;rw[cn];intro j hj;have hj':j<xs.length:=by simpa using hj
  obtain⟨w',_,q⟩:=r.get (aq hj');exact ih j _ _ (aq hj') (aq hj') q q
 |lst n a b xs ys e h1 h2 hl hi ih =>
  intro v r1 r2;cases r1;cases r2;obtain⟨its,r,r'⟩:=I.zi h1 h2;rw[cn];intro j hj;have hj':j<xs.length:=by simpa using hj
  obtain⟨w',z1,q⟩:=r.get (aq hj');obtain⟨w'',z2,q'⟩:=r'.get (aq (show j<ys.length by omega));rw[z1]at z2;cases z2;exact ih j _ _ (aq hj') (aq _) q q'
 |lens n a b xs ys h1 h2 hl =>
  intro v r1 r2;cases r1;cases r2;obtain⟨its,r,r'⟩:=I.zi h1 h2;exact absurd (r.length.trans r'.length.symm) hl
theorem cF.at(I:Inv X pins σ H s){n:Nat}{x y:V}{b:Bool}(h:cF X.K H n x y b):∀{A:Around} {v u:Value},A.units+n<cLine->RelV x v->RelV y u->SeqAt.EqAt A s v u b:=by
 induction h with
 |int n i j =>
  rintro A v u hu ⟨t,rfl⟩ ⟨t',rfl⟩;exact rH i t j t'
 |bl n i j =>
  intro A v u hu h1 h2;cases h1;cases h2;exact wB i j
 |same n a =>
  intro A v u hu h1 h2;cases h1;cases h2;exact nL _
 |tup n a b xs ys e h1 h2 hl hi ih =>
  intro A v u hu r1 r2
  by_cases hab:v=u
  ·have:=cF.u3 I (.tup n a b xs ys e h1 h2 hl hi) r1 (hab▸r2)
   rw[this,hab];exact nL _
  ·cases r1
   cases r2;obtain⟨its,r,t1,_⟩:=I.tuple h1;obtain⟨its2,r',t2,_⟩:=I.tuple h2;refine rJ (λz=>hab (by rw[z])) ?_;have hh:=SeqAt.RcAt.tuples (A:=A) (s:=s) (e:=e) t1 t2 (by omega) λj g1 g2=>?_
   ·have el:its.toArray.size=its2.toArray.size:=by simp;rw[<- r.length,<- r'.length];exact hl
    have e2:((List.range (min its.toArray.size its2.toArray.size)).all e&&its.toArray.size==its2.toArray.size)=(List.range xs.length).all e:=by
     rw[<- el,Nat.min_self,beq_self_eq_true,Bool.and_true]
     congr 2
     simp[<- r.length]
    rw[e2]at hh;exact hh
   ·have j1:j<xs.length:=by rw[r.length];simpa using g1
    have j2:j<ys.length:=by omega
    obtain⟨w',z1,q⟩:=r.get (aq j1);obtain⟨w'',z2,q'⟩:=r'.get (aq j2);have e1:its.toArray[j]=w':=by have:=(bF.mp z1).2;simpa using this
    have e2:its2.toArray[j]=w'':=by have:=(bF.mp z2).2;simpa using this
    rw[e1,e2];exact ih j _ _ (aq j1) (aq j2) (by show A.units+1+n<cLine;omega) q q'
 |lst n a b xs ys e h1 h2 hl hi ih =>
  intro A v u hu r1 r2
  by_cases hab:v=u
  ·have:=cF.u3 I (.lst n a b xs ys e h1 h2 hl hi) r1 (hab▸r2)
   rw[this,hab];exact nL _
  ·cases r1
   cases r2;obtain⟨its,r,t1,_⟩:=I.list h1;obtain⟨its2,r',t2,_⟩:=I.list h2;refine rJ (λz=>hab (by rw[z])) ?_;have el:its.toArray.size=its2.toArray.size:=by simp;rw[<- r.length,<- r'.length];exact hl
   have hh:=SeqAt.RcAt.lists (A:=A) (s:=s) (e:=e) t1.isList t2.isList el (by omega) λj g1 g2=>?_
   ·have e2:(List.range its.toArray.size).all e=(List.range xs.length).all e:=by
     congr 2
     simp[<- r.length]
    rw[e2]at hh;exact hh
   ·have j1:j<xs.length:=by rw[r.length];simpa using g1
    have j2:j<ys.length:=by omega
    obtain⟨w',z1,q⟩:=r.get (aq j1);obtain⟨w'',z2,q'⟩:=r'.get (aq j2);have e1:its.toArray[j]=w':=by have:=(bF.mp z1).2;simpa using this
    have e2:its2.toArray[j]=w'':=by have:=(bF.mp z2).2;simpa using this
    rw[e1,e2];exact ih j _ _ (aq j1) (aq j2) (by show A.units+1+n<cLine;omega) q q'
 |lens n a b xs ys h1 h2 hl =>
  intro A v u hu r1 r2
  by_cases hab:v=u
  ·have:=cF.u3 I (.lens n a b xs ys h1 h2 hl) r1 (hab▸r2)
   cases this
  ·cases r1
   cases r2;obtain⟨its,r,t1,_⟩:=I.list h1;obtain⟨its2,r',t2,_⟩:=I.list h2;refine rJ (λz=>hab (by rw[z])) (SeqAt.RcAt.lists_lengths t1.isList t2.isList ?_ (by omega));have:its.length≠its2.length:=by rw[<- r.length,<- r'.length];exact hl
   simpa using this
end
noncomputable def DS(K:W.Frag)(H:Hp)(n:Nat)(xs ys:List V)(e:Nat->Bool):Prop:=xs.length=ys.length/\∀(j:Nat) x y,xs[j]?=some x->ys[j]?=some y->cF K H n x y (e j)
noncomputable def A_(K:W.Frag)(c ne:Bool)(n:Nat):R2:=λx y H Q=>∃a b xs ys e,x = .ref a/\y = .ref b/\Sq c K H a xs/\Sq c K H b ys/\DS K H n xs ys e/\Q (.bl (ne != (List.range xs.length).all e)) H
theorem K5{X:Cx}{K:W.Frag}(c:Bool)(n:Nat)(h:X.K=K)(hu:X.A.units+1+n<cLine):bj X (compareOp .NotEq) (A_ K c true n):=by
 subst h;intro pins s σ H x y v u Q I rx ry h;obtain⟨a,b,xs,ys,e,rfl,rfl,ha,hb,⟨hl,hi⟩,q⟩:=h;cases rx;cases ry;cases c with
 |true =>
  obtain⟨its,r,t1,_⟩:=I.list ha;obtain⟨its2,r',t2,_⟩:=I.list hb;have el:its.toArray.size=its2.toArray.size:=by simp;rw[<- r.length,<- r'.length];exact hl
  have hh:=SeqAt.RcNeAt.lists (A:=X.A) (s:=s) (e:=e) t1.isList t2.isList el (by omega) λj g1 g2=>?_
  ·have e2:(List.range its.toArray.size).all e=(List.range xs.length).all e:=by
    congr 2
    simp[<- r.length]
   rw[e2]at hh;exact hh _ _ _ _ ⟨.bl (!(List.range xs.length).all e),H,I,rfl,by simpa using q⟩
  ·have j1:j<xs.length:=by rw[r.length];simpa using g1
   have j2:j<ys.length:=by omega
   obtain⟨w',z1,q⟩:=r.get (aq j1);obtain⟨w'',z2,q'⟩:=r'.get (aq j2);have e1:its.toArray[j]=w':=by have:=(bF.mp z1).2;simpa using this
   have e2:its2.toArray[j]=w'':=by have:=(bF.mp z2).2;simpa using this
   rw[e1,e2];exact cF.at I (hi j _ _ (aq j1) (aq j2)) (by show X.A.units+1+n<cLine;omega) q q'
 |false =>
  obtain⟨its,r,t1,_⟩:=I.tuple ha;obtain⟨its2,r',t2,_⟩:=I.tuple hb;have el:its.toArray.size=its2.toArray.size:=by simp;rw[<- r.length,<- r'.length];exact hl
  have hh:=SeqAt.RcNeAt.tuples (A:=X.A) (s:=s) (e:=e) t1 t2 (by omega) λj g1 g2=>?_
  ·have e2:((List.range (min its.toArray.size its2.toArray.size)).all e&&its.toArray.size==its2.toArray.size)=(List.range xs.length).all e:=by
    rw[<- el,Nat.min_self,beq_self_eq_true,Bool.and_true]
    congr 2
    simp[<- r.length]
   rw[e2]at hh;exact hh _ _ _ _ ⟨.bl (!(List.range xs.length).all e),H,I,rfl,by simpa using q⟩
  ·have j1:j<xs.length:=by rw[r.length];simpa using g1
   have j2:j<ys.length:=by omega
   obtain⟨w',z1,q⟩:=r.get (aq j1);obtain⟨w'',z2,q'⟩:=r'.get (aq j2);have e1:its.toArray[j]=w':=by have:=(bF.mp z1).2;simpa using this
   have e2:its2.toArray[j]=w'':=by have:=(bF.mp z2).2;simpa using this
   rw[e1,e2];exact cF.at I (hi j _ _ (aq j1) (aq j2)) (by show X.A.units+1+n<cLine;omega) q q'
section
variable {prog:Program} {w:World} {A:Around} {E:Value->Shared->Prop}
variable {s:Shared}
end
end L2
namespace Ev
noncomputable def Sub(x y:Nat):Prop:=x&&& y=x
instance (x y:Nat):Decidable (Sub x y):=inferInstanceAs (Decidable (_=_))
structure DW (M:List Nat):Prop where
 nd:M.Nodup
 len:M.length<=24
 meet:∀x∈M,∀y∈M,x&&& y∈M
 top:∃t∈M,∀x∈M,Sub x t
theorem getD_mem{M:List Nat}{i:Nat}(h:i<M.length):M.getD i 0∈M:=by
 rw[aO,aq h];exact jz h
structure kM (n:Nat) (ps:List (Nat × Nat)) (R:Nat->Nat->Bool):Prop where
 refl:∀a,a<n->R a a=true
 has:∀p∈ps,R p.1 p.2=true
 trans:∀a b c,a<n->b<n->c<n->R a b=true->R b c=true->R a c=true
 least:∀T:Nat->Nat->Bool,(∀a,a<n->T a a=true)->(∀p∈ps,T p.1 p.2=true)->(∀a b c,a<n->b<n->c<n->T a b=true->T b c=true->T a c=true) ->
  ∀a b,a<n->b<n->R a b=true->T a b=true
structure f7 (n:Nat) (ps:List (Nat × Nat)) (m:Nat) (R:Nat->Nat->Bool):Prop where
 refl:∀a,a<n->R a a=true
 has:∀p∈ps,R p.1 p.2=true
 tr:∀k,k<m->∀a b,a<n->b<n->R a k=true->R k b=true->R a b=true
 least:∀T:Nat->Nat->Bool,(∀a,a<n->T a a=true)->(∀p∈ps,T p.1 p.2=true)->(∀a b c,a<n->b<n->c<n->T a b=true->T b c=true->T a c=true) ->
  ∀a b,a<n->b<n->R a b=true->T a b=true
noncomputable def gU(R:Nat->Nat->Bool)(m:Nat):Nat->Nat->Bool:=λa b=>R a b||(R a m&&R m b)
theorem qE{R:Nat->Nat->Bool}{m a b:Nat}:gU R m a b=true ↔ R a b=true\/(R a m=true/\R m b=true):=by simp[gU]
theorem f7.step{n m:Nat}{ps:List (Nat × Nat)}{R:Nat->Nat->Bool}(W:f7 n ps m R)(hm:m<n):f7 n ps (m+1) (gU R m) where
 refl:=λa ha=>qE.mpr (.inl (W.refl a ha))
 has:=λp hp=>qE.mpr (.inl (W.has p hp))
 tr:=λk hk a b ha hb h1 h2=>by
  rw[qE]at *
  by_cases e:k=m
  ·subst e
   have h1':R a k=true:=h1.elim id (·.1);have h2':R k b=true:=h2.elim id (·.2);exact .inr ⟨h1',h2'⟩
  ·have hk':k<m:=by omega
   rcases h1 with h1|⟨h1,h1'⟩
   ·rcases h2 with h2|⟨h2,h2'⟩
    ·exact .inl (W.tr k hk' a b ha hb h1 h2)
    ·exact .inr ⟨W.tr k hk' a m ha hm h1 h2,h2'⟩
   ·rcases h2 with h2|⟨h2,h2'⟩
    ·exact .inr ⟨h1,W.tr k hk' m b hm hb h1' h2⟩
    ·exact .inr ⟨h1,h2'⟩
 least:=λT t1 t2 t3 a b ha hb h=>by
  rcases qE.mp h with h|⟨h,h'⟩
  ·exact W.least T t1 t2 t3 a b ha hb h
  ·exact t3 a m b ha hm hb (W.least T t1 t2 t3 a m ha hm h) (W.least T t1 t2 t3 m b hm hb h')
theorem f7.done{n:Nat}{ps:List (Nat × Nat)}{R:Nat->Nat->Bool}(W:f7 n ps n R):kM n ps R:=
 ⟨W.refl,W.has,λa b c ha hb hc h1 h2=>W.tr b hb a c ha hc h1 h2,W.least⟩
noncomputable def base(ps:List (Nat × Nat)):Nat->Nat->Bool:=λa b=>a==b||ps.any λp=>p.1==a&&p.2==b
theorem jP{ps:List (Nat × Nat)}{a b:Nat}:base ps a b=true ↔ a=b\/(a,b)∈ps:=by
 simp only[base,gX,eN,List.any_eq_true,ck]
 constructor
 ·rintro(h|⟨⟨x,y⟩,hp,rfl,rfl⟩)
  ·exact .inl h
  ·exact .inr hp
 ·rintro(h|h)
  ·exact .inl h
  ·exact .inr ⟨(a,b),h,rfl,rfl⟩
theorem f7.start{n:Nat}{ps:List (Nat × Nat)}(hp:∀p∈ps,p.1<n/\p.2<n):f7 n ps 0 (base ps) where
 refl:=λa _=>jP.mpr (.inl rfl)
 has:=λp hp=>jP.mpr (.inr hp)
 tr:=λk hk=>by omega
 least:=λT t1 t2 _ a b ha _ h=>by
  rcases jP.mp h with rfl|h
  ·exact t1 a ha
  ·exact t2 _ h
instance (M:List Nat):Decidable (DW M):=
 decidable_of_iff (M.Nodup/\M.length<=24/\(∀x∈M,∀y∈M,x&&& y∈M)/\∃t∈M,∀x∈M,Sub x t)
  ⟨λ⟨a,b,c,d⟩=>⟨a,b,c,d⟩,λ⟨a,b,c,d⟩=>⟨a,b,c,d⟩⟩
end Ev
namespace My
open PySem PySem.Spec PyProof.Rows L2
noncomputable def top(i:Nat):Stmt:=PySem.Challenge.pw_evenclimb_k62_fields_of_rows.main.body.getD i (.Pass ⟨0,0,0,0⟩)
structure Txt (mg:Str->Option Value):Prop where
 len:mg "len" = none
 range:mg "range" = none
 zip:mg "zip" = none
 enumerate:mg "enumerate" = none
 tuple:mg "tuple" = none
 list:mg "list" = none
 int:mg "int" = none
 bool:mg "bool" = none
 str:mg "str" = none
 isinstance:mg "isinstance" = none
 sum:mg "sum" = none
 any:mg "any" = none
 all:mg "all" = none
 sorted:mg "sorted" = none
 min:mg "min" = none
 max:mg "max" = none
 most:∃t,mg "MOST_THINGS" = some (.int 24 t)
section
variable {P:Program} {w:World} {K:W.Frag} {mg:Str->Option Value} {base:Heap} {f:Addr} {fd:FuncData}
abbrev uQ:Stmt:=top 10
theorem BJ:aY ["value"] ["value"] (aE uQ):=⟨rfl,rfl,rfl,by decide +kernel,rfl,by decide +kernel,by decide +kernel⟩
noncomputable def kA:Sp:=Pu (λvs _=>∃i,vs = [.int i]) λ_ _ v _=>v = .bl true
theorem zV (F:aN K "is_whole" "is_whole" uQ f fd) (T:Txt mg):aI P w K mg base aJ 1 f fd ["value"] kA:=by
 refine F.ok BJ (λvs H Q E h=>?_) (λcdv A outer s H vs Q E hr h=>?_)
 ·obtain⟨⟨i,rfl⟩,_⟩:=h
  rfl
 ·obtain⟨⟨i,rfl⟩,k⟩:=h
  have nd:=BJ.nd;refine⟨_,(aC (a8 (iB (bu (de (K:=K) "int" rfl) rfl T.isinstance dE (ag (pv 0) (ag (dq (v:=.ty "int") rfl T.int sg rfl) ai))) (iE (Am (bu (de (K:=K) "bool" rfl) rfl T.isinstance dE (ag (pv 0) (ag (dq (v:=.ty "bool") rfl T.bool n_ rfl) ai)))))))),?_⟩;refine⟨_,rfl,_,_,_,rfl,.int i,rfl,true,rfl,c7 ?_⟩;exact⟨_,rfl,_,_,_,rfl,.int i,rfl,false,rfl,k _ _ (Same.refl _) rfl⟩
abbrev uP:Stmt:=top 11
theorem BG:aY ["count","number"] ["count","number"] (aE uP):=⟨rfl,rfl,rfl,by decide +kernel,rfl,by decide +kernel,by decide +kernel⟩
noncomputable def qg:Sp:=Pu (λvs _=>∃n i,vs = [.int n,.int i]) λvs _ v _=>∀n i,vs = [.int n,.int i]->v = .bl (decide (0<=i/\i<n))
theorem zU (F:aN K "is_thing" "is_thing" uP f fd) (T:Txt mg) (eP:ax P w K mg base "is_whole" ["value"] 1 kA):aI P w K mg base aJ 2 f fd ["count","number"] qg:=by
 refine F.ok BG (λvs H Q E h=>?_) (λcdv A outer s H vs Q E hr h=>?_)
 ·obtain⟨⟨n,i,rfl⟩,_⟩:=h
  rfl
 ·obtain⟨⟨n,i,rfl⟩,k⟩:=h
  have nd:=BG.nd;refine⟨_,(aC (a8 (iB (aW eP hr rfl (ag (pv 1) ai)) (iE (Lq pE uv aL (pv 1) (pv 0)))))),?_⟩;refine⟨_,rfl,⟨i,rfl⟩,λv H1 s1 hv=>?_⟩;subst hv;refine⟨true,rfl,c7 ?_⟩;refine⟨_,rfl,_,_,rfl,rfl,_,rfl,dm (λh1=>?_) (λh1=>?_)⟩
  ·refine⟨_,rfl,_,_,rfl,rfl,k _ _ s1 ?_⟩
   intro n' i' e;cases e;rw[show decide (0<=i/\i<n)=decide (i<n)from by
    rw[c5]at h1;exact decide_eq_decide.mpr ⟨λh=>h.2,λh=>⟨h1,h⟩⟩]
  ·refine k _ _ s1 ?_
   intro n' i' e;cases e;rw[cZ (λh=>h1 (b9 h.1))]
abbrev u0:Stmt:=top 12
theorem Cd:aY ["count","number"] ["count","number"] (aE u0):=⟨rfl,rfl,rfl,by decide +kernel,rfl,by decide +kernel,by decide +kernel⟩
noncomputable def qm:Sp:=Pu (λvs _=>∃n i:Int,vs = [.int n,.int i]/\0<=i/\i<n) λ_ _ v _=>v = .non
theorem z0 (F:aN K "need_thing" "need_thing" u0 f fd) (T:Txt mg) (lD:ax P w K mg base "is_thing" ["count","number"] 2 qg):aI P w K mg base aJ 3 f fd ["count","number"] qm:=by
 refine F.ok Cd (λvs H Q E h=>?_) (λcdv A outer s H vs Q E hr h=>?_)
 ·obtain⟨⟨n,i,rfl,_⟩,_⟩:=h
  rfl
 ·obtain⟨⟨n,i,rfl,h0,h1⟩,k⟩:=h
  have nd:=Cd.nd;refine⟨_,(aC (cj (gJ (cN (aW lD hr rfl (ag (pv 0) (ag (pv 1) ai))))) (aC mF) cx)),?_⟩;refine⟨_,rfl,_,rfl,⟨n,i,rfl⟩,λv H1 s1 hv=>?_⟩;rw[hv n i rfl,b9 (show 0<=i/\i<n from⟨h0,h1⟩)];exact⟨true,rfl,bf (k _ _ s1 rfl)⟩
abbrev uW:Stmt:=top 13
theorem BZ:aY ["count"] ["count"] (aE uW):=⟨rfl,rfl,rfl,by decide +kernel,rfl,by decide +kernel,by decide +kernel⟩
noncomputable def qi:Sp:=Pu (λvs _=>∃n:Int,vs = [.int n]/\1<=n/\n<=24) λ_ _ v _=>v = .non
theorem zW (F:aN K "need_count" "need_count" uW f fd) (T:Txt mg) (eP:ax P w K mg base "is_whole" ["value"] 1 kA):aI P w K mg base aJ 2 f fd ["count"] qi:=by
 refine F.ok BZ (λvs H Q E h=>?_) (λcdv A outer s H vs Q E hr h=>?_)
 ·obtain⟨⟨n,rfl,_⟩,_⟩:=h
  rfl
 ·obtain⟨⟨n,rfl,h0,h1⟩,k⟩:=h
  have nd:=BZ.nd;obtain⟨Qj,Gh⟩:=T.most;refine⟨_,(aC (cj (PW.pt (mG (gJ (cN (aW eP hr rfl (ag (pv 0) ai)))) (mH (gJ (Ax pE pE aL (pv 0) (uC (v:=.int 24) rfl Gh ⟨_,rfl⟩)))))) (aC mF) cx)),?_⟩;refine⟨_,rfl,⟨n,rfl⟩,λv H1 s1 hv=>?_⟩;subst hv;refine⟨true,rfl,bf ?_⟩;refine⟨_,rfl,_,_,rfl,rfl,_,rfl,?_⟩;rw[if_pos (b9 h0)];refine⟨_,_,rfl,rfl,_,rfl,?_⟩;rw[b9 h1];exact bf (k _ _ s1 rfl)
end
noncomputable def cg(H:Hp)(p:Nat × Nat)(v:V):Prop:=∃t,v = .ref t/\H t=some (.tup [.int p.1,.int p.2])
noncomputable def jF(K:W.Frag)(H:Hp)(a:Addr)(ps:List (Nat × Nat)):Prop:=∃vs,ak K H a vs/\Paired (cg H) ps vs
noncomputable def TT(H:Hp)(v:V)(n:Nat)(g:Nat->Nat->V):Prop:=∃a vs,v = .ref a/\H a=some (.tup vs)/\Paired (λi u=>∃b,u = .ref b/\H b=some (.tup ((List.range n).map (g i)))) (List.range n) vs
theorem cg.same{H H':Hp}(s:Same H H'){p:Nat × Nat}{v:V}(h:cg H p v):cg H' p v:=let⟨t,e,q⟩:=h;⟨t,e,s _ _ q⟩
theorem fh.same{H H':Hp}(s:Same H H'){ps:List (Nat × Nat)}{vs:List V}(h:Paired (cg H) ps vs):Paired (cg H') ps vs:=Paired.bL h λ_ _ q=>q.same s
theorem jF.same{K:W.Frag}{H H':Hp}{a:Addr}{ps:List (Nat × Nat)}(s:Same H H')(h:jF K H a ps):jF K H' a ps:=let⟨vs,e,q⟩:=h;⟨vs,s.seq e,fh.same s q⟩
theorem TT.same{H H':Hp}(s:Same H H'){v:V}{n:Nat}{g:Nat->Nat->V}(h:TT H v n g):TT H' v n g:=
 let⟨a,vs,e,q,r⟩:=h;⟨a,vs,e,s _ _ q,Paired.bL r λ_ _ ⟨b,e,q⟩=>⟨b,e,s _ _ q⟩⟩
theorem ko{α β:Type}{F:α->β->Prop}:∀{l:List α} {m:List β} {i:Nat} {y:β},Paired F l m->m[i]?=some y->∃x,l[i]?=some x/\F x y
 |_,_,_,_,.nil,h=>by simp at h
 |_,_,0,_,.cons r _,h=>by simp at h;subst h;exact⟨_,rfl,r⟩
 |_,_,i+1,y,.cons _ t,h=>by
  obtain⟨x,h1,h2⟩:=ko (i:=i) (y:=y) t (by simpa using h);exact⟨x,by simpa using h1,h2⟩
theorem kr{α β:Type}{F:α->β->Prop}:∀{l:List α} {m:List β} {i:Nat} {x:α},Paired F l m->l[i]?=some x->∃y,m[i]?=some y/\F x y
 |_,_,_,_,.nil,h=>by simp at h
 |_,_,0,_,.cons r _,h=>by simp at h;subst h;exact⟨_,rfl,r⟩
 |_,_,i+1,y,.cons _ t,h=>by
  obtain⟨x,h1,h2⟩:=kr (i:=i) (x:=y) t (by simpa using h);exact⟨x,by simpa using h1,h2⟩
theorem TT.row{H:Hp}{v:V}{n:Nat}{g:Nat->Nat->V}(h:TT H v n g){i:Nat}(hi:i<n):∃a vs b,v = .ref a/\H a=some (.tup vs)/\vs.length=n/\vs[i]?=some (.ref b)/\H b=some (.tup ((List.range n).map (g i))):=by
 obtain⟨a,vs,e,q,r⟩:=h;obtain⟨y,h1,b,rfl,h2⟩:=kr (i:=i) (x:=i) r (by simp[hi]);exact⟨a,vs,b,e,q,by simpa using(bS r).symm,h1,h2⟩
theorem lr{n:Nat}{g:Nat->V}{j:Nat}(hj:j<n):f9 ((List.range n).map g) (j:Int)=some (g j):=e9 (by simp[hj])
theorem cR{n:Nat}(h:n<=24):n<sizeLine:=rj h (by decide)
theorem mO{n:Nat}(h:n<=100000):n<sizeLine:=rj h (by decide)
theorem b0{n:Nat}(h:n<=100000):-(2 ^ 62)<=(n:Int)/\(n:Int)<2 ^ 62:=by omega
theorem xm{t i:Nat}:decide (V.int (t:Int)=V.int (0+(i:Int)))=decide (t=i):=by
 apply decide_eq_decide.mpr
 constructor
 ·intro h;injection h with h;omega
 ·intro h;subst h;simp
section
variable {P:Program} {w:World} {K:W.Frag} {mg:Str->Option Value} {base:Heap} {f:Addr} {fd:FuncData}
abbrev uZ:Stmt:=top 14
theorem Cb:aY ["count","pairs","pair"] ["count","pairs"] (aE uZ):=⟨rfl,rfl,rfl,by decide +kernel,rfl,by decide +kernel,by decide +kernel⟩
noncomputable def ql(K:W.Frag):Sp:=Pu (λvs H=>∃(n a:Nat) (ps:List (Nat × Nat)),vs = [.int n,.ref a]/\jF K H a ps/\∀p∈ps,p.1<n/\p.2<n) λ_ _ v _=>v = .non
theorem zZ (F:aN K "need_pairs" "need_pairs" uZ f fd) (T:Txt mg) (jR:ax P w K mg base "need_thing" ["count","number"] 3 qm):aI P w K mg base aJ 4 f fd ["count","pairs"] (ql K):=by
 refine F.ok Cb (λvs H Q E h=>?_) (λcdv A outer s H vs Q E hr h=>?_)
 ·obtain⟨⟨n,a,ps,rfl,_⟩,_⟩:=h
  rfl
 ·obtain⟨⟨n,a,ps,rfl,⟨vs,hl,hp⟩,hb⟩,k⟩:=h
  have nd:=Cb.nd;refine⟨_,(aC (cD cz rfl (iF (K:=K) rfl (pv 1)) (bh (i:=2) nd rfl (Or.inl rfl))
   (aH (dN (aW jR hr rfl (ag (pv 0) (ag (aX (bH (K:=K) rfl) (pv 2) aL (λ_ _=>rfl)) ai))))
   (aC (dN (aW jR hr rfl (ag (pv 0) (ag (aX (bH (K:=K) rfl) (pv 2) aL (λ_ _=>rfl)) ai)))))))),?_⟩
  refine⟨_,rfl,a,rfl,⟨_,hl⟩,lR (K:=K) (a:=a) (xs:=vs) (λi σ H2=>∃v,σ = [some (.int n),some (.ref a),v]/\Same H H2) ⟨none,rfl,Same.refl _⟩ (λi σ H2 _ ⟨_,_,s2⟩=>s2.seq hl) ?_ ?_⟩
  ·rintro i y σ H2 hi ⟨v,rfl,s2⟩
   obtain⟨p,hp1,t,rfl,ht⟩:=ko hp hi;obtain⟨b1,b2⟩:=hb p (bK hp1);refine⟨_,rfl,_,rfl,t,_,0,_,rfl,rfl,.inl (.inl (s2 _ _ ht)),rfl,⟨n,_,rfl,by omega,by omega⟩,λv3 H3 s3 _=>?_⟩;refine⟨_,rfl,_,rfl,t,_,1,_,rfl,rfl,.inl (.inl ((s2.trans s3) _ _ ht)),rfl,⟨n,_,rfl,by omega,by omega⟩,λv4 H4 s4 _=>?_⟩;exact⟨_,rfl,(s2.trans s3).trans s4⟩
  ·rintro σ H2 ⟨v,rfl,s2⟩
   exact k _ _ s2 rfl
abbrev p6:Stmt:=top 15
theorem Cg:aY ["count","thing"] ["count","thing"] (aE p6):=⟨rfl,rfl,rfl,by decide +kernel,rfl,by decide +kernel,by decide +kernel⟩
noncomputable def aR(n:Nat)(p:Nat->Bool):List V:=(List.range n).map λb=>V.bl (p b)
noncomputable def qo:Sp:=Pu (λvs H=>∃n t:Nat,vs = [.int n,.int t]/\n<=24) λvs H v H'=>∀n t:Nat,vs = [.int n,.int t]->∃a,v = .ref a/\H a=none/\H' a=some (.lst (aR n λb=>decide (t=b)))
theorem z7 (F:aN K "own_row" "own_row" p6 f fd) (T:Txt mg):aI P w K mg base aJ 1 f fd ["count","thing"] qo:=by
 refine F.ok Cg (λvs H Q E h=>?_) (λcdv A outer s H vs Q E hr h=>?_)
 ·obtain⟨⟨n,t,rfl,_⟩,_⟩:=h
  rfl
 ·obtain⟨⟨n,t,rfl,hn⟩,k⟩:=h
  have nd:=Cg.nd;refine⟨_,(aC (a8 (c9 (own:=["other"]) (fr:=[("thing", 1)]) rfl (cJ (aE p6) ["count","thing"] rfl rfl (by decide +kernel)) (dM rfl T.range (ag (pv 0) ai)) (λ_ _ _ _=>⟨(bh (i:=0) (by decide +kernel:(["other","thing"]:List Str).Nodup) rfl (Or.inl rfl)),d_,(jj kj (pv 1) (pv 0) (cL _))⟩)))),?_⟩;refine⟨_,rfl,n,rfl,(b0 (by omega)).1,(b0 (by omega)).2,λD hD=>iq (λi=>.bl (decide (t=i))) src_range hD (cR (by simpa using hn)) (λi H2 Kt hi hs hk=>?_) (λH' hs hl=>?_)⟩
  ·refine⟨_,rfl,_,rfl,rfl,?_⟩
   rw[xm];exact hk _ (Same.refl _)
  ·refine k _ _ hs ?_
   intro n' t' e;cases e;exact⟨D,rfl,hD,by rw[hl];simp[aR]⟩
end
theorem mL(n:Nat)(p:Nat->Bool):(aR n p).length=n:=by simp[aR]
theorem mK{n:Nat}{p:Nat->Bool}{i:Nat}(h:i<n):(aR n p).getD i .non = .bl (p i):=by simp[aR,h]
theorem Nh{n:Nat}{p:Nat->Bool}{j:Nat}:(aR n p).set j (.bl true)=aR n λb=>if b=j then true else p b:=by
 apply hJ
 ·simp[aR]
 ·intro i h1 h2
  simp only[aR,List.getElem_set,nq,vU]
  by_cases e:j=i
  ·simp[e]
  ·have:¬ i=j:=λz=>e z.symm
   simp[e,this]
theorem iG{n:Nat}{p q:Nat->Bool}(h:∀b,b<n->p b=q b):aR n p=aR n q:=by
 unfold aR;apply jB
 intro b hb;rw[h b (by simpa using hb)]
section
variable {P:Program} {w:World} {K:W.Frag} {mg:Str->Option Value} {base:Heap} {f:Addr} {fd:FuncData}
abbrev pV:Stmt:=top 16
theorem Bv:aY ["one","other"] ["one","other"] (aE pV):=⟨rfl,rfl,rfl,by decide +kernel,rfl,by decide +kernel,by decide +kernel⟩
noncomputable def qb:Sp:=Pu (λvs H=>∃(x y n:Nat) (p q:Nat->Bool),vs = [.ref x,.ref y]/\H x=some (.lst (aR n p))/\H y=some (.lst (aR n q))/\n<=24)
 λvs H v H'=>∀(x y n:Nat) (p q:Nat->Bool),vs = [.ref x,.ref y]->H x=some (.lst (aR n p))->H y=some (.lst (aR n q))->∃a,v = .ref a/\H a=none/\H' a=some (.lst (aR n λb=>p b||q b))
theorem pQ{n m:Nat}{p q:Nat->Bool}(h:aR n p=aR m q):n=m/\∀b,b<n->p b=q b:=by
 have e:n=m:=by have:=congrArg List.length h;rwa [mL,mL]at this
 subst e;refine⟨rfl,λb hb=>?_⟩;have:=congrArg (λl=>l.getD b V.non) h;simp only[mK hb]at this;injection this
theorem zQ (F:aN K "either" "either" pV f fd) (T:Txt mg):aI P w K mg base aJ 1 f fd ["one","other"] qb:=by
 refine F.ok Bv (λvs H Q E h=>?_) (λcdv A outer s H vs Q E hr h=>?_)
 ·obtain⟨⟨x,y,n,p,q,rfl,_⟩,_⟩:=h
  rfl
 ·obtain⟨⟨x,y,n,p,q,rfl,hx,hy,hn⟩,k⟩:=h
  have nd:=Bv.nd;refine⟨_,(aC (a8 (c9 (own:=["a","b"]) (fr:=[]) rfl (cJ (aE pV) ["one","other"] rfl rfl (by decide +kernel)) (As (K:=K) true true rfl rfl T.zip (ag (pv 0) (ag (pv 1) ai))) (λ_ _ _ _=>⟨(mC (K:=K) (i:=0) (j:=1) rfl rfl (by decide +kernel:(["a","b"]:List Str).Nodup) rfl rfl rfl rfl),d_,(Lz (pv 0) (iE (pv 1)))⟩)))),?_⟩;refine⟨_,rfl,_,rfl,x,y,_,_,rfl,ak.of hx,ak.of hy,λD hD=>iq (λi=>.bl (p i||q i)) (CJ (c1:=true) (c2:=true) (ak.of hx) (ak.of hy) (n:=n) (by simp[mL])) hD (cR hn) (λi H2 Kt hi hs hk=>?_) (λH' hs hl=>?_)⟩
  ·refine⟨_,rfl,p i,mK hi,dm (λh=>?_) (λh=>?_)⟩
   ·have:=hk _ (Same.refl _)
    simpa[h]using this
   ·refine⟨_,rfl,?_⟩
    have:=hk _ (Same.refl _);rw[mK hi];simpa[h]using this
  ·refine k _ _ hs ?_
   intro x' y' n' p' q' e h1 h2;cases e;rw[hx]at h1;rw[hy]at h2;injection h1 with h1
   injection h1 with h1
   injection h2 with h2
   injection h2 with h2
   obtain⟨rfl,e1⟩:=pQ h1;obtain⟨_,e2⟩:=pQ h2;refine⟨D,rfl,hD,?_⟩;rw[hl];show some (HO.lst (aR n λi=>p i||q i))=_;rw[iG λb hb=>by rw[e1 b hb,e2 b hb]]
abbrev p8:Stmt:=top 17
theorem Ck:aY ["one","other"] ["one","other"] (aE p8):=⟨rfl,rfl,rfl,by decide +kernel,rfl,by decide +kernel,by decide +kernel⟩
noncomputable def qt:Sp:=Pu (λvs H=>∃(x y n:Nat) (p q:Nat->Bool),vs = [.ref x,.ref y]/\H x=some (.tup (aR n p))/\H y=some (.tup (aR n q))/\n<=24)
 λvs H v H'=>∀(x y n:Nat) (p q:Nat->Bool),vs = [.ref x,.ref y]->H x=some (.tup (aR n p))->H y=some (.tup (aR n q))->∃a,v = .ref a/\H a=none/\H' a=some (.tup (aR n λb=>p b&&q b))
theorem Aa (F:aN K "shared" "shared" p8 f fd) (T:Txt mg):aI P w K mg base aJ 1 f fd ["one","other"] qt:=by
 refine F.ok Ck (λvs H Q E h=>?_) (λcdv A outer s H vs Q E hr h=>?_)
 ·obtain⟨⟨x,y,n,p,q,rfl,_⟩,_⟩:=h
  rfl
 ·obtain⟨⟨x,y,n,p,q,rfl,hx,hy,hn⟩,k⟩:=h
  have nd:=Ck.nd;refine⟨_,(aC (a8 (d9 (fH (K:=K) rfl) rfl T.tuple d6 (ag (c9 (own:=["a","b"]) (fr:=[]) rfl (cJ (aE p8) ["one","other"] rfl rfl (by decide +kernel)) (As (K:=K) false false rfl rfl T.zip (ag (pv 0) (ag (pv 1) ai))) (λ_ _ _ _=>⟨(mC (K:=K) (i:=0) (j:=1) rfl rfl (by decide +kernel:(["a","b"]:List Str).Nodup) rfl rfl rfl rfl),d_,(iB (pv 0) (iE (pv 1)))⟩)) ai)))),?_⟩;refine⟨_,rfl,_,rfl,x,y,_,_,rfl,az.of hx,az.of hy,λD hD=>iq (λi=>.bl (p i&&q i)) (CJ (c1:=false) (c2:=false) (az.of hx) (az.of hy) (n:=n) (by simp[mL])) hD (cR hn) (λi H2 Kt hi hs hk=>?_) (λH' hs hl=>?_)⟩
  ·refine⟨_,rfl,p i,mK hi,dm (λh=>?_) (λh=>?_)⟩
   ·refine⟨_,rfl,?_⟩
    have:=hk _ (Same.refl _);rw[mK hi];simpa[h]using this
   ·have:=hk _ (Same.refl _)
    simpa[h]using this
  ·refine⟨D,_,rfl,.inl ⟨ak.of hl,λl hl'=>?_⟩⟩
   have hlH:H l=none:=hs.free hl';refine k _ _ (hs.trans (Same.put hl')) ?_;intro x' y' n' p' q' e h1 h2;cases e;rw[hx]at h1;rw[hy]at h2;injection h1 with h1
   injection h1 with h1
   injection h2 with h2
   injection h2 with h2
   obtain⟨rfl,e1⟩:=pQ h1;obtain⟨_,e2⟩:=pQ h2;refine⟨l,rfl,hlH,?_⟩;rw[av];show some (HO.tup (aR n λi=>p i&&q i))=_;rw[iG λb hb=>by rw[e1 b hb,e2 b hb]]
abbrev pU:Stmt:=top 18
theorem Bu:aY ["rows","place"] ["rows","place"] (aE pU):=⟨rfl,rfl,rfl,by decide +kernel,rfl,by decide +kernel,by decide +kernel⟩
noncomputable def qa:Sp:=Pu (λvs H=>∃(v:V) (n j:Nat) (g:Nat->Nat->V),vs = [v,.int j]/\TT H v n g/\j<n/\n<=24)
 λvs H v H'=>∀(u:V) (n j:Nat) (g:Nat->Nat->V),vs = [u,.int j]->TT H u n g->j<n->∃a,v = .ref a/\H a=none/\H' a=some (.tup ((List.range n).map λi=>g i j))
theorem TT.inj{H:Hp}{v:V}{n m:Nat}{g g':Nat->Nat->V}(h:TT H v n g)(h':TT H v m g'):n=m/\∀i j,i<n->j<n->g i j=g' i j:=by
 obtain⟨a,vs,e,q,r⟩:=id h;obtain⟨a',vs',e',q',r'⟩:=id h';rw[e]at e';injection e' with e'
 subst e';rw[q]at q';injection q' with q'
 injection q' with q'
 subst q';have en:n=m:=by
  have h1:=bS r;have h2:=bS r';simp at h1 h2;omega
 subst en;refine⟨rfl,λi j hi hj=>?_⟩;obtain⟨y,h1,b,rfl,h2⟩:=kr (i:=i) (x:=i) r (by simp[hi]);obtain⟨y',h1',b',rfl,h2'⟩:=kr (i:=i) (x:=i) r' (by simp[hi]);rw[h1]at h1';injection h1' with h1'
 injection h1' with h1'
 subst h1';rw[h2]at h2';injection h2' with h2'
 injection h2' with h2'
 have:=congrArg (λl=>l.getD j V.non) h2';simpa[hj]using this
theorem zP (F:aN K "column" "column" pU f fd) (T:Txt mg):aI P w K mg base aJ 1 f fd ["rows","place"] qa:=by
 refine F.ok Bu (λvs H Q E h=>?_) (λcdv A outer s H vs Q E hr h=>?_)
 ·obtain⟨⟨v,n,j,g,rfl,_⟩,_⟩:=h
  rfl
 ·obtain⟨⟨v,n,j,g,rfl,ht,hj,hn⟩,k⟩:=h
  have nd:=Bu.nd;obtain⟨a,us,rfl,hq,hr'⟩:=id ht;have hlen:us.length=n:=by simpa using(bS hr').symm
  refine⟨_,(aC (a8 (d9 (fH (K:=K) rfl) rfl T.tuple d6 (ag (c9 (own:=["row"]) (fr:=[("place", 1)]) rfl (cJ (aE pU) ["rows","place"] rfl rfl (by decide +kernel)) (jk (K:=K) rfl (pv 0)) (λ_ _ _ _=>⟨(bh (i:=0) (by decide +kernel:(["row","place"]:List Str).Nodup) rfl (Or.inl rfl)),d_,(aX (bH (K:=K) rfl) (pv 0) (pv 1) (λ_ _=>rfl))⟩)) ai)))),?_⟩;refine⟨_,rfl,a,rfl,⟨_,az.of hq⟩,λD hD=>iq (λi=>g i j) (mQ (az.of hq)) hD (cR (by omega)) (λi H2 Kt hi hs hk=>?_) (λH' hs hl=>?_)⟩
  ·obtain⟨y,h1,b,rfl,h2⟩:=kr (i:=i) (x:=i) hr' (vS (by omega))
   refine⟨_,rfl,_,rfl,b,_,j,_,(by rw[aO,h1];rfl),rfl,az.of (hs _ _ h2),lr hj,hk _ (Same.refl _)⟩
  ·refine⟨D,_,rfl,.inl ⟨ak.of hl,λl hl'=>?_⟩⟩
   refine k _ _ (hs.trans (Same.put hl')) ?_;intro u' n' j' g' e h1 h2;injection e with e1 e2
   injection e2 with e2 _
   injection e2 with e2
   have ej:j=j':=by omega
   subst ej;rw[<- e1]at h1;obtain⟨rfl,eg⟩:=ht.inj h1;refine⟨l,rfl,hs.free hl',?_⟩;rw[av,hlen]
   congr 2
   exact jB λi hi=>eg i j (by simpa using hi) hj
end
theorem Kg{N:List Addr}(hN:N.Nodup){i j:Nat}{x:Addr}(a:N[i]?=some x)(b:N[j]?=some x):i=j:=by
 obtain⟨h1,e1⟩:=bF.mp a;obtain⟨h2,e2⟩:=bF.mp b;exact(List.getElem_inj hN).mp (e1.trans e2.symm)
theorem zI:∀{as:List Addr} {t b:Nat},as.Nodup->b ∉ as->(as.set t b).Nodup
 | [],_,_,_,_=>by simp
 |a::r,0,b,nd,hb=>fS.mpr ⟨λh=>hb (bG _ h),(fS.mp nd).2⟩
 |a::r,t+1,b,nd,hb=>by
  rw[List.set_cons_succ];refine fS.mpr ⟨λh=>?_,zI (fS.mp nd).2 λh=>hb (bG _ h)⟩
  rcases Ee h with h|h
  ·exact(fS.mp nd).1 h
  ·subst h;exact hb bR
structure cI (H0 H:Hp) (r n:Nat) (as:List Addr) (R:Nat->Nat->Bool):Prop where
 same:Same H0 H
 lst:H r=some (.lst (as.map V.ref))
 len:as.length=n
 nd:as.Nodup
 zC:H0 r=none
 new:∀a∈as,H0 a=none/\a≠r
 row:∀(i:Nat) a,as[i]?=some a->H a=some (.lst (aR n (R i)))
theorem cI.congr{H0 H:Hp}{r n:Nat}{as:List Addr}{R R':Nat->Nat->Bool}(W:cI H0 H r n as R)(h:∀a b,a<n->b<n->R a b=R' a b):cI H0 H r n as R':=
 {W with row:=λi a e=>(W.row i a e).trans (by rw[iG λb hb=>h i b (by rw[<- W.len];exact(bF.mp e).1) hb])}
theorem cI.get{H0 H:Hp}{r n:Nat}{as:List Addr}{R:Nat->Nat->Bool}(W:cI H0 H r n as R){i:Nat}(hi:i<n):∃a,as[i]?=some a/\(as.map V.ref)[i]?=some (.ref a)/\a∈as/\H a=some (.lst (aR n (R i))):=by
 have h:i<as.length:=by rw[W.len];exact hi
 exact⟨as[i],aq h,by simp[h],jz h,W.row i _ (aq h)⟩
theorem cI.grow{H0 H H':Hp}{r n:Nat}{as:List Addr}{R:Nat->Nat->Bool}(W:cI H0 H r n as R)(s:Same H H'):cI H0 H' r n as R:=
 {W with same:=W.same.trans s,lst:=s _ _ W.lst,row:=λi a e=>s _ _ (W.row i a e)}
theorem cI.put{H0 H:Hp}{r n:Nat}{as:List Addr}{R:Nat->Nat->Bool}(W:cI H0 H r n as R){i j a:Nat}(ha:as[i]?=some a):
  cI H0 (upd H a (.lst ((aR n (R i)).set j (.bl true)))) r n as (λx y=>if x=i/\y=j then true else R x y):=by
 have am:a∈as:=bK ha;refine{W with same:=λb o e=>?_,lst:=?_,row:=λk b e=>?_}
 ·rw[aA (λz=>by rw[z,(W.new a am).1]at e;cases e)]
  exact W.same _ _ e
 ·rw[aA (cu (W.new a am).2)]
  exact W.lst
 ·by_cases hk:k=i
  ·subst hk
   rw[ha]at e;cases e;rw[av,Nh]
   congr 2
   apply iG
   intro b hb;simp
  ·have hba:b≠a:=by
    rintro rfl;exact hk (Kg W.nd e ha)
   rw[aA hba,W.row k b e]
   congr 2
   apply iG
   intro c hc;rw[if_neg (λz=>hk z.1)]
theorem cI.swap{H0 H:Hp}{r n:Nat}{as:List Addr}{R:Nat->Nat->Bool}(W:cI H0 H r n as R){t b:Nat}{p:Nat->Bool}(ht:t<n)(hb:H0 b=none)(hbr:b≠r)(hba:b ∉ as)(hp:H b=some (.lst (aR n p))):
  cI H0 (upd H r (.lst ((as.map V.ref).set t (.ref b)))) r n (as.set t b) (λx y=>if x=t then p y else R x y):=by
 refine⟨λc o e=>?_,?_,by rw[vX];exact W.len,?_,W.zC,λc hc=>?_,λk c e=>?_⟩
 ·rw[aA (λz=>by rw[z,W.zC]at e;cases e)]
  exact W.same _ _ e
 ·rw[av,List.map_set]
 ·exact zI W.nd hba
 ·rcases Ee hc with h|h
  ·exact W.new c h
  ·subst h;exact⟨hb,hbr⟩
 ·by_cases hk:t=k
  ·subst hk
   have hlt:t<as.length:=by rw[W.len];exact ht
   rw[vT hlt]at e;cases e;rw[aA hbr,hp]
   congr 2
   apply iG
   intro y _;rw[if_pos rfl]
  ·rw[qZ hk]at e
   rw[aA (W.new c (bK e)).2,W.row k c e]
   congr 2
   apply iG
   intro y _;rw[if_neg (λz=>hk z.symm)]
theorem E_(a b:Nat):Ev.base [] a b=decide (a=b):=by rw[dR,Ev.jP];simp
theorem Fb(ps:List (Nat × Nat))(p:Nat × Nat)(a b:Nat):Ev.base (ps++[p]) a b=if a=p.1/\b=p.2 then true else Ev.base ps a b:=by
 rw[dR,Ev.jP]
 by_cases h:a=p.1/\b=p.2
 ·rw[if_pos h]
  obtain⟨rfl,rfl⟩:=h;simp
 ·rw[if_neg h,Ev.jP]
  simp only[hV,eV]
  constructor
  ·rintro(h1|h1|h1)
   ·exact .inl h1
   ·exact .inr h1
   ·subst h1;exact absurd ⟨rfl,rfl⟩ h
  ·rintro(h1|h1)
   ·exact .inl h1
   ·exact .inr (.inl h1)
section
variable {P:Program} {w:World} {K:W.Frag} {mg:Str->Option Value} {base:Heap} {f:Addr} {fd:FuncData}
theorem yK{n j:Nat}(h:j<n):fL n (j:Int)=some j:=by
 unfold fL;rw[if_pos (by omega),if_pos (by omega)];simp
abbrev lu (R:Nat->Nat->Bool):Nat->Nat->V:=λa b=>.bl (R a b)
abbrev mM:Stmt:=top 19
theorem Cj:aY ["count","pairs","rows","pair","middle","thing"] ["count","pairs"] (aE mM):=⟨rfl,rfl,rfl,by decide +kernel,rfl,by decide +kernel,by decide +kernel⟩
noncomputable def qq(K:W.Frag):Sp:=λvs H Q _=>∃(n a:Nat) (ps:List (Nat × Nat)),vs = [.int n,.ref a]/\jF K H a ps/\n<=24/\(∀p∈ps,p.1<n/\p.2<n) /\
 ∀v H' R,Same H H'->Ev.kM n ps R->TT H' v n (lu R)->Q v H'
theorem at0{α:Type}{xs:List α}{j:Nat}{v:α}(h:xs[j]?=some v):f9 xs (0+(j:Int))=some v:=by rw[g0];exact e9 h
theorem Jb{n j:Nat}(h:j<n):fL n (0+(j:Int))=some j:=by rw[g0];exact yK h
theorem Ng{n:Nat}{p:Nat->Bool}{j:Nat}(h:j<n):(aR n p)[j]?=some (.bl (p j)):=by simp[aR,h]
theorem z_ (F:aN K "reach_of" "reach_of" mM f fd) (T:Txt mg) (lI:ax P w K mg base "own_row" ["count","thing"] 1 qo) (lB:ax P w K mg base "either" ["one","other"] 1 qb) :
  aI P w K mg base aJ 2 f fd ["count","pairs"] (qq K):=by
 refine F.ok Cj (λvs H Q E h=>?_) (λcdv A outer s H vs Q E hr h=>?_)
 ·obtain⟨n,a,ps,rfl,_⟩:=h
  rfl
 ·obtain⟨n,a,ps,rfl,⟨us,gB,hup⟩,hn,hb,k⟩:=h
  have nd:=Cj.nd;have en:((n:Int)).toNat=n:=bQ n;refine⟨_,(aH (Mg (i:=2) nd rfl rfl (own:=["thing"]) (fr:=[("count", 0)]) rfl (cJ (aE mM) ["count","pairs","rows","pair","middle","thing"] rfl rfl (by decide +kernel)) (dM rfl T.range (ag (pv 0) ai)) (λ_ _ _ _=>⟨(bh (i:=0) (by decide +kernel:(["thing","count"]:List Str).Nodup) rfl (Or.inl rfl)),d_,(aW lI hr rfl (ag (pv 1) (ag (pv 0) ai)))⟩))
   (aH (cD cz rfl (iF (K:=K) rfl (pv 1)) (bh (i:=3) nd rfl (Or.inl rfl))
   (aC (Aw d8 (Ao (aX (fM (K:=K) rfl) (pv 2) (aX (bH (K:=K) rfl) (pv 3) aL (λ_ _=>rfl)) (λ_ _=>rfl)) (aX (bH (K:=K) rfl) (pv 3) aL (λ_ _=>rfl)) set_list))))
   (aH (cD cz rfl (dM rfl T.range (ag (pv 0) ai)) (bh (i:=4) nd rfl (Or.inl rfl))
   (aC (cD cz rfl (dM rfl T.range (ag (pv 0) ai)) (bh (i:=5) nd rfl (Or.inl rfl))
   (aC (cj (cN (aX (fM (K:=K) rfl) (aX (fM (K:=K) rfl) (pv 2) (pv 5) (λ_ _=>rfl)) (pv 4) (λ_ _=>rfl))) (aC (Aw (aW lB hr rfl (ag (aX (fM (K:=K) rfl) (pv 2) (pv 5) (λ_ _=>rfl)) (ag (aX (fM (K:=K) rfl) (pv 2) (pv 4) (λ_ _=>rfl)) ai))) (Ao (pv 2) (pv 5) set_list))) cx)))))
   (aC (a8 (d9 (fH (K:=K) rfl) rfl T.tuple d6 (ag (c9 (own:=["row"]) (fr:=[]) rfl (cJ (aE mM) ["count","pairs","rows","pair","middle","thing"] rfl rfl (by decide +kernel)) (iF (K:=K) rfl (pv 2)) (λ_ _ _ _=>⟨(bh (i:=0) (by decide +kernel:(["row"]:List Str).Nodup) rfl (Or.inl rfl)),d_,(d9 (fH (K:=K) rfl) rfl T.tuple d6 (ag (pv 0) ai))⟩)) ai))))))),?_⟩
  refine⟨_,rfl,n,rfl,(b0 (by omega)).1,(b0 (by omega)).2,λD hD=>FT (λi=>aR n λb=>decide (i=b)) src_range hD (cR (by simpa using hn)) (λi H2 Kt hi hs hk=>?_) (λH1 as hs hl h1 h2 h3 h4=>?_)⟩
  ·refine⟨_,rfl,_,rfl,⟨n,i,by simp,hn⟩,λv H3 s3 hv=>?_⟩
   obtain⟨b,rfl,hb1,hb2⟩:=hv n i (by simp);exact hk b H3 s3 hb1 hb2
  have W0:cI H H1 D n as (Ev.base []):=⟨hs,hl,h1.trans en,h2,hD,h3,λi b e=>(h4 i b e).trans (by rw[iG λc hc=>(E_ i c).symm])⟩;refine⟨_,rfl,a,rfl,⟨_,hs.seq gB⟩,lR (K:=K) (a:=a) (xs:=us) (λi σ H2=>∃v3,σ = [some (.int n),some (.ref a),some (.ref D),v3,none,none]/\cI H H2 D n as (Ev.base (ps.take i)))
   ⟨none,rfl,by simpa using W0⟩ (λi σ H2 _ ⟨_,_,W⟩=>W.same.seq gB) ?_ ?_⟩
  ·rintro i y σ H2 hi ⟨v3,rfl,W⟩
   obtain⟨p,hp1,t,rfl,ht⟩:=ko hup hi;obtain⟨b1,b2⟩:=hb p (bK hp1);obtain⟨r,r1,r2,r3,r4⟩:=W.get b1;refine⟨_,rfl,_,rfl,t,_,0,_,rfl,rfl,az.of (W.same _ _ ht),rfl,D,_,_,_,rfl,rfl,ak.of W.lst,e9 r2,_,rfl,t,_,1,_,rfl,rfl,az.of (W.same _ _ ht),rfl,r,_,_,p.2,rfl,rfl,r4,?_,?_⟩
   ·rw[mL];exact yK b2
   ·refine⟨_,rfl,(W.put r1).congr λx y _ _=>?_⟩
    have et:ps.take (i+1)=ps.take i++[p]:=by rw[rg,hp1];rfl
    rw[et,Fb]
  ·rintro σ H2 ⟨v3,rfl,W⟩
   have el:us.length=ps.length:=(bS hup).symm;rw[el,wa]at W;have hlen:us.length=ps.length:=(bS hup).symm;refine⟨_,rfl,n,rfl,(b0 (by omega)).1,(b0 (by omega)).2,gq (lo:=0) (n:=((n:Int)).toNat) (λm σ H2=>∃v3 v4 v5 as R,σ = [some (.int n),some (.ref a),some (.ref D),v3,v4,v5]/\cI H H2 D n as R/\Ev.f7 n ps m R)
    ⟨v3,none,none,as,_,rfl,W,Ev.f7.start hb⟩ ?_ ?_⟩
   ·rintro m σ H2 hm ⟨v3,v4,v5,as,R,rfl,W,WI⟩
    have hmn:m<n:=by omega
    refine⟨_,rfl,n,rfl,(b0 (by omega)).1,(b0 (by omega)).2,gq (lo:=0) (n:=((n:Int)).toNat) (λt σ H2=>∃v5 as,σ = [some (.int n),some (.ref a),some (.ref D),v3,some (.int (0+m)),v5] /\
     cI H H2 D n as (λx y=>if x<t then Ev.gU R m x y else R x y)) ⟨v5,as,rfl,W.congr λx y _ _=>by rw[if_neg (Nat.not_lt_zero x)]⟩ ?_ ?_⟩
    ·rintro t σ H3 ht ⟨v5,as,rfl,W⟩
     have htn:t<n:=by omega
     obtain⟨rt,t1,t2,t3,t4⟩:=W.get htn;obtain⟨rm,m1,m2,m3,m4⟩:=W.get hmn;refine⟨_,rfl,_,rfl,D,_,_,_,rfl,rfl,ak.of W.lst,at0 t2,_,rfl,rt,_,_,_,rfl,rfl,ak.of t4,at0 (Ng hmn),_,rfl,dm (λh=>?_) (λh=>?_)⟩
     ·rw[if_neg (eJ t)]at h
      refine⟨_,rfl,_,rfl,D,_,_,_,rfl,rfl,ak.of W.lst,at0 t2,_,rfl,_,rfl,D,_,_,_,rfl,rfl,ak.of W.lst,at0 m2,⟨rt,rm,n,_,_,rfl,t4,m4,hn⟩,λv H4 s4 hv=>?_⟩;obtain⟨b,rfl,q1,q2⟩:=hv rt rm n _ _ rfl t4 m4;have W4:=W.grow s4;have hbD:b≠D:=λe=>by rw[e,W.lst]at q1;cases q1
      have hba:b ∉ as:=λhm=>by
       obtain⟨j,hj,e⟩:=jA hm;have:=W.row j b (by rw[aq hj,e]);rw[q1]at this;cases this
      refine⟨_,rfl,_,rfl,D,_,_,t,rfl,rfl,W4.lst,?_,?_⟩
      ·rw[aD,W4.len];exact Jb htn
      ·refine⟨_,_,rfl,(W4.swap htn (W.same.free q1) hbD hba q2).congr λx y hx hy=>?_⟩
       by_cases e:x=t
       ·subst e
        rw[if_pos rfl,if_neg (eJ x),if_pos (k0 x)];have em:(if m<x then Ev.gU R m m y else R m y)=R m y:=by
         split
         ·unfold Ev.gU
          cases R m y<;>simp
         ·rfl
        rw[em];unfold Ev.gU;rw[h,vJ]
       ·rw[if_neg e]
        by_cases l0:x<t
        ·rw[if_pos l0,if_pos (by omega)]
        ·rw[if_neg l0,if_neg (by omega)]
     ·rw[if_neg (eJ t)]at h
      refine⟨_,as,rfl,W.congr λx y hx hy=>?_⟩
      by_cases e:x=t
      ·subst e
       rw[if_neg (eJ x),if_pos (k0 x)];unfold Ev.gU;have h':R x m=false:=by simpa using h
       rw[h',qN,Bool.or_false]
      ·by_cases l0:x<t
       ·rw[if_pos l0,if_pos (by omega)]
       ·rw[if_neg l0,if_neg (by omega)]
    ·rintro σ H3 ⟨v5,as,rfl,W⟩
     exact⟨_,_,_,as,Ev.gU R m,rfl,W.congr λx y hx _=>by rw[if_pos (by omega)],WI.step hmn⟩
   ·rintro σ H2 ⟨v3,v4,v5,as,R,rfl,W,WI⟩
    rw[en]at WI;refine⟨_,rfl,D,rfl,⟨_,ak.of W.lst⟩,λD2 hD2=>om (λi v H=>∃b,v = .ref b/\b≠D2/\H b=some (.tup (aR n (R i)))) (src_list (ak.of W.lst)) hD2 (cR (by rw[aD,W.len];exact hn))
     (λi v H H' s ⟨b,e,hb,q⟩=>⟨b,e,hb,s _ _ hb q⟩) (λi H3 Kt hi hs hy hk=>?_) (λH3 ys hs hl hp=>?_)⟩
    ·rw[aD,W.len]at hi
     obtain⟨r,r1,r2,r3,r4⟩:=W.get hi;obtain⟨zs,hz⟩:=hy;refine⟨_,rfl,r,_,by rw[aO,r2];rfl,.inl ⟨ak.of (hs _ _ r4),λl hl'=>?_⟩⟩;exact hk _ _ (Same.put hl') ⟨l,rfl,(λe=>by rw[e,hz]at hl';cases hl'),av⟩
    ·refine⟨D2,_,rfl,.inl ⟨ak.of hl,λl hl'=>?_⟩⟩
     have Gk:(as.map V.ref).length=n:=by rw[aD,W.len]
     rw[Gk]at hp;refine k _ _ R ((W.same.trans hs).trans (Same.put hl')) WI.done ⟨l,ys,rfl,av,Paired.bL hp λi u ⟨b,e,_,q⟩=>⟨b,e,Same.put hl' _ _ q⟩⟩
end
theorem pJ{H:Hp}{L:Addr}{xs ys:List V}(hL:H L=some (.lst xs)){ps:List (Nat × Nat)}{us:List V}(h:Paired (cg H) ps us):Paired (cg (upd H L (.lst ys))) ps us:=
 Paired.bL h λ_ _ ⟨t,e,q⟩=>⟨t,e,by rw[aA (gF q hL (λz=>nomatch z))];exact q⟩
theorem pF{α β:Type}{F:α->β->Prop}:∀{a b:List α} {c d:List β},Paired F a c->Paired F b d->Paired F (a++b) (c++d)
 |_,_,_,_,.nil,h=>h
 |_,_,_,_,.cons r t,h=>.cons r (pF t h)
theorem pH{α β γ:Type}{F:γ->β->Prop}{g:α->γ}:∀{a:List α} {c:List β},Paired (λx y=>F (g x) y) a c->Paired F (a.map g) c
 |_,_,.nil=>.nil
 |_,_,.cons r t=>.cons r (pH t)
theorem uJ{α:Type}(i:Nat)(h:Nat->List α):(List.range (i+1)).flatMap h=(List.range i).flatMap h++h i:=by
 rw[iQ,List.flatMap_append];simp
noncomputable def vx(n:Nat):List (Nat × Nat):=(List.range n).flatMap λl=>(List.range (n - (l+1))).map λj=>(l,l+1+j)
theorem zt{n:Nat}{p:Nat × Nat}(h:p∈vx n):p.1<p.2/\p.2<n:=by
 unfold vx at h;rw[List.mem_flatMap]at h;obtain⟨l,hl,h⟩:=h;rw[cG]at h;obtain⟨j,hj,rfl⟩:=h;simp at hl hj ⊢;omega
noncomputable def ku(n:Nat)(R:Nat->Nat->Bool):List (Nat × Nat):=(List.range n).flatMap λl=>((List.range n).filter λh=>!decide (l=h)&&R l h).map λh=>(l,h)
section
variable {P:Program} {w:World} {K:W.Frag} {mg:Str->Option Value} {base:Heap} {f:Addr} {fd:FuncData}
abbrev p9:Stmt:=top 20
theorem Cp:aY ["count","told","low"] ["count"] (aE p9):=⟨rfl,rfl,rfl,by decide +kernel,rfl,by decide +kernel,by decide +kernel⟩
noncomputable def mP:Sp:=λvs H Q _=>∃n:Nat,vs = [.int n]/\n<=24/\∀l us H',Same H H'->H' l=some (.lst us)->Paired (cg H') (vx n) us->Q (.ref l) H'
theorem Ab (F:aN K "twos" "twos" p9 f fd) (T:Txt mg):aI P w K mg base aJ 1 f fd ["count"] mP:=by
 refine F.ok Cp (λvs H Q E h=>?_) (λcdv A outer s H vs Q E hr h=>?_)
 ·obtain⟨n,rfl,_⟩:=h
  rfl
 ·obtain⟨n,rfl,hn,k⟩:=h
  have nd:=Cp.nd;have en:((n:Int)).toNat=n:=bQ n;refine⟨_,(aH (bV (i:=1) nd rfl (Or.inl rfl) (iD ai))
   (aH (cD cz rfl (dM rfl T.range (ag (pv 0) ai)) (bh (i:=2) nd rfl (Or.inr rfl))
   (aC (dN (iC (K:=K) rfl h7 rB wA ui (pv 1) (ag (c9 (own:=["high"]) (fr:=[("low", 2)]) rfl (cJ (aE p9) ["count","told","low"] rfl rfl (by decide +kernel)) (Ar rfl T.range (ag (bD ki (pv 2) aL) (ag (pv 0) ai))) (λ_ _ _ _=>⟨(bh (i:=0) (by decide +kernel:(["high","low"]:List Str).Nodup) rfl (Or.inl rfl)),d_,(gI (ag (pv 1) (ag (pv 0) ai)))⟩)) ai)))))
   (aC (a8 (pv 1))))),?_⟩
  refine⟨by show 0<=sizeLine;decide,λL hL=>?_⟩;refine⟨_,rfl,n,rfl,(b0 (by omega)).1,(b0 (by omega)).2,gq (lo:=0) (n:=((n:Int)).toNat) (λi σ H2=>∃v2 us,σ = [some (.int n),some (.ref L),v2]/\Same H H2/\H2 L=some (.lst us)/\us.length<=24*i /\
   Paired (cg H2) ((List.range i).flatMap λl=>(List.range (n - (l+1))).map λj=>(l,l+1+j)) us) ⟨none,[],rfl,Same.put hL,av,by simp,.nil⟩ ?_ ?_⟩
  ·rintro i σ H2 hi ⟨v2,us,rfl,s2,hl,hlen,hp⟩
   have hin:i<n:=by omega
   refine⟨_,rfl,.inl ⟨rfl,_,ak.of hl⟩,?_⟩;refine⟨_,rfl,_,_,rfl,rfl,_,rfl,(0+(i:Int)+1),n,rfl,⟨by omega,by omega,by omega,by omega⟩,λD hD=>?_⟩;refine om (λj v H=>∃t,v = .ref t/\t≠D/\H t=some (.tup [.int i,.int ((i+1+j:Nat):Int)])) src_range hD (cR (by omega)) (λj v H H' s ⟨b,e,hb,q⟩=>⟨b,e,hb,s _ _ hb q⟩) (λj H3 Kt hj hs hy hk=>?_) (λH3 ys hs hl3 hp3=>?_)
   ·obtain⟨zs,hz⟩:=hy
    refine⟨_,rfl,_,rfl,by show 2<=sizeLine;decide,λt ht=>?_⟩;refine hk _ _ (Same.put ht) ⟨t,rfl,(λe=>by rw[e,hz]at ht;cases ht),?_⟩;rw[av]
    congr 4
    ·omega
    ·congr 1
     push_cast
     omega
   ·have hDL:D≠L:=λe=>by rw[e,hl]at hD;cases hD
    have yh:ys.length=n - (i+1):=by
     have:=bS hp3;simp at this;omega
    refine⟨L,D,us,ys,rfl,rfl,hs _ _ hl,hl3,by have:=@mO 100000 (by omega);omega,?_⟩;refine⟨_,us++ys,rfl,?_,av,by rw[cX];omega,?_⟩
    ·intro b o e
     rw[aA (λz=>by rw[z,hL]at e;cases e)];exact hs _ _ (s2 _ _ e)
    ·rw[uJ]
     refine pJ (hs _ _ hl) (pF (fh.same hs hp) (pH ?_));have ec:((n:Int) - (0+(i:Int)+1)).toNat=n - (i+1):=by omega
     rw[ec]at hp3;exact Paired.bL hp3 λj v ⟨t,e,_,q⟩=>⟨t,e,q⟩
  ·rintro σ H2 ⟨v2,us,rfl,s2,hl,hlen,hp⟩
   rw[en]at hp;exact⟨_,rfl,k L us H2 s2 hl hp⟩
abbrev uY:Stmt:=top 21
theorem Ca:aY ["count","reach","two"] ["count","reach"] (aE uY):=⟨rfl,rfl,rfl,by decide +kernel,rfl,by decide +kernel,by decide +kernel⟩
noncomputable def qk:Sp:=λvs H Q _=>∃(n:Nat) (v:V) (R:Nat->Nat->Bool),vs = [.int n,v]/\TT H v n (lu R)/\n<=24/\(∀a b,a<b->b<n->¬ (R a b=true/\R b a=true))/\∀H',Same H H'->Q .non H'
theorem zY (F:aN K "need_one_way" "need_one_way" uY f fd) (T:Txt mg) (gf:ax P w K mg base "twos" ["count"] 1 mP):aI P w K mg base aJ 2 f fd ["count","reach"] qk:=by
 refine F.ok Ca (λvs H Q E h=>?_) (λcdv A outer s H vs Q E hr h=>?_)
 ·obtain⟨n,v,R,rfl,_⟩:=h
  rfl
 ·obtain⟨n,v,R,rfl,ht,hn,ha,k⟩:=h
  have nd:=Ca.nd;refine⟨_,(aC (cD cz rfl (iF (K:=K) rfl (aW gf hr rfl (ag (pv 0) ai))) (bh (i:=2) nd rfl (Or.inl rfl))
   (aC (cj (PW.pt (uF (cN (aX (bH (K:=K) rfl) (aX (bH (K:=K) rfl) (pv 1) (aX (bH (K:=K) rfl) (pv 2) aL (λ_ _=>rfl)) (λ_ _=>rfl)) (aX (bH (K:=K) rfl) (pv 2) aL (λ_ _=>rfl)) (λ_ _=>rfl))) (uG (cN (aX (bH (K:=K) rfl) (aX (bH (K:=K) rfl) (pv 1) (aX (bH (K:=K) rfl) (pv 2) aL (λ_ _=>rfl)) (λ_ _=>rfl)) (aX (bH (K:=K) rfl) (pv 2) aL (λ_ _=>rfl)) (λ_ _=>rfl)))))) (aC mF) cx)))),?_⟩
  refine⟨_,rfl,n,rfl,hn,λl us H1 s1 hl hp=>⟨l,rfl,⟨_,ak.of hl⟩,lR (K:=K) (a:=l) (xs:=us) (λi σ H2=>∃v2,σ = [some (.int n),some v,v2]/\Same H1 H2) ⟨none,rfl,Same.refl _⟩ (λi σ H2 _ ⟨_,_,s2⟩=>ak.of (s2 _ _ hl)) ?_ ?_⟩⟩
  ·rintro i y σ H2 hi ⟨v2,rfl,s2⟩
   obtain⟨p,hp1,t,rfl,htt⟩:=ko hp hi;obtain⟨b1,b2⟩:=zt (bK hp1);obtain⟨a,vs,r1,rfl,q1,q2,q3,q4⟩:=(ht.same (s1.trans s2)).row (show p.1<n by omega);obtain⟨a',vs',r2,e',pO,Ms,uH,uI⟩:=(ht.same (s1.trans s2)).row b2;cases e';rw[q1]at pO;cases pO;have gA:=s2 _ _ htt;refine⟨_,rfl,_,rfl,t,_,0,_,rfl,rfl,az.of gA,rfl,a,_,_,_,rfl,rfl,az.of q1,e9 q3,_,rfl,t,_,1,_,rfl,rfl,az.of gA,rfl,r1,_,_,_,rfl,rfl,az.of q4,lr b2,_,rfl,dm (λh=>?_) (λh=>?_)⟩
   ·refine⟨_,rfl,_,rfl,t,_,1,_,rfl,rfl,az.of gA,rfl,a,_,_,_,rfl,rfl,az.of q1,e9 uH,_,rfl,t,_,0,_,rfl,rfl,az.of gA,rfl,r2,_,_,_,rfl,rfl,az.of uI,lr (show p.1<n by omega),_,rfl,dm (λh'=>?_) (λh'=>?_)⟩
    ·exact absurd ⟨h,h'⟩ (ha _ _ b1 b2)
    ·exact⟨_,rfl,s2⟩
   ·refine bf ?_
    exact⟨_,rfl,s2⟩
  ·rintro σ H2 ⟨v2,rfl,s2⟩
   exact k _ (s1.trans s2)
end
noncomputable def dn(n:Nat)(p:Nat->Bool):List Key:=(List.range n).map λb=>Sum.inl (if p b then 1 else 0)
theorem tY{n:Nat}{p q:Nat->Bool}(h:dn n p=dn n q):∀b,b<n->p b=q b:=by
 intro b hb;have:=congrArg (λl=>l[b]?) h;simp only[dn,bB,vS hb,wk,rn,Sum.inl.injEq]at this;cases hp:p b<;>cases hq:q b<;>simp[hp,hq]at this ⊢
theorem Jm{n:Nat}{p q:Nat->Bool}(h:∀b,b<n->p b=q b):dn n p=dn n q:=by
 unfold dn;apply jB
 intro b hb;rw[h b (by simpa using hb)]
theorem yO(p:Nat->Bool):∀l:List Nat,oY (l.map λb=>(Sum.inl (if p b then 1 else 0):Key)) (l.map λb=>V.bl (p b))
 | []=>.nil
 |b::r=>.cons (.inr ⟨p b,rfl,rfl⟩) (yO p r)
theorem Dl{H:Hp}{b:Addr}{n:Nat}{p:Nat->Bool}(h:H b=some (.tup (aR n p))):f6 H b (dn n p):=⟨_,yO p _,h⟩
noncomputable def d7(n:Nat)(R:Nat->Nat->Bool):Nat->List (List Key × V)
 |0=>[]
 |i+1=>d7 n R i++[(dn n (R i),.int i)]
theorem yZ(n:Nat)(R:Nat->Nat->Bool):∀i,(d7 n R i).length=i
 |0=>rfl
 |i+1=>by rw[d7,cX,yZ n R i];rfl
theorem JZ(l:List (List Key × V)){k k':List Key}{v:V}(e:¬ k'=k)(h:bP l k=none):bP (l++[(k',v)]) k=none:=by
 induction l with
 |nil=>exact gR (p:=(k',v)) e
 |cons p r ih =>
  rw[List.cons_append]
  by_cases q:p.1=k
  ·rw[iK q]at h;cases h
  ·rw[gR q]at h ⊢;exact ih h
theorem t6{n:Nat}{R:Nat->Nat->Bool}{k:List Key}:∀{i:Nat},(∀c,c<i->dn n (R c)≠k)->bP (d7 n R i) k=none
 |0,_=>rfl
 |i+1,h=>by
  have ih:=t6 (n:=n) (R:=R) (k:=k) (i:=i) λc hc=>h c (by omega);have hk:bP (d7 n R i) k=none:=ih;rw[d7];have e:¬ dn n (R i)=k:=h i (by omega);exact JZ (d7 n R i) e hk
theorem y6{n:Nat}{R:Nat->Nat->Bool}(dis:∀i j,i<n->j<n->(∀b,b<n->R i b=R j b)->i=j){c:Nat}(hc:c<n):∀{i:Nat},i<=n->c<i->bP (d7 n R i) (dn n (R c))=some (.int c)
 |0,_,h=>by omega
 |i+1,hi,h=>by
  rw[d7,Dr _ _ _ _ (t6 λd hd e=>by have:=dis d i (by omega) (by omega) (tY e);omega)]
  by_cases e:c=i
  ·subst e;rw[if_pos rfl]
  ·rw[if_neg (λz=>e (dis c i hc (by omega) (tY z)))]
   exact y6 dis hc (by omega) (by omega)
noncomputable def jU(n:Nat)(R:Nat->Nat->Bool)(a b:Nat):V:=(bP (d7 n R n) (dn n λx=>R a x&&R b x)).getD .non
theorem xG{n:Nat}{R:Nat->Nat->Bool}(dis:∀i j,i<n->j<n->(∀b,b<n->R i b=R j b)->i=j){a b c:Nat}(hc:c<n)(h:∀x,x<n->R c x=(R a x&&R b x)):jU n R a b = .int c:=by
 unfold jU;rw[<- Jm h,y6 dis hc (aB _) hc];rfl
section
variable {P:Program} {w:World} {K:W.Frag} {mg:Str->Option Value} {base:Heap} {f:Addr} {fd:FuncData}
noncomputable def fF(H:Hp)(n:Nat)(R:Nat->Nat->Bool)(us:List V):Prop:=Paired (λi u=>∃b,u = .ref b/\H b=some (.tup (aR n (R i)))) (List.range n) us
theorem fF.same{H H':Hp}{n:Nat}{R:Nat->Nat->Bool}{us:List V}(s:Same H H')(h:fF H n R us):fF H' n R us:=Paired.bL h λ_ _ ⟨b,e,q⟩=>⟨b,e,s _ _ q⟩
theorem fF.len{H:Hp}{n:Nat}{R:Nat->Nat->Bool}{us:List V}(h:fF H n R us):us.length=n:=by simpa using(bS h).symm
theorem fF.get{H:Hp}{n:Nat}{R:Nat->Nat->Bool}{us:List V}(h:fF H n R us){i:Nat}(hi:i<n):∃b,us[i]?=some (.ref b)/\H b=some (.tup (aR n (R i))):=by
 obtain⟨y,h1,b,rfl,h2⟩:=kr (i:=i) (x:=i) h (vS hi);exact⟨b,h1,h2⟩
abbrev pX:Stmt:=top 22
theorem Bx:aY ["rows","things","thing"] ["rows","things","thing"] (aE pX):=⟨rfl,rfl,rfl,by decide +kernel,rfl,by decide +kernel,by decide +kernel⟩
noncomputable def qd(K:W.Frag):Sp:=λvs H Q _=>∃(c:Bool) (a d t n:Nat) (us:List V) (R:Nat->Nat->Bool) (kvs:List (List Key × V)),vs = [.ref a,.ref d,.int t]/\Sq c K H a us/\fF H n R us/\H d=some (.dT kvs)/\t<n/\n<=24 /\
 ∀l H',Same H H'->H l=none->H' l=some (.tup ((List.range n).map λj=>(bP kvs (dn n λb=>R t b&&R j b)).getD .non))->Q (.ref l) H'
theorem zS (F:aN K "ends_with" "ends_with" pX f fd) (T:Txt mg) (lL:ax P w K mg base "shared" ["one","other"] 1 qt):aI P w K mg base aJ 2 f fd ["rows","things","thing"] (qd K):=by
 refine F.ok Bx (λvs H Q E h=>?_) (λcdv A outer s H vs Q E hr h=>?_)
 ·obtain⟨c,a,d,t,n,us,R,kvs,rfl,_⟩:=h
  rfl
 ·obtain⟨c,a,d,t,n,us,R,kvs,rfl,hq,hrow,hd,ht,hn,k⟩:=h
  have nd:=Bx.nd;have hu:=yq hr;refine⟨_,(aC (a8 (d9 (fH (K:=K) rfl) rfl T.tuple d6 (ag (c9 (own:=["row"]) (fr:=[("things", 1),("rows", 0),("thing", 2)]) rfl (cJ (aE pX) ["rows","things","thing"] rfl rfl (by decide +kernel)) (L5 (K:=K) c rfl (pv 0)) (λ_ _ _ _=>⟨(bh (i:=0) (by decide +kernel:(["row","things","rows","thing"]:List Str).Nodup) rfl (Or.inl rfl)),d_,(Lr hu (pv 1) (aW lL hr rfl (ag (aX (tV (K:=K) c rfl) (pv 2) (pv 3) (λ_ _=>rfl)) (ag (pv 0) ai))) ⟨rfl,rfl,rfl,rfl⟩)⟩)) ai)))),?_⟩;refine⟨_,rfl,a,rfl,⟨_,hq⟩,λD hD=>iq (λj=>(bP kvs (dn n λb=>R t b&&R j b)).getD .non) (N6 hq) hD (cR (by rw[hrow.len];exact hn)) (λi H2 Kt hi hs hk=>?_) (λH' hs hl=>?_)⟩
  ·rw[hrow.len]at hi
   obtain⟨bt,t1,t2⟩:=hrow.get ht;obtain⟨bi,i1,i2⟩:=hrow.get hi;refine⟨_,rfl,d,rfl,.inr ⟨kvs,.inl (hs _ _ hd)⟩,?_⟩;refine⟨_,rfl,_,rfl,a,us,_,_,rfl,rfl,hs.sq hq,e9 t1,_,rfl,⟨bt,bi,n,R t,R i,by rw[aO,i1];rfl,hs _ _ t2,hs _ _ i2,hn⟩,λv H3 s3 hv=>?_⟩;obtain⟨b,rfl,q1,q2⟩:=hv bt bi n (R t) (R i) (by rw[aO,i1];rfl) (hs _ _ t2) (hs _ _ i2);exact⟨_,kN.t (s3 _ _ (hs _ _ hd)) (Dl q2),hk _ s3⟩
  ·refine⟨D,_,rfl,.inl ⟨ak.of hl,λl hl'=>?_⟩⟩
   rw[hrow.len];exact k l _ (hs.trans (Same.put hl')) (hs.free hl') av
abbrev pW:Stmt:=top 23
theorem Bw:aY ["rows","things","thing","row"] ["rows"] (aE pW):=⟨rfl,rfl,rfl,by decide +kernel,rfl,by decide +kernel,by decide +kernel⟩
noncomputable def qc(K:W.Frag):Sp:=λvs H Q _=>∃(c:Bool) (a n:Nat) (us:List V) (R:Nat->Nat->Bool),vs = [.ref a]/\Sq c K H a us/\fF H n R us/\n<=24/\(∀i j,i<n->j<n->(∀b,b<n->R i b=R j b)->i=j) /\
 ∀v H',Same H H'->TT H' v n (jU n R)->Q v H'
theorem zR (F:aN K "ends_of" "ends_of" pW f fd) (T:Txt mg) (lC:ax P w K mg base "ends_with" ["rows","things","thing"] 2 (qd K)):aI P w K mg base aJ 3 f fd ["rows"] (qc K):=by
 refine F.ok Bw (λvs H Q E h=>?_) (λcdv A outer s H vs Q E hr h=>?_)
 ·obtain⟨c,a,n,us,R,rfl,_⟩:=h
  rfl
 ·obtain⟨c,a,n,us,R,rfl,hq,hrow,hn,dis,k⟩:=h
  have nd:=Bw.nd;have hu:=yq hr;have hlen:=hrow.len;refine⟨_,(aH (bV (i:=1) nd rfl (Or.inr rfl) Lv)
   (aH (cD cz rfl (uD (K:=K) c rfl rfl T.enumerate (ag (pv 0) ai)) (mC (K:=K) (i:=2) (j:=3) rfl rfl nd rfl rfl rfl rfl)
   (aC (Mb hu (pv 1) (pv 3) (pv 2) rfl)))
   (aC (a8 (d9 (fH (K:=K) rfl) rfl T.tuple d6 (ag (c9 (own:=["thing"]) (fr:=[("rows", 0),("things", 1)]) rfl (cJ (aE pW) ["rows","things","thing","row"] rfl rfl (by decide +kernel)) (dM rfl T.range (ag (bu (dH (K:=K) rfl) rfl T.len dW (ag (pv 0) ai)) ai)) (λ_ _ _ _=>⟨(bh (i:=0) (by decide +kernel:(["thing","rows","things"]:List Str).Nodup) rfl (Or.inl rfl)),d_,(aW lC hr rfl (ag (pv 1) (ag (pv 2) (ag (pv 0) ai (gP nofun)) (gP nofun)) (gP nofun)))⟩)) ai)))))),?_⟩
  intro d hd;refine⟨_,rfl,a,us,rfl,(Same.put hd).sq hq,xP (K:=K) (c:=c) (l:=a) (xs:=us) (λi σ H2=>∃v2 v3,σ = [some (.ref a),some (.ref d),v2,v3]/\Same H H2/\H2 d=some (.dT (d7 n R i))/\i<=n)
   ⟨none,none,rfl,Same.put hd,av,bE _⟩ (λi σ H2 ⟨_,_,_,s2,_⟩=>s2.sq hq) ?_ ?_⟩
  ·rintro i x σ H2 t hx ht ⟨v2,v3,rfl,s2,h2,hi⟩
   have hin:i<n:=by rw[<- hlen];exact(bF.mp hx).1
   obtain⟨bi,i1,i2⟩:=hrow.get hin;rw[i1]at hx;cases hx;refine⟨t,_,rfl,az.of av,rfl,_,_,rfl,_,_,rfl,rfl,?_⟩;have hdt:d≠t:=λe=>by rw[<- e,h2]at ht;cases ht
   have h2':(upd H2 t (.tup [.int i,.ref bi])) d=some (.dT (d7 n R i)):=by rw[aA hdt];exact h2
   have i3:(upd H2 t (.tup [.int i,.ref bi])) bi=some (.tup (aR n (R i))):=Same.put ht _ _ (s2 _ _ i2);have hnone:bP (d7 n R i) (dn n (R i))=none:=t6 λc' hc' e=>by have:=dis c' i (by omega) hin (tY e);omega
   refine⟨_,rfl,_,rfl,_,rfl,d,_,rfl,kO.t h2' (Dl i3) (by rw[yZ];exact cR (by omega)),?_⟩;refine⟨_,_,rfl,?_,?_,hin⟩
   ·intro b o e
    rw[aA (λz=>by rw[z,hd]at e;cases e)];exact Same.put ht _ _ (s2 _ _ e)
   ·rw[av,Mj _ hnone]
    rfl
  ·rintro σ H2 ⟨v2,v3,rfl,s2,h2,hi⟩
   rw[hlen]at h2;have hq2:ak K H2 a us\/az K H2 a us:=by
    have:=s2.sq hq;cases c with
    |true=>exact .inl this
    |false=>exact .inr this
   refine⟨_,rfl,a,us,rfl,hq2,us.length,rfl,(b0 (by omega)).1,(b0 (by omega)).2,λD hD=>?_⟩;rw[hlen];refine om (λi v H=>∃b,v = .ref b/\b≠D/\H b=some (.tup ((List.range n).map (jU n R i)))) src_range hD (cR (by simpa using hn)) (λi v H H' s ⟨b,e,hb,q⟩=>⟨b,e,hb,s _ _ hb q⟩) (λi H3 Kt hi hs hy hk=>?_) (λH3 ys hs hl hp=>?_)
   ·have hin:i<n:=by simpa using hi
    obtain⟨zs,hz⟩:=hy;refine⟨_,rfl,_,rfl,_,rfl,c,a,d,i,n,us,R,_,by simp,hs.sq (s2.sq hq),(hrow.same s2).same hs,hs _ _ h2,hin,hn,λl H4 s4 h4 q4=>?_⟩;exact hk _ H4 s4 ⟨l,rfl,(λe=>by rw[e,hz]at h4;cases h4),q4⟩
   ·refine⟨D,_,rfl,.inl ⟨ak.of hl,λl hl'=>?_⟩⟩
    have en:((n:Int)).toNat=n:=bQ n;rw[en]at hp;exact k _ _ ((s2.trans hs).trans (Same.put hl')) ⟨l,ys,rfl,av,Paired.bL hp λi u ⟨b,e,_,q⟩=>⟨b,e,Same.put hl' _ _ q⟩⟩
end
theorem JT{α:Type}{n:Nat}{g:Nat->α}{j:Nat}(h:j<n):((List.range n).map g)[j]?=some (g j):=by simp[h]
section
variable {P:Program} {w:World} {K:W.Frag} {mg:Str->Option Value} {base:Heap} {f:Addr} {fd:FuncData}
abbrev uX:Stmt:=top 24
theorem B_:aY ["count","joins","meets","two"] ["count","joins","meets"] (aE uX):=⟨rfl,rfl,rfl,by decide +kernel,rfl,by decide +kernel,by decide +kernel⟩
noncomputable def qj:Sp:=λvs H Q _=>∃(n:Nat) (v u:V) (g g':Nat->Nat->V),vs = [.int n,v,u]/\TT H v n g/\TT H u n g'/\n<=24/\(∀a b,a<n->b<n->g a b≠.non/\g' a b≠.non)/\∀H',Same H H'->Q .non H'
theorem zX (F:aN K "need_ends" "need_ends" uX f fd) (T:Txt mg) (gf:ax P w K mg base "twos" ["count"] 1 mP):aI P w K mg base aJ 2 f fd ["count","joins","meets"] qj:=by
 refine F.ok B_ (λvs H Q E h=>?_) (λcdv A outer s H vs Q E hr h=>?_)
 ·obtain⟨n,v,u,g,g',rfl,_⟩:=h
  rfl
 ·obtain⟨n,v,u,g,g',rfl,ht,ht',hn,ha,k⟩:=h
  have nd:=B_.nd;refine⟨_,(aC (cD cz rfl (iF (K:=K) rfl (aW gf hr rfl (ag (pv 0) ai))) (bh (i:=3) nd rfl (Or.inl rfl))
   (aC (cj (PW.pt (mG (dO pD (aX (bH (K:=K) rfl) (aX (bH (K:=K) rfl) (pv 1) (aX (bH (K:=K) rfl) (pv 3) aL (λ_ _=>rfl)) (λ_ _=>rfl)) (aX (bH (K:=K) rfl) (pv 3) aL (λ_ _=>rfl)) (λ_ _=>rfl)) pK (cL _)) (mH (dO pD (aX (bH (K:=K) rfl) (aX (bH (K:=K) rfl) (pv 2) (aX (bH (K:=K) rfl) (pv 3) aL (λ_ _=>rfl)) (λ_ _=>rfl)) (aX (bH (K:=K) rfl) (pv 3) aL (λ_ _=>rfl)) (λ_ _=>rfl)) pK (cL _))))) (aC mF) cx)))),?_⟩
  refine⟨_,rfl,n,rfl,hn,λl us H1 s1 hl hp=>⟨l,rfl,⟨_,ak.of hl⟩,lR (K:=K) (a:=l) (xs:=us) (λi σ H2=>∃v2,σ = [some (.int n),some v,some u,v2]/\Same H1 H2) ⟨none,rfl,Same.refl _⟩ (λi σ H2 _ ⟨_,_,s2⟩=>ak.of (s2 _ _ hl)) ?_ ?_⟩⟩
  ·rintro i y σ H2 hi ⟨v2,rfl,s2⟩
   obtain⟨p,hp1,t,rfl,htt⟩:=ko hp hi;obtain⟨b1,b2⟩:=zt (bK hp1);have hp0:p.1<n:=by omega
   obtain⟨a,vs,r1,rfl,q1,q2,q3,q4⟩:=(ht.same (s1.trans s2)).row hp0;obtain⟨a',vs',r2,rfl,pO,Ms,uH,uI⟩:=(ht'.same (s1.trans s2)).row hp0;have gA:=s2 _ _ htt;obtain⟨n1,n2⟩:=ha _ _ hp0 b2;refine⟨_,rfl,_,rfl,t,_,0,_,rfl,rfl,az.of gA,rfl,a,_,_,_,rfl,rfl,az.of q1,e9 q3,_,rfl,t,_,1,_,rfl,rfl,az.of gA,rfl,r1,_,_,_,rfl,rfl,az.of q4,lr b2,rfl,_,rfl,?_⟩;rw[cZ n1];refine bf ?_;refine⟨_,rfl,_,rfl,t,_,0,_,rfl,rfl,az.of gA,rfl,a',_,_,_,rfl,rfl,az.of pO,e9 uH,_,rfl,t,_,1,_,rfl,rfl,az.of gA,rfl,r2,_,_,_,rfl,rfl,az.of uI,lr b2,rfl,_,rfl,?_⟩;rw[cZ n2];refine bf ?_;exact⟨_,rfl,s2⟩
  ·rintro σ H2 ⟨v2,rfl,s2⟩
   exact k _ (s1.trans s2)
abbrev p7:Stmt:=top 25
theorem Ci:aY ["count","reach","told","low"] ["count","reach"] (aE p7):=⟨rfl,rfl,rfl,by decide +kernel,rfl,by decide +kernel,by decide +kernel⟩
noncomputable def hZ(H:Hp)(v:V)(ps:List (Nat × Nat)):Prop:=∃a us,v = .ref a/\H a=some (.tup us)/\Paired (cg H) ps us
theorem hZ.same{H H':Hp}{v:V}{ps:List (Nat × Nat)}(s:Same H H')(h:hZ H v ps):hZ H' v ps:=let⟨a,us,e,q,r⟩:=h;⟨a,us,e,s _ _ q,fh.same s r⟩
noncomputable def qp:Sp:=λvs H Q _=>∃(n:Nat) (v:V) (R:Nat->Nat->Bool),vs = [.int n,v]/\TT H v n (lu R)/\n<=24/\∀u H',Same H H'->hZ H' u (ku n R)->Q u H'
theorem z9 (F:aN K "pairs_of" "pairs_of" p7 f fd) (T:Txt mg):aI P w K mg base aJ 1 f fd ["count","reach"] qp:=by
 refine F.ok Ci (λvs H Q E h=>?_) (λcdv A outer s H vs Q E hr h=>?_)
 ·obtain⟨n,v,R,rfl,_⟩:=h
  rfl
 ·obtain⟨n,v,R,rfl,ht,hn,k⟩:=h
  have nd:=Ci.nd;have en:((n:Int)).toNat=n:=bQ n;refine⟨_,(aH (bV (i:=2) nd rfl (Or.inl rfl) (iD ai))
   (aH (cD cz rfl (dM rfl T.range (ag (pv 0) ai)) (bh (i:=3) nd rfl (Or.inr rfl))
   (aC (dN (iC (K:=K) rfl h7 rB wA ui (pv 2) (ag (c9 (own:=["high"]) (fr:=[("low", 3),("reach", 1)]) rfl (cJ (aE p7) ["count","reach","told","low"] rfl rfl (by decide +kernel)) (dM rfl T.range (ag (pv 0) ai)) (λ_ _ _ _=>⟨(bh (i:=0) (by decide +kernel:(["high","low","reach"]:List Str).Nodup) rfl (Or.inl rfl)),(pM (PW.pt (uF (dO my (pv 1) (pv 0) (cL _)) (uG (cN (aX (bH (K:=K) rfl) (aX (bH (K:=K) rfl) (pv 2) (pv 1) (λ_ _=>rfl)) (pv 0) (λ_ _=>rfl))))))),(gI (ag (pv 1) (ag (pv 0) ai)))⟩)) ai)))))
   (aC (a8 (d9 (fH (K:=K) rfl) rfl T.tuple d6 (ag (pv 2) ai)))))),?_⟩
  refine⟨by show 0<=sizeLine;decide,λL hL=>?_⟩;refine⟨_,rfl,n,rfl,(b0 (by omega)).1,(b0 (by omega)).2,gq (lo:=0) (n:=((n:Int)).toNat) (λi σ H2=>∃v3 us,σ = [some (.int n),some v,some (.ref L),v3]/\Same H H2/\H2 L=some (.lst us)/\us.length<=24*i /\
   Paired (cg H2) ((List.range i).flatMap λl=>((List.range n).filter λh=>!decide (l=h)&&R l h).map λh=>(l,h)) us) ⟨none,[],rfl,Same.put hL,av,by simp,.nil⟩ ?_ ?_⟩
  ·rintro i σ H2 hi ⟨v3,us,rfl,s2,hl,hlen,hp⟩
   have hin:i<n:=by omega
   refine⟨_,rfl,.inl ⟨rfl,_,ak.of hl⟩,?_⟩;refine⟨_,rfl,n,rfl,(b0 (by omega)).1,(b0 (by omega)).2,λD hD=>?_⟩;refine oo (λj=>!decide (i=j)&&R i j) (λj v H=>∃t,v = .ref t/\t≠D/\H t=some (.tup [.int i,.int (j:Int)])) src_range hD (cR (by omega)) (λj v H H' s ⟨b,e,hb,q⟩=>⟨b,e,hb,s _ _ hb q⟩) (λj H3 Kt Kf hj hs hy hkt hkf=>?_) (λH3 ys hs hl3 hp3=>?_)
   ·have hjn:j<n:=by omega
    obtain⟨zs,hz⟩:=hy;obtain⟨a,vs,r1,rfl,q1,q2,q3,q4⟩:=(ht.same (s2.trans hs)).row hin;refine⟨_,rfl,_,rfl,rfl,_,rfl,?_⟩;have ed:(!decide (V.int (0+(i:Int))=V.int (0+(j:Int)))) = !decide (i=j):=by
     congr 1
     rw[g0];exact xm
    rw[ed];refine dm (λh=>?_) (λh=>?_)
    ·refine⟨_,rfl,_,rfl,a,_,_,_,rfl,rfl,az.of q1,at0 q3,_,rfl,r1,_,_,_,rfl,rfl,az.of q4,at0 (JT hjn),_,rfl,dm (λh'=>?_) (λh'=>?_)⟩
     ·refine⟨_,rfl,_,rfl,by show 2<=sizeLine;decide,λt ht=>?_⟩
      refine hkt _ _ (by rw[h,h',vJ]) (Same.put ht) ⟨t,rfl,(λe=>by rw[e,hz]at ht;cases ht),?_⟩;rw[av,g0,g0]
     ·exact hkf _ (by rw[h,vJ];simpa using h') (Same.refl _)
    ·refine bf ?_
     have h2:(!decide (i=j))=false:=by simpa using h
     exact hkf _ (by rw[h2,qN]) (Same.refl _)
   ·have hDL:D≠L:=λe=>by rw[e,hl]at hD;cases hD
    rw[en]at hp3;have yh:ys.length<=n:=by
     have h1:=bS hp3;have h2:=q8 (λj=>!decide (i=j)&&R i j) (List.range n);rw[kW]at h2;omega
    refine⟨L,D,us,ys,rfl,rfl,hs _ _ hl,hl3,by have:=@mO 100000 (by omega);omega,?_⟩;refine⟨_,us++ys,rfl,?_,av,by rw[cX];omega,?_⟩
    ·intro b o e
     rw[aA (λz=>by rw[z,hL]at e;cases e)];exact hs _ _ (s2 _ _ e)
    ·rw[uJ]
     refine pJ (hs _ _ hl) (pF (fh.same hs hp) (pH ?_));exact Paired.bL hp3 λj v ⟨t,e,_,q⟩=>⟨t,e,q⟩
  ·rintro σ H2 ⟨v2,us,rfl,s2,hl,hlen,hp⟩
   rw[en]at hp;refine⟨_,rfl,L,us,rfl,.inl ⟨ak.of hl,λl hl'=>?_⟩⟩;exact k _ _ (s2.trans (Same.put hl')) ⟨l,us,rfl,av,fh.same (Same.put hl') hp⟩
end
structure Good (n:Nat) (R:Nat->Nat->Bool):Prop where
 refl:∀a,a<n->R a a=true
 anti:∀a b,a<n->b<n->R a b=true->R b a=true->a=b
 join:∀a b,a<n->b<n->∃c,c<n/\∀x,x<n->R c x=(R a x&&R b x)
 meet:∀a b,a<n->b<n->∃c,c<n/\∀x,x<n->R x c=(R x a&&R x b)
theorem Good.dis{n:Nat}{R:Nat->Nat->Bool}(G:Good n R):∀i j,i<n->j<n->(∀b,b<n->R i b=R j b)->i=j:=λi j hi hj h =>
 G.anti i j hi hj (by rw[h j hj];exact G.refl j hj) (by rw[<- h i hi];exact G.refl i hi)
theorem Good.xt{n:Nat}{R:Nat->Nat->Bool}(G:Good n R):∀i j,i<n->j<n->(∀b,b<n->R b i=R b j)->i=j:=λi j hi hj h =>
 G.anti i j hi hj (by rw[<- h i hi];exact G.refl i hi) (by rw[h j hj];exact G.refl j hj)
noncomputable def aS (n:Nat) (vp vr vj vm:V):List (Str × V):=aM "meets" vm (aM "joins" vj (aM "reach" vr (aM "pairs" vp (aM "count" (.int n) []))))
noncomputable def k4(C:Addr)(H:Hp)(p n:Nat)(R:Nat->Nat->Bool):Prop:=∃dx vp vr vj vm,H p=some (.ins C dx (aS n vp vr vj vm))/\hZ H vp (ku n R)/\TT H vr n (lu R)/\TT H vj n (jU n R)/\TT H vm n (jU n λa b=>R b a)
structure mY (K:W.Frag) (C:Addr):Prop where
 cl:Cls K C
 nC:eW K C "count"
 nP:eW K C "pairs"
 nR:eW K C "reach"
 nJ:eW K C "joins"
 nM:eW K C "meets"
theorem TT.ins{H:Hp}{p C dx:Addr}{fs:List (Str × V)}{o:HO}(hp:H p=some (.ins C dx fs)){v:V}{n:Nat}{g:Nat->Nat->V}(h:TT H v n g):TT (upd H p o) v n g:=
 let⟨a,vs,e,q,r⟩:=h
 ⟨a,vs,e,by rw[aA (gF q hp (λz=>nomatch z))];exact q,Paired.bL r λ_ _ ⟨b,e,q⟩=>⟨b,e,by rw[aA (gF q hp (λz=>nomatch z))];exact q⟩⟩
theorem hZ.ins{H:Hp}{p C dx:Addr}{fs:List (Str × V)}{o:HO}(hp:H p=some (.ins C dx fs)){v:V}{ps:List (Nat × Nat)}(h:hZ H v ps):hZ (upd H p o) v ps:=
 let⟨a,vs,e,q,r⟩:=h
 ⟨a,vs,e,by rw[aA (gF q hp (λz=>nomatch z))];exact q,Paired.bL r λ_ _ ⟨b,e,q⟩=>⟨b,e,by rw[aA (gF q hp (λz=>nomatch z))];exact q⟩⟩
section
variable {P:Program} {w:World} {K:W.Frag} {mg:Str->Option Value} {base:Heap} {f:Addr} {fd:FuncData}
abbrev pT:Stmt:=inClass (top 26) 0
theorem Bt:aY ["self","count","pairs","reach","joins","meets"] ["self","count","pairs"] (aE pT):=⟨rfl,rfl,rfl,by decide +kernel,rfl,by decide +kernel,by decide +kernel⟩
noncomputable def qf(K:W.Frag)(C:Addr):Sp:=λvs H Q _=>∃(p dx n a:Nat) (ps:List (Nat × Nat)),vs = [.ref p,.int n,.ref a]/\H p=some (.ins C dx [])/\jF K H a ps/\1<=n/\n<=24/\(∀p∈ps,p.1<n/\p.2<n)/\(∀R,Ev.kM n ps R->Good n R) /\
 ∀H' R,(∀b o,H b=some o->b≠p->H' b=some o)->Ev.kM n ps R->k4 C H' p n R->Q .non H'
theorem zT {C:Addr} (F:aN K "__init__" "Order.__init__" pT f fd) (T:Txt mg) (TC:mY K C)
  (lE:ax P w K mg base "need_count" ["count"] 2 qi) (lH:ax P w K mg base "need_pairs" ["count","pairs"] 4 (ql K)) (lK:ax P w K mg base "reach_of" ["count","pairs"] 2 (qq K))
  (lG:ax P w K mg base "need_one_way" ["count","reach"] 2 qk) (jQ:ax P w K mg base "ends_of" ["rows"] 3 (qc K)) (lA:ax P w K mg base "column" ["rows","place"] 1 qa)
  (lF:ax P w K mg base "need_ends" ["count","joins","meets"] 2 qj) (lJ:ax P w K mg base "pairs_of" ["count","reach"] 1 qp):aI P w K mg base aJ 5 f fd ["self","count","pairs"] (qf K C):=by
 refine F.ok Bt (λvs H Q E h=>?_) (λcdv A outer s H vs Q E hr h=>?_)
 ·obtain⟨p,dx,n,a,ps,rfl,_⟩:=h
  rfl
 ·obtain⟨p,dx,n,a,ps,rfl,hp,hps,h1,hn,hb,hg,k⟩:=h
  have nd:=Bt.nd;have en:((n:Int)).toNat=n:=bQ n;refine⟨_,(aH (dN (aW lE hr rfl (ag (pv 1) ai)))
   (aH (dN (aW lH hr rfl (ag (pv 1) (ag (pv 2) ai))))
   (aH (bV (i:=3) nd rfl (Or.inr rfl) (aW lK hr rfl (ag (pv 1) (ag (pv 2) ai))))
   (aH (dN (aW lG hr rfl (ag (pv 1) (ag (pv 3) ai))))
   (aH (bV (i:=4) nd rfl (Or.inl rfl) (aW jQ hr rfl (ag (pv 3) ai)))
   (aH (bV (i:=5) nd rfl (Or.inl rfl) (aW jQ hr rfl (ag (c9 (own:=["thing"]) (fr:=[("reach", 3)]) rfl (cJ (aE pT) ["self","count","pairs","reach","joins","meets"] rfl rfl (by decide +kernel)) (dM rfl T.range (ag (pv 1) ai)) (λ_ _ _ _=>⟨(bh (i:=0) (by decide +kernel:(["thing","reach"]:List Str).Nodup) rfl (Or.inl rfl)),d_,(aW lA hr rfl (ag (pv 1) (ag (pv 0) ai)))⟩)) ai)))
   (aH (dN (aW lF hr rfl (ag (pv 1) (ag (pv 4) (ag (pv 5) ai (gP nofun)) (gP nofun)) (gP nofun))))
   (aH (mE (K:=K) rfl (pv 0) (pv 1) rfl)
   (aH (mE (K:=K) rfl (pv 0) (aW lJ hr rfl (ag (pv 1) (ag (pv 3) ai))) rfl)
   (aH (mE (K:=K) rfl (pv 0) (pv 3) rfl)
   (aH (mE (K:=K) rfl (pv 0) (pv 4) rfl)
   (aC (mE (K:=K) rfl (pv 0) (pv 5) rfl))))))))))))),?_⟩
  refine⟨_,rfl,⟨n,rfl,by omega,by omega⟩,λv1 H1 s1 _=>?_⟩;refine⟨_,rfl,_,rfl,⟨n,a,ps,rfl,hps.same s1,hb⟩,λv2 H2 s2 _=>?_⟩;have pR:=s1.trans s2;refine⟨_,rfl,_,rfl,n,a,ps,rfl,hps.same pR,hn,hb,λvr H3 R s3 hC ht=>?_⟩;have G:=hg R hC;refine⟨_,rfl,_,rfl,n,vr,R,rfl,ht,hn,λx y hx hy ⟨h1,h2⟩=>absurd (G.anti x y (by omega) hy h1 h2) (by omega),λH4 s4=>?_⟩;obtain⟨ra,us,rfl,q1,q2⟩:=id (ht.same s4);refine⟨_,rfl,false,ra,n,us,R,rfl,az.of q1,q2,hn,G.dis,λvj H5 s5 htj=>?_⟩;refine⟨_,rfl,n,rfl,(b0 (by omega)).1,(b0 (by omega)).2,λD hD=>?_⟩;refine om (λi v H=>∃b,v = .ref b/\b≠D/\H b=some (.tup (aR n λj=>R j i))) src_range hD (cR (by omega)) (λi v H H' s ⟨b,e,hb,q⟩=>⟨b,e,hb,s _ _ hb q⟩) (λi H6 Kt hi hs hy hk=>?_) (λH6 ys hs hl yi=>?_)
  ·obtain⟨zs,hz⟩:=hy
   have hin:i<n:=by omega
   have ym:=((ht.same s4).same s5).same hs;refine⟨_,rfl,_,rfl,⟨_,n,i,_,by simp,ym,hin,hn⟩,λv H7 s7 hv=>?_⟩;obtain⟨b,rfl,b1,b2⟩:=hv _ n i _ (by simp) ym hin;exact hk _ H7 s7 ⟨b,rfl,(λe=>by rw[e,hz]at b1;cases b1),b2⟩
  rw[en]at yi;have Ni:fF H6 n (λa b=>R b a) ys:=Paired.bL yi λi u ⟨b,e,_,q⟩=>⟨b,e,q⟩;refine⟨true,D,n,ys,_,rfl,ak.of hl,Ni,hn,G.xt,λvm H7 s7 yo=>?_⟩;have yn:=(htj.same hs).same s7;have Nm:Same H H7:=((((pR.trans s3).trans s4).trans s5).trans hs).trans s7;refine⟨_,rfl,_,rfl,_,rfl,n,vj,vm,_,_,rfl,yn,yo,hn,λx y hx hy=>?_,λH8 s8=>?_⟩
  ·obtain⟨c,hc,hj⟩:=G.join x y hx hy
   obtain⟨d,hd,hm⟩:=G.meet x y hx hy;rw[xG G.dis hc hj,xG G.xt hd hm];exact⟨(λz=>nomatch z),(λz=>nomatch z)⟩
  have Bj:=Nm.trans s8;have hp8:H8 p=some (.ins C dx []):=Bj _ _ hp;have yp:TT H8 (.ref ra) n (lu R):=((((ht.same s4).same s5).same hs).same s7).same s8;refine⟨_,rfl,_,rfl,p,C,dx,[],rfl,hp8,TC.cl,TC.nC,by show 0<1000;decide,?_⟩;refine⟨_,rfl,_,rfl,n,_,R,rfl,yp.ins hp8,hn,λvp H9 s9 hpp=>?_⟩;have hp9:=s9 _ _ (av (H:=H8) (a:=p) (o:=.ins C dx (aM "count" (.int n) [])));have Ie:=(yp.ins hp8 (o:=.ins C dx (aM "count" (.int n) []))).same s9;have Ia:=((yn.same s8).ins hp8 (o:=.ins C dx (aM "count" (.int n) []))).same s9;have Ib:=((yo.same s8).ins hp8 (o:=.ins C dx (aM "count" (.int n) []))).same s9;have l1:(aM "count" (V.int n) []).length<=1:=ka _ _ _;have l2:(aM "pairs" vp (aM "count" (V.int n) [])).length<=2:=cH (ka _ _ _) (by omega);have l3:(aM "reach" (V.ref ra) (aM "pairs" vp (aM "count" (V.int n) []))).length<=3:=cH (ka _ _ _) (by omega);have l4:(aM "joins" vj (aM "reach" (V.ref ra) (aM "pairs" vp (aM "count" (V.int n) [])))).length<=4:=cH (ka _ _ _) (by omega);refine⟨_,rfl,p,C,dx,_,rfl,hp9,TC.cl,TC.nP,by omega,?_⟩;refine⟨_,rfl,_,rfl,p,C,dx,_,rfl,av,TC.cl,TC.nR,by omega,?_⟩;refine⟨_,rfl,_,rfl,p,C,dx,_,rfl,av,TC.cl,TC.nJ,by omega,?_⟩;refine⟨_,rfl,_,rfl,p,C,dx,_,rfl,av,TC.cl,TC.nM,by omega,?_⟩;rw[vB,vB,vB];refine k _ R (λb o e yc=>?_) hC ⟨dx,vp,_,vj,vm,av,hpp.ins hp9,Ie.ins hp9,Ia.ins hp9,Ib.ins hp9⟩;rw[aA yc];refine s9 _ _ ?_;rw[aA yc];exact Bj _ _ e
end
structure kL (P:Program) (w:World) (K:W.Frag) (mg:Str->Option Value) (base:Heap) (C:Addr) (x:Str) (ps:List Str) (k:Nat) (sp:Sp):Prop where
 ex:∃(f:Addr) (fd:FuncData),aI P w K mg base aJ k f fd ps sp/\Mk K C f/\mg x=some (.ref C)/\Binds K fd ps []
section
variable {X:Cx} {C:Addr} {x:Str} {ps:List Str} {k k':Nat} {sp:Sp} {e:Expr} {es:List Expr} {t:TA} {p pos:Pos}
theorem Ly (c:kL X.prog X.w X.K X.mg X.base C x ps k sp) (hr:aV k' X.A) (hg:Gl X x) (ha:PA X (e::es) t) (hk:k+1<=k':=by decide) (hdb:(x==("__debug__" : Str))=false:=by decide)
  (he:starEach (e::es) X.env=(false,eval e X.env)::starEach es X.env:=by rfl) (hpl:(backTo pos (starEach es X.env)).any (·.1)=false:=by rfl):PE X (.Call (.Name x p) (e::es) [] pos) (Df C sp [] E0 t):=by
 obtain⟨f,fd,F,M,hm,b⟩:=c.ex;exact Lx M F (hr.mono hk) hg hm b .nil uA ha hdb he hpl
end
structure aF (K:W.Frag) (x:Str) (st:Stmt):Prop where
 ex:∃(f:Addr) (fd:FuncData),W.nsIn K mainGlobals x=some (some (.ref f))/\aN K x x st f fd
theorem aF.mk'{K:W.Frag}{x:Str}{st:Stmt}{f:Addr}{oc:Value}{od an:Option Addr}{osl:Array (Option Value)}{kV doc pm cdv ct:Value}(a:W.nsIn K mainGlobals x=some (some (.ref f)))
  (l:K.lookup f=some ⟨oc,od,.func (W.fnOf x x (gg st) (eQ st) (aE st) .none kV doc pm an cdv ct),osl⟩) (c:W.codeIn K cdv x=true) (k:W.keepIn K (.ref f)=true):aF K x st:=⟨f,_,a,xS l c k⟩
abbrev vI (x:Str) (st:Stmt) (ps:List Str):Prop:=∀(kV doc pm:Value) (an:Option Addr) (cdv ct:Value) (us:List Value),us.length=ps.length->bindArgs (W.fnOf x x (gg st) (eQ st) (aE st) .none kV doc pm an cdv ct) ⟨us,[]⟩=pure (ps.zip us)
theorem aF.cal{P:Program}{w:World}{K:W.Frag}{mg:Str->Option Value}{base h:Heap}{x:Str}{st:Stmt}{ps:List Str}{k:Nat}{sp:Sp}(A:aF K x st)(X:K.In h)(G:h.Ns mainGlobals mg)(hb:vI x st ps)(ok:∀{f:Addr} {fd:FuncData},aN K x x st f fd->aI P w K mg base aJ k f fd ps sp):ax P w K mg base x ps k sp:=by
 obtain⟨f,fd,a,F⟩:=A.ex;exact⟨f,fd,ok F,W.mg_of X G a,F.kp,F.binds hb⟩
structure ClsAt (K:W.Frag) (x qual:Str) (st:Stmt) (C:Addr):Prop where
 ns:W.nsIn K mainGlobals x=some (some (.ref C))
 cl:Cls K C
 ex:∃(f:Addr) (fd:FuncData),aN K "__init__" qual st f fd/\Mk K C f
theorem ClsAt.mk'{K:W.Frag}{x qual:Str}{st:Stmt}{C f:Addr}{oc:Value}{od an:Option Addr}{osl:Array (Option Value)}{kV doc pm cdv ct:Value}(ns:W.nsIn K mainGlobals x=some (some (.ref C)))
  (pg:W.plainGet K C Str.empty=true) (hd:W.hasDictIn K C=true) (po:W.plainOver K C=true) (sa:W.findIn K (.ref C) "__setattr__" = some (some (.builtin "object.__setattr__"))) (mk:W.makesIn K C=true) (kc:W.keepIn K (.ref C)=true)
  (a:W.findIn K (.ref C) "__init__" = some (some (.ref f))) (i:W.isFn K (.ref f)=true)
  (l:K.lookup f=some ⟨oc,od,.func (W.fnOf "__init__" qual (gg st) (eQ st) (aE st) .none kV doc pm an cdv ct),osl⟩) (c:W.codeIn K cdv qual=true) (k:W.keepIn K (.ref f)=true):ClsAt K x qual st C:=
 ⟨ns,⟨pg,hd,po,sa⟩,f,_,xS l c k,⟨mk,a,i,kc⟩⟩
theorem ClsAt.cal{P:Program}{w:World}{K:W.Frag}{mg:Str->Option Value}{base h:Heap}{x qual:Str}{st:Stmt}{C:Addr}{ps:List Str}{k:Nat}{sp:Sp}(A:ClsAt K x qual st C)(X:K.In h)(G:h.Ns mainGlobals mg)
  (hb:∀(kV doc pm:Value) (an:Option Addr) (cdv ct:Value) (us:List Value),us.length=ps.length->bindArgs (W.fnOf "__init__" qual (gg st) (eQ st) (aE st) .none kV doc pm an cdv ct) ⟨us,[]⟩=pure (ps.zip us))
  (ok:∀{f:Addr} {fd:FuncData},aN K "__init__" qual st f fd->aI P w K mg base aJ k f fd ps sp):kL P w K mg base C x ps k sp:=by
 obtain⟨f,fd,F,M⟩:=A.ex;exact⟨f,fd,ok F,M,W.mg_of X G A.ns,F.binds hb⟩
structure jN (K:W.Frag):Prop where
 len:W.nsIn K mainGlobals "len" = some none
 range:W.nsIn K mainGlobals "range" = some none
 zip:W.nsIn K mainGlobals "zip" = some none
 enumerate:W.nsIn K mainGlobals "enumerate" = some none
 tuple:W.nsIn K mainGlobals "tuple" = some none
 list:W.nsIn K mainGlobals "list" = some none
 int:W.nsIn K mainGlobals "int" = some none
 bool:W.nsIn K mainGlobals "bool" = some none
 str:W.nsIn K mainGlobals "str" = some none
 isinstance:W.nsIn K mainGlobals "isinstance" = some none
 sum:W.nsIn K mainGlobals "sum" = some none
 any:W.nsIn K mainGlobals "any" = some none
 all:W.nsIn K mainGlobals "all" = some none
 sorted:W.nsIn K mainGlobals "sorted" = some none
 min:W.nsIn K mainGlobals "min" = some none
 max:W.nsIn K mainGlobals "max" = some none
 most:∃t,W.nsIn K mainGlobals "MOST_THINGS" = some (some (.int 24 t))
theorem jN.txt{K:W.Frag}{mg:Str->Option Value}{h:Heap}(A:jN K)(X:K.In h)(G:h.Ns mainGlobals mg):Txt mg:=
 ⟨W.mg_none_of X G A.len,W.mg_none_of X G A.range,W.mg_none_of X G A.zip,W.mg_none_of X G A.enumerate,W.mg_none_of X G A.tuple,W.mg_none_of X G A.list,W.mg_none_of X G A.int,W.mg_none_of X G A.bool,W.mg_none_of X G A.str,
  W.mg_none_of X G A.isinstance,W.mg_none_of X G A.sum,W.mg_none_of X G A.any,W.mg_none_of X G A.all,W.mg_none_of X G A.sorted,W.mg_none_of X G A.min,W.mg_none_of X G A.max,let⟨t,e⟩:=A.most;⟨t,W.mg_of X G e⟩⟩
theorem jN.mk' {K:W.Frag} {t:Tok} (l1:W.nsIn K mainGlobals "len" = some none) (l2:W.nsIn K mainGlobals "range" = some none) (l3:W.nsIn K mainGlobals "zip" = some none) (l4:W.nsIn K mainGlobals "enumerate" = some none)
  (l5:W.nsIn K mainGlobals "tuple" = some none) (l6:W.nsIn K mainGlobals "list" = some none) (l7:W.nsIn K mainGlobals "int" = some none) (l8:W.nsIn K mainGlobals "bool" = some none) (l9:W.nsIn K mainGlobals "str" = some none)
  (l10:W.nsIn K mainGlobals "isinstance" = some none) (t8:W.nsIn K mainGlobals "sum" = some none) (t9:W.nsIn K mainGlobals "any" = some none) (t_:W.nsIn K mainGlobals "all" = some none) (ua:W.nsIn K mainGlobals "sorted" = some none) (ub:W.nsIn K mainGlobals "min" = some none) (uc:W.nsIn K mainGlobals "max" = some none) (m:W.nsIn K mainGlobals "MOST_THINGS" = some (some (.int 24 t))):jN K:=⟨l1,l2,l3,l4,l5,l6,l7,l8,l9,l10,t8,t9,t_,ua,ub,uc,t,m⟩
theorem Good.trans{n:Nat}{R:Nat->Nat->Bool}(G:Good n R){a b c:Nat}(ha:a<n)(hb:b<n)(hc:c<n)(h1:R a b=true)(h2:R b c=true):R a c=true:=by
 obtain⟨m,hm,h⟩:=G.meet b c hb hc;have e1:=h b hb;rw[G.refl b hb,h2]at e1;have e2:=h m hm;rw[G.refl m hm]at e2;have e3:R m b=true:=by
  cases e:R m b with
  |true=>rfl
  |false=>rw[e]at e2;cases e2
 have:b=m:=G.anti b m hb hm (by rw[e1];rfl) e3;subst this;have e4:=h a ha;rw[h1]at e4;simpa using e4.symm
section
variable {n:Nat} {R:Nat->Nat->Bool} {a b c d:Nat}
end
noncomputable def fQ(c:Bool)(H:Hp)(a:Addr)(xs:List V):Prop:=match c with
 |true=>H a=some (.lst xs)
 |false=>H a=some (.tup xs)
theorem fQ.sq{c:Bool}{K:W.Frag}{H:Hp}{a:Addr}{xs:List V}(h:fQ c H a xs):Sq c K H a xs:=by
 cases c with
 |true=>exact ak.of h
 |false=>exact az.of h
theorem fQ.same{c:Bool}{H H':Hp}{a:Addr}{xs:List V}(s:Same H H')(h:fQ c H a xs):fQ c H' a xs:=by
 cases c with
 |true=>exact s _ _ h
 |false=>exact s _ _ h
noncomputable def Leaf(x:V):Prop:=(∃i,x = .int i)\/x = .non\/(∃b,x = .bl b)\/∃t,x = .str t
noncomputable def Like(R:Hp->V->V->Prop)(H:Hp)(x y:V):Prop:=(Leaf x/\x=y)\/∃(c:Bool) (a b:Nat) (xs ys:List V),x = .ref a/\y = .ref b/\fQ c H a xs/\fQ c H b ys/\Paired (R H) xs ys/\xs.length<=1000
theorem uy{α β γ:Type}{F:α->β->Prop}{G:α->γ->Prop}{R:β->γ->Prop}(h:∀p x y,F p x->G p y->R x y):∀{ps:List α} {xs:List β} {ys:List γ},Paired F ps xs->Paired G ps ys->Paired R xs ys
 |_,_,_,.nil,.nil=>.nil
 |_,_,_,.cons a t,.cons b u=>.cons (h _ _ _ a b) (uy h t u)
noncomputable def m5:Hp->V->V->Prop:=λ_ _ _=>False
abbrev R1:=Like m5
abbrev lj:=Like R1
abbrev R3:=Like lj
theorem Like.mono{R:Hp->V->V->Prop}(mono:∀H H' x y,Same H H'->R H x y->R H' x y):∀H H' x y,Same H H'->Like R H x y->Like R H' x y:=by
 rintro H H' x y s (h|⟨c,a,b,xs,ys,e1,e2,h1,h2,h3,h4⟩)
 ·exact .inl h
 ·exact .inr ⟨c,a,b,xs,ys,e1,e2,h1.same s,h2.same s,Paired.bL h3 λ_ _ q=>mono _ _ _ _ s q,h4⟩
theorem oQ:∀H H' x y,Same H H'->m5 H x y->m5 H' x y:=λ_ _ _ _ _ h=>h
theorem Lb{H:Hp}{p:Nat × Nat}{x y:V}(h1:cg H p x)(h2:cg H p y):lj H x y:=by
 obtain⟨t,rfl,q⟩:=h1;obtain⟨u,rfl,r⟩:=h2;exact .inr ⟨false,t,u,_,_,rfl,rfl,q,r,.cons (.inl ⟨.inl ⟨_,rfl⟩,rfl⟩) (.cons (.inl ⟨.inl ⟨_,rfl⟩,rfl⟩) .nil),by show 2<=1000;decide⟩
theorem k4.same{C:Addr}{H H':Hp}{p n:Nat}{R:Nat->Nat->Bool}(s:Same H H')(h:k4 C H p n R):k4 C H' p n R:=by
 obtain⟨dx,vp,vr,vj,vm,a,b,c,d,e⟩:=h;exact⟨dx,vp,vr,vj,vm,s _ _ a,b.same s,c.same s,d.same s,e.same s⟩
theorem GK (n:Nat) (vp vr vj vm:V):(aS n vp vr vj vm).lookup ("count" : Str)=some (.int n):=by
 unfold aS;rw[fc,if_neg (by decide +kernel),fc,if_neg (by decide +kernel),fc,if_neg (by decide +kernel),fc,if_neg (by decide +kernel),fc,if_pos rfl]
theorem GL (n:Nat) (vp vr vj vm:V):(aS n vp vr vj vm).lookup ("pairs" : Str)=some vp:=by
 unfold aS;rw[fc,if_neg (by decide +kernel),fc,if_neg (by decide +kernel),fc,if_neg (by decide +kernel),fc,if_pos rfl]
theorem Le{n:Nat}{R R':Nat->Nat->Bool}(h:∀a b,a<n->b<n->R a b=R' a b):ku n R=ku n R':=by
 unfold ku;have:∀l∈List.range n,(((List.range n).filter λh=>!decide (l=h)&&R l h).map λh=>(l,h))=(((List.range n).filter λh=>!decide (l=h)&&R' l h).map λh=>(l,h)):=by
  intro l hl
  congr 1
  apply List.filter_congr
  intro x hx;rw[h l x (by simpa using hl) (by simpa using hx)]
 rw[List.flatMap_def,List.flatMap_def,jB this]
theorem Good.congr{n:Nat}{R R':Nat->Nat->Bool}(G:Good n R)(h:∀a b,a<n->b<n->R' a b=R a b):Good n R':=by
 refine⟨λa ha=>by rw[h a a ha ha];exact G.refl a ha,λa b ha hb h1 h2=>G.anti a b ha hb (by rw[<- h a b ha hb];exact h1) (by rw[<- h b a hb ha];exact h2),λa b ha hb=>?_,λa b ha hb=>?_⟩
 ·obtain⟨c,hc,hx⟩:=G.join a b ha hb
  exact⟨c,hc,λx hx'=>by rw[h c x hc hx',h a x ha hx',h b x hb hx'];exact hx x hx'⟩
 ·obtain⟨c,hc,hx⟩:=G.meet a b ha hb
  exact⟨c,hc,λx hx'=>by rw[h x c hx' hc,h x a hx' ha,h x b hx' hb];exact hx x hx'⟩
theorem xk{n:Nat}{R R':Nat->Nat->Bool}(G:Good n R){ps:List (Nat × Nat)}(h1:∀p∈ps,R p.1 p.2=true)(h2:∀a b,a<n->b<n->a≠b->R a b=true->(a,b)∈ps)(hC:Ev.kM n ps R'):∀a b,a<n->b<n->R' a b=R a b:=by
 intro a b ha hb;rw[dR]
 constructor
 ·exact hC.least R G.refl h1 (λa b c ha hb hc=>G.trans ha hb hc) a b ha hb
 ·intro h
  by_cases e:a=b
  ·subst e;exact hC.refl a ha
  ·exact hC.has _ (h2 a b ha hb e h)
noncomputable def k6(C:Addr)(H:Hp)(p n:Nat)(R:Nat->Nat->Bool):Prop:=∃R',k4 C H p n R'/\∀a b,a<n->b<n->R' a b=R a b
theorem k6.same{C:Addr}{H H':Hp}{p n:Nat}{R:Nat->Nat->Bool}(s:Same H H')(h:k6 C H p n R):k6 C H' p n R:=by
 obtain⟨R',a,b⟩:=h;exact⟨R',a.same s,b⟩
section
variable {X:Cx} {C:Addr} {m:Str} {ps:List Str} {k k':Nat} {sp:Sp} {e o:Expr} {es:List Expr} {ta:TE} {t:TA} {apos pos:Pos} {pl:Sem Bool}
end
section
variable {P:Program} {w:World} {K:W.Frag} {mg:Str->Option Value} {base:Heap} {f:Addr} {fd:FuncData}
end
theorem rX(x y:Nat):Builtin.bitAnd (x:Int) (y:Int)=((x&&& y:Nat):Int):=by rw[bitAnd_pp (by omega) (by omega)];simp
theorem K_(x y:Nat):Builtin.bitOr (x:Int) (y:Int)=((x ||| y:Nat):Int):=by
 rw[bitOr_and,rX];have:=nat_or_add_and x y;omega
abbrev nV (x:Nat):V:=.int (x:Int)
section
variable {P:Program} {w:World} {K:W.Frag} {mg:Str->Option Value} {base:Heap} {f:Addr} {fd:FuncData}
abbrev uR:Stmt:=top 34
theorem BL:aY ["_law_script","_law_k"] ["_law_script","_law_k"] (aE uR):=⟨rfl,rfl,rfl,by decide +kernel,rfl,by decide +kernel,by decide +kernel⟩
noncomputable def u5(K:W.Frag):Sp:=λvs H Q _=>∃(a k:Nat) (ns:List Int),vs = [.ref a,.int k]/\ak K H a (ns.map V.int)/\∀i H',Same H H'->Q (.int i) H'
theorem Kr (F:aN K "_law_cell_at" "_law_cell_at" uR f fd) (T:Txt mg):aI P w K mg base aJ 1 f fd ["_law_script","_law_k"] (u5 K):=by
 refine F.ok BL (λvs H Q E h=>?_) (λcdv A outer s H vs Q E hr h=>?_)
 ·obtain⟨a,k,ns,rfl,_⟩:=h
  rfl
 ·obtain⟨a,k,ns,rfl,hS,kk⟩:=h
  have nd:=BL.nd;refine⟨_,(aH (cj (dO uv (pv 1) (bu (dH (K:=K) rfl) rfl T.len dW (ag (pv 0) ai)) (cL _)) (aC (a8 (aX (fM (K:=K) rfl) (pv 0) (pv 1) (λ_ _=>rfl)))) cx)
   (aC (a8 aL))),?_⟩
  refine⟨_,rfl,_,rfl,a,_,rfl,.inl hS,_,_,rfl,rfl,_,rfl,dm (λh=>?_) (λh=>?_)⟩
  ·rw[c5,aD]at h
   have hk:k<ns.length:=by omega
   exact⟨_,rfl,_,rfl,a,_,k,.int ns[k],rfl,rfl,hS,e9 (by simp[hk]),kk _ _ (Same.refl _)⟩
  ·exact kk _ _ (Same.refl _)
abbrev uU:Stmt:=top 35
theorem BW:aY ["_law_cell","_law_place","_law_number"] ["_law_cell","_law_place"] (aE uU):=⟨rfl,rfl,rfl,by decide +kernel,rfl,by decide +kernel,by decide +kernel⟩
noncomputable def vd:Sp:=λvs H Q _=>∃(c:Int) (p:Nat),vs = [.int c,.int p]/\p<=1000/\∀i H',0<=i->i<2147483648->Same H H'->Q (.int i) H'
theorem KC (F:aN K "_law_mixed" "_law_mixed" uU f fd) (T:Txt mg):aI P w K mg base aJ 1 f fd ["_law_cell","_law_place"] vd:=by
 refine F.ok BW (λvs H Q E h=>?_) (λcdv A outer s H vs Q E hr h=>?_)
 ·obtain⟨c,p,rfl,_⟩:=h
  rfl
 ·obtain⟨c,p,rfl,hp,kk⟩:=h
  have nd:=BW.nd;have m1:∀x:Int,0<=x % 2147483629/\x % 2147483629<2147483629:=λx=>⟨m6 x (by decide),qR x (by decide)⟩;have m2:∀x:Int,0<=x % 2147483587/\x % 2147483587<2147483587:=λx=>⟨m6 x (by decide),qR x (by decide)⟩;have cm:∀x y:Int,mW (x % 2147483629) y:=λx y=>.inl ⟨by have:=m1 x;omega,by have:=m1 x;omega⟩;refine⟨_,(aH (bV (i:=2) nd rfl (Or.inl rfl) (bD km (bD ki (bD ki (bD mx (bD km (pv 0) aL) aL) (bD mx aL (pv 1))) aL) aL))
   (aH (bV (i:=2) nd rfl (Or.inl rfl) (bD km (bD ki (bD ki (bD mx (pv 2) (pv 2)) (bD mx aL (pv 1))) aL) aL))
   (aC (a8 (bD km (bD ki (bD mx (pv 2) (pv 2)) aL) aL))))),?_⟩
  refine⟨_,rfl,_,_,rfl,rfl,(by show(0:Int)<2147483629;decide),_,_,rfl,rfl,cm _ _,_,rfl,_,_,rfl,rfl,.inl ⟨by decide,by decide⟩,_,_,rfl,rfl,_,_,rfl,rfl,_,_,rfl,rfl,(by show(0:Int)<2147483629;decide),?_⟩;refine⟨_,rfl,_,rfl,_,_,rfl,rfl,cm _ _,_,rfl,_,_,rfl,rfl,.inl ⟨by decide,by decide⟩,_,_,rfl,rfl,_,_,rfl,rfl,_,_,rfl,rfl,(by show(0:Int)<2147483629;decide),?_⟩;refine⟨_,rfl,_,rfl,_,_,rfl,rfl,cm _ _,_,_,rfl,rfl,_,_,rfl,rfl,(by show(0:Int)<2147483587;decide),?_⟩;exact kk _ _ (m2 _).1 (by have:=(m2 ((((c % 2147483629*16807+69621*(p:Int)+11) % 2147483629*((c % 2147483629*16807+69621*(p:Int)+11) % 2147483629)+48271*(p:Int)+7) % 2147483629)*(((c % 2147483629*16807+69621*(p:Int)+11) % 2147483629*((c % 2147483629*16807+69621*(p:Int)+11) % 2147483629)+48271*(p:Int)+7) % 2147483629)+69621)).2;omega) (Same.refl _)
abbrev uS:Stmt:=top 36
theorem BM:aY ["_law_cell","_law_many","_law_found","_law_left","_law_k"] ["_law_cell","_law_many"] (aE uS):=⟨rfl,rfl,rfl,by decide +kernel,rfl,by decide +kernel,by decide +kernel⟩
noncomputable def Small(ns:List Int):Prop:=∀x∈ns,0<=x/\x<2147483648
noncomputable def u6:Sp:=λvs H Q _=>∃(c:Int) (m:Nat),vs = [.int c,.int m]/\m<=1000/\∀l ns H',Same H H'->H l=none->H' l=some (.lst (ns.map V.int))->ns.length=m->Small ns->Q (.ref l) H'
theorem Ks (F:aN K "_law_draws" "_law_draws" uS f fd) (T:Txt mg) (sC:ax P w K mg base "_law_mixed" ["_law_cell","_law_place"] 1 vd):aI P w K mg base aJ 2 f fd ["_law_cell","_law_many"] u6:=by
 refine F.ok BM (λvs H Q E h=>?_) (λcdv A outer s H vs Q E hr h=>?_)
 ·obtain⟨c,m,rfl,_⟩:=h
  rfl
 ·obtain⟨c,m,rfl,hm,kk⟩:=h
  have nd:=BM.nd;have em:((m:Int)).toNat=m:=bQ m;refine⟨_,(aH (bV (i:=2) nd rfl (Or.inl rfl) (iD ai))
   (aH (bV (i:=3) nd rfl (Or.inl rfl) (bD K9 (pv 0) (bD K7 aL aL)))
   (aH (cD cz rfl (dM rfl T.range (ag (pv 1) ai)) (bh (i:=4) nd rfl (Or.inl rfl))
   (aC (cj (dO KZ (pv 3) aL (cL _)) (aH (dN (iC (K:=K) rfl h7 nG rE ml (pv 2) (ag (bD km (pv 3) aL) ai)))
   (aC (bV (i:=3) nd rfl (Or.inl rfl) (bD Ac (pv 3) aL)))) (aC (dN (iC (K:=K) rfl h7 nG rE ml (pv 2) (ag (aW sC hr rfl (ag (pv 0) (ag (pv 4) ai))) ai)))))))
   (aC (a8 (pv 2)))))),?_⟩
  refine⟨by show 0<=sizeLine;decide,λL hL=>?_⟩;refine⟨_,rfl,_,_,rfl,rfl,⟨by decide,by decide,by decide⟩,_,_,rfl,rfl,?_⟩;refine⟨_,rfl,m,rfl,(b0 (by omega)).1,(b0 (by omega)).2,gq (lo:=0) (n:=((m:Int)).toNat) (λi σ H2=>∃(v4:Option V) (x:Int) (ns:List Int),σ = [some (.int c),some (.int m),some (.ref L),some (.int x),v4]/\Same H H2/\H2 L=some (.lst (ns.map V.int))/\ns.length=i/\Small ns)
   ⟨none,_,[],rfl,Same.put hL,av,rfl,λ_ h=>nomatch h⟩ ?_ ?_⟩
  ·rintro i σ H2 hi ⟨v4,x,ns,rfl,s2,hl,hlen,hsm⟩
   have sn:∀y:Int,0<=y->y<2147483648->Small (ns++[y]):=λy h0 h1 z hz=>by
    rcases hV.mp hz with hz|hz
    ·exact hsm z hz
    ·simp at hz;subst hz;exact⟨h0,h1⟩
   have sk:∀{H3:Hp} {o:HO},Same H2 H3->Same H (upd H3 L o):=λs3 b o e=>by
    rw[aA (λz=>by rw[z,hL]at e;cases e)];exact s3 _ _ (s2 _ _ e)
   have hz:(ns.map V.int).length<sizeLine:=by rw[aD];exact mO (by omega)
   refine⟨_,rfl,_,_,rfl,rfl,_,rfl,dm (λh=>?_) (λh=>?_)⟩
   ·have q:=m6 x (show(1000003:Int)≠0 by decide)
    have q':=qR x (show(0:Int)<1000003 by decide);refine⟨_,rfl,.inl ⟨rfl,_,ak.of hl⟩,_,rfl,_,_,rfl,rfl,(by show(0:Int)<1000003;decide),L,_,_,rfl,rfl,hl,hz,?_⟩;refine⟨_,rfl,_,_,rfl,rfl,⟨by decide,by decide⟩,?_⟩;exact⟨_,_,ns++[x % 1000003],rfl,sk (Same.refl _),by rw[av];simp,by simp[hlen],sn _ q (by omega)⟩
   ·refine⟨_,rfl,.inl ⟨rfl,_,ak.of hl⟩,_,rfl,_,rfl,c,i,by simp,by omega,λy H3 y0 y1 s3=>?_⟩
    exact⟨L,_,_,rfl,rfl,s3 _ _ hl,hz,_,x,ns++[y],rfl,sk s3,by rw[av];simp,by simp[hlen],sn _ y0 y1⟩
  ·rintro σ H2 ⟨v4,x,ns,rfl,s2,hl,hlen,hsm⟩
   exact⟨_,rfl,kk L ns H2 s2 hL hl (hlen.trans em) hsm⟩
end
end My
namespace L2
open PySem PySem.Spec PyProof.Rows
theorem O5{x y:Int}{t u:Tok}{c:Value}:∀(l:List Value),TriplesOk l->TriplesOk (l++[.int x t,.int y u,c]):=by
 intro l h
 fun_induction TriplesOk l with
 |case1=>exact trivial
 |case2 a b d e f r ih=>exact ih h
 |case3 l h1 h2=>exact False.elim h
noncomputable def DP(o:Obj)(qual:Str):Prop:=∃vs t,o.data = .fields vs/\vs[1]?=some (.str qual t)
noncomputable def kQ(p:Addr)(qual:Str)(params:Arguments)(body:Expr)(scope:Scope)(cl:List (Str × Addr))(c:Addr):HO:=
 .ext λh=>∃pm ctv,h.get? p=some (W.kla_obj "<lambda>" qual params body scope cl pm c ctv)
structure cW (H:Hp) (p:Addr) (qual:Str) (params:Arguments) (body:Expr) (scope:Scope) (cl:List (Str × Addr)):Prop where
 ex:∃c o u,H c=some (.bU o u)/\DP o qual/\H p=some (kQ p qual params body scope cl c)
section
variable {P:Program} {w:World} {H H':Hp} {h:Heap} {p:Addr} {qual:Str} {params:Arguments} {body:Expr} {scope:Scope} {cl:List (Str × Addr)}
theorem y7 {c:Addr} {pm ctv:Value} (e:h.get? p=some (W.kla_obj "<lambda>" qual params body scope cl pm c ctv)):aK P w H h p (kQ p qual params body scope cl c):=
 ⟨⟨pm,ctv,e⟩,⟨_,e⟩,λ_ _ ⟨pm,ctv,e⟩ k=>⟨pm,ctv,k _ e⟩⟩
theorem cW.same(L:cW H p qual params body scope cl)(s:Same H H'):cW H' p qual params body scope cl:=
 let⟨c,o,u,h1,h2,h3⟩:=L.ex;⟨c,o,u,s _ _ h1,h2,s _ _ h3⟩
theorem cW.get (L:cW H p qual params body scope cl) (ok:aZ P w H h):∃c pm ctv,h.get? p=some (W.kla_obj "<lambda>" qual params body scope cl pm c ctv)/\h.CodeRec (.ref c) qual:=by
 obtain⟨c,o,u,h1,⟨vs,t,d1,d2⟩,h3⟩:=L.ex;obtain⟨⟨pm,ctv,e⟩,_⟩:=(show aK P w H h p (kQ p qual params body scope cl c)from ok p _ h3);obtain⟨e2,_⟩:=ok c _ h1;exact⟨c,pm,ctv,e,c,o,vs,t,rfl,e2,d1,d2⟩
end
structure TabAt (base:Heap) (mg:Str->Option Value) (c P:Addr):Prop where
 hd:W.CodeHd base c P
 bm:∃bm ob,mg "__builtins__" = some (.ref bm)/\bm≠builtinsNs/\base.get? bm=some ob/\ob.cls = .type "module" /\ ob.dict=some builtinsNs/\ob.data = .plain
noncomputable def qy(P:Addr)(pos:Pos)(qual:Str)(params:Arguments)(body:Expr)(scope:Scope)(cl:List (Str × Addr)):TE:=λ_ H Q =>
 H P=some (.lam pos qual)/\∀p H1,Same H H1->H p=none->cW H1 p qual params body scope cl->Q (.ref p) H1
section
variable {X:Cx} {c P:Addr} {params:Arguments} {body:Expr} {scope:Scope} {pos:Pos}
theorem Al(T:TabAt X.base X.mg c P)(hcode:X.env.code = .ref c)(B:X.Ok->∀x∈scope.names,x.2 = .free->∃cc,X.env.cells.lookup x.1=some cc)(hdef:defaultsOf params X.env=([],[]):=by rfl):
  PE X (.Lambda params body scope pos) (qy P pos (X.env.qual ++ "<lambda>") params body scope (bx X.env.cells scope.names [])):=by
 intro pins s σ H Q I ⟨hP,q⟩;refine W.kla_eval hdef ?_;obtain⟨ps,x6,ht,hc⟩:=(show aK X.prog X.w H s.heap P (.lam pos (X.env.qual ++ "<lambda>"))from I.hok P _ hP);have hg:s.heap.Ns mainGlobals X.mg:=I.mod.glob.keeps I.bk;have C:=T.hd.keeps I.bk;obtain⟨bm,ob,b1,b2,b3,b4,b5,b6⟩:=T.bm;have zB:∀b o,X.base.get? b=some o->b≠P:=λb o e z=>by
  have:=(I.bs b o e).2;rw[z,hP]at this;cases this
 have hgP:mainGlobals≠P:=by
  obtain⟨o,es,ep,e,_⟩:=I.mod.glob;exact zB _ o e
 have hbG:bm≠mainGlobals:=λz=>by
  obtain⟨o,es,ep,e,hd,_⟩:=I.mod.glob;rw[z,e]at b3;cases b3;rw[hd]at b6;cases b6
 have hb:s.heap.BuiltinsAt X.mg P:=⟨bm,ob,b1,b2,hbG,zB _ _ b3,I.bk _ _ b3,b4,b5,b6⟩;cases hf:codeAmong pos ps.toList with
 |some cv =>
  obtain⟨c',o,u,vs,t,rfl,hz,hd,hv⟩:=hc _ hf;refine W.kla_makeFunctionHit (oh (B I.ok)) I.ok.glob hg hcode C x6 ht hf hb λctv h' tk hk hsz=>?_;have I1:Inv X pins σ (upd H h'.objs.size (kQ h'.objs.size (X.env.qual ++ "<lambda>") params body scope (bx X.env.cells scope.names []) c')) _:=
   I.laid (t':=tk) (λb u e=>au (W.kla_obj "<lambda>" (X.env.qual ++ "<lambda>") params body scope (bx X.env.cells scope.names []) ((X.mg "__name__").getD .none) c' ctv) (hk b u e)) hsz (y7 (aQ _ rfl))
  have hn:H h'.objs.size=none:=I.hok.fresh hsz;exact⟨.ref h'.objs.size,_,I1,rfl,q _ _ (Same.put hn) hn ⟨c',o,u,Same.put hn _ _ hz,⟨vs,t,hd,hv⟩,av⟩⟩
 |none =>
  refine W.kla_makeFunction (oh (B I.ok)) I.ok.glob hg hcode C x6 ht hf hgP hb λc' ctv h' tk hx hge hlt hrec htb=>?_;obtain⟨c2,oc,vs,t,e2,hoc,hd,hv⟩:=hrec;cases e2;have hn:H c'=none:=I.hok.fresh hge;have cP:c'≠P:=λz=>by rw[z,hP]at hn;cases hn
  have nP:∀b,H b=none->b≠P:=λb e z=>by rw[z,hP]at e;cases e
  have sm:Same H (upd H c' (.bU oc (.own c'))):=Same.put hn;have I1:Inv X pins σ (upd H c' (.bU oc (.own c'))) {s with heap:=h',toks:=tk}:=by
   refine I.un ⟨λb o e n _ _=>hx b o (nP b n) e,λb o e n _ _=>⟨o.slots,hx b o (nP b n) e⟩,λb o e n _=>?_,λb o e _=>?_,λb xs e=>sm _ _ e,λb o u e=>sm _ _ e,λb ps e=>⟨#[],by rw[sm _ _ e];simp⟩⟩ ?_
   ·rw[aA (aP (cq (aG e) hge))];exact n
   ·by_cases hb:b=P
    ·exact⟨_,by rw[hb];exact htb⟩
    ·exact⟨o,hx b o hb e⟩
   ·intro b u e
    by_cases hb:b=c'
    ·subst hb
     rw[av]at e;cases e;exact⟨hoc,oc,hoc⟩
    ·rw[aA hb]at e
     by_cases hb2:b=P
     ·subst hb2
      rw[hP]at e;cases e;have ea:(ps++#[rawInt pos.line,rawInt pos.col,.ref c']).toList=ps.toList++[rawInt pos.line,rawInt pos.col,.ref c']:=by simp
      refine⟨_,htb,?_,λcv z=>?_⟩
      ·rw[ea];exact O5 _ ht
      ·rw[ea,codeAmong_snoc _ ht hf]at z
       cases z;exact⟨c',oc,.own c',vs,t,rfl,av,hd,hv⟩
     ·refine(I.hok b u e).stay (λd v hd' r=>hx d v ?_ r) (λd r=>sm _ _ r) (λd xs r=>sm _ _ r) λd ob' u' r=>sm _ _ r
      rcases hd' with rfl|hd'
      ·exact hb2
      ·intro z;rw[z,hP]at hd';cases hd'
  have hsz:({s with heap:=h',toks:=tk}:Shared).heap.objs.size<=h'.objs.size:=aB _;have I2:Inv X pins σ (upd (upd H c' (.bU oc (.own c'))) h'.objs.size (kQ h'.objs.size (X.env.qual ++ "<lambda>") params body scope (bx X.env.cells scope.names []) c')) _:=
   I1.laid (t':=tk) (λb u e=>au (W.kla_obj "<lambda>" (X.env.qual ++ "<lambda>") params body scope (bx X.env.cells scope.names []) ((X.mg "__name__").getD .none) c' ctv) e) hsz (y7 (aQ _ rfl))
  have hn2:upd H c' (.bU oc (.own c')) h'.objs.size=none:=I1.fresh;exact⟨.ref h'.objs.size,_,I2,rfl,q _ _ (sm.trans (Same.put hn2)) (sm.free hn2) ⟨c',oc,.own c',Same.put hn2 _ _ av,⟨vs,t,hd,hv⟩,av⟩⟩
end
theorem zk{α:Type}{x:Str}{u:α}:∀{l:List (Str × α)},(l.map (·.1)).Nodup->(x,u)∈l->l.lookup x=some u
 | [],_,h=>nomatch h
 | (y,v)::r,nd,h=>by
  rw[bJ,fS]at nd;rw[eG]
  rcases a9.mp h with e|h2
  ·cases e;simp
  ·have:(x==y)=false:=by
    rw[iU];rintro rfl;exact nd.1 (cG.mpr ⟨_,h2,rfl⟩)
   rw[this];exact zk nd.2 h2
theorem Dx{α β:Type}:∀(l:List α) (m:List β),((l.zip m).map (·.1)).Sublist l
 | [],_=>by simp
 |_::_,[]=>by simp
 |a::l,b::m=>by rw[jC,bJ];exact(Dx l m).cons_cons a
theorem P5{ps:List Str}{us:List Value}{i:Nat}{x:Str}{u:Value}(nd:ps.Nodup)(h1:ps[i]?=some x)(h2:us[i]?=some u):(ps.zip us).reverse.lookup x=some u:=by
 refine zk ?_ (List.mem_reverse.mpr (bK (i:=i) ?_))
 ·rw[List.map_reverse]
  refine(List.reverse_perm _).nodup_iff.mpr (nd.sublist ?_);exact Dx _ _
 ·rw[q0];exact⟨h1,h2⟩
structure ni (ps fr:List Str) (sc:Scope):Prop where
 kind:sc.kind = .function
 co:sc.isCoroutine=false
 gen:sc.isGenerator=false
 nd:(ps++fr).Nodup
 mq:∀y∈sc.names,y.2≠.cell
 par:∀x∈ps,sc.names.lookup x=some .local
 GZ:∀x∈fr,sc.names.lookup x=some .free
noncomputable def lO(P:Program)(w:World)(K:W.Frag)(mg:Str->Option Value)(base:Heap)(N:List Str)(qual:Str)(scope:Scope)(p:Addr)(cd:Value)(cl:List (Str × Addr))(A:Around)(outer:List Env)(s:Shared)(H:Hp):Cx where
 prog:=P
 w:=w
 K:=K
 mg:=mg
 base:=base
 A:=A.deeper (W.envX qual scope s.heap.objs.size p cd cl)
 N:=N
 s₀:=s
 H₀:=H
 env:=W.envX qual scope s.heap.objs.size p cd cl
 outer:=outer
 stack:=W.envX qual scope s.heap.objs.size p cd cl::outer
 ex:=[]
 calm:=true
 fn:=λ_=>false
 pn:=[]
 xe:=λ_ _=>False
section
variable {P:Program} {w:World} {K:W.Frag} {mg:Str->Option Value} {base:Heap} {A:Around} {outer:List Env} {s:Shared} {H:Hp} {p c:Addr} {qual:Str} {params:Arguments} {body:Expr} {scope:Scope} {cl:List (Str × Addr)}
 {ps fr:List Str} {vs:List V} {us:List Value} {zs:St} {pm ctv:Value} {Q:VK} {t:TE}
structure qU (h:Heap) (H:Hp) (scope:Scope) (cl:List (Str × Addr)) (fr:List Str) (zs:St):Prop where
 cell:∀x cc,cl.lookup x=some cc->(∃v,h.IsCell cc v)/\H cc=none
 inj:∀x y cc,cl.lookup x=some cc->cl.lookup y=some cc->x=y
 has:∀x,scope.names.lookup x=some .free->∃cc,cl.lookup x=some cc
 len:zs.length=fr.length
 val:∀(i:Nat) x v,fr[i]?=some x->zs[i]?=some (some v)->∃cc u,cl.lookup x=some cc/\h.IsCell cc (some u)/\RelV v u
theorem Jt(S:ni ps fr scope)(hd:A.handled=none)(e0:eD P w K mg base A outer s H)(hl:vs.length=ps.length)(r:Vals vs us)(L:qU s.heap H scope cl fr zs){cd:Value}{h₁:Heap}{tk:Nat}(hns:h₁.Ns s.heap.objs.size λx=>(ps.zip us).reverse.lookup x)(hk:∀b o,s.heap.get? b=some o->h₁.get? b=some o):
  Inv (lO P w K mg base (ps++fr) qual scope p cd cl A outer s H) [] (vs.map some++zs) H {s with heap:=h₁,toks:=tk}:=by
 have gG:∀b:Addr,b ∉ (lO P w K mg base (ps++fr) qual scope p cd cl A outer s H).ex:=λb z=>absurd (show b∈([]:List Addr)from z) (by simp);refine⟨⟨e0.mod,S.kind,rfl,rfl,aB _,L.inj,λy hy=>?_,λy c h=>(nomatch h),λ_=>hd,Around.frames_deeper e0.frames,.inr ⟨rfl,rfl⟩,λb z=>absurd z (gG b),e0.bs,e0.d5,λb _ _=>gG b,λb z=>absurd z (gG b),e0.dh,e0.fJ⟩,
  rfl,e0.bare,Un.kept hk,⟨_,hns,λi y v h1 h2 h3=>?_⟩,λy cc h=>?_,e0.hok.fresh (aB _),λy cc h=>(L.cell y cc h).2,λq hq=>absurd (show q∈([]:List (Addr × Obj))from hq) (by simp),e0.hok.kept hk,?_⟩
 ·have hy:scope.names.lookup y=some .cell\/scope.names.lookup y=some .free:=hy
  rcases hy with hy|hy
  ·exact absurd rfl (S.mq _ (fC hy))
  ·exact L.has y hy
 ·have h1:(ps++fr)[i]?=some y:=h1
  by_cases hi:i<vs.length
  ·rw[jy (by simpa using hi),bB]at h2
   rw[jy (by omega)]at h1;cases e:vs[i]? with
   |none=>rw[e]at h2;cases h2
   |some a =>
    rw[e]at h2;cases h2;obtain⟨u,hu,rv⟩:=r.get e;exact⟨u,rv,.inl ⟨S.par y (bK h1),P5 (S.nd.sublist (List.sublist_append_left _ _)) h1 hu⟩⟩
  ·rw[iN (by simpa using hi),aD]at h2
   rw[iN (by omega)]at h1;rw[hl]at h2;obtain⟨cc,u,e1,e2,e3⟩:=L.val _ y v h1 h2;exact⟨u,e3,.inr ⟨.inr (S.GZ y (bK h1)),cc,e1,e2.keeps hk⟩⟩
 ·obtain⟨⟨v,z⟩,_⟩:=L.cell y cc h
  exact⟨v,z.keeps hk⟩
 ·show _=(ps++fr).length
  rw[cX,aD,cX,L.len,hl]
theorem Jr (S:ni ps fr scope) (hr:A.depth<recursionLimit) (hd:A.handled=none) (e0:eD P w K mg base A outer s H) (ho:s.heap.get? p=some (W.kla_obj "<lambda>" qual params body scope cl pm c ctv)) (hcd:s.heap.CodeRec (.ref c) qual)
  (hb:bindArgs (W.kla_fn "<lambda>" qual params body scope cl pm (.ref c) ctv) ⟨us,[]⟩=pure (ps.zip us)) (hl:vs.length=ps.length) (r:Vals vs us) (L:qU s.heap H scope cl fr zs)
  (hbody:PE (lO P w K mg base (ps++fr) qual scope p (.ref c) cl A outer s H) body t) (hq:t (vs.map some++zs) H Q) :
  codeAny (model P w) A (.call (.ref p) ⟨us,[]⟩) (λr s'=>∃u,r = .ok (.ret u)/\CE outer P w H s Q u s') s:=by
 have lim:s.heap.NoLimit:=e0.mod.nolimit.keeps λb o e=>(e0.bs b o e).1;refine W.kla_callFunE hr ho rfl S.co S.gen rfl hcd ?_;rw[hb];refine ah (wpAny_newFunctionEnv S.mq (λx hx=>S.par _ (nr hx).1) (λh₁ hns hsb=>?_) S.kind);have hk:∀b o,s.heap.get? b=some o->h₁.get? b=some o:=λb o e=>hsb.extBut b o (aP (aG e)) (au _ e);refine⟨lim.keeps hk,?_⟩;show codeAny _ _ (.expr body (W.envX qual scope s.heap.objs.size p (.ref c) cl)) _ _;have I:=Jt (qual:=qual) (p:=p) (cd:=.ref c) (tk:=s.toks+(ps.zip us).length) S hd e0 hl r L hns hk;refine W.kla_codeExpr (dZ (hbody [] _ _ H Q I hq) (λv s' ⟨x,H',J,rv,q⟩=>?_) λ_ _ z=>False.elim z);exact⟨v,rfl,x,H',J.os,J.bare,J.base,J.hok,rv,q⟩
end
section
variable {X:Cx} {pins:List (Addr × Obj)} {σ:St} {H:Hp} {s:Shared} {p:Addr} {qual:Str} {params:Arguments} {body:Expr} {scope:Scope} {ps:List Str} {fr:List (Str × Nat)} {A:Around} {t:TE} {Q:VK} {vs:List V} {us:List Value} {E:Value->Shared->Prop}
noncomputable def lamσ(fr:List (Str × Nat))(σ:St):St:=fr.map λq=>σ.getD q.2 none
theorem Jp(B:dQ X scope fr)(I:Inv X pins σ H s):qU s.heap H scope (bx X.env.cells scope.names []) (fr.map (·.1)) (lamσ fr σ) where
 cell:=λx cc h=>⟨I.cell x cc (B.sub I.ok h),I.dJ x cc (B.sub I.ok h)⟩
 inj:=λx y cc h1 h2=>I.ok.inj x y cc (B.sub I.ok h1) (B.sub I.ok h2)
 has:=λx h=>lN (fC h)
 len:=by unfold lamσ;simp
 val:=λi x v e1 e2=>by
  unfold lamσ at e2;rw[bB]at e1 e2;cases hp:fr[i]? with
  |none=>rw[hp]at e1;cases e1
  |some q =>
   rw[hp]at e1 e2;simp only[wk,rn]at e1 e2;obtain⟨i1,i2⟩:=B.ix q (bK hp);subst e1;have e2':σ[q.2]?=some (some v):=by
    rw[aO]at e2;cases z:σ[q.2]? with
    |none=>rw[z]at e2;cases e2
    |some y=>rw[z]at e2;exact congrArg some e2
   have kX:X.env.kindOf q.1=some .cell\/X.env.kindOf q.1=some .free:=B.free (q.1,.free) (fC i2) rfl;obtain⟨m',hn',hl'⟩:=I.loc;obtain⟨u,r,l⟩:=hl' q.2 q.1 v i1 e2' (.inr kX)
   rcases l with⟨k,_⟩|⟨_,cc,hc,z⟩
   ·rcases kX with w|w<;>(rw[k]at w;cases w)
   ·obtain⟨c',hc'⟩:=lN (cells:=X.env.cells) (acc:=[]) (fC i2)
    have:=B.sub I.ok hc';rw[hc]at this;cases this;exact⟨cc,u,hc',z,r⟩
theorem Jq(B:dQ X scope fr)(S:ni ps (fr.map (·.1)) scope)(I:Inv X pins σ H s)(L:cW H p qual params body scope (bx X.env.cells scope.names []))(hA:A.frames=X.A.frames)(hr:A.depth<recursionLimit)(hd:A.handled=none)
  (hb:∀(cl:List (Str × Addr)) (pm cd ctv:Value) (us:List Value),us.length=ps.length->bindArgs (W.kla_fn "<lambda>" qual params body scope cl pm cd ctv) ⟨us,[]⟩=pure (ps.zip us))
  (hbody:∀(c:Addr),PE (lO X.prog X.w X.K X.mg X.base (ps++fr.map (·.1)) qual scope p (.ref c) (bx X.env.cells scope.names []) A X.stack s H) body t)
  (hl:vs.length=ps.length) (r:Vals vs us) (hq:t (vs.map some++lamσ fr σ) H Q):wpAny (model X.prog X.w) A (call (.ref p) us) (EP X pins σ Q) E s:=by
 obtain⟨c,pm,ctv,ho,hcd⟩:=L.get I.hok;have e0:=I.env0;have e1:eD X.prog X.w X.K X.mg X.base A X.stack s H:=⟨hA.trans e0.frames,e0.mod,e0.bs,e0.d5,e0.dh,e0.fJ,e0.hok,e0.bare⟩;refine la (eL (Jr S hr hd e1 ho hcd (hb _ _ _ _ _ (by rw[<- r.length];exact hl)) hl r (Jp B I) (hbody c) hq) λr s' ⟨u,e,hq⟩=>?_);subst e;exact I.after hq
end
theorem oX:∀{ns:List Int} {vs:List Value},Vals (ns.map V.int) vs->IntsAre vs ns
 | [],_,.nil=>.nil
 |n::ns,_,.cons r t=>by
  obtain⟨k,rfl⟩:=r;exact .cons n k (oX t)
theorem Lc{α β:Type}{R:α->β->Prop}{l' m':List β}(h:m'.Perm l'):∀{l:List α},Paired R l l'->∃m,m.Perm l/\Paired R m m':=by
 induction h with
 |nil=>intro l p;exact⟨l,.refl _,p⟩
 |cons x _ ih =>
  intro l p;cases p with
  |cons r t =>
   obtain⟨m,h1,h2⟩:=ih t;exact⟨_::m,h1.cons _,.cons r h2⟩
 |swap x y l =>
  intro l p;cases p with
  |cons r t =>
   cases t with
   |cons r' t'=>exact⟨_,.swap _ _ _,.cons r' (.cons r t')⟩
 |trans _ _ ih1 ih2 =>
  intro l p;obtain⟨m1,h1,h2⟩:=ih2 p;obtain⟨m2,h3,h4⟩:=ih1 h2;exact⟨m2,h3.trans h1,h4⟩
noncomputable def jM(kz:List Int)(xs ys:List V):Prop:=∃ps:List (Int × V),ps.Perm (kz.zip xs)/\ys=ps.map Prod.snd/\ps.Pairwise λp q=>p.1<=q.1
theorem Dy:∀{kz:List Int} {xs:List V} {us:List Value},Vals xs us->Paired (λ(p:Int × V) (q:Int × Value)=>p.1=q.1/\RelV p.2 q.2) (kz.zip xs) (kz.zip us)
 | [],_,_,_=>by simp;exact .nil
 |_::_,_,_,.nil=>by simp;exact .nil
 |k::kz,_,_,.cons r t=>by rw[jC,jC];exact .cons ⟨rfl,r⟩ (Dy t)
theorem Aj:∀{l:List (Int × V)} {m:List (Int × Value)},Paired (λ(p:Int × V) (q:Int × Value)=>p.1=q.1/\RelV p.2 q.2) l m->Vals (l.map Prod.snd) (m.map Prod.snd)/\l.map Prod.fst=m.map Prod.fst
 |_,_,.nil=>⟨.nil,rfl⟩
 |_,_,.cons r t=>by
  obtain⟨h1,h2⟩:=Aj t;exact⟨.cons r.2 h1,by rw[bJ,bJ,h2,r.1]⟩
theorem CG{kz:List Int}{xs:List V}{us out:List Value}(r:Vals xs us)(h:KskOut false kz us out):∃ys,Vals ys out/\jM kz xs ys:=by
 obtain⟨qs,h1,h2,h3⟩:=h;obtain⟨ps,g1,g2⟩:=Lc h1 (Dy (kz:=kz) r);obtain⟨g3,g4⟩:=Aj g2;refine⟨ps.map Prod.snd,by rw[h2];exact g3,ps,g1,rfl,?_⟩;have h5:(qs.map Prod.fst).Pairwise (·<=·):=by
  rw[hW];exact h3.imp λ{a b} z=>z
 rw[<- g4,hW]at h5;exact h5
section
variable {prog:Program} {w:World} {A:Around} {E:Value->Shared->Prop} {s:Shared} {a kS:Addr} {e1:Nat} {keys:Array Value} {its:List Value} {kz:List Int}
end
noncomputable def Er(K:W.Frag)(H:Hp)(v:V)(xs:List V):Prop:=
 (∃r n,v = .ref r/\H r=some (.rng 0 n)/\-(2 ^ 62)<=n/\n<2 ^ 62/\xs=(List.range n.toNat).map λ(i:Nat)=>V.int i)\/(∃r,v = .ref r/\ak K H r xs)
section
variable {X:Cx} {pins:List (Addr × Obj)} {σ:St} {H:Hp} {s:Shared} {A:Around} {E:Value->Shared->Prop}
theorem Pk{its:Array Value}{n:Nat}(h:ItemsOf (λi v=>∃t,v=Value.int (0+(i:Nat)*1) t) its n):Vals ((List.range n).map λ(i:Nat)=>V.int i) its.toList:=by
 have go:∀(us:List Value) (k:Nat),(∀(j:Nat) v,us[j]?=some v->∃t,v=Value.int ((k+j:Nat):Int) t)->Vals ((List.range' k us.length).map λ(i:Nat)=>V.int i) us:=by
  intro us
  induction us with
  |nil=>intro k _;exact .nil
  |cons u us ih =>
   intro k hu;rw[dc,List.range'_succ,bJ];refine .cons ?_ (ih (k+1) λj v e=>?_)
   ·obtain⟨t,e⟩:=hu 0 u rfl
    exact⟨t,by simpa using e⟩
   ·obtain⟨t,e⟩:=hu (j+1) v (by simpa using e)
    exact⟨t,by rw[e];congr 1;omega⟩
 have:=go its.toList 0 λj v e=>by
  obtain⟨t,q⟩:=h.2 j v (by simpa using e);exact⟨t,by rw[q];congr 1;simp⟩
 rw[dw,h.1]at this;rw[List.range_eq_range'];exact this
theorem FQ{v:V}{u:Value}{xs:List V}{R:List Value->Shared->Prop}(hh:A.handled=none)(I:Inv X pins σ H s)(r:RelV v u)(h:Er X.K H v xs)(hz:xs.length<=2 ^ 24)(q:∀its s',Vals xs its->Inv X pins σ H s'->R its s'):wpAny (model X.prog X.w) A (collect u) R E s:=by
 have Qf:(2:Nat) ^ 24<=sizeLine:=by decide +kernel
 rcases h with⟨a,n,rfl,ha,b1,b2,rfl⟩|⟨a,rfl,ha⟩
 ·obtain rfl:u = .ref a:=r
  obtain⟨t,t',t'',ea⟩:=(show aK X.prog X.w H s.heap a (.rng 0 n)from I.hok a _ ha);have sz:n.toNat<=2 ^ 24:=by simpa using hz
  unfold collect;refine ae (rR (fV wt ?_));show wpAny _ _ (newList []>>=λl=>again (.builtin "list.__iadd__" ⟨[l,.ref a],[]⟩)) _ _ s;have old:∀b o,s.heap.get? b=some o->(s.heap.push (seqObj "list" #[] 0)).get? b=some o:=λb o e=>au _ e;have add:codeAny (model X.prog X.w) A (.builtin "list.__iadd__" ⟨[.ref s.heap.objs.size,.ref a],[]⟩) (λr s'=>r = .ok (.ret (.ref s.heap.objs.size))/\∃h' tk acc c',s' = {s with heap:=h',toks:=tk}/\(∀b o,s.heap.get? b=some o->h'.get? b=some o) /\
    h'.get? s.heap.objs.size=some {cls:=.type "list", dict:=none,data:=.seq acc c',slots:=#[]}/\Vals ((List.range n.toNat).map λ(i:Nat)=>V.int i) acc.toList) {s with heap:=s.heap.push (seqObj "list" #[] 0)}:=by
   refine fV entry_list_iadd' ?_;show wpAny _ A.in1 (Builtin.List.listExtendWith (.ref s.heap.objs.size) (.ref a) (.ref s.heap.objs.size)) _ _ _;exact wpAny_extend_range (s:={s with heap:=s.heap.push (seqObj "list" #[] 0)}) (R:=λr s'=>r = .ok (.ret (.ref s.heap.objs.size))/\∃h' tk acc c',s' = {s with heap:=h',toks:=tk}/\(∀b o,s.heap.get? b=some o->h'.get? b=some o) /\
    h'.get? s.heap.objs.size=some {cls:=.type "list", dict:=none,data:=.seq acc c',slots:=#[]}/\Vals ((List.range n.toNat).map λ(i:Nat)=>V.int i) acc.toList)
    (n:=n.toNat) hh (old _ _ ea) (small_one (by omega) (by omega) b1 b2) (by rw[rangeSize_one];split<;>omega) sz s.heap.objs.size (.ref s.heap.objs.size) 0 (aQ _ rfl) λh' tk acc c' hk hS hacc =>
     ⟨rfl,h',tk,acc,c',rfl,λb o e=>hk b o (aP (aG e)) (old b o e),hS,Pk hacc⟩
  refine ae (h_ (ah ⟨rq _ (by decide +kernel),eL add λr s' hr=>?_⟩));obtain⟨rfl,h',tk,acc,c',rfl,hk,hS,hv⟩:=hr;show wpAny _ A (load s.heap.objs.size>>=λo=>match o.data with | .seq xs _=>pure xs.toList|_=>unsupported "internal:collect") _ _ _;refine ae (wpAny_load hS ?_);exact ah (q _ _ hv (I.kept hk))
 ·obtain rfl:u = .ref a:=r
  obtain⟨its,hl,rv⟩:∃its:List Value,s.heap.IsList a its.toArray/\Vals xs its:=by
   rcases ha with ha|⟨o,its,n,e1,e2,e0,e3,e4,e6⟩
   ·obtain⟨_,its,n,rv,e⟩:=ha.ok I.hok
    exact⟨its,⟨_,e,rfl,n,rfl⟩,rv⟩
   ·exact⟨its.toList,⟨o,I.bI _ _ e1,e2,n,by simpa using e3⟩,e6⟩
  refine collect_list hl (q _ _ rv (I.kept λb o e=>?_)) (by rw[<- rv.length];omega);rw[h9 _ _ _ _ (aP (aG e))];exact au _ e
end
section
variable {X:Cx} {pins:List (Addr × Obj)} {σ:St} {G0:Hp} {s:Shared} {A:Around} {E:Value->Shared->Prop} {a kS p:Addr} {e1:Nat} {qual x:Str} {params:Arguments} {body:Expr} {scope:Scope} {fr:List (Str × Nat)} {tb:TE}
 {xs:List V} {its:List Value} {R:PySem.Fin->Shared->Prop} {Kp:Nat->V->Hp->Prop}
structure ng (X:Cx) (qual x:Str) (params:Arguments) (body:Expr) (scope:Scope) (fr:List (Str × Nat)) (tb:TE):Prop where
 blk:dQ X scope fr
 sc:ni [x] (fr.map (·.1)) scope
 bind:∀(cl:List (Str × Addr)) (pm cd ctv:Value) (us:List Value),us.length=1->bindArgs (W.kla_fn "<lambda>" qual params body scope cl pm cd ctv) ⟨us,[]⟩=pure ([x].zip us)
 run:∀(A:Around) (s:Shared) (H:Hp) (p c:Addr),A.guards=X.A.guards->A.units<=X.A.units+2->A.depth=X.A.depth->PE (lO X.prog X.w X.K X.mg X.base ([x]++fr.map (·.1)) qual scope p (.ref c) (bx X.env.cells scope.names []) A X.stack s H) body tb
theorem sort_keys(hA:A.frames=X.A.frames)(hd:A.handled=none)(hr:A.depth<recursionLimit)(jY:A.guards=X.A.guards/\A.units<=X.A.units+2/\A.depth=X.A.depth)(KL:ng X qual x params body scope fr tb)(hlen:its.length<1000)
  (I:Inv X ((a,seqObj "list" #[] e1)::pins) σ G0 s) (hkS:G0 kS=some (.lst [])) (L:cW G0 p qual params body scope (bx X.env.cells scope.names [])) (rv:Vals xs its)
  (mono:∀i z H H',Kp i z H->bT kS H H'->Kp i z H') (turn:∀(i:Nat) y,xs[i]?=some y->∀H3,bT kS G0 H3->(∃kv,H3 kS=some (.lst kv))->tb (some y::lamσ fr σ) H3 λz H4=>Kp i z H4/\Same H3 H4)
  (fin:∀(kv:List V) (G:Hp) (s':Shared) (keys:List Value) (n:Nat),kv.length=xs.length->(∀(i:Nat) z,kv[i]?=some z->Kp i z G)->Inv X ((a,seqObj "list" #[] e1)::pins) σ G s'->G kS=some (.lst kv)->bT kS G0 G ->
   s'.heap.get? kS=some (seqObj "list" keys.toArray n)->Vals kv keys->wpAny (model X.prog X.w) A (ksk_end a false its.toArray e1 (.ref kS) keys.toArray) R E s') :
  wpAny (model X.prog X.w) A (ksk_rest a (.ref p) false its.toArray e1 (.ref kS)) R E s:=by
 have big:(1000:Nat)<=sizeLine:=by decide +kernel
 unfold ksk_rest;refine ae (ie (ae ?_))
 first
  |rw[List.forIn_toArray]
  |rw[<- Array.forIn_toList]
 refine ksk_fold (λi s'=>∃(kv:List V) (G:Hp),kv.length=i/\(∀(j:Nat) z,kv[j]?=some z->Kp j z G)/\Inv X ((a,seqObj "list" #[] e1)::pins) σ G s'/\G kS=some (.lst kv)/\bT kS G0 G) its 0 s
  ⟨[],G0,rfl,λj z e=>by simp at e,I,hkS,λb o _ e=>e⟩ ?_ ?_
 ·rintro j v s' hv ⟨kv,G,hl,hK,J,hG,sm⟩
  rw[Nat.zero_add]at hl ⊢;obtain⟨y,hy,ry⟩:∃y,xs[j]?=some y/\RelV y v:=by
   have hj:j<xs.length:=by rw[rv.length];exact(bF.mp hv).1
   obtain⟨u,e1,e2⟩:=rv.get (aq hj);rw[hv]at e1;cases e1;exact⟨_,aq hj,e2⟩
  have hj:j<its.length:=(bF.mp hv).1;have LG:cW G p qual params body scope (bx X.env.cells scope.names []):=by
   obtain⟨c,o,u,h1,h2,h3⟩:=L.ex;exact⟨c,o,u,sm _ _ (gF h1 hkS (by intro z;cases z)) h1,h2,sm _ _ (gF h3 hkS (by intro z;cases z)) h3⟩
  refine ae (fW (dZ (Jq (E:=λ_ _=>False) KL.blk KL.sc J LG hA hr hd KL.bind (λc=>KL.run A s' G p c jY.1 jY.2.1 jY.2.2) (vs:=[y]) (us:=[v]) rfl (.cons ry .nil) (turn j y hy G sm ⟨_,hG⟩)) (λk s2 ⟨z,H4,J4,rz,hz,s4⟩=>?_) λ_ _ z=>z.elim));have g4:=s4 _ _ hG;obtain⟨_,ks,n,rk,lk,ek⟩:=J4.gE g4;refine ae (h6 ek rfl ?_ (by show(ks.toArray).size<=sizeLine;rw[a_];omega) (by show(ks.toArray.push k).size<=sizeLine+1;rw[Array.size_push,a_];omega));have J5:=J4.ke (f:=(·.push k)) (its':=ks++[k]) (ys:=kv++[z]) (t':=s2.toks) g4 ek (by simp) (rk.append (.cons rz .nil)) (by rw[cX,kY];omega);have sx:bT kS H4 (upd H4 kS (.lst (kv++[z]))):=λb o hb e=>by rw[aA hb];exact e
  refine ah ⟨rfl,kv++[z],_,by rw[cX,kY,hl],λi q e=>?_,J5,av,λb o hb e=>sx b o hb (s4 b o (sm b o hb e))⟩
  by_cases hi:i<kv.length
  ·rw[jy hi]at e
   exact mono _ _ _ _ (mono _ _ _ _ (hK i q e) λb o _ e=>s4 b o e) sx
  ·rw[iN (rh hi)]at e
   have hi2:i - kv.length=0:=by
    have:=(bF.mp e).1;rw[kY]at this;omega
   rw[hi2]at e;cases e;obtain rfl:i=j:=by omega
   exact mono _ _ _ _ hz sx
 ·rintro s' ⟨kv,G,hl,hK,J,hG,sm⟩
  obtain⟨_,ks,n,rk,lk,ek⟩:=J.gE hG;refine ae (jG ek rfl ?_);exact fin kv G s' ks n (by rw[hl,rv.length];omega) hK J hG sm ek rk
theorem N0 {keys:List Value} {n:Nat} {G:Hp} {kv:List V} {st:SortSt} {ys:List V} {out:List Value} (I:Inv X ((a,seqObj "list" #[] e1)::pins) σ G s) (hkS:G kS=some (.lst kv)) (ek:s.heap.get? kS=some (seqObj "list" keys.toArray n))
  (hz:keys.length<=sizeLine) (fa:bW X pins G a) (hf:failedOf st=none) (ho:((arrOf st).map (·.2)).toList=out) (rv:Vals ys out) (Il:out.length<=sizeLine)
  (q:∀s',Inv X pins σ (upd (upd G kS (.lst [])) a (.lst ys)) s'->R (.done (.ret .none)) s'):wpAny (model X.prog X.w) A (ksk_tail a false e1 (.ref kS) st) R E s:=by
 have ea:=(I.pin (a,seqObj "list" #[] e1) (dS _ (bR ..))).1;have zG:a≠kS:=λz=>by rw[<- z,fa.1]at hkS;cases hkS
 have ho':(arrOf st).map (·.2)=out.toArray:=by rw[<- ho]
 unfold ksk_tail;dsimp only;refine ae (h6 ek rfl ?_ (by show(keys.toArray).size<=sizeLine;rw[a_];exact hz) (bE _));have J1:=I.ke (f:=λ_=>#[]) (its':=[]) (ys:=[]) (t':=s.toks) hkS ek rfl .nil (bE _);have jT:(s.heap.update kS (Obj.mapSeq λ_=>(#[]:Array Value))).get? a=some (seqObj "list" #[] e1):=by rw[h9 _ _ _ _ zG];exact ea
 refine ae (rN (ae (jH jT rfl (ae (h6 jT rfl ?_ (bE _) (by show((arrOf st).map (·.2)).size<=sizeLine+1;rw[ho',a_];omega))))));rw[hf];simp only[sf,dz,c6];refine ah (q _ ?_);have K1:Inv X pins σ (upd G kS (.lst [])) {s with heap:=s.heap.update kS (Obj.mapSeq λ_=>(#[]:Array Value)),toks:=s.toks}:=J1.pN λp hp=>(J1.pin p (dS _ (bG _ hp)));have gn:upd G kS (.lst []) a=none:=by rw[aA zG];exact fa.1
 have keep:∀b o,b≠a->(s.heap.update kS (Obj.mapSeq λ_=>(#[]:Array Value))).get? b=some o->((s.heap.update kS (Obj.mapSeq λ_=>(#[]:Array Value))).update a (Obj.mapSeq λ_=>(arrOf st).map (·.2))).get? b=some o:=λb o hb e=>by
  rw[h9 _ _ _ _ hb];exact e
 have hit:∃c,((s.heap.update kS (Obj.mapSeq λ_=>(#[]:Array Value))).update a (Obj.mapSeq λ_=>(arrOf st).map (·.2))).get? a=some (seqObj "list" out.toArray c):=by
  rw[ho'];exact⟨_,iS jT λ_=>out.toArray⟩
 obtain⟨c,hit⟩:=hit;have jg:∀b u,upd G kS (.lst []) b=some u->b≠a:=λb u e z=>by rw[z,gn]at e;cases e
 refine Inv.step (s:={s with heap:=s.heap.update kS (Obj.mapSeq λ_=>(#[]:Array Value)),toks:=s.toks}) (g':=s.gens) (d':=s.drawn) (t':=s.toks) (ch:=[a]) K1 (λb hb=>?_) (λb o _ _ hc e _=>keep b o (λz=>hc (by simp[z])) e) (λb o _ _ hc e _=>⟨o.slots,keep b o (λz=>hc (by simp[z])) e⟩) (λb o hc _ n=>?_) (λb o hc e=>⟨o,keep b o (λz=>hc (by simp[z])) e⟩)
  (λb zs e=>?_) (λb o u e=>?_) (λb ps e=>?_) (λm hm=>?_) (λb u e=>?_) K1.bare
 ·obtain rfl:b=a:=by simpa using hb
  exact⟨fa.2.2.2.1,fa.2.1,fa.2.2.2.2.1,fa.2.2.2.2.2⟩
 ·rw[aA (λz=>hc (by simp[z]))];exact n
 ·rw[aA (jg b _ e)];exact e
 ·rw[aA (jg b _ e)];exact e
 ·exact⟨#[],by rw[aA (jg b _ e),e];simp⟩
 ·obtain⟨o,es,ep,h1,h2⟩:=hm
  exact⟨o,es,ep,keep _ o fa.2.1.symm h1,h2⟩
 ·by_cases hb:b=a
  ·subst hb
   rw[av]at e;cases e;exact⟨by rw[rv.length];exact Il,out,c,rv,hit⟩
  ·rw[aA hb]at e
   refine(K1.hok b u e).stay (λd v hd' r=>keep d v ?_ r) (λd r=>by rw[aA (jg d _ r)];exact r) (λd xs r=>by rw[aA (jg d _ r)];exact r) λd ob u r=>by rw[aA (jg d _ r)];exact r
   rcases hd' with rfl|hd'
   ·exact hb
   ·exact jg d _ hd'
end
section
variable {X:Cx} {pins:List (Addr × Obj)} {σ:St} {H:Hp} {s:Shared} {qual x:Str} {params:Arguments} {body:Expr} {scope:Scope} {fr:List (Str × Nat)} {tb:TE} {p:Addr} {v:V} {u:Value} {xs:List V} {kz:List Int} {Q:VK} {E:Value->Shared->Prop}
end
section
variable {X:Cx} {x:Str} {params:Arguments} {body e:Expr} {scope:Scope} {fr:List (Str × Nat)} {tb ti:TE} {c P:Addr} {p0 cK kpos pos:Pos}
noncomputable def pB(B:V->Hp->Prop):List V->Hp->Prop:=λvs H=>match vs with
 | [v]=>B v H
 |_=>False
theorem pB.get{B:V->Hp->Prop}{vs:List V}{H:Hp}(h:pB B vs H):∃v,vs = [v]/\B v H:=by
 unfold pB at h
 split at h
 ·exact⟨_,rfl,h⟩
 ·exact h.elim
end
section
variable {X:Cx} {pins:List (Addr × Obj)} {σ:St} {H:Hp} {s:Shared} {scope:Scope} {v:Str} {fr:List (Str × Nat)} {own:List Str} {fp:List Addr}
end
section
variable {X:Cx} {elt tg iter:Expr} {ifs:List Expr} {scope:Scope} {pos:Pos} {v:Str} {own:List Str} {fr:List (Str × Nat)} {wi:TI} {g:TG} {tc:TT} {te:TE}
end
section
variable {P:Program} {w:World} {K:W.Frag} {mg:Str->Option Value} {base:Heap}
theorem aN.zO{x qual:Str}{st:Stmt}{f c:Addr}{fd:FuncData}{N ps:List Str}{k:Nat}{sp:Sp}(F:aN K x qual st f fd)(hc:fd.code = .ref c)(S:aY N ps (aE st))(len:∀vs H Q E,sp vs H Q E->vs.length=ps.length)(hbody:∀(A:Around) (outer:List Env) (s:Shared) (H:Hp) (vs:List V) (Q:VK) (E:XK),aV k (A.deeper (envOfC qual (aE st) s.heap.objs.size f (.ref c)))->sp vs H Q E->∃t,dD (iu aJ P w K mg base N qual (aE st) f (.ref c) A outer s H E).ji (eQ st) t/\t {nx:=λ_ H'=>Q .non H',rt:=Q} (start N vs) H):aI P w K mg base aJ (k+1) f fd ps sp:=by
 obtain⟨oc,od,kV,doc,pm,an,cdv,ct,osl,rfl,lk,hcd⟩:=F.ex;obtain rfl:cdv = .ref c:=hc;refine xN lk hcd S len λA outer s H vs Q E hr hsp=>?_;obtain⟨t,h,q⟩:=hbody A outer s H vs Q E hr hsp;exact⟨t,h.ji,q⟩
end
section
variable {X:Cx} {pins:List (Addr × Obj)} {σ:St} {H:Hp} {s:Shared}
end
structure nh (P:Program) (w:World) (K:W.Frag) (mg:Str->Option Value) (base:Heap) (k:Nat) (p:Addr) (m:Nat) (sp:Sp):Prop where
 run:∀(A:Around) (outer:List Env) (s:Shared) (H:Hp) (us:List Value) (vs:List V) (Q:VK),aV k A->eD P w K mg base A outer s H->Vals vs us->vs.length=m->sp vs H Q E0 ->
  codeAny (model P w) A (.call (.ref p) ⟨us,[]⟩) (λr s'=>∃u,r = .ok (.ret u)/\CE outer P w H s Q u s') s
noncomputable def g_(H:Hp)(p:Addr):Prop:=∃qual params body scope cl,cW H p qual params body scope cl
theorem g_.same{H H':Hp}{p:Addr}(h:g_ H p)(s:Same H H'):g_ H' p:=let⟨a,b,c,d,e,L⟩:=h;⟨a,b,c,d,e,L.same s⟩
theorem g_.fn{P:Program}{w:World}{H:Hp}{h:Heap}{p:Addr}(L:g_ H p)(ok:aZ P w H h):W.FnAt p h:=by
 obtain⟨a,b,c,d,e,L⟩:=L;obtain⟨c',pm,ctv,e1,_⟩:=L.get ok;exact⟨_,_,_,_,e1⟩
noncomputable def Oe(i:Nat)(p:Addr)(m:Nat)(sp:Sp)(t:TA):TE:=λσ H Q=>∃v,σ[i]?=some (some v)/\v = .ref p/\g_ H p/\t σ H λvs H1=>g_ H1 p/\vs.length=m/\sp vs H1 Q E0
section
variable {X:Cx} {x:Str} {k k' m:Nat} {p:Addr} {sp:Sp} {i:Nat} {e:Expr} {es:List Expr} {t:TA} {p0 pos:Pos}
theorem Ln(L:nh X.prog X.w X.K X.mg X.base k p m sp)(hr:aV k' X.A)(hv:PE X (.Name x p0) (du i))(ha:PA X (e::es) t)(hk:k<=k':=by decide)
  (he:starEach (e::es) X.env=(false,eval e X.env)::starEach es X.env:=by rfl) (hpl:(backTo pos (starEach es X.env)).any (·.1)=false:=by rfl):PE X (.Call (.Name x p0) (e::es) [] pos) (Oe i p m sp t):=by
 intro pins s σ H Q I h;obtain⟨v,e1,rfl,hF,h⟩:=h;refine jJ (ao (hv pins s σ H (λv H1=>v = .ref p/\H1=H) I ⟨_,e1,rfl,rfl⟩) λu s0 ⟨v,H0,I0,rv,ev,eH⟩=>?_);subst ev eH;obtain rfl:u = .ref p:=rv;refine W.callWith_F (hF.fn I0.hok) (ao (ha pos pins s0 σ _ _ I0 h) λus s1 ⟨vs,H1,I1,r,Hg,hl,q⟩=>⟨Hg.fn I1.hok,?_⟩) he hpl;refine la (eL (L.run X.A X.stack s1 H1 us vs Q (hr.mono hk) I1.env0 r hl q) λr s' ⟨u,e,hq⟩=>?_);subst e;exact I1.after hq
end
structure qO (P:Program) (w:World) (K:W.Frag) (mg:Str->Option Value) (x:Str) (ps:List Str) (k kl m:Nat) (jo:Addr->Sp->Sp):Prop where
 ex:∃(f:Addr) (fd:FuncData),(∀(base:Heap) (p:Addr) (iH:Sp),nh P w K mg base kl p m iH->aI P w K mg base aJ k f fd ps (jo p iH))/\mg x=some (.ref f)/\W.keepIn K (.ref f)=true/\Binds K fd ps []
section
variable {X:Cx} {x qual:Str} {k k' kl m:Nat} {jo:Addr->Sp->Sp} {ps qs:List Str} {params:Arguments} {body:Expr} {scope:Scope} {fr:List (Str × Nat)} {tb:TE} {e:Expr} {es:List Expr} {t:TA} {p0 pos:Pos}
end
section
variable {prog:Program} {w:World} {A:Around} {E:Value->Shared->Prop} {s:Shared} {l:Addr} {xs:Array (Int × Tok)}
end
theorem LR{X:Cx}{K:W.Frag}{es:List Expr}{k:Nat}{t:il}{n:Nat}{pos:Pos}(hK:X.K=K)(hc:X.calm=true)(h:k7 X es t)(hn:(assignEach es X.env).length=n:=by rfl)(hst:(assignEach es X.env).findIdx? (·.1)=none:=by rfl):PG X (.Tuple es k pos) (jX K n t):=hK▸Ap hc h hn hst
end L2
namespace My
open PySem PySem.Spec PyProof.Rows L2
theorem N4{K:W.Frag}{c:Bool}{a:Addr}{xs:List V}{ρ:L2.St}{H1:Hp}(h:Sq c K H1 a xs):eM (Ite K c a) (jX K 2 (gu (aU 0) (gu (aU 1) lT))) (none::none::ρ) H1 xs.length (λi=>some (.int (i:Int))::some (xs.getD i .non)::ρ) where
 go:=λi H hi hs=>⟨xs,xs[i],hs.sq h,aq hi⟩
 stop:=λH hs=>⟨xs,hs.sq h,rfl⟩
 step:=λi H v H' Kk hi hs hy hk=>by
  obtain⟨T,x,rfl,hT,rfl,hx⟩:=hy;have e1:=hx xs (hs.sq h);have e3:xs.getD i .non=x:=by rw[aO,e1];rfl
  refine⟨T,[.int (i:Int),x],rfl,.inl (.inl av),rfl,.int (i:Int),[x],rfl,x,[],rfl,rfl,?_⟩;have:=hk (upd H T (.tup [.int (i:Int),x])) (Same.put hT);rw[e3]at this;exact⟨Wk.set (Wk.set (Wk.refl _) rfl) rfl,this⟩
noncomputable def jO(n:Nat)(R:Nat->Nat->Bool)(k:Nat):List (Nat × Nat):=(List.range k).flatMap λl=>((List.range n).filter λh=>R l h).map λh=>(l,h)
theorem o8{n k:Nat}{R:Nat->Nat->Bool}{p:Nat × Nat}:p∈jO n R k ↔ p.1<k/\p.2<n/\R p.1 p.2=true:=by
 unfold jO;rw[List.mem_flatMap]
 constructor
 ·rintro⟨l,hl,h⟩
  obtain⟨j,hj,rfl⟩:=cG.mp h;obtain⟨h1,h2⟩:=iO.mp hj;exact⟨by simpa using hl,by simpa using h1,h2⟩
 ·rintro⟨h1,h2,h3⟩
  exact⟨p.1,by simpa using h1,cG.mpr ⟨p.2,iO.mpr ⟨by simpa using h2,h3⟩,rfl⟩⟩
section
variable {P:Program} {w:World} {K:W.Frag} {mg:Str->Option Value} {base:Heap} {f:Addr} {fd:FuncData}
abbrev p5:Stmt:=top 27
theorem Ce:aY ["things","is_at_most","pairs","low","one"] ["things","is_at_most"] (aE p5):=⟨rfl,rfl,rfl,by decide +kernel,rfl,by decide +kernel,by decide +kernel⟩
noncomputable def ve(K:W.Frag)(C p:Addr)(iH:Sp):Sp:=λvs H Q _=>∃(l:Nat) (xs:List V) (R:Nat->Nat->Bool),vs = [.ref l,.ref p]/\ak K H l xs/\1<=xs.length/\xs.length<=24/\g_ H p/\Good xs.length R /\
 (∀i j x y H' Q',xs[i]?=some x->xs[j]?=some y->Same H H'->(∀vM,Same H' vM->Q' (.bl (R i j)) vM)->iH [x,y] H' Q' E0)/\∀z H',Same H H'->k6 C H' z xs.length R->Q (.ref z) H'
theorem KJ {C p:Addr} {iH:Sp} (F:aN K "order_by" "order_by" p5 f fd) (T:Txt mg) (og:kL P w K mg base C "Order" ["self","count","pairs"] 5 (qf K C)) (LO:nh P w K mg base 1 p 2 iH):aI P w K mg base aJ 7 f fd ["things","is_at_most"] (ve K C p iH):=by
 refine F.ok Ce (λvs H Q E h=>?_) (λcdv A outer s H vs Q E hr h=>?_)
 ·obtain⟨l,xs,R,rfl,_⟩:=h
  rfl
 ·obtain⟨l,xs,R,rfl,hl,h1,hn,hF,G,hL,kk⟩:=h
  have nd:=Ce.nd;refine⟨_,(aH (bV (i:=2) nd rfl (Or.inl rfl) (iD ai))
   (aH (cD cz rfl (uD (K:=K) true rfl rfl T.enumerate (ag (pv 0) ai)) (LR (K:=K) rfl rfl (pL (bh (i:=3) nd rfl (Or.inr rfl)) (pL (bh (i:=4) nd rfl (Or.inr rfl)) Aq)))
   (aC (dN (iC (K:=K) rfl h7 rB wA ui (pv 2) (ag (c9 (own:=["high","other"]) (fr:=[("low", 3),("is_at_most", 1),("one", 4)]) rfl (cJ (aE p5) ["things","is_at_most","pairs","low","one"] rfl rfl (by decide +kernel)) (uD (K:=K) true rfl rfl T.enumerate (ag (pv 0) ai)) (λ_ _ _ _=>⟨(mC (K:=K) (i:=0) (j:=1) rfl rfl (by decide +kernel:(["high","other","low","is_at_most","one"]:List Str).Nodup) rfl rfl rfl rfl),(pM (cN (Ln LO hr (pv 3) (ag (pv 4) (ag (pv 1) ai))))),(gI (ag (pv 2) (ag (pv 0) ai)))⟩)) ai)))))
   (aC (a8 (Ly og hr rfl (ag (bu (dH (K:=K) rfl) rfl T.len dW (ag (pv 0) ai)) (ag (pv 2) ai))))))),?_⟩
  refine⟨by show 0<=sizeLine;decide,λL xY=>?_⟩;have sL:=Same.put xY (o:=.lst ([]:List V));dsimp only[aU];show cS _ _ _ [some (.ref l),some (.ref p),some (.ref L),none,none] _;refine⟨_,rfl,l,xs,rfl,sL.sq (c:=true) hl,xP (K:=K) (c:=true) (l:=l) (xs:=xs) (λi σ H2=>∃(v3 v4:Option V) (ws:List V),σ = [some (.ref l),some (.ref p),some (.ref L),v3,v4]/\Same H H2/\H2 L=some (.lst ws)/\ws.length<=24*i/\Paired (cg H2) (jO xs.length R i) ws)
   ⟨none,none,[],rfl,sL,av,bE _,.nil⟩ (λi σ H2 ⟨_,_,_,_,s2,_⟩=>s2.sq (c:=true) hl) ?_ ?_⟩
  ·rintro i x σ H2 Tt hx Hu ⟨v3,v4,ws,rfl,s2,hL2,hwl,lY⟩
   have hi:i<xs.length:=(bF.mp hx).1;have sT:=Same.put Hu (o:=.tup [V.int (i:Int),x]);refine⟨Tt,_,rfl,az.of av,rfl,_,_,rfl,_,_,rfl,rfl,?_⟩;dsimp only[aU];show Dd _ _ [some (.ref l),some (.ref p),some (.ref L),some (.int (i:Int)),some x] _;have pS:=s2.trans sT;have tJ:=sT _ _ hL2;refine⟨_,rfl,.inl ⟨rfl,_,ak.of tJ⟩,_,rfl,l,xs,rfl,pS.sq (c:=true) hl,λD hD=>?_⟩;refine oo (λj=>R i j) (λj v H=>∃t,v = .ref t/\t≠D/\H t=some (.tup [.int (i:Int),.int (j:Int)])) (N4 (c:=true) (pS.sq (c:=true) hl)) hD (cR hn) (λj v H H' s ⟨b,e,hb,q⟩=>⟨b,e,hb,s _ _ hb q⟩) (λj H3 Kt Kf hj hs hy hkt hkf=>?_) (λH3 ys hs hl3 hp3=>?_)
   ·obtain⟨zs,hz⟩:=hy
    have uN:=pS.trans hs;have ey:xs.getD j .non=xs[j]:=by rw[aO,aq hj];rfl
    refine⟨_,rfl,rfl,hF.same uN,_,rfl,_,rfl,hF.same uN,rfl,?_⟩;rw[ey];refine hL i j x xs[j] H3 _ hx (aq hj) uN λH4 s4=>⟨_,rfl,dm (λh=>?_) (λh=>?_)⟩
    ·refine⟨_,rfl,_,rfl,by show 2<=sizeLine;decide,λt ht=>?_⟩
     exact hkt _ _ h (s4.trans (Same.put ht)) ⟨t,rfl,(λe=>by rw[e,s4 _ _ hz]at ht;cases ht),av⟩
    ·exact hkf _ (by simpa using h) s4
   ·have yh:ys.length<=xs.length:=by
     have h1:=bS hp3;have h2:=q8 (λj=>R i j) (List.range xs.length);rw[kW]at h2;omega
    have jb:=hs _ _ tJ;have hDL:D≠L:=λe=>by rw[e,tJ]at hD;cases hD
    refine⟨L,D,ws,ys,rfl,rfl,jb,hl3,by have:=@mO 100000 (by omega);omega,?_⟩;refine⟨_,_,ws++ys,rfl,λb o e=>?_,av,by rw[cX];omega,?_⟩
    ·rw[aA (b_ e xY)]
     exact hs _ _ (pS _ _ e)
    ·unfold jO
     rw[uJ];refine pJ jb (pF (fh.same (sT.trans hs) lY) (pH ?_));exact Paired.bL hp3 λj v ⟨t,e,_,q⟩=>⟨t,e,q⟩
  ·rintro σ H2 ⟨v3,v4,ws,rfl,s2,hL2,hwl,lY⟩
   refine⟨_,rfl,l,xs,rfl,.inl (s2.seq hl),_,rfl,λx dx hx hdx hne=>?_⟩;have s4:Same H2 (upd (upd H2 dx (.own x)) x (.ins C dx [])):=λb o e=>by
    rw[aA (b_ e hx),aA (b_ e hdx)];exact e
   have le:∀p∈jO xs.length R xs.length,R p.1 p.2=true:=λp hp=>(o8.mp hp).2.2;have al:∀a b,a<xs.length->b<xs.length->a≠b->R a b=true->(a,b)∈jO xs.length R xs.length:=λa b ha hb _ h=>o8.mpr ⟨ha,hb,h⟩;refine⟨x,dx,xs.length,L,_,rfl,av,⟨ws,ak.of (s4 _ _ hL2),fh.same s4 lY⟩,h1,hn,λp hp=>⟨(o8.mp hp).1,(o8.mp hp).2.1⟩,λR2 hC=>G.congr (xk G le al hC),λH5 R2 fr hC Hn=>⟨rfl,?_⟩⟩;have s5:Same H2 H5:=λb o e=>fr b o (s4 _ _ e) (b_ e hx);exact kk x H5 (s2.trans s5) ⟨R2,Hn,xk G le al hC⟩
end
end My
namespace L2
open PySem PySem.Spec PyProof.Rows
noncomputable def d4(xs:Array Nat):Prop:=∀i j,i<j->j<xs.size->xs.getD i 0<xs.getD j 0
theorem G7{xs:Array Nat}{i:Nat}(h:i<xs.size)(a b:Nat):xs.getD i a=xs.getD i b:=by
 simp[Array.getD,h]
theorem r9{xs:Array Nat}{j:Nat}(hr:d4 xs):∀(fuel lo hi:Nat),lo<=hi->hi<=xs.size->hi - lo<=fuel->(∀i,i<lo->xs.getD i 0<j)->(∀i,hi<=i->i<xs.size->j<=xs.getD i 0)->SetTable.below.go xs j fuel lo hi<=xs.size/\(∀i,i<SetTable.below.go xs j fuel lo hi->xs.getD i 0<j)/\(∀i,SetTable.below.go xs j fuel lo hi<=i->i<xs.size->j<=xs.getD i 0)
 |0,lo,hi,h1,h2,h3,h4,h5=>by
  have:lo=hi:=by omega
  subst this;exact⟨h2,h4,h5⟩
 |fuel+1,lo,hi,h1,h2,h3,h4,h5=>by
  unfold SetTable.below.go
  by_cases hlt:lo<hi
  ·rw[if_pos hlt]
   have hm:(lo+hi) / 2<xs.size:=by omega
   dsimp only;rw[G7 hm j 0]
   by_cases hc:xs.getD ((lo+hi) / 2) 0<j
   ·rw[if_pos hc]
    refine r9 hr fuel _ _ (by omega) h2 (by omega) (λi hi'=>?_) h5
    by_cases e:i=(lo+hi) / 2
    ·rw[e];exact hc
    ·exact wj (hr i _ (by omega) hm) hc
   ·rw[if_neg hc]
    refine r9 hr fuel _ _ (by omega) (by omega) (by omega) h4 (λi hi' hl=>?_)
    by_cases e:i=(lo+hi) / 2
    ·rw[e];omega
    ·have:=hr ((lo+hi) / 2) i (by omega) hl
     omega
  ·rw[if_neg hlt]
   have:lo=hi:=by omega
   subst this;exact⟨h2,h4,h5⟩
theorem sd{xs:Array Nat}{j:Nat}(hr:d4 xs):SetTable.below xs j<=xs.size/\(∀i,i<SetTable.below xs j->xs.getD i 0<j)/\(∀i,SetTable.below xs j<=i->i<xs.size->j<=xs.getD i 0):=by
 unfold SetTable.below;exact r9 hr _ _ _ (bE _) (aB _) (by omega) (λi h=>absurd h (by omega)) (λi h1 h2=>absurd h1 (by omega))
theorem Fc{xs:Array Nat}(hr:d4 xs){i:Nat}(hi:i<xs.size):SetTable.below xs (xs.getD i 0+1)=i+1:=by
 obtain⟨h1,h2,h3⟩:=sd (j:=xs.getD i 0+1) hr;generalize SetTable.below xs (xs.getD i 0+1)=b at h1 h2 h3
 rcases Nat.lt_trichotomy b (i+1)with h|h|h
 ·have:=h3 i (by omega) hi
  omega
 ·exact h
 ·have h4:=h2 (i+1) h
  have h5:=hr i (i+1) (by omega) (by omega);omega
theorem Fd{xs:Array Nat}(hr:d4 xs):SetTable.below xs 0=0:=by
 obtain⟨h1,h2,h3⟩:=sd (j:=0) hr;generalize SetTable.below xs 0=b at h1 h2 h3
 rcases Nat.eq_zero_or_pos b with h|h
 ·exact h
 ·exact absurd (h2 0 h) (by omega)
theorem Iv{α:Type}(xs:Array α)(p:Nat)(x:α)(hp:p<=xs.size):(SetTable.insertAt xs p x).size=xs.size+1:=by
 unfold SetTable.insertAt;simp;omega
theorem yC{α:Type}(xs:Array α)(p:Nat)(x:α):(SetTable.insertAt xs p x).toList=xs.toList.take p++x::xs.toList.drop p:=by
 unfold SetTable.insertAt;simp[Ei]
theorem insertAt_perm{α:Type}(xs:Array α)(p:Nat)(x:α):(SetTable.insertAt xs p x).toList.Perm (x::xs.toList):=by
 rw[yC];refine v9.trans ?_;rw[List.take_append_drop]
theorem yB(xs:Array Nat)(p x i:Nat)(hp:p<=xs.size):(SetTable.insertAt xs p x).getD i 0=if i<p then xs.getD i 0 else if i=p then x else xs.getD (i - 1) 0:=by
 have e:∀(ys:Array Nat) (i:Nat),ys.getD i 0=ys.toList.getD i 0:=λys i=>by simp[Array.getD,aO];split<;>simp[*]
 rw[e,e,e,yC,aO,aO,aO];have hl:(xs.toList.take p).length=p:=by rw[vY];simp;omega
 by_cases h1:i<p
 ·rw[if_pos h1,jy (by omega),Eb h1]
 ·rw[if_neg h1,iN (by omega),hl]
  by_cases h2:i=p
  ·rw[if_pos h2,h2,Nat.sub_self]
   rfl
  ·rw[if_neg h2]
   obtain⟨k,hk⟩:∃k,i - p=k+1:=⟨i - p - 1,by omega⟩;rw[hk,List.getElem?_cons_succ,List.getElem?_drop]
   congr 2
   omega
theorem M'{xs:Array Nat}{j:Nat}(hr:d4 xs)(hj:xs[SetTable.below xs j]?≠some j):d4 (SetTable.insertAt xs (SetTable.below xs j) j):=by
 obtain⟨h1,h2,h3⟩:=sd (j:=j) hr;have h3':∀i,SetTable.below xs j<=i->i<xs.size->j<xs.getD i 0:=λi a b=>by
  rcases Nat.lt_or_eq_of_le (h3 i a b)with h|h
  ·exact h
  ·exfalso
   by_cases e:i=SetTable.below xs j
   ·apply hj
    rw[<- e,fP b];simp[Array.getD,b]at h;rw[h]
   ·have hb:SetTable.below xs j<xs.size:=by omega
    have q1:=h3 (SetTable.below xs j) (aB _) hb;have q2:=hr (SetTable.below xs j) i (by omega) b;omega
 generalize SetTable.below xs j=p at h1 h2 h3 h3';intro a b hab hb;rw[Iv _ _ _ h1]at hb;rw[yB _ _ _ _ h1,yB _ _ _ _ h1]
 by_cases a1:a<p
 ·rw[if_pos a1]
  by_cases b1:b<p
  ·rw[if_pos b1];exact hr a b hab (by omega)
  ·rw[if_neg b1]
   by_cases b2:b=p
   ·rw[if_pos b2];exact h2 a a1
   ·rw[if_neg b2]
    exact wj (h2 a a1) (h3' (b - 1) (by omega) (by omega))
 ·rw[if_neg a1]
  have b1:¬ b<p:=by omega
  have b2:¬ b=p:=by omega
  rw[if_neg b1,if_neg b2]
  by_cases a2:a=p
  ·rw[if_pos a2]
   exact h3' (b - 1) (by omega) (by omega)
  ·rw[if_neg a2]
   exact hr (a - 1) (b - 1) (by omega) (by omega)
theorem Nc{l:List Nat}(h:l.Pairwise (· < ·)):d4 l.toArray:=by
 intro i j hij hj;have hj':j<l.length:=by simpa using hj
 have:=v8.mp h i j (by omega) hj' hij;simp[Array.getD,hj',show i<l.length by omega];exact this
theorem Nb:d4 #[]:=λi j _ h=>absurd h (by simp)
theorem Jo{mask finger moves:Nat}{led plain:Bool}{hs:Array Int}{t:SetTable}{order:Array Nat}(h:SetTable.laid mask finger moves led plain hs=some (t,order)):d4 t.place/\t.dummies = #[]/\t.led=led/\t.plain=plain:=by
 unfold SetTable.laid at h;cases e:SetTable.layClean mask hs with
 |none=>rw[e]at h;cases h
 |some owner =>
  rw[e]at h;injection h with h
  injection h with h1 h2
  rw[<- h1];refine⟨?_,rfl,rfl,rfl⟩;apply Nc
  rw[hW,List.pairwise_filterMap];refine Ef.imp λ{a b} hab x hx y hy=>?_;cases ea:owner.getD a none with
  |none=>rw[ea]at hx;cases hx
  |some p =>
   cases eb:owner.getD b none with
   |none=>rw[eb]at hy;cases hy
   |some q =>
    rw[ea]at hx;rw[eb]at hy;cases hx;cases hy;exact hab
theorem NT{t:SetTable}(hd:t.dummies = #[])(j:Nat):t.slot j = .empty/\t.place[SetTable.below t.place j]?≠some j\/∃i,t.slot j = .live i:=by
 unfold SetTable.slot;dsimp only
 by_cases e:(t.place[SetTable.below t.place j]?==some j)=true
 ·rw[if_pos e]
  exact .inr ⟨_,rfl⟩
 ·rw[if_neg e]
  refine .inl ⟨?_,λz=>e (by rw[z];simp)⟩;rw[hd];rfl
theorem xV{t:SetTable}{h:Int}(hd:t.dummies = #[]):∀(fuel:Nat) (p:SetTable.Probe) (j:Nat) (d:Option Nat),p.dummy=none->SetTable.probe.go t (λ_=>h+1) h fuel p=some (.empty j d)->d=none/\t.place[SetTable.below t.place j]?≠some j
 |0,p,j,d,_,e=>by cases e
 |fuel+1,p,j,d,hp,e=>by
  unfold SetTable.probe.go at e
  rcases NT hd p.j with⟨q,q'⟩|⟨i,q⟩
  ·rw[q]at e
   injection e with e
   injection e with e1 e2
   rw[<- e1,<- e2];exact⟨hp,q'⟩
  ·rw[q]at e
   dsimp only at e;have hne:((h+1)==h)=false:=by
    rw[iU];omega
   rw[hne]at e;refine xV hd fuel _ j d ?_ e;unfold SetTable.advance
   split<;>exact hp
theorem G3{t:SetTable}{h:Int}{s:Nat}{w:Bool}(hd:t.dummies = #[])(e:t.freeSlot h=some (s,w)):w=false/\t.place[SetTable.below t.place s]?≠some s:=by
 unfold SetTable.freeSlot SetTable.probe at e;generalize eg:SetTable.probe.go t (λ_=>h+1) h (10*SetTable.turns t.mask) (t.probeStart h)=g at e
 match g,e with
 |some (.empty j d),e =>
  obtain⟨rfl,q⟩:=xV hd _ _ j d rfl eg;injection e with e
  injection e with e1 e2
  rw[<- e1,<- e2];exact⟨rfl,q⟩
structure TabOk (t:SetTable):Prop where
 nd:t.dummies = #[]
 rise:t.plain=true->d4 t.place
theorem OJ(f m:Nat)(led:Bool):TabOk (SetTable.fresh f m led):=⟨rfl,λ_=>Nb⟩
theorem qA{t:SetTable}(n:Nat):TabOk (t.standIn n)/\(t.standIn n).led=t.led:=⟨⟨rfl,λh=>by cases h⟩,rfl⟩
theorem y8{t:SetTable}{es:Array (Int × Value)}{h:Int}{x:Value}(ok:TabOk t):TabOk (layNew t es h x).2.1/\(layNew t es h x).2.1.led=t.led/\(layNew t es h x).1.toList.Perm ((h,x)::es.toList)/\(layNew t es h x).2.2.1=false:=by
 unfold layNew;cases e:t.freeSlot h with
 |none =>
  refine⟨(qA _).1,rfl,?_,rfl⟩;dsimp only;rw[kK];exact(Eh _ _)
 |some q =>
  obtain⟨s,w⟩:=q;obtain⟨rfl,hs⟩:=G3 ok.nd e;dsimp only[SetTable.put];have hhas:SetTable.has t.dummies s=false:=by rw[ok.nd];rfl
  rw[hhas];simp only[dz,c6];refine⟨?_,?_,insertAt_perm _ _ _,True.intro⟩
  ·unfold SetTable.orStandIn
   by_cases hf:({t with place:=SetTable.insertAt t.place (SetTable.below t.place s) s}:SetTable).fits (SetTable.insertAt es (SetTable.below t.place s) (h,x)).size=true
   ·rw[if_pos hf]
    exact⟨ok.nd,λhp=>M' (ok.rise hp) hs⟩
   ·rw[if_neg hf]
    exact(qA _).1
  ·unfold SetTable.orStandIn
   by_cases hf:({t with place:=SetTable.insertAt t.place (SetTable.below t.place s) s}:SetTable).fits (SetTable.insertAt es (SetTable.below t.place s) (h,x)).size=true
   ·rw[if_pos hf]
   ·rw[if_neg hf]
    rfl
theorem Bd{α:Type}:∀l:List α,(List.range l.length).filterMap (λi=>l[i]?)=l
 | []=>rfl
 |x::l=>by
  rw[dc,List.range_succ_eq_map,qV];simp only[D',List.filterMap_map]
  congr 1
  exact Bd l
theorem M_{t:SetTable}{es:Array (Int × Value)}{n:Nat}(ok:TabOk t):TabOk (relayAll t es n).2.1/\(relayAll t es n).2.1.led=t.led/\(relayAll t es n).1.toList.Perm es.toList:=by
 unfold relayAll;cases e:t.relaid (es.map (·.1)) n with
 |none=>exact⟨(qA _).1,rfl,.refl _⟩
 |some q =>
  obtain⟨t',order⟩:=q;obtain⟨h1,h2,h3,h4⟩:=Jo e;dsimp only
  split
  ·rename_i hc
   rw[ck]at hc;refine⟨⟨h2,λ_=>h1⟩,h3,?_⟩;have hp:order.toList.Perm (List.range es.size):=vV.mp hc.1;rw[Array.toList_filterMap];refine(hp.filterMap _).trans ?_;have:(List.range es.size).filterMap (λi=>es[i]?)=es.toList:=by
    have:=Bd es.toList;simpa using this
   rw[this]
  ·exact⟨(qA _).1,rfl,.refl _⟩
noncomputable def pz:Value->Int
 |.int k _=>k
 |_=>0
abbrev numsOf (es:Array (Int × Value)):List Int:=es.toList.map λe=>pz e.2
structure dF (prog:Program) (w:World) (es:Array (Int × Value)) (t:SetTable) (ks:List Int):Prop where
 el:ElemsOf (intKind prog w) es.toList
 fits:t.fits es.size=true
 tab:TabOk t
 led:t.led = !w.params.followText "set-order"
 perm:(numsOf es).Perm ks
 nd:ks.Nodup
noncomputable def cU(prog:Program)(w:World)(h:Heap)(a:Addr)(ks:List Int):Prop:=
 ∃o es ep t,h.get? a=some o/\o.ExactSet/\o.data = .set es ep t/\dF prog w es t ks
section
variable {prog:Program} {w:World} {A:Around} {E:Value->Shared->Prop} {s:Shared}
theorem xF{l:List (Int × Value)}(h:ElemsOf (intKind prog w) l){e:Int × Value}(he:e∈l):∃k t,e.2 = .int k t:=by
 obtain⟨⟨k,hk,_⟩,_⟩:=h e he;obtain⟨t,q⟩:=wC hk;exact⟨k,t,q⟩
theorem dF.size{es:Array (Int × Value)}{t:SetTable}{ks:List Int}(h:dF prog w es t ks):es.size=ks.length:=by
 rw[<- h.perm.length_eq,aD,dw]
theorem dF.mem{es:Array (Int × Value)}{t:SetTable}{ks:List Int}(h:dF prog w es t ks){k:Int}:k∈ks ↔ ∃e∈es.toList,Value.isInt k e.2=true:=by
 rw[<- h.perm.mem_iff,cG]
 constructor
 ·rintro⟨e,he,q⟩
  obtain⟨k',t',q'⟩:=xF h.el he;rw[q']at q;have:k'=k:=q;subst this;exact⟨e,he,by rw[q'];simp[Value.isInt]⟩
 ·rintro⟨e,he,q⟩
  obtain⟨t',q'⟩:=wC q;exact⟨e,he,by rw[q'];rfl⟩
noncomputable def gK(ks:List Int)(k:Int):List Int:=if k∈ks then ks else ks++[k]
theorem dF.lay{es:Array (Int × Value)}{t:SetTable}{ks:List Int}(h:dF prog w es t ks){k:Int}{tk:Tok}(hk:k ∉ ks):dF prog w (layNew t es (hashInt k) (.int k tk)).1 (layNew t es (hashInt k) (.int k tk)).2.1 (ks++[k]):=by
 obtain⟨h1,h2,h3,_⟩:=y8 (es:=es) (h:=hashInt k) (x:=Value.int k tk) h.tab;refine⟨λe he=>?_,layNew_fits _ _ _ _,h1,h2.trans h.led,?_,?_⟩
 ·rcases a9.mp (h3.mem_iff.mp he)with q|q
  ·rw[q]
   exact⟨⟨k,by simp[intKind,Value.isInt],rfl⟩,rfl⟩
  ·exact h.el e q
 ·refine(h3.map _).trans ?_
  rw[bJ];exact((h.perm.cons _).trans (Eh _ _).symm)
 ·rw[v7]
  refine⟨h.nd,by simp,λx hx y hy z=>hk ?_⟩;rw[<- (show y=k by simpa using hy),<- z];exact hx
theorem dF.M9{es:Array (Int × Value)}{t:SetTable}{ks:List Int}(h:dF prog w es t ks)(n:Nat):dF prog w (relayAll t es n).1 (relayAll t es n).2.1 ks:=by
 obtain⟨h1,h2,h3⟩:=M_ (es:=es) (n:=n) h.tab;exact⟨λe he=>h.el e (h3.mem_iff.mp he),relayAll_fits _ _ _,h1,h2.trans h.led,(h3.map _).trans h.perm,h.nd⟩
theorem stored{a:Addr}{o:Obj}{es es':Array (Int × Value)}{ep:Nat}{t t':SetTable}{ks:List Int}(ho:s.heap.get? a=some o)(hx:o.ExactSet)(hd:o.data = .set es ep t)(h:dF prog w es' t' ks):∃o' ep',(s.heap.update a (Obj.putSet es' t')).get? a=some o'/\o'.ExactSet/\o'.data = .set es' ep' t':=by
 refine⟨_,ep+1,k_ _ ho (by rw[putSet_of es' t' hd]<;>rfl),?_,?_⟩
 ·rw[putSet_of es' t' hd];exact hx
 ·rw[putSet_of es' t' hd]
theorem wR{a:Addr}{o:Obj}{es es':Array (Int × Value)}{ep:Nat}{t t':SetTable}{ks:List Int}{g:Bool->Sem Unit}{wd:Bool}{R:Option Bool->Shared->Prop}(hg:∀(b:Bool) (s':Shared) (Q':Unit->Shared->Prop),Q' () s'->wpAny (model prog w) A (g b) Q' E s')
  (ho:s.heap.get? a=some o) (hx:o.ExactSet) (hd:o.data = .set es ep t) (H:dF prog w es' t' ks) (hb:ks.length<scanBound) (h:∀h',Heap.SameBut a s.heap h'->cU prog w h' a ks->R (some true) {s with heap:=h'}) :
  wpAny (model prog w) A (do
    storeSet a es' t'
    if(!wd&&t'.tooFull)=true then do
      g (relayAll t' es' (SetTable.grown es'.size)).2.2
      storeSet a (relayAll t' es' (SetTable.grown es'.size)).1 (relayAll t' es' (SetTable.grown es'.size)).2.1
      pure (some true)
     else pure (some true)) R E s:=by
 have z1:es'.size<scanBound:=by rw[H.size];exact hb
 obtain⟨o1,Gw,p1,p2,p3⟩:=stored ho hx hd H;have b1:=k9 s.heap a (Obj.putSet es' t');refine ae (wpAny_storeSet_of ho hd ?_ (fits_of_scanBound z1))
 by_cases c:(!wd&&t'.tooFull)=true
 ·rw[if_pos c]
  have H2:=H.M9 (SetTable.grown es'.size);have z2:(relayAll t' es' (SetTable.grown es'.size)).1.size<scanBound:=by rw[H2.size];exact hb
  refine ae (hg _ _ _ (ae (wpAny_storeSet_of p1 p3 (ah ?_) (fits_of_scanBound z2))));obtain⟨o2,Gx,r1,r2,r3⟩:=stored (s:={s with heap:=s.heap.update a (Obj.putSet es' t')}) p1 p2 p3 H2;exact h _ (b1.trans (k9 _ a _)) ⟨o2,_,Gx,_,r1,r2,r3,H2⟩
 ·rw[if_neg c]
  exact ah (h _ b1 ⟨o1,_,Gw,_,p1,p2,p3,H⟩)
theorem add_num{a:Addr}{ks:List Int}{k:Int}{tk:Tok}{Q:Bool->Shared->Prop}(hG:cU prog w s.heap a ks)(hroom:ks.length+1<scanBound)
  (h:∀b h',Heap.SameBut a s.heap h'->cU prog w h' a (gK ks k)->Q b {s with heap:=h'}):wpAny (model prog w) A (setAddHashed a (.int k tk) (hashInt k)) Q E s:=by
 obtain⟨o,es,ep,t,ho,hx,hd,H⟩:=id hG;have key:(intKind prog w).is k (Value.int k tk)=true:=intKind_is _ _ _ _;have zb:es.size<scanBound:=by rw[H.size];omega
 unfold setAddHashed setAddHashedIn;refine dY (ae (lh ho hd H.fits ?_));dsimp only;rw[byScan_of (knd:=intKind prog w) (x:=Value.int k tk) rfl zb H.el];simp only[↓reduceIte];unfold setAddByScan;refine ae (ae (ie (ae (wpAny_setScan_of (knd:=intKind prog w) key ho hd H.fits H.el ?_))))
 by_cases hk:k∈ks
 ·obtain⟨e,he,q⟩:=H.mem.mp hk
  cases hr:es.toList.findIdx? (λe=>(intKind prog w).is k e.2)with
  |none =>
   have:=D_.mp hr e he;rw[show(intKind prog w).is k e.2=Value.isInt k e.2 from rfl,q]at this;cases this
  |some j =>
   refine ah (ah ?_);have e0:s = {s with heap:=s.heap}:=by cases s;rfl
   rw[e0];refine h false s.heap (Heap.SameBut.refl a s.heap) ?_;unfold gK;rw[if_pos hk];exact hG
 ·have hr:es.toList.findIdx? (λe=>(intKind prog w).is k e.2)=none:=by
   rw[D_];intro e he;cases q:(intKind prog w).is k e.2 with
   |false=>rfl
   |true=>exact absurd (H.mem.mpr ⟨e,he,q⟩) hk
  rw[hr];dsimp only;have H1:=H.lay (tk:=tk) hk;have hw:=(y8 (es:=es) (h:=hashInt k) (x:=Value.int k tk) H.tab).2.2.2;have fin:∀h',Heap.SameBut a s.heap h'->cU prog w h' a (ks++[k])->Q true {s with heap:=h'}:=λh' b g=>h true h' b (by unfold gK;rw[if_neg hk];exact g);have hb':(ks++[k]).length<scanBound:=by rw[cX];exact hroom
  show wpAny _ _ ((match layNew t es (hashInt k) (Value.int k tk)with | (es,t,wasDummy,gave)=>_)>>=_) _ _ _;generalize layNew t es (hashInt k) (Value.int k tk)=N at H1 hw ⊢;obtain⟨es1,t1,wd,gave⟩:=N;dsimp only at H1 hw ⊢;refine ae ?_;have on:∀(b:Bool) (s':Shared) (Q':Unit->Shared->Prop),Q' () s'->wpAny (model prog w) A (match b with|true=>rule "set.scan.the-table-gave-way" |false=>pure ()) Q' E s':=λb s' Q' q=>by
   cases b
   ·exact ah q
   ·exact ie q
  refine on gave s _ ?_
  by_cases hp:t1.plain=true
  ·rw[if_pos hp]
   refine ae ?_;rw[hashByValue_scannable 8 (x:=Value.int k tk) rfl];refine ah ?_;simp only[plainKind,↓reduceIte];exact wR on ho hx hd H1 hb' λh' b g=>ah (fin h' b g)
  ·rw[if_neg hp]
   refine ae (ah ?_);simp only[↓reduceIte];exact wR on ho hx hd H1 hb' λh' b g=>ah (fin h' b g)
end
noncomputable def numsTo(val:Nat->Int)(i:Nat):List Int:=((List.range i).map val).foldl gK []
theorem numsTo_succ(val:Nat->Int)(i:Nat):numsTo val (i+1)=gK (numsTo val i) (val i):=by
 unfold numsTo;rw[iQ,fz,vR];rfl
theorem Ml(ks:List Int)(k:Int):(gK ks k).length<=ks.length+1:=by
 unfold gK
 split
 ·omega
 ·rw[cX]
  exact aB _
theorem zL(val:Nat->Int):∀i,(numsTo val i).length<=i
 |0=>aB _
 |i+1=>by
  rw[numsTo_succ];have h1:=Ml (numsTo val i) (val i);have h2:=zL val i;omega
theorem cU.moved{prog:Program}{w:World}{h h':Heap}{a:Addr}{ks:List Int}(hG:cU prog w h a ks)(k:∀o,h.get? a=some o->h'.get? a=some o):cU prog w h' a ks:=
 let⟨o,es,ep,t,ho,q⟩:=hG;⟨o,es,ep,t,k o ho,q⟩
section
variable {prog:Program} {w:World} {A:Around} {R:Result->Shared->Prop} {it:Addr} {fp wr:List Addr} {Gn:Array GenState->Array GenState->Prop} {n:Nat} {P:Nat->Value->Prop} {St:Nat->Shared->Prop}
theorem xK(W:WalksS prog w A.in1 it fp wr Gn n P St)(a:Addr)(ha:a ∉ fp)(val:Nat->Int)(hv:∀i v,P i v->∃t,v = .int (val i) t)(hb:n+1<scanBound):∀(k i:Nat) (s:Shared),n - i=k->i<=n->St i s->cU prog w s.heap a (numsTo val i)->(∀s',PySem.Moved (a::wr) Gn s s'->cU prog w s'.heap a (numsTo val n)->R (.ok (.ret .none)) s') ->
   codeAny (model prog w) A (.builtin "set.update.loop" ⟨[.ref a,.ref it],[]⟩) R s
 |0,i,s,hk,hi,hst,hG,hR=>by
  have ei:i=n:=by omega
  subst ei;have haw:a ∉ wr:=λh=>ha (W.sub _ h);refine(fV F.entry_set_update_loop ?_);rw[show _=_ from wx wo _];show wpAny _ A.in1 (pyNext (.ref it)>>=_) _ _ s;refine ae (W.done s _ _ hst λs1 hm=>ah (hR s1 (hm.mono λb hb=>bG _ hb) (hG.moved λo e=>hm.heap a o haw e)))
 |k+1,i,s,hk,hi,hst,hG,hR=>by
  have haw:a ∉ wr:=λh=>ha (W.sub _ h);have hlt:i<n:=by omega
  refine(fV F.entry_set_update_loop ?_);rw[show _=_ from wx wo _];show wpAny _ A.in1 (pyNext (.ref it)>>=_) _ _ s;refine ae (W.item i s _ _ hlt hst λv s1 hP HY hm=>?_);obtain⟨t,rfl⟩:=hv i v hP;have Hh:cU prog w s1.heap a (numsTo val i):=hG.moved λo e=>hm.heap a o haw e;have hl:=zL val i;show wpAny _ A.in1 (holding [Value.int (val i) t] (setAdd a (.int (val i) t))>>=_) _ _ s1;refine ae (dY ?_);unfold setAdd;refine dY (ae ((intKind prog w).pyHash (k:=val i) (intKind_is _ _ _ _) ?_));refine add_num (s:={s1 with toks:=s1.toks+1}) Hh (by omega) λb h1 hsb Hi=>?_;refine ah ⟨rL wo _,xK W a ha val hv hb k (i+1) _ (by omega) hlt (W.frame _ s1 _ _ HY (nA _) λc hc o e=>?_) (by rw[numsTo_succ];exact Hi) λs2 hm2 Hj=>?_⟩
  ·rw[hsb.2 c (λh=>ha (by rw[<- h];exact hc))]
   exact e
  ·refine hR s2 (PySem.Moved.trans W.gtrans ((hm.mono λb hb=>bG _ hb).then_heap (nA _) λc o hc e=>?_) hm2) Hj
   rw[hsb.2 c (λh=>hc (by rw[h];exact bR))];exact e
end
section
variable {prog:Program} {w:World} {A:Around} {E:Value->Shared->Prop} {s:Shared}
abbrev fe (w:World):Obj:={cls:=.type "set", dict:=none,data:=.set #[] 0 (.fresh 0 0 (!w.params.followText "set-order"))}
theorem Ka{h:Heap}{a:Addr}(e:h.get? a=some (fe w)):cU prog w h a []:=
 ⟨_,#[],0,_,e,⟨rfl,rfl,rfl⟩,rfl,λe he=>by simp at he,rfl,OJ _ _ _,rfl,by simp,by simp⟩
theorem Nz(x:Value){Q1:Value->Shared->Prop}(h:Q1 (.ref s.heap.objs.size) {s with heap:=s.heap.push (fe w)}):
  codeAny (model prog w) A (.call (.builtin "set.__new__") ⟨[.type "set", x],[]⟩) (wants Q1 E) s:=by
 refine codeAny_of_tree (?_:wpAny _ A.in1 (do checkBuiltinCall "set.__new__" ⟨[.type "set", x],[]⟩;again (.builtin "set.__new__" ⟨[.type "set", x],[]⟩)) _ _ s);refine ae (rO (F.newCall_set_1 x) (ah ⟨rL F.plain_set_new _,(fV F.entry_set_new ?_)⟩));rw[show _=_ from wx F.plain_set_new _];unfold Builtin.«set.__new__» Builtin.Frozenset.newClass;have hsub:=sub_set_self;obtain⟨hp,g,d,tk,os⟩:=s;dsimp only
 wp_walk
 refine wH (ah ?_);dsimp only;simp only[newObj];exact ae (wpAny_alloc (ah (ah h)))
theorem NB{l:Addr}{its:Array Value}{ns:List Int}{Q:Value->Shared->Prop}(hh:A.handled=none)(hL:s.heap.IsList l its)(hI:IntsAre its.toList ns)(hb:its.size+1<scanBound)
  (h:∀(h':Heap) (tk:Nat),cU prog w h' s.heap.objs.size (numsTo (λi=>ns.getD i 0) its.size)->(∀b o,b<s.heap.objs.size->s.heap.get? b=some o->h'.get? b=some o)->Q (.ref s.heap.objs.size) {s with heap:=h',toks:=tk}) :
  wpAny (model prog w) A (call (.type "set") [.ref l]) Q E s:=by
 obtain⟨c,tl,hmro⟩:=iT.mro;have hmade:=iT.made;have hsub:=iT.sub;refine la (codeAny_of_tree (?_:wpAny _ _ (callAny (.type "set") _) _ _ _));refine ah ⟨rq _ (by decide +kernel),(fV F.entry_type_call ?_)⟩;rw[show _=_ from Around.under_plain (weight_type_call_type "set" [.ref l] []) rfl];have hnT:=iT.notType;have hcC:=iT.canCreate;have hct:=F.typeCall_set_1 (.ref l)
 repeat any_goals first|assumption|wp_step
 refine eL (Nz (.ref l) (E:=E) (Q1:=λobj s1=>obj = .ref s.heap.objs.size/\s1 = {s with heap:=s.heap.push (fe w)}) ⟨rfl,rfl⟩) λr s1 hr=>?_;cases r with
 |error e=>exact hr
 |ok fl =>
  cases fl with
  |ret obj =>
   obtain⟨rfl,rfl⟩:=hr;have gS:(s.heap.push (fe w)).get? s.heap.objs.size=some (fe w):=aQ _ rfl;have hT:Shared.TypeIs {s with heap:=s.heap.push (fe w)} (.ref s.heap.objs.size) "set" :=⟨_,gS,rfl⟩;have hli:=iT.init.lookup;have hbi:=iT.init.bind (.ref s.heap.objs.size)
   repeat any_goals first|assumption|wp_step
   refine eL (codeAny_call_builtin (R:=wants (λr s2=>r = .none/\∃h' tk,s2 = {s with heap:=h',toks:=tk}/\cU prog w h' s.heap.objs.size (numsTo (λi=>ns.getD i 0) its.size) /\
     (∀b o,b<s.heap.objs.size->s.heap.get? b=some o->h'.get? b=some o)) E) iT.init.plain F.entry_set_init (check_set_init_1 hT ?_)) λr2 s2 hr2=>?_
   ·obtain⟨⟨Qh,odi,oda,osl⟩,hol,hcl,nl,hdl⟩:=hL
    simp only at hcl hdl;subst hcl hdl;have hlS:l<s.heap.objs.size:=aG hol;have hol1:(s.heap.push (fe w)).get? l=some {cls:=.type "list", dict:=odi,data:=.seq its nl,slots:=osl}:=au _ hol;have hL1:(s.heap.push (fe w)).IsList l its:=⟨_,hol1,rfl,nl,rfl⟩;have q1:=F.sub_list_set;have q2:=F.sub_list_frozenset;have q3:(Value.type "list" == Value.type "dict")=false:=by decide
    unfold Builtin.«set.__init__» noKeywords Builtin.Frozenset.updateFrom;generalize hPI:pyIter=PI
    wp_walk
    subst hPI;refine rQ hL1 (ae (rR ?_));have h3:A.in1.in1.in1.handled=none:=by simp[hh]
    have iY:(s.heap.push (fe w)).objs.size=s.heap.objs.size+1:=dU ..;have nI:l≠(s.heap.push (fe w)).objs.size:=by rw[iY];exact aP (nB hlS)
    have nF:s.heap.objs.size ∉ [(s.heap.push (fe w)).objs.size,l]:=by
     rw[iY];intro z
     rcases a9.mp z with z|z
     ·exact absurd z (aP (k0 _))
     ·exact absurd (eV.mp z) (eK hlS)
    refine xK ((Walks.list h3 _ l nI its).toS) s.heap.objs.size nF (λi=>ns.getD i 0) (λi v hv=>IntsAre.int_at hI i v (by rw[kJ];exact hv)) hb its.size 0 _ (by omega) (bE _) ⟨⟨_,aQ _ rfl,rfl,rfl⟩,(hL1.push _)⟩ (Ka (au _ gS)) ?_;intro s3 hm hG;obtain⟨h',g',d',tk',os'⟩:=s3;have eg:g'=s.gens:=hm.gens;have ed:d'=s.drawn:=hm.drawn;have eo:os'=s.os:=hm.os;subst eg ed eo;refine ah (?_:wpAny _ _ (ret Value.none) _ _ _);refine ah ⟨rfl,h',tk',rfl,hG,λb o hb e=>?_⟩;refine hm.heap b o (λz=>?_) (au _ (au _ e))
    rcases a9.mp z with z|z
    ·exact absurd z (aP hb)
    ·have:=eV.mp z
     rw[iY]at this;exact absurd this (aP (nB hb))
   ·cases r2 with
    |error e=>exact hr2
    |ok GF =>
     cases GF with
     |ret r =>
      obtain⟨rfl,h',tk,rfl,hG,hk⟩:=hr2
      repeat any_goals first|assumption|wp_step
      exact h _ _ hG hk
     |_=>exact hr2.elim
  |_=>exact hr.elim
end
theorem fj:Slot "set_iterator" "__next__" "set_iterator.__next__" :=.of (owner:= "set_iterator") (n:= "__next__") (by rw[typeLookup_type,builtinLookup_eq_fast];kernel_rfl) (by decide +kernel) (by decide +kernel) (by decide +kernel) (by first|exact .inl (by decide +kernel)|exact .inr (by decide +kernel)) (by rw[isSubtype_type];kernel_rfl)
theorem ot:entryFor table "set_iterator.__next__" = some Builtin.«set_iterator.__next__»:=entryFor_of_tree (by kernel_rfl)
theorem Cw:Slot "set_iterator" "__iter__" "set_iterator.__iter__" :=.of (owner:= "set_iterator") (n:= "__iter__") (by rw[typeLookup_type,builtinLookup_eq_fast];kernel_rfl) (by decide +kernel) (by decide +kernel) (by decide +kernel) (by first|exact .inl (by decide +kernel)|exact .inr (by decide +kernel)) (by rw[isSubtype_type];kernel_rfl)
theorem Gv:entryFor table "set_iterator.__iter__" = some Builtin.«dict_keyiterator.__iter__»:=entryFor_alias (id':= "dict_keyiterator.__iter__") (by kernel_rfl) (by first|rfl|decide +kernel) (by decide +kernel) (by kernel_rfl)
theorem Gu:entryFor table "set.__iter__" = some Builtin.«frozenset.__iter__»:=entryFor_alias (id':= "frozenset.__iter__") (by kernel_rfl) (by first|rfl|decide +kernel) (by decide +kernel) (by kernel_rfl)
theorem Af:Manifest.owners.lookup (String.ofList ['r','o','t','a','r','e','t','i','_','t','e','s'].reverse)=some Manifest.sig_set_iterator:=by kernel_rfl
abbrev eZ (h:Heap) (it:Addr) (f0:Value) (i:Nat) (a:Addr) (n ep:Nat):Prop:=
 h.get? it=some {cls:=.type "set_iterator", dict:=none,data:=.fields #[f0,rawInt i,.ref a,rawInt n,rawInt ep],slots:=#[]}
section
variable {prog:Program} {w:World} {A:Around} {E:Value->Shared->Prop} {s:Shared} {it a:Addr} {i n ep:Nat} {es:Array (Int × Value)} {t:SetTable} {o:Obj} {x:Value}
theorem nY (v:Value):argsOk "set_iterator.__next__" ⟨[v],[]⟩:=by
 unfold argsOk;rw[signature?_of (id:= "set_iterator.__next__") (n:=['_','_','t','x','e','n','_','_']) (o:=['r','o','t','a','r','e','t','i','_','t','e','s']) (by kernel_rfl) Af]
 kernel_rfl
theorem Ey (v:Value):argsOk "set_iterator.__iter__" ⟨[v],[]⟩:=by
 unfold argsOk;rw[signature?_of (id:= "set_iterator.__iter__") (n:=['_','_','r','e','t','i','_','_']) (o:=['r','o','t','a','r','e','t','i','_','t','e','s']) (by kernel_rfl) Af]
 kernel_rfl
theorem Ct{sl nx:Nat}{Q:Option Value->Shared->Prop}(hit:eZ s.heap it (rawInt sl) i a es.size ep)(ho:s.heap.get? a=some o)(hd:o.data = .set es ep t)(hf:t.fits es.size=true)(hn:∀{A':Around} {E':Value->Shared->Prop} {Q':Option (Value × Nat)->Shared->Prop},Q' (some (x,nx)) s->wpAny (model prog w) A' (setNext a sl i ep) Q' E' s)
  (hQ:∀h',eZ h' it (rawInt nx) (i+1) a es.size ep->Heap.SameBut it s.heap h'->Q (some x) {s with heap:=h'}):wpAny (model prog w) A (pyNext (.ref it)) Q E s:=by
 have hT:s.TypeIs (.ref it) "set_iterator" :=⟨_,hit,rfl⟩;unfold pyNext;refine ae (fW (fX (name:=Str.ofString "__next__") hT fj (dX fj hT ot ?_ (nY _))));show wpAny _ _ (fieldsOf (.ref it)>>=_) _ _ s;refine ae (lg hit rfl ?_);show wpAny _ _ (setEntries a>>=_) _ _ s;refine ae (nS ho hd hf ?_);dsimp only;rw[if_neg (by simp)];show wpAny _ _ (setNext a (sl:Int).toNat (i:Int).toNat (ep:Int).toNat>>=_) _ _ s;rw[bQ,bQ,bQ];refine ae (hn ?_);dsimp only;refine ae (eY hit (by simp) λh1 hit1 e1=>ae (eY (s:={s with heap:=h1}) hit1 (by simp) λh2 hit2 e2=>?_));exact ah ⟨x,rfl,ah (hQ h2 hit2 (e1.trans e2))⟩
theorem CP {B:Around} {Q:Fin->Shared->Prop} {E':Value->Shared->Prop} (hh:B.handled=none) (h:∀h' e,(∀b o,s.heap.get? b=some o->h'.get? b=some o)->(∃o,h'.get? e=some o/\o.cls = .type "StopIteration")->E' (.ref e) {s with heap:=h'}) :
  wpAny (model prog w) B (do let x <- newExc (.type "StopIteration") [];raiseNew x) Q E' s:=by
 refine ae ?_;simp only[newExc,newTuple];refine ae (ic ?_ (by size_fits));refine ae (m:=firstArgMember _ _) (rO (a:=Value.none) (by first|rfl | (simp only[firstArgMember];rfl)) ?_);refine ic ?_ (by size_fits);simp only[raiseNew];refine ae (wpAny_handled ?_);rw[hh];refine ae (ah (wpAny_throw ?_));exact h _ _ (λb o e=>au _ (au _ e)) ⟨_,aQ _ rfl,rfl⟩
theorem Cr{sl:Nat}{Q:Option Value->Shared->Prop}(hh:A.handled=none)(hit:eZ s.heap it (rawInt sl) i a es.size ep)(ho:s.heap.get? a=some o)(hd:o.data = .set es ep t)(hf:t.fits es.size=true)(hn:∀{A':Around} {E':Value->Shared->Prop} {Q':Option (Value × Nat)->Shared->Prop},Q' none s->wpAny (model prog w) A' (setNext a sl i ep) Q' E' s)
  (hQ:∀h',(∀b o,b≠it->s.heap.get? b=some o->h'.get? b=some o)->Q none {s with heap:=h'}):wpAny (model prog w) A (pyNext (.ref it)) Q E s:=by
 have hT:s.TypeIs (.ref it) "set_iterator" :=⟨_,hit,rfl⟩;unfold pyNext;refine ae (fW (fX (name:=Str.ofString "__next__") hT fj (dX fj hT ot ?_ (nY _))));show wpAny _ _ (fieldsOf (.ref it)>>=_) _ _ s;refine ae (lg hit rfl ?_);show wpAny _ _ (setEntries a>>=_) _ _ s;refine ae (nS ho hd hf ?_);dsimp only;rw[if_neg (by simp)];show wpAny _ _ (setNext a (sl:Int).toNat (i:Int).toNat (ep:Int).toNat>>=_) _ _ s;rw[bQ,bQ,bQ];refine ae (hn ?_);dsimp only;refine ae (eY hit (by simp) λh1 _ e1=>CP (s:={s with heap:=h1}) (by first|exact hh | (show A.handled=none;exact hh)) λh2 e k2 he=>?_);obtain⟨oe,hoe,hce⟩:=he;refine ae (nO (T:= "StopIteration") (b:=true) ⟨oe,hoe,hce⟩ rK (ah (hQ h2 λb o hb e'=>k2 b o (e1.extBut b o hb e'))))
end
theorem sN{α:Type}:∀(l:List α) (i:Nat) (h:i<l.length),(l[i]::l.eraseIdx i).Perm l
 |x::l,0,_=>.refl _
 |x::l,i+1,h=>by
  rw[vQ,List.getElem_cons_succ];exact(List.Perm.swap _ _ _).trans ((sN l i (by simpa using h)).cons x)
theorem Au{α:Type}(f:Nat->Nat):∀(fuel k:Nat) (left:List α) (out:Array α),left.length<=fuel->(pickOrder.go f fuel k left out).toList.Perm (out.toList++left)
 |0,k,left,out,h=>by
  have:left = []:=DX (by omega);subst this;unfold pickOrder.go;rw[kT]
 |fuel+1,k,left,out,h=>by
  unfold pickOrder.go;cases left with
  |nil=>simp
  |cons y r =>
   have hi:f k % (y::r).length<(y::r).length:=Nat.mod_lt _ (by simp);rw[aq hi];dsimp only;refine(Au f fuel (k+1) _ _ (by rw[Ec hi];omega)).trans ?_;rw[kK,List.append_assoc];refine List.Perm.append_left _ ?_;exact sN _ _ hi
theorem uE{α:Type}(f:Nat->Nat)(xs:Array α):(pickOrder f xs).toList.Perm xs.toList:=by
 unfold pickOrder;have:=Au f xs.size 0 xs.toList #[] (by simp);simpa using this
section
variable {prog:Program} {w:World} {A:Around} {E:Value->Shared->Prop} {s:Shared} {it a:Addr} {i n ep:Nat} {es:Array (Int × Value)} {t:SetTable} {o:Obj} {x:Value}
theorem oa {Q:Bool->Shared->Prop} (h:Q (w.params.followText "set-order") s):wpAny (model prog w) A setsByText Q E s:=by
 unfold setsByText;exact ae (wH (ah h))
theorem zD {sl:Nat} {Q:Option (Value × Nat)->Shared->Prop} (ho:s.heap.get? a=some o) (hd:o.data = .set es ep t) (hf:t.fits es.size=true) (hT:w.params.followText "set-order" = false) (hp:(!t.plain&&decide (es.size > 1))=false) (hl:t.led=true)
  (h:Q (match es[SetTable.below t.place sl]?,t.place[SetTable.below t.place sl]? with|some (_,x),some j=>some (x,j+1)|_,_=>none) s):wpAny (model prog w) A (setNext a sl i ep) Q E s:=by
 unfold setNext;refine ae (lh ho hd hf (ae (oa ?_)));rw[hT];show wpAny _ _ (if(!t.plain&&decide (es.size > 1))=true then _ else _) _ _ _;rw[hp];show wpAny _ _ ((if(!t.led&&!es.isEmpty)=true then unsupported _ else pure ())>>=_) _ _ _;rw[hl];exact ae (ah (ah h))
theorem zE {sl:Nat} {Q:Option (Value × Nat)->Shared->Prop} (ho:s.heap.get? a=some o) (hd:o.data = .set es ep t) (hf:t.fits es.size=true) (hT:w.params.followText "set-order" = true)
  (h:Q (((pickOrder (w.params.setOrder a ep) es)[i]?).map λe=>(e.2,sl)) s):wpAny (model prog w) A (setNext a sl i ep) Q E s:=by
 unfold setNext;refine ae (lh ho hd hf (ae (oa ?_)));rw[hT];rw[if_pos rfl];dsimp only;rw[if_neg (by simp)];refine ae ?_;unfold setWalk;refine ae (lh ho hd hf (ae (oa ?_)));rw[hT];show wpAny _ _ (do let y <- ask;pure (pickOrder (y.params.setOrder a ep) es)) _ _ _;exact ae (wH (ah (ah h)))
theorem Ex{src:Source}{k:Nat}{Q:Nat->Shared->Prop}(hk:k≠0)(h:∀j d',j<k->Q j {s with drawn:=d'}):wpAny (model prog w) A (choose src k) Q E s:=λΓ p _=>by
 unfold choose;rw[Sem.wp_choose];exact⟨hk,h _ _ (Nat.mod_lt _ (Nat.pos_of_ne_zero hk))⟩
theorem xu{α:Type}:∀(k:Nat) (xs:List α) (s:Shared) (Q:List α->Shared->Prop),k=xs.length->(∀ys d',ys.Perm xs->Q ys {s with drawn:=d'})->wpAny (model prog w) A (drawOrder k xs) Q E s
 |0,xs,s,Q,hk,h=>by
  have:xs = []:=DX hk.symm;subst this;unfold drawOrder;have:=h [] s.drawn (.refl _);exact ah this
 |k+1,[],s,Q,hk,h=>by cases hk
 |k+1,y::r,s,Q,hk,h=>by
  unfold drawOrder;refine ae (Ex (by simp) λj d' hj=>?_);rw[aq hj];dsimp only;refine ae (xu k _ _ _ (by rw[Ec hj,<- hk];rfl) λys d2 hp=>?_);exact ah (h _ d2 ((hp.cons _).trans (sN _ _ hj)))
theorem NR {T:Addr} {items:Array Value} {p:Nat} {hx:Int} {Q:Option Value->Shared->Prop} (hit:eZ s.heap it (.ref T) i a es.size ep) (hT':s.heap.get? T=some {cls:=.type "tuple", data:=.seq items}) (ho:s.heap.get? a=some o) (hd:o.data = .set es ep t) (hf:t.fits es.size=true) (h1:items[i]?=some (rawInt p)) (h2:es[p]?=some (hx,x))
  (hQ:∀h',eZ h' it (.ref T) (i+1) a es.size ep->Heap.SameBut it s.heap h'->Q (some x) {s with heap:=h'}):wpAny (model prog w) A (pyNext (.ref it)) Q E s:=by
 have hT:s.TypeIs (.ref it) "set_iterator" :=⟨_,hit,rfl⟩;unfold pyNext;refine ae (fW (fX (name:=Str.ofString "__next__") hT fj (dX fj hT ot ?_ (nY _))));show wpAny _ _ (fieldsOf (.ref it)>>=_) _ _ s;refine ae (lg hit rfl ?_);show wpAny _ _ (setEntries a>>=_) _ _ s;refine ae (nS ho hd hf ?_);dsimp only;rw[if_neg (by simp)];show wpAny _ _ (seqItems? (.ref T)>>=_) _ _ s;refine ae (fZ hT' rfl ?_);dsimp only;rw[bQ,h1];show wpAny _ _ (setNextDrawn a (p:Int).toNat (ep:Int).toNat>>=_) _ _ s;rw[bQ,bQ];refine ae ?_;unfold setNextDrawn;refine ae (lh ho hd hf ?_);dsimp only;rw[if_neg (by simp),h2];refine ah (ae (eY hit (by simp) λh1 hit1 e1=>?_));exact ah ⟨x,rfl,ah (hQ h1 hit1 e1)⟩
theorem NQ {T:Addr} {items:Array Value} {Q:Option Value->Shared->Prop} (hh:A.handled=none) (hit:eZ s.heap it (.ref T) i a es.size ep) (hT':s.heap.get? T=some {cls:=.type "tuple", data:=.seq items}) (ho:s.heap.get? a=some o) (hd:o.data = .set es ep t) (hf:t.fits es.size=true) (h1:items[i]?=none)
  (hQ:∀h',(∀b o,b≠it->s.heap.get? b=some o->h'.get? b=some o)->Q none {s with heap:=h'}):wpAny (model prog w) A (pyNext (.ref it)) Q E s:=by
 have hT:s.TypeIs (.ref it) "set_iterator" :=⟨_,hit,rfl⟩;unfold pyNext;refine ae (fW (fX (name:=Str.ofString "__next__") hT fj (dX fj hT ot ?_ (nY _))));show wpAny _ _ (fieldsOf (.ref it)>>=_) _ _ s;refine ae (lg hit rfl ?_);show wpAny _ _ (setEntries a>>=_) _ _ s;refine ae (nS ho hd hf ?_);dsimp only;rw[if_neg (by simp)];show wpAny _ _ (seqItems? (.ref T)>>=_) _ _ s;refine ae (fZ hT' rfl ?_);dsimp only;rw[bQ,h1];refine ae (eY hit (by simp) λg1 hit1 e1=>ae (eY (s:={s with heap:=g1}) hit1 (by simp) λg2 _ e2=>CP (s:={s with heap:=g2}) (by first|exact hh | (show A.handled=none;exact hh)) λg3 e k3 he=>?_));obtain⟨oe,hoe,hce⟩:=he;refine ae (nO (T:= "StopIteration") (b:=true) ⟨oe,hoe,hce⟩ rK (ah (hQ g3 λb o hb e'=>k3 b o (e2.extBut b o hb (e1.extBut b o hb e')))))
end
inductive ik where
 |tab
 |text
 |draw (T:Addr) (ps:List Nat)
noncomputable def slotAt(ps:Array Nat):Nat->Nat
 |0=>0
 |i+1=>ps.getD i 0+1
noncomputable def rU(m:ik)(it a:Addr)(o:Obj)(es:Array (Int × Value))(ep:Nat)(t:SetTable)(i:Nat)(h:Heap):Prop:=h.get? a=some o/\match m with
 |.tab=>eZ h it (rawInt (slotAt t.place i)) i a es.size ep
 |.text=>eZ h it (rawInt (0:Nat)) i a es.size ep
 |.draw T ps=>eZ h it (.ref T) i a es.size ep/\h.get? T=some {cls:=.type "tuple", data:=.seq (ps.map λp:Nat=>rawInt p).toArray}
noncomputable def nU(w:World)(m:ik)(a:Addr)(es:Array (Int × Value))(ep:Nat):List Value:=match m with
 |.tab=>es.toList.map (·.2)
 |.text=>(pickOrder (w.params.setOrder a ep) es).toList.map (·.2)
 |.draw _ ps=>ps.map λp=>(es.getD p (0,.none)).2
noncomputable def nT(w:World)(m:ik)(es:Array (Int × Value))(t:SetTable):Prop:=match m with
 |.tab=>w.params.followText "set-order" = false/\(!t.plain&&decide (es.size > 1))=false/\t.led=true/\d4 t.place
 |.text=>w.params.followText "set-order" = true
 |.draw _ ps=>ps.Perm (List.range es.size)
noncomputable def eu(m:ik)(it a:Addr):List Addr:=match m with
 |.draw T _=>[it,a,T]
 |_=>[it,a]
theorem JV{es:Array (Int × Value)}:(List.range es.size).map (λp=>(es.getD p (0,Value.none)).2)=es.toList.map (·.2):=by
 apply hJ
 ·simp
 ·intro i h1 h2
  have hi:i<es.size:=by simpa using h1
  simp[Array.getD,hi]
theorem CV{w:World}{m:ik}{a:Addr}{es:Array (Int × Value)}{ep:Nat}{t:SetTable}(h:nT w m es t):(nU w m a es ep).Perm (es.toList.map (·.2)):=by
 cases m with
 |tab=>exact .refl _
 |text=>exact(uE _ es).map _
 |draw T ps =>
  have:=List.Perm.map (λp=>(es.getD p (0,Value.none)).2) h;rw[JV]at this;exact this
theorem Ob{w:World}{m:ik}{a:Addr}{es:Array (Int × Value)}{ep:Nat}{t:SetTable}(h:nT w m es t):(nU w m a es ep).length=es.size:=by
 rw[(CV h).length_eq,aD,dw]
section
variable {prog:Program} {w:World} {A:Around} {m:ik} {it a:Addr} {ep:Nat} {es:Array (Int × Value)} {t:SetTable} {o:Obj}
theorem Cv(hr:d4 t.place){i:Nat}(hi:i<=t.place.size):SetTable.below t.place (slotAt t.place i)=i:=by
 cases i with
 |zero=>exact Fd hr
 |succ i=>exact Fc hr (by omega)
theorem NC(hh:A.handled=none)(hd:o.data = .set es ep t)(hf:t.fits es.size=true)(ok:nT w m es t)(hne:it≠a)(hT:∀T ps,m = .draw T ps->T≠it):Walks prog w A it (eu m it a) [it] es.size (λi v=>(nU w m a es ep)[i]?=some v) (rU m it a o es ep t) where
 sub:=λb hb=>by
  have:b=it:=eV.mp hb;subst this;cases m<;>simp[eu]
 frame:=λi h h' st k=>by
  obtain⟨h1,h2⟩:=st;cases m with
  |tab=>exact⟨k a (by simp[eu]) _ h1,k it (by simp[eu]) _ h2⟩
  |text=>exact⟨k a (by simp[eu]) _ h1,k it (by simp[eu]) _ h2⟩
  |draw T ps=>exact⟨k a (by simp[eu]) _ h1,k it (by simp[eu]) _ h2.1,k T (by simp[eu]) _ h2.2⟩
 item:=λi s Q E hi st hQ=>by
  have hps:t.place.size=es.size:=by
   unfold SetTable.fits at hf;rw[ck,eN]at hf;exact hf.1
  obtain⟨h1,h2⟩:=st;have other:∀h',Heap.SameBut it s.heap h'->∀b o,b ∉ [it]->s.heap.get? b=some o->h'.get? b=some o:=λh' e b o hb q=>e.extBut b o (λz=>hb (by rw[z];simp)) q;have same:s = {s with toks:=s.toks}:=by cases s;rfl
  cases m with
  |tab =>
   obtain⟨o1,o2,o3,o4⟩:=ok;have eb:=Cv o4 (i:=i) (by omega);refine Ct (x:=es[i].2) (nx:=t.place.getD i 0+1) h2 h1 hd hf (λ{A' E' Q'} q=>zD h1 hd hf o1 o2 o3 ?_) λh' hit e=>hQ es[i].2 h' s.toks ?_ ⟨other h' e a _ (by simpa using λz=>hne z.symm) h1,hit⟩ (other h' e)
   ·rw[eb,fP hi,fP (by omega)]
    have e2:t.place.getD i 0=t.place[i]'(by omega):=by simp[Array.getD,show i<t.place.size by omega]
    rw[e2]at q;exact q
   ·show(es.toList.map (·.2))[i]?=_
    rw[bB,kJ,fP hi];rfl
  |text =>
   have hl:i<(pickOrder (w.params.setOrder a ep) es).size:=by
    have:=(uE (w.params.setOrder a ep) es).length_eq;rw[dw,dw]at this;omega
   refine Ct (x:=((pickOrder (w.params.setOrder a ep) es)[i]).2) (nx:=0) h2 h1 hd hf (λ{A' E' Q'} q=>zE h1 hd hf ok ?_) λh' hit e=>hQ _ h' s.toks ?_ ⟨other h' e a _ (by simpa using λz=>hne z.symm) h1,hit⟩ (other h' e)
   ·rw[fP hl]
    exact q
   ·show((pickOrder (w.params.setOrder a ep) es).toList.map (·.2))[i]?=_
    rw[bB,kJ,fP hl];rfl
  |draw T ps =>
   have hpl:ps.length=es.size:=by rw[List.Perm.length_eq ok,kW]
   have hp:ps[i]<es.size:=iP.mp (List.Perm.mem_iff ok |>.mp (jz (by omega)));refine NR (p:=ps[i]) (hx:=es[ps[i]].1) (x:=es[ps[i]].2) h2.1 h2.2 h1 hd hf ?_ ?_ λh' hit e=>hQ _ h' s.toks ?_ ⟨other h' e a _ (by simpa using λz=>hne z.symm) h1,hit,other h' e T _ (by simpa using hT T ps rfl) h2.2⟩ (other h' e)
   ·simp[show i<ps.length by omega]
   ·rw[fP hp]
   ·show(ps.map λp=>(es.getD p (0,Value.none)).2)[i]?=_
    rw[bB,aq (by omega)];simp[Array.getD,hp]
 done:=λs Q E st hQ=>by
  have hps:t.place.size=es.size:=by
   unfold SetTable.fits at hf;rw[ck,eN]at hf;exact hf.1
  obtain⟨h1,h2⟩:=st;have fin:∀h',(∀b o,b≠it->s.heap.get? b=some o->h'.get? b=some o)->Q none {s with heap:=h'}:=λh' k=>hQ h' s.toks λb o hb q=>k b o (λz=>hb (by rw[z];simp)) q;cases m with
  |tab =>
   obtain⟨o1,o2,o3,o4⟩:=ok;have eb:=Cv o4 (i:=es.size) (by omega);refine Cr hh h2 h1 hd hf (λ{A' E' Q'} q=>zD h1 hd hf o1 o2 o3 ?_) fin;rw[eb,qK (aB _)];exact q
  |text =>
   refine Cr hh h2 h1 hd hf (λ{A' E' Q'} q=>zE h1 hd hf ok ?_) fin;have:=(uE (w.params.setOrder a ep) es).length_eq;rw[dw,dw]at this;rw[qK (by omega)];exact q
  |draw T ps =>
   have hpl:ps.length=es.size:=by rw[List.Perm.length_eq ok,kW]
   refine NQ hh h2.1 h2.2 h1 hd hf ?_ fin;simp[hpl]
 self:=λi s Q E st hQ=>by
  have hit:∃f0,eZ s.heap it f0 i a es.size ep:=by
   obtain⟨_,h2⟩:=st;cases m with
   |tab=>exact⟨_,h2⟩
   |text=>exact⟨_,h2⟩
   |draw T ps=>exact⟨_,h2.1⟩
  obtain⟨f0,hit⟩:=hit;have hT:s.TypeIs (.ref it) "set_iterator" :=⟨_,hit,rfl⟩;exact wL hT Cw (dX Cw hT Gv (show wpAny _ _ (ret (.ref it)) _ _ s from ah ⟨_,rfl,"set_iterator", _,hT,fj.lookup,hQ⟩) (Ey _))
end
section
variable {prog:Program} {w:World} {A:Around} {E:Value->Shared->Prop} {s:Shared} {a:Addr} {ep:Nat} {es:Array (Int × Value)} {t:SetTable} {o:Obj} {ks:List Int}
theorem Ja{Q:Value->Shared->Prop}(ho:s.heap.get? a=some o)(hx:o.ExactSet)(hd:o.data = .set es ep t)(H:dF prog w es t ks)(hz:es.size<=1000)
  (hQ:∀(m:ik) (it:Addr) (h':Heap) d',nT w m es t->rU m it a o es ep t 0 h'->it≠a->(∀T ps,m = .draw T ps->T≠it)->s.heap.objs.size<=it->(∀T ps,m = .draw T ps->s.heap.objs.size<=T)->(∀b o,s.heap.get? b=some o->h'.get? b=some o)->Q (.ref it) {s with heap:=h',drawn:=d'}) :
  wpAny (model prog w) A (pyIter (.ref a)) Q E s:=by
 have hT:s.TypeIs (.ref a) "set" :=⟨o,ho,hx.1⟩;refine wL hT F.slot_set_iter (dX F.slot_set_iter hT Gu ?_ (F.args_set_iter_1 _));unfold Builtin.«frozenset.__iter__»;have hsz:∀{s1:Shared} {f0:Value} {Q1:Fin->Shared->Prop},s1.heap.get? a=some o->(Q1 (.done (.ret (.ref s1.heap.objs.size))) {s1 with heap:=s1.heap.push {cls:=.type "set_iterator", data:=.fields #[f0,rawInt (0:Nat),.ref a,rawInt es.size,rawInt ep]}})->wpAny (model prog w) A.in1 (do let e <- setEpoch a;let v <- newFields "set_iterator" [f0,rawInt 0,.ref a,rawInt es.size,rawInt e];ret v) Q1 E s1:=λ{s1 f0 Q1} h1 q=>by
  refine ae (wpAny_setEpoch_of h1 hd H.fits (ae ?_));simp only[newFields];refine ic ?_ (by size_fits);exact ah q
 show wpAny _ _ (Builtin.Frozenset.sizeOf a>>=_) _ _ s;unfold Builtin.Frozenset.sizeOf;refine ae (ae (nS ho hd H.fits (ah ?_)));refine ae ?_;unfold setDrawn;refine ae (lh ho hd H.fits (ae (oa (ah ?_))));show wpAny _ _ (if(!w.params.followText "set-order" && (!t.plain&&decide (es.size > 1)))=true then _ else _) _ _ s;have hlt:a<s.heap.objs.size:=aG ho;have same:s = {s with drawn:=s.drawn}:=by cases s;rfl
 have yf:∀(f0:Value),eZ (s.heap.push {cls:=.type "set_iterator", data:=.fields #[f0,rawInt (0:Nat),.ref a,rawInt es.size,rawInt ep]}) s.heap.objs.size f0 0 a es.size ep:=λf0=>aQ _ rfl
 by_cases hc:(!w.params.followText "set-order" && (!t.plain&&decide (es.size > 1)))=true
 ·rw[if_pos hc]
  have hsl:∀k,k<=1000->k<=sizeLine:=λk hk=>fT (p_ hk);refine ae (xu es.size (List.range es.size) s _ (by simp) λps d' hp=>ae (nQ ?_ (by rw[aD,hp.length_eq,kW];exact hsl _ hz)));refine hsz (s1:={s with drawn:=d',heap:=s.heap.push {cls:=.type "tuple", data:=.seq (ps.map λi:Nat=>rawInt i).toArray}}) (f0:=.ref s.heap.objs.size) (au _ ho) ?_;refine⟨_,rfl,"set_iterator", _,⟨_,aQ _ rfl,rfl⟩,fj.lookup,?_⟩;have e1:(s.heap.push {cls:=.type "tuple", data:=.seq (ps.map λi:Nat=>rawInt i).toArray}).objs.size=s.heap.objs.size+1:=dU ..;refine hQ (.draw s.heap.objs.size ps) _ _ d' hp ⟨au _ (au _ ho),aQ _ rfl,au _ (aQ _ rfl)⟩ ?_ (λT ps' z=>?_) ?_ (λT ps' z=>?_) λb o' e=>au _ (au _ e)
  ·show(s.heap.push _).objs.size≠a
   rw[e1];exact eK (nB hlt)
  ·cases z
   show s.heap.objs.size≠(s.heap.push _).objs.size;rw[e1];exact aP (k0 _)
  ·show s.heap.objs.size<=(s.heap.push _).objs.size
   rw[e1];exact nA _
  ·cases z
   exact aB _
 ·rw[if_neg hc]
  refine ae (ah (hsz ho ?_));refine⟨_,rfl,"set_iterator", _,⟨_,aQ _ rfl,rfl⟩,fj.lookup,?_⟩;have keep:∀b o',s.heap.get? b=some o'->(s.heap.push {cls:=.type "set_iterator", data:=.fields #[rawInt (0:Nat),rawInt (0:Nat),.ref a,rawInt es.size,rawInt ep]}).get? b=some o':=λb o' e=>au _ e
  by_cases hT2:w.params.followText "set-order" = true
  ·exact hQ .text _ _ s.drawn hT2 ⟨keep a o ho,yf _⟩ (eK hlt) (λT ps z=>nomatch z) (aB _) (λT ps z=>nomatch z) keep
  ·have hT2:w.params.followText "set-order" = false:=by simpa using hT2
   rw[hT2]at hc;have hc:(!t.plain&&decide (es.size > 1))=false:=by simpa using hc
   have hps:t.place.size=es.size:=by
    have:=H.fits;unfold SetTable.fits at this;rw[ck,eN]at this;exact this.1
   have hr:d4 t.place:=by
    cases hp:t.plain with
    |true=>exact H.tab.rise hp
    |false =>
     rw[hp]at hc;have:¬ es.size > 1:=by simpa using hc
     intro i j hij hj;omega
   exact hQ .tab _ _ s.drawn ⟨hT2,hc,by rw[H.led,hT2];rfl,hr⟩ ⟨keep a o ho,yf _⟩ (eK hlt) (λT ps z=>nomatch z) (aB _) (λT ps z=>nomatch z) keep
theorem HD{Q:Bool->Shared->Prop}(ho:s.heap.get? a=some o)(hx:o.ExactSet)(h:Q false s):wpAny (model prog w) A (Builtin.List.listLengthHint (.ref a)) Q E s:=by
 have hT:s.TypeIs (.ref a) "set" :=⟨o,ho,hx.1⟩;unfold Builtin.List.listLengthHint;refine ae (wM hT F.slot_set_len.lookup ?_);generalize hid:("set.__len__" : String)=id0
 wp_delta
 rw[show splitId id0=some ("set","__len__")from by subst hid;decide +kernel];subst hid;refine ae (nO (T:= "set") (b:=true) hT sub_set_self ?_);refine wK (λhq=>absurd hq (by decide)) (λ_=>wK (λ_=>?_) (λhq=>absurd (by decide +kernel) hq));exact ae (wpAny_typeOf hT (ah h))
theorem yE:∀vs:List Value,(∀v∈vs,∃k t,v = .int k t)->IntsAre vs (vs.map pz)
 | [],_=>.nil
 |v::vs,h=>by
  obtain⟨k,t,rfl⟩:=h v bR;exact .cons k t (yE vs λv hv=>h v (bG _ hv))
theorem FN{R:List Value->Shared->Prop}(hh:A.handled=none)(hG:cU prog w s.heap a ks)(hz:ks.length<=1000)
  (h:∀vs ns h' d' tk,IntsAre vs ns->ns.Perm ks->(∀b o,s.heap.get? b=some o->h'.get? b=some o)->s.toks<=tk->R vs {s with heap:=h',drawn:=d',toks:=tk}):wpAny (model prog w) A (collect (.ref a)) R E s:=by
 obtain⟨o,es,ep,t,ho,hx,hd,H⟩:=hG;have hT:s.TypeIs (.ref a) "set" :=⟨o,ho,hx.1⟩;have hes:es.size<=1000:=by rw[H.size];exact hz
 have hlt:a<s.heap.objs.size:=aG ho;unfold collect;refine ae (rR (fV wt ?_));show wpAny _ _ (newList []>>=λl=>again (.builtin "list.__iadd__" ⟨[l,.ref a],[]⟩)) _ _ s;have old:∀b o',s.heap.get? b=some o'->(s.heap.push (seqObj "list" #[] 0)).get? b=some o':=λb o' e=>au _ e;have gL:(s.heap.push (seqObj "list" #[] 0)).get? s.heap.objs.size=some (seqObj "list" #[] 0):=aQ _ rfl;have iY:(s.heap.push (seqObj "list" #[] 0)).objs.size=s.heap.objs.size+1:=dU ..;have haL:s.heap.objs.size≠a:=eK hlt;have add:codeAny (model prog w) A (.builtin "list.__iadd__" ⟨[.ref s.heap.objs.size,.ref a],[]⟩) (λr s'=>r = .ok (.ret (.ref s.heap.objs.size))/\∃h' d' tk acc c' ns,s' = {s with heap:=h',drawn:=d',toks:=tk}/\(∀b o,s.heap.get? b=some o->h'.get? b=some o) /\
   h'.get? s.heap.objs.size=some {cls:=.type "list", dict:=none,data:=.seq acc c',slots:=#[]}/\IntsAre acc.toList ns/\ns.Perm ks/\s.toks<=tk) {s with heap:=s.heap.push (seqObj "list" #[] 0)}:=by
  refine fV entry_list_iadd' ?_;show wpAny _ A.in1 (Builtin.List.listExtendWith (.ref s.heap.objs.size) (.ref a) (.ref s.heap.objs.size)) _ _ _;unfold Builtin.List.listExtendWith;refine ae (wpAny_typeOf (T:= "set") ⟨o,old a o ho,hx.1⟩ ?_);have q1:Builtin.List.listSameRef (.ref s.heap.objs.size) (.ref a)=false:=by simp[Builtin.List.listSameRef,haL]
  have q2:(Value.type "set" == Value.type "list")=false:=by decide
  have q3:(Value.type "set" == Value.type "tuple")=false:=by decide
  simp only[q1,q2,q3,Bool.or_false,dz,c6];refine ae (Ja (s:={s with heap:=s.heap.push (seqObj "list" #[] 0)}) (old a o ho) hx hd H hes λm it h1 d1 ok st HF hTi hge yd k1=>?_);refine ae (dY (HD (s:={s with heap:=h1,drawn:=d1}) (k1 a o (old a o ho)) hx ?_));have hge:s.heap.objs.size+1<=it:=by rw[<- iY];exact hge
  have hLi:s.heap.objs.size≠it:=aP hge;have hLf:s.heap.objs.size ∉ eu m it a:=by
   cases m with
   |tab=>simp[eu,hLi,haL]
   |text=>simp[eu,hLi,haL]
   |draw T ps =>
    have:s.heap.objs.size+1<=T:=by rw[<- iY];exact yd T ps rfl
    have:s.heap.objs.size≠T:=aP this;simp[eu,hLi,haL,this]
  have W:=(NC (prog:=prog) (A:=A.in1) (by first|exact hh | (show A.handled=none;exact hh)) hd H.fits ok HF hTi).toS;have key:∀(h2:Heap) (c:Nat),rU m it a o es ep t 0 h2->(∀b o,s.heap.get? b=some o->h2.get? b=some o)->h2.get? s.heap.objs.size=some {cls:=.type "list", data:=.seq #[] c} ->
    codeAny (model prog w) A (.builtin "list.extend.loop" ⟨[.ref s.heap.objs.size,.ref it,.ref s.heap.objs.size],[]⟩) (λr s'=>r = .ok (.ret (.ref s.heap.objs.size))/\∃h' d' tk acc c' ns,s' = {s with heap:=h',drawn:=d',toks:=tk}/\(∀b o,s.heap.get? b=some o->h'.get? b=some o) /\
     h'.get? s.heap.objs.size=some {cls:=.type "list", dict:=none,data:=.seq acc c',slots:=#[]}/\IntsAre acc.toList ns/\ns.Perm ks/\s.toks<=tk) {s with heap:=h2,drawn:=d1}:=λh2 c st2 k2 g2=>by
   refine codeAny_extend_loopS W (fT (p_ hes)) s.heap.objs.size hLf (.ref s.heap.objs.size) es.size 0 _ #[] c rfl (bE _) st2 g2 (ItemsOf.nil _) λs' acc c' hm gS hacc=>?_;obtain⟨h',g',d',tk',os'⟩:=s';have eg:g'=s.gens:=hm.gens;have eo:os'=s.os:=hm.os;subst eg eo;have xE:acc.toList=nU w m a es ep:=by
    apply List.ext_getElem?
    intro j;rw[kJ]
    by_cases hj:j<acc.size
    ·have:=hacc.2 j acc[j] (fP hj)
     rw[this,fP hj]
    ·have hl:=Ob (a:=a) (ep:=ep) ok
     have h0:=hacc.1;rw[qK (by omega),qY (by omega)]
   have hp:=CV (a:=a) (ep:=ep) ok;refine⟨rfl,h',d',tk',acc,c',acc.toList.map pz,rfl,λb o' e=>?_,gS,yE _ λv hv=>?_,?_,hm.toks⟩
   ·have hb:=aG e
    refine hm.heap b o' (λz=>?_) (k2 b o' e)
    rcases a9.mp z with z|z
    ·exact absurd z (aP hb)
    ·exact absurd (eV.mp z) (aP (cq (nB hb) hge))
   ·rw[xE]at hv
    obtain⟨e,he,rfl⟩:=cG.mp (hp.mem_iff.mp hv);exact xF H.el he
   ·rw[xE]
    refine(hp.map pz).trans ?_;rw[dB];exact H.perm
  have k1':∀b o',s.heap.get? b=some o'->h1.get? b=some o':=λb o' e=>k1 b o' (old b o' e);have g1:h1.get? s.heap.objs.size=some {cls:=.type "list", data:=.seq #[] 0}:=k1 _ _ gL;refine wK (λ_=>?_) (λ_=>ah ⟨rL F.plain_extend_loop _,key h1 0 st k1' g1⟩);refine ae (ie (ae ?_));show wpAny _ _ (updateSeq s.heap.objs.size (·.push .none)>>=λ_=>updateSeq s.heap.objs.size (·.pop)) _ _ _;refine ae (wpAny_updateSeq g1 rfl ?_);have g2:=k_ (Obj.mapSeq (·.push Value.none)) g1 rfl;refine wpAny_updateSeq (hz:=by seq_fits) g2 rfl ?_;have g3:=k_ (Obj.mapSeq (·.pop)) g2 rfl;have oth:∀b o',b≠s.heap.objs.size->h1.get? b=some o'->((h1.update s.heap.objs.size (Obj.mapSeq (·.push Value.none))).update s.heap.objs.size (Obj.mapSeq (·.pop))).get? b=some o':=λb o' hb e=>(rF _ _ (cu hb)).trans ((rF _ _ (cu hb)).trans e);refine ah ⟨rL F.plain_extend_loop _,key _ _ ?_ (λb o' e=>oth b o' (aP (aG e)) (k1' b o' e)) g3⟩;obtain⟨st1,st2⟩:=st;cases m with
  |tab=>exact⟨oth _ _ (cu haL) st1,oth _ _ (cu hLi) st2⟩
  |text=>exact⟨oth _ _ (cu haL) st1,oth _ _ (cu hLi) st2⟩
  |draw T ps =>
   have Hr:s.heap.objs.size+1<=T:=by rw[<- iY];exact yd T ps rfl
   exact⟨oth _ _ (cu haL) st1,oth _ _ (cu hLi) st2.1,oth _ _ (eK Hr) st2.2⟩
 refine ae (h_ (ah ⟨rq _ (by decide +kernel),eL add λr s' hr=>?_⟩));obtain⟨rfl,h',d',tk,acc,c',ns,rfl,hk,hS,hi,hp,htk⟩:=hr;show wpAny _ A (load s.heap.objs.size>>=λo=>match o.data with | .seq xs _=>pure xs.toList|_=>unsupported "internal:collect") _ _ _;refine ae (wpAny_load hS ?_);exact ah (h _ ns h' d' tk hi hp hk htk)
end
section
open PySem.SeqAt
open PySem.AutoSeq1 (wpAny_loadPart')
open PySem.MeetsSeq PySem.MeetsSeq2 PySem.MeetsSeq3
end
section
variable {prog:Program} {w:World} {A:Around} {E:Value->Shared->Prop} {s:Shared}
variable {a₀:Array Keyed}
end
section
variable {X:Cx}
end
noncomputable def G6:Bool->Keyed->Array Keyed->Nat->Nat->Nat->StateT SortSt Sem (Option Nat):=sortPriv% PySem.Builtin.gallop
noncomputable def J3:Array Keyed->Array Keyed->StateT SortSt Sem (Array Keyed):=sortPriv% PySem.Builtin.mergeLo
noncomputable def J0:Array Keyed->Array Keyed->StateT SortSt Sem (Array Keyed):=sortPriv% PySem.Builtin.mergeHi
section
variable {prog:Program} {w:World} {A:Around} {E:Value->Shared->Prop} {s:Shared} {κ:SortKind} {g:Keyed->Prop} {N:Nat} {pd:Array (Nat × Nat × Nat)}
structure Safe (κ:SortKind) (g:Keyed->Prop) (N:Nat) (pd:Array (Nat × Nat × Nat)) (st:SortSt):Prop where
 kind:kindOf st=κ
 failed:failedOf st=none
 size:(arrOf st).size=N
 all:∀p∈arrOf st,g p
 pend:pendingOf st=pd
noncomputable def fA(prog:Program)(w:World)(A:Around)(s:Shared)(κ:SortKind)(g:Keyed->Prop):Prop:=∀x y,g x->g y->∃b:Bool,∀{E:Value->Shared->Prop} (Q:Bool->Shared->Prop),Q b s->wpAny (model prog w) A (keyLt' κ x.1 y.1) Q E s
theorem jr{x y:Keyed}{st:SortSt}{Q:Option Bool->SortSt->Prop}(ok:fA prog w A s κ g)(S:Safe κ g N pd st)(gx:g x)(gy:g y)(h:∀b,Q (some b) st):wpS (model prog w) A E s ((sortPriv% PySem.Builtin.lt) x y) Q st:=by
 show wpS _ _ _ _ (lt' x y) _ _;obtain⟨b,hb⟩:=ok x y gx gy;rw[lt'_eq];refine aj (eX ?_);rw[S.kind];refine aj (wpS_lift (fW (hb _ ⟨rfl,?_⟩)));exact ay (h b)
theorem dv{arr:Array Keyed}{i:Nat}{st:SortSt}{Q:Keyed->SortSt->Prop}(ga:∀p∈arr,g p)(hi:i<arr.size)(h:∀p,g p->Q p st):wpS (model prog w) A E s ((sortPriv% PySem.Builtin.elem) arr i) Q st:=by
 show wpS _ _ _ _ (elem' arr i) _ _;rw[elem'_eq,oR arr i hi];exact ay (h _ (ga _ (qL hi)))
theorem ft{i j:Nat}{st:SortSt}{Q:Option Bool->SortSt->Prop}(ok:fA prog w A s κ g)(S:Safe κ g N pd st)(hi:i<N)(hj:j<N)(h:∀b,Q (some b) st):wpS (model prog w) A E s (ltAt' i j) Q st:=by
 rw[ltAt'_eq];refine aj (eX ?_);show wpS _ _ _ _ (do let x <- elem' (arrOf st) i;let y <- elem' (arrOf st) j;lt' x y) Q st;exact aj (dv S.all (by rw[S.size];exact hi) λx gx=>aj (dv S.all (by rw[S.size];exact hj) λy gy=>jr ok S gx gy h))
theorem Safe.arr{st:SortSt}{xs:Array Keyed}(S:Safe κ g N pd st)(h:xs.Perm (arrOf st)):Safe κ g N pd (setArr st xs):=
 ⟨S.kind,S.failed,h.size_eq.trans S.size,λp hp=>S.all p (h.mem_iff.mp hp),S.pend⟩
theorem gT{i j:Nat}{st:SortSt}{Q:Unit->SortSt->Prop}(S:Safe κ g N pd st)(h:∀st',Safe κ g N pd st'->Q () st'):wpS (model prog w) A E s (reverseSlice' i j) Q st:=by
 rw[reverseSlice'_eq];exact fU (h _ (S.arr (mirror_perm _ _ _ _)))
theorem Pz{i j:Nat}{st:SortSt}{Q:Unit->SortSt->Prop}(S:Safe κ g N pd st)(h:∀st',Safe κ g N pd st'->Q () st'):wpS (model prog w) A E s (moveDown' i j) Q st:=by
 rw[moveDown'_eq];exact fU (h _ (S.arr (bubble_perm _ _ _)))
theorem ju{r:String}{st:SortSt}{Q:Unit->SortSt->Prop}(h:Q () st):wpS (model prog w) A E s (liftM (rule r):StateT SortSt Sem Unit) Q st:=wpS_lift (ie ⟨rfl,h⟩)
theorem fO{left:Bool}{key:Keyed}{arr:Array Keyed}{base n hint:Nat}{st:SortSt}{Q:Option Nat->SortSt->Prop}(ok:fA prog w A s κ g)(S:Safe κ g N pd st)(gk:g key)(ga:∀p∈arr,g p)(h1:hint<n)(h2:base+n<=arr.size)(h:∀k,k<=n->Q (some k) st):wpS (model prog w) A E s ((sortPriv% PySem.Builtin.gallop) left key arr base n hint) Q st:=by
 show wpS _ _ _ _ (G6 left key arr base n hint) _ _;have B:∀i (Q:Option Bool->SortSt->Prop),i<n->(∀b,Q (some b) st)->wpS (model prog w) A E s (do
   let x <- elem' arr (base+i)
   if left=true then lt' x key
   else do
    let y <- lt' key x
    pure (Option.map (λx=>!x) y)) Q st:=by
  intro i Q hi hq;refine aj (dv ga (by omega) λx gx=>?_);cases left
  ·simp only[dz,c6]
   exact aj (jr ok S gk gx λb=>ay (hq _))
  ·simp only[jc]
   exact jr ok S gx gk hq
 refine aj (B _ _ h1 λright=>?_);dsimp only
 split
 ·refine aj (bY (bX (I:=λ_ c st'=>st=st'/\∃l r,c=(none,l,r)) (Q:=λc st'=>st=st'/\∃l r,c=(none,l,r)) ?_ (λ_ _ z=>z) ⟨rfl,0,1,rfl⟩) ?_)
  ·rintro i c st' _ _ ⟨rfl,l,r,rfl⟩
   dsimp only
   split
   ·exact ay ⟨rfl,l,r,rfl⟩
   ·refine aj (B _ _ (by omega) λb=>?_)
    dsimp only
    split
    ·exact ay ⟨rfl,_,_,rfl⟩
    ·exact ay ⟨rfl,_,_,rfl⟩
  ·rintro c st' ⟨rfl,l,r,rfl⟩
   try dsimp only
   refine aj (bY (bX (I:=λ_ c st'=>st=st'/\∃l r,c=(none,l,r)/\r<=n) (Q:=λc st'=>st=st'/\∃l r,c=(none,l,r)/\r<=n) ?_ (λ_ _ z=>z) ⟨rfl,_,_,rfl,by omega⟩) ?_)
   ·rintro i c st' _ _ ⟨rfl,l,r,rfl,hr⟩
    dsimp only
    split
    ·exact ay ⟨rfl,l,r,rfl,hr⟩
    ·refine aj (B _ _ (by omega) λb=>?_)
     dsimp only
     split
     ·exact ay ⟨rfl,_,_,rfl,hr⟩
     ·exact ay ⟨rfl,_,_,rfl,by omega⟩
   ·rintro c st' ⟨rfl,l,r,rfl,hr⟩
    exact ay (h r hr)
 ·refine aj (bY (bX (I:=λ_ c st'=>st=st'/\∃l r,c=(none,l,r)) (Q:=λc st'=>st=st'/\∃l r,c=(none,l,r)) ?_ (λ_ _ z=>z) ⟨rfl,0,1,rfl⟩) ?_)
  ·rintro i c st' _ _ ⟨rfl,l,r,rfl⟩
   dsimp only
   split
   ·exact ay ⟨rfl,l,r,rfl⟩
   ·refine aj (B _ _ (by omega) λb=>?_)
    dsimp only
    split
    ·exact ay ⟨rfl,_,_,rfl⟩
    ·exact ay ⟨rfl,_,_,rfl⟩
  ·rintro c st' ⟨rfl,l,r,rfl⟩
   try dsimp only
   refine aj (bY (bX (I:=λ_ c st'=>st=st'/\∃l r,c=(none,l,r)/\r<=n) (Q:=λc st'=>st=st'/\∃l r,c=(none,l,r)/\r<=n) ?_ (λ_ _ z=>z) ⟨rfl,_,_,rfl,by omega⟩) ?_)
   ·rintro i c st' _ _ ⟨rfl,l,r,rfl,hr⟩
    dsimp only
    split
    ·exact ay ⟨rfl,l,r,rfl,hr⟩
    ·refine aj (B _ _ (by omega) λb=>?_)
     dsimp only
     split
     ·exact ay ⟨rfl,_,_,rfl,hr⟩
     ·exact ay ⟨rfl,_,_,rfl,by omega⟩
   ·rintro c st' ⟨rfl,l,r,rfl,hr⟩
    exact ay (h r hr)
theorem Pw{lo nrem:Nat}{st:SortSt}{Q:Option Nat->SortSt->Prop}(ok:fA prog w A s κ g)(S:Safe κ g N pd st)(h1:1<=nrem)(h2:lo+nrem<=N)(h:∀k st',1<=k->k<=nrem->Safe κ g N pd st'->Q (some k) st'):wpS (model prog w) A E s (countRun' lo nrem) Q st:=by
 try dsimp only
 refine aj (bY (bX (I:=λi c st'=>Safe κ g N pd st'/\∃m,c=(none,m)/\1<=m/\m<=i/\m<=nrem) (Q:=λc st'=>Safe κ g N pd st'/\∃m,c=(none,m)/\1<=m/\m<=nrem) ?_ (λ_ _ ⟨z,m,e,z1,_,z2⟩=>⟨z,m,e,z1,z2⟩) ⟨by assumption,_,rfl,by omega,by omega,by omega⟩) ?_)
 ·rintro i c st' _ hi ⟨S',m,rfl,z1,z2,z3⟩
  dsimp only;refine aj (ft ok S' (by omega) (by omega) λb=>?_);dsimp only
  split
  ·exact ay ⟨S',_,rfl,z1,z3⟩
  ·exact ay ⟨S',_,rfl,by omega,by omega,by omega⟩
 rintro c st2 ⟨S2,m,rfl,z1,z2⟩;clear S;dsimp only
 split
 ·exact ay (h _ _ z1 z2 S2)
 ·rename_i hne
  have hne':m≠nrem:=λe=>hne (by simp[e])
  split
  ·refine aj (ft ok S2 (by omega) (by omega) λb=>?_)
   dsimp only
   split
   ·exact ay (h _ _ z1 z2 S2)
   ·refine aj (gT S2 λst3 S3=>?_)
    clear S2
    try dsimp only
    refine aj (ju ?_);refine aj (bY (bX (I:=λi c st'=>Safe κ g N pd st'/\∃m q,c=(none,m,q)/\1<=m/\m<=i/\m<=nrem) (Q:=λc st'=>Safe κ g N pd st'/\∃m q,c=(none,m,q)/\1<=m/\m<=nrem) ?_ (λ_ _ ⟨z,m,q,e,z1,_,z2⟩=>⟨z,m,q,e,z1,z2⟩) ⟨by assumption,_,_,rfl,by omega,by omega,by omega⟩) ?_)
    ·rintro i c st' _ hi ⟨S',m,q,rfl,z1,z2,z3⟩
     dsimp only;refine aj (ft ok S' (by omega) (by omega) λb=>?_);dsimp only
     split
     ·split
      ·exact aj (gT S' λmS S8=>ay ⟨S8,_,_,rfl,by omega,by omega,by omega⟩)
      ·exact ay ⟨S',_,_,rfl,by omega,by omega,by omega⟩
     ·refine aj (ft ok S' (by omega) (by omega) λb2=>?_)
      dsimp only
      split
      ·exact ay ⟨S',_,_,rfl,by omega,by omega⟩
      ·exact ay ⟨S',_,_,rfl,by omega,by omega,by omega⟩
    ·rintro c N8 ⟨S7,m7,q7,rfl,x1,x2⟩
     dsimp only
     split
     ·refine aj (gT S7 λN7 S6=>?_)
      clear S7
      try dsimp only
      refine aj (gT (by assumption) λmS S8=>?_)
      try dsimp only
      refine aj (bY (bX (I:=λi c st'=>Safe κ g N pd st'/\∃m,c=(none,m)/\1<=m/\m<=i/\m<=nrem) (Q:=λc st'=>Safe κ g N pd st'/\∃m,c=(none,m)/\1<=m/\m<=nrem) ?_ (λ_ _ ⟨z,m,e,z1,_,z2⟩=>⟨z,m,e,z1,z2⟩) ⟨by assumption,_,rfl,by omega,by omega,by omega⟩) ?_)
      ·rintro i c st' _ hi ⟨S',m,rfl,z1,z2,z3⟩
       dsimp only;refine aj (ft ok S' (by omega) (by omega) λb=>?_);dsimp only
       split
       ·exact ay ⟨S',_,rfl,z1,z3⟩
       ·exact ay ⟨S',_,rfl,by omega,by omega,by omega⟩
      rintro c vk ⟨S9,m9,rfl,y1,y2⟩;exact ay (h _ _ y1 y2 S9)
     ·try dsimp only
      refine aj (gT (by assumption) λmS S8=>?_)
      try dsimp only
      refine aj (bY (bX (I:=λi c st'=>Safe κ g N pd st'/\∃m,c=(none,m)/\1<=m/\m<=i/\m<=nrem) (Q:=λc st'=>Safe κ g N pd st'/\∃m,c=(none,m)/\1<=m/\m<=nrem) ?_ (λ_ _ ⟨z,m,e,z1,_,z2⟩=>⟨z,m,e,z1,z2⟩) ⟨by assumption,_,rfl,by omega,by omega,by omega⟩) ?_)
      ·rintro i c st' _ hi ⟨S',m,rfl,z1,z2,z3⟩
       dsimp only;refine aj (ft ok S' (by omega) (by omega) λb=>?_);dsimp only
       split
       ·exact ay ⟨S',_,rfl,z1,z3⟩
       ·exact ay ⟨S',_,rfl,by omega,by omega,by omega⟩
      rintro c vk ⟨S9,m9,rfl,y1,y2⟩;exact ay (h _ _ y1 y2 S9)
  ·try dsimp only
   refine aj (ju ?_);refine aj (bY (bX (I:=λi c st'=>Safe κ g N pd st'/\∃m q,c=(none,m,q)/\1<=m/\m<=i/\m<=nrem) (Q:=λc st'=>Safe κ g N pd st'/\∃m q,c=(none,m,q)/\1<=m/\m<=nrem) ?_ (λ_ _ ⟨z,m,q,e,z1,_,z2⟩=>⟨z,m,q,e,z1,z2⟩) ⟨by assumption,_,_,rfl,by omega,by omega,by omega⟩) ?_)
   ·rintro i c st' _ hi ⟨S',m,q,rfl,z1,z2,z3⟩
    dsimp only;refine aj (ft ok S' (by omega) (by omega) λb=>?_);dsimp only
    split
    ·split
     ·exact aj (gT S' λmS S8=>ay ⟨S8,_,_,rfl,by omega,by omega,by omega⟩)
     ·exact ay ⟨S',_,_,rfl,by omega,by omega,by omega⟩
    ·refine aj (ft ok S' (by omega) (by omega) λb2=>?_)
     dsimp only
     split
     ·exact ay ⟨S',_,_,rfl,by omega,by omega⟩
     ·exact ay ⟨S',_,_,rfl,by omega,by omega,by omega⟩
   ·rintro c N8 ⟨S7,m7,q7,rfl,x1,x2⟩
    dsimp only
    split
    ·refine aj (gT S7 λN7 S6=>?_)
     clear S7
     try dsimp only
     refine aj (gT (by assumption) λmS S8=>?_)
     try dsimp only
     refine aj (bY (bX (I:=λi c st'=>Safe κ g N pd st'/\∃m,c=(none,m)/\1<=m/\m<=i/\m<=nrem) (Q:=λc st'=>Safe κ g N pd st'/\∃m,c=(none,m)/\1<=m/\m<=nrem) ?_ (λ_ _ ⟨z,m,e,z1,_,z2⟩=>⟨z,m,e,z1,z2⟩) ⟨by assumption,_,rfl,by omega,by omega,by omega⟩) ?_)
     ·rintro i c st' _ hi ⟨S',m,rfl,z1,z2,z3⟩
      dsimp only;refine aj (ft ok S' (by omega) (by omega) λb=>?_);dsimp only
      split
      ·exact ay ⟨S',_,rfl,z1,z3⟩
      ·exact ay ⟨S',_,rfl,by omega,by omega,by omega⟩
     rintro c vk ⟨S9,m9,rfl,y1,y2⟩;exact ay (h _ _ y1 y2 S9)
    ·try dsimp only
     refine aj (gT (by assumption) λmS S8=>?_)
     try dsimp only
     refine aj (bY (bX (I:=λi c st'=>Safe κ g N pd st'/\∃m,c=(none,m)/\1<=m/\m<=i/\m<=nrem) (Q:=λc st'=>Safe κ g N pd st'/\∃m,c=(none,m)/\1<=m/\m<=nrem) ?_ (λ_ _ ⟨z,m,e,z1,_,z2⟩=>⟨z,m,e,z1,z2⟩) ⟨by assumption,_,rfl,by omega,by omega,by omega⟩) ?_)
     ·rintro i c st' _ hi ⟨S',m,rfl,z1,z2,z3⟩
      dsimp only;refine aj (ft ok S' (by omega) (by omega) λb=>?_);dsimp only
      split
      ·exact ay ⟨S',_,rfl,z1,z3⟩
      ·exact ay ⟨S',_,rfl,by omega,by omega,by omega⟩
     rintro c vk ⟨S9,m9,rfl,y1,y2⟩;exact ay (h _ _ y1 y2 S9)
theorem Pr{lo n k:Nat}{st:SortSt}{Q:Bool->SortSt->Prop}(ok:fA prog w A s κ g)(S:Safe κ g N pd st)(h2:lo+n<=N)(h:∀st',Safe κ g N pd st'->Q true st'):wpS (model prog w) A E s (binarySort' lo n k) Q st:=by
 refine aj (bY (bX (I:=λ_ c st'=>Safe κ g N pd st'/\c=(none,())) (Q:=λc st'=>Safe κ g N pd st'/\c=(none,())) ?_ (λ_ _ z=>z) ⟨S,rfl⟩) ?_)
 ·rintro i c st' _ hi ⟨S',rfl⟩
  refine aj (bY (bX (I:=λ_ c st'=>Safe κ g N pd st'/\∃l r,c=(none,l,r)/\r<=i) (Q:=λc st'=>Safe κ g N pd st'/\∃l r,c=(none,l,r)/\r<=i) ?_ (λ_ _ z=>z) ⟨S',_,_,rfl,aB _⟩) ?_)
  ·rintro i2 c st' _ _ ⟨S',l,r,rfl,hr⟩
   dsimp only
   split
   ·exact ay ⟨S',l,r,rfl,hr⟩
   ·refine aj (ft ok S' (by omega) (by omega) λb=>?_)
    dsimp only
    split
    ·exact ay ⟨S',_,_,rfl,by omega⟩
    ·exact ay ⟨S',_,_,rfl,hr⟩
  ·rintro c st2 ⟨S2,l,r,rfl,hr⟩
   exact aj (Pz S2 λst3 S3=>ay ⟨S3,rfl⟩)
 ·rintro c st' ⟨S',rfl⟩
  exact ay (h _ S')
theorem da{M:Model}{σ α:Type}{c:Prop}[Decidable c]{x y:StateT σ Sem α}{Q:α->σ->Prop}{st:σ}(h1:c->wpS M A E s x Q st)(h2:¬c->wpS M A E s y Q st):wpS M A E s (if c then x else y) Q st:=by
 by_cases h:c
 ·rw[if_pos h];exact h1 h
 ·rw[if_neg h];exact h2 h
theorem eT{M:Model}{σ α:Type}{i j:Nat}{x y:StateT σ Sem α}{Q:α->σ->Prop}{st:σ}(h1:i=j->wpS M A E s x Q st)(h2:i≠j->wpS M A E s y Q st):wpS M A E s (if(i==j)=true then x else y) Q st:=
 da (λe=>h1 (by simpa using e)) λe=>h2 (by simpa using e)
noncomputable def GA(g:Keyed->Prop)(xs:Array Keyed):Prop:=∀p∈xs,g p
theorem GA.app{xs ys:Array Keyed}(h1:GA g xs)(h2:GA g ys):GA g (xs++ys):=λp hp=>(Array.mem_append.mp hp).elim (h1 p) (h2 p)
theorem GA.cM{xs:Array Keyed}{x:Keyed}(h1:GA g xs)(h2:g x):GA g (xs.push x):=λp hp=>(Array.mem_push.mp hp).elim (h1 p) λe=>e▸h2
theorem GA.ext{xs:Array Keyed}{i j:Nat}(h1:GA g xs):GA g (xs.extract i j):=λp hp=>h1 p (by
 obtain⟨k,hk,e⟩:=DG.mp hp;rw[Array.getElem_extract]at e;exact e▸qL _)
theorem GA.rev{xs:Array Keyed}(h1:GA g xs):GA g xs.reverse:=λp hp=>h1 p (Array.mem_reverse.mp hp)
theorem GA.one{x:Keyed}(h:g x):GA g #[x]:=λp hp=>by
 rw[Array.mem_singleton]at hp;exact hp▸h
noncomputable def Nx:Nat->StateT SortSt Sem Unit:=sortPriv% PySem.Builtin.setMinGallop
theorem kH{k:Nat}{st:SortSt}{Q:Unit->SortSt->Prop}(S:Safe κ g N pd st)(h:∀st',Safe κ g N pd st'->Q () st'):wpS (model prog w) A E s ((sortPriv% PySem.Builtin.setMinGallop) k) Q st:=by
 show wpS _ _ _ _ (Nx k) _ _;exact fU (h _ ⟨S.kind,S.failed,S.size,S.all,S.pend⟩)
theorem Py{a b:Array Keyed}{st:SortSt}{Q:Array Keyed->SortSt->Prop}(ok:fA prog w A s κ g)(S:Safe κ g N pd st)(ga:∀p∈a,g p)(gb:∀p∈b,g p)(h1:1<=a.size)(h2:1<=b.size)(h:∀out st',GA g out->Safe κ g N pd st'->Q out st'):wpS (model prog w) A E s (J3 a b) Q st:=by
 have cA:GA g a:=ga;have cB:GA g b:=gb;refine aj (ju ?_);refine aj (dv gb (by omega) λp gp=>?_);dsimp only;refine eT (λq1=>?_) (λq1=>?_)
 ·exact ay (h _ _ (by(with_reducible repeat (first|assumption|exact GA.ext cA|exact GA.ext cB|exact GA.one (by assumption)|refine GA.app ?_ ?_|refine GA.cM ?_ ?_|refine GA.rev ?_))) S)
 ·refine eT (λq2=>?_) (λq2=>?_)
  ·exact ay (h _ _ (by(with_reducible repeat (first|assumption|exact GA.ext cA|exact GA.ext cB|exact GA.one (by assumption)|refine GA.app ?_ ?_|refine GA.cM ?_ ?_|refine GA.rev ?_))) S)
  ·refine aj (eX ?_)
   refine aj (bY (bX (I:=λi c st'=>Safe κ g N pd st'/\∃out ia ib r,c=(none,out,ia,ib,r)/\GA g out/\ia+1<a.size/\ib<b.size/\i+1<=ia+ib)
    (Q:=λc st'=>Safe κ g N pd st'/\∃r x,c=(some r,x)/\GA g r) ?_ ?_ ⟨S,_,_,_,_,rfl,by(with_reducible repeat (first|assumption|exact GA.ext cA|exact GA.ext cB|exact GA.one (by assumption)|refine GA.app ?_ ?_|refine GA.cM ?_ ?_|refine GA.rev ?_)),by omega,by omega,by omega⟩) ?_)
   ·rintro i c st1 _ hi ⟨S1,out,ia,ib,mg,rfl,go,z1,z2,z3⟩
    dsimp only;refine aj (bY (bX (I:=λi c st'=>Safe κ g N pd st'/\∃out dj dk r,c=(none,out,dj,dk,r)/\GA g out/\dj+1<a.size/\dk<b.size/\ia+ib+min i 1<=dj+dk)
     (Q:=λc st'=>Safe κ g N pd st'/\((∃r x,c=(some r,x)/\GA g r)\/∃out dj dk r,c=(none,out,dj,dk,r)/\GA g out/\dj+1<a.size/\dk<b.size/\ia+ib+1<=dj+dk)) ?_ ?_ ⟨S1,_,_,_,_,rfl,go,z1,z2,by omega⟩) ?_)
    ·rintro i2 c st2 _ hi2 ⟨S2,gH,oV,oW,⟨ac,bc⟩,rfl,go2,y1,y2,y3⟩
     dsimp only
     repeat' (first
      |with_reducible refine eT (λ_=>?_) (λ_=>?_)
      |with_reducible refine da (λ_=>?_) (λ_=>?_)
      |with_reducible refine aj (dv ga (by omega) λ_ _=>?_)
      |with_reducible refine aj (dv gb (by omega) λ_ _=>?_)
      |with_reducible refine aj (jr ok (by assumption) (by assumption) (by assumption) λ_=>?_)
      |with_reducible refine aj (kH (by assumption) λ_ _=>?_)
      |with_reducible refine aj (fO ok (by assumption) (by assumption) ga (by omega) (by omega) λ_ _=>?_)
      |with_reducible refine aj (fO ok (by assumption) (by assumption) gb (by omega) (by omega) λ_ _=>?_)
      |dsimp only
      | (refine ay ⟨by assumption,?_⟩;first
        |exact .inl ⟨_,_,rfl,by(with_reducible repeat (first|assumption|exact GA.ext cA|exact GA.ext cB|exact GA.one (by assumption)|refine GA.app ?_ ?_|refine GA.cM ?_ ?_|refine GA.rev ?_))⟩
        |exact .inr ⟨_,_,_,_,rfl,by(with_reducible repeat (first|assumption|exact GA.ext cA|exact GA.ext cB|exact GA.one (by assumption)|refine GA.app ?_ ?_|refine GA.cM ?_ ?_|refine GA.rev ?_)),by omega,by omega,by omega⟩
        |exact⟨_,_,_,_,rfl,by(with_reducible repeat (first|assumption|exact GA.ext cA|exact GA.ext cB|exact GA.one (by assumption)|refine GA.app ?_ ?_|refine GA.cM ?_ ?_|refine GA.rev ?_)),by omega,by omega,by omega⟩))
    ·rintro c st2 ⟨S2,gH,oV,oW,r,rfl,go2,y1,y2,y3⟩
     exact⟨S2,.inr ⟨_,_,_,_,rfl,go2,y1,y2,by omega⟩⟩
    ·rintro c st2 ⟨S2,⟨r,x,rfl,gr⟩|⟨gH,oV,oW,⟨ac,bc⟩,rfl,go2,y1,y2,y3⟩⟩
     ·exact ay ⟨S2,_,_,rfl,gr⟩
     ·dsimp only
      refine aj (ju ?_);refine aj (bY (bX (I:=λi c st'=>Safe κ g N pd st'/\∃out dj dk r,c=(none,out,dj,dk,r)/\GA g out/\dj+1<a.size/\dk<b.size/\ia+ib+1<=dj+dk)
       (Q:=λc st'=>Safe κ g N pd st'/\((∃r x,c=(some r,x)/\GA g r)\/∃out dj dk r,c=(none,out,dj,dk,r)/\GA g out/\dj+1<a.size/\dk<b.size/\ia+ib+1<=dj+dk)) ?_ ?_ ⟨S2,_,_,_,_,rfl,go2,y1,y2,y3⟩) ?_)
      ·rintro i3 c st3 _ ye ⟨S3,ux,Iq,Ir,⟨ug,rW,r6⟩,rfl,lU,x1,x2,x3⟩
       dsimp only;clear S1 S2 S go go2
       repeat' (first
        |with_reducible refine eT (λ_=>?_) (λ_=>?_)
        |with_reducible refine da (λ_=>?_) (λ_=>?_)
        |with_reducible refine aj (dv ga (by omega) λ_ _=>?_)
        |with_reducible refine aj (dv gb (by omega) λ_ _=>?_)
        |with_reducible refine aj (jr ok (by assumption) (by assumption) (by assumption) λ_=>?_)
        |with_reducible refine aj (kH (by assumption) λ_ _=>?_)
        |with_reducible refine aj (fO ok (by assumption) (by assumption) ga (by omega) (by omega) λ_ _=>?_)
        |with_reducible refine aj (fO ok (by assumption) (by assumption) gb (by omega) (by omega) λ_ _=>?_)
        |dsimp only
        | (refine ay ⟨by assumption,?_⟩;first
          |exact .inl ⟨_,_,rfl,by(with_reducible repeat (first|assumption|exact GA.ext cA|exact GA.ext cB|exact GA.one (by assumption)|refine GA.app ?_ ?_|refine GA.cM ?_ ?_|refine GA.rev ?_))⟩
          |exact .inr ⟨_,_,_,_,rfl,by(with_reducible repeat (first|assumption|exact GA.ext cA|exact GA.ext cB|exact GA.one (by assumption)|refine GA.app ?_ ?_|refine GA.cM ?_ ?_|refine GA.rev ?_)),by omega,by omega,by omega⟩
          |exact⟨_,_,_,_,rfl,by(with_reducible repeat (first|assumption|exact GA.ext cA|exact GA.ext cB|exact GA.one (by assumption)|refine GA.app ?_ ?_|refine GA.cM ?_ ?_|refine GA.rev ?_)),by omega,by omega,by omega⟩))
      ·rintro c st2 ⟨S2,gH,oV,oW,r,rfl,go2,y1,y2,y3⟩
       exact⟨S2,.inr ⟨_,_,_,_,rfl,go2,y1,y2,by omega⟩⟩
      ·rintro c st3 ⟨S3,⟨r,x,rfl,gr⟩|⟨ux,Iq,Ir,⟨ug,rW,r6⟩,rfl,lU,x1,x2,x3⟩⟩
       ·exact ay ⟨S3,_,_,rfl,gr⟩
       ·dsimp only
        exact aj (kH S3 λbO S4=>ay ⟨S4,_,_,_,_,rfl,lU,x1,x2,by omega⟩)
   ·rintro c st2 ⟨S2,gH,oV,oW,r,rfl,go2,y1,y2,y3⟩
    exfalso
    omega
   ·rintro c st2 ⟨S2,r,x,rfl,gr⟩
    exact ay (h _ _ gr S2)
theorem Dt{M:Model}{σ α:Type}{i:Nat}{x y:StateT σ Sem α}{Q:α->σ->Prop}{st:σ}(h1:i=0->wpS M A E s x Q st)(h2:1<=i->wpS M A E s y Q st):wpS M A E s (if(i==0)=true then x else y) Q st:=
 eT h1 λe=>h2 (by omega)
theorem Du{M:Model}{σ α:Type}{i:Nat}{x y:StateT σ Sem α}{Q:α->σ->Prop}{st:σ}(h0:1<=i)(h1:i=1->wpS M A E s x Q st)(h2:2<=i->wpS M A E s y Q st):wpS M A E s (if(i==1)=true then x else y) Q st:=
 eT h1 λe=>h2 (by omega)
theorem Dv{M:Model}{σ α:Type}{i j:Nat}{x y:StateT σ Sem α}{Q:α->σ->Prop}{st:σ}(h1:j<i->wpS M A E s x Q st)(h2:i<=j->wpS M A E s y Q st):wpS M A E s (if i - j > 0 then x else y) Q st:=
 da (λe=>h1 (by omega)) λe=>h2 (by omega)
theorem Px{a b:Array Keyed}{st:SortSt}{Q:Array Keyed->SortSt->Prop}(ok:fA prog w A s κ g)(S:Safe κ g N pd st)(ga:∀p∈a,g p)(gb:∀p∈b,g p)(h1:1<=a.size)(h2:1<=b.size)(h:∀out st',GA g out->Safe κ g N pd st'->Q out st'):wpS (model prog w) A E s (J0 a b) Q st:=by
 have cA:GA g a:=ga;have cB:GA g b:=gb;refine aj (ju ?_);refine aj (dv ga (by omega) λp gp=>?_);dsimp only;refine eT (λq1=>?_) (λq1=>?_)
 ·exact ay (h _ _ (by(with_reducible repeat (first|assumption|exact GA.ext cA|exact GA.ext cB|exact GA.one (by assumption)|refine GA.app ?_ ?_|refine GA.cM ?_ ?_|refine GA.rev ?_))) S)
 ·refine eT (λq2=>?_) (λq2=>?_)
  ·exact ay (h _ _ (by(with_reducible repeat (first|assumption|exact GA.ext cA|exact GA.ext cB|exact GA.one (by assumption)|refine GA.app ?_ ?_|refine GA.cM ?_ ?_|refine GA.rev ?_))) S)
  ·refine aj (eX ?_)
   try dsimp only
   refine aj (bY (bX (I:=λi c st'=>Safe κ g N pd st'/\∃bM bN out r,c=(none,bM,bN,out,r)/\GA g out/\1<=bM/\2<=bN/\bM<=a.size/\bN<=b.size/\bM+bN+i+1<=a.size+b.size)
    (Q:=λc st'=>Safe κ g N pd st'/\∃r x,c=(some r,x)/\GA g r) ?_ ?_ ⟨S,_,_,_,_,rfl,by(with_reducible repeat (first|assumption|exact GA.ext cA|exact GA.ext cB|exact GA.one (by assumption)|refine GA.app ?_ ?_|refine GA.cM ?_ ?_|refine GA.rev ?_)),by omega,by omega,by omega,by omega,by omega⟩) ?_)
   ·rintro i c st1 _ hi ⟨S1,na,nb,out,mg,rfl,go,z1,z2,z3,z4,z5⟩
    dsimp only;refine aj (bY (bX (I:=λi c st'=>Safe κ g N pd st'/\∃bM bN out r,c=(none,bM,bN,out,r)/\GA g out/\1<=bM/\2<=bN/\bM<=a.size/\bN<=b.size/\bM+bN+min i 1<=na+nb)
     (Q:=λc st'=>Safe κ g N pd st'/\((∃r x,c=(some r,x)/\GA g r)\/∃bM bN out r,c=(none,bM,bN,out,r)/\GA g out/\1<=bM/\2<=bN/\bM<=a.size/\bN<=b.size/\bM+bN+1<=na+nb)) ?_ ?_ ⟨S1,_,_,_,_,rfl,go,z1,z2,z3,z4,by omega⟩) ?_)
    ·rintro i2 c st2 _ hi2 ⟨S2,je,jf,gH,⟨ac,bc⟩,rfl,go2,y1,y2,y3,y4,y5⟩
     dsimp only;clear S S1 go h1 h2 q1 q2 z1 z2 z3 z4 z5 hi hi2;obtain⟨je,rfl⟩:∃k,je=k+1:=⟨je - 1,by omega⟩;obtain⟨jf,rfl⟩:∃k,jf=k+1+1:=⟨jf - 2,by omega⟩;simp only[Nat.add_sub_cancel];clear y1 y2
     repeat' (first
      |with_reducible refine Dt (λ_=>?_) (λ_=>?_)
      |with_reducible refine Du (by omega) (λ_=>?_) (λ_=>?_)
      |with_reducible refine eT (λ_=>?_) (λ_=>?_)
      |with_reducible refine Dv (λ_=>?_) (λ_=>?_)
      |with_reducible refine da (λ_=>?_) (λ_=>?_)
      |with_reducible refine aj (dv ga (by omega) λ_ _=>?_)
      |with_reducible refine aj (dv gb (by omega) λ_ _=>?_)
      |with_reducible refine aj (jr ok (by assumption) (by assumption) (by assumption) λ_=>?_)
      |with_reducible refine aj (kH (by assumption) λ_ _=>?_)
      |with_reducible refine aj (fO ok (by assumption) (by assumption) ga (by omega) (by omega) λ_ _=>?_)
      |with_reducible refine aj (fO ok (by assumption) (by assumption) gb (by omega) (by omega) λ_ _=>?_)
      |dsimp only
      | (refine ay ⟨by assumption,?_⟩;first
        |exact .inl ⟨_,_,rfl,by(with_reducible repeat (first|assumption|exact GA.ext cA|exact GA.ext cB|exact GA.one (by assumption)|refine GA.app ?_ ?_|refine GA.cM ?_ ?_|refine GA.rev ?_))⟩
        |exact⟨_,_,_,_,rfl,by(with_reducible repeat (first|assumption|exact GA.ext cA|exact GA.ext cB|exact GA.one (by assumption)|refine GA.app ?_ ?_|refine GA.cM ?_ ?_|refine GA.rev ?_)),by omega,by omega,by omega,by omega,by omega⟩
        |exact .inr ⟨_,_,_,_,rfl,by(with_reducible repeat (first|assumption|exact GA.ext cA|exact GA.ext cB|exact GA.one (by assumption)|refine GA.app ?_ ?_|refine GA.cM ?_ ?_|refine GA.rev ?_)),by omega,by omega,by omega,by omega,by omega⟩))
    ·rintro c st2 ⟨S2,je,jf,gH,r,rfl,go2,y1,y2,y3,y4,y5⟩
     exact⟨S2,.inr ⟨_,_,_,_,rfl,go2,y1,y2,y3,y4,by omega⟩⟩
    ·rintro c st2 ⟨S2,⟨r,x,rfl,gr⟩|⟨je,jf,gH,⟨ac,bc⟩,rfl,go2,y1,y2,y3,y4,y5⟩⟩
     ·exact ay ⟨S2,_,_,rfl,gr⟩
     ·dsimp only
      refine aj (ju ?_);refine aj (bY (bX (I:=λi c st'=>Safe κ g N pd st'/\∃bM bN out r,c=(none,bM,bN,out,r)/\GA g out/\1<=bM/\2<=bN/\bM<=a.size/\bN<=b.size/\bM+bN+1<=na+nb)
       (Q:=λc st'=>Safe κ g N pd st'/\((∃r x,c=(some r,x)/\GA g r)\/∃bM bN out r,c=(none,bM,bN,out,r)/\GA g out/\1<=bM/\2<=bN/\bM<=a.size/\bN<=b.size/\bM+bN+1<=na+nb)) ?_ ?_ ⟨S2,_,_,_,_,rfl,go2,y1,y2,y3,y4,y5⟩) ?_)
      ·rintro i3 c st3 _ ye ⟨S3,ph,pj,ux,⟨ug,rW,r6⟩,rfl,lU,x1,x2,x3,x4,x5⟩
       dsimp only;clear S1 S2 S go go2 h1 h2 q1 q2 z1 z2 z3 z4 z5 y1 y2 y3 y4 y5 hi ye;obtain⟨ph,rfl⟩:∃k,ph=k+1:=⟨ph - 1,by omega⟩;obtain⟨pj,rfl⟩:∃k,pj=k+1+1:=⟨pj - 2,by omega⟩;simp only[Nat.add_sub_cancel];clear x1 x2
       repeat' (first
        |with_reducible refine Dt (λ_=>?_) (λ_=>?_)
        |with_reducible refine Du (by omega) (λ_=>?_) (λ_=>?_)
        |with_reducible refine eT (λ_=>?_) (λ_=>?_)
        |with_reducible refine Dv (λ_=>?_) (λ_=>?_)
        |with_reducible refine da (λ_=>?_) (λ_=>?_)
        |with_reducible refine aj (dv ga (by omega) λ_ _=>?_)
        |with_reducible refine aj (dv gb (by omega) λ_ _=>?_)
        |with_reducible refine aj (jr ok (by assumption) (by assumption) (by assumption) λ_=>?_)
        |with_reducible refine aj (kH (by assumption) λ_ _=>?_)
        |with_reducible refine aj (fO ok (by assumption) (by assumption) ga (by omega) (by omega) λ_ _=>?_)
        |with_reducible refine aj (fO ok (by assumption) (by assumption) gb (by omega) (by omega) λ_ _=>?_)
        |dsimp only
        | (refine ay ⟨by assumption,?_⟩;first
          |exact .inl ⟨_,_,rfl,by(with_reducible repeat (first|assumption|exact GA.ext cA|exact GA.ext cB|exact GA.one (by assumption)|refine GA.app ?_ ?_|refine GA.cM ?_ ?_|refine GA.rev ?_))⟩
          |exact⟨_,_,_,_,rfl,by(with_reducible repeat (first|assumption|exact GA.ext cA|exact GA.ext cB|exact GA.one (by assumption)|refine GA.app ?_ ?_|refine GA.cM ?_ ?_|refine GA.rev ?_)),by omega,by omega,by omega,by omega,by omega⟩
          |exact .inr ⟨_,_,_,_,rfl,by(with_reducible repeat (first|assumption|exact GA.ext cA|exact GA.ext cB|exact GA.one (by assumption)|refine GA.app ?_ ?_|refine GA.cM ?_ ?_|refine GA.rev ?_)),by omega,by omega,by omega,by omega,by omega⟩))
      ·rintro c st2 ⟨S2,je,jf,gH,r,rfl,go2,y1,y2,y3,y4,y5⟩
       exact⟨S2,.inr ⟨_,_,_,_,rfl,go2,y1,y2,y3,y4,by omega⟩⟩
      ·rintro c st3 ⟨S3,⟨r,x,rfl,gr⟩|⟨ph,pj,ux,⟨ug,rW,r6⟩,rfl,lU,x1,x2,x3,x4,x5⟩⟩
       ·exact ay ⟨S3,_,_,rfl,gr⟩
       ·dsimp only
        exact aj (kH S3 λbO S4=>ay ⟨S4,_,_,_,_,rfl,lU,x1,x2,x3,x4,by omega⟩)
   ·rintro c st2 ⟨S2,je,jf,gH,r,rfl,go2,y1,y2,y3,y4,y5⟩
    exfalso
    omega
   ·rintro c st2 ⟨S2,r,x,rfl,gr⟩
    exact ay (h _ _ gr S2)
end
noncomputable def Runs:List (Nat × Nat × Nat)->Nat->Nat->Prop
 | [],a,b=>a=b
 | (s,n,_)::r,a,b=>s=a/\1<=n/\Runs r (a+n) b
theorem Runs.le:∀{l:List (Nat × Nat × Nat)} {a b:Nat},Runs l a b->a<=b
 | [],_,_,h=>nz h
 | (_,n,_)::r,a,b,h=>by
  have:=Runs.le h.2.2;omega
theorem Runs.app{s n p:Nat}:∀{l:List (Nat × Nat × Nat)} {a b:Nat},Runs l a b->1<=n->Runs (l++[(b,n,p)]) a (b+n)
 | [],_,_,rfl,hn=>⟨rfl,hn,rfl⟩
 | (_,_,_)::r,a,b,h,hn=>⟨h.1,h.2.1,Runs.app (s:=s) h.2.2 hn⟩
theorem Runs.at:∀{l:List (Nat × Nat × Nat)} {a b i s n p s2 n2 p2:Nat},Runs l a b->l[i]?=some (s,n,p)->l[i+1]?=some (s2,n2,p2)->s2=s+n/\1<=n/\1<=n2/\s2+n2<=b/\Runs ((l.set i (s,n+n2,p)).eraseIdx (i+1)) a b
 | [],_,_,i,_,_,_,_,_,_,_,h1,_=>by simp at h1
 | (s0,n0,p0)::r,a,b,0,s,n,p,s2,n2,p2,h,h1,h2=>by
  simp only[D',rn,Prod.mk.injEq]at h1;obtain⟨rfl,rfl,rfl⟩:=h1;cases r with
  |nil=>simp at h2
  |cons q r =>
   simp at h2;subst h2;obtain⟨e1,e2,e3,e4,e5⟩:=h;have:=e5.le;refine⟨by omega,e2,e4,by omega,?_⟩;refine⟨e1,by omega,?_⟩;rw[show a+(n0+n2)=a+n0+n2 by omega];exact e5
 | (s0,n0,p0)::r,a,b,i+1,s,n,p,s2,n2,p2,h,h1,h2=>by
  obtain⟨e1,e2,e3⟩:=h;have:=Runs.at (i:=i) e3 (by simpa using h1) (by simpa using h2);exact⟨this.1,this.2.1,this.2.2.1,this.2.2.2.1,e1,e2,this.2.2.2.2⟩
theorem Runs.mod(f:Nat × Nat × Nat->Nat × Nat × Nat)(hf:∀x,(f x).1=x.1/\(f x).2.1=x.2.1):∀{l:List (Nat × Nat × Nat)} {a b i:Nat},Runs l a b->Runs (l.modify i f) a b
 | [],_,_,i,h=>by simpa using h
 | (s0,n0,p0)::r,a,b,0,h=>by
  have:=hf (s0,n0,p0);rw[List.modify_zero_cons];generalize f (s0,n0,p0)=y at this;obtain⟨y1,y2,y3⟩:=y;obtain⟨rfl,rfl⟩:=this;exact h
 | (s0,n0,p0)::r,a,b,i+1,h=>⟨h.1,h.2.1,Runs.mod f hf h.2.2⟩
section
variable {prog:Program} {w:World} {A:Around} {E:Value->Shared->Prop} {s:Shared} {κ:SortKind} {g:Keyed->Prop} {N:Nat} {pd:Array (Nat × Nat × Nat)}
theorem PB{M:Model}{σ:Type}{st':σ}{Q:PUnit->σ->Prop}{st:σ}(h:Q ⟨⟩ st'):wpS M A E s (set st':StateT σ Sem PUnit) Q st:=by
 unfold wpS;rw[StateT.run_set];exact ah ⟨rfl,h⟩
theorem GA.setB{xs:Array Keyed}{x:Keyed}{i:Nat}(h1:GA g xs)(h2:g x):GA g (xs.setIfInBounds i x):=λp hp=>by
 obtain⟨k,hk,e⟩:=DG.mp hp;rw[Array.getElem_setIfInBounds]at e
 ·split at e
  ·exact e▸h2
  ·exact e▸h1 _ (qL _)
 ·simpa using hk
theorem GA.fold{sa:Nat}:∀{l:List (Keyed × Nat)} {xs:Array Keyed},GA g xs->(∀p∈l,g p.1)->GA g (l.foldl (λa x=>a.setIfInBounds (sa+x.2) x.1) xs)/\(l.foldl (λa x=>a.setIfInBounds (sa+x.2) x.1) xs).size=xs.size
 | [],xs,h,_=>⟨h,rfl⟩
 |p::l,xs,h,hl=>by
  have:=GA.fold (sa:=sa) (h.setB (i:=sa+p.2) (hl p (bR ..))) (λq hq=>hl q (bG _ hq));exact⟨this.1,this.2.trans (Array.size_setIfInBounds ..)⟩
theorem vG{i lo:Nat}{st:SortSt}{Q:Bool->SortSt->Prop}(ok:fA prog w A s κ g)(S:Safe κ g N pd st)(hR:Runs pd.toList 0 lo)(hlo:lo<=N)(hi:i+1<pd.size)(h:∀uB st',Safe κ g N uB st'->Runs uB.toList 0 lo->1<=uB.size->Q true st'):wpS (model prog w) A E s (mergeAt' i) Q st:=by
 refine aj (eX ?_);dsimp only;obtain⟨⟨sa,na,pw⟩,e1⟩:∃x,pd[i]?=some x:=⟨_,oR pd i (by omega)⟩;obtain⟨⟨sb,nb,Qi⟩,e2⟩:∃x,pd[i+1]?=some x:=⟨_,oR pd (i+1) (by omega)⟩;obtain⟨rfl,n1,n2,z1,R2⟩:=hR.at (i:=i) (by simpa using e1) (by simpa using e2);have hp:(sortPriv% PySem.Builtin.SortState.pending) st=pd:=S.pend;rw[hp,e1,e2];dsimp only;refine aj (PB ?_);have S2:∀st':SortSt,kindOf st'=kindOf st->failedOf st'=none->GA g (arrOf st')->(arrOf st').size=N->pendingOf st'=(pd.setIfInBounds i (sa,na+nb,pw)).eraseIdxIfInBounds (i+1)->Safe κ g N ((pd.setIfInBounds i (sa,na+nb,pw)).eraseIdxIfInBounds (i+1)) st':=
  λst' a1 a2 a3 a4 a5=>⟨a1.trans S.kind,a2,a4,a3,a5⟩
 have R3:Runs ((pd.setIfInBounds i (sa,na+nb,pw)).eraseIdxIfInBounds (i+1)).toList 0 lo:=by
  have:((pd.setIfInBounds i (sa,na+nb,pw)).eraseIdxIfInBounds (i+1)).toList=(pd.toList.set i (sa,na+nb,pw)).eraseIdx (i+1):=by simp
  rw[this];exact R2
 have sz:1<=((pd.setIfInBounds i (sa,na+nb,pw)).eraseIdxIfInBounds (i+1)).size:=by
  rw[<- dw];generalize ((pd.setIfInBounds i (sa,na+nb,pw)).eraseIdxIfInBounds (i+1)).toList=l at R3;cases l with
  |nil =>
   have:0=lo:=R3;omega
  |cons=>simp
 have S3:=S2 (SortSt.mk' (kindOf st) (arrOf st) ((pd.setIfInBounds i (sa,na+nb,pw)).eraseIdxIfInBounds (i+1)) (gallopOf st) (failedOf st)) rfl S.failed S.all S.size rfl;have T:∀(k:Nat) (M:Array Keyed) (bO:SortSt),GA g M->Safe κ g N ((pd.setIfInBounds i (sa,na+nb,pw)).eraseIdxIfInBounds (i+1)) bO->wpS (model prog w) A E s (do
   modify λs=>setArr s (List.foldl (λa x=>a.setIfInBounds (sa+k+x.2) x.1) (arrOf s) M.toList.zipIdx)
   let y <- get
   pure (failedOf y).isNone) Q bO:=by
  intro k M bO gM S4;refine aj (fU (aj (eX (ay ?_))));have q:=GA.fold (sa:=sa+k) (l:=M.toList.zipIdx) (xs:=arrOf bO) S4.all (λp hp=>gM _ (by
   have:=List.mem_zipIdx hp;rw[this.2.2];simp))
  rw[show failedOf (setArr bO _)=none from S4.failed];exact h _ _ ⟨S4.kind,S4.failed,q.2.trans S4.size,q.1,S4.pend⟩ R3 sz
 have hs:(arrOf st).size=N:=S.size;have hs':((sortPriv% PySem.Builtin.SortState.a) st).size=N:=S.size;refine aj (dv S.all (by omega) λp gp=>?_);refine aj (fO ok S3 gp S.all (by omega) (by omega) λk hk=>?_);dsimp only;refine eT (λq1=>?_) (λq1=>?_)
 ·exact ay (h _ _ S3 R3 sz)
 ·refine aj (dv S.all (by omega) λp2 Hb=>?_)
  refine aj (fO ok S3 Hb S.all (by omega) (by omega) λk2 hk2=>?_);dsimp only;refine eT (λq2=>?_) (λq2=>?_)
  ·exact ay (h _ _ S3 R3 sz)
  ·have e3:((arrOf st).extract (sa+k) (sa+na)).size=na - k:=by
    rw[Array.size_extract];omega
   have e4:((arrOf st).extract (sa+na) (sa+na+k2)).size=k2:=by
    rw[Array.size_extract];omega
   have e3':(((sortPriv% PySem.Builtin.SortState.a) st).extract (sa+k) (sa+na)).size=na - k:=e3;have e4':(((sortPriv% PySem.Builtin.SortState.a) st).extract (sa+na) (sa+na+k2)).size=k2:=e4;have g3:GA g ((arrOf st).extract (sa+k) (sa+na)):=GA.ext S.all;have g4:GA g ((arrOf st).extract (sa+na) (sa+na+k2)):=GA.ext S.all;refine da (λ_=>?_) (λ_=>?_)
   ·exact aj (Py ok S3 g3 g4 (by rw[e3];omega) (by rw[e4];omega) λM bO gM S4=>T k M bO gM S4)
   ·exact aj (Px ok S3 g3 g4 (by rw[e3];omega) (by rw[e4];omega) λM bO gM S4=>T k M bO gM S4)
theorem PJ{st:SortSt}{Q:Unit->SortSt->Prop}(ok:fA prog w A s κ g)(S:Safe κ g N #[] st)(h:∀pd st',Safe κ g N pd st'->Q () st'):wpS (model prog w) A E s sortRuns' Q st:=by
 refine aj (eX ?_);have hs:((sortPriv% PySem.Builtin.SortState.a) st).size=N:=S.size;dsimp only;rw[hs];generalize (sortPriv% PySem.Builtin.minRun) N N 0=mr;refine aj (bY (bX (I:=λx c st'=>∃lo pd,c=(none,lo)/\Safe κ g N pd st'/\Runs pd.toList 0 lo/\lo<=N/\x<=lo) (Q:=λc st'=>∃lo pd,c=(none,lo)/\Safe κ g N pd st'/\Runs pd.toList 0 lo/\lo<=N) ?step (λc st' ⟨lo,pd,e,z1,z2,z3,_⟩=>⟨lo,pd,e,z1,z2,z3⟩) ⟨0,#[],rfl,S,rfl,bE _,aB _⟩) ?post)
 case step =>
  rintro x c st1 _ hx ⟨lo,pd,rfl,S1,R1,hlo,yr⟩;dsimp only;refine da (λq=>?_) (λq=>?_)
  ·exact ay ⟨lo,pd,rfl,S1,R1,hlo⟩
  ·refine aj (Pw ok S1 (by omega) (by omega) λn st3 hn1 hn2 S3=>?_)
   dsimp only;refine da (λq2=>?_) (λq2=>?_)
   ·refine aj (ju ?_)
    refine aj (Pr ok S3 (by omega) λst3 S3=>?_);refine da (λe=>by simp at e) (λ_=>?_);have j4:1<=min (N - lo) mr:=by omega
    have j5:lo+min (N - lo) mr<=N:=by omega
    generalize min (N - lo) mr=n at j4 j5;refine aj (eX ?_);cases hb:((sortPriv% PySem.Builtin.SortState.pending) st3).back? with
    |none =>
     dsimp only;refine aj (fU (ay ⟨_,_,rfl,⟨S3.kind,S3.failed,S3.size,S3.all,rfl⟩,?_,j5,by omega⟩));show Runs ((pendingOf st3).push (lo,n,0)).toList 0 (lo+n);rw[S3.pend,kK];exact R1.app (s:=0) j4
    |some y =>
     obtain⟨s1,n1,p1⟩:=y;dsimp only;refine aj (bY (bX (I:=λ_ c st'=>∃pd,c=(none,())/\Safe κ g N pd st'/\Runs pd.toList 0 lo) (Q:=λc st'=>∃pd,c=(none,())/\Safe κ g N pd st'/\Runs pd.toList 0 lo) ?_ (λ_ _ z=>z) ⟨pd,rfl,S3,R1⟩) ?_)
     ·rintro _ c bO _ _ ⟨cC,rfl,S4,R4⟩
      refine aj (eX ?_);have lX:(sortPriv% PySem.Builtin.SortState.pending) bO=cC:=S4.pend
      try dsimp only
      rw[lX]
      by_cases q4:cC.size > 1
      ·rw[if_pos q4]
       obtain⟨⟨y1,y2,y3⟩,ey⟩:∃y,cC[cC.size - 2]?=some y:=⟨_,oR _ _ (by omega)⟩;rw[ey];dsimp only;refine da (λ_=>ay ⟨cC,rfl,S4,R4⟩) (λ_=>?_);refine aj (vG ok S4 R4 hlo (by omega) λmB fN S5 R5 _=>?_);refine da (λe=>by simp at e) λ_=>ay ⟨mB,rfl,S5,R5⟩
      ·rw[if_neg q4]
       exact ay ⟨cC,rfl,S4,R4⟩
     ·rintro c bO ⟨cC,rfl,S4,R4⟩
      dsimp only;refine aj (fU (aj (fU (ay ⟨_,_,rfl,⟨S4.kind,S4.failed,S4.size,S4.all,rfl⟩,?_,j5,by omega⟩))));show Runs (((pendingOf bO).modify ((pendingOf bO).size - 1) _).push (lo,n,0)).toList 0 (lo+n);rw[S4.pend,kK,Array.toList_modify];refine Runs.app (s:=0) ?_ j4;refine Runs.mod _ ?_ R4;exact λx=>⟨rfl,rfl⟩
   ·have j4:1<=n:=hn1
    have j5:lo+n<=N:=by omega
    refine aj (eX ?_);cases hb:((sortPriv% PySem.Builtin.SortState.pending) st3).back? with
    |none =>
     dsimp only;refine aj (fU (ay ⟨_,_,rfl,⟨S3.kind,S3.failed,S3.size,S3.all,rfl⟩,?_,j5,by omega⟩));show Runs ((pendingOf st3).push (lo,n,0)).toList 0 (lo+n);rw[S3.pend,kK];exact R1.app (s:=0) j4
    |some y =>
     obtain⟨s1,n1,p1⟩:=y;dsimp only;refine aj (bY (bX (I:=λ_ c st'=>∃pd,c=(none,())/\Safe κ g N pd st'/\Runs pd.toList 0 lo) (Q:=λc st'=>∃pd,c=(none,())/\Safe κ g N pd st'/\Runs pd.toList 0 lo) ?_ (λ_ _ z=>z) ⟨pd,rfl,S3,R1⟩) ?_)
     ·rintro _ c bO _ _ ⟨cC,rfl,S4,R4⟩
      refine aj (eX ?_);have lX:(sortPriv% PySem.Builtin.SortState.pending) bO=cC:=S4.pend
      try dsimp only
      rw[lX]
      by_cases q4:cC.size > 1
      ·rw[if_pos q4]
       obtain⟨⟨y1,y2,y3⟩,ey⟩:∃y,cC[cC.size - 2]?=some y:=⟨_,oR _ _ (by omega)⟩;rw[ey];dsimp only;refine da (λ_=>ay ⟨cC,rfl,S4,R4⟩) (λ_=>?_);refine aj (vG ok S4 R4 hlo (by omega) λmB fN S5 R5 _=>?_);refine da (λe=>by simp at e) λ_=>ay ⟨mB,rfl,S5,R5⟩
      ·rw[if_neg q4]
       exact ay ⟨cC,rfl,S4,R4⟩
     ·rintro c bO ⟨cC,rfl,S4,R4⟩
      dsimp only;refine aj (fU (aj (fU (ay ⟨_,_,rfl,⟨S4.kind,S4.failed,S4.size,S4.all,rfl⟩,?_,j5,by omega⟩))));show Runs (((pendingOf bO).modify ((pendingOf bO).size - 1) _).push (lo,n,0)).toList 0 (lo+n);rw[S4.pend,kK,Array.toList_modify];refine Runs.app (s:=0) ?_ j4;refine Runs.mod _ ?_ R4;exact λx=>⟨rfl,rfl⟩
 case post =>
  rintro c st2 ⟨lo,pd,rfl,S2,R2,hlo⟩;dsimp only;refine aj (bY (bX (I:=λ_ c st'=>∃pd,c=(none,())/\Safe κ g N pd st'/\Runs pd.toList 0 lo) (Q:=λc st'=>∃pd,c=(none,())/\Safe κ g N pd st'/\Runs pd.toList 0 lo) ?_ (λ_ _ z=>z) ⟨pd,rfl,S2,R2⟩) ?_)
  ·rintro _ c bO _ _ ⟨cC,rfl,S4,R4⟩
   refine aj (eX ?_);have lX:(sortPriv% PySem.Builtin.SortState.pending) bO=cC:=S4.pend
   try dsimp only
   rw[lX];refine da (λ_=>ay ⟨cC,rfl,S4,R4⟩) (λq4=>?_);refine aj (vG ok S4 R4 hlo ?_ λmB fN S5 R5 _=>?_)
   ·(repeat' split)<;>omega
   ·refine da (λe=>by simp at e) λ_=>ay ⟨mB,rfl,S5,R5⟩
  ·rintro c bO ⟨cC,rfl,S4,R4⟩
   exact ay (h _ _ S4)
theorem JH:fA prog w A s oneType' λp=>(∃n t,p.1 = .int n t)/\∃n t,p.2 = .int n t:=by
 rintro⟨x1,x2⟩ ⟨y1,y2⟩ ⟨⟨n,t,rfl⟩,_⟩ ⟨⟨m,u,rfl⟩,_⟩;exact⟨decide (n<m),λQ h=>oneLt_int h⟩
theorem JD {a:Addr} {vs:List Value} {ns:List Int} {n:Nat} {P:PySem.Fin->Shared->Prop} (ho:s.heap.get? a=some (seqObj "list" vs.toArray n))
  (hI:IntsAre vs ns) (h2:2<=vs.length) (hz:vs.length<=2000)
  (h:∀(out:Array Value) (ns':List Int),IntsAre out.toList ns'->ns'.length=ns.length->P (.done (.ret .none)) {s with heap:=sortedHeap s.heap a vs out}) :
  wpAny (model prog w) A (Builtin.«list.sort» ⟨[.ref a],[]⟩) P E s:=by
 rw[list_sort_plain];have ha:a<s.heap.objs.size:=aG ho;refine ae (jG ho rfl ?_);refine ae (h6 ho rfl ?_);obtain⟨e1,ho1⟩:∃e1,(s.heap.update a (Obj.mapSeq λ_=>#[])).get? a=some (seqObj "list" #[] e1):=⟨_,iS ho (λ_=>#[])⟩;refine ae (jH ho1 rfl ?_);refine ae (nQ ?_);refine ae (h_ ?_);refine dY ?_;have ho6:(((s.heap.update a (Obj.mapSeq λ_=>#[])).push (seqObj "tuple" vs.toArray 0)).push (seqObj "list" #[] 0)).get? a=some (seqObj "list" #[] e1):=
  au _ (au _ ho1)
 show wpAny (model prog w) A _ P E {s with heap:=((s.heap.update a (Obj.mapSeq λ_=>#[])).push (seqObj "tuple" vs.toArray 0)).push (seqObj "list" #[] 0)};dsimp only;have hsz:¬ vs.toArray.size<2:=by simp;omega
 rw[if_neg hsz,if_neg hsz];obtain⟨v₁,v₂,rest,rfl⟩:∃v₁ v₂ rest,vs=v₁::v₂::rest:=by
  match vs,h2 with
  |v₁::v₂::rest,_=>exact⟨v₁,v₂,rest,rfl⟩
 rw[keyKind_ints hI];refine ae (ah ?_);refine ae (dZ (PJ (N:=(v₁::v₂::rest).length) (st:=SortSt.mk' oneType' ((v₁::v₂::rest).toArray.zip (v₁::v₂::rest).toArray) #[] 7 none)
  (Q:=λ_ st'=>∃pd,Safe oneType' (λp=>(∃n t,p.1 = .int n t)/\∃n t,p.2 = .int n t) (v₁::v₂::rest).length pd st') JH
  ⟨rfl,rfl,pairsOf_size _,λp hp=>?_,rfl⟩ λpd st' z=>⟨pd,z⟩) ?_ λ_ _ e=>e)
 ·have hp2:p∈pairsOf (v₁::v₂::rest):=hp
  have hp':p∈(pairsOf (v₁::v₂::rest)).toList:=qM.mpr hp2;rw[pairsOf_toList]at hp';have:=mem_zip_self hp';exact⟨hI.all _ this.2,this.1▸hI.all _ this.2⟩
 ·rintro⟨⟨⟩,st'⟩ s' ⟨rfl,pd,S⟩
  dsimp only;refine ae (jH ho6 rfl ?_);refine ae (h6 ho6 rfl ?_ (hsz2:=by refine cH (nz ((Array.size_map ..).trans S.size)) ?_;rw[sizeLine_eq];omega));rw[S.failed];simp only[sf,dz,c6];have hall:=intsAre_map ((arrOf st').map (·.2)).toList (by
   intro v hv;simp only[mV,cG]at hv;obtain⟨p,hp,rfl⟩:=hv;exact(S.all p (by simpa using hp)).2)
  refine ah (h _ _ hall ?_);rw[aD,dw,Array.size_map,S.size,hI.length]
theorem JC {a:Addr} {vs:List Value} {ns:List Int} {n:Nat} {P:PySem.Fin->Shared->Prop} (ho:s.heap.get? a=some (seqObj "list" vs.toArray n))
  (hI:IntsAre vs ns) (hz:vs.length<=2000)
  (h:∀(out:Array Value) (ns':List Int),IntsAre out.toList ns'->ns'.length=ns.length->(ns.length<64->ns'.Perm ns/\ns'.Pairwise (·<=·))->P (.done (.ret .none)) {s with heap:=sortedHeap s.heap a vs out}) :
  wpAny (model prog w) A (Builtin.«list.sort» ⟨[.ref a],[]⟩) P E s:=by
 have hl:=hI.length
 by_cases h64:vs.length<64
 ·exact list_sort_tree ho hI h64 λout ns' x1 x2 x3=>h out ns' x1 x2.length_eq λ_=>⟨x2,x3⟩
 ·exact JD ho hI (by omega) hz λout ns' x1 x2=>h out ns' x1 x2 λz=>absurd z (by omega)
end
theorem Fj:bootBuiltins "set" = some (.type "set"):=by decide +kernel
theorem xc:bootBuiltins "sorted" = some (.builtin "sorted"):=by decide +kernel
noncomputable def jL(P:Program)(w:World)(p:Addr)(ks:List Int):HO:=.ext λh=>cU P w h p ks
theorem NP{P:Program}{w:World}{H:Hp}{h:Heap}{p:Addr}{ks:List Int}(hG:cU P w h p ks):aK P w H h p (jL P w p ks):=
 ⟨hG,let⟨o,_,_,_,e,_⟩:=hG;⟨o,e⟩,λh1 h2 g k=>g.moved λo e=>k o e⟩
theorem Mm{ks:List Int}{k x:Int}:x∈gK ks k ↔ x∈ks\/x=k:=by
 unfold gK
 split
 ·rename_i h
  exact⟨.inl,λz=>z.elim id λe=>e▸h⟩
 ·simp
theorem zM(val:Nat->Int){x:Int}:∀i,x∈numsTo val i ↔ ∃j,j<i/\val j=x
 |0=>by simp[numsTo]
 |i+1=>by
  rw[numsTo_succ,Mm,zM val i]
  constructor
  ·rintro(⟨j,h1,h2⟩|h)
   ·exact⟨j,by omega,h2⟩
   ·exact⟨i,by omega,h.symm⟩
  ·rintro⟨j,h1,h2⟩
   by_cases e:j=i
   ·exact .inr (by rw[<- h2,e])
   ·exact .inl ⟨j,by omega,h2⟩
section
variable {X:Cx} {K:W.Frag}
theorem Inv.Gf{pins:List (Addr × Obj)}{σ:St}{H:Hp}{s:Shared}{d':Drawn}(I:Inv X pins σ H s):Inv X pins σ H {s with drawn:=d'}:=
 ⟨I.ok,I.os,I.bare,I.base,I.loc,I.cell,I.free,I.dJ,I.pin,I.hok,I.len⟩
noncomputable def MT(X:Cx)(K:W.Frag):List V->Hp->VK->Prop:=λxs H Q=>∃(l:Addr) (ns:List Int),xs = [.ref l]/\ak K H l (ns.map V.int)/\ns.length<=1000/\∀p ks,H p=none->ks.Nodup->(∀k,k∈ks ↔ k∈ns)->Q (.ref p) (upd H p (jL X.prog X.w p ks))
theorem Fx (h:X.K=K) (hr:aV 0 X.A):cV X (.type "set") (MT X K):=by
 subst h;intro pins s σ H vs us Q I rv h;obtain⟨l,ns,rfl,hl,hz,q⟩:=h;obtain⟨u,rfl,ru⟩:=rv.one;cases ru;obtain⟨its,r,pl,_⟩:=I.list hl;have hI:=oX r;have hlen:its.length=ns.length:=by rw[<- r.length,aD]
 refine NB hr.hd pl.isList (by simpa using hI) (by rw[a_,hlen];show ns.length+1<4096;omega) λh' tk hG hk=>?_;have kept:∀b o,s.heap.get? b=some o->h'.get? b=some o:=λb o e=>hk b o (aG e) e;refine⟨.ref s.heap.objs.size,_,I.laid (o:=jL X.prog X.w s.heap.objs.size _) kept (aB _) (NP hG),rfl,q _ _ I.fresh ?_ λk=>?_⟩
 ·obtain⟨_,_,_,_,_,_,_,H⟩:=hG
  exact H.nd
 ·rw[zM,a_,hlen]
  constructor
  ·rintro⟨j,h1,h2⟩
   rw[<- h2,aO,aq h1];exact jz h1
  ·intro hk
   obtain⟨j,h1,h2⟩:=jA hk;exact⟨j,h1,by rw[aO,aq h1];exact h2⟩
noncomputable def M3(X:Cx):List V->Hp->VK->Prop:=λxs H Q=>∃(a:Addr) (ks:List Int),xs = [.ref a]/\H a=some (jL X.prog X.w a ks)/\ks.length<=1000/\∀(p:Addr) (ms:List Int),H p=none->ms.length=ks.length->(ks.length<64->ms.Perm ks/\ms.Pairwise (·<=·))->Q (.ref p) (upd H p (.lst (ms.map V.int)))
theorem N2 {h:Heap} {a:Addr} {vs:List Value} {out:Array Value} {n:Nat} (e:h.get? a=some (seqObj "list" vs.toArray n)):(∃c,(sortedHeap h a vs out).get? a=some (seqObj "list" out c))/\∀b o,b≠a->h.get? b=some o->(sortedHeap h a vs out).get? b=some o:=by
 unfold sortedHeap;obtain⟨e1,h1⟩:∃e1,(h.update a (Obj.mapSeq λ_=>(#[]:Array Value))).get? a=some (seqObj "list" #[] e1):=⟨_,iS e λ_=>#[]⟩;refine⟨⟨_,iS (au _ (au _ h1)) λ_=>out⟩,λb o hb q=>?_⟩;rw[h9 _ _ _ _ hb];refine au _ (au _ ?_);rw[h9 _ _ _ _ hb];exact q
theorem Fz (hr:aV 0 X.A):cV X (.builtin "sorted") (M3 X):=by
 intro pins s σ H vs us Q I rv h;obtain⟨a,ks,rfl,ha,hz,q⟩:=h;obtain⟨u,rfl,ru⟩:=rv.one;cases ru;have hG:cU X.prog X.w s.heap a ks:=(show aK X.prog X.w H s.heap a (jL X.prog X.w a ks)from I.hok a _ ha).1;refine wq kind_sorted plain_sorted entry_sorted (args_sorted1 (.ref a)) ?_;unfold Builtin.«sorted»;refine ae (m:=checkCount "sorted" 1 1 _) (ah (ae (FN (A:=X.A.in1) hr.hd hG (by omega) λvs ns h1 d1 tk hI hp k1 _=>ae (h_ ?_ ?_))))
 ·have I1:Inv X pins σ H {s with heap:=h1,drawn:=d1,toks:=tk}:=(I.kept (t':=tk) k1).Gf
  have ea:(h1.push {cls:=.type "list", data:=.seq vs.toArray}).get? h1.objs.size=some (seqObj "list" vs.toArray 0):=aQ _ rfl;refine ae (dY (wu slot_list_sort ⟨_,ea,rfl⟩ entry_list_sort ?_ (args_list_sort _)));show wpAny (model X.prog X.w) X.A.in1.in1 (Builtin.«list.sort» ⟨[.ref h1.objs.size],[]⟩) _ _ _;have hvl:vs.length<=1000:=by rw[hI.length,hp.length_eq];exact hz
  refine JC (s:={s with heap:=h1.push {cls:=.type "list", data:=.seq vs.toArray},drawn:=d1,toks:=tk}) (vs:=vs) (n:=0) ea hI (cH hvl (by decide)) λout ns' hI' hp' hs'=>?_;obtain⟨⟨c,g1⟩,g2⟩:=N2 (out:=out) ea;have hol:out.toList.length<=sizeLine:=by rw[hI'.length,hp',<- hI.length];exact fT (p_ (by omega))
  have I5:Inv X pins σ (upd H h1.objs.size (.lst (ns'.map V.int))) {s with heap:=sortedHeap (h1.push {cls:=.type "list", data:=.seq vs.toArray}) h1.objs.size vs out,drawn:=d1,toks:=tk}:=by
   refine I1.laid (t':=tk) (λb o e=>?_) (aB _) ⟨by rw[aD,<- hI'.length];exact hol,out.toList,c,vE hI',by simpa using g1⟩;exact g2 b o (aP (aG e)) (au _ e)
  exact⟨_,rfl,ah ⟨_,rfl,.ref h1.objs.size,_,I5,rfl,q _ ns' I1.fresh (hp'.trans hp.length_eq) λz=>⟨(hs' (by rw[hp.length_eq];exact z)).1.trans hp,(hs' (by rw[hp.length_eq];exact z)).2⟩⟩⟩
 ·rw[hI.length,hp.length_eq]
  exact fT (p_ (by omega))
end
section
variable {X:Cx} {k v:Expr} {tk tv:TE} {pos:Pos}
end
noncomputable def dA(h:Heap)(d:Addr)(ks:List Value)(ep:Nat):Prop:=∃o es,h.get? d=some o/\o.ExactDict/\o.data = .dict es ep/\es.toList.map (·.key)=ks
theorem dA.mv{h h':Heap}{d:Addr}{ks:List Value}{ep:Nat}(x:dA h d ks ep)(e:∀o,h.get? d=some o->h'.get? d=some o):dA h' d ks ep:=let⟨o,es,ho,r⟩:=x;⟨o,es,e _ ho,r⟩
theorem dA.lt{h:Heap}{d:Addr}{ks:List Value}{ep:Nat}(x:dA h d ks ep):d<h.objs.size:=let⟨_,_,ho,_⟩:=x;aG ho
theorem dA.ty {s:Shared} {d:Addr} {ks:List Value} {ep:Nat} (x:dA s.heap d ks ep):s.TypeIs (.ref d) "dict" :=let⟨o,_,ho,hc,_⟩:=x;⟨o,ho,hc.1⟩
section
variable {prog:Program} {w:World} {A:Around} {E:Value->Shared->Prop} {s:Shared} {d it:Addr} {ks:List Value} {ep i:Nat}
theorem Gr{Q:Value->Shared->Prop}(lo:(d==sysModules)=false)(x:dA s.heap d ks ep)
  (q:Q (.ref s.heap.objs.size) {s with heap:=s.heap.push {cls:=.type "dict_keyiterator", data:=.fields #[.ref d,.int 0 0,.int ks.length 0,.int ep 0]}}):wpAny (model prog w) A (pyIter (.ref d)) Q E s:=by
 have T:=x.ty;obtain⟨o,es,e1,e2,e3,rfl⟩:=x;have z:es.size=(es.toList.map (·.key)).length:=by simp
 refine wL T F.slot_dict_iter (dX F.slot_dict_iter T F.entry_dict_iter (ae ?_) (F.args_dict_iter_1 _));unfold Builtin.Dict.dictSlotNone;refine ae (wpAny_notOrdered_dict T ?_);show wpAny (model prog w) A.in1 (pure (Value.ref d)) _ _ s;refine ah (show wpAny (model prog w) A.in1 (Builtin.Dict.showsAll d>>=_) _ _ s from ?_);unfold Builtin.Dict.showsAll;rw[if_neg (by simp[lo])];refine ae (ah (ae (wI e1 e3 (ae (wJ e1 e3 (ae (ic (ah ⟨_,rfl,"dict_keyiterator", _,⟨_,aQ _ rfl,rfl⟩,nE.lookup,?_⟩))))))));rw[<- z]at q;exact q
theorem Gq{Q:Option Value->Shared->Prop}{key:Value}(hit:s.heap.IsKeyIter it d i ks.length ep)(x:dA s.heap d ks ep)(hx:ks[i]?=some key)
  (q:∀h',h'.IsKeyIter it d (i+1) ks.length ep->Heap.SameBut it s.heap h'->Q (some key) {s with heap:=h'}):wpAny (model prog w) A (pyNext (.ref it)) Q E s:=by
 have T:=hit.typeIs;obtain⟨o,ho,hc,hd⟩:=id hit;obtain⟨od,es,e1,e2,e3,rfl⟩:=x;have z:es.size=(es.toList.map (·.key)).length:=by simp
 have hi:i<es.size:=by have:=(bF.mp hx).1;omega
 have hkey:es[i].key=key:=by
  have:=(bF.mp hx).2;simpa using this
 have own:Builtin.Dict_items.ownsTuple "dict_keyiterator" = false:=by decide
 unfold pyNext;refine ae (fW (fX (name:=Str.ofString "__next__") T nE (dX nE T Eo (ae (ah (ae (ae ?_)))) (El _))));refine ae (rT T (ah (ae (lg ho hd ?_))));simp only[own,dz,c6];show wpAny (model prog w) A.in1 (if(Value.ref d==Value.none)=true then _ else _) _ _ s;rw[if_neg (by exact Bool.false_ne_true)];refine ae (ah (ae (wI e1 e3 ?_)));rw[if_neg (by rw[z];simp)];refine ae (ah (ae (wJ e1 e3 ?_)));rw[if_neg (by simp)];refine ah ?_;simp only[show ¬ ((i:Int)<0)from by omega,c6,bQ,fP hi];refine ae (ae (rT T (ah (ae (wpAny_isOneOf_keyiter T ?_)))));show wpAny (model prog w) A.in1 (setField (.ref it) 1 (rawInt ((i:Int)+1))>>=_) _ _ s;refine ae (rS ho hd (by simp) ?_);have h2:(s.heap.update it (Obj.mapFields (·.setIfInBounds 1 (rawInt ((i:Int)+1))))).IsKeyIter it d (i+1) (es.toList.map (·.key)).length ep:=
  ⟨_,k_ _ ho (Obj.isFreed_of_fields (rG hd _)),(Obj.cls_mapFields ..).trans hc,by rw[rG hd];simp[rawInt]⟩
 refine ae (dY (ae (wpAny_isOneOf_keyiter (s:={s with heap:=s.heap.update it (Obj.mapFields (·.setIfInBounds 1 (rawInt ((i:Int)+1))))}) h2.typeIs ?_)));show wpAny (model prog w) A.in1 (pure es[i].key) _ _ _;rw[hkey];exact ah (ah ⟨_,rfl,ah (q _ h2 (k9 ..))⟩)
theorem Gp{Q:Option Value->Shared->Prop}(hh:A.handled=none)(hit:s.heap.IsKeyIter it d i ks.length ep)(x:dA s.heap d ks ep)(hx:ks.length<=i)
  (q:∀h',Heap.ExtBut it s.heap h'->Q none {s with heap:=h'}):wpAny (model prog w) A (pyNext (.ref it)) Q E s:=by
 have T:=hit.typeIs;obtain⟨o,ho,hc,hd⟩:=id hit;obtain⟨od,es,e1,e2,e3,rfl⟩:=x;have z:es.size=(es.toList.map (·.key)).length:=by simp
 have own:Builtin.Dict_items.ownsTuple "dict_keyiterator" = false:=by decide
 unfold pyNext;refine ae (fW (fX (name:=Str.ofString "__next__") T nE (dX nE T Eo (ae (ah (ae (ae ?_)))) (El _))));refine ae (rT T (ah (ae (lg ho hd ?_))));simp only[own,dz,c6];show wpAny (model prog w) A.in1 (if(Value.ref d==Value.none)=true then _ else _) _ _ s;rw[if_neg (by exact Bool.false_ne_true)];refine ae (ah (ae (wI e1 e3 ?_)));rw[if_neg (by rw[z];simp)];refine ae (ah (ae (wJ e1 e3 ?_)));rw[if_neg (by simp)];refine ah ?_;simp only[show ¬ ((i:Int)<0)from by omega,c6,bQ,qK (show es.size<=i by omega)];refine ae (ae (rT T (ah ?_)));show wpAny (model prog w) A.in1 (setField (.ref it) 0 .none>>=_) _ _ s;refine ae (rS ho hd (by simp) ?_);show wpAny (model prog w) A.in1 (newExc (.type "StopIteration") []>>=_) _ _ _;refine ae ?_;simp only[newExc,newTuple];refine ae (ic (ae (m:=firstArgMember _ _) (rO (a:=Value.none) (by first|rfl | (simp only[firstArgMember];rfl)) (ic ?_ (by size_fits)))) (by size_fits));simp only[raiseNew];refine ae (wpAny_handled ?_);rw[show A.in1.handled=none from hh];refine ae (ah (wpAny_throw ?_));refine ae (nO (T:= "StopIteration") (b:=true) ⟨_,aQ _ rfl,rfl⟩ rK ?_);exact ah (q _ (((k9 ..).extBut.push _).push _))
end
theorem Gs{prog:Program}{w:World}{A:Around}(hh:A.handled=none)(I d:Addr)(hne:d≠I)(ks:List Value)(ep:Nat):Walks prog w A I [I,d] [I] ks.length (λi v=>ks[i]?=some v) (λi h=>h.IsKeyIter I d i ks.length ep/\dA h d ks ep) where
 sub:=λb hb=>by simp at hb;simp[hb]
 frame:=λ_ _ _ st hk=>⟨st.1.at λo e=>hk I (by simp) o e,st.2.mv λo e=>hk d (by simp) o e⟩
 item:=λi s Q E hi st hQ=>Gq st.1 st.2 (aq hi) λh' h1 h2=>hQ _ h' s.toks (aq hi) ⟨h1,st.2.mv λo e=>h2.extBut d o hne e⟩ λb o hb e=>h2.extBut b o (λz=>hb (by simp[z])) e
 done:=λs Q E st hQ=>Gp hh st.1 st.2 (aB _) λh' h1=>hQ h' s.toks λb o hb e=>h1 b o (λz=>hb (by simp[z])) e
 self:=λ_ _ _ _ st hQ=>wpAny_pyIter_keyiter st.1 hQ
theorem xH {prog:Program} {w:World} {d:Addr} {ks:List Value} {ep:Nat} (lo:(d==sysModules)=false):W.KdlSrc prog w "dict" d d ks.length (λi v=>ks[i]?=some v) (λh=>dA h d ks ep) where
 type:=λ_ x=>x.ty
 there:=λ_ x=>⟨x.lt,x.lt⟩
 keep:=λ_ _ x hk=>x.mv λo e=>hk d (.inl rfl) o e
 notList:=by decide
 notTuple:=by decide
 hint:=λ_ _ _ _ x hq=>W.kdl_hint_dict x.ty hq
 iter:=λ_ _ hh x=>⟨_,_,(λ_ _ hq=>Gr lo x hq),Gs hh _ d (aP x.lt) ks ep,⟨⟨_,aQ _ rfl,rfl,rfl⟩,x.mv λo e=>au _ e⟩⟩
end L2
namespace L2
open PySem PySem.Spec PyProof.Rows PySem.Builtin PySem.Builtin.Str
abbrev tuples' (b:Bool):SortKind:=(sortPriv% PySem.Builtin.KeyKind.tuples) b
section
variable {prog:Program} {w:World} {A:Around} {E:Value->Shared->Prop} {s:Shared}
theorem KN{b:Bool}{i j:Int}{t u:Tok}{Q:Bool->Shared->Prop}(h:Q (decide (i<j)) s):wpAny (model prog w) A (oneLt' b (.int i t) (.int j u)) Q E s:=by
 cases b with
 |true=>exact oneLt_int h
 |false =>
  rw[oneLt'_eq];simp only[dz,c6];refine ae ?_;exact PyProof.Rows.lt_int (fE h)
end
end L2
namespace L2
open PySem PySem.W PyProof.Rows
section
variable {α β:Type} {n:Nat} {rk:Nat->Int}
noncomputable def bz(n:Nat)(rk:Nat->Int):KasT α->(α->Prop)->Prop
 |.ret a,Q=>Q a
 |.ask i j k,Q=>i<n/\j<n/\bz n rk (k (decide (rk i<rk j))) Q
theorem bz.mono{Q Q':α->Prop}:∀{t:KasT α},bz n rk t Q->(∀a,Q a->Q' a)->bz n rk t Q'
 |.ret a,h,q=>q a h
 |.ask i j k,⟨h1,h2,h3⟩,q=>⟨h1,h2,bz.mono h3 q⟩
theorem bz.bind{f:α->KasT β}{Q:β->Prop}:∀{t:KasT α},bz n rk t (λa=>bz n rk (f a) Q)->bz n rk (t.bind f) Q
 |.ret a,h=>h
 |.ask i j k,⟨h1,h2,h3⟩=>⟨h1,h2,bz.bind h3⟩
theorem bz.wp{cmp:Nat->Nat->(Bool->Shared->Prop)->Shared->Prop}{s:Shared}{Q:α->Prop}(hc:∀i j C,i<n->j<n->C (decide (rk i<rk j)) s->cmp i j C s):∀{t:KasT α},bz n rk t Q->t.kasWp cmp (λa s'=>s'=s/\Q a) s
 |.ret a,h=>⟨rfl,h⟩
 |.ask i j k,⟨h1,h2,h3⟩=>hc i j _ h1 h2 (bz.wp hc h3)
end
noncomputable def Pm(n:Nat)(p:Array Nat):Prop:=p.Perm (List.range n).toArray
theorem Pm.size{n:Nat}{p:Array Nat}(h:Pm n p):p.size=n:=by
 have:=h.size_eq;simpa using this
theorem Pm.lt{n i:Nat}{p:Array Nat}(h:Pm n p)(hi:i<n):p.getD i 0<n:=by
 have hs:=h.size;have hi':i<p.size:=by omega
 have e:p.getD i 0=p[i]:=by simp[Array.getD,hi']
 have hm:p[i]∈(List.range n).toArray:=h.mem_iff.mp (qL hi');rw[e];simpa using hm
theorem Pm.o_{n i j d:Nat}{p:Array Nat}(h:Pm n p):Pm n (mirror p i j d):=(mirror_perm p i j d).trans h
theorem Pm.Fm{n i j:Nat}{p:Array Nat}(h:Pm n p):Pm n (bubble p i j):=(bubble_perm p i j).trans h
theorem ja(p:Array Nat)(i:Nat):p.getD i 0=p[i]?.getD 0:=by
 by_cases h:i<p.size
 ·simp[Array.getD,h]
 ·simp[Array.getD,h]
theorem tG{p:Array Nat}{i j:Nat}(hj:j<=p.size)(k:Nat):(kas_rev p i j).getD k 0=if i<=k/\k<j then p.getD (i+j - 1 - k) 0 else p.getD k 0:=by
 unfold kas_rev;rw[ja,getElem?_mirror_all hj,ja,ja]
 split<;>rfl
theorem xT{p:Array Nat}{k l:Nat}(hk:k<p.size)(hl:l<=k)(i:Nat):(bubble p k (k - l)).getD i 0=if i=l then p.getD k 0 else if l<i/\i<=k then p.getD (i - 1) 0 else p.getD i 0:=by
 rw[ja,getElem?_bubble hk _ (Nat.sub_le _ _),ja,ja,ja];have e:k - (k - l)=l:=by omega
 rw[e]
 repeat' split
 all_goals rfl
section
variable {n:Nat} {rk:Nat->Int} {p:Array Nat}
noncomputable def Up(rk:Nat->Int)(p:Array Nat)(m:Nat):Prop:=∀i j,i<=j->j<m->rk (p.getD i 0)<=rk (p.getD j 0)
noncomputable def Dn(rk:Nat->Int)(p:Array Nat)(m:Nat):Prop:=∀i j,i<=j->j<m->rk (p.getD j 0)<=rk (p.getD i 0)
theorem Up.rev{m:Nat}(hm:m<=p.size)(h:Dn rk p m):Up rk (kas_rev p 0 m) m:=λi j h1 h2=>by
 rw[tG hm,tG hm,if_pos ⟨bE _,by omega⟩,if_pos ⟨bE _,h2⟩];exact h _ _ (by omega) (by omega)
theorem uK{i j:Nat}(hj:j<=p.size)(heq:∀k,i<=k->k<j->rk (p.getD k 0)=rk (p.getD (j - 1) 0))(k:Nat):rk ((kas_rev p i j).getD k 0)=rk (p.getD k 0):=by
 rw[tG hj]
 split
 ·rw[heq (i+j - 1 - k) (by omega) (by omega),heq k (by omega) (by omega)]
 ·rfl
theorem rY(P:Pm n p):∀(f a:Nat),1<=a->a+f<=n->Up rk p a->bz n rk (kas_asc p f a) λm=>a<=m/\m<=a+f/\Up rk p m/\(m<a+f->rk (p.getD m 0)<rk (p.getD (m - 1) 0))
 |0,a,h1,h2,h3=>⟨aB _,aB _,h3,λz=>absurd z (eJ _)⟩
 |f+1,a,h1,h2,h3=>by
  refine⟨P.lt (by omega),P.lt (by omega),?_⟩
  by_cases c:rk (p.getD a 0)<rk (p.getD (a - 1) 0)
  ·rw[b9 c];dsimp only;rw[if_pos rfl]
   exact⟨aB _,by omega,h3,λ_=>c⟩
  ·rw[cZ c];dsimp only;rw[if_neg Bool.false_ne_true]
   refine(rY P f (a+1) (by omega) (by omega) λi j hij hj=>?_).mono λm ⟨z1,z2,z3,z4⟩=>⟨by omega,by omega,z3,λz=>z4 (by omega)⟩
   by_cases hj2:j=a
   ·subst hj2
    by_cases hi:i=j
    ·rw[hi];exact iL _
    ·exact m8 (h3 i (j - 1) (by omega) (by omega)) (m_.mp c)
   ·exact h3 i j hij (by omega)
theorem rZ:∀(f:Nat) (p:Array Nat) (a q:Nat),Pm n p->q+1<=a->a+f<=n->Dn rk p a->(∀k,a - (q+1)<=k->k<a->rk (p.getD k 0)=rk (p.getD (a - 1) 0))->bz n rk (kas_desc f p a q) λr=>Pm n r.1/\a<=r.2.1/\r.2.1<=a+f/\r.2.2+1<=r.2.1/\Dn rk r.1 r.2.1/\∀k,r.2.1 - (r.2.2+1)<=k->k<r.2.1->rk (r.1.getD k 0)=rk (r.1.getD (r.2.1 - 1) 0)
 |0,p,a,q,P,h1,h2,h3,h4=>⟨P,aB _,aB _,h1,h3,h4⟩
 |f+1,p,a,q,P,h1,h2,h3,h4=>by
  have hs:=P.size;refine⟨P.lt (by omega),P.lt (by omega),?_⟩
  by_cases c:rk (p.getD a 0)<rk (p.getD (a - 1) 0)
  ·rw[b9 c];dsimp only;rw[if_pos rfl]
   have go:∀p':Array Nat,Pm n p'->(∀k,rk (p'.getD k 0)=rk (p.getD k 0))->bz n rk (kas_desc f p' (a+1) 0) λr=>Pm n r.1/\a<=r.2.1/\r.2.1<=a+(f+1)/\r.2.2+1<=r.2.1/\Dn rk r.1 r.2.1/\∀k,r.2.1 - (r.2.2+1)<=k->k<r.2.1->rk (r.1.getD k 0)=rk (r.1.getD (r.2.1 - 1) 0):=by
    intro p' P' e;refine(rZ f p' (a+1) 0 P' (by omega) (by omega) (λi j hij hj=>?_) λk k1 k2=>?_).mono λr ⟨z1,z2,z3,z4⟩=>⟨z1,by omega,by omega,z4⟩
    ·rw[e,e]
     by_cases hj2:j=a
     ·subst hj2
      by_cases hi:i=j
      ·rw[hi];exact iL _
      ·exact m8 (qS c) (h3 i (j - 1) (by omega) (by omega))
     ·exact h3 i j hij (by omega)
    ·obtain rfl:k=a+1 - 1:=by omega
     rfl
   split
   ·exact go _ P.o_ λk=>uK (by omega) (λk k1 k2=>h4 k k1 k2) k
   ·exact go p P λ_=>rfl
  ·rw[cZ c];dsimp only;rw[if_neg Bool.false_ne_true]
   refine⟨P.lt (by omega),P.lt (by omega),?_⟩
   by_cases d:rk (p.getD (a - 1) 0)<rk (p.getD a 0)
   ·rw[b9 d];dsimp only;rw[if_pos rfl]
    exact⟨P,aB _,by show a<=a+(f+1);omega,h1,h3,h4⟩
   ·rw[cZ d];dsimp only;rw[if_neg Bool.false_ne_true]
    have e:rk (p.getD a 0)=rk (p.getD (a - 1) 0):=Int.le_antisymm (m_.mp d) (m_.mp c);refine(rZ f p (a+1) (q+1) P (by omega) (by omega) (λi j hij hj=>?_) λk k1 k2=>?_).mono λr ⟨z1,z2,z3,z4⟩=>⟨z1,by omega,by omega,z4⟩
    ·by_cases hj2:j=a
     ·subst hj2
      by_cases hi:i=j
      ·rw[hi];exact iL _
      ·rw[e];exact h3 i (j - 1) (by omega) (by omega)
     ·exact h3 i j hij (by omega)
    ·rw[show a+1 - 1=a from rfl]
     by_cases hk:k=a
     ·rw[hk]
     ·rw[e];exact h4 k (by omega) (by omega)
noncomputable def qP(n:Nat)(rk:Nat->Int)(nrem:Nat)(r:Nat × Array Nat):Prop:=Pm n r.2/\1<=r.1/\r.1<=nrem/\Up rk r.2 r.1
theorem wX{a nrem:Nat}(P:Pm n p)(h1:1<=a)(h2:a<=nrem)(h3:nrem<=n)(h4:Dn rk p a):bz n rk (kas_tail3 a nrem p) (qP n rk nrem):=by
 have hs:=P.size;have P':Pm n (kas_rev p 0 a):=P.o_;exact bz.bind ((rY P' (nrem - a) a h1 (by omega) (Up.rev (by omega) h4)).mono λm ⟨z1,z2,z3,_⟩=>⟨P',by omega,by show m<=nrem;omega,z3⟩)
theorem wV{a nrem:Nat}(P:Pm n p)(h1:a+1<=nrem)(h3:nrem<=n)(h4:Dn rk p (a+1)):bz n rk (kas_descPart a nrem p) (qP n rk nrem):=by
 refine bz.bind ((rZ (nrem - (a+1)) p (a+1) 0 P (by omega) (by omega) h4 λk k1 k2=>?_).mono λr ⟨z1,z2,z3,z4,z5,z6⟩=>?_)
 ·obtain rfl:k=a+1 - 1:=by omega
  rfl
 ·have hs:=z1.size
  split
  ·refine wX z1.o_ (by omega) (by omega) h3 λi j hij hj=>?_
   have q:=uK (rk:=rk) (p:=r.1) (i:=r.2.1 - (r.2.2+1)) (j:=r.2.1) (by omega) z6;rw[q,q];exact z5 i j hij hj
  ·exact wX z1 (by omega) (by omega) h3 z5
theorem Ew{nrem:Nat}(P:Pm n p)(h1:1<=nrem)(h3:nrem<=n):bz n rk (kas_count nrem p) (qP n rk nrem):=by
 have hs:=P.size;refine bz.bind ((rY P (nrem - 1) 1 (aB _) (by omega) λi j hij hj=>?_).mono λm ⟨z1,z2,z3,z4⟩=>?_)
 ·obtain rfl:i=j:=by omega
  exact iL _
 ·split
  ·exact⟨P,z1,by show m<=nrem;omega,z3⟩
  ·rename_i ne
   have hm:m<nrem:=by
    have:m≠nrem:=λe=>ne (by simp[e]);omega
   have lt:=z4 (by omega)
   split
   ·refine⟨P.lt (by omega),P.lt (by omega),?_⟩
    by_cases c:rk (p.getD 0 0)<rk (p.getD (m - 1) 0)
    ·rw[b9 c];dsimp only;rw[if_pos rfl]
     exact⟨P,z1,by show m<=nrem;omega,z3⟩
    ·rw[cZ c];dsimp only;rw[if_neg Bool.false_ne_true]
     have all:∀k,k<m->rk (p.getD k 0)=rk (p.getD (m - 1) 0):=λk hk=>Int.le_antisymm (z3 k (m - 1) (by omega) (by omega)) (m8 (m_.mp c) (z3 0 k (by omega) hk));have q:=uK (rk:=rk) (p:=p) (i:=0) (j:=m) (by omega) λk _ hk=>all k hk;refine wV P.o_ (by omega) h3 λi j hij hj=>?_;rw[q,q]
     by_cases hj2:j=m
     ·subst hj2
      by_cases hi:i=j
      ·rw[hi];exact iL _
      ·rw[all i (by omega)];exact qS lt
     ·rw[all i (by omega),all j (by omega)];exact iL _
   ·obtain rfl:m=1:=by omega
    refine wV P (by omega) h3 λi j hij hj=>?_
    by_cases hj2:i=j
    ·rw[hj2];exact iL _
    ·obtain rfl:i=0:=by omega
     obtain rfl:j=1:=by omega
     exact qS lt
theorem r0{k:Nat}(P:Pm n p)(hk:k<n)(hU:Up rk p k):∀(f l r:Nat),l<=r->r<=k->r - l<=f->(∀i,i<l->rk (p.getD i 0)<=rk (p.getD k 0))->(∀i,r<=i->i<k->rk (p.getD k 0)<=rk (p.getD i 0))->bz n rk (kas_place p k f l r) λm=>m<=k/\(∀i,i<m->rk (p.getD i 0)<=rk (p.getD k 0))/\∀i,m<=i->i<k->rk (p.getD k 0)<=rk (p.getD i 0)
 |0,l,r,h1,h2,h3,h4,h5=>by
  obtain rfl:l=r:=by omega
  exact⟨h2,h4,h5⟩
 |f+1,l,r,h1,h2,h3,h4,h5=>by
  unfold kas_place
  split
  ·obtain rfl:l=r:=by omega
   exact⟨h2,h4,h5⟩
  ·rename_i g
   refine⟨P.lt hk,P.lt (by omega),?_⟩
   by_cases c:rk (p.getD k 0)<rk (p.getD ((l+r) / 2) 0)
   ·rw[b9 c];dsimp only;rw[if_pos rfl]
    refine r0 P hk hU f l ((l+r) / 2) (by omega) (by omega) (by omega) h4 λi i1 i2=>?_;exact m8 (qS c) (hU _ _ i1 i2)
   ·rw[cZ c];dsimp only;rw[if_neg Bool.false_ne_true]
    refine r0 P hk hU f ((l+r) / 2+1) r (by omega) h2 (by omega) (λi i1=>?_) h5;exact m8 (hU i ((l+r) / 2) (by omega) (by omega)) (m_.mp c)
theorem wU:∀(f:Nat) (p:Array Nat) (k:Nat),Pm n p->k+f<=n->Up rk p k->bz n rk (kas_bin f p k) λr=>Pm n r/\Up rk r (k+f)
 |0,p,k,P,h1,h2=>⟨P,h2⟩
 |f+1,p,k,P,h1,h2=>by
  have hs:=P.size;refine bz.bind ((r0 P (by omega) h2 k 0 k (bE _) (aB _) (by omega) (λi hi=>by omega) (λi i1 i2=>by omega)).mono λl ⟨z1,z2,z3⟩=>?_);refine(wU f (bubble p k (k - l)) (k+1) P.Fm (by omega) λi j hij hj=>?_).mono λr ⟨y1,y2⟩=>⟨y1,by rw[show k+(f+1)=k+1+f by omega];exact y2⟩
  ·rw[xT (by omega) z1,xT (by omega) z1]
   repeat' split
   all_goals first|exact iL _ | (exfalso;omega)|exact h2 _ _ (by omega) (by omega)|exact z3 _ (by omega) (by omega)|exact z2 _ (by omega)
theorem wW(h1:1<=n):bz n rk (kas_sort n) λr=>Pm n r/\Up rk r n:=by
 refine bz.bind ((Ew (nrem:=n) (Array.Perm.refl _) h1 (aB _)).mono λr ⟨z1,z2,z3,z4⟩=>?_)
 split
 ·have e:max r.1 1=r.1:=by omega
  rw[e];exact(wU (n - r.1) r.2 r.1 z1 (by omega) z4).mono λq ⟨y1,y2⟩=>⟨y1,by rw[show r.1+(n - r.1)=n by omega]at y2;exact y2⟩
 ·obtain e:r.1=n:=by omega
  rw[e]at z4;exact⟨z1,z4⟩
end
end L2
namespace L2
open PySem PySem.Spec PyProof.Rows PySem.W
section
variable {prog:Program} {w:World} {A:Around} {E:Value->Shared->Prop} {s:Shared} {M:Model}
theorem mapM_some{α β:Type}{f:α->Sem β}{P:β->Prop}:∀(l:List α) {Q:List β->Shared->Prop},(∀v∈l,∃r,P r/\∀Q':β->Shared->Prop,Q' r s->wpAny M A (f v) Q' E s)->(∀rs:List β,rs.length=l.length->(∀r∈rs,P r)->Q rs s)->wpAny M A (l.mapM f) Q E s
 | [],Q,_,h=>by rw[List.mapM_nil];exact ah (h [] rfl λr z=>nomatch z)
 |x::l,Q,hf,h=>by
  rw[List.mapM_cons];obtain⟨r,pr,hr⟩:=hf x (.head _);refine ae (hr _ (ae (mapM_some (P:=P) l (λv hv=>hf v (.tail _ hv)) λrs hl hp=>ah (h (r::rs) (by simp[hl]) λq hq=>?_))))
  rcases a9.mp hq with rfl|hq
  ·exact pr
  ·exact hp q hq
theorem yF:∀(rs:List (Option Value)),(∀r∈rs,∃a t,r=some (Value.int a t))->∃ns,IntsAre (rs.filterMap id) ns/\ns.length=rs.length
 | [],_=>⟨[],.nil,rfl⟩
 |r::rs,h=>by
  obtain⟨a,t,rfl⟩:=h r (.head _);obtain⟨ns,h1,h2⟩:=yF rs λq hq=>h q (.tail _ hq);exact⟨a::ns,.cons a t h1,by simp[h2]⟩
theorem KR {vs:List Value} {ns:List Int} (h:IntsAre vs ns) (hn:ns≠[]):oneTypeOnly' vs.toArray=pure (some (Value.type "int")):=by
 rw[oneTypeOnly'_eq,List.mapM_toArray,mapM_typeOf_ints h];simp only[map_pure,pure_bind];cases h with
 |nil=>exact absurd rfl hn
 |cons n t h=>simp
theorem yV {keys:List Value} (h2:keys≠[]) (hk:∀v∈keys,∃(x:Addr) (o:Obj) (n:Nat) (its:Array Value) (a:Int) (t:Tok),v = .ref x/\s.heap.get? x=some o/\o.cls = .type "tuple" /\ o.data = .seq its n/\its[0]?=some (.int a t)) {Q:SortKind->Shared->Prop} (h:Q (tuples' true) s) :
  wpAny M A (keyKind' keys.toArray) Q E s:=by
 rw[keyKind'_eq,List.mapM_toArray,map_eq_pure_bind];refine ae (ae (mapM_some (P:=λr=>∃a t,r=some (Value.int a t)) _ (λv hv=>?_) λrs hl hr=>ah ?_))
 ·obtain⟨x,o,n,its,a,t,rfl,ho,hc,hd,hi⟩:=hk v hv
  refine⟨_,⟨a,t,rfl⟩,λQ' hq=>?_⟩;rw[kas_first_eq];refine ae (wpAny_typeOf_ref ho ?_);rw[hc,if_neg (by decide)];refine ae (jG ho hd (ah ?_));rw[hi];exact hq
 ·obtain⟨ns,hI,hn⟩:=yF rs hr
  have all:(rs.toArray.all λx=>x.isSome)=true:=by
   rw[List.all_toArray,cn];intro r h;obtain⟨a,t,rfl⟩:=hr r h;rfl
  rw[if_pos all];refine ae (ie ?_);have e:(rs.toArray.filterMap id)=(rs.filterMap id).toArray:=by simp
  rw[e,KR hI (λz=>h2 (by rw[z]at hn;exact vW.mp (by simpa[hl]using hn.symm)))];exact ae (ah (ah h))
section
variable {a kS:Addr} {e1:Nat} {keys its:List Value} {kz:List Int} {κ:SortKind}
theorem item_at(hl:keys.length=its.length){i:Nat}(hi:i<its.length):kas_item (keys.toArray.zip its.toArray) i=(keys.getD i Value.none,its.getD i Value.none):=by
 unfold kas_item;have h1:i<keys.length:=by omega
 have h2:i<min keys.length its.length:=by omega
 simp[Array.getD,h1,hi,h2]
theorem NZ{R:PySem.Fin->Shared->Prop}(hl:keys.length=its.length)(hz:kz.length=its.length)(h64:its.length<64)(hkind:2<=its.length->∀Q:SortKind->Shared->Prop,Q κ s->wpAny (model prog w) A (keyKind' keys.toArray) Q E s)(hcmp:∀i j,i<its.length->j<its.length->∀Q:Bool->Shared->Prop,Q (decide (kz.getD i 0<kz.getD j 0)) s->wpAny (model prog w) A (keyLt' κ (keys.getD i Value.none) (keys.getD j Value.none)) Q (λ_ _=>False) s)(h:∀st:SortSt,failedOf st=none->KskOut false kz its ((arrOf st).map (·.2)).toList->((arrOf st).map (·.2)).toList.length=its.length->wpAny (model prog w) A (ksk_tail a false e1 (.ref kS) st) R E s):wpAny (model prog w) A (ksk_end a false its.toArray e1 (.ref kS) keys.toArray) R E s:=by
 have zs:(keys.toArray.zip its.toArray).size=its.length:=by simp[hl]
 unfold ksk_end;simp only[dz,c6]
 by_cases few:its.toArray.size<2
 ·simp only[if_pos few]
  refine ae (ah ?_);rw[StateT.run_pure];rw[a_]at few;have e:((keys.toArray.zip its.toArray).map (·.2)).toList=its:=by
   rw[mV,ksk_zip];exact q_ (by simp[hl])
  refine ae (ah (h _ rfl ?_ ?_))
  ·show KskOut false kz its ((keys.toArray.zip its.toArray).map (·.2)).toList
   rw[e];refine⟨kz.zip its,.refl _,(q_ (by omega)).symm,?_⟩;have:(kz.zip its).length<=1:=by simp;omega
   generalize kz.zip its=l at this ⊢;cases l with
   |nil=>exact .nil
   |cons x r =>
    cases r with
    |nil=>exact Eg _ _
    |cons y r=>exact absurd this (by simp)
  ·show((keys.toArray.zip its.toArray).map (·.2)).toList.length=its.length
   rw[e]
 ·simp only[if_neg few]
  rw[a_]at few;refine ae (hkind (by omega) _ ?_);have est:SortSt.mk' κ (keys.toArray.zip its.toArray) #[] 7 none=kas_st κ (keys.toArray.zip its.toArray) (List.toArray (List.range its.length)):=by
   have e:=kas_range (keys.toArray.zip its.toArray);rw[zs]at e;show SortSt.mk' κ (keys.toArray.zip its.toArray) #[] 7 none=SortSt.mk' κ ((List.toArray (List.range its.length)).map (kas_item (keys.toArray.zip its.toArray))) #[] 7 none;rw[e]
  have run:=kas_runs (prog:=prog) (w:=w) (A:=A) (E:=E) (κ:=κ) (it:=keys.toArray.zip its.toArray) (n:=its.length)
   (Q:=λ_ st' s'=>s'=s/\∃p:Array Nat,Pm its.length p/\Up (λi=>kz.getD i 0) p its.length/\arrOf st'=p.map (kas_item (keys.toArray.zip its.toArray))/\failedOf st'=none)
   (G:=λp s'=>s'=s/\Pm its.length p/\Up (λi=>kz.getD i 0) p its.length) (s:=s) (by omega) h64
   (λp' st' s' _ a2 a3 a4=>⟨a4.1,p',a4.2.1,a4.2.2,a2,a3⟩)
   (bz.wp (λi j C hi hj hC=>by
    unfold kas_cmp;rw[item_at hl hi,item_at hl hj];exact hcmp i j hi hj C hC) (wW (by omega)))
  rw[<- est]at run;refine ae (dZ run ?_ λ_ _ z=>z);rintro⟨⟨⟩,st⟩ s' ⟨rfl,p,hp,hu,ha,hf⟩;have ps:=hp.size;have lt:∀i∈p.toList,i<its.length:=λi hi=>by
   have:=hp.mem_iff.mp (qM.mp hi);simpa using this
  have eo:((arrOf st).map (·.2)).toList=p.toList.map λi=>its.getD i Value.none:=by
   rw[ha,Array.map_map,mV];refine jB λi hi=>?_;show(kas_item (keys.toArray.zip its.toArray) i).2=_;rw[item_at hl (lt i hi)]
  refine h st hf ?_ ?_
  ·rw[eo]
   refine⟨p.toList.map λi=>(kz.getD i 0,its.getD i Value.none),?_,?_,?_⟩
   ·have e1:p.toList.Perm (List.range its.length):=by simpa using DK.mp hp
    refine(e1.map _).trans (.of_eq ?_);refine hJ (by simp[hz]) λi h1 h2=>?_;have hi:i<its.length:=by simpa using h1
    have hi':i<kz.length:=by omega
    simp[hi,hi']
   ·rw[dB]
    rfl
   ·rw[hW,v8]
    intro i j hi hj hij;have hj':j<p.size:=by simpa using hj
    have:=hu i j (fT hij) (by omega);have g:∀k (hk:k<p.size),p.getD k 0=p.toList[k]:=λk hk=>by simp[Array.getD,hk]
    rw[g i (by omega),g j hj']at this;exact this
  ·rw[eo,aD,dw,ps]
end
end
section
variable {X:Cx} {pins:List (Addr × Obj)} {σ:St} {H:Hp} {s:Shared} {qual x:Str} {params:Arguments} {body:Expr} {scope:Scope} {fr:List (Str × Nat)} {tb:TE} {p:Addr} {v:V} {u:Value} {xs:List V} {kz:List Int} {kw:List (List V)} {Q:VK} {E:Value->Shared->Prop}
structure nW (X:Cx) (H:Hp) (kw:List (List V)) (kz:List Int):Prop where
 head:∀ws∈kw,∃a:Int,ws[0]?=some (.int a)
 cmp:∀(i j:Nat) (H3:Hp) (A:Around) (s:Shared) (E:Value->Shared->Prop) (pins:List (Addr × Obj)) (σ:St) (r q:Addr) (ws vs:List V),A.units<=X.A.units+2->Same H H3->Inv X pins σ H3 s->kw[i]?=some ws->kw[j]?=some vs->H3 r=some (.tup ws)->H3 q=some (.tup vs) ->
  ∀Q:Bool->Shared->Prop,Q (decide (kz.getD i 0<kz.getD j 0)) s->wpAny (model X.prog X.w) A (keyLt' (tuples' true) (.ref r) (.ref q)) Q E s
theorem N1{A:Around}{a:Addr}{its:List Value}{R:PySem.Fin->Shared->Prop}(hA:A.frames=X.A.frames)(hd:A.handled=none)(hr:A.depth<recursionLimit)(jY:A.guards=X.A.guards/\A.units<=X.A.units+2/\A.depth=X.A.depth)(KL:ng X qual x params body scope fr tb)
  (I:Inv X pins σ H s) (fa:bW X pins H a) (ea:s.heap.get? a=some (seqObj "list" its.toArray 0)) (rv:Vals xs its) (L:cW H p qual params body scope (bx X.env.cells scope.names [])) (hl:kz.length=xs.length) (hw:kw.length=xs.length) (h64:xs.length<64)
  (TK:nW X H kw kz)
  (turn:∀(i:Nat) y ws,xs[i]?=some y->kw[i]?=some ws->∀H3,Same H H3->tb (some y::lamσ fr σ) H3 λz H4=>(∃r,z = .ref r/\H4 r=some (.tup ws))/\Same H3 H4)
  (q:∀ys H3 s',Same H H3->H3 a=some (.lst ys)->jM kz xs ys->Inv X pins σ H3 s'->R (.done (.ret .none)) s') :
  wpAny (model X.prog X.w) A (ksk_tree a (.ref p) false) R E s:=by
 have big:(64:Nat)<=sizeLine:=by decide +kernel
 have l1:=rv.length;have al:a<s.heap.objs.size:=aG ea;unfold ksk_tree;refine ae (jG ea rfl (ae (h6 ea rfl ?_ (by show(its.toArray).size<=sizeLine;rw[a_];omega) (bE _))));obtain⟨e1,jT⟩:∃e1,(s.heap.update a (Obj.mapSeq λ_=>(#[]:Array Value))).get? a=some (seqObj "list" #[] e1):=⟨_,iS ea λ_=>#[]⟩;have I1:Inv X pins σ H {s with heap:=s.heap.update a (Obj.mapSeq λ_=>(#[]:Array Value)),toks:=s.toks}:=
  I.turned (λb o hb e=>by rw[h9 _ _ _ _ hb];exact e) fa.1 fa.2.1 fa.2.2.2.1 fa.2.2.2.2.1 fa.2.2.2.2.2
 refine ae (jH jT rfl (ae (nQ (ae (h_ (dY ?_) (bE _))) (by show its.length<=sizeLine;omega))));have I2:Inv X pins σ H {s with heap:=(s.heap.update a (Obj.mapSeq λ_=>(#[]:Array Value))).push {cls:=.type "tuple", data:=.seq its.toArray},toks:=s.toks}:=I1.kept λb o e=>au _ e;have I3:=I2.ud (its:=[]) (ys:=[]) (t':=s.toks) .nil (bE _);have xD:((s.heap.update a (Obj.mapSeq λ_=>(#[]:Array Value))).push {cls:=.type "tuple", data:=.seq its.toArray}).get? a=some (seqObj "list" #[] e1):=au _ jT;have nH:H ((s.heap.update a (Obj.mapSeq λ_=>(#[]:Array Value))).push {cls:=.type "tuple", data:=.seq its.toArray}).objs.size=none:=I2.fresh;have nk:a≠((s.heap.update a (Obj.mapSeq λ_=>(#[]:Array Value))).push {cls:=.type "tuple", data:=.seq its.toArray}).objs.size:=aP (aG xD);generalize hkS:((s.heap.update a (Obj.mapSeq λ_=>(#[]:Array Value))).push {cls:=.type "tuple", data:=.seq its.toArray}).objs.size=kS at I3 nH nk;have GD:bW X pins (upd H kS (.lst [])) a:=⟨by rw[aA nk];exact fa.1,fa.2⟩;have I4:Inv X ((a,seqObj "list" #[] e1)::pins) σ (upd H kS (.lst [])) _:=I3.pN λq hq=>by
  rcases a9.mp hq with rfl|hq
  ·exact⟨au _ xD,GD.1,fa.2.1,fa.2.2.1,λv z=>by cases z⟩
  ·exact I3.pin q (dS _ hq)
 have sm:Same H (upd H kS (.lst [])):=Same.put nH;refine sort_keys (Kp:=λi z G=>∀ws,kw[i]?=some ws->∃r,z = .ref r/\r≠kS/\G r=some (.tup ws)) hA hd hr jY KL (by omega) I4 av (L.same sm) rv (λi z G G' hz sx ws e=>?_) (λi y hy H3 s3 hk3=>?_) (λkv G s' keys n hkv hK J hG sX ek rk=>?_)
 ·obtain⟨r,h1,h2,h3⟩:=hz ws e
  exact⟨r,h1,h2,sx r _ h2 h3⟩
 ·have hi:i<kw.length:=by rw[hw];exact(bF.mp hy).1
  have:=turn i y _ hy (aq hi) H3 (bT.of nH λb o hb e=>s3 b o hb (sm b o e));have e:(λ(z:V) (H4:Hp)=>(∃r,z = .ref r/\H4 r=some (.tup kw[i]))/\Same H3 H4)=λz H4=>(∀ws,kw[i]?=some ws->∃r,z = .ref r/\r≠kS/\H4 r=some (.tup ws))/\Same H3 H4:=by
   obtain⟨kv,hk3⟩:=hk3
   funext z H4
   refine propext ⟨λ⟨⟨r,h1,h2⟩,h3⟩=>⟨λws ek=>?_,h3⟩,λ⟨h1,h2⟩=>⟨?_,h2⟩⟩
   ·rw[aq hi]at ek;cases ek
    exact⟨r,h1,gF h2 (h3 _ _ hk3) (by intro z;cases z),h2⟩
   ·obtain⟨r,z1,_,z3⟩:=h1 _ (aq hi)
    exact⟨r,z1,z3⟩
  rw[e]at this;exact this
 ·have Cy:Same H G:=λb o e=>sX b o (b_ e nH) (sm b o e)
  have hkl:keys.length=its.length:=by rw[<- rk.length];omega
  have key:∀i,i<its.length->∃(r:Addr) (ws:List V),kw[i]?=some ws/\keys.getD i Value.none = .ref r/\G r=some (.tup ws):=λi hi=>by
   have hi1:i<kw.length:=by omega
   have hi2:i<kv.length:=by omega
   obtain⟨r,h1,_,h3⟩:=hK i _ (aq hi2) _ (aq hi1);obtain⟨u,e1,e2⟩:=rk.get (aq hi2);rw[h1]at e2;exact⟨r,_,aq hi1,by rw[aO,e1];exact e2,h3⟩
  refine NZ (κ:=tuples' true) (kz:=kz) hkl (by omega) (by omega) (λh2 Q hq=>yV (λz=>by rw[z]at hkl;simp at hkl;omega) (λv hv=>?_) hq) (λi j hi hj Q hq=>?_) λst z1 z2 z3=>?_
  ·obtain⟨i,hi,rfl⟩:=jA hv
   obtain⟨r,ws,e1,e2,e3⟩:=key i (by omega);obtain⟨b,e4⟩:=TK.head ws (bK e1);obtain⟨_,its',rv',⟨o,ho,hc,m,hd'⟩,_⟩:=(show aK X.prog X.w G s'.heap r (.tup ws)from J.hok r _ e3);obtain⟨u,e5,t,rfl⟩:=rv'.get e4;rw[aO,aq hi]at e2;exact⟨r,o,m,its'.toArray,b,t,e2,ho,hc,hd',by simpa using e5⟩
  ·obtain⟨r,ws,e1,e2,e3⟩:=key i hi
   obtain⟨r',ws',e1',e2',e3'⟩:=key j hj;rw[e2,e2'];exact TK.cmp i j G A s' _ _ _ r r' ws ws' jY.2.1 Cy J e1 e1' e3 e3' Q hq
  ·obtain⟨ys,hv,hs⟩:=CG rv z2
   have fG:bW X pins G a:=⟨(J.pin (a,seqObj "list" #[] e1) (dS _ (bR ..))).2.1,fa.2⟩;refine N0 J hG ek (by omega) fG z1 rfl hv (by omega) λs2 J2=>q ys _ s2 (λb o e=>?_) av hs J2;have b1:b≠kS:=b_ e nH;have b2:b≠a:=b_ e fa.1;rw[aA b2,aA b1];exact Cy b o e
end
section
variable {X:Cx} {x:Str} {params:Arguments} {body e:Expr} {scope:Scope} {fr:List (Str × Nat)} {tb ti:TE} {c P:Addr} {p0 cK kpos pos:Pos}
end
end L2
namespace L2
open PySem PySem.Spec PyProof.Rows PySem.Builtin PySem.Builtin.Str
section
variable {prog:Program} {w:World} {A:Around} {E:Value->Shared->Prop} {s:Shared}
theorem zf:∀l:List Int,HT.lexLt l l=false
 | []=>rfl
 |x::l=>by rw[HT.zc,if_pos rfl];exact zf l
theorem KQ{l b:Addr}{items items2:Array Value}{ns ms:List Int}{Q:Bool->Shared->Prop}(hl:IsTup s.heap l items)(hb:IsTup s.heap b items2)(hi:IntsAre items.toList ns)(hj:IntsAre items2.toList ms)(hu:A.units<cLine)(h:Q (HT.lexLt ns ms) s):wpAny (model prog w) A (oneLt' false (.ref l) (.ref b)) Q E s:=by
 rw[oneLt'_eq];simp only[dz,c6];exact ae (HT.JK hl hb hi hj hu (fE h))
theorem yG:∀{vs:List Value} {ns ms:List Int},IntsAre vs ns->IntsAre vs ms->ns=ms
 | [],_,_,.nil,.nil=>rfl
 |_::_,_,_,.cons a t h,.cons _ _ h'=>by rw[yG h h']
noncomputable def jd(p q:Int)(ns ms:List Int):Bool:=if p=q then HT.lexLt ns ms else decide (p<q)
theorem Jl{b:Bool}{x y tx ty:Addr}{n m:Nat}{o1 o2:Obj}{p q:Int}{t1 u1:Tok}{ix iy:Array Value}{ns ms:List Int}(hx:s.heap.get? x=some o1)(dx:o1.data = .seq #[.int p t1,.ref tx] n)(hy:s.heap.get? y=some o2)(dy:o2.data = .seq #[.int q u1,.ref ty] m)(hl:IsTup s.heap tx ix)(hb:IsTup s.heap ty iy)(hi:IntsAre ix.toList ns)(hj:IntsAre iy.toList ms)(hu:A.units<cLine){Q:Bool->Shared->Prop}(h:Q (jd p q ns ms) s):wpAny (model prog w) A (keyLt' (tuples' b) (.ref x) (.ref y)) Q E s:=by
 show wpAny _ _ (do
  let xs <- Builtin.List.listItems (.ref x);let ys <- Builtin.List.listItems (.ref y)
  for ((p,q),i) in (xs.toList.zip ys.toList).zipIdx do
   if !(<- eqBool p q)then return <- oneLt' (b&&i==0) p q
  return xs.size<ys.size) _ _ _
 refine ae (jG hx dx (ae (jG hy dy ?_)));simp only[jC,List.zip_nil_right,wc,wg,nj,qX];unfold jd at h;refine ae ?_;refine ae (ae (wpAny_eqBool_int ?_))
 by_cases e1:p=q
 ·rw[show(p==q)=true from eN.mpr e1]
  rw[if_pos e1]at h;simp only[Bool.not_true,dz,c6];refine ah ?_;dsimp only;have zx:ix.size=ns.length:=by rw[<- hi.length];simp
  have zy:iy.size=ms.length:=by rw[<- hj.length];simp
  have eq:∃k:Bool,SeqAt.EqAt A s (.ref tx) (.ref ty) k/\(k=true->ns=ms):=by
   by_cases et:tx=ty
   ·subst et
    refine⟨true,nL _,λ_=>?_⟩;obtain⟨o,ho,hc,k,hd⟩:=hl;obtain⟨o',ho',hc',k',hd'⟩:=hb;rw[ho]at ho';cases ho';rw[hd]at hd';cases hd';exact yG hi hj
   ·refine⟨_,rJ et (SeqAt.RcAt.tuples (e:=λj=>ns.getD j 0==ms.getD j 0) hl hb hu λj h1 h2=>?_),λhk=>?_⟩
    ·obtain⟨t,q1⟩:=hi.get j _ (aq (show j<ns.length by omega))
     obtain⟨u,q2⟩:=hj.get j _ (aq (show j<ms.length by omega));have g1:ix[j] = .int ns[j] t:=by have:=(bF.mp q1).2;simpa using this
     have g2:iy[j] = .int ms[j] u:=by have:=(bF.mp q2).2;simpa using this
     rw[g1,g2,aO,aO,aq (show j<ns.length by omega),aq (show j<ms.length by omega)];exact rH _ _ _ _
    ·rw[ck,eN,cn]at hk
     refine hJ (by omega) λj h1 h2=>?_;have:=hk.1 j (iP.mpr (by omega));rw[aO,aO,aq h1,aq h2]at this;simpa using this
  obtain⟨k,he,hk⟩:=eq;refine ae (ae (he prog w _ _ ?_));cases k with
  |true =>
   rw[hk rfl,zf]at h;simp only[Bool.not_true,dz,c6];refine ah (ah ?_);dsimp only;exact ah h
  |false =>
   simp only[Bool.not_false,jc];have:(b&&(0+1==0))=false:=by cases b<;>rfl
   rw[this];refine ae (KQ hl hb hi hj hu (ah (ah ?_)));dsimp only;exact ah h
 ·rw[show(p==q)=false from iU.mpr e1]
  rw[if_neg e1]at h;simp only[Bool.not_false,jc];refine ae (KN (ah (ah ?_)));dsimp only;exact ah h
end
section
variable {X:Cx} {pins:List (Addr × Obj)} {σ:St} {H:Hp} {s:Shared} {A:Around} {E:Value->Shared->Prop} {d:Addr} {kvs:List (List Key × V)}
theorem vF:∀(ts:List Addr),Vals (ts.map V.ref) (ts.map Value.ref)
 | []=>.nil
 |_::ts=>.cons rfl (vF ts)
theorem yJ{acc:Array Value}{ks:List Value}(h:ItemsOf (λi v=>ks[i]?=some v) acc ks.length):acc.toList=ks:=by
 apply List.ext_getElem?
 intro i
 by_cases hi:i<acc.toList.length
 ·have h1:=h.2 i acc.toList[i] (by rw[<- kJ];exact aq hi)
  rw[h1];exact aq hi
 ·rw[qY (by omega),qY (by have:=h.1;simp at hi;omega)]
end
end L2
namespace L2
open PySem PySem.Spec PyProof.Rows PySem.Builtin PySem.Builtin.Str PySem.W
section
variable {X:Cx} {pins:List (Addr × Obj)} {σ:St} {H:Hp} {s:Shared} {E:Value->Shared->Prop} {qual x:Str} {params:Arguments} {body:Expr} {scope:Scope} {fr:List (Str × Nat)} {tb:TE} {p d:Addr} {kvs:List (List Key × V)} {Q:VK}
end
section
variable {X:Cx} {x:Str} {params:Arguments} {body e:Expr} {scope:Scope} {fr:List (Str × Nat)} {tb ti:TE} {c P:Addr} {p0 cK kpos pos:Pos}
end
theorem yP{P:Program}{w:World}{H:Hp}{A:Around}{s:Shared}{E:Value->Shared->Prop}{r q t u:Addr}{p p':Int}{f g:List Int}(hu:A.units<cLine)(ok:aZ P w H s.heap)(h1:H r=some (.tup [.int p,.ref t]))(h2:H q=some (.tup [.int p',.ref u]))(ht:H t=some (.tup (f.map V.int)))(hu':H u=some (.tup (g.map V.int))){Q:Bool->Shared->Prop}(hq:Q (jd p p' f g) s):wpAny (model P w) A (keyLt' (tuples' true) (.ref r) (.ref q)) Q E s:=by
 obtain⟨_,its,rv,⟨o,ho,_,n,hd⟩,_⟩:=(show aK P w H s.heap r _ from ok r _ h1);obtain⟨_,its',rv',⟨o',ho',_,n',hd'⟩,_⟩:=(show aK P w H s.heap q _ from ok q _ h2);obtain⟨_,jts,jv,jt,_⟩:=(show aK P w H s.heap t _ from ok t _ ht);obtain⟨_,Qg,Jf,Je,_⟩:=(show aK P w H s.heap u _ from ok u _ hu');cases rv with
 |cons a1 rv =>
  cases rv with
  |cons a2 rv =>
   cases rv;cases rv' with
   |cons b1 rv' =>
    cases rv' with
    |cons b2 rv' =>
     cases rv';obtain⟨k1,rfl⟩:=a1;obtain⟨k2,rfl⟩:=b1;cases a2;cases b2;exact Jl ho hd ho' hd' jt Je (by simpa using oX jv) (by simpa using oX Jf) hu hq
theorem pI{α β:Type}{R:α->β->Prop}{a:α}:∀{l:List α} {m:List β} {i:Nat},Paired R l m->l[i]?=some a->∃b,m[i]?=some b/\R a b
 |_,_,0,.cons h _,e=>by cases e;exact⟨_,rfl,h⟩
 |_,_,i+1,.cons _ r,e=>by
  obtain⟨b,h1,h2⟩:=pI (i:=i) r (by simpa using e);exact⟨b,by simpa using h1,h2⟩
theorem O6{X:Cx}{H:Hp}(hX:X.A.units+2<cLine){fs:List (List Int)}{ts:List Addr}{kz:List Int}(hl:Paired (λf t=>H t=some (.tup (f.map V.int))) fs ts)(hz:∀(i j:Nat) a b,fs[i]?=some a->fs[j]?=some b->jd a.length b.length a b=decide (kz.getD i 0<kz.getD j 0)):nW X H ((fs.zip ts).map λq=>[.int (q.1.length:Int),.ref q.2]) kz where
 head:=λws h=>by
  obtain⟨k,_,rfl⟩:=cG.mp h;exact⟨_,rfl⟩
 cmp:=λi j H3 A s E pins σ r q ws vs hu sm I e1 e2 h1 h2 Q hq=>by
  rw[bB]at e1 e2;have get:∀{i:Nat} {ws:List V},((fs.zip ts)[i]?).map (λq:List Int × Addr=>[V.int (q.1.length:Int),.ref q.2])=some ws->∃a t,fs[i]?=some a/\H t=some (.tup (a.map V.int))/\ws = [.int (a.length:Int),.ref t]:=λ{i ws} e=>by
   cases z:(fs.zip ts)[i]? with
   |none=>rw[z]at e;cases e
   |some a =>
    rw[z]at e;obtain⟨z1,z2⟩:=q0.mp z;obtain⟨t,z3,z4⟩:=pI hl z1;rw[z2]at z3;cases z3;exact⟨a.1,a.2,z1,z4,by simpa using e.symm⟩
  obtain⟨a,t,f1,f2,rfl⟩:=get e1;obtain⟨b,u,g1,g2,rfl⟩:=get e2;rw[<- hz i j a b f1 g1]at hq;exact yP (by omega) I.hok h1 h2 (sm _ _ f2) (sm _ _ g2) hq
end L2
namespace Fl
open L2
noncomputable def fw(f:List Nat)(r:Nat):List Nat:=(List.range 8).filter λx=>f.contains x||f.contains (x ^^^ r)
noncomputable def aM(fs:List (List Nat))(g:List Nat):List (List Nat):=if g∈fs then fs else fs++[g]
noncomputable def CK(fs:List (List Nat))(r:Nat):List (List Nat):=(fs.map λf=>fw f r).foldl aM fs
noncomputable def bZ(k:Nat):List (List Nat):=(List.range k).foldl (λfs i=>CK fs (1+i)) [[0]]
noncomputable def found(w:Nat):List (List Nat):=bZ (2 ^ w - 1)
noncomputable def o6:List Nat->List Nat->Bool
 | [],[]=>false
 | [],_::_=>true
 |_::_,[]=>false
 |x::xs,y::ys=>if x=y then o6 xs ys else decide (x<y)
noncomputable def kf(f g:List Nat):Bool:=if f.length=g.length then o6 f g else decide (f.length<g.length)
noncomputable def yA(f:List Nat):List (List Nat)->List (List Nat)
 | []=>[f]
 |g::r=>if kf f g then f::g::r else g::yA f r
noncomputable def aS(w:Nat):List (List Nat):=(found w).foldr yA []
noncomputable def rk(w:Nat)(f:List Nat):Int:=(((aS w).findIdx (· = f):Nat):Int)
noncomputable def rowsOf(w b:Nat):List Nat:=(List.range (2 ^ w)).filter λr=>b / 2 ^ r % 2=1
noncomputable def isF(f:List Nat):Bool:=f.all λx=>f.all λy=>f.contains (x ^^^ y)
noncomputable def gC(w:Nat):List (List Nat):=((List.range (2 ^ 2 ^ w / 2)).map λi=>rowsOf w (1+2*i)).filter isF
end Fl
namespace My
open PySem PySem.Spec PyProof.Rows L2
theorem Dw{x y:Nat}(hx:x<8)(hy:y<8):Builtin.bitXor (x:Int) (y:Int)=((x ^^^ y:Nat):Int):=by
 have h:∀x,x<8->∀y,y<8->((x ||| y:Nat):Int) - ((x&&& y:Nat):Int)=((x ^^^ y:Nat):Int):=by decide +kernel
 rw[<- h x hx y hy,<- K_,<- rX];rfl
theorem uk{M:List Nat}{a:Nat}(h:a<M.length):(M.map nV)[a]?=some (nV (M.getD a 0)):=by
 rw[bB,aq h,aO,aq h];rfl
theorem Same.noneF{H H':Hp}{a:Addr}(s:Same H H')(h:H' a = .none):H a = .none:=by
 cases e:H a with
 |none=>rfl
 |some o=>rw[s a o e]at h;cases h
noncomputable def grown(g:List Nat)(r:Nat):List Int:=(g.map λx=>((x ^^^ r:Nat):Int))++g.map λx=>((x:Nat):Int)
theorem Hc(g:List Nat)(r:Nat):(List.range (g.map nV).length).map (λj=>nV (g.getD j 0 ^^^ r))++g.map nV=(grown g r).map V.int:=by
 unfold grown;rw[fz,dB,dB,aD]
 congr 1
 apply hJ
 ·simp
 ·intro i h1 h2
  have:i<g.length:=by simpa using h2
  simp[aO,aq this]
theorem Kh{ks ns:List Int}(nd:ks.Nodup)(h:∀k∈ks,k∈ns):ks.length<=ns.length:=nd.length_le_of_subset h
theorem wY:∀{l m:List Int},l.Pairwise (· < ·)->m.Pairwise (· < ·)->(∀x,x∈l ↔ x∈m)->l=m
 | [],[],_,_,_=>rfl
 | [],y::m,_,_,h=>absurd ((h y).mpr (bR ..)) (by simp)
 |x::l,[],_,_,h=>absurd ((h x).mp (bR ..)) (by simp)
 |x::l,y::m,hl,hm,h=>by
  obtain⟨h1,h2⟩:=List.pairwise_cons.mp hl;obtain⟨h3,h4⟩:=List.pairwise_cons.mp hm;have e:x=y:=by
   rcases a9.mp ((h x).mp (bR ..))with e|e
   ·exact e
   ·rcases a9.mp ((h y).mpr (bR ..))with e'|e'
    ·exact e'.symm
    ·have:=h1 _ e';have:=h3 _ e;omega
  subst e;rw[wY h2 h4 λz=>?_]
  constructor
  ·intro hz
   rcases a9.mp ((h z).mp (bG _ hz))with e|e
   ·have:=h1 z hz;omega
   ·exact e
  ·intro hz
   rcases a9.mp ((h z).mpr (bG _ hz))with e|e
   ·have:=h3 z hz;omega
   ·exact e
theorem G4{g:List Nat}{r:Nat}{ks ms:List Int}(h8:∀x∈g,x<8)(hr:r<8)(nd:ks.Nodup)(hk:∀k,k∈ks ↔ k∈grown g r)(hp:ms.Perm ks)(hs:ms.Pairwise (·<=·)):ms.map V.int=(Fl.fw g r).map nV:=by
 have e:ms=(Fl.fw g r).map λx=>((x:Nat):Int):=by
  refine wY ?_ ?_ λx=>?_
  ·exact(hs.and (hp.symm.nodup nd)).imp λ⟨h1,h2⟩=>by omega
  ·refine hW.mpr (((Ef).filter _).imp λh=>?_)
   omega
  ·have x8:∀x,x<8->∀r,r<8->x ^^^ r<8/\x ^^^ r ^^^ r=x:=by decide +kernel
   rw[hp.mem_iff,hk];unfold grown Fl.fw;rw[hV,cG,cG,cG]
   constructor
   ·rintro(⟨y,hy,rfl⟩|⟨y,hy,rfl⟩)
    ·obtain⟨h1,h2⟩:=x8 y (h8 y hy) r hr
     refine⟨y ^^^ r,iO.mpr ⟨iP.mpr h1,?_⟩,rfl⟩;rw[h2,gX];exact .inr (by simpa using hy)
    ·refine⟨y,iO.mpr ⟨iP.mpr (h8 y hy),?_⟩,rfl⟩
     rw[gX];exact .inl (by simpa using hy)
   ·rintro⟨y,hy,rfl⟩
    obtain⟨h1,h2⟩:=iO.mp hy;obtain⟨h3,h4⟩:=x8 y (iP.mp h1) r hr
    rcases gX _ _▸h2 with h|h
    ·exact .inr ⟨y,by simpa using h,rfl⟩
    ·exact .inl ⟨y ^^^ r,by simpa using h,by rw[h4]⟩
 rw[e,dB];rfl
section
variable {P:Program} {w:World} {K:W.Frag} {mg:Str->Option Value} {base:Heap} {f:Addr} {fd:FuncData}
abbrev pZ:Stmt:=top 30
theorem By:aY ["field","row"] ["field","row"] (aE pZ):=⟨rfl,rfl,rfl,by decide +kernel,rfl,by decide +kernel,by decide +kernel⟩
noncomputable def u_:Sp:=λvs H Q _=>∃(t:Addr) (g:List Nat) (r:Nat),vs = [.ref t,.int (r:Int)]/\H t=some (.tup (g.map nV))/\g.length<=8/\(∀x∈g,x<8)/\r<8/\∀p H',Same H H'->H p=none->H' p=some (.tup ((Fl.fw g r).map nV))->Q (.ref p) H'
theorem Kv (F:aN K "field_with" "field_with" pZ f fd) (T:Txt mg) (tF:mg "set" = none):aI P w K mg base aJ 2 f fd ["field","row"] u_:=by
 refine F.ok By (λvs H Q E h=>?_) (λcdv A outer s H vs Q E hr h=>?_)
 ·obtain⟨t,g,r,rfl,_⟩:=h
  rfl
 ·obtain⟨t,g,r,rfl,ht,hl,h8,yk,kk⟩:=h
  have nd:=By.nd;have hr0:=hr.mono (bE _);refine⟨_,(aC (a8 (d9 (fH (K:=K) rfl) rfl T.tuple d6 (ag (bu (Fz hr0) rfl T.sorted xc (ag (d9 (Fx (K:=K) rfl hr0) rfl tF Fj (ag (bD KY (c9 (own:=["known"]) (fr:=[("row", 1)]) rfl (cJ (aE pZ) ["field","row"] rfl rfl (by decide +kernel)) (jk (K:=K) rfl (pv 0)) (λ_ _ _ _=>⟨(bh (i:=0) (by decide +kernel:(["known","row"]:List Str).Nodup) rfl (Or.inl rfl)),d_,(bD Ae (pv 0) (pv 1))⟩)) (d9 (Fu (K:=K) rfl) rfl T.list lz (ag (pv 0) ai))) ai)) ai)) ai)))),?_⟩;refine⟨_,rfl,t,rfl,⟨_,az.of ht⟩,λD hD=>iq (λj=>nV (g.getD j 0 ^^^ r)) (mQ (az.of ht)) hD (cR (by rw[aD];omega)) (λj H3 Kt hj hs hk=>?_) (λH3 hs3 hl3=>?_)⟩
  ·rw[aD]at hj
   have hx:g.getD j 0<8:=h8 _ (Ev.getD_mem hj);refine⟨_,rfl,_,rfl,_,_,by rw[aO,uk hj];rfl,rfl,?_⟩;dsimp only;rw[Dw hx yk];exact hk _ (Same.refl _)
  ·have h3:=hs3 _ _ ht
   refine⟨_,rfl,t,_,rfl,.inr (az.of h3),λp1 hp1=>?_⟩;have s1:=Same.put (o:=.lst (g.map nV)) hp1;refine⟨D,p1,_,_,rfl,rfl,s1 _ _ hl3,av,fT (mO (by simp;omega)),λp2 hp2=>?_⟩;rw[Hc];have s2:=Same.put (o:=.lst ((grown g r).map V.int)) hp2;have gl:(grown g r).length<=16:=by unfold grown;simp;omega
   refine⟨p2,grown g r,rfl,ak.of av,by omega,λq ks hq hnd hks=>?_⟩;have s3:=Same.put (o:=jL P w q ks) hq;have hkl:ks.length<=16:=cH (Kh hnd λk hk=>(hks k).mp hk) gl;refine⟨q,ks,rfl,av,by omega,λm ms hm _ hms=>?_⟩;obtain⟨hp,hs⟩:=hms (by omega);have s4:=Same.put (o:=.lst (ms.map V.int)) hm;refine⟨m,_,rfl,.inl ⟨ak.of av,λz hz=>?_⟩⟩;have sA:=((hs3.trans s1).trans (s2.trans s3)).trans s4;refine kk z _ (sA.trans (Same.put hz)) (Same.noneF sA hz) ?_;rw[av,G4 h8 yk hnd hks hp hs]
end
end My
namespace Fl
open L2 PySem
noncomputable def nI(f:List Nat):List Int:=f.map λx=>((x:Nat):Int)
theorem zu:∀{f g:List Nat},nI f=nI g->f=g
 | [],[],_=>rfl
 | [],_::_,h=>by cases h
 |_::_,[],h=>by cases h
 |x::f,y::g,h=>by
  unfold nI at h;rw[bJ,bJ,vP]at h;rw[Int.natCast_inj.mp h.1,zu (f:=f) (g:=g) h.2]
theorem uj(f:List Nat):(nI f).length=f.length:=by unfold nI;simp
theorem zh:∀f g:List Nat,HT.lexLt (nI f) (nI g)=o6 f g
 | [],[]=>rfl
 | [],_::_=>rfl
 |_::_,[]=>rfl
 |x::f,y::g=>by
  show(if(x:Int)=(y:Int)then HT.lexLt (nI f) (nI g)else decide ((x:Int)<y))=if x=y then o6 f g else decide (x<y)
  rw[zh f g]
  by_cases h:x=y
  ·rw[if_pos h,if_pos (by omega)]
  ·rw[if_neg h,if_neg (by omega)]
   congr 1
   exact propext Int.ofNat_lt
theorem y_(f g:List Nat):jd (nI f).length (nI g).length (nI f) (nI g)=kf f g:=by
 unfold jd kf;rw[zh,uj,uj]
 by_cases h:f.length=g.length
 ·rw[if_pos h,if_pos (by omega)]
 ·rw[if_neg h,if_neg (by omega)]
  congr 1
  exact propext Int.ofNat_lt
structure mZ (w:Nat) (fs:List (List Nat)):Prop where
 perm:fs.Perm (aS w)
 lt:∀f∈fs,∀g∈fs,kf f g=decide (rk w f<rk w g)
noncomputable def jS(w:Nat):Bool:=decide ((found w).isPerm (aS w)=true)&&decide ((gC w).isPerm (aS w)=true)&&(aS w).all (λf=>(aS w).all λg=>(kf f g==decide (rk w f<rk w g))&&(decide (f=g)||decide (rk w f≠rk w g)))&&decide ((aS w).Pairwise λf g=>rk w f<=rk w g)&&decide (1<=(aS w).length)&&decide ((aS w).length<=16)
theorem lM:∀w,w<4->jS w=true:=by decide +kernel
section
variable {w:Nat} (hw:w<4)
include hw
theorem tu{f g:List Nat}(hf:f∈aS w)(hg:g∈aS w):kf f g=decide (rk w f<rk w g)/\(rk w f=rk w g->f=g):=by
 have h:=lM w hw;unfold jS at h;simp only[ck,cn,c5,eN,gX]at h;obtain⟨h1,h2⟩:=h.1.1.1.2 f hf g hg;exact⟨h1,λe=>h2.elim id λz=>absurd e z⟩
theorem GJ:(aS w).Pairwise λf g=>rk w f<=rk w g:=by
 have h:=lM w hw;unfold jS at h;simp only[ck,cn,c5]at h;exact h.1.1.2
theorem jW:1<=(aS w).length/\(aS w).length<=16:=by
 have h:=lM w hw;unfold jS at h;simp only[ck,cn,c5]at h;exact⟨h.1.2,h.2⟩
theorem GX:mZ w (found w):=by
 have h:=lM w hw;unfold jS at h;simp only[ck,cn,c5]at h;have p:(found w).Perm (aS w):=vV.mp h.1.1.1.1.1;exact⟨p,λf hf g hg=>(tu hw (p.mem_iff.mp hf) (p.mem_iff.mp hg)).1⟩
theorem Jw:mZ w (gC w):=by
 have h:=lM w hw;unfold jS at h;simp only[ck,cn,c5]at h;have p:(gC w).Perm (aS w):=vV.mp h.1.1.1.1.2;exact⟨p,λf hf g hg=>(tu hw (p.mem_iff.mp hf) (p.mem_iff.mp hg)).1⟩
end
theorem LQ{α β:Type}{f:α->β}:∀{l:List α} {ps:List β},ps.Perm (l.map f)->∃m:List α,ps=m.map f/\m.Perm l:=by
 intro l ps h
 induction ps generalizing l with
 |nil =>
  have:l = []:=by simpa using h.symm.eq_nil
  exact⟨[],rfl,by rw[this]⟩
 |cons p ps ih =>
  obtain⟨x,hx,rfl⟩:=cG.mp (h.mem_iff.mp (bR ..));obtain⟨l1,l2,rfl⟩:=List.append_of_mem hx;have h2:(f x::ps).Perm (f x::(l1++l2).map f):=h.trans (by rw[fz,bJ,fz];exact v9);obtain⟨m,rfl,hm⟩:=ih (List.Perm.cons_inv h2);exact⟨x::m,rfl,(hm.cons x).trans v9.symm⟩
theorem Cz{w:Nat}(hw:w<4){F:List Nat->V->Prop}{fs:List (List Nat)}{us ys:List V}(hf:mZ w fs)(hp:Paired F fs us)(h:jM (fs.map (rk w)) us ys):Paired F (aS w) ys:=by
 obtain⟨ps,h1,rfl,h3⟩:=h;have e:(fs.map (rk w)).zip us=(fs.zip us).map λq=>(rk w q.1,q.2):=by
  have:=List.zip_map_left (f:=rk w) (l₁:=fs) (l₂:=us);rw[this];rfl
 rw[e]at h1;obtain⟨l,rfl,hl⟩:=LQ h1;have p1:(l.map Prod.fst).Perm (aS w):=by
  have:=hl.map Prod.fst;rw[List.map_fst_zip (nz (bS hp))]at this;exact this.trans hf.perm
 have e2:l.map Prod.fst=aS w:=by
  refine List.Perm.eq_of_pairwise (le:=λf g=>rk w f<=rk w g) (λa b ha hb h1 h2=>(tu hw (p1.mem_iff.mp ha) hb).2 (by omega)) ?_ (GJ hw) p1;rw[hW]at h3 ⊢;exact h3
 rw[<- e2,dB];have all:∀q∈l,F q.1 q.2:=λq hq=>by
  have hq:=hl.mem_iff.mp hq;obtain⟨i,hi,e⟩:=jA hq;have hi1:i<fs.length:=by have:=hi;rw[vZ]at this;omega
  have hi2:i<us.length:=by have:=hi;rw[vZ]at this;omega
  rw[List.getElem_zip]at e;obtain⟨x,hx,hF⟩:=pI hp (aq hi1);rw[aq hi2]at hx;cases hx;rw[<- e];exact hF
 clear hl h1 h3 e hp e2 p1
 induction l with
 |nil=>exact .nil
 |cons q l ih=>exact .cons (all q (bR ..)) (ih λq hq=>all q (bG _ hq))
end Fl
namespace L2
open PySem PySem.Spec PyProof.Rows
theorem N3 {h:Heap} {a:Addr} {vs:List Value} {out:Array Value} {n:Nat} (e:h.get? a=some (seqObj "list" vs.toArray n)):(∃c,(sortedHeap h a vs out).get? a=some (seqObj "list" out c))/\∀b o,b≠a->h.get? b=some o->(sortedHeap h a vs out).get? b=some o:=by
 unfold sortedHeap;obtain⟨e1,h1⟩:∃e1,(h.update a (Obj.mapSeq λ_=>(#[]:Array Value))).get? a=some (seqObj "list" #[] e1):=⟨_,iS e λ_=>#[]⟩;refine⟨⟨_,iS (au _ (au _ h1)) λ_=>out⟩,λb o hb q=>?_⟩;rw[h9 _ _ _ _ hb];refine au _ (au _ ?_);rw[h9 _ _ _ _ hb];exact q
end L2
namespace L2
open PySem PySem.Spec PyProof.Rows PySem.W
section
variable {prog:Program} {w:World} {A:Around} {E:Value->Shared->Prop} {s:Shared}
theorem JB {a:Addr} {vs:List Value} {kz:List Int} {n:Nat} {κ:SortKind} {P:PySem.Fin->Shared->Prop} (ho:s.heap.get? a=some (seqObj "list" vs.toArray n)) (hz:kz.length=vs.length) (h64:vs.length<64)
  (hkind:2<=vs.length->∀s':Shared,(∀b o,b≠a->s.heap.get? b=some o->s'.heap.get? b=some o)->∀Q:SortKind->Shared->Prop,Q κ s'->wpAny (model prog w) A (keyKind' vs.toArray) Q E s')
  (hcmp:∀s':Shared,(∀b o,b≠a->s.heap.get? b=some o->s'.heap.get? b=some o)->∀i j,i<vs.length->j<vs.length->∀Q:Bool->Shared->Prop,Q (decide (kz.getD i 0<kz.getD j 0)) s'->wpAny (model prog w) A (keyLt' κ (vs.getD i Value.none) (vs.getD j Value.none)) Q (λ_ _=>False) s')
  (h:∀out:Array Value,KskOut false kz vs out.toList->out.toList.length=vs.length->P (.done (.ret .none)) {s with heap:=sortedHeap s.heap a vs out}) :
  wpAny (model prog w) A (Builtin.«list.sort» ⟨[.ref a],[]⟩) P E s:=by
 have big:(64:Nat)<=sizeLine:=by decide +kernel
 rw[list_sort_plain];refine ae (jG ho rfl (ae (h6 ho rfl ?_)));obtain⟨e1,ho1⟩:∃e1,(s.heap.update a (Obj.mapSeq λ_=>#[])).get? a=some (seqObj "list" #[] e1):=⟨_,iS ho (λ_=>#[])⟩;refine ae (jH ho1 rfl (ae (nQ (ae (h_ (dY ?_))))));have ho6:(((s.heap.update a (Obj.mapSeq λ_=>#[])).push (seqObj "tuple" vs.toArray 0)).push (seqObj "list" #[] 0)).get? a=some (seqObj "list" #[] e1):=au _ (au _ ho1);have keep:∀b o,b≠a->s.heap.get? b=some o->(((s.heap.update a (Obj.mapSeq λ_=>#[])).push (seqObj "tuple" vs.toArray 0)).push (seqObj "list" #[] 0)).get? b=some o:=λb o hb e=>au _ (au _ (by rw[h9 _ _ _ _ hb];exact e));show wpAny (model prog w) A _ P E {s with heap:=((s.heap.update a (Obj.mapSeq λ_=>#[])).push (seqObj "tuple" vs.toArray 0)).push (seqObj "list" #[] 0)};dsimp only
 by_cases few:vs.toArray.size<2
 ·rw[if_pos few,if_pos few]
  rw[a_]at few;have e:((vs.toArray.zip vs.toArray).map (·.2)).toList=vs:=by
   rw[mV,ksk_zip];exact q_ (aB _)
  have ol:((vs.toArray.zip vs.toArray).map (·.2)).toList.length=vs.length:=by rw[e]
  refine ae (ah ?_);rw[StateT.run_pure];refine ae (ah (ae (jH ho6 rfl (ae (h6 ho6 rfl ?_ (hsz2:=by show((vs.toArray.zip vs.toArray).map (·.2)).size<=sizeLine+1;rw[<- dw,ol];omega))))));dsimp only;simp only[sf,dz,c6];refine ah (h (Array.map (λx:Value × Value=>x.2) (vs.toArray.zip vs.toArray)) ?_ ol);rw[e];refine⟨kz.zip vs,.refl _,(q_ (by omega)).symm,?_⟩;have:(kz.zip vs).length<=1:=by simp;omega
  generalize kz.zip vs=l at this ⊢;cases l with
  |nil=>exact .nil
  |cons x r =>
   cases r with
   |nil=>exact Eg _ _
   |cons y r=>exact absurd this (by simp)
 ·rw[if_neg few,if_neg few]
  rw[a_]at few;have zs:(vs.toArray.zip vs.toArray).size=vs.length:=by simp
  refine ae (hkind (by omega) _ keep _ ?_);have est:SortSt.mk' κ (vs.toArray.zip vs.toArray) #[] 7 none=kas_st κ (vs.toArray.zip vs.toArray) (List.toArray (List.range vs.length)):=by
   have e:=kas_range (vs.toArray.zip vs.toArray);rw[zs]at e;show SortSt.mk' κ (vs.toArray.zip vs.toArray) #[] 7 none=SortSt.mk' κ ((List.toArray (List.range vs.length)).map (kas_item (vs.toArray.zip vs.toArray))) #[] 7 none;rw[e]
  have run:=kas_runs (prog:=prog) (w:=w) (A:=A) (E:=E) (κ:=κ) (it:=vs.toArray.zip vs.toArray) (n:=vs.length)
   (Q:=λ_ st' s'=>s' = {s with heap:=((s.heap.update a (Obj.mapSeq λ_=>#[])).push (seqObj "tuple" vs.toArray 0)).push (seqObj "list" #[] 0)}/\∃p:Array Nat,Pm vs.length p/\Up (λi=>kz.getD i 0) p vs.length/\arrOf st'=p.map (kas_item (vs.toArray.zip vs.toArray))/\failedOf st'=none)
   (G:=λp s'=>s' = {s with heap:=((s.heap.update a (Obj.mapSeq λ_=>#[])).push (seqObj "tuple" vs.toArray 0)).push (seqObj "list" #[] 0)}/\Pm vs.length p/\Up (λi=>kz.getD i 0) p vs.length) (s:={s with heap:=((s.heap.update a (Obj.mapSeq λ_=>#[])).push (seqObj "tuple" vs.toArray 0)).push (seqObj "list" #[] 0)}) (by omega) h64
   (λp' st' s' _ a2 a3 a4=>⟨a4.1,p',a4.2.1,a4.2.2,a2,a3⟩)
   (bz.wp (λi j C hi hj hC=>by
    unfold kas_cmp;rw[item_at rfl hi,item_at rfl hj];exact hcmp _ keep i j hi hj C hC) (wW (by omega)))
  rw[<- est]at run;refine ae (dZ run ?_ λ_ _ z=>z);rintro⟨⟨⟩,st⟩ s' ⟨rfl,p,hp,hu,ha,hf⟩;have ps:=hp.size;have lt:∀i∈p.toList,i<vs.length:=λi hi=>by
   have:=hp.mem_iff.mp (qM.mp hi);simpa using this
  have eo:((arrOf st).map (·.2)).toList=p.toList.map λi=>vs.getD i Value.none:=by
   rw[ha,Array.map_map,mV];refine jB λi hi=>?_;show(kas_item (vs.toArray.zip vs.toArray) i).2=_;rw[item_at rfl (lt i hi)]
  have ol:((arrOf st).map (·.2)).toList.length=vs.length:=by rw[eo,aD,dw,ps]
  dsimp only;refine ae (jH ho6 rfl (ae (h6 ho6 rfl ?_ (hsz2:=by show((arrOf st).map (·.2)).size<=sizeLine+1;rw[<- dw,ol];omega))));rw[hf];simp only[sf,dz,c6];refine ah (h _ ?_ ol);rw[eo];refine⟨p.toList.map λi=>(kz.getD i 0,vs.getD i Value.none),?_,?_,?_⟩
  ·have e1:p.toList.Perm (List.range vs.length):=by simpa using DK.mp hp
   refine(e1.map _).trans (.of_eq ?_);refine hJ (by simp[hz]) λi h1 h2=>?_;have hi:i<vs.length:=by simpa using h1
   have hi':i<kz.length:=by omega
   simp[hi,hi']
  ·rw[dB]
   rfl
  ·rw[hW,v8]
   intro i j hi hj hij;have hj':j<p.size:=by simpa using hj
   have:=hu i j (fT hij) (by omega);have g:∀k (hk:k<p.size),p.getD k 0=p.toList[k]:=λk hk=>by simp[Array.getD,hk]
   rw[g i (by omega),g j hj']at this;exact this
end
noncomputable def M0(K:W.Frag):List V->Hp->VK->Prop:=λxs H Q=>∃(l:Addr) (fs:List (List Int)) (rs ts:List Addr) (kz:List Int),xs = [.ref l]/\ak K H l (rs.map V.ref)/\rs.length<64/\Paired (λ(q:List Int × Addr) r=>H r=some (.tup [.int (q.1.length:Int),.ref q.2])/\H q.2=some (.tup (q.1.map V.int))) (fs.zip ts) rs/\fs.length=rs.length/\ts.length=rs.length/\kz.length=rs.length /\
 (∀(i j:Nat) a b,fs[i]?=some a->fs[j]?=some b->jd a.length b.length a b=decide (kz.getD i 0<kz.getD j 0)) /\
 ∀(p:Addr) (ys:List V),H p=none->jM kz (rs.map V.ref) ys->Q (.ref p) (upd H p (.lst ys))
theorem Fy {X:Cx} {K:W.Frag} (h:X.K=K) (hr:aV 0 X.A) (hX:X.A.units+2<cLine):cV X (.builtin "sorted") (M0 K):=by
 subst h;intro pins s σ H vs us Q I rv h;obtain⟨l,fs,rs,ts,kz,rfl,hl,h64,hp,l1,l2,l3,hz,q⟩:=h;obtain⟨u,rfl,ru⟩:=rv.one;have big:(64:Nat)<=sizeLine:=by decide +kernel
 refine wq kind_sorted plain_sorted entry_sorted (args_sorted1 u) ?_;unfold Builtin.«sorted»;refine ae (m:=checkCount "sorted" 1 1 _) (ah (ae (FQ (A:=X.A.in1) hr.hd I ru (.inr ⟨l,rfl,hl⟩) (by rw[aD];omega) λits s1 rt I1=>ae (h_ ?_ ?_))))
 ·have hil:its.length=rs.length:=by rw[<- rt.length,aD]
  have Gj:its=rs.map Value.ref:=by
   have go:∀{rs:List Addr} {its:List Value},Vals (rs.map V.ref) its->its=rs.map Value.ref:=by
    intro rs
    induction rs with
    |nil=>intro its h;cases h;rfl
    |cons r rs ih=>intro its h;cases h with|cons h1 h2=>cases h1;rw[ih h2];rfl
   exact go rt
  subst Gj;have ea:(s1.heap.push {cls:=.type "list", data:=.seq (rs.map Value.ref).toArray}).get? s1.heap.objs.size=some (seqObj "list" (rs.map Value.ref).toArray 0):=aQ _ rfl;refine ae (dY (wu slot_list_sort ⟨_,ea,rfl⟩ entry_list_sort ?_ (args_list_sort _)));show wpAny (model X.prog X.w) X.A.in1.in1 (Builtin.«list.sort» ⟨[.ref s1.heap.objs.size],[]⟩) _ _ _;have at_:∀i,i<rs.length->∃r f t,rs[i]?=some r/\fs[i]?=some f/\H r=some (.tup [.int (f.length:Int),.ref t])/\H t=some (.tup (f.map V.int)):=λi hi=>by
   have h1:i<fs.length:=by omega
   have h2:i<ts.length:=by omega
   obtain⟨r,e1,e2,e3⟩:=pI hp (i:=i) (a:=(fs[i],ts[i])) (by rw[q0];exact⟨aq h1,aq h2⟩);exact⟨r,fs[i],ts[i],e1,aq h1,e2,e3⟩
  have I2:∀s':Shared,(∀b o,b≠s1.heap.objs.size->(s1.heap.push {cls:=.type "list", data:=.seq (rs.map Value.ref).toArray}).get? b=some o->s'.heap.get? b=some o)->aZ X.prog X.w H s'.heap:=λs' keep=>I1.hok.kept λb o e=>keep b o (aP (aG e)) (au _ e);refine JB (κ:=tuples' true) (kz:=kz) (s:={s1 with heap:=s1.heap.push {cls:=.type "list", data:=.seq (rs.map Value.ref).toArray}}) (vs:=rs.map Value.ref) (n:=0) ea (by rw[aD];exact l3) (by rw[aD];exact h64) (λh2 s' keep Q' hq=>yV (λz=>by rw[z]at h2;simp at h2) (λv hv=>?_) hq) (λs' keep i j hi hj Q' hq=>?_) λout hout hol=>?_
  ·obtain⟨r,hr',rfl⟩:=cG.mp hv
   obtain⟨i,hi,rfl⟩:=jA hr';obtain⟨r,f,t,e1,e2,e3,e4⟩:=at_ i hi;rw[aq hi]at e1;cases e1;obtain⟨_,its',rv',⟨o,ho,hc,m,hd'⟩,_⟩:=(show aK X.prog X.w H s'.heap _ _ from I2 s' keep _ _ e3);obtain⟨u,e5,t',rfl⟩:=rv'.get (i:=0) rfl;exact⟨_,o,m,its'.toArray,_,t',rfl,ho,hc,hd',by simpa using e5⟩
  ·rw[aD]at hi hj
   obtain⟨r,f,t,e1,e2,e3,e4⟩:=at_ i hi;obtain⟨r',f',t',e1',e2',e3',e4'⟩:=at_ j hj;have g1:(rs.map Value.ref).getD i Value.none = .ref r:=by rw[aO,bB,e1];rfl
   have g2:(rs.map Value.ref).getD j Value.none = .ref r':=by rw[aO,bB,e1'];rfl
   rw[g1,g2];rw[<- hz i j f f' e2 e2']at hq;exact yP (show X.A.units+2<cLine from hX) (I2 s' keep) e3 e3' e4 e4' hq
  ·obtain⟨ys,hv,hs⟩:=CG rt hout
   obtain⟨⟨c,g1⟩,g2⟩:=N3 (out:=out) ea;have hyl:=hv.length;rw[aD]at hol;have I5:Inv X pins σ (upd H s1.heap.objs.size (.lst ys)) {s1 with heap:=sortedHeap (s1.heap.push {cls:=.type "list", data:=.seq (rs.map Value.ref).toArray}) s1.heap.objs.size (rs.map Value.ref) out,toks:=s1.toks}:=by
    refine I1.laid (t':=s1.toks) (λb o e=>?_) (aB _) ⟨by omega,out.toList,c,hv,by simpa using g1⟩;exact g2 b o (aP (aG e)) (au _ e)
   exact⟨_,rfl,ah ⟨_,rfl,.ref s1.heap.objs.size,_,I5,rfl,q _ ys I1.fresh hs⟩⟩
 ·rw[<- rt.length,aD]
  omega
noncomputable def kI(f:List Int):List Key:=f.map Sum.inl
noncomputable def dI(xs:List (List Int × Addr)):List (List Key × Addr × Value):=xs.map λq=>(kI q.1,q.2,Value.bool true)
noncomputable def eB(P:Program)(w:World)(h:Heap)(d:Addr)(xs:List (List Int × Addr)):Prop:=(d==sysModules)=false/\xs.length<=1000/\(xs.map (·.1)).Nodup /\
 ∃o es ep,h.get? d=some o/\o.ExactDict/\o.data = .dict es ep/\es.toList=(dI xs).map (entryOfKey (tupleKind (cw P w)))
noncomputable def cy(P:Program)(w:World)(d:Addr)(xs:List (List Int × Addr)):HO:=.ext λh=>eB P w h d xs
theorem xB{P:Program}{w:World}{H:Hp}{h:Heap}{d:Addr}{xs:List (List Int × Addr)}(g:eB P w h d xs):aK P w H h d (cy P w d xs):=
 ⟨g,let⟨_,_,_,o,_,_,e,_⟩:=g;⟨o,e⟩,λh1 h2 g k=>let⟨a,b,c,o,es,ep,e,r⟩:=g;⟨a,b,c,o,es,ep,k _ e,r⟩⟩
noncomputable def cT(H:Hp)(xs:List (List Int × Addr)):Prop:=∀q∈xs,H q.2=some (.tup (q.1.map V.int))
theorem yM{f g:List Int}(h:kI f=kI g):f=g:=by
 induction f generalizing g with
 |nil=>cases g with|nil=>rfl|cons y g=>cases h
 |cons x f ih =>
  cases g with
  |nil=>cases h
  |cons y g =>
   unfold kI at h;rw[bJ,bJ,vP]at h;rw[Sum.inl.inj h.1,ih h.2]
theorem tW(f:List Int):oY (kI f) (f.map V.int):=by
 induction f with
 |nil=>exact .nil
 |cons x f ih=>exact .cons (.inl rfl) ih
section
variable {P:Program} {w:World} {H:Hp} {h:Heap} {d:Addr} {xs:List (List Int × Addr)}
theorem eB.O4(ok:aZ P w H h)(kt:cT H xs)(g:eB P w h d xs):h.DictOfH (tupleKind (cw P w)) d (dI xs):=by
 obtain⟨lo,z,nd,o,es,ep,e1,e2,e3,e4⟩:=g;refine⟨o,es,ep,e1,e2,e3,e4,λx hx=>?_,?_⟩
 ·obtain⟨q,hq,rfl⟩:=cG.mp hx
  exact j8 ok ⟨_,tW q.1,kt q hq⟩
 ·unfold dI
  rw[dB];exact hW.mpr ((hW.mp nd).imp λhne e=>hne (yM e))
theorem eB.zN(lo:(d==sysModules)=false)(z:xs.length<=1000)(nd:(xs.map (·.1)).Nodup)(g:h.DictOfH (tupleKind (cw P w)) d (dI xs)):eB P w h d xs:=by
 obtain⟨o,es,ep,e1,e2,e3,e4,_⟩:=g;exact⟨lo,z,nd,o,es,ep,e1,e2,e3,e4⟩
noncomputable def eh(xs:List (List Int × Addr))(f:List Int)(b:Addr):List (List Int × Addr):=if f∈xs.map (·.1)then xs else xs++[(f,b)]
theorem Mq(f:List Int)(b:Addr)(nd:(xs.map (·.1)).Nodup):((eh xs f b).map (·.1)).Nodup:=by
 unfold eh
 split
 ·exact nd
 ·rename_i hn
  rw[fz];exact v7.mpr ⟨nd,by simp,λx hx y hy e=>by simp at hy;subst hy;subst e;exact hn hx⟩
theorem Mp(f:List Int)(b:Addr):(eh xs f b).length<=xs.length+1:=by
 unfold eh
 split
 ·omega
 ·simp
theorem w4(f:List Int):atKey (dI xs) (kI f)=none ↔ f ∉ xs.map (·.1):=by
 unfold atKey dI;rw[Option.map_eq_none_iff,List.find?_eq_none]
 constructor
 ·intro h hf
  obtain⟨q,hq,rfl⟩:=cG.mp hf;exact h _ (cG.mpr ⟨q,hq,rfl⟩) (by simp)
 ·intro h x hx
  obtain⟨q,hq,rfl⟩:=cG.mp hx;rw[c5];exact λe=>h (cG.mpr ⟨q,hq,yM e⟩)
theorem N9(f:List Int)(b:Addr):storedH (dI xs) (kI f) b (.bool true)=dI (eh xs f b):=by
 by_cases hf:f∈xs.map (·.1)
 ·have:atKey (dI xs) (kI f)≠none:=λz=>(w4 f).mp z hf
  obtain⟨p,hp⟩:=Option.ne_none_iff_exists'.mp this;rw[storedH_old hp];unfold eh;rw[if_pos hf];unfold dI;rw[dB];refine jB λq _=>?_;show putAt (kI f) (.bool true) (kI q.1,q.2,Value.bool true)=_;unfold putAt
  split<;>simp_all
 ·rw[storedH_new ((w4 f).mpr hf)]
  unfold eh dI;rw[if_neg hf,fz];rfl
end
section
variable {X:Cx} {pins:List (Addr × Obj)} {σ:St} {H:Hp} {s:Shared} {A:Around} {E:Value->Shared->Prop} {d:Addr} {xs:List (List Int × Addr)}
theorem Gg{b:Addr}{f:List Int}{u r:Value}{Q:Unit->Shared->Prop}(hu:A.units+1<cLine)(I:Inv X pins σ H s)(e:H d=some (cy X.prog X.w d xs))(kt:cT H xs)(eb:H b=some (.tup (f.map V.int)))(z:xs.length<1000)(ry:RelV (.ref b) u)(rv:RelV (.bl true) r)(h:∀s',Inv X pins σ (upd H d (cy X.prog X.w d (eh xs f b))) s'->Q () s'):wpAny (model X.prog X.w) A (setItem (.ref d) u r) Q E s:=by
 obtain rfl:u = .ref b:=ry;obtain rfl:r = .bool true:=rv;have g:eB X.prog X.w s.heap d xs:=(show aK X.prog X.w H s.heap d (cy X.prog X.w d xs)from I.hok d _ e).1;have dd:=g.O4 I.hok kt;have big:(1000:Nat)<=sizeLine:=by decide +kernel
 refine wpAny_setItem_heap (hsz:=by unfold dI;rw[aD];omega) (wG hu) (j8 I.hok ⟨_,tW f,eb⟩) dd λh' fI hs=>h _ ?_;rw[N9]at fI;obtain⟨lo,z1,nd,_⟩:=g;have hl:=Mp (xs:=xs) f b;obtain⟨q,hq⟩:∃q,h'.get? d=some q:=let⟨q,_,_,hq,_⟩:=fI;⟨q,hq⟩
 exact oq I (by rw[e];exact True.intro) hs ⟨q,hq⟩ (xB (eB.zN lo (by omega) (Mq f b nd) fI))
end
noncomputable def Nt(P:Program)(w:World)(td ty tv:TE):TS:=λD σ H=>tv σ H λv H1=>td σ H1 λx H2=>ty σ H2 λy H3=>v = .bl true/\∃(d b:Addr) (xs:List (List Int × Addr)) (f:List Int),x = .ref d/\y = .ref b/\H3 d=some (cy P w d xs)/\cT H3 xs/\H3 b=some (.tup (f.map V.int))/\xs.length<1000/\D.nx σ (upd H3 d (cy P w d (eh xs f b)))
section
variable {X:Cx} {o i value k v:Expr} {td ty tv tk:TE} {pos pos':Pos}
theorem Md(hu:X.A.units+1<cLine)(ho:PE X o td)(hi:PE X i ty)(hv:PE X value tv)(hs:swapsWith value (some (.Subscript o i pos')) pos.line X.env=pure false):PS X (.Assign [.Subscript o i pos'] value pos) (Nt X.prog X.w td ty tv):=by
 intro pins s σ H D I h;refine wpAny_Assign_Subscript (ao (hv pins s σ H _ I h) λr s1 ⟨v,H1,I1,rv,q1⟩=>ao (ho pins s1 σ H1 _ I1 q1) λu s2 ⟨x,H2,I2,rx,q2⟩=>ao (hi pins s2 σ H2 _ I2 q2) λiv s3 ⟨y,H3,I3,ry,ev,d,b,xs,f,ex,ey,h1,h2,h3,h4,q3⟩=>?_) hs;subst ev ex ey;obtain rfl:u=Value.ref d:=rx;exact Gg hu I3 h1 h2 h3 h4 ry rv λs4 I4=>⟨σ,_,I4,q3⟩
noncomputable def Oj(P:Program)(w:World)(tk tv:TE):TE:=λσ H Q=>∀p,H p=none->tk σ (upd H p (.dT [])) λx H1=>tv σ H1 λy H2=>H2 p=some (.dT [])/\y = .bl true/\∃(b:Addr) (f:List Int),x = .ref b/\H2 b=some (.tup (f.map V.int))/\Q (.ref p) (upd H2 p (cy P w p [(f,b)]))
theorem Ls(hu:X.A.units<cLine)(hk:PE X k tk)(hv:PE X v tv):PE X (.Dict [some k] [v] pos) (Oj X.prog X.w tk tv):=by
 intro pins s σ H Q I q;have hn:=I.hok.fresh (aB s.heap.objs.size);have I1:=I.laid (a:=s.heap.objs.size) (o:=.dT []) (h':=s.heap.push {cls:=.type "dict", data:=.dict #[]}) (t':=s.toks) (λ_ _ q=>au _ q) (aB _) (xx s.heap I.big);have q1:=q _ hn;have PP:nD X pos [some k] [v] [(tk,tv)]:=L_ hk hv Ma;refine wpAny_Dict_any rfl rfl (by simp) (by simp) (ao (PP pins _ σ _ (λps H2=>match ps with
  | [(x,y)]=>H2 s.heap.objs.size=some (.dT [])/\y = .bl true/\∃(b:Addr) (f:List Int),x = .ref b/\H2 b=some (.tup (f.map V.int))/\Q (.ref s.heap.objs.size) (upd H2 s.heap.objs.size (cy X.prog X.w s.heap.objs.size [(f,b)]))
  |_=>False) I1 q1) λws s2 ⟨ps,H2,I2,rel,hq⟩=>?_)
 match ps,hq with
 | [(x,y)],hq =>
  obtain⟨e,ey,b,f,ex,eb,q2⟩:=hq;subst ey ex;cases rel with
  | @cons p r ps rs h t =>
   cases t;obtain⟨u,r⟩:=r;obtain⟨h1,h2⟩:=h;cases(show u=Value.ref b from h1);cases(show r=Value.bool true from h2);obtain⟨z,hd,xs,rel,dd⟩:=xA I2.hok e;cases rel;unfold storeAll;rw[nj];refine ae (ae (wpAny_dictSet_heap hu (j8 I2.hok ⟨_,tW f,eb⟩) dd λh' fI hs=>ah ?_));show wpAny _ _ (forIn [] PUnit.unit _) _ _ _;rw[qX];refine ah ⟨.ref s.heap.objs.size,_,?_,rfl,q2⟩;have dd2:h'.DictOfH (tupleKind (cw X.prog X.w)) s.heap.objs.size (dI [(f,b)]):=fI;obtain⟨q,hq⟩:∃q,h'.get? s.heap.objs.size=some q:=let⟨q,_,_,hq,_⟩:=dd2;⟨q,hq⟩
   exact oq I2 (by rw[e];exact True.intro) hs ⟨q,hq⟩ (xB (eB.zN hd (by simp) (by simp) dd2))
end
end L2
namespace L2
open PySem PySem.Spec PyProof.Rows PySem.Builtin PySem.Builtin.Str PySem.W
theorem eB.ent{P:Program}{w:World}{h:Heap}{d:Addr}{xs:List (List Int × Addr)}(g:eB P w h d xs):∃ep,dA h d ((xs.map (·.2)).map Value.ref) ep:=by
 obtain⟨_,_,_,o,es,ep,e1,e2,e3,e4⟩:=g;refine⟨ep,o,es,e1,e2,e3,?_⟩;rw[e4,dB,dB];unfold dI;rw[dB];rfl
section
variable {X:Cx} {pins:List (Addr × Obj)} {σ:St} {H:Hp} {s:Shared} {A:Around} {E:Value->Shared->Prop} {d:Addr} {xs:List (List Int × Addr)}
theorem yU(I:Inv X pins σ H s)(e:H d=some (cy X.prog X.w d xs)):∃ep,dA s.heap d ((xs.map (·.2)).map Value.ref) ep/\(d==sysModules)=false/\xs.length<=sizeLine:=by
 have g:eB X.prog X.w s.heap d xs:=(show aK X.prog X.w H s.heap d (cy X.prog X.w d xs)from I.hok d _ e).1;obtain⟨ep,x⟩:=g.ent;have big:(1000:Nat)<=sizeLine:=by decide +kernel
 exact⟨ep,x,g.1,cH g.2.1 big⟩
noncomputable def MJ(P:Program)(w:World):List V->Hp->VK->Prop:=λvs H Q=>∃d xs,vs = [.ref d]/\H d=some (cy P w d xs)/\∀l,H l=none->Q (.ref l) (upd H l (.lst ((xs.map (·.2)).map V.ref)))
theorem Fv (hr:aV 0 X.A):cV X (.type "list") (MJ X.prog X.w):=by
 intro pins s σ H vs us Q I r h;obtain⟨d,xs,rfl,e,q⟩:=h;obtain⟨u,rfl,ru⟩:=r.one;obtain rfl:u = .ref d:=ru;obtain⟨ep,x,lo,z⟩:=yU I e;refine W.kdl_call (xH lo) hr.hd x (by rw[aD,aD];omega) λh' tk acc c' keep hD hacc=>?_;have ea:=yJ hacc;refine⟨.ref s.heap.objs.size,_,I.laid (t':=tk) (o:=.lst ((xs.map (·.2)).map V.ref)) keep (aB _) ⟨by rw[aD,aD];omega,(xs.map (·.2)).map Value.ref,c',vF _,?_⟩,rfl,q _ I.fresh⟩;rw[hD,<- ea]
theorem FK{R:List Value->Shared->Prop}(hh:A.handled=none)(I:Inv X pins σ H s)(e:H d=some (cy X.prog X.w d xs))(q:∀s',Inv X pins σ H s'->R ((xs.map (·.2)).map Value.ref) s'):wpAny (model X.prog X.w) A (collect (.ref d)) R E s:=by
 obtain⟨ep,x,lo,z⟩:=yU I e;generalize hts:xs.map (·.2)=ts at *;have hl:ts.length=xs.length:=by rw[<- hts,aD]
 have old:∀b o,s.heap.get? b=some o->(s.heap.push (seqObj "list" #[] 0)).get? b=some o:=λb o e=>au _ e;have dl:=eK x.lt;unfold collect;refine ae (rR (fV wt ?_));show wpAny _ _ (newList []>>=λl=>again (.builtin "list.__iadd__" ⟨[l,.ref d],[]⟩)) _ _ s;have add:codeAny (model X.prog X.w) A (.builtin "list.__iadd__" ⟨[.ref s.heap.objs.size,.ref d],[]⟩) (λr s'=>r = .ok (.ret (.ref s.heap.objs.size))/\∃h' tk acc c',s' = {s with heap:=h',toks:=tk}/\(∀b o,s.heap.get? b=some o->h'.get? b=some o) /\
   h'.get? s.heap.objs.size=some {cls:=.type "list", dict:=none,data:=.seq acc c',slots:=#[]}/\acc.toList=ts.map Value.ref) {s with heap:=s.heap.push (seqObj "list" #[] 0)}:=by
  refine fV entry_list_iadd' ?_;show wpAny _ A.in1 (Builtin.List.listExtendWith (.ref s.heap.objs.size) (.ref d) (.ref s.heap.objs.size)) _ _ _;exact W.kdl_extend (A:=A) (s:={s with heap:=s.heap.push (seqObj "list" #[] 0)}) (R:=λr s'=>r = .ok (.ret (.ref s.heap.objs.size))/\∃h' tk acc c',s' = {s with heap:=h',toks:=tk}/\(∀b o,s.heap.get? b=some o->h'.get? b=some o) /\
   h'.get? s.heap.objs.size=some {cls:=.type "list", dict:=none,data:=.seq acc c',slots:=#[]}/\acc.toList=ts.map Value.ref)
   (xH lo) hh (x.mv λo e=>old d o e) s.heap.objs.size dl dl (.ref s.heap.objs.size) 0 (aQ _ rfl) (λh' tk acc c' hk hS hacc =>
    ⟨rfl,h',tk,acc,c',rfl,λb o e=>hk b o (aP (aG e)) (old b o e),hS,yJ hacc⟩) (by rw[aD];omega)
 refine ae (h_ (ah ⟨rq _ (by decide +kernel),eL add λr s' hr=>?_⟩));obtain⟨rfl,h',tk,acc,c',rfl,keep,hS,hv⟩:=hr;show wpAny _ A (load s.heap.objs.size>>=λo=>match o.data with | .seq xs _=>pure xs.toList|_=>unsupported "internal:collect") _ _ _;refine ae (wpAny_load hS (ah ?_));rw[hv];exact q _ (I.kept keep)
end
section
variable {X:Cx} {pins:List (Addr × Obj)} {σ:St} {H:Hp} {s:Shared} {E:Value->Shared->Prop} {qual x:Str} {params:Arguments} {body:Expr} {scope:Scope} {fr:List (Str × Nat)} {tb:TE} {p d:Addr} {xs:List (List Int × Addr)} {ts:List Addr} {Q:VK} {kz:List Int} {kw:List (List V)}
theorem FG(hr:aV 0 X.A)(KL:ng X qual x params body scope fr tb)(I:Inv X pins σ H s)(e:H d=some (cy X.prog X.w d xs))(L:cW H p qual params body scope (bx X.env.cells scope.names []))(ou:ts=xs.map (·.2))(h64:ts.length<64)(hl:kz.length=ts.length)(hw:kw.length=ts.length)(TK:nW X H kw kz)(turn:∀(i:Nat) y ws,(ts.map V.ref)[i]?=some y->kw[i]?=some ws->∀H3,Same H H3->tb (some y::lamσ fr σ) H3 λz H4=>(∃r,z = .ref r/\H4 r=some (.tup ws))/\Same H3 H4)(q:∀ys r H3,Same H H3->H r=none->H3 r=some (.lst ys)->jM kz (ts.map V.ref) ys->Q (.ref r) H3):
  wpAny (model X.prog X.w) X.A (call (.builtin "sorted") [.ref d] [(Str.ofString "key", .ref p)]) (EP X pins σ Q) E s:=by
 have big:(64:Nat)<=sizeLine:=by decide +kernel
 refine wq kind_sorted plain_sorted entry_sorted (ksk_s1 (.ref d) (.ref p)) ?_;unfold Builtin.«sorted»;refine ae (m:=checkCount "sorted" 1 1 _) (ah (ae (FK (A:=X.A.in1) hr.hd I e λs1 I1=>ae (h_ ?_ (by rw[<- ou,aD];omega)))));rw[<- ou];have I2:Inv X pins σ H {s1 with heap:=s1.heap.push {cls:=.type "list", data:=.seq (ts.map Value.ref).toArray},toks:=s1.toks}:=I1.kept λb o e=>au _ e;have fa:bW X pins H s1.heap.objs.size:=I1.i_ (aB _) I1.fresh;have ea:(s1.heap.push {cls:=.type "list", data:=.seq (ts.map Value.ref).toArray}).get? s1.heap.objs.size=some (seqObj "list" (ts.map Value.ref).toArray 0):=aQ _ rfl;refine ae (dY (wu slot_list_sort ⟨_,ea,rfl⟩ entry_list_sort ?_ (ksk_l1 _ _)));show wpAny (model X.prog X.w) X.A.in1.in1 (Builtin.«list.sort» ⟨[.ref s1.heap.objs.size],[(Str.ofString "key", .ref p)]⟩) _ _ _;rw[ksk_t1];exact N1 (s:={s1 with heap:=s1.heap.push {cls:=.type "list", data:=.seq (ts.map Value.ref).toArray},toks:=s1.toks}) rfl hr.hd hr.depth ⟨rfl,aB _,rfl⟩ KL I2 fa ea (vF ts) L (by rw[aD];exact hl) (by rw[aD];exact hw) (by rw[aD];omega) TK turn
  λys H3 s3 sm g3 so I3=>⟨_,rfl,ah ⟨_,rfl,.ref s1.heap.objs.size,H3,I3,rfl,q ys _ H3 sm fa.1 g3 so⟩⟩
end
section
variable {X:Cx} {x:Str} {params:Arguments} {body e:Expr} {scope:Scope} {fr:List (Str × Nat)} {tb ti:TE} {c P:Addr} {p0 cK kpos pos:Pos}
noncomputable def Ay(X:Cx)(P:Addr)(pos:Pos)(qual:Str)(fr:List (Str × Nat))(tb:TE)(σ:St)(Q:VK)(v:V)(H1:Hp):Prop:=H1 P=some (.lam pos qual)/\∃(d:Addr) (xs:List (List Int × Addr)) (ts:List Addr) (kz:List Int) (kw:List (List V)),v = .ref d/\H1 d=some (cy X.prog X.w d xs)/\ts=xs.map (·.2)/\ts.length<64/\kz.length=ts.length/\kw.length=ts.length /\
 ∀H2,Same H1 H2->nW X H2 kw kz /\
  (∀(i:Nat) y ws,(ts.map V.ref)[i]?=some y->kw[i]?=some ws->∀H3,Same H2 H3->tb (some y::lamσ fr σ) H3 λz H4=>(∃r,z = .ref r/\H4 r=some (.tup ws))/\Same H3 H4) /\
  ∀ys r H3,Same H2 H3->H2 r=none->H3 r=some (.lst ys)->jM kz (ts.map V.ref) ys->Q (.ref r) H3
noncomputable def Oy(X:Cx)(ti:TE)(P:Addr)(pos:Pos)(qual:Str)(fr:List (Str × Nat))(tb:TE):TE:=λσ H Q=>ti σ H (Ay X P pos qual fr tb σ Q)
theorem LC (hg:Gl X "sorted") (hm:X.mg "sorted" = none) (T:TabAt X.base X.mg c P) (hcode:X.env.code = .ref c) (hr:aV 0 X.A) (KL:ng X (X.env.qual ++ "<lambda>") x params body scope fr tb) (hi:PE X e ti)
  (hdef:defaultsOf params X.env=([],[]):=by rfl) (he:starEach [e] X.env = [(false,eval e X.env)]:=by rfl) :
  PE X (.Call (.Name "sorted" p0) [e] [⟨some "key", .Lambda params body scope cK,kpos⟩] pos) (Oy X ti P cK (X.env.qual ++ "<lambda>") fr tb):=by
 intro pins s σ H Q I h;refine jJ (gD I hg hm boot_sorted ?_ (by decide) (by decide));refine callWith_kw (kws:=[⟨some "key", .Lambda params body scope cK,kpos⟩]) (ao (ag hi ai he pos pins s σ H (pB (Ay X P cK (X.env.qual ++ "<lambda>") fr tb σ Q)) I h) λus s1 hq=>?_) (by rw[he];rfl) (by rw[he];rfl) (by rfl) (by rfl);obtain⟨vs,H1,I1,r1,hq⟩:=hq;obtain⟨v,rfl,hP,d,xs,ts,kz,kw,rfl,hd,ou,h64,hl,hw,q⟩:=hq.get;obtain⟨u,rfl,ru⟩:=r1.one;obtain rfl:u = .ref d:=ru;refine kws_cons (ao (Al T hcode (λok y hy hk=>ok.has _ (KL.blk.free y hy hk)) hdef pins s1 σ H1 (λf H2=>∃p,f = .ref p/\Same H1 H2/\cW H2 p (X.env.qual ++ "<lambda>") params body scope (bx X.env.cells scope.names [])) I1 ⟨hP,λp H2 s2 _ L=>⟨p,rfl,s2,L⟩⟩) λfv s2 ⟨f,H2,I2,rf,p,ef,sm,L⟩=>kws_nil ?_);subst ef;obtain rfl:fv = .ref p:=rf;obtain⟨q1,q2,q3⟩:=q H2 sm;exact FG hr KL I2 (sm _ _ hd) L ou h64 hl hw q1 q2 q3
end
end L2
namespace My
open PySem PySem.Spec PyProof.Rows L2
theorem GR(k:Nat):Fl.bZ (k+1)=Fl.CK (Fl.bZ k) (1+k):=by
 unfold Fl.bZ;rw[iQ,vR];rfl
theorem GQ{k:Nat}(hk:k<8):(Fl.bZ k).length<=16/\∀g∈Fl.bZ k,g.length<=8/\∀x∈g,x<8:=by
 have h:∀k,k<8->(decide ((Fl.bZ k).length<=16)&&(Fl.bZ k).all λg=>decide (g.length<=8)&&g.all λx=>decide (x<8))=true:=by decide +kernel
 have h:=h k hk;simp only[ck,cn,c5]at h;exact h
theorem pe(g:List Nat):(Fl.nI g).map V.int=g.map nV:=by
 unfold Fl.nI;rw[dB];rfl
theorem ky{H H3:Hp}{l:Addr}{o:HO}(h:H l=none)(s:Same H H3):Same H (upd H3 l o):=λb q e=>by
 have hne:b≠l:=λz=>by rw[z,h]at e;cases e
 rw[aA hne];exact s b q e
noncomputable def fu(P:Program)(w:World)(H2:Hp)(d:Addr)(fs:List (List Nat)):Prop:=∃xs:List (List Int × Addr),H2 d=some (cy P w d xs)/\cT H2 xs/\xs.map (·.1)=fs.map Fl.nI
theorem fu.len{P:Program}{w:World}{H2:Hp}{d:Addr}{fs:List (List Nat)}{xs:List (List Int × Addr)}(e:xs.map (·.1)=fs.map Fl.nI):xs.length=fs.length:=by
 have:=congrArg List.length e;simpa using this
theorem Mr{xs:List (List Int × Addr)}{fs:List (List Nat)}{g:List Nat}{b:Addr}(e:xs.map (·.1)=fs.map Fl.nI):(eh xs (Fl.nI g) b).map (·.1)=(Fl.aM fs g).map Fl.nI:=by
 have hm:Fl.nI g∈xs.map (·.1) ↔ g∈fs:=by
  rw[e,cG];exact⟨λ⟨y,hy,h⟩=>Fl.zu h▸hy,λh=>⟨g,h,rfl⟩⟩
 unfold eh Fl.aM
 by_cases h:g∈fs
 ·rw[if_pos (hm.mpr h),if_pos h,e]
 ·rw[if_neg (λz=>h (hm.mp z)),if_neg h,fz,fz,e]
  rfl
theorem fu.put{P:Program}{w:World}{H3:Hp}{d b:Addr}{fs:List (List Nat)}{xs:List (List Int × Addr)}{g:List Nat}(hd:H3 d=some (cy P w d xs))(kt:cT H3 xs)(e:xs.map (·.1)=fs.map Fl.nI)(hb:H3 b=some (.tup ((Fl.nI g).map V.int))):fu P w (upd H3 d (cy P w d (eh xs (Fl.nI g) b))) d (Fl.aM fs g):=by
 refine⟨_,av,λq hq=>?_,Mr e⟩;have hq2:H3 q.2=some (.tup (q.1.map V.int)):=by
  unfold eh at hq
  split at hq
  ·exact kt q hq
  ·rcases hV.mp hq with h|h
   ·exact kt q h
   ·rw[eV.mp h]
    exact hb
 have hne:q.2≠d:=λz=>by rw[z,hd]at hq2;cases hq2
 rw[aA hne];exact hq2
theorem yR{H:Hp}:∀{xs:List (List Int × Addr)},cT H xs->Paired (λ(g:List Int) (t:Addr)=>H t=some (.tup (g.map V.int))) (xs.map (·.1)) (xs.map (·.2))
 | [],_=>.nil
 |q::xs,h=>.cons (h q (bR ..)) (yR λp hp=>h p (bG _ hp))
theorem yQ{H:Hp}:∀{xs:List (List Int × Addr)} {fs:List (List Nat)},xs.map (·.1)=fs.map Fl.nI->cT H xs->Paired (λ(g:List Nat) (u:V)=>∃t,u = .ref t/\H t=some (.tup (g.map nV))) fs ((xs.map (·.2)).map V.ref)
 | [],[],_,_=>.nil
 | [],_::_,e,_=>by cases e
 |_::_,[],e,_=>by cases e
 |q::xs,g::fs,e,h=>by
  rw[bJ,bJ,vP]at e;have h1:=h q (bR ..);rw[e.1,pe]at h1;exact .cons ⟨_,rfl,h1⟩ (yQ e.2 λp hp=>h p (bG _ hp))
theorem xO:∀(l fs:List (List Nat)),(l.foldl Fl.aM fs).length<=fs.length+l.length
 | [],fs=>aB _
 |g::l,fs=>by
  rw[List.foldl_cons];have h:=xO l (Fl.aM fs g);have h2:(Fl.aM fs g).length<=fs.length+1:=by unfold Fl.aM;split<;>simp
  rw[dc];omega
theorem cT.same{H H':Hp}{xs:List (List Int × Addr)}(h:cT H xs)(s:Same H H'):cT H' xs:=λq hq=>s _ _ (h q hq)
section
variable {P:Program} {w:World} {K:W.Frag} {mg:Str->Option Value} {base:Heap} {f:Addr} {fd:FuncData}
noncomputable def vK (K:W.Frag) (mg:Str->Option Value):Prop:=∃a:Addr,mg "ROW_COUNTS" = some (.ref a)/\∀H,az K H a (([1,2,4,8]:List Int).map V.int)
abbrev jm:Stmt:=top 31
theorem Bz:aY ["width","found","row","field"] ["width"] (aE jm):=⟨rfl,rfl,rfl,by decide +kernel,rfl,by decide +kernel,by decide +kernel⟩
abbrev lP:Pos:=⟨134,29,134,62⟩
abbrev lQ:Str:=("fields_of" : Str) ++ ".<locals>." ++ "<lambda>"
noncomputable def gZ(H:Hp)(l:Addr)(wd:Nat):Prop:=∃us:List V,H l=some (.lst us)/\Paired (λ(g:List Nat) (u:V)=>∃t,u = .ref t/\H t=some (.tup (g.map nV))) (Fl.aS wd) us
noncomputable def qe(Pt:Addr):Sp:=λvs H Q _=>∃wd:Nat,vs = [.int (wd:Int)]/\wd<4/\H Pt=some (.lam lP lQ)/\∀l H',Same H H'->H l=none->gZ H' l wd->Q (.ref l) H'
theorem Kw {c Pt:Addr} (F:aN K "fields_of" "fields_of" jm f fd) (hc:fd.code = .ref c) (tb:TabAt base mg c Pt) (T:Txt mg) (vv:vK K mg) (eP:ax P w K mg base "is_whole" ["value"] 1 kA) (si:ax P w K mg base "field_with" ["field","row"] 2 u_):aI P w K mg base aJ 3 f fd ["width"] (qe Pt):=by
 refine F.zO hc Bz (λvs H Q E h=>?_) (λA outer s H vs Q E hr h=>?_)
 ·obtain⟨wd,rfl,_⟩:=h
  rfl
 ·obtain⟨wd,rfl,hw,hP,kk⟩:=h
  have nd:=Bz.nd;have hr0:=hr.mono (bE _);have hu:=hr.units;have hu0:(A.deeper (envOfC "fields_of" (aE jm) s.heap.objs.size f (.ref c))).units<cLine:=by omega
  have hu2:(A.deeper (envOfC "fields_of" (aE jm) s.heap.objs.size f (.ref c))).units+2<cLine:=by omega
  have hu1:(A.deeper (envOfC "fields_of" (aE jm) s.heap.objs.size f (.ref c))).units+1<cLine:=by omega
  obtain⟨rc,xC,x9⟩:=vv;refine⟨_,(aH (cj (PW.pt (mG (gJ (cN (aW eP hr rfl (ag (pv 0) ai)))) (mH (gJ (Ax pE uv aL (pv 0) (bu (dH (K:=K) rfl) rfl T.len dW (ag (uC (v:=.ref rc) rfl xC rfl) ai))))))) (aC mF) cx)
   (aH (bV (i:=1) nd rfl (Or.inl rfl) (Ls hu0 (gI (ag aL ai)) d8))
   (aH (cD cz rfl (Ar rfl T.range (ag aL (ag (aX (bH (K:=K) rfl) (uC (v:=.ref rc) rfl xC rfl) (pv 0) (λ_ _=>rfl)) ai))) (bh (i:=2) nd rfl (Or.inl rfl))
   (aC (cD cz rfl (iF (K:=K) rfl (d9 (Fv hr0) rfl T.list lz (ag (pv 1) ai))) (bh (i:=3) nd rfl (Or.inl rfl))
   (aC (Md hu1 (pv 1) (aW si hr rfl (ag (pv 3) (ag (pv 2) ai))) d8 rfl)))))
   (aC (a8 (LC (x:= "field") (fr:=[]) rfl T.sorted tb rfl hr0 ⟨cJ (aE jm) ["width","found","row","field"] rfl rfl (by decide +kernel),⟨rfl,rfl,rfl,by decide +kernel,by decide +kernel,by decide +kernel,by decide +kernel⟩,λ_ _ _ _ us hl=>match us,hl with | [_],_=>rfl,λ_ _ _ _ _ _ _ _=>gI (ag (bu (dH (K:=K) rfl) rfl T.len dW (ag (pv 0) ai)) (ag (pv 0) ai))⟩ (pv 1))))))),?_⟩
  refine⟨_,rfl,⟨(wd:Int),rfl⟩,λv H1 s1 hv=>?_⟩;subst hv;refine⟨true,rfl,bf ?_⟩;refine⟨_,rfl,_,_,rfl,rfl,_,rfl,?_⟩;rw[if_pos (b9 (by omega))];refine⟨rc,_,rfl,.inr (x9 _),_,_,rfl,rfl,_,rfl,?_⟩;rw[b9 (show(wd:Int)<((([1,2,4,8]:List Int).map V.int).length:Nat)by show(wd:Int)<4;omega)];refine bf ?_;dsimp only;show cS _ _ _ [some (.int (wd:Int)),none,none,none] _;refine λd hd=>⟨by show 1<=sizeLine;decide,λt ht=>⟨(Same.put ht) _ _ av,rfl,t,[0],rfl,av,?_⟩⟩;have hd0:H d=none:=Same.noneF s1 hd;have I0:fu P w (upd (upd (upd H1 d (.dT [])) t (.tup [.int 0])) d (cy P w d [([0],t)])) d (Fl.bZ 0):=⟨_,av,λq hq=>by
   rw[eV.mp hq];have hne:t≠d:=λz=>by rw[z,av]at ht;cases ht
   show upd _ d _ t=_;rw[aA hne];exact av,rfl⟩
  have S0:Same H (upd (upd (upd H1 d (.dT [])) t (.tup [.int 0])) d (cy P w d [([0],t)])):=ky hd0 (s1.trans ((Same.put hd).trans (Same.put ht)));dsimp only[aU];show cS _ _ _ [some (.int (wd:Int)),some (.ref d),none,none] _;obtain⟨m,hm1,Qe,em,eg⟩:∃m:Nat,1<=m/\m<=8/\m=2 ^ wd/\(([1,2,4,8]:List Int).map V.int)[wd]?=some (.int (m:Int)):=by
   match wd,hw with
   |0,_=>exact⟨1,by decide,by decide,rfl,rfl⟩
   |1,_=>exact⟨2,by decide,by decide,rfl,rfl⟩
   |2,_=>exact⟨4,by decide,by decide,rfl,rfl⟩
   |3,_=>exact⟨8,by decide,by decide,rfl,rfl⟩
  refine⟨_,rfl,rc,_,_,_,rfl,rfl,x9 _,e9 eg,_,_,rfl,⟨by omega,by omega,by omega,by omega⟩,gq (lo:=1) (n:=((m:Int) - 1).toNat) (λi σ H2=>∃(v2 v3:Option V),σ = [some (.int (wd:Int)),some (.ref d),v2,v3]/\Same H H2/\fu P w H2 d (Fl.bZ i)) ⟨none,none,rfl,S0,I0⟩ ?_ ?_⟩
  ·rintro i σ H2 hi ⟨v2,v3,rfl,s2,xs,hx,kt,en⟩
   dsimp only[aU];have Hy:i<8:=by omega
   obtain⟨Qk,zg⟩:=GQ Hy;refine⟨_,rfl,d,xs,rfl,hx,λl hl=>?_⟩;have HJ:l≠d:=λz=>by rw[z,hx]at hl;cases hl
   have hlen:xs.length=(Fl.bZ i).length:=fu.len (P:=P) (w:=w) (H2:=H) (d:=d) en;refine⟨l,rfl,⟨_,ak.of av⟩,lR (K:=K) (a:=l) (xs:=(xs.map (·.2)).map V.ref) (λj σ H4=>∃(v3:Option V),σ = [some (.int (wd:Int)),some (.ref d),some (.int (1+(i:Int))),v3]/\Same H H4/\H4 l=some (.lst ((xs.map (·.2)).map V.ref))/\cT H4 xs/\fu P w H4 d ((((Fl.bZ i).map λg=>Fl.fw g (1+i)).take j).foldl Fl.aM (Fl.bZ i)))
    ⟨v3,rfl,s2.trans (Same.put hl),av,cT.same kt (Same.put hl),xs,(Same.put hl) _ _ hx,cT.same kt (Same.put hl),en⟩ (λj σ H4 _ ⟨_,_,_,h4,_⟩=>ak.of h4) ?_ ?_⟩
   ·rintro j x σ H4 lZ ⟨v3,rfl,s4,h4,t5,ys,hy,yX,ey⟩
    dsimp only[aU];rw[bB,bB]at lZ;obtain⟨q,hq,rfl⟩:∃q,xs[j]?=some q/\x = .ref q.2:=by
     cases z:xs[j]? with
     |none=>rw[z]at lZ;cases lZ
     |some q=>rw[z]at lZ;exact⟨q,rfl,by simpa using lZ.symm⟩
    obtain⟨hj,eq⟩:=bF.mp hq;have tL:j<(Fl.bZ i).length:=by omega
    have Gi:q.1=Fl.nI (Fl.bZ i)[j]:=by
     have h1:(xs.map (·.1))[j]?=some q.1:=by rw[bB,hq];rfl
     rw[en,bB,aq tL]at h1;exact(dC h1).symm
    obtain⟨g8,gx⟩:=zg _ (jz tL);have Ic:H4 q.2=some (.tup ((Fl.bZ i)[j].map nV)):=by
     have:=t5 q (bK hq)
     rwa [Gi,pe]at this
    refine⟨_,rfl,_,rfl,_,rfl,q.2,(Fl.bZ i)[j],1+i,?_,Ic,g8,gx,by omega,λb H5 s5 hb0 hb=>?_⟩
    ·show[V.ref q.2,V.int (1+(i:Int))] = [V.ref q.2,V.int ((1+i:Nat):Int)]
     rw[show((1+i:Nat):Int)=1+(i:Int)by omega]
    have tO:=s5 _ _ hy;have lW:=s5 _ _ h4;have yW:=cT.same t5 s5;have hyl:=fu.len (P:=P) (w:=w) (H2:=H) (d:=d) ey;have hb':H5 b=some (.tup ((Fl.nI (Fl.fw (Fl.bZ i)[j] (1+i))).map V.int)):=by rw[pe];exact hb
    have hbound:=xO (((Fl.bZ i).map λg=>Fl.fw g (1+i)).take j) (Fl.bZ i);have htl:(((Fl.bZ i).map λg=>Fl.fw g (1+i)).take j).length<=16:=by rw[vY,aD];omega
    refine⟨rfl,d,b,ys,_,rfl,rfl,tO,cT.same yX s5,hb',by omega,?_⟩;refine⟨_,rfl,ky hd0 (s4.trans s5),?_,λq hq=>?_,?_⟩
    ·rw[aA HJ];exact lW
    ·have hne:q.2≠d:=λz=>by have:=yW q hq;rw[z,tO]at this;cases this
     rw[aA hne];exact yW q hq
    ·have:=fu.put tO (cT.same yX s5) ey hb'
     rw[rg,bB,aq tL,vR];exact this
   ·rintro σ H4 ⟨v3,rfl,s4,h4,t5,hI⟩
    refine⟨_,_,rfl,s4,?_⟩;rw[GR];rw[Ei (by simp;omega)]at hI;exact hI
  ·rintro σ H2 ⟨v2,v3,rfl,s2,xs,hx,kt,en⟩
   have eF:Fl.bZ ((m:Int) - 1).toNat=Fl.found wd:=by
    unfold Fl.found;rw[<- em]
    congr 1
    omega
   rw[eF]at en;obtain⟨FP⟩:Nonempty (Fl.mZ wd (Fl.found wd)):=⟨Fl.GX hw⟩;have hlen:xs.length=(Fl.found wd).length:=fu.len (P:=P) (w:=w) (H2:=H) (d:=d) en;have Hd:(Fl.found wd).length<=16:=by rw[FP.perm.length_eq];exact(Fl.jW hw).2
   have hpr:Paired (λ(g:List Int) (t:Addr)=>H2 t=some (.tup (g.map V.int))) (xs.map (·.1)) (xs.map (·.2)):=yR kt;refine⟨_,rfl,s2 _ _ hP,d,xs,xs.map (·.2),(Fl.found wd).map (Fl.rk wd),((xs.map (·.1)).zip (xs.map (·.2))).map (λq=>[.int (q.1.length:Int),.ref q.2]),rfl,hx,rfl,by rw[aD];omega,by rw[aD,aD];omega,by rw[aD,vZ,aD,aD];omega,λH3 s3=>⟨?_,?_,?_⟩⟩
   ·refine O6 (hl:=Paired.bL hpr λ_ _ h=>s3 _ _ h) hu2 λi j a b ha hb=>?_
    rw[en,bB]at ha hb;obtain⟨g,hg,rfl⟩:=iR.mp ha;obtain⟨g',hg',rfl⟩:=iR.mp hb;rw[Fl.y_,FP.lt g (bK hg) g' (bK hg'),aO,aO,bB,bB,hg,hg'];rfl
   ·intro i y ws hy hws H4 s4
    rw[bB,bB]at hy;obtain⟨a,ha,rfl⟩:=iR.mp hy;obtain⟨q,hq,rfl⟩:=iR.mp ha;rw[bB]at hws;obtain⟨q2,hq2,rfl⟩:=iR.mp hws;obtain⟨z1,z2⟩:=q0.mp hq2;rw[bB,hq]at z1 z2;have hk:=s4 _ _ (s3 _ _ (kt q (bK hq)));refine⟨_,rfl,q.2,_,rfl,.inr (az.of hk),_,rfl,by show 2<=sizeLine;decide,λp hp=>⟨⟨p,rfl,?_⟩,Same.put hp⟩⟩;rw[av,aD,<- dC z1,<- dC z2]
   ·intro ys r H4 s4 HS h4 hS
    exact kk r H4 (s2.trans (s3.trans s4)) (Same.noneF (s2.trans s3) HS) ⟨ys,h4,Fl.Cz hw FP (yQ en (cT.same kt (s3.trans s4))) hS⟩
end
end My
namespace Fl
noncomputable def kB(f g:List Nat):Bool:=f.all λx=>g.contains x
noncomputable def cQ(w i j:Nat):Bool:=kB ((aS w).getD i []) ((aS w).getD j [])
noncomputable def mR(ms:List Nat)(i j:Nat):Bool:=Nat.beq (Nat.land (ms.getD i 0) (ms.getD j 0)) (ms.getD i 0)
noncomputable def tH(n:Nat)(R:Nat->Nat->Bool):Bool:=(List.range n).all λa=>R a a&&(List.range n).all λb=>(!(R a b&&R b a)||Nat.beq a b)&&(List.range n).any (λc=>(List.range n).all λx=>R c x==(R a x&&R b x))&&(List.range n).any (λc=>(List.range n).all λx=>R x c==(R x a&&R x b))
noncomputable def iw:Nat->List (List Nat)
 |0=>[[0]]
 |1=>[[0],[0,1]]
 |2=>[[0],[0,1],[0,2],[0,3],[0,1,2,3]]
 |_=>[[0],[0,1],[0,2],[0,3],[0,4],[0,5],[0,6],[0,7],[0,1,2,3],[0,1,4,5],[0,1,6,7],[0,2,4,6],[0,2,5,7],[0,3,4,7],[0,3,5,6],[0,1,2,3,4,5,6,7]]
noncomputable def uh:Nat->List Nat
 |0=>[1]
 |1=>[1,3]
 |2=>[1,3,5,9,15]
 |_=>[1,3,5,9,17,33,65,129,15,51,195,85,165,153,105,255]
theorem tq:∀w,w<4->aS w=iw w:=by decide +kernel
theorem Oa:∀w,w<4->∀i,i<(iw w).length->∀j,j<(iw w).length->kB ((iw w).getD i []) ((iw w).getD j [])=mR (uh w) i j:=by decide +kernel
theorem G_:∀w,w<4->tH (iw w).length (mR (uh w))=true:=by decide +kernel
theorem G9{n:Nat}{R:Nat->Nat->Bool}(h:tH n R=true):(∀a,a<n->R a a=true)/\(∀a b,a<n->b<n->R a b=true->R b a=true->a=b)/\(∀a b,a<n->b<n->∃c,c<n/\∀x,x<n->R c x=(R a x&&R b x))/\∀a b,a<n->b<n->∃c,c<n/\∀x,x<n->R x c=(R x a&&R x b):=by
 unfold tH at h;simp only[cn,List.any_eq_true,iP,ck,gX,eN,Nat.beq_eq,Bool.not_eq_true']at h;refine⟨λa ha=>(h a ha).1,λa b ha hb h1 h2=>?_,λa b ha hb=>((h a ha).2 b hb).1.2,λa b ha hb=>((h a ha).2 b hb).2⟩
 rcases((h a ha).2 b hb).1.1 with z|z
 ·rw[h1,h2]at z
  cases z
 ·exact z
theorem tD{w:Nat}(hw:w<4){f:List Nat}(hf:f∈aS w):f.length<=8/\∀x∈f,x<8:=by
 have h:∀w,w<4->((iw w).all λf=>decide (f.length<=8)&&f.all λx=>decide (x<8))=true:=by decide +kernel
 have h:=h w hw;rw[tq w hw]at hf;simp only[cn,ck,c5]at h;exact h f hf
end Fl
namespace L2
open PySem PySem.Spec PyProof.Rows
abbrev sH (P:Program) (w:World) (K:W.Frag) (mg:Str->Option Value) (base:Heap) (ps:List Str) (qual:Str) (scope:Scope) (p:Addr) (cd:Value) (A:Around) (outer:List Env) (s:Shared) (H:Hp):Cx:=
 (iu aJ P w K mg base ps qual scope p cd A outer s H E0).ji
section
variable {P:Program} {w:World} {K:W.Frag} {mg:Str->Option Value} {base:Heap} {A:Around} {outer:List Env} {s:Shared} {H:Hp} {p c:Addr} {qual:Str} {params:Arguments} {body:Expr} {scope:Scope}
 {ps:List Str} {vs:List V} {us:List Value} {pm ctv:Value} {Q:VK} {t:TE}
theorem Js (S:aY ps ps scope) (hr:A.depth<recursionLimit) (hd:A.handled=none) (e0:eD P w K mg base A outer s H) (ho:s.heap.get? p=some (W.kla_obj "<lambda>" qual params body scope [] pm c ctv)) (hcd:s.heap.CodeRec (.ref c) qual)
  (hb:bindArgs (W.kla_fn "<lambda>" qual params body scope [] pm (.ref c) ctv) ⟨us,[]⟩=pure (ps.zip us)) (hl:vs.length=ps.length) (r:Vals vs us)
  (hbody:PE (sH P w K mg base ps qual scope p (.ref c) A outer s H) body t) (hq:t (vs.map some) H Q) :
  codeAny (model P w) A (.call (.ref p) ⟨us,[]⟩) (λr s'=>∃u,r = .ok (.ret u)/\CE outer P w H s Q u s') s:=by
 have lim:s.heap.NoLimit:=e0.mod.nolimit.keeps λb o e=>(e0.bs b o e).1;have hkind:∀y∈ps.zip us,scope.names.lookup y.1=some .local\/(scope.names.lookup y.1=some .cell/\((cellsFrom (s.heap.objs.size+1) scope.names []).lookup y.1).isSome=true):=λ⟨n,v⟩ hy=>by
  rcases S.par n (nr hy).1 with q|q
  ·exact .inl q
  ·exact .inr ⟨q,W.cellsFrom_some _ _ _ (.inl q)⟩
 refine W.kla_callFunE hr ho rfl S.co S.gen rfl hcd ?_;rw[hb];refine ah (wpAny_newFunctionEnv_cells S.kind hkind λenv he s1 x=>?_);subst he;refine⟨lim.keeps x.toInCall.keep,?_⟩;have I:Inv (sH P w K mg base ps qual scope p (.ref c) A outer s H) [] (start ps vs) H s1:=(yH (CX:=aJ) S hd e0 hl r x).wish _;have es:start ps vs=vs.map some:=by
  unfold start;rw[hl,Nat.sub_self];simp
 rw[es]at I;refine W.kla_codeExpr (dZ (hbody [] _ _ H Q I hq) (λv s' ⟨x,H',J,rv,q⟩=>?_) λ_ _ z=>False.elim z);exact⟨v,rfl,x,H',J.os,J.bare,J.base,J.hok,rv,q⟩
end
structure DT (X:Cx) (qual:Str) (ps:List Str) (params:Arguments) (body:Expr) (scope:Scope) (k:Nat) (tb:TE):Prop where
 sc:aY ps ps scope
 cl:bx X.env.cells scope.names [] = []
 bind:∀(pm cd ctv:Value) (us:List Value),us.length=ps.length->bindArgs (W.kla_fn "<lambda>" qual params body scope [] pm cd ctv) ⟨us,[]⟩=pure (ps.zip us)
 run:∀(base:Heap) (A:Around) (outer:List Env) (s:Shared) (H:Hp) (p c:Addr),aV k A->PE (sH X.prog X.w X.K X.mg base ps qual scope p (.ref c) A outer s H) body tb
noncomputable def Og(jo:Addr->Sp->Sp)(qual:Str)(params:Arguments)(body:Expr)(scope:Scope)(tb:TE)(t:TA):TE:=λσ H Q=>t σ H λvs H1=>∃p,cW H1 p qual params body scope [] /\
 jo p (λws H' Q' _=>cW H' p qual params body scope []/\tb (ws.map some) H' Q') vs H1 Q E0
section
variable {X:Cx} {x qual:Str} {k k' kl m:Nat} {jo:Addr->Sp->Sp} {ps qs:List Str} {params:Arguments} {body:Expr} {scope:Scope} {tb:TE} {p0 pos:Pos}
theorem Lp {e:Expr} {t1:TE} {cc Pt:Addr} {cK:Pos} (c:qO X.prog X.w X.K X.mg x ps k kl m jo) (T:TabAt X.base X.mg cc Pt) (hcode:X.env.code = .ref cc) (hr:aV k' X.A) (hg:Gl X x) (B:DT X (X.env.qual ++ "<lambda>") qs params body scope kl tb) (hx:Passes aJ X E0) (hm:qs.length=m) (h1:PE X e t1) (hk:k<=k':=by decide)
  (hdb:(x==("__debug__" : Str))=false:=by decide) (hdef:defaultsOf params X.env=([],[]):=by rfl) (he:starEach [e,.Lambda params body scope cK] X.env = [(false,eval e X.env),(false,eval (.Lambda params body scope cK) X.env)]:=by rfl) :
  PE X (.Call (.Name x p0) [e,.Lambda params body scope cK] [] pos) (Og jo (X.env.qual ++ "<lambda>") params body scope tb (dr t1 (dr (qy Pt cK (X.env.qual ++ "<lambda>") params body scope []) fq))):=by
 have he2:starEach [Expr.Lambda params body scope cK] X.env = [(false,eval (.Lambda params body scope cK) X.env)]:=rfl;have yg:PE X (.Lambda params body scope cK) (qy Pt cK (X.env.qual ++ "<lambda>") params body scope (bx X.env.cells scope.names [])):=Al T hcode (λok y hy hk=>absurd hk (B.sc.zJ y hy)) hdef;rw[B.cl]at yg;have ha:PA X [e,.Lambda params body scope cK] (dr t1 (dr (qy Pt cK (X.env.qual ++ "<lambda>") params body scope []) fq)):=ag h1 (ag yg ai he2) he;obtain⟨f,fd,F,hmg,kp,b⟩:=c.ex;intro pins s σ H Q I h;refine jJ (o5 I hg hmg ?_ hdb);refine W.callWith_K (h₀:=X.base) I.ok.mod.j9 kp (ao (ha pos pins s σ H _ I h) λus s1 ⟨vs,H1,I1,r,p,L,q⟩=>⟨I1.bI,?_⟩) (by rw[he,he2]) (by rw[he2];rfl);have LO:nh X.prog X.w X.K X.mg X.base kl p m (λws H' Q' _=>cW H' p (X.env.qual ++ "<lambda>") params body scope []/\tb (ws.map some) H' Q'):=by
  refine⟨λA outer s2 H2 us vs Q' tM e2 r hl ⟨L2,hq⟩=>?_⟩;obtain⟨c,pm,ctv,ho,hcd⟩:=L2.get e2.hok;exact Js B.sc tM.depth tM.hd e2 ho hcd (B.bind _ _ _ _ (by rw[<- r.length,hl,hm])) (hl.trans hm.symm) r (B.run X.base A outer s2 H2 p c tM) hq
 have FF:=F X.base p _ LO;have hl:us.length=ps.length:=by rw[<- r.length];exact FF.len _ _ _ _ q
 have hb:=b s1 us I1.bI (by rw[kT];exact hl);rw[kT]at hb;refine la (eL (FF.run X.A X.stack s1 H1 ⟨us,[]⟩ us vs Q E0 (hr.mono hk) I1.env0 hb r q) λr s' hq=>?_);cases r with
 |error e=>exact hx pins σ H1 s1 e s' I1 hq
 |ok fl =>
  cases fl with
  |ret u=>exact I1.after hq
  |next=>exact False.elim hq
  |brk=>exact False.elim hq
  |cont=>exact False.elim hq
end
end L2
namespace My
open PySem PySem.Spec PyProof.Rows L2
theorem Ha{wd:Nat}(hw:wd<4):Good (Fl.aS wd).length (Fl.cQ wd):=by
 obtain⟨h1,h2,h3,h4⟩:=Fl.G9 (Fl.G_ wd hw);have G:Good (Fl.iw wd).length (Fl.mR (Fl.uh wd)):=⟨h1,h2,h3,h4⟩;rw[Fl.tq wd hw];exact G.congr λa b ha hb=>by
  unfold Fl.cQ;rw[Fl.tq wd hw];exact Fl.Oa wd hw a ha b hb
theorem pG{α β:Type}{R:α->β->Prop}{b:β}:∀{l:List α} {m:List β} {i:Nat},Paired R l m->m[i]?=some b->∃a,l[i]?=some a/\R a b
 |_,_,0,.cons h _,e=>by cases e;exact⟨_,rfl,h⟩
 |_,_,i+1,.cons _ r,e=>by
  obtain⟨b,h1,h2⟩:=pG (i:=i) r (by simpa using e);exact⟨b,by simpa using h1,h2⟩
theorem oP:∀g:List Nat,(g.map nV).all gj=true
 | []=>rfl
 |_::g=>by rw[bJ,vO,oP g];rfl
theorem yz(m:Nat):∀F:List Nat,inV (nV m) (F.map nV)=decide (m∈F)
 | []=>by simp[inV]
 |x::r=>by
  have ih:=yz m r;unfold inV at ih ⊢;rw[bJ,kR,ih];have e:gi (nV x) (nV m)=decide (x=m):=by
   show((x:Int)==(m:Int))=decide (x=m);rw[dR];simp;omega
  rw[e];rw[dR];simp only[gX,c5,a9]
  constructor
  ·rintro(h|h)
   ·exact .inl h.symm
   ·exact .inr h
  ·rintro(h|h)
   ·exact .inl h.symm
   ·exact .inr h
theorem tR(x:Nat)(g:List Nat):inV (nV x) (g.map nV)=g.contains x:=by
 rw[yz,dR,c5];simp
theorem all_range(g:List Nat)(p:Nat->Bool):((List.range g.length).map λk=>p (g.getD k 0)).all id=g.all p:=by
 have e:(List.range g.length).map (λk=>p (g.getD k 0))=g.map p:=by
  refine hJ (by simp) λi h1 h2=>?_;have hi:i<g.length:=by simpa using h1
  rw[nq,vU,nq,aO,aq hi];rfl
 rw[e,List.all_map];rfl
section
variable {P:Program} {w:World} {K:W.Frag} {mg:Str->Option Value} {base:Heap} {f:Addr} {fd:FuncData}
abbrev mN:Stmt:=top 32
theorem Cm:aY ["width"] ["width"] (aE mN):=⟨rfl,rfl,rfl,by decide +kernel,rfl,by decide +kernel,by decide +kernel⟩
abbrev qu:Pos:=⟨136,38,136,91⟩
abbrev qv:Str:=("sums_order" : Str) ++ ".<locals>." ++ "<lambda>"
abbrev N_:Scope:=match eQ mN with
 | [.Return (some (.Call _ [_,.Lambda _ _ sc _] _ _)) _]=>sc
 |_=>aE mN
noncomputable def vf(C Pt Ps:Addr):Sp:=λvs H Q _=>∃wd:Nat,vs = [.int (wd:Int)]/\wd<4/\H Pt=some (.lam lP lQ)/\H Ps=some (.lam qu qv)/\∀z H',Same H H'->k6 C H' z (Fl.aS wd).length (Fl.cQ wd)->Q (.ref z) H'
theorem KH {C c Pt Ps:Addr} (F:aN K "sums_order" "sums_order" mN f fd) (hc:fd.code = .ref c) (tb:TabAt base mg c Ps) (T:Txt mg) (TC:mY K C) (iV:ax P w K mg base "fields_of" ["width"] 3 (qe Pt)) (sD:qO P w K mg "order_by" ["things","is_at_most"] 7 1 2 (ve K C)):aI P w K mg base aJ 8 f fd ["width"] (vf C Pt Ps):=by
 refine F.zO hc Cm (λvs H Q E h=>?_) (λA outer s H vs Q E hr h=>?_)
 ·obtain⟨wd,rfl,_⟩:=h
  rfl
 ·obtain⟨wd,rfl,hw,jZ,hP,kk⟩:=h
  have nd:=Cm.nd;refine⟨_,(aC (a8 (Lp (qs:=["one","other"]) sD tb rfl hr rfl ⟨⟨rfl,rfl,rfl,by decide +kernel,rfl,by decide +kernel,by decide +kernel⟩,rfl,λ_ _ _ us hl=>match us,hl with | [_,_],_=>rfl,λ_ _ _ _ _ _ _ HW=>(bu (Fq (K:=K) rfl rfl) rfl T.all boot_all (ag (c9 (own:=["row"]) (fr:=[("other", 1)]) rfl (cJ N_ ["one","other"] rfl rfl (by decide +kernel)) (jk (K:=K) rfl (pv 0)) (λ_ _ _ _=>⟨(bh (i:=0) (by decide +kernel:(["row","other"]:List Str).Nodup) rfl (Or.inl rfl)),d_,(jj (K0 (K:=K) rfl) (pv 0) (pv 1) (by with_unfolding_all rfl))⟩)) ai))⟩ uA rfl (aW iV hr rfl (ag (pv 0) ai))))),?_⟩;refine⟨_,rfl,wd,rfl,hw,jZ,λlb H1 s1 Qc ⟨us,hlb,j6⟩=>?_⟩;refine⟨s1 _ _ hP,λq H2 s2 hq tK=>?_⟩;have pR:=s1.trans s2;have gB:us.length=(Fl.aS wd).length:=(bS j6).symm;obtain⟨l1,l2⟩:=Fl.jW hw;refine⟨q,tK,lb,us,Fl.cQ wd,rfl,ak.of (s2 _ _ hlb),by omega,by omega,⟨_,_,_,_,_,tK⟩,by rw[gB];exact Ha hw,λi j x y H' Q' hx hy s' hQ=>⟨tK.same s',?_⟩,λz H' s' xZ=>kk z H' (pR.trans s') (by rw[gB]at xZ;exact xZ)⟩;obtain⟨g1,hg1,t1,rfl,h1⟩:=pG j6 hx;obtain⟨g2,hg2,t2,rfl,h2⟩:=pG j6 hy;have h1':=s' _ _ (s2 _ _ h1);have h2':=s' _ _ (s2 _ _ h2);obtain⟨a1,a2⟩:=Fl.tD hw (bK hg1);refine⟨_,rfl,t1,rfl,⟨_,az.of h1'⟩,λD hD=>iq (λk=>.bl (g2.contains (g1.getD k 0))) (mQ (az.of h1')) hD (cR (by rw[aD];omega)) (λk H3 Kt hk hs hkt=>?_) (λH3 hs hl=>?_)⟩
  ·rw[aD]at hk
   have ek:(g1.map nV).getD k .non=nV (g1.getD k 0):=by rw[aO,uk hk];rfl
   refine⟨_,rfl,_,rfl,t2,_,rfl,.inr (az.of (hs _ _ h2')),by rw[ek];rfl,oP _,?_⟩;rw[ek];show Kt (.bl (inV (nV (g1.getD k 0)) (g2.map nV))) H3;rw[tR];exact hkt _ (Same.refl _)
  ·refine⟨D,(List.range (g1.map nV).length).map λk=>g2.contains (g1.getD k 0),rfl,ak.of (by rw[dB];exact hl),?_⟩
   have e:(((List.range (g1.map nV).length).map λk=>g2.contains (g1.getD k 0)).all id)=Fl.cQ wd i j:=by
    unfold Fl.cQ Fl.kB;rw[aO,hg1,aO,hg2,aD,all_range g1 λx=>g2.contains x];rfl
   rw[e];exact hQ _ hs
end
end My
namespace L2
open PySem PySem.Spec PyProof.Rows
noncomputable def kP(n:Nat):It:=⟨λi _=>i<n,λi H x H'=>H'=H/\x = .int (1+2*(i:Int)),λi _=>n<=i⟩
theorem Pa{P:Program}{w:World}{K:PySem.W.Frag}{tg:Expr}(it:Addr)(n:Nat):Turn P w K tg (kP n) [it] it (λi h=>IsRangeIter h it (1+(i:Nat)*2) ((n:Int) - (i:Nat)) 2) where
 mem:=by simp
 obj:=λi h st b hb=>by
  have e:b=it:=by simpa using hb
  subst e;exact⟨_,st,λv z=>by
   have z':Data.fields _=Data.cell v:=z;cases z'⟩
 keep:=λi h h' st k=>k it (by simp) _ st
 item:=by
  intro X hP hw hK hc i pins s σ H E I hf st hg;subst hP hw hK;obtain⟨f0,f1,f2,f3,f4,f5⟩:=hf it (by simp);have W:=Walks.range (prog:=X.prog) (w:=X.w) (I.ok.hd hc) it 1 2 n;refine W.item i s _ _ hg st λv h' tk hv st' kk=>?_;obtain⟨t,rfl⟩:=hv;have I1:Inv X pins σ H {s with heap:=h',toks:=tk}:=I.turned (λb o hb e=>kk b o (by simpa using hb) e) f0 f1 f3 f4 f5;refine⟨_,rfl,oS (s:={s with heap:=h',toks:=tk}) (n:= "range_iterator") st' rfl rfl (by decide) ⟨.int (1+2*(i:Int)),H,I1,⟨t,?_⟩,⟨rfl,rfl⟩,st',λb hb=>(hf b hb).1⟩⟩
  congr 1
  omega
 done:=by
  intro X hP hw hK hc i pins s σ H E I hf st hg;subst hP hw hK;obtain⟨f0,f1,f2,f3,f4,f5⟩:=hf it (by simp);exact wpAny_pyNext_range_end (I.ok.hd hc) st (by have:n<=i:=hg;omega) λh' eb=>⟨rfl,I.turned (t':=s.toks) (λb o hb e=>eb b o hb e) f0 f1 f3 f4 f5⟩
 self:=λ_ _ _ _ _ st h=>wpAny_pyIter_rangeiter st h
section
variable {X:Cx} {tg:Expr}
theorem Cu{hi:Int}(h0:0<=hi):Builtin.Range.rangeSize 1 hi 2=((hi / 2).toNat:Int):=by
 unfold Builtin.Range.rangeSize;simp only[show(2:Int) > 0 by decide,jc]
 split<;>omega
theorem NX{hi:Int}(h0:0<=hi)(h1:hi<=1000):Builtin.Range.small 1 hi 2=true:=by
 unfold Builtin.Range.small;rw[Cu h0];simp only[Builtin.Range.rangeFitsLong,ck,gX,decide_eq_true_eq,eN,show(2:Int) > 0 by decide,jc];omega
noncomputable def Io(ta:TA):TI:=λσ H R=>ta σ H λvs H1=>∃j:Int,vs = [.int 1,.int j,.int 2]/\0<=j/\j<=1000/\R (kP (j / 2).toNat) H1
theorem L1 {a b c:Expr} {ta:TA} {p pos:Pos} (hg:Gl X "range") (hm:X.mg "range" = none) (ha:PA X [a,b,c] ta) (hs:starEach [a,b,c] X.env = [(false,eval a X.env),(false,eval b X.env),(false,eval c X.env)]:=by rfl) (hs2:starEach [b,c] X.env = [(false,eval b X.env),(false,eval c X.env)]:=by rfl) :
  PI X tg (.Call (.Name "range" p) [a,b,c] [] pos) (Io ta):=by
 intro pins s σ H R I h;refine Call_ (gD I hg hm boot_range (k8 (ao (ha pos pins s σ H _ I h) λus s1 ⟨vs,H1,I1,r1,q1⟩=>?_) (by rw[hs,hs2]) (by rw[hs2];rfl)));obtain⟨j,e,q1,q2,q⟩:=q1;subst e;cases r1 with
 |cons r rr =>
  cases rr with
  |cons r' rr =>
   cases rr with
   |cons r'' rr =>
    cases rr;obtain⟨t,rfl⟩:=r;obtain⟨t',rfl⟩:=r';obtain⟨t'',rfl⟩:=r'';refine call_range_3 (by decide) ?_;refine wpAny_pyIter_range (IsRange.new ..) (NX q1 q2) ?_;generalize hh:s1.heap.push {cls:=.type "range", data:=.fields #[.int 1 t,.int j t',.int 2 t'']}=hp;have I2:Inv X pins σ H1 {s1 with heap:=hp,toks:=s1.toks}:=by rw[<- hh];exact I1.kept λb o e=>au _ e
    refine⟨hp.objs.size,[hp.objs.size],_,_,H1,rfl,I2.kept (t':=s1.toks) λb o e=>au _ e,Pa _ (j / 2).toNat,?_,λb hb=>?_,q⟩
    ·have e1:(1:Int)+((0:Nat):Int)*2=1:=by simp
     show IsRangeIter _ _ (1+((0:Nat):Int)*2) ((((j / 2).toNat:Nat):Int) - ((0:Nat):Int)) 2;rw[e1,<- Cu q1];simp only[Int.natCast_zero,Int.sub_zero];exact aQ _ rfl
    ·have e:b=hp.objs.size:=by simpa using hb
     subst e;exact I2.i_ (aB _) (I2.hok.fresh (aB _))
end
theorem GP{n:Nat}{g:TG}{tb:TS}{D:Ends}{σ:St}{H:Hp}(Pv:Nat->St->Hp->Prop)(h0:Pv 0 σ H)
  (hs:∀i σ H,i<n->Pv i σ H->g (.int (1+2*(i:Int))) σ H λσ2 H2=>tb {D with nx:=Pv (i+1),ct:=Pv (i+1),bk:=D.nx} σ2 H2) (hd:∀σ H,Pv n σ H->D.nx σ H) :
  ∃W:Nat->Nat->St->Hp->Prop,(∃m,W 0 m σ H)/\∀i m σ H,W i m σ H ->
   ((kP n).stop i H/\D.nx σ H)\/((kP n).go i H/\∃N:St->Hp->Prop,(∀σ' H',N σ' H'->∃m',m'<m/\W (i+1) m' σ' H')/\∀x H',(kP n).gW i H x H'->g x σ H' λσ2 H2=>tb {D with nx:=N,ct:=N,bk:=D.nx} σ2 H2):=by
 refine⟨λi m σ H=>m=n - i/\i<=n/\Pv i σ H,⟨n,by simp,bE _,h0⟩,?_⟩;rintro i m σ H ⟨rfl,hi,p⟩
 by_cases hlt:i<n
 ·refine .inr ⟨hlt,Pv (i+1),λσ' H' p'=>⟨n - (i+1),by omega,rfl,hlt,p'⟩,λx H' y=>?_⟩
  obtain⟨rfl,rfl⟩:=y;exact hs i σ _ hlt p
 ·have e:i=n:=by omega
  subst e;exact .inl ⟨aB _,hd σ H p⟩
end L2
namespace My
open PySem PySem.Spec PyProof.Rows L2
section
variable {P:Program} {w:World} {K:W.Frag} {mg:Str->Option Value} {base:Heap} {f:Addr} {fd:FuncData}
abbrev uT:Stmt:=top 38
theorem BV:aY ["_law_rows","_law_one","_law_other"] ["_law_rows"] (aE uT):=⟨rfl,rfl,rfl,by decide +kernel,rfl,by decide +kernel,by decide +kernel⟩
noncomputable def va:Sp:=λvs H Q _=>∃(t:Addr) (g:List Nat),vs = [.ref t]/\H t=some (.tup (g.map nV))/\g.length<=8/\(∀x∈g,x<8)/\∀H',Same H H'->Q (.bl (Fl.isF g)) H'
theorem Kx (F:aN K "_law_is_field" "_law_is_field" uT f fd) (T:Txt mg):aI P w K mg base aJ 1 f fd ["_law_rows"] va:=by
 refine F.ok BV (λvs H Q E h=>?_) (λcdv A outer s H vs Q E hr h=>?_)
 ·obtain⟨t,g,rfl,_⟩:=h
  rfl
 ·obtain⟨t,g,rfl,ht,hl,h8,kk⟩:=h
  have nd:=BV.nd;refine⟨_,(aH (cD cz rfl (jk (K:=K) rfl (pv 0)) (bh (i:=1) nd rfl (Or.inl rfl))
   (aC (cD cz rfl (jk (K:=K) rfl (pv 0)) (bh (i:=2) nd rfl (Or.inl rfl))
   (aC (cj (dO (Ad (K:=K) rfl) (bD Ae (pv 1) (pv 2)) (pv 0) (by with_unfolding_all rfl)) (aC (a8 d8)) cx)))))
   (aC (a8 d8))),?_⟩
  have xU:∀{i:Nat} {x:V},(g.map nV)[i]?=some x->∃y,g[i]?=some y/\y<8/\x=nV y:=λ{i x} h=>by
   rw[bB]at h;obtain⟨y,hy,rfl⟩:=iR.mp h;exact⟨y,hy,h8 y (bK hy),rfl⟩
  refine⟨_,rfl,t,rfl,⟨_,az.of ht⟩,xQ (K:=K) (a:=t) (xs:=g.map nV) (λi σ H2=>∃(v1 v2:Option V),σ = [some (.ref t),v1,v2]/\Same H H2/\∀x∈g.take i,(g.all λy=>g.contains (x ^^^ y))=true) ⟨none,none,rfl,Same.refl _,by simp⟩ (λi σ H2 _ ⟨_,_,_,s2,_⟩=>az.of (s2 _ _ ht)) ?_ ?_⟩
  ·rintro i x σ H2 hx ⟨v1,v2,rfl,s2,hall⟩
   obtain⟨a,ha,Hv,rfl⟩:=xU hx;dsimp only[aU];refine⟨_,rfl,t,rfl,⟨_,az.of (s2 _ _ ht)⟩,xQ (K:=K) (a:=t) (xs:=g.map nV) (λj σ H3=>∃(v2:Option V),σ = [some (.ref t),some (nV a),v2]/\Same H H3/\∀y∈g.take j,g.contains (a ^^^ y)=true) ⟨v2,rfl,s2,by simp⟩ (λi σ H2 _ ⟨_,_,s2,_⟩=>az.of (s2 _ _ ht)) ?_ ?_⟩
   ·rintro j y σ H3 hy ⟨v2,rfl,s3,hin⟩
    obtain⟨b,hb,hb8,rfl⟩:=xU hy;dsimp only[aU];refine⟨_,rfl,_,rfl,_,_,rfl,rfl,?_⟩;dsimp only;rw[Dw Hv hb8];refine⟨_,rfl,t,_,rfl,.inr (az.of (s3 _ _ ht)),rfl,oP _,_,rfl,?_⟩;rw[if_pos rfl,show V.int ((a ^^^ b:Nat):Int)=nV (a ^^^ b)from rfl,tR];cases e:g.contains (a ^^^ b)with
    |true =>
     refine⟨_,rfl,s3,λz hz=>?_⟩;rw[rg,hb]at hz
     rcases hV.mp hz with h|h
     ·exact hin z h
     ·rw[eV.mp h];exact e
    |false =>
     have ef:Fl.isF g=false:=by
      rw[<- Bool.not_eq_true];intro h;unfold Fl.isF at h;rw[cn]at h;have h1:=h a (bK ha);rw[cn]at h1;have h2:=h1 b (bK hb);rw[e]at h2;cases h2
     have:=kk H3 s3;rw[ef]at this;exact this
   ·rintro σ H3 ⟨v2,rfl,s3,hin⟩
    refine⟨_,_,rfl,s3,λz hz=>?_⟩;rw[rg,ha]at hz
    rcases hV.mp hz with h|h
    ·exact hall z h
    ·rw[eV.mp h,cn]
     rw[aD,wa]at hin;exact hin
  ·rintro σ H2 ⟨v1,v2,rfl,s2,hall⟩
   have et:Fl.isF g=true:=by
    unfold Fl.isF;rw[cn];rw[aD,wa]at hall;exact hall
   have:=kk H2 s2;rw[et]at this;exact this
end
end My
namespace L2
open PySem PySem.Spec PyProof.Rows
theorem N5{K:W.Frag}{a:Addr}{us:List V}{xs ys:Nat->V}{ρ:St}{H1:Hp}(h:ak K H1 a us)(hp:∀i,i<us.length->∃t,us[i]?=some (.ref t)/\H1 t=some (.tup [xs i,ys i])):eM (g6 K a) (jX K 2 (gu (aU 0) (gu (aU 1) lT))) (none::none::ρ) H1 us.length (λi=>some (xs i)::some (ys i)::ρ) where
 go:=λi H hi hs=>⟨us,us[i],hs.seq h,aq hi⟩
 stop:=λH hs=>⟨us,hs.seq h,aB _⟩
 step:=λi H x H' Kk hi hs hy hk=>by
  obtain⟨rfl,hx⟩:=hy;have e:=hx us (hs.seq h);obtain⟨t,e1,e2⟩:=hp i hi;rw[e1]at e;cases e;refine⟨t,[xs i,ys i],rfl,.inl (.inl (hs _ _ e2)),rfl,xs i,[ys i],rfl,ys i,[],rfl,rfl,?_⟩;exact⟨Wk.set (Wk.set (Wk.refl _) rfl) rfl,hk _ (Same.refl _)⟩
end L2
namespace My
open PySem PySem.Spec PyProof.Rows L2
noncomputable def j_(wd i:Nat):List (List Nat):=((List.range i).map λk=>Fl.rowsOf wd (1+2*k)).filter Fl.isF
theorem Ju(wd i:Nat):j_ wd (i+1)=j_ wd i++if Fl.isF (Fl.rowsOf wd (1+2*i))then[Fl.rowsOf wd (1+2*i)]else[]:=by
 unfold j_;rw[iQ,fz,qW]
 congr 1
 show List.filter Fl.isF [Fl.rowsOf wd (1+2*i)]=_;rw[List.filter_cons];rfl
theorem Fe(b j:Nat):decide (V.int (Builtin.bitAnd ((b:Int) / 2 ^ (0+(j:Int)).toNat) 1)=V.int 1)=decide (b / 2 ^ j % 2=1):=by
 have e:(b:Int) / 2 ^ (0+(j:Int)).toNat=((b / 2 ^ j:Nat):Int):=by
  rw[g0,bQ]
  push_cast
  rfl
 have e2:Builtin.bitAnd (((b / 2 ^ j:Nat)):Int) 1=((b / 2 ^ j&&& 1:Nat):Int):=rX _ 1;rw[e,e2,Nat.and_one_is_mod,dR,c5,c5];exact⟨λh=>by have:=V.int.inj h;omega,λh=>by rw[h];rfl⟩
noncomputable def ig(H:Hp)(g:List Nat)(r:Addr):Prop:=∃t,H r=some (.tup [.int (g.length:Int),.ref t])/\H t=some (.tup (g.map nV))
theorem ig.same{H H':Hp}{g:List Nat}{r:Addr}(h:ig H g r)(s:Same H H'):ig H' g r:=let⟨t,h1,h2⟩:=h;⟨t,s _ _ h1,s _ _ h2⟩
theorem uz{α β:Type}{R:α->β->Prop}{a:α}{b:β}:∀{l:List α} {m:List β},Paired R l m->R a b->Paired R (l++[a]) (m++[b])
 |_,_,.nil,h=>.cons h .nil
 |_,_,.cons h t,r=>.cons h (uz t r)
theorem Bg{H:Hp}:∀{fs:List (List Nat)} {rs:List Addr},Paired (ig H) fs rs->∃ts:List Addr,ts.length=rs.length/\Paired (λ(q:List Int × Addr) r=>H r=some (.tup [.int (q.1.length:Int),.ref q.2])/\H q.2=some (.tup (q.1.map V.int))) ((fs.map Fl.nI).zip ts) rs
 |_,_,.nil=>⟨[],rfl,.nil⟩
 |g::_,_::_,.cons ⟨t,h1,h2⟩ r=>by
  obtain⟨ts,e,hp⟩:=Bg r;refine⟨t::ts,by rw[dc,dc,e],?_⟩;rw[bJ,jC];exact .cons ⟨by rw[Fl.uj];exact h1,by rw[pe];exact h2⟩ hp
theorem Bi{H:Hp}:∀{fs:List (List Nat)} {rs:List Addr},Paired (ig H) fs rs->Paired (λ(g:List Nat) (u:V)=>∃r,u = .ref r/\ig H g r) fs (rs.map V.ref)
 |_,_,.nil=>.nil
 |_,_,.cons h r=>.cons ⟨_,rfl,h⟩ (Bi r)
theorem Bh{H:Hp}:∀{fs:List (List Nat)} {ys:List V},Paired (λ(g:List Nat) (u:V)=>∃r,u = .ref r/\ig H g r) fs ys->∃tt:List Addr,tt.length=ys.length/\Paired (λ(g:List Nat) (t:Addr)=>H t=some (.tup (g.map nV))) fs tt/\∀i,i<ys.length->∃r,ys[i]?=some (.ref r)/\H r=some (.tup [.int ((fs.getD i []).length:Int),.ref (tt.getD i 0)])
 |_,_,.nil=>⟨[],rfl,.nil,λi h=>absurd h (Nat.not_lt_zero i)⟩
 |g::fs,_::ys,.cons ⟨r,rfl,t,h1,h2⟩ p=>by
  obtain⟨tt,e,q1,q2⟩:=Bh p;refine⟨t::tt,by rw[dc,dc,e],.cons h2 q1,λi hi=>?_⟩;cases i with
  |zero=>exact⟨r,rfl,h1⟩
  |succ i =>
   obtain⟨r',z1,z2⟩:=q2 i (Nat.lt_of_succ_lt_succ hi);exact⟨r',by simpa using z1,by simpa using z2⟩
theorem Dk{H:Hp}:∀{fs:List (List Nat)} {tt:List Addr},Paired (λ(g:List Nat) (t:Addr)=>H t=some (.tup (g.map nV))) fs tt->Paired (λ(g:List Nat) (u:V)=>∃t,u = .ref t/\H t=some (.tup (g.map nV))) fs (tt.map V.ref)
 |_,_,.nil=>.nil
 |_,_,.cons h r=>.cons ⟨_,rfl,h⟩ (Dk r)
theorem M7(tt:List Addr):(List.range tt.length).map (λk=>V.ref (tt.getD k 0))=tt.map V.ref:=by
 refine hJ (by simp) λi h1 h2=>?_;have hi:i<tt.length:=by simpa using h1
 rw[nq,vU,nq,aO,aq hi];rfl
section
variable {P:Program} {w:World} {K:W.Frag} {mg:Str->Option Value} {base:Heap} {f:Addr} {fd:FuncData}
abbrev kx:Stmt:=top 39
theorem BR:aY ["_law_width","_law_found","_law_bits","_law_rows"] ["_law_width"] (aE kx):=⟨rfl,rfl,rfl,by decide +kernel,rfl,by decide +kernel,by decide +kernel⟩
noncomputable def vb:Sp:=λvs H Q _=>∃wd:Nat,vs = [.int (wd:Int)]/\wd<4/\∀l H',Same H H'->H l=none->gZ H' l wd->Q (.ref l) H'
theorem Kz (F:aN K "_law_fields" "_law_fields" kx f fd) (T:Txt mg) (sy:ax P w K mg base "_law_is_field" ["_law_rows"] 1 va):aI P w K mg base aJ 2 f fd ["_law_width"] vb:=by
 refine F.ok BR (λvs H Q E h=>?_) (λcdv A outer s H vs Q E hr h=>?_)
 ·obtain⟨wd,rfl,_⟩:=h
  rfl
 ·obtain⟨wd,rfl,hw,kk⟩:=h
  have nd:=BR.nd;have hr0:=hr.mono (bE _);have hu:=hr.units;have hu2:(A.deeper (envOfC "_law_fields" (aE kx) s.heap.objs.size f cdv)).units+2<cLine:=by omega
  refine⟨_,(aH (bV (i:=1) nd rfl (Or.inl rfl) (iD ai))
   (aH (cD cz rfl (L1 rfl T.range (ag aL (ag (bD uw aL (bD uw aL (pv 0))) (ag aL ai (gP nofun)) (gP nofun)) (gP nofun))) (bh (i:=2) nd rfl (Or.inr rfl))
   (aH (bV (i:=3) nd rfl (Or.inl rfl) (d9 (fH (K:=K) rfl) rfl T.tuple d6 (ag (c9 (own:=["_law_row"]) (fr:=[("_law_bits", 2)]) rfl (cJ (aE kx) ["_law_width","_law_found","_law_bits","_law_rows"] rfl rfl (by decide +kernel)) (dM rfl T.range (ag (bD uw aL (pv 0)) ai)) (λ_ _ _ _=>⟨(bh (i:=0) (by decide +kernel:(["_law_row","_law_bits"]:List Str).Nodup) rfl (Or.inl rfl)),(pM (dO kj (bD KS (bD K8 (pv 1) (pv 0)) aL) aL (cL _))),(pv 0)⟩)) ai)))
   (aC (cj (cN (aW sy hr rfl (ag (pv 3) ai))) (aC (dN (iC (K:=K) rfl h7 nG rE ml (pv 1) (ag (gI (ag (bu (dH (K:=K) rfl) rfl T.len dW (ag (pv 3) ai)) (ag (pv 3) ai))) ai)))) cx))))
   (aC (a8 (c9 (own:=["_law_size","_law_rows"]) (fr:=[]) rfl (cJ (aE kx) ["_law_width","_law_found","_law_bits","_law_rows"] rfl rfl (by decide +kernel)) (iF (K:=K) rfl (bu (Fy (K:=K) rfl hr0 hu2) rfl T.sorted xc (ag (pv 1) ai))) (λ_ _ _ _=>⟨(mC (K:=K) (i:=0) (j:=1) rfl rfl (by decide +kernel:(["_law_size","_law_rows"]:List Str).Nodup) rfl rfl rfl rfl),d_,(pv 1)⟩)))))),?_⟩
  obtain⟨n,hn1,HQ,en,e1,hj2,hj3,e2⟩:∃n:Nat,1<=n/\n<=8/\n=2 ^ wd/\(1:Int)*2 ^ ((wd:Int)).toNat=(n:Int)/\2<=2 ^ n/\2 ^ n<=256/\(1:Int)*2 ^ ((n:Int)).toNat=((2 ^ n:Nat):Int):=by
   match wd,hw with
   |0,_=>exact⟨1,by decide,by decide,rfl,rfl,by decide,by decide,rfl⟩
   |1,_=>exact⟨2,by decide,by decide,rfl,rfl,by decide,by decide,rfl⟩
   |2,_=>exact⟨4,by decide,by decide,rfl,rfl,by decide,by decide,rfl⟩
   |3,_=>exact⟨8,by decide,by decide,rfl,rfl,by decide,by decide,rfl⟩
  have cp:mX 1 (wd:Int):=⟨by omega,by omega,by decide⟩;have FX:mX 1 ((1:Int)*2 ^ ((wd:Int)).toNat):=⟨by omega,by omega,by decide⟩;refine⟨bE _,λL hL=>?_⟩;dsimp only[aU];show cS _ _ _ [some (.int (wd:Int)),some (.ref L),none,none] _;refine⟨_,rfl,_,_,rfl,rfl,cp,_,_,rfl,rfl,FX,_,rfl,by rw[e1,e2];omega,by rw[e1,e2];omega,GP (λi σ H2=>∃(v2 v3:Option V) (rs:List Addr),σ = [some (.int (wd:Int)),some (.ref L),v2,v3]/\Same H H2/\H2 L=some (.lst (rs.map V.ref))/\Paired (ig H2) (j_ wd i) rs/\rs.length<=i) ⟨none,none,[],rfl,Same.put hL,av,.nil,aB _⟩ ?_ ?_⟩
  ·rintro i σ H2 hi ⟨v2,v3,rs,rfl,s2,hL2,hp,hrl⟩
   rw[e1,e2]at hi;dsimp only[aU];show cS _ _ _ [some (.int (wd:Int)),some (.ref L),some (.int (1+2*(i:Int))),v3] _;have eb:(1+2*(i:Int))=((1+2*i:Nat):Int):=by omega
   rw[eb];refine⟨_,rfl,_,_,rfl,rfl,cp,_,rfl,by rw[e1];omega,by rw[e1];omega,λD hD=>sG (λj=>decide (V.int (Builtin.bitAnd (((1+2*i:Nat):Int) / 2 ^ (0+(j:Int)).toNat) 1)=V.int 1)) nV src_range hD (by rw[e1];exact cR (by omega)) (λj H3 Kt Kf hj hs hkt hkf=>?_) (λH3 hs3 hl3=>?_)⟩
   ·refine⟨_,rfl,_,rfl,_,_,rfl,rfl,by omega,_,_,rfl,rfl,rfl,_,rfl,dm (λh=>?_) (λh=>?_)⟩
    ·refine⟨_,rfl,?_⟩
     rw[g0];exact hkt _ h (Same.refl _)
    ·exact hkf _ (by simpa using h) (Same.refl _)
   have er:((List.range ((1:Int)*2 ^ ((wd:Int)).toNat).toNat).filter λj:Nat=>decide (V.int (Builtin.bitAnd (((1+2*i:Nat):Int) / 2 ^ (0+(j:Int)).toNat) 1)=V.int 1))=Fl.rowsOf wd (1+2*i):=by
    unfold Fl.rowsOf;rw[e1,bQ,<- en];exact List.filter_congr λj _=>Fe _ j
   have gw:H3 D=some (.lst ((Fl.rowsOf wd (1+2*i)).map nV)):=by rw[<- er];exact hl3
   have gl:(Fl.rowsOf wd (1+2*i)).length<=8:=by
    unfold Fl.rowsOf;refine cH (q8 _ _) ?_;rw[kW,<- en];exact HQ
   have g8:∀x∈Fl.rowsOf wd (1+2*i),x<8:=λx hx=>by
    unfold Fl.rowsOf at hx;have:=iP.mp (iO.mp hx).1;rw[<- en]at this;omega
   have hsucc:=Ju wd i;generalize Fl.rowsOf wd (1+2*i)=g at gw gl g8 hsucc;refine⟨D,_,rfl,.inl ⟨ak.of gw,λt ht=>?_⟩⟩;dsimp only[aU];show mU _ _ _ _ [some (.int (wd:Int)),some (.ref L),some (.int ((1+2*i:Nat):Int)),some (.ref t)] _;refine⟨_,rfl,t,g,rfl,av,gl,g8,λH5 s5=>⟨Fl.isF g,rfl,?_⟩⟩;have sA:Same H2 H5:=(hs3.trans (Same.put ht)).trans s5;have di:=sA _ _ hL2;have yl:=s5 _ _ (av (H:=H3) (a:=t) (o:=.tup (g.map nV)));cases hF:Fl.isF g with
   |false =>
    rw[hF]at hsucc;refine⟨_,_,rs,rfl,s2.trans sA,di,?_,by omega⟩;rw[hsucc];simpa using Paired.bL hp λ_ _ h=>h.same sA
   |true =>
    rw[hF]at hsucc;refine⟨_,rfl,(.inl ⟨rfl,_,ak.of di⟩),_,rfl,t,_,rfl,.inr (az.of yl),_,rfl,by show 2<=sizeLine;decide,λr hr'=>?_⟩;have HW:r≠L:=λz=>by rw[z,di]at hr';cases hr'
    have sB:Same H5 (upd H5 r (.tup [.int (((g.map nV).length:Nat):Int),.ref t])):=Same.put hr';refine⟨L,_,_,rfl,rfl,sB _ _ di,cq (show(rs.map V.ref).length<1000 by rw[aD];omega) (by decide +kernel),?_⟩;have hL0:H L=none:=hL;refine⟨_,_,rs++[r],rfl,ky hL0 (s2.trans (sA.trans sB)),by rw[av,fz];rfl,?_,by rw[cX,kY];omega⟩;have hH:∀{b:Addr} {o:List V},(upd H5 r (.tup [.int (((g.map nV).length:Nat):Int),.ref t])) b=some (.tup o)->(upd (upd H5 r (.tup [.int (((g.map nV).length:Nat):Int),.ref t])) L (.lst (rs.map V.ref++[.ref r]))) b=some (.tup o):=λ{b o} h=>by
     have hne:b≠L:=λz=>by rw[z,sB _ _ di]at h;cases h
     rw[aA hne];exact h
    rw[hsucc,if_pos rfl];refine uz (Paired.bL hp λ_ _ h=>?_) ⟨t,hH (by rw[av,aD]),hH (sB _ _ yl)⟩;obtain⟨t',z1,z2⟩:=h;exact⟨t',hH (sB _ _ (sA _ _ z1)),hH (sB _ _ (sA _ _ z2))⟩
  ·rintro σ H2 ⟨v2,v3,rs,rfl,s2,hL2,hp,hrl⟩
   have eF:j_ wd (((1:Int)*2 ^ ((1:Int)*2 ^ ((wd:Int)).toNat).toNat) / 2).toNat=Fl.gC wd:=by
    unfold j_ Fl.gC;rw[e1,e2,<- en,show(((2 ^ n:Nat):Int) / 2).toNat=2 ^ n / 2 by omega]
   rw[eF]at hp;have FP:=Fl.Jw hw;have hrs:rs.length=(Fl.gC wd).length:=(bS hp).symm;have Hd:(Fl.gC wd).length<=16:=by rw[FP.perm.length_eq];exact(Fl.jW hw).2
   obtain⟨ts,et,hts⟩:=Bg hp;refine⟨_,rfl,L,(Fl.gC wd).map Fl.nI,rs,ts,(Fl.gC wd).map (Fl.rk wd),rfl,ak.of hL2,by omega,hts,by rw[aD];omega,et,by rw[aD];omega,λi j a b ha hb=>?_,λp ys hp0 hS=>?_⟩
   ·rw[bB]at ha hb
    obtain⟨g,hg,rfl⟩:=iR.mp ha;obtain⟨g',hg',rfl⟩:=iR.mp hb;rw[Fl.y_,FP.lt g (bK hg) g' (bK hg'),aO,aO,bB,bB,hg,hg'];rfl
   have s3:=Same.put (o:=.lst ys) hp0;obtain⟨tt,e3,q1,q2⟩:=Bh (Fl.Cz hw FP (Bi hp) hS);have hyl:ys.length<=16:=by rw[<- e3,<- bS q1];exact(Fl.jW hw).2
   refine⟨p,rfl,⟨_,ak.of av⟩,λD hD=>iq (λk=>.ref (tt.getD k 0)) (N5 (xs:=λk=>.int (((Fl.aS wd).getD k []).length:Int)) (ys:=λk=>.ref (tt.getD k 0)) (ak.of av) λi hi=>by
    obtain⟨r,z1,z2⟩:=q2 i hi;exact⟨r,z1,s3 _ _ z2⟩) hD (cR (by omega)) (λk H4 Kt hk hs hkt=>?_) (λH4 hs hl=>?_)⟩
   ·exact⟨_,rfl,hkt _ (Same.refl _)⟩
   ·have lW:H4 D=some (.lst (tt.map V.ref)):=by rw[<- M7,e3];exact hl
    exact kk D H4 (s2.trans (s3.trans hs)) (Same.noneF (s2.trans s3) hD) ⟨_,lW,Dk (Paired.bL q1 λ_ _ h=>hs _ _ (s3 _ _ h))⟩
abbrev uV:Stmt:=top 37
theorem BX:aY ["_law_found","_law_due_here","_law_k"] ["_law_found","_law_due_here"] (aE uV):=⟨rfl,rfl,rfl,by decide +kernel,rfl,by decide +kernel,by decide +kernel⟩
noncomputable def fk(R:Hp->V->V->Prop):Sp:=λvs H Q _=>∃x y,vs = [x,y]/\R H x y/\∀H',Same H H'->Q (.bl true) H'
set_option maxHeartbeats 0 in
theorem pA {k:Nat} {R:Hp->V->V->Prop} (mono:∀H H' x y,Same H H'->R H x y->R H' x y) (F:aN K "_law_same" "_law_same" uV f fd) (T:Txt mg) (iW:ax P w K mg base "_law_same" ["_law_found","_law_due_here"] k (fk R)) :
  aI P w K mg base aJ (k+1) f fd ["_law_found","_law_due_here"] (fk (Like R)):=by
 refine F.ok BX (λvs H Q E h=>?_) (λcdv A outer s H vs Q E hr h=>?_)
 ·obtain⟨x,y,rfl,_⟩:=h
  rfl
 ·obtain⟨x,y,rfl,hL,kk⟩:=h
  have nd:=BX.nd;obtain⟨c,hL⟩:∃c:Bool,(Leaf x/\x=y)\/∃(a b:Nat) (xs ys:List V),x = .ref a/\y = .ref b/\fQ c H a xs/\fQ c H b ys/\Paired (R H) xs ys/\xs.length<=1000:=by
   rcases hL with h|⟨c,h⟩
   ·exact⟨true,.inl h⟩
   ·exact⟨c,.inr h⟩
  refine⟨_,(aH (cj (PW.pt (mG (cN (bu (de (K:=K) "tuple" rfl) rfl T.isinstance dE (ag (pv 1) (ag (dq (v:=.ty "tuple") rfl T.tuple d6 rfl) ai)))) (mH (cN (bu (de (K:=K) "list" rfl) rfl T.isinstance dE (ag (pv 1) (ag (dq (v:=.ty "list") rfl T.list lz rfl) ai))))))) (aH (cj (PW.pt (mG (dO my (bu (de (K:=K) "tuple" rfl) rfl T.isinstance dE (ag (pv 0) (ag (dq (v:=.ty "tuple") rfl T.tuple d6 rfl) ai))) (bu (de (K:=K) "tuple" rfl) rfl T.isinstance dE (ag (pv 1) (ag (dq (v:=.ty "tuple") rfl T.tuple d6 rfl) ai))) (cL _)) (mH (dO my (bu (de (K:=K) "list" rfl) rfl T.isinstance dE (ag (pv 0) (ag (dq (v:=.ty "list") rfl T.list lz rfl) ai))) (bu (de (K:=K) "list" rfl) rfl T.isinstance dE (ag (pv 1) (ag (dq (v:=.ty "list") rfl T.list lz rfl) ai))) (cL _))))) (aC (a8 d8)) cx)
   (aH (cj (dO my (bu (dH (K:=K) rfl) rfl T.len dW (ag (pv 0) ai)) (bu (dH (K:=K) rfl) rfl T.len dW (ag (pv 1) ai)) (cL _)) (aC (a8 d8)) cx)
   (aH (cD cz rfl (dM rfl T.range (ag (bu (dH (K:=K) rfl) rfl T.len dW (ag (pv 1) ai)) ai)) (bh (i:=2) nd rfl (Or.inl rfl))
   (aC (cj (gJ (cN (aW iW hr rfl (ag (aX (tV (K:=K) c rfl) (pv 0) (pv 2) (λ_ _=>rfl)) (ag (aX (tV (K:=K) c rfl) (pv 1) (pv 2) (λ_ _=>rfl)) ai)) (aB _)))) (aC (a8 d8)) cx)))
   (aC (a8 d8))))) cx)
   (aH (cj (cN (bu (de (K:=K) "bool" rfl) rfl T.isinstance dE (ag (pv 1) (ag (dq (v:=.ty "bool") rfl T.bool n_ rfl) ai)))) (aC (a8 (iB (bu (de (K:=K) "bool" rfl) rfl T.isinstance dE (ag (pv 0) (ag (dq (v:=.ty "bool") rfl T.bool n_ rfl) ai))) (iE (jj kj (pv 0) (pv 1) (cL _)))))) cx)
   (aH (cj (cN (bu (de (K:=K) "int" rfl) rfl T.isinstance dE (ag (pv 1) (ag (dq (v:=.ty "int") rfl T.int sg rfl) ai)))) (aC (a8 (iB (bu (de (K:=K) "int" rfl) rfl T.isinstance dE (ag (pv 0) (ag (dq (v:=.ty "int") rfl T.int sg rfl) ai))) (iB (Am (bu (de (K:=K) "bool" rfl) rfl T.isinstance dE (ag (pv 0) (ag (dq (v:=.ty "bool") rfl T.bool n_ rfl) ai)))) (iE (jj kj (pv 0) (pv 1) (cL _))))))) cx)
   (aH (cj (cN (bu (de (K:=K) "str" rfl) rfl T.isinstance dE (ag (pv 1) (ag (dq (v:=.ty "str") rfl T.str xg rfl) ai)))) (aC (a8 (iB (bu (de (K:=K) "str" rfl) rfl T.isinstance dE (ag (pv 0) (ag (dq (v:=.ty "str") rfl T.str xg rfl) ai))) (iE (jj kj (pv 0) (pv 1) (cL _)))))) cx)
   (aC (a8 (iB (jj pD (pv 1) pK (cL _)) (iE (jj pD (pv 0) pK (cL _)))))))))),?_⟩
  rcases hL with⟨⟨i,rfl⟩|rfl|⟨b,rfl⟩|⟨t,rfl⟩,rfl⟩|⟨a,b,xs,ys,rfl,rfl,hx,hy,hp,hlen⟩
  ·skip
   refine⟨_,rfl,_,_,_,rfl,.int i,rfl,_,rfl,bf ?_⟩;refine⟨_,rfl,_,_,_,rfl,.int i,rfl,_,rfl,bf ?_⟩;refine⟨_,rfl,_,_,_,rfl,.int i,rfl,_,rfl,bf ?_⟩;refine⟨_,rfl,_,_,_,rfl,.int i,rfl,_,rfl,c7 ?_⟩;refine⟨_,rfl,_,_,_,rfl,.int i,rfl,_,rfl,c7 ?_⟩;refine⟨_,rfl,_,_,_,rfl,.int i,rfl,_,rfl,_,rfl,c7 ?_⟩;refine⟨_,rfl,_,rfl,rfl,?_⟩;rw[b9 rfl];exact kk _ (Same.refl _)
  ·skip
   refine⟨_,rfl,_,_,_,rfl,.non,rfl,_,rfl,bf ?_⟩;refine⟨_,rfl,_,_,_,rfl,.non,rfl,_,rfl,bf ?_⟩;refine⟨_,rfl,_,_,_,rfl,.non,rfl,_,rfl,bf ?_⟩;refine⟨_,rfl,_,_,_,rfl,.non,rfl,_,rfl,bf ?_⟩;refine⟨_,rfl,_,_,_,rfl,.non,rfl,_,rfl,bf ?_⟩;refine⟨_,rfl,rfl,_,rfl,?_⟩;rw[b9 rfl];refine c7 ⟨_,rfl,rfl,?_⟩;rw[b9 rfl];exact kk _ (Same.refl _)
  ·skip
   refine⟨_,rfl,_,_,_,rfl,.bl b,rfl,_,rfl,bf ?_⟩;refine⟨_,rfl,_,_,_,rfl,.bl b,rfl,_,rfl,bf ?_⟩;refine⟨_,rfl,_,_,_,rfl,.bl b,rfl,_,rfl,c7 ?_⟩;refine⟨_,rfl,_,_,_,rfl,.bl b,rfl,_,rfl,c7 ?_⟩;refine⟨_,rfl,_,rfl,rfl,?_⟩;rw[b9 rfl];exact kk _ (Same.refl _)
  ·skip
   refine⟨_,rfl,_,_,_,rfl,.str t,rfl,_,rfl,bf ?_⟩;refine⟨_,rfl,_,_,_,rfl,.str t,rfl,_,rfl,bf ?_⟩;refine⟨_,rfl,_,_,_,rfl,.str t,rfl,_,rfl,bf ?_⟩;refine⟨_,rfl,_,_,_,rfl,.str t,rfl,_,rfl,bf ?_⟩;refine⟨_,rfl,_,_,_,rfl,.str t,rfl,_,rfl,c7 ?_⟩;refine⟨_,rfl,_,_,_,rfl,.str t,rfl,_,rfl,c7 ?_⟩;refine⟨_,rfl,_,rfl,rfl,?_⟩;rw[b9 rfl];exact kk _ (Same.refl _)
  ·have hlen2:ys.length=xs.length:=(bS hp).symm
   have el:((ys.length:Int)).toNat=ys.length:=bQ _;have lx:ak K H a xs\/az K H a xs:=by
    cases c with
    |true=>exact .inl (ak.of hx)
    |false=>exact .inr (az.of hx)
   have ly:ak K H b ys\/az K H b ys:=by
    cases c with
    |true=>exact .inl (ak.of hy)
    |false=>exact .inr (az.of hy)
   have body:∀(D:Ends),D.rt=Q->(vq (tQ (dr (kC (mJ K) (dr (du 1) fq)) fq)) (aU 2)
     (mU (vt (tB (qx (fk R) [] E0 (dr (gQ (mI K c) (du 0) (du 2)) (dr (gQ (mI K c) (du 1) (du 2)) fq))))) (kD (tC (.bl false))) qz)) {D with nx:=λσ H=>kD (tC (.bl true)) D σ H} [some (.ref a),some (.ref b),none] H:=by
    intro D hD;refine⟨_,rfl,b,_,rfl,ly,_,rfl,(b0 (by omega)).1,(b0 (by omega)).2,gq (lo:=0) (n:=((ys.length:Int)).toNat) (λi σ H2=>∃v2,σ = [some (.ref a),some (.ref b),v2]/\Same H H2) ⟨none,rfl,Same.refl _⟩ ?_ ?_⟩
    ·rintro i σ H2 hi ⟨v2,rfl,s2⟩
     rw[el]at hi;obtain⟨p,hp1,hp2⟩:=ko hp (show ys[i]?=some ys[i]from aq hi);refine⟨_,rfl,_,rfl,a,xs,_,p,rfl,rfl,s2.sq hx.sq,at0 hp1,_,rfl,_,rfl,b,ys,_,ys[i],rfl,rfl,s2.sq hy.sq,at0 (aq hi),_,_,rfl,mono _ _ _ _ s2 hp2,λH3 s3=>⟨_,rfl,bf ⟨_,rfl,s2.trans s3⟩⟩⟩
    ·rintro σ H2 ⟨v2,rfl,s2⟩
     show D.rt (.bl true) H2;rw[hD];exact kk _ s2
   have lens:∀(D:Ends),D.rt=Q->(cS (mU (vu (gQ Bc (kC (mJ K) (dr (du 0) fq)) (kC (mJ K) (dr (du 1) fq)))) (kD (tC (.bl false))) qz)
     (cS (vq (tQ (dr (kC (mJ K) (dr (du 1) fq)) fq)) (aU 2)
      (mU (vt (tB (qx (fk R) [] E0 (dr (gQ (mI K c) (du 0) (du 2)) (dr (gQ (mI K c) (du 1) (du 2)) fq))))) (kD (tC (.bl false))) qz)) (kD (tC (.bl true))))) D [some (.ref a),some (.ref b),none] H:=by
    intro D hD;refine⟨_,rfl,a,_,rfl,lx,_,rfl,b,_,rfl,ly,rfl,_,rfl,?_⟩;rw[hlen2];refine I_ rfl ?_;exact body D hD
   cases c with
   |true =>
    refine⟨_,rfl,_,_,_,rfl,.lst hy,rfl,_,rfl,bf ?_⟩;refine⟨_,rfl,_,_,_,rfl,.lst hy,rfl,_,rfl,c7 ?_⟩;refine⟨_,rfl,_,_,_,rfl,.lst hx,rfl,_,rfl,_,_,_,rfl,.lst hy,rfl,rfl,_,rfl,bf ?_⟩;refine⟨_,rfl,_,_,_,rfl,.lst hx,rfl,_,rfl,_,_,_,rfl,.lst hy,rfl,rfl,_,rfl,bf ?_⟩;exact lens _ rfl
   |false =>
    refine⟨_,rfl,_,_,_,rfl,.tup hy,rfl,_,rfl,c7 (c7 ?_)⟩;refine⟨_,rfl,_,_,_,rfl,.tup hx,rfl,_,rfl,_,_,_,rfl,.tup hy,rfl,rfl,_,rfl,bf ?_⟩;refine⟨_,rfl,_,_,_,rfl,.tup hx,rfl,_,rfl,_,_,_,rfl,.tup hy,rfl,rfl,_,rfl,bf ?_⟩;exact lens _ rfl
end
theorem KD {P:Program} {w:World} {K:W.Frag} {mg:Str->Option Value} {base:Heap} {f:Addr} {fd:FuncData}:aI P w K mg base aJ 0 f fd ["_law_found","_law_due_here"] (fk λ_ _ _=>False):=
 ⟨λ_ _ _ _ ⟨_,_,_,h,_⟩=>h.elim,λ_ _ _ _ _ _ _ _ _ _ _ _ _ ⟨_,_,_,h,_⟩=>h.elim⟩
abbrev R4:=Like R3
section
variable {P:Program} {w:World} {K:W.Frag} {mg:Str->Option Value} {base:Heap} {f:Addr} {fd:FuncData}
end
noncomputable def gO(n:Nat)(R:Nat->Nat->Bool)(m l:Nat):List (Nat × Nat):=((List.range m).filter λh=>!decide (l=h)&&R l h).map λh=>(l,h)
theorem Nf(n:Nat)(R:Nat->Nat->Bool)(m l:Nat):gO n R (m+1) l=gO n R m l++if(!decide (l=m)&&R l m)=true then[(l,m)]else[]:=by
 unfold gO;rw[iQ,qW,fz,List.filter_cons]
 congr 1
 split<;>rfl
theorem Km(g1 g2:List Nat):decide (V.int (((g1.filter λx=>!g2.contains x).length:Nat):Int)=V.int 0)=Fl.kB g1 g2:=by
 unfold Fl.kB;rw[dR,c5,cn]
 constructor
 ·intro h x hx
  have h1:(g1.filter λx=>!g2.contains x).length=0:=by have:=V.int.inj h;omega
  have h2:=DY.mp (vW.mp h1) x hx;simpa using h2
 ·intro h
  have:(g1.filter λx=>!g2.contains x) = []:=DY.mpr λx hx=>by rw[h x hx];simp
  rw[this];rfl
theorem M6(g:List Nat)(p:Nat->Bool):((List.range g.length).filter λk=>p (g.getD k 0)).map (λk=>nV (g.getD k 0))=(g.filter p).map nV:=by
 have e:g=(List.range g.length).map λi=>g.getD i 0:=by
  apply hJ
  ·simp
  ·intro i h1 h2
   simp[aO,aq h1]
 conv=>rhs;rw[e]
 rw[List.filter_map,dB];rfl
section
variable {P:Program} {w:World} {K:W.Frag} {mg:Str->Option Value} {base:Heap} {f:Addr} {fd:FuncData}
abbrev p4:Stmt:=top 40
theorem BP:aY ["_law_some","_law_found","_law_j","_law_k"] ["_law_some"] (aE p4):=⟨rfl,rfl,rfl,by decide +kernel,rfl,by decide +kernel,by decide +kernel⟩
noncomputable def u9:Sp:=λvs H Q _=>∃(l:Addr) (wd:Nat),vs = [.ref l]/\wd<4/\gZ H l wd/\∀(t:Addr) (ws:List V) H',Same H H'->H' t=some (.tup ws)->ws.length<=600->Paired (cg H') (ku (Fl.aS wd).length (Fl.cQ wd)) ws->Q (.ref t) H'
theorem Ku (F:aN K "_law_due" "_law_due" p4 f fd) (T:Txt mg):aI P w K mg base aJ 1 f fd ["_law_some"] u9:=by
 refine F.ok BP (λvs H Q E h=>?_) (λcdv A outer s H vs Q E hr h=>?_)
 ·obtain⟨l,wd,rfl,_⟩:=h
  rfl
 ·obtain⟨l,wd,rfl,hw,⟨us,hl,j6⟩,kk⟩:=h
  have nd:=BP.nd;refine⟨_,(aH (bV (i:=1) nd rfl (Or.inl rfl) (iD ai))
   (aH (cD cz rfl (dM rfl T.range (ag (bu (dH (K:=K) rfl) rfl T.len dW (ag (pv 0) ai)) ai)) (bh (i:=2) nd rfl (Or.inl rfl))
   (aC (cD cz rfl (dM rfl T.range (ag (bu (dH (K:=K) rfl) rfl T.len dW (ag (pv 0) ai)) ai)) (bh (i:=3) nd rfl (Or.inr rfl))
   (aC (cj (PW.pt (uF (dO my (pv 2) (pv 3) (cL _)) (uG (dO kj (bu (dH (K:=K) rfl) rfl T.len dW (ag (c9 (own:=["_law_row"]) (fr:=[("_law_some", 0),("_law_k", 3)]) rfl (cJ (aE p4) ["_law_some","_law_found","_law_j","_law_k"] rfl rfl (by decide +kernel)) (jk (K:=K) rfl (aX (fM (K:=K) rfl) (pv 0) (pv 2) (λ_ _=>rfl))) (λ_ _ _ _=>⟨(bh (i:=0) (by decide +kernel:(["_law_row","_law_some","_law_k"]:List Str).Nodup) rfl (Or.inl rfl)),(pM (dO (Ad (K:=K) rfl) (pv 0) (aX (fM (K:=K) rfl) (pv 1) (pv 2) (λ_ _=>rfl)) (by with_unfolding_all rfl))),(pv 0)⟩)) ai)) aL (cL _))))) (aC (dN (iC (K:=K) rfl h7 nG rE ml (pv 1) (ag (gI (ag (pv 2) (ag (pv 3) ai))) ai)))) cx)))))
   (aC (a8 (d9 (fH (K:=K) rfl) rfl T.tuple d6 (ag (pv 1) ai)))))),?_⟩
  have gB:us.length=(Fl.aS wd).length:=(bS j6).symm;obtain⟨l1,l2⟩:=Fl.jW hw;have at_:∀i,i<us.length->∃t g,us[i]?=some (.ref t)/\(Fl.aS wd)[i]?=some g/\H t=some (.tup (g.map nV)):=λi hi=>by
   obtain⟨g,h1,t,e,h2⟩:=pG j6 (aq hi);exact⟨t,g,by rw[aq hi,e],h1,h2⟩
  generalize hn:(Fl.aS wd).length=n at l1 l2 gB kk;refine⟨bE _,λL hL=>?_⟩;dsimp only[aU];show cS _ _ _ [some (.ref l),some (.ref L),none,none] _;refine⟨_,rfl,l,_,rfl,.inl (ak.of ((Same.put hL) _ _ hl)),_,rfl,by omega,by omega,gq (lo:=0) (n:=((us.length:Nat):Int).toNat) (λi σ H2=>∃(v2 v3:Option V) (ws:List V),σ = [some (.ref l),some (.ref L),v2,v3]/\Same H H2/\H2 L=some (.lst ws)/\ws.length<=i*16/\Paired (cg H2) ((List.range i).flatMap (gO n (Fl.cQ wd) n)) ws) ⟨none,none,[],rfl,Same.put hL,av,by simp,.nil⟩ ?_ ?_⟩
  ·rintro i σ H2 hi ⟨v2,v3,ws,rfl,s2,hL2,hwl,hp⟩
   have hi:i<us.length:=by omega
   dsimp only[aU];refine⟨_,rfl,l,_,rfl,.inl (ak.of (s2 _ _ hl)),_,rfl,by omega,by omega,gq (lo:=0) (n:=((us.length:Nat):Int).toNat) (λj σ H3=>∃(v3:Option V) (ws:List V),σ = [some (.ref l),some (.ref L),some (.int (0+(i:Int))),v3]/\Same H H3/\H3 L=some (.lst ws)/\ws.length<=i*16+j/\Paired (cg H3) ((List.range i).flatMap (gO n (Fl.cQ wd) n)++gO n (Fl.cQ wd) j i) ws) ⟨v3,ws,rfl,s2,hL2,by omega,by rw[show gO n (Fl.cQ wd) 0 i = []from rfl,kT];exact hp⟩ ?_ ?_⟩
   ·rintro j σ H3 hj ⟨v3,ws,rfl,s3,jb,Ij,hp3⟩
    have hj:j<us.length:=by omega
    dsimp only[aU];refine⟨_,rfl,_,rfl,rfl,_,rfl,?_⟩;have hsc:=Nf n (Fl.cQ wd) j i;have Gm:(!decide (V.int (0+(i:Int))=V.int (0+(j:Int)))) = !decide (i=j):=by
     congr 1
     rw[dR,c5,c5];exact⟨λh=>by have:=V.int.inj h;omega,λh=>by rw[h]⟩
    obtain⟨t1,g1,u1,f1,h1⟩:=at_ i hi;obtain⟨t2,g2,u2,f2,h2⟩:=at_ j hj;obtain⟨b1,_⟩:=Fl.tD hw (bK f1);have GC:Fl.cQ wd i j=Fl.kB g1 g2:=by
     unfold Fl.cQ;rw[aO,aO,f1,f2];rfl
    have no:(!decide (i=j)&&Fl.cQ wd i j)=false->∀H4,Same H3 H4->∃(v3:Option V) (ws:List V),([some (.ref l),some (.ref L),some (.int (0+(i:Int))),some (.int (0+(j:Int)))]:L2.St) = [some (.ref l),some (.ref L),some (.int (0+(i:Int))),v3]/\Same H H4/\H4 L=some (.lst ws)/\ws.length<=i*16+(j+1)/\Paired (cg H4) ((List.range i).flatMap (gO n (Fl.cQ wd) n)++gO n (Fl.cQ wd) (j+1) i) ws:=λh H4 s4=>by
     rw[h]at hsc;refine⟨_,ws,rfl,s3.trans s4,s4 _ _ jb,by omega,?_⟩;rw[hsc];simpa using fh.same s4 hp3
    dsimp only;rw[Gm];refine dm (λh=>?_) (λh=>no (by rw[show(!decide (i=j))=false by simpa using h,qN]) H3 (Same.refl _));refine⟨_,rfl,_,rfl,l,_,_,_,rfl,rfl,ak.of (s3 _ _ hl),at0 u1,t1,rfl,⟨_,az.of (s3 _ _ h1)⟩,λD hD=>sG (λk=>!g2.contains (g1.getD k 0)) (λk=>nV (g1.getD k 0)) (mQ (az.of (s3 _ _ h1))) hD (cR (by rw[aD];omega)) (λk H4 Kt Kf hk hs hkt hkf=>?_) (λH4 hs gw=>?_)⟩
    ·rw[aD]at hk
     have ek:(g1.map nV).getD k .non=nV (g1.getD k 0):=by rw[aO,uk hk];rfl
     rw[ek];refine⟨_,rfl,_,rfl,_,rfl,l,_,_,_,rfl,rfl,ak.of (hs _ _ (s3 _ _ hl)),at0 u2,t2,_,rfl,.inr (az.of (hs _ _ (s3 _ _ h2))),rfl,oP _,_,rfl,?_⟩;rw[if_pos rfl,tR];refine dm (λh=>?_) (λh=>?_)
     ·exact⟨_,rfl,hkt _ h (Same.refl _)⟩
     ·exact hkf _ (by simpa using h) (Same.refl _)
    ·have lW:H4 D=some (.lst ((g1.filter λx=>!g2.contains x).map nV)):=by rw[<- M6];rw[aD]at gw;exact gw
     refine⟨D,_,rfl,.inl (ak.of lW),rfl,_,rfl,?_⟩;rw[aD,Km,<- GC];refine dm (λh'=>?_) (λh'=>no (by rw[show Fl.cQ wd i j=false by simpa using h',Bool.and_false]) H4 hs);have di:=hs _ _ jb;refine⟨_,rfl,(.inl ⟨rfl,_,ak.of di⟩),_,rfl,_,rfl,by show 2<=sizeLine;decide,λr hr'=>?_⟩;have sB:Same H4 (upd H4 r (.tup [.int (0+(i:Int)),.int (0+(j:Int))])):=Same.put hr';refine⟨L,_,_,rfl,rfl,sB _ _ di,cq (show ws.length<1000 by omega) (by decide +kernel),?_⟩;refine⟨_,ws++[.ref r],rfl,ky hL (s3.trans (hs.trans sB)),av,by rw[cX,kY];omega,?_⟩;rw[hsc,if_pos (by rw[h,h'];rfl),<- List.append_assoc];refine pJ (sB _ _ di) (uz (fh.same (hs.trans sB) hp3) ?_);refine⟨r,rfl,?_⟩;rw[av,g0,g0]
   ·rintro σ H3 ⟨v3,ws,rfl,s3,jb,Ij,hp3⟩
    refine⟨_,_,ws,rfl,s3,jb,by omega,?_⟩;rw[iQ,List.flatMap_append];simpa[gB]using hp3
  ·rintro σ H2 ⟨v2,v3,ws,rfl,s2,hL2,hwl,hp⟩
   refine⟨_,rfl,L,ws,rfl,.inl ⟨ak.of hL2,λt ht=>kk t ws _ (s2.trans (Same.put ht)) av (by omega) (fh.same (Same.put ht) ?_)⟩⟩;rw[bQ,gB]at hp;exact hp
end
end My
namespace L2
open PySem PySem.Spec PyProof.Rows
abbrev Tab:=Addr × Addr × Pos × Str
noncomputable def ez(tabs:List Tab)(b:Addr):Option HO:=(tabs.find? λt=>decide (t.2.1=b)).map λt=>.lam t.2.2.1 t.2.2.2
noncomputable def ll(tabs:List Tab)(H:Hp):Prop:=∀b o,ez tabs b=some o->H b=some o
theorem Di{tabs:List Tab}{b:Addr}{o:HO}(h:ez tabs b=some o):∃t∈tabs,t.2.1=b/\o = .lam t.2.2.1 t.2.2.2:=by
 unfold ez at h;cases e:tabs.find? λt=>decide (t.2.1=b)with
 |none=>rw[e]at h;cases h
 |some t =>
  rw[e]at h;cases h;exact⟨t,List.mem_of_find?_eq_some e,of_decide_eq_true (List.find?_some (p:=λt:Tab=>decide (t.2.1=b)) e),rfl⟩
theorem Jv{P:Program}{w:World}{K:W.Frag}{mg mb:Str->Option Value}{CX:eA}{k:Nat}{fa a:Addr}{fd:FuncData}{x:Str}{sp:Sp}{s₁:Shared}{vs:List Value}{ns:List Int}{tabs:List Tab}
  (KX:K.In s₁.heap) (hns:s₁.heap.Ns mainGlobals mg) (hb:s₁.heap.Ns builtinsNs mb) (hbb:∀x:Str,x ≠ "__name__" -> mb x=bootBuiltins x) (hlim:s₁.heap.NoLimit) (hg:s₁.gens = #[])
  (hbm:∃bm ob,mg "__builtins__" = some (.ref bm)/\bm≠builtinsNs/\s₁.heap.get? bm=some ob/\ob.cls = .type "module" /\ ob.dict=some builtinsNs/\ob.data = .plain)
  (hT:∀t∈tabs,W.CodeHd s₁.heap t.1 t.2.1/\s₁.heap.get? t.2.1=some (W.tabObj #[])) (Hk:W.noTabs K=true)
  (ha:s₁.heap.get? a=some {cls:=.type "list", data:=.seq vs.toArray}) (hi:IntsAre vs ns) (hl:ns.length<=sizeLine) (hr:aV k callerA)
  (F:∀base:Heap,K.In base->base.Ns mainGlobals mg->(∀t∈tabs,TabAt base mg t.1 t.2.1)->aI P w K mg base CX k fa fd [x] sp) (hbind:∀(s:Shared) (u:Value),BindsTo s fd ⟨[u],[]⟩ [(x,u)])
  (hsp:∀H:Hp,ak K H a (ns.map V.int)->ll tabs H->sp [.ref a] H (λv H'=>v = .bl true/\ll tabs H') λ_ _ _=>False)
  (tI:∀H e s',CX [] H s₁ (λ_ _ _=>False) e s'->False) :
  codeAny (model P w) callerA (.call (.ref fa) ⟨[.ref a],[]⟩) (λr s'=>r = .ok (.ret (.bool true))/\OldK s₁.heap s'.heap/\s'.os=s₁.os/\AllBare s'.gens) s₁:=by
 have rv:=vE hi;have lenV:=hi.length;have kF:∀{b:Addr} {o:HO},ez tabs b=some o->∃t∈tabs,t.2.1=b/\o = .lam t.2.2.1 t.2.2.2/\s₁.heap.get? b=some (W.tabObj #[]):=λ{b o} e=>by
  obtain⟨t,h1,h2,h3⟩:=Di e;exact⟨t,h1,h2,h3,by rw[<- h2];exact(hT t h1).2⟩
 have aT:ez tabs a=none:=by
  cases e:ez tabs a with
  |none=>rfl
  |some o =>
   obtain⟨_,_,_,_,q⟩:=kF e;rw[ha]at q;cases q
 have KT:∀b o,ez tabs b=some o->K.lookup b=none:=λb o e=>by
  obtain⟨_,_,_,_,q⟩:=kF e;cases hk:K.lookup b with
  |none=>rfl
  |some ob =>
   have e2:=KX b ob hk;rw[q]at e2;cases e2;have h2:=cn.mp Hk (b,_) (W.mem_of_lookupK hk);exact absurd (show false=true from h2) Bool.false_ne_true
 have core:∀H:Hp,(∀b o,H b=some o->ez tabs b=some o\/(b=a/\∃o' xs,o = .bU o' (.lst xs)))->ll tabs H->ak K H a (ns.map V.int)->aZ P w H s₁.heap->(H a≠none->K.lookup a=none) ->
   codeAny (model P w) callerA (.call (.ref fa) ⟨[.ref a],[]⟩) (λr s'=>r = .ok (.ret (.bool true))/\OldK s₁.heap s'.heap/\s'.os=s₁.os/\AllBare s'.gens) s₁:=by
  intro H hO j0 hS hok hK;have free:∀{b:Addr} {o:Obj},s₁.heap.get? b=some o->o.cls≠.none->o.cls≠.type "list" -> H b=none:=λ{b o} e c1 c2=>by
   cases q:H b with
   |none=>rfl
   |some u =>
    rcases hO b u q with z|⟨z,_⟩
    ·obtain⟨_,_,_,_,z2⟩:=kF z
     rw[e]at z2;cases z2;exact absurd rfl c1
    ·rw[z,ha]at e;cases e
     exact absurd rfl c2
  have nZ:∀{b:Addr} {o:Obj},s₁.heap.get? b=some o->H b=none->(fK s₁.heap H).get? b=some o:=λe n=>Hz e n;have gG:∀{b:Addr} {o:Obj} {es:Array DictEntry} {ep:Nat},s₁.heap.get? b=some o->o.data = .dict es ep->H b=none:=λ{b o es ep} e d=>by
   cases q:H b with
   |none=>rfl
   |some u =>
    rcases hO b u q with z|⟨z,_⟩
    ·obtain⟨_,_,_,_,z2⟩:=kF z
     rw[e]at z2;cases z2;cases d
    ·rw[z,ha]at e;cases e
     cases d
  have px:∀{b:Addr} {m:Str->Option Value},s₁.heap.Ns b m->(fK s₁.heap H).Ns b m:=λ{b m} ⟨o,es,ep,e,d,r⟩=>⟨o,es,ep,nZ e (gG e d),d,r⟩;have xW:K.In (fK s₁.heap H):=λb o e=>nZ (KX b o e) (by
   cases q:H b with
   |none=>rfl
   |some u =>
    rcases hO b u q with z|⟨z,_⟩
    ·rw[KT b u z]at e;cases e
    ·subst z
     rw[hK (by rw[q];simp)]at e;cases e)
  have hM:Mod K mg (fK s₁.heap H):=⟨xW,px hns,⟨mb,px hb,hbb⟩,let⟨mc,h1,h2⟩:=hlim;⟨mc,px h1,h2⟩⟩;have e0:eD P w K mg (fK s₁.heap H) callerA [] s₁ H:=⟨rfl,hM,λb o e=>Ko e,nz (HB _ _),trivial,λb hb=>absurd (show b∈([]:List Addr)from hb) (by simp),hok,.of_eq hg⟩;have Ht:∀t∈tabs,TabAt (fK s₁.heap H) mg t.1 t.2.1:=λt ht=>by
   refine⟨?_,?_⟩
   ·obtain⟨o,vs,file,tf,flags,tg,inF,text,tt,q1,q2,r⟩:=(hT t ht).1
    exact⟨o,vs,file,tf,flags,tg,inF,text,tt,nZ q1 (free q1 (by rw[q2];intro z;cases z) (by rw[q2];decide)),q2,r⟩
   ·obtain⟨bm,ob,q1,q2,q3,q4,r⟩:=hbm
    exact⟨bm,ob,q1,q2,nZ q3 (free q3 (by rw[q4];intro z;cases z) (by rw[q4];decide)),q4,r⟩
  refine eL ((F _ xW (px hns) Ht).run callerA [] s₁ H ⟨[.ref a],[]⟩ [.ref a] [.ref a] _ _ hr e0 (hbind s₁ (.ref a)) (.cons rfl .nil) (hsp H hS j0)) λr s' h=>?_;cases r with
  |error e=>exact(tI H e s' h).elim
  |ok fl =>
   cases fl with
   |next=>exact False.elim h
   |brk=>exact False.elim h
   |cont=>exact False.elim h
   |ret u =>
    obtain⟨v,H',os,bare,un,hok',r',q,hT'⟩:=h;have q':v = .bl true:=q;subst q';obtain rfl:u=Value.bool true:=r';have key:∀b o,s₁.heap.get? b=some o->s'.heap.get? b=some o\/(isCodeTable s₁.heap b/\o=W.tabObj #[]/\∃ps,s'.heap.get? b=some (W.tabObj ps)):=λb o e=>by
     cases q:H b with
     |none=>exact .inl (un.keep b o e q (by intro z;exact absurd (show b∈([]:List Addr)from z) (by simp)) (by simp))
     |some u =>
      rcases hO b u q with z|⟨rfl,ob,xs,rfl⟩
      ·obtain⟨t,t1,t2,t3,z2⟩:=kF z
       rw[e]at z2;cases z2;subst t3;obtain⟨ps,p1,_⟩:=(show aK P w H' s'.heap b (.lam t.2.2.1 t.2.2.2)from hok' b _ (hT' b _ z));refine .inr ⟨?_,rfl,ps,p1⟩;have:=((hT t t1).1.tab (hT t t1).2).isCodeTable;rw[t2]at this;exact this
      ·have z2:=un.gs b ob _ q
       obtain⟨e1,_⟩:=hok b _ q;obtain⟨e2,_⟩:=hok' b _ z2;rw[e]at e1;cases e1;exact .inl e2
    refine⟨rfl,⟨λb o e=>?_,λb o e=>?_⟩,os,bare⟩
    ·rcases key b o e with z|⟨z1,rfl,ps,z2⟩
     ·exact .inl z
     ·exact .inr (.inl ⟨z1,rfl,#[],ps,rfl,by rw[Array.empty_append];exact z2⟩)
    ·rcases key b o e with z|⟨_,_,ps,z2⟩
     ·exact⟨o,z⟩
     ·exact⟨_,z2⟩
 have Dg:∀(H:Hp) b o,ez tabs b=some o->aK P w H s₁.heap b o:=λH b o e=>by
  obtain⟨t,_,_,rfl,q⟩:=kF e;exact⟨#[],q,trivial,λcv z=>by cases z⟩
 cases hk:K.lookup a with
 |some o =>
  have e:=KX a o hk;rw[ha]at e;cases e;exact core (ez tabs) (λb o e=>.inl e) (λb o e=>e) (.inr ⟨_,vs.toArray,_,hk,rfl,rfl,rfl,by rw[a_,lenV];exact hl,by simpa using rv⟩) (λb u z=>Dg _ b u z) λz=>absurd aT z
 |none =>
  refine core (λb=>if b=a then some (.bU {cls:=.type "list", data:=.seq vs.toArray} (.lst (ns.map V.int)))else ez tabs b) (λb o e=>?_) (λb o e=>?_) (.inl (.inr ⟨{cls:=.type "list", data:=.seq vs.toArray},if_pos rfl⟩)) (λb u z=>?_) λ_=>hk
  ·by_cases hb:b=a
   ·have z':=(if_pos hb).symm.trans e
    cases z';exact .inr ⟨hb,_,_,rfl⟩
   ·exact .inl ((if_neg hb).symm.trans e)
  ·have hb:b≠a:=λz=>by rw[z,aT]at e;cases e
   exact(if_neg hb).trans e
  ·by_cases hb:b=a
   ·have z':=(if_pos hb).symm.trans z
    cases z';subst hb;exact⟨ha,by rw[aD];exact hl,vs,_,rv,ha⟩
   ·exact Dg _ b u ((if_neg hb).symm.trans z)
theorem Pn{l:W.OpenLaw}{n k:Nat}{q:Program}{loose:List Str}{XP:(Str->Option Value)->Heap->Prop}{YP:World->Heap->Prop}{d:DefRec}{K:Params->W.Frag}{CX:World->eA}{sp:World->Sp}{x:Str}{tabs:List Tab}(hn:l.most=some n)(hn2:n<=sizeLine)(hdf:d.params.defaults = [])(hr:aV k callerA)(hY:∀(w:World) (h:Heap),YP w h->(K w.params).In h)(hT:∀(w:World) (h:Heap),YP w h->(∀t∈tabs,W.codeHdIn (K w.params) t.1 t.2.1=true/\h.get? t.2.1=some (W.tabObj #[]))/\W.noTabs (K w.params)=true)(F:∀(w:World) (mg:Str->Option Value) (fa:Addr) (h:Heap),(K w.params).In h->h.Ns mainGlobals mg->mg d.name=some (.ref fa)->∃fd:FuncData,(∀(s:Shared) (u:Value),BindsTo s fd ⟨[u],[]⟩ [(x,u)])/\∀base:Heap,(K w.params).In base->base.Ns mainGlobals mg->(∀t∈tabs,TabAt base mg t.1 t.2.1)->aI l.prog w (K w.params) mg base (CX w) k fa fd [x] (sp w))(hsp:∀(w:World) (H:Hp) (a:Addr) (ns:List Int),ns.length<=n->ak (K w.params) H a (ns.map V.int)->ll tabs H->sp w [.ref a] H (λv H'=>v = .bl true/\ll tabs H') λ_ _ _=>False)(tI:∀(w:World) (H:Hp) (s:Shared) (e:Value) (s':Shared),CX w [] H s (λ_ _ _=>False) e s'->False):W.WalkO q loose XP YP l.row.toRowW d [] (λf vs=>PySem.call f vs):=by
 refine vH.Ez hn hdf λw s₀ s₁ mg mb fa o pm cd doc a vs ns G Y ho hd hcd hmg hobj hints hlen hg=>?_;have KX:=hY w _ Y;obtain⟨fd,hb,hF⟩:=F w mg fa _ KX G.T.g hmg;obtain⟨t1,t2⟩:=hT w _ Y;exact Jv KX G.T.g G.T.b G.T.builtins G.T.nolimit hg G.T.bmain (λt ht=>⟨W.codeHd_of_K KX (t1 t ht).1,(t1 t ht).2⟩) t2 hobj hints (cH hlen hn2) hr hF hb (λH hS j0=>hsp w H a ns hlen hS j0) λH e s'=>tI w H s₁ e s'
end L2
namespace My
open PySem PySem.Spec PyProof.Rows L2
noncomputable def qh(K:W.Frag)(Pt Ps:Addr):Sp:=λvs H Q _=>∃(a:Nat) (ns:List Int),vs = [.ref a]/\ak K H a (ns.map V.int)/\ns.length<=63/\H Pt=some (.lam lP lQ)/\H Ps=some (.lam qu qv)/\∀H',H' Pt=some (.lam lP lQ)->H' Ps=some (.lam qu qv)->Q (.bl true) H'
theorem Pl{l:W.OpenLaw}{q:Program}{loose:List Str}{XP:(Str->Option Value)->Heap->Prop}{YP:World->Heap->Prop}{d:DefRec}{K:Params->W.Frag}{c Pt c1 Ps:Addr}(hn:l.most=some 63)(hdf:d.params.defaults = [])(hY:∀(w:World) (h:Heap),YP w h->(K w.params).In h/\h.get? Pt=some (W.tabObj #[])/\h.get? Ps=some (W.tabObj #[]))(hT:∀w:World,W.codeHdIn (K w.params) c Pt=true)(hT1:∀w:World,W.codeHdIn (K w.params) c1 Ps=true)(hno:∀w:World,W.noTabs (K w.params)=true)(hne:Pt≠Ps)(F:∀(w:World) (mg:Str->Option Value) (fa:Addr) (h:Heap),(K w.params).In h->h.Ns mainGlobals mg->mg d.name=some (.ref fa) ->
   ∃fd:FuncData,(∀(s:Shared) (u:Value),BindsTo s fd ⟨[u],[]⟩ [("_law_script", u)])/\∀base:Heap,(K w.params).In base->base.Ns mainGlobals mg->TabAt base mg c Pt->TabAt base mg c1 Ps->aI l.prog w (K w.params) mg base aJ 40 fa fd ["_law_script"] (qh (K w.params) Pt Ps)) :
  W.WalkO q loose XP YP l.row.toRowW d [] (λf vs=>PySem.call f vs):=
 L2.Pn (n:=63) (k:=40) (x:= "_law_script") (CX:=λ_=>aJ) (sp:=λw=>qh (K w.params) Pt Ps) (tabs:=[(c,Pt,lP,lQ),(c1,Ps,qu,qv)]) hn (by decide) hdf ⟨rfl,by decide,by decide,rfl⟩ (λw h Y=>(hY w h Y).1)
  (λw h Y=>⟨λt ht=>by
   rcases a9.mp ht with rfl|ht
   ·exact⟨hT w,(hY w h Y).2.1⟩
   ·obtain rfl:=eV.mp ht
    exact⟨hT1 w,(hY w h Y).2.2⟩,hno w⟩)
  (λw mg fa h KX G hmg=>by
   obtain⟨fd,h1,h2⟩:=F w mg fa h KX G hmg;exact⟨fd,h1,λbase kb nb tb=>h2 base kb nb (tb _ (bR ..)) (tb _ (bG _ (eV.mpr rfl)))⟩)
  (λw H a ns hl hS j0=>⟨a,ns,rfl,hS,hl,j0 Pt _ (by unfold ez;simp),j0 Ps _ (by unfold ez;simp[hne]),λH' hP Hq=>⟨rfl,λb o e=>by
   obtain⟨t,t1,t2,t3⟩:=Di e
   rcases a9.mp t1 with rfl|t1
   ·rw[<- t2,t3]
    exact hP
   ·obtain rfl:=eV.mp t1
    rw[<- t2,t3];exact Hq⟩⟩) λ_ _ _ _ _ z=>z
theorem FJ{K:W.Frag}{x:Str}{c Pt f:Addr}{st:Stmt}{fd:FuncData}(ht:W.tabIn K x=some (c,Pt))(a:W.nsIn K mainGlobals x=some (some (.ref f)))(F:aN K x x st f fd):fd.code = .ref c:=by
 obtain⟨oc,od,kV,doc,pm,an,cdv,ct,osl,rfl,lk,hcd⟩:=F.ex;unfold W.tabIn at ht;rw[a]at ht;simp only[lk]at ht;show cdv = .ref c;cases cdv with
 |ref c2 =>
  dsimp only at ht
  split at ht
  ·split at ht
   ·cases ht;rfl
   ·cases ht
  ·cases ht
 |_=>cases ht
theorem aF.xh{P:Program}{w:World}{K:W.Frag}{mg:Str->Option Value}{base h:Heap}{x:Str}{st:Stmt}{ps:List Str}{k:Nat}{sp:Sp}{c Pt:Addr}(A:aF K x st)(X:K.In h)(G:h.Ns mainGlobals mg)(hb:vI x st ps)(ht:W.tabIn K x=some (c,Pt))(ok:∀{f:Addr} {fd:FuncData},aN K x x st f fd->fd.code = .ref c->aI P w K mg base aJ k f fd ps sp):ax P w K mg base x ps k sp:=by
 obtain⟨f,fd,a,F⟩:=A.ex;exact⟨f,fd,ok F (FJ ht a F),W.mg_of X G a,F.kp,F.binds hb⟩
theorem Dj{K:W.Frag}{x:Str}{f c P:Addr}{oc co:Value}{od cd':Option Addr}{fd:FuncData}{osl sl:Array (Option Value)}{vs:Array Value}(a:W.nsIn K mainGlobals x=some (some (.ref f)))(l:K.lookup f=some ⟨oc,od,.func fd,osl⟩)(hc:fd.code = .ref c)(l2:K.lookup c=some ⟨co,cd',.fields vs,sl⟩)(hv:(vs[11]?:Option Value)=some (.ref P)):W.tabIn K x=some (c,P):=by
 unfold W.tabIn;rw[a];simp only[l,hc,l2,hv]
theorem FW {K:W.Frag} {mg:Str->Option Value} {a:Addr} {od:Option Addr} {n:Nat} {t1 t2 t3 t4:Tok} {sl:Array (Option Value)} (e:mg "ROW_COUNTS" = some (.ref a)) (l:K.lookup a=some ⟨.type "tuple", od,.seq #[.int 1 t1,.int 2 t2,.int 4 t3,.int 8 t4] n,sl⟩):vK K mg:=
 ⟨a,e,λ_=>.inr ⟨_,_,_,l,rfl,rfl,by show 4<=sizeLine;decide,show Vals [.int 1,.int 2,.int 4,.int 8] [.int 1 t1,.int 2 t2,.int 4 t3,.int 8 t4]from .cons ⟨_,rfl⟩ (.cons ⟨_,rfl⟩ (.cons ⟨_,rfl⟩ (.cons ⟨_,rfl⟩ .nil)))⟩⟩
end My
namespace L2
open PySem PySem.Spec PyProof.Rows
noncomputable def MK(K:W.Frag)(n:Nat):R2:=λx y H Q=>A_ K true true n x y H Q\/∃a b xs ys,x = .ref a/\y = .ref b/\ak K H a xs/\ak K H b ys/\xs.length≠ys.length/\Q (.bl true) H
theorem K4{X:Cx}{K:W.Frag}(n:Nat)(h:X.K=K)(hu:X.A.units+1+n<cLine):bj X (compareOp .NotEq) (MK K n):=by
 intro pins s σ H x y v u Q I rx ry hh
 rcases hh with hh|hh
 ·exact K5 true n h hu pins s σ H x y v u Q I rx ry hh
 ·subst h
  obtain⟨a,b,xs,ys,rfl,rfl,ha,hb,hl,q⟩:=hh;cases rx;cases ry;obtain⟨its,r,t1,_⟩:=I.list ha;obtain⟨its2,r',t2,_⟩:=I.list hb;have:(its.toArray.size != its2.toArray.size)=true:=by
   have:its.length≠its2.length:=by rw[<- r.length,<- r'.length];exact hl
   simpa using this
  have hh:=SeqAt.RcNeAt.lists_lengths (A:=X.A) (s:=s) t1.isList t2.isList this (by omega);exact hh _ _ _ _ ⟨.bl true,H,I,rfl,q⟩
end L2
namespace My
open PySem PySem.Spec PyProof.Rows L2
theorem xJ:∀(l:List Nat) (r:Nat),(l.map nV).eraseIdx r=(l.eraseIdx r).map nV
 | [],_=>rfl
 |_::_,0=>rfl
 |x::l,r+1=>by rw[bJ,vQ,vQ,bJ,xJ l r]
theorem Ah{α β:Type}{R:α->β->Prop}:∀{l:List α} {m:List β},Paired R l m->Paired (λa b=>a∈l/\R a b) l m
 |_,_,.nil=>.nil
 |_,_,.cons h r=>.cons ⟨bR ..,h⟩ (Paired.bL (Ah r) λ_ _ ⟨x,y⟩=>⟨bG _ x,y⟩)
theorem yD(H:Hp):∀l:List Nat,Paired (lj H) (l.map nV) (l.map nV)
 | []=>.nil
 |_::l=>.cons (.inl ⟨.inl ⟨_,rfl⟩,rfl⟩) (yD H l)
theorem gZ.same{H H':Hp}{l:Addr}{wd:Nat}(h:gZ H l wd)(s:Same H H'):gZ H' l wd:=let⟨us,e,p⟩:=h;⟨us,s _ _ e,Paired.bL p λ_ _ ⟨t,e,h⟩=>⟨t,e,s _ _ h⟩⟩
theorem xM{H:Hp}{l1 l2:Addr}{wd:Nat}(hw:wd<4)(h1:gZ H l1 wd)(h2:gZ H l2 wd):R4 H (.ref l1) (.ref l2):=by
 obtain⟨us,e1,p1⟩:=h1;obtain⟨vs,e2,p2⟩:=h2;refine .inr ⟨true,l1,l2,us,vs,rfl,rfl,e1,e2,uy (R:=R3 H) (λg x y h1 h2=>?_) (Ah p1) p2,by rw[<- bS p1];have:=(Fl.jW hw).2;omega⟩;obtain⟨hg,t,ex,ht⟩:=h1;obtain⟨u,ey,hu⟩:=h2;subst ex ey;exact .inr ⟨false,t,u,g.map nV,g.map nV,rfl,rfl,ht,hu,yD H g,by rw[aD];have:=(Fl.tD hw hg).1;omega⟩
section
variable {P:Program} {w:World} {K:W.Frag} {mg:Str->Option Value} {base:Heap} {f:Addr} {fd:FuncData}
abbrev jn:Stmt:=top 41
theorem BK:aY ["_law_script","_law_left","_law_number","_law_width","_law_due_here","_law_found","_law_order"] ["_law_script"] (aE jn):=⟨rfl,rfl,rfl,by decide +kernel,rfl,by decide +kernel,by decide +kernel⟩
theorem Ky {C Pt Ps:Addr} (F:aN K "law" "law" jn f fd) (T:Txt mg) (TC:mY K C) (sr:ax P w K mg base "_law_draws" ["_law_cell","_law_many"] 2 u6) (sj:ax P w K mg base "_law_cell_at" ["_law_script","_law_k"] 1 (u5 K)) (sv:ax P w K mg base "_law_fields" ["_law_width"] 2 vb)
  (su:ax P w K mg base "_law_due" ["_law_some"] 1 u9) (iV:ax P w K mg base "fields_of" ["width"] 3 (qe Pt)) (sF:ax P w K mg base "sums_order" ["width"] 8 (vf C Pt Ps)) (iW:ax P w K mg base "_law_same" ["_law_found","_law_due_here"] 4 (fk R4)):aI P w K mg base aJ 9 f fd ["_law_script"] (qh K Pt Ps):=by
 refine F.ok BK (λvs H Q E h=>?_) (λcdv A outer s H vs Q E hr h=>?_)
 ·obtain⟨a,ns,rfl,_⟩:=h
  rfl
 ·obtain⟨a,ns,rfl,hS,hl,jZ,hPt,kk⟩:=h
  have nd:=BK.nd;have hu:=hr.units;have hu1:(A.deeper (envOfC "law" (aE jn) s.heap.objs.size f cdv)).units+1+0<cLine:=by omega
  refine⟨_,(@aH _ _ _ _ _ (bV (i:=1) nd rfl (Or.inl rfl) (iD (La [0,1,2,3,3] rfl)))
   (@aH _ _ _ _ _ (bV (i:=2) nd rfl (Or.inl rfl) (aX (fM (K:=K) rfl) (aW sr hr rfl (ag (aW sj hr rfl (ag (pv 0) (ag aL ai))) (ag aL ai))) aL (λ_ _=>rfl)))
   (@aH _ _ _ _ _ (Mh cz (dO (K4 (K:=K) 0 rfl hu1) (pv 1) (iD ai) (cL _))
   (@aH _ _ _ _ _ (bV (i:=3) nd rfl (Or.inl rfl) (iC (K:=K) rfl h7 PySem.F.slot_list_pop PySem.F.type_list_pop J9 (pv 1) (ag (bD km (pv 2) (bu (dH (K:=K) rfl) rfl T.len dW (ag (pv 1) ai))) ai)))
   (@aH _ _ _ _ _ (bV (i:=2) nd rfl (Or.inl rfl) (bD Ac (pv 2) aL))
   (@aH _ _ _ _ _ (bV (i:=4) nd rfl (Or.inl rfl) (aW sv hr rfl (ag (pv 3) ai)))
   (@aH _ _ _ _ _ (bV (i:=5) nd rfl (Or.inl rfl) (aW iV hr rfl (ag (pv 3) ai)))
   (@aH _ _ _ _ _ (cj (gJ (cN (aW iW hr rfl (ag (pv 5) (ag (pv 4) ai))))) (aC (a8 d8)) cx)
   (@aH _ _ _ _ _ (dN (Lj (K:=K) rfl h7 PySem.F.slot_list_clear PySem.F.type_list_clear J8 (pv 5)))
   (@aH _ _ _ _ _ (bV (i:=6) nd rfl (Or.inl rfl) (aW sF hr rfl (ag (pv 3) ai)))
   (@aH _ _ _ _ _ (cj (gJ (cN (aW iW hr rfl (ag (aW iV hr rfl (ag (pv 3) ai)) (ag (pv 4) ai))))) (aC (a8 d8)) cx)
   (aC (cj (gJ (cN (aW iW hr rfl (ag (gI (ag (Ak (K:=K) rfl (pv 6) rfl) (ag (Ak (K:=K) rfl (pv 6) rfl) ai))) (ag (gI (ag (bu (dH (K:=K) rfl) rfl T.len dW (ag (pv 4) ai)) (ag (aW su hr rfl (ag (pv 4) ai)) ai))) ai))))) (aC (a8 d8)) cx)))))))))))
   (aC (a8 d8))))),?_⟩
  refine⟨by show 5<=sizeLine;decide,λL hL=>?_⟩;dsimp only[aU];show cS _ _ _ [some (.ref a),some (.ref L),none,none,none,none,none] _;have s1:=Same.put (o:=.lst (([0,1,2,3,3]:List Int).map V.int)) hL;refine⟨_,rfl,a,0,ns,rfl,s1.seq hS,λc H2 s2=>⟨c,1,rfl,by decide,λd ds H3 s3 hd0 hd hdl hsm=>?_⟩⟩;obtain⟨z,rfl⟩:=List.length_eq_one_iff.mp hdl;refine⟨d,_,0,_,rfl,rfl,ak.of hd,e9 (j:=0) rfl,?_⟩;dsimp only[aU];show cS _ _ _ [some (.ref a),some (.ref L),some (.int z),none,none,none,none] _;have Nn:=s1.trans (s2.trans s3);refine⟨λm σ H4=>∃(bC:List Nat) (z:Int) (v3 v4 v5 v6:Option V),σ = [some (.ref a),some (.ref L),some (.int z),v3,v4,v5,v6]/\Same H H4/\H4 L=some (.lst (bC.map nV))/\(∀x∈bC,x<4)/\bC.length<=5/\m=bC.length,⟨5,[0,1,2,3,3],z,none,none,none,none,rfl,Nn,(s2.trans s3) _ _ av,by decide,by decide,rfl⟩,?_⟩;rintro m σ H4 ⟨bC,z,v3,v4,v5,v6,rfl,s4,Hl,h4,h5,rfl⟩;refine⟨_,rfl,bE _,λq hq=>?_⟩;have sq:=Same.put (o:=.lst ([]:List V)) hq;have di:=sq _ _ Hl
  by_cases h0:bC = []
  ·subst h0
   refine .inl ⟨L,q,_,_,λ_=>true,rfl,rfl,ak.of di,ak.of av,⟨rfl,λj x y hx hy=>by simp at hy⟩,_,rfl,bf ?_⟩;exact kk _ ((s4.trans sq) _ _ jZ) ((s4.trans sq) _ _ hPt)
  have hpos:0<bC.length:=List.length_pos_iff.mpr h0;refine .inr ⟨L,q,_,_,rfl,rfl,ak.of di,ak.of av,by rw[aD];show bC.length≠0;omega,_,rfl,c7 ?_⟩;refine⟨λσ' H'=>∃m',m'<bC.length/\_,λσ' H' h=>h,?_⟩;obtain⟨r,hr1,er⟩:∃r:Nat,r<bC.length/\z % ((bC.length:Nat):Int)=(r:Int):=
   ⟨(z % ((bC.length:Nat):Int)).toNat,by have h1:=m6 z (show((bC.length:Nat):Int)≠0 by omega);have h2:=qR z (show(0:Int)<((bC.length:Nat):Int)by omega);omega,by have h1:=m6 z (show((bC.length:Nat):Int)≠0 by omega);omega⟩
  have iz:bC[r]<4:=h4 _ (jz hr1);have sM:z % (((bC.map nV).length:Nat):Int)=(r:Int):=by rw[aD];exact er
  refine⟨_,rfl,.inl ⟨rfl,_,ak.of di⟩,_,rfl,_,rfl,L,_,rfl,.inl (ak.of di),_,_,rfl,rfl,by rw[aD];omega,L,_,_,r,nV bC[r],rfl,rfl,di,by rw[sM];omega,by rw[sM];omega,?_,by rw[bB,aq hr1];rfl,?_⟩
  ·rw[sM]
   unfold seqIndex?;simp;omega
  have eE:(bC.map nV).eraseIdx r=(bC.eraseIdx r).map nV:=xJ bC r;have hE:(upd (upd H4 q (.lst [])) L (.lst ((bC.map nV).eraseIdx r))) L=some (.lst ((bC.eraseIdx r).map nV)):=by rw[av,eE]
  have hL0:H L=none:=hL;have sE:Same H (upd (upd H4 q (.lst [])) L (.lst ((bC.map nV).eraseIdx r))):=ky hL0 (s4.trans sq);generalize upd (upd H4 q (.lst [])) L (.lst ((bC.map nV).eraseIdx r))=H6 at hE sE ⊢;generalize bC[r]=wd at iz ⊢;dsimp only[aU];show cS _ _ _ [some (.ref a),some (.ref L),some (.int z),some (nV wd),v4,v5,v6] _;refine⟨_,rfl,_,_,rfl,rfl,⟨by decide,by decide⟩,?_⟩;dsimp only[aU];show cS _ _ _ [some (.ref a),some (.ref L),some (.int (z / 5)),some (nV wd),v4,v5,v6] _;refine⟨_,rfl,wd,rfl,iz,λLd H7 s7 Qa hLd=>?_⟩;dsimp only[aU];show cS _ _ _ [some (.ref a),some (.ref L),some (.int (z / 5)),some (nV wd),some (.ref Ld),v5,v6] _;have t7:=sE.trans s7;refine⟨_,rfl,wd,rfl,iz,t7 _ _ jZ,λLf H8 s8 Hm hLf=>?_⟩;dsimp only[aU];show cS _ _ _ [some (.ref a),some (.ref L),some (.int (z / 5)),some (nV wd),some (.ref Ld),some (.ref Lf),v6] _;refine⟨_,rfl,_,rfl,.ref Lf,.ref Ld,rfl,xM iz hLf (hLd.same s8),λH9 s9=>⟨_,rfl,bf ?_⟩⟩;dsimp only;show cS _ _ _ [some (.ref a),some (.ref L),some (.int (z / 5)),some (nV wd),some (.ref Ld),some (.ref Lf),v6] _;obtain⟨us,hus,_⟩:=hLf.same s9;refine⟨_,rfl,.inl ⟨rfl,_,ak.of hus⟩,Lf,_,rfl,rfl,hus,?_⟩;have Bk:Same H7 (upd H9 Lf (.lst [])):=ky Hm (s8.trans s9);have t10:=t7.trans Bk;show cS _ _ _ [some (.ref a),some (.ref L),some (.int (z / 5)),some (nV wd),some (.ref Ld),some (.ref Lf),v6] _;refine⟨_,rfl,wd,rfl,iz,t10 _ _ jZ,t10 _ _ hPt,λzz P6 Bl Ho=>?_⟩;dsimp only[aU];show cS _ _ _ [some (.ref a),some (.ref L),some (.int (z / 5)),some (nV wd),some (.ref Ld),some (.ref Lf),some (.ref zz)] _;have t11:=t10.trans Bl;refine⟨_,rfl,wd,rfl,iz,t11 _ _ jZ,λLg P7 s12 Qb hLg=>?_⟩;have Bp:=Bk.trans (Bl.trans s12);refine⟨_,rfl,.ref Lg,.ref Ld,rfl,xM iz hLg (hLd.same Bp),λP8 Bm=>⟨_,rfl,bf ?_⟩⟩;have Bq:=Bp.trans Bm;obtain⟨R',hO,hR⟩:=(Ho.same s12).same Bm;obtain⟨dx,vp,vr,vj,vm,o1,o2,_⟩:=id hO;refine⟨_,rfl,zz,C,dx,_,_,rfl,o1,TC.cl,TC.nC,GK _ _ _ _ _,_,rfl,zz,C,dx,_,_,rfl,o1,TC.cl,TC.nP,GL _ _ _ _ _,by show 2<=sizeLine;decide,λt ht=>?_⟩;have sT:=Same.put ht (o:=.tup [V.int (((Fl.aS wd).length:Nat):Int),vp]);have xX:=hLd.same (Bq.trans sT);obtain⟨bq,Ig,Mi⟩:=id xX;refine⟨_,rfl,Ld,_,rfl,.inl (ak.of Ig),_,rfl,Ld,wd,rfl,iz,xX,λq2 ws P9 Np hq2 hwl lY=>?_⟩;refine⟨by show 2<=sizeLine;decide,λt2 H_=>?_⟩;have uO:=Same.put H_ (o:=.tup [V.int ((bq.length:Nat):Int),.ref q2]);have Bn:=Np.trans uO;have Bs:=sT.trans Bn;obtain⟨a',xs,rfl,q1,q3⟩:=o2.same Bs;rw[Le hR]at q3;have yj:=fh.same uO lY;have yr:xs.length<=1000:=by
   have h1:=bS q3;have h2:=bS yj;omega
  refine⟨.ref t,.ref t2,rfl,.inr ⟨false,t,t2,_,_,rfl,rfl,Bn _ _ av,av,.cons (.inl ⟨.inl ⟨_,rfl⟩,?_⟩) (.cons (.inr ⟨false,a',q2,xs,ws,rfl,rfl,q1,uO _ _ hq2,?_,yr⟩) .nil),by show 2<=1000;decide⟩,λP_ Nq=>⟨_,rfl,bf ?_⟩⟩
  ·rw[<- bS Mi]
  ·exact uy (F:=cg _) (G:=cg _) (R:=lj _) (λp x y h1 h2=>Lb h1 h2) q3 yj
  ·have Bo:=s7.trans (Bq.trans (Bs.trans Nq))
   have hel:(bC.eraseIdx r).length<bC.length:=by rw[List.length_eraseIdx,if_pos hr1];omega
   exact⟨_,hel,bC.eraseIdx r,_,_,_,_,_,rfl,sE.trans Bo,Bo _ _ hE,λx hx=>h4 x (List.mem_of_mem_eraseIdx hx),by omega,rfl⟩
end
end My
noncomputable def PySem.W.Fast.tw17537891133390367031 : PySem.Program := PySem.Challenge.pw_evenclimb_k62_fields_of_rows
theorem PySem.W.Fast.te17537891133390367031 : PySem.Challenge.pw_evenclimb_k62_fields_of_rows = PySem.W.Fast.tw17537891133390367031 := rfl
structure PySem.W.Fast:Prop where (te16913616933027829904 tw13688357404187438613 tw11224413883673852072 tw17141118102442912967 tw3070874340451653123 tw5866909507400496967 tw15784938457602884706 tw8290152675446401927 tw18376440237258357273 tw1472484036593582756 tw3173824116311091098 tw7039081872929419908 tw6514576816539359801 tw14457374370811476597 tw5670441551252378969 tw12313202172044812292 tw686806053871085020 tw7470293049292812098 tw17093519316675607129 tw16064545039643370970 tw482278503900975955 tw6510782610602908775 tw17482995916252575929 tw13724715443818616919 tw11645350659256870119 tw6878280300556978392 tw10733060187350468567 tw16573907022710336813 tw1378174437027720476 tw13957775347471924597 tw2017963340555309052 tw48215185904715344 tw5736150887042173497 tw11807210917488333688 tw6969238639296147496 tw6266025769885358447 tw3588552897379105683 tw4606481001413391028 tw4935426030257023139 tw14131711277112948229 tw2034148171773367558 tw12027014675053926028 tw13713228508449122758 tw985384133776532261 tw12104988242689212323 tw10510322328761619150 tw14733773372137762022 tw3330600096396711154 tw16008427928345506361 tw1187803188129276279 tw4688272849340415198 tw15362223096876905797 tw197369801978208831 tw7670466301053188632 tw15134845158370240126 tw8721306668976903278 tw13998538763405489700 tw14913860995532628730 tw5168516637612532149 tw7667581423951269514 tw13371935062080260268 tw14685607285728176933 tw9002276718101736343 tw17096779658083931673 tw8177397546439313684 tw746236095900997499 tw10023640361364112100 tw16219637590372945002 tw2989371915664223439 tw2066513393279519531 tw4561044335722862757 tw2322791202295786181 tw6353226028000464688 tw13372580336795314 tw50677844283201104 tw291732387275284106 tw1296721615761913351 tw15127131677945536048 tw346868068870234493 tw16890925467181814 tw6475215163873229606 tw13212709907129994365 tw1931507753740973016 tw16834706994524756301 tw1976252317749363719 tw3111130459423594041 tw11211414476036839136 tw13414589867062360398 tw11715735366771534587 tw3307578078775614068 tw7867993071710356003 tw16699969282270113625 tw14165119273646045426 tw9578146879799045725 tw8954929327932530003 tw15206713294438070680 tw7038249784564941532 tw4899441572904594929 tw1834690268953746544 tw15146307797489696192 tw2055996761726617420 tw18301641100023843798 tw8517547851485391774 tw1191560640653214282 tw8648411164957534740 tw2872138107048058395 tw11055168509212732863 tw6519095855264023507 tw6841539994813863267 tw13279727132835393228 tw14089916330079865485 tw10454916008003129572 tw10977102995293059030 tw723578831818152956 tw4023912377486767656 tw16024022879669144673 tw675462927279171644 tw1008238739185645945 tw11752620933904208050 tw11128214086745729299 tw983346863949013537 tw16772187693140287017 tw13879580460400414651 tw5512302915098794197 tw6170455527078884389 tw4309340760447004704 tw15243951142441477646 tw17959245304263389438 tw16556816284655337765 tw13300564164558552004 tw5013895003091047281 tw7031722882653594146 tw6300194045204824640 tw6076618710374543394 tw10905364393106225125 tw9390205754856358975 tw6769846519349304390 tw1983855079798919491 tw6928608061337559323 tw9076304139621827003 tw12798051756627751613 tw7985387172552732686 tw9841934678744914436 tw16079539802957906027 tw7508166648197614981 tw10075796015029211539 tw8427466133760404429 tw5730594862981493070 tw2107170826700938193 tw5901881133111801017 tw1453407961219760583 tw10620408408070586727 tw10119418913188093955 tw13381755486349428549 tw17615143679278907186 tw17712324927019976284 tw6430391597100698675 tw1887257659986759001 tw5407498304209113516 tw16246799386698979914 tw15205167172050949430 tw7856175341198664505 tw3293316883817561974 tw13420622068189356128 tw4952299090245656403 tw10970578987067945497 tw3678834093267910028 tw1172556334586233591 tw208878529920261368 tw5929928935774823517 tw17760274284980917939 tw16792895705948158824 tw11516001611708151761 tw9590388136620648124 tw8974461368834525061 tw8100195697290315258 tw3538028946310530052 tw14210994764134745543 tw13870914168861151158 tw12210701408984251480 tw11557142731011821994 tw9972013287257970251 tw8217435519263319943 tw7332350533158724307 tw6224488117578261073 tw2978738289474617669 tw17472013950742809998 tw16484040708173997102 tw15904825940109584973 tw15662135286085296916 tw14689097552099741440 tw12292973596803267609 tw11934802675603942667 tw11804111519037979411 tw1111826408837604680 tw10030430207265771949 tw6662140842070609976 tw17505691041810572492 tw6712283503199712886 tw44356514750940843 tw8861489013518302020 tw2388101382891238345 tw16779957242227006697 tw1727161509302991029 tw11713412057167268496 tw14530033821387666326 tw9383303831545261832 tw2237310470988619184 tw7159229152725228839 tw7044080036597904531 tw6049431160187073787 tw2450747475644030472 tw15947530190662122844 tw15747558233153463260 tw14752143945208795978 tw12478150865011671140 tw11781574175621172559 tw370849979164908560 tw13424336342202036668 tw9648370520714366798 tw9263580498607439790 tw5596885037351761244 tw14226987335728865577 tw14133660731456247413 tw7636588626886943180 tw514411685609869907 tw16697997179195737538 tw11689961012548525004 tw3305981878079822118 tw14070054076710619077 tw13336343408940320522 tw4591844960322604738 tw17947387169405798900 tw17039639214599075254 tw15962923046824929144 tw15216207253654453712 tw1501486296294216384 tw10466414092272781701 tw9590986694820860794 tw9027237327707453200 tw7797931881886507364 tw5308238668435374367 tw5141099268223426295 tw17996733530890259456 tw15935289700332252734 tw13354431284753689956 tw12489444598111050657 tw11685252882245269340 tw9931102277534050702 tw9736888549824127115 tw9146218402390037125 tw898376100090962691 tw8867705266593991365 tw8774447363743496952 tw8632566043123925938 tw8313470935002097270 tw8193080166641496275 tw8009739221085870940 tw7998210300792923487 tw7976261384989777932 tw7839381991362280032 tw7680477992748276853 tw7364331135144721147 tw7219928029539612963:True)
namespace My
open PySem PySem.Spec PyProof.Rows L2
theorem Pj{C:List Value->Prop}(h:C []):∀us:List Value,us.length=0->C us:=λ_ e=>vW.mp e▸h
theorem vC{C:List Value->Prop}{n:Nat}(h:∀(a:Value) (us:List Value),us.length=n->C (a::us)):∀us:List Value,us.length=n+1->C us:=λus e=>by
 cases us with
 |nil=>cases e
 |cons a r=>exact h a r (Nat.succ.inj e)
theorem dP{C:List Value->Prop}(h:∀a0,C [a0]):∀us:List Value,us.length=1->C us:=vC λa=>Pj (C:=λr=>C (a::r)) (h a)
theorem bq{C:List Value->Prop}(h:∀a0 a1,C [a0,a1]):∀us:List Value,us.length=2->C us:=vC λa=>dP (C:=λr=>C (a::r)) (h a)
theorem kG{C:List Value->Prop}(h:∀a0 a1 a2,C [a0,a1,a2]):∀us:List Value,us.length=3->C us:=vC λa=>bq (C:=λr=>C (a::r)) (h a)
set_option maxHeartbeats 0 in
theorem all_mk {l:W.OpenLaw} {w:World} {K:W.Frag} {h:Heap} {mg:Str->Option Value} {fa C c0 P0 c1 P1:Addr} (X:K.In h) (G:h.Ns mainGlobals mg) (hfa:mg "law" = some (.ref fa)) (tx:jN K)
  (cO:ClsAt K "Order" "Order.__init__" pT C) (nC:W.findIn K (.ref C) "count" = some none) (nP:W.findIn K (.ref C) "pairs" = some none) (nR:W.findIn K (.ref C) "reach" = some none) (nJ:W.findIn K (.ref C) "joins" = some none) (nM:W.findIn K (.ref C) "meets" = some none)
  (ht:W.tabIn K "fields_of" = some (c0,P0))
  (ht1:W.tabIn K "sums_order" = some (c1,P1))
  (um:W.nsIn K mainGlobals "set" = some none)
  {wQ J_:Nat} {FZ:Option Addr} {Ou Ov Ow Ox:Tok} {Nu:Array (Option Value)} (uq:W.nsIn K mainGlobals "ROW_COUNTS" = some (some (.ref wQ)))
  (uf:K.lookup wQ=some ⟨.type "tuple", FZ,.seq #[.int 1 Ou,.int 2 Ov,.int 4 Ow,.int 8 Ox] J_,Nu⟩)
  (oC:aF K "is_whole" uQ)
  (oB:aF K "is_thing" uP)
  (oI:aF K "need_thing" u0)
  (oE:aF K "need_count" uW)
  (oH:aF K "need_pairs" uZ)
  (oJ:aF K "own_row" p6)
  (oy:aF K "either" pV)
  (oN:aF K "shared" p8)
  (ox:aF K "column" pU)
  (oM:aF K "reach_of" mM)
  (oO:aF K "twos" p9)
  (oG:aF K "need_one_way" uY)
  (oA:aF K "ends_with" pX)
  (oz:aF K "ends_of" pW)
  (oF:aF K "need_ends" uX)
  (oK:aF K "pairs_of" p7)
  (sS:aF K "_law_cell_at" uR)
  (sZ:aF K "_law_mixed" uU)
  (sU:aF K "_law_draws" uS)
  (tj:aF K "order_by" p5)
  (sO:aF K "field_with" pZ)
  (sP:aF K "fields_of" jm)
  (tm:aF K "sums_order" mN)
  (sY:aF K "_law_is_field" uT)
  (sW:aF K "_law_fields" kx)
  (iZ:aF K "_law_same" uV)
  (sV:aF K "_law_due" p4)
  (sQ:aF K "law" jn) :
  ∃fd:FuncData,(∀(s:Shared) (v:Value),BindsTo s fd ⟨[v],[]⟩ [("_law_script", v)])/\∀base:Heap,K.In base->base.Ns mainGlobals mg->TabAt base mg c0 P0->TabAt base mg c1 P1->aI l.prog w K mg base aJ 40 fa fd ["_law_script"] (qh K P0 P1):=by
 have T:=tx.txt X G;have TC:mY K C:=⟨cO.cl,nC,nP,nR,nJ,nM⟩;obtain⟨f,fd,a,F⟩:=sQ.ex;have e:=hfa.symm.trans (W.mg_of X G a);cases e;obtain⟨oc,od,kV,doc,pm,an,cdv,ct,osl,rfl,lk,hcd⟩:=id F.ex;refine⟨W.fnOf "law" "law" (gg jn) (eQ jn) (aE jn) .none kV doc pm an cdv ct,λs v=>.of_eq rfl,λbase _ _ tb O1=>?_⟩;have tF:=W.mg_none_of X G um;have vv:=FW (W.mg_of X G uq) uf;have eP:ax l.prog w K mg base "is_whole" ["value"] 1 kA:=oC.cal X G (λ_ _ _ _ _ _=>dP λ_=>rfl) (λF=>zV F T);have lD:ax l.prog w K mg base "is_thing" ["count","number"] 2 qg:=oB.cal X G (λ_ _ _ _ _ _=>bq λ_ _=>rfl) (λF=>zU F T eP);have jR:ax l.prog w K mg base "need_thing" ["count","number"] 3 qm:=oI.cal X G (λ_ _ _ _ _ _=>bq λ_ _=>rfl) (λF=>z0 F T lD);have lE:ax l.prog w K mg base "need_count" ["count"] 2 qi:=oE.cal X G (λ_ _ _ _ _ _=>dP λ_=>rfl) (λF=>zW F T eP);have lH:ax l.prog w K mg base "need_pairs" ["count","pairs"] 4 (ql K):=oH.cal X G (λ_ _ _ _ _ _=>bq λ_ _=>rfl) (λF=>zZ F T jR);have lI:ax l.prog w K mg base "own_row" ["count","thing"] 1 qo:=oJ.cal X G (λ_ _ _ _ _ _=>bq λ_ _=>rfl) (λF=>z7 F T);have lB:ax l.prog w K mg base "either" ["one","other"] 1 qb:=oy.cal X G (λ_ _ _ _ _ _=>bq λ_ _=>rfl) (λF=>zQ F T);have lL:ax l.prog w K mg base "shared" ["one","other"] 1 qt:=oN.cal X G (λ_ _ _ _ _ _=>bq λ_ _=>rfl) (λF=>Aa F T);have lA:ax l.prog w K mg base "column" ["rows","place"] 1 qa:=ox.cal X G (λ_ _ _ _ _ _=>bq λ_ _=>rfl) (λF=>zP F T);have lK:ax l.prog w K mg base "reach_of" ["count","pairs"] 2 (qq K):=oM.cal X G (λ_ _ _ _ _ _=>bq λ_ _=>rfl) (λF=>z_ F T lI lB);have gf:ax l.prog w K mg base "twos" ["count"] 1 mP:=oO.cal X G (λ_ _ _ _ _ _=>dP λ_=>rfl) (λF=>Ab F T);have lG:ax l.prog w K mg base "need_one_way" ["count","reach"] 2 qk:=oG.cal X G (λ_ _ _ _ _ _=>bq λ_ _=>rfl) (λF=>zY F T gf);have lC:ax l.prog w K mg base "ends_with" ["rows","things","thing"] 2 (qd K):=oA.cal X G (λ_ _ _ _ _ _=>kG λ_ _ _=>rfl) (λF=>zS F T lL);have jQ:ax l.prog w K mg base "ends_of" ["rows"] 3 (qc K):=oz.cal X G (λ_ _ _ _ _ _=>dP λ_=>rfl) (λF=>zR F T lC);have lF:ax l.prog w K mg base "need_ends" ["count","joins","meets"] 2 qj:=oF.cal X G (λ_ _ _ _ _ _=>kG λ_ _ _=>rfl) (λF=>zX F T gf);have lJ:ax l.prog w K mg base "pairs_of" ["count","reach"] 1 qp:=oK.cal X G (λ_ _ _ _ _ _=>bq λ_ _=>rfl) (λF=>z9 F T);have og:kL l.prog w K mg base C "Order" ["self","count","pairs"] 5 (qf K C):=cO.cal X G (λ_ _ _ _ _ _=>kG λ_ _ _=>rfl) (λF=>zT F T TC lE lH lK lG jQ lA lF lJ);have sj:ax l.prog w K mg base "_law_cell_at" ["_law_script","_law_k"] 1 (u5 K):=sS.cal X G (λ_ _ _ _ _ _=>bq λ_ _=>rfl) (λF=>Kr F T);have sC:ax l.prog w K mg base "_law_mixed" ["_law_cell","_law_place"] 1 vd:=sZ.cal X G (λ_ _ _ _ _ _=>bq λ_ _=>rfl) (λF=>KC F T);have sr:ax l.prog w K mg base "_law_draws" ["_law_cell","_law_many"] 2 u6:=sU.cal X G (λ_ _ _ _ _ _=>bq λ_ _=>rfl) (λF=>Ks F T sC);have sD:qO l.prog w K mg "order_by" ["things","is_at_most"] 7 1 2 (ve K C):=by
  obtain⟨f,fd,a,F⟩:=tj.ex;refine⟨f,fd,λbase p iH LO=>?_,W.mg_of X G a,F.kp,F.binds (λ_ _ _ _ _ _=>bq λ_ _=>rfl)⟩;have eP:ax l.prog w K mg base "is_whole" ["value"] 1 kA:=oC.cal X G (λ_ _ _ _ _ _=>dP λ_=>rfl) (λF=>zV F T);have lD:ax l.prog w K mg base "is_thing" ["count","number"] 2 qg:=oB.cal X G (λ_ _ _ _ _ _=>bq λ_ _=>rfl) (λF=>zU F T eP);have jR:ax l.prog w K mg base "need_thing" ["count","number"] 3 qm:=oI.cal X G (λ_ _ _ _ _ _=>bq λ_ _=>rfl) (λF=>z0 F T lD);have lE:ax l.prog w K mg base "need_count" ["count"] 2 qi:=oE.cal X G (λ_ _ _ _ _ _=>dP λ_=>rfl) (λF=>zW F T eP);have lH:ax l.prog w K mg base "need_pairs" ["count","pairs"] 4 (ql K):=oH.cal X G (λ_ _ _ _ _ _=>bq λ_ _=>rfl) (λF=>zZ F T jR);have lI:ax l.prog w K mg base "own_row" ["count","thing"] 1 qo:=oJ.cal X G (λ_ _ _ _ _ _=>bq λ_ _=>rfl) (λF=>z7 F T);have lB:ax l.prog w K mg base "either" ["one","other"] 1 qb:=oy.cal X G (λ_ _ _ _ _ _=>bq λ_ _=>rfl) (λF=>zQ F T);have lL:ax l.prog w K mg base "shared" ["one","other"] 1 qt:=oN.cal X G (λ_ _ _ _ _ _=>bq λ_ _=>rfl) (λF=>Aa F T);have lA:ax l.prog w K mg base "column" ["rows","place"] 1 qa:=ox.cal X G (λ_ _ _ _ _ _=>bq λ_ _=>rfl) (λF=>zP F T);have lK:ax l.prog w K mg base "reach_of" ["count","pairs"] 2 (qq K):=oM.cal X G (λ_ _ _ _ _ _=>bq λ_ _=>rfl) (λF=>z_ F T lI lB);have gf:ax l.prog w K mg base "twos" ["count"] 1 mP:=oO.cal X G (λ_ _ _ _ _ _=>dP λ_=>rfl) (λF=>Ab F T);have lG:ax l.prog w K mg base "need_one_way" ["count","reach"] 2 qk:=oG.cal X G (λ_ _ _ _ _ _=>bq λ_ _=>rfl) (λF=>zY F T gf);have lC:ax l.prog w K mg base "ends_with" ["rows","things","thing"] 2 (qd K):=oA.cal X G (λ_ _ _ _ _ _=>kG λ_ _ _=>rfl) (λF=>zS F T lL);have jQ:ax l.prog w K mg base "ends_of" ["rows"] 3 (qc K):=oz.cal X G (λ_ _ _ _ _ _=>dP λ_=>rfl) (λF=>zR F T lC);have lF:ax l.prog w K mg base "need_ends" ["count","joins","meets"] 2 qj:=oF.cal X G (λ_ _ _ _ _ _=>kG λ_ _ _=>rfl) (λF=>zX F T gf);have lJ:ax l.prog w K mg base "pairs_of" ["count","reach"] 1 qp:=oK.cal X G (λ_ _ _ _ _ _=>bq λ_ _=>rfl) (λF=>z9 F T);have og:kL l.prog w K mg base C "Order" ["self","count","pairs"] 5 (qf K C):=cO.cal X G (λ_ _ _ _ _ _=>kG λ_ _ _=>rfl) (λF=>zT F T TC lE lH lK lG jQ lA lF lJ);exact KJ F T og LO
 have si:ax l.prog w K mg base "field_with" ["field","row"] 2 u_:=sO.cal X G (λ_ _ _ _ _ _=>bq λ_ _=>rfl) (λF=>Kv F T tF);have iV:ax l.prog w K mg base "fields_of" ["width"] 3 (qe P0):=sP.xh X G (λ_ _ _ _ _ _=>dP λ_=>rfl) ht (λF hc=>Kw F hc tb T vv eP si);have sF:ax l.prog w K mg base "sums_order" ["width"] 8 (vf C P0 P1):=tm.xh X G (λ_ _ _ _ _ _=>dP λ_=>rfl) ht1 (λF hc=>KH F hc O1 T TC iV sD);have sy:ax l.prog w K mg base "_law_is_field" ["_law_rows"] 1 va:=sY.cal X G (λ_ _ _ _ _ _=>dP λ_=>rfl) (λF=>Kx F T);have sv:ax l.prog w K mg base "_law_fields" ["_law_width"] 2 vb:=sW.cal X G (λ_ _ _ _ _ _=>dP λ_=>rfl) (λF=>Kz F T sy);have c0:ax l.prog w K mg base "_law_same" ["_law_found","_law_due_here"] 0 (fk m5):=iZ.cal X G (λ_ _ _ _ _ _=>bq λ_ _=>rfl) (λ_=>KD);have c1:ax l.prog w K mg base "_law_same" ["_law_found","_law_due_here"] 1 (fk R1):=iZ.cal X G (λ_ _ _ _ _ _=>bq λ_ _=>rfl) (λF=>pA oQ F T c0);have c2:ax l.prog w K mg base "_law_same" ["_law_found","_law_due_here"] 2 (fk lj):=iZ.cal X G (λ_ _ _ _ _ _=>bq λ_ _=>rfl) (λF=>pA (Like.mono oQ) F T c1);have c3:ax l.prog w K mg base "_law_same" ["_law_found","_law_due_here"] 3 (fk R3):=iZ.cal X G (λ_ _ _ _ _ _=>bq λ_ _=>rfl) (λF=>pA (Like.mono (Like.mono oQ)) F T c2);have iW:ax l.prog w K mg base "_law_same" ["_law_found","_law_due_here"] 4 (fk R4):=iZ.cal X G (λ_ _ _ _ _ _=>bq λ_ _=>rfl) (λF=>pA (Like.mono (Like.mono (Like.mono oQ))) F T c3);have su:ax l.prog w K mg base "_law_due" ["_law_some"] 1 u9:=sV.cal X G (λ_ _ _ _ _ _=>dP λ_=>rfl) (λF=>Ku F T);exact(Ky F T TC sr sj sv su iV sF iW).mono (by decide)
end My
open PySem PySem.W PyProof.Rows
set_option maxRecDepth 100000 in
set_option maxHeartbeats 0 in
theorem PySem.Challenge.cw_evenclimb_k62_fields_of_rows_holds : PySem.Challenge.rw_evenclimb_k62_fields_of_rows.Holds := by
 w_on;o_law;k_head;(case hw=>w_witness2)
 k_fill
 refine' My.Pl (l:=PySem.Challenge.rw_evenclimb_k62_fields_of_rows) rfl rfl (λw h Y=>⟨PySem.W.km_in_of Y,PySem.W.km_tabs_of Y _ (List.Mem.tail _ (List.Mem.head _)),PySem.W.km_tabs_of Y _ (List.Mem.head _)⟩) ?hT ?hT1 ?noT ?hne ?F
 case F =>
  intro w mg fa h KX G hmg
  refine' My.all_mk KX G hmg ?tx ?cO ?nC ?nP ?nR ?nJ ?nM ?ht ?ht1 ?um ?uq ?uf ?oC ?oB ?oI ?oE ?oH ?oJ ?oy ?oN ?ox ?oM ?oO ?oG ?oA ?oz ?oF ?oK ?sS ?sZ ?sU ?tj ?sO ?sP ?tm ?sY ?sW ?iZ ?sV ?sQ
  (case tx=>(refine' My.jN.mk' ?l1 ?l2 ?l3 ?l4 ?l5 ?l6 ?l7 ?l8 ?l9 ?l10 ?t8 ?t9 ?t_ ?ua ?ub ?uc ?m);(case l1=>k_is);(case l2=>k_is);(case l3=>k_is);(case l4=>k_is);(case l5=>k_is);(case l6=>k_is);(case l7=>k_is);(case l8=>k_is);(case l9=>k_is);(case l10=>k_is);(case t8=>k_is);(case t9=>k_is);(case t_=>k_is);(case ua=>k_is);(case ub=>k_is);(case uc=>k_is);(case m=>k_is);skip)
  (case cO=>(refine' My.ClsAt.mk' ?ns ?pg ?hd ?po ?sa ?mk ?kc ?a ?i ?l ?c ?k);(case ns=>k_is);(case pg=>k_is);(case hd=>k_is);(case po=>k_is);(case sa=>k_is);(case mk=>k_is);(case kc=>k_is);(case a=>k_is);(case i=>k_is);(case l=>k_is);(case c=>k_is);(case k=>k_is))
  (case nC|nP|nR|nJ|nM=>k_is)
  (case ht|ht1=>((refine' My.Dj ?a ?l ?c ?l2 ?v);(case a=>k_is);(case l=>k_is);(case c=>exact rfl);(case l2=>k_is);(case v=>exact rfl)))
  (case um|uq|uf=>k_is)
  (case oC|oB|oI|oE|oH|oJ|oy|oN|ox|oM|oO|oG|oA|oz|oF|oK|sS|sZ|sU|tj|sO|sP|tm|sY|sW|iZ|sV|sQ=>(refine' My.aF.mk' ?a ?l ?c ?k);(case a=>k_is);(case l=>k_is);(case c=>k_is);(case k=>k_is))
 case hT=>(intro w;kernel_rfl)
 case hT1=>(intro w;kernel_rfl)
 case hne=>decide
 case noT=>(intro w;kernel_rfl)
