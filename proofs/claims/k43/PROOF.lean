import PyProof.Rows.All
import KE.KNest
import KE.KRevSl
import KE.KSortAsk
import KE.KTryMore
import KE.RegKIsAll
import KE.RegKTryMore
import Lean
import OpenK.AllK
import PyProof.Dict
import PyProof.EqAt
import PyProof.EqKinds
import PyProof.ExcAttrAll.ValueError
import PyProof.ExcBaseAll.ValueError
import PyProof.ExcInit
import PyProof.FString
import PyProof.InstStoreFacts
import PyProof.NeKinds
import PyProof.NsDelKeeps
import PyProof.ReprHeadsTuple
import PyProof.ReprNest
import PyProof.TupleCall
import Wide.All
import Wide.FinOn
import PySem.Challenge.RW_evenclimb_k43_what_paired_and_longer_ref
set_option Elab.async false
set_option linter.all false
set_option maxRecDepth 100000
set_option maxHeartbeats 8000000
def ai:=@PySem.wpAny_bind
def az:=@List.length_map
def aB:=@List.getElem?_eq_getElem
def aI:=@PySem.wpAny_pure
def aO:=@List.getD_eq_getElem?_getD
def aQ:=@PySem.Heap.lt_size
def aU:=@PySem.Heap.get?_push_of_some
def aW:=@Nat.le_refl
def bp:=@List.length_append
def bq:=@List.mem_cons
def bu:=@Nat.ne_of_lt
def bD:=@Bool.and_eq_true
def bJ:=@Ne.symm
def bN:=@List.getElem?_eq_some_iff
def bO:=@List.getElem?_map
def bP:=@List.size_toArray
def bU:=@decide_eq_false
def b9:=@List.mem_cons_self
def b_:=@Nat.le_trans
def cn:=@PySem.Heap.get?_push_size
def cu:=@List.mem_cons_of_mem
def cA:=@PySem.PassesOwn.never
def cB:=@decide_eq_true
def cL:=@List.map_cons
def cT:=@List.mem_filter
def cW:=@List.mem_map
def c9:=@Nat.lt_of_lt_of_le
def da:=@Option.some.inj
def dg:=@Int.toNat_natCast
def dh:=@Nat.le_of_lt
def dq:=@PySem.Paired.length
def dG:=@List.mem_of_getElem?
def dQ:=@Bool.eq_iff_iff
def dS:=@List.mem_range
def dU:=@PySem.F.plainAttrs_list
def dW:=@PySem.W.mg_of
def dX:=@PySem.wpAny_field
def eh:=@List.map_append
def eB:=@Nat.ne_of_gt
def eD:=@Nat.zero_le
def eE:=@PyProof.Rows.boot_isinstance
def eF:=@PySem.wpAny_holding
def eG:=@PySem.wpAny_mono
def eN:=@Bool.not_eq_true'
def eZ:=@List.map_map
def fb:=@List.not_mem_nil
def fj:=@or_false
def ft:=@List.getElem_mem
def fu:=@Nat.lt_irrefl
def fz:=@PySem.boot_len
def fB:=@decide_eq_false_iff_not
def fJ:=@PySem.Heap.size_push
def fK:=@PySem.W.mg_none_of
def fO:=@decide_eq_true_iff
def fX:=@Bool.true_and
def fZ:=@List.all_eq_true
def f6:=@List.mem_append
def gi:=@if_false
def gE:=@List.mem_append_right
def gF:=@PySem.F.slot_list_append
def gR:=@Int.zero_add
def gS:=@PySem.F.type_list_append
def h7:=@Bool.false_eq_true
def h_:=@List.append_nil
def ie:=@List.lookup_cons
def ig:=@PySem.Heap.get?_update_other
def ik:=@PySem.Heap.get?_update_self
def il:=@beq_iff_eq
def iG:=@List.getElem_of_mem
def iH:=@List.length_range
def iI:=@List.mem_singleton
def iJ:=@List.nodup_cons
def iL:=@PySem.W.kia_one
def iX:=@Bool.false_and
def iZ:=@List.append_assoc
def i_:=@List.length_drop
def ja:=@List.range_succ
def jb:=@PySem.mem_of_lookup
def jd:=@PySem.wpAny_seqItems
def je:=@PySem.wpAny_truthy_bool
def jB:=@Array.length_toList
def jC:=@List.getElem?_append_left
def jD:=@List.getElem_map
def jE:=@List.length_cons
def jO:=@if_true
def kf:=@Decidable.byContradiction
def km:=@List.getElem?_append_right
def ko:=@List.mem_append_left
def kx:=@beq_eq_false_iff_ne
def lD:=@Array.getElem?_eq_some_iff
def lG:=@Int.le_refl
def lI:=@List.ext_getElem
def lJ:=@List.getElem_range
def lK:=@List.length_take
def lL:=@List.mem_flatMap
def lM:=@PySem.F.slot_list_index
def lN:=@PySem.F.slot_zip_next
def lO:=@PySem.call_meets
def lP:=@PySem.codeAny_mono
def lQ:=@PySem.wpAny_call
def mO:=@Int.emod_nonneg
def mQ:=@List.getElem?_range
def mR:=@List.length_filter_le
def mS:=@List.length_singleton
def mU:=@List.map_congr_left
def mV:=@List.map_drop
def mW:=@List.take_of_length_le
def mX:=@Nat.lt_of_le_of_lt
def m8:=@PyProof.Rows.callWith_type1
def m9:=@PySem.Obj.data_mapFields
def m_:=@PySem.wpAny_Call_Name_kw
def nh:=@PySem.wpAny_attempt
def ni:=@PySem.wpAny_call_entry
def nj:=@PySem.wpAny_passesOwn
def nq:=@PySem.wpAny_setField_rec
def nr:=@PySem.wpAny_standAt
def o9:=@Int.le_trans
def ph:=@List.any_cons
def pj:=@List.any_eq_true
def pq:=@List.filter_append
def pw:=@List.find?_cons
def pz:=@List.flatMap_cons
def pA:=@List.forIn_cons
def pB:=@List.getElem_idxOf
def pC:=@List.idxOf_lt_length_iff
def pD:=@List.pairwise_map
def pG:=@Option.bind_some
def pI:=@PySem.F.plain_extend_loop
def pJ:=@PySem.Heap.get?_update_ne
def pK:=@PySem.wpAny_callSpecial?_slot
def pL:=@PySem.wpAny_pyIter_list
def pM:=@PySem.wpAny_rule
def pZ:=@decide_eq_decide
def rO:=@Int.emod_lt_of_pos
def rP:=@Int.not_lt
def rS:=@List.cons.injEq
def rT:=@List.drop_zero
def rV:=@List.filterMap_cons
def rW:=@List.forIn_nil
def rX:=@List.getElem?_set_ne
def rY:=@List.map_nil
def rZ:=@List.replicate_succ
def r0:=@List.take_add_one
def r9:=@List.take_length
def sd:=@Nat.and_assoc
def sf:=@Nat.le_of_not_lt
def si:=@Nat.lt_succ_self
def sj:=@Option.map_some
def sr:=@PyProof.Rows.listItems_at
def su:=@PySem.Calls.evalArgs_plain
def sv:=@PySem.F.excBase_ValueError
def sy:=@PySem.F.type_list_index
def sA:=@PySem.Heap.size_update
def sC:=@PySem.Obj.isFreed_of_fields
def sD:=@PySem.ReprIs.int
def sE:=@PySem.codeAny_builtin
def sF:=@PySem.int_text_length_le
def sG:=@PySem.wpAny_execs_nil
def sH:=@PySem.wpAny_letGo
def sI:=@PySem.wpAny_loadPart_at
def sJ:=@PySem.wpAny_setField
def sM:=@PySem.wpAny_specialOf
def sN:=@PySem.wpAny_updateSeq
def uB:=@of_decide_eq_true
def wa:=@Bool.and_false
def wc:=@Bool.or_false
def wj:=@Int.le_of_lt
def wq:=@List.all_cons
def wt:=@List.flatMap_append
def wu:=@List.flatMap_def
def wx:=@List.flatten_cons
def wz:=@List.getElem?_set_self
def wA:=@List.getElem_inj
def wB:=@List.nodup_nil
def wC:=@List.of_mem_zip
def wD:=@List.pairwise_lt_range
def wF:=@List.zip_cons_cons
def wH:=@Nat.and_comm
def wI:=@Nat.and_self
def wJ:=@Nat.le_succ
def wK:=@Nat.not_lt_zero
def wL:=@PySem.F.args_zip_next_1
def wM:=@PySem.F.entry_zip_next
def wN:=@PySem.F.slot_bool_hash
def wO:=@PySem.F.slot_tuple_iterator_next
def wQ:=@PySem.Heap.get?_none_of_le
def wR:=@PySem.Heap.size_after_update
def wU:=@PySem.Paired.snoc
def wV:=@PySem.SeqAt.EqAt.bool_bool
def wW:=@PySem.SeqAt.EqAt.same
def wX:=@PySem.seqIndex_of
def wY:=@PySem.sizeLine_eq
def wZ:=@PySem.wpAny_newObj_type
def w5:=@PySem.wpAny_onRaise
def Ff:=@Array.forIn_toList
def Fh:=@Bool.and_true
def Fi:=@Bool.not_eq_false'
def Fj:=@Bool.not_false
def Fl:=@Bool.or_eq_true
def Fn:=@Classical.byContradiction
def Ft:=@List.any_eq_false
def Fu:=@List.cons_append
def Fv:=@List.dropLast_concat_getLast
def Fw:=@List.filter_congr
def Fx:=@List.filter_map
def Fy:=@List.flatMap_nil
def Fz:=@List.getElem?_replicate
def FG:=@List.length_nil
def FH:=@List.length_replicate
def FJ:=@List.length_set
def FK:=@List.mem_of_mem_drop
def FN:=@List.nil_append
def FP:=@List.nodup_append
def FQ:=@List.nodup_range
def FT:=@List.pairwise_iff_getElem
def FV:=@List.zipIdx_cons
def FW:=@List.zipIdx_nil
def FX:=@Nat.add_comm
def FZ:=@Nat.le_add_right
def Ga:=@Nat.le_of_eq
def Gb:=@Nat.lt_trans
def Gd:=@Nat.min_eq_left
def Ge:=@Nat.min_eq_right
def Gf:=@Option.getD_some
def Gg:=@Option.some.injEq
def Gi:=@PySem.Around.under_plainId
def Gj:=@PySem.Calls.callWith_builtin
def Gk:=@PySem.Calls.spliced_cons
def Gm:=@PySem.Calls.spliced_nil
def Gn:=@PySem.Code.quiet_builtin
def Gp:=@PySem.F.args_list_index_2
def Gq:=@PySem.F.entry_extend_loop
def Gr:=@PySem.F.entry_list_index
def Gs:=@PySem.F.slot_dict_get
def Gu:=@PySem.F.slot_list_extend
def Gv:=@PySem.Heap.get?_push_at
def Gw:=@PySem.SeqAt.EqAt.of_refs
def Gx:=@PySem.SeqAt.list_indexAt
def Gy:=@PySem.codeAny_call_builtin
def Gz:=@PySem.wpAny_eqBool_int
def GC:=@PySem.wpAny_pyIter_zip
def GD:=@PySem.wpAny_updateSeq_pair
def G4:=@beq_self_eq_true
def Pr:=@Classical.choose_spec
def PB:=@Int.fdiv_eq_ediv_of_nonneg
def PJ:=@List.eraseIdx_cons_succ
def PK:=@List.getElem?_take_of_lt
def PL:=@List.length_pos_of_mem
def PN:=@List.mem_or_eq_of_mem_set
def PQ:=@List.not_of_lt_findIdx
def PX:=@List.pairwise_flatMap
def P1:=@Nat.lt_of_succ_lt_succ
def P5:=@PySem.F.args_dict_get_2
def P6:=@PySem.F.args_tuple_iterator_next_1
def P7:=@PySem.F.entry_dict_get
def P8:=@PySem.F.entry_tuple_iterator_next
def P9:=@PySem.F.type_list_extend
def P_:=@PySem.W.cellsFrom_some
def Qa:=@PySem.plainObj_wpAny_Assign_Attribute

set_option genSizeOf false
namespace L2
open PySem PySem.Spec PyProof.Rows
abbrev Key:=Sum Int Str
def ox:Int->Value->Bool
 |k,.bool b=>k == (if b then 1 else 0)
 |_,_=>false
def kK:Key->Value->Bool
 |.inl k,v=>Value.isInt k v||ox k v
 |.inr x,v=>Value.isStrOf x v
def Vk(w:World):Key->Int
 |.inl k=>hashInt k
 |.inr x=>hashStr w x
theorem Va{k:Int}{v:Value}(h:ox k v=true):∃b:Bool,k=(if b then 1 else 0)/\v=Value.bool b:=by
 cases v with
 |bool b=>exact⟨b,by simpa[ox]using h,rfl⟩
 |_=>simp[ox]at h
theorem iU:∀{k:Key} {v:Value},kK k v=true->(∃i t,k=Sum.inl i/\v=Value.int i t)\/(∃x t,k=Sum.inr x/\v=Value.str x t)\/(∃b:Bool,k=Sum.inl (if b then 1 else 0)/\v=Value.bool b)
 |.inl i,v,h=>by
  rcases(Fl _ _).mp (show(Value.isInt i v||ox i v)=true from h)with h|h
  ·obtain⟨t,e⟩:=Value.isInt_shape (k:=i) (v:=v) h
   exact .inl ⟨i,t,rfl,e⟩
  ·obtain⟨b,e,e'⟩:=Va h
   exact .inr (.inr ⟨b,by rw[e],e'⟩)
 |.inr x,v,h=>by
  obtain⟨t,e⟩:=Value.isStrOf_shape (x:=x) (v:=v) h;exact .inr (.inl ⟨x,t,rfl,e⟩)
theorem Vm(i:Int)(t:Tok):kK (.inl i) (.int i t)=true:=by simp[kK,Value.isInt]
theorem Vn(x:Str)(t:Tok):kK (.inr x) (.str x t)=true:=by simp[kK,Value.isStrOf]
theorem Vl(b:Bool):kK (.inl (if b then 1 else 0)) (.bool b)=true:=by cases b <;> simp[kK,ox]
theorem Tv{prog:Program}{w:World}{A:Around}{E:Value->Shared->Prop}{s:Shared}{b:Bool}{Q:Int->Shared->Prop}(h:Q (hashInt (if b then 1 else 0)) {s with toks:=s.toks+1}):
  wpAny (model prog w) A (pyHash (.bool b)) Q E s:=by
 have hr:=rawHash_range (if b then 1 else 0);have hT:s.TypeIs (.bool b) "bool" :=rfl;unfold pyHash;have hv:[Value.bool b].any Value.onHeap=false:=rfl;refine ai ?_;rw[cRoomFor,if_neg (by rw[hv];exact Bool.false_ne_true)];refine aI ?_;refine ai (sM hT wN.lookup ?_);show wpAny _ _ (if(some (Value.builtin "int.__hash__") == some Value.none)=true then _ else _) Q E s;rw[if_neg (by rw[beq_builtin_none];exact Bool.false_ne_true)];refine ai (sM hT wN.lookup ?_);show wpAny _ _ (callSpecialIfBoundUnlessNone? (.bool b) "__hash__" _ >>= _) Q E s;refine ai (wpAny_callSpecialIfBoundUnlessNone?_slot hT wN
  (ni wN hT entry_int_hash
   (show wpAny _ _ (do ret (<- mkInt (rawHash (if b then 1 else 0)))) _ _ s from wpAny_ret_mkInt ?_) (args_int_hash _)))
 show wpAny _ _ (if(decide (-(2:Int) ^ 63<=rawHash (if b then 1 else 0))&&decide (rawHash (if b then 1 else 0)<2 ^ 63))=true then _ else _) Q E _;rw[if_pos (by rw[cB hr.1,cB hr.2];rfl)];exact aI h
theorem ui(a b:Int):decide ((Sum.inl a:Key)=Sum.inl b)=(a == b):=by
 by_cases e:a=b
 ·subst e;simp
 ·have h:¬ (Sum.inl a:Key)=Sum.inl b:=λq=>e (Sum.inl.inj q)
  rw[bU h];exact(kx.mpr e).symm
theorem Vq(a b:Str):decide ((Sum.inr a:Key)=Sum.inr b)=decide (a=b):=by
 by_cases e:a=b
 ·subst e;simp
 ·have h:¬ (Sum.inr a:Key)=Sum.inr b:=λq=>e (Sum.inr.inj q)
  rw[bU h,bU e]
theorem JV(a:Int)(b:Str):decide ((Sum.inl a:Key)=Sum.inr b)=false:=bU (λq=>nomatch q)
theorem JW(a:Str)(b:Int):decide ((Sum.inr a:Key)=Sum.inl b)=false:=bU (λq=>nomatch q)
def fW(prog:Program)(w:World):PySem.KeyKind prog w Key where
 is:=kK
 hash:=Vk w
 inj:=λv a b ha hb=>by
  rcases iU ha with⟨i,t,rfl,rfl⟩|⟨x,t,rfl,rfl⟩|⟨x,rfl,rfl⟩
  ·rcases iU hb with⟨j,u,rfl,e⟩|⟨y,u,rfl,e⟩|⟨y,rfl,e⟩
   ·injection e with e1 _;rw[e1]
   ·exact nomatch e
   ·exact nomatch e
  ·rcases iU hb with⟨j,u,rfl,e⟩|⟨y,u,rfl,e⟩|⟨y,rfl,e⟩
   ·exact nomatch e
   ·injection e with e1 _;rw[e1]
   ·exact nomatch e
  ·rcases iU hb with⟨j,u,rfl,e⟩|⟨y,u,rfl,e⟩|⟨y,rfl,e⟩
   ·exact nomatch e
   ·exact nomatch e
   ·injection e with e1;rw[e1]
 byValue:=λk v h=>by
  rcases iU h with⟨i,t,rfl,rfl⟩|⟨x,t,rfl,rfl⟩|⟨x,rfl,rfl⟩ <;> rfl
 pyHash:=λhv h=>by
  rcases iU hv with⟨i,t,rfl,rfl⟩|⟨x,t,rfl,rfl⟩|⟨x,rfl,rfl⟩
  ·exact wpAny_pyHash_int h
  ·exact wpAny_pyHash_str h
  ·exact Tv h
 eqBool:=λhu hv h=>by
  rcases iU hu with⟨i,t,rfl,rfl⟩|⟨x,t,rfl,rfl⟩|⟨x,rfl,rfl⟩
  ·rcases iU hv with⟨j,u,rfl,rfl⟩|⟨y,u,rfl,rfl⟩|⟨y,rfl,rfl⟩
   ·rw[ui]at h;exact Gz h
   ·rw[JV]at h;exact SeqAt.EqAt.int_str i t y u _ _ _ _ h
   ·rw[ui]at h;exact SeqAt.EqAt.int_bool i t y _ _ _ _ h
  ·rcases iU hv with⟨j,u,rfl,rfl⟩|⟨y,u,rfl,rfl⟩|⟨y,rfl,rfl⟩
   ·rw[JW]at h;exact SeqAt.EqAt.str_int x t j u _ _ _ _ h
   ·rw[Vq]at h;exact wpAny_eqBool_str h
   ·rw[JW]at h;exact SeqAt.EqAt.str_bool x t y _ _ _ _ h
  ·rcases iU hv with⟨j,u,rfl,rfl⟩|⟨y,u,rfl,rfl⟩|⟨y,rfl,rfl⟩
   ·rw[ui]at h;exact SeqAt.EqAt.bool_int x j u _ _ _ _ h
   ·rw[JV]at h;exact SeqAt.EqAt.bool_str x y u _ _ _ _ h
   ·rw[ui]at h
    have e:((if x then(1:Int)else 0) == (if y then(1:Int)else 0))=(x == y):=by cases x <;> cases y <;> rfl
    rw[e]at h;exact wV x y _ _ _ _ h
 «strs»:=λk x t v h=>by
  rcases iU h with⟨i,u,rfl,e⟩|⟨y,u,rfl,e⟩|⟨y,rfl,e⟩
  ·exact nomatch e
  ·injection e with e1 _
   subst e1;cases v <;> rfl
  ·exact nomatch e
theorem Wh(prog:Program)(w:World)(i:Int)(t:Tok):(fW prog w).is (.inl i) (.int i t)=true:=Vm i t
theorem Wi(prog:Program)(w:World)(x:Str)(t:Tok):(fW prog w).is (.inr x) (.str x t)=true:=Vn x t
inductive V where
 |non|bl (b:Bool)|int (i:Int)|str (x:Str)|iq (b:Array UInt8)|flt (b:UInt64)|ref (a:Addr)|ty (n:String)
 deriving DecidableEq
def RelV:V->Value->Prop
 |.non,u=>u=Value.none
 |.bl b,u=>u=Value.bool b
 |.int i,u=>∃t,u=Value.int i t
 |.str x,u=>∃t,u=Value.str x t
 |.iq b,u=>∃t,u=Value.bytes b t
 |.flt b,u=>∃t,u=Value.float b t
 |.ref a,u=>u=Value.ref a
 |.ty n,u=>u=Value.type n
abbrev Vals:List V->List Value->Prop:=Paired RelV
theorem Vals.length{xs:List V}{us:List Value}(r:Vals xs us):xs.length=us.length:=dq r
theorem Vals.get:∀{xs:List V} {us:List Value} {i:Nat} {x:V},Vals xs us->xs[i]? = some x->∃u,us[i]? = some u/\RelV x u
 |_,_,_,_,.nil,e=>by simp at e
 |_,_,0,_,.cons r _,e=>by simp at e;subst e;exact⟨_,rfl,r⟩
 |_,_,i+1,x,.cons _ t,e=>by
  obtain⟨u,h1,h2⟩:=Vals.get (i:=i) (x:=x) t (by simpa using e);exact⟨u,by simpa using h1,h2⟩
theorem Vals.set{x:V}{u:Value}(r:RelV x u):∀{xs:List V} {us:List Value} (i:Nat),Vals xs us->Vals (xs.set i x) (us.set i u)
 |_,_,_,.nil=>.nil
 |_,_,0,.cons _ t=>.cons r t
 |_,_,i+1,.cons q t=>.cons q (Vals.set r i t)
theorem Vals.append:∀{xs ys:List V} {us ws:List Value},Vals xs us->Vals ys ws->Vals (xs++ys) (us++ws)
 |_,_,_,_,.nil,s=>s
 |_,_,_,_,.cons r t,s=>.cons r (Vals.append t s)
theorem Vals.take:∀{xs:List V} {us:List Value} (n:Nat),Vals xs us->Vals (xs.take n) (us.take n)
 |_,_,0,_=>.nil
 |_,_,_+1,.nil=>.nil
 |_,_,n+1,.cons r t=>.cons r (Vals.take n t)
theorem Vals.drop:∀{xs:List V} {us:List Value} (n:Nat),Vals xs us->Vals (xs.drop n) (us.drop n)
 |_,_,0,r=>r
 |_,_,_+1,.nil=>.nil
 |_,_,n+1,.cons _ t=>Vals.drop n t
def f7:Option V->Option Value->Prop
 |some v,some u=>RelV v u
 |none,none=>True
 |_,_=>False
def KV{κ:Type}:List (κ × V)->List (κ × Value)->Prop:=Paired λ(p:κ × V) (q:κ × Value)=>p.1=q.1/\RelV p.2 q.2
def kV:Key->V
 |.inl i=>.int i
 |.inr x=>.str x
inductive HO where
 |lst (xs:List V)
 |tup (xs:List V)
 |dK (kvs:List (Key × V))|dT (kvs:List (List Key × V))
 |set (S:Int->Bool) (n:Nat)
 |ins (C dx:Addr) (fs:List (Str × V))
 |own (x:Addr)
 |xd (fs:List (Str × V))
 |met (f x:Addr)
 |rng (lo hi:Int)
 |dj (o:Obj) (u:HO)
 |lu (ps:Array Value)
 |lam (pos:Pos) (qual:Str)
 |ext (φ:Heap->Prop)
def JQ(k:Key)(v:V):Prop:=v=kV k\/∃b:Bool,v = .bl b/\k = .inl (if b then 1 else 0)
abbrev Az:List Key->List V->Prop:=Paired JQ
def jG(H:Addr->Option HO)(b:Addr)(ks:List Key):Prop:=∃ws,Az ks ws/\H b=some (.tup ws)
abbrev Hp:=Addr->Option HO
def upd(H:Hp)(a:Addr)(o:HO):Hp:=λb=>if b=a then some o else H b
theorem ao{H:Hp}{a:Addr}{o:HO}:upd H a o a=some o:=by unfold upd;rw[if_pos rfl]
theorem aD{H:Hp}{a b:Addr}{o:HO}(h:b≠a):upd H a o b=H b:=by unfold upd;rw[if_neg h]
theorem EY{H:Hp}{a:Addr}{o u:HO}:upd (upd H a o) a u=upd H a u:=by
 funext b;unfold upd;split <;> rfl
theorem hV{H:Hp}{a b:Addr}{o u:HO}(h:H a=some o)(h':H b=some u)(d:o≠u):a≠b:=by
 intro e;subst e;rw[h]at h';exact d (da h')
theorem cV{H:Hp}{a b:Addr}{o:HO}(h:H a=some o)(h':H b=none):a≠b:=by
 intro e;subst e;rw[h]at h';cases h'
section
variable (P:Program) (w:World)
def bw(H:Hp)(h:Heap)(a:Addr):HO->Prop
 |.lst xs=>xs.length<=sizeLine/\∃(its:List Value) (n:Nat),Vals xs its/\h.get? a=some {cls:=.type "list", data:=.seq its.toArray n}
 |.tup xs=>xs.length<=sizeLine/\∃its:List Value,Vals xs its/\IsTup h a its.toArray/\∃o,h.get? a=some o/\o.dict=none
 |.dK kvs=>kvs.length<=sizeLine/\(a == sysModules)=false/\∃vs,KV kvs vs/\h.DictOf (fW P w) a vs
 |.dT kvs=>kvs.length<=sizeLine/\(a == sysModules)=false/\∃xs:List (List Key × Addr × Value),
   Paired (λ(p:List Key × V) (q:List Key × Addr × Value)=>p.1=q.1/\jG H q.2.1 p.1/\RelV p.2 q.2.2) kvs xs /\
   ∃o es ep,h.get? a=some o/\o.ExactDict/\o.data = .dict es ep/\es.toList=xs.map (entryOfKey (tupleKind (fW P w)))/\(xs.map (·.1)).Nodup
 |.set S n=>h.SetOf (intKind P w) a S n
 |.ins C dx fs=>H dx=some (.own a)/\fs.length<=1000/\dx≠a/\h.get? a=some (W.instObj C dx) /\
   ∃mA,h.Ns1 dx mA/\(∀f,f7 (fs.lookup f) (mA f))/\PySem.Within mA (fs.map (·.1))
 |.own _=>∃o,h.get? a=some o
 |.xd fs=>∃mA,h.Ns1 a mA/\∀f,f7 (fs.lookup f) (mA f)
 |.rng lo hi=>∃t u v,h.get? a=some {cls:=.type "range", data:=.fields #[.int lo t,.int hi u,.int 1 v]}
 |.dj o u=>h.get? a=some o/\bw H h a u
 |.lu ps=>h.get? a=some {cls:=.none,data:=.fields ps}
 |.lam pos qual=>∃ps,h.get? a=some {cls:=.none,data:=.fields ps}/\TriplesOk ps.toList/\∀cv,codeAmong pos ps.toList=some cv->∃c o u vs t,cv = .ref c/\H c=some (.dj o u)/\o.data = .fields vs/\vs[1]? = some (.str qual t)
 |.met f x=>h.get? a=some (W.methodObj (.ref f) (.ref x))
 |.ext φ=>φ h/\(∃o,h.get? a=some o)/\∀h1 h2:Heap,φ h1->(∀o,h1.get? a=some o->h2.get? a=some o)->φ h2
def bE(H:Hp)(h:Heap):Prop:=∀a o,H a=some o->bw P w H h a o
end
section
variable {P:Program} {w:World} {H H':Hp} {h h':Heap} {a:Addr} {o:HO}
theorem bw.lt(x:bw P w H h a o):a<h.objs.size:=by
 cases o with
 |lst xs=>obtain⟨_,_,_,_,e⟩:=x;exact aQ e
 |tup xs=>obtain⟨_,_,_,p,_⟩:=x;exact p.lt
 |dK kvs=>obtain⟨_,_,_,_,o,_,_,e,_⟩:=x;exact aQ e
 |dT kvs=>obtain⟨_,_,_,_,o,_,_,e,_⟩:=x;exact aQ e
 |set S n=>obtain⟨o,_,_,_,e,_⟩:=x;exact aQ e
 |ins C dx fs=>obtain⟨_,_,_,e,_⟩:=x;exact aQ e
 |own y=>obtain⟨_,e⟩:=x;exact aQ e
 |xd fs=>obtain⟨_,⟨_,_,_,e,_⟩,_⟩:=x;exact aQ e
 |rng lo hi=>obtain⟨_,_,_,e⟩:=x;exact aQ e
 |dj ob u=>obtain⟨e,_⟩:=x;exact aQ e
 |lu ps=>exact aQ (show h.get? a=some _ from x)
 |lam pos qual=>obtain⟨_,e,_⟩:=x;exact aQ e
 |met f y=>exact aQ (show h.get? a=some _ from x)
 |ext φ=>obtain⟨_,⟨_,e⟩,_⟩:=x;exact aQ e
theorem Paired.dA{α β:Type}{F G:α->β->Prop}:∀{l₁:List α} {l₂:List β},Paired F l₁ l₂->(∀a b,F a b->G a b)->Paired G l₁ l₂
 |_,_,.nil,_=>.nil
 |_,_,.cons r t,f=>.cons (f _ _ r) (Paired.dA t f)
theorem bw.stay(x:bw P w H h a o)(k:∀b u,(b=a\/H b=some (.own a))->h.get? b=some u->h'.get? b=some u)(ho:∀b,H b=some (.own a)->H' b=some (.own a))(ht:∀b xs,H b=some (.tup xs)->H' b=some (.tup xs))(hz:∀b ob u,H b=some (.dj ob u)->H' b=some (.dj ob u)):bw P w H' h' a o:=by
 induction o with
 |lst xs=>obtain⟨z,its,n,r,e⟩:=x;exact⟨z,its,n,r,k _ _ (.inl rfl) e⟩
 |tup xs=>obtain⟨z,its,r,⟨ob,e,c⟩,od,e2,d⟩:=x;exact⟨z,its,r,⟨ob,k _ _ (.inl rfl) e,c⟩,od,k _ _ (.inl rfl) e2,d⟩
 |dK kvs=>obtain⟨z,y,vs,r,ob,es,ep,e,c⟩:=x;exact⟨z,y,vs,r,ob,es,ep,k _ _ (.inl rfl) e,c⟩
 |dT kvs =>
  obtain⟨z,y,xs,r,ob,es,ep,e,c⟩:=x;exact⟨z,y,xs,Paired.dA r λp q z=>⟨z.1,(let⟨ws,k1,k2⟩:=z.2.1;⟨ws,k1,ht _ _ k2⟩),z.2.2⟩,ob,es,ep,k _ _ (.inl rfl) e,c⟩
 |set S n=>obtain⟨ob,es,ep,t,e,c⟩:=x;exact⟨ob,es,ep,t,k _ _ (.inl rfl) e,c⟩
 |ins C dx fs =>
  obtain⟨d,z,ne,e,mA,⟨od,es,ep,e2,c⟩,r⟩:=x;exact⟨ho _ d,z,ne,k _ _ (.inl rfl) e,mA,⟨od,es,ep,k _ _ (.inr d) e2,c⟩,r⟩
 |own y=>obtain⟨ob,e⟩:=x;exact⟨ob,k _ _ (.inl rfl) e⟩
 |xd fs=>obtain⟨mA,⟨od,es,ep,e,c⟩,r⟩:=x;exact⟨mA,⟨od,es,ep,k _ _ (.inl rfl) e,c⟩,r⟩
 |rng lo hi=>obtain⟨t,u,v,e⟩:=x;exact⟨t,u,v,k _ _ (.inl rfl) e⟩
 |dj ob u ih=>obtain⟨e,q⟩:=x;exact⟨k _ _ (.inl rfl) e,ih q⟩
 |lu ps =>
  have e:h.get? a=some {cls:=.none,data:=.fields ps}:=x;show h'.get? a=some {cls:=.none,data:=.fields ps};exact k a _ (.inl rfl) e
 |lam pos qual=>obtain⟨ps,e,t,q⟩:=x;exact⟨ps,k _ _ (.inl rfl) e,t,λcv z=>let⟨c,o,u,vs,t,q1,q2,q3⟩:=q cv z;⟨c,o,u,vs,t,q1,hz _ _ _ q2,q3⟩⟩
 |met f y =>
  have e:h.get? a=some (W.methodObj (.ref f) (.ref y)):=x;show h'.get? a=some (W.methodObj (.ref f) (.ref y));exact k a _ (.inl rfl) e
 |ext φ=>obtain⟨p,⟨o,e⟩,st⟩:=x;exact⟨st _ _ p λo q=>k _ _ (.inl rfl) q,⟨o,k _ _ (.inl rfl) e⟩,st⟩
theorem bE.lt(x:bE P w H h)(e:H a=some o):a<h.objs.size:=(x a o e).lt
theorem bE.fresh(x:bE P w H h)(e:h.objs.size<=a):H a=none:=by
 cases q:H a with
 |none=>rfl
 |some u=>exact absurd (c9 (x.lt q) e) (fu _)
theorem bE.kept(x:bE P w H h)(k:∀b u,h.get? b=some u->h'.get? b=some u):bE P w H h':=λa o e =>
 (x a o e).stay (λb u _ q=>k b u q) (λ_ q=>q) (λ_ _ q=>q) λ_ _ _ q=>q
theorem bE.laid(x:bE P w H h)(k:∀b u,h.get? b=some u->h'.get? b=some u)(hp:h.objs.size<=a)(new:bw P w (upd H a o) h' a o):bE P w (upd H a o) h':=λb u e=>by
 have hn:=x.fresh hp
 by_cases hb:b=a
 ·subst hb;rw[ao]at e;cases e;exact new
 ·rw[aD hb]at e
  exact(x b u e).stay (λc v _ q=>k c v q) (λc q=>by rw[aD (cV q hn)];exact q) (λc xs q=>by rw[aD (cV q hn)];exact q) λc ob u q=>by rw[aD (cV q hn)];exact q
end
def Rd(H:Hp)(a:Addr)(u:HO):Prop:=H a=some u\/∃o,H a=some (.dj o u)
theorem Rd.ok{P:Program}{w:World}{H:Hp}{h:Heap}{a:Addr}{u:HO}(r:Rd H a u)(x:bE P w H h):bw P w H h a u:=by
 rcases r with r|⟨o,r⟩
 ·exact x a u r
 ·obtain⟨_,q⟩:=x a _ r
  exact q
def pF:Option HO->Prop
 |some (.lst _)=>True
 |some (.dK _)=>True
 |some (.dT _)=>True
 |some (.set _ _)=>True
 |some (.ins _ _ _)=>True
 |some (.ext _)=>True
 |some (.lam _ _)=>True
 |_=>False
section
variable {P:Program} {w:World} {H:Hp} {h h':Heap} {x e:Addr} {o':HO}
theorem bE.write(ok:bE P w H h)(mu:pF (H x))(he:e=x\/H e=some (.own x))(k:∀b u,b≠e->h.get? b=some u->h'.get? b=some u)(heo:∃u,h'.get? e=some u)
  (new:bw P w (upd H x o') h' x o'):bE P w (upd H x o') h':=λb u q=>by
 have K4:∀c y,H c=some (.own y)->c≠x:=λc y r z=>by subst z;rw[r]at mu;exact mu
 have WW:∀c xs,H c=some (.tup xs)->c≠x:=λc xs r z=>by subst z;rw[r]at mu;exact mu
 have Wy:∀c ob u,H c=some (.dj ob u)->c≠x:=λc ob u r z=>by subst z;rw[r]at mu;exact mu
 by_cases hb:b=x
 ·subst hb;rw[ao]at q;cases q;exact new
 ·rw[aD hb]at q
  by_cases hbe:b=e
  ·have q':H b=some (.own x):=by
    rcases he with z|z
    ·exact absurd (hbe.trans z) hb
    ·rw[hbe];exact z
   rw[q]at q';cases q';obtain⟨v,hv⟩:=heo;exact⟨v,by rw[hbe];exact hv⟩
  ·refine(ok b u q).stay (λc v hc r=>k c v ?_ r) (λc r=>by rw[aD (K4 c b r)];exact r) (λc xs r=>by rw[aD (WW c xs r)];exact r) λc ob u r=>by rw[aD (Wy c ob u r)];exact r
   rcases hc with rfl|hc
   ·exact hbe
   ·rintro rfl
    rcases he with z|z
    ·exact K4 c b hc z
    ·rw[hc]at z;cases z;exact hb rfl
end
structure Un (fs ex:List Addr) (H H':Hp) (h h':Heap):Prop where
 keep:∀b o,h.get? b=some o->H b=none->b ∉ fs->b ∉ ex->h'.get? b=some o
 slot:∀b o,h.get? b=some o->H b=none->b∈fs->b ∉ ex->∃sl,h'.get? b=some {o with slots:=sl}
 free:∀b o,h.get? b=some o->H b=none->b ∉ ex->H' b=none
 there:∀b o,h.get? b=some o->b ∉ ex->∃o',h'.get? b=some o'
 tups:∀b xs,H b=some (.tup xs)->H' b=some (.tup xs)
 fQ:∀b o u,H b=some (.dj o u)->H' b=some (.dj o u)
 gC:∀b ps,H b=some (.lu ps)->∃more,H' b=some (.lu (ps++more))
section
variable {fs fs' ex ex':List Addr} {H H1 H2:Hp} {h h1 h2 h':Heap} {a x e:Addr} {o:HO}
theorem Un.any(u:Un fs ex H H1 h h1){b:Addr}{ob:Obj}(q:h.get? b=some ob)(n:H b=none)(hx:b ∉ ex):∃sl,h1.get? b=some {ob with slots:=sl}:=by
 by_cases hb:b∈fs
 ·exact u.slot b ob q n hb hx
 ·exact⟨ob.slots,u.keep b ob q n hb hx⟩
theorem Un.kept(k:∀b u,h.get? b=some u->h'.get? b=some u):Un fs ex H H h h':=
 ⟨λb ob q _ _ _=>k b ob q,λb ob q _ _ _=>⟨ob.slots,k b ob q⟩,λ_ _ _ n _=>n,λb ob q _=>⟨ob,k b ob q⟩,λ_ _ q=>q,λ_ _ _ q=>q,λ_ ps q=>⟨#[],by rw[q];simp⟩⟩
theorem Un.refl:Un fs ex H H h h:=Un.kept λ_ _ q=>q
theorem Un.laid(k:∀b u,h.get? b=some u->h'.get? b=some u)(hp:h.objs.size<=a)(hn:H a=none):Un fs ex H (upd H a o) h h' where
 keep:=λb u q _ _ _=>k b u q
 slot:=λb u q _ _ _=>⟨u.slots,k b u q⟩
 free:=λb u q n _=>by rw[aD (bu (c9 (aQ q) hp))];exact n
 there:=λb u q _=>⟨u,k b u q⟩
 tups:=λb xs q=>by rw[aD (cV q hn)];exact q
 fQ:=λb u xs q=>by rw[aD (cV q hn)];exact q
 gC:=λb ps q=>⟨#[],by rw[aD (cV q hn),q];simp⟩
theorem Un.write(mu:pF (H x))(he:e=x\/H e=some (.own x))(k:∀b u,b≠e->h.get? b=some u->h'.get? b=some u)(heo:∃u,h'.get? e=some u):Un fs ex H (upd H x o) h h':=by
 have hx:∀b,H b=none->b≠x:=λb n z=>by subst z;rw[n]at mu;exact mu
 have hb:∀b,H b=none->b≠e:=λb n z=>by
  subst z
  rcases he with r|r
  ·exact hx b n r
  ·rw[n]at r;cases r
 have hm:∀b u,H b=some u->¬ pF (some u)->b≠x:=λb u q nm z=>by subst z;rw[q]at mu;exact nm mu
 refine⟨λb u q n _ _=>k b u (hb b n) q,λb u q n _ _=>⟨u.slots,k b u (hb b n) q⟩,λb u q n _=>by rw[aD (hx b n)];exact n,λb u q _=>?_,
  λb xs q=>by rw[aD (hm b _ q λz=>z)];exact q,λb u xs q=>by rw[aD (hm b _ q λz=>z)];exact q,λb ps q=>⟨#[],by rw[aD (hm b _ q λz=>z),q];simp⟩⟩
 by_cases hbe:b=e
 ·subst hbe;exact heo
 ·exact⟨u,k b u hbe q⟩
end
def vO(h:Heap)(H:Hp):List Addr:=(List.range h.objs.size).filter λa=>(H a).isSome
def jm(h:Heap)(H:Hp):Heap:=W.hideAll h (vO h H)
theorem T3(h:Heap)(H:Hp):(jm h H).objs.size=h.objs.size:=W.hideAll_size _ _
theorem T1{h:Heap}{H:Hp}{b:Addr}{o:Obj}(e:h.get? b=some o)(n:H b=none):(jm h H).get? b=some o:=
 W.hideAll_get _ e λhm=>by
  have q:(H b).isSome=true:=(cT.mp hm).2;rw[n]at q;simp at q
theorem W2{h:Heap}{H:Hp}{b:Addr}{o:Obj}(e:(jm h H).get? b=some o):h.get? b=some o/\H b=none:=by
 have e':h.get? b=some o:=W.of_hideAll (vO h H) e;refine⟨e',?_⟩;cases q:H b with
 |none=>rfl
 |some x =>
  have hm:b∈vO h H:=cT.mpr ⟨dS.mpr (aQ e'),by simp[q]⟩;have z:(jm h H).get? b=none:=W.hideAll_none (vO h H) hm;rw[z]at e;cases e
def Qg(g h:Heap)(L:Addr):List (Addr × Obj):=(List.range h.objs.size).filterMap λa=>if a=L\/(g.get? a).isSome=true then none else(h.get? a).map λo=>(a,o)
def rest(g h:Heap)(L d:Addr):List (Addr × Obj):=(Qg g h L).filter λp=>decide (p.1≠d)
structure Mod (K:W.Frag) (mg:Str->Option Value) (base:Heap):Prop where
 mq:K.In base
 glob:base.Ns mainGlobals mg
 blt:∃mb,base.Ns builtinsNs mb/\∀x:Str,x ≠ "__name__" -> mb x=bootBuiltins x
 nolimit:base.NoLimit
structure Cx where
 prog:Program
 w:World
 K:W.Frag
 mg:Str->Option Value
 base:Heap
 A:Around
 N:List Str
 s₀:Shared
 H₀:Hp
 env:Env
 outer:List Env
 stack:List Env
 ex:List Addr
 fn:Str->Bool
 calm:Bool
 pn:List (Addr × Obj)
 xe:Value->Shared->Prop
def frs(l:List Env):List Addr:=l.filterMap (·.frame)
abbrev Cx.fs (X:Cx):List Addr:=frs X.outer
def sP(sc:Scope)(x:Str):Prop:=sc.names.lookup x=some .local\/sc.names.lookup x=some .cell\/sc.names.lookup x=some .free
def Loc(sc:Scope)(x:Str):Prop:=sc.names.lookup x=some .local\/sc.names.lookup x=some .cell
def Look(env:Env)(h:Heap)(m:Str->Option Value)(x:Str)(u:Value):Prop:=
 (env.kindOf x=some .local/\m x=some u)\/((env.kindOf x=some .cell\/env.kindOf x=some .free)/\∃c,env.cells.lookup x=some c/\h.IsCell c (some u))
structure Cx.Ok (X:Cx):Prop where
 mod:Mod X.K X.mg X.base
 kind:X.env.scope.kind = .function
 glob:X.env.globals=mainGlobals
 blt:X.env.builtins=builtinsNs
 above:X.s₀.heap.objs.size<=X.env.locals
 inj:∀x y c,X.env.cells.lookup x=some c->X.env.cells.lookup y=some c->x=y
 has:∀x,(X.env.kindOf x=some .cell\/X.env.kindOf x=some .free)->∃c,X.env.cells.lookup x=some c
 cab:∀x c,X.fn x=true->X.env.cells.lookup x=some c->X.s₀.heap.objs.size<=c
 hd:X.calm=true->X.A.handled=none
 frames:X.A.frames=some X.stack
 stk:X.stack=X.outer\/(X.stack=X.env::X.outer/\X.env.frame=some X.env.locals)
 lY:∀b∈X.ex,b≠X.env.locals/\∀x c,X.env.cells.lookup x=some c->c≠b
 bs:∀b o,X.base.get? b=some o->X.s₀.heap.get? b=some o/\X.H₀ b=none
 fM:X.base.objs.size<=X.s₀.heap.objs.size
 jr:∀b o,X.base.get? b=some o->b ∉ X.ex
 jJ:∀b∈X.ex,b ∉ X.fs
 eK:X.s₀.heap.FunFrames X.base X.outer
 gY:∀b∈X.fs,X.H₀ b=none
structure Inv (X:Cx) (pins:List (Addr × Obj)) (σ:List (Option V)) (H:Hp) (s:Shared):Prop where
 ok:X.Ok
 os:s.os=X.s₀.os
 bare:AllBare s.gens
 base:Un X.fs X.ex X.H₀ H X.s₀.heap s.heap
 loc:∃m,s.heap.Ns X.env.locals m/\∀(i:Nat) (x:Str) (v:V),X.N[i]? = some x->σ[i]? = some (some v)->sP X.env.scope x->∃u,RelV v u/\Look X.env s.heap m x u
 cell:∀x c,X.env.cells.lookup x=some c->∃v,s.heap.IsCell c v
 free:H X.env.locals=none
 eJ:∀x c,X.env.cells.lookup x=some c->H c=none
 pin:∀p∈X.pn++pins,s.heap.get? p.1=some p.2/\H p.1=none/\p.1≠X.env.locals/\p.1 ∉ X.fs/\∀v,p.2.data≠.cell v
 hok:bE X.prog X.w H s.heap
 len:σ.length=X.N.length
section
variable {X:Cx} {pins:List (Addr × Obj)} {σ:List (Option V)} {H H':Hp} {s:Shared} {h':Heap}
theorem Cx.Ok.WK(ok:X.Ok){b:Addr}{o:Obj}(e:X.base.get? b=some o):b ∉ X.fs:=λhb=>by
 have:=(ok.eK.mem hb).1;rw[e]at this;cases this
theorem Inv.bs(I:Inv X pins σ H s):∀b o,X.base.get? b=some o->s.heap.get? b=some o/\H b=none:=λb o e =>
 ⟨I.base.keep b o (I.ok.bs b o e).1 (I.ok.bs b o e).2 (I.ok.WK e) (I.ok.jr b o e),I.base.free b o (I.ok.bs b o e).1 (I.ok.bs b o e).2 (I.ok.jr b o e)⟩
theorem Inv.bk(I:Inv X pins σ H s):∀b o,X.base.get? b=some o->s.heap.get? b=some o:=λb o e=>(I.bs b o e).1
theorem Inv.mod(I:Inv X pins σ H s):Mod X.K X.mg X.base:=I.ok.mod
theorem Inv.cq(I:Inv X pins σ H s):X.K.In s.heap:=I.ok.mod.mq.keeps I.bk
theorem Inv.lt(I:Inv X pins σ H s):X.env.locals<s.heap.objs.size:=let⟨_,hn,_⟩:=I.loc;hn.lt
theorem Inv.sz(I:Inv X pins σ H s):X.s₀.heap.objs.size<=s.heap.objs.size:=b_ I.ok.above (dh I.lt)
theorem Inv.WM(I:Inv X pins σ H s){a:Addr}(h:s.heap.objs.size<=a):a ∉ X.fs:=λhb=>by
 obtain⟨_,o,ho,_⟩:=I.ok.eK.mem hb;exact absurd (c9 (aQ ho) (b_ I.sz h)) (fu _)
theorem Inv.iP(I:Inv X pins σ H s):∀x c,X.env.cells.lookup x=some c->c≠X.env.locals:=λx c e z=>by
 obtain⟨v,o,ho,hd⟩:=I.cell x c e;obtain⟨m,⟨o',es,ep,ho',hd',_⟩,_⟩:=I.loc;rw[z,ho']at ho;cases ho;rw[hd']at hd;cases hd
theorem Inv.eK(I:Inv X pins σ H s):s.heap.FunFrames X.base X.outer:=by
 have all:∀(l:List Env),(∀b∈frs l,b∈X.fs)->X.s₀.heap.FunFrames X.base l->s.heap.FunFrames X.base l:=by
  intro l
  induction l with
  |nil=>intro _ _;trivial
  |cons env r ih =>
   intro hs hl;obtain⟨hk,⟨L,o,hf,hn,ho,hd⟩,hr⟩:=hl;have hL:L∈X.fs:=hs L (by unfold frs;rw[rV,hf];exact b9);obtain⟨sl,e⟩:=I.base.slot L o ho (I.ok.gY L hL) hL λz=>I.ok.jJ L z hL
   exact⟨hk,⟨L,_,hf,hn,e,hd⟩,ih (λb hb=>hs b (by unfold frs;rw[rV,hf];exact cu _ hb)) hr⟩
 exact all X.outer (λ_ hb=>hb) I.ok.eK
theorem Inv.stack(I:Inv X pins σ H s):s.heap.FunFrames X.base X.stack:=by
 rcases I.ok.stk with e|⟨e,hf⟩
 ·rw[e];exact I.eK
 ·rw[e]
  obtain⟨m,hn,_⟩:=I.loc;refine .cons (by rw[I.ok.kind];decide) hf hn ?_ I.eK;exact wQ (b_ I.ok.fM I.ok.above)
theorem Inv.rA(I:Inv X pins σ H s):∀b∈frs X.stack,b∈X.env.locals::X.fs:=λb hb=>by
 rcases I.ok.stk with e|⟨e,hf⟩
 ·rw[e]at hb;exact cu _ hb
 ·rw[e]at hb
  unfold frs at hb;rw[rV,hf]at hb;exact hb
theorem Inv.oY(I:Inv X pins σ H s):∀b∈frs X.stack,H b=none:=λb hb=>by
 rcases bq.mp (I.rA b hb)with e|hb
 ·rw[e];exact I.free
 ·obtain⟨_,o,ho,_⟩:=I.ok.eK.mem hb
  exact I.base.free b o ho (I.ok.gY b hb) λz=>I.ok.jJ b z hb
theorem Inv.step{g':Array GenState}{t':Nat}{d':Drawn}{ch:List Addr}(I:Inv X pins σ H s)(hch:∀b∈ch,(b∈X.ex\/X.s₀.heap.objs.size<=b)/\b≠X.env.locals/\(∀x c,X.env.cells.lookup x=some c->c≠b)/\∀p∈X.pn++pins,p.1≠b)(keep:∀b o,b≠X.env.locals->b ∉ X.fs->b ∉ ch->s.heap.get? b=some o->H b=none->h'.get? b=some o)
  (slot:∀b o,b≠X.env.locals->b∈X.fs->b ∉ ch->s.heap.get? b=some o->H b=none->∃sl,h'.get? b=some {o with slots:=sl}) (free:∀b o,b ∉ ch->s.heap.get? b=some o->H b=none->H' b=none)
  (there:∀b o,b ∉ ch->s.heap.get? b=some o->∃o',h'.get? b=some o')
  (tups:∀b xs,H b=some (.tup xs)->H' b=some (.tup xs)) (fQ:∀b o u,H b=some (.dj o u)->H' b=some (.dj o u)) (gC:∀b ps,H b=some (.lu ps)->∃more,H' b=some (.lu (ps++more)))
  (ns:∀m,s.heap.Ns X.env.locals m->h'.Ns X.env.locals m) (hok:bE X.prog X.w H' h') (hg:AllBare g') :
  Inv X pins σ H' {s with heap:=h',gens:=g',drawn:=d',toks:=t'}:=by
 have oB:∀b o,X.s₀.heap.get? b=some o->b≠X.env.locals:=λb o e=>bu (c9 (aQ e) I.ok.above)
 have uy:∀b o,X.s₀.heap.get? b=some o->b ∉ X.ex->b ∉ ch:=λb o e hx hb=>by
  rcases(hch b hb).1 with z|z
  ·exact hx z
  ·exact absurd (c9 (aQ e) z) (fu _)
 have cellK:∀x c,X.env.cells.lookup x=some c->∀v,s.heap.IsCell c v->h'.IsCell c v:=λx c e v ⟨o,ho,hd⟩=>by
  have gI:c ∉ ch:=λz=>(hch c z).2.2.1 x c e rfl
  by_cases hc:c∈X.fs
  ·obtain⟨sl,q⟩:=slot c o (I.iP x c e) hc gI ho (I.eJ x c e)
   exact⟨_,q,hd⟩
  ·exact⟨o,keep c o (I.iP x c e) hc gI ho (I.eJ x c e),hd⟩
 refine⟨I.ok,I.os,hg,⟨λb o e n hb hx=>?_,λb o e n hb hx=>?_,λb o e n hx=>?_,λb o e hx=>?_,λb xs e=>tups b xs (I.base.tups b xs e),λb o xs e=>fQ b o xs (I.base.fQ b o xs e),λb ps e=>?_⟩,?_,λx c e=>?_,?_,λx c e=>?_,λp hp=>?_,hok,I.len⟩
 ·exact keep b o (oB b o e) hb (uy b o e hx) (I.base.keep b o e n hb hx) (I.base.free b o e n hx)
 ·obtain⟨sl,e1⟩:=I.base.slot b o e n hb hx
  obtain⟨sl',e2⟩:=slot b _ (oB b o e) hb (uy b o e hx) e1 (I.base.free b o e n hx);exact⟨sl',e2⟩
 ·obtain⟨o',e1⟩:=I.base.there b o e hx
  exact free b o' (uy b o e hx) e1 (I.base.free b o e n hx)
 ·obtain⟨o',e1⟩:=I.base.there b o e hx
  exact there b o' (uy b o e hx) e1
 ·obtain⟨m1,e1⟩:=I.base.gC b ps e
  obtain⟨m2,e2⟩:=gC b _ e1;exact⟨m1++m2,by rw[e2,Array.append_assoc]⟩
 ·obtain⟨m,hn,hl⟩:=I.loc
  refine⟨m,ns m hn,λi x v e1 e2 e3=>?_⟩;obtain⟨u,r,l⟩:=hl i x v e1 e2 e3;refine⟨u,r,?_⟩
  rcases l with l|⟨k,c,e,z⟩
  ·exact .inl l
  ·exact .inr ⟨k,c,e,cellK x c e _ z⟩
 ·obtain⟨v,z⟩:=I.cell x c e
  exact⟨v,cellK x c e v z⟩
 ·obtain⟨m,⟨o,_,_,ho,_⟩,_⟩:=I.loc
  exact free _ o (λz=>(hch _ z).2.1 rfl) ho I.free
 ·obtain⟨v,o,ho,hd⟩:=I.cell x c e
  exact free c o (λz=>(hch c z).2.2.1 x c e rfl) ho (I.eJ x c e)
 ·obtain⟨e,n,ne,nf,d⟩:=I.pin p hp
  have gI:p.1 ∉ ch:=λz=>(hch p.1 z).2.2.2 p hp rfl
  exact⟨keep p.1 p.2 ne nf gI e n,free p.1 p.2 gI e n,ne,nf,d⟩
theorem Inv.un{t':Nat}(I:Inv X pins σ H s)(u:Un X.fs [] H H' s.heap h')(hok:bE X.prog X.w H' h'):Inv X pins σ H' {s with heap:=h',toks:=t'}:=by
 obtain⟨m,⟨o,es,ep,ho,r⟩,_⟩:=id I.loc;obtain⟨sl,hL⟩:=u.any ho I.free (by simp);exact I.step (g':=s.gens) (d':=s.drawn) (ch:=[]) (λ_ z=>nomatch z) (λb o _ hb _ e n=>u.keep b o e n hb (by simp)) (λb o _ hb _ e n=>u.slot b o e n hb (by simp)) (λb o _ e n=>u.free b o e n (by simp)) (λb o _ e=>u.there b o e (by simp)) u.tups u.fQ u.gC (λm' hm=>by
  obtain⟨o',es',ep',ho',r'⟩:=hm;rw[ho]at ho';cases ho';exact⟨_,es',ep',hL,r'⟩) hok I.bare
theorem Inv.call{g':Array GenState}{t':Nat}{d':Drawn}{ch:List Addr}(I:Inv X pins σ H s)(u:Un (frs X.stack) ch H H' s.heap h')(hok:bE X.prog X.w H' h')(hg:AllBare g')(hch:∀b∈ch,(b∈X.ex\/X.s₀.heap.objs.size<=b)/\b≠X.env.locals/\(∀x c,X.env.cells.lookup x=some c->c≠b)/\∀p∈X.pn++pins,p.1≠b):
  Inv X pins σ H' {s with heap:=h',gens:=g',drawn:=d',toks:=t'}:=by
 obtain⟨m,⟨o,es,ep,ho,r⟩,_⟩:=id I.loc;obtain⟨sl,hL⟩:=u.any ho I.free λz=>(hch _ z).2.1 rfl
 exact I.step (ch:=ch) hch (λb o hL hb hc e n=>u.keep b o e n (λz=>(bq.mp (I.rA b z)).elim hL hb) hc) (λb o _ _ hc e n=>u.any e n hc) (λb o hc e n=>u.free b o e n hc) (λb o hc e=>u.there b o e hc) u.tups u.fQ u.gC (λm' hm=>by
  obtain⟨o',es',ep',ho',r'⟩:=hm;rw[ho]at ho';cases ho';exact⟨_,es',ep',hL,r'⟩) hok hg
theorem Inv.turned{t':Nat}{it:Addr}(I:Inv X pins σ H s)(k:∀b o,b≠it->s.heap.get? b=some o->h'.get? b=some o)(hn:H it=none)(hL:it≠X.env.locals)
  (h1:it∈X.ex\/X.s₀.heap.objs.size<=it) (h2:∀x c,X.env.cells.lookup x=some c->c≠it) (h3:∀p∈X.pn++pins,p.1≠it):Inv X pins σ H {s with heap:=h',toks:=t'}:=by
 have KN:∀b u,H b=some u->b≠it:=λb u e z=>by rw[z,hn]at e;cases e
 refine I.step (g':=s.gens) (d':=s.drawn) (ch:=[it]) (λb hb=>?_) (λb o _ _ hc e _=>k b o (λz=>hc (by simp[z])) e) (λb o _ _ hc e _=>⟨o.slots,k b o (λz=>hc (by simp[z])) e⟩) (λ_ _ _ _ n=>n)
  (λb o hc e=>⟨o,k b o (λz=>hc (by simp[z])) e⟩) (λ_ _ e=>e) (λ_ _ _ e=>e) (λb ps e=>⟨#[],by rw[e];simp⟩) (λm hm=>?_) (λb u e=>?_) I.bare
 ·have e:b=it:=by simpa using hb
  subst e;exact⟨h1,hL,h2,h3⟩
 ·obtain⟨o,es,ep,ho,r⟩:=hm
  exact⟨o,es,ep,k _ o (bJ hL) ho,r⟩
 ·refine(I.hok b u e).stay (λc v hc q=>k c v ?_ q) (λ_ q=>q) (λ_ _ q=>q) λ_ _ _ q=>q
  rcases hc with z|z
  ·rw[z];exact KN b u e
  ·exact KN c _ z
theorem Inv.tok(I:Inv X pins σ H s)(t:Nat):Inv X pins σ H {s with toks:=t}:=I.un (h':=s.heap) (t':=t) Un.refl I.hok
theorem Inv.kept{t':Nat}(I:Inv X pins σ H s)(k:∀b u,s.heap.get? b=some u->h'.get? b=some u):Inv X pins σ H {s with heap:=h',toks:=t'}:=I.un (Un.kept k) (I.hok.kept k)
theorem Inv.laid{a:Addr}{o:HO}{t':Nat}(I:Inv X pins σ H s)(k:∀b u,s.heap.get? b=some u->h'.get? b=some u)(hp:s.heap.objs.size<=a)(new:bw X.prog X.w (upd H a o) h' a o):
  Inv X pins σ (upd H a o) {s with heap:=h',toks:=t'}:=I.un (Un.laid k hp (I.hok.fresh hp)) (I.hok.laid k hp new)
theorem Inv.write{x e:Addr}{o:HO}{t':Nat}(I:Inv X pins σ H s)(mu:pF (H x))(he:e=x\/H e=some (.own x))(k:∀b u,b≠e->s.heap.get? b=some u->h'.get? b=some u)(heo:∃u,h'.get? e=some u)
  (new:bw X.prog X.w (upd H x o) h' x o):Inv X pins σ (upd H x o) {s with heap:=h',toks:=t'}:=I.un (Un.write mu he k heo) (I.hok.write mu he k heo new)
theorem Inv.weak{σ':List (Option V)}(I:Inv X pins σ H s)(hl:σ'.length=σ.length)(w:∀(i:Nat) v,σ'[i]? = some (some v)->σ[i]? = some (some v)):Inv X pins σ' H s:=
 ⟨I.ok,I.os,I.bare,I.base,let⟨m,hn,hl'⟩:=I.loc;⟨m,hn,λi x v e1 e2 e3=>hl' i x v e1 (w i v e2) e3⟩,I.cell,I.free,I.eJ,I.pin,I.hok,hl.trans I.len⟩
theorem Inv.uM{mC:List (Addr × Obj)}(I:Inv X pins σ H s)(h:∀p∈mC,s.heap.get? p.1=some p.2/\H p.1=none/\p.1≠X.env.locals/\p.1 ∉ X.fs/\∀v,p.2.data≠.cell v):Inv X mC σ H s:=
 ⟨I.ok,I.os,I.bare,I.base,I.loc,I.cell,I.free,I.eJ,λp hp=>(f6.mp hp).elim (λz=>I.pin p (ko _ z)) (h p),I.hok,I.len⟩
theorem Bn{N:List Str}(hN:N.Nodup){i j:Nat}{x:Str}(a:N[i]? = some x)(b:N[j]? = some x):i=j:=by
 obtain⟨h1,e1⟩:=bN.mp a;obtain⟨h2,e2⟩:=bN.mp b;exact(wA hN).mp (e1.trans e2.symm)
theorem Ep{M:Model}{A:Around}{E:Value->Shared->Prop}{i:Nat}{x:Str}{v:V}{u:Value}{Q:Unit->Shared->Prop}(I:Inv X pins σ H s)(hN:X.N.Nodup)(hi:X.N[i]? = some x)(hx:Loc X.env.scope x)(r:RelV v u)(h:∀s',Inv X pins (σ.set i (some v)) H s'->(∃a,Heap.SameBut a s.heap s'.heap/\(a=X.env.locals\/X.env.cells.lookup x=some a))->Q () s')(hf:X.fn x=true\/X.env.scope.names.lookup x=some .local:=by first|exact .inl rfl|exact .inr rfl|assumption):wpAny M A (storeName X.env x u) Q E s:=by
 obtain⟨m,hn,hl⟩:=id I.loc;have hcls:(X.env.scope.kind == .class||(X.env.scope.kind == .module&&X.env.locals != X.env.globals))=false:=by rw[I.ok.kind];rfl
 have hiσ:i<σ.length:=by rw[I.len];exact(bN.mp hi).1
 have iP:=I.iP;have tracked:∀{a:Addr} {h':Heap},(∃o,s.heap.get? a=some o/\H a=none)->Heap.SameBut a s.heap h'->bE X.prog X.w H h':=λ{a h'} ha hs b ob e=>by
  obtain⟨_,_,hfree⟩:=ha;refine(I.hok b ob e).stay (λc w' hc q=>(hs.2 c ?_).trans q) (λ_ q=>q) (λ_ _ q=>q) λ_ _ _ q=>q
  rintro rfl
  rcases hc with rfl|hc
  ·rw[hfree]at e;cases e
  ·rw[hfree]at hc;cases hc
 rcases hx with hk|hk
 ·refine wpAny_storeName_local hk hn (λh' hn' hs=>?_) hcls
  obtain⟨oL,_,_,hoL,_⟩:=id hn;refine h _ ⟨I.ok,I.os,I.bare,⟨λb o e n hb hx=>?_,λb o e n hb hx=>?_,I.base.free,λb o e hx=>?_,I.base.tups,I.base.fQ,I.base.gC⟩,⟨_,hn',λj y v' e1 e2 e3=>?_⟩,λy c e=>?_,I.free,I.eJ,λp hp=>?_,tracked ⟨oL,hoL,I.free⟩ hs,by simpa using I.len⟩ ⟨_,hs,.inl rfl⟩
  ·exact(hs.2 b (bu (c9 (aQ e) I.ok.above))).trans (I.base.keep b o e n hb hx)
  ·obtain⟨sl,e1⟩:=I.base.slot b o e n hb hx
   exact⟨sl,(hs.2 b (bu (c9 (aQ e) I.ok.above))).trans e1⟩
  ·obtain⟨o',e1⟩:=I.base.there b o e hx
   exact⟨o',(hs.2 b (bu (c9 (aQ e) I.ok.above))).trans e1⟩
  ·by_cases hj:j=i
   ·subst hj
    rw[hi]at e1;cases e1;rw[wz hiσ]at e2;cases e2;exact⟨u,r,.inl ⟨hk,by simp⟩⟩
   ·rw[rX (bJ hj)]at e2
    obtain⟨u',r',q⟩:=hl j y v' e1 e2 e3;refine⟨u',r',?_⟩
    rcases q with⟨k,e⟩|⟨k,c,e,z⟩
    ·refine .inl ⟨k,?_⟩
     have:y≠x:=λe=>hj (Bn hN e1 (e▸hi))
     simp[this,e]
    ·exact .inr ⟨k,c,e,z.sameBut hs (iP y c e)⟩
  ·obtain⟨w',z⟩:=I.cell y c e
   exact⟨w',z.sameBut hs (iP y c e)⟩
  ·obtain⟨e,n,ne,nf,d⟩:=I.pin p hp
   exact⟨(hs.2 p.1 ne).trans e,n,ne,nf,d⟩
 ·have hfn:X.fn x=true:=by
   rcases hf with z|z
   ·exact z
   ·rw[z]at hk;cases hk
  obtain⟨c,hc⟩:=I.ok.has x (.inl hk);obtain⟨w',z⟩:=I.cell x c hc;refine wpAny_storeName_cell I.ok.kind hk hc z (λh' hc' hs=>?_);obtain⟨oc,hoc,Ui⟩:=id z;refine h {s with heap:=h'} ⟨I.ok,I.os,I.bare,⟨λb o e n hb hx=>?_,λb o e n hb hx=>?_,I.base.free,λb o e hx=>?_,I.base.tups,I.base.fQ,I.base.gC⟩,⟨m,hn.sameBut hs (bJ (iP x c hc)),λj y v' e1 e2 e3=>?_⟩,λy c' e=>?_,I.free,I.eJ,λp hp=>?_,tracked ⟨oc,hoc,I.eJ x c hc⟩ hs,by simpa using I.len⟩ ⟨c,hs,.inr hc⟩
  ·exact(hs.2 b (bu (c9 (aQ e) (I.ok.cab x c hfn hc)))).trans (I.base.keep b o e n hb hx)
  ·obtain⟨sl,e1⟩:=I.base.slot b o e n hb hx
   exact⟨sl,(hs.2 b (bu (c9 (aQ e) (I.ok.cab x c hfn hc)))).trans e1⟩
  ·obtain⟨o',e1⟩:=I.base.there b o e hx
   exact⟨o',(hs.2 b (bu (c9 (aQ e) (I.ok.cab x c hfn hc)))).trans e1⟩
  ·by_cases hj:j=i
   ·subst hj
    rw[hi]at e1;cases e1;rw[wz hiσ]at e2;cases e2;exact⟨u,r,.inr ⟨.inl hk,c,hc,hc'⟩⟩
   ·rw[rX (bJ hj)]at e2
    obtain⟨u',r',q⟩:=hl j y v' e1 e2 e3;refine⟨u',r',?_⟩
    rcases q with q|⟨k,c',e,z'⟩
    ·exact .inl q
    ·refine .inr ⟨k,c',e,z'.sameBut hs ?_⟩
     rintro rfl;exact hj (Bn hN e1 (I.ok.inj _ _ _ e hc▸hi))
  ·by_cases hcc:c'=c
   ·subst hcc;exact⟨_,hc'⟩
   ·obtain⟨w2,z2⟩:=I.cell y c' e
    exact⟨w2,z2.sameBut hs hcc⟩
  ·obtain⟨e,n,ne,nf,d⟩:=I.pin p hp
   refine⟨(hs.2 p.1 ?_).trans e,n,ne,nf,d⟩;intro q;rw[q,hoc]at e;have q':oc=p.2:=da e;exact d w' (by rw[<- q'];exact Ui)
theorem Oh{M:Model}{A:Around}{E:Value->Shared->Prop}{i:Nat}{x:Str}{v:V}{u:Value}{Q:Unit->Shared->Prop}(I:Inv X pins σ H s)(hN:X.N.Nodup)(hi:X.N[i]? = some x)(hx:Loc X.env.scope x)(r:RelV v u)(h:∀s',Inv X pins (σ.set i (some v)) H s'->Q () s')(hf:X.fn x=true\/X.env.scope.names.lookup x=some .local:=by first|exact .inl rfl|exact .inr rfl|assumption):wpAny M A (storeName X.env x u) Q E s:=
 Ep I hN hi hx r (λs' I' _=>h s' I') hf
theorem Inv.call'{s':Shared}{ch:List Addr}(I:Inv X pins σ H s)(ho:s'.os=s.os)(u:Un (frs X.stack) ch H H' s.heap s'.heap)(hok:bE X.prog X.w H' s'.heap)(hg:AllBare s'.gens)(hch:∀b∈ch,(b∈X.ex\/X.s₀.heap.objs.size<=b)/\b≠X.env.locals/\(∀x c,X.env.cells.lookup x=some c->c≠b)/\∀p∈X.pn++pins,p.1≠b):Inv X pins σ H' s':=by
 obtain⟨h',g',d',t',o'⟩:=s';have e:o'=s.os:=ho;subst e;exact I.call (g':=g') (t':=t') (d':=d') u hok hg hch
end
abbrev XK:=Value->Option Addr->Hp->Prop
abbrev St:=List (Option V)
abbrev VK:=V->Hp->Prop
abbrev TE:=St->Hp->VK->Prop
abbrev TT:=St->Hp->(Bool->Hp->Prop)->Prop
abbrev TA:=St->Hp->(List V->Hp->Prop)->Prop
structure Ends where
 nx:St->Hp->Prop
 rt:VK
 bk:St->Hp->Prop:=λ_ _=>False
 ct:St->Hp->Prop:=λ_ _=>False
abbrev TS:=Ends->St->Hp->Prop
def EP(X:Cx)(pins:List (Addr × Obj))(σ:St)(Q:VK)(u:Value)(s':Shared):Prop:=∃v H',Inv X pins σ H' s'/\RelV v u/\Q v H'
def TP(X:Cx)(pins:List (Addr × Obj))(σ:St)(Q:Bool->Hp->Prop)(b:Bool)(s':Shared):Prop:=∃H',Inv X pins σ H' s'/\Q b H'
def AP(X:Cx)(pins:List (Addr × Obj))(σ:St)(Q:List V->Hp->Prop)(us:List Value)(s':Shared):Prop:=∃vs H',Inv X pins σ H' s'/\Vals vs us/\Q vs H'
def SP(X:Cx)(pins:List (Addr × Obj))(D:Ends)(f:Flow)(s':Shared):Prop:=
 match f with
 |.next=>∃σ' H',Inv X pins σ' H' s'/\D.nx σ' H'
 |.brk=>∃σ' H',Inv X pins σ' H' s'/\D.bk σ' H'
 |.cont=>∃σ' H',Inv X pins σ' H' s'/\D.ct σ' H'
 |.ret u=>∃v σ' H',Inv X pins σ' H' s'/\RelV v u/\D.rt v H'
def PE(X:Cx)(e:Expr)(t:TE):Prop:=
 ∀(pins:List (Addr × Obj)) (s:Shared) (σ:St) (H:Hp) (Q:VK),Inv X pins σ H s->t σ H Q->wpAny (model X.prog X.w) X.A (eval e X.env) (EP X pins σ Q) X.xe s
def PT(X:Cx)(e:Expr)(t:TT):Prop:=
 ∀(pins:List (Addr × Obj)) (s:Shared) (σ:St) (H:Hp) (Q:Bool->Hp->Prop),Inv X pins σ H s->t σ H Q->wpAny (model X.prog X.w) X.A (isTrue e X.env (eval e X.env)) (TP X pins σ Q) X.xe s
def PW(X:Cx)(e:Expr)(t:TT):Prop:=
 ∀(whole:Sem Value) (pins:List (Addr × Obj)) (s:Shared) (σ:St) (H:Hp) (Q:Bool->Hp->Prop),Inv X pins σ H s->t σ H Q->wpAny (model X.prog X.w) X.A (isTrue e X.env whole) (TP X pins σ Q) X.xe s
theorem PW.pt{X:Cx}{e:Expr}{t:TT}(h:PW X e t):PT X e t:=h _
def PA(X:Cx)(es:List Expr)(t:TA):Prop:=
 ∀(pos:Pos) (pins:List (Addr × Obj)) (s:Shared) (σ:St) (H:Hp) (Q:List V->Hp->Prop),Inv X pins σ H s->t σ H Q->wpAny (model X.prog X.w) X.A (spliced (backTo pos (starEach es X.env))) (AP X pins σ Q) X.xe s
def PS(X:Cx)(st:Stmt)(t:TS):Prop:=
 ∀(pins:List (Addr × Obj)) (s:Shared) (σ:St) (H:Hp) (D:Ends),Inv X pins σ H s->t D σ H->wpAny (model X.prog X.w) X.A (exec st X.env) (SP X pins D) X.xe s
def fw(X:Cx)(st:List Stmt)(t:TS):Prop:=
 ∀(pins:List (Addr × Obj)) (s:Shared) (σ:St) (H:Hp) (D:Ends),Inv X pins σ H s->t D σ H->wpAny (model X.prog X.w) X.A (execs st X.env) (SP X pins D) X.xe s
theorem aK{α:Type}{t:Sem α}{Q Q':α->Shared->Prop}{M:Model}{A:Around}{E:Value->Shared->Prop}{s:Shared}(h:wpAny M A t Q E s)(hQ:∀a s,Q a s->Q' a s):wpAny M A t Q' E s:=eG h hQ λ_ _ x=>x
section
variable {X:Cx}
def Oz(i:Nat):TE:=λσ H Q=>∃v,σ[i]? = some (some v)/\Q v H
def tC(v:V):TE:=λ_ H Q=>Q v H
theorem YM {i:Nat} {x:Str} {pos:Pos} (hN:X.N[i]? = some x) (hv:sP X.env.scope x) (hd:(x == ("__debug__" : Str))=false:=by decide) (hcd:(x == ("__classdict__" : Str))=false:=by decide):PE X (.Name x pos) (Oz i):=by
 intro pins s σ H Q I h;obtain⟨v,e,h⟩:=h;obtain⟨m,hn,hl⟩:=I.loc;obtain⟨u,r,l⟩:=hl i x v hN e hv;have fin:EP X pins σ Q u s:=⟨v,H,I,r,h⟩
 rcases l with⟨hk,hm⟩|⟨hk,c,hc,hcell⟩
 ·exact wpAny_Name (wpAny_loadName_local I.ok.kind hk hn hm fin) hd
 ·rcases hk with hk|hk
  ·exact wpAny_Name (wpAny_loadName_cell I.ok.kind hk hc hcell fin) hd
  ·exact wpAny_Name (wpAny_loadName_free I.ok.kind hk hc hcell fin hcd) hd
theorem ak{i j pos}:PE X (.Constant (.int i) j pos) (tC (.int i)):=λ_ _ _ H _ I h=>wpAny_Constant_int ⟨.int i,H,I.tok _,⟨_,rfl⟩,h⟩
theorem jW{b j pos}:PE X (.Constant (.bool b) j pos) (tC (.bl b)):=λ_ _ _ H _ I h=>Constant_bool ⟨.bl b,H,I,rfl,h⟩
theorem kR{j pos}:PE X (.Constant .none j pos) (tC .non):=λ_ _ _ H _ I h=>Constant_none ⟨.non,H,I,rfl,h⟩
theorem iB{x j pos}:PE X (.Constant (.str x) j pos) (tC (.str x)):=λ_ _ _ H _ I h=>Calls.Constant_str ⟨.str x,H,I.tok _,⟨_,rfl⟩,h⟩
def Gl(X:Cx)(x:Str):Prop:=X.env.kindOf x=some .globalImplicit
theorem kL{E:Value->Shared->Prop}{pins:List (Addr × Obj)}{s:Shared}{σ:St}{H:Hp}{x:Str}{u:Value}{pos:Pos}{Q:Value->Shared->Prop}(I:Inv X pins σ H s)(hg:Gl X x)(hm:X.mg x=some u)(h:Q u s)
  (hd:(x == ("__debug__" : Str))=false:=by decide):wpAny (model X.prog X.w) X.A (eval (.Name x pos) X.env) Q E s:=
 Calls.Name_function_global I.ok.kind hg (Calls.loadGlobal_global (by rw[I.ok.glob];exact I.mod.glob.keeps I.bk) hm h) hd
theorem jq{E:Value->Shared->Prop}{pins:List (Addr × Obj)}{s:Shared}{σ:St}{H:Hp}{x:Str}{u:Value}{pos:Pos}{Q:Value->Shared->Prop}(I:Inv X pins σ H s)(hg:Gl X x)(hm:X.mg x=none)(hv:bootBuiltins x=some u)(h:Q u s)
  (hn:x ≠ "__name__" :=by decide) (hd:(x == ("__debug__" : Str))=false:=by decide):wpAny (model X.prog X.w) X.A (eval (.Name x pos) X.env) Q E s:=by
 obtain⟨mb,h1,h2⟩:=I.mod.blt;exact Calls.Name_function_global I.ok.kind hg (Calls.loadGlobal_builtin (by rw[I.ok.glob];exact I.mod.glob.keeps I.bk) hm (by rw[I.ok.blt];exact h1.keeps I.bk) ((h2 x hn).trans hv) h) hd
theorem fH {x:Str} {v:V} {u:Value} {pos:Pos} (hg:Gl X x) (hm:X.mg x=some u) (r:RelV v u) (hd:(x == ("__debug__" : Str))=false:=by decide):PE X (.Name x pos) (tC v):=
 λ_ _ _ H _ I h=>kL I hg hm ⟨v,H,I,r,h⟩ hd
theorem qM {x:Str} {v:V} {u:Value} {pos:Pos} (hg:Gl X x) (hm:X.mg x=none) (hv:bootBuiltins x=some u) (r:RelV v u) (hn:x ≠ "__name__" :=by decide) (hd:(x == ("__debug__" : Str))=false:=by decide):PE X (.Name x pos) (tC v):=
 λ_ _ _ H _ I h=>jq I hg hm hv ⟨v,H,I,r,h⟩ hn hd
variable {a b:Expr} {ta tb:TE} {pos:Pos}
def tB(t:TE):TT:=λσ H Q=>t σ H λx H1=>∃c,x = .bl c/\Q c H1
theorem dY{e:Expr}{t:TE}(h:PE X e t)(he:∀whole,isTrue e X.env whole=(do let v <- whole;standAt e.pos;holding [v] (truthy v)):=by intro _;rfl):PT X e (tB t):=by
 intro pins s σ H Q I hw;refine isTrue_plain (aK (h pins s σ H _ I hw) λv s1 ⟨x,H1,I1,r1,q1⟩=>?_) (he _);obtain⟨d,rfl,q⟩:=q1;cases r1;exact je ⟨H1,I1,q⟩
variable {tA vM:TT} {rest:List Expr}
def aal(t u:TT):TT:=λσ H Q=>t σ H λc H1=>if c=true then u σ H1 Q else Q false H1
def tOr(t u:TT):TT:=λσ H Q=>t σ H λc H1=>if c=true then Q true H1 else u σ H1 Q
def aaA(t:TT):TT:=λσ H Q=>t σ H λc H1=>Q (!c) H1
theorem qS(ha:PT X a tA):PW X (.BoolOp .And [a] pos) tA:=by
 intro wh pins s σ H Q I h;refine isTrue_and (aK (ha pins s σ H Q I h) λc s1 e=>?_);cases c with
 |true=>exact isTrue_and_nil e
 |false=>exact e
theorem oN(ha:PT X a tA):PW X (.BoolOp .Or [a] pos) tA:=by
 intro wh pins s σ H Q I h;refine isTrue_or (aK (ha pins s σ H Q I h) λc s1 e=>?_);cases c with
 |false=>exact isTrue_or_nil e
 |true=>exact e
theorem qR(ha:PT X a tA)(hb:PW X (.BoolOp .And (b::rest) pos) vM):PW X (.BoolOp .And (a::b::rest) pos) (aal tA vM):=by
 intro wh pins s σ H Q I h;refine isTrue_and (aK (ha pins s σ H _ I h) λc s1 ⟨H1,I1,q1⟩=>?_);cases c with
 |true=>exact hb wh pins s1 σ H1 Q I1 q1
 |false=>exact⟨H1,I1,q1⟩
theorem mD(ha:PT X a tA)(hb:PW X (.BoolOp .Or (b::rest) pos) vM):PW X (.BoolOp .Or (a::b::rest) pos) (tOr tA vM):=by
 intro wh pins s σ H Q I h;refine isTrue_or (aK (ha pins s σ H _ I h) λc s1 ⟨H1,I1,q1⟩=>?_);cases c with
 |true=>exact⟨H1,I1,q1⟩
 |false=>exact hb wh pins s1 σ H1 Q I1 q1
theorem iD(ha:PT X a tA):PT X (.UnaryOp .Not a pos) (aaA tA):=by
 intro pins s σ H Q I h;exact isTrue_not (ha pins s σ H (λc H1=>Q (!c) H1) I h)
def aam(ta tb:TE):TE:=λσ H Q=>ta σ H λx H1=>∃c,x = .bl c/\if c=true then tb σ H1 Q else Q (.bl false) H1
def aaD(ta tb:TE):TE:=λσ H Q=>ta σ H λx H1=>∃c,x = .bl c/\if c=true then Q (.bl true) H1 else tb σ H1 Q
def aaB(ta:TE):TE:=λσ H Q=>ta σ H λx H1=>∃c,x = .bl c/\Q (.bl (!c)) H1
theorem kT{op}{t:TE}(h:PE X a t):PE X (.BoolOp op [a] pos) t:=λpins s σ H Q I hw=>BoolOp_one (h pins s σ H Q I hw)
theorem mB(ha:PE X a ta)(hb:PE X (.BoolOp .And (b::rest) pos) tb):PE X (.BoolOp .And (a::b::rest) pos) (aam ta tb):=by
 intro pins s σ H Q I h;refine BoolOp_and (aK (ha pins s σ H _ I h) λv s1 ⟨x,H1,I1,r1,q1⟩=>?_);obtain⟨c,rfl,q1⟩:=q1;cases r1;refine je ?_;cases c with
 |true=>exact hb pins s1 σ H1 Q I1 q1
 |false=>exact⟨.bl false,H1,I1,rfl,q1⟩
theorem YJ(ha:PE X a ta)(hb:PE X (.BoolOp .Or (b::rest) pos) tb):PE X (.BoolOp .Or (a::b::rest) pos) (aaD ta tb):=by
 intro pins s σ H Q I h;refine BoolOp_or (aK (ha pins s σ H _ I h) λv s1 ⟨x,H1,I1,r1,q1⟩=>?_);obtain⟨c,rfl,q1⟩:=q1;cases r1;refine je ?_;cases c with
 |false=>exact hb pins s1 σ H1 Q I1 q1
 |true=>exact⟨.bl true,H1,I1,rfl,q1⟩
theorem Lk(ha:PE X a ta):PE X (.UnaryOp .Not a pos) (aaB ta):=by
 intro pins s σ H Q I h;refine UnaryOp_ (aK (ha pins s σ H _ I h) λv s1 ⟨x,H1,I1,r1,q1⟩=>?_);obtain⟨c,rfl,q1⟩:=q1;cases r1;exact not_of (je ⟨.bl (!c),H1,I1,rfl,q1⟩)
end
def ah(K:W.Frag)(H:Hp)(a:Addr)(xs:List V):Prop:=
 Rd H a (.lst xs) \/
  ∃(o:Obj) (its:Array Value) (n:Nat),K.lookup a=some o/\o.cls = .type "list" /\ o.dict=none/\o.data = .seq its n/\its.size<=sizeLine/\Vals xs its.toList
def aF(K:W.Frag)(H:Hp)(a:Addr)(xs:List V):Prop:=
 Rd H a (.tup xs) \/
  ∃(o:Obj) (its:Array Value) (n:Nat),K.lookup a=some o/\o.cls = .type "tuple" /\ o.data = .seq its n/\its.size<=sizeLine/\Vals xs its.toList
def Qf:Value->Option V
 |.none=>some .non
 |.bool b=>some (.bl b)
 |.int i _=>some (.int i)
 |.str x _=>some (.str x)
 |.bytes b _=>some (.iq b)
 |.float b _=>some (.flt b)
 |.ref a=>some (.ref a)
 |.type n=>some (.ty n)
 |_=>none
theorem RelV.abs{x:V}{u:Value}(r:RelV x u):Qf u=some x:=by
 cases x with
 |non=>cases r;rfl
 |bl _=>cases r;rfl
 |int _=>obtain⟨t,rfl⟩:=r;rfl
 |str _=>obtain⟨t,rfl⟩:=r;rfl
 |iq _=>obtain⟨t,rfl⟩:=r;rfl
 |flt _=>obtain⟨t,rfl⟩:=r;rfl
 |ref _=>cases r;rfl
 |ty _=>cases r;rfl
theorem RelV.inj{x y:V}{u:Value}(r:RelV x u)(q:RelV y u):x=y:=da (r.abs.symm.trans q.abs)
theorem Vals.inj:∀{xs ys:List V} {us:List Value},Vals xs us->Vals ys us->xs=ys
 |_,_,_,.nil,.nil=>rfl
 |_,_,_,.cons r t,.cons r' t'=>by rw[r.inj r',Vals.inj t t']
section
variable {X:Cx} {pins:List (Addr × Obj)} {σ:St} {H:Hp} {s:Shared} {a:Addr} {xs ys:List V}
theorem ah.of{K:W.Frag}(h:H a=some (.lst xs)):ah K H a xs:=.inl (.inl h)
theorem aF.of{K:W.Frag}(h:H a=some (.tup xs)):aF K H a xs:=.inl (.inl h)
theorem Inv.list(I:Inv X pins σ H s)(h:ah X.K H a xs):∃its:List Value,Vals xs its/\PlainL s.heap a its.toArray/\xs.length<=sizeLine:=by
 rcases h with h|⟨o,its,n,hk,hc,hd,hs,hz,r⟩
 ·obtain⟨z,its,n,r,e⟩:=h.ok I.hok
  exact⟨its,r,⟨_,n,e,rfl,rfl,rfl⟩,z⟩
 ·refine⟨its.toList,r,⟨o,n,I.cq a o hk,hc,hd,by simpa using hs⟩,?_⟩
  have e:=r.length;simp only[jB]at e;omega
theorem Inv.tuple(I:Inv X pins σ H s)(h:aF X.K H a xs):∃its:List Value,Vals xs its/\IsTup s.heap a its.toArray/\xs.length<=sizeLine:=by
 rcases h with h|⟨o,its,n,hk,hc,hs,hz,r⟩
 ·obtain⟨z,its,r,p,_⟩:=h.ok I.hok
  exact⟨its,r,p,z⟩
 ·refine⟨its.toList,r,⟨o,I.cq a o hk,hc,n,by simpa using hs⟩,?_⟩
  have e:=r.length;simp only[jB]at e;omega
theorem Inv.Kd(I:Inv X pins σ H s)(h:ah X.K H a xs)(h':ah X.K H a ys):xs=ys:=by
 obtain⟨its,r,⟨o,n,e,_,_,d⟩,_⟩:=I.list h;obtain⟨its',r',⟨o',n',e',_,_,d'⟩,_⟩:=I.list h';rw[e]at e';cases e';rw[d]at d';injection d' with d1 _
 have:its=its':=by simpa using congrArg Array.toList d1
 subst this;exact r.inj r'
theorem Inv.Ex(I:Inv X pins σ H s)(h:aF X.K H a xs)(h':aF X.K H a ys):xs=ys:=by
 obtain⟨its,r,⟨o,e,_,n,d⟩,_⟩:=I.tuple h;obtain⟨its',r',⟨o',e',_,n',d'⟩,_⟩:=I.tuple h';rw[e]at e';cases e';rw[d]at d';injection d' with d1 _
 have:its=its':=by simpa using congrArg Array.toList d1
 subst this;exact r.inj r'
end
abbrev Cx.wish (X:Cx) (E:Value->Shared->Prop):Cx:={X with xe:=E}
abbrev Cx.uz (X:Cx):Cx:=X.wish λ_ _=>False
theorem Cx.Ok.wish{X:Cx}(ok:X.Ok)(E:Value->Shared->Prop):(X.wish E).Ok:=
 ⟨ok.mod,ok.kind,ok.glob,ok.blt,ok.above,ok.inj,ok.has,ok.cab,ok.hd,ok.frames,ok.stk,ok.lY,ok.bs,ok.fM,ok.jr,ok.jJ,ok.eK,ok.gY⟩
theorem Cx.Ok.hZ{X:Cx}{E:Value->Shared->Prop}(ok:(X.wish E).Ok):X.Ok:=
 ⟨ok.mod,ok.kind,ok.glob,ok.blt,ok.above,ok.inj,ok.has,ok.cab,ok.hd,ok.frames,ok.stk,ok.lY,ok.bs,ok.fM,ok.jr,ok.jJ,ok.eK,ok.gY⟩
section
variable {X:Cx} {pins:List (Addr × Obj)} {σ:St} {H:Hp} {s:Shared} {E:Value->Shared->Prop}
theorem Inv.wish(I:Inv X pins σ H s)(E:Value->Shared->Prop):Inv (X.wish E) pins σ H s:=⟨I.ok.wish E,I.os,I.bare,I.base,I.loc,I.cell,I.free,I.eJ,I.pin,I.hok,I.len⟩
theorem Inv.hZ(I:Inv (X.wish E) pins σ H s):Inv X pins σ H s:=⟨I.ok.hZ,I.os,I.bare,I.base,I.loc,I.cell,I.free,I.eJ,I.pin,I.hok,I.len⟩
theorem SP.hZ{D:Ends}{f:Flow}{s':Shared}(h:SP (X.wish E) pins D f s'):SP X pins D f s':=by
 cases f with
 |next=>obtain⟨σ',H',I,q⟩:=h;exact⟨σ',H',I.hZ,q⟩
 |brk=>obtain⟨σ',H',I,q⟩:=h;exact⟨σ',H',I.hZ,q⟩
 |cont=>obtain⟨σ',H',I,q⟩:=h;exact⟨σ',H',I.hZ,q⟩
 |ret u=>obtain⟨v,σ',H',I,r,q⟩:=h;exact⟨v,σ',H',I.hZ,r,q⟩
theorem fw.uz{st:List Stmt}{t:TS}(h:fw X.uz st t):fw X st t:=λpins s σ H D I hw =>
 eG (h pins s σ H D (I.wish _) hw) (λ_ _ q=>q.hZ) λ_ _ z=>False.elim z
end
section
variable {X:Cx} {st:Stmt} {rest:List Stmt} {t u:TS} {e:Expr} {te:TE} {pos:Pos}
def aay:TS:=λD σ H=>D.nx σ H
def jz(t u:TS):TS:=λD σ H=>t {D with nx:=u D} σ H
theorem bH:fw X [] aay:=λ_ _ σ H _ I h=>sG ⟨σ,H,I,h⟩
theorem au(h1:PS X st t)(h2:fw X rest u):fw X (st::rest) (jz t u):=by
 intro pins s σ H D I h;refine wpAny_execs_cons (aK (h1 pins s σ H {D with nx:=u D} I h) λf s1 q=>?_);cases f with
 |next =>
  obtain⟨σ',H',I',q⟩:=q;exact h2 pins s1 σ' H' D I' q
 |ret v=>exact q
 |brk=>exact q
 |cont=>exact q
theorem ax(h1:PS X st t):fw X [st] t:=by
 intro pins s σ H D I h;refine wpAny_execs_cons (aK (h1 pins s σ H D I h) λf s1 q=>?_);cases f with
 |next=>exact sG q
 |ret v=>exact q
 |brk=>exact q
 |cont=>exact q
theorem Inv.quiet{pins:List (Addr × Obj)}{σ:St}{H:Hp}{s:Shared}(I:Inv X pins σ H s):interactive X.env=false:=by simp[interactive,I.ok.kind]
def aaq(te:TE):TS:=λD σ H=>te σ H λ_ H1=>D.nx σ H1
theorem cw(he:PE X e te)(hs:swapsWith e none pos.line X.env=pure false:=by rfl):PS X (.Expr e pos) (aaq te):=by
 intro pins s σ H D I h;exact wpAny_Expr_any (aK (he pins s σ H _ I h) λv s1 ⟨x,H1,I1,r1,q1⟩=>⟨σ,H1,I1,q1⟩) I.quiet hs
def aaG(te:TE):TS:=λD σ H=>te σ H D.rt
theorem aV(he:PE X e te):PS X (.Return (some e) pos) (aaG te):=by
 intro pins s σ H D I h;exact wpAny_Return_some (aK (he pins s σ H _ I h) λv s1 ⟨x,H1,I1,r1,q1⟩=>⟨x,σ,H1,I1,r1,q1⟩)
def aat(c:TT)(t u:TS):TS:=λD σ H=>c σ H λb H1=>if b=true then t D σ H1 else u D σ H1
theorem bz{c:Expr}{a b:List Stmt}{tc:TT}(hc:PT X c tc)(ha:fw X a t)(hb:fw X b u):PS X (.If c a b pos) (aat tc t u):=by
 intro pins s σ H D I h;refine wpAny_If (aK (hc pins s σ H _ I h) λd s1 ⟨H1,I1,q1⟩=>?_);cases d with
 |true=>exact ha pins s1 σ H1 D I1 q1
 |false=>exact hb pins s1 σ H1 D I1 q1
def aax:TS:=λ_ _ _=>False
theorem uO:PS X st aax:=λ_ _ _ _ _ _ h=>h.elim
end
abbrev TG:=V->St->Hp->(St->Hp->Prop)->Prop
abbrev jF:=List V->St->Hp->(St->Hp->Prop)->Prop
def PG(X:Cx)(target:Expr)(t:TG):Prop:=
 ∀(pins:List (Addr × Obj)) (s:Shared) (σ:St) (H:Hp) (v:V) (u:Value) (Q:St->Hp->Prop),Inv X pins σ H s->RelV v u->t v σ H Q ->
  wpAny (model X.prog X.w) X.A (assign target X.env u) (λ_ s'=>∃σ' H',Inv X pins σ' H' s'/\Q σ' H') X.xe s
def pH(X:Cx)(ts:List Expr)(t:jF):Prop:=
 ∀(pins:List (Addr × Obj)) (s:Shared) (σ:St) (H:Hp) (vs:List V) (us:List Value) (Q:St->Hp->Prop),Inv X pins σ H s->Vals vs us->t vs σ H Q ->
  wpAny (model X.prog X.w) X.A (assignInOrder ((assignEach ts X.env).map (·.2)) us) (λ_ s'=>∃σ' H',Inv X pins σ' H' s'/\Q σ' H') X.xe s
abbrev w9:=V->V->V->Hp->(Hp->Prop)->Prop
def Gh(X:Cx)(t:w9):Prop:=
 ∀(pins:List (Addr × Obj)) (s:Shared) (σ:St) (H:Hp) (o i v:V) (ov iv u:Value) (Q:Hp->Prop),Inv X pins σ H s->RelV o ov->RelV i iv->RelV v u->t o i v H Q ->
  wpAny (model X.prog X.w) X.A (setItem ov iv u) (λ_ s'=>∃H',Inv X pins σ H' s'/\Q H') X.xe s
section
variable {X:Cx} {pos:Pos}
def cD(i:Nat):TG:=λv σ H Q=>Q (σ.set i (some v)) H
theorem a_{i:Nat}{x:Str}(hN:X.N.Nodup)(hi:X.N[i]? = some x)(hx:Loc X.env.scope x)(hf:X.fn x=true\/X.env.scope.names.lookup x=some .local:=by first|exact .inl rfl|exact .inr rfl|assumption):PG X (.Name x pos) (cD i):=by
 intro pins s σ H v u Q I r h;exact wpAny_assign_Name (Oh I hN hi hx r (λs' I'=>⟨_,H,I',h⟩) hf)
def tN:jF:=λvs σ H Q=>vs = []/\Q σ H
def lZ(t:TG)(u:jF):jF:=λvs σ H Q=>∃v r,vs=v::r/\t v σ H λσ' H'=>u r σ' H' Q
theorem Lp:pH X [] tN:=by
 intro pins s σ H vs us Q I r h;obtain⟨e,h⟩:=h;subst e;cases r;exact assignInOrder_nil ⟨σ,H,I,h⟩
theorem uL{e:Expr}{es:List Expr}{t:TG}{u:jF}(h1:PG X e t)(h2:pH X es u)(hs:(assignEach (e::es) X.env).map (·.2)=assign e X.env::(assignEach es X.env).map (·.2):=by rfl):pH X (e::es) (lZ t u):=by
 intro pins s σ H vs us Q I r h;obtain⟨v,vr,e1,h⟩:=h;subst e1;cases r with
 |cons r rr =>
  rw[hs];refine assignInOrder_cons (aK (h1 pins s σ H _ _ _ I r h) λ_ s1 ⟨σ1,H1,I1,q1⟩=>?_);exact h2 pins s1 σ1 H1 _ _ Q I1 rr q1
def tO(K:W.Frag)(n:Nat)(t:jF):TG:=λv σ H Q=>∃a xs,v = .ref a/\aF K H a xs/\xs.length=n/\t xs σ H Q
theorem YT{es:List Expr}{k:Nat}{t:jF}{n:Nat}(hc:X.calm=true)(h:pH X es t)(hn:(assignEach es X.env).length=n:=by rfl)(hst:(assignEach es X.env).findIdx? (·.1)=none:=by rfl):PG X (.Tuple es k pos) (tO X.K n t):=by
 intro pins s σ H v u Q I r hw;obtain⟨a,xs,e1,hq,hl,hw⟩:=hw;subst e1;cases r;obtain⟨its,rv,ht,hz⟩:=I.tuple hq;refine assign_Tuple_tuple (I.ok.hd hc) ht (by simp[hn,<- hl,rv.length]) hst λh' hx=>?_
 have I1:Inv X pins σ H {s with heap:=h'}:=I.kept (t':=s.toks) λb o e=>hx b o (bu (aQ e)) e
 exact h pins _ σ H xs _ Q I1 (by simpa using rv) hw
def Sj(to ti:TE)(t:w9):TG:=λv σ H Q=>to σ H λo H1=>ti σ H1 λi H2=>t o i v H2 λH3=>Q σ H3
theorem Ln{o i:Expr}{to ti:TE}{t:w9}(ho:PE X o to)(hi:PE X i ti)(hs:Gh X t)
  (ha:∀v,assign (.Subscript o i pos) X.env v=(do
   let ov <- holding [v] (eval o X.env)
   let iv <- holding [v,ov] (eval i X.env)
   standAt pos
   holding [v,ov,iv] (setItem ov iv v)
   release [v,ov,iv] []):=by intro _;rfl):PG X (.Subscript o i pos) (Sj to ti t):=by
 intro pins s σ H v u Q I r h;rw[ha];refine ai (eF (aK (ho pins s σ H _ I h) λov s1 ⟨x,H1,I1,r1,q1⟩=>?_));refine ai (eF (aK (hi pins s1 σ H1 _ I1 q1) λiv s2 ⟨y,H2,I2,r2,q2⟩=>?_));refine ai (nr (ai (eF (aK (hs pins s2 σ H2 x y v ov iv u _ I2 r1 r2 r q2) λ_ s3 ⟨H3,I3,q3⟩=>?_))));exact wpAny_release ⟨σ,H3,I3,q3⟩
def Et(te:TE)(g:TG):TS:=λD σ H=>te σ H λx H1=>g x σ H1 D.nx
theorem Bz{tg e:Expr}{te:TE}{g:TG}(he:PE X e te)(hg:PG X tg g)(hs:swapsWithSole [tg] e pos.line X.env=pure false:=by rfl)(hw:swappedStores [tg] e X.env=pure none:=by rfl)
  (h1:(assignEach [tg] X.env).map (·.2) = [assign tg X.env]:=by rfl):PS X (.Assign [tg] e pos) (Et te g):=by
 intro pins s σ H D I h;refine wpAny_Assign_stores (aK (he pins s σ H _ I h) λv s1 ⟨x,H1,I1,r1,q1⟩=>?_) hs hw;rw[h1];exact aK (hg pins s1 σ H1 x v _ I1 r1 q1) λ_ s2 q=>q
theorem aJ{i:Nat}{x:Str}{e:Expr}{te:TE}{pos':Pos}(hN:X.N.Nodup)(hi:X.N[i]? = some x)(hx:Loc X.env.scope x)(he:PE X e te)(hs:swapsWith e (some (.Name x pos')) pos.line X.env=pure false:=by rfl)(hf:X.fn x=true\/X.env.scope.names.lookup x=some .local:=by first|exact .inl rfl|exact .inr rfl|assumption):
  PS X (.Assign [.Name x pos'] e pos) (Et te (cD i)):=by
 intro pins s σ H D I h;refine wpAny_Assign_Name (aK (he pins s σ H _ I h) λv s1 ⟨y,H1,I1,r1,q1⟩=>?_) hs;exact Oh I1 hN hi hx r1 (λs2 I2=>⟨_,H1,I2,q1⟩) hf
def aaK(c:TT)(tb:TS):TS:=λD σ H=>∃W:Nat->St->Hp->Prop,(∃m,W m σ H)/\∀m σ H,W m σ H ->
 c σ H λb H1=>if b=true then ∃N:St->Hp->Prop,(∀σ' H',N σ' H'->∃m',m'<m/\W m' σ' H')/\tb {D with nx:=N,ct:=N,bk:=D.nx} σ H1 else D.nx σ H1
theorem Y8{c:Expr}{body:List Stmt}{tc:TT}{tb:TS}(hp:PassesOwn (model X.prog X.w) X.A X.env X.xe)(hc:PT X c tc)(hb:fw X body tb):PS X (.While c body [] pos) (aaK tc tb):=by
 intro pins s σ H D I h;obtain⟨W,⟨m0,w0⟩,turn⟩:=h;refine wpAny_While (codeAny_whileLoop (λn s'=>∃σ' H',Inv X pins σ' H' s'/\W n σ' H') ?_ m0 ⟨σ,H,I,w0⟩);rintro n s1 ⟨σ1,H1,I1,w1⟩;refine nj hp (aK (hc pins s1 σ1 H1 _ I1 (turn n σ1 H1 w1)) λb s2 ⟨H2,I2,q2⟩=>?_);cases b with
 |true =>
  obtain⟨N,hN,q2⟩:=q2;rw[if_pos rfl];refine nj hp (aK (hb pins s2 σ1 H2 _ I2 q2) λf s3 q3=>?_);cases f with
  |next =>
   obtain⟨σ3,H3,I3,n3⟩:=q3;obtain⟨m',hm,w3⟩:=hN σ3 H3 n3;exact⟨m',hm,σ3,H3,I3,w3⟩
  |cont =>
   obtain⟨σ3,H3,I3,n3⟩:=q3;obtain⟨m',hm,w3⟩:=hN σ3 H3 n3;exact⟨m',hm,σ3,H3,I3,w3⟩
  |brk=>exact q3
  |ret v=>exact q3
 |false =>
  rw[if_neg Bool.false_ne_true];exact sG ⟨σ1,H2,I2,q2⟩
end
structure It where
 go:Nat->Hp->Prop
 lB:Nat->Hp->V->Hp->Prop
 stop:Nat->Hp->Prop
def dF(X:Cx)(pins:List (Addr × Obj))(H:Hp)(b:Addr):Prop:=
 H b=none/\b≠X.env.locals/\b ∉ X.fs/\(b∈X.ex\/X.s₀.heap.objs.size<=b)/\(∀x c,X.env.cells.lookup x=some c->c≠b)/\∀p∈X.pn++pins,p.1≠b
theorem Inv.og{X:Cx}{pins:List (Addr × Obj)}{σ:St}{H H':Hp}{s:Shared}{b:Addr}(I:Inv X pins σ H s)(hb:s.heap.objs.size<=b)(hn:H' b=none):dF X pins H' b:=by
 refine⟨hn,eB (c9 I.lt hb),I.WM hb,.inr (b_ I.sz hb),λx c e z=>?_,λp hp z=>?_⟩
 ·obtain⟨v,q⟩:=I.cell x c e
  exact absurd (c9 q.lt (by rw[z];exact hb)) (fu _)
 ·exact absurd (c9 (aQ (I.pin p hp).1) (by rw[z];exact hb)) (fu _)
structure Turn (P:Program) (w:World) (K:W.Frag) (tg:Expr) (J:It) (fp:List Addr) (it:Addr) (tn:Nat->Heap->Prop):Prop where
 mem:it∈fp
 obj:∀i h,tn i h->∀b∈fp,∃o,h.get? b=some o/\∀v,o.data≠.cell v
 keep:∀i h h',tn i h->(∀b∈fp,∀o,h.get? b=some o->h'.get? b=some o)->tn i h'
 item:∀(X:Cx),X.prog=P->X.w=w->X.K=K->X.calm=true->∀(i:Nat) (pins:List (Addr × Obj)) (s:Shared) (σ:St) (H:Hp) (E:Value->Shared->Prop),Inv X pins σ H s->(∀b∈fp,dF X pins H b)->tn i s.heap->J.go i H ->
  wpAny (model P w) X.A (pyNext (.ref it)) (λr s1=>∃u,r=some u /\
   wpAny (model P w) X.A (letOwnedTupleGo tg (.ref it) u) (λ_ s2=>∃x H',Inv X pins σ H' s2/\RelV x u/\J.lB i H x H'/\tn (i+1) s2.heap/\∀b∈fp,H' b=none) E s1) E s
 done:∀(X:Cx),X.prog=P->X.w=w->X.K=K->X.calm=true->∀(i:Nat) (pins:List (Addr × Obj)) (s:Shared) (σ:St) (H:Hp) (E:Value->Shared->Prop),Inv X pins σ H s->(∀b∈fp,dF X pins H b)->tn i s.heap->J.stop i H ->
  wpAny (model P w) X.A (pyNext (.ref it)) (λr s1=>r=none/\Inv X pins σ H s1) E s
 self:∀(A:Around) (i:Nat) (s:Shared) (Q:Value->Shared->Prop) (E:Value->Shared->Prop),tn i s.heap->Q (.ref it) s->wpAny (model P w) A (pyIter (.ref it)) Q E s
abbrev TI:=St->Hp->(It->Hp->Prop)->Prop
def PIE(X:Cx)(pins:List (Addr × Obj))(σ:St)(tg:Expr)(R:It->Hp->Prop)(itv:Value)(s2:Shared):Prop:=
 ∃(it:Addr) (fp:List Addr) (tn:Nat->Heap->Prop) (J:It) (H':Hp),itv = .ref it/\Inv X pins σ H' s2/\Turn X.prog X.w X.K tg J fp it tn/\tn 0 s2.heap/\(∀b∈fp,dF X pins H' b)/\R J H'
def PI(X:Cx)(tg iter:Expr)(wi:TI):Prop:=
 ∀(pins:List (Addr × Obj)) (s:Shared) (σ:St) (H:Hp) (R:It->Hp->Prop),Inv X pins σ H s->wi σ H R ->
  wpAny (model X.prog X.w) X.A (eval iter X.env) (λv s1=>wpAny (model X.prog X.w) X.A (pyIter v) (PIE X pins σ tg R) X.xe s1) X.xe s
theorem zX{M:Model}{A:Around}{E:Value->Shared->Prop}{s:Shared}{tg:Expr}{it:Addr}{u:Value}{o:Obj}{n:String}{vs:Array Value}{Q:Unit->Shared->Prop}(ho:s.heap.get? it=some o)(hc:o.cls = .type n)(hd:o.data = .fields vs)
  (hn:["enumerate","zip","dict_itemiterator","dict_reverseitemiterator","odict_iterator","itertools.zip_longest","itertools.pairwise"].contains n=false) (hQ:Q () s):wpAny M A (letOwnedTupleGo tg (.ref it) u) Q E s:=by
 unfold letOwnedTupleGo;cases tg <;> first
  |exact aI hQ
  | (cases u <;> first
    |exact aI hQ
    | (refine ai (wpAny_load ho ?_);rw[hc,hd];show wpAny M A (if(["enumerate","zip","dict_itemiterator","dict_reverseitemiterator","odict_iterator","itertools.zip_longest","itertools.pairwise"].contains n&&vs[0]? == some (rawInt _))=true then _ else _) Q E s;rw[if_neg (by intro h;rw[hn,iX]at h;cases h)];exact aI hQ))
def ki(K:W.Frag)(a:Addr):It:=
 ⟨λi H=>∃xs x,ah K H a xs/\xs[i]? = some x,λi H x H'=>H'=H/\∀xs,ah K H a xs->xs[i]? = some x,λi H=>∃xs,ah K H a xs/\xs.length<=i⟩
def lH(K:W.Frag)(a:Addr):It:=
 ⟨λi H=>∃xs x,aF K H a xs/\xs[i]? = some x,λi H x H'=>H'=H/\∀xs,aF K H a xs->xs[i]? = some x,λi H=>∃xs,aF K H a xs/\xs.length<=i⟩
def kj(lo:Int)(n:Nat):It:=⟨λi _=>i<n,λi H x H'=>H'=H/\x = .int (lo+i),λi _=>n<=i⟩
theorem aaS{P:Program}{w:World}{K:W.Frag}{tg:Expr}(a it:Addr):Turn P w K tg (ki K a) [it] it (λi h=>h.IsListIter it a i) where
 mem:=by simp
 obj:=λi h st b hb=>by
  have e:b=it:=by simpa using hb
  subst e;obtain⟨o,e,c,d⟩:=st;exact⟨o,e,λv z=>by rw[d]at z;cases z⟩
 keep:=λi h h' st k=>st.at λo e=>k it (by simp) o e
 item:=by
  intro X hP hw hK hc i pins s σ H E I hf st hg;subst hP hw hK;obtain⟨xs,x,hq,hx⟩:=hg;obtain⟨its,rv,p,hz⟩:=I.list hq;obtain⟨u,hu,ru⟩:=rv.get hx;obtain⟨f0,f1,f2,f3,f4,f5⟩:=hf it (by simp);refine wpAny_pyNext_list_item st p.isList (x:=u) (by simpa using hu) λh' st' sb=>?_
  have I1:Inv X pins σ H {s with heap:=h'}:=I.turned (t':=s.toks) (λb o hb e=>(sb.2 b hb).trans e) f0 f1 f3 f4 f5;obtain⟨o,e,c,d⟩:=id st';exact⟨u,rfl,zX (s:={s with heap:=h'}) e c d (by decide) ⟨x,H,I1,ru,⟨rfl,λys hy=>by rw[I.Kd hy hq];exact hx⟩,st',λb hb=>(hf b hb).1⟩⟩
 done:=by
  intro X hP hw hK hc i pins s σ H E I hf st hg;subst hP hw hK;obtain⟨xs,hq,hx⟩:=hg;obtain⟨its,rv,p,hz⟩:=I.list hq;obtain⟨f0,f1,f2,f3,f4,f5⟩:=hf it (by simp);have hl:=rv.length;exact wpAny_pyNext_list_end (I.ok.hd hc) st p.isList (by simp;omega) λh' eb=>⟨rfl,I.turned (t':=s.toks) (λb o hb e=>eb b o hb e) f0 f1 f3 f4 f5⟩
 self:=λ_ _ _ _ _ st h=>wpAny_pyIter_listiter st h
theorem aaU{P:Program}{w:World}{K:W.Frag}{tg:Expr}(a it:Addr):Turn P w K tg (lH K a) [it] it (λi h=>h.IsTupleIter it a i) where
 mem:=by simp
 obj:=λi h st b hb=>by
  have e:b=it:=by simpa using hb
  subst e;obtain⟨o,e,c,d⟩:=st;exact⟨o,e,λv z=>by rw[d]at z;cases z⟩
 keep:=λi h h' st k=>st.at λo e=>k it (by simp) o e
 item:=by
  intro X hP hw hK hc i pins s σ H E I hf st hg;subst hP hw hK;obtain⟨xs,x,hq,hx⟩:=hg;obtain⟨its,rv,p,hz⟩:=I.tuple hq;obtain⟨u,hu,ru⟩:=rv.get hx;obtain⟨f0,f1,f2,f3,f4,f5⟩:=hf it (by simp);refine wpAny_pyNext_tuple_item st (show s.heap.IsTuple a its.toArray from p) (x:=u) (by simpa using hu) λh' st' sb=>?_
  have I1:Inv X pins σ H {s with heap:=h'}:=I.turned (t':=s.toks) (λb o hb e=>(sb.2 b hb).trans e) f0 f1 f3 f4 f5;obtain⟨o,e,c,d⟩:=id st';exact⟨u,rfl,zX (s:={s with heap:=h'}) e c d (by decide) ⟨x,H,I1,ru,⟨rfl,λys hy=>by rw[I.Ex hy hq];exact hx⟩,st',λb hb=>(hf b hb).1⟩⟩
 done:=by
  intro X hP hw hK hc i pins s σ H E I hf st hg;subst hP hw hK;obtain⟨xs,hq,hx⟩:=hg;obtain⟨its,rv,p,hz⟩:=I.tuple hq;obtain⟨f0,f1,f2,f3,f4,f5⟩:=hf it (by simp);have hl:=rv.length;exact wpAny_pyNext_tuple_end (I.ok.hd hc) st (show s.heap.IsTuple a its.toArray from p) (by simp;omega) λh' eb=>⟨rfl,I.turned (t':=s.toks) (λb o hb e=>eb b o hb e) f0 f1 f3 f4 f5⟩
 self:=λ_ _ _ _ _ st h=>wpAny_pyIter_tupleiter st h
theorem aaT{P:Program}{w:World}{K:PySem.W.Frag}{tg:Expr}(it:Addr)(lo:Int)(n:Nat):Turn P w K tg (kj lo n) [it] it (λi h=>IsRangeIter h it (lo+(i:Nat) * 1) ((n:Int) - (i:Nat)) 1) where
 mem:=by simp
 obj:=λi h st b hb=>by
  have e:b=it:=by simpa using hb
  subst e;exact⟨_,st,λv z=>by
   have z':Data.fields _=Data.cell v:=z;cases z'⟩
 keep:=λi h h' st k=>k it (by simp) _ st
 item:=by
  intro X hP hw hK hc i pins s σ H E I hf st hg;subst hP hw hK;obtain⟨f0,f1,f2,f3,f4,f5⟩:=hf it (by simp);have W:=Walks.range (prog:=X.prog) (w:=X.w) (I.ok.hd hc) it lo 1 n;refine W.item i s _ _ hg st λv h' tk hv st' kk=>?_
  obtain⟨t,rfl⟩:=hv;have I1:Inv X pins σ H {s with heap:=h',toks:=tk}:=I.turned (λb o hb e=>kk b o (by simpa using hb) e) f0 f1 f3 f4 f5;refine⟨_,rfl,zX (s:={s with heap:=h',toks:=tk}) (n:= "range_iterator") st' rfl rfl (by decide) ⟨.int (lo+i),H,I1,⟨t,?_⟩,⟨rfl,rfl⟩,st',λb hb=>(hf b hb).1⟩⟩;rw[Int.mul_one]
 done:=by
  intro X hP hw hK hc i pins s σ H E I hf st hg;subst hP hw hK;obtain⟨f0,f1,f2,f3,f4,f5⟩:=hf it (by simp);exact wpAny_pyNext_range_end (I.ok.hd hc) st (by have:n<=i:=hg;omega) λh' eb=>⟨rfl,I.turned (t':=s.toks) (λb o hb e=>eb b o hb e) f0 f1 f3 f4 f5⟩
 self:=λ_ _ _ _ _ st h=>wpAny_pyIter_rangeiter st h
section
variable {X:Cx} {tg:Expr}
def Jx(K:W.Frag)(tl:TE):TI:=λσ H R=>tl σ H λx H1=>∃a,x = .ref a/\(∃xs,ah K H1 a xs)/\R (ki K a) H1
def Jy(K:W.Frag)(tl:TE):TI:=λσ H R=>tl σ H λx H1=>∃a,x = .ref a/\(∃xs,aF K H1 a xs)/\R (lH K a) H1
theorem YX{l:Expr}{tl:TE}(hl:PE X l tl):PI X tg l (Jx X.K tl):=by
 intro pins s σ H R I h;refine aK (hl pins s σ H _ I h) λv s1 ⟨x,H1,I1,r1,q1⟩=>?_
 obtain⟨a,e,⟨xs,hq⟩,q⟩:=q1;subst e;cases r1;obtain⟨its,rv,p,hz⟩:=I1.list hq;refine pL p.isList ?_;refine⟨s1.heap.objs.size,[s1.heap.objs.size],_,_,H1,rfl,I1.kept (t':=s1.toks) λb o e=>aU _ e,aaS a _,⟨_,cn _ rfl,rfl,rfl⟩,λb hb=>?_,q⟩;have e:b=s1.heap.objs.size:=by simpa using hb
 subst e;exact I1.og (aW _) (I1.hok.fresh (aW _))
theorem Y0{l:Expr}{tl:TE}(hl:PE X l tl):PI X tg l (Jy X.K tl):=by
 intro pins s σ H R I h;refine aK (hl pins s σ H _ I h) λv s1 ⟨x,H1,I1,r1,q1⟩=>?_
 obtain⟨a,e,⟨xs,hq⟩,q⟩:=q1;subst e;cases r1;obtain⟨its,rv,p,hz⟩:=I1.tuple hq;refine wpAny_pyIter_tuple (show s1.heap.IsTuple a its.toArray from p) ?_;refine⟨s1.heap.objs.size,[s1.heap.objs.size],_,_,H1,rfl,I1.kept (t':=s1.toks) λb o e=>aU _ e,aaU a _,⟨_,cn _ rfl,rfl,rfl⟩,λb hb=>?_,q⟩;have e:b=s1.heap.objs.size:=by simpa using hb
 subst e;exact I1.og (aW _) (I1.hok.fresh (aW _))
theorem L7{pins:List (Addr × Obj)}{σ:St}{H:Hp}{s:Shared}{R:It->Hp->Prop}{E:Value->Shared->Prop}{lo hi:Int}{t u v:Tok}{tk:Nat}(I:Inv X pins σ H s)(h1:-(2 ^ 62)<=lo)(h2:lo<2 ^ 62)(h3:-(2 ^ 62)<=hi)(h4:hi<2 ^ 62)
  (q:R (kj lo (hi - lo).toNat) H):wpAny (model X.prog X.w) X.A (pyIter (.ref s.heap.objs.size)) (PIE X pins σ tg R) E {s with heap:=s.heap.push {cls:=.type "range", data:=.fields #[.int lo t,.int hi u,.int 1 v]},toks:=tk}:=by
 refine wpAny_pyIter_range (IsRange.new ..) (small_one h1 h2 h3 h4) ?_;have I1:Inv X pins σ H {s with heap:=s.heap.push {cls:=.type "range", data:=.fields #[.int lo t,.int hi u,.int 1 v]},toks:=tk}:=I.kept λb o e=>aU _ e
 refine⟨(s.heap.push {cls:=.type "range", data:=.fields #[.int lo t,.int hi u,.int 1 v]}).objs.size,[(s.heap.push {cls:=.type "range", data:=.fields #[.int lo t,.int hi u,.int 1 v]}).objs.size],_,_,H,rfl,
  I1.kept (t':=tk) λb o e=>aU _ e,aaT _ lo (hi - lo).toNat,?_,λb hb=>?_,q⟩
 ·have e1:lo+((0:Nat):Int) * 1=lo:=by simp
  have e2:(((hi - lo).toNat:Nat):Int) - ((0:Nat):Int)=Builtin.Range.rangeSize lo hi 1:=by rw[rangeSize_one];split <;> omega
  show IsRangeIter _ _ (lo+((0:Nat):Int) * 1) ((((hi - lo).toNat:Nat):Int) - ((0:Nat):Int)) 1;rw[e1,e2];exact cn _ rfl
 ·have e:b=(s.heap.push {cls:=.type "range", data:=.fields #[.int lo t,.int hi u,.int 1 v]}).objs.size:=by simpa using hb
  subst e;exact I1.og (aW _) (I1.hok.fresh (aW _))
def U1(ta:TA):TI:=λσ H R=>ta σ H λvs H1=>∃j:Int,vs = [.int j]/\-(2 ^ 62)<=j/\j<2 ^ 62/\R (kj 0 j.toNat) H1
def U3(ta:TA):TI:=λσ H R=>ta σ H λvs H1=>∃i j:Int,vs = [.int i,.int j]/\(-(2 ^ 62)<=i/\i<2 ^ 62/\-(2 ^ 62)<=j/\j<2 ^ 62)/\R (kj i (j - i).toNat) H1
theorem df {a:Expr} {ta:TA} {p pos:Pos} (hg:Gl X "range") (hm:X.mg "range" = none) (ha:PA X [a] ta) (hs:starEach [a] X.env = [(false,eval a X.env)]:=by rfl):PI X tg (.Call (.Name "range" p) [a] [] pos) (U1 ta):=by
 intro pins s σ H R I h;refine Call_ (jq I hg hm boot_range (m8 (aK (ha pos pins s σ H _ I h) λus s1 ⟨vs,H1,I1,r1,q1⟩=>?_) hs rfl));obtain⟨j,e,q1,q2,q⟩:=q1;subst e;cases r1 with
 |cons r rr =>
  cases rr;obtain⟨t,rfl⟩:=r;exact call_range_1 (L7 I1 (by omega) (by omega) q1 q2 (by simpa using q))
theorem Bx {a b:Expr} {ta:TA} {p pos:Pos} (hg:Gl X "range") (hm:X.mg "range" = none) (ha:PA X [a,b] ta) (hs:starEach [a,b] X.env = [(false,eval a X.env),(false,eval b X.env)]:=by rfl) (hs2:starEach [b] X.env = [(false,eval b X.env)]:=by rfl) :
  PI X tg (.Call (.Name "range" p) [a,b] [] pos) (U3 ta):=by
 intro pins s σ H R I h;refine Call_ (jq I hg hm boot_range (m8 (aK (ha pos pins s σ H _ I h) λus s1 ⟨vs,H1,I1,r1,q1⟩=>?_) (by rw[hs,hs2]) (by rw[hs2];rfl)));obtain⟨i,j,e,⟨q1,q2,q3,q4⟩,q⟩:=q1;subst e;cases r1 with
 |cons r rr =>
  cases rr with
  |cons r' rr =>
   cases rr;obtain⟨t,rfl⟩:=r;obtain⟨t',rfl⟩:=r';exact call_range_2 (L7 I1 q1 q2 q3 q4 q)
def aar(wi:TI)(g:TG)(tb:TS):TS:=λD σ H=>wi σ H λJ H1=>∃W:Nat->Nat->St->Hp->Prop,(∃m,W 0 m σ H1)/\∀i m σ H,W i m σ H ->
 (J.stop i H/\D.nx σ H)\/(J.go i H/\∃N:St->Hp->Prop,(∀σ' H',N σ' H'->∃m',m'<m/\W (i+1) m' σ' H')/\∀x H',J.lB i H x H'->g x σ H' λσ2 H2=>tb {D with nx:=N,ct:=N,bk:=D.nx} σ2 H2)
def qO(fp:List Addr)(h:Heap):List (Addr × Obj):=fp.filterMap λb=>(h.get? b).map λo=>(b,o)
theorem ur{fp:List Addr}{h:Heap}{b:Addr}{o:Obj}(hb:b∈fp)(e:h.get? b=some o):(b,o)∈qO fp h:=List.mem_filterMap.mpr ⟨b,hb,by rw[e];rfl⟩
theorem W3{fp:List Addr}{h:Heap}{p:Addr × Obj}(hp:p∈qO fp h):p.1∈fp/\h.get? p.1=some p.2:=by
 obtain⟨b,hb,e⟩:=List.mem_filterMap.mp hp;cases q:h.get? b with
 |none=>rw[q]at e;cases e
 |some o =>
  rw[q]at e;have e':(b,o)=p:=da e;subst e';exact⟨hb,q⟩
theorem Inv.pinned{pins:List (Addr × Obj)}{σ:St}{H:Hp}{s:Shared}{fp:List Addr}(I:Inv X pins σ H s)(hf:∀b∈fp,dF X pins H b)(ho:∀b∈fp,∃o,s.heap.get? b=some o/\∀v,o.data≠.cell v):Inv X (pins++qO fp s.heap) σ H s:=
 I.uM λp hp=>(f6.mp hp).elim (λz=>I.pin p (gE _ z)) λz=>by
  obtain⟨hb,e⟩:=W3 z;obtain⟨f0,f1,f2,_⟩:=hf p.1 hb;obtain⟨o,e',d⟩:=ho p.1 hb;rw[e]at e';cases e';exact⟨e,f0,f1,f2,d⟩
theorem Inv.vP{pins pl:List (Addr × Obj)}{σ:St}{H:Hp}{s:Shared}(I:Inv X (pins++pl) σ H s):Inv X pins σ H s:=I.uM λp hp=>I.pin p (gE _ (ko _ hp))
theorem cI{iter:Expr}{body:List Stmt}{wi:TI}{g:TG}{tb:TS}{pos:Pos}(hp:PassesOwn (model X.prog X.w) X.A X.env X.xe)(hc:X.calm=true)(hi:PI X tg iter wi)(hg:PG X tg g)(hb:fw X body tb)(hs:∀x,foldedSetIterable iter X.env x=pure x:=by intro _;rfl):PS X (.For tg iter body [] pos) (aar wi g tb):=by
 intro pins s σ H D I h;refine wpAny_For (aK (hi pins s σ H _ I h) λv s1 h1=>aK h1 λitv s2 h2=>?_) hs;obtain⟨it,fp,tn,J,H2,e,I2,T,st2,f2,W,⟨m0,w0⟩,turn⟩:=h2;subst e;have stat:∀{H':Hp},(∀b∈fp,H' b=none)->∀b∈fp,dF X pins H' b:=λhn b hb=>⟨hn b hb,(f2 b hb).2⟩
 refine codeAny_forLoop_any (λn s'=>∃i σ' H',Inv X pins σ' H' s'/\tn i s'.heap/\(∀b∈fp,H' b=none)/\W i n σ' H') ?_ m0 ⟨0,σ,H2,I2,st2,λb hb=>(f2 b hb).1,w0⟩;rintro n s3 ⟨i,σ3,H3,I3,st3,p_,w3⟩
 rcases turn i n σ3 H3 w3 with⟨stop,qn⟩|⟨go,N,hN,step⟩
 ·refine nj hp (aK (T.done X rfl rfl rfl hc i pins s3 σ3 H3 X.xe I3 (stat p_) st3 stop) λr s4 ⟨hr,I4⟩=>?_)
  subst hr;exact sG ⟨σ3,H3,I4,qn⟩
 ·refine nj hp (aK (T.item X rfl rfl rfl hc i pins s3 σ3 H3 X.xe I3 (stat p_) st3 go) λr s4 ⟨u,hr,h4⟩=>?_)
  subst hr;refine nj hp (aK h4 λ_ s5 ⟨x,H5,I5,r5,y5,mG,zL⟩=>?_);have wg:=I5.pinned (stat zL) (T.obj _ _ mG);refine nj hp (aK (hg _ s5 σ3 H5 x u _ wg r5 (step x H5 y5)) λ_ s6 ⟨σ6,H6,I6,q6⟩=>?_);refine nj hp (aK (hb _ s6 σ6 H6 _ I6 q6) λf s7 q7=>?_);have again:∀{σ7:St} {H7:Hp},Inv X (pins++qO fp s5.heap) σ7 H7 s7->N σ7 H7->∃m,m<n/\∃i σ' H',Inv X pins σ' H' s7/\tn i s7.heap/\(∀b∈fp,H' b=none)/\W i m σ' H':=λ{σ7 H7} I7 n7=>by
   obtain⟨m',hm,w7⟩:=hN σ7 H7 n7;refine⟨m',hm,i+1,σ7,H7,I7.vP,T.keep _ _ _ mG λb hb o e=>(I7.pin (b,o) (gE _ (gE _ (ur hb e)))).1,λb hb=>?_,w7⟩;obtain⟨o,e,d⟩:=T.obj _ _ mG b hb;exact(I7.pin (b,o) (gE _ (gE _ (ur hb e)))).2.1
  cases f with
  |next=>obtain⟨σ7,H7,I7,n7⟩:=q7;exact again I7 n7
  |cont=>obtain⟨σ7,H7,I7,n7⟩:=q7;exact again I7 n7
  |brk=>obtain⟨σ7,H7,I7,q7⟩:=q7;exact⟨σ7,H7,I7.vP,q7⟩
  |ret v=>obtain⟨x7,σ7,H7,I7,r7,q7⟩:=q7;exact⟨x7,σ7,H7,I7.vP,r7,q7⟩
end
theorem jM{K:PySem.W.Frag}{a:Addr}{xs:List V}{g:TG}{tb:TS}{D:Ends}{σ:St}{H:Hp}(Pv:Nat->St->Hp->Prop)(h0:Pv 0 σ H)(hl:∀i σ H,i<=xs.length->Pv i σ H->ah K H a xs)
  (hs:∀i x σ H,xs[i]? = some x->Pv i σ H->g x σ H λσ2 H2=>tb {D with nx:=Pv (i+1),ct:=Pv (i+1),bk:=D.nx} σ2 H2) (hd:∀σ H,Pv xs.length σ H->D.nx σ H) :
  ∃W:Nat->Nat->St->Hp->Prop,(∃m,W 0 m σ H)/\∀i m σ H,W i m σ H ->
   ((ki K a).stop i H/\D.nx σ H)\/((ki K a).go i H/\∃N:St->Hp->Prop,(∀σ' H',N σ' H'->∃m',m'<m/\W (i+1) m' σ' H')/\∀x H',(ki K a).lB i H x H'->g x σ H' λσ2 H2=>tb {D with nx:=N,ct:=N,bk:=D.nx} σ2 H2):=by
 refine⟨λi m σ H=>m=xs.length - i/\i<=xs.length/\Pv i σ H,⟨xs.length,by simp,eD _,h0⟩,?_⟩;rintro i m σ H ⟨rfl,hi,p⟩;have q:=hl i σ H hi p
 by_cases hlt:i<xs.length
 ·refine .inr ⟨⟨xs,xs[i],q,by simp[hlt]⟩,Pv (i+1),λσ' H' p'=>⟨xs.length - (i+1),by omega,rfl,hlt,p'⟩,λx H' y=>?_⟩
  obtain⟨e,y⟩:=y;subst e;exact hs i x σ _ (y xs q) p
 ·have e:i=xs.length:=by omega
  subst e;exact .inl ⟨⟨xs,q,aW _⟩,hd σ H p⟩
theorem R_{K:PySem.W.Frag}{a:Addr}{xs:List V}{g:TG}{tb:TS}{D:Ends}{σ:St}{H:Hp}(Pv:Nat->St->Hp->Prop)(h0:Pv 0 σ H)(hl:∀i σ H,i<=xs.length->Pv i σ H->aF K H a xs)
  (hs:∀i x σ H,xs[i]? = some x->Pv i σ H->g x σ H λσ2 H2=>tb {D with nx:=Pv (i+1),ct:=Pv (i+1),bk:=D.nx} σ2 H2) (hd:∀σ H,Pv xs.length σ H->D.nx σ H) :
  ∃W:Nat->Nat->St->Hp->Prop,(∃m,W 0 m σ H)/\∀i m σ H,W i m σ H ->
   ((lH K a).stop i H/\D.nx σ H)\/((lH K a).go i H/\∃N:St->Hp->Prop,(∀σ' H',N σ' H'->∃m',m'<m/\W (i+1) m' σ' H')/\∀x H',(lH K a).lB i H x H'->g x σ H' λσ2 H2=>tb {D with nx:=N,ct:=N,bk:=D.nx} σ2 H2):=by
 refine⟨λi m σ H=>m=xs.length - i/\i<=xs.length/\Pv i σ H,⟨xs.length,by simp,eD _,h0⟩,?_⟩;rintro i m σ H ⟨rfl,hi,p⟩;have q:=hl i σ H hi p
 by_cases hlt:i<xs.length
 ·refine .inr ⟨⟨xs,xs[i],q,by simp[hlt]⟩,Pv (i+1),λσ' H' p'=>⟨xs.length - (i+1),by omega,rfl,hlt,p'⟩,λx H' y=>?_⟩
  obtain⟨e,y⟩:=y;subst e;exact hs i x σ _ (y xs q) p
 ·have e:i=xs.length:=by omega
  subst e;exact .inl ⟨⟨xs,q,aW _⟩,hd σ H p⟩
theorem fP{lo:Int}{n:Nat}{g:TG}{tb:TS}{D:Ends}{σ:St}{H:Hp}(Pv:Nat->St->Hp->Prop)(h0:Pv 0 σ H)
  (hs:∀i σ H,i<n->Pv i σ H->g (.int (lo+i)) σ H λσ2 H2=>tb {D with nx:=Pv (i+1),ct:=Pv (i+1),bk:=D.nx} σ2 H2) (hd:∀σ H,Pv n σ H->D.nx σ H) :
  ∃W:Nat->Nat->St->Hp->Prop,(∃m,W 0 m σ H)/\∀i m σ H,W i m σ H ->
   ((kj lo n).stop i H/\D.nx σ H)\/((kj lo n).go i H/\∃N:St->Hp->Prop,(∀σ' H',N σ' H'->∃m',m'<m/\W (i+1) m' σ' H')/\∀x H',(kj lo n).lB i H x H'->g x σ H' λσ2 H2=>tb {D with nx:=N,ct:=N,bk:=D.nx} σ2 H2):=by
 refine⟨λi m σ H=>m=n - i/\i<=n/\Pv i σ H,⟨n,by simp,eD _,h0⟩,?_⟩;rintro i m σ H ⟨rfl,hi,p⟩
 by_cases hlt:i<n
 ·refine .inr ⟨hlt,Pv (i+1),λσ' H' p'=>⟨n - (i+1),by omega,rfl,hlt,p'⟩,λx H' y=>?_⟩
  obtain⟨e,y⟩:=y;subst e y;exact hs i σ _ hlt p
 ·have e:i=n:=by omega
  subst e;exact .inl ⟨aW _,hd σ H p⟩
abbrev R2:=V->V->Hp->VK->Prop
def bT(X:Cx)(f:Value->Value->Sem Value)(r:R2):Prop:=
 ∀(pins:List (Addr × Obj)) (s:Shared) (σ:St) (H:Hp) (x y:V) (v u:Value) (Q:VK),Inv X pins σ H s->RelV x v->RelV y u->r x y H Q ->
  wpAny (model X.prog X.w) X.A (f v u) (EP X pins σ Q) X.xe s
def w_(X:Cx)(f:Value->Sem Value)(r:V->Hp->VK->Prop):Prop:=
 ∀(pins:List (Addr × Obj)) (s:Shared) (σ:St) (H:Hp) (x:V) (v:Value) (Q:VK),Inv X pins σ H s->RelV x v->r x H Q ->
  wpAny (model X.prog X.w) X.A (f v) (EP X pins σ Q) X.xe s
def d9(X:Cx)(f:Value)(r:List V->Hp->VK->Prop):Prop:=
 ∀(pins:List (Addr × Obj)) (s:Shared) (σ:St) (H:Hp) (xs:List V) (us:List Value) (Q:VK),Inv X pins σ H s->Vals xs us->r xs H Q ->
  wpAny (model X.prog X.w) X.A (call f us) (EP X pins σ Q) X.xe s
def vN(r:R2)(ta tb:TE):TE:=λσ H Q=>ta σ H λx H1=>tb σ H1 λy H2=>r x y H2 Q
def tUn(r:V->Hp->VK->Prop)(ta:TE):TE:=λσ H Q=>ta σ H λx H1=>r x H1 Q
def rI(C:Int->Int->Prop)(g:Int->Int->V):R2:=λx y H Q=>∃i j,x = .int i/\y = .int j/\C i j/\Q (g i j) H
def jw(g:Int->Int->V):R2:=λx y H Q=>∃i j,x = .int i/\y = .int j/\Q (g i j) H
def rU(g:Int->V):V->Hp->VK->Prop:=λx H Q=>∃i,x = .int i/\Q (g i) H
section
variable {X:Cx} {a b c:Expr} {ta tb tc:TE} {pos:Pos}
theorem xn(ha:PE X a ta)(hb:PE X b tb){pins:List (Addr × Obj)}{s:Shared}{σ:St}{H:Hp}{R:V->V->Hp->Prop}(I:Inv X pins σ H s)(h:ta σ H λx H1=>tb σ H1 λy H2=>R x y H2){Q:Value->Shared->Prop}{f:Value->Value->Sem Value}(hf:∀v u s2 x y H2,Inv X pins σ H2 s2->RelV x v->RelV y u->R x y H2->wpAny (model X.prog X.w) X.A (f v u) Q X.xe s2):wpAny (model X.prog X.w) X.A (eval a X.env) (λv s₁=>wpAny (model X.prog X.w) X.A (eval b X.env) (λu s₂=>wpAny (model X.prog X.w) X.A (f v u) Q X.xe s₂) X.xe s₁) X.xe s:=by
 refine aK (ha pins s σ H _ I h) λv s1 ⟨x,H1,I1,r1,q1⟩=>?_
 refine aK (hb pins s1 σ H1 _ I1 q1) λu s2 ⟨y,H2,I2,r2,q2⟩=>?_
 exact hf v u s2 x y H2 I2 r1 r2 q2
theorem ay{op:Operator}{r:R2}(ho:bT X (binaryOp op) r)(ha:PE X a ta)(hb:PE X b tb):PE X (.BinOp a op b pos) (vN r ta tb):=by
 intro pins s σ H Q I h;exact wpAny_BinOp (xn ha hb I h λv u s2 x y H2 I2 rx ry q=>ho pins s2 σ H2 x y v u Q I2 rx ry q)
theorem iC{op:UnaryOp}{r:V->Hp->VK->Prop}(ho:w_ X (unaryOp op) r)(ha:PE X a ta):PE X (.UnaryOp op a pos) (tUn r ta):=by
 intro pins s σ H Q I h;exact UnaryOp_ (aK (ha pins s σ H _ I h) λv s1 ⟨x,H1,I1,r1,q1⟩=>ho pins s1 σ H1 x v Q I1 r1 q1)
theorem oE{f:Value->Value->Sem Value}{C:Int->Int->Prop}{g:Int->Int->Int}
  (rule:∀(i j:Int) (t u:Tok) (s:Shared) (Q:Value->Shared->Prop) (E:Value->Shared->Prop),C i j->Q (.int (g i j) s.toks) {s with toks:=s.toks+1}->wpAny (model X.prog X.w) X.A (f (.int i t) (.int j u)) Q E s) :
  bT X f (rI C λi j=>.int (g i j)):=by
 intro pins s σ H x y v u Q I rx ry h;obtain⟨i,j,rfl,rfl,hc,q⟩:=h;obtain⟨t,rfl⟩:=rx;obtain⟨t',rfl⟩:=ry;exact rule i j t t' s _ _ hc ⟨.int (g i j),H,I.tok _,⟨_,rfl⟩,q⟩
theorem uE{f:Value->Value->Sem Value}{g:Int->Int->Int}
  (rule:∀(i j:Int) (t u:Tok) (s:Shared) (Q:Value->Shared->Prop) (E:Value->Shared->Prop),Q (.int (g i j) s.toks) {s with toks:=s.toks+1}->wpAny (model X.prog X.w) X.A (f (.int i t) (.int j u)) Q E s) :
  bT X f (jw λi j=>.int (g i j)):=by
 intro pins s σ H x y v u Q I rx ry h;obtain⟨i,j,rfl,rfl,q⟩:=h;obtain⟨t,rfl⟩:=rx;obtain⟨t',rfl⟩:=ry;exact rule i j t t' s _ _ ⟨.int (g i j),H,I.tok _,⟨_,rfl⟩,q⟩
theorem uD{f:Value->Value->Sem Value}{g:Int->Int->Bool}(rule:∀(i j:Int) (t u:Tok) (s:Shared) (Q:Value->Shared->Prop) (E:Value->Shared->Prop),Q (.bool (g i j)) s->wpAny (model X.prog X.w) X.A (f (.int i t) (.int j u)) Q E s):bT X f (jw λi j=>.bl (g i j)):=by
 intro pins s σ H x y v u Q I rx ry h;obtain⟨i,j,rfl,rfl,q⟩:=h;obtain⟨t,rfl⟩:=rx;obtain⟨t',rfl⟩:=ry;exact rule i j t t' s _ _ ⟨.bl (g i j),H,I,rfl,q⟩
def Pq(i j:Int):Prop:=0<j/\j<1073741824
def Fm(i j:Int):Prop:=0<=j/\j<=1000000/\i.natAbs<2 ^ 64
def rJ(i j:Int):Prop:=(-(2 ^ 64)<i/\i<2 ^ 64)\/(-(2 ^ 64)<j/\j<2 ^ 64)
theorem rJ.ok{i j:Int}(h:rJ i j):IntMulOk i j:=by
 rcases h with⟨h1,h2⟩|⟨h1,h2⟩
 ·exact .of_left (intBits_le_64 h1 h2)
 ·exact .of_right (intBits_le_64 h1 h2)
theorem aaX(k:Nat):(0:Int)<=2 ^ k:=by
 rw[two_pow_cast];exact Int.natCast_nonneg _
theorem bV:bT X (binaryOp .Add) (jw λi j=>.int (i+j)):=uE λ_ _ _ _ _ _ _ q=>add_int q
theorem Bs:bT X (binaryOp .Sub) (jw λi j=>.int (i - j)):=uE λ_ _ _ _ _ _ _ q=>sub_int q
theorem kP:bT X (binaryOp .Mult) (rI rJ λi j=>.int (i * j)):=oE λ_ _ _ _ _ _ _ hc q=>mul_int q hc.ok
theorem jT:bT X (binaryOp .FloorDiv) (rI Pq λi j=>.int (i / j)):=oE λi j _ _ _ _ _ hc q=>by
 have h1:(0:Int)<j:=hc.1;have h2:j<1073741824:=hc.2;exact floordiv_int (by omega) (by rw[PB i (by omega)];exact q) (.inl (PyProof.noPylong_small (by omega)))
theorem bW:bT X (binaryOp .Mod) (rI (λ_ j=>0<j) λi j=>.int (i % j)):=oE λi j _ _ _ _ _ hc q=>by
 have h1:(0:Int)<j:=hc;exact mod_int' (by omega) (by rw[Int.fmod_eq_emod_of_nonneg i (by omega)];exact q)
theorem K9:bT X (binaryOp .Pow) (rI Fm λi j=>.int (i ^ j.toNat)):=oE λ_ _ _ _ _ _ _ hc q=>pow_int_small hc.1 hc.2.1 hc.2.2 q
theorem oF:bT X (binaryOp .LShift) (rI Fm λi j=>.int (i * 2 ^ j.toNat)):=oE λ_ _ _ _ _ _ _ hc q=>lshift_int_small hc.1 hc.2.1 hc.2.2 q
theorem La:bT X (binaryOp .RShift) (rI (λ_ j=>0<=j) λi j=>.int (i / 2 ^ j.toNat)):=oE λi j _ _ _ _ _ hc q =>
 rshift_int hc (by rw[PB i (aaX _)];exact q)
theorem mz:bT X (binaryOp .BitAnd) (jw λi j=>.int (Builtin.bitAnd i j)):=uE λ_ _ _ _ _ _ _ q=>and_int q
theorem uG:bT X (binaryOp .BitOr) (jw λi j=>.int (Builtin.bitOr i j)):=uE λ_ _ _ _ _ _ _ q=>or_int q
theorem unI{f:Value->Sem Value}{g:Int->Int}
  (rule:∀(i:Int) (t:Tok) (s:Shared) (Q:Value->Shared->Prop) (E:Value->Shared->Prop),Q (.int (g i) s.toks) {s with toks:=s.toks+1}->wpAny (model X.prog X.w) X.A (f (.int i t)) Q E s) :
  w_ X f (rU λi=>.int (g i)):=by
 intro pins s σ H x v Q I rx h;obtain⟨i,rfl,q⟩:=h;obtain⟨t,rfl⟩:=rx;exact rule i t s _ _ ⟨.int (g i),H,I.tok _,⟨_,rfl⟩,q⟩
theorem iF:w_ X (unaryOp .USub) (rU λi=>.int (-i)):=unI λ_ _ _ _ _ q=>neg_int q
end
def N5:V->V->Bool
 |.non,.non=>true | .non,.int _=>true | .int _,.non=>true | .non,.bl _=>true | .bl _,.non=>true | .non,.str _=>true | .str _,.non=>true
 |.int _,.int _=>true | .bl _,.bl _=>true | .str _,.str _=>true | .iq _,.iq _=>true
 |.int _,.str _=>true | .str _,.int _=>true | .bl _,.str _=>true | .str _,.bl _=>true
 |_,_=>false
def Zj:R2:=λx y H Q=>N5 x y=true/\Q (.bl (decide (x=y))) H
def Zz:R2:=λx y H Q=>N5 x y=true/\Q (.bl (!decide (x=y))) H
theorem Ht{i j:Int}:decide (V.int i=V.int j)=(i == j):=by
 rw[dQ];simp
theorem Hr{i j:Bool}:decide (V.bl i=V.bl j)=(i == j):=by
 rw[dQ];simp
theorem Hu{i j:Str}:decide (V.str i=V.str j)=(i == j):=by
 rw[dQ];simp
theorem Hs{i j:Array UInt8}:decide (V.iq i=V.iq j)=(i.toList == j.toList):=by
 rw[dQ];cases i;cases j;simp
section
variable {X:Cx} {a b c:Expr} {ta tb tc:TE} {pos:Pos}
theorem ck{pins:List (Addr × Obj)}{σ:St}{H:Hp}{s:Shared}{Q:VK}{k k':Bool}(I:Inv X pins σ H s)(q:Q (.bl k) H)(e:k=k'):EP X pins σ Q (.bool k') s:=by
 subst e;exact⟨.bl k,H,I,rfl,q⟩
theorem cX:bT X (compareOp .Eq) Zj:=by
 intro pins s σ H x y v u Q I rx ry h;obtain⟨hs,q⟩:=h;cases x with
 |non =>
  cases rx;cases y with
  |non=>cases ry;exact PySem.EqNone.eq_none_none (ck I q (by simp))
  |bl j=>cases ry;exact PySem.EqNone.eq_none_bool (ck I q (by simp))
  |int j=>obtain⟨t',rfl⟩:=ry;exact PySem.EqNone.eq_none_int (ck I q (by simp))
  |str j=>obtain⟨t',rfl⟩:=ry;exact PySem.EqNone.eq_none_str (ck I q (by simp))
  |_=>exact absurd (show false=true from hs) Bool.false_ne_true
 |bl i =>
  cases rx;cases y with
  |non=>cases ry;exact PySem.EqNone.eq_bool_none (ck I q (by simp))
  |bl j=>cases ry;exact eq_bool (ck I q Hr)
  |str j=>obtain⟨t',rfl⟩:=ry;exact PySem.EqMixed.eq_bool_str (ck I q (by simp))
  |_=>exact absurd (show false=true from hs) Bool.false_ne_true
 |int i =>
  obtain⟨t,rfl⟩:=rx;cases y with
  |non=>cases ry;exact PySem.EqNone.eq_int_none (ck I q (by simp))
  |int j=>obtain⟨t',rfl⟩:=ry;exact eq_int (ck I q Ht)
  |str j=>obtain⟨t',rfl⟩:=ry;exact PySem.EqMixed.eq_int_str (ck I q (by simp))
  |_=>exact absurd (show false=true from hs) Bool.false_ne_true
 |str i =>
  obtain⟨t,rfl⟩:=rx;cases y with
  |non=>cases ry;exact PySem.EqNone.eq_str_none (ck I q (by simp))
  |bl j=>cases ry;exact PySem.EqMixed.eq_str_bool (ck I q (by simp))
  |int j=>obtain⟨t',rfl⟩:=ry;exact PySem.EqMixed.eq_str_int (ck I q (by simp))
  |str j=>obtain⟨t',rfl⟩:=ry;exact eq_str (ck I q Hu)
  |_=>exact absurd (show false=true from hs) Bool.false_ne_true
 |iq i =>
  obtain⟨t,rfl⟩:=rx;cases y with
  |iq j=>obtain⟨t',rfl⟩:=ry;exact W.eq_bytes (ck I q Hs)
  |_=>exact absurd (show false=true from hs) Bool.false_ne_true
 |_=>cases y <;> exact absurd (show false=true from hs) Bool.false_ne_true
theorem iA:bT X (compareOp .NotEq) Zz:=by
 intro pins s σ H x y v u Q I rx ry h;obtain⟨hs,q⟩:=h;cases x with
 |non =>
  cases rx;cases y with
  |non=>cases ry;exact PySem.EqNone.ne_none_none (ck I q (by simp))
  |bl j=>cases ry;exact PySem.EqNone.ne_none_bool (ck I q (by simp))
  |int j=>obtain⟨t',rfl⟩:=ry;exact PySem.EqNone.ne_none_int (ck I q (by simp))
  |str j=>obtain⟨t',rfl⟩:=ry;exact PySem.EqNone.ne_none_str (ck I q (by simp))
  |_=>exact absurd (show false=true from hs) Bool.false_ne_true
 |bl i =>
  cases rx;cases y with
  |non=>cases ry;exact PySem.EqNone.ne_bool_none (ck I q (by simp))
  |bl j=>cases ry;exact ne_bool (ck I q (congrArg not Hr))
  |str j=>obtain⟨t',rfl⟩:=ry;exact PySem.EqMixed.ne_bool_str (ck I q (by simp))
  |_=>exact absurd (show false=true from hs) Bool.false_ne_true
 |int i =>
  obtain⟨t,rfl⟩:=rx;cases y with
  |non=>cases ry;exact PySem.EqNone.ne_int_none (ck I q (by simp))
  |int j=>obtain⟨t',rfl⟩:=ry;exact ne_int (ck I q (congrArg not Ht))
  |str j=>obtain⟨t',rfl⟩:=ry;exact PySem.EqMixed.ne_int_str (ck I q (by simp))
  |_=>exact absurd (show false=true from hs) Bool.false_ne_true
 |str i =>
  obtain⟨t,rfl⟩:=rx;cases y with
  |non=>cases ry;exact PySem.EqNone.ne_str_none (ck I q (by simp))
  |bl j=>cases ry;exact PySem.EqMixed.ne_str_bool (ck I q (by simp))
  |int j=>obtain⟨t',rfl⟩:=ry;exact PySem.EqMixed.ne_str_int (ck I q (by simp))
  |str j=>obtain⟨t',rfl⟩:=ry;exact ne_str (ck I q (congrArg not Hu))
  |_=>exact absurd (show false=true from hs) Bool.false_ne_true
 |iq i =>
  obtain⟨t,rfl⟩:=rx;cases y with
  |iq j=>obtain⟨t',rfl⟩:=ry;exact W.ne_bytes (ck I q (congrArg not Hs))
  |_=>exact absurd (show false=true from hs) Bool.false_ne_true
 |_=>cases y <;> exact absurd (show false=true from hs) Bool.false_ne_true
theorem Br:bT X (compareOp .Lt) (jw λi j=>.bl (decide (i<j))):=uD λ_ _ _ _ _ _ _ q=>lt_int q
theorem Bq:bT X (compareOp .LtE) (jw λi j=>.bl (decide (i<=j))):=uD λ_ _ _ _ _ _ _ q=>le_int q
theorem Yg:bT X (compareOp .Gt) (jw λi j=>.bl (decide (j<i))):=uD λ_ _ _ _ _ _ _ q=>gt_int q
theorem Yf:bT X (compareOp .GtE) (jw λi j=>.bl (decide (j<=i))):=uD λ_ _ _ _ _ _ _ q=>ge_int q
theorem uF:bT X (compareOp .Is) (λx y H Q=>y = .non/\Q (.bl (decide (x = .non))) H):=by
 intro pins s σ H x y v u Q I rx ry h;obtain⟨rfl,q⟩:=h;cases ry;refine is_none_gen (ck I q ?_);cases x <;> first
  | (cases rx;rfl)
  | (obtain⟨t,rfl⟩:=rx;rfl)
theorem Yl:bT X (compareOp .IsNot) (λx y H Q=>y = .non/\Q (.bl (!decide (x = .non))) H):=by
 intro pins s σ H x y v u Q I rx ry h;obtain⟨rfl,q⟩:=h;cases ry;refine isnot_none_gen (ck I q ?_);cases x <;> first
  | (cases rx;rfl)
  | (obtain⟨t,rfl⟩:=rx;rfl)
theorem bj(b:Expr){op:CmpOp}(h:op≠.In:=by decide)(h2:op≠.NotIn:=by decide):behindInMarks op b=false:=by
 have e1:(op == CmpOp.In)=false:=by cases op <;> first|rfl|exact absurd rfl h
 have e2:(op == CmpOp.NotIn)=false:=by cases op <;> first|rfl|exact absurd rfl h2
 cases b <;> simp[behindInMarks,e1,e2]
theorem oJ{op:CmpOp}{r:R2}(ho:bT X (compareOp op) r)(ha:PE X a ta)(hb:PE X b tb)(hm:behindInMarks op b=false):PE X (.Compare a [op] [b] pos) (vN r ta tb):=by
 intro pins s σ H Q I h;exact wpAny_Compare1 (xn ha hb I h λv u s2 x y H2 I2 rx ry q=>ho pins s2 σ H2 x y v u Q I2 rx ry q) hm
def Oy(t:TE):TT:=λσ H Q=>t σ H λx H'=>∃k,x = .bl k/\Q k H'
theorem bC{op:CmpOp}{r:R2}(ho:bT X (compareOp op) r)(ha:PE X a ta)(hb:PE X b tb)(hm:behindInMarks op b=false):PT X (.Compare a [op] [b] pos) (Oy (vN r ta tb)):=by
 intro pins s σ H Q I h;refine wpAny_isTrue_Compare1 (aK (ha pins s σ H _ I h) λv s1 ⟨x,H1,I1,r1,q1⟩=>aK (hb pins s1 σ H1 _ I1 q1) λu s2 ⟨y,H2,I2,r2,q2⟩ =>
  aK (ho pins s2 σ H2 x y v u _ I2 r1 r2 q2) λc s3 ⟨z,H3,I3,r3,k,e,q3⟩=>?_) hm
 subst e;cases r3;exact je ⟨H3,I3,q3⟩
def Oq(r r':R2)(ta tb tc:TE):TE:=λσ H Q=>ta σ H λx H1=>tb σ H1 λy H2=>r x y H2 λz H3=>∃k,z = .bl k /\
 (if k=true then tc σ H3 λw' H4=>r' y w' H4 Q else Q (.bl false) H3)
theorem Yx{op op':CmpOp}{r r':R2}(ho:bT X (compareOp op) r)(ho':bT X (compareOp op') r')(ha:PE X a ta)(hb:PE X b tb)(hc:PE X c tc)(hm:lastMarks [op,op'] [b,c]=false:=by with_unfolding_all rfl):PE X (.Compare a [op,op'] [b,c] pos) (Oq r r' ta tb tc):=by
 intro pins s σ H Q I h;refine Compare_chain (aK (ha pins s σ H _ I h) λv s1 ⟨x,H1,I1,r1,q1⟩=>chain_link (aK (hb pins s1 σ H1 _ I1 q1) λu s2 ⟨y,H2,I2,r2,q2⟩ =>
  aK (ho pins s2 σ H2 x y v u _ I2 r1 r2 q2) λd s3 ⟨z,H3,I3,r3,k,e,q3⟩=>?_)) hm
 subst e;cases r3;refine je ?_;cases k with
 |false=>exact ite_ff ⟨.bl false,H3,I3,rfl,q3⟩
 |true=>exact ite_tt (chain_last (aK (hc pins s3 σ H3 _ I3 q3) λw' s4 ⟨z',H4,I4,r4,q4⟩=>ho' pins s4 σ H4 y z' u w' Q I4 r2 r4 q4))
theorem Y_{op op':CmpOp}{r r':R2}(ho:bT X (compareOp op) r)(ho':bT X (compareOp op') r')(ha:PE X a ta)(hb:PE X b tb)(hc:PE X c tc)(hm:lastMarks [op,op'] [b,c]=false:=by with_unfolding_all rfl):PT X (.Compare a [op,op'] [b,c] pos) (Oy (Oq r r' ta tb tc)):=by
 intro pins s σ H Q I h;refine isTrue_chain (aK (ha pins s σ H _ I h) λv s1 ⟨x,H1,I1,r1,q1⟩=>test_link (aK (hb pins s1 σ H1 _ I1 q1) λu s2 ⟨y,H2,I2,r2,q2⟩ =>
  aK (ho pins s2 σ H2 x y v u _ I2 r1 r2 q2) λd s3 ⟨z,H3,I3,r3,k,e,q3⟩=>?_)) hm
 subst e;cases r3;refine je ?_;cases k with
 |false =>
  obtain⟨k',e',q'⟩:=q3;cases e';exact ite_ff ⟨H3,I3,q'⟩
 |true =>
  refine ite_tt (test_last (aK (hc pins s3 σ H3 _ I3 q3) λw' s4 ⟨z',H4,I4,r4,q4⟩=>aK (ho' pins s4 σ H4 y z' u w' _ I4 r2 r4 q4) λd' s5 ⟨z2,H5,I5,r5,k2,e2,q5⟩=>?_));subst e2;cases r5;exact je ⟨H5,I5,q5⟩
theorem uk:(sizeLine:Nat)<2 ^ 63:=by rw[wY];decide
theorem vals1{x:V}{us:List Value}(r:Vals [x] us):∃u,us = [u]/\RelV x u:=by
 cases r with
 |cons r1 r2=>cases r2;exact⟨_,rfl,r1⟩
theorem sY:d9 X (.type "int") (λxs H Q=>(∃i,xs = [.int i]/\Q (.int i) H)\/∃k,xs = [.bl k]/\Q (.int (if k then 1 else 0)) H):=by
 intro pins s σ H xs us Q I r h
 rcases h with⟨i,rfl,q⟩|⟨k,rfl,q⟩
 ·obtain⟨u,rfl,t,rfl⟩:=vals1 r
  exact call_int_int ⟨.int i,H,I,⟨_,rfl⟩,q⟩
 ·obtain⟨u,rfl,r1⟩:=vals1 r
  cases r1;exact call_int_bool ⟨.int (if k then 1 else 0),H,I.tok _,⟨_,rfl⟩,q⟩
end
structure mY (h:Heap) (x dx C:Addr) (mA:Str->Option Value):Prop where
 obj:h.get? x=some (W.instObj C dx)
 ns:h.Ns1 dx mA
 ne:dx≠x
theorem V1{h:Heap}{dx:Addr}{mA:Str->Option Value}(n:h.Ns1 dx mA):∃od,h.get? dx=some od/\∀name,W.lookIn name od=some (mA name):=by
 obtain⟨o,es,ep,ho,hd,hk,_,hm⟩:=n;refine⟨o,ho,λname=>?_⟩;have e:=hm name;unfold nsFind findBy at e;rw[<- Array.find?_toList]at e;unfold W.lookIn;rw[hd];dsimp only
 split
 ·rename_i y q
  rw[q]at e;exact congrArg some e
 ·rename_i q
  rw[q]at e;have a:es.toList.any (·.refKey)=false:=by
   rw[Ft];intro y hy;obtain⟨z,t,hkey⟩:=hk y (Array.mem_toList_iff.mp hy);simp[DictEntry.refKey,hkey]
  have a':¬ es.toList.any (·.refKey)=true:=by rw[a];exact Bool.false_ne_true
  rw[if_neg a'];exact congrArg some e
theorem mY.look{h:Heap}{x dx C:Addr}{mA:Str->Option Value}(I:mY h x dx C mA):∃od,W.InstAt h x (W.instObj C dx) C (some od)/\∀name,W.lookIn name od=some (mA name):=
 let⟨od,ho,hl⟩:=V1 I.ns
 ⟨od,⟨I.obj,rfl,rfl,ho⟩,hl⟩
section
variable {prog:Program} {w:World} {A:Around} {E:Value->Shared->Prop} {s:Shared} {K:W.Frag} {x dx C f:Addr} {mA:Str->Option Value} {name:Str} {v:Value}
theorem get_map{expr:Bool}{Q:Value->Shared->Prop}(X:K.In s.heap)(I:mY s.heap x dx C mA)(hg:W.plainGet K C name=true)(hh:W.hasDictIn K C=true)
  (ha:W.findIn K (.ref C) name=some none) (hv:mA name=some v) (hv':W.handedIn v=true) (h:Q v {s with toks:=s.toks+1}) :
  wpAny (model prog w) A (getAttr (.ref x) name expr) Q E s:=by
 obtain⟨od,J,hl⟩:=I.look;exact W.get_value X J (W.plainGet_of hg).1 (W.findObj_own hh ha rfl (by rw[hl,hv])) hv' h
theorem Z2{ns:List Str}{Q:Unit->Shared->Prop}(X:K.In s.heap)(I:mY s.heap x dx C mA)
  (hs:W.findIn K (.ref C) "__setattr__" = some (some (.builtin "object.__setattr__"))) (hp:W.plainOver K C=true) (ht:W.takerIn K C name=some none) (hh:W.hasDictIn K C=true)
  (hw:PySem.Within mA ns) (hsz:ns.length<=sizeLine)
  (h:∀h',mY h' x dx C (λy=>if y=name then some v else mA y)->Heap.SameBut dx s.heap h'->Q () {s with heap:=h',toks:=s.toks+2}) :
  wpAny (model prog w) A (setAttr (.ref x) name v) Q E s:=by
 obtain⟨od,J,hl⟩:=I.look;refine W.set_plain X J hs (W.osa_open (s:={s with toks:=s.toks+1}) (r:=none) X J hp ht λb=>?_);obtain⟨cd,hc,hd'⟩:=W.any_some hh;have hx:s.heap.get? x=some ⟨.ref C,some dx,.plain,#[]⟩:=I.obj;refine ai (aI (ai (ai (wpAny_loadPart hx (ai (W.Looks.here (s:={s with toks:=s.toks+1}) (W.looks_clsIn X hc) ?_))))));rw[hd'];refine aI (a:=some dx) (ai (aI (ai ?_)));refine wpAny_nsSet1 (s:={s with toks:=s.toks+1}) I.ns λh' hn2 hs2=>?_
 obtain⟨oD,esD,epD,hoD,hdD,hcD⟩:=hn2.count (PySem.Within.cons name v hw);refine ai (wpAny_lookBehind hoD (by rw[hdD];exact pastItsLine_dict (b_ hcD (by rw[jE];omega))) ?_);exact aI (h _ ⟨(hs2.2 _ (bJ I.ne)).trans I.obj,hn2,I.ne⟩ hs2)
theorem V6{R:Result->Shared->Prop}{vs:List Value}{kw:List (Str × Value)}(X:K.In s.heap)(hm:W.makesIn K C=true)
  (hi:W.findIn K (.ref C) "__init__" = some (some (.ref f))) (hf:W.typeIn K (.ref f)=some (.type "function"))
  (h:codeAny (model prog w) (A.under (.builtin "type.__call__" ⟨.ref C::vs,kw⟩)) (.call (.ref f) ⟨.ref (s.heap.objs.size+1)::vs,kw⟩) (W.InitBack (s.heap.objs.size+1) R)
   {s with heap:=(s.heap.push W.emptyDict).push (W.instObj C s.heap.objs.size)}) :
  codeAny (model prog w) A (.call (.ref C) ⟨vs,kw⟩) R s:=by
 obtain⟨hh,g,d,t,os⟩:=s;exact W.make_core (W.makes_of X hm) (W.looks_findIn X hi) (λself=>W.bind_fn X self hf) (.inl rfl) h
end
def bY(f:Str)(v:V):List (Str × V)->List (Str × V)
 | []=>[(f,v)]
 | (g,x)::r=>if g=f then(g,v)::r else(g,x)::bY f v r
theorem g_(f g:Str)(v:V):∀fs:List (Str × V),(bY f v fs).lookup g=if g=f then some v else fs.lookup g
 | []=>by
  show List.lookup g [(f,v)]=_
  by_cases h:g=f
  ·have hb:(g == f)=true:=il.mpr h
   simp only[List.lookup,hb,if_pos h]
  ·have hb:(g == f)=false:=kx.mpr h
   simp only[List.lookup,hb,if_neg h]
 | (k,x)::r=>by
  have ih:=g_ f g v r;rw[show bY f v ((k,x)::r)=(if k=f then(k,v)::r else(k,x)::bY f v r)from rfl]
  by_cases hk:k=f
  ·rw[if_pos hk]
   by_cases h:g=k
   ·have hb:(g == k)=true:=il.mpr h
    simp only[List.lookup,hb,if_pos (h.trans hk)]
   ·have hb:(g == k)=false:=kx.mpr h
    simp only[List.lookup,hb,if_neg (λe:g=f=>h (e.trans hk.symm))]
  ·rw[if_neg hk]
   by_cases h:g=k
   ·have hb:(g == k)=true:=il.mpr h
    simp only[List.lookup,hb,if_neg (λe:g=f=>hk (h.symm.trans e))]
   ·have hb:(g == k)=false:=kx.mpr h
    simp only[List.lookup,hb];exact ih
theorem Bb(f:Str)(v:V):∀fs:List (Str × V),f∈(bY f v fs).map (·.1)/\∀g,g∈fs.map (·.1)->g∈(bY f v fs).map (·.1)
 | []=>⟨by simp[bY],λg h=>by simp at h⟩
 | (k,x)::r=>by
  obtain⟨i1,i2⟩:=Bb f v r;rw[show bY f v ((k,x)::r)=(if k=f then(k,v)::r else(k,x)::bY f v r)from rfl]
  by_cases hk:k=f
  ·rw[if_pos hk]
   subst hk;exact⟨by simp,λg h=>by simpa using h⟩
  ·rw[if_neg hk]
   refine⟨?_,λg h=>?_⟩
   ·rw[cL]
    exact cu _ i1
   ·rw[cL]at h ⊢
    rcases bq.mp h with e|e
    ·exact bq.mpr (.inl e)
    ·exact cu _ (i2 g e)
theorem oA(f:Str)(v:V):∀fs:List (Str × V),(bY f v fs).length<=fs.length+1
 | []=>by simp[bY]
 | (k,x)::r=>by
  have ih:=oA f v r;rw[show bY f v ((k,x)::r)=(if k=f then(k,v)::r else(k,x)::bY f v r)from rfl]
  by_cases hk:k=f
  ·rw[if_pos hk,jE,jE];omega
  ·rw[if_neg hk,jE,jE];omega
theorem f7.some_of{v:V}{o:Option Value}(r:f7 (some v) o):∃u,o=some u/\RelV v u:=by
 cases o with
 |none=>exact(show False from r).elim
 |some u=>exact⟨u,rfl,r⟩
theorem Ts{v:V}{u:Value}(r:RelV v u):W.handedIn u=true:=by
 cases v with
 |non=>cases(show u=Value.none from r);rfl
 |bl b=>cases(show u=Value.bool b from r);rfl
 |int i=>obtain⟨t,e⟩:=(show ∃t,u=Value.int i t from r);cases e;rfl
 |str x=>obtain⟨t,e⟩:=(show ∃t,u=Value.str x t from r);cases e;rfl
 |iq b=>obtain⟨t,e⟩:=(show ∃t,u=Value.bytes b t from r);cases e;rfl
 |flt b=>obtain⟨t,e⟩:=(show ∃t,u=Value.float b t from r);cases e;rfl
 |ref a=>cases(show u=Value.ref a from r);rfl
 |ty n=>cases(show u=Value.type n from r);rfl
section
variable {P:Program} {w:World} {H H':Hp} {h h':Heap} {a C dx:Addr} {fs fs':List (Str × V)}
theorem Av(hok:bE P w H h)(e:H a=some (.ins C dx fs)):∃mA,mY h a dx C mA/\(∀f,f7 (fs.lookup f) (mA f))/\PySem.Within mA (fs.map (·.1))/\fs.length<=1000/\H dx=some (.own a):=by
 obtain⟨d,z,ne,ob,mA,n,r,q⟩:=(show bw P w H h a (.ins C dx fs)from hok a _ e);exact⟨mA,⟨ob,n,ne⟩,r,q,z,d⟩
end
structure Cls (K:W.Frag) (C:Addr):Prop where
 pg:W.plainGet K C Str.empty=true
 hd:W.hasDictIn K C=true
 po:W.plainOver K C=true
 sa:W.findIn K (.ref C) "__setattr__" = some (some (.builtin "object.__setattr__"))
theorem Cls.get{K:W.Frag}{C:Addr}(c:Cls K C)(f:Str):W.plainGet K C f=true:=c.pg
def iK(K:W.Frag)(C:Addr)(f:Str):Prop:=W.findIn K (.ref C) f=some none
theorem iK.taker{K:W.Frag}{C:Addr}{f:Str}(n:iK K C f):W.takerIn K C f=some none:=by
 unfold W.takerIn;rw[show W.findIn K (.ref C) f=some none from n];rfl
section
variable {X:Cx} {pins:List (Addr × Obj)} {σ:St} {H:Hp} {s:Shared} {a C dx:Addr} {fs:List (Str × V)} {f:Str} {v:V} {A:Around} {E:Value->Shared->Prop}
theorem Sn{b:Bool}{Q:Value->Shared->Prop}(I:Inv X pins σ H s)(e:H a=some (.ins C dx fs))(c:Cls X.K C)(n:iK X.K C f)(l:fs.lookup f=some v)(h:∀u s',Inv X pins σ H s'->RelV v u->Q u s'):wpAny (model X.prog X.w) A (getAttr (.ref a) f b) Q E s:=by
 obtain⟨mA,O,r,_,_,_⟩:=Av I.hok e;obtain⟨u,hu,ru⟩:=f7.some_of (v:=v) (o:=mA f) (by rw[<- l];exact r f);exact get_map I.cq O (c.get f) c.hd n hu (Ts ru) (h u _ (I.tok _) ru)
theorem Z3{y:V}{u:Value}{Q:Unit->Shared->Prop}(I:Inv X pins σ H s)(e:H a=some (.ins C dx fs))(c:Cls X.K C)(n:iK X.K C f)(hl:fs.length<1000)(ry:RelV y u)(h:∀s',Inv X pins σ (upd H a (.ins C dx (bY f y fs))) s'->Q () s'):wpAny (model X.prog X.w) A (setAttr (.ref a) f u) Q E s:=by
 obtain⟨mA,O,r,wi,_,ho⟩:=Av I.hok e;have hz:(fs.map (·.1)).length<=sizeLine:=by rw[az,wY];omega
 refine Z2 I.cq O c.sa c.po n.taker c.hd wi hz λh' O' sb=>h _ ?_
 have hd:∃o,h'.get? dx=some o:=let⟨o,_,_,e',_⟩:=O'.ns;⟨o,e'⟩
 refine I.write (x:=a) (e:=dx) (by rw[e];exact True.intro) (.inr ho) (λb q hb z=>(sb.2 b hb).trans z) hd ?_;refine⟨by rw[aD O.ne];exact ho,?_,O.ne,O'.obj,_,O'.ns,λg=>?_,λg hg=>?_⟩
 ·have:=oA f y fs;omega
 ·show f7 ((bY f y fs).lookup g) (if g=f then some u else mA g)
  rw[g_]
  by_cases q:g=f
  ·rw[if_pos q,if_pos q];exact ry
  ·rw[if_neg q,if_neg q];exact r g
 ·by_cases q:g=f
  ·rw[q];exact(Bb f y fs).1
  ·refine(Bb f y fs).2 g (wi g λz=>hg ?_)
   show(if g=f then some u else mA g)=none;rw[if_neg q];exact z
theorem Inv.made(I:Inv X pins σ H s):Inv X pins σ (upd (upd H s.heap.objs.size (.own (s.heap.objs.size+1))) (s.heap.objs.size+1) (.ins C s.heap.objs.size []))
  {s with heap:=(s.heap.push W.emptyDict).push (W.instObj C s.heap.objs.size)}:=by
 have e1:(s.heap.push W.emptyDict).get? s.heap.objs.size=some W.emptyDict:=cn s.heap rfl;have e2:((s.heap.push W.emptyDict).push (W.instObj C s.heap.objs.size)).get? (s.heap.objs.size+1)=some (W.instObj C s.heap.objs.size):=by
  have:=cn (s.heap.push W.emptyDict) (o:=W.instObj C s.heap.objs.size) rfl
  rwa [fJ]at this
 have e3:(s.heap.push W.emptyDict).Ns s.heap.objs.size (λ_=>none):=⟨W.emptyDict,#[],_,e1,rfl,(λe he=>absurd he (by simp)),λ_=>rfl⟩;have I1:=I.laid (a:=s.heap.objs.size) (o:=.own (s.heap.objs.size+1)) (h':=s.heap.push W.emptyDict) (t':=s.toks) (λb u q=>aU _ q) (aW _) ⟨_,e1⟩;refine I1.laid (a:=s.heap.objs.size+1) (o:=.ins C s.heap.objs.size []) (t':=s.toks) (λb u q=>aU _ q) (Ga (fJ _ _)) ?_;have ne:s.heap.objs.size≠s.heap.objs.size+1:=bu (si _);refine⟨by rw[aD ne,ao],eD _,ne,e2,λ_=>none,(Heap.Ns1.of_empty e3).at λo q=>aU _ q,λ_=>True.intro,λy hy=>absurd rfl hy⟩
theorem Qo{prog:Program}{w:World}{env:Env}{e:Expr}{f:Str}{pos:Pos}{s:Shared}{Q:Value->Shared->Prop}(hb:attributeBase e f env (eval e env)=eval e env)(h:wpAny (model prog w) A (eval e env) (λo s₁=>wpAny (model prog w) A (getAttr o f true) Q E s₁) E s):wpAny (model prog w) A (eval (.Attribute e f pos) env) Q E s:=
 Attribute_any_ h (by rw[arm_eval_Attribute,hb])
end
def Ou(K:W.Frag)(ta:TE)(f:Str):TE:=λσ H Q=>ta σ H λx H1=>∃a C dx fs v,x = .ref a/\H1 a=some (.ins C dx fs)/\Cls K C/\iK K C f/\fs.lookup f=some v/\Q v H1
def Mi(K:W.Frag)(ta tv:TE)(f:Str):TS:=λD σ H=>tv σ H λy H1=>ta σ H1 λx H2=>∃a C dx fs,x = .ref a/\H2 a=some (.ins C dx fs)/\Cls K C/\iK K C f/\fs.length<1000 /\
 D.nx σ (upd H2 a (.ins C dx (bY f y fs)))
section
variable {X:Cx} {o e value:Expr} {f:Str} {pos pos' tpos:Pos} {ta tv:TE}
theorem YB(he:PE X e ta)(hb:attributeBase e f X.env (eval e X.env)=eval e X.env):PE X (.Attribute e f pos) (Ou X.K ta f):=by
 intro pins s σ H Q I h;refine Qo hb (aK (he pins s σ H _ I h) λu s1 ⟨x,H1,I1,rx,a,C,dx,fs,v,ex,ea,c,n,l,q⟩=>?_);subst ex;obtain rfl:u=Value.ref a:=rx;exact Sn I1 ea c n l λu' s2 I2 ru=>⟨v,H1,I2,ru,q⟩
theorem Y4(ha:PE X o ta)(hv:PE X value tv)(hs:swapsWith value (some (.Attribute o f pos')) pos.line X.env=pure false):PS X (.Assign [.Attribute o f pos'] value pos) (Mi X.K ta tv f):=by
 intro pins s σ H D I h;refine Qa (aK (hv pins s σ H _ I h) λu s1 ⟨y,H1,I1,ry,q⟩=>aK (ha pins s1 σ H1 _ I1 q) λov s2 ⟨x,H2,I2,rx,a,C,dx,fs,ex,ea,c,n,l,q2⟩=>?_) hs;subst ex;obtain rfl:ov=Value.ref a:=rx;exact Z3 I2 ea c n l ry λs3 I3=>⟨σ,_,I3,q2⟩
end
section
variable {X:Cx} {pins:List (Addr × Obj)} {σ:St} {H:Hp} {s:Shared} {A:Around} {E:Value->Shared->Prop} {Q:Value->Shared->Prop} {c:Value} {b:Bool}
inductive gG (K:W.Frag) (H:Hp):V->Value->Prop where
 |non:gG K H .non (.type "NoneType")
 |bl (x:Bool):gG K H (.bl x) (.type "bool")
 |int (i:Int):gG K H (.int i) (.type "int")
 |str (x:Str):gG K H (.str x) (.type "str")
 |flt (x:UInt64):gG K H (.flt x) (.type "float")
 |lst {a:Addr} {xs:List V} (e:H a=some (.lst xs)):gG K H (.ref a) (.type "list")
 |dj {a:Addr} {o:Obj} {xs:List V} (e:H a=some (.dj o (.lst xs))):gG K H (.ref a) (.type "list")
 |tup {a:Addr} {xs:List V} (e:H a=some (.tup xs)):gG K H (.ref a) (.type "tuple")
 |dK {a:Addr} {kvs:List (Key × V)} (e:H a=some (.dK kvs)):gG K H (.ref a) (.type "dict")
 |dT {a:Addr} {kvs:List (List Key × V)} (e:H a=some (.dT kvs)):gG K H (.ref a) (.type "dict")
 |ins {a C dx:Addr} {fs:List (Str × V)} (e:H a=some (.ins C dx fs)) (cl:Cls K C) (ha:W.findIn K (.ref C) "__class__" = some (some (.builtin "object.__class__")))
   (hn:W.specialIn K (.builtin "object.__class__") "__get__" = some (some (.builtin "getset_descriptor.__get__"))) (htk:W.takesIn K (.builtin "object.__class__")=some true)
   (hm:W.mroIn K C (.type "object")=some true):gG K H (.ref a) (.ref C)
theorem Ve{x:V}{u t:Value}(I:Inv X pins σ H s)(rx:RelV x u)(ty:gG X.K H x t)(e:W.kitOne X.K t c=some b)(h:∀tk,Q (.bool b) {s with toks:=tk}):
  wpAny (model X.prog X.w) A (call (.builtin "isinstance") [u,c]) Q E s:=by
 cases ty with
 |non=>cases(show u=Value.none from rx);exact W.kia_one W.kitx_none I.cq True.intro e (λz=>nomatch z) h
 |bl y=>cases(show u=Value.bool y from rx);exact W.kia_one W.kitx_bool I.cq True.intro e (λz=>nomatch z) h
 |int i=>obtain⟨t,q⟩:=(show ∃t,u=Value.int i t from rx);cases q;exact W.kia_one W.kitx_int I.cq True.intro e (λz=>nomatch z) h
 |str y=>obtain⟨t,q⟩:=(show ∃t,u=Value.str y t from rx);cases q;exact W.kia_one W.kitx_str I.cq True.intro e (λz=>nomatch z) h
 |flt y=>obtain⟨t,q⟩:=(show ∃t,u=Value.float y t from rx);cases q;exact W.kia_one W.kitx_float I.cq True.intro e (λz=>nomatch z) h
 | @lst a xs ea =>
  cases(show u=Value.ref a from rx);obtain⟨_,_,n,_,h1⟩:=(show bw X.prog X.w H s.heap a (.lst xs)from I.hok a _ ea);exact W.kia_one W.kitx_list I.cq ⟨_,h1,rfl⟩ e (λz=>nomatch z) h
 | @dj a ob xs ea =>
  cases(show u=Value.ref a from rx);obtain⟨_,_,_,n,_,h1⟩:=(show bw X.prog X.w H s.heap a (.dj ob (.lst xs))from I.hok a _ ea);exact W.kia_one W.kitx_list I.cq ⟨_,h1,rfl⟩ e (λz=>nomatch z) h
 | @tup a xs ea =>
  cases(show u=Value.ref a from rx);obtain⟨_,_,_,p,_⟩:=(show bw X.prog X.w H s.heap a (.tup xs)from I.hok a _ ea);obtain⟨o,h1,h2,_⟩:=p;exact W.kia_one W.kitx_tuple I.cq ⟨o,h1,h2⟩ e (λz=>nomatch z) h
 | @dK a kvs ea =>
  cases(show u=Value.ref a from rx);obtain⟨_,_,vs,_,p⟩:=(show bw X.prog X.w H s.heap a (.dK kvs)from I.hok a _ ea);obtain⟨o,es,ep,h1,h2,_⟩:=p;exact W.kia_one W.kitx_dict I.cq ⟨o,h1,h2.1⟩ e (λz=>nomatch z) h
 | @dT a kvs ea =>
  cases(show u=Value.ref a from rx);obtain⟨_,_,xs,_,o,es,ep,h1,h2,_⟩:=(show bw X.prog X.w H s.heap a (.dT kvs)from I.hok a _ ea);exact W.kia_one W.kitx_dict I.cq ⟨o,h1,h2.1⟩ e (λz=>nomatch z) h
 | @ins a C dx fs ea cl ha hn htk hm =>
  cases(show u=Value.ref a from rx);obtain⟨mA,O,_⟩:=Av I.hok ea;obtain⟨od,J,_⟩:=O.look;exact W.kia_one (W.kitx_own (cl.get _) cl.hd ha hn htk hm) I.cq J e (λz=>nomatch z) h
end
structure bR (k:Nat) (A:Around):Prop where
 hd:A.handled=none
 dp:A.depth+3 * k+5<recursionLimit
 un:A.units+16 * k+200<cLine
 gd:A.guards=some []
theorem bR.mono{j k:Nat}{A:Around}(r:bR k A)(h:j<=k):bR j A:=⟨r.hd,by have:=r.dp;omega,by have:=r.un;omega,r.gd⟩
theorem bR.deeper{k:Nat}{A:Around}(r:bR (k+1) A)(env:Env):bR k (A.deeper env):=
 ⟨r.hd,by have:=r.dp;show A.depth+1+3 * k+5<_;omega,by have:=r.un;show A.units+3+16 * k+200<_;omega,r.gd⟩
theorem V4 {A:Around} {C:Addr} {us:List Value} {kw:List (Str × Value)}:(A.under (.builtin "type.__call__" ⟨.ref C::us,kw⟩)).depth=A.depth+1:=by
 first|rfl|simp[Around.under,Code.weight,Code.isCreation,Code.isGuard,Code.isCaller,Code.frames,Code.isFrame,guardIds]
theorem V7 {A:Around} {C:Addr} {us:List Value} {kw:List (Str × Value)}:(A.under (.builtin "type.__call__" ⟨.ref C::us,kw⟩)).units=A.units+1:=by
 first|rfl|simp[Around.under,Code.cUnits,Code.frames,Code.isFrame]
theorem V5 {A:Around} {C:Addr} {us:List Value} {kw:List (Str × Value)}:(A.under (.builtin "type.__call__" ⟨.ref C::us,kw⟩)).guards=A.guards:=by
 first|rfl | (cases h:A.guards <;> simp[Around.under,Code.guards,pushGuards,Code.isGuard,guardIds,h])
theorem bR.make {k:Nat} {A:Around} (r:bR (k+1) A) (C:Addr) (us:List Value) (kw:List (Str × Value)):bR k (A.under (.builtin "type.__call__" ⟨.ref C::us,kw⟩)):=
 ⟨r.hd,by have:=r.dp;rw[V4];omega,by have:=r.un;rw[V7];omega,by rw[V5];exact r.gd⟩
theorem bR.depth{k:Nat}{A:Around}(r:bR k A):A.depth<recursionLimit:=by have:=r.dp;omega
theorem bR.units{k:Nat}{A:Around}(r:bR k A):A.units+64<cLine:=by have:=r.un;omega
theorem bR.aa0{k:Nat}{A:Around}(r:bR k A):A.units<cLine:=by have:=r.un;omega
def Eu:TA:=λ_ H Q=>Q [] H
def aan(ta:TE)(tr:TA):TA:=λσ H Q=>ta σ H λx H1=>tr σ H1 λxs H2=>Q (x::xs) H2
section
variable {X:Cx} {e:Expr} {es:List Expr} {te:TE} {t:TA} {pos:Pos}
theorem ag:PA X [] Eu:=λ_ _ _ _ H Q I h=>Gm ⟨[],H,I,.nil,h⟩
theorem ae(ha:PE X e te)(hr:PA X es t)(hs:starEach (e::es) X.env=(false,eval e X.env)::starEach es X.env:=by rfl):PA X (e::es) (aan te t):=by
 intro pos pins s σ H Q I h;rw[hs];show wpAny _ _ (spliced ((false,eval e X.env)::backTo pos (starEach es X.env))) _ _ s;refine Gk (aK (ha pins s σ H _ I h) λu s1 ⟨x,H1,I1,r1,q1⟩=>?_);exact aK (hr pos pins s1 σ H1 _ I1 q1) λus s2 ⟨xs,H2,I2,r2,q2⟩=>⟨x::xs,H2,I2,.cons r1 r2,q2⟩
def aaJ(t:TA):TE:=λσ H Q=>t σ H λxs H1=>xs.length<=sizeLine/\∀p,H1 p=none->Q (.ref p) (upd H1 p (.tup xs))
def aaw(t:TA):TE:=λσ H Q=>t σ H λxs H1=>xs.length<=sizeLine/\∀p,H1 p=none->Q (.ref p) (upd H1 p (.lst xs))
theorem gx{x1}(h:PA X es t):PE X (.Tuple es x1 pos) (aaJ t):=by
 intro pins s σ H Q I hq;refine wpAny_Tuple_spliced (aK (h pos pins s σ H _ I hq) λus s1 ⟨xs,H1,I1,r,z,q⟩=>⟨by rw[<- r.length];exact z,?_⟩);have hf:H1 s1.heap.objs.size=none:=I1.hok.fresh (aW _);refine⟨.ref s1.heap.objs.size,upd H1 s1.heap.objs.size (.tup xs),I1.laid (t':=s1.toks) (λb u e=>aU _ e) (aW _) ?_,rfl,q _ hf⟩;exact⟨z,us,r,⟨_,cn _ rfl,rfl,_,rfl⟩,_,cn _ rfl,rfl⟩
theorem bG(h:PA X es t):PE X (.List es pos) (aaw t):=by
 intro pins s σ H Q I hq;refine wpAny_List_spliced (aK (h pos pins s σ H _ I hq) λus s1 ⟨xs,H1,I1,r,z,q⟩=>⟨by rw[<- r.length];exact z,?_⟩);have hf:H1 s1.heap.objs.size=none:=I1.hok.fresh (aW _);refine⟨.ref s1.heap.objs.size,upd H1 s1.heap.objs.size (.lst xs),I1.laid (t':=s1.toks) (λb u e=>aU _ e) (aW _) ?_,rfl,q _ hf⟩;exact⟨z,us,0,r,cn _ rfl⟩
end
abbrev Sp:=List V->Hp->VK->XK->Prop
abbrev gQ:=List Env->Hp->Shared->XK->Value->Shared->Prop
structure iY (P:Program) (w:World) (K:W.Frag) (mg:Str->Option Value) (base:Heap) (A:Around) (outer:List Env) (s:Shared) (H:Hp):Prop where
 frames:A.frames=some outer
 mod:Mod K mg base
 bs:∀b o,base.get? b=some o->s.heap.get? b=some o/\H b=none
 fM:base.objs.size<=s.heap.objs.size
 eK:s.heap.FunFrames base outer
 gY:∀b∈frs outer,H b=none
 hok:bE P w H s.heap
 bare:AllBare s.gens
def CE(outer:List Env)(P:Program)(w:World)(H:Hp)(s:Shared)(Q:VK)(u:Value)(s':Shared):Prop:=
 ∃v H',s'.os=s.os/\AllBare s'.gens/\Un (frs outer) [] H H' s.heap s'.heap/\bE P w H' s'.heap/\RelV v u/\Q v H'
def CR(CX:gQ)(outer:List Env)(P:Program)(w:World)(H:Hp)(s:Shared)(Q:VK)(E:XK)(r:Result)(s':Shared):Prop:=
 match r with
 |.ok (.ret u)=>CE outer P w H s Q u s'
 |.ok _=>False
 |.error e=>CX outer H s E e s'
structure aL (P:Program) (w:World) (K:W.Frag) (mg:Str->Option Value) (base:Heap) (CX:gQ) (k:Nat) (f:Addr) (fd:FuncData) (ps:List Str) (sp:Sp):Prop where
 len:∀vs H Q E,sp vs H Q E->vs.length=ps.length
 run:∀(A:Around) (outer:List Env) (s:Shared) (H:Hp) (args:Args) (us:List Value) (vs:List V) (Q:VK) (E:XK),bR k A->iY P w K mg base A outer s H->BindsTo s fd args (ps.zip us)->Vals vs us->sp vs H Q E ->
  codeAny (model P w) A (.call (.ref f) args) (CR CX outer P w H s Q E) s
theorem aL.mono{P:Program}{w:World}{K:W.Frag}{mg:Str->Option Value}{base:Heap}{CX:gQ}{j k:Nat}{f:Addr}{fd:FuncData}{ps:List Str}{sp:Sp}(F:aL P w K mg base CX j f fd ps sp)(h:j<=k):aL P w K mg base CX k f fd ps sp:=⟨F.len,λA outer s H args us vs Q E hr=>F.run A outer s H args us vs Q E (hr.mono h)⟩
theorem iY.make{P:Program}{w:World}{K:W.Frag}{mg:Str->Option Value}{base:Heap}{A:Around}{outer:List Env}{s:Shared}{H:Hp}(e:iY P w K mg base A outer s H)(C:Addr)(us:List Value)(kw:List (Str × Value)):
  iY P w K mg base (A.under (.builtin "type.__call__" ⟨.ref C::us,kw⟩)) outer s H:=⟨by first|exact e.frames | (simpa[Around.under,Code.envs,Code.isFrame,pushEnvs]using e.frames),e.mod,e.bs,e.fM,e.eK,e.gY,e.hok,e.bare⟩
section
variable {X:Cx} {pins:List (Addr × Obj)} {σ:St} {H:Hp} {s s':Shared}
theorem Inv.env0(I:Inv X pins σ H s):iY X.prog X.w X.K X.mg X.base X.A X.stack s H:=
 ⟨I.ok.frames,I.ok.mod,I.bs,b_ I.ok.fM I.sz,I.stack,I.oY,I.hok,I.bare⟩
theorem Inv.after{Q:VK}{u:Value}(I:Inv X pins σ H s)(h:CE X.stack X.prog X.w H s Q u s'):EP X pins σ Q u s':=by
 obtain⟨v,H',os,bare,un,hok,r,q⟩:=h;obtain⟨hh,g,d,t,os'⟩:=s';obtain rfl:os'=s.os:=os;exact⟨v,H',I.call (h':=hh) (g':=g) (d':=d) (t':=t) (ch:=[]) un hok bare (λb z=>absurd z (by simp)),r,q⟩
end
def rB(sp:Sp)(fC:List V)(E:XK)(t:TA):TE:=λσ H Q=>t σ H λvs H1=>sp (vs++fC) H1 Q E
def Ov(C:Addr)(sp:Sp)(fC:List V)(E:XK)(t:TA):TE:=λσ H Q=>t σ H λvs H1=>∀x dx,H1 x=none->H1 dx=none->dx≠x ->
 sp (.ref x::(vs++fC)) (upd (upd H1 dx (.own x)) x (.ins C dx [])) (λv H2=>v = .non/\Q (.ref x) H2) E
def Binds(K:W.Frag)(fd:FuncData)(ps:List Str)(ds:List Value):Prop:=
 ∀(s:Shared) (us:List Value),K.In s.heap->(us++ds).length=ps.length->BindsTo s fd ⟨us,[]⟩ (ps.zip (us++ds))
theorem Binds.all{K:W.Frag}{fd:FuncData}{ps:List Str}(h:∀us:List Value,us.length=ps.length->bindArgs fd ⟨us,[]⟩=pure (ps.zip us)):Binds K fd ps []:=λs us _ hl=>by
 rw[h_]at hl ⊢;exact .of_eq (h us hl)
def Passes(CX:gQ)(X:Cx)(E:XK):Prop:=∀(pins:List (Addr × Obj)) (σ:St) (H:Hp) (s:Shared) (e:Value) (s':Shared),Inv X pins σ H s->CX X.stack H s E e s'->X.xe e s'
section
variable {X:Cx} {CX:gQ} {k:Nat} {f C:Addr} {fd:FuncData} {ps:List Str} {sp:Sp} {fC:List V} {ds:List Value} {E:XK} {x m:Str} {p pos apos:Pos} {e o:Expr} {es:List Expr} {ta:TE} {t:TA}
theorem L9{pins:List (Addr × Obj)}{σ:St}{H:Hp}{s:Shared}{Q:VK}{us:List Value}{vs:List V}(F:aL X.prog X.w X.K X.mg X.base CX k f fd ps sp)(hr:bR k X.A)(hb:Binds X.K fd ps ds)(hd:Vals fC ds)(hx:Passes CX X E)(I:Inv X pins σ H s)(r:Vals vs us)(h:sp (vs++fC) H Q E):wpAny (model X.prog X.w) X.A (call (.ref f) us) (EP X pins σ Q) X.xe s:=by
 have r2:Vals (vs++fC) (us++ds):=r.append hd;have hl:(us++ds).length=ps.length:=by rw[<- r2.length];exact F.len _ _ _ _ h
 refine lQ (lP (F.run X.A X.stack s H ⟨us,[]⟩ (us++ds) (vs++fC) Q E hr I.env0 (hb s us I.cq hl) r2 h) λr s' hq=>?_);cases r with
 |error e=>exact hx pins σ H s e s' I hq
 |ok fl =>
  cases fl with
  |ret u=>exact I.after hq
  |next=>exact False.elim hq
  |brk=>exact False.elim hq
  |cont=>exact False.elim hq
theorem Lj(F:aL X.prog X.w X.K X.mg X.base CX k f fd ps sp)(hr:bR k X.A)(hg:Gl X x)(hm:X.mg x=some (.ref f))(hk:W.keepIn X.K (.ref f)=true)(hb:Binds X.K fd ps ds)(hd:Vals fC ds)(hx:Passes CX X E)
  (ha:PA X (e::es) t) (hdb:(x == ("__debug__" : Str))=false:=by decide) (he:starEach (e::es) X.env=(false,eval e X.env)::starEach es X.env:=by rfl) (hpl:(backTo pos (starEach es X.env)).any (·.1)=false:=by rfl) :
  PE X (.Call (.Name x p) (e::es) [] pos) (rB sp fC E t):=by
 intro pins s σ H Q I h;refine m_ (kL I hg hm ?_ hdb);refine W.callWith_K (h₀:=X.base) I.ok.mod.mq hk (aK (ha pos pins s σ H _ I h) λus s1 ⟨vs,H1,I1,r,q⟩=>⟨I1.cq,?_⟩) he hpl;exact L9 F hr hb hd hx I1 r q
theorem Yv(F:aL X.prog X.w X.K X.mg X.base CX k f fd ps sp)(hr:bR k X.A)(hg:Gl X x)(hm:X.mg x=some (.ref f))(hk:W.keepIn X.K (.ref f)=true)(hb:Binds X.K fd ps ds)(hd:Vals fC ds)(hx:Passes CX X E)
  (hdb:(x == ("__debug__" : Str))=false:=by decide):PE X (.Call (.Name x p) [] [] pos) (rB sp fC E Eu):=by
 intro pins s σ H Q I h;refine m_ (kL I hg hm ?_ hdb);exact W.callWith_K0 I.cq hk (L9 (us:=[]) F hr hb hd hx I .nil h)
structure Mk (K:W.Frag) (C f:Addr):Prop where
 makes:W.makesIn K C=true
 init:W.findIn K (.ref C) "__init__" = some (some (.ref f))
 fn:W.isFn K (.ref f)=true
 kp:W.keepIn K (.ref C)=true
theorem ZS{pins:List (Addr × Obj)}{σ:St}{H:Hp}{s:Shared}{Q:VK}{us:List Value}{vs:List V}(M:Mk X.K C f)(F:aL X.prog X.w X.K X.mg X.base CX k f fd ps sp)(hr:bR (k+1) X.A)(hb:Binds X.K fd ps ds)(hd:Vals fC ds)(hx:Passes CX X E)(I:Inv X pins σ H s)(r:Vals vs us)(h:∀x dx,H x=none->H dx=none->dx≠x->sp (.ref x::(vs++fC)) (upd (upd H dx (.own x)) x (.ins C dx [])) (λv H2=>v = .non/\Q (.ref x) H2) E):wpAny (model X.prog X.w) X.A (call (.ref C) us) (EP X pins σ Q) X.xe s:=by
 have hq:=h (s.heap.objs.size+1) s.heap.objs.size (I.hok.fresh (wJ _)) (I.hok.fresh (aW _)) (bu (si _));have I2:=Inv.made (C:=C) I;have r2:Vals (V.ref (s.heap.objs.size+1)::(vs++fC)) (Value.ref (s.heap.objs.size+1)::(us++ds)):=.cons rfl (r.append hd);have hl:(Value.ref (s.heap.objs.size+1)::us++ds).length=ps.length:=by
  have e:=r2.length;rw[F.len _ _ _ _ hq]at e;exact e.symm
 refine lQ (V6 (f:=f) I.cq M.makes M.init (il.mp M.fn) (lP (F.run _ X.stack _ _ ⟨Value.ref (s.heap.objs.size+1)::us,[]⟩ (Value.ref (s.heap.objs.size+1)::(us++ds)) _ _ E (hr.make C us [])
  (I2.env0.make C us []) (hb _ (Value.ref (s.heap.objs.size+1)::us) I2.cq hl) r2 hq) λr s' hq'=>?_))
 cases r with
 |error e=>exact hx pins σ _ _ e s' I2 hq'
 |ok fl =>
  cases fl with
  |ret u =>
   obtain⟨v,H',I3,rv,ev,q3⟩:=I2.after hq';subst ev;exact⟨rv,⟨V.ref (s.heap.objs.size+1),H',I3,rfl,q3⟩⟩
  |next=>exact False.elim hq'
  |brk=>exact False.elim hq'
  |cont=>exact False.elim hq'
theorem YG(M:Mk X.K C f)(F:aL X.prog X.w X.K X.mg X.base CX k f fd ps sp)(hr:bR (k+1) X.A)(hg:Gl X x)(hm:X.mg x=some (.ref C))(hb:Binds X.K fd ps ds)(hd:Vals fC ds)(hx:Passes CX X E)
  (ha:PA X (e::es) t) (hdb:(x == ("__debug__" : Str))=false:=by decide) (he:starEach (e::es) X.env=(false,eval e X.env)::starEach es X.env:=by rfl) (hpl:(backTo pos (starEach es X.env)).any (·.1)=false:=by rfl) :
  PE X (.Call (.Name x p) (e::es) [] pos) (Ov C sp fC E t):=by
 intro pins s σ H Q I h;refine m_ (kL I hg hm ?_ hdb);refine W.callWith_K (h₀:=X.base) I.ok.mod.mq M.kp (aK (ha pos pins s σ H _ I h) λus s1 ⟨vs,H1,I1,r,q⟩=>⟨I1.cq,?_⟩) he hpl;exact ZS M F hr hb hd hx I1 r q
end
section
variable {X:Cx} {CX:gQ} {k:Nat} {f C:Addr} {fd:FuncData} {ps ks:List Str} {sp:Sp} {E:XK} {x m:Str} {p pos apos kpos:Pos} {e o:Expr} {es:List Expr} {kws:List Keyword} {te ta:TE} {t tk:TA} {nm:Option Str}
variable {g:List Value->List Value->List Value} {gV:List V->List V->List V}
end
structure aZ (N P:List Str) (sc:Scope):Prop where
 kind:sc.kind = .function
 co:sc.isCoroutine=false
 gen:sc.isGenerator=false
 nd:N.Nodup
 pre:N.take P.length=P
 par:∀x∈P,sc.names.lookup x=some .local\/sc.names.lookup x=some .cell
 WL:∀y∈sc.names,y.2≠.free
theorem G8{kindOf:Str->Option NameKind}{x:Str}:∀{binds:List (Str × Value)} {m:Str->Option Value},(∀v,(x,v) ∉ binds)->bindL kindOf binds m x=m x
 | [],_,_=>rfl
 | (n,v)::r,m,h=>by
  unfold bindL;rw[G8 λw hw=>h w (cu _ hw)]
  split
  ·have:x≠n:=by rintro rfl;exact h v b9
   simp[this]
  ·rfl
theorem G6{kindOf:Str->Option NameKind}{x:Str}:∀{binds:List (Str × Value)} {m:Str->Option Value},(∀v,(x,v) ∉ binds)->bindC kindOf binds m x=m x
 | [],_,_=>rfl
 | (n,v)::r,m,h=>by
  unfold bindC;rw[G6 λw hw=>h w (cu _ hw)]
  split
  ·rfl
  ·have:x≠n:=by rintro rfl;exact h v b9
   simp[this]
theorem G7{kindOf:Str->Option NameKind}{x:Str}{v:Value}:∀{P:List Str} {vs:List Value} {i:Nat} {m:Str->Option Value},P.Nodup->P[i]? = some x->vs[i]? = some v->kindOf x=some .local->bindL kindOf (P.zip vs) m x=some v
 | [],_,_,_,_,h,_,_=>by simp at h
 |_::_,[],_,_,_,_,h,_=>by simp at h
 |p::P,w::vs,0,m,nd,h1,h2,hk=>by
  simp at h1 h2;subst h1;subst h2;show bindL kindOf ((p,w)::P.zip vs) m p=_;unfold bindL;rw[G8 λv hv=>(iJ.mp nd).1 (wC hv).1,if_pos hk];simp
 |p::P,w::vs,i+1,m,nd,h1,h2,hk=>by
  show bindL kindOf ((p,w)::P.zip vs) m x=_;unfold bindL;exact G7 (i:=i) (iJ.mp nd).2 (by simpa using h1) (by simpa using h2) hk
theorem G5{kindOf:Str->Option NameKind}{x:Str}{v:Value}:∀{P:List Str} {vs:List Value} {i:Nat} {m:Str->Option Value},P.Nodup->P[i]? = some x->vs[i]? = some v->kindOf x≠some .local->bindC kindOf (P.zip vs) m x=some v
 | [],_,_,_,_,h,_,_=>by simp at h
 |_::_,[],_,_,_,_,h,_=>by simp at h
 |p::P,w::vs,0,m,nd,h1,h2,hk=>by
  simp at h1 h2;subst h1;subst h2;show bindC kindOf ((p,w)::P.zip vs) m p=_;unfold bindC;rw[G6 λv hv=>(iJ.mp nd).1 (wC hv).1,if_neg hk];simp
 |p::P,w::vs,i+1,m,nd,h1,h2,hk=>by
  show bindC kindOf ((p,w)::P.zip vs) m x=_;unfold bindC;exact G5 (i:=i) (iJ.mp nd).2 (by simpa using h1) (by simpa using h2) hk
def start(N:List Str)(vs:List V):St:=vs.map some++List.replicate (N.length - vs.length) none
def cp(CX:gQ)(P:Program)(w:World)(K:W.Frag)(mg:Str->Option Value)(base:Heap)(N:List Str)(qual:Str)(scope:Scope)(f:Addr)(cd:Value)(A:Around)(outer:List Env)(s:Shared)(H:Hp)(E:XK):Cx where
 prog:=P
 w:=w
 K:=K
 mg:=mg
 base:=base
 A:=A.deeper (envOfC qual scope s.heap.objs.size f cd)
 N:=N
 s₀:=s
 H₀:=H
 env:=envOfC qual scope s.heap.objs.size f cd
 outer:=outer
 stack:=envOfC qual scope s.heap.objs.size f cd::outer
 ex:=[]
 calm:=true
 fn:=λ_=>true
 pn:=[]
 xe:=λe s'=>wpAny (model P w) (A.deeper (envOfC qual scope s.heap.objs.size f cd)) (leaving (envOfC qual scope s.heap.objs.size f cd) e) (λ_ s''=>CX outer H s E e s'') (λe' s''=>CX outer H s E e' s'') s'
theorem He{sc:Scope}{n:Nat}{x:Str}(h:sc.names.lookup x=some .cell):∃c,(cellsFrom n sc.names []).lookup x=some c:=by
 have q:=W.cellsFrom_some sc.names n [] (.inl h);exact Option.isSome_iff_exists.mp q
theorem U_{CX:gQ}{P:Program}{w:World}{K:W.Frag}{mg:Str->Option Value}{base:Heap}{N ps:List Str}{qual:Str}{scope:Scope}{f:Addr}{cd:Value}{A:Around}{outer:List Env}{s s1:Shared}{H:Hp}{E:XK}{us:List Value}{vs:List V}(S:aZ N ps scope)(hd:A.handled=none)(e0:iY P w K mg base A outer s H)(hl:vs.length=ps.length)(r:Vals vs us)(x:InCallC s s.heap.objs.size (bindL (envOfC qual scope s.heap.objs.size f cd).kindOf (ps.zip us) λ_=>none) (cellsFrom (s.heap.objs.size+1) scope.names []) (bindC (envOfC qual scope s.heap.objs.size f cd).kindOf (ps.zip us) λ_=>none) s1):Inv (cp CX P w K mg base N qual scope f cd A outer s H E) [] (start N vs) H s1:=by
 have hpl:ps.length<=N.length:=by have:=congrArg List.length S.pre;rw[lK]at this;omega
 obtain⟨h1,tk,rfl,hk⟩:=x.done;have jS:∀b:Addr,b ∉ (cp CX P w K mg base N qual scope f cd A outer s H E).ex:=λb z=>absurd (show b∈([]:List Addr)from z) (by simp)
 refine⟨⟨e0.mod,S.kind,rfl,rfl,aW _,λy z c h1 h2=>?_,λy hy=>?_,λy c _ h=>?_,λ_=>hd,Around.frames_deeper e0.frames,.inr ⟨rfl,rfl⟩,λb z=>absurd z (jS b),e0.bs,e0.fM,λb _ _=>jS b,λb z=>absurd z (jS b),e0.eK,e0.gY⟩,
  rfl,e0.bare,Un.kept hk,⟨_,x.toInCall.ns,λi y v h1 h2 h3=>?_⟩,λy c h=>⟨_,x.cell y c h⟩,e0.hok.fresh (aW _),λy c h=>?_,λp hp=>absurd (show p∈([]:List (Addr × Obj))from hp) (by simp),e0.hok.kept hk,?_⟩
 ·exact name_of_addr x.apart (jb h1) (jb h2)
 ·have hy:scope.names.lookup y=some .cell\/scope.names.lookup y=some .free:=hy
  rcases hy with hy|hy
  ·exact He hy
  ·exact absurd rfl (S.WL _ (jb hy))
 ·exact dh (x.above y c (jb h))
 ·have hi:i<vs.length:=by
   unfold start at h2
   by_cases hi:i<vs.length
   ·exact hi
   ·rw[km (by simpa using hi)]at h2
    rw[Fz]at h2
    split at h2 <;> cases h2
  have ha:vs[i]? = some v:=by
   unfold start at h2;rw[jC (by simpa using hi),bO]at h2;cases e:vs[i]? with
   |none=>rw[e]at h2;cases h2
   |some a=>rw[e]at h2;cases h2;rfl
  obtain⟨u,hu,rv⟩:=r.get ha;have hp:ps[i]? = some y:=by
   rw[<- S.pre,PK (by omega)];exact h1
  have KD:ps.Nodup:=by rw[<- S.pre];exact S.nd.sublist (List.take_sublist _ _)
  refine⟨u,rv,?_⟩
  rcases S.par y (dG hp)with k|k
  ·exact .inl ⟨k,G7 KD hp hu k⟩
  ·obtain⟨c,e⟩:=He (n:=s.heap.objs.size+1) k
   refine .inr ⟨.inl k,c,e,?_⟩;have q:=x.cell y c e;rw[G5 KD hp hu (by show scope.names.lookup y≠_;rw[k];decide)]at q;exact q
 ·exact e0.hok.fresh (dh (x.above y c (jb h)))
 ·unfold start
  show _=N.length;rw[bp,az,FH];omega
theorem zJ{CX:gQ}{P:Program}{w:World}{K:W.Frag}{mg:Str->Option Value}{base:Heap}{k:Nat}{f:Addr}{name qual:Str}{params:Arguments}{body:List Stmt}{scope:Scope}{dV kV doc pm cdv ct oc:Value}{an od:Option Addr}
  {osl:Array (Option Value)} {N ps:List Str} {sp:Sp} (lk:K.lookup f=some ⟨oc,od,.func (W.fnOf name qual params body scope dV kV doc pm an cdv ct),osl⟩) (hcd:W.codeIn K cdv qual=true) (S:aZ N ps scope)
  (len:∀vs H Q E,sp vs H Q E->vs.length=ps.length)
  (hbody:∀(A:Around) (outer:List Env) (s:Shared) (H:Hp) (vs:List V) (Q:VK) (E:XK),bR k (A.deeper (envOfC qual scope s.heap.objs.size f cdv))->sp vs H Q E ->
   ∃t,fw (cp CX P w K mg base N qual scope f cdv A outer s H E) body t/\t {nx:=λ_ H'=>Q .non H',rt:=Q} (start N vs) H) :
  aL P w K mg base CX (k+1) f (W.fnOf name qual params body scope dV kV doc pm an cdv ct) ps sp:=by
 refine⟨len,λA outer s H args us vs Q E hr e0 hb r hsp=>?_⟩;have hl:=len _ _ _ _ hsp;have KX:K.In s.heap:=e0.mod.mq.keeps λb o e=>(e0.bs b o e).1
 have lim:s.heap.NoLimit:=e0.mod.nolimit.keeps λb o e=>(e0.bs b o e).1
 have hkind:∀y∈ps.zip us,scope.names.lookup y.1=some .local\/(scope.names.lookup y.1=some .cell/\((cellsFrom (s.heap.objs.size+1) scope.names []).lookup y.1).isSome=true):=λ⟨n,v⟩ hy=>by
  rcases S.par n (wC hy).1 with q|q
  ·exact .inl q
  ·exact .inr ⟨q,W.cellsFrom_some _ _ _ (.inl q)⟩
 refine codeAny_call_function hr.depth (KX _ _ lk) rfl S.co S.gen rfl (W.codeRec_of KX hcd) (hb _ _ _ _ ?_);refine wpAny_newFunctionEnv_cells S.kind hkind λenv he s1 x=>?_
 subst he;refine⟨lim.keeps x.toInCall.keep,codeAny_func ?_⟩;obtain⟨t,ht,hq⟩:=hbody A outer s H vs Q E (hr.deeper _) hsp;have I:Inv (cp CX P w K mg base N qual scope f cdv A outer s H E) [] (start N vs) H s1:=U_ S hr.hd e0 hl r x;refine eG (ht [] s1 (start N vs) H _ I hq) (λfl s' hs=>?_) λe s' hs=>hs
 have fin:∀{σ':St} {H':Hp} {v:V} {u:Value},Inv (cp CX P w K mg base N qual scope f cdv A outer s H E) [] σ' H' s'->RelV v u->Q v H'->CE outer P w H s Q u s':=
  λ{σ' H' v u} J rv q=>⟨v,H',J.os,J.bare,J.base,J.hok,rv,q⟩
 cases fl with
 |ret u =>
  obtain⟨v,σ',H',J,rv,q⟩:=hs;exact fin J rv q
 |next =>
  obtain⟨σ',H',J,q⟩:=hs;exact fin (v:=V.non) (u:=Value.none) J rfl q
 |brk =>
  obtain⟨_,_,_,q⟩:=hs;exact False.elim q
 |cont =>
  obtain⟨_,_,_,q⟩:=hs;exact False.elim q
section
variable {X:Cx} {x:Str} {p pos:Pos} {e:Expr} {es:List Expr} {t:TA} {id T:String} {r:List V->Hp->VK->Prop}
def Oo(r:List V->Hp->VK->Prop)(t:TA):TE:=λσ H Q=>t σ H λvs H1=>r vs H1 Q
theorem bx (hc:d9 X (.builtin id) r) (hg:Gl X x) (hm:X.mg x=none) (hv:bootBuiltins x=some (.builtin id)) (ha:PA X (e::es) t) (hn:x ≠ "__name__" :=by decide) (hdb:(x == ("__debug__" : Str))=false:=by decide)
  (he:starEach (e::es) X.env=(false,eval e X.env)::starEach es X.env:=by rfl) (hpl:(backTo pos (starEach es X.env)).any (·.1)=false:=by rfl):PE X (.Call (.Name x p) (e::es) [] pos) (Oo r t):=by
 intro pins s σ H Q I h;refine m_ (jq I hg hm hv ?_ hn hdb);exact PyProof.Rows.callWith_builtin1 (aK (ha pos pins s σ H _ I h) λus s1 ⟨vs,H1,I1,r1,q1⟩=>hc pins s1 σ H1 vs us Q I1 r1 q1) he hpl
theorem gJ (hc:d9 X (.type T) r) (hg:Gl X x) (hm:X.mg x=none) (hv:bootBuiltins x=some (.type T)) (ha:PA X (e::es) t) (hn:x ≠ "__name__" :=by decide) (hdb:(x == ("__debug__" : Str))=false:=by decide)
  (he:starEach (e::es) X.env=(false,eval e X.env)::starEach es X.env:=by rfl) (hpl:(backTo pos (starEach es X.env)).any (·.1)=false:=by rfl):PE X (.Call (.Name x p) (e::es) [] pos) (Oo r t):=by
 intro pins s σ H Q I h;refine m_ (jq I hg hm hv ?_ hn hdb);exact m8 (aK (ha pos pins s σ H _ I h) λus s1 ⟨vs,H1,I1,r1,q1⟩=>hc pins s1 σ H1 vs us Q I1 r1 q1) he hpl
end
end L2
namespace HT
open PySem PyProof.Rows
section
open PySem.SeqAt
open PySem.AutoSeq1 (wpAny_loadPart')
open PySem.MeetsSeq PySem.MeetsSeq2 PySem.MeetsSeq3
end
section
variable {prog:Program} {w:World} {A:Around} {E:Value->Shared->Prop} {s:Shared}
def dO(n d:Nat):Option Int->Nat
 |none=>d
 |some v=>if v<0 then(v+(n:Int)).toNat else min v.toNat n
theorem uX(n d:Nat):dO n d none=d:=rfl
theorem uW(n d k:Nat):dO n d (some (k:Int))=min k n:=by
 show(if(k:Int)<0 then((k:Int)+(n:Int)).toNat else min (k:Int).toNat n)=min k n;rw[if_neg (by omega),dg]
end
end HT
namespace L2
open PySem PySem.Spec PyProof.Rows
abbrev TO:=St->Hp->(Option Int->Hp->Prop)->Prop
def PO(X:Cx)(e:Option Expr)(t:TO):Prop:=
 ∀(pins:List (Addr × Obj)) (s:Shared) (σ:St) (H:Hp) (Q:Option Int->Hp->Prop),Inv X pins σ H s->t σ H Q ->
  wpAny (model X.prog X.w) X.A (evalPart e X.env) (λu s'=>∃o H',Inv X pins σ H' s'/\IsPart u o/\Q o H') X.xe s
def aaz:TO:=λ_ H Q=>Q none H
def aaE(t:TE):TO:=λσ H Q=>t σ H λx H1=>∃i,x = .int i/\Q (some i) H1
section
variable {X:Cx} {e:Expr} {te:TE} {lo hi:Option Expr} {tl th:TO} {pos p2:Pos}
theorem dC:PO X none aaz:=by
 intro pins s σ H Q I h;rw[evalPart_none];exact aI ⟨none,H,I,.none,h⟩
theorem cH(h:PE X e te):PO X (some e) (aaE te):=by
 intro pins s σ H Q I hw;rw[evalPart_some];refine aK (h pins s σ H _ I hw) λu s1 ⟨x,H1,I1,r1,q1⟩=>?_
 obtain⟨i,rfl,q⟩:=q1;obtain⟨t,rfl⟩:=r1;exact⟨some i,H1,I1,.int i t,q⟩
def w6(X:Cx)(r:V->Option Int->Option Int->Hp->VK->Prop):Prop:=
 ∀(pins:List (Addr × Obj)) (s:Shared) (σ:St) (H:Hp) (x:V) (v vl vu:Value) (lo hi:Option Int) (sl:Addr) (Q:VK),Inv X pins σ H s->RelV x v->s.heap.IsSliceOf sl vl vu .none->IsPart vl lo->IsPart vu hi->r x lo hi H Q ->
  ∃T id,typeLookup (.type T) "__getitem__" = pure (some (.builtin id))/\s.TypeIs v T/\wpAny (model X.prog X.w) X.A (getItem v (.ref sl)) (EP X pins σ Q) X.xe s
def tSl(r:V->Option Int->Option Int->Hp->VK->Prop)(te:TE)(tl th:TO):TE:=λσ H Q=>te σ H λx H1=>tl σ H1 λl H2=>th σ H2 λu H3=>r x l u H3 Q
theorem cY{r:V->Option Int->Option Int->Hp->VK->Prop}(hr:w6 X r)(he:PE X e te)(hl:PO X lo tl)(hu:PO X hi th):PE X (.Subscript e (.Slice lo hi none p2) pos) (tSl r te tl th):=by
 intro pins s σ H Q I h;refine Subscript_ (aK (he pins s σ H _ I h) λv s1 ⟨x,H1,I1,r1,q1⟩=>?_);refine wpAny_Slice (aK (hl pins s1 σ H1 _ I1 q1) λvl s2 ⟨l,H2,I2,pl,q2⟩=>aK (hu pins s2 σ H2 _ I2 q2) λvu s3 ⟨u,H3,I3,pu,q3⟩=>?_);rw[evalPart_none];refine aI ?_;have I4:Inv X pins σ H3 {s3 with heap:=s3.heap.push {cls:=.type "slice", data:=.fields #[vl,vu,.none]}}:=I3.kept (t':=s3.toks) λb ob q=>aU _ q
 obtain⟨T,id,hT,ht,hg⟩:=hr pins {s3 with heap:=s3.heap.push {cls:=.type "slice", data:=.fields #[vl,vu,.none]}} σ H3 x v vl vu l u s3.heap.objs.size Q I4 r1 (Heap.IsSliceOf.new ..) pl pu q3;show wpAny (model X.prog X.w) X.A (subscriptTail e (.Slice lo hi none p2) v (.ref s3.heap.objs.size)) (EP X pins σ Q) X.xe {s3 with heap:=s3.heap.push {cls:=.type "slice", data:=.fields #[vl,vu,.none]}};exact tail_any (ops:=[.ref s3.heap.objs.size,v]) ht hT hg (by with_unfolding_all rfl)
def bM(xs:List V)(lo hi:Option Int):List V:=(xs.drop (HT.dO xs.length 0 lo)).take (HT.dO xs.length xs.length hi - HT.dO xs.length 0 lo)
theorem Q8(xs:List V)(lo hi:Option Int):(bM xs lo hi).length<=xs.length:=by
 unfold bM;rw[lK,i_];omega
end
def iz(n:Nat)(i:Int):Option Nat:=if 0<=i then(if i<n then some i.toNat else none)else if -(n:Int)<=i then some (i+n).toNat else none
def eQ{α:Type}(xs:List α)(i:Int):Option α:=(iz xs.length i).bind λj=>xs[j]?
theorem JM{n:Nat}{i:Int}{j:Nat}(h:iz n i=some j):seqIndex? i n=some j/\j<n/\-(n:Int)<=i/\i<n:=by
 unfold iz at h
 by_cases h0:0<=i
 ·rw[if_pos h0]at h
  by_cases h1:i<n
  ·rw[if_pos h1]at h
   have e:i.toNat=j:=da h;exact⟨by rw[wX h0 h1,e],by omega,by omega,h1⟩
  ·rw[if_neg h1]at h;cases h
 ·rw[if_neg h0]at h
  by_cases h1:-(n:Int)<=i
  ·rw[if_pos h1]at h
   have e:(i+n).toNat=j:=da h;exact⟨by rw[seqIndex_neg (by omega) h1,e],by omega,h1,by omega⟩
  ·rw[if_neg h1]at h;cases h
theorem GZ{α:Type}{xs:List α}{i:Int}{v:α}(h:eQ xs i=some v):∃j,seqIndex? i xs.length=some j/\xs[j]? = some v/\j<xs.length/\-(xs.length:Int)<=i/\i<xs.length:=by
 unfold eQ at h;cases e:iz xs.length i with
 |none=>rw[e]at h;cases h
 |some j =>
  rw[e]at h;obtain⟨h1,h2,h3,h4⟩:=JM e;exact⟨j,h1,h,h2,h3,h4⟩
theorem aH{α:Type}{xs:List α}{j:Nat}{v:α}(h:xs[j]? = some v):eQ xs (j:Int)=some v:=by
 have hj:j<xs.length:=(bN.mp h).1;have e:iz xs.length (j:Int)=some j:=by
  unfold iz;rw[if_pos (by omega),if_pos (by omega)];simp
 unfold eQ;rw[e];exact h
theorem xm{α:Type}(xs:List α)(v:α):eQ (xs++[v]) (-1)=some v:=by
 have hl:(xs++[v]).length=xs.length+1:=by simp
 have e:iz (xs++[v]).length (-1)=some xs.length:=by
  unfold iz;rw[hl,if_neg (by decide),if_pos (by omega)]
  congr 1
  omega
 unfold eQ;rw[e];show(xs++[v])[xs.length]? = some v;simp
def P4(b:Expr):Prop:=∀o i,subscripted b false o i=operate [o,i] (getItem o i)
def mP(X:Cx)(r:R2):Prop:=
 ∀(value slice:Expr) (pins:List (Addr × Obj)) (s:Shared) (σ:St) (H:Hp) (x y:V) (v u:Value) (Q:VK),Inv X pins σ H s->RelV x v->RelV y u->r x y H Q ->
  subscripted slice false v u=operate [v,u] (getItem v u)->wpAny (model X.prog X.w) X.A (subscriptTail value slice v u) (EP X pins σ Q) X.xe s
def pE(X:Cx)(id:String)(r:V->List V->Hp->VK->Prop):Prop:=
 ∀(pins:List (Addr × Obj)) (s:Shared) (σ:St) (H:Hp) (x:V) (xs:List V) (v:Value) (us:List Value) (Q:VK),Inv X pins σ H s->RelV x v->Vals xs us->r x xs H Q ->
  wpAny (model X.prog X.w) X.A (call (.builtin id) (v::us)) (EP X pins σ Q) X.xe s
section
variable {X:Cx} {a b:Expr} {ta tb:TE} {pos:Pos}
theorem aq{r:R2}(hr:mP X r)(ha:PE X a ta)(hb:PE X b tb)(hs:P4 b):PE X (.Subscript a b pos) (vN r ta tb):=by
 intro pins s σ H Q I h;exact Subscript_ (xn ha hb I h λv u s2 x y H2 I2 rx ry q=>hr a b pins s2 σ H2 x y v u Q I2 rx ry q (hs _ _))
def LK(K:W.Frag):R2:=λx y H Q=>∃p xs i v,x = .ref p/\y = .int i/\ah K H p xs/\eQ xs i=some v/\Q v H
def LQ(K:W.Frag):R2:=λx y H Q=>∃p xs i v,x = .ref p/\y = .int i/\aF K H p xs/\eQ xs i=some v/\Q v H
theorem Vg:mP X (LK X.K):=by
 intro value slice pins s σ H x y v u Q I rx ry h hs;obtain⟨p,xs,i,z,rfl,rfl,hq,he,q⟩:=h;cases rx;obtain⟨t,rfl⟩:=ry;obtain⟨its,r,pl,hz⟩:=I.list hq;obtain⟨j,h1,h2,h3,h4,h5⟩:=GZ he;obtain⟨w,ew,mE⟩:=r.get h2;have hl:=r.length;have hn:=uk;have fin:EP X pins σ Q w s:=⟨z,H,I,mE,q⟩
 by_cases h0:0<=i
 ·have hj:i.toNat=j:=by
   rw[wX h0 h5]at h1;exact da h1
  exact item_listR pl.isList h0 (by omega) (by rw[hj];simpa using ew) fin hs
 ·have hj:(i+(its.toArray.size:Int)).toNat=j:=by
   rw[seqIndex_neg (by omega) h4]at h1;rw[bP,<- hl];exact da h1
  exact subscriptTail_builtinR (x:=w) pl.isList.typeIs slot_list_getitem.lookup
   (wpAny_getItem_list_neg (Q:=λr s'=>r=w/\EP X pins σ Q r s') pl.isList (by omega) (by rw[bP] <;> omega) (by omega) (by rw[hj];simpa using ew) ⟨rfl,fin⟩) hs
theorem Vi:mP X (LQ X.K):=by
 intro value slice pins s σ H x y v u Q I rx ry h hs;obtain⟨p,xs,i,z,rfl,rfl,hq,he,q⟩:=h;cases rx;obtain⟨t,rfl⟩:=ry;obtain⟨its,r,pl,hz⟩:=I.tuple hq;obtain⟨j,h1,h2,h3,h4,h5⟩:=GZ he;obtain⟨w,ew,mE⟩:=r.get h2;have hl:=r.length;have hn:=uk;have fin:EP X pins σ Q w s:=⟨z,H,I,mE,q⟩;exact subscriptTail_builtinR (x:=w) pl.typeIs slot_tuple_getitem.lookup
  (getItem_tuple (j:=j) (Q:=λr s'=>r=w/\EP X pins σ Q r s') pl (by omega) (by omega) (by rw[bP,<- hl];exact h1) (by simpa using ew) ⟨rfl,fin⟩) hs
theorem V8 (its:List Value) (n j:Nat) (u:Value):Obj.mapSeq (·.setIfInBounds j u) {cls:=.type "list", data:=.seq its.toArray n} = {cls:=.type "list", data:=.seq (its.set j u).toArray n}:=by
 simp[Obj.mapSeq]
theorem Inv.lst{pins:List (Addr × Obj)}{σ:St}{H:Hp}{s:Shared}{p:Addr}{xs:List V}(I:Inv X pins σ H s)(h:H p=some (.lst xs)):
  ∃(its:List Value) (n:Nat),Vals xs its/\s.heap.get? p=some {cls:=.type "list", data:=.seq its.toArray n}/\xs.length<=sizeLine:=by
 obtain⟨z,its,n,r,e⟩:=I.hok p _ h;exact⟨its,n,r,e,z⟩
theorem Inv.V3{pins:List (Addr × Obj)}{σ:St}{H:Hp}{s:Shared}{p:Addr}{xs ys:List V}{its its':List Value}{n n':Nat}{f:Obj->Obj}(I:Inv X pins σ H s)(h:H p=some (.lst xs))
  (ho:s.heap.get? p=some {cls:=.type "list", data:=.seq its.toArray n}) (hf:f {cls:=.type "list", data:=.seq its.toArray n} = {cls:=.type "list", data:=.seq its'.toArray n'}) (r:Vals ys its') (hz:ys.length<=sizeLine) (t:Nat) :
  Inv X pins σ (upd H p (.lst ys)) {s with heap:=s.heap.update p f,toks:=t}:=by
 have e:(s.heap.update p f).get? p=some {cls:=.type "list", data:=.seq its'.toArray n'}:=by
  rw[ik f ho (by rw[hf] <;> rfl),hf]
 refine I.write (x:=p) (e:=p) (by rw[h];trivial) (.inl rfl) (λb u hb q=>(ig _ _ (bJ hb)).trans q) ⟨_,e⟩ ?_;exact⟨hz,its',n',r,e⟩
def ZF:V->V->V->Hp->(Hp->Prop)->Prop:=λo i v H Q=>∃p xs k j,o = .ref p/\i = .int k/\H p=some (.lst xs)/\iz xs.length k=some j/\Q (upd H p (.lst (xs.set j v)))
theorem set_list:Gh X ZF:=by
 intro pins s σ H o i v ov iv u Q I ro ri rv h;obtain⟨p,xs,k,j,rfl,rfl,hp,hj,q⟩:=h;cases ro;obtain⟨t,rfl⟩:=ri;obtain⟨its,n,r,ho,hz⟩:=I.lst hp;obtain⟨h1,h2,h3,h4⟩:=JM hj;have hl:=r.length;have hn:=uk;have I':Inv X pins σ (upd H p (.lst (xs.set j v))) {s with heap:=s.heap.update p (Obj.mapSeq (·.setIfInBounds j u))}:=
  I.V3 hp ho (V8 its n j u) (r.set rv j) (by rw[FJ];exact hz) s.toks
 by_cases h0:0<=k
 ·have hk:k.toNat=j:=by
   rw[wX h0 h4]at h1;exact da h1
  exact W.ki_setAt ho h0 (by omega) (by rw[bP,<- hl];exact h4) (by rw[hk];exact⟨_,I',q⟩)
 ·have hk:(k+(its.toArray.size:Int)).toNat=j:=by
   rw[seqIndex_neg (by omega) h3]at h1;rw[bP,<- hl];exact da h1
  exact W.ki_setBack ho (by omega) (by rw[bP,<- hl];exact h3) (by omega) (by rw[hk];exact⟨_,I',q⟩)
theorem Z6(lo hi:Option Int)(n:Nat):(sliceBounds lo hi none n).1=((HT.dO n 0 lo:Nat):Int)/\(sliceBounds lo hi none n).2.1=((HT.dO n n hi:Nat):Int)/\(sliceBounds lo hi none n).2.2=1:=by
 refine⟨?_,?_,rfl⟩
 ·cases lo with
  |none=>simp[sliceBounds,HT.dO]
  |some i =>
   simp only[sliceBounds,HT.dO,Option.getD_none,show(1:Int) > 0 by decide,jO]
   by_cases h:i<0
   ·simp only[h,jO] <;> omega
   ·simp only[h,gi] <;> omega
 ·cases hi with
  |none=>simp[sliceBounds,HT.dO]
  |some i =>
   simp only[sliceBounds,HT.dO,Option.getD_none,show(1:Int) > 0 by decide,jO]
   by_cases h:i<0
   ·simp only[h,jO] <;> omega
   ·simp only[h,gi] <;> omega
theorem Z5(its:List Value)(lo hi:Option Int):slicePick its.toArray lo hi none=((its.drop (HT.dO its.length 0 lo)).take (HT.dO its.length its.length hi - HT.dO its.length 0 lo)).toArray:=by
 obtain⟨h1,h2,h3⟩:=Z6 lo hi its.toArray.size;unfold slicePick;rw[h1,h2,h3];simp only[sliceRange_one,pick_run,bP] <;> rfl
def LR(K:W.Frag):V->Option Int->Option Int->Hp->VK->Prop:=λx lo hi H Q=>∃a xs,x = .ref a/\ah K H a xs/\∀p,H p=none->Q (.ref p) (upd H p (.lst (bM xs lo hi)))
theorem Z4:w6 X (LR X.K):=by
 intro pins s σ H x v vl vu lo hi sl Q I rx hs pl pu h;obtain⟨a,xs,rfl,hx,q⟩:=h;cases rx;obtain⟨its,r,ht,hz⟩:=I.list hx;have hlen:=r.length;refine⟨"list", _,slot_list_getitem.lookup,ht.isList.typeIs,?_⟩;refine wpAny_getItem_list_slice ht.isList hs pl pu .none (by simp) ?_ (by rw[bP] <;> omega);rw[Z5,<- hlen];refine⟨.ref s.heap.objs.size,_,I.laid (t':=s.toks) (o:=.lst (bM xs lo hi)) (λb ob q=>aU _ q) (aW _) ?_,rfl,q _ (I.hok.fresh (aW _))⟩;exact⟨b_ (Q8 xs lo hi) hz,_,0,(r.drop (HT.dO xs.length 0 lo)).take (HT.dO xs.length xs.length hi - HT.dO xs.length 0 lo),cn _ rfl⟩
def jK:V->Bool
 |.non=>true
 |.bl _=>true
 |.int _=>true
 |.str _=>true
 |_=>false
def jI:V->V->Bool
 |.non,.non=>true
 |.bl a,.bl b=>a == b
 |.bl a,.int b=>(if a then 1 else 0) == b
 |.int a,.bl b=>a == (if b then 1 else 0)
 |.int a,.int b=>a == b
 |.str a,.str b=>a == b
 |_,_=>false
theorem RC{A:Around}{s:Shared}{y x:V}{u v:Value}(ry:RelV y u)(rx:RelV x v)(fy:jK y=true)(fx:jK x=true):SeqAt.EqAt A s u v (jI y x):=by
 cases y with
 |non =>
  cases ry;cases x with
  |non=>cases rx;exact wW _
  |bl b=>cases rx;exact SeqAt.EqAt.none_bool b
  |int b=>obtain⟨t,rfl⟩:=rx;exact SeqAt.EqAt.none_int b t
  |str b=>obtain⟨t,rfl⟩:=rx;exact SeqAt.EqAt.none_str b t
  |_=>exact absurd (show false=true from fx) Bool.false_ne_true
 |bl a =>
  cases ry;cases x with
  |non=>cases rx;exact SeqAt.EqAt.bool_none a
  |bl b=>cases rx;exact wV a b
  |int b=>obtain⟨t,rfl⟩:=rx;exact SeqAt.EqAt.bool_int a b t
  |str b=>obtain⟨t,rfl⟩:=rx;exact SeqAt.EqAt.bool_str a b t
  |_=>exact absurd (show false=true from fx) Bool.false_ne_true
 |int a =>
  obtain⟨t',rfl⟩:=ry;cases x with
  |non=>cases rx;exact SeqAt.EqAt.int_none a t'
  |bl b=>cases rx;exact SeqAt.EqAt.int_bool a t' b
  |int b=>obtain⟨t,rfl⟩:=rx;exact SeqAt.EqAt.int_int a t' b t
  |str b=>obtain⟨t,rfl⟩:=rx;exact SeqAt.EqAt.int_str a t' b t
  |_=>exact absurd (show false=true from fx) Bool.false_ne_true
 |str a =>
  obtain⟨t',rfl⟩:=ry;cases x with
  |non=>cases rx;exact SeqAt.EqAt.str_none a t'
  |bl b=>cases rx;exact SeqAt.EqAt.str_bool a t' b
  |int b=>obtain⟨t,rfl⟩:=rx;exact SeqAt.EqAt.str_int a t' b t
  |str b=>obtain⟨t,rfl⟩:=rx;exact SeqAt.EqAt.str_str a t' b t
  |_=>exact absurd (show false=true from fx) Bool.false_ne_true
 |_=>exact absurd (show false=true from fy) Bool.false_ne_true
def gf(x:V)(u:Value):Bool:=match u with
 |.none=>jI .non x
 |.bool b=>jI (.bl b) x
 |.int i _=>jI (.int i) x
 |.str z _=>jI (.str z) x
 |_=>false
theorem HJ{x y:V}{u:Value}(r:RelV y u)(f:jK y=true):gf x u=jI y x:=by
 cases y with
 |non=>cases r;rfl
 |bl b=>cases r;rfl
 |int i=>obtain⟨t,rfl⟩:=r;rfl
 |str z=>obtain⟨t,rfl⟩:=r;rfl
 |_=>exact absurd (show false=true from f) Bool.false_ne_true
theorem pO{x:V}:∀{xs:List V} {us:List Value},Vals xs us->xs.all jK=true->us.any (gf x)=xs.any λy=>jI y x
 |_,_,.nil,_=>rfl
 |y::xs,u::us,.cons r t,f=>by
  rw[wq,bD]at f;rw[ph,ph,HJ r f.1,pO t f.2]
theorem qD{A:Around}{s:Shared}{x:V}{v:Value}(rx:RelV x v)(fx:jK x=true):∀{xs:List V} {us:List Value},Vals xs us->xs.all jK=true->∀u∈us,SeqAt.EqAt A s u v (gf x u)
 |_,_,.nil,_=>λu hu=>by cases hu
 |y::xs,u::us,.cons r t,f=>λu' hu=>by
  rw[wq,bD]at f
  rcases bq.mp hu with rfl|hu
  ·rw[HJ r f.1];exact RC r rx f.1 fx
  ·exact qD rx fx t f.2 u' hu
def inV(x:V)(xs:List V):Bool:=xs.any λy=>jI y x
def uR(K:W.Frag)(neg:Bool):R2:=λx y H Q=>∃p xs,y = .ref p/\(ah K H p xs\/aF K H p xs)/\jK x=true/\xs.all jK=true/\Q (.bl (if neg then !inV x xs else inV x xs)) H
theorem Yi:bT X (compareOp .In) (uR X.K false):=by
 intro pins s σ H x y v u Q I rx ry h;obtain⟨p,xs,rfl,hq,fx,fs,q⟩:=h;cases ry
 rcases hq with hq|hq
 ·obtain⟨its,r,pl,hz⟩:=I.list hq
  refine SeqAt.in_listAt (gf x) pl.isList (λw hw=>qD rx fx r fs w (by simpa using hw)) ⟨.bl _,H,I,rfl,?_⟩;rw[show its.toArray.any (gf x)=its.any (gf x)by simp,pO r fs];exact q
 ·obtain⟨its,r,pl,hz⟩:=I.tuple hq
  refine SeqAt.in_tupleAt (gf x) pl (λw hw=>qD rx fx r fs w (by simpa using hw)) ⟨.bl _,H,I,rfl,?_⟩;rw[show its.toArray.any (gf x)=its.any (gf x)by simp,pO r fs];exact q
theorem Yk:bT X (compareOp .NotIn) (uR X.K true):=by
 intro pins s σ H x y v u Q I rx ry h;obtain⟨p,xs,rfl,hq,fx,fs,q⟩:=h;cases ry
 rcases hq with hq|hq
 ·obtain⟨its,r,pl,hz⟩:=I.list hq
  refine SeqAt.notIn_listAt (gf x) pl.isList (λw hw=>qD rx fx r fs w (by simpa using hw)) ⟨.bl _,H,I,rfl,?_⟩;rw[show its.toArray.any (gf x)=its.any (gf x)by simp,pO r fs];exact q
 ·obtain⟨its,r,pl,hz⟩:=I.tuple hq
  refine SeqAt.notIn_tupleAt (gf x) pl (λw hw=>qD rx fx r fs w (by simpa using hw)) ⟨.bl _,H,I,rfl,?_⟩;rw[show its.toArray.any (gf x)=its.any (gf x)by simp,pO r fs];exact q
theorem QK:d9 X (.builtin "len") (λxs H Q=>∃p ys,xs = [.ref p]/\(ah X.K H p ys\/aF X.K H p ys)/\Q (.int ys.length) H):=by
 intro pins s σ H xs us Q I r h;obtain⟨p,ys,rfl,hq,q⟩:=h;obtain⟨u,rfl,rx⟩:=vals1 r;cases rx;have hn:=uk
 rcases hq with hq|hq
 ·obtain⟨its,r',pl,hz⟩:=I.list hq
  have hlen:=r'.length;exact Calls.call_len_list pl.isList (by simp only[bP] <;> omega) ⟨.int ys.length,H,I.tok _,⟨s.toks+1,by rw[bP,hlen]⟩,q⟩
 ·obtain⟨its,r',pl,hz⟩:=I.tuple hq
  have hlen:=r'.length;exact len_tuple pl (by simp only[bP] <;> omega) ⟨.int ys.length,H,I.tok _,⟨s.toks+1,by rw[bP,hlen]⟩,q⟩
theorem QL:d9 X (.type "list") (λxs H Q=>∃p ys,xs = [.ref p]/\(ah X.K H p ys\/aF X.K H p ys)/\∀l,H l=none->Q (.ref l) (upd H l (.lst ys))):=by
 intro pins s σ H xs us Q I r h;obtain⟨p,ys,rfl,hq,q⟩:=h;obtain⟨u,rfl,rx⟩:=vals1 r;cases rx;have fin:∀(its:List Value),Vals ys its->ys.length<=sizeLine->∀(h':Heap) (c':Nat),(∀b o',s.heap.get? b=some o'->h'.get? b=some o') ->
   h'.get? s.heap.objs.size=some {cls:=.type "list", dict:=none,data:=.seq its.toArray c',slots:=#[]}->EP X pins σ Q (.ref s.heap.objs.size) {s with heap:=h'}:=λits r' hz h' c' kp e =>
  ⟨.ref s.heap.objs.size,_,I.laid (t':=s.toks) kp (aW _) (show bw X.prog X.w _ h' _ (.lst ys)from⟨hz,its,c',r',e⟩),rfl,q _ (I.hok.fresh (aW _))⟩
 rcases hq with hq|hq
 ·obtain⟨its,r',pl,hz⟩:=I.list hq
  have hlen:=r'.length;obtain⟨o,ho,hc,n,hd⟩:=pl.isList;exact call_list_seq p (.inl rfl) ho hc hd (λh' c' kp e=>fin its r' hz h' c' kp e) (by simp only[bP] <;> omega)
 ·obtain⟨its,r',pl,hz⟩:=I.tuple hq
  have hlen:=r'.length;obtain⟨o,ho,hc,n,hd⟩:=pl;exact call_list_seq p (.inr rfl) ho hc hd (λh' c' kp e=>fin its r' hz h' c' kp e) (by simp only[bP] <;> omega)
theorem QW:d9 X (.type "tuple") (λxs H Q=>∃p ys,xs = [.ref p]/\((ah X.K H p ys/\∀l,H l=none->Q (.ref l) (upd H l (.tup ys)))\/(aF X.K H p ys/\Q (.ref p) H))):=by
 intro pins s σ H xs us Q I r h;obtain⟨p,ys,rfl,h⟩:=h;obtain⟨u,rfl,rx⟩:=vals1 r;cases rx
 rcases h with⟨hq,q⟩|⟨hq,q⟩
 ·obtain⟨its,r',pl,hz⟩:=I.list hq
  have hlen:=r'.length;refine call_tuple_list pl.isList (λh' kp=>?_) (by simp only[bP] <;> omega);have I1:Inv X pins σ H {s with heap:=h'}:=I.kept (t':=s.toks) kp;have I2:Inv X pins σ (upd H h'.objs.size (.tup ys)) {s with heap:=h'.push {cls:=.type "tuple", data:=.seq its.toArray}}:=
   I1.laid (t':=s.toks) (λb o e=>aU _ e) (aW _) (show bw X.prog X.w _ _ _ (.tup ys)from⟨hz,its,r',IsTup.new _ _,_,cn _ rfl,rfl⟩)
  exact⟨.ref h'.objs.size,_,I2,rfl,q _ (I1.hok.fresh (aW _))⟩
 ·obtain⟨its,r',pl,hz⟩:=I.tuple hq
  exact call_tuple_same pl ⟨.ref p,H,I,rfl,q⟩
def O5(K:W.Frag)(T:String)(x:V)(H:Hp):Prop:=match x with
 |.str _=>T = "str"
 |.int _=>T = "int"
 |.ref p=>(T = "list" /\ ∃xs,ah K H p xs)\/(T = "tuple" /\ ∃o,K.lookup p=some o/\o.cls = .type "tuple" /\ o.dict=none) \/
   (T = "dict" /\ ((∃kvs,H p=some (.dK kvs))\/∃kvs,H p=some (.dT kvs)))\/(T = "set" /\ ∃S n,H p=some (.set S n))\/(T = "tuple" /\ ∃xs,H p=some (.tup xs))
 |_=>False
theorem aaY{pins:List (Addr × Obj)}{σ:St}{H:Hp}{s:Shared}{T:String}{x:V}{v:Value}(I:Inv X pins σ H s)(r:RelV x v)(ty:O5 X.K T x H):s.TypeIs v T/\∀a,v = .ref a->∃ob,s.heap.get? a=some ob/\ob.dict=none:=by
 cases x with
 |str z =>
  obtain⟨t,rfl⟩:=r;cases(show T = "str" from ty);exact⟨typeIs_str s z t,λ_ e=>nomatch e⟩
 |int i =>
  obtain⟨t,rfl⟩:=r;cases(show T = "int" from ty);exact⟨typeIs_int s i t,λ_ e=>nomatch e⟩
 |ref p =>
  cases r
  rcases ty with⟨rfl,xs,hq⟩|⟨rfl,o,hk,hc,hd⟩|⟨rfl,hk⟩|⟨rfl,S,n,hk⟩|⟨rfl,zs,hk⟩
  ·obtain⟨its,_,pl,_⟩:=I.list hq
   refine⟨pl.isList.typeIs,λa e=>?_⟩;cases e;obtain⟨o,n,e,c,hd,_⟩:=pl;exact⟨o,e,hd⟩
  ·refine⟨⟨o,I.cq p o hk,hc⟩,λa e=>?_⟩
   cases e;exact⟨o,I.cq _ o hk,hd⟩
  ·have z:∃o,s.heap.get? p=some o/\o.ExactDict:=by
    rcases hk with⟨kvs,hk⟩|⟨kvs,hk⟩
    ·obtain⟨_,_,_,_,o,_,_,e,ex,_⟩:=I.hok p _ hk
     exact⟨o,e,ex⟩
    ·obtain⟨_,_,_,_,o,_,_,e,ex,_⟩:=I.hok p _ hk
     exact⟨o,e,ex⟩
   obtain⟨o,e,ex⟩:=z;refine⟨⟨o,e,ex.1⟩,λa e2=>?_⟩;cases e2;exact⟨o,e,ex.2.1⟩
  ·obtain⟨o,_,_,_,e,ex,_⟩:=I.hok p _ hk
   refine⟨⟨o,e,ex.1⟩,λa e2=>?_⟩;cases e2;exact⟨o,e,ex.2.1⟩
  ·obtain⟨_,_,_,⟨o2,e2,c2,_⟩,o,e,hd⟩:=(show bw X.prog X.w H s.heap p (.tup zs)from I.hok p _ hk)
   refine⟨⟨o2,e2,c2⟩,λa e3=>?_⟩;cases e3;exact⟨o,e,hd⟩
 |_=>exact False.elim ty
def Om(K:W.Frag)(T:String)(r:V->List V->Hp->VK->Prop)(to:TE)(t:TA):TE:=λσ H Q=>to σ H λx H1=>O5 K T x H1/\t σ H1 λxs H2=>r x xs H2 Q
variable {o e:Expr} {es:List Expr} {to:TE} {t:TA} {name:Str} {apos cpos:Pos} {T id:String} {r:V->List V->Hp->VK->Prop}
theorem Yu (pa:PlainAttrs T) (slot:Slot T name id) (hty:typeOf (.builtin id)=pure (.type "method_descriptor")) (hm:pE X id r) (ho:PE X o to) (ha:PA X (e::es) t)
  (hbase:attributeBase o name X.env (eval o X.env)=eval o X.env:=by rfl)
  (hfew:((backTo cpos (starEach (e::es) X.env)).all (λx=>!x.1)&&(backToKw cpos (keywordEach [] X.env)).all (λx=>x.1.isSome)
   && decide ((e::es).length+([]:List Keyword).length+(if([]:List Keyword).isEmpty then 0 else 1)<30))=true:=by rfl)
  (hline:(apos.endLine == cpos.line)=true:=by rfl) (hs:starEach (e::es) X.env=(false,eval e X.env)::starEach es X.env:=by rfl) (hplain:(backTo cpos (starEach es X.env)).any (·.1)=false:=by rfl) :
  PE X (.Call (.Attribute o name apos) (e::es) [] cpos) (Om X.K T r to t):=by
 intro pins s σ H Q I h;refine wpAny_Call_method_late hbase hfew hline rfl (aK (ho pins s σ H _ I h) λv s1 ⟨x,H1,I1,r1,ty,q1⟩=>?_);obtain⟨h1,h2⟩:=aaY I1 r1 ty;refine⟨T,id,pa,slot,hty,h1,h2,?_⟩;have hA:=ha cpos pins s1 σ H1 _ I1 q1;rw[hs]at hA ⊢;refine Gj (by show(false||(backTo cpos (starEach es X.env)).any (·.1))=false;rw[hplain] <;> rfl) (su ?_);exact aK hA λus s2 ⟨vs,H2,I2,r2,q2⟩=>hm pins s2 σ H2 x vs v us Q I2 r1 r2 q2
end
def wG(X:Cx)(id:String)(r:V->List V->Hp->VK->Prop):Prop:=
 ∀(pins:List (Addr × Obj)) (s:Shared) (σ:St) (H:Hp) (x:V) (xs:List V) (v:Value) (us:List Value) (Q:VK),Inv X pins σ H s->RelV x v->Vals xs us->r x xs H Q ->
  wpAny (model X.prog X.w) X.A (call (.builtin id) (v::us)) (EP X pins σ Q) X.xe s
theorem Vals.one{x:V}{us:List Value}(h:Vals [x] us):∃u,us = [u]/\RelV x u:=by
 cases h with
 |cons r t=>cases t;exact⟨_,rfl,r⟩
theorem Vals.two{x y:V}{us:List Value}(h:Vals [x,y] us):∃u v,us = [u,v]/\RelV x u/\RelV y v:=by
 cases h with
 |cons r t =>
  obtain⟨v,rfl,q⟩:=Vals.one t;exact⟨_,_,rfl,r,q⟩
theorem Vals.eraseIdx:∀{xs:List V} {us:List Value} (i:Nat),Vals xs us->Vals (xs.eraseIdx i) (us.eraseIdx i)
 |_,_,_,.nil=>.nil
 |_,_,0,.cons _ t=>t
 |_,_,i+1,.cons r t=>.cons r (Vals.eraseIdx i t)
theorem Vals.rep{xs:List V}{us:List Value}(h:Vals xs us):∀k:Nat,Vals (List.replicate k xs).flatten (List.replicate k us).flatten
 |0=>.nil
 |k+1=>by
  rw[rZ,rZ,wx,wx];exact Vals.append h (Vals.rep h k)
theorem J_{α:Type}:∀(l:List α) (i:Nat),(l.eraseIdx i).length<=l.length
 | [],_=>aW _
 |_::_,0=>wJ _
 |_::r,i+1=>Nat.succ_le_succ (J_ r i)
theorem foldl_rep(its:List Value):∀(k:Nat) (acc:List Value),List.foldl (λx1 x2=>x1++x2) acc.toArray (List.replicate k its.toArray)=(acc++(List.replicate k its).flatten).toArray
 |0,acc=>by simp
 |k+1,acc=>by
  have e:acc.toArray++its.toArray=(acc++its).toArray:=by simp
  have e2:(acc++its)++(List.replicate k its).flatten=acc++(List.replicate (k+1) its).flatten:=by
   rw[rZ,wx,iZ]
  rw[<- e2,<- foldl_rep its k (acc++its),<- e,rZ,List.foldl_cons]
section
variable {X:Cx} {pins:List (Addr × Obj)} {σ:St} {H:Hp} {s:Shared} {l b:Addr} {xs ys zs:List V}
theorem Inv.qC{its its':List Value}{n:Nat}{f:Array Value->Array Value}{t':Nat}(I:Inv X pins σ H s)(hH:H l=some (.lst xs))
  (e:s.heap.get? l=some {cls:=.type "list", data:=.seq its.toArray n}) (hf:f its.toArray=its'.toArray) (hv:Vals ys its') (hz:ys.length<=sizeLine) :
  Inv X pins σ (upd H l (.lst ys)) {s with heap:=s.heap.update l (Obj.mapSeq f),toks:=t'}:=by
 have q:=PySem.IsL.update e f;rw[hf]at q;refine I.write (x:=l) (e:=l) (by rw[hH];exact trivial) (.inl rfl) (λb' u hb hu=>(ig s.heap (Obj.mapSeq f) (bJ hb)).trans hu) ⟨_,q⟩ ?_;exact⟨hz,its',_,hv,q⟩
theorem Inv.um{its:List Value}{t':Nat}(I:Inv X pins σ H s)(hv:Vals ys its)(hz:ys.length<=sizeLine):
  Inv X pins σ (upd H s.heap.objs.size (.lst ys)) {s with heap:=s.heap.push {cls:=.type "list", data:=.seq its.toArray},toks:=t'}:=
 I.laid (λ_ _ q=>aU _ q) (aW _) ⟨hz,its,0,hv,cn _ rfl⟩
theorem Inv.fresh(I:Inv X pins σ H s):H s.heap.objs.size=none:=I.hok.fresh (aW _)
theorem Inv.jP (I:Inv X pins σ H s) (hH:H l=some (.lst xs)):xs.length<=sizeLine/\∃(its:List Value) (n:Nat),Vals xs its/\xs.length=its.length/\s.heap.get? l=some {cls:=.type "list", data:=.seq its.toArray n}:=by
 obtain⟨z,its,n,r,e⟩:=I.hok l _ hH;exact⟨z,its,n,r,r.length,e⟩
theorem K0{n:Nat}(h:n<=sizeLine):Builtin.List.listTooLong n=false:=by
 unfold Builtin.List.listTooLong;exact bU (by omega)
end
section
variable {X:Cx}
def Zh:V->List V->Hp->VK->Prop:=λx vs H Q=>∃l xs y,x = .ref l/\vs = [y]/\H l=some (.lst xs)/\xs.length<sizeLine/\Q .non (upd H l (.lst (xs++[y])))
theorem gw:wG X "list.append" Zh:=by
 intro pins s σ H x vs v us Q I rx rv h;obtain⟨l,xs,y,rfl,rfl,hH,hz,q⟩:=h;cases rx;obtain⟨u,rfl,ru⟩:=rv.one;obtain⟨z,its,n,r,hl,e⟩:=I.jP hH;refine lO gF ⟨_,e,rfl⟩ F.entry_list_append (F.args_list_append_2 _ _) (PySem.list_append l its.toArray n u (by rw[bP];omega)) ⟨e,?_⟩;refine⟨.non,_,I.qC (its':=its++[u]) hH e (by simp) (r.append (.cons ru .nil)) ?_,rfl,q⟩;rw[bp,mS];omega
def Zm:V->List V->Hp->VK->Prop:=λx vs H Q=>∃l b xs zs,x = .ref l/\vs = [.ref b]/\H l=some (.lst xs)/\H b=some (.lst zs)/\xs.length+zs.length<=sizeLine/\Q .non (upd H l (.lst (xs++zs)))
theorem Kz:wG X "list.extend" Zm:=by
 intro pins s σ H x vs v us Q I rx rv h;obtain⟨l,b,xs,zs,rfl,rfl,hH,hB,hz,q⟩:=h;cases rx;obtain⟨u,rfl,ru⟩:=rv.one;cases ru;obtain⟨z,its,n,r,hl,e⟩:=I.jP hH;obtain⟨z2,its2,n2,r2,hl2,e2⟩:=I.jP hB;have hsz:its.toArray.size+its2.toArray.size<=sizeLine:=by rw[bP,bP];omega
 have Ai:¬ (!its.toArray.isEmpty&&Builtin.List.listTooLong (its.toArray.size+its2.toArray.size))=true:=by
  rw[K0 hsz,wa];exact Bool.false_ne_true
 refine lO Gu ⟨_,e,rfl⟩ F.entry_list_extend (F.args_list_extend_2 _ _)
  (AutoSeq1.list_extend_list_list_0 l its.toArray n b its2.toArray n2 Ai (by rw[bP];omega) (by omega)) ⟨e,e2,?_⟩
 refine⟨.non,_,I.qC (its':=its++its2) hH e (by simp) (r.append r2) ?_,rfl,q⟩;rw[bp];omega
def ZC:V->List V->Hp->VK->Prop:=λx vs H Q=>∃l xs i k y,x = .ref l/\vs = [.int i]/\H l=some (.lst xs)/\-(2 ^ 63)<=i/\i<2 ^ 63/\seqIndex? i xs.length=some k/\xs[k]? = some y/\Q y (upd H l (.lst (xs.eraseIdx k)))
theorem Wn:wG X "list.pop" ZC:=by
 intro pins s σ H x vs v us Q I rx rv h;obtain⟨l,xs,i,k,y,rfl,rfl,hH,h1,h2,hk,hy,q⟩:=h;cases rx;obtain⟨u,rfl,ru⟩:=rv.one;obtain⟨t,rfl⟩:=ru;obtain⟨z,its,n,r,hl,e⟩:=I.jP hH;obtain⟨w,hw,mE⟩:=r.get hy;refine lO F.slot_list_pop ⟨_,e,rfl⟩ F.entry_list_pop (F.args_list_pop_2 _ _)
  (MeetsSeq.list_pop_at l its.toArray n i t k w (fitsIndex_both h1 h2) (by rw[bP,<- hl];exact hk) (by rw[<- Array.getElem?_toList];exact hw) (by rw[bP];omega)) ⟨e,?_⟩
 refine⟨y,_,I.qC (its':=its.eraseIdx k) hH e ?_ (r.eraseIdx k) ?_,mE,q⟩
 ·show its.toArray.eraseIdxIfInBounds k=(its.eraseIdx k).toArray
  rw[List.eraseIdxIfInBounds_toArray]
 ·have:=J_ xs k
  omega
def Zi:R2:=λx y H Q=>∃l b xs zs,x = .ref l/\y = .ref b/\H l=some (.lst xs)/\H b=some (.lst zs)/\xs.length+zs.length<=sizeLine/\∀p,H p=none->Q (.ref p) (upd H p (.lst (xs++zs)))
theorem dk:bT X (binaryOp .Add) Zi:=by
 intro pins s σ H x y v u Q I rx ry h;obtain⟨l,b,xs,zs,rfl,rfl,hH,hB,hz,q⟩:=h;cases rx;cases ry;obtain⟨z,its,n,r,hl,e⟩:=I.jP hH;obtain⟨z2,its2,n2,r2,hl2,e2⟩:=I.jP hB;refine PySem.P.add_list e e2 ?_ (by rw[bP,bP];omega);have ea:its.toArray++its2.toArray=(its++its2).toArray:=by simp
 rw[ea];exact⟨.ref _,_,I.um (t':=s.toks) (r.append r2) (by rw[bp];omega),rfl,q _ I.fresh⟩
def ZD:R2:=λx y H Q=>∃l k xs,x = .ref l/\y = .int k/\H l=some (.lst xs)/\-(2 ^ 63)<=k/\k<2 ^ 63/\xs.length * k.toNat<=sizeLine /\
 ∀p,H p=none->Q (.ref p) (upd H p (.lst (List.replicate k.toNat xs).flatten))
theorem len_rep{α:Type}(xs:List α)(k:Nat):(List.replicate k xs).flatten.length=k * xs.length:=by
 induction k with
 |zero=>simp
 |succ k ih=>rw[rZ,wx,bp,ih,Nat.succ_mul,FX]
theorem K_:bT X (binaryOp .Mult) ZD:=by
 intro pins s σ H x y v u Q I rx ry h;obtain⟨l,k,xs,rfl,rfl,hH,h1,h2,hz,q⟩:=h;cases rx;obtain⟨t,rfl⟩:=ry;obtain⟨z,its,n,r,hl,e⟩:=I.jP hH;have hlen:its.toArray.size * k.toNat<=sizeLine:=by rw[bP,<- hl];exact hz
 have hcap:¬ its.toArray.size * k.toNat > (2 ^ 63 - 1) / 8:=by
  have:(sizeLine:Nat)<=(2 ^ 63 - 1) / 8:=by decide
  omega
 have hfit:¬ (!Builtin.List.listFitsIndex k)=true:=by
  rw[fitsIndex_both h1 h2];exact Bool.false_ne_true
 have Ai:¬ Builtin.List.listTooLong (its.toArray.size * k.toNat)=true:=by
  rw[K0 hlen];exact Bool.false_ne_true
 have hnew:List.foldl (λx1 x2=>x1++x2) #[] (List.replicate (if its.toArray.isEmpty=true then 0 else k.toNat) its.toArray)=(List.replicate k.toNat its).flatten.toArray:=by
  have f0:∀m:Nat,List.foldl (λx1 x2=>x1++x2) #[] (List.replicate m its.toArray)=(List.replicate m its).flatten.toArray:=λm=>by
   have:=foldl_rep its m [];rw[FN]at this;exact this
  rw[f0];cases its with
  |nil=>simp
  |cons a r'=>rw[if_neg (by simp)]
 refine wpAny_binaryOp_repeat_ref (T:= "list") (U:= "int") (by decide) ⟨_,e,rfl⟩ (λs'=>typeIs_int s' k t) noFill_list_mul F.fills_int_mul F.slot_int_rmul repeat_list F.slot_int_index.lookup
  (lO F.slot_int_rmul (typeIs_int s k t) F.entry_int_rmul (F.args_int_rmul_2 _ _) (int___rmul___int_list k t l its.toArray n)
   ⟨e,rfl,⟨_,e,rfl⟩,lO F.slot_list_mul ⟨_,e,rfl⟩ F.entry_list_mul (F.args_list_mul_2 _ _) (AutoListH.list___mul___list_int_3 l its.toArray n k t hfit hcap Ai) ⟨e,?_⟩⟩)
 rw[hnew];exact⟨.ref _,_,I.um (t':=s.toks) (r.rep k.toNat) (by rw[len_rep,Nat.mul_comm];exact hz),rfl,q _ I.fresh⟩
end
section
variable {prog:Program} {w:World} {A:Around} {E:Value->Shared->Prop} {s:Shared}
end
section
variable {X:Cx}
end
section
variable {κ:Type} [DecidableEq κ]
def dm(kvs:List (κ × V))(k:κ):Option V:=(kvs.find? λkv=>decide (kv.1=k)).map (·.2)
def putK(kvs:List (κ × V))(k:κ)(v:V):List (κ × V):=
 if(kvs.any λkv=>decide (kv.1=k))=true then kvs.map (λkv=>if kv.1=k then(kv.1,v)else kv)else kvs++[(k,v)]
theorem lA{p:κ × V}{r:List (κ × V)}{k:κ}(e:p.1=k):dm (p::r) k=some p.2:=by simp[dm,pw,e]
theorem j6{p:κ × V}{r:List (κ × V)}{k:κ}(e:¬ p.1=k):dm (p::r) k=dm r k:=by simp[dm,pw,e]
theorem Fc(k:κ):∀kvs:List (κ × V),(kvs.any λkv=>decide (kv.1=k))=(dm kvs k).isSome
 | []=>rfl
 |p::r=>by
  rw[ph]
  by_cases e:p.1=k
  ·simp only[lA e,cB e,Bool.true_or,Option.isSome_some]
  ·rw[j6 e,bU e,Bool.false_or];exact Fc k r
theorem O9(k j:κ)(y:V):∀kvs:List (κ × V),dm kvs k=none->dm (kvs++[(k,y)]) j=if j=k then some y else dm kvs j
 | [],_=>by
  by_cases e:k=j
  ·rw[if_pos e.symm];exact lA (p:=(k,y)) e
  ·rw[if_neg (λz=>e z.symm)];exact j6 (p:=(k,y)) e
 |p::r,hn=>by
  rw[Fu];have hk:¬ p.1=k:=λz=>by rw[lA z]at hn;cases hn
  rw[j6 hk]at hn;have ih:=O9 k j y r hn
  by_cases e:p.1=j
  ·rw[lA e,lA e,if_neg (λz=>hk (e.trans z))]
  ·rw[j6 e,j6 e,ih]
theorem Ka(kvs:List (κ × V))(k:κ)(v:V):(putK kvs k v).length<=kvs.length+1:=by
 unfold putK
 split
 ·rw[az];omega
 ·rw[bp,jE,FG];omega
theorem Za{kvs:List (κ × V)}{k:κ}(v:V)(h:dm kvs k=none):putK kvs k v=kvs++[(k,v)]:=by
 unfold putK;rw[Fc,h];exact if_neg (by decide)
theorem f7.Vd{o:Option V}{u:Option Value}(r:f7 o u):o.isSome=u.isSome:=by
 cases o with
 |none=>cases u with
  |none=>rfl
  |some _=>exact(show False from r).elim
 |some _=>cases u with
  |none=>exact(show False from r).elim
  |some _=>rfl
theorem f7.getD{o:Option V}{u:Option Value}{d:V}{d':Value}(r:f7 o u)(rd:RelV d d'):RelV (o.getD d) (u.getD d'):=by
 cases o with
 |none=>cases u with
  |none=>exact rd
  |some _=>exact(show False from r).elim
 |some _=>cases u with
  |none=>exact(show False from r).elim
  |some _=>exact r
theorem KV.val{kvs:List (κ × V)}{vs:List (κ × Value)}(r:KV kvs vs)(k:κ):f7 (dm kvs k) (valueAt vs k):=by
 unfold KV at r
 induction r with
 |nil=>exact True.intro
 | @cons p q ps qs h t ih =>
  obtain⟨h1,h2⟩:=h
  by_cases e:p.1=k
  ·have e':q.1=k:=h1.symm.trans e
   have b:valueAt (q::qs) k=some q.2:=by simp[valueAt,pw,e']
   rw[lA e,b];exact h2
  ·have e':¬ q.1=k:=λz=>e (h1.trans z)
   have b:valueAt (q::qs) k=valueAt qs k:=by simp[valueAt,pw,e']
   rw[j6 e,b];exact ih
theorem KV.any{kvs:List (κ × V)}{vs:List (κ × Value)}(r:KV kvs vs)(k:κ):(kvs.any λkv=>decide (kv.1=k))=vs.any λkv=>decide (kv.1=k):=by
 unfold KV at r
 induction r with
 |nil=>rfl
 |cons h t ih=>rw[ph,ph,ih,h.1]
theorem KV.repl{kvs:List (κ × V)}{vs:List (κ × Value)}(r:KV kvs vs)(k:κ){y:V}{u:Value}(ry:RelV y u):
  KV (kvs.map λkv=>if kv.1=k then(kv.1,y)else kv) (vs.map λkv=>if kv.1=k then(kv.1,u)else kv):=by
 unfold KV at r ⊢
 induction r with
 |nil=>exact .nil
 | @cons p q ps qs h t ih =>
  rw[cL,cL];refine .cons ?_ ih;obtain⟨h1,h2⟩:=h
  by_cases e:p.1=k
  ·rw[if_pos e,if_pos (h1.symm.trans e)];exact⟨h1,ry⟩
  ·rw[if_neg e,if_neg (λz=>e (h1.trans z))];exact⟨h1,h2⟩
theorem KV.put{kvs:List (κ × V)}{vs:List (κ × Value)}(r:KV kvs vs)(k:κ){y:V}{u:Value}(ry:RelV y u):KV (putK kvs k y) (stored vs k u):=by
 unfold putK stored;rw[r.any k]
 by_cases e:(vs.any λkv=>decide (kv.1=k))=true
 ·rw[if_pos e,if_pos e];exact r.repl k ry
 ·rw[if_neg e,if_neg e];exact wU r ⟨rfl,ry⟩
theorem KV.length{kvs:List (κ × V)}{vs:List (κ × Value)}(r:KV kvs vs):kvs.length=vs.length:=dq r
end
theorem Ay{P:Program}{w:World}{k:Key}{u:Value}(r:RelV (kV k) u):(fW P w).is k u=true:=by
 cases k with
 |inl i=>obtain⟨t,e⟩:=(show ∃t,u=Value.int i t from r);subst e;exact Wh P w i t
 |inr x=>obtain⟨t,e⟩:=(show ∃t,u=Value.str x t from r);subst e;exact Wi P w x t
theorem Vj{P:Program}{w:World}{k:Key}{v:V}{u:Value}(q:JQ k v)(r:RelV v u):(fW P w).is k u=true:=by
 rcases q with e|⟨b,e,ek⟩
 ·subst e;exact Ay r
 ·subst e;subst ek;cases(show u=Value.bool b from r);exact Vl b
theorem JK{P:Program}{w:World}:∀{ks:List Key} {ws:List V} {us:List Value},Az ks ws->Vals ws us->ItemsAre (fW P w) ks us
 |_,_,_,.nil,.nil=>.nil
 |_,_,_,.cons q t,.cons h t'=>.cons (Vj q h) (JK t t')
abbrev KT (H:Hp):List (List Key × V)->List (List Key × Addr × Value)->Prop:=Paired λp q=>p.1=q.1/\jG H q.2.1 p.1/\RelV p.2 q.2.2
theorem KT.val{H:Hp}{kvs:List (List Key × V)}{xs:List (List Key × Addr × Value)}(r:KT H kvs xs)(k:List Key):f7 (dm kvs k) ((atKey xs k).map (·.2)):=by
 induction r with
 |nil=>exact True.intro
 | @cons p q ps qs h t ih =>
  obtain⟨h1,_,h2⟩:=h
  by_cases e:p.1=k
  ·have e':q.1=k:=h1.symm.trans e
   have b:atKey (q::qs) k=some q.2:=by simp[atKey,pw,e']
   rw[lA e,b];exact h2
  ·have e':¬ q.1=k:=λz=>e (h1.trans z)
   have b:atKey (q::qs) k=atKey qs k:=by simp[atKey,pw,e']
   rw[j6 e,b];exact ih
theorem KT.repl{H:Hp}{kvs:List (List Key × V)}{xs:List (List Key × Addr × Value)}(r:KT H kvs xs)(k:List Key){y:V}{u:Value}(ry:RelV y u):
  KT H (kvs.map λkv=>if kv.1=k then(kv.1,y)else kv) (xs.map (putAt k u)):=by
 induction r with
 |nil=>exact .nil
 | @cons p q ps qs h t ih =>
  rw[cL,cL];refine .cons ?_ ih;obtain⟨h1,h2,h3⟩:=h;unfold putAt
  by_cases e:p.1=k
  ·rw[if_pos e,if_pos (h1.symm.trans e)];exact⟨h1,h2,ry⟩
  ·rw[if_neg e,if_neg (λz=>e (h1.trans z))];exact⟨h1,h2,h3⟩
theorem KT.put{H:Hp}{kvs:List (List Key × V)}{xs:List (List Key × Addr × Value)}(r:KT H kvs xs)(k:List Key){b:Addr}{y:V}{u:Value}(hb:jG H b k)(ry:RelV y u):KT H (putK kvs k y) (storedH xs k b u):=by
 have e:(kvs.any λkv=>decide (kv.1=k))=(atKey xs k).isSome:=by
  rw[Fc,(r.val k).Vd,Option.isSome_map]
 unfold putK storedH;rw[e]
 by_cases q:(atKey xs k).isSome=true
 ·rw[if_pos q,if_pos q];exact r.repl k ry
 ·rw[if_neg q,if_neg q];exact wU r ⟨rfl,hb,ry⟩
theorem KT.keeps{H H':Hp}{kvs:List (List Key × V)}{xs:List (List Key × Addr × Value)}(r:KT H kvs xs)(ht:∀b ys,H b=some (.tup ys)->H' b=some (.tup ys)):KT H' kvs xs:=
 Paired.dA r λ_ _ z=>⟨z.1,(let⟨ws,k1,k2⟩:=z.2.1;⟨ws,k1,ht _ _ k2⟩),z.2.2⟩
section
variable {P:Program} {w:World} {H:Hp} {h:Heap} {a:Addr}
theorem L8{u:HO}(ok:bE P w H h)(e:Rd H a u):bw P w H h a u:=e.ok ok
theorem yo{kvs:List (Key × V)}(ok:bE P w H h)(e:Rd H a (.dK kvs)):kvs.length<=sizeLine/\(a == sysModules)=false/\∃vs,KV kvs vs/\h.DictOf (fW P w) a vs:=
 show bw P w H h a (.dK kvs)from L8 ok e
theorem Rj{kvs:List (Key × V)}(ok:bE P w H h)(e:H a=some (.dK kvs)):kvs.length<=sizeLine/\(a == sysModules)=false/\∃vs,KV kvs vs/\h.DictOf (fW P w) a vs:=yo ok (.inl e)
theorem Ba{ks:List Key}(ok:bE P w H h)(e:jG H a ks):(tupleKind (fW P w)).is h ks a:=by
 obtain⟨ws,q,e⟩:=e;obtain⟨_,its,r,⟨o,h1,h2,n,h3⟩,_⟩:=(show bw P w H h a (.tup ws)from ok a _ e);exact⟨o,its.toArray,n,h1,h2,h3,by simpa using JK q r⟩
theorem yq{kvs:List (List Key × V)}(ok:bE P w H h)(e:Rd H a (.dT kvs)):kvs.length<=sizeLine/\(a == sysModules)=false/\∃xs,KT H kvs xs/\h.DictOfH (tupleKind (fW P w)) a xs:=by
 obtain⟨z,y,xs,r,o,es,ep,h1,h2,h3,h4,h5⟩:=(show bw P w H h a (.dT kvs)from L8 ok e);refine⟨z,y,xs,r,o,es,ep,h1,h2,h3,h4,λx hx=>?_,h5⟩;have all:∀{l:List (List Key × V)} {m:List (List Key × Addr × Value)},KT H l m->∀x∈m,(tupleKind (fW P w)).is h x.1 x.2.1:=by
  intro l m q
  induction q with
  |nil=>intro x hx;exact nomatch hx
  | @cons p q ps qs hq t ih =>
   intro x hx
   rcases bq.mp hx with e|hx
   ·subst e
    exact Ba ok (by rw[<- hq.1];exact hq.2.1)
   ·exact ih x hx
 exact all r x hx
theorem Rm{kvs:List (List Key × V)}(ok:bE P w H h)(e:H a=some (.dT kvs)):kvs.length<=sizeLine/\(a == sysModules)=false/\∃xs,KT H kvs xs/\h.DictOfH (tupleKind (fW P w)) a xs:=yq ok (.inl e)
end
def o7(H:Hp)(a:Addr)(y:V)(r:Option V):Prop:=
 (∃kvs k,Rd H a (.dK kvs)/\y=kV k/\r=dm kvs k)\/∃kvs k b,Rd H a (.dT kvs)/\y = .ref b/\jG H b k/\r=dm kvs k
def o8(H:Hp)(a:Addr)(y v:V)(H':Hp):Prop:=
 (∃kvs k,H a=some (.dK kvs)/\y=kV k/\kvs.length<sizeLine/\H'=upd H a (.dK (putK kvs k v))) \/
 ∃kvs k b,H a=some (.dT kvs)/\y = .ref b/\jG H b k/\kvs.length<sizeLine/\H'=upd H a (.dT (putK kvs k v))
theorem o7.t{H:Hp}{a b:Addr}{kvs:List (List Key × V)}{k:List Key}(e:H a=some (.dT kvs))(eb:jG H b k):o7 H a (.ref b) (dm kvs k):=.inr ⟨kvs,k,b,.inl e,rfl,eb,rfl⟩
theorem o8.t{H:Hp}{a b:Addr}{kvs:List (List Key × V)}{k:List Key}{v:V}(e:H a=some (.dT kvs))(eb:jG H b k)(hl:kvs.length<sizeLine):o8 H a (.ref b) v (upd H a (.dT (putK kvs k v))):=.inr ⟨kvs,k,b,e,rfl,eb,hl,rfl⟩
section
variable {X:Cx} {pins:List (Addr × Obj)} {σ:St} {H:Hp} {s:Shared} {a:Addr} {y v:V} {u r:Value} {o:Option V} {A:Around} {E:Value->Shared->Prop}
theorem Inv.big(I:Inv X pins σ H s):sysModules<s.heap.objs.size:=by
 have h:mainGlobals<s.heap.objs.size:=(I.mod.glob.keeps I.bk).lt;exact Gb (by decide) h
theorem Hq{h':Heap}{t':Nat}{ob:HO}(I:Inv X pins σ H s)(mu:pF (H a))(hs:Heap.SameBut a s.heap h')(he:∃q,h'.get? a=some q)(new:bw X.prog X.w (upd H a ob) h' a ob):
  Inv X pins σ (upd H a ob) {s with heap:=h',toks:=t'}:=
 I.write (x:=a) (e:=a) mu (.inl rfl) (λb q hb z=>(hs.2 b hb).trans z) he new
theorem Ri{P:Program}{w:World}{H':Hp}{h':Heap}{kvs:List (Key × V)}{vs:List (Key × Value)}(z:kvs.length<=sizeLine)(hd:(a == sysModules)=false)(rel:KV kvs vs)(dd:h'.DictOf (fW P w) a vs):bw P w H' h' a (.dK kvs):=⟨z,hd,vs,rel,dd⟩
theorem Rh{H':Hp}{Q:Unit->Shared->Prop}(hu:A.units+1<cLine)(I:Inv X pins σ H s)(g:o8 H a y v H')(ry:RelV y u)(rv:RelV v r)(h:∀s',Inv X pins σ H' s'->Q () s'):wpAny (model X.prog X.w) A (setItem (.ref a) u r) Q E s:=by
 rcases g with⟨kvs,k,e,ey,l,eH⟩|⟨kvs,k,b,e,ey,eb,l,eH⟩
 ·subst ey eH
  obtain⟨z,hd,vs,rel,dd⟩:=Rj I.hok e;have hz:vs.length<=sizeLine:=by rw[<- rel.length];exact z
  have hl:(putK kvs k v).length<=sizeLine:=by have:=Ka kvs k v;omega
  refine wpAny_setItem_pairs (hsz:=hz) (Ay ry) dd λh' pX hs=>h _ ?_
  have he:∃q,h'.get? a=some q:=let⟨q,_,_,hq,_⟩:=pX;⟨q,hq⟩
  exact Hq I (by rw[e];exact True.intro) hs he (Ri hl hd (rel.put k rv) pX)
 ·subst ey eH
  cases(show u=Value.ref b from ry);obtain⟨z,hd,xs,rel,dd⟩:=Rm I.hok e;have hz:xs.length<=sizeLine:=by rw[<- dq rel];exact z
  have hl:(putK kvs k v).length<=sizeLine:=by have:=Ka kvs k v;omega
  refine wpAny_setItem_heap (hsz:=hz) (tupleKind_room_in1 hu) (Ba I.hok eb) dd λh' pX hs=>h _ ?_
  obtain⟨q,es,ep,hq,h2,h3,h4,_,h5⟩:=pX;refine Hq I (by rw[e];exact True.intro) hs ⟨q,hq⟩ ⟨hl,hd,_,(rel.put k eb rv).keeps λc ys ec=>?_,q,es,ep,hq,h2,h3,h4,h5⟩;rw[aD (hV ec e (λz=>nomatch z))];exact ec
end
section
variable {X:Cx} {pins:List (Addr × Obj)} {σ:St} {H:Hp} {s:Shared} {a:Addr} {kvs:List (Key × V)} {k:Key} {u:Value} {A:Around} {E:Value->Shared->Prop}
end
def ZX(td ty tv:TE):TS:=λD σ H=>tv σ H λv H1=>td σ H1 λx H2=>ty σ H2 λy H3=>∃a H4,x = .ref a/\o8 H3 a y v H4/\D.nx σ H4
section
variable {X:Cx} {o i e value:Expr} {pos pos' tpos:Pos} {td ty tv:TE}
theorem Y3(hu:X.A.units+1<cLine)(ho:PE X o td)(hi:PE X i ty)(hv:PE X value tv)(hs:swapsWith value (some (.Subscript o i pos')) pos.line X.env=pure false):PS X (.Assign [.Subscript o i pos'] value pos) (ZX td ty tv):=by
 intro pins s σ H D I h;refine wpAny_Assign_Subscript (aK (hv pins s σ H _ I h) λr s1 ⟨v,H1,I1,rv,q1⟩=>aK (ho pins s1 σ H1 _ I1 q1) λu s2 ⟨x,H2,I2,rx,q2⟩=>aK (hi pins s2 σ H2 _ I2 q2) λiv s3 ⟨y,H3,I3,ry,a,H4,ex,g,q3⟩=>?_) hs;subst ex;obtain rfl:u=Value.ref a:=rx;exact Rh hu I3 g ry rv λs4 I4=>⟨σ,H4,I4,q3⟩
end
theorem Rk {P:Program} {w:World} {H:Hp} (h:Heap) (hb:sysModules<h.objs.size):bw P w H (h.push {cls:=.type "dict", data:=.dict #[]}) h.objs.size (.dT []):=
 ⟨eD _,kx.mpr (bJ (bu hb)),[],.nil,_,#[],0,cn _ rfl,⟨rfl,rfl,rfl⟩,rfl,rfl,wB⟩
def aap:TE:=λ_ H Q=>∀p,H p=none->Q (.ref p) (upd H p (.dT []))
section
variable {X:Cx} {pos:Pos}
theorem Yz:PE X (.Dict [] [] pos) aap:=λpins s σ H Q I h =>
 wpAny_Dict_empty ⟨.ref s.heap.objs.size,_,I.laid (a:=s.heap.objs.size) (o:=.dT []) (t':=s.toks) (λ_ _ q=>aU _ q) (aW _) (Rk s.heap I.big),rfl,h _ (I.hok.fresh (aW _))⟩
end
structure M1 (X:Cx) (o:Expr) (m:Str) (apos:Pos) (e:Expr) (cpos:Pos):Prop where
 base:attributeBase o m X.env (eval o X.env)=eval o X.env
 few:((backTo cpos (starEach [e] X.env)).all (λx=>!x.1)&&(backToKw cpos (keywordEach [] X.env)).all (λx=>x.1.isSome)
  && decide (([e]:List Expr).length+([]:List Keyword).length+(if([]:List Keyword).isEmpty then 0 else 1)<30))=true
 line:(apos.endLine == cpos.line)=true
 trees:backTo cpos (starEach [e] X.env) = [(false,eval e X.env)]
structure M2 (X:Cx) (o:Expr) (m:Str) (apos:Pos) (e f:Expr) (cpos:Pos):Prop where
 base:attributeBase o m X.env (eval o X.env)=eval o X.env
 few:((backTo cpos (starEach [e,f] X.env)).all (λx=>!x.1)&&(backToKw cpos (keywordEach [] X.env)).all (λx=>x.1.isSome)
  && decide (([e,f]:List Expr).length+([]:List Keyword).length+(if([]:List Keyword).isEmpty then 0 else 1)<30))=true
 line:(apos.endLine == cpos.line)=true
 trees:backTo cpos (starEach [e,f] X.env) = [(false,eval e X.env),(false,eval f X.env)]
def Fs(H:Hp)(a:Addr):Prop:=(∃kvs,Rd H a (.dK kvs))\/∃kvs,Rd H a (.dT kvs)
theorem Vc{X:Cx}{pins:List (Addr × Obj)}{σ:St}{H:Hp}{s:Shared}{a:Addr}(I:Inv X pins σ H s)(d:Fs H a):
  s.TypeIs (.ref a) "dict" /\ (∀b,Value.ref a = .ref b->∃ob,s.heap.get? b=some ob/\ob.dict=none)/\(a == sysModules)=false:=by
 rcases d with⟨kvs,e⟩|⟨kvs,e⟩
 ·obtain⟨_,hd,vs,_,dd⟩:=yo I.hok e
  refine⟨dd.typeIs,λb q=>?_,hd⟩;cases q;obtain⟨ob,_,_,h1,h2,_⟩:=dd;exact⟨ob,h1,h2.2.1⟩
 ·obtain⟨_,hd,xs,_,dd⟩:=yq I.hok e
  refine⟨dd.typeIs,λb q=>?_,hd⟩;cases q;obtain⟨ob,_,_,h1,h2,_⟩:=dd;exact⟨ob,h1,h2.2.1⟩
section
variable {X:Cx} {pins:List (Addr × Obj)} {σ:St} {H:Hp} {s:Shared} {a:Addr} {y d:V} {u r:Value} {o:Option V} {A:Around} {E:Value->Shared->Prop}
theorem Rg{Q:Value->Shared->Prop}(hu:A.units+1<cLine)(I:Inv X pins σ H s)(g:o7 H a y o)(ry:RelV y u)(h:∀w' s',Inv X pins σ H s'->RelV (o.getD .non) w'->Q w' s'):
  wpAny (model X.prog X.w) A (call (.builtin "dict.get") [.ref a,u]) Q E s:=by
 rcases g with⟨kvs,k,e,ey,l⟩|⟨kvs,k,b,e,ey,eb,l⟩
 ·subst ey
  obtain⟨z,hd,vs,rel,dd⟩:=yo I.hok e;refine call_meetsIn Gs dd.typeIs P7 (P5 _ _) (meets_dict_get (fW X.prog X.w) a (Ay ry) hd) ⟨_,dd.mapOf,h _ _ (I.tok _) ?_⟩;rw[l];exact(rel.val k).getD rfl
 ·subst ey
  cases(show u=Value.ref b from ry);obtain⟨z,hd,xs,rel,dd⟩:=yq I.hok e;refine call_meetsIn Gs dd.typeIs P7 (P5 _ _) (meetsH_dict_get (tupleKind (fW X.prog X.w)) a b hd) ⟨tupleKind_room_in1 hu,k,xs,Ba I.hok eb,dd,h _ _ (I.tok _) ?_⟩;rw[l];exact(rel.val k).getD rfl
end
def aao(td ty:TE):TE:=λσ H Q=>td σ H λx H1=>∃a,x = .ref a/\Fs H1 a/\ty σ H1 λy H2=>∃o,o7 H2 a y o/\Q (o.getD .non) H2
section
variable {X:Cx} {o e f:Expr} {apos cpos:Pos} {td ty tx:TE}
theorem Yy (hu:X.A.units+1<cLine) (ho:PE X o td) (he:PE X e ty) (m:M1 X o "get" apos e cpos):PE X (.Call (.Attribute o "get" apos) [e] [] cpos) (aao td ty):=by
 intro pins s σ H Q I h;refine wpAny_Call_method m.base m.few m.line PySem.F.plainAttrs_dict Gs PySem.F.type_dict_get (aK (ho pins s σ H _ I h) λu s1 ⟨x,H1,I1,rx,a,ex,d,q1⟩=>?_);subst ex;obtain rfl:u=Value.ref a:=rx;obtain⟨t1,t2,_⟩:=Vc I1 d;refine⟨t1,t2,?_⟩;rw[m.trees];refine Gj rfl (su (Gk (aK (he pins s1 σ H1 _ I1 q1) λiv s2 ⟨y,H2,I2,ry,ov,g,q2⟩=>Gm ?_)));exact Rg hu I2 g ry λw' s3 I3 mE=>⟨_,H2,I3,mE,q2⟩
end
section
variable {X:Cx} {pins:List (Addr × Obj)} {σ:St} {H:Hp} {s:Shared} {a:Addr} {kvs:List (Key × V)} {A:Around} {E:Value->Shared->Prop}
end
section
variable {X:Cx} {pins:List (Addr × Obj)} {σ:St} {H:Hp} {s:Shared} {a:Addr} {y:V} {u:Value} {A:Around} {E:Value->Shared->Prop}
end
end L2
namespace Fg
open PySem PySem.W PySem.Calls PyProof.Rows
theorem U9{P:Params}{h:Heap}:∀(ns:List Int) (vs:List Value),WellAll P h vs (ns.map WData.int)->IntsAre vs ns:=by
 intro ns
 induction ns with
 |nil =>
  intro vs w;rw[rY]at w;cases w;exact .nil
 |cons n ns ih =>
  intro vs w;rw[cL]at w;cases w with
  |cons a b =>
   cases a;exact .cons _ _ (ih _ b)
theorem Z1{l:OpenLaw}{n:Nat}(hn:l.most=some n){P:Params}{h:Heap}{args:List WData}{vals:List Value}(hpre:l.row.toRowW.claim.pre args=true)(hwl:WellAll P h vals args):
  ∃a vs ns,vals = [Value.ref a]/\args = [WData.list (ns.map WData.int)]/\h.get? a=some {cls:=.type "list", data:=.seq vs.toArray}/\IntsAre vs ns/\ns.length<=n:=by
 have hsh:WShape.hasAll [] args [.list .int]=true:=(pre_splitW hpre).1;have hc:l.pre.holds [] {args:=args}=true:=(pre_splitW hpre).2;obtain⟨d,r,rfl,h1,h2⟩:=hasAllW_cons hsh;obtain rfl:=hasAllW_nil h2;obtain⟨xs,rfl,h3⟩:=hasW_list h1;obtain⟨ns,rfl⟩:=items_int h3;have hlen:ns.length<=n:=by
  unfold OpenLaw.pre at hc;have h4:(WTm.not (.lt (.lit (.int (n:Int))) (.len (.arg 0)))).holds [] {args:=[.list (ns.map .int)]}=true:=by
   have h4:=(holds_andW hc).1;rw[hn]at h4;exact h4
  have h5:=condW_of h4 (w_not (w_lt w_lit (w_len_list (w_arg rfl))));rw[az]at h5;refine sf λq=>?_
  have q':(n:Int)<((ns.length:Nat):Int):=by omega
  first
   | (rw[cB q']at h5;exact absurd h5 (by decide))
   | (simp at h5;omega)
 cases hwl with
 |cons w1 w2 =>
  cases w2;cases w1 with
  |list ho hall=>exact⟨_,_,ns,rfl,rfl,ho,U9 ns _ hall,hlen⟩
theorem Y2(l:OpenLaw)(args:List WData):l.row.toRowW.claim.post args (.bool true) args=true:=
 postW_of (r:=l.row.toRowW) (X:=(true == true))
  (show WShape.has [] (.bool true) .bool=true by first|rfl|decide|simp[WShape.has,WShape.arms,WShape.armsAll])
  (show(WTm.eq .res (.lit (.bool true))).value [] {args:=args,res:=some (.bool true),after:=args}=some (.bool (true == true))from w_eq_bool (w_res rfl) w_lit) rfl
theorem Qn{l:OpenLaw}{n:Nat}{q:Program}{loose:List Str}{XP:(Str->Option Value)->Heap->Prop}{YP:World->Heap->Prop}{d:DefRec}(hn:l.most=some n)(hdf:d.params.defaults = [])
  (call:∀(w:World) (s₀ s₁:Shared) (mg mb:Str->Option Value) (fa:Addr) (o:Obj) (pm cd doc:Value) (a:Addr) (vs:List Value) (ns:List Int),
   Ground q loose [] XP w s₀ mg mb s₁.heap->YP w s₁.heap ->
   s₁.heap.get? fa=some o->o.data = .func (docDef d.name d.params d.body d.scope pm cd doc)->s₁.heap.CodeRec cd d.name->mg d.name=some (.ref fa) ->
   s₁.heap.get? a=some {cls:=.type "list", data:=.seq vs.toArray}->IntsAre vs ns->ns.length<=n->s₁.gens = #[] ->
   codeAny (model l.prog w) callerA (.call (.ref fa) ⟨[.ref a],[]⟩) (λr s'=>r = .ok (.ret (.bool true))/\OldK s₁.heap s'.heap/\s'.os=s₁.os/\AllBare s'.gens) s₁) :
  WalkO q loose XP YP l.row.toRowW d [] (λf vs=>PySem.call f vs):=by
 intro w s₀ s₁ mg mb G Y fa o pm cd doc dV kV ho hd hcd hD hmg hg args vals as hpre hlay hrd hwl hlo;obtain rfl:dV = .none:=Dflts.none hD hdf;obtain rfl:kV = .none:=Dflts.noKw hD;obtain⟨a,vs,ns,rfl,rfl,hobj,hints,hlen⟩:=Z1 hn hpre hwl;refine enter_call (lP (call w s₀ s₁ mg mb fa o pm cd doc a vs ns G Y ho (fd_plain hd) hcd hmg hobj hints hlen hg) λr s' hq=>?_);obtain⟨rfl,h2,h3,h4⟩:=hq;exact⟨.inl ⟨.bool true,.bool true,[],rfl,λ_=>rfl,.bool true,Y2 l _,λ_=>⟨List.Pairwise.nil,λ_ hm=>(nomatch hm)⟩⟩,h2,h3,h4⟩
section
variable {prog:Program} {w:World} {A:Around} {E:Value->Shared->Prop} {s:Shared} {K:Frag}
end
end Fg
namespace L2
open PySem PySem.Spec PyProof.Rows
theorem O_:∀{vs:List Value} {ns:List Int},IntsAre vs ns->Vals (ns.map V.int) vs
 |_,_,.nil=>.nil
 |_,_,.cons n t h=>.cons ⟨t,rfl⟩ (O_ h)
def inClass(s:Stmt)(j:Nat):Stmt:=match s with
 |.ClassDef _ _ _ body _ _ _ _ _ _ _=>body.getD j (.Pass ⟨0,0,0,0⟩)
 |_=>.Pass ⟨0,0,0,0⟩
def iQ(s:Stmt):Arguments:=match s with
 |.FunctionDef _ a _ _ _ _ _ _ _ _=>a
 |_=>{posonlyargs:=[],args:=[],vararg:=none,kwonlyargs:=[],kw_defaults:=[],kwarg:=none,defaults:=[]}
def gH(s:Stmt):List Stmt:=match s with
 |.FunctionDef _ _ b _ _ _ _ _ _ _=>b
 |_=>[]
def aA(s:Stmt):Scope:=match s with
 |.FunctionDef _ _ _ _ _ _ sc _ _ _=>sc
 |_=>{kind:=.function,names:=[],isGenerator:=false,isCoroutine:=false}
abbrev aX:gQ:=λ_ _ _ _ _ _=>False
abbrev E0:XK:=λ_ _ _=>False
theorem Bv{X:Cx}:Passes aX X E0:=λ_ _ _ _ _ _ _ h=>h.elim
structure aR (K:W.Frag) (x qual:Str) (st:Stmt) (f:Addr) (fd:FuncData):Prop where
 ex:∃(oc:Value) (od:Option Addr) (kV doc pm:Value) (an:Option Addr) (cdv ct:Value) (osl:Array (Option Value)),
  fd=W.fnOf x qual (iQ st) (gH st) (aA st) .none kV doc pm an cdv ct/\K.lookup f=some ⟨oc,od,.func fd,osl⟩/\W.codeIn K cdv qual=true
 kp:W.keepIn K (.ref f)=true
section
variable {P:Program} {w:World} {K:W.Frag} {mg:Str->Option Value} {base:Heap}
theorem aR.ok{x qual:Str}{st:Stmt}{f:Addr}{fd:FuncData}{N ps:List Str}{k:Nat}{sp:Sp}(F:aR K x qual st f fd)(S:aZ N ps (aA st))(len:∀vs H Q E,sp vs H Q E->vs.length=ps.length)(hbody:∀(cdv:Value) (A:Around) (outer:List Env) (s:Shared) (H:Hp) (vs:List V) (Q:VK) (E:XK),bR k (A.deeper (envOfC qual (aA st) s.heap.objs.size f cdv))->sp vs H Q E->∃t,fw (cp aX P w K mg base N qual (aA st) f cdv A outer s H E).uz (gH st) t/\t {nx:=λ_ H'=>Q .non H',rt:=Q} (start N vs) H):aL P w K mg base aX (k+1) f fd ps sp:=by
 obtain⟨oc,od,kV,doc,pm,an,cdv,ct,osl,rfl,lk,hcd⟩:=F.ex;refine zJ lk hcd S len λA outer s H vs Q E hr hsp=>?_
 obtain⟨t,h,q⟩:=hbody cdv A outer s H vs Q E hr hsp;exact⟨t,h.uz,q⟩
theorem aR.binds{x qual:Str}{st:Stmt}{f:Addr}{fd:FuncData}{ps:List Str}(F:aR K x qual st f fd)
  (h:∀(kV doc pm:Value) (an:Option Addr) (cdv ct:Value) (us:List Value),us.length=ps.length->bindArgs (W.fnOf x qual (iQ st) (gH st) (aA st) .none kV doc pm an cdv ct) ⟨us,[]⟩=pure (ps.zip us)):Binds K fd ps []:=by
 obtain⟨oc,od,kV,doc,pm,an,cdv,ct,osl,rfl,lk,hcd⟩:=F.ex;exact .all (h kV doc pm an cdv ct)
theorem zN{x qual:Str}{st:Stmt}{f:Addr}{oc:Value}{od an:Option Addr}{osl:Array (Option Value)}{kV doc pm cdv ct:Value}(l:K.lookup f=some ⟨oc,od,.func (W.fnOf x qual (iQ st) (gH st) (aA st) .none kV doc pm an cdv ct),osl⟩)
  (c:W.codeIn K cdv qual=true) (k:W.keepIn K (.ref f)=true):aR K x qual st f (W.fnOf x qual (iQ st) (gH st) (aA st) .none kV doc pm an cdv ct):=⟨⟨oc,od,kV,doc,pm,an,cdv,ct,osl,rfl,l,c⟩,k⟩
end
theorem Jr{A:Around}{k:Nat}(hr:bR k A):A.units+1<cLine:=mX (Nat.add_le_add_left (by decide:1<=64) _) hr.units
theorem jy{n:Nat}(h:n<=1000):n<sizeLine:=mX h (by decide)
section
variable {X:Cx}
theorem pv (i:Nat) {x:Str} {pos:Pos} (hN:X.N[i]? = some x:=by rfl) (hv:sP X.env.scope x:=by first|exact Or.inl rfl|exact Or.inr (Or.inl rfl)|exact Or.inr (Or.inr rfl)) (hd:(x == ("__debug__" : Str))=false:=by decide)
  (hcd:(x == ("__classdict__" : Str))=false:=by decide):PE X (.Name x pos) (Oz i):=YM hN hv hd hcd
end
theorem cG{A B:Prop}(h:B):if false=true then A else B:=by
 rw[if_neg Bool.false_ne_true];exact h
theorem eR{A B:Prop}(h:A):if true=true then A else B:=by
 rw[if_pos rfl];exact h
theorem bB{c A B:Prop}[Decidable c](h1:c->A)(h2:¬ c->B):if c then A else B:=by
 by_cases h:c
 ·rw[if_pos h]
  exact h1 h
 ·rw[if_neg h]
  exact h2 h
def Same(H H':Hp):Prop:=∀b o,H b=some o->H' b=some o
theorem Same.refl(H:Hp):Same H H:=λ_ _ h=>h
theorem Same.trans{H H1 H2:Hp}(a:Same H H1)(b:Same H1 H2):Same H H2:=λc o h=>b c o (a c o h)
theorem Same.free{H H':Hp}(e:Same H H'){l:Addr}(h:H' l=Option.none):H l=Option.none:=by
 cases q:H l with
 |none=>rfl
 |some o =>
  rw[e l o q]at h;cases h
theorem Same.seq{K:W.Frag}{H H':Hp}{a:Addr}{xs:List V}(e:Same H H')(h:ah K H a xs):ah K H' a xs:=by
 rcases h with(h|⟨o,h⟩)|h
 ·exact .inl (.inl (e _ _ h))
 ·exact .inl (.inr ⟨o,e _ _ h⟩)
 ·exact .inr h
section
variable {κ:Type} [DecidableEq κ]
end
def cQ(cells:List (Str × Addr)):List (Str × NameKind)->List (Str × Addr)->List (Str × Addr)
 | [],acc=>acc
 | (n,k)::r,acc=>cQ cells r (if(k == NameKind.free)=true then(n,(cells.lookup n).getD 0)::acc else acc)
theorem Hl{cells:List (Str × Addr)}{x:Str}{c:Addr}:∀{names:List (Str × NameKind)} {acc:List (Str × Addr)},(cQ cells names acc).lookup x=some c->acc.lookup x=some c\/((x,NameKind.free)∈names/\c=(cells.lookup x).getD 0)
 | [],acc,h=>.inl h
 | (n,k)::r,acc,h=>by
  unfold cQ at h
  rcases Hl h with h1|⟨h1,e⟩
  ·clear h
   split at h1
   ·rename_i hk
    rw[ie]at h1;cases hx:x == n with
    |true =>
     rw[hx]at h1;have hx':x=n:=by simpa using hx
     have hk':k = .free:=by simpa using hk
     subst hx' hk';exact .inr ⟨b9,(da h1).symm⟩
    |false =>
     rw[hx]at h1;exact .inl h1
   ·exact .inl h1
  ·exact .inr ⟨cu _ h1,e⟩
theorem tF{cells:List (Str × Addr)}{x:Str}:∀{names:List (Str × NameKind)} {acc:List (Str × Addr)} {c:Addr},acc.lookup x=some c->∃c',(cQ cells names acc).lookup x=some c'
 | [],_,c,h=>⟨c,h⟩
 | (n,k)::r,acc,c,h=>by
  unfold cQ
  split
  ·cases hx:x == n with
   |true=>exact tF (c:=(cells.lookup n).getD 0) (by rw[ie,hx])
   |false=>exact tF (c:=c) (by rw[ie,hx];exact h)
  ·exact tF h
theorem pV{cells:List (Str × Addr)}{x:Str}:∀{names:List (Str × NameKind)} {acc:List (Str × Addr)},(x,NameKind.free)∈names->∃c,(cQ cells names acc).lookup x=some c
 | [],_,h=>nomatch h
 | (n,k)::r,acc,h=>by
  unfold cQ
  rcases bq.mp h with e|h
  ·injection e with e1 e2
   subst e1;subst e2;exact tF (c:=(cells.lookup x).getD 0) (by simp)
  ·exact pV h
theorem tE{scope:Scope}{env:Env}(h:∀x∈scope.names,x.2 = .free->∃c,env.cells.lookup x.1=some c):closureFor scope env=pure (cQ env.cells scope.names []):=by
 have go:∀(names:List (Str × NameKind)) (acc:List (Str × Addr)),(∀x∈names,x.2 = .free->∃c,env.cells.lookup x.1=some c) ->
   (forIn names acc λx cs=>if(x.2 == NameKind.free)=true then do let c <- cellOf env x.1;pure (ForInStep.yield ((x.1,c)::cs))else pure (ForInStep.yield cs):Sem (List (Str × Addr)))=pure (cQ env.cells names acc):=by
  intro names
  induction names with
  |nil=>intro acc _;rfl
  |cons x r ih =>
   intro acc hx;obtain⟨n,k⟩:=x;rw[pA];unfold cQ;cases hk:k == NameKind.free with
   |true =>
    obtain⟨c,hc⟩:=hx (n,k) b9 (by simpa using hk);simp only[hk,jO,cellOf,hc,pure_bind,Gf];exact ih _ λy hy=>hx y (cu _ hy)
   |false =>
    simp only[hk,h7,gi,pure_bind];exact ih _ λy hy=>hx y (cu _ hy)
 have e:=go scope.names [] h;have e2:closureFor scope env=(forIn scope.names [] λx cs=>if(x.2 == NameKind.free)=true then do let c <- cellOf env x.1;pure (ForInStep.yield ((x.1,c)::cs))else pure (ForInStep.yield cs):Sem (List (Str × Addr))) >>= λcs=>pure cs:=by
  rfl
 rw[e2,e];rfl
theorem Ki{env:Env}:∀{names:List (Str × NameKind)} {x:Str},names.lookup x=some .free ->
  (names.map λ(n,k)=>if(k == NameKind.free&&env.scope.kind == .function&&env.kindOf n == some .cell)then(n,NameKind.cell)else(n,k)).lookup x=some .cell \/
  (names.map λ(n,k)=>if(k == NameKind.free&&env.scope.kind == .function&&env.kindOf n == some .cell)then(n,NameKind.cell)else(n,k)).lookup x=some .free
 | [],_,h=>by simp at h
 | (n,k)::r,x,h=>by
  have ih:=@Ki env r x;show List.lookup x ((if(k == NameKind.free&&env.scope.kind == .function&&env.kindOf n == some .cell)=true then(n,NameKind.cell)else(n,k))::_)=_\/List.lookup x ((if(k == NameKind.free&&env.scope.kind == .function&&env.kindOf n == some .cell)=true then(n,NameKind.cell)else(n,k))::_)=_;cases hx:x == n with
  |true =>
   simp only[ie,hx]at h;cases h
   by_cases hc:(NameKind.free == NameKind.free&&env.scope.kind == .function&&env.kindOf n == some .cell)=true
   ·rw[if_pos hc];simp[ie,hx]
   ·rw[if_neg hc];simp[ie,hx]
  |false =>
   simp only[ie,hx]at h
   by_cases hc:(k == NameKind.free&&env.scope.kind == .function&&env.kindOf n == some .cell)=true
   ·rw[if_pos hc];simp only[ie,hx];exact ih h
   ·rw[if_neg hc];simp only[ie,hx];exact ih h
theorem Kv{env:Env}:∀{names:List (Str × NameKind)} {x:Str},(∀y∈names,y.2≠.cell) ->
  ((names.map λ(n,k)=>if(k == NameKind.free&&env.scope.kind == .function&&env.kindOf n == some .cell)then(n,NameKind.cell)else(n,k)).lookup x=some .cell \/
  (names.map λ(n,k)=>if(k == NameKind.free&&env.scope.kind == .function&&env.kindOf n == some .cell)then(n,NameKind.cell)else(n,k)).lookup x=some .free)->(x,NameKind.free)∈names
 | [],_,_,h=>by simp at h
 | (n,k)::r,x,hn,h=>by
  have ih:=@Kv env r x λy hy=>hn y (cu _ hy)
  change List.lookup x ((if(k == NameKind.free&&env.scope.kind == .function&&env.kindOf n == some .cell)=true then(n,NameKind.cell)else(n,k))::_)=_\/List.lookup x ((if(k == NameKind.free&&env.scope.kind == .function&&env.kindOf n == some .cell)=true then(n,NameKind.cell)else(n,k))::_)=_ at h
  cases hx:x == n with
  |true =>
   have e:x=n:=by simpa using hx
   subst e
   by_cases hc:(k == NameKind.free&&env.scope.kind == .function&&env.kindOf x == some .cell)=true
   ·have hk:k = .free:=by
     have:=(bD _ _▸hc:_/\_).1;have:=(bD _ _▸this:_/\_).1;simpa using this
    subst hk;exact b9
   ·rw[if_neg hc]at h
    simp only[ie,hx]at h
    rcases h with h|h
    ·cases h;exact absurd rfl (hn _ b9)
    ·cases h;exact b9
  |false =>
   by_cases hc:(k == NameKind.free&&env.scope.kind == .function&&env.kindOf n == some .cell)=true
   ·rw[if_pos hc]at h;simp only[ie,hx]at h;exact cu _ (ih h)
   ·rw[if_neg hc]at h;simp only[ie,hx]at h;exact cu _ (ih h)
def blk(X:Cx)(scope:Scope)(N':List Str)(C:Addr)(s₀:Shared)(H₀:Hp)(fp:List Addr):Cx:=
 {X with N:=N',s₀:=s₀,H₀:=H₀,env:=compEnvC scope (cQ X.env.cells scope.names []) C X.env,outer:=X.stack,stack:=X.stack,ex:=fp,fn:=λ_=>false,pn:=[],xe:=λ_ _=>False}
structure gP (X:Cx) (scope:Scope) (fr:List (Str × Nat)):Prop where
 kind:scope.kind = .function
 qJ:∀y∈scope.names,y.2≠.cell
 names:∀y∈scope.names,y.2 = .local->scope.names.lookup y.1=some .local
 free:∀y∈scope.names,y.2 = .free->X.env.scope.names.lookup y.1=some .cell\/X.env.scope.names.lookup y.1=some .free
 ix:∀p∈fr,X.N[p.2]? = some p.1/\scope.names.lookup p.1=some .free
def blkσ(no:Nat)(fr:List (Str × Nat))(σ:St):St:=List.replicate no none++fr.map λp=>σ.getD p.2 none
def Wk(σ σ':St):Prop:=σ.length=σ'.length/\∀(i:Nat) v,σ[i]? = some (some v)->σ'[i]? = some (some v)
theorem Wk.refl(σ:St):Wk σ σ:=⟨rfl,λ_ _ h=>h⟩
theorem Wk.set{σ σ':St}{i:Nat}{x:Option V}(h:Wk σ σ')(hi:σ[i]? = some none):Wk σ (σ'.set i x):=by
 refine⟨by rw[FJ];exact h.1,λj v e=>?_⟩;have hj:j≠i:=by rintro rfl;rw[hi]at e;cases e
 rw[rX (bJ hj)];exact h.2 j v e
section
variable {X:Cx} {pins:List (Addr × Obj)} {σ:St} {H:Hp} {s:Shared} {scope:Scope} {fr:List (Str × Nat)} {own:List Str} {fp:List Addr}
theorem gP.cell(B:gP X scope fr)(ok:X.Ok):∀x∈scope.names,x.2 = .free->∃c,X.env.cells.lookup x.1=some c:=λx hx hk=>ok.has x.1 (B.free x hx hk)
theorem gP.sub(B:gP X scope fr)(ok:X.Ok){x:Str}{c:Addr}(h:(cQ X.env.cells scope.names []).lookup x=some c):X.env.cells.lookup x=some c:=by
 rcases Hl h with h|⟨hm,e⟩
 ·simp at h
 ·obtain⟨c',hc⟩:=B.cell ok _ hm rfl
  rw[e,hc];rfl
theorem Qv(B:gP X scope fr)(I:Inv X pins σ H s)(hf:∀b∈fp,dF X pins H b)(hfs:∀b∈fp,b<s.heap.objs.size){N':List Str}:(blk X scope N' s.heap.objs.size s H fp).Ok where
 mod:=I.ok.mod
 kind:=B.kind
 glob:=I.ok.glob
 blt:=I.ok.blt
 above:=aW _
 inj:=λx y c h1 h2=>I.ok.inj x y c (B.sub I.ok h1) (B.sub I.ok h2)
 has:=λx h=>pV (Kv B.qJ h)
 cab:=λx c h=>by cases h
 hd:=I.ok.hd
 frames:=I.ok.frames
 stk:=.inl rfl
 lY:=λb hb=>⟨bu (hfs b hb),λx c h=>(hf b hb).2.2.2.2.1 x c (B.sub I.ok h)⟩
 bs:=I.bs
 fM:=b_ I.ok.fM I.sz
 jr:=λb o e hb=>by
  rcases(hf b hb).2.2.2.1 with h|h
  ·exact I.ok.jr b o e h
  ·exact absurd (c9 (aQ e) (b_ I.ok.fM h)) (fu _)
 jJ:=λb hb h=>by
  rcases bq.mp (I.rA b h)with e|h
  ·exact(hf b hb).2.1 e
  ·exact(hf b hb).2.2.1 h
 eK:=I.stack
 gY:=I.oY
theorem Qw(B:gP X scope fr)(I:Inv X pins σ H s)(hf:∀b∈fp,dF X pins H b)(hfs:∀b∈fp,b<s.heap.objs.size){h1:Heap}{m:Str->Option Value}{tk:Nat}(hn:h1.Ns s.heap.objs.size m)
  (hk:∀b o,s.heap.get? b=some o->h1.get? b=some o):Inv (blk X scope (own++fr.map (·.1)) s.heap.objs.size s H fp) [] (blkσ own.length fr σ) H {s with heap:=h1,toks:=tk} where
 ok:=Qv B I hf hfs
 os:=rfl
 bare:=I.bare
 base:=Un.kept hk
 loc:=by
  refine⟨m,hn,λi x v e1 e2 e3=>?_⟩
  change (own++fr.map (·.1))[i]? = some x at e1
  unfold blkσ at e2
  by_cases hi:i<own.length
  ·rw[jC (by simpa using hi),Fz]at e2
   split at e2 <;> cases e2
  ·rw[km (by simpa using sf hi),bO]at e1
   rw[km (by simpa using sf hi),bO,FH]at e2;cases hp:fr[i - own.length]? with
   |none=>rw[hp]at e1;cases e1
   |some p =>
    rw[hp]at e1 e2;simp only[sj,Gg]at e1 e2;obtain⟨i1,i2⟩:=B.ix p (dG hp);subst e1;have e2':σ[p.2]? = some (some v):=by
     rw[aO]at e2;cases q:σ[p.2]? with
     |none=>rw[q]at e2;cases e2
     |some z=>rw[q]at e2;exact congrArg some e2
    have kX:X.env.kindOf p.1=some .cell\/X.env.kindOf p.1=some .free:=B.free (p.1,.free) (jb i2) rfl;obtain⟨m',hn',hl'⟩:=I.loc;have vis:sP X.env.scope p.1:=.inr kX;obtain⟨u,r,l⟩:=hl' p.2 p.1 v i1 e2' vis;refine⟨u,r,.inr ⟨Ki i2,?_⟩⟩
    rcases l with⟨k,_⟩|⟨_,c,hc,z⟩
    ·rcases kX with q|q <;> (rw[k]at q;cases q)
    ·obtain⟨c',hc'⟩:=pV (cells:=X.env.cells) (acc:=[]) (jb i2)
     have:=B.sub I.ok hc';rw[hc]at this;cases this;exact⟨c,hc',z.keeps hk⟩
 cell:=λx c h=>by
  obtain⟨v,z⟩:=I.cell x c (B.sub I.ok h);exact⟨v,z.keeps hk⟩
 free:=I.hok.fresh (aW _)
 eJ:=λx c h=>I.eJ x c (B.sub I.ok h)
 pin:=λp hp=>absurd (show p∈([]:List (Addr × Obj))from hp) (by simp)
 hok:=I.hok.kept hk
 len:=by
  unfold blkσ;show _=(own++fr.map (·.1)).length;simp
theorem Qu{s':Shared}{H':Hp}{σ':St}{pY:List (Addr × Obj)}{N':List Str}(I:Inv X pins σ H s)(hf:∀b∈fp,dF X pins H b)(J:Inv (blk X scope N' s.heap.objs.size s H fp) pY σ' H' s'):Inv X pins σ H' s':=
 I.call' J.os J.base J.hok J.bare λb hb=>⟨(hf b hb).2.2.2.1,(hf b hb).2.1,(hf b hb).2.2.2.2.1,(hf b hb).2.2.2.2.2⟩
end
def mZ(Y:Cx)(ifs:List Expr)(t:TT):Prop:=
 ∀(pins:List (Addr × Obj)) (s:Shared) (σ:St) (H:Hp) (Q:Bool->Hp->Prop),Inv Y pins σ H s->t σ H Q ->
  wpAny (model Y.prog Y.w) Y.A (forIn ifs true λc r=>if r=true then do let ok <- isTrue c Y.env (eval c Y.env);pure (ForInStep.yield ok)else pure (ForInStep.yield r)) (TP Y pins σ Q) Y.xe s
def oZ:TT:=λ_ H Q=>Q true H
theorem dB{Y:Cx}:mZ Y [] oZ:=λ_ _ _ H _ I h=>wpAny_tests_nil ⟨H,I,h⟩
theorem kU{Y:Cx}{c:Expr}{t:TT}(h:PT Y c t):mZ Y [c] t:=λpins s σ H Q I hq=>wpAny_tests_one (h pins s σ H Q I hq)
def j_(J:It)(g:TG)(tc:TT)(te:TE)(σ₀:St)(D:Addr)(Q:Hp->Prop)(H:Hp):Prop:=
 ∃W:Nat->Nat->List V->Hp->Prop,(∃m,W 0 m [] H)/\∀i m ys H,W i m ys H ->
  (J.stop i H/\Q H)\/(J.go i H/\∃N:List V->Hp->Prop,(∀ys' H',N ys' H'->∃m',m'<m/\W (i+1) m' ys' H')/\∀x H',J.lB i H x H'->g x σ₀ H' λσ2 H2=>Wk σ₀ σ2 /\
   tc σ2 H2 λb H3=>if b=true then te σ2 H3 λy H4=>H4 D=some (.lst ys)/\ys.length<sizeLine/\N (ys++[y]) (upd H4 D (.lst (ys++[y])))else N ys H3)
theorem Inv.aa9{X:Cx}{pins:List (Addr × Obj)}{σ σ':St}{H:Hp}{s:Shared}(I:Inv X pins σ' H s)(h:Wk σ σ'):Inv X pins σ H s:=I.weak h.1 h.2
theorem Q5{Y:Cx}{elt tg iter:Expr}{ifs:List Expr}{scope:Scope}{pos:Pos}{it D:Addr}{fp:List Addr}{tn:Nat->Heap->Prop}{J:It}{g:TG}{tc:TT}{te:TE}{σ₀:St}{H:Hp}{s:Shared}{Q:Hp->Prop}
  (hc:Y.calm=true) (T:Turn Y.prog Y.w Y.K tg J fp it tn) (hg:PG Y tg g) (hif:mZ Y ifs tc) (he:PE Y elt te)
  (I:Inv Y [] σ₀ H s) (st:tn 0 s.heap) (hf:∀b∈fp,dF Y [] H b) (hw:j_ J g tc te σ₀ D Q H) (hx:Y.xe=λ_ _=>False) :
  codeAny (model Y.prog Y.w) Y.A (.compLoop (.ListComp elt [⟨tg,iter,ifs,0⟩] scope pos) 0 (.ref it) (.ref D) Y.env) (λr s'=>∃H',r = .ok .next/\Inv Y [] σ₀ H' s'/\Q H') s:=by
 obtain⟨W,⟨m0,w0⟩,turn⟩:=hw;have stat:∀{H':Hp},(∀b∈fp,H' b=none)->∀b∈fp,dF Y [] H' b:=λhn b hb=>⟨hn b hb,(hf b hb).2⟩
 refine codeAny_loop rfl (λn s'=>∃i ys H',Inv Y [] σ₀ H' s'/\tn i s'.heap/\(∀b∈fp,H' b=none)/\W i n ys H') ?_ m0 ⟨0,[],H,I,st,λb hb=>(hf b hb).1,w0⟩;rintro n s3 ⟨i,ys,H3,I3,st3,p_,w3⟩;show wpAny _ Y.A ((compTurn (.ListComp elt [⟨tg,iter,ifs,0⟩] scope pos) 0 (.ref it) (.ref D) Y.env).onRaise (λx=>do noteFrame x Y.env;theTreesLotGoes x)) _ _ s3;refine wpAny_noted ?_;rw[compTurn_list];refine ai (nr (ai ?_));have toE:∀{α:Type} {t:Sem α} {P:α->Shared->Prop} {E:Value->Shared->Prop} {s:Shared},wpAny (model Y.prog Y.w) Y.A t P Y.xe s->wpAny (model Y.prog Y.w) Y.A t P E s:=λ{α t P E s} h=>by
  rw[hx]at h;exact eG h (λ_ _ q=>q) λ_ _ q=>q.elim
 rcases turn i n ys H3 w3 with⟨stop,qn⟩|⟨go,N,hN,step⟩
 ·refine aK (T.done Y rfl rfl rfl hc i [] s3 σ₀ H3 _ I3 (stat p_) st3 stop) λr s4 ⟨hr,I4⟩=>?_
  subst hr;exact aI ⟨H3,rfl,I4,qn⟩
 ·refine aK (T.item Y rfl rfl rfl hc i [] s3 σ₀ H3 _ I3 (stat p_) st3 go) λr s4 ⟨u,hr,h4⟩=>?_
  subst hr;refine ai (aK h4 λ_ s5 ⟨x,H5,I5,r5,y5,mG,zL⟩=>?_);have wg:=I5.pinned (stat zL) (T.obj _ _ mG);refine ai (toE (aK (hg _ s5 σ₀ H5 x u _ wg r5 (step x H5 y5)) λ_ s6 ⟨σ6,H6,I6,Pb,q6⟩=>?_));have again:∀{s7:Shared} {σ7:St} {vT:List V} {H7:Hp},Inv Y ([]++qO fp s5.heap) σ7 H7 s7->Wk σ₀ σ7->N vT H7->∃m,m<n/\∃i ys H',Inv Y [] σ₀ H' s7/\tn i s7.heap/\(∀b∈fp,H' b=none)/\W i m ys H':=λ{s7 σ7 vT H7} I7 wk7 n7=>by
   obtain⟨m',hm,w7⟩:=hN vT H7 n7;refine⟨m',hm,i+1,vT,H7,(I7.vP).aa9 wk7,T.keep _ _ _ mG λb hb o e=>(I7.pin (b,o) (gE _ (gE _ (ur hb e)))).1,λb hb=>?_,w7⟩;obtain⟨o,e,d⟩:=T.obj _ _ mG b hb;exact(I7.pin (b,o) (gE _ (gE _ (ur hb e)))).2.1
  refine ai (eG (hif _ s6 σ6 H6 _ I6 q6) (λok s7 ⟨H7,I7,q7⟩=>?_) λ_ _ q=>by rw[hx]at q;exact q.elim);cases ok with
  |false=>exact aI ⟨rfl,again I7 Pb q7⟩
  |true =>
   refine ai (ai (eG (he _ s7 σ6 H7 _ I7 q7) (λv s8 ⟨y,H8,I8,r8,hD,hz,n8⟩=>?_) λ_ _ q=>by rw[hx]at q;exact q.elim));refine ai (eG (gw _ s8 σ6 H8 (.ref D) [y] (.ref D) [v] (λ_ H9=>N (ys++[y]) H9) I8 rfl (.cons r8 .nil) ⟨D,ys,y,rfl,rfl,hD,hz,n8⟩) (λz s9 ⟨_,H9,I9,_,n9⟩=>?_) λ_ _ q=>by rw[hx]at q;exact q.elim);exact aI (aI ⟨rfl,again I9 Pb n9⟩)
def Ot(wi:TI)(no:Nat)(fr:List (Str × Nat))(g:TG)(tc:TT)(te:TE):TE:=λσ H Q=>wi σ H λJ H1=>∀D,H1 D=none->j_ J g tc te (blkσ no fr σ) D (λH'=>Q (.ref D) H') (upd H1 D (.lst []))
section
variable {X:Cx} {elt tg iter:Expr} {ifs:List Expr} {scope:Scope} {pos:Pos} {own:List Str} {fr:List (Str × Nat)} {wi:TI} {g:TG} {tc:TT} {te:TE}
theorem Hn{pins:List (Addr × Obj)}{σ:St}{H2:Hp}{s2:Shared}{it:Addr}{fp:List Addr}{tn:Nat->Heap->Prop}{J:It}{Qd:V->Hp->Prop}{RR:Value->Addr->Result->Shared->Prop}{E:Value->Shared->Prop}(hc:X.calm=true)(B:gP X scope fr)
  (hb:∀(C:Addr) (s₀:Shared) (H₀:Hp) (fp:List Addr),PG (blk X scope (own++fr.map (·.1)) C s₀ H₀ fp) tg g/\mZ (blk X scope (own++fr.map (·.1)) C s₀ H₀ fp) ifs tc/\PE (blk X scope (own++fr.map (·.1)) C s₀ H₀ fp) elt te)
  (I2:Inv X pins σ H2 s2) (T:Turn X.prog X.w X.K tg J fp it tn) (st2:tn 0 s2.heap) (f2:∀b∈fp,dF X pins H2 b)
  (hw:∀D,H2 D=none->j_ J g tc te (blkσ own.length fr σ) D (λH'=>Qd (.ref D) H') (upd H2 D (.lst [])))
  (hR:∀(D C:Addr) (s':Shared) (H':Hp) (m:Str->Option Value),Inv X pins σ H' s'->s'.heap.Ns C m->H' C=none->C≠X.env.locals->X.s₀.heap.objs.size<=C->(∀x c,X.env.cells.lookup x=some c->c≠C)->(∀p∈X.pn++pins,p.1≠C) ->
   Qd (.ref D) H'->RR (.ref D) C (.ok .next) s') :
  wpAny (model X.prog X.w) X.A (newList []) (λacc s₃=>wpAny (model X.prog X.w) X.A (newFunctionEnv scope X.env.globals (cQ X.env.cells scope.names []) [] X.env.qual none .none (some X.env)) (λcenv s₄ =>
   codeAny (model X.prog X.w) X.A (.compStart (.ListComp elt [⟨tg,iter,ifs,0⟩] scope pos) 0 (.ref it) acc {cenv with scope:=relabel scope X.env}) (RR acc cenv.locals) s₄) E s₃) E s2:=by
 refine wZ (wpAny_newFunctionEnv B.qJ (by intro y hy;simp at hy) (λh₁ hns₁ hsb₁=>?_) B.kind);dsimp only at hns₁ hsb₁ ⊢;have hD:H2 s2.heap.objs.size=none:=I2.fresh;have I3:Inv X pins σ (upd H2 s2.heap.objs.size (.lst [])) {s2 with heap:=s2.heap.push {cls:=.type "list", data:=.seq ([]:List Value).toArray},toks:=s2.toks}:=I2.um .nil (by simp);have Kn:∀b∈fp,b<s2.heap.objs.size:=λb hb=>by obtain⟨o,e,_⟩:=T.obj _ _ st2 b hb;exact aQ e
 have f3:∀b∈fp,dF X pins (upd H2 s2.heap.objs.size (.lst [])) b:=λb hb=>⟨by rw[aD (bu (Kn b hb))];exact(f2 b hb).1,(f2 b hb).2⟩
 generalize hs3:({s2 with heap:=s2.heap.push {cls:=.type "list", data:=.seq ([]:List Value).toArray},toks:=s2.toks}:Shared)=s3 at I3;have e3:s3.heap=s2.heap.push {cls:=.type "list", data:=.seq ([]:List Value).toArray}:=by rw[<- hs3]
 have Ko:∀b∈fp,b<s3.heap.objs.size:=λb hb=>by rw[e3,fJ];exact Nat.lt_succ_of_lt (Kn b hb)
 have eC:(s2.heap.push {cls:=.type "list", dict:=none,data:=.seq ([]:List Value).toArray}).objs.size=s3.heap.objs.size:=by rw[e3]
 have old:∀b o,s3.heap.get? b=some o->h₁.get? b=some o:=λb o e=>by
  have hb:b<s3.heap.objs.size:=aQ e;rw[e3]at e;exact hsb₁.extBut b o (by rw[eC];exact bu hb) (aU _ e)
 rw[eC]at hns₁ ⊢;have IY:Inv (blk X scope (own++fr.map (·.1)) s3.heap.objs.size s3 (upd H2 s2.heap.objs.size (.lst [])) fp) [] (blkσ own.length fr σ) (upd H2 s2.heap.objs.size (.lst [])) {s3 with heap:=h₁,toks:=s2.toks+([]:List (Str × Value)).length}:=
  Qw (own:=own) B I3 f3 Ko hns₁ old
 have st3:tn 0 h₁:=T.keep _ _ _ st2 λb hb o e=>old b o (by rw[e3];exact aU _ e)
 have fY:∀b∈fp,dF (blk X scope (own++fr.map (·.1)) s3.heap.objs.size s3 (upd H2 s2.heap.objs.size (.lst [])) fp) [] (upd H2 s2.heap.objs.size (.lst [])) b:=λb hb =>
  ⟨(f3 b hb).1,bu (Ko b hb),(IY.ok.jJ b hb),.inl hb,(IY.ok.lY b hb).2,λp hp=>absurd (show p∈([]:List (Addr × Obj))from hp) (by simp)⟩
 obtain⟨b1,b2,b3⟩:=hb s3.heap.objs.size s3 (upd H2 s2.heap.objs.size (.lst [])) fp;have loop:=Q5 (Y:=blk X scope (own++fr.map (·.1)) s3.heap.objs.size s3 (upd H2 s2.heap.objs.size (.lst [])) fp) (iter:=iter) (scope:=scope) (pos:=pos) hc T b1 b2 b3 IY st3 fY (hw _ hD) rfl;have Kj:codeAny (model X.prog X.w) X.A (.compLoop (.ListComp elt [⟨tg,iter,ifs,0⟩] scope pos) 0 (.ref it) (.ref s2.heap.objs.size) (compEnvC scope (cQ X.env.cells scope.names []) s3.heap.objs.size X.env)) (RR (.ref s2.heap.objs.size) s3.heap.objs.size) {s3 with heap:=h₁,toks:=s2.toks+([]:List (Str × Value)).length}:=by
  refine lP loop λr s' ⟨H',hr,J',q⟩=>?_
  subst hr;obtain⟨m',hn',_⟩:=id J'.loc;refine hR s2.heap.objs.size s3.heap.objs.size s' H' m' (Qu I3 f3 J') hn' J'.free (eB I3.lt) I3.sz (λx c e=>?_) (λp hp z=>?_) q
  ·obtain⟨v,z⟩:=I3.cell x c e
   exact bu z.lt
  ·exact absurd (aQ (I3.pin p hp).1) (by rw[z];exact fu _)
 have es:({s2 with heap:=h₁,toks:=s2.toks+([]:List (Str × Value)).length}:Shared) = {s3 with heap:=h₁,toks:=s2.toks+([]:List (Str × Value)).length}:=by rw[<- hs3]
 rw[es];exact codeAny_compStart_list Kj (T.self X.A 0 _ _ _ st3 Kj)
theorem dc(hc:X.calm=true)(B:gP X scope fr)(hi:PI X tg iter wi)
  (hb:∀(C:Addr) (s₀:Shared) (H₀:Hp) (fp:List Addr),PG (blk X scope (own++fr.map (·.1)) C s₀ H₀ fp) tg g/\mZ (blk X scope (own++fr.map (·.1)) C s₀ H₀ fp) ifs tc/\PE (blk X scope (own++fr.map (·.1)) C s₀ H₀ fp) elt te)
  (hs:∀x,foldedSetIterable iter X.env x=pure x:=by intro _;rfl):PE X (.ListComp elt [⟨tg,iter,ifs,0⟩] scope pos) (Ot wi own.length fr g tc te):=by
 intro pins s σ H Q I h;rw[eval_ListComp];refine wpAny_comprehension_free (use:=none) rfl hs (tE (B.cell I.ok)) B.kind B.names (aK (hi pins s σ H _ I h) λv s1 h1=>aK h1 λitv s2 h2=>?_);obtain⟨it,fp,tn,J,H2,e,I2,T,st2,f2,hD⟩:=h2;subst e;refine Hn (own:=own) (Qd:=Q) (RR:=λacc C=>compPost (model X.prog X.w) X.A X.xe none (EP X pins σ Q) acc C) hc B hb I2 T st2 f2 hD ?_;intro D C s' H' m I' hn hC c1 c2 c3 c4 q;exact⟨m,hn,λh' sb=>⟨.ref D,H',I'.turned (t':=s'.toks) (λb o hb e=>sb.extBut b o hb e) hC (bJ c1).symm (.inr c2) c3 c4,rfl,q⟩⟩
theorem oM{i:Nat}{x:Str}{py spos:Pos}(hN:X.N.Nodup)(hx:X.N[i]? = some x)(hl:X.env.scope.names.lookup x=some .local)(hc:X.calm=true)(B:gP X scope fr)(hi:PI X tg iter wi)
  (hb:∀(C:Addr) (s₀:Shared) (H₀:Hp) (fp:List Addr),PG (blk X scope (own++fr.map (·.1)) C s₀ H₀ fp) tg g/\mZ (blk X scope (own++fr.map (·.1)) C s₀ H₀ fp) ifs tc/\PE (blk X scope (own++fr.map (·.1)) C s₀ H₀ fp) elt te)
  (hsw:swapsWith (.ListComp elt [⟨tg,iter,ifs,0⟩] scope pos) (some (.Name x py)) spos.line X.env=pure true:=by rfl)
  (hs:∀x,foldedSetIterable iter X.env x=pure x:=by intro _;rfl):PS X (.Assign [.Name x py] (.ListComp elt [⟨tg,iter,ifs,0⟩] scope pos) spos) (Et (Ot wi own.length fr g tc te) (cD i)):=by
 intro pins s σ H D0 I h;rw[exec_Assign_Name_used _ _ _ _ hsw];refine ai (nr (ai ?_));show wpAny _ X.A (do let _ <- comprehension (.ListComp elt [⟨tg,iter,ifs,0⟩] scope pos) scope X.env _ (newList []) false (eval iter X.env) (some (assign (.Name x py) X.env))) _ _ s;refine ai (eG (wpAny_comprehension_free (use:=some (assign (.Name x py) X.env)) (Q:=λ_ s'=>SP X pins D0 .next s') rfl hs (tE (B.cell I.ok)) B.kind B.names
  (aK (hi pins s σ H _ I h) λv s1 h1=>aK h1 λitv s2 h2=>?_)) (λ_ s' hq=>aI (aI hq)) λ_ _ e=>e)
 obtain⟨it,fp,tn,J,H2,e,I2,T,st2,f2,hD⟩:=h2;subst e;refine Hn (own:=own) (Qd:=λv H'=>cD i v σ H' D0.nx) (RR:=λacc C=>compPost (model X.prog X.w) X.A X.xe (some (assign (.Name x py) X.env)) (λ_ s'=>SP X pins D0 .next s') acc C) hc B hb I2 T st2 f2 hD ?_;intro D C s' H' m I' hn hC c1 c2 c3 c4 q;show wpAny _ X.A (assign (.Name x py) X.env (.ref D)) _ _ _;refine wpAny_assign_Name (Ep I' hN hx (.inl hl) (v:=.ref D) rfl (λs'' Pz ⟨a,sb,ha⟩=>?_) (.inr hl));have Tb:C≠a:=by
  rcases ha with rfl|ha
  ·exact c1
  ·exact λe=>c3 x a ha e.symm
 refine⟨m,hn.sameBut sb Tb,λh' Z0=>?_⟩;exact⟨_,H',Pz.turned (t':=s''.toks) (λb o hb e=>Z0.extBut b o hb e) hC c1 (.inr c2) c3 c4,q⟩
end
def bf(b:Bool)(h:Heap)(it a:Addr)(i:Nat):Prop:=match b with
 |true=>h.IsListIter it a i
 |false=>h.IsTupleIter it a i
def bA(b:Bool)(h:Heap)(a:Addr)(items:Array Value):Prop:=match b with
 |true=>h.IsList a items
 |false=>h.IsTuple a items
theorem bf.at{b:Bool}{h h':Heap}{it a:Addr}{i:Nat}(x:bf b h it a i)(k:∀o,h.get? it=some o->h'.get? it=some o):bf b h' it a i:=by
 cases b with
 |true=>exact Heap.IsListIter.at x k
 |false=>exact Heap.IsTupleIter.at x k
theorem bA.at{b:Bool}{h h':Heap}{a:Addr}{items:Array Value}(x:bA b h a items)(k:∀o,h.get? a=some o->h'.get? a=some o):bA b h' a items:=by
 cases b with
 |true=>exact Heap.IsList.at x k
 |false=>obtain⟨o,e,r⟩:=x;exact⟨o,k o e,r⟩
theorem bf.obj{b:Bool}{h:Heap}{it a:Addr}{i:Nat}(x:bf b h it a i):∃o,h.get? it=some o/\∀v,o.data≠.cell v:=by
 cases b with
 |true=>obtain⟨o,e,c,d⟩:=x;exact⟨o,e,λv z=>by rw[d]at z;cases z⟩
 |false=>obtain⟨o,e,c,d⟩:=x;exact⟨o,e,λv z=>by rw[d]at z;cases z⟩
theorem bA.lt{b:Bool}{h:Heap}{a:Addr}{items:Array Value}(x:bA b h a items):a<h.objs.size:=by
 cases b with
 |true=>obtain⟨o,e,_⟩:=x;exact aQ e
 |false=>obtain⟨o,e,_⟩:=x;exact aQ e
section
variable {prog:Program} {w:World} {A:Around} {E:Value->Shared->Prop} {s:Shared}
theorem Ww{it l:Addr}{i:Nat}{items:Array Value}{x:Value}{Q:Value->Shared->Prop}(hit:s.heap.IsTupleIter it l i)(hl:s.heap.IsTuple l items)(hx:items[i]? = some x)
  (hQ:∀h',h'.IsTupleIter it l (i+1)->Heap.SameBut it s.heap h'->Q x {s with heap:=h'}):wpAny (model prog w) A (Builtin.SmallTypes.nextOf (.ref it)) Q E s:=by
 obtain⟨o,ho,hc,hd⟩:=id hit;obtain⟨ol,hol,_,nl,hdl⟩:=hl;unfold Builtin.SmallTypes.nextOf;refine ai (pK (name:=Str.ofString "__next__") hit.typeIs wO (ni wO hit.typeIs P8 ?_ (P6 _)));show wpAny _ _ (field (.ref it) 0 >>= _) _ _ s;refine ai (dX ho hd (x:=.ref l) rfl ?_);show wpAny _ _ (if(Value.ref l == Value.none)=true then _ else _) _ _ s;rw[if_neg (show ¬ ((Value.ref l == Value.none)=true)from Bool.false_ne_true)];show wpAny _ _ (field (.ref it) 1 >>= _) _ _ s;refine ai (dX ho hd (x:=.int i 0) rfl ?_);show wpAny _ _ (seqItems? (.ref l) >>= _) _ _ s;refine ai (jd hol hdl ?_);simp only[dg,hx];refine ai (sJ ho hd (by simp) (aI ⟨x,rfl,aI (hQ _ ?_ (Heap.SameBut.update ..))⟩));exact⟨_,ik _ ho (sC (m9 hd _)),(Obj.cls_mapFields ..).trans hc,by rw[m9 hd];simp[rawInt]⟩
theorem Wx{it l:Addr}{i:Nat}{items:Array Value}{Q:Value->Shared->Prop}(hh:A.handled=none)(hit:s.heap.IsTupleIter it l i)(hl:s.heap.IsTuple l items)(hx:items[i]? = none)
  (hE:∀h' e,Heap.ExtBut it s.heap h'->(∃o,h'.get? e=some o/\o.cls = .type "StopIteration")->E (.ref e) {s with heap:=h'}):wpAny (model prog w) A (Builtin.SmallTypes.nextOf (.ref it)) Q E s:=by
 obtain⟨o,ho,hc,hd⟩:=id hit;obtain⟨ol,hol,_,nl,hdl⟩:=hl;unfold Builtin.SmallTypes.nextOf;refine ai (pK (name:=Str.ofString "__next__") hit.typeIs wO (ni wO hit.typeIs P8 ?_ (P6 _)));show wpAny _ _ (field (.ref it) 0 >>= _) _ _ s;refine ai (dX ho hd (x:=.ref l) rfl ?_);show wpAny _ _ (if(Value.ref l == Value.none)=true then _ else _) _ _ s;rw[if_neg (show ¬ ((Value.ref l == Value.none)=true)from Bool.false_ne_true)];show wpAny _ _ (field (.ref it) 1 >>= _) _ _ s;refine ai (dX ho hd (x:=.int i 0) rfl ?_);show wpAny _ _ (seqItems? (.ref l) >>= _) _ _ s;refine ai (jd hol hdl ?_);simp only[dg,hx];refine ai (pM (ai (sJ ho hd (by simp) ?_)));show wpAny _ _ (newExc (.type "StopIteration") [] >>= _) _ _ _;refine ai ?_;simp only[newExc,newTuple];refine ai (wZ ?_ (by size_fits));refine ai (m:=firstArgMember _ _) (wpAny_of_eq (a:=Value.none) (by first|rfl | (simp only[firstArgMember];rfl)) ?_);refine wZ ?_ (by size_fits);simp only[raiseNew];refine ai (wpAny_handled ?_)
 first|rw[show A.in1.handled=none from hh] | rw[hh]
 refine ai (aI (wpAny_throw ?_));exact hE _ _ (((Heap.SameBut.update ..).extBut.push _).push _) ⟨_,cn _ rfl,rfl⟩
theorem mx{b:Bool}{it l:Addr}{i:Nat}{items:Array Value}{x:Value}{Q:Value->Shared->Prop}(hit:bf b s.heap it l i)(hl:bA b s.heap l items)(hx:items[i]? = some x)
  (hQ:∀h',bf b h' it l (i+1)->Heap.SameBut it s.heap h'->Q x {s with heap:=h'}):wpAny (model prog w) A (Builtin.SmallTypes.nextOf (.ref it)) Q E s:=by
 cases b with
 |true=>exact wpAny_nextOf_list_item hit hl hx hQ
 |false=>exact Ww hit hl hx hQ
theorem qF{b:Bool}{it l:Addr}{i:Nat}{items:Array Value}{Q:Value->Shared->Prop}(hh:A.handled=none)(hit:bf b s.heap it l i)(hl:bA b s.heap l items)(hx:items[i]? = none)
  (hE:∀h' e,Heap.ExtBut it s.heap h'->(∃o,h'.get? e=some o/\o.cls = .type "StopIteration")->E (.ref e) {s with heap:=h'}):wpAny (model prog w) A (Builtin.SmallTypes.nextOf (.ref it)) Q E s:=by
 cases b with
 |true=>exact wpAny_nextOf_list_end hh hit hl hx hE
 |false=>exact Wx hh hit hl hx hE
end
abbrev dR (h:Heap) (z TI TO:Addr) (f0:Value) (b:Bool):Prop:=
 h.get? z=some {cls:=.type "zip", dict:=none,data:=.fields #[f0,.bool b,.bool false,.ref TI,.ref TO],slots:=#[]}
section
variable {prog:Program} {w:World} {A:Around} {E:Value->Shared->Prop} {s:Shared} {c1 c2:Bool} {z TI TO i1 i2 l1 l2:Addr} {k1 k2:Nat} {xs ys:Array Value} {x y a b:Value}
theorem abr{f0:Value}{bb:Bool}{Q:Value->Shared->Prop}(D:ZipApart z TI TO i1 i2 l1 l2)(hz:dR s.heap z TI TO f0 bb)(hfree:∀{A':Around} {E':Value->Shared->Prop} {Q':Bool->Shared->Prop},Q' true s->wpAny (model prog w) A' (Builtin.SmallTypes.ownedTupleIsFree (.ref z)) Q' E' s)(hTI:IsPair s.heap TI (.ref i1) (.ref i2))(hTO:IsPair s.heap TO a b)(h1:bf c1 s.heap i1 l1 k1)(h2:bf c2 s.heap i2 l2 k2)(hl1:bA c1 s.heap l1 xs)(hl2:bA c2 s.heap l2 ys)(hx:xs[k1]? = some x)(hy:ys[k2]? = some y)(hQ:∀h',IsZip h' z TI TO (rawInt s.heap.objs.size)->IsPair h' TO x y->bf c1 h' i1 l1 (k1+1)->bf c2 h' i2 l2 (k2+1)->IsPair h' s.heap.objs.size x y->h'.objs.size=s.heap.objs.size+1 ->
   (∀c o,c≠z->c≠TO->c≠i1->c≠i2->s.heap.get? c=some o->h'.get? c=some o)->Q (.ref s.heap.objs.size) {s with heap:=h'}) :
  wpAny (model prog w) A (Builtin.«zip.__next__» ⟨[.ref z],[]⟩) (λfin s'=>∃v,fin = .done (.ret v)/\Q v s') E s:=by
 show wpAny _ _ (field (.ref z) 2 >>= _) _ _ _;refine ai (dX hz rfl (x:=.bool false) rfl ?_);show wpAny _ _ (field (.ref z) 3 >>= _) _ _ _;refine ai (dX hz rfl (x:=.ref TI) rfl ?_);refine ai (jd hTI rfl ?_);show wpAny _ _ (Builtin.SmallTypes.ownedTupleIsFree (.ref z) >>= _) _ _ _;refine ai (hfree ?_);simp only[jO];refine ai (pM ?_);refine ai (dX hz rfl (x:=.ref TO) rfl ?_);refine ai (nq hz (by simp) λg1 hz1 e1=>?_)
 replace hz1:dR g1 z TI TO .ellipsis bb:=hz1
 refine ai ?_;simp only[FV,FW,pA,rW];refine ai (ai (w5 ?_));show wpAny _ _ (Builtin.SmallTypes.nextOf (.ref i1) >>= _) _ _ _;refine ai (mx (h1.at λo q=>e1.extBut _ o D.i1z q) (hl1.at λo q=>e1.extBut _ o D.l1z q) hx λg2 h1' e2=>aI ?_);have qj:IsPair g2 TO a b:=e2.extBut _ _ D.TOi1 (e1.extBut _ _ D.TOz hTO);refine ai (jd qj rfl ?_);refine ai (GD qj λg3 tU e3=>?_)
 replace tU:IsPair g3 TO x b:=tU
 refine ai (sH (aI ?_));refine ai (ai (w5 ?_));show wpAny _ _ (Builtin.SmallTypes.nextOf (.ref i2) >>= _) _ _ _;have mI:∀o,s.heap.get? i2=some o->g3.get? i2=some o:=λo q=>e3.extBut _ o D.TOi2.symm (e2.extBut _ o D.i12.symm (e1.extBut _ o D.i2z q))
 have mJ:∀o,s.heap.get? l2=some o->g3.get? l2=some o:=λo q=>e3.extBut _ o D.l2TO (e2.extBut _ o D.l2i1 (e1.extBut _ o D.l2z q))
 refine ai (mx (h2.at mI) (hl2.at mJ) hy λg4 h2' e4=>aI ?_);have IW:IsPair g4 TO x b:=e4.extBut _ _ D.TOi2 tU;refine ai (jd IW rfl ?_);refine ai (GD IW λg5 tV e5=>?_)
 replace tV:IsPair g5 TO x y:=tV
 refine ai (sH (aI (aI ?_)));refine ai (jd tV rfl ?_);refine ai (wpAny_newTuple ?_);have sz:g5.objs.size=s.heap.objs.size:=by rw[e5.1,e4.1,e3.1,e2.1,e1.1]
 have Jv:dR g5 z TI TO .ellipsis bb:=e5.extBut _ _ D.TOz.symm (e4.extBut _ _ D.i2z.symm (e3.extBut _ _ D.TOz.symm (e2.extBut _ _ D.i1z.symm hz1)));have k5:∀c o,c≠z->c≠TO->c≠i1->c≠i2->s.heap.get? c=some o->g5.get? c=some o:=λc o q1 q2 q3 q4 q =>
  e5.extBut _ _ q2 (e4.extBut _ _ q4 (e3.extBut _ _ q2 (e2.extBut _ _ q3 (e1.extBut _ _ q1 q))))
 have h15:bf c1 g5 i1 l1 (k1+1):=h1'.at λo q=>e5.extBut _ o D.TOi1.symm (e4.extBut _ o D.i12 (e3.extBut _ o D.TOi1.symm q))
 have Ta:bf c2 g5 i2 l2 (k2+1):=h2'.at λo q=>e5.extBut _ o D.TOi2.symm q
 have lC:z<g5.objs.size:=aQ Jv;show wpAny _ _ (Builtin.SmallTypes.ownedTupleHandOut (.ref z) (.ref g5.objs.size) >>= _) _ _ _;refine ai ?_;unfold Builtin.SmallTypes.ownedTupleHandOut;have UT:dR (g5.push {cls:=.type "tuple", data:=.seq #[x,y]}) z TI TO .ellipsis bb:=aU _ Jv;refine ai (nq UT (by simp) λg7 Ap e7=>?_)
 replace Ap:dR g7 z TI TO (rawInt g5.objs.size) bb:=Ap
 refine nq Ap (by simp) λg8 hz8 e8=>?_
 replace hz8:IsZip g8 z TI TO (rawInt g5.objs.size):=hz8
 have up:∀c o,c≠z->g5.get? c=some o->g8.get? c=some o:=λc o q1 q=>e8.extBut _ _ q1 (e7.extBut _ _ q1 (aU _ q))
 have hT8:IsPair g8 g5.objs.size x y:=e8.extBut _ _ (eB lC) (e7.extBut _ _ (eB lC) (cn _ rfl));have z8:g8.objs.size=g5.objs.size+1:=by rw[e8.1,e7.1,fJ]
 rw[sz]at hz8 hT8 z8;refine aI ⟨_,rfl,?_⟩;show Q (.ref g5.objs.size) _;rw[sz];exact hQ g8 hz8 (up _ _ D.TOz tV) (h15.at λo q=>up _ o D.i1z q) (Ta.at λo q=>up _ o D.i2z q) hT8 z8 λc o q1 q2 q3 q4 q=>up c o q1 (k5 c o q1 q2 q3 q4 q)
theorem abz{f0:Value}{bb:Bool}{Q:Fin->Shared->Prop}(hh:A.handled=none)(D:ZipApart z TI TO i1 i2 l1 l2)(hz:dR s.heap z TI TO f0 bb)(hfree:∀{A':Around} {E':Value->Shared->Prop} {Q':Bool->Shared->Prop},Q' true s->wpAny (model prog w) A' (Builtin.SmallTypes.ownedTupleIsFree (.ref z)) Q' E' s)(hTI:IsPair s.heap TI (.ref i1) (.ref i2))(hTO:IsPair s.heap TO a b)(h1:bf c1 s.heap i1 l1 k1)(h2:bf c2 s.heap i2 l2 k2)(hl1:bA c1 s.heap l1 xs)(hl2:bA c2 s.heap l2 ys)(hend:xs[k1]? = none\/ys[k2]? = none)
  (hE:∀h' e,(∀c o,c≠z->c≠TO->c≠i1->c≠i2->s.heap.get? c=some o->h'.get? c=some o)->(∃o,h'.get? e=some o/\o.cls = .type "StopIteration")->E (.ref e) {s with heap:=h'}) :
  wpAny (model prog w) A (Builtin.«zip.__next__» ⟨[.ref z],[]⟩) Q E s:=by
 show wpAny _ _ (field (.ref z) 2 >>= _) _ _ _;refine ai (dX hz rfl (x:=.bool false) rfl ?_);show wpAny _ _ (field (.ref z) 3 >>= _) _ _ _;refine ai (dX hz rfl (x:=.ref TI) rfl ?_);refine ai (jd hTI rfl ?_);show wpAny _ _ (Builtin.SmallTypes.ownedTupleIsFree (.ref z) >>= _) _ _ _;refine ai (hfree ?_);simp only[jO];refine ai (pM ?_);refine ai (dX hz rfl (x:=.ref TO) rfl ?_);refine ai (nq hz (by simp) λg1 hz1 e1=>?_)
 replace hz1:dR g1 z TI TO .ellipsis bb:=hz1
 refine ai ?_;simp only[FV,FW,pA,rW];refine ai (ai (w5 ?_));show wpAny _ _ (Builtin.SmallTypes.nextOf (.ref i1) >>= _) _ _ _;have u1:∀o,s.heap.get? i1=some o->g1.get? i1=some o:=λo q=>e1.extBut _ o D.i1z q
 have u2:∀o,s.heap.get? l1=some o->g1.get? l1=some o:=λo q=>e1.extBut _ o D.l1z q
 cases hx:xs[k1]? with
 |none =>
  refine ai (qF hh (h1.at u1) (hl1.at u2) hx λg2 e e2 he=>?_);obtain⟨oe,hoe,hce⟩:=he;have hz2:dR g2 z TI TO .ellipsis bb:=e2 _ _ D.i1z.symm hz1;have hez:e≠z:=λq=>by subst q;rw[hz2]at hoe;cases hoe;simp at hce
  exact nq hz2 (by simp) λg3 _ e3=>hE g3 e (λc o q1 _ q3 _ q=>e3.extBut _ _ q1 (e2 _ _ q3 (e1.extBut _ _ q1 q))) ⟨oe,e3.extBut _ _ hez hoe,hce⟩
 |some x =>
  have hy:ys[k2]? = none:=by rcases hend with h|h;rw[hx]at h;cases h;exact h
  refine ai (mx (h1.at u1) (hl1.at u2) hx λg2 h1' e2=>aI ?_);have qj:IsPair g2 TO a b:=e2.extBut _ _ D.TOi1 (e1.extBut _ _ D.TOz hTO);refine ai (jd qj rfl ?_);refine ai (GD qj λg3 tU e3=>?_);refine ai (sH (aI ?_));refine ai (ai (w5 ?_));show wpAny _ _ (Builtin.SmallTypes.nextOf (.ref i2) >>= _) _ _ _;have mI:∀o,s.heap.get? i2=some o->g3.get? i2=some o:=λo q=>e3.extBut _ o D.TOi2.symm (e2.extBut _ o D.i12.symm (e1.extBut _ o D.i2z q))
  have mJ:∀o,s.heap.get? l2=some o->g3.get? l2=some o:=λo q=>e3.extBut _ o D.l2TO (e2.extBut _ o D.l2i1 (e1.extBut _ o D.l2z q))
  refine ai (qF hh (h2.at mI) (hl2.at mJ) hy λg4 e e4 he=>?_);obtain⟨oe,hoe,hce⟩:=he;have Ju:dR g4 z TI TO .ellipsis bb:=e4 _ _ D.i2z.symm (e3.extBut _ _ D.TOz.symm (e2.extBut _ _ D.i1z.symm hz1));have hez:e≠z:=λq=>by subst q;rw[Ju]at hoe;cases hoe;simp at hce
  exact nq Ju (by simp) λg5 _ e5=>hE g5 e (λc o q1 q2 q3 q4 q=>e5.extBut _ _ q1 (e4 _ _ q4 (e3.extBut _ _ q2 (e2.extBut _ _ q3 (e1.extBut _ _ q1 q))))) ⟨oe,e5.extBut _ _ hez hoe,hce⟩
theorem abx{f0:Value}{bb:Bool}{Q:Option Value->Shared->Prop}(D:ZipApart z TI TO i1 i2 l1 l2)(hz:dR s.heap z TI TO f0 bb)(hfree:∀{A':Around} {E':Value->Shared->Prop} {Q':Bool->Shared->Prop},Q' true s->wpAny (model prog w) A' (Builtin.SmallTypes.ownedTupleIsFree (.ref z)) Q' E' s)(hTI:IsPair s.heap TI (.ref i1) (.ref i2))(hTO:IsPair s.heap TO a b)(h1:bf c1 s.heap i1 l1 k1)(h2:bf c2 s.heap i2 l2 k2)(hl1:bA c1 s.heap l1 xs)(hl2:bA c2 s.heap l2 ys)(hx:xs[k1]? = some x)(hy:ys[k2]? = some y)(hQ:∀h',IsZip h' z TI TO (rawInt s.heap.objs.size)->IsPair h' TO x y->bf c1 h' i1 l1 (k1+1)->bf c2 h' i2 l2 (k2+1)->IsPair h' s.heap.objs.size x y->h'.objs.size=s.heap.objs.size+1 ->
   (∀c o,c≠z->c≠TO->c≠i1->c≠i2->s.heap.get? c=some o->h'.get? c=some o)->Q (some (.ref s.heap.objs.size)) {s with heap:=h'}) :
  wpAny (model prog w) A (pyNext (.ref z)) Q E s:=by
 have hT:s.TypeIs (.ref z) "zip" :=⟨_,hz,rfl⟩;unfold pyNext;exact ai (nh (pK (name:=Str.ofString "__next__") hT lN (ni lN hT wM
  (abr D hz hfree hTI hTO h1 h2 hl1 hl2 hx hy λh' a1 a2 a3 a4 a5 a6 a7=>aI (hQ h' a1 a2 a3 a4 a5 a6 a7)) (wL _))))
theorem abp{f0:Value}{bb:Bool}{Q:Option Value->Shared->Prop}(hh:A.handled=none)(D:ZipApart z TI TO i1 i2 l1 l2)(hz:dR s.heap z TI TO f0 bb)(hfree:∀{A':Around} {E':Value->Shared->Prop} {Q':Bool->Shared->Prop},Q' true s->wpAny (model prog w) A' (Builtin.SmallTypes.ownedTupleIsFree (.ref z)) Q' E' s)(hTI:IsPair s.heap TI (.ref i1) (.ref i2))(hTO:IsPair s.heap TO a b)(h1:bf c1 s.heap i1 l1 k1)(h2:bf c2 s.heap i2 l2 k2)(hl1:bA c1 s.heap l1 xs)(hl2:bA c2 s.heap l2 ys)(hend:xs[k1]? = none\/ys[k2]? = none)
  (hQ:∀h',(∀c o,c≠z->c≠TO->c≠i1->c≠i2->s.heap.get? c=some o->h'.get? c=some o)->Q none {s with heap:=h'}):wpAny (model prog w) A (pyNext (.ref z)) Q E s:=by
 have hT:s.TypeIs (.ref z) "zip" :=⟨_,hz,rfl⟩;unfold pyNext;refine ai (nh (pK (name:=Str.ofString "__next__") hT lN (ni lN hT wM (abz hh D hz hfree hTI hTO h1 h2 hl1 hl2 hend λh' e hk he=>?_) (wL _))));obtain⟨o,ho,hc⟩:=he;refine ai (wpAny_isInstance (T:= "StopIteration") (b:=true) ⟨o,ho,hc⟩ isSubtype_stop ?_);exact aI (hQ _ hk)
theorem Ih(hz:IsZip s.heap z TI TO .none){A':Around}{E':Value->Shared->Prop}{Q':Bool->Shared->Prop}(h:Q' true s):wpAny (model prog w) A' (Builtin.SmallTypes.ownedTupleIsFree (.ref z)) Q' E' s:=by
 unfold Builtin.SmallTypes.ownedTupleIsFree;exact ai (dX hz rfl (x:=.none) rfl (aI h))
theorem Pl{Q:Option Value->Shared->Prop}(D:ZipApart z TI TO i1 i2 l1 l2)(hz:IsZip s.heap z TI TO .none)(hTI:IsPair s.heap TI (.ref i1) (.ref i2))(hTO:IsPair s.heap TO a b)(h1:bf c1 s.heap i1 l1 k1)(h2:bf c2 s.heap i2 l2 k2)(hl1:bA c1 s.heap l1 xs)(hl2:bA c2 s.heap l2 ys)(hx:xs[k1]? = some x)(hy:ys[k2]? = some y)(hQ:∀h',IsZip h' z TI TO (rawInt s.heap.objs.size)->IsPair h' TO x y->bf c1 h' i1 l1 (k1+1)->bf c2 h' i2 l2 (k2+1)->IsPair h' s.heap.objs.size x y->h'.objs.size=s.heap.objs.size+1 ->
   (∀c o,c≠z->c≠TO->c≠i1->c≠i2->s.heap.get? c=some o->h'.get? c=some o)->Q (some (.ref s.heap.objs.size)) {s with heap:=h'}) :
  wpAny (model prog w) A (pyNext (.ref z)) Q E s:=abx D hz (Ih hz) hTI hTO h1 h2 hl1 hl2 hx hy hQ
theorem Pk{Q:Option Value->Shared->Prop}(hh:A.handled=none)(D:ZipApart z TI TO i1 i2 l1 l2)(hz:IsZip s.heap z TI TO .none)(hTI:IsPair s.heap TI (.ref i1) (.ref i2))(hTO:IsPair s.heap TO a b)(h1:bf c1 s.heap i1 l1 k1)(h2:bf c2 s.heap i2 l2 k2)(hl1:bA c1 s.heap l1 xs)(hl2:bA c2 s.heap l2 ys)(hend:xs[k1]? = none\/ys[k2]? = none)
  (hQ:∀h',(∀c o,c≠z->c≠TO->c≠i1->c≠i2->s.heap.get? c=some o->h'.get? c=some o)->Q none {s with heap:=h'}):wpAny (model prog w) A (pyNext (.ref z)) Q E s:=abp hh D hz (Ih hz) hTI hTO h1 h2 hl1 hl2 hend hQ
end
def Sq(b:Bool)(K:W.Frag)(H:Hp)(a:Addr)(xs:List V):Prop:=match b with
 |true=>ah K H a xs
 |false=>aF K H a xs
section
variable {X:Cx} {pins:List (Addr × Obj)} {σ:St} {H:Hp} {s:Shared} {a:Addr} {xs ys:List V} {c:Bool}
theorem Inv.sq(I:Inv X pins σ H s)(h:Sq c X.K H a xs):∃its:List Value,Vals xs its/\bA c s.heap a its.toArray/\xs.length<=sizeLine:=by
 cases c with
 |true=>obtain⟨its,r,p,z⟩:=I.list h;exact⟨its,r,p.isList,z⟩
 |false=>obtain⟨its,r,p,z⟩:=I.tuple h;exact⟨its,r,p,z⟩
theorem Inv.En(I:Inv X pins σ H s)(h:Sq c X.K H a xs)(h':Sq c X.K H a ys):xs=ys:=by
 cases c with
 |true=>exact I.Kd h h'
 |false=>exact I.Ex h h'
theorem Inv.eW(I:Inv X pins σ H s)(h:Sq c X.K H a xs){b:Addr}(f:dF X pins H b):a≠b:=by
 intro e;subst e;have base:∀o,X.K.lookup a=some o->False:=λo q=>by
  have e1:=I.ok.mod.mq a o q
  rcases f.2.2.2.1 with z|z
  ·exact I.ok.jr a o e1 z
  ·exact absurd (c9 (aQ e1) (b_ I.ok.fM z)) (fu _)
 cases c with
 |true =>
  rcases h with(h|⟨o,h⟩)|⟨o,_,_,h,_⟩
  ·rw[f.1]at h;cases h
  ·rw[f.1]at h;cases h
  ·exact base o h
 |false =>
  rcases h with(h|⟨o,h⟩)|⟨o,_,_,h,_⟩
  ·rw[f.1]at h;cases h
  ·rw[f.1]at h;cases h
  ·exact base o h
theorem Inv.O4{h':Heap}{t':Nat}{ch:List Addr}{T:Addr}{o:HO}(I:Inv X pins σ H s)(hch:∀b∈ch,dF X pins H b)
  (k:∀b u,b ∉ ch->s.heap.get? b=some u->h'.get? b=some u) (hT:s.heap.objs.size<=T) (new:bw X.prog X.w (upd H T o) h' T o):Inv X pins σ (upd H T o) {s with heap:=h',toks:=t'}:=by
 have oh:H T=none:=I.hok.fresh hT;have qK:∀b u,H b=some u->b ∉ ch:=λb u e z=>by rw[(hch b z).1]at e;cases e
 have hb:∀b u,s.heap.get? b=some u->b≠T:=λb u e=>bu (c9 (aQ e) hT)
 refine I.step (g':=s.gens) (d':=s.drawn) (ch:=ch) (λb hb=>⟨(hch b hb).2.2.2.1,(hch b hb).2.1,(hch b hb).2.2.2.2.1,(hch b hb).2.2.2.2.2⟩) (λb u _ _ hc e _=>k b u hc e) (λb u _ _ hc e _=>⟨u.slots,k b u hc e⟩)
  (λb u _ e n=>by rw[aD (hb b u e)];exact n) (λb u hc e=>⟨u,k b u hc e⟩) (λb ys e=>by rw[aD (cV e oh)];exact e) (λb u ys e=>by rw[aD (cV e oh)];exact e)
  (λb ps e=>⟨#[],by rw[aD (cV e oh),e];simp⟩) (λm hm=>?_) (λb u e=>?_) I.bare
 ·obtain⟨o',es,ep,ho,r⟩:=hm
  exact⟨o',es,ep,k _ o' (λz=>(hch _ z).2.1 rfl) ho,r⟩
 ·by_cases hbT:b=T
  ·subst hbT;rw[ao]at e;cases e;exact new
  ·rw[aD hbT]at e
   refine(I.hok b u e).stay (λc v hc q=>k c v ?_ q) (λc q=>by rw[aD (cV q oh)];exact q) (λc ys q=>by rw[aD (cV q oh)];exact q) λc ob u q=>by rw[aD (cV q oh)];exact q
   rcases hc with z|z
   ·rw[z];exact qK b u e
   ·exact qK c _ z
theorem Inv.O2{h':Heap}{t':Nat}{ch:List Addr}(I:Inv X pins σ H s)(hch:∀b∈ch,dF X pins H b)
  (k:∀b u,b ∉ ch->s.heap.get? b=some u->h'.get? b=some u):Inv X pins σ H {s with heap:=h',toks:=t'}:=by
 have qK:∀b u,H b=some u->b ∉ ch:=λb u e z=>by rw[(hch b z).1]at e;cases e
 refine I.step (g':=s.gens) (d':=s.drawn) (ch:=ch) (λb hb=>⟨(hch b hb).2.2.2.1,(hch b hb).2.1,(hch b hb).2.2.2.2.1,(hch b hb).2.2.2.2.2⟩) (λb u _ _ hc e _=>k b u hc e) (λb u _ _ hc e _=>⟨u.slots,k b u hc e⟩)
  (λb u _ e n=>n) (λb u hc e=>⟨u,k b u hc e⟩) (λb ys e=>e) (λb u ys e=>e) (λb ps e=>⟨#[],by rw[e];simp⟩) (λm hm=>?_) (λb u e=>?_) I.bare
 ·obtain⟨o',es,ep,ho,r⟩:=hm
  exact⟨o',es,ep,k _ o' (λz=>(hch _ z).2.1 rfl) ho,r⟩
 ·refine(I.hok b u e).stay (λc v hc q=>k c v ?_ q) (λc q=>q) (λc ys q=>q) λc ob u q=>q
  rcases hc with z|z
  ·rw[z];exact qK b u e
  ·exact qK c _ z
end
def wm(K:W.Frag)(c1 c2:Bool)(l1 l2:Addr):It:=
 ⟨λi H=>∃xs ys x y,Sq c1 K H l1 xs/\Sq c2 K H l2 ys/\xs[i]? = some x/\ys[i]? = some y,
   λi H v H'=>∃T x y,v = .ref T/\H T=none/\H'=upd H T (.tup [x,y])/\(∀xs,Sq c1 K H l1 xs->xs[i]? = some x)/\∀ys,Sq c2 K H l2 ys->ys[i]? = some y,
   λi H=>∃xs ys,Sq c1 K H l1 xs/\Sq c2 K H l2 ys/\(xs.length<=i\/ys.length<=i)⟩
structure GL (c1 c2:Bool) (z TI TO i1 i2 l1 l2:Addr) (i:Nat) (h:Heap):Prop where
 hz:IsZip h z TI TO .none
 ti:IsPair h TI (.ref i1) (.ref i2)
 to:∃a b,IsPair h TO a b
 h1:bf c1 h i1 l1 i
 h2:bf c2 h i2 l2 i
theorem Bt{P:Program}{w:World}{H:Hp}{h:Heap}{T:Addr}{x y:V}{u v:Value}(e:IsPair h T u v)(r1:RelV x u)(r2:RelV y v):bw P w H h T (.tup [x,y]):=
 ⟨by show 2<=sizeLine;decide,[u,v],.cons r1 (.cons r2 .nil),⟨_,e,rfl,_,rfl⟩,_,e,rfl⟩
theorem aaV{P:Program}{w:World}{K:W.Frag}{elts:List Expr}{k:Nat}{pos:Pos}{c1 c2:Bool}{z TI TO i1 i2:Addr}(l1 l2:Addr)(nd:TI≠z/\TO≠z/\i1≠z/\i2≠z/\TI≠TO/\TI≠i1/\TI≠i2/\TO≠i1/\TO≠i2/\i1≠i2):Turn P w K (.Tuple elts k pos) (wm K c1 c2 l1 l2) [z,TI,TO,i1,i2] z (GL c1 c2 z TI TO i1 i2 l1 l2) where
 mem:=by simp
 obj:=λi h st b hb=>by
  have fld:∀{a:Addr} {o:Obj},h.get? a=some o->(∀v,o.data≠.cell v)->∃o,h.get? a=some o/\∀v,o.data≠.cell v:=λe d=>⟨_,e,d⟩
  simp only[bq,fb,fj]at hb
  rcases hb with rfl|rfl|rfl|rfl|rfl
  ·exact⟨_,st.hz,λv q=>by cases(show Data.fields _=Data.cell v from q)⟩
  ·exact⟨_,st.ti,λv q=>by cases(show Data.seq _ _=Data.cell v from q)⟩
  ·obtain⟨_,_,e⟩:=st.to
   exact⟨_,e,λv q=>by cases(show Data.seq _ _=Data.cell v from q)⟩
  ·exact st.h1.obj
  ·exact st.h2.obj
 keep:=λi h h' st kk=>⟨kk z (by simp) _ st.hz,kk TI (by simp) _ st.ti,let⟨a,b,e⟩:=st.to;⟨a,b,kk TO (by simp) _ e⟩,st.h1.at λo e=>kk i1 (by simp) o e,st.h2.at λo e=>kk i2 (by simp) o e⟩
 item:=by
  intro X hP hw hK hc i pins s σ H E I hf st hg;subst hP hw hK;obtain⟨xs,ys,x,y,q1,q2,hx,hy⟩:=hg;obtain⟨qy,oS,p1,z1⟩:=I.sq q1;obtain⟨qz,oU,p2,z2⟩:=I.sq q2;obtain⟨u,hu,ru⟩:=oS.get hx;obtain⟨v,hv,rv⟩:=oU.get hy;obtain⟨a,b,hTO⟩:=st.to;obtain⟨n1,n2,n3,n4,n5,n6,n7,n8,n9,n10⟩:=nd;have D:ZipApart z TI TO i1 i2 l1 l2:=⟨n1,n2,n3,n4,n5,n6,n7,n8,n9,n10,I.eW q1 (hf z (by simp)),I.eW q1 (hf TO (by simp)),I.eW q1 (hf i1 (by simp)),I.eW q1 (hf i2 (by simp)),
   I.eW q2 (hf z (by simp)),I.eW q2 (hf TO (by simp)),I.eW q2 (hf i1 (by simp)),I.eW q2 (hf i2 (by simp))⟩
  refine Pl D st.hz st.ti hTO st.h1 st.h2 p1 p2 (by simpa using hu) (by simpa using hv) λh' a1 a2 a3 a4 a5 a6 a7=>?_
  refine⟨_,rfl,wpAny_letOwnedTupleGo_zip a1 λh2 b1 b2=>?_⟩;have hzlt:z<s.heap.objs.size:=aQ st.hz;have Tp:IsPair h2 TI (.ref i1) (.ref i2):=b2.extBut _ _ n1 (a7 _ _ n1 n5 n6 n7 st.ti);have keep:∀b u,b ∉ [z,TO,i1,i2]->s.heap.get? b=some u->h2.get? b=some u:=λb u hb e=>by
   simp only[bq,fb,fj,not_or]at hb;exact b2.extBut _ _ hb.1 (a7 b u hb.1 hb.2.1 hb.2.2.1 hb.2.2.2 e)
  have hT2:IsPair h2 s.heap.objs.size u v:=b2.extBut _ _ (eB hzlt) a5;have Es:∀b∈[z,TO,i1,i2],b∈[z,TI,TO,i1,i2]:=λb hb=>by
   simp only[bq,fb,fj]at hb ⊢
   rcases hb with h|h|h|h <;> simp[h]
  have I2:Inv X pins σ (upd H s.heap.objs.size (.tup [x,y])) {s with heap:=h2,toks:=s.toks}:=
   I.O4 (λb hb=>hf b (Es b hb)) keep (aW _) (Bt hT2 ru rv)
  refine⟨.ref s.heap.objs.size,_,I2,rfl,⟨_,x,y,rfl,I.fresh,rfl,λzs hz=>by rw[I.En hz q1];exact hx,λzs hz=>by rw[I.En hz q2];exact hy⟩,
   ⟨b1,Tp,⟨u,v,b2.extBut _ _ n2 a2⟩,a3.at λo e=>b2.extBut _ o n3 e,a4.at λo e=>b2.extBut _ o n4 e⟩,λb hb=>?_⟩
  have hlt:b<s.heap.objs.size:=by
   have live:∀b∈[z,TI,TO,i1,i2],b<s.heap.objs.size:=λb hb=>by
    simp only[bq,fb,fj]at hb
    rcases hb with rfl|rfl|rfl|rfl|rfl
    ·exact hzlt
    ·exact aQ st.ti
    ·exact aQ hTO
    ·obtain⟨o,e,_⟩:=st.h1.obj;exact aQ e
    ·obtain⟨o,e,_⟩:=st.h2.obj;exact aQ e
   exact live b hb
  rw[aD (bu hlt)];exact(hf b hb).1
 done:=by
  intro X hP hw hK hc i pins s σ H E I hf st hg;subst hP hw hK;obtain⟨xs,ys,q1,q2,hend⟩:=hg;obtain⟨qy,oS,p1,z1⟩:=I.sq q1;obtain⟨qz,oU,p2,z2⟩:=I.sq q2;obtain⟨a,b,hTO⟩:=st.to;obtain⟨n1,n2,n3,n4,n5,n6,n7,n8,n9,n10⟩:=nd;have D:ZipApart z TI TO i1 i2 l1 l2:=⟨n1,n2,n3,n4,n5,n6,n7,n8,n9,n10,I.eW q1 (hf z (by simp)),I.eW q1 (hf TO (by simp)),I.eW q1 (hf i1 (by simp)),I.eW q1 (hf i2 (by simp)),
   I.eW q2 (hf z (by simp)),I.eW q2 (hf TO (by simp)),I.eW q2 (hf i1 (by simp)),I.eW q2 (hf i2 (by simp))⟩
  have e1:=oS.length;have e2:=oU.length;have hend':qy.toArray[i]? = none\/qz.toArray[i]? = none:=by
   rcases hend with h|h
   ·exact .inl (by simp;omega)
   ·exact .inr (by simp;omega)
  refine Pk (I.ok.hd hc) D st.hz st.ti hTO st.h1 st.h2 p1 p2 hend' λh' kk=>⟨rfl,?_⟩
  have Es:∀b∈[z,TO,i1,i2],b∈[z,TI,TO,i1,i2]:=λb hb=>by
   simp only[bq,fb,fj]at hb ⊢
   rcases hb with h|h|h|h <;> simp[h]
  exact I.O2 (t':=s.toks) (ch:=[z,TO,i1,i2]) (λb hb=>hf b (Es b hb)) λb u hb e=>by
   simp only[bq,fb,fj,not_or]at hb;exact kk b u hb.1 hb.2.1 hb.2.2.1 hb.2.2.2 e
 self:=λ_ _ _ _ _ st h=>GC st.hz h
def iy (c:Bool) (l:Addr):Obj:={cls:=.type (match c with|true => "list_iterator" |false => "tuple_iterator"),data:=.fields #[.ref l,.int 0 0]}
theorem El{c:Bool}{h:Heap}{it l:Addr}(e:h.get? it=some (iy c l)):bf c h it l 0:=by
 cases c with
 |true=>exact⟨_,e,rfl,rfl⟩
 |false=>exact⟨_,e,rfl,rfl⟩
section
variable {prog:Program} {w:World} {A:Around} {E:Value->Shared->Prop} {s:Shared}
theorem qA{c:Bool}{l:Addr}{items:Array Value}{Q:Value->Shared->Prop}(hl:bA c s.heap l items)
  (hQ:Q (.ref s.heap.objs.size) {s with heap:=s.heap.push (iy c l)}):wpAny (model prog w) A (pyIter (.ref l)) Q E s:=by
 cases c with
 |true=>exact pL hl hQ
 |false=>exact wpAny_pyIter_tuple hl hQ
end
abbrev vU (c1:Bool) (h:Heap) (l1:Addr):Heap:=h.push (iy c1 l1)
abbrev vV (c1 c2:Bool) (h:Heap) (l1 l2:Addr):Heap:=(vU c1 h l1).push (iy c2 l2)
abbrev vW (c1 c2:Bool) (h:Heap) (l1 l2:Addr):Heap:=(vV c1 c2 h l1 l2).push {cls:=.type "tuple", data:=.seq #[.ref h.objs.size,.ref (vU c1 h l1).objs.size]}
abbrev vX (c1 c2:Bool) (h:Heap) (l1 l2:Addr):Heap:=(vW c1 c2 h l1 l2).push {cls:=.type "tuple", data:=.seq #[.none,.none]}
abbrev mL (c1 c2:Bool) (h:Heap) (l1 l2:Addr):Heap:=(vX c1 c2 h l1 l2).push {cls:=.type "zip", data:=.fields #[.none,.bool false,.bool false,.ref (vV c1 c2 h l1 l2).objs.size,.ref (vW c1 c2 h l1 l2).objs.size]}
theorem Wa(c1 c2:Bool)(l1 l2:Addr)(xs ys:Array Value):
  Meets (Builtin.«zip.__new__» ⟨[.type "zip", .ref l1,.ref l2],[]⟩) (λ_ R s=>bA c1 s.heap l1 xs/\bA c2 s.heap l2 ys /\
   R (.ok (.ret (.ref (vX c1 c2 s.heap l1 l2).objs.size))) {s with heap:=mL c1 c2 s.heap l1 l2}):=
 .of_wp λprog w A R s h=>by
  obtain⟨hp,g,d,tk,os⟩:=s;obtain⟨hl1,hl2,h⟩:=h;have hsub:=sub_zip;have hL1:bA c1 (Shared.heap ⟨hp,g,d,tk,os⟩) l1 xs:=hl1;have hL2:bA c2 (Shared.heap ⟨hp.push (iy c1 l1),g,d,tk,os⟩) l2 ys:=hl2.at λo e=>aU _ e
  wp_walk using qA hL1,qA hL2
  exact⟨_,rfl,h⟩
section
variable {prog:Program} {w:World} {A:Around} {E:Value->Shared->Prop} {s:Shared}
theorem Hd{c1 c2:Bool}{l1 l2:Addr}{xs ys:Array Value}{Q:Value->Shared->Prop}(hl1:bA c1 s.heap l1 xs)(hl2:bA c2 s.heap l2 ys)(h:∀h',GL c1 c2 (s.heap.objs.size+4) (s.heap.objs.size+2) (s.heap.objs.size+3) s.heap.objs.size (s.heap.objs.size+1) l1 l2 0 h'->h'.objs.size=s.heap.objs.size+5 ->
   (∀c o,s.heap.get? c=some o->h'.get? c=some o)->Q (.ref (s.heap.objs.size+4)) {s with heap:=h'}) :
  wpAny (model prog w) A (call (.type "zip") [.ref l1,.ref l2]) Q E s:=by
 refine callType_new F.called_zip (by decide) (F.typeCall_zip_2 _ _) (F.newCall_zip_2 _ _) (λobj=>F.args_object_init_3 obj _ _) F.entry_zip_new (Wa c1 c2 l1 l2 xs ys) ⟨hl1,hl2,?_⟩;have z1:(vU c1 s.heap l1).objs.size=s.heap.objs.size+1:=fJ ..;have z2:(vV c1 c2 s.heap l1 l2).objs.size=s.heap.objs.size+2:=by rw[fJ,z1]
 have z3:(vW c1 c2 s.heap l1 l2).objs.size=s.heap.objs.size+3:=by rw[fJ,z2]
 have z4:(vX c1 c2 s.heap l1 l2).objs.size=s.heap.objs.size+4:=by rw[fJ,z3]
 have z5:(mL c1 c2 s.heap l1 l2).objs.size=s.heap.objs.size+5:=by rw[fJ,z4]
 have g5:(mL c1 c2 s.heap l1 l2).get? (vX c1 c2 s.heap l1 l2).objs.size=some _:=cn _ rfl;have g4:(mL c1 c2 s.heap l1 l2).get? (vW c1 c2 s.heap l1 l2).objs.size=some _:=aU _ (cn _ rfl);have g3:(mL c1 c2 s.heap l1 l2).get? (vV c1 c2 s.heap l1 l2).objs.size=some _:=aU _ (aU _ (cn _ rfl));have g2:(mL c1 c2 s.heap l1 l2).get? (vU c1 s.heap l1).objs.size=some _:=aU _ (aU _ (aU _ (cn _ rfl)));have g1:(mL c1 c2 s.heap l1 l2).get? s.heap.objs.size=some _:=aU _ (aU _ (aU _ (aU _ (cn _ rfl))));show _/\_;rw[z2,z3,z4]at g5;rw[z1,z2]at g3;rw[z3]at g4;rw[z1]at g2;rw[z4];exact⟨⟨_,g5,rfl⟩,h _ ⟨g5,g3,⟨_,_,g4⟩,El g1,El g2⟩ z5 λc o x =>
  aU _ (aU _ (aU _ (aU _ (aU _ x))))⟩
end
section
variable {X:Cx} {elts:List Expr} {k:Nat} {tpos:Pos}
def Jz(K:W.Frag)(c1 c2:Bool)(ta:TA):TI:=λσ H R=>ta σ H λvs H1=>∃l1 l2 xs ys,vs = [.ref l1,.ref l2]/\Sq c1 K H1 l1 xs/\Sq c2 K H1 l2 ys/\R (wm K c1 c2 l1 l2) H1
theorem Y1 (c1 c2:Bool) {a b:Expr} {ta:TA} {p pos:Pos} (hg:Gl X "zip") (hm:X.mg "zip" = none) (ha:PA X [a,b] ta) (hs:starEach [a,b] X.env = [(false,eval a X.env),(false,eval b X.env)]:=by rfl) (hs2:starEach [b] X.env = [(false,eval b X.env)]:=by rfl) :
  PI X (.Tuple elts k tpos) (.Call (.Name "zip" p) [a,b] [] pos) (Jz X.K c1 c2 ta):=by
 intro pins s σ H R I h;refine Call_ (jq I hg hm (show bootBuiltins "zip" = some (.type "zip")by decide +kernel) (m8 (aK (ha pos pins s σ H _ I h) λus s1 ⟨vs,H1,I1,r1,q1⟩=>?_) (by rw[hs,hs2]) (by rw[hs2];rfl)));obtain⟨l1,l2,xs,ys,e,q1,q2,q⟩:=q1;subst e;obtain⟨u,v,rfl,ru,rv⟩:=Vals.two r1;cases ru;cases rv;obtain⟨qy,_,p1,_⟩:=I1.sq q1;obtain⟨qz,_,p2,_⟩:=I1.sq q2;refine Hd p1 p2 λh' zr hz hk=>GC zr.hz ?_
 have I2:Inv X pins σ H1 {s1 with heap:=h',toks:=s1.toks}:=I1.kept hk;have nd:∀n:Nat,n+2≠n+4/\n+3≠n+4/\n≠n+4/\n+1≠n+4/\n+2≠n+3/\n+2≠n/\n+2≠n+1/\n+3≠n/\n+3≠n+1/\n≠n+1:=λn=>by omega
 refine⟨_,_,_,_,H1,rfl,I2,aaV l1 l2 (nd s1.heap.objs.size),zr,λb hb=>?_,q⟩;simp only[bq,fb,fj]at hb;have ge:s1.heap.objs.size<=b:=by rcases hb with rfl|rfl|rfl|rfl|rfl <;> omega
 exact I1.og ge (I1.hok.fresh ge)
end
theorem Hw{prog:Program}{w:World}{A:Around}(hh:A.handled=none)(c:Bool)(it l:Addr)(hne:l≠it)(items:Array Value):Draws prog w A it [it,l] items.size (λi v=>items[i]? = some v) (λi h=>bf c h it l i/\bA c h l items) where
 live:=λ_ _ st=>let⟨o,ho,_⟩:=st.1.obj;⟨o,ho⟩
 frame:=λ_ _ _ st hk=>⟨st.1.at λo e=>hk it (by simp) o e,st.2.at λo e=>hk l (by simp) o e⟩
 item:=λi s Q E hi st hQ=>mx st.1 st.2 (x:=items[i]) (by simp[hi]) λh' hit' hs'=>hQ _ h' s.toks (by simp[hi]) ⟨hit',st.2.at λo e=>hs'.extBut _ o hne e⟩ hs'
 done:=λs Q E st hE=>qF hh st.1 st.2 (by simp) hE
theorem V'(c:Bool)(l:Addr)(items:Array Value):
  Meets (Builtin.«enumerate.__new__» ⟨[.type "enumerate", .ref l],[]⟩) (λ_ R s=>bA c s.heap l items /\
   R (.ok (.ret (.ref (s.heap.push (iy c l)).objs.size))) {s with heap:=(s.heap.push (iy c l)).push {cls:=.type "enumerate", data:=.fields #[.none,.bool false,.ref s.heap.objs.size,rawInt 0,.none,.none]}}):=
 .of_wp λprog w A R s h=>by
  obtain⟨hp,g,d,tk,os⟩:=s;obtain⟨hl,h⟩:=h;have hsub:=sub_enumerate;have hL:bA c (Shared.heap ⟨hp,g,d,tk,os⟩) l items:=hl
  wp_walk
  refine wpAny_stack_any λst=>aI ?_
  split
  ·rename_i cc _ _ _ _ _
   cases(cc == Value.type "enumerate")
   ·wp_walk using qA hL
    exact⟨_,rfl,h⟩
   ·wp_walk using qA hL
    exact⟨_,rfl,h⟩
  ·wp_walk using qA hL
   exact⟨_,rfl,h⟩
structure Fo (c:Bool) (e it l:Addr) (i:Nat) (h:Heap):Prop where
 he:∃old,IsEnum h e it i old
 h1:bf c h it l i
theorem QD{prog:Program}{w:World}{A:Around}{E:Value->Shared->Prop}{s:Shared}{c:Bool}{l:Addr}{items:Array Value}{Q:Value->Shared->Prop}(hl:bA c s.heap l items)
  (h:∀h',Fo c (s.heap.objs.size+1) s.heap.objs.size l 0 h'->h'.objs.size=s.heap.objs.size+2->(∀b o,s.heap.get? b=some o->h'.get? b=some o)->Q (.ref (s.heap.objs.size+1)) {s with heap:=h'}) :
  wpAny (model prog w) A (call (.type "enumerate") [.ref l]) Q E s:=by
 refine callType_new F.called_enumerate (by decide) (F.typeCall_enumerate_1 _) (F.newCall_enumerate_1 _) (λobj=>F.args_object_init_2 obj _) F.entry_enumerate_new (V' c l items) ⟨hl,?_⟩;have hz:(s.heap.push (iy c l)).objs.size=s.heap.objs.size+1:=fJ ..;have g2:((s.heap.push (iy c l)).push {cls:=.type "enumerate", data:=.fields #[.none,.bool false,.ref s.heap.objs.size,rawInt 0,.none,.none]}).get? (s.heap.push (iy c l)).objs.size=some _:=cn _ rfl;have g1:((s.heap.push (iy c l)).push {cls:=.type "enumerate", data:=.fields #[.none,.bool false,.ref s.heap.objs.size,rawInt 0,.none,.none]}).get? s.heap.objs.size=some (iy c l):=aU _ (cn _ rfl);show _/\_;rw[hz]at g2 ⊢;exact⟨⟨_,g2,rfl⟩,h _ ⟨⟨.none,g2⟩,El g1⟩ (by rw[fJ,hz]) λb o e=>aU _ (aU _ e)⟩
def Ite(K:W.Frag)(c:Bool)(l:Addr):It:=
 ⟨λi H=>∃xs x,Sq c K H l xs/\xs[i]? = some x,
   λi H v H'=>∃T x,v = .ref T/\H T=none/\H'=upd H T (.tup [.int i,x])/\∀xs,Sq c K H l xs->xs[i]? = some x,
   λi H=>∃xs,Sq c K H l xs/\xs.length=i⟩
theorem aaR{P:Program}{w:World}{K:W.Frag}{elts:List Expr}{k:Nat}{pos:Pos}{c:Bool}{e it:Addr}(l:Addr)(ne:e≠it):Turn P w K (.Tuple elts k pos) (Ite K c l) [e,it] e (Fo c e it l) where
 mem:=by simp
 obj:=λi h st b hb=>by
  simp only[bq,fb,fj]at hb
  rcases hb with rfl|rfl
  ·obtain⟨old,q⟩:=st.he
   exact⟨_,q,λv q=>by cases(show Data.fields _=Data.cell v from q)⟩
  ·exact st.h1.obj
 keep:=λi h h' st kk=>⟨let⟨old,q⟩:=st.he;⟨old,kk e (by simp) _ q⟩,st.h1.at λo q=>kk it (by simp) o q⟩
 item:=by
  intro X hP hw hK hc i pins s σ H E I hf st hg;subst hP hw hK;obtain⟨xs,x,q1,hx⟩:=hg;obtain⟨its,rv,p,z⟩:=I.sq q1;obtain⟨u,hu,ru⟩:=rv.get hx;obtain⟨old,he⟩:=st.he;have n1:l≠e:=I.eW q1 (hf e (by simp));have n2:l≠it:=I.eW q1 (hf it (by simp));have hil:i<its.length:=by rw[<- rv.length];exact(bN.mp hx).1
  have hh:X.A.in1.handled=none:=I.ok.hd hc;refine wpAny_pyNext_enum_itemD (Hw hh c it l n2 its.toArray) he ⟨st.h1,p⟩ (by simpa using hil) ne (by simp[ne,bJ n1]) λx' h' tk hP ho hs' hT hsz hk=>?_
  have ex:x'=u:=by
   have hu':its.toArray[i]? = some u:=by simpa using hu
   rw[hu']at hP;exact(da hP).symm
  subst ex;refine⟨_,rfl,wpAny_letOwnedTupleGo_enum ho λh2 b1 b2=>?_⟩;have elt:e<s.heap.objs.size:=aQ he;obtain⟨oi,ei,_⟩:=st.h1.obj;have U5:it<s.heap.objs.size:=aQ ei;have keep:∀b u,b ∉ [e,it]->s.heap.get? b=some u->h2.get? b=some u:=λb u hb q=>by
   simp only[bq,fb,fj,not_or]at hb;exact b2.extBut _ _ hb.1 (hk b u hb.1 hb.2 q)
  have hT2:IsPair h2 s.heap.objs.size (.int i tk) x':=b2.extBut _ _ (eB elt) hT;have I2:Inv X pins σ (upd H s.heap.objs.size (.tup [.int i,x])) {s with heap:=h2,toks:=tk+1}:=I.O4 hf keep (aW _) (Bt hT2 ⟨tk,rfl⟩ ru);refine⟨.ref s.heap.objs.size,_,I2,rfl,⟨_,x,rfl,I.fresh,rfl,λzs hz=>by rw[I.En hz q1];exact hx⟩,⟨⟨x',by simpa using b1⟩,hs'.1.at λo q=>b2.extBut _ o (bJ ne) q⟩,λb hb=>?_⟩;have hlt:b<s.heap.objs.size:=by
   simp only[bq,fb,fj]at hb
   rcases hb with rfl|rfl
   ·exact elt
   ·exact U5
  rw[aD (bu hlt)];exact(hf b hb).1
 done:=by
  intro X hP hw hK hc i pins s σ H E I hf st hg;subst hP hw hK;obtain⟨xs,q1,hend⟩:=hg;obtain⟨its,rv,p,z⟩:=I.sq q1;obtain⟨old,he⟩:=st.he;have n2:l≠it:=I.eW q1 (hf it (by simp));have el:i=its.toArray.size:=by rw[<- hend,rv.length];simp
  have hh:X.A.in1.handled=none:=I.ok.hd hc;refine wpAny_pyNext_enum_endD (Hw hh c it l n2 its.toArray) he (by rw[<- el];exact⟨st.h1,p⟩) λh' hx=>⟨rfl,?_⟩
  exact I.O2 (t':=s.toks) (ch:=[e,it]) hf λb u hb q=>by
   simp only[bq,fb,fj,not_or]at hb;exact hx b u hb.2 q
 self:=λ_ _ _ _ _ st h=>let⟨_,he⟩:=st.he;wpAny_pyIter_enum he h
section
variable {X:Cx} {elts:List Expr} {k:Nat} {tpos:Pos}
def Jw(K:W.Frag)(c:Bool)(ta:TA):TI:=λσ H R=>ta σ H λvs H1=>∃l xs,vs = [.ref l]/\Sq c K H1 l xs/\R (Ite K c l) H1
theorem YW (c:Bool) {a:Expr} {ta:TA} {p pos:Pos} (hg:Gl X "enumerate") (hm:X.mg "enumerate" = none) (ha:PA X [a] ta) (hs:starEach [a] X.env = [(false,eval a X.env)]:=by rfl) :
  PI X (.Tuple elts k tpos) (.Call (.Name "enumerate" p) [a] [] pos) (Jw X.K c ta):=by
 intro pins s σ H R I h;refine Call_ (jq I hg hm (show bootBuiltins "enumerate" = some (.type "enumerate")by decide +kernel) (m8 (aK (ha pos pins s σ H _ I h) λus s1 ⟨vs,H1,I1,r1,q1⟩=>?_) hs rfl));obtain⟨l,xs,e,q1,q⟩:=q1;subst e;obtain⟨u,rfl,ru⟩:=Vals.one r1;cases ru;obtain⟨its,_,p1,_⟩:=I1.sq q1;refine QD p1 λh' er hz hk=>let⟨_,he⟩:=er.he;wpAny_pyIter_enum he ?_
 have I2:Inv X pins σ H1 {s1 with heap:=h',toks:=s1.toks}:=I1.kept hk;refine⟨_,_,_,_,H1,rfl,I2,aaR l (show s1.heap.objs.size+1≠s1.heap.objs.size by omega),er,λb hb=>?_,q⟩;simp only[bq,fb,fj]at hb;have ge:s1.heap.objs.size<=b:=by rcases hb with rfl|rfl <;> omega
 exact I1.og ge (I1.hok.fresh ge)
end
theorem Same.put{H:Hp}{a:Addr}{o:HO}(h:H a=none):Same H (upd H a o):=λb u e=>by rw[aD (cV e h)];exact e
def du(D:Addr)(H H':Hp):Prop:=∀b o,b≠D->H b=some o->H' b=some o
theorem Same.x{H H':Hp}(s:Same H H')(D:Addr):du D H H':=λb o _ e=>s b o e
theorem du.put{D:Addr}{H:Hp}{o:HO}:du D H (upd H D o):=λb u hb e=>by rw[aD hb];exact e
theorem du.trans{D:Addr}{H H1 H2:Hp}(a:du D H H1)(b:du D H1 H2):du D H H2:=λc o hc e=>b c o hc (a c o hc e)
theorem du.of{D:Addr}{H H':Hp}(h:H D=none)(s:du D H H'):Same H H':=λb o e=>s b o (cV e h) e
theorem Same.sq{K:W.Frag}{H H':Hp}{a:Addr}{xs:List V}{c:Bool}(e:Same H H')(h:Sq c K H a xs):Sq c K H' a xs:=by
 cases c with
 |true=>exact e.seq h
 |false =>
  rcases h with(h|⟨o,h⟩)|h
  ·exact .inl (.inl (e _ _ h))
  ·exact .inl (.inr ⟨o,e _ _ h⟩)
  ·exact .inr h
theorem Same.Em{K:W.Frag}{H H':Hp}{a:Addr}{xs:List V}(e:Same H H')(h:aF K H a xs):aF K H' a xs:=e.sq (c:=false) h
structure iM (J:It) (g:TG) (σ₀:St) (H1:Hp) (n:Nat) (sl:Nat->St):Prop where
 go:∀i H,i<n->Same H1 H->J.go i H
 stop:∀H,Same H1 H->J.stop n H
 step:∀i H x H' (K:St->Hp->Prop),i<n->Same H1 H->J.lB i H x H'->(∀H2,Same H H2->K (sl i) H2)->g x σ₀ H' λσ2 H2=>Wk σ₀ σ2/\K σ2 H2
theorem src_range{lo:Int}{n:Nat}{ρ:St}{H1:Hp}:iM (kj lo n) (cD 0) (none::ρ) H1 n (λi=>some (.int (lo+i))::ρ) where
 go:=λi H hi _=>hi
 stop:=λH _=>aW n
 step:=λi H x H' K hi hs hy hk=>by
  obtain⟨rfl,rfl⟩:=hy;exact⟨Wk.set (Wk.refl _) rfl,hk _ (Same.refl _)⟩
theorem src_list{K:W.Frag}{a:Addr}{xs:List V}{ρ:St}{H1:Hp}(h:ah K H1 a xs):iM (ki K a) (cD 0) (none::ρ) H1 xs.length (λi=>some (xs.getD i .non)::ρ) where
 go:=λi H hi hs=>⟨xs,xs[i],hs.seq h,aB hi⟩
 stop:=λH hs=>⟨xs,hs.seq h,aW _⟩
 step:=λi H x H' K hi hs hy hk=>by
  obtain⟨rfl,hx⟩:=hy;have e:=hx xs (hs.seq h);have e2:xs.getD i .non=x:=by rw[aO,e];rfl
  refine⟨Wk.set (Wk.refl _) rfl,?_⟩;have:=hk _ (Same.refl _);rw[e2]at this;exact this
theorem Od{K:W.Frag}{a:Addr}{xs:List V}{ρ:St}{H1:Hp}(h:aF K H1 a xs):iM (lH K a) (cD 0) (none::ρ) H1 xs.length (λi=>some (xs.getD i .non)::ρ) where
 go:=λi H hi hs=>⟨xs,xs[i],hs.Em h,aB hi⟩
 stop:=λH hs=>⟨xs,hs.Em h,aW _⟩
 step:=λi H x H' K hi hs hy hk=>by
  obtain⟨rfl,hx⟩:=hy;have e:=hx xs (hs.Em h);have e2:xs.getD i .non=x:=by rw[aO,e];rfl
  refine⟨Wk.set (Wk.refl _) rfl,?_⟩;have:=hk _ (Same.refl _);rw[e2]at this;exact this
theorem rq{K:W.Frag}{c1 c2:Bool}{a b:Addr}{xs ys:List V}{n:Nat}{ρ:St}{H1:Hp}(h1:Sq c1 K H1 a xs)(h2:Sq c2 K H1 b ys)(hn:n=min xs.length ys.length):iM (wm K c1 c2 a b) (tO K 2 (lZ (cD 0) (lZ (cD 1) tN))) (none::none::ρ) H1 n (λi=>some (xs.getD i .non)::some (ys.getD i .non)::ρ) where
 go:=λi H hi hs=>⟨xs,ys,xs[i]'(by omega),ys[i]'(by omega),hs.sq h1,hs.sq h2,aB (by omega),aB (by omega)⟩
 stop:=λH hs=>⟨xs,ys,hs.sq h1,hs.sq h2,by omega⟩
 step:=λi H v H' Kk hi hs hy hk=>by
  obtain⟨T,x,y,rfl,hT,rfl,hx,hy⟩:=hy;have e1:=hx xs (hs.sq h1);have e2:=hy ys (hs.sq h2);have e3:xs.getD i .non=x:=by rw[aO,e1];rfl
  have e4:ys.getD i .non=y:=by rw[aO,e2];rfl
  refine⟨T,[x,y],rfl,.inl (.inl ao),rfl,x,[y],rfl,y,[],rfl,rfl,?_⟩;have:=hk (upd H T (.tup [x,y])) (Same.put hT);rw[e3,e4]at this;exact⟨Wk.set (Wk.set (Wk.refl _) rfl) rfl,this⟩
theorem Paired.N_{α β:Type}{F:α->β->Prop}{l₁:List α}{l₂:List β}{a:α}{b:β}(r:Paired F l₁ l₂)(h:F a b):Paired F (l₁++[a]) (l₂++[b]):=wU r h
theorem ye{J:It}{g:TG}{tc:TT}{te:TE}{σ₀:St}{D:Addr}{Q:Hp->Prop}{H1:Hp}{n:Nat}{sl:Nat->St}(keep:Nat->Bool)(Rl:Nat->V->Hp->Prop)(S:iM J g σ₀ H1 n sl)(hD:H1 D=none)(hn:n<sizeLine)(mono:∀i v H H',du D H H'->Rl i v H->Rl i v H')(step:∀i H (Kt:V->Hp->Prop) (Kf:Hp->Prop),i<n->Same H1 H->(∃ys,H D=some (.lst ys))->(∀v H',keep i=true->Same H H'->Rl i v H'->Kt v H')->(∀H',keep i=false->Same H H'->Kf H') ->
   tc (sl i) H λb H3=>if b=true then te (sl i) H3 Kt else Kf H3)
  (fin:∀H' ys,Same H1 H'->H' D=some (.lst ys)->Paired (λi v=>Rl i v H') ((List.range n).filter keep) ys->Q H'):j_ J g tc te σ₀ D Q (upd H1 D (.lst [])):=by
 refine⟨λi m ys H=>m=n - i/\i<=n/\Same H1 H/\H D=some (.lst ys)/\Paired (λi v=>Rl i v H) ((List.range i).filter keep) ys,⟨n,by omega,by omega,Same.put hD,ao,.nil⟩,?_⟩;rintro i m ys H ⟨hm,hi,hs,hl,hp⟩;have hlen:ys.length<=i:=by
  have:=dq hp;rw[<- this];exact b_ (mR _ _) (by simp)
 by_cases e:i=n
 ·subst e
  exact .inl ⟨S.stop H hs,fin H ys hs hl hp⟩
 ·have hin:i<n:=by omega
  refine .inr ⟨S.go i H hin hs,λys' H'=>i+1<=n/\Same H1 H'/\H' D=some (.lst ys')/\Paired (λi v=>Rl i v H') ((List.range (i+1)).filter keep) ys',λys' H' h=>⟨n - (i+1),by omega,rfl,h⟩,λx H' hy=>?_⟩;refine S.step i H x H' (λσ2 H2=>tc σ2 H2 λb H3=>if b=true then te σ2 H3 λy H4=>H4 D=some (.lst ys)/\ys.length<sizeLine/\_ else _) hin hs hy λH2 s2=>?_
  have up:∀{H':Hp},Same H2 H'->Paired (λi v=>Rl i v H') ((List.range i).filter keep) ys:=λ{H'} s'=>Paired.dA hp λa b r=>mono a b _ _ ((s2.trans s').x D) r
  refine step i H2 _ _ hin (hs.trans s2) ⟨ys,s2 _ _ hl⟩ (λv H4 hk s4 r=>?_) λH4 hk s4=>?_
  ·have cR:H4 D=some (.lst ys):=s4 _ _ (s2 _ _ hl)
   refine⟨cR,by omega,hin,?_,ao,?_⟩
   ·exact du.of hD (((hs.trans (s2.trans s4)).x D).trans du.put)
   ·rw[ja,pq]
    have e1:[i].filter keep = [i]:=by simp[hk]
    rw[e1];exact wU (Paired.dA (up s4) λa b q=>mono a b _ _ du.put q) (mono _ _ _ _ du.put r)
  ·refine⟨hin,hs.trans (s2.trans s4),s4 _ _ (s2 _ _ hl),?_⟩
   rw[ja,pq];have e1:[i].filter keep = []:=by simp[hk]
   rw[e1,h_];exact up s4
theorem Lf{α:Type}{f:α->V}:∀{l:List α} {ys:List V},Paired (λi v=>v=f i) l ys->ys=l.map f
 |_,_,.nil=>rfl
 |_,_,.cons h t=>by rw[h,Lf t];rfl
theorem kE{J:It}{g:TG}{tc:TT}{te:TE}{σ₀:St}{D:Addr}{Q:Hp->Prop}{H1:Hp}{n:Nat}{sl:Nat->St}(keep:Nat->Bool)(f:Nat->V)(S:iM J g σ₀ H1 n sl)(hD:H1 D=none)(hn:n<sizeLine)(step:∀i H (Kt:V->Hp->Prop) (Kf:Hp->Prop),i<n->Same H1 H->(∀H',keep i=true->Same H H'->Kt (f i) H')->(∀H',keep i=false->Same H H'->Kf H') ->
   tc (sl i) H λb H3=>if b=true then te (sl i) H3 Kt else Kf H3)
  (fin:∀H',Same H1 H'->H' D=some (.lst (((List.range n).filter keep).map f))->Q H'):j_ J g tc te σ₀ D Q (upd H1 D (.lst [])):=
 ye keep (λi v _=>v=f i) S hD hn (λ_ _ _ _ _ h=>h) (λi H Kt Kf hi hs _ h1 h2=>step i H Kt Kf hi hs (λH' hk s'=>h1 _ H' hk s' rfl) h2)
  λH' ys hs hl hp=>fin H' hs (by rw[hl,Lf hp])
theorem filter_true{α:Type}(l:List α):l.filter (λ_=>true)=l:=List.filter_eq_self.mpr λ_ _=>rfl
theorem fN{J:It}{g:TG}{te:TE}{σ₀:St}{D:Addr}{Q:Hp->Prop}{H1:Hp}{n:Nat}{sl:Nat->St}(f:Nat->V)(S:iM J g σ₀ H1 n sl)(hD:H1 D=none)(hn:n<sizeLine)(step:∀i H (Kt:V->Hp->Prop),i<n->Same H1 H->(∀H',Same H H'->Kt (f i) H')->te (sl i) H Kt)(fin:∀H',Same H1 H'->H' D=some (.lst ((List.range n).map f))->Q H'):j_ J g oZ te σ₀ D Q (upd H1 D (.lst [])):=
 kE (λ_=>true) f S hD hn (λi H Kt Kf hi hs h1 _=>eR (A:=te (sl i) H Kt) (B:=Kf H) (step i H Kt hi hs λH' s'=>h1 H' rfl s')) λH' hs hl=>fin H' hs (by rw[hl,filter_true])
theorem nW{J:It}{g:TG}{te:TE}{σ₀:St}{D:Addr}{Q:Hp->Prop}{H1:Hp}{n:Nat}{sl:Nat->St}(Rl:Nat->V->Hp->Prop)(S:iM J g σ₀ H1 n sl)(hD:H1 D=none)(hn:n<sizeLine)(mono:∀i v H H',du D H H'->Rl i v H->Rl i v H')(step:∀i H (Kt:V->Hp->Prop),i<n->Same H1 H->(∃ys,H D=some (.lst ys))->(∀v H',Same H H'->Rl i v H'->Kt v H')->te (sl i) H Kt)(fin:∀H' ys,Same H1 H'->H' D=some (.lst ys)->Paired (λi v=>Rl i v H') (List.range n) ys->Q H'):j_ J g oZ te σ₀ D Q (upd H1 D (.lst [])):=
 ye (λ_=>true) Rl S hD hn mono (λi H Kt Kf hi hs hy h1 _=>eR (A:=te (sl i) H Kt) (B:=Kf H) (step i H Kt hi hs hy λv H' s' r=>h1 v H' rfl s' r)) λH' ys hs hl hp=>fin H' ys hs hl (by rw[filter_true]at hp;exact hp)
theorem Q0{J:It}{g:TG}{te:TE}{σ₀:St}{D:Addr}{Q:Hp->Prop}{H1:Hp}{n:Nat}{sl:Nat->St}(c:Nat->List V)(S:iM J g σ₀ H1 n sl)(hD:H1 D=none)(hn:n<sizeLine)(step:∀i H (Kt:V->Hp->Prop),i<n->Same H1 H->(∀a H',Same H H'->H a=none->H' a=some (.lst (c i))->Kt (.ref a) H')->te (sl i) H Kt)(fin:∀H' (as:List Addr),Same H1 H'->H' D=some (.lst (as.map V.ref))->as.length=n->as.Nodup->(∀a∈as,H1 a=none/\a≠D)->(∀(i:Nat) a,as[i]? = some a->H' a=some (.lst (c i)))->Q H'):j_ J g oZ te σ₀ D Q (upd H1 D (.lst [])):=by
 refine⟨λi m ys H=>m=n - i/\i<=n/\Same H1 H/\H D=some (.lst ys)/\∃as:List Addr,ys=as.map V.ref/\as.length=i/\as.Nodup/\(∀a∈as,H1 a=none/\a≠D)/\∀(j:Nat) a,as[j]? = some a->H a=some (.lst (c j)),
  ⟨n,by omega,by omega,Same.put hD,ao,[],rfl,rfl,wB,λ_ h=>(nomatch h),λj a h=>by simp at h⟩,?_⟩
 rintro i m ys H ⟨hm,hi,hs,hl,as,rfl,h1,h2,h3,h4⟩
 by_cases e:i=n
 ·subst e
  exact .inl ⟨S.stop H hs,fin H as hs hl h1 h2 h3 h4⟩
 ·have hin:i<n:=by omega
  refine .inr ⟨S.go i H hin hs,λys' H'=>i+1<=n/\Same H1 H'/\H' D=some (.lst ys')/\∃as:List Addr,ys'=as.map V.ref/\as.length=i+1/\as.Nodup/\(∀a∈as,H1 a=none/\a≠D)/\∀(j:Nat) a,as[j]? = some a->H' a=some (.lst (c j)),
   λys' H' h=>⟨n - (i+1),by omega,rfl,h⟩,λx H' hy=>?_⟩
  refine S.step i H x H' (λσ2 H2=>oZ σ2 H2 λb H3=>if b=true then te σ2 H3 λy H4=>H4 D=some (.lst (as.map V.ref))/\(as.map V.ref).length<sizeLine/\_ else _) hin hs hy λH2 s2=>?_
  dsimp only[oZ];rw[if_pos rfl];refine step i H2 _ hin (hs.trans s2) λa H4 s4 ha hc=>?_
  have cR:H4 D=some (.lst (as.map V.ref)):=s4 _ _ (s2 _ _ hl);have haD:a≠D:=λe=>by rw[e,s2 _ _ hl]at ha;cases ha
  have Qj:a ∉ as:=λhm=>by
   obtain⟨j,hj,e⟩:=iG hm;have:=s2 _ _ (h4 j a (by rw[aB hj,e]));rw[ha]at this;cases this
  refine⟨cR,by simp;omega,hin,du.of hD (((hs.trans (s2.trans s4)).x D).trans du.put),ao,as++[a],by simp,by simp[h1],?_,?_,?_⟩
  ·exact FP.mpr ⟨h2,by simp,λx hx y hy=>by simp at hy;subst hy;exact λe=>Qj (e▸hx)⟩
  ·intro b hb
   rcases f6.mp hb with hb|hb
   ·exact h3 b hb
   ·simp at hb
    subst hb;exact⟨(hs.trans s2).free ha,haD⟩
  ·intro j b hj
   by_cases hjl:j<as.length
   ·rw[jC hjl]at hj
    have q:=h4 j b hj;have hbD:b≠D:=(h3 b (dG hj)).2;rw[aD hbD];exact s4 _ _ (s2 _ _ q)
   ·have hj2:(as++[a])[j]? = some b:=hj
    rw[km (by omega)]at hj2;have e0:j=as.length:=by
     by_cases z:j - as.length=0
     ·omega
     ·rw[List.getElem?_eq_none (by simp;omega)]at hj2;cases hj2
    subst e0;simp at hj2;subst hj2;rw[aD haD,h1];exact hc
def Pu(pre:List V->Hp->Prop)(post:List V->Hp->V->Hp->Prop):Sp:=λvs H Q _=>pre vs H/\∀v H',Same H H'->post vs H v H'->Q v H'
def G9(sc qL:Scope)(N:List Str)(fr:List (Str × Nat)):Bool:=
 sc.kind == .function&&sc.names.all (λy=>y.2 != .cell&&(y.2 != .local||sc.names.lookup y.1 == some .local)&&(y.2 != .free||qL.names.lookup y.1 == some .cell||qL.names.lookup y.1 == some .free)) &&
 fr.all λp=>N[p.2]? == some p.1&&sc.names.lookup p.1 == some .free
theorem cj{X:Cx}{scope:Scope}{fr:List (Str × Nat)}(qL:Scope)(N:List Str)(h1:X.env.scope=qL)(h2:X.N=N)(h:G9 scope qL N fr=true):gP X scope fr:=by
 unfold G9 at h;rw[bD,bD]at h;obtain⟨⟨a,b⟩,c⟩:=h;rw[fZ]at b c;subst h1 h2;refine⟨by simpa using a,λy hy e=>?_,λy hy e=>?_,λy hy e=>?_,λp hp=>?_⟩
 ·have:=b y hy
  rw[e]at this;simp at this
 ·have:=b y hy
  rw[e]at this;simpa using this
 ·have:=b y hy
  rw[e]at this;simpa using this
 ·have:=c p hp
  simpa using this
structure aG (P:Program) (w:World) (K:W.Frag) (mg:Str->Option Value) (base:Heap) (x:Str) (ps:List Str) (k:Nat) (sp:Sp):Prop where
 ex:∃(f:Addr) (fd:FuncData),aL P w K mg base aX k f fd ps sp/\mg x=some (.ref f)/\W.keepIn K (.ref f)=true/\Binds K fd ps []
section
variable {X:Cx} {x:Str} {ps:List Str} {k k':Nat} {sp:Sp} {e:Expr} {es:List Expr} {t:TA} {p pos:Pos}
theorem aM (c:aG X.prog X.w X.K X.mg X.base x ps k sp) (hr:bR k' X.A) (hg:Gl X x) (ha:PA X (e::es) t) (hk:k<=k':=by decide) (hdb:(x == ("__debug__" : Str))=false:=by decide)
  (he:starEach (e::es) X.env=(false,eval e X.env)::starEach es X.env:=by rfl) (hpl:(backTo pos (starEach es X.env)).any (·.1)=false:=by rfl):PE X (.Call (.Name x p) (e::es) [] pos) (rB sp [] E0 t):=by
 obtain⟨f,fd,F,hm,kp,b⟩:=c.ex;exact Lj F (hr.mono hk) hg hm kp b .nil Bv ha hdb he hpl
theorem Yw (c:aG X.prog X.w X.K X.mg X.base x ps k sp) (hr:bR k' X.A) (hg:Gl X x) (hk:k<=k':=by decide) (hdb:(x == ("__debug__" : Str))=false:=by decide):PE X (.Call (.Name x p) [] [] pos) (rB sp [] E0 Eu):=by
 obtain⟨f,fd,F,hm,kp,b⟩:=c.ex;exact Yv F (hr.mono hk) hg hm kp b .nil Bv hdb
end
theorem QJ {X:Cx} (T:String):d9 X (.builtin "isinstance") (λxs H Q=>∃x t b,xs = [x,.ty T]/\gG X.K H x t/\W.kitOne X.K t (.type T)=some b/\Q (.bl b) H):=by
 intro pins s σ H xs us Q I r h;obtain⟨x,t,b,rfl,ty,e,q⟩:=h;obtain⟨u,v,rfl,ru,rv⟩:=Vals.two r;cases rv;exact Ve I ru ty e λtk=>⟨.bl b,H,I.tok _,rfl,q⟩
theorem Qy:bootBuiltins "bool" = some (.type "bool"):=by decide +kernel
theorem pS:bootBuiltins "int" = some (.type "int"):=by decide +kernel
theorem sS:bootBuiltins "list" = some (.type "list"):=by decide +kernel
theorem kA:bootBuiltins "tuple" = some (.type "tuple"):=by decide +kernel
section
variable {X:Cx} {K:W.Frag}
theorem aS(h:X.K=K):mP X (LK K):=h▸Vg
theorem aP(h:X.K=K):mP X (LQ K):=h▸Vi
theorem cZ(h:X.K=K):w6 X (LR K):=h▸Z4
theorem Yh(h:X.K=K):bT X (compareOp .In) (uR K false):=h▸Yi
theorem Yj(h:X.K=K):bT X (compareOp .NotIn) (uR K true):=h▸Yk
def Zv(K:W.Frag):List V->Hp->VK->Prop:=λxs H Q=>∃p ys,xs = [.ref p]/\(ah K H p ys\/aF K H p ys)/\Q (.int ys.length) H
theorem fh (h:X.K=K):d9 X (.builtin "len") (Zv K):=h▸QK
def Zw(K:W.Frag):List V->Hp->VK->Prop:=λxs H Q=>∃p ys,xs = [.ref p]/\(ah K H p ys\/aF K H p ys)/\∀l,H l=none->Q (.ref l) (upd H l (.lst ys))
theorem yd (h:X.K=K):d9 X (.type "list") (Zw K):=h▸QL
def ZG(K:W.Frag):List V->Hp->VK->Prop:=λxs H Q=>∃p ys,xs = [.ref p]/\((ah K H p ys/\∀l,H l=none->Q (.ref l) (upd H l (.tup ys)))\/(aF K H p ys/\Q (.ref p) H))
theorem lV (h:X.K=K):d9 X (.type "tuple") (ZG K):=h▸QW
def Zr(K:W.Frag)(T:String):List V->Hp->VK->Prop:=λxs H Q=>∃x t b,xs = [x,.ty T]/\gG K H x t/\W.kitOne K t (.type T)=some b/\Q (.bl b) H
theorem sZ (T:String) (h:X.K=K):d9 X (.builtin "isinstance") (Zr K T):=h▸QJ T
variable {tg:Expr} {l:Expr} {tl:TE} {elts:List Expr} {k:Nat} {tpos pos p apos cpos:Pos} {a b o e:Expr} {es:List Expr} {ta:TA} {te tv to:TE} {f:Str}
theorem dM(h:X.K=K)(hl:PE X l tl):PI X tg l (Jx K tl):=h▸YX hl
theorem By(h:X.K=K)(hl:PE X l tl):PI X tg l (Jy K tl):=h▸Y0 hl
theorem qN (c1 c2:Bool) (h:X.K=K) (hg:Gl X "zip") (hm:X.mg "zip" = none) (ha:PA X [a,b] ta) (hs:starEach [a,b] X.env = [(false,eval a X.env),(false,eval b X.env)]:=by rfl) (hs2:starEach [b] X.env = [(false,eval b X.env)]:=by rfl) :
  PI X (.Tuple elts k tpos) (.Call (.Name "zip" p) [a,b] [] pos) (Jz K c1 c2 ta):=h▸Y1 c1 c2 hg hm ha hs hs2
theorem Bw (c:Bool) (h:X.K=K) (hg:Gl X "enumerate") (hm:X.mg "enumerate" = none) (ha:PA X [a] ta) (hs:starEach [a] X.env = [(false,eval a X.env)]:=by rfl) :
  PI X (.Tuple elts k tpos) (.Call (.Name "enumerate" p) [a] [] pos) (Jw K c ta):=h▸YW c hg hm ha hs
theorem eV(h:X.K=K)(he:PE X e te)(hb:attributeBase e f X.env (eval e X.env)=eval e X.env):PE X (.Attribute e f pos) (Ou K te f):=h▸YB he hb
theorem qQ{value:Expr}{pos':Pos}(h:X.K=K)(ha:PE X o te)(hv:PE X value tv)(hs:swapsWith value (some (.Attribute o f pos')) pos.line X.env=pure false):PS X (.Assign [.Attribute o f pos'] value pos) (Mi K te tv f):=h▸Y4 ha hv hs
variable {name:Str} {T id:String} {r:V->List V->Hp->VK->Prop} {t:TA}
theorem dJ (h:X.K=K) (pa:PlainAttrs T) (slot:Slot T name id) (hty:typeOf (.builtin id)=pure (.type "method_descriptor")) (hm:pE X id r) (ho:PE X o to) (ha:PA X (e::es) t)
  (h1:attributeBase o name X.env (eval o X.env)=eval o X.env:=by rfl)
  (h2:((backTo cpos (starEach (e::es) X.env)).all (λx=>!x.1)&&(backToKw cpos (keywordEach [] X.env)).all (λx=>x.1.isSome)&&decide ((e::es).length+([]:List Keyword).length+(if([]:List Keyword).isEmpty then 0 else 1)<30))=true:=by rfl)
  (h3:(apos.endLine == cpos.line)=true:=by rfl) (h4:starEach (e::es) X.env=(false,eval e X.env)::starEach es X.env:=by rfl) (h5:(backTo cpos (starEach es X.env)).any (·.1)=false:=by rfl) :
  PE X (.Call (.Attribute o name apos) (e::es) [] cpos) (Om K T r to t):=h▸Yu pa slot hty hm ho ha h1 h2 h3 h4 h5
theorem jX{x y:Str}{i j:Nat}{p1 p2:Pos}(h:X.K=K)(hc:X.calm=true)(hN:X.N.Nodup)(hi:X.N[i]? = some x)(hj:X.N[j]? = some y)(hx:X.env.scope.names.lookup x=some .local)(hy:X.env.scope.names.lookup y=some .local):PG X (.Tuple [.Name x p1,.Name y p2] k tpos) (tO K 2 (lZ (cD i) (lZ (cD j) tN))):=
 h▸YT hc (uL (a_ hN hi (Or.inl hx) (Or.inr hx)) (uL (a_ hN hj (Or.inl hy) (Or.inr hy)) Lp))
end
def Its(c:Bool)(K:W.Frag)(a:Addr):It:=match c with
 |true=>ki K a
 |false=>lH K a
def U4(K:W.Frag)(c:Bool)(tl:TE):TI:=λσ H R=>tl σ H λx H1=>∃a,x = .ref a/\(∃xs,Sq c K H1 a xs)/\R (Its c K a) H1
def Zu(K:W.Frag)(c:Bool):R2:=λx y H Q=>∃p xs i v,x = .ref p/\y = .int i/\Sq c K H p xs/\eQ xs i=some v/\Q v H
section
variable {X:Cx} {K:W.Frag} {tg l:Expr} {tl:TE}
theorem YZ(c:Bool)(h:X.K=K)(hl:PE X l tl):PI X tg l (U4 K c tl):=by
 cases c with
 |true=>exact dM h hl
 |false=>exact By h hl
theorem Vh(c:Bool)(h:X.K=K):mP X (Zu K c):=by
 cases c with
 |true=>exact aS h
 |false=>exact aP h
theorem aae{c:Bool}{a:Addr}{xs:List V}{ρ:St}{H1:Hp}(h:Sq c K H1 a xs):iM (Its c K a) (cD 0) (none::ρ) H1 xs.length (λi=>some (xs.getD i .non)::ρ):=by
 cases c with
 |true=>exact src_list h
 |false=>exact Od h
end
section
variable {K:W.Frag} {g:TG} {tb:TS} {D:Ends} {σ:St} {H:Hp}
theorem zK{c:Bool}{l:Addr}{xs:List V}(Pv:Nat->St->Hp->Prop)(h0:Pv 0 σ H)(hl:∀i σ H,Pv i σ H->Sq c K H l xs)
  (hs:∀i x σ H T,xs[i]? = some x->H T=none->Pv i σ H->g (.ref T) σ (upd H T (.tup [.int i,x])) λσ2 H2=>tb {D with nx:=Pv (i+1),ct:=Pv (i+1),bk:=D.nx} σ2 H2) (hd:∀σ H,Pv xs.length σ H->D.nx σ H) :
  ∃W:Nat->Nat->St->Hp->Prop,(∃m,W 0 m σ H)/\∀i m σ H,W i m σ H ->
   ((Ite K c l).stop i H/\D.nx σ H)\/((Ite K c l).go i H/\∃N:St->Hp->Prop,(∀σ' H',N σ' H'->∃m',m'<m/\W (i+1) m' σ' H')/\∀x H',(Ite K c l).lB i H x H'->g x σ H' λσ2 H2=>tb {D with nx:=N,ct:=N,bk:=D.nx} σ2 H2):=by
 refine⟨λi m σ H=>m=xs.length - i/\i<=xs.length/\Pv i σ H,⟨xs.length,by simp,eD _,h0⟩,?_⟩;rintro i m σ H ⟨rfl,hi,p⟩;have q:=hl i σ H p
 by_cases hlt:i<xs.length
 ·refine .inr ⟨⟨xs,xs[i],q,by simp[hlt]⟩,Pv (i+1),λσ' H' p'=>⟨xs.length - (i+1),by omega,rfl,hlt,p'⟩,λx H' y=>?_⟩
  obtain⟨T,x,rfl,hT,rfl,hx⟩:=y;exact hs i x σ H T (hx xs q) hT p
 ·have e:i=xs.length:=by omega
  subst e;exact .inl ⟨⟨xs,q,rfl⟩,hd σ H p⟩
end
theorem av{e:Expr}{es:List Expr}{env:Env}(h:∀v p,e≠.Starred v p):starEach (e::es) env=(false,eval e env)::starEach es env:=by
 cases e <;> first|rfl|exact absurd rfl (h _ _)
def intOf:Expr->Option Int
 |.Constant (.int i) _ _=>some i
 |_=>none
def intsOf:List Expr->Option (List Int)
 | []=>some []
 |e::r=>(intOf e).bind λi=>(intsOf r).map (i::·)
theorem U7{e:Expr}{i:Int}(h:intOf e=some i):∃k p,e = .Constant (.int i) k p:=by
 cases e with
 |Constant c k p =>
  cases c with
  |int j=>cases h;exact⟨k,p,rfl⟩
  |_=>cases h
 |_=>cases h
theorem oG{X:Cx}:∀{es:List Expr} (is:List Int),intsOf es=some is->PA X es (λ_ H Q=>Q (is.map V.int) H):=by
 intro es
 induction es with
 |nil =>
  intro is h;cases h;exact ag
 |cons e r ih =>
  intro is h;have h':(intOf e).bind (λi=>(intsOf r).map (i::·))=some is:=h;cases q1:intOf e with
  |none=>rw[q1]at h';cases h'
  |some i =>
   obtain⟨k,p,rfl⟩:=U7 q1;rw[q1]at h';cases q:intsOf r with
   |none=>rw[pG,q]at h';cases h'
   |some js =>
    rw[pG,q]at h';cases h';exact ae ak (ih js q)
theorem Lq{g:Nat->Int}(h:∀i,0<=g i/\g i<=1099511627776):∀n,0<=preSum g n/\preSum g n<=1099511627776 * n
 |0=>by simp[preSum]
 |n+1=>by
  have ih:=Lq h n;have hn:=h n;simp only[preSum]
  push_cast
  omega
theorem Lr(ns:List Int):∀n,n<=ns.length->preSum (λi=>ns.getD i 0) n=(ns.take n).sum
 |0,_=>by simp[preSum]
 |n+1,h=>by
  have ih:=Lr ns n (by omega);have hn:n<ns.length:=by omega
  simp only[preSum];rw[ih];have e1:ns.getD n 0=ns[n]:=by rw[aO,aB hn];rfl
  have e2:ns.take (n+1)=ns.take n++[ns[n]]:=by rw[r0,aB hn];rfl
  rw[e1,e2,List.sum_append];simp
def LW(K:W.Frag):List V->Hp->VK->Prop:=λxs H Q=>∃(p:Addr) (ns:List Int),xs = [.ref p]/\ah K H p (ns.map V.int)/\ns.length<=1000/\(∀x∈ns,0<=x/\x<=1099511627776)/\Q (.int ns.sum) H
theorem QT {X:Cx} (hc:X.calm=true):d9 X (.builtin "sum") (LW X.K):=by
 intro pins s σ H xs us Q I r h;obtain⟨p,ns,rfl,hq,hl,hb,q⟩:=h;obtain⟨u,rfl,ru⟩:=Vals.one r;cases ru;obtain⟨its,rv,pl,hz⟩:=I.list hq;have hlen:its.length=ns.length:=by rw[<- rv.length,az]
 have hp:p<s.heap.objs.size:=by obtain⟨o,_,e,_⟩:=pl;exact aQ e
 refine call_sum_walk (pL pl.isList ?_);have hh:X.A.in1.handled=none:=I.ok.hd hc;refine⟨s.heap.objs.size,_,_,_,_,_,λi=>ns.getD i 0,rfl,Walks.list hh s.heap.objs.size p (bu hp) its.toArray,⟨⟨_,cn _ rfl,rfl,rfl⟩,pl.isList.at λo e=>aU _ e⟩,λb hb=>?_,λi v hv=>?_,λj hj=>?_,λh' tk t' hk=>?_⟩
 ·simp only[bq,fb,fj]at hb
  rcases hb with rfl|rfl
  ·simp[fJ]
  ·exact Gb hp (by simp[fJ])
 ·have hv':its[i]? = some v:=by simpa using hv
  have hi:i<ns.length:=by rw[<- hlen];exact(bN.mp hv').1
  obtain⟨w',h1,h2⟩:=rv.get (i:=i) (x:=.int ns[i]) (by simp[hi]);rw[hv']at h1;cases h1;obtain⟨t,e⟩:=h2;refine⟨t,?_⟩;show v=Value.int (ns.getD i 0) t;rw[e,aO,aB hi];rfl
 ·have gb:∀i,0<=ns.getD i 0/\ns.getD i 0<=1099511627776:=λi=>by
   rw[aO];cases e:ns[i]? with
   |none=>simp
   |some x=>exact hb x (dG e)
  have hj':j<ns.length:=by rw[<- hlen];simpa using hj
  have h1:=gb j;have h2:=Lq gb (j+1)
  constructor
  ·show InLong (ns.getD j 0)
   unfold InLong;omega
  ·unfold InLong;push_cast at h2;omega
 ·have e:preSum (λi=>ns.getD i 0) its.toArray.size=ns.sum:=by
   rw[show its.toArray.size=ns.length by simp[hlen],Lr ns _ (aW _),r9]
  rw[e];have I1:Inv X pins σ H {s with heap:=s.heap.push {cls:=.type "list_iterator", data:=.fields #[.ref p,.int 0 0]},toks:=s.toks}:=I.kept λb o e=>aU _ e
  have I2:Inv X pins σ H {s with heap:=h',toks:=tk}:=by
   refine I.kept λb o e=>hk b o ?_ (aU _ e)
   simp only[bq,fb,fj];exact bu (aQ e)
  exact⟨.int ns.sum,H,I2,⟨t',rfl⟩,q⟩
theorem QV {X:Cx} {K:W.Frag} (h:X.K=K) (hc:X.calm=true):d9 X (.builtin "sum") (LW K):=h▸QT hc
theorem ZK(bs:List Bool):((List.range bs.length).all λi=>(bs[i]?).getD true)=bs.all id:=by
 rw[dQ,fZ,fZ]
 constructor
 ·intro h b hb
  obtain⟨i,hi,e⟩:=iG hb;have:=h i (by simpa using hi);rw[aB hi,e]at this;exact this
 ·intro h i hi
  have hi':i<bs.length:=by simpa using hi
  rw[aB hi'];exact h _ (ft hi')
theorem ZL(bs:List Bool):((List.range bs.length).any λi=>(bs[i]?).getD false)=bs.any id:=by
 rw[dQ,pj,pj]
 constructor
 ·rintro⟨i,hi,e⟩
  have hi':i<bs.length:=by simpa using hi
  rw[aB hi']at e;exact⟨_,ft hi',e⟩
 ·rintro⟨b,hb,e⟩
  obtain⟨i,hi,e'⟩:=iG hb;exact⟨i,by simpa using hi,by rw[aB hi,e'];exact e⟩
def Ly(K:W.Frag):List V->Hp->VK->Prop:=λxs H Q=>∃(p:Addr) (bs:List Bool),xs = [.ref p]/\ah K H p (bs.map V.bl)/\Q (.bl (bs.all id)) H
def Lz(K:W.Frag):List V->Hp->VK->Prop:=λxs H Q=>∃(p:Addr) (bs:List Bool),xs = [.ref p]/\ah K H p (bs.map V.bl)/\Q (.bl (bs.any id)) H
theorem Hc{bs:List Bool}{its:List Value}(rv:Vals (bs.map V.bl) its){i:Nat}{v:Value}(h:its[i]? = some v):∃b,bs[i]? = some b/\v = .bool b:=by
 have hi:i<its.length:=(bN.mp h).1;have hlen:its.length=bs.length:=by rw[<- rv.length,az]
 obtain⟨w',h1,h2⟩:=rv.get (i:=i) (x:=.bl (bs[i]'(by omega))) (by simp[show i<bs.length by omega]);rw[h]at h1;cases h1;exact⟨_,aB (by omega),h2⟩
theorem QF {X:Cx} (hc:X.calm=true):d9 X (.builtin "all") (Ly X.K):=by
 intro pins s σ H xs us Q I r h;obtain⟨p,bs,rfl,hq,q⟩:=h;obtain⟨u,rfl,ru⟩:=Vals.one r;cases ru;obtain⟨its,rv,pl,hz⟩:=I.list hq;have hlen:its.length=bs.length:=by rw[<- rv.length,az]
 have hp:p<s.heap.objs.size:=by obtain⟨o,_,e,_⟩:=pl;exact aQ e
 refine call_all_walk (pL pl.isList ?_);have hh:X.A.in1.handled=none:=I.ok.hd hc;refine⟨s.heap.objs.size,_,_,_,_,_,λi=>(bs[i]?).getD true,rfl,Walks.list hh s.heap.objs.size p (bu hp) its.toArray,⟨⟨_,cn _ rfl,rfl,rfl⟩,pl.isList.at λo e=>aU _ e⟩,λi v s' Q' E' hP hQ=>?_,λh' tk hk=>?_⟩
 ·obtain⟨b,e,rfl⟩:=Hc rv (by simpa using hP)
  simp only[e,Gf]at hQ;exact je hQ
 ·have e:((List.range its.toArray.size).all λi=>(bs[i]?).getD true)=bs.all id:=by
   rw[bP,hlen];exact ZK bs
  rw[e];have I2:Inv X pins σ H {s with heap:=h',toks:=tk}:=by
   refine I.kept λb o e=>hk b o ?_ (aU _ e)
   simp only[bq,fb,fj];exact bu (aQ e)
  exact⟨.bl (bs.all id),H,I2,rfl,q⟩
theorem QG {X:Cx} (hc:X.calm=true):d9 X (.builtin "any") (Lz X.K):=by
 intro pins s σ H xs us Q I r h;obtain⟨p,bs,rfl,hq,q⟩:=h;obtain⟨u,rfl,ru⟩:=Vals.one r;cases ru;obtain⟨its,rv,pl,hz⟩:=I.list hq;have hlen:its.length=bs.length:=by rw[<- rv.length,az]
 have hp:p<s.heap.objs.size:=by obtain⟨o,_,e,_⟩:=pl;exact aQ e
 refine call_any_walk (pL pl.isList ?_);have hh:X.A.in1.handled=none:=I.ok.hd hc;refine⟨s.heap.objs.size,_,_,_,_,_,λi=>(bs[i]?).getD false,rfl,Walks.list hh s.heap.objs.size p (bu hp) its.toArray,⟨⟨_,cn _ rfl,rfl,rfl⟩,pl.isList.at λo e=>aU _ e⟩,λi v s' Q' E' hP hQ=>?_,λh' tk hk=>?_⟩
 ·obtain⟨b,e,rfl⟩:=Hc rv (by simpa using hP)
  simp only[e,Gf]at hQ;exact je hQ
 ·have e:((List.range its.toArray.size).any λi=>(bs[i]?).getD false)=bs.any id:=by
   rw[bP,hlen];exact ZL bs
  rw[e];have I2:Inv X pins σ H {s with heap:=h',toks:=tk}:=by
   refine I.kept λb o e=>hk b o ?_ (aU _ e)
   simp only[bq,fb,fj];exact bu (aQ e)
  exact⟨.bl (bs.any id),H,I2,rfl,q⟩
theorem yc {X:Cx} {K:W.Frag} (h:X.K=K) (hc:X.calm=true):d9 X (.builtin "all") (Ly K):=h▸QF hc
theorem QH {X:Cx} {K:W.Frag} (h:X.K=K) (hc:X.calm=true):d9 X (.builtin "any") (Lz K):=h▸QG hc
inductive cg (K:W.Frag) (H:Hp):Nat->V->V->Bool->Prop
 |int (n:Nat) (i j:Int):cg K H n (.int i) (.int j) (i == j)
 |bl (n:Nat) (i j:Bool):cg K H n (.bl i) (.bl j) (i == j)
 |same (n:Nat) (a:Addr):cg K H n (.ref a) (.ref a) true
 |tup (n:Nat) (a b:Addr) (xs ys:List V) (e:Nat->Bool):aF K H a xs->aF K H b ys->xs.length=ys.length->(∀(j:Nat) x y,xs[j]? = some x->ys[j]? = some y->cg K H n x y (e j))->cg K H (n+1) (.ref a) (.ref b) ((List.range xs.length).all e)
 |lst (n:Nat) (a b:Addr) (xs ys:List V) (e:Nat->Bool):ah K H a xs->ah K H b ys->xs.length=ys.length->(∀(j:Nat) x y,xs[j]? = some x->ys[j]? = some y->cg K H n x y (e j))->cg K H (n+1) (.ref a) (.ref b) ((List.range xs.length).all e)
 |lens (n:Nat) (a b:Addr) (xs ys:List V):ah K H a xs->ah K H b ys->xs.length≠ys.length->cg K H (n+1) (.ref a) (.ref b) false
section
variable {X:Cx} {pins:List (Addr × Obj)} {σ:St} {H:Hp} {s:Shared}
theorem Inv.Kc(I:Inv X pins σ H s){a:Addr}{xs ys:List V}(h:ah X.K H a xs)(h':ah X.K H a ys):∃its,Vals xs its/\Vals ys its:=by
 obtain⟨its,r,⟨o,n,e,d1,d2,d3⟩,_⟩:=I.list h;obtain⟨its',r',⟨o',n',e',f1,f2,f3⟩,_⟩:=I.list h';rw[e]at e';cases e';rw[d3]at f3;injection f3 with q1 q2
 have:its=its':=by simpa using q1
 subst this;exact⟨its,r,r'⟩
theorem cg.De(I:Inv X pins σ H s){n:Nat}{x y:V}{b:Bool}(h:cg X.K H n x y b):∀{v:Value},RelV x v->RelV y v->b=true:=by
 induction h with
 |int n i j =>
  rintro v ⟨t,rfl⟩ ⟨u,e⟩;cases e;simp
 |bl n i j =>
  intro v h1 h2;cases h1;cases h2;simp
 |same n a=>intros;rfl
 |tup n a b xs ys e h1 h2 hl hi ih =>
  intro v r1 r2;cases r1;cases r2;have:=I.Ex h1 h2;subst this;obtain⟨its,r,_,_⟩:=I.tuple h1;rw[fZ];intro j hj;have hj':j<xs.length:=by simpa using hj
  obtain⟨w',_,q⟩:=r.get (aB hj');exact ih j _ _ (aB hj') (aB hj') q q
 |lst n a b xs ys e h1 h2 hl hi ih =>
  intro v r1 r2;cases r1;cases r2;obtain⟨its,r,r'⟩:=I.Kc h1 h2;rw[fZ];intro j hj;have hj':j<xs.length:=by simpa using hj
  obtain⟨w',z1,q⟩:=r.get (aB hj');obtain⟨w'',z2,q'⟩:=r'.get (aB (show j<ys.length by omega));rw[z1]at z2;cases z2;exact ih j _ _ (aB hj') (aB _) q q'
 |lens n a b xs ys h1 h2 hl =>
  intro v r1 r2;cases r1;cases r2;obtain⟨its,r,r'⟩:=I.Kc h1 h2;exact absurd (r.length.trans r'.length.symm) hl
theorem cg.at(I:Inv X pins σ H s){n:Nat}{x y:V}{b:Bool}(h:cg X.K H n x y b):∀{A:Around} {v u:Value},A.units+n<cLine->RelV x v->RelV y u->SeqAt.EqAt A s v u b:=by
 induction h with
 |int n i j =>
  rintro A v u hu ⟨t,rfl⟩ ⟨t',rfl⟩;exact SeqAt.EqAt.int_int i t j t'
 |bl n i j =>
  intro A v u hu h1 h2;cases h1;cases h2;exact wV i j
 |same n a =>
  intro A v u hu h1 h2;cases h1;cases h2;exact wW _
 |tup n a b xs ys e h1 h2 hl hi ih =>
  intro A v u hu r1 r2
  by_cases hab:v=u
  ·have:=cg.De I (.tup n a b xs ys e h1 h2 hl hi) r1 (hab▸r2)
   rw[this,hab];exact wW _
  ·cases r1
   cases r2;obtain⟨its,r,t1,_⟩:=I.tuple h1;obtain⟨its2,r',t2,_⟩:=I.tuple h2;refine Gw (λz=>hab (by rw[z])) ?_;have hh:=SeqAt.RcAt.tuples (A:=A) (s:=s) (e:=e) t1 t2 (by omega) λj g1 g2=>?_
   ·have el:its.toArray.size=its2.toArray.size:=by simp;rw[<- r.length,<- r'.length];exact hl
    have e2:((List.range (min its.toArray.size its2.toArray.size)).all e&&its.toArray.size == its2.toArray.size)=(List.range xs.length).all e:=by
     rw[<- el,Nat.min_self,G4,Fh]
     congr 2
     simp[<- r.length]
    rw[e2]at hh;exact hh
   ·have j1:j<xs.length:=by rw[r.length];simpa using g1
    have j2:j<ys.length:=by omega
    obtain⟨w',z1,q⟩:=r.get (aB j1);obtain⟨w'',z2,q'⟩:=r'.get (aB j2);have e1:its.toArray[j]=w':=by have:=(bN.mp z1).2;simpa using this
    have e2:its2.toArray[j]=w'':=by have:=(bN.mp z2).2;simpa using this
    rw[e1,e2];exact ih j _ _ (aB j1) (aB j2) (by show A.units+1+n<cLine;omega) q q'
 |lst n a b xs ys e h1 h2 hl hi ih =>
  intro A v u hu r1 r2
  by_cases hab:v=u
  ·have:=cg.De I (.lst n a b xs ys e h1 h2 hl hi) r1 (hab▸r2)
   rw[this,hab];exact wW _
  ·cases r1
   cases r2;obtain⟨its,r,t1,_⟩:=I.list h1;obtain⟨its2,r',t2,_⟩:=I.list h2;refine Gw (λz=>hab (by rw[z])) ?_;have el:its.toArray.size=its2.toArray.size:=by simp;rw[<- r.length,<- r'.length];exact hl
   have hh:=SeqAt.RcAt.lists (A:=A) (s:=s) (e:=e) t1.isList t2.isList el (by omega) λj g1 g2=>?_
   ·have e2:(List.range its.toArray.size).all e=(List.range xs.length).all e:=by
     congr 2
     simp[<- r.length]
    rw[e2]at hh;exact hh
   ·have j1:j<xs.length:=by rw[r.length];simpa using g1
    have j2:j<ys.length:=by omega
    obtain⟨w',z1,q⟩:=r.get (aB j1);obtain⟨w'',z2,q'⟩:=r'.get (aB j2);have e1:its.toArray[j]=w':=by have:=(bN.mp z1).2;simpa using this
    have e2:its2.toArray[j]=w'':=by have:=(bN.mp z2).2;simpa using this
    rw[e1,e2];exact ih j _ _ (aB j1) (aB j2) (by show A.units+1+n<cLine;omega) q q'
 |lens n a b xs ys h1 h2 hl =>
  intro A v u hu r1 r2
  by_cases hab:v=u
  ·have:=cg.De I (.lens n a b xs ys h1 h2 hl) r1 (hab▸r2)
   cases this
  ·cases r1
   cases r2;obtain⟨its,r,t1,_⟩:=I.list h1;obtain⟨its2,r',t2,_⟩:=I.list h2;refine Gw (λz=>hab (by rw[z])) (SeqAt.RcAt.lists_lengths t1.isList t2.isList ?_ (by omega));have:its.length≠its2.length:=by rw[<- r.length,<- r'.length];exact hl
   simpa using this
end
def wk(K:W.Frag)(H:Hp)(n:Nat)(xs ys:List V)(e:Nat->Bool):Prop:=xs.length=ys.length/\∀(j:Nat) x y,xs[j]? = some x->ys[j]? = some y->cg K H n x y (e j)
def Zk(K:W.Frag)(c ne:Bool)(n:Nat):R2:=λx y H Q=>∃a b xs ys e,x = .ref a/\y = .ref b/\Sq c K H a xs/\Sq c K H b ys/\wk K H n xs ys e/\Q (.bl (ne != (List.range xs.length).all e)) H
theorem K8{X:Cx}{K:W.Frag}(c:Bool)(n:Nat)(h:X.K=K)(hu:X.A.units+1+n<cLine):bT X (compareOp .NotEq) (Zk K c true n):=by
 subst h;intro pins s σ H x y v u Q I rx ry h;obtain⟨a,b,xs,ys,e,rfl,rfl,ha,hb,⟨hl,hi⟩,q⟩:=h;cases rx;cases ry;cases c with
 |true =>
  obtain⟨its,r,t1,_⟩:=I.list ha;obtain⟨its2,r',t2,_⟩:=I.list hb;have el:its.toArray.size=its2.toArray.size:=by simp;rw[<- r.length,<- r'.length];exact hl
  have hh:=SeqAt.RcNeAt.lists (A:=X.A) (s:=s) (e:=e) t1.isList t2.isList el (by omega) λj g1 g2=>?_
  ·have e2:(List.range its.toArray.size).all e=(List.range xs.length).all e:=by
    congr 2
    simp[<- r.length]
   rw[e2]at hh;exact hh _ _ _ _ ⟨.bl (!(List.range xs.length).all e),H,I,rfl,by simpa using q⟩
  ·have j1:j<xs.length:=by rw[r.length];simpa using g1
   have j2:j<ys.length:=by omega
   obtain⟨w',z1,q⟩:=r.get (aB j1);obtain⟨w'',z2,q'⟩:=r'.get (aB j2);have e1:its.toArray[j]=w':=by have:=(bN.mp z1).2;simpa using this
   have e2:its2.toArray[j]=w'':=by have:=(bN.mp z2).2;simpa using this
   rw[e1,e2];exact cg.at I (hi j _ _ (aB j1) (aB j2)) (by show X.A.units+1+n<cLine;omega) q q'
 |false =>
  obtain⟨its,r,t1,_⟩:=I.tuple ha;obtain⟨its2,r',t2,_⟩:=I.tuple hb;have el:its.toArray.size=its2.toArray.size:=by simp;rw[<- r.length,<- r'.length];exact hl
  have hh:=SeqAt.RcNeAt.tuples (A:=X.A) (s:=s) (e:=e) t1 t2 (by omega) λj g1 g2=>?_
  ·have e2:((List.range (min its.toArray.size its2.toArray.size)).all e&&its.toArray.size == its2.toArray.size)=(List.range xs.length).all e:=by
    rw[<- el,Nat.min_self,G4,Fh]
    congr 2
    simp[<- r.length]
   rw[e2]at hh;exact hh _ _ _ _ ⟨.bl (!(List.range xs.length).all e),H,I,rfl,by simpa using q⟩
  ·have j1:j<xs.length:=by rw[r.length];simpa using g1
   have j2:j<ys.length:=by omega
   obtain⟨w',z1,q⟩:=r.get (aB j1);obtain⟨w'',z2,q'⟩:=r'.get (aB j2);have e1:its.toArray[j]=w':=by have:=(bN.mp z1).2;simpa using this
   have e2:its2.toArray[j]=w'':=by have:=(bN.mp z2).2;simpa using this
   rw[e1,e2];exact cg.at I (hi j _ _ (aB j1) (aB j2)) (by show X.A.units+1+n<cLine;omega) q q'
section
variable {prog:Program} {w:World} {A:Around} {E:Value->Shared->Prop}
theorem Hv{it t:Addr}{items:Array Value}(hne:t≠it):∀(n i:Nat) (s:Shared) (Q:List Value->Shared->Prop),s.heap.IsListIter it t i->s.heap.IsList t items->i+n<=items.size ->
  (∀h',h'.IsListIter it t (i+n)->Heap.SameBut it s.heap h'->Q ((items.toList.drop i).take n) {s with heap:=h'})->wpAny (model prog w) A (draw (.ref it) n) Q E s
 |0,i,s,Q,hit,_,_,hQ=>by
  show wpAny _ _ (pure []) Q E s;exact aI (by simpa using hQ s.heap hit (Heap.SameBut.refl ..))
 |n+1,i,s,Q,hit,ht,hle,hQ=>by
  have hlt:i<items.size:=by omega
  show wpAny _ _ (pyNext (.ref it) >>= _) Q E s;refine ai (wpAny_pyNext_list_item hit ht (x:=items[i]) (by simp[hlt]) λh₁ hit₁ hs₁=>?_);refine ai (eF (Hv hne n (i+1) _ _ hit₁ (ht.extBut hs₁.extBut hne) (by omega) λh₂ hit₂ hs₂=>aI ?_));have hd:items.toList.drop i=items[i]::items.toList.drop (i+1):=by simp[List.drop_eq_getElem_cons,hlt]
  have:=hQ h₂ (by rw[show i+(n+1)=i+1+n by omega];exact hit₂) (hs₁.trans hs₂);rw[hd,List.take_succ_cons]at this;exact this
variable {s:Shared}
theorem aa1{t:Addr}{items:Array Value}{Q:List Value->Shared->Prop}(hh:A.handled=none)(ht:s.heap.IsList t items)
  (hQ:∀h',Heap.ExtBut s.heap.objs.size s.heap h'->Q items.toList {s with heap:=h'}):wpAny (model prog w) A (unpackItems (.ref t) items.size none) Q E s:=by
 have hlt:t≠s.heap.objs.size:=by obtain⟨o,ho,_⟩:=ht;exact bu (aQ ho)
 unfold unpackItems;refine ai ?_;unfold notIterableAtAll;refine ai (sM ht.typeIs slot_list_iter.lookup ?_);refine aI ?_;simp only[h7,gi];refine ai (eF (pL ht ?_));refine ai (eF (Hv hlt items.size 0 _ _ ⟨_,cn _ rfl,rfl,rfl⟩ (ht.push _) (by omega) λh₁ hit₁ hs₁=>?_));have hall:List.take items.size (List.drop 0 items.toList)=items.toList:=by
  rw[rT];exact mW (by simp)
 rw[hall];rw[if_neg (by simp)];have ht₁:h₁.IsList t items:=(ht.push _).extBut hs₁.extBut hlt;refine ai (eF (wpAny_pyNext_list_end hh hit₁ ht₁ (by simp) λh₂ he₂=>?_));simp only[Option.isSome_none,h7,gi];refine aI (hQ h₂ λb o hb e=>he₂ b o hb (hs₁.extBut b o hb (aU _ e)))
theorem Qm{env:Env}{elts:List Expr}{x1}{pos:Pos}{t:Addr}{items:Array Value}{Q:Unit->Shared->Prop}(hh:A.handled=none)(ht:s.heap.IsList t items)(hn:(assignEach elts env).length=items.size)(hstar:(assignEach elts env).findIdx? (·.1)=none)
  (h:∀h',Heap.ExtBut s.heap.objs.size s.heap h'->wpAny (model prog w) A (assignInOrder ((assignEach elts env).map (·.2)) items.toList) Q E {s with heap:=h'}) :
  wpAny (model prog w) A (assign (.Tuple elts x1 pos) env (.ref t)) Q E s:=by
 rw[assign_Tuple];refine ai (nr ?_);unfold unpack;rw[hn,hstar];exact ai (eF (aa1 hh ht h))
end
def Si(K:W.Frag)(n:Nat)(t:jF):TG:=λv σ H Q=>∃a xs,v = .ref a/\ah K H a xs/\xs.length=n/\t xs σ H Q
theorem YS{X:Cx}{K:W.Frag}{es:List Expr}{k:Nat}{t:jF}{n:Nat}{pos:Pos}(hK:X.K=K)(hc:X.calm=true)(h:pH X es t)(hn:(assignEach es X.env).length=n:=by rfl)(hst:(assignEach es X.env).findIdx? (·.1)=none:=by rfl):PG X (.Tuple es k pos) (Si K n t):=by
 subst hK;intro pins s σ H v u Q I r hw;obtain⟨a,xs,e1,hq,hl,hw⟩:=hw;subst e1;cases r;obtain⟨its,rv,ht,hz⟩:=I.list hq;refine Qm (I.ok.hd hc) ht.isList (by simp[hn,<- hl,rv.length]) hst λh' hx=>?_
 have I1:Inv X pins σ H {s with heap:=h'}:=I.kept (t':=s.toks) λb o e=>hx b o (bu (aQ e)) e
 exact h pins _ σ H xs _ Q I1 (by simpa using rv) hw
end L2
namespace Ev
def Sub(x y:Nat):Prop:=x&&& y=x
instance (x y:Nat):Decidable (Sub x y):=inferInstanceAs (Decidable (_=_))
theorem Sub.rfl'(x:Nat):Sub x x:=wI x
theorem Sub.trans{x y z:Nat}(a:Sub x y)(b:Sub y z):Sub x z:=by
 unfold Sub at *;rw[<- a,sd,b]
theorem Sub.antisymm{x y:Nat}(a:Sub x y)(b:Sub y x):x=y:=by
 unfold Sub at *;rw[<- a,wH,b]
theorem Sub.le{x y:Nat}(a:Sub x y):x<=y:=by
 unfold Sub at a;rw[<- a];exact Nat.and_le_right
theorem Sub.and_left(x y:Nat):Sub (x&&& y) x:=by
 unfold Sub;rw[sd,wH y x,<- sd,wI]
theorem Sub.and_right(x y:Nat):Sub (x&&& y) y:=by
 unfold Sub;rw[sd,wI]
theorem Sub.xh{x a b:Nat}:Sub x (a&&& b) ↔ Sub x a/\Sub x b:=by
 constructor
 ·intro h
  exact⟨h.trans (Sub.and_left a b),h.trans (Sub.and_right a b)⟩
 ·rintro⟨h1,h2⟩
  unfold Sub at *;rw[<- sd,h1,h2]
structure cz (M:List Nat):Prop where
 nd:M.Nodup
 len:M.length<=24
 meet:∀x∈M,∀y∈M,x&&& y∈M
 top:∃t∈M,∀x∈M,Sub x t
theorem cz.pos{M:List Nat}(L:cz M):0<M.length:=by
 obtain⟨t,ht,_⟩:=L.top;exact PL ht
theorem cz.perm{M M':List Nat}(L:cz M)(p:M.Perm M'):cz M' where
 nd:=p.nodup_iff.mp L.nd
 len:=by rw[<- p.length_eq];exact L.len
 meet:=λx hx y hy=>p.mem_iff.mp (L.meet x (p.mem_iff.mpr hx) y (p.mem_iff.mpr hy))
 top:=by
  obtain⟨t,ht,h⟩:=L.top;exact⟨t,p.mem_iff.mp ht,λx hx=>h x (p.mem_iff.mpr hx)⟩
def aN(M:List Nat)(i j:Nat):Bool:=decide (Sub (M.getD i 0) (M.getD j 0))
theorem eL{M:List Nat}{i j:Nat}:aN M i j=true ↔ Sub (M.getD i 0) (M.getD j 0):=by simp[aN]
theorem kM(M:List Nat)(i:Nat):aN M i i=true:=eL.mpr (Sub.rfl' _)
theorem J9{M:List Nat}{i j k:Nat}(a:aN M i j=true)(b:aN M j k=true):aN M i k=true:=eL.mpr ((eL.mp a).trans (eL.mp b))
theorem getD_mem{M:List Nat}{i:Nat}(h:i<M.length):M.getD i 0∈M:=by
 rw[aO,aB h];exact ft h
theorem tQ{M:List Nat}{x:Nat}(h:x∈M):∃i,i<M.length/\M.getD i 0=x:=by
 obtain⟨i,hi,e⟩:=iG h;exact⟨i,hi,by rw[aO,aB hi];exact e⟩
theorem getD_inj{M:List Nat}(nd:M.Nodup){i j:Nat}(hi:i<M.length)(hj:j<M.length)(e:M.getD i 0=M.getD j 0):i=j:=by
 rw[aO,aO,aB hi,aB hj]at e;exact(wA nd).mp e
theorem J8{M:List Nat}(nd:M.Nodup){i j:Nat}(hi:i<M.length)(hj:j<M.length)(a:aN M i j=true)(b:aN M j i=true):i=j:=
 getD_inj nd hi hj ((eL.mp a).antisymm (eL.mp b))
theorem cz.Ks{M:List Nat}(L:cz M){a b:Nat}(ha:a<M.length)(hb:b<M.length):∃c,c<M.length/\M.getD c 0=M.getD a 0&&& M.getD b 0/\∀x,aN M x c=(aN M x a&&aN M x b):=by
 obtain⟨c,hc,e⟩:=tQ (L.meet _ (getD_mem ha) _ (getD_mem hb));refine⟨c,hc,e,λx=>?_⟩;rw[dQ,bD,eL,eL,eL,e];exact Sub.xh
theorem Ig{M:List Nat}(hm:∀x∈M,∀y∈M,x&&& y∈M):∀(S:List Nat) (t:Nat),(∀x∈S,x∈M)->t∈M->S.foldl (·&&& ·) t∈M/\Sub (S.foldl (·&&& ·) t) t/\(∀x∈S,Sub (S.foldl (·&&& ·) t) x)/\∀y,Sub y t->(∀x∈S,Sub y x)->Sub y (S.foldl (·&&& ·) t)
 | [],t,_,ht=>⟨ht,Sub.rfl' t,λ_ h=>(nomatch h),λ_ h _=>h⟩
 |s::S,t,hS,ht=>by
  have hs:s∈M:=hS s b9;obtain⟨h1,h2,h3,h4⟩:=Ig hm S (t&&& s) (λx hx=>hS x (cu _ hx)) (hm t ht s hs);rw[List.foldl_cons];refine⟨h1,h2.trans (Sub.and_left t s),λx hx=>?_,λy hy hx=>h4 y (Sub.xh.mpr ⟨hy,hx s b9⟩) λx h=>hx x (cu _ h)⟩
  rcases bq.mp hx with rfl|hx
  ·exact h2.trans (Sub.and_right t x)
  ·exact h3 x hx
theorem cz.JN{M:List Nat}(L:cz M){a b:Nat}(ha:a<M.length)(hb:b<M.length):∃c,c<M.length/\∀x,x<M.length->aN M c x=(aN M a x&&aN M b x):=by
 obtain⟨t,ht,htop⟩:=L.top
 let S:=M.filter λx=>decide (Sub (M.getD a 0) x)&&decide (Sub (M.getD b 0) x)
 obtain⟨h1,h2,h3,h4⟩:=Ig L.meet S t (λx hx=>(cT.mp hx).1) ht;obtain⟨c,hc,e⟩:=tQ h1;refine⟨c,hc,λx hx=>?_⟩;have JB:∀y∈S,Sub (M.getD a 0) y/\Sub (M.getD b 0) y:=λy hy=>by
  have:=(cT.mp hy).2;simpa[bD]using this
 have ka:Sub (M.getD a 0) (S.foldl (·&&& ·) t):=h4 _ (htop _ (getD_mem ha)) λy hy=>(JB y hy).1
 have kb:Sub (M.getD b 0) (S.foldl (·&&& ·) t):=h4 _ (htop _ (getD_mem hb)) λy hy=>(JB y hy).2
 rw[dQ,bD,eL,eL,eL,e]
 constructor
 ·intro h
  exact⟨ka.trans h,kb.trans h⟩
 ·rintro⟨h,h'⟩
  exact h3 _ (cT.mpr ⟨getD_mem hx,by rw[bD];exact⟨cB h,cB h'⟩⟩)
structure j9 (n:Nat) (ps:List (Nat × Nat)) (R:Nat->Nat->Bool):Prop where
 refl:∀a,a<n->R a a=true
 has:∀p∈ps,R p.1 p.2=true
 trans:∀a b c,a<n->b<n->c<n->R a b=true->R b c=true->R a c=true
 least:∀T:Nat->Nat->Bool,(∀a,a<n->T a a=true)->(∀p∈ps,T p.1 p.2=true)->(∀a b c,a<n->b<n->c<n->T a b=true->T b c=true->T a c=true) ->
  ∀a b,a<n->b<n->R a b=true->T a b=true
structure jH (n:Nat) (ps:List (Nat × Nat)) (m:Nat) (R:Nat->Nat->Bool):Prop where
 refl:∀a,a<n->R a a=true
 has:∀p∈ps,R p.1 p.2=true
 tr:∀k,k<m->∀a b,a<n->b<n->R a k=true->R k b=true->R a b=true
 least:∀T:Nat->Nat->Bool,(∀a,a<n->T a a=true)->(∀p∈ps,T p.1 p.2=true)->(∀a b c,a<n->b<n->c<n->T a b=true->T b c=true->T a c=true) ->
  ∀a b,a<n->b<n->R a b=true->T a b=true
def j7(R:Nat->Nat->Bool)(m:Nat):Nat->Nat->Bool:=λa b=>R a b||(R a m&&R m b)
theorem vS{R:Nat->Nat->Bool}{m a b:Nat}:j7 R m a b=true ↔ R a b=true\/(R a m=true/\R m b=true):=by simp[j7]
theorem jH.step{n m:Nat}{ps:List (Nat × Nat)}{R:Nat->Nat->Bool}(W:jH n ps m R)(hm:m<n):jH n ps (m+1) (j7 R m) where
 refl:=λa ha=>vS.mpr (.inl (W.refl a ha))
 has:=λp hp=>vS.mpr (.inl (W.has p hp))
 tr:=λk hk a b ha hb h1 h2=>by
  rw[vS]at *
  by_cases e:k=m
  ·subst e
   have h1':R a k=true:=h1.elim id (·.1);have h2':R k b=true:=h2.elim id (·.2);exact .inr ⟨h1',h2'⟩
  ·have hk':k<m:=by omega
   rcases h1 with h1|⟨h1,h1'⟩
   ·rcases h2 with h2|⟨h2,h2'⟩
    ·exact .inl (W.tr k hk' a b ha hb h1 h2)
    ·exact .inr ⟨W.tr k hk' a m ha hm h1 h2,h2'⟩
   ·rcases h2 with h2|⟨h2,h2'⟩
    ·exact .inr ⟨h1,W.tr k hk' m b hm hb h1' h2⟩
    ·exact .inr ⟨h1,h2'⟩
 least:=λT t1 t2 t3 a b ha hb h=>by
  rcases vS.mp h with h|⟨h,h'⟩
  ·exact W.least T t1 t2 t3 a b ha hb h
  ·exact t3 a m b ha hm hb (W.least T t1 t2 t3 a m ha hm h) (W.least T t1 t2 t3 m b hm hb h')
theorem jH.done{n:Nat}{ps:List (Nat × Nat)}{R:Nat->Nat->Bool}(W:jH n ps n R):j9 n ps R:=
 ⟨W.refl,W.has,λa b c ha hb hc h1 h2=>W.tr b hb a c ha hc h1 h2,W.least⟩
def base(ps:List (Nat × Nat)):Nat->Nat->Bool:=λa b=>a == b||ps.any λp=>p.1 == a&&p.2 == b
theorem nB{ps:List (Nat × Nat)}{a b:Nat}:base ps a b=true ↔ a=b\/(a,b)∈ps:=by
 simp only[base,Fl,il,pj,bD]
 constructor
 ·rintro(h|⟨⟨x,y⟩,hp,rfl,rfl⟩)
  ·exact .inl h
  ·exact .inr hp
 ·rintro(h|h)
  ·exact .inl h
  ·exact .inr ⟨(a,b),h,rfl,rfl⟩
theorem jH.start{n:Nat}{ps:List (Nat × Nat)}(hp:∀p∈ps,p.1<n/\p.2<n):jH n ps 0 (base ps) where
 refl:=λa _=>nB.mpr (.inl rfl)
 has:=λp hp=>nB.mpr (.inr hp)
 tr:=λk hk=>by omega
 least:=λT t1 t2 _ a b ha _ h=>by
  rcases nB.mp h with rfl|h
  ·exact t1 a ha
  ·exact t2 _ h
def stepM(M:List Nat)(a b:Nat):Prop:=a≠b/\aN M a b=true/\∀c,c<M.length->aN M a c=true->aN M c b=true->c=a\/c=b
theorem j9.RD{M:List Nat}{ps:List (Nat × Nat)}{R:Nat->Nat->Bool}(nd:M.Nodup)(C:j9 M.length ps R)(h1:∀p∈ps,aN M p.1 p.2=true)(h2:∀a b,a<M.length->b<M.length->stepM M a b->(a,b)∈ps):∀a b,a<M.length->b<M.length->R a b=aN M a b:=by
 have go:∀(d a b:Nat),a<M.length->b<M.length->M.getD b 0 - M.getD a 0=d->aN M a b=true->R a b=true:=by
  intro d
  induction d using Nat.strongRecOn with
  |_ d ih =>
   intro a b ha hb hd hl
   by_cases e:a=b
   ·subst e;exact C.refl a ha
   ·by_cases hs:stepM M a b
    ·exact C.has _ (h2 a b ha hb hs)
    ·have hc:∃c,c<M.length/\aN M a c=true/\aN M c b=true/\c≠a/\c≠b:=by
      apply Fn
      intro hn;refine hs ⟨e,hl,λc hc h1 h2=>?_⟩;apply Fn
      intro hcc;exact hn ⟨c,hc,h1,h2,λz=>hcc (.inl z),λz=>hcc (.inr z)⟩
     obtain⟨c,hc,l1,l2,n1,n2⟩:=hc;have i1:=(eL.mp l1).le;have i2:=(eL.mp l2).le;have j1:M.getD a 0≠M.getD c 0:=λz=>n1 (getD_inj nd hc ha z.symm)
     have j2:M.getD c 0≠M.getD b 0:=λz=>n2 (getD_inj nd hc hb z)
     exact C.trans a c b ha hc hb (ih _ (by omega) a c ha hc rfl l1) (ih _ (by omega) c b hc hb rfl l2)
 intro a b ha hb;rw[dQ];exact⟨λh=>C.least (aN M) (λa _=>kM M a) h1 (λa b c _ _ _=>J9) a b ha hb h,λh=>go _ a b ha hb rfl h⟩
instance (M:List Nat):Decidable (cz M):=
 decidable_of_iff (M.Nodup/\M.length<=24/\(∀x∈M,∀y∈M,x&&& y∈M)/\∃t∈M,∀x∈M,Sub x t)
  ⟨λ⟨a,b,c,d⟩=>⟨a,b,c,d⟩,λ⟨a,b,c,d⟩=>⟨a,b,c,d⟩⟩
def gX(k:Nat):List Nat:=[0]++(if 1<k then(List.range k).map (λi=>2 ^ i)else[])++[2 ^ k - 1]
def mH(one other:List Nat)(p:Nat):List Nat:=one++(other.drop 1).map λm=>one.getLastD 0 ||| (m * 2 ^ p)
def ky(one other:List Nat):List Nat:=one.flatMap λm=>other.map λx=>m ||| (x * 2 ^ 10)
def hW(k:Nat):List Nat:=([0,1,3,7,15,31]:List Nat).take k
def kW:Nat->List Nat
 |0=>[0,1,2,6,7]
 |_=>[0,1,3,4,12,15]
def Ib:List Nat:=[1,255]++((List.range 7).map λi=>1 ||| 2 ^ (1+i)) ++
 (List.range 7).map λk=>(((List.range 8).filter λr=>([0,1,1,0,1,0,0,1]:List Nat).getD (r&&& (1+k)) 0 == 0).map λr=>2 ^ r).sum
theorem Vy:∀a,a<5->∀b,b<5->∀c,c<4->cz (mH (mH (gX (1+a)) (gX (1+b)) 10) (gX (1+c)) 20):=by decide +kernel
theorem Vz:cz Ib:=by decide +kernel
theorem VB:∀a,a<4->∀b,b<6->cz (ky (hW (1+a)) (hW (1+b))):=by decide +kernel
theorem VD:∀a,a<4->∀b,b<4->cz (ky (hW (1+a)) (gX (1+b))):=by decide +kernel
theorem VF:∀a,a<4->∀b,b<2->cz (ky (hW (1+a)) (kW b)):=by decide +kernel
theorem VG:∀a,a<5->∀b,b<2->cz (mH (kW b) (gX (1+a)) 10):=by decide +kernel
theorem KR:∀(n:Nat) (l:List Nat),l.Nodup->(∀x∈l,x<n)->l.length<=n
 |0,l,_,h=>by
  cases l with
  |nil=>exact aW _
  |cons a r=>exact absurd (h a b9) (wK _)
 |n+1,l,nd,h=>by
  have ih:=KR n (l.erase n) (nd.erase n) λx hx=>by
   have h1:=h x (List.mem_of_mem_erase hx);have h2:x≠n:=λe=>by subst e;exact nd.not_mem_erase hx
   omega
  have h3:l.length<=(l.erase n).length+1:=by rw[List.length_erase];split <;> omega
  omega
end Ev
namespace My
open PySem PySem.Spec PyProof.Rows L2
def top(i:Nat):Stmt:=PySem.Challenge.pw_evenclimb_k43_what_paired_and_longer_ref.main.body.getD i (.Pass ⟨0,0,0,0⟩)
structure Txt (mg:Str->Option Value):Prop where
 len:mg "len" = none
 range:mg "range" = none
 zip:mg "zip" = none
 enumerate:mg "enumerate" = none
 tuple:mg "tuple" = none
 list:mg "list" = none
 int:mg "int" = none
 bool:mg "bool" = none
 str:mg "str" = none
 isinstance:mg "isinstance" = none
 sum:mg "sum" = none
 any:mg "any" = none
 all:mg "all" = none
 sorted:mg "sorted" = none
 min:mg "min" = none
 max:mg "max" = none
 most:∃t,mg "MOST_THINGS" = some (.int 24 t)
section
variable {P:Program} {w:World} {K:W.Frag} {mg:Str->Option Value} {base:Heap} {f:Addr} {fd:FuncData}
abbrev Cd:Stmt:=top 20
theorem Mz:aZ ["value"] ["value"] (aA Cd):=⟨rfl,rfl,rfl,by decide +kernel,rfl,by decide +kernel,by decide +kernel⟩
def vA:Sp:=Pu (λvs _=>∃i,vs = [.int i]) λ_ _ v _=>v = .bl true
theorem Xs (F:aR K "is_whole" "is_whole" Cd f fd) (T:Txt mg):aL P w K mg base aX 1 f fd ["value"] vA:=by
 refine F.ok Mz (λvs H Q E h=>?_) (λcdv A outer s H vs Q E hr h=>?_)
 ·obtain⟨⟨i,rfl⟩,_⟩:=h
  rfl
 ·obtain⟨⟨i,rfl⟩,k⟩:=h
  have nd:=Mz.nd;refine⟨_,(ax (aV (mB (bx (sZ (K:=K) "int" rfl) rfl T.isinstance eE (ae (pv 0) (ae (qM (v:=.ty "int") rfl T.int pS rfl) ag))) (kT (Lk (bx (sZ (K:=K) "bool" rfl) rfl T.isinstance eE (ae (pv 0) (ae (qM (v:=.ty "bool") rfl T.bool Qy rfl) ag)))))))),?_⟩;refine⟨_,rfl,_,_,_,rfl,.int i,rfl,true,rfl,eR ?_⟩;exact⟨_,rfl,_,_,_,rfl,.int i,rfl,false,rfl,k _ _ (Same.refl _) rfl⟩
abbrev Cb:Stmt:=top 21
theorem Mx:aZ ["count","number"] ["count","number"] (aA Cb):=⟨rfl,rfl,rfl,by decide +kernel,rfl,by decide +kernel,by decide +kernel⟩
def vz:Sp:=Pu (λvs _=>∃n i,vs = [.int n,.int i]) λvs _ v _=>∀n i,vs = [.int n,.int i]->v = .bl (decide (0<=i/\i<n))
theorem Xr (F:aR K "is_thing" "is_thing" Cb f fd) (T:Txt mg) (nE:aG P w K mg base "is_whole" ["value"] 1 vA):aL P w K mg base aX 2 f fd ["count","number"] vz:=by
 refine F.ok Mx (λvs H Q E h=>?_) (λcdv A outer s H vs Q E hr h=>?_)
 ·obtain⟨⟨n,i,rfl⟩,_⟩:=h
  rfl
 ·obtain⟨⟨n,i,rfl⟩,k⟩:=h
  have nd:=Mx.nd;refine⟨_,(ax (aV (mB (aM nE hr rfl (ae (pv 1) ag)) (kT (Yx Bq Br ak (pv 1) (pv 0)))))),?_⟩;refine⟨_,rfl,⟨i,rfl⟩,λv H1 s1 hv=>?_⟩;subst hv;refine⟨true,rfl,eR ?_⟩;refine⟨_,rfl,_,_,rfl,rfl,_,rfl,bB (λh1=>?_) (λh1=>?_)⟩
  ·refine⟨_,rfl,_,_,rfl,rfl,k _ _ s1 ?_⟩
   intro n' i' e;cases e;rw[show decide (0<=i/\i<n)=decide (i<n)from by
    rw[fO]at h1;exact pZ.mpr ⟨λh=>h.2,λh=>⟨h1,h⟩⟩]
  ·refine k _ _ s1 ?_
   intro n' i' e;cases e;rw[bU (λh=>h1 (cB h.1))]
abbrev CT:Stmt:=top 22
theorem NB:aZ ["count","number"] ["count","number"] (aA CT):=⟨rfl,rfl,rfl,by decide +kernel,rfl,by decide +kernel,by decide +kernel⟩
def DX:Sp:=Pu (λvs _=>∃n i:Int,vs = [.int n,.int i]/\0<=i/\i<n) λ_ _ v _=>v = .non
theorem XH (F:aR K "need_thing" "need_thing" CT f fd) (T:Txt mg) (nD:aG P w K mg base "is_thing" ["count","number"] 2 vz):aL P w K mg base aX 3 f fd ["count","number"] DX:=by
 refine F.ok NB (λvs H Q E h=>?_) (λcdv A outer s H vs Q E hr h=>?_)
 ·obtain⟨⟨n,i,rfl,_⟩,_⟩:=h
  rfl
 ·obtain⟨⟨n,i,rfl,h0,h1⟩,k⟩:=h
  have nd:=NB.nd;refine⟨_,(ax (bz (iD (dY (aM nD hr rfl (ae (pv 0) (ae (pv 1) ag))))) (ax uO) bH)),?_⟩;refine⟨_,rfl,_,rfl,⟨n,i,rfl⟩,λv H1 s1 hv=>?_⟩;rw[hv n i rfl,cB (show 0<=i/\i<n from⟨h0,h1⟩)];exact⟨true,rfl,cG (k _ _ s1 rfl)⟩
abbrev CG:Stmt:=top 23
theorem Nu:aZ ["count"] ["count"] (aA CG):=⟨rfl,rfl,rfl,by decide +kernel,rfl,by decide +kernel,by decide +kernel⟩
def DQ:Sp:=Pu (λvs _=>∃n:Int,vs = [.int n]/\1<=n/\n<=24) λ_ _ v _=>v = .non
theorem XB (F:aR K "need_count" "need_count" CG f fd) (T:Txt mg) (nE:aG P w K mg base "is_whole" ["value"] 1 vA):aL P w K mg base aX 2 f fd ["count"] DQ:=by
 refine F.ok Nu (λvs H Q E h=>?_) (λcdv A outer s H vs Q E hr h=>?_)
 ·obtain⟨⟨n,rfl,_⟩,_⟩:=h
  rfl
 ·obtain⟨⟨n,rfl,h0,h1⟩,k⟩:=h
  have nd:=Nu.nd;obtain⟨t24,Rr⟩:=T.most;refine⟨_,(ax (bz (PW.pt (mD (iD (dY (aM nE hr rfl (ae (pv 0) ag)))) (oN (iD (Y_ Bq Bq ak (pv 0) (fH (v:=.int 24) rfl Rr ⟨_,rfl⟩)))))) (ax uO) bH)),?_⟩;refine⟨_,rfl,⟨n,rfl⟩,λv H1 s1 hv=>?_⟩;subst hv;refine⟨true,rfl,cG ?_⟩;refine⟨_,rfl,_,_,rfl,rfl,_,rfl,?_⟩;rw[if_pos (cB h0)];refine⟨_,_,rfl,rfl,_,rfl,?_⟩;rw[cB h1];exact cG (k _ _ s1 rfl)
end
def bX(H:Hp)(p:Nat × Nat)(v:V):Prop:=∃t,v = .ref t/\H t=some (.tup [.int p.1,.int p.2])
def m6(K:W.Frag)(H:Hp)(a:Addr)(ps:List (Nat × Nat)):Prop:=∃vs,ah K H a vs/\Paired (bX H) ps vs
def TT(H:Hp)(v:V)(n:Nat)(g:Nat->Nat->V):Prop:=∃a vs,v = .ref a/\H a=some (.tup vs)/\Paired (λi u=>∃b,u = .ref b/\H b=some (.tup ((List.range n).map (g i)))) (List.range n) vs
theorem bX.same{H H':Hp}(s:Same H H'){p:Nat × Nat}{v:V}(h:bX H p v):bX H' p v:=let⟨t,e,q⟩:=h;⟨t,e,s _ _ q⟩
theorem eU.same{H H':Hp}(s:Same H H'){ps:List (Nat × Nat)}{vs:List V}(h:Paired (bX H) ps vs):Paired (bX H') ps vs:=Paired.dA h λ_ _ q=>q.same s
theorem m6.same{K:W.Frag}{H H':Hp}{a:Addr}{ps:List (Nat × Nat)}(s:Same H H')(h:m6 K H a ps):m6 K H' a ps:=let⟨vs,e,q⟩:=h;⟨vs,s.seq e,eU.same s q⟩
theorem TT.same{H H':Hp}(s:Same H H'){v:V}{n:Nat}{g:Nat->Nat->V}(h:TT H v n g):TT H' v n g:=
 let⟨a,vs,e,q,r⟩:=h;⟨a,vs,e,s _ _ q,Paired.dA r λ_ _ ⟨b,e,q⟩=>⟨b,e,s _ _ q⟩⟩
theorem fk{α β:Type}{F:α->β->Prop}:∀{l:List α} {m:List β} {i:Nat} {y:β},Paired F l m->m[i]? = some y->∃x,l[i]? = some x/\F x y
 |_,_,_,_,.nil,h=>by simp at h
 |_,_,0,_,.cons r _,h=>by simp at h;subst h;exact⟨_,rfl,r⟩
 |_,_,i+1,y,.cons _ t,h=>by
  obtain⟨x,h1,h2⟩:=fk (i:=i) (y:=y) t (by simpa using h);exact⟨x,by simpa using h1,h2⟩
theorem jV{α β:Type}{F:α->β->Prop}:∀{l:List α} {m:List β} {i:Nat} {x:α},Paired F l m->l[i]? = some x->∃y,m[i]? = some y/\F x y
 |_,_,_,_,.nil,h=>by simp at h
 |_,_,0,_,.cons r _,h=>by simp at h;subst h;exact⟨_,rfl,r⟩
 |_,_,i+1,y,.cons _ t,h=>by
  obtain⟨x,h1,h2⟩:=jV (i:=i) (x:=y) t (by simpa using h);exact⟨x,by simpa using h1,h2⟩
theorem TT.row{H:Hp}{v:V}{n:Nat}{g:Nat->Nat->V}(h:TT H v n g){i:Nat}(hi:i<n):∃a vs b,v = .ref a/\H a=some (.tup vs)/\vs.length=n/\vs[i]? = some (.ref b)/\H b=some (.tup ((List.range n).map (g i))):=by
 obtain⟨a,vs,e,q,r⟩:=h;obtain⟨y,h1,b,rfl,h2⟩:=jV (i:=i) (x:=i) r (by simp[hi]);exact⟨a,vs,b,e,q,by simpa using(dq r).symm,h1,h2⟩
theorem pP{n:Nat}{g:Nat->V}{j:Nat}(hj:j<n):eQ ((List.range n).map g) (j:Int)=some (g j):=aH (by simp[hj])
theorem dZ{n:Nat}(h:n<=24):n<sizeLine:=mX h (by decide)
theorem cS{n:Nat}(h:n<=100000):n<sizeLine:=mX h (by decide)
theorem bS{n:Nat}(h:n<=100000):-(2 ^ 62)<=(n:Int)/\(n:Int)<2 ^ 62:=by omega
theorem yn{t i:Nat}:decide (V.int (t:Int)=V.int (0+(i:Int)))=decide (t=i):=by
 apply pZ.mpr
 constructor
 ·intro h;injection h with h;omega
 ·intro h;subst h;simp
section
variable {P:Program} {w:World} {K:W.Frag} {mg:Str->Option Value} {base:Heap} {f:Addr} {fd:FuncData}
abbrev CQ:Stmt:=top 24
theorem Nz:aZ ["count","pairs","pair"] ["count","pairs"] (aA CQ):=⟨rfl,rfl,rfl,by decide +kernel,rfl,by decide +kernel,by decide +kernel⟩
def DW(K:W.Frag):Sp:=Pu (λvs H=>∃(n a:Nat) (ps:List (Nat × Nat)),vs = [.int n,.ref a]/\m6 K H a ps/\∀p∈ps,p.1<n/\p.2<n) λ_ _ v _=>v = .non
theorem XF (F:aR K "need_pairs" "need_pairs" CQ f fd) (T:Txt mg) (sW:aG P w K mg base "need_thing" ["count","number"] 3 DX):aL P w K mg base aX 4 f fd ["count","pairs"] (DW K):=by
 refine F.ok Nz (λvs H Q E h=>?_) (λcdv A outer s H vs Q E hr h=>?_)
 ·obtain⟨⟨n,a,ps,rfl,_⟩,_⟩:=h
  rfl
 ·obtain⟨⟨n,a,ps,rfl,⟨vs,hl,hp⟩,hb⟩,k⟩:=h
  have nd:=Nz.nd;refine⟨_,(ax (cI cA rfl (dM (K:=K) rfl (pv 1)) (a_ (i:=2) nd rfl (Or.inl rfl))
   (au (cw (aM sW hr rfl (ae (pv 0) (ae (aq (aP (K:=K) rfl) (pv 2) ak (λ_ _=>rfl)) ag))))
   (ax (cw (aM sW hr rfl (ae (pv 0) (ae (aq (aP (K:=K) rfl) (pv 2) ak (λ_ _=>rfl)) ag)))))))),?_⟩
  refine⟨_,rfl,a,rfl,⟨_,hl⟩,jM (K:=K) (a:=a) (xs:=vs) (λi σ H2=>∃v,σ = [some (.int n),some (.ref a),v]/\Same H H2) ⟨none,rfl,Same.refl _⟩ (λi σ H2 _ ⟨_,_,s2⟩=>s2.seq hl) ?_ ?_⟩
  ·rintro i y σ H2 hi ⟨v,rfl,s2⟩
   obtain⟨p,hp1,t,rfl,ht⟩:=fk hp hi;obtain⟨b1,b2⟩:=hb p (dG hp1);refine⟨_,rfl,_,rfl,t,_,0,_,rfl,rfl,.inl (.inl (s2 _ _ ht)),rfl,⟨n,_,rfl,by omega,by omega⟩,λv3 H3 s3 _=>?_⟩;refine⟨_,rfl,_,rfl,t,_,1,_,rfl,rfl,.inl (.inl ((s2.trans s3) _ _ ht)),rfl,⟨n,_,rfl,by omega,by omega⟩,λv4 H4 s4 _=>?_⟩;exact⟨_,rfl,(s2.trans s3).trans s4⟩
  ·rintro σ H2 ⟨v,rfl,s2⟩
   exact k _ _ s2 rfl
abbrev vh:Stmt:=top 25
theorem NP:aZ ["count","thing"] ["count","thing"] (aA vh):=⟨rfl,rfl,rfl,by decide +kernel,rfl,by decide +kernel,by decide +kernel⟩
def bK(n:Nat)(p:Nat->Bool):List V:=(List.range n).map λb=>V.bl (p b)
def D_:Sp:=Pu (λvs H=>∃n t:Nat,vs = [.int n,.int t]/\n<=24) λvs H v H'=>∀n t:Nat,vs = [.int n,.int t]->∃a,v = .ref a/\H a=none/\H' a=some (.lst (bK n λb=>decide (t=b)))
theorem XM (F:aR K "own_row" "own_row" vh f fd) (T:Txt mg):aL P w K mg base aX 1 f fd ["count","thing"] D_:=by
 refine F.ok NP (λvs H Q E h=>?_) (λcdv A outer s H vs Q E hr h=>?_)
 ·obtain⟨⟨n,t,rfl,_⟩,_⟩:=h
  rfl
 ·obtain⟨⟨n,t,rfl,hn⟩,k⟩:=h
  have nd:=NP.nd;refine⟨_,(ax (aV (dc (own:=["other"]) (fr:=[("thing", 1)]) rfl (cj (aA vh) ["count","thing"] rfl rfl (by decide +kernel)) (df rfl T.range (ae (pv 0) ag)) (λ_ _ _ _=>⟨(a_ (i:=0) (by decide +kernel:(["other","thing"]:List Str).Nodup) rfl (Or.inl rfl)),dB,(oJ cX (pv 1) (pv 0) (bj _))⟩)))),?_⟩;refine⟨_,rfl,n,rfl,(bS (by omega)).1,(bS (by omega)).2,λD hD=>fN (λi=>.bl (decide (t=i))) src_range hD (dZ (by simpa using hn)) (λi H2 Kt hi hs hk=>?_) (λH' hs hl=>?_)⟩
  ·refine⟨_,rfl,_,rfl,rfl,?_⟩
   rw[yn];exact hk _ (Same.refl _)
  ·refine k _ _ hs ?_
   intro n' t' e;cases e;exact⟨D,rfl,hD,by rw[hl];simp[bK]⟩
end
theorem qW(n:Nat)(p:Nat->Bool):(bK n p).length=n:=by simp[bK]
theorem qV{n:Nat}{p:Nat->Bool}{i:Nat}(h:i<n):(bK n p).getD i .non = .bl (p i):=by simp[bK,h]
theorem ZQ{n:Nat}{p:Nat->Bool}{j:Nat}:(bK n p).set j (.bl true)=bK n λb=>if b=j then true else p b:=by
 apply lI
 ·simp[bK]
 ·intro i h1 h2
  simp only[bK,List.getElem_set,jD,lJ]
  by_cases e:j=i
  ·simp[e]
  ·have:¬ i=j:=λz=>e z.symm
   simp[e,this]
theorem kY{n:Nat}{p q:Nat->Bool}(h:∀b,b<n->p b=q b):bK n p=bK n q:=by
 unfold bK;apply mU
 intro b hb;rw[h b (by simpa using hb)]
section
variable {P:Program} {w:World} {K:W.Frag} {mg:Str->Option Value} {base:Heap} {f:Addr} {fd:FuncData}
abbrev u0:Stmt:=top 26
theorem Mp:aZ ["one","other"] ["one","other"] (aA u0):=⟨rfl,rfl,rfl,by decide +kernel,rfl,by decide +kernel,by decide +kernel⟩
def Dq:Sp:=Pu (λvs H=>∃(x y n:Nat) (p q:Nat->Bool),vs = [.ref x,.ref y]/\H x=some (.lst (bK n p))/\H y=some (.lst (bK n q))/\n<=24)
 λvs H v H'=>∀(x y n:Nat) (p q:Nat->Bool),vs = [.ref x,.ref y]->H x=some (.lst (bK n p))->H y=some (.lst (bK n q))->∃a,v = .ref a/\H a=none/\H' a=some (.lst (bK n λb=>p b||q b))
theorem uU{n m:Nat}{p q:Nat->Bool}(h:bK n p=bK m q):n=m/\∀b,b<n->p b=q b:=by
 have e:n=m:=by have:=congrArg List.length h;rwa [qW,qW]at this
 subst e;refine⟨rfl,λb hb=>?_⟩;have:=congrArg (λl=>l.getD b V.non) h;simp only[qV hb]at this;injection this
theorem Xf (F:aR K "either" "either" u0 f fd) (T:Txt mg):aL P w K mg base aX 1 f fd ["one","other"] Dq:=by
 refine F.ok Mp (λvs H Q E h=>?_) (λcdv A outer s H vs Q E hr h=>?_)
 ·obtain⟨⟨x,y,n,p,q,rfl,_⟩,_⟩:=h
  rfl
 ·obtain⟨⟨x,y,n,p,q,rfl,hx,hy,hn⟩,k⟩:=h
  have nd:=Mp.nd;refine⟨_,(ax (aV (dc (own:=["a","b"]) (fr:=[]) rfl (cj (aA u0) ["one","other"] rfl rfl (by decide +kernel)) (qN (K:=K) true true rfl rfl T.zip (ae (pv 0) (ae (pv 1) ag))) (λ_ _ _ _=>⟨(jX (K:=K) (i:=0) (j:=1) rfl rfl (by decide +kernel:(["a","b"]:List Str).Nodup) rfl rfl rfl rfl),dB,(YJ (pv 0) (kT (pv 1)))⟩)))),?_⟩;refine⟨_,rfl,_,rfl,x,y,_,_,rfl,ah.of hx,ah.of hy,λD hD=>fN (λi=>.bl (p i||q i)) (rq (c1:=true) (c2:=true) (ah.of hx) (ah.of hy) (n:=n) (by simp[qW])) hD (dZ hn) (λi H2 Kt hi hs hk=>?_) (λH' hs hl=>?_)⟩
  ·refine⟨_,rfl,p i,qV hi,bB (λh=>?_) (λh=>?_)⟩
   ·have:=hk _ (Same.refl _)
    simpa[h]using this
   ·refine⟨_,rfl,?_⟩
    have:=hk _ (Same.refl _);rw[qV hi];simpa[h]using this
  ·refine k _ _ hs ?_
   intro x' y' n' p' q' e h1 h2;cases e;rw[hx]at h1;rw[hy]at h2;injection h1 with h1
   injection h1 with h1
   injection h2 with h2
   injection h2 with h2
   obtain⟨rfl,e1⟩:=uU h1;obtain⟨_,e2⟩:=uU h2;refine⟨D,rfl,hD,?_⟩;rw[hl];show some (HO.lst (bK n λi=>p i||q i))=_;rw[kY λb hb=>by rw[e1 b hb,e2 b hb]]
abbrev vo:Stmt:=top 27
theorem N1:aZ ["one","other"] ["one","other"] (aA vo):=⟨rfl,rfl,rfl,by decide +kernel,rfl,by decide +kernel,by decide +kernel⟩
def Ee:Sp:=Pu (λvs H=>∃(x y n:Nat) (p q:Nat->Bool),vs = [.ref x,.ref y]/\H x=some (.tup (bK n p))/\H y=some (.tup (bK n q))/\n<=24)
 λvs H v H'=>∀(x y n:Nat) (p q:Nat->Bool),vs = [.ref x,.ref y]->H x=some (.tup (bK n p))->H y=some (.tup (bK n q))->∃a,v = .ref a/\H a=none/\H' a=some (.tup (bK n λb=>p b&&q b))
theorem XZ (F:aR K "shared" "shared" vo f fd) (T:Txt mg):aL P w K mg base aX 1 f fd ["one","other"] Ee:=by
 refine F.ok N1 (λvs H Q E h=>?_) (λcdv A outer s H vs Q E hr h=>?_)
 ·obtain⟨⟨x,y,n,p,q,rfl,_⟩,_⟩:=h
  rfl
 ·obtain⟨⟨x,y,n,p,q,rfl,hx,hy,hn⟩,k⟩:=h
  have nd:=N1.nd;refine⟨_,(ax (aV (gJ (lV (K:=K) rfl) rfl T.tuple kA (ae (dc (own:=["a","b"]) (fr:=[]) rfl (cj (aA vo) ["one","other"] rfl rfl (by decide +kernel)) (qN (K:=K) false false rfl rfl T.zip (ae (pv 0) (ae (pv 1) ag))) (λ_ _ _ _=>⟨(jX (K:=K) (i:=0) (j:=1) rfl rfl (by decide +kernel:(["a","b"]:List Str).Nodup) rfl rfl rfl rfl),dB,(mB (pv 0) (kT (pv 1)))⟩)) ag)))),?_⟩;refine⟨_,rfl,_,rfl,x,y,_,_,rfl,aF.of hx,aF.of hy,λD hD=>fN (λi=>.bl (p i&&q i)) (rq (c1:=false) (c2:=false) (aF.of hx) (aF.of hy) (n:=n) (by simp[qW])) hD (dZ hn) (λi H2 Kt hi hs hk=>?_) (λH' hs hl=>?_)⟩
  ·refine⟨_,rfl,p i,qV hi,bB (λh=>?_) (λh=>?_)⟩
   ·refine⟨_,rfl,?_⟩
    have:=hk _ (Same.refl _);rw[qV hi];simpa[h]using this
   ·have:=hk _ (Same.refl _)
    simpa[h]using this
  ·refine⟨D,_,rfl,.inl ⟨ah.of hl,λl hl'=>?_⟩⟩
   have hlH:H l=none:=hs.free hl';refine k _ _ (hs.trans (Same.put hl')) ?_;intro x' y' n' p' q' e h1 h2;cases e;rw[hx]at h1;rw[hy]at h2;injection h1 with h1
   injection h1 with h1
   injection h2 with h2
   injection h2 with h2
   obtain⟨rfl,e1⟩:=uU h1;obtain⟨_,e2⟩:=uU h2;refine⟨l,rfl,hlH,?_⟩;rw[ao];show some (HO.tup (bK n λi=>p i&&q i))=_;rw[kY λb hb=>by rw[e1 b hb,e2 b hb]]
abbrev uZ:Stmt:=top 28
theorem Mm:aZ ["rows","place"] ["rows","place"] (aA uZ):=⟨rfl,rfl,rfl,by decide +kernel,rfl,by decide +kernel,by decide +kernel⟩
def Dm:Sp:=Pu (λvs H=>∃(v:V) (n j:Nat) (g:Nat->Nat->V),vs = [v,.int j]/\TT H v n g/\j<n/\n<=24)
 λvs H v H'=>∀(u:V) (n j:Nat) (g:Nat->Nat->V),vs = [u,.int j]->TT H u n g->j<n->∃a,v = .ref a/\H a=none/\H' a=some (.tup ((List.range n).map λi=>g i j))
theorem TT.inj{H:Hp}{v:V}{n m:Nat}{g g':Nat->Nat->V}(h:TT H v n g)(h':TT H v m g'):n=m/\∀i j,i<n->j<n->g i j=g' i j:=by
 obtain⟨a,vs,e,q,r⟩:=id h;obtain⟨a',vs',e',q',r'⟩:=id h';rw[e]at e';injection e' with e'
 subst e';rw[q]at q';injection q' with q'
 injection q' with q'
 subst q';have en:n=m:=by
  have h1:=dq r;have h2:=dq r';simp at h1 h2;omega
 subst en;refine⟨rfl,λi j hi hj=>?_⟩;obtain⟨y,h1,b,rfl,h2⟩:=jV (i:=i) (x:=i) r (by simp[hi]);obtain⟨y',h1',b',rfl,h2'⟩:=jV (i:=i) (x:=i) r' (by simp[hi]);rw[h1]at h1';injection h1' with h1'
 injection h1' with h1'
 subst h1';rw[h2]at h2';injection h2' with h2'
 injection h2' with h2'
 have:=congrArg (λl=>l.getD j V.non) h2';simpa[hj]using this
theorem Xc (F:aR K "column" "column" uZ f fd) (T:Txt mg):aL P w K mg base aX 1 f fd ["rows","place"] Dm:=by
 refine F.ok Mm (λvs H Q E h=>?_) (λcdv A outer s H vs Q E hr h=>?_)
 ·obtain⟨⟨v,n,j,g,rfl,_⟩,_⟩:=h
  rfl
 ·obtain⟨⟨v,n,j,g,rfl,ht,hj,hn⟩,k⟩:=h
  have nd:=Mm.nd;obtain⟨a,us,rfl,hq,hr'⟩:=id ht;have hlen:us.length=n:=by simpa using(dq hr').symm
  refine⟨_,(ax (aV (gJ (lV (K:=K) rfl) rfl T.tuple kA (ae (dc (own:=["row"]) (fr:=[("place", 1)]) rfl (cj (aA uZ) ["rows","place"] rfl rfl (by decide +kernel)) (By (K:=K) rfl (pv 0)) (λ_ _ _ _=>⟨(a_ (i:=0) (by decide +kernel:(["row","place"]:List Str).Nodup) rfl (Or.inl rfl)),dB,(aq (aP (K:=K) rfl) (pv 0) (pv 1) (λ_ _=>rfl))⟩)) ag)))),?_⟩;refine⟨_,rfl,a,rfl,⟨_,aF.of hq⟩,λD hD=>fN (λi=>g i j) (Od (aF.of hq)) hD (dZ (by omega)) (λi H2 Kt hi hs hk=>?_) (λH' hs hl=>?_)⟩
  ·obtain⟨y,h1,b,rfl,h2⟩:=jV (i:=i) (x:=i) hr' (mQ (by omega))
   refine⟨_,rfl,_,rfl,b,_,j,_,(by rw[aO,h1];rfl),rfl,aF.of (hs _ _ h2),pP hj,hk _ (Same.refl _)⟩
  ·refine⟨D,_,rfl,.inl ⟨ah.of hl,λl hl'=>?_⟩⟩
   refine k _ _ (hs.trans (Same.put hl')) ?_;intro u' n' j' g' e h1 h2;injection e with e1 e2
   injection e2 with e2 _
   injection e2 with e2
   have ej:j=j':=by omega
   subst ej;rw[<- e1]at h1;obtain⟨rfl,eg⟩:=ht.inj h1;refine⟨l,rfl,hs.free hl',?_⟩;rw[ao,hlen]
   congr 2
   exact mU λi hi=>eg i j (by simpa using hi) hj
end
theorem WD{N:List Addr}(hN:N.Nodup){i j:Nat}{x:Addr}(a:N[i]? = some x)(b:N[j]? = some x):i=j:=by
 obtain⟨h1,e1⟩:=bN.mp a;obtain⟨h2,e2⟩:=bN.mp b;exact(wA hN).mp (e1.trans e2.symm)
theorem KS:∀{as:List Addr} {t b:Nat},as.Nodup->b ∉ as->(as.set t b).Nodup
 | [],_,_,_,_=>by simp
 |a::r,0,b,nd,hb=>iJ.mpr ⟨λh=>hb (cu _ h),(iJ.mp nd).2⟩
 |a::r,t+1,b,nd,hb=>by
  rw[List.set_cons_succ];refine iJ.mpr ⟨λh=>?_,KS (iJ.mp nd).2 λh=>hb (cu _ h)⟩
  rcases PN h with h|h
  ·exact(iJ.mp nd).1 h
  ·subst h;exact hb b9
structure fe (H0 H:Hp) (r n:Nat) (as:List Addr) (R:Nat->Nat->Bool):Prop where
 same:Same H0 H
 lst:H r=some (.lst (as.map V.ref))
 len:as.length=n
 nd:as.Nodup
 KJ:H0 r=none
 new:∀a∈as,H0 a=none/\a≠r
 row:∀(i:Nat) a,as[i]? = some a->H a=some (.lst (bK n (R i)))
theorem fe.congr{H0 H:Hp}{r n:Nat}{as:List Addr}{R R':Nat->Nat->Bool}(W:fe H0 H r n as R)(h:∀a b,a<n->b<n->R a b=R' a b):fe H0 H r n as R':=
 {W with row:=λi a e=>(W.row i a e).trans (by rw[kY λb hb=>h i b (by rw[<- W.len];exact(bN.mp e).1) hb])}
theorem fe.get{H0 H:Hp}{r n:Nat}{as:List Addr}{R:Nat->Nat->Bool}(W:fe H0 H r n as R){i:Nat}(hi:i<n):∃a,as[i]? = some a/\(as.map V.ref)[i]? = some (.ref a)/\a∈as/\H a=some (.lst (bK n (R i))):=by
 have h:i<as.length:=by rw[W.len];exact hi
 exact⟨as[i],aB h,by simp[h],ft h,W.row i _ (aB h)⟩
theorem fe.grow{H0 H H':Hp}{r n:Nat}{as:List Addr}{R:Nat->Nat->Bool}(W:fe H0 H r n as R)(s:Same H H'):fe H0 H' r n as R:=
 {W with same:=W.same.trans s,lst:=s _ _ W.lst,row:=λi a e=>s _ _ (W.row i a e)}
theorem fe.put{H0 H:Hp}{r n:Nat}{as:List Addr}{R:Nat->Nat->Bool}(W:fe H0 H r n as R){i j a:Nat}(ha:as[i]? = some a):
  fe H0 (upd H a (.lst ((bK n (R i)).set j (.bl true)))) r n as (λx y=>if x=i/\y=j then true else R x y):=by
 have am:a∈as:=dG ha;refine{W with same:=λb o e=>?_,lst:=?_,row:=λk b e=>?_}
 ·rw[aD (λz=>by rw[z,(W.new a am).1]at e;cases e)]
  exact W.same _ _ e
 ·rw[aD (bJ (W.new a am).2)]
  exact W.lst
 ·by_cases hk:k=i
  ·subst hk
   rw[ha]at e;cases e;rw[ao,ZQ]
   congr 2
   apply kY
   intro b hb;simp
  ·have hba:b≠a:=by
    rintro rfl;exact hk (WD W.nd e ha)
   rw[aD hba,W.row k b e]
   congr 2
   apply kY
   intro c hc;rw[if_neg (λz=>hk z.1)]
theorem fe.swap{H0 H:Hp}{r n:Nat}{as:List Addr}{R:Nat->Nat->Bool}(W:fe H0 H r n as R){t b:Nat}{p:Nat->Bool}(ht:t<n)(hb:H0 b=none)(hbr:b≠r)(hba:b ∉ as)(hp:H b=some (.lst (bK n p))):
  fe H0 (upd H r (.lst ((as.map V.ref).set t (.ref b)))) r n (as.set t b) (λx y=>if x=t then p y else R x y):=by
 refine⟨λc o e=>?_,?_,by rw[FJ];exact W.len,?_,W.KJ,λc hc=>?_,λk c e=>?_⟩
 ·rw[aD (λz=>by rw[z,W.KJ]at e;cases e)]
  exact W.same _ _ e
 ·rw[ao,List.map_set]
 ·exact KS W.nd hba
 ·rcases PN hc with h|h
  ·exact W.new c h
  ·subst h;exact⟨hb,hbr⟩
 ·by_cases hk:t=k
  ·subst hk
   have hlt:t<as.length:=by rw[W.len];exact ht
   rw[wz hlt]at e;cases e;rw[aD hbr,hp]
   congr 2
   apply kY
   intro y _;rw[if_pos rfl]
  ·rw[rX hk]at e
   rw[aD (W.new c (dG e)).2,W.row k c e]
   congr 2
   apply kY
   intro y _;rw[if_neg (λz=>hk z.symm)]
theorem Qs(a b:Nat):Ev.base [] a b=decide (a=b):=by rw[dQ,Ev.nB];simp
theorem Qt(ps:List (Nat × Nat))(p:Nat × Nat)(a b:Nat):Ev.base (ps++[p]) a b=if a=p.1/\b=p.2 then true else Ev.base ps a b:=by
 rw[dQ,Ev.nB]
 by_cases h:a=p.1/\b=p.2
 ·rw[if_pos h]
  obtain⟨rfl,rfl⟩:=h;simp
 ·rw[if_neg h,Ev.nB]
  simp only[f6,iI]
  constructor
  ·rintro(h1|h1|h1)
   ·exact .inl h1
   ·exact .inr h1
   ·subst h1;exact absurd ⟨rfl,rfl⟩ h
  ·rintro(h1|h1)
   ·exact .inl h1
   ·exact .inr (.inl h1)
section
variable {P:Program} {w:World} {K:W.Frag} {mg:Str->Option Value} {base:Heap} {f:Addr} {fd:FuncData}
theorem JL{n j:Nat}(h:j<n):iz n (j:Int)=some j:=by
 unfold iz;rw[if_pos (by omega),if_pos (by omega)];simp
abbrev pR (R:Nat->Nat->Bool):Nat->Nat->V:=λa b=>.bl (R a b)
abbrev q8:Stmt:=top 29
theorem NX:aZ ["count","pairs","rows","pair","middle","thing"] ["count","pairs"] (aA q8):=⟨rfl,rfl,rfl,by decide +kernel,rfl,by decide +kernel,by decide +kernel⟩
def Ec(K:W.Frag):Sp:=λvs H Q _=>∃(n a:Nat) (ps:List (Nat × Nat)),vs = [.int n,.ref a]/\m6 K H a ps/\n<=24/\(∀p∈ps,p.1<n/\p.2<n) /\
 ∀v H' R,Same H H'->Ev.j9 n ps R->TT H' v n (pR R)->Q v H'
theorem at0{α:Type}{xs:List α}{j:Nat}{v:α}(h:xs[j]? = some v):eQ xs (0+(j:Int))=some v:=by rw[gR];exact aH h
theorem Vf{n j:Nat}(h:j<n):iz n (0+(j:Int))=some j:=by rw[gR];exact JL h
theorem ZP{n:Nat}{p:Nat->Bool}{j:Nat}(h:j<n):(bK n p)[j]? = some (.bl (p j)):=by simp[bK,h]
theorem XT (F:aR K "reach_of" "reach_of" q8 f fd) (T:Txt mg) (xV:aG P w K mg base "own_row" ["count","thing"] 1 D_) (xu:aG P w K mg base "either" ["one","other"] 1 Dq) :
  aL P w K mg base aX 2 f fd ["count","pairs"] (Ec K):=by
 refine F.ok NX (λvs H Q E h=>?_) (λcdv A outer s H vs Q E hr h=>?_)
 ·obtain⟨n,a,ps,rfl,_⟩:=h
  rfl
 ·obtain⟨n,a,ps,rfl,⟨us,iw,hup⟩,hn,hb,k⟩:=h
  have nd:=NX.nd;have en:((n:Int)).toNat=n:=dg n;refine⟨_,(au (oM (i:=2) nd rfl rfl (own:=["thing"]) (fr:=[("count", 0)]) rfl (cj (aA q8) ["count","pairs","rows","pair","middle","thing"] rfl rfl (by decide +kernel)) (df rfl T.range (ae (pv 0) ag)) (λ_ _ _ _=>⟨(a_ (i:=0) (by decide +kernel:(["thing","count"]:List Str).Nodup) rfl (Or.inl rfl)),dB,(aM xV hr rfl (ae (pv 1) (ae (pv 0) ag)))⟩))
   (au (cI cA rfl (dM (K:=K) rfl (pv 1)) (a_ (i:=3) nd rfl (Or.inl rfl))
   (ax (Bz jW (Ln (aq (aS (K:=K) rfl) (pv 2) (aq (aP (K:=K) rfl) (pv 3) ak (λ_ _=>rfl)) (λ_ _=>rfl)) (aq (aP (K:=K) rfl) (pv 3) ak (λ_ _=>rfl)) set_list))))
   (au (cI cA rfl (df rfl T.range (ae (pv 0) ag)) (a_ (i:=4) nd rfl (Or.inl rfl))
   (ax (cI cA rfl (df rfl T.range (ae (pv 0) ag)) (a_ (i:=5) nd rfl (Or.inl rfl))
   (ax (bz (dY (aq (aS (K:=K) rfl) (aq (aS (K:=K) rfl) (pv 2) (pv 5) (λ_ _=>rfl)) (pv 4) (λ_ _=>rfl))) (ax (Bz (aM xu hr rfl (ae (aq (aS (K:=K) rfl) (pv 2) (pv 5) (λ_ _=>rfl)) (ae (aq (aS (K:=K) rfl) (pv 2) (pv 4) (λ_ _=>rfl)) ag))) (Ln (pv 2) (pv 5) set_list))) bH)))))
   (ax (aV (gJ (lV (K:=K) rfl) rfl T.tuple kA (ae (dc (own:=["row"]) (fr:=[]) rfl (cj (aA q8) ["count","pairs","rows","pair","middle","thing"] rfl rfl (by decide +kernel)) (dM (K:=K) rfl (pv 2)) (λ_ _ _ _=>⟨(a_ (i:=0) (by decide +kernel:(["row"]:List Str).Nodup) rfl (Or.inl rfl)),dB,(gJ (lV (K:=K) rfl) rfl T.tuple kA (ae (pv 0) ag))⟩)) ag))))))),?_⟩
  refine⟨_,rfl,n,rfl,(bS (by omega)).1,(bS (by omega)).2,λD hD=>Q0 (λi=>bK n λb=>decide (i=b)) src_range hD (dZ (by simpa using hn)) (λi H2 Kt hi hs hk=>?_) (λH1 as hs hl h1 h2 h3 h4=>?_)⟩
  ·refine⟨_,rfl,_,rfl,⟨n,i,by simp,hn⟩,λv H3 s3 hv=>?_⟩
   obtain⟨b,rfl,hb1,hb2⟩:=hv n i (by simp);exact hk b H3 s3 hb1 hb2
  have W0:fe H H1 D n as (Ev.base []):=⟨hs,hl,h1.trans en,h2,hD,h3,λi b e=>(h4 i b e).trans (by rw[kY λc hc=>(Qs i c).symm])⟩;refine⟨_,rfl,a,rfl,⟨_,hs.seq iw⟩,jM (K:=K) (a:=a) (xs:=us) (λi σ H2=>∃v3,σ = [some (.int n),some (.ref a),some (.ref D),v3,none,none]/\fe H H2 D n as (Ev.base (ps.take i)))
   ⟨none,rfl,by simpa using W0⟩ (λi σ H2 _ ⟨_,_,W⟩=>W.same.seq iw) ?_ ?_⟩
  ·rintro i y σ H2 hi ⟨v3,rfl,W⟩
   obtain⟨p,hp1,t,rfl,ht⟩:=fk hup hi;obtain⟨b1,b2⟩:=hb p (dG hp1);obtain⟨r,r1,r2,r3,r4⟩:=W.get b1;refine⟨_,rfl,_,rfl,t,_,0,_,rfl,rfl,aF.of (W.same _ _ ht),rfl,D,_,_,_,rfl,rfl,ah.of W.lst,aH r2,_,rfl,t,_,1,_,rfl,rfl,aF.of (W.same _ _ ht),rfl,r,_,_,p.2,rfl,rfl,r4,?_,?_⟩
   ·rw[qW];exact JL b2
   ·refine⟨_,rfl,(W.put r1).congr λx y _ _=>?_⟩
    have et:ps.take (i+1)=ps.take i++[p]:=by rw[r0,hp1];rfl
    rw[et,Qt]
  ·rintro σ H2 ⟨v3,rfl,W⟩
   have el:us.length=ps.length:=(dq hup).symm;rw[el,r9]at W;have hlen:us.length=ps.length:=(dq hup).symm;refine⟨_,rfl,n,rfl,(bS (by omega)).1,(bS (by omega)).2,fP (lo:=0) (n:=((n:Int)).toNat) (λm σ H2=>∃v3 v4 v5 as R,σ = [some (.int n),some (.ref a),some (.ref D),v3,v4,v5]/\fe H H2 D n as R/\Ev.jH n ps m R)
    ⟨v3,none,none,as,_,rfl,W,Ev.jH.start hb⟩ ?_ ?_⟩
   ·rintro m σ H2 hm ⟨v3,v4,v5,as,R,rfl,W,WI⟩
    have hmn:m<n:=by omega
    refine⟨_,rfl,n,rfl,(bS (by omega)).1,(bS (by omega)).2,fP (lo:=0) (n:=((n:Int)).toNat) (λt σ H2=>∃v5 as,σ = [some (.int n),some (.ref a),some (.ref D),v3,some (.int (0+m)),v5] /\
     fe H H2 D n as (λx y=>if x<t then Ev.j7 R m x y else R x y)) ⟨v5,as,rfl,W.congr λx y _ _=>by rw[if_neg (wK x)]⟩ ?_ ?_⟩
    ·rintro t σ H3 ht ⟨v5,as,rfl,W⟩
     have htn:t<n:=by omega
     obtain⟨rt,t1,t2,t3,t4⟩:=W.get htn;obtain⟨rm,m1,m2,m3,m4⟩:=W.get hmn;refine⟨_,rfl,_,rfl,D,_,_,_,rfl,rfl,ah.of W.lst,at0 t2,_,rfl,rt,_,_,_,rfl,rfl,ah.of t4,at0 (ZP hmn),_,rfl,bB (λh=>?_) (λh=>?_)⟩
     ·rw[if_neg (fu t)]at h
      refine⟨_,rfl,_,rfl,D,_,_,_,rfl,rfl,ah.of W.lst,at0 t2,_,rfl,_,rfl,D,_,_,_,rfl,rfl,ah.of W.lst,at0 m2,⟨rt,rm,n,_,_,rfl,t4,m4,hn⟩,λv H4 s4 hv=>?_⟩;obtain⟨b,rfl,q1,q2⟩:=hv rt rm n _ _ rfl t4 m4;have W4:=W.grow s4;have hbD:b≠D:=λe=>by rw[e,W.lst]at q1;cases q1
      have hba:b ∉ as:=λhm=>by
       obtain⟨j,hj,e⟩:=iG hm;have:=W.row j b (by rw[aB hj,e]);rw[q1]at this;cases this
      refine⟨_,rfl,_,rfl,D,_,_,t,rfl,rfl,W4.lst,?_,?_⟩
      ·rw[az,W4.len];exact Vf htn
      ·refine⟨_,_,rfl,(W4.swap htn (W.same.free q1) hbD hba q2).congr λx y hx hy=>?_⟩
       by_cases e:x=t
       ·subst e
        rw[if_pos rfl,if_neg (fu x),if_pos (si x)];have em:(if m<x then Ev.j7 R m m y else R m y)=R m y:=by
         split
         ·unfold Ev.j7
          cases R m y <;> simp
         ·rfl
        rw[em];unfold Ev.j7;rw[h,fX]
       ·rw[if_neg e]
        by_cases qv:x<t
        ·rw[if_pos qv,if_pos (by omega)]
        ·rw[if_neg qv,if_neg (by omega)]
     ·rw[if_neg (fu t)]at h
      refine⟨_,as,rfl,W.congr λx y hx hy=>?_⟩
      by_cases e:x=t
      ·subst e
       rw[if_neg (fu x),if_pos (si x)];unfold Ev.j7;have h':R x m=false:=by simpa using h
       rw[h',iX,wc]
      ·by_cases qv:x<t
       ·rw[if_pos qv,if_pos (by omega)]
       ·rw[if_neg qv,if_neg (by omega)]
    ·rintro σ H3 ⟨v5,as,rfl,W⟩
     exact⟨_,_,_,as,Ev.j7 R m,rfl,W.congr λx y hx _=>by rw[if_pos (by omega)],WI.step hmn⟩
   ·rintro σ H2 ⟨v3,v4,v5,as,R,rfl,W,WI⟩
    rw[en]at WI;refine⟨_,rfl,D,rfl,⟨_,ah.of W.lst⟩,λD2 hD2=>nW (λi v H=>∃b,v = .ref b/\b≠D2/\H b=some (.tup (bK n (R i)))) (src_list (ah.of W.lst)) hD2 (dZ (by rw[az,W.len];exact hn))
     (λi v H H' s ⟨b,e,hb,q⟩=>⟨b,e,hb,s _ _ hb q⟩) (λi H3 Kt hi hs hy hk=>?_) (λH3 ys hs hl hp=>?_)⟩
    ·rw[az,W.len]at hi
     obtain⟨r,r1,r2,r3,r4⟩:=W.get hi;obtain⟨zs,hz⟩:=hy;refine⟨_,rfl,r,_,by rw[aO,r2];rfl,.inl ⟨ah.of (hs _ _ r4),λl hl'=>?_⟩⟩;exact hk _ _ (Same.put hl') ⟨l,rfl,(λe=>by rw[e,hz]at hl';cases hl'),ao⟩
    ·refine⟨D2,_,rfl,.inl ⟨ah.of hl,λl hl'=>?_⟩⟩
     have RB:(as.map V.ref).length=n:=by rw[az,W.len]
     rw[RB]at hp;refine k _ _ R ((W.same.trans hs).trans (Same.put hl')) WI.done ⟨l,ys,rfl,ao,Paired.dA hp λi u ⟨b,e,_,q⟩=>⟨b,e,Same.put hl' _ _ q⟩⟩
end
theorem uK{H:Hp}{L:Addr}{xs ys:List V}(hL:H L=some (.lst xs)){ps:List (Nat × Nat)}{us:List V}(h:Paired (bX H) ps us):Paired (bX (upd H L (.lst ys))) ps us:=
 Paired.dA h λ_ _ ⟨t,e,q⟩=>⟨t,e,by rw[aD (hV q hL (λz=>nomatch z))];exact q⟩
theorem oH{α β:Type}{F:α->β->Prop}:∀{a b:List α} {c d:List β},Paired F a c->Paired F b d->Paired F (a++b) (c++d)
 |_,_,_,_,.nil,h=>h
 |_,_,_,_,.cons r t,h=>.cons r (oH t h)
theorem Bu{α β γ:Type}{F:γ->β->Prop}{g:α->γ}:∀{a:List α} {c:List β},Paired (λx y=>F (g x) y) a c->Paired F (a.map g) c
 |_,_,.nil=>.nil
 |_,_,.cons r t=>.cons r (Bu t)
theorem BM{α:Type}(i:Nat)(h:Nat->List α):(List.range (i+1)).flatMap h=(List.range i).flatMap h++h i:=by
 rw[ja,wt];simp
def Ey(n:Nat):List (Nat × Nat):=(List.range n).flatMap λl=>(List.range (n - (l+1))).map λj=>(l,l+1+j)
theorem Kx{n:Nat}{p:Nat × Nat}(h:p∈Ey n):p.1<p.2/\p.2<n:=by
 unfold Ey at h;rw[lL]at h;obtain⟨l,hl,h⟩:=h;rw[cW]at h;obtain⟨j,hj,rfl⟩:=h;simp at hl hj ⊢;omega
def jt(n:Nat)(R:Nat->Nat->Bool):List (Nat × Nat):=(List.range n).flatMap λl=>((List.range n).filter λh=>!decide (l=h)&&R l h).map λh=>(l,h)
section
variable {P:Program} {w:World} {K:W.Frag} {mg:Str->Option Value} {base:Heap} {f:Addr} {fd:FuncData}
abbrev vq:Stmt:=top 30
theorem N3:aZ ["count","told","low"] ["count"] (aA vq):=⟨rfl,rfl,rfl,by decide +kernel,rfl,by decide +kernel,by decide +kernel⟩
def vI:Sp:=λvs H Q _=>∃n:Nat,vs = [.int n]/\n<=24/\∀l us H',Same H H'->H' l=some (.lst us)->Paired (bX H') (Ey n) us->Q (.ref l) H'
theorem X6 (F:aR K "twos" "twos" vq f fd) (T:Txt mg):aL P w K mg base aX 1 f fd ["count"] vI:=by
 refine F.ok N3 (λvs H Q E h=>?_) (λcdv A outer s H vs Q E hr h=>?_)
 ·obtain⟨n,rfl,_⟩:=h
  rfl
 ·obtain⟨n,rfl,hn,k⟩:=h
  have nd:=N3.nd;have en:((n:Int)).toNat=n:=dg n;refine⟨_,(au (aJ (i:=1) nd rfl (Or.inl rfl) (bG ag))
   (au (cI cA rfl (df rfl T.range (ae (pv 0) ag)) (a_ (i:=2) nd rfl (Or.inr rfl))
   (ax (cw (dJ (K:=K) rfl dU Gu P9 Kz (pv 1) (ae (dc (own:=["high"]) (fr:=[("low", 2)]) rfl (cj (aA vq) ["count","told","low"] rfl rfl (by decide +kernel)) (Bx rfl T.range (ae (ay bV (pv 2) ak) (ae (pv 0) ag))) (λ_ _ _ _=>⟨(a_ (i:=0) (by decide +kernel:(["high","low"]:List Str).Nodup) rfl (Or.inl rfl)),dB,(gx (ae (pv 1) (ae (pv 0) ag)))⟩)) ag)))))
   (ax (aV (pv 1))))),?_⟩
  refine⟨by show 0<=sizeLine;decide,λL hL=>?_⟩;refine⟨_,rfl,n,rfl,(bS (by omega)).1,(bS (by omega)).2,fP (lo:=0) (n:=((n:Int)).toNat) (λi σ H2=>∃v2 us,σ = [some (.int n),some (.ref L),v2]/\Same H H2/\H2 L=some (.lst us)/\us.length<=24 * i /\
   Paired (bX H2) ((List.range i).flatMap λl=>(List.range (n - (l+1))).map λj=>(l,l+1+j)) us) ⟨none,[],rfl,Same.put hL,ao,by simp,.nil⟩ ?_ ?_⟩
  ·rintro i σ H2 hi ⟨v2,us,rfl,s2,hl,hlen,hp⟩
   have hin:i<n:=by omega
   refine⟨_,rfl,.inl ⟨rfl,_,ah.of hl⟩,?_⟩;refine⟨_,rfl,_,_,rfl,rfl,_,rfl,(0+(i:Int)+1),n,rfl,⟨by omega,by omega,by omega,by omega⟩,λD hD=>?_⟩;refine nW (λj v H=>∃t,v = .ref t/\t≠D/\H t=some (.tup [.int i,.int ((i+1+j:Nat):Int)])) src_range hD (dZ (by omega)) (λj v H H' s ⟨b,e,hb,q⟩=>⟨b,e,hb,s _ _ hb q⟩) (λj H3 Kt hj hs hy hk=>?_) (λH3 ys hs hl3 hp3=>?_)
   ·obtain⟨zs,hz⟩:=hy
    refine⟨_,rfl,_,rfl,by show 2<=sizeLine;decide,λt ht=>?_⟩;refine hk _ _ (Same.put ht) ⟨t,rfl,(λe=>by rw[e,hz]at ht;cases ht),?_⟩;rw[ao]
    congr 4
    ·omega
    ·congr 1
     push_cast
     omega
   ·have hDL:D≠L:=λe=>by rw[e,hl]at hD;cases hD
    have Ua:ys.length=n - (i+1):=by
     have:=dq hp3;simp at this;omega
    refine⟨L,D,us,ys,rfl,rfl,hs _ _ hl,hl3,by have:=@cS 100000 (by omega);omega,?_⟩;refine⟨_,us++ys,rfl,?_,ao,by rw[bp];omega,?_⟩
    ·intro b o e
     rw[aD (λz=>by rw[z,hL]at e;cases e)];exact hs _ _ (s2 _ _ e)
    ·rw[BM]
     refine uK (hs _ _ hl) (oH (eU.same hs hp) (Bu ?_));have ec:((n:Int) - (0+(i:Int)+1)).toNat=n - (i+1):=by omega
     rw[ec]at hp3;exact Paired.dA hp3 λj v ⟨t,e,_,q⟩=>⟨t,e,q⟩
  ·rintro σ H2 ⟨v2,us,rfl,s2,hl,hlen,hp⟩
   rw[en]at hp;exact⟨_,rfl,k L us H2 s2 hl hp⟩
abbrev CP:Stmt:=top 31
theorem Ny:aZ ["count","reach","two"] ["count","reach"] (aA CP):=⟨rfl,rfl,rfl,by decide +kernel,rfl,by decide +kernel,by decide +kernel⟩
def DT:Sp:=λvs H Q _=>∃(n:Nat) (v:V) (R:Nat->Nat->Bool),vs = [.int n,v]/\TT H v n (pR R)/\n<=24/\(∀a b,a<b->b<n->¬ (R a b=true/\R b a=true))/\∀H',Same H H'->Q .non H'
theorem XD (F:aR K "need_one_way" "need_one_way" CP f fd) (T:Txt mg) (nQ:aG P w K mg base "twos" ["count"] 1 vI):aL P w K mg base aX 2 f fd ["count","reach"] DT:=by
 refine F.ok Ny (λvs H Q E h=>?_) (λcdv A outer s H vs Q E hr h=>?_)
 ·obtain⟨n,v,R,rfl,_⟩:=h
  rfl
 ·obtain⟨n,v,R,rfl,ht,hn,ha,k⟩:=h
  have nd:=Ny.nd;refine⟨_,(ax (cI cA rfl (dM (K:=K) rfl (aM nQ hr rfl (ae (pv 0) ag))) (a_ (i:=2) nd rfl (Or.inl rfl))
   (ax (bz (PW.pt (qR (dY (aq (aP (K:=K) rfl) (aq (aP (K:=K) rfl) (pv 1) (aq (aP (K:=K) rfl) (pv 2) ak (λ_ _=>rfl)) (λ_ _=>rfl)) (aq (aP (K:=K) rfl) (pv 2) ak (λ_ _=>rfl)) (λ_ _=>rfl))) (qS (dY (aq (aP (K:=K) rfl) (aq (aP (K:=K) rfl) (pv 1) (aq (aP (K:=K) rfl) (pv 2) ak (λ_ _=>rfl)) (λ_ _=>rfl)) (aq (aP (K:=K) rfl) (pv 2) ak (λ_ _=>rfl)) (λ_ _=>rfl)))))) (ax uO) bH)))),?_⟩
  refine⟨_,rfl,n,rfl,hn,λl us H1 s1 hl hp=>⟨l,rfl,⟨_,ah.of hl⟩,jM (K:=K) (a:=l) (xs:=us) (λi σ H2=>∃v2,σ = [some (.int n),some v,v2]/\Same H1 H2) ⟨none,rfl,Same.refl _⟩ (λi σ H2 _ ⟨_,_,s2⟩=>ah.of (s2 _ _ hl)) ?_ ?_⟩⟩
  ·rintro i y σ H2 hi ⟨v2,rfl,s2⟩
   obtain⟨p,hp1,t,rfl,htt⟩:=fk hp hi;obtain⟨b1,b2⟩:=Kx (dG hp1);obtain⟨a,vs,r1,rfl,q1,q2,q3,q4⟩:=(ht.same (s1.trans s2)).row (show p.1<n by omega);obtain⟨a',vs',r2,e',uP,Zc,BK,BL⟩:=(ht.same (s1.trans s2)).row b2;cases e';rw[q1]at uP;cases uP;have jN:=s2 _ _ htt;refine⟨_,rfl,_,rfl,t,_,0,_,rfl,rfl,aF.of jN,rfl,a,_,_,_,rfl,rfl,aF.of q1,aH q3,_,rfl,t,_,1,_,rfl,rfl,aF.of jN,rfl,r1,_,_,_,rfl,rfl,aF.of q4,pP b2,_,rfl,bB (λh=>?_) (λh=>?_)⟩
   ·refine⟨_,rfl,_,rfl,t,_,1,_,rfl,rfl,aF.of jN,rfl,a,_,_,_,rfl,rfl,aF.of q1,aH BK,_,rfl,t,_,0,_,rfl,rfl,aF.of jN,rfl,r2,_,_,_,rfl,rfl,aF.of BL,pP (show p.1<n by omega),_,rfl,bB (λh'=>?_) (λh'=>?_)⟩
    ·exact absurd ⟨h,h'⟩ (ha _ _ b1 b2)
    ·exact⟨_,rfl,s2⟩
   ·refine cG ?_
    exact⟨_,rfl,s2⟩
  ·rintro σ H2 ⟨v2,rfl,s2⟩
   exact k _ (s1.trans s2)
end
def gj(n:Nat)(p:Nat->Bool):List Key:=(List.range n).map λb=>Sum.inl (if p b then 1 else 0)
theorem A_{n:Nat}{p q:Nat->Bool}(h:gj n p=gj n q):∀b,b<n->p b=q b:=by
 intro b hb;have:=congrArg (λl=>l[b]?) h;simp only[gj,bO,mQ hb,sj,Gg,Sum.inl.injEq]at this;cases hp:p b <;> cases hq:q b <;> simp[hp,hq]at this ⊢
theorem Vp{n:Nat}{p q:Nat->Bool}(h:∀b,b<n->p b=q b):gj n p=gj n q:=by
 unfold gj;apply mU
 intro b hb;rw[h b (by simpa using hb)]
theorem JR(p:Nat->Bool):∀l:List Nat,Az (l.map λb=>(Sum.inl (if p b then 1 else 0):Key)) (l.map λb=>V.bl (p b))
 | []=>.nil
 |b::r=>.cons (.inr ⟨p b,rfl,rfl⟩) (JR p r)
theorem O1{H:Hp}{b:Addr}{n:Nat}{p:Nat->Bool}(h:H b=some (.tup (bK n p))):jG H b (gj n p):=⟨_,JR p _,h⟩
def g6(n:Nat)(R:Nat->Nat->Bool):Nat->List (List Key × V)
 |0=>[]
 |i+1=>g6 n R i++[(gj n (R i),.int i)]
theorem JX(n:Nat)(R:Nat->Nat->Bool):∀i,(g6 n R i).length=i
 |0=>rfl
 |i+1=>by rw[g6,bp,JX n R i];rfl
theorem Wc(l:List (List Key × V)){k k':List Key}{v:V}(e:¬ k'=k)(h:dm l k=none):dm (l++[(k',v)]) k=none:=by
 induction l with
 |nil=>exact j6 (p:=(k',v)) e
 |cons p r ih =>
  rw[Fu]
  by_cases q:p.1=k
  ·rw[lA q]at h;cases h
  ·rw[j6 q]at h ⊢;exact ih h
theorem Bc{n:Nat}{R:Nat->Nat->Bool}{k:List Key}:∀{i:Nat},(∀c,c<i->gj n (R c)≠k)->dm (g6 n R i) k=none
 |0,_=>rfl
 |i+1,h=>by
  have ih:=Bc (n:=n) (R:=R) (k:=k) (i:=i) λc hc=>h c (by omega)
  have hk:dm (g6 n R i) k=none:=ih;rw[g6];have e:¬ gj n (R i)=k:=h i (by omega);exact Wc (g6 n R i) e hk
theorem JZ{n:Nat}{R:Nat->Nat->Bool}(dis:∀i j,i<n->j<n->(∀b,b<n->R i b=R j b)->i=j){c:Nat}(hc:c<n):∀{i:Nat},i<=n->c<i->dm (g6 n R i) (gj n (R c))=some (.int c)
 |0,_,h=>by omega
 |i+1,hi,h=>by
  rw[g6,O9 _ _ _ _ (Bc λd hd e=>by have:=dis d i (by omega) (by omega) (A_ e);omega)]
  by_cases e:c=i
  ·subst e;rw[if_pos rfl]
  ·rw[if_neg (λz=>e (dis c i hc (by omega) (A_ z)))]
   exact JZ dis hc (by omega) (by omega)
def f9(n:Nat)(R:Nat->Nat->Bool)(a b:Nat):V:=(dm (g6 n R n) (gj n λx=>R a x&&R b x)).getD .non
theorem iR{n:Nat}{R:Nat->Nat->Bool}(dis:∀i j,i<n->j<n->(∀b,b<n->R i b=R j b)->i=j){a b c:Nat}(hc:c<n)(h:∀x,x<n->R c x=(R a x&&R b x)):f9 n R a b = .int c:=by
 unfold f9;rw[<- Vp h,JZ dis hc (aW _) hc];rfl
section
variable {P:Program} {w:World} {K:W.Frag} {mg:Str->Option Value} {base:Heap} {f:Addr} {fd:FuncData}
def jf(H:Hp)(n:Nat)(R:Nat->Nat->Bool)(us:List V):Prop:=Paired (λi u=>∃b,u = .ref b/\H b=some (.tup (bK n (R i)))) (List.range n) us
theorem jf.same{H H':Hp}{n:Nat}{R:Nat->Nat->Bool}{us:List V}(s:Same H H')(h:jf H n R us):jf H' n R us:=Paired.dA h λ_ _ ⟨b,e,q⟩=>⟨b,e,s _ _ q⟩
theorem jf.len{H:Hp}{n:Nat}{R:Nat->Nat->Bool}{us:List V}(h:jf H n R us):us.length=n:=by simpa using(dq h).symm
theorem jf.get{H:Hp}{n:Nat}{R:Nat->Nat->Bool}{us:List V}(h:jf H n R us){i:Nat}(hi:i<n):∃b,us[i]? = some (.ref b)/\H b=some (.tup (bK n (R i))):=by
 obtain⟨y,h1,b,rfl,h2⟩:=jV (i:=i) (x:=i) h (mQ hi);exact⟨b,h1,h2⟩
abbrev u5:Stmt:=top 32
theorem Mr:aZ ["rows","things","thing"] ["rows","things","thing"] (aA u5):=⟨rfl,rfl,rfl,by decide +kernel,rfl,by decide +kernel,by decide +kernel⟩
def Ds(K:W.Frag):Sp:=λvs H Q _=>∃(c:Bool) (a d t n:Nat) (us:List V) (R:Nat->Nat->Bool) (kvs:List (List Key × V)),vs = [.ref a,.ref d,.int t]/\Sq c K H a us/\jf H n R us/\H d=some (.dT kvs)/\t<n/\n<=24 /\
 ∀l H',Same H H'->H l=none->H' l=some (.tup ((List.range n).map λj=>(dm kvs (gj n λb=>R t b&&R j b)).getD .non))->Q (.ref l) H'
theorem Xh (F:aR K "ends_with" "ends_with" u5 f fd) (T:Txt mg) (xZ:aG P w K mg base "shared" ["one","other"] 1 Ee):aL P w K mg base aX 2 f fd ["rows","things","thing"] (Ds K):=by
 refine F.ok Mr (λvs H Q E h=>?_) (λcdv A outer s H vs Q E hr h=>?_)
 ·obtain⟨c,a,d,t,n,us,R,kvs,rfl,_⟩:=h
  rfl
 ·obtain⟨c,a,d,t,n,us,R,kvs,rfl,hq,hrow,hd,ht,hn,k⟩:=h
  have nd:=Mr.nd;have hu:=Jr hr;refine⟨_,(ax (aV (gJ (lV (K:=K) rfl) rfl T.tuple kA (ae (dc (own:=["row"]) (fr:=[("things", 1),("rows", 0),("thing", 2)]) rfl (cj (aA u5) ["rows","things","thing"] rfl rfl (by decide +kernel)) (YZ (K:=K) c rfl (pv 0)) (λ_ _ _ _=>⟨(a_ (i:=0) (by decide +kernel:(["row","things","rows","thing"]:List Str).Nodup) rfl (Or.inl rfl)),dB,(Yy hu (pv 1) (aM xZ hr rfl (ae (aq (Vh (K:=K) c rfl) (pv 2) (pv 3) (λ_ _=>rfl)) (ae (pv 0) ag))) ⟨rfl,rfl,rfl,rfl⟩)⟩)) ag)))),?_⟩;refine⟨_,rfl,a,rfl,⟨_,hq⟩,λD hD=>fN (λj=>(dm kvs (gj n λb=>R t b&&R j b)).getD .non) (aae hq) hD (dZ (by rw[hrow.len];exact hn)) (λi H2 Kt hi hs hk=>?_) (λH' hs hl=>?_)⟩
  ·rw[hrow.len]at hi
   obtain⟨bt,t1,t2⟩:=hrow.get ht;obtain⟨bi,i1,i2⟩:=hrow.get hi;refine⟨_,rfl,d,rfl,.inr ⟨kvs,.inl (hs _ _ hd)⟩,?_⟩;refine⟨_,rfl,_,rfl,a,us,_,_,rfl,rfl,hs.sq hq,aH t1,_,rfl,⟨bt,bi,n,R t,R i,by rw[aO,i1];rfl,hs _ _ t2,hs _ _ i2,hn⟩,λv H3 s3 hv=>?_⟩;obtain⟨b,rfl,q1,q2⟩:=hv bt bi n (R t) (R i) (by rw[aO,i1];rfl) (hs _ _ t2) (hs _ _ i2);exact⟨_,o7.t (s3 _ _ (hs _ _ hd)) (O1 q2),hk _ s3⟩
  ·refine⟨D,_,rfl,.inl ⟨ah.of hl,λl hl'=>?_⟩⟩
   rw[hrow.len];exact k l _ (hs.trans (Same.put hl')) (hs.free hl') ao
abbrev u3:Stmt:=top 33
theorem Mq:aZ ["rows","things","thing","row"] ["rows"] (aA u3):=⟨rfl,rfl,rfl,by decide +kernel,rfl,by decide +kernel,by decide +kernel⟩
def Dr(K:W.Frag):Sp:=λvs H Q _=>∃(c:Bool) (a n:Nat) (us:List V) (R:Nat->Nat->Bool),vs = [.ref a]/\Sq c K H a us/\jf H n R us/\n<=24/\(∀i j,i<n->j<n->(∀b,b<n->R i b=R j b)->i=j) /\
 ∀v H',Same H H'->TT H' v n (f9 n R)->Q v H'
theorem Xg (F:aR K "ends_of" "ends_of" u3 f fd) (T:Txt mg) (xv:aG P w K mg base "ends_with" ["rows","things","thing"] 2 (Ds K)):aL P w K mg base aX 3 f fd ["rows"] (Dr K):=by
 refine F.ok Mq (λvs H Q E h=>?_) (λcdv A outer s H vs Q E hr h=>?_)
 ·obtain⟨c,a,n,us,R,rfl,_⟩:=h
  rfl
 ·obtain⟨c,a,n,us,R,rfl,hq,hrow,hn,dis,k⟩:=h
  have nd:=Mq.nd;have hu:=Jr hr;have hlen:=hrow.len;refine⟨_,(au (aJ (i:=1) nd rfl (Or.inr rfl) Yz)
   (au (cI cA rfl (Bw (K:=K) c rfl rfl T.enumerate (ae (pv 0) ag)) (jX (K:=K) (i:=2) (j:=3) rfl rfl nd rfl rfl rfl rfl)
   (ax (Y3 hu (pv 1) (pv 3) (pv 2) rfl)))
   (ax (aV (gJ (lV (K:=K) rfl) rfl T.tuple kA (ae (dc (own:=["thing"]) (fr:=[("rows", 0),("things", 1)]) rfl (cj (aA u3) ["rows","things","thing","row"] rfl rfl (by decide +kernel)) (df rfl T.range (ae (bx (fh (K:=K) rfl) rfl T.len fz (ae (pv 0) ag)) ag)) (λ_ _ _ _=>⟨(a_ (i:=0) (by decide +kernel:(["thing","rows","things"]:List Str).Nodup) rfl (Or.inl rfl)),dB,(aM xv hr rfl (ae (pv 1) (ae (pv 2) (ae (pv 0) ag (av nofun)) (av nofun)) (av nofun)))⟩)) ag)))))),?_⟩
  intro d hd;refine⟨_,rfl,a,us,rfl,(Same.put hd).sq hq,zK (K:=K) (c:=c) (l:=a) (xs:=us) (λi σ H2=>∃v2 v3,σ = [some (.ref a),some (.ref d),v2,v3]/\Same H H2/\H2 d=some (.dT (g6 n R i))/\i<=n)
   ⟨none,none,rfl,Same.put hd,ao,eD _⟩ (λi σ H2 ⟨_,_,_,s2,_⟩=>s2.sq hq) ?_ ?_⟩
  ·rintro i x σ H2 t hx ht ⟨v2,v3,rfl,s2,h2,hi⟩
   have hin:i<n:=by rw[<- hlen];exact(bN.mp hx).1
   obtain⟨bi,i1,i2⟩:=hrow.get hin;rw[i1]at hx;cases hx;refine⟨t,_,rfl,aF.of ao,rfl,_,_,rfl,_,_,rfl,rfl,?_⟩;have hdt:d≠t:=λe=>by rw[<- e,h2]at ht;cases ht
   have h2':(upd H2 t (.tup [.int i,.ref bi])) d=some (.dT (g6 n R i)):=by rw[aD hdt];exact h2
   have i3:(upd H2 t (.tup [.int i,.ref bi])) bi=some (.tup (bK n (R i))):=Same.put ht _ _ (s2 _ _ i2);have hnone:dm (g6 n R i) (gj n (R i))=none:=Bc λc' hc' e=>by have:=dis c' i (by omega) hin (A_ e);omega
   refine⟨_,rfl,_,rfl,_,rfl,d,_,rfl,o8.t h2' (O1 i3) (by rw[JX];exact dZ (by omega)),?_⟩;refine⟨_,_,rfl,?_,?_,hin⟩
   ·intro b o e
    rw[aD (λz=>by rw[z,hd]at e;cases e)];exact Same.put ht _ _ (s2 _ _ e)
   ·rw[ao,Za _ hnone]
    rfl
  ·rintro σ H2 ⟨v2,v3,rfl,s2,h2,hi⟩
   rw[hlen]at h2;have hq2:ah K H2 a us\/aF K H2 a us:=by
    have:=s2.sq hq;cases c with
    |true=>exact .inl this
    |false=>exact .inr this
   refine⟨_,rfl,a,us,rfl,hq2,us.length,rfl,(bS (by omega)).1,(bS (by omega)).2,λD hD=>?_⟩;rw[hlen];refine nW (λi v H=>∃b,v = .ref b/\b≠D/\H b=some (.tup ((List.range n).map (f9 n R i)))) src_range hD (dZ (by simpa using hn)) (λi v H H' s ⟨b,e,hb,q⟩=>⟨b,e,hb,s _ _ hb q⟩) (λi H3 Kt hi hs hy hk=>?_) (λH3 ys hs hl hp=>?_)
   ·have hin:i<n:=by simpa using hi
    obtain⟨zs,hz⟩:=hy;refine⟨_,rfl,_,rfl,_,rfl,c,a,d,i,n,us,R,_,by simp,hs.sq (s2.sq hq),(hrow.same s2).same hs,hs _ _ h2,hin,hn,λl H4 s4 h4 q4=>?_⟩;exact hk _ H4 s4 ⟨l,rfl,(λe=>by rw[e,hz]at h4;cases h4),q4⟩
   ·refine⟨D,_,rfl,.inl ⟨ah.of hl,λl hl'=>?_⟩⟩
    have en:((n:Int)).toNat=n:=dg n;rw[en]at hp;exact k _ _ ((s2.trans hs).trans (Same.put hl')) ⟨l,ys,rfl,ao,Paired.dA hp λi u ⟨b,e,_,q⟩=>⟨b,e,Same.put hl' _ _ q⟩⟩
end
theorem gp{α:Type}{n:Nat}{g:Nat->α}{j:Nat}(h:j<n):((List.range n).map g)[j]? = some (g j):=by simp[h]
section
variable {P:Program} {w:World} {K:W.Frag} {mg:Str->Option Value} {base:Heap} {f:Addr} {fd:FuncData}
abbrev CJ:Stmt:=top 34
theorem Nv:aZ ["count","joins","meets","two"] ["count","joins","meets"] (aA CJ):=⟨rfl,rfl,rfl,by decide +kernel,rfl,by decide +kernel,by decide +kernel⟩
def DR:Sp:=λvs H Q _=>∃(n:Nat) (v u:V) (g g':Nat->Nat->V),vs = [.int n,v,u]/\TT H v n g/\TT H u n g'/\n<=24/\(∀a b,a<n->b<n->g a b≠.non/\g' a b≠.non)/\∀H',Same H H'->Q .non H'
theorem XC (F:aR K "need_ends" "need_ends" CJ f fd) (T:Txt mg) (nQ:aG P w K mg base "twos" ["count"] 1 vI):aL P w K mg base aX 2 f fd ["count","joins","meets"] DR:=by
 refine F.ok Nv (λvs H Q E h=>?_) (λcdv A outer s H vs Q E hr h=>?_)
 ·obtain⟨n,v,u,g,g',rfl,_⟩:=h
  rfl
 ·obtain⟨n,v,u,g,g',rfl,ht,ht',hn,ha,k⟩:=h
  have nd:=Nv.nd;refine⟨_,(ax (cI cA rfl (dM (K:=K) rfl (aM nQ hr rfl (ae (pv 0) ag))) (a_ (i:=3) nd rfl (Or.inl rfl))
   (ax (bz (PW.pt (mD (bC uF (aq (aP (K:=K) rfl) (aq (aP (K:=K) rfl) (pv 1) (aq (aP (K:=K) rfl) (pv 3) ak (λ_ _=>rfl)) (λ_ _=>rfl)) (aq (aP (K:=K) rfl) (pv 3) ak (λ_ _=>rfl)) (λ_ _=>rfl)) kR (bj _)) (oN (bC uF (aq (aP (K:=K) rfl) (aq (aP (K:=K) rfl) (pv 2) (aq (aP (K:=K) rfl) (pv 3) ak (λ_ _=>rfl)) (λ_ _=>rfl)) (aq (aP (K:=K) rfl) (pv 3) ak (λ_ _=>rfl)) (λ_ _=>rfl)) kR (bj _))))) (ax uO) bH)))),?_⟩
  refine⟨_,rfl,n,rfl,hn,λl us H1 s1 hl hp=>⟨l,rfl,⟨_,ah.of hl⟩,jM (K:=K) (a:=l) (xs:=us) (λi σ H2=>∃v2,σ = [some (.int n),some v,some u,v2]/\Same H1 H2) ⟨none,rfl,Same.refl _⟩ (λi σ H2 _ ⟨_,_,s2⟩=>ah.of (s2 _ _ hl)) ?_ ?_⟩⟩
  ·rintro i y σ H2 hi ⟨v2,rfl,s2⟩
   obtain⟨p,hp1,t,rfl,htt⟩:=fk hp hi;obtain⟨b1,b2⟩:=Kx (dG hp1);have hp0:p.1<n:=by omega
   obtain⟨a,vs,r1,rfl,q1,q2,q3,q4⟩:=(ht.same (s1.trans s2)).row hp0;obtain⟨a',vs',r2,rfl,uP,Zc,BK,BL⟩:=(ht'.same (s1.trans s2)).row hp0;have jN:=s2 _ _ htt;obtain⟨n1,n2⟩:=ha _ _ hp0 b2;refine⟨_,rfl,_,rfl,t,_,0,_,rfl,rfl,aF.of jN,rfl,a,_,_,_,rfl,rfl,aF.of q1,aH q3,_,rfl,t,_,1,_,rfl,rfl,aF.of jN,rfl,r1,_,_,_,rfl,rfl,aF.of q4,pP b2,rfl,_,rfl,?_⟩;rw[bU n1];refine cG ?_;refine⟨_,rfl,_,rfl,t,_,0,_,rfl,rfl,aF.of jN,rfl,a',_,_,_,rfl,rfl,aF.of uP,aH BK,_,rfl,t,_,1,_,rfl,rfl,aF.of jN,rfl,r2,_,_,_,rfl,rfl,aF.of BL,pP b2,rfl,_,rfl,?_⟩;rw[bU n2];refine cG ?_;exact⟨_,rfl,s2⟩
  ·rintro σ H2 ⟨v2,rfl,s2⟩
   exact k _ (s1.trans s2)
abbrev vk:Stmt:=top 35
theorem NR:aZ ["count","reach","told","low"] ["count","reach"] (aA vk):=⟨rfl,rfl,rfl,by decide +kernel,rfl,by decide +kernel,by decide +kernel⟩
def kr(H:Hp)(v:V)(ps:List (Nat × Nat)):Prop:=∃a us,v = .ref a/\H a=some (.tup us)/\Paired (bX H) ps us
theorem kr.same{H H':Hp}{v:V}{ps:List (Nat × Nat)}(s:Same H H')(h:kr H v ps):kr H' v ps:=let⟨a,us,e,q,r⟩:=h;⟨a,us,e,s _ _ q,eU.same s r⟩
def Eb:Sp:=λvs H Q _=>∃(n:Nat) (v:V) (R:Nat->Nat->Bool),vs = [.int n,v]/\TT H v n (pR R)/\n<=24/\∀u H',Same H H'->kr H' u (jt n R)->Q u H'
theorem XQ (F:aR K "pairs_of" "pairs_of" vk f fd) (T:Txt mg):aL P w K mg base aX 1 f fd ["count","reach"] Eb:=by
 refine F.ok NR (λvs H Q E h=>?_) (λcdv A outer s H vs Q E hr h=>?_)
 ·obtain⟨n,v,R,rfl,_⟩:=h
  rfl
 ·obtain⟨n,v,R,rfl,ht,hn,k⟩:=h
  have nd:=NR.nd;have en:((n:Int)).toNat=n:=dg n;refine⟨_,(au (aJ (i:=2) nd rfl (Or.inl rfl) (bG ag))
   (au (cI cA rfl (df rfl T.range (ae (pv 0) ag)) (a_ (i:=3) nd rfl (Or.inr rfl))
   (ax (cw (dJ (K:=K) rfl dU Gu P9 Kz (pv 2) (ae (dc (own:=["high"]) (fr:=[("low", 3),("reach", 1)]) rfl (cj (aA vk) ["count","reach","told","low"] rfl rfl (by decide +kernel)) (df rfl T.range (ae (pv 0) ag)) (λ_ _ _ _=>⟨(a_ (i:=0) (by decide +kernel:(["high","low","reach"]:List Str).Nodup) rfl (Or.inl rfl)),(kU (PW.pt (qR (bC iA (pv 1) (pv 0) (bj _)) (qS (dY (aq (aP (K:=K) rfl) (aq (aP (K:=K) rfl) (pv 2) (pv 1) (λ_ _=>rfl)) (pv 0) (λ_ _=>rfl))))))),(gx (ae (pv 1) (ae (pv 0) ag)))⟩)) ag)))))
   (ax (aV (gJ (lV (K:=K) rfl) rfl T.tuple kA (ae (pv 2) ag)))))),?_⟩
  refine⟨by show 0<=sizeLine;decide,λL hL=>?_⟩;refine⟨_,rfl,n,rfl,(bS (by omega)).1,(bS (by omega)).2,fP (lo:=0) (n:=((n:Int)).toNat) (λi σ H2=>∃v3 us,σ = [some (.int n),some v,some (.ref L),v3]/\Same H H2/\H2 L=some (.lst us)/\us.length<=24 * i /\
   Paired (bX H2) ((List.range i).flatMap λl=>((List.range n).filter λh=>!decide (l=h)&&R l h).map λh=>(l,h)) us) ⟨none,[],rfl,Same.put hL,ao,by simp,.nil⟩ ?_ ?_⟩
  ·rintro i σ H2 hi ⟨v3,us,rfl,s2,hl,hlen,hp⟩
   have hin:i<n:=by omega
   refine⟨_,rfl,.inl ⟨rfl,_,ah.of hl⟩,?_⟩;refine⟨_,rfl,n,rfl,(bS (by omega)).1,(bS (by omega)).2,λD hD=>?_⟩;refine ye (λj=>!decide (i=j)&&R i j) (λj v H=>∃t,v = .ref t/\t≠D/\H t=some (.tup [.int i,.int (j:Int)])) src_range hD (dZ (by omega)) (λj v H H' s ⟨b,e,hb,q⟩=>⟨b,e,hb,s _ _ hb q⟩) (λj H3 Kt Kf hj hs hy hkt hkf=>?_) (λH3 ys hs hl3 hp3=>?_)
   ·have hjn:j<n:=by omega
    obtain⟨zs,hz⟩:=hy;obtain⟨a,vs,r1,rfl,q1,q2,q3,q4⟩:=(ht.same (s2.trans hs)).row hin;refine⟨_,rfl,_,rfl,rfl,_,rfl,?_⟩;have ed:(!decide (V.int (0+(i:Int))=V.int (0+(j:Int)))) = !decide (i=j):=by
     congr 1
     rw[gR];exact yn
    rw[ed];refine bB (λh=>?_) (λh=>?_)
    ·refine⟨_,rfl,_,rfl,a,_,_,_,rfl,rfl,aF.of q1,at0 q3,_,rfl,r1,_,_,_,rfl,rfl,aF.of q4,at0 (gp hjn),_,rfl,bB (λh'=>?_) (λh'=>?_)⟩
     ·refine⟨_,rfl,_,rfl,by show 2<=sizeLine;decide,λt ht=>?_⟩
      refine hkt _ _ (by rw[h,h',fX]) (Same.put ht) ⟨t,rfl,(λe=>by rw[e,hz]at ht;cases ht),?_⟩;rw[ao,gR,gR]
     ·exact hkf _ (by rw[h,fX];simpa using h') (Same.refl _)
    ·refine cG ?_
     have h2:(!decide (i=j))=false:=by simpa using h
     exact hkf _ (by rw[h2,iX]) (Same.refl _)
   ·have hDL:D≠L:=λe=>by rw[e,hl]at hD;cases hD
    rw[en]at hp3;have Ua:ys.length<=n:=by
     have h1:=dq hp3;have h2:=mR (λj=>!decide (i=j)&&R i j) (List.range n);rw[iH]at h2;omega
    refine⟨L,D,us,ys,rfl,rfl,hs _ _ hl,hl3,by have:=@cS 100000 (by omega);omega,?_⟩;refine⟨_,us++ys,rfl,?_,ao,by rw[bp];omega,?_⟩
    ·intro b o e
     rw[aD (λz=>by rw[z,hL]at e;cases e)];exact hs _ _ (s2 _ _ e)
    ·rw[BM]
     refine uK (hs _ _ hl) (oH (eU.same hs hp) (Bu ?_));exact Paired.dA hp3 λj v ⟨t,e,_,q⟩=>⟨t,e,q⟩
  ·rintro σ H2 ⟨v2,us,rfl,s2,hl,hlen,hp⟩
   rw[en]at hp;refine⟨_,rfl,L,us,rfl,.inl ⟨ah.of hl,λl hl'=>?_⟩⟩;exact k _ _ (s2.trans (Same.put hl')) ⟨l,us,rfl,ao,eU.same (Same.put hl') hp⟩
end
structure Good (n:Nat) (R:Nat->Nat->Bool):Prop where
 refl:∀a,a<n->R a a=true
 anti:∀a b,a<n->b<n->R a b=true->R b a=true->a=b
 join:∀a b,a<n->b<n->∃c,c<n/\∀x,x<n->R c x=(R a x&&R b x)
 meet:∀a b,a<n->b<n->∃c,c<n/\∀x,x<n->R x c=(R x a&&R x b)
theorem Good.dis{n:Nat}{R:Nat->Nat->Bool}(G:Good n R):∀i j,i<n->j<n->(∀b,b<n->R i b=R j b)->i=j:=λi j hi hj h =>
 G.anti i j hi hj (by rw[h j hj];exact G.refl j hj) (by rw[<- h i hi];exact G.refl i hi)
theorem Good.lW{n:Nat}{R:Nat->Nat->Bool}(G:Good n R):∀i j,i<n->j<n->(∀b,b<n->R b i=R b j)->i=j:=λi j hi hj h =>
 G.anti i j hi hj (by rw[<- h i hi];exact G.refl i hi) (by rw[h j hj];exact G.refl j hj)
def jL (n:Nat) (vp vr vj vm:V):List (Str × V):=bY "meets" vm (bY "joins" vj (bY "reach" vr (bY "pairs" vp (bY "count" (.int n) []))))
def dH(C:Addr)(H:Hp)(p n:Nat)(R:Nat->Nat->Bool):Prop:=∃dx vp vr vj vm,H p=some (.ins C dx (jL n vp vr vj vm))/\kr H vp (jt n R)/\TT H vr n (pR R)/\TT H vj n (f9 n R)/\TT H vm n (f9 n λa b=>R b a)
structure eX (K:W.Frag) (C:Addr):Prop where
 cl:Cls K C
 nC:iK K C "count"
 nP:iK K C "pairs"
 nR:iK K C "reach"
 nJ:iK K C "joins"
 nM:iK K C "meets"
theorem TT.ins{H:Hp}{p C dx:Addr}{fs:List (Str × V)}{o:HO}(hp:H p=some (.ins C dx fs)){v:V}{n:Nat}{g:Nat->Nat->V}(h:TT H v n g):TT (upd H p o) v n g:=
 let⟨a,vs,e,q,r⟩:=h
 ⟨a,vs,e,by rw[aD (hV q hp (λz=>nomatch z))];exact q,Paired.dA r λ_ _ ⟨b,e,q⟩=>⟨b,e,by rw[aD (hV q hp (λz=>nomatch z))];exact q⟩⟩
theorem kr.ins{H:Hp}{p C dx:Addr}{fs:List (Str × V)}{o:HO}(hp:H p=some (.ins C dx fs)){v:V}{ps:List (Nat × Nat)}(h:kr H v ps):kr (upd H p o) v ps:=
 let⟨a,vs,e,q,r⟩:=h
 ⟨a,vs,e,by rw[aD (hV q hp (λz=>nomatch z))];exact q,Paired.dA r λ_ _ ⟨b,e,q⟩=>⟨b,e,by rw[aD (hV q hp (λz=>nomatch z))];exact q⟩⟩
section
variable {P:Program} {w:World} {K:W.Frag} {mg:Str->Option Value} {base:Heap} {f:Addr} {fd:FuncData}
abbrev uY:Stmt:=inClass (top 36) 0
theorem Ml:aZ ["self","count","pairs","reach","joins","meets"] ["self","count","pairs"] (aA uY):=⟨rfl,rfl,rfl,by decide +kernel,rfl,by decide +kernel,by decide +kernel⟩
def Dx(K:W.Frag)(C:Addr):Sp:=λvs H Q _=>∃(p dx n a:Nat) (ps:List (Nat × Nat)),vs = [.ref p,.int n,.ref a]/\H p=some (.ins C dx [])/\m6 K H a ps/\1<=n/\n<=24/\(∀p∈ps,p.1<n/\p.2<n)/\(∀R,Ev.j9 n ps R->Good n R) /\
 ∀H' R,(∀b o,H b=some o->b≠p->H' b=some o)->Ev.j9 n ps R->dH C H' p n R->Q .non H'
theorem Xm {C:Addr} (F:aR K "__init__" "Order.__init__" uY f fd) (T:Txt mg) (TC:eX K C)
  (xR:aG P w K mg base "need_count" ["count"] 2 DQ) (xU:aG P w K mg base "need_pairs" ["count","pairs"] 4 (DW K)) (xX:aG P w K mg base "reach_of" ["count","pairs"] 2 (Ec K))
  (xT:aG P w K mg base "need_one_way" ["count","reach"] 2 DT) (sV:aG P w K mg base "ends_of" ["rows"] 3 (Dr K)) (xt:aG P w K mg base "column" ["rows","place"] 1 Dm)
  (xS:aG P w K mg base "need_ends" ["count","joins","meets"] 2 DR) (xW:aG P w K mg base "pairs_of" ["count","reach"] 1 Eb):aL P w K mg base aX 5 f fd ["self","count","pairs"] (Dx K C):=by
 refine F.ok Ml (λvs H Q E h=>?_) (λcdv A outer s H vs Q E hr h=>?_)
 ·obtain⟨p,dx,n,a,ps,rfl,_⟩:=h
  rfl
 ·obtain⟨p,dx,n,a,ps,rfl,hp,hps,h1,hn,hb,hg,k⟩:=h
  have nd:=Ml.nd;have en:((n:Int)).toNat=n:=dg n;refine⟨_,(au (cw (aM xR hr rfl (ae (pv 1) ag)))
   (au (cw (aM xU hr rfl (ae (pv 1) (ae (pv 2) ag))))
   (au (aJ (i:=3) nd rfl (Or.inr rfl) (aM xX hr rfl (ae (pv 1) (ae (pv 2) ag))))
   (au (cw (aM xT hr rfl (ae (pv 1) (ae (pv 3) ag))))
   (au (aJ (i:=4) nd rfl (Or.inl rfl) (aM sV hr rfl (ae (pv 3) ag)))
   (au (aJ (i:=5) nd rfl (Or.inl rfl) (aM sV hr rfl (ae (dc (own:=["thing"]) (fr:=[("reach", 3)]) rfl (cj (aA uY) ["self","count","pairs","reach","joins","meets"] rfl rfl (by decide +kernel)) (df rfl T.range (ae (pv 1) ag)) (λ_ _ _ _=>⟨(a_ (i:=0) (by decide +kernel:(["thing","reach"]:List Str).Nodup) rfl (Or.inl rfl)),dB,(aM xt hr rfl (ae (pv 1) (ae (pv 0) ag)))⟩)) ag)))
   (au (cw (aM xS hr rfl (ae (pv 1) (ae (pv 4) (ae (pv 5) ag (av nofun)) (av nofun)) (av nofun))))
   (au (qQ (K:=K) rfl (pv 0) (pv 1) rfl)
   (au (qQ (K:=K) rfl (pv 0) (aM xW hr rfl (ae (pv 1) (ae (pv 3) ag))) rfl)
   (au (qQ (K:=K) rfl (pv 0) (pv 3) rfl)
   (au (qQ (K:=K) rfl (pv 0) (pv 4) rfl)
   (ax (qQ (K:=K) rfl (pv 0) (pv 5) rfl))))))))))))),?_⟩
  refine⟨_,rfl,⟨n,rfl,by omega,by omega⟩,λv1 H1 s1 _=>?_⟩;refine⟨_,rfl,_,rfl,⟨n,a,ps,rfl,hps.same s1,hb⟩,λv2 H2 s2 _=>?_⟩;have fq:=s1.trans s2;refine⟨_,rfl,_,rfl,n,a,ps,rfl,hps.same fq,hn,hb,λvr H3 R s3 hC ht=>?_⟩;have G:=hg R hC;refine⟨_,rfl,_,rfl,n,vr,R,rfl,ht,hn,λx y hx hy ⟨h1,h2⟩=>absurd (G.anti x y (by omega) hy h1 h2) (by omega),λH4 s4=>?_⟩;obtain⟨ra,us,rfl,q1,q2⟩:=id (ht.same s4);refine⟨_,rfl,false,ra,n,us,R,rfl,aF.of q1,q2,hn,G.dis,λvj H5 s5 htj=>?_⟩;refine⟨_,rfl,n,rfl,(bS (by omega)).1,(bS (by omega)).2,λD hD=>?_⟩;refine nW (λi v H=>∃b,v = .ref b/\b≠D/\H b=some (.tup (bK n λj=>R j i))) src_range hD (dZ (by omega)) (λi v H H' s ⟨b,e,hb,q⟩=>⟨b,e,hb,s _ _ hb q⟩) (λi H6 Kt hi hs hy hk=>?_) (λH6 ys hs hl Jj=>?_)
  ·obtain⟨zs,hz⟩:=hy
   have hin:i<n:=by omega
   have Jm:=((ht.same s4).same s5).same hs;refine⟨_,rfl,_,rfl,⟨_,n,i,_,by simp,Jm,hin,hn⟩,λv H7 s7 hv=>?_⟩;obtain⟨b,rfl,b1,b2⟩:=hv _ n i _ (by simp) Jm hin;exact hk _ H7 s7 ⟨b,rfl,(λe=>by rw[e,hz]at b1;cases b1),b2⟩
  rw[en]at Jj;have ZR:jf H6 n (λa b=>R b a) ys:=Paired.dA Jj λi u ⟨b,e,_,q⟩=>⟨b,e,q⟩
  refine⟨true,D,n,ys,_,rfl,ah.of hl,ZR,hn,G.lW,λvm H7 s7 t_=>?_⟩;have Jo:=(htj.same hs).same s7;have ZW:Same H H7:=((((fq.trans s3).trans s4).trans s5).trans hs).trans s7;refine⟨_,rfl,_,rfl,_,rfl,n,vj,vm,_,_,rfl,Jo,t_,hn,λx y hx hy=>?_,λH8 s8=>?_⟩
  ·obtain⟨c,hc,hj⟩:=G.join x y hx hy
   obtain⟨d,hd,hm⟩:=G.meet x y hx hy;rw[iR G.dis hc hj,iR G.lW hd hm];exact⟨(λz=>nomatch z),(λz=>nomatch z)⟩
  have Ma:=ZW.trans s8;have hp8:H8 p=some (.ins C dx []):=Ma _ _ hp;have Jp:TT H8 (.ref ra) n (pR R):=((((ht.same s4).same s5).same hs).same s7).same s8;refine⟨_,rfl,_,rfl,p,C,dx,[],rfl,hp8,TC.cl,TC.nC,by show 0<1000;decide,?_⟩;refine⟨_,rfl,_,rfl,n,_,R,rfl,Jp.ins hp8,hn,λvp H9 s9 hpp=>?_⟩;have hp9:=s9 _ _ (ao (H:=H8) (a:=p) (o:=.ins C dx (bY "count" (.int n) [])));have Ut:=(Jp.ins hp8 (o:=.ins C dx (bY "count" (.int n) []))).same s9;have Ur:=((Jo.same s8).ins hp8 (o:=.ins C dx (bY "count" (.int n) []))).same s9;have Us:=((t_.same s8).ins hp8 (o:=.ins C dx (bY "count" (.int n) []))).same s9;have l1:(bY "count" (V.int n) []).length<=1:=oA _ _ _;have l2:(bY "pairs" vp (bY "count" (V.int n) [])).length<=2:=b_ (oA _ _ _) (by omega);have l3:(bY "reach" (V.ref ra) (bY "pairs" vp (bY "count" (V.int n) []))).length<=3:=b_ (oA _ _ _) (by omega);have l4:(bY "joins" vj (bY "reach" (V.ref ra) (bY "pairs" vp (bY "count" (V.int n) [])))).length<=4:=b_ (oA _ _ _) (by omega);refine⟨_,rfl,p,C,dx,_,rfl,hp9,TC.cl,TC.nP,by omega,?_⟩;refine⟨_,rfl,_,rfl,p,C,dx,_,rfl,ao,TC.cl,TC.nR,by omega,?_⟩;refine⟨_,rfl,_,rfl,p,C,dx,_,rfl,ao,TC.cl,TC.nJ,by omega,?_⟩;refine⟨_,rfl,_,rfl,p,C,dx,_,rfl,ao,TC.cl,TC.nM,by omega,?_⟩;rw[EY,EY,EY];refine k _ R (λb o e I_=>?_) hC ⟨dx,vp,_,vj,vm,ao,hpp.ins hp9,Ut.ins hp9,Ur.ins hp9,Us.ins hp9⟩;rw[aD I_];refine s9 _ _ ?_;rw[aD I_];exact Ma _ _ e
end
structure rL (P:Program) (w:World) (K:W.Frag) (mg:Str->Option Value) (base:Heap) (C:Addr) (x:Str) (ps:List Str) (k:Nat) (sp:Sp):Prop where
 ex:∃(f:Addr) (fd:FuncData),aL P w K mg base aX k f fd ps sp/\Mk K C f/\mg x=some (.ref C)/\Binds K fd ps []
section
variable {X:Cx} {C:Addr} {x:Str} {ps:List Str} {k k':Nat} {sp:Sp} {e:Expr} {es:List Expr} {t:TA} {p pos:Pos}
theorem YH (c:rL X.prog X.w X.K X.mg X.base C x ps k sp) (hr:bR k' X.A) (hg:Gl X x) (ha:PA X (e::es) t) (hk:k+1<=k':=by decide) (hdb:(x == ("__debug__" : Str))=false:=by decide)
  (he:starEach (e::es) X.env=(false,eval e X.env)::starEach es X.env:=by rfl) (hpl:(backTo pos (starEach es X.env)).any (·.1)=false:=by rfl):PE X (.Call (.Name x p) (e::es) [] pos) (Ov C sp [] E0 t):=by
 obtain⟨f,fd,F,M,hm,b⟩:=c.ex;exact YG M F (hr.mono hk) hg hm b .nil Bv ha hdb he hpl
end
structure aC (K:W.Frag) (x:Str) (st:Stmt):Prop where
 ex:∃(f:Addr) (fd:FuncData),W.nsIn K mainGlobals x=some (some (.ref f))/\aR K x x st f fd
theorem aC.mk'{K:W.Frag}{x:Str}{st:Stmt}{f:Addr}{oc:Value}{od an:Option Addr}{osl:Array (Option Value)}{kV doc pm cdv ct:Value}(a:W.nsIn K mainGlobals x=some (some (.ref f)))
  (l:K.lookup f=some ⟨oc,od,.func (W.fnOf x x (iQ st) (gH st) (aA st) .none kV doc pm an cdv ct),osl⟩) (c:W.codeIn K cdv x=true) (k:W.keepIn K (.ref f)=true):aC K x st:=⟨f,_,a,zN l c k⟩
abbrev vZ (x:Str) (st:Stmt) (ps:List Str):Prop:=∀(kV doc pm:Value) (an:Option Addr) (cdv ct:Value) (us:List Value),us.length=ps.length->bindArgs (W.fnOf x x (iQ st) (gH st) (aA st) .none kV doc pm an cdv ct) ⟨us,[]⟩=pure (ps.zip us)
theorem aC.cal{P:Program}{w:World}{K:W.Frag}{mg:Str->Option Value}{base h:Heap}{x:Str}{st:Stmt}{ps:List Str}{k:Nat}{sp:Sp}(A:aC K x st)(X:K.In h)(G:h.Ns mainGlobals mg)(hb:vZ x st ps)(ok:∀{f:Addr} {fd:FuncData},aR K x x st f fd->aL P w K mg base aX k f fd ps sp):aG P w K mg base x ps k sp:=by
 obtain⟨f,fd,a,F⟩:=A.ex;exact⟨f,fd,ok F,W.mg_of X G a,F.kp,F.binds hb⟩
structure ClsAt (K:W.Frag) (x qual:Str) (st:Stmt) (C:Addr):Prop where
 ns:W.nsIn K mainGlobals x=some (some (.ref C))
 cl:Cls K C
 ex:∃(f:Addr) (fd:FuncData),aR K "__init__" qual st f fd/\Mk K C f
theorem ClsAt.mk'{K:W.Frag}{x qual:Str}{st:Stmt}{C f:Addr}{oc:Value}{od an:Option Addr}{osl:Array (Option Value)}{kV doc pm cdv ct:Value}(ns:W.nsIn K mainGlobals x=some (some (.ref C)))
  (pg:W.plainGet K C Str.empty=true) (hd:W.hasDictIn K C=true) (po:W.plainOver K C=true) (sa:W.findIn K (.ref C) "__setattr__" = some (some (.builtin "object.__setattr__"))) (mk:W.makesIn K C=true) (kc:W.keepIn K (.ref C)=true)
  (a:W.findIn K (.ref C) "__init__" = some (some (.ref f))) (i:W.isFn K (.ref f)=true)
  (l:K.lookup f=some ⟨oc,od,.func (W.fnOf "__init__" qual (iQ st) (gH st) (aA st) .none kV doc pm an cdv ct),osl⟩) (c:W.codeIn K cdv qual=true) (k:W.keepIn K (.ref f)=true):ClsAt K x qual st C:=
 ⟨ns,⟨pg,hd,po,sa⟩,f,_,zN l c k,⟨mk,a,i,kc⟩⟩
theorem ClsAt.cal{P:Program}{w:World}{K:W.Frag}{mg:Str->Option Value}{base h:Heap}{x qual:Str}{st:Stmt}{C:Addr}{ps:List Str}{k:Nat}{sp:Sp}(A:ClsAt K x qual st C)(X:K.In h)(G:h.Ns mainGlobals mg)
  (hb:∀(kV doc pm:Value) (an:Option Addr) (cdv ct:Value) (us:List Value),us.length=ps.length->bindArgs (W.fnOf "__init__" qual (iQ st) (gH st) (aA st) .none kV doc pm an cdv ct) ⟨us,[]⟩=pure (ps.zip us))
  (ok:∀{f:Addr} {fd:FuncData},aR K "__init__" qual st f fd->aL P w K mg base aX k f fd ps sp):rL P w K mg base C x ps k sp:=by
 obtain⟨f,fd,F,M⟩:=A.ex;exact⟨f,fd,ok F,M,W.mg_of X G A.ns,F.binds hb⟩
structure ny (K:W.Frag):Prop where
 len:W.nsIn K mainGlobals "len" = some none
 range:W.nsIn K mainGlobals "range" = some none
 zip:W.nsIn K mainGlobals "zip" = some none
 enumerate:W.nsIn K mainGlobals "enumerate" = some none
 tuple:W.nsIn K mainGlobals "tuple" = some none
 list:W.nsIn K mainGlobals "list" = some none
 int:W.nsIn K mainGlobals "int" = some none
 bool:W.nsIn K mainGlobals "bool" = some none
 str:W.nsIn K mainGlobals "str" = some none
 isinstance:W.nsIn K mainGlobals "isinstance" = some none
 sum:W.nsIn K mainGlobals "sum" = some none
 any:W.nsIn K mainGlobals "any" = some none
 all:W.nsIn K mainGlobals "all" = some none
 sorted:W.nsIn K mainGlobals "sorted" = some none
 min:W.nsIn K mainGlobals "min" = some none
 max:W.nsIn K mainGlobals "max" = some none
 most:∃t,W.nsIn K mainGlobals "MOST_THINGS" = some (some (.int 24 t))
theorem ny.txt{K:W.Frag}{mg:Str->Option Value}{h:Heap}(A:ny K)(X:K.In h)(G:h.Ns mainGlobals mg):Txt mg:=
 ⟨W.mg_none_of X G A.len,W.mg_none_of X G A.range,W.mg_none_of X G A.zip,W.mg_none_of X G A.enumerate,W.mg_none_of X G A.tuple,W.mg_none_of X G A.list,W.mg_none_of X G A.int,W.mg_none_of X G A.bool,W.mg_none_of X G A.str,
  W.mg_none_of X G A.isinstance,W.mg_none_of X G A.sum,W.mg_none_of X G A.any,W.mg_none_of X G A.all,W.mg_none_of X G A.sorted,W.mg_none_of X G A.min,W.mg_none_of X G A.max,let⟨t,e⟩:=A.most;⟨t,W.mg_of X G e⟩⟩
theorem ny.mk' {K:W.Frag} {t:Tok} (l1:W.nsIn K mainGlobals "len" = some none) (l2:W.nsIn K mainGlobals "range" = some none) (l3:W.nsIn K mainGlobals "zip" = some none) (l4:W.nsIn K mainGlobals "enumerate" = some none)
  (l5:W.nsIn K mainGlobals "tuple" = some none) (l6:W.nsIn K mainGlobals "list" = some none) (l7:W.nsIn K mainGlobals "int" = some none) (l8:W.nsIn K mainGlobals "bool" = some none) (l9:W.nsIn K mainGlobals "str" = some none)
  (l10:W.nsIn K mainGlobals "isinstance" = some none) (Bd:W.nsIn K mainGlobals "sum" = some none) (Be:W.nsIn K mainGlobals "any" = some none) (Bf:W.nsIn K mainGlobals "all" = some none) (Bg:W.nsIn K mainGlobals "sorted" = some none) (Bh:W.nsIn K mainGlobals "min" = some none) (Bi:W.nsIn K mainGlobals "max" = some none) (m:W.nsIn K mainGlobals "MOST_THINGS" = some (some (.int 24 t))):ny K:=⟨l1,l2,l3,l4,l5,l6,l7,l8,l9,l10,Bd,Be,Bf,Bg,Bh,Bi,t,m⟩
theorem TT.get{H:Hp}{v:V}{n:Nat}{g:Nat->Nat->V}(h:TT H v n g){i:Nat}(hi:i<n):∃a vs b,v = .ref a/\H a=some (.tup vs)/\vs[i]? = some (.ref b)/\H b=some (.tup ((List.range n).map (g i))):=by
 obtain⟨a,vs,e,q,r⟩:=h;have hl:vs.length=n:=by have:=dq r;simpa using this.symm
 obtain⟨x,hx,b,eb,qb⟩:=fk r (show vs[i]? = some vs[i]from aB (by omega));have:x=i:=by
  rw[mQ hi]at hx;cases hx;rfl
 subst this;exact⟨a,vs,b,e,q,by rw[aB (by omega),eb],qb⟩
theorem Ie (n:Nat) (vp vr vj vm:V):(jL n vp vr vj vm).lookup ("reach" : Str)=some vr:=by
 unfold jL;rw[g_,if_neg (by decide +kernel),g_,if_neg (by decide +kernel),g_,if_pos rfl]
theorem p9 (n:Nat) (vp vr vj vm:V):(jL n vp vr vj vm).lookup ("count" : Str)=some (.int n):=by
 unfold jL;rw[g_,if_neg (by decide +kernel),g_,if_neg (by decide +kernel),g_,if_neg (by decide +kernel),g_,if_neg (by decide +kernel),g_,if_pos rfl]
theorem dH.dD{C:Addr}{H H':Hp}{p n:Nat}{R:Nat->Nat->Bool}(s:Same H H')(h:dH C H p n R):dH C H' p n R:=by
 obtain⟨dx,vp,vr,vj,vm,a,b,c,d,e⟩:=h;exact⟨dx,vp,vr,vj,vm,s _ _ a,b.same s,c.same s,d.same s,e.same s⟩
def bL(R:Nat->Nat->Bool)(a b:Nat):Bool:=!decide (a=b)&&R a b
def bQ(n:Nat)(R:Nat->Nat->Bool)(a b:Nat):Bool:=bL R a b&&!(List.range n).any λt=>bL R a t&&bL R t b
section
variable {P:Program} {w:World} {K:W.Frag} {mg:Str->Option Value} {base:Heap} {f:Addr} {fd:FuncData}
abbrev Ca:Stmt:=top 38
theorem Mt:aZ ["order","a","b"] ["order","a","b"] (aA Ca):=⟨rfl,rfl,rfl,by decide +kernel,rfl,by decide +kernel,by decide +kernel⟩
def vx(C:Addr):Sp:=λvs H Q _=>∃(p n a b:Nat) (R:Nat->Nat->Bool),vs = [.ref p,.int a,.int b]/\dH C H p n R/\a<n/\b<n/\∀H',Same H H'->Q (.bl (bL R a b)) H'
theorem Xn {C:Addr} (F:aR K "is_below" "is_below" Ca f fd) (T:Txt mg) (TC:eX K C):aL P w K mg base aX 1 f fd ["order","a","b"] (vx C):=by
 refine F.ok Mt (λvs H Q E h=>?_) (λcdv A outer s H vs Q E hr h=>?_)
 ·obtain⟨p,n,a,b,R,rfl,_⟩:=h
  rfl
 ·obtain⟨p,n,a,b,R,rfl,hO,ha,hb,kk⟩:=h
  have nd:=Mt.nd;refine⟨_,(ax (aV (mB (oJ iA (pv 1) (pv 2) (bj _)) (kT (aq (aP (K:=K) rfl) (aq (aP (K:=K) rfl) (eV (K:=K) rfl (pv 0) rfl) (pv 1) (λ_ _=>rfl)) (pv 2) (λ_ _=>rfl)))))),?_⟩;have ed:(!decide (V.int (a:Int)=V.int (b:Int))) = !decide (a=b):=by
   congr 1
   exact pZ.mpr ⟨λh=>by injection h with h;omega,λh=>by rw[h]⟩
  refine⟨_,rfl,_,rfl,rfl,_,rfl,?_⟩;rw[ed];refine bB (λh=>?_) (λh=>?_)
  ·obtain⟨dx,vp,vr,vj,vm,o1,_,o3,_,_⟩:=hO
   obtain⟨ra,us,rb,rfl,q1,q2,q3⟩:=o3.get ha;refine⟨_,rfl,p,C,dx,_,_,rfl,o1,TC.cl,TC.nR,Ie _ _ _ _ _,_,rfl,ra,us,_,.ref rb,rfl,rfl,aF.of q1,aH q2,_,rfl,rb,_,_,.bl (R a b),rfl,rfl,aF.of q3,aH (gp hb),?_⟩;have:=kk _ (Same.refl _);unfold bL at this;rw[h,fX]at this;exact this
  ·have h2:(!decide (a=b))=false:=by simpa using h
   have:=kk _ (Same.refl _);unfold bL at this;rw[h2,iX]at this;exact this
abbrev u9:Stmt:=top 39
theorem Mw:aZ ["order","a","b"] ["order","a","b"] (aA u9):=⟨rfl,rfl,rfl,by decide +kernel,rfl,by decide +kernel,by decide +kernel⟩
def Dy(C:Addr):Sp:=λvs H Q _=>∃(p n a b:Nat) (R:Nat->Nat->Bool),vs = [.ref p,.int a,.int b]/\dH C H p n R/\n<=24/\a<n/\b<n/\∀H',Same H H'->Q (.bl (bQ n R a b)) H'
theorem Xq {C:Addr} (F:aR K "is_step" "is_step" u9 f fd) (T:Txt mg) (TC:eX K C) (kB:aG P w K mg base "is_below" ["order","a","b"] 1 (vx C)):aL P w K mg base aX 2 f fd ["order","a","b"] (Dy C):=by
 refine F.ok Mw (λvs H Q E h=>?_) (λcdv A outer s H vs Q E hr h=>?_)
 ·obtain⟨p,n,a,b,R,rfl,_⟩:=h
  rfl
 ·obtain⟨p,n,a,b,R,rfl,hO,hn,ha,hb,kk⟩:=h
  have nd:=Mw.nd;refine⟨_,(au (bz (iD (dY (aM kB hr rfl (ae (pv 0) (ae (pv 1) (ae (pv 2) ag (av nofun)) (av nofun)) (av nofun))))) (ax (aV jW)) bH)
   (ax (aV (Lk (bx (QH (K:=K) rfl rfl) rfl T.any boot_any (ae (dc (own:=["thing"]) (fr:=[("order", 0),("a", 1),("b", 2)]) rfl (cj (aA u9) ["order","a","b"] rfl rfl (by decide +kernel)) (df rfl T.range (ae (eV (K:=K) rfl (pv 0) rfl) ag)) (λ_ _ _ _=>⟨(a_ (i:=0) (by decide +kernel:(["thing","order","a","b"]:List Str).Nodup) rfl (Or.inl rfl)),dB,(mB (aM kB hr rfl (ae (pv 1) (ae (pv 2) (ae (pv 0) ag (av nofun)) (av nofun)) (av nofun))) (kT (aM kB hr rfl (ae (pv 1) (ae (pv 0) (ae (pv 3) ag (av nofun)) (av nofun)) (av nofun)))))⟩)) ag)))))),?_⟩
  refine⟨_,rfl,_,rfl,_,rfl,p,n,a,b,R,rfl,hO,ha,hb,λH1 s1=>⟨_,rfl,?_⟩⟩;cases hab:bL R a b with
  |false =>
   refine eR ?_;have:=kk _ s1;unfold bQ at this;rw[hab,iX]at this;exact this
  |true =>
   refine cG ?_;obtain⟨dx,vp,vr,vj,vm,o1,_,_,_,_⟩:=hO.dD s1;have en:((n:Int)).toNat=n:=dg n;refine⟨_,rfl,p,C,dx,_,_,rfl,o1,TC.cl,TC.nC,p9 _ _ _ _ _,_,rfl,(bS (by omega)).1,(bS (by omega)).2,λD hD=>?_⟩;refine fN (λj=>.bl (bL R a j&&bL R j b)) src_range hD (by rw[en];exact dZ hn) (λj H3 Kt hj hs hk=>?_) (λH3 hs hl=>?_)
   ·rw[en]at hj
    refine⟨_,rfl,_,rfl,_,rfl,p,n,a,j,R,by simp,(hO.dD s1).dD hs,ha,hj,λH4 s4=>⟨_,rfl,?_⟩⟩;cases h1:bL R a j with
    |false =>
     refine cG ?_;have:=hk _ s4;rw[h1,iX]at this;exact this
    |true =>
     refine eR ⟨_,rfl,_,rfl,_,rfl,p,n,j,b,R,by simp,((hO.dD s1).dD hs).dD s4,hj,hb,λH5 s5=>?_⟩;have:=hk _ (s4.trans s5);rw[h1,fX]at this;exact this
   ·rw[en]at hl
    refine⟨D,(List.range n).map (λj=>bL R a j&&bL R j b),rfl,ah.of (by rw[hl,eZ];rfl),_,rfl,?_⟩;have:=kk _ (s1.trans hs);unfold bQ at this;rw[hab,fX]at this;have e:((List.range n).map λj=>bL R a j&&bL R j b).any id=(List.range n).any λt=>bL R a t&&bL R t b:=by rw[List.any_map];rfl
    rw[e];exact this
end
theorem Yr{n:Nat}{R R':Nat->Nat->Bool}(h:∀a b,a<n->b<n->R a b=R' a b):jt n R=jt n R':=by
 unfold jt;have:∀l∈List.range n,(((List.range n).filter λh=>!decide (l=h)&&R l h).map λh=>(l,h))=(((List.range n).filter λh=>!decide (l=h)&&R' l h).map λh=>(l,h)):=by
  intro l hl
  congr 1
  apply Fw
  intro x hx;rw[h l x (by simpa using hl) (by simpa using hx)]
 rw[wu,wu,mU this]
theorem nA(x y:Nat):Builtin.bitAnd (x:Int) (y:Int)=((x&&& y:Nat):Int):=by rw[bitAnd_pp (by omega) (by omega)];simp
theorem uH(x y:Nat):Builtin.bitOr (x:Int) (y:Int)=((x ||| y:Nat):Int):=by
 rw[bitOr_and,nA];have:=nat_or_add_and x y;omega
abbrev nV (x:Nat):V:=.int (x:Int)
section
variable {P:Program} {w:World} {K:W.Frag} {mg:Str->Option Value} {base:Heap} {f:Addr} {fd:FuncData}
abbrev Ck:Stmt:=top 61
theorem M3:aZ ["_law_script","_law_k"] ["_law_script","_law_k"] (aA Ck):=⟨rfl,rfl,rfl,by decide +kernel,rfl,by decide +kernel,by decide +kernel⟩
def vv(K:W.Frag):Sp:=λvs H Q _=>∃(a k:Nat) (ns:List Int),vs = [.ref a,.int k]/\ah K H a (ns.map V.int)/\∀i H',Same H H'->Q (.int i) H'
theorem W' (F:aR K "_law_cell_at" "_law_cell_at" Ck f fd) (T:Txt mg):aL P w K mg base aX 1 f fd ["_law_script","_law_k"] (vv K):=by
 refine F.ok M3 (λvs H Q E h=>?_) (λcdv A outer s H vs Q E hr h=>?_)
 ·obtain⟨a,k,ns,rfl,_⟩:=h
  rfl
 ·obtain⟨a,k,ns,rfl,hS,kk⟩:=h
  have nd:=M3.nd;refine⟨_,(au (bz (bC Br (pv 1) (bx (fh (K:=K) rfl) rfl T.len fz (ae (pv 0) ag)) (bj _)) (ax (aV (aq (aS (K:=K) rfl) (pv 0) (pv 1) (λ_ _=>rfl)))) bH)
   (ax (aV ak))),?_⟩
  refine⟨_,rfl,_,rfl,a,_,rfl,.inl hS,_,_,rfl,rfl,_,rfl,bB (λh=>?_) (λh=>?_)⟩
  ·rw[fO,az]at h
   have hk:k<ns.length:=by omega
   exact⟨_,rfl,_,rfl,a,_,k,.int ns[k],rfl,rfl,hS,aH (by simp[hk]),kk _ _ (Same.refl _)⟩
  ·exact kk _ _ (Same.refl _)
abbrev Ct:Stmt:=top 62
theorem Nh:aZ ["_law_cell","_law_place","_law_number"] ["_law_cell","_law_place"] (aA Ct):=⟨rfl,rfl,rfl,by decide +kernel,rfl,by decide +kernel,by decide +kernel⟩
def DN:Sp:=λvs H Q _=>∃(c:Int) (p:Nat),vs = [.int c,.int p]/\p<=1000/\∀i H',0<=i->i<2147483648->Same H H'->Q (.int i) H'
theorem Xy (F:aR K "_law_mixed" "_law_mixed" Ct f fd) (T:Txt mg):aL P w K mg base aX 1 f fd ["_law_cell","_law_place"] DN:=by
 refine F.ok Nh (λvs H Q E h=>?_) (λcdv A outer s H vs Q E hr h=>?_)
 ·obtain⟨c,p,rfl,_⟩:=h
  rfl
 ·obtain⟨c,p,rfl,hp,kk⟩:=h
  have nd:=Nh.nd;have m1:∀x:Int,0<=x % 2147483629/\x % 2147483629<2147483629:=λx=>⟨mO x (by decide),rO x (by decide)⟩
  have m2:∀x:Int,0<=x % 2147483587/\x % 2147483587<2147483587:=λx=>⟨mO x (by decide),rO x (by decide)⟩
  have cm:∀x y:Int,rJ (x % 2147483629) y:=λx y=>.inl ⟨by have:=m1 x;omega,by have:=m1 x;omega⟩
  refine⟨_,(au (aJ (i:=2) nd rfl (Or.inl rfl) (ay bW (ay bV (ay bV (ay kP (ay bW (pv 0) ak) ak) (ay kP ak (pv 1))) ak) ak))
   (au (aJ (i:=2) nd rfl (Or.inl rfl) (ay bW (ay bV (ay bV (ay kP (pv 2) (pv 2)) (ay kP ak (pv 1))) ak) ak))
   (ax (aV (ay bW (ay bV (ay kP (pv 2) (pv 2)) ak) ak))))),?_⟩
  refine⟨_,rfl,_,_,rfl,rfl,(by show(0:Int)<2147483629;decide),_,_,rfl,rfl,cm _ _,_,rfl,_,_,rfl,rfl,.inl ⟨by decide,by decide⟩,_,_,rfl,rfl,_,_,rfl,rfl,_,_,rfl,rfl,(by show(0:Int)<2147483629;decide),?_⟩;refine⟨_,rfl,_,rfl,_,_,rfl,rfl,cm _ _,_,rfl,_,_,rfl,rfl,.inl ⟨by decide,by decide⟩,_,_,rfl,rfl,_,_,rfl,rfl,_,_,rfl,rfl,(by show(0:Int)<2147483629;decide),?_⟩;refine⟨_,rfl,_,rfl,_,_,rfl,rfl,cm _ _,_,_,rfl,rfl,_,_,rfl,rfl,(by show(0:Int)<2147483587;decide),?_⟩;exact kk _ _ (m2 _).1 (by have:=(m2 ((((c % 2147483629 * 16807+69621 * (p:Int)+11) % 2147483629 * ((c % 2147483629 * 16807+69621 * (p:Int)+11) % 2147483629)+48271 * (p:Int)+7) % 2147483629) * (((c % 2147483629 * 16807+69621 * (p:Int)+11) % 2147483629 * ((c % 2147483629 * 16807+69621 * (p:Int)+11) % 2147483629)+48271 * (p:Int)+7) % 2147483629)+69621)).2;omega) (Same.refl _)
abbrev Cm:Stmt:=top 63
theorem M8:aZ ["_law_cell","_law_many","_law_found","_law_left","_law_k"] ["_law_cell","_law_many"] (aA Cm):=⟨rfl,rfl,rfl,by decide +kernel,rfl,by decide +kernel,by decide +kernel⟩
def Small(ns:List Int):Prop:=∀x∈ns,0<=x/\x<2147483648
def vw:Sp:=λvs H Q _=>∃(c:Int) (m:Nat),vs = [.int c,.int m]/\m<=1000/\∀l ns H',Same H H'->H l=none->H' l=some (.lst (ns.map V.int))->ns.length=m->Small ns->Q (.ref l) H'
theorem Xd (F:aR K "_law_draws" "_law_draws" Cm f fd) (T:Txt mg) (xM:aG P w K mg base "_law_mixed" ["_law_cell","_law_place"] 1 DN):aL P w K mg base aX 2 f fd ["_law_cell","_law_many"] vw:=by
 refine F.ok M8 (λvs H Q E h=>?_) (λcdv A outer s H vs Q E hr h=>?_)
 ·obtain⟨c,m,rfl,_⟩:=h
  rfl
 ·obtain⟨c,m,rfl,hm,kk⟩:=h
  have nd:=M8.nd;have em:((m:Int)).toNat=m:=dg m;refine⟨_,(au (aJ (i:=2) nd rfl (Or.inl rfl) (bG ag))
   (au (aJ (i:=3) nd rfl (Or.inl rfl) (ay Bs (pv 0) (ay K9 ak ak)))
   (au (cI cA rfl (df rfl T.range (ae (pv 1) ag)) (a_ (i:=4) nd rfl (Or.inl rfl))
   (ax (bz (bC Yf (pv 3) ak (bj _)) (au (cw (dJ (K:=K) rfl dU gF gS gw (pv 2) (ae (ay bW (pv 3) ak) ag)))
   (ax (aJ (i:=3) nd rfl (Or.inl rfl) (ay jT (pv 3) ak)))) (ax (cw (dJ (K:=K) rfl dU gF gS gw (pv 2) (ae (aM xM hr rfl (ae (pv 0) (ae (pv 4) ag))) ag)))))))
   (ax (aV (pv 2)))))),?_⟩
  refine⟨by show 0<=sizeLine;decide,λL hL=>?_⟩;refine⟨_,rfl,_,_,rfl,rfl,⟨by decide,by decide,by decide⟩,_,_,rfl,rfl,?_⟩;refine⟨_,rfl,m,rfl,(bS (by omega)).1,(bS (by omega)).2,fP (lo:=0) (n:=((m:Int)).toNat) (λi σ H2=>∃(v4:Option V) (x:Int) (ns:List Int),σ = [some (.int c),some (.int m),some (.ref L),some (.int x),v4]/\Same H H2/\H2 L=some (.lst (ns.map V.int))/\ns.length=i/\Small ns)
   ⟨none,_,[],rfl,Same.put hL,ao,rfl,λ_ h=>nomatch h⟩ ?_ ?_⟩
  ·rintro i σ H2 hi ⟨v4,x,ns,rfl,s2,hl,hlen,hsm⟩
   have sn:∀y:Int,0<=y->y<2147483648->Small (ns++[y]):=λy h0 h1 z hz=>by
    rcases f6.mp hz with hz|hz
    ·exact hsm z hz
    ·simp at hz;subst hz;exact⟨h0,h1⟩
   have sk:∀{H3:Hp} {o:HO},Same H2 H3->Same H (upd H3 L o):=λs3 b o e=>by
    rw[aD (λz=>by rw[z,hL]at e;cases e)];exact s3 _ _ (s2 _ _ e)
   have hz:(ns.map V.int).length<sizeLine:=by rw[az];exact cS (by omega)
   refine⟨_,rfl,_,_,rfl,rfl,_,rfl,bB (λh=>?_) (λh=>?_)⟩
   ·have q:=mO x (show(1000003:Int)≠0 by decide)
    have q':=rO x (show(0:Int)<1000003 by decide);refine⟨_,rfl,.inl ⟨rfl,_,ah.of hl⟩,_,rfl,_,_,rfl,rfl,(by show(0:Int)<1000003;decide),L,_,_,rfl,rfl,hl,hz,?_⟩;refine⟨_,rfl,_,_,rfl,rfl,⟨by decide,by decide⟩,?_⟩;exact⟨_,_,ns++[x % 1000003],rfl,sk (Same.refl _),by rw[ao];simp,by simp[hlen],sn _ q (by omega)⟩
   ·refine⟨_,rfl,.inl ⟨rfl,_,ah.of hl⟩,_,rfl,_,rfl,c,i,by simp,by omega,λy H3 y0 y1 s3=>?_⟩
    exact⟨L,_,_,rfl,rfl,s3 _ _ hl,hz,_,x,ns++[y],rfl,sk s3,by rw[ao];simp,by simp[hlen],sn _ y0 y1⟩
  ·rintro σ H2 ⟨v4,x,ns,rfl,s2,hl,hlen,hsm⟩
   exact⟨_,rfl,kk L ns H2 s2 hL hl (hlen.trans em) hsm⟩
end
theorem yg(xs:List V):bM xs (some 1) none=xs.drop 1:=by
 unfold bM;rw[show(HT.dO xs.length 0 (some 1))=min 1 xs.length from HT.uW xs.length 0 1,HT.uX];cases xs with
 |nil=>rfl
 |cons a r=>simp
theorem G3{xs:List V}(h:xs≠[]):eQ xs (-1)=some (xs.getLast h):=by
 have:=xm xs.dropLast (xs.getLast h)
 rwa [Fv]at this
theorem N7(x p:Nat):(x:Int) * 2 ^ ((p:Int)).toNat=((x * 2 ^ p:Nat):Int):=by
 rw[dg];push_cast;rfl
section
variable {P:Program} {w:World} {K:W.Frag} {mg:Str->Option Value} {base:Heap} {f:Addr} {fd:FuncData}
abbrev vb:Stmt:=top 66
theorem Nb:aZ ["_law_many"] ["_law_many"] (aA vb):=⟨rfl,rfl,rfl,by decide +kernel,rfl,by decide +kernel,by decide +kernel⟩
def Dv:Sp:=λvs H Q _=>∃m:Nat,vs = [.int m]/\1<=m/\m<=5/\∀l H',Same H H'->H l=none->H' l=some (.lst ((Ev.gX m).map nV))->Q (.ref l) H'
theorem Xk (F:aR K "_law_flower" "_law_flower" vb f fd) (T:Txt mg):aL P w K mg base aX 1 f fd ["_law_many"] Dv:=by
 refine F.ok Nb (λvs H Q E h=>?_) (λcdv A outer s H vs Q E hr h=>?_)
 ·obtain⟨m,rfl,_⟩:=h
  rfl
 ·obtain⟨m,rfl,h1,h5,kk⟩:=h
  have nd:=Nb.nd;have em:((m:Int)).toNat=m:=dg m;refine⟨_,(ax (aV (ay dk (ay dk (bG (ae ak ag)) (ay K_ (dc (own:=["_law_k"]) (fr:=[]) rfl (cj (aA vb) ["_law_many"] rfl rfl (by decide +kernel)) (df rfl T.range (ae (pv 0) ag)) (λ_ _ _ _=>⟨(a_ (i:=0) (by decide +kernel:(["_law_k"]:List Str).Nodup) rfl (Or.inl rfl)),dB,(ay oF ak (pv 0))⟩)) (gJ sY rfl T.int pS (ae (oJ Yg (pv 0) ak (bj _)) ag)))) (bG (ae (ay Bs (ay oF ak (pv 0)) ak) ag))))),?_⟩;refine⟨by show 1<=sizeLine;decide,λp1 hp1=>?_⟩;refine⟨_,rfl,m,rfl,(bS (by omega)).1,(bS (by omega)).2,λD hD=>fN (λi=>.int (1 * 2 ^ (0+(i:Int)).toNat)) src_range hD (dZ (by omega)) (λi H2 Kt hi hs hk=>?_) (λH2 hs hl=>?_)⟩
  ·exact⟨_,rfl,_,_,rfl,rfl,⟨by omega,by omega,by decide⟩,hk _ (Same.refl _)⟩
  refine⟨_,rfl,_,_,rfl,rfl,.inr ⟨_,rfl,?_⟩⟩;rw[em]at hl;have s1:Same H H2:=(Same.put hp1).trans hs;have hb:(if decide ((1:Int)<(m:Int))=true then(1:Int)else 0)=1\/(if decide ((1:Int)<(m:Int))=true then(1:Int)else 0)=0:=by split <;> simp
  refine⟨D,_,_,rfl,rfl,hl,by rcases hb with e|e <;> rw[e] <;> decide,by rcases hb with e|e <;> rw[e] <;> decide,?_,λp2 hp2=>?_⟩
  ·rw[az,iH]
   rcases hb with e|e <;> rw[e] <;> simp
   exact dh (dZ (by omega))
  have h1':H2 p1=some (.lst [.int 0]):=hs _ _ ao;refine⟨p1,p2,_,_,rfl,rfl,Same.put hp2 _ _ h1',ao,?_,λp3 hp3=>?_⟩
  ·rw[len_rep,az,iH]
   rcases hb with e|e <;> rw[e] <;> simp
   ·exact b_ (show 1+m<=24 by omega) (dh (dZ (aW _)))
   ·decide
  refine⟨_,rfl,_,_,rfl,rfl,⟨by omega,by omega,by decide⟩,_,_,rfl,rfl,by show 1<=sizeLine;decide,λp4 cU=>?_⟩;refine⟨p3,p4,_,_,rfl,rfl,Same.put cU _ _ ao,ao,?_,λp5 gZ=>?_⟩
  ·rw[bp,len_rep,az,iH]
   rcases hb with e|e <;> rw[e] <;> simp
   ·exact b_ (show 1+m+1<=24 by omega) (dh (dZ (aW _)))
   ·decide
  refine kk p5 _ ((((s1.trans (Same.put hp2)).trans (Same.put hp3)).trans (Same.put cU)).trans (Same.put gZ)) (Same.free ?_ gZ) ?_
  ·exact((s1.trans (Same.put hp2)).trans (Same.put hp3)).trans (Same.put cU)
  rw[ao];have hm:m=1\/m=2\/m=3\/m=4\/m=5:=by omega
  rcases hm with rfl|rfl|rfl|rfl|rfl <;> rfl
abbrev vf:Stmt:=top 67
theorem Nk:aZ ["_law_one","_law_other","_law_places"] ["_law_one","_law_other","_law_places"] (aA vf):=⟨rfl,rfl,rfl,by decide +kernel,rfl,by decide +kernel,by decide +kernel⟩
def Eh(K:W.Frag):Sp:=λvs H Q _=>∃(a b p:Nat) (M1 M2:List Nat),vs = [.ref a,.ref b,.int p]/\H a=some (.lst (M1.map nV))/\H b=some (.lst (M2.map nV))/\M1≠[]/\M1.length<=100/\M2.length<=100/\(∀x∈M2,x<2 ^ 40)/\p<=100 /\
 ∀l H',Same H H'->H l=none->H' l=some (.lst ((Ev.mH M1 M2 p).map nV))->Q (.ref l) H'
theorem X3 (F:aR K "_law_stack" "_law_stack" vf f fd) (T:Txt mg):aL P w K mg base aX 1 f fd ["_law_one","_law_other","_law_places"] (Eh K):=by
 refine F.ok Nk (λvs H Q E h=>?_) (λcdv A outer s H vs Q E hr h=>?_)
 ·obtain⟨a,b,p,M1,M2,rfl,_⟩:=h
  rfl
 ·obtain⟨a,b,p,M1,M2,rfl,ha,hb,hne,hl1,hl2,hm,hp,kk⟩:=h
  have nd:=Nk.nd;refine⟨_,(ax (aV (ay dk (pv 0) (dc (own:=["_law_mask"]) (fr:=[("_law_one", 0),("_law_places", 2)]) rfl (cj (aA vf) ["_law_one","_law_other","_law_places"] rfl rfl (by decide +kernel)) (dM (K:=K) rfl (cY (cZ (K:=K) rfl) (pv 1) (cH ak) dC)) (λ_ _ _ _=>⟨(a_ (i:=0) (by decide +kernel:(["_law_mask","_law_one","_law_places"]:List Str).Nodup) rfl (Or.inl rfl)),dB,(ay uG (aq (aS (K:=K) rfl) (pv 1) (iC iF ak) (λ_ _=>rfl)) (ay oF (pv 0) (pv 2)))⟩))))),?_⟩;refine⟨_,rfl,_,rfl,1,rfl,b,_,rfl,ah.of hb,λq hq=>?_⟩;rw[yg,<- mV];refine⟨q,rfl,⟨_,ah.of ao⟩,λD hD=>fN (λi=>nV (M1.getLastD 0 ||| ((M2.drop 1).getD i 0 * 2 ^ p))) (src_list (ah.of ao)) hD (cS (by simp;omega)) (λi H2 Kt hi hs hk=>?_) (λH2 hs hl=>?_)⟩
  ·have hi':i<(M2.drop 1).length:=by simpa using hi
   have ha2:H2 a=some (.lst (M1.map nV)):=hs _ _ (Same.put hq _ _ ha);have hne':M1.map nV≠[]:=by simpa using hne
   have eg:((M2.drop 1).map nV).getD i .non=nV ((M2.drop 1).getD i 0):=by
    rw[aO,aO,bO,aB hi'];rfl
   have hx:(M2.drop 1).getD i 0<2 ^ 40:=by
    rw[aO,aB hi'];exact hm _ (FK (ft hi'))
   refine⟨_,rfl,_,rfl,a,_,_,_,rfl,rfl,ah.of ha2,G3 hne',_,rfl,_,rfl,_,_,eg,rfl,⟨by omega,by omega,by omega⟩,_,_,by rw[List.getLast_map],rfl,?_⟩;have e2:M1.getLast hne=M1.getLastD 0:=by
    rw[List.getLastD_eq_getLast?,List.getLast?_eq_some_getLast hne];rfl
   dsimp only;rw[N7,uH,e2];exact hk _ (Same.refl _)
  ·have s1:=(Same.put hq).trans hs
   refine⟨a,D,_,_,rfl,rfl,s1 _ _ ha,hl,?_,λl hl'=>?_⟩
   ·simp
    exact b_ (show M1.length+(M2.length - 1)<=1000 by omega) (dh (cS (by omega)))
   ·refine kk l _ (s1.trans (Same.put hl')) (s1.free hl') ?_
    rw[ao]
    congr 2
    unfold Ev.mH;rw[eh]
    congr 1
    apply lI
    ·simp
    ·intro i h1 h2
     have hi':i<(M2.drop 1).length:=by simpa using h1
     simp only[jD,lJ];rw[aO,aB hi'];rfl
abbrev u_:Stmt:=top 68
theorem MT:aZ ["_law_one","_law_other","_law_found","_law_mask"] ["_law_one","_law_other"] (aA u_):=⟨rfl,rfl,rfl,by decide +kernel,rfl,by decide +kernel,by decide +kernel⟩
def Dj(K:W.Frag):Sp:=λvs H Q _=>∃(a b:Nat) (M1 M2:List Nat),vs = [.ref a,.ref b]/\H a=some (.lst (M1.map nV))/\H b=some (.lst (M2.map nV))/\M1.length<=100/\M2.length<=100/\(∀x∈M2,x<2 ^ 40) /\
 ∀l H',Same H H'->H l=none->H' l=some (.lst ((Ev.ky M1 M2).map nV))->Q (.ref l) H'
theorem W_ (F:aR K "_law_beside" "_law_beside" u_ f fd) (T:Txt mg):aL P w K mg base aX 1 f fd ["_law_one","_law_other"] (Dj K):=by
 refine F.ok MT (λvs H Q E h=>?_) (λcdv A outer s H vs Q E hr h=>?_)
 ·obtain⟨a,b,M1,M2,rfl,_⟩:=h
  rfl
 ·obtain⟨a,b,M1,M2,rfl,ha,hb,hl1,hl2,hm,kk⟩:=h
  have nd:=MT.nd;refine⟨_,(au (aJ (i:=2) nd rfl (Or.inl rfl) (bG ag))
   (au (cI cA rfl (dM (K:=K) rfl (pv 0)) (a_ (i:=3) nd rfl (Or.inr rfl))
   (ax (aJ (i:=2) nd rfl (Or.inl rfl) (ay dk (pv 2) (dc (own:=["_law_more"]) (fr:=[("_law_mask", 3)]) rfl (cj (aA u_) ["_law_one","_law_other","_law_found","_law_mask"] rfl rfl (by decide +kernel)) (dM (K:=K) rfl (pv 1)) (λ_ _ _ _=>⟨(a_ (i:=0) (by decide +kernel:(["_law_more","_law_mask"]:List Str).Nodup) rfl (Or.inl rfl)),dB,(ay uG (pv 1) (ay oF (pv 0) ak))⟩))))))
   (ax (aV (pv 2))))),?_⟩
  refine⟨by show 0<=sizeLine;decide,λL hL=>?_⟩;refine⟨_,rfl,a,rfl,⟨_,ah.of (Same.put hL _ _ ha)⟩,jM (K:=K) (a:=a) (xs:=M1.map nV) (λi σ H2=>∃v3 l,σ = [some (.ref a),some (.ref b),some (.ref l),v3]/\Same H H2/\H l=none/\H2 l=some (.lst ((Ev.ky (M1.take i) M2).map nV)))
   ⟨none,L,rfl,Same.put hL,hL,by rw[ao];rfl⟩ (λi σ H2 _ ⟨_,_,_,s2,_⟩=>ah.of (s2 _ _ ha)) ?_ ?_⟩
  ·rintro i y σ H2 hi ⟨v3,l,rfl,s2,hl,hl2'⟩
   have hi1:i<M1.length:=by simpa using(bN.mp hi).1
   have ey:y=nV M1[i]:=by
    rw[bO,aB hi1]at hi;exact(da hi).symm
   subst ey;refine⟨_,rfl,_,rfl,b,rfl,⟨_,ah.of (s2 _ _ hb)⟩,λD hD=>fN (λj=>nV (M1[i] ||| (M2.getD j 0 * 2 ^ 10))) (src_list (ah.of (s2 _ _ hb))) hD (cS (by simp;omega)) (λj H3 Kt hj hs hk=>?_) (λH3 hs hl3=>?_)⟩
   ·have hj':j<M2.length:=by simpa using hj
    have eg:(M2.map nV).getD j .non=nV (M2.getD j 0):=by
     rw[aO,aO,bO,aB hj'];rfl
    have hx:M2.getD j 0<2 ^ 40:=by
     rw[aO,aB hj'];exact hm _ (ft hj')
    refine⟨_,rfl,_,rfl,_,_,eg,rfl,⟨by decide,by decide,by omega⟩,_,_,rfl,rfl,?_⟩;have e3:((M2.getD j 0:Nat):Int) * 2 ^ ((10:Int)).toNat=((M2.getD j 0 * 2 ^ 10:Nat):Int):=N7 _ 10;dsimp only;rw[e3,uH];exact hk _ (Same.refl _)
   ·have hlen:((Ev.ky (M1.take i) M2).map nV).length<=10000:=by
     rw[az];unfold Ev.ky;rw[List.length_flatMap];have:((M1.take i).map λm=>(M2.map λx=>m ||| x * 2 ^ 10).length)=(M1.take i).map λ_=>M2.length:=by
      apply mU;intro x _;simp
     rw[this,List.map_const',List.sum_replicate_nat];have h1:(M1.take i).length<=100:=by simp;omega
     exact b_ (Nat.mul_le_mul h1 hl2) (by decide)
    refine⟨l,D,_,_,rfl,rfl,hs _ _ hl2',hl3,?_,λq hq=>?_⟩
    ·rw[az (f:=λj=>nV (M1[i] ||| (M2.getD j 0 * 2 ^ 10)))]
     simp only[iH,az]at hlen ⊢;have:=@cS 100000 (by omega);omega
    ·have sq:=(s2.trans hs)
     refine⟨_,q,rfl,sq.trans (Same.put hq),sq.free hq,?_⟩;rw[ao];have et:M1.take (i+1)=M1.take i++[M1[i]]:=by rw[r0,aB hi1];rfl
     rw[et];unfold Ev.ky;rw[wt,eh]
     congr 3
     apply lI
     ·simp
     ·intro j h1 h2
      have hj':j<M2.length:=by simpa using h1
      simp only[jD,lJ,pz,Fy,h_];rw[aO,aB hj'];rfl
  ·rintro σ H2 ⟨v3,l,rfl,s2,hl,hl2'⟩
   rw[az,r9]at hl2';exact⟨_,rfl,kk l H2 s2 hl hl2'⟩
theorem iV{M:List Nat}{a:Nat}(h:a<M.length):(M.map nV)[a]? = some (nV (M.getD a 0)):=by
 rw[bO,aB h,aO,aB h];rfl
abbrev Ci:Stmt:=top 72
theorem MN:aZ ["_law_masks","_law_a","_law_b"] ["_law_masks","_law_a","_law_b"] (aA Ci):=⟨rfl,rfl,rfl,by decide +kernel,rfl,by decide +kernel,by decide +kernel⟩
def rh(K:W.Frag):Sp:=λvs H Q _=>∃(m a b:Nat) (M:List Nat),vs = [.ref m,.int a,.int b]/\ah K H m (M.map nV)/\a<M.length/\b<M.length/\∀H',Same H H'->Q (.bl (Ev.aN M a b)) H'
theorem W8 (F:aR K "_law_at_most" "_law_at_most" Ci f fd) (T:Txt mg):aL P w K mg base aX 1 f fd ["_law_masks","_law_a","_law_b"] (rh K):=by
 refine F.ok MN (λvs H Q E h=>?_) (λcdv A outer s H vs Q E hr h=>?_)
 ·obtain⟨m,a,b,M,rfl,_⟩:=h
  rfl
 ·obtain⟨m,a,b,M,rfl,hm,ha,hb,kk⟩:=h
  have nd:=MN.nd;refine⟨_,(ax (aV (oJ cX (ay mz (aq (aS (K:=K) rfl) (pv 0) (pv 1) (λ_ _=>rfl)) (aq (aS (K:=K) rfl) (pv 0) (pv 2) (λ_ _=>rfl))) (aq (aS (K:=K) rfl) (pv 0) (pv 1) (λ_ _=>rfl)) (bj _)))),?_⟩;refine⟨_,rfl,_,rfl,m,_,a,_,rfl,rfl,hm,aH (iV ha),_,rfl,_,rfl,m,_,b,_,rfl,rfl,hm,aH (iV hb),_,_,rfl,rfl,_,rfl,_,rfl,m,_,a,_,rfl,rfl,hm,aH (iV ha),rfl,?_⟩;have e:decide (V.int (Builtin.bitAnd (M.getD a 0:Nat) (M.getD b 0:Nat))=nV (M.getD a 0))=Ev.aN M a b:=by
   rw[nA];unfold Ev.aN;apply pZ.mpr
   unfold Ev.Sub
   constructor
   ·intro h;injection h with h;omega
   ·intro h;rw[h]
  dsimp only;rw[e];exact kk _ (Same.refl _)
abbrev qZ:Stmt:=top 75
theorem Nm:aZ ["_law_masks","_law_count","_law_found","_law_a","_law_above","_law_b"] ["_law_masks"] (aA qZ):=⟨rfl,rfl,rfl,by decide +kernel,rfl,by decide +kernel,by decide +kernel⟩
def bh(M:List Nat)(a:Nat):List Nat:=(List.range M.length).filter λb=>!decide (a=b)&&Ev.aN M a b
def cy(M:List Nat):List (Nat × Nat):=(List.range M.length).flatMap λa=>((bh M a).filter λb=>((bh M a).filter λc=>Ev.aN M c b).length == 1).map λb=>(a,b)
theorem jQ{M:List Nat}{a b:Nat}:b∈bh M a ↔ b<M.length/\a≠b/\Ev.aN M a b=true:=by
 unfold bh;rw[cT];simp[and_assoc]
theorem uv{M:List Nat}{p:Nat × Nat}(h:p∈cy M):p.1<M.length/\p.2<M.length/\Ev.aN M p.1 p.2=true:=by
 unfold cy at h;rw[lL]at h;obtain⟨a,ha,h⟩:=h;obtain⟨b,hb,rfl⟩:=cW.mp h;have h1:=jQ.mp (cT.mp hb).1;exact⟨by simpa using ha,h1.1,h1.2.2⟩
theorem K7{l:List Nat}{b:Nat}(nd:l.Nodup)(hb:b∈l)(h:∀c∈l,c=b):l.length=1:=by
 match l,nd,hb,h with
 | [x],_,_,_=>rfl
 |x::y::r,nd,_,h =>
  have h1:=h x b9;have h2:=h y (cu _ b9);rw[iJ]at nd;exact absurd (show x∈y::r by rw[h1,<- h2];exact b9) nd.1
theorem aah{M:List Nat}(nd:M.Nodup){a b:Nat}(ha:a<M.length)(hb:b<M.length)(h:Ev.stepM M a b):(a,b)∈cy M:=by
 unfold cy;rw[lL];refine⟨a,by simpa using ha,cW.mpr ⟨b,cT.mpr ⟨jQ.mpr ⟨hb,h.1,h.2.1⟩,?_⟩,rfl⟩⟩;have e:((bh M a).filter λc=>Ev.aN M c b).length=1:=by
  apply K7 (b:=b)
  ·exact(FQ.filter _).filter _
  ·exact cT.mpr ⟨jQ.mpr ⟨hb,h.1,h.2.1⟩,Ev.kM M b⟩
  ·intro c hc
   obtain⟨h1,h2⟩:=cT.mp hc;obtain⟨h3,h4,h5⟩:=jQ.mp h1
   rcases h.2.2 c h3 h5 h2 with z|z
   ·exact absurd z.symm h4
   ·exact z
 rw[e];rfl
theorem R0(p:Nat->Bool)(l:List Nat):((List.range l.length).filter λj=>p (l.getD j 0)).length=(l.filter p).length:=by
 have e:l=(List.range l.length).map λj=>l.getD j 0:=by
  apply lI
  ·simp
  ·intro i h1 h2
   simp only[jD,lJ];rw[aO,aB h1];rfl
 have e2:(l.filter p).length=(((List.range l.length).map λj=>l.getD j 0).filter p).length:=by rw[<- e]
 rw[e2,Fx,az];rfl
def vH(K:W.Frag):Sp:=λvs H Q _=>∃(m:Nat) (M:List Nat),vs = [.ref m]/\ah K H m (M.map nV)/\M.length<=24/\∀l us H',Same H H'->H l=none->H' l=some (.lst us)->us.length<=576->Paired (bX H') (cy M) us->Q (.ref l) H'
theorem X4 (F:aR K "_law_steps" "_law_steps" qZ f fd) (T:Txt mg) (jh:aG P w K mg base "_law_at_most" ["_law_masks","_law_a","_law_b"] 1 (rh K)):aL P w K mg base aX 2 f fd ["_law_masks"] (vH K):=by
 refine F.ok Nm (λvs H Q E h=>?_) (λcdv A outer s H vs Q E hr h=>?_)
 ·obtain⟨m,M,rfl,_⟩:=h
  rfl
 ·obtain⟨m,M,rfl,hm,hn,kk⟩:=h
  have nd:=Nm.nd;have en:(((M.map nV).length:Int)).toNat=M.length:=by rw[dg,az]
  refine⟨_,(au (aJ (i:=1) nd rfl (Or.inl rfl) (bx (fh (K:=K) rfl) rfl T.len fz (ae (pv 0) ag)))
   (au (aJ (i:=2) nd rfl (Or.inl rfl) (bG ag))
   (au (cI cA rfl (df rfl T.range (ae (pv 1) ag)) (a_ (i:=3) nd rfl (Or.inr rfl))
   (au (oM (i:=4) nd rfl rfl (own:=["_law_b"]) (fr:=[("_law_a", 3),("_law_masks", 0)]) rfl (cj (aA qZ) ["_law_masks","_law_count","_law_found","_law_a","_law_above","_law_b"] rfl rfl (by decide +kernel)) (df rfl T.range (ae (pv 1) ag)) (λ_ _ _ _=>⟨(a_ (i:=0) (by decide +kernel:(["_law_b","_law_a","_law_masks"]:List Str).Nodup) rfl (Or.inl rfl)),(kU (PW.pt (qR (bC iA (pv 1) (pv 0) (bj _)) (qS (dY (aM jh hr rfl (ae (pv 2) (ae (pv 1) (ae (pv 0) ag (av nofun)) (av nofun)) (av nofun)))))))),(pv 0)⟩))
   (ax (cI cA rfl (dM (K:=K) rfl (pv 4)) (a_ (i:=5) nd rfl (Or.inr rfl))
   (ax (bz (bC cX (bx (fh (K:=K) rfl) rfl T.len fz (ae (dc (own:=["_law_c"]) (fr:=[("_law_masks", 0),("_law_b", 5)]) rfl (cj (aA qZ) ["_law_masks","_law_count","_law_found","_law_a","_law_above","_law_b"] rfl rfl (by decide +kernel)) (dM (K:=K) rfl (pv 4)) (λ_ _ _ _=>⟨(a_ (i:=0) (by decide +kernel:(["_law_c","_law_masks","_law_b"]:List Str).Nodup) rfl (Or.inl rfl)),(kU (dY (aM jh hr rfl (ae (pv 1) (ae (pv 0) (ae (pv 2) ag (av nofun)) (av nofun)) (av nofun))))),(pv 0)⟩)) ag)) ak (bj _)) (ax (cw (dJ (K:=K) rfl dU gF gS gw (pv 2) (ae (gx (ae (pv 3) (ae (pv 5) ag))) ag)))) bH))))))
   (ax (aV (pv 2)))))),?_⟩
  refine⟨_,rfl,m,_,rfl,.inl hm,?_⟩;refine⟨by show 0<=sizeLine;decide,λL hL=>?_⟩;refine⟨_,rfl,_,rfl,by rw[az];exact(bS (by omega)).1,by rw[az];exact(bS (by omega)).2,fP (lo:=0) (n:=(((M.map nV).length:Int)).toNat) (λi σ H2=>∃(v3 v4 v5:Option V) (us:List V),σ = [some (.ref m),some (.int (M.map nV).length),some (.ref L),v3,v4,v5]/\Same H H2/\H2 L=some (.lst us)/\us.length<=24 * i /\
   Paired (bX H2) ((List.range i).flatMap λa=>((bh M a).filter λb=>((bh M a).filter λc=>Ev.aN M c b).length == 1).map λb=>(a,b)) us) ⟨none,none,none,[],rfl,Same.put hL,ao,by simp,.nil⟩ ?_ ?_⟩
  ·rintro i σ H2 hi ⟨v3,v4,v5,us,rfl,s2,hl,hlen,hp⟩
   rw[en]at hi;refine⟨_,rfl,_,rfl,by rw[az];exact(bS (by omega)).1,by rw[az];exact(bS (by omega)).2,λD hD=>kE (λb=>!decide (i=b)&&Ev.aN M i b) nV src_range hD (by rw[en];exact dZ hn) (λj H3 Kt Kf hj hs hkt hkf=>?_) (λH3 hs3 hl3=>?_)⟩
   ·rw[en]at hj
    refine⟨_,rfl,_,rfl,rfl,_,rfl,?_⟩;have ed:(!decide (V.int (0+(i:Int))=V.int (0+(j:Int)))) = !decide (i=j):=by
     congr 1
     rw[gR];exact yn
    rw[ed];refine bB (λh=>?_) (λh=>?_)
    ·refine⟨_,rfl,_,rfl,_,rfl,m,i,j,M,by simp,hs.seq (s2.seq hm),hi,hj,λH4 s4=>⟨_,rfl,bB (λh'=>?_) (λh'=>?_)⟩⟩
     ·refine⟨_,rfl,?_⟩
      rw[gR];exact hkt _ (by rw[h,h',fX]) s4
     ·exact hkf _ (by rw[h,fX];simpa using h') s4
    ·refine cG ?_
     have h2:(!decide (i=j))=false:=by simpa using h
     exact hkf _ (by rw[h2,iX]) (Same.refl _)
   rw[en]at hl3
   change H3 D=some (.lst ((bh M i).map nV))at hl3
   have hDL:D≠L:=λe=>by rw[e,hl]at hD;cases hD
   have hab:(bh M i).length<=24:=b_ (mR _ _) (by rw[iH];exact hn);refine⟨_,rfl,D,rfl,⟨_,ah.of hl3⟩,jM (K:=K) (a:=D) (xs:=(bh M i).map nV) (λt σ H4=>∃(v5:Option V) (ws:List V),σ = [some (.ref m),some (.int (M.map nV).length),some (.ref L),some (.int (0+(i:Int))),some (.ref D),v5]/\Same H H4/\H4 D=some (.lst ((bh M i).map nV)) /\
    H4 L=some (.lst (us++ws))/\ws.length<=t/\Paired (bX H4) (((List.range i).flatMap λa=>((bh M a).filter λb=>((bh M a).filter λc=>Ev.aN M c b).length == 1).map λb=>(a,b))++((((bh M i).take t).filter λb=>((bh M i).filter λc=>Ev.aN M c b).length == 1).map λb=>(i,b))) (us++ws))
    ⟨v5,[],rfl,s2.trans hs3,hl3,by rw[h_];exact hs3 _ _ hl,aW _,by simpa using eU.same hs3 hp⟩ (λi σ H4 _ ⟨_,_,_,_,h4,_⟩=>ah.of h4) ?_ ?_⟩
   ·rintro t y σ H4 ht ⟨v5,ws,rfl,s4,qh,cR,hws,cU⟩
    have htl:t<(bh M i).length:=by simpa using(bN.mp ht).1
    have ey:y=nV (bh M i)[t]:=by
     rw[bO,aB htl]at ht;exact(da ht).symm
    subst ey;have Tw:=(jQ.mp (ft htl)).1;have et:(bh M i).take (t+1)=(bh M i).take t++[(bh M i)[t]]:=by rw[r0,aB htl];rfl
    refine⟨_,rfl,D,rfl,⟨_,ah.of qh⟩,λD2 hD2=>kE (λj=>Ev.aN M ((bh M i).getD j 0) (bh M i)[t]) (λj=>nV ((bh M i).getD j 0)) (src_list (ah.of qh)) hD2 (by rw[az];exact dZ hab) (λj H5 Kt Kf hj hs hkt hkf=>?_) (λH5 jo dI=>?_)⟩
    ·have hj':j<(bh M i).length:=by simpa using hj
     have hcl:(bh M i).getD j 0<M.length:=by
      rw[aO,aB hj'];exact(jQ.mp (ft hj')).1
     have eg:((bh M i).map nV).getD j .non=nV ((bh M i).getD j 0):=by
      rw[aO,iV hj'];rfl
     refine⟨_,rfl,_,rfl,_,rfl,m,_,_,M,by rw[eg];rfl,hs.seq (s4.seq hm),hcl,Tw,λH6 s6=>⟨_,rfl,bB (λh=>?_) (λh=>?_)⟩⟩
     ·refine⟨_,rfl,?_⟩
      rw[eg];exact hkt _ h s6
     ·exact hkf _ (by simpa using h) s6
    have ef:(((List.range ((bh M i).map nV).length).filter λj=>Ev.aN M ((bh M i).getD j 0) (bh M i)[t]).map λj=>nV ((bh M i).getD j 0)).length=((bh M i).filter λc=>Ev.aN M c (bh M i)[t]).length:=by
     rw[az,az];exact R0 (λc=>Ev.aN M c (bh M i)[t]) (bh M i)
    refine⟨D2,_,rfl,.inl (ah.of dI),rfl,_,rfl,?_⟩;rw[ef];have qo:=jo _ _ cR;have ed:decide (V.int ((((bh M i).filter λc=>Ev.aN M c (bh M i)[t]).length:Nat):Int)=V.int 1)=(((bh M i).filter λc=>Ev.aN M c (bh M i)[t]).length == 1):=by
     rw[dQ];simp only[fO,il]
     constructor
     ·intro h;injection h with h;omega
     ·intro h;rw[h];rfl
    rw[ed];refine bB (λh=>?_) (λh=>?_)
    ·refine⟨_,rfl,.inl ⟨rfl,_,ah.of qo⟩,_,rfl,_,rfl,by show 2<=sizeLine;decide,λq hq=>?_⟩
     refine⟨L,_,_,rfl,rfl,Same.put hq _ _ qo,?_,?_⟩
     ·rw[bp];exact cS (by omega)
     ·have oq:L≠q:=λe=>by rw[<- e,qo]at hq;cases hq
      refine⟨_,ws++[.ref q],rfl,?_,?_,?_,by rw[bp];exact Nat.succ_le_succ hws,?_⟩
      ·intro b o e
       rw[aD (λz=>by rw[z,hL]at e;cases e)];exact Same.put hq _ _ (jo _ _ (s4 _ _ e))
      ·rw[aD hDL];exact Same.put hq _ _ (jo _ _ qh)
      ·rw[ao,iZ]
      ·rw[et,pq,eh,<- iZ,<- iZ]
       have e1:([(bh M i)[t]].filter λb=>((bh M i).filter λc=>Ev.aN M c b).length == 1) = [(bh M i)[t]]:=by rw[List.filter_cons,if_pos h];rfl
       rw[e1];refine uK (Same.put hq _ _ qo) (oH (eU.same (jo.trans (Same.put hq)) cU) (.cons ⟨q,rfl,?_⟩ .nil));rw[ao,gR]
    ·refine⟨_,ws,rfl,s4.trans jo,jo _ _ qh,qo,Nat.le_succ_of_le hws,?_⟩
     rw[et,pq,eh];have e1:([(bh M i)[t]].filter λb=>((bh M i).filter λc=>Ev.aN M c b).length == 1) = []:=by rw[List.filter_cons,if_neg h];rfl
     rw[e1,rY,h_];exact eU.same jo cU
   ·rintro σ H4 ⟨v5,ws,rfl,s4,qh,cR,hws,cU⟩
    rw[az,r9]at cU;rw[az]at hws;refine⟨_,_,_,us++ws,rfl,s4,cR,by rw[bp];omega,?_⟩;rw[BM];exact cU
  ·rintro σ H2 ⟨v3,v4,v5,us,rfl,s2,hl,hlen,hp⟩
   rw[en]at hp hlen;exact⟨_,rfl,kk L us H2 s2 hL hl (by omega) hp⟩
theorem yh(xs:List V)(k:Nat):bM xs (some (k:Int)) none=xs.drop k:=by
 unfold bM;rw[HT.uX,HT.uW]
 by_cases h:k<=xs.length
 ·rw[Gd h,mW (by simp)]
 ·rw[Ge (by omega),List.drop_length,List.drop_of_length_le (by omega)];simp
theorem Q7(xs:List V)(k:Nat):bM xs none (some (k:Int))=xs.take k:=by
 unfold bM;rw[HT.uX,HT.uW,rT,Nat.sub_zero]
 by_cases h:k<=xs.length
 ·rw[Gd h]
 ·rw[Ge (by omega),mW (by omega),mW (by omega)]
theorem kF(x:Int)(k:Nat)(hk:0<k):∃r:Nat,r<k/\x % (k:Int)=(r:Int):=
 ⟨(x % (k:Int)).toNat,by have h1:=mO x (show(k:Int)≠0 by omega);have h2:=rO x (show(0:Int)<k by omega);omega,by have h1:=mO x (show(k:Int)≠0 by omega);omega⟩
theorem Le{α β:Type}{G:α->β->Prop}:∀{l:List α} {m:List β} (k:Nat),Paired G l m->Paired G (l.drop k) (m.drop k)
 |_,_,0,h=>h
 |_,_,_+1,.nil=>.nil
 |_,_,k+1,.cons _ t=>Le k t
theorem Lh{α β:Type}{G:α->β->Prop}:∀{l:List α} {m:List β} (k:Nat),Paired G l m->Paired G (l.take k) (m.take k)
 |_,_,0,_=>.nil
 |_,_,_+1,.nil=>.nil
 |_,_,k+1,.cons r t=>.cons r (Lh k t)
structure Hand (M:List Nat) (ps:List (Nat × Nat)):Prop where
 lt:∀p∈ps,p.1<M.length/\p.2<M.length
 le:∀p∈ps,Ev.aN M p.1 p.2=true
 all:∀p∈cy M,p∈ps
theorem tP{ns:List Int}{i:Nat}(h:i<ns.length):(ns.map V.int)[i]? = some (.int (ns.getD i 0)):=by
 rw[bO,aB h,aO,aB h];rfl
abbrev Cq:Stmt:=top 76
theorem Nc:aZ ["_law_masks","_law_draws_here","_law_found","_law_k","_law_turn","_law_a","_law_b"] ["_law_masks","_law_draws_here"] (aA Cq):=⟨rfl,rfl,rfl,by decide +kernel,rfl,by decide +kernel,by decide +kernel⟩
def Dw(K:W.Frag):Sp:=λvs H Q _=>∃(m d:Nat) (M:List Nat) (ns:List Int),vs = [.ref m,.ref d]/\ah K H m (M.map nV)/\ah K H d (ns.map V.int)/\ns.length=8/\0<M.length/\M.length<=24 /\
 ∀l us ps H',Same H H'->H l=none->H' l=some (.lst us)->us.length<=1000->Paired (bX H') ps us->Hand M ps->Q (.ref l) H'
theorem Xl (F:aR K "_law_handed" "_law_handed" Cq f fd) (T:Txt mg) (nI:aG P w K mg base "_law_steps" ["_law_masks"] 2 (vH K)) (jh:aG P w K mg base "_law_at_most" ["_law_masks","_law_a","_law_b"] 1 (rh K)) :
  aL P w K mg base aX 3 f fd ["_law_masks","_law_draws_here"] (Dw K):=by
 refine F.ok Nc (λvs H Q E h=>?_) (λcdv A outer s H vs Q E hr h=>?_)
 ·obtain⟨m,d,M,ns,rfl,_⟩:=h
  rfl
 ·obtain⟨m,d,M,ns,rfl,hm,hd,hns,hpos,hn,kk⟩:=h
  have nd:=Nc.nd;refine⟨_,(au (aJ (i:=2) nd rfl (Or.inl rfl) (aM nI hr rfl (ae (pv 0) ag)))
   (au (cI cA rfl (df rfl T.range (ae (ay bW (aq (aS (K:=K) rfl) (pv 1) ak (λ_ _=>rfl)) ak) ag)) (a_ (i:=3) nd rfl (Or.inl rfl))
   (au (aJ (i:=5) nd rfl (Or.inl rfl) (ay bW (ay jT (aq (aS (K:=K) rfl) (pv 1) (ay bV ak (ay bW (pv 3) ak)) (λ_ _=>rfl)) (ay bV (pv 3) ak)) (bx (fh (K:=K) rfl) rfl T.len fz (ae (pv 0) ag))))
   (au (aJ (i:=6) nd rfl (Or.inl rfl) (ay bW (ay jT (aq (aS (K:=K) rfl) (pv 1) (ay bV ak (ay bW (pv 3) ak)) (λ_ _=>rfl)) (ay bV (pv 3) ak)) (bx (fh (K:=K) rfl) rfl T.len fz (ae (pv 0) ag))))
   (ax (bz (dY (aM jh hr rfl (ae (pv 0) (ae (pv 5) (ae (pv 6) ag (av nofun)) (av nofun)) (av nofun)))) (ax (cw (dJ (K:=K) rfl dU gF gS gw (pv 2) (ae (gx (ae (pv 5) (ae (pv 6) ag))) ag)))) bH)))))
   (au (aJ (i:=4) nd rfl (Or.inl rfl) (ay bW (aq (aS (K:=K) rfl) (pv 1) ak (λ_ _=>rfl)) (ay bV (bx (fh (K:=K) rfl) rfl T.len fz (ae (pv 2) ag)) ak)))
   (ax (aV (ay dk (cY (cZ (K:=K) rfl) (pv 2) (cH (pv 4)) dC) (cY (cZ (K:=K) rfl) (pv 2) dC (cH (pv 4))))))))),?_⟩
  refine⟨_,rfl,m,M,rfl,hm,hn,λL us H1 s1 hL hl hlen hp=>?_⟩;obtain⟨c0,hc0,e0⟩:=kF (ns.getD 0 0) 12 (by decide);refine⟨_,rfl,d,_,0,_,rfl,rfl,s1.seq hd,aH (tP (i:=0) (by omega)),_,_,rfl,rfl,(by show(0:Int)<12;decide),_,rfl,?_,?_,?_⟩
  ·show -(2 ^ 62)<=ns.getD 0 0 % 12
   rw[show ns.getD 0 0 % 12=(c0:Int)from e0];omega
  ·show ns.getD 0 0 % 12<2 ^ 62
   rw[show ns.getD 0 0 % 12=(c0:Int)from e0];omega
  have ec:(ns.getD 0 0 % 12).toNat=c0:=by rw[show ns.getD 0 0 % 12=(c0:Int)from e0];simp
  refine fP (lo:=0) (n:=(ns.getD 0 0 % 12).toNat) (λi σ H2=>∃(v3 v4 v5 v6:Option V) (ws:List V) (qs:List (Nat × Nat)),σ = [some (.ref m),some (.ref d),some (.ref L),v3,v4,v5,v6]/\Same H H2/\H2 L=some (.lst ws)/\ws.length<=576+i/\Paired (bX H2) qs ws/\Hand M qs)
   ⟨none,none,none,none,us,cy M,rfl,s1,hl,by omega,hp,λp hp=>⟨(uv hp).1,(uv hp).2.1⟩,λp hp=>(uv hp).2.2,λp hp=>hp⟩ ?_ ?_
  ·rintro i σ H2 hi ⟨v3,v4,v5,v6,ws,qs,rfl,s2,hl2,hw,hpq,hand⟩
   rw[ec]at hi;have hm2:=s2.seq hm;have hd2:=s2.seq hd;obtain⟨t,ht,et⟩:=kF (0+(i:Int)) 3 (by decide);have i1:1+(0+(i:Int)) % 3=((1+t:Nat):Int):=by rw[show(0+(i:Int)) % 3=(t:Int)from et];push_cast;rfl
   have i4:4+(0+(i:Int)) % 3=((4+t:Nat):Int):=by rw[show(0+(i:Int)) % 3=(t:Int)from et];push_cast;rfl
   obtain⟨x,hx,ex⟩:=kF (ns.getD (1+t) 0 / (0+(i:Int)+1)) M.length hpos;obtain⟨y,hy,ey⟩:=kF (ns.getD (4+t) 0 / (0+(i:Int)+1)) M.length hpos;refine⟨_,rfl,_,rfl,_,_,rfl,rfl,(by show(0:Int)<3;decide),_,_,rfl,rfl,d,_,_,_,rfl,rfl,hd2,by rw[i1];exact aH (tP (by omega)),_,rfl,_,_,rfl,rfl,_,_,rfl,rfl,⟨by omega,by omega⟩,_,rfl,m,_,rfl,.inl hm2,_,_,rfl,rfl,by rw[az];omega,?_⟩;refine⟨_,rfl,_,rfl,_,_,rfl,rfl,(by show(0:Int)<3;decide),_,_,rfl,rfl,d,_,_,_,rfl,rfl,hd2,by rw[i4];exact aH (tP (by omega)),_,rfl,_,_,rfl,rfl,_,_,rfl,rfl,⟨by omega,by omega⟩,_,rfl,m,_,rfl,.inl hm2,_,_,rfl,rfl,by rw[az];omega,?_⟩;have ex':ns.getD (1+t) 0 / (0+(i:Int)+1) % ((M.map nV).length:Int)=(x:Int):=by rw[az];exact ex
   have ey':ns.getD (4+t) 0 / (0+(i:Int)+1) % ((M.map nV).length:Int)=(y:Int):=by rw[az];exact ey
   refine⟨_,rfl,_,rfl,_,rfl,m,x,y,M,by dsimp only;rw[ex',ey'];rfl,hm2,hx,hy,λH3 s3=>⟨_,rfl,bB (λh=>?_) (λh=>?_)⟩⟩
   ·have hl3:=s3 _ _ hl2
    refine⟨_,rfl,.inl ⟨rfl,_,ah.of hl3⟩,_,rfl,_,rfl,by show 2<=sizeLine;decide,λq hq=>?_⟩;refine⟨L,_,_,rfl,rfl,Same.put hq _ _ hl3,cS (by omega),?_⟩;refine⟨_,_,_,_,ws++[.ref q],qs++[(x,y)],rfl,?_,ao,by rw[bp];simp;omega,?_,?_⟩
    ·intro b o e
     rw[aD (λz=>by rw[z,hL]at e;cases e)];exact Same.put hq _ _ (s3 _ _ (s2 _ _ e))
    ·refine uK (Same.put hq _ _ hl3) (oH (eU.same (s3.trans (Same.put hq)) hpq) (.cons ⟨q,rfl,?_⟩ .nil))
     rw[ao];dsimp only;rw[ex',ey']
    ·refine⟨λp hp=>?_,λp hp=>?_,λp hp=>ko _ (hand.all p hp)⟩
     ·rcases f6.mp hp with hp|hp
      ·exact hand.lt p hp
      ·simp at hp;subst hp;exact⟨hx,hy⟩
     ·rcases f6.mp hp with hp|hp
      ·exact hand.le p hp
      ·simp at hp;subst hp;exact h
   ·exact⟨_,_,_,_,ws,qs,rfl,s2.trans s3,s3 _ _ hl2,by omega,eU.same s3 hpq,hand⟩
  ·rintro σ H2 ⟨v3,v4,v5,v6,ws,qs,rfl,s2,hl2,hw,hpq,hand⟩
   rw[ec]at hw;obtain⟨t,ht,et⟩:=kF (ns.getD 7 0) (ws.length+1) (by omega);refine⟨_,rfl,d,_,7,_,rfl,rfl,s2.seq hd,aH (tP (i:=7) (by omega)),_,rfl,L,_,rfl,.inl (ah.of hl2),_,_,rfl,rfl,_,_,rfl,rfl,by omega,?_⟩;have RN:ns.getD 7 0 % ((ws.length:Int)+1)=(t:Int):=by rw[<- et];push_cast;rfl
   dsimp only;rw[RN];refine⟨_,rfl,_,rfl,_,rfl,L,_,rfl,ah.of hl2,λp1 hp1=>?_⟩;rw[yh];have hL1:=Same.put hp1 (o:=.lst (ws.drop t)) _ _ hl2;refine⟨_,rfl,_,rfl,_,rfl,L,_,rfl,ah.of hL1,λp2 hp2=>?_⟩;rw[Q7];refine⟨p1,p2,_,_,rfl,rfl,Same.put hp2 _ _ ao,ao,?_,λp3 hp3=>?_⟩
   ·rw[i_,lK];exact dh (cS (by omega))
   ·have s3:Same H2 _:=((Same.put hp1 (o:=.lst (ws.drop t))).trans (Same.put hp2 (o:=.lst (ws.take t)))).trans (Same.put hp3 (o:=.lst (ws.drop t++ws.take t)))
    refine kk p3 (ws.drop t++ws.take t) (qs.drop t++qs.take t) _ (s2.trans s3) (Same.free ?_ hp3) ao ?_ (eU.same s3 (oH (Le t hpq) (Lh t hpq))) ?_
    ·exact s2.trans ((Same.put hp1).trans (Same.put hp2))
    ·rw[bp,i_,lK];omega
    ·have mem:∀p,p∈qs.drop t++qs.take t ↔ p∈qs:=λp=>by
      rw[f6]
      constructor
      ·rintro(h|h)
       ·exact FK h
       ·exact List.mem_of_mem_take h
      ·intro h
       rw[<- List.take_append_drop t qs]at h
       rcases f6.mp h with h|h
       ·exact .inr h
       ·exact .inl h
     exact⟨λp hp=>hand.lt p ((mem p).mp hp),λp hp=>hand.le p ((mem p).mp hp),λp hp=>(mem p).mpr (hand.all p hp)⟩
end
theorem ZM{α:Type}(k:α->Bool)(d:α)(l:List α):((List.range l.length).filter λi=>k (l.getD i d)).map (λi=>l.getD i d)=l.filter k:=by
 have e:l=(List.range l.length).map λi=>l.getD i d:=by
  apply lI
  ·simp
  ·intro i h1 h2
   simp[aO,aB h1]
 conv=>rhs;rw[e]
 rw[Fx];rfl
def Eo(n:Nat)(R:Nat->Nat->Bool):List (Nat × Nat):=(jt n R).filter λq=>bQ n R q.1 q.2
theorem Wd{n:Nat}{R:Nat->Nat->Bool}{q:Nat × Nat}(h:q∈jt n R):q.1<n/\q.2<n/\q.1≠q.2/\R q.1 q.2=true:=by
 unfold jt at h;rw[lL]at h;obtain⟨l,hl,hq⟩:=h;rw[cW]at hq;obtain⟨x,hx,rfl⟩:=hq;rw[cT]at hx;obtain⟨h1,h2⟩:=hx;simp at hl h1 h2;exact⟨hl,h1,h2.1,h2.2⟩
theorem aai{M:List Nat}(nd:M.Nodup){R:Nat->Nat->Bool}(hR:∀a b,a<M.length->b<M.length->R a b=Ev.aN M a b):Eo M.length R=cy M:=by
 unfold Eo;rw[Yr hR];unfold jt cy;rw[List.filter_flatMap];have:∀a∈List.range M.length,((((List.range M.length).filter λh=>!decide (a=h)&&Ev.aN M a h).map λh=>(a,h)).filter λq=>bQ M.length R q.1 q.2) =
   (((bh M a).filter λb=>((bh M a).filter λc=>Ev.aN M c b).length == 1).map λb=>(a,b)):=by
  intro a ha;have ha':a<M.length:=by simpa using ha
  rw[Fx]
  congr 1
  apply Fw
  intro b hb;obtain⟨hb1,hb2,hb3⟩:=jQ.mp hb;have Wr:(bh M a).Nodup:=FQ.filter _;rw[dQ];show bQ M.length R a b=true ↔ _;have pQ:∀x y,x<M.length->y<M.length->(bL R x y=true ↔ x≠y/\Ev.aN M x y=true):=λx y hx hy=>by
   unfold bL;rw[hR x y hx hy];simp
  constructor
  ·intro h
   unfold bQ at h;rw[bD]at h;obtain⟨h1,h2⟩:=h;have no:∀t,t<M.length->bL R a t=true->bL R t b=true->False:=λt ht e1 e2=>by
    have:((List.range M.length).any λt=>bL R a t&&bL R t b)=true:=by
     rw[pj];exact⟨t,by simpa using ht,by rw[e1,e2];rfl⟩
    rw[this]at h2;cases h2
   have h3:=K7 (l:=(bh M a).filter λc=>Ev.aN M c b) (b:=b) (Wr.filter _) (cT.mpr ⟨hb,Ev.kM _ _⟩) λc hc=>by
    obtain⟨c1,c2⟩:=cT.mp hc;obtain⟨d1,d2,d3⟩:=jQ.mp c1
    by_cases e:c=b
    ·exact e
    ·exact(no c d1 ((pQ a c ha' d1).mpr ⟨d2,d3⟩) ((pQ c b d1 hb1).mpr ⟨e,c2⟩)).elim
   rw[h3];rfl
  ·intro h
   have h1:((bh M a).filter λc=>Ev.aN M c b).length=1:=by simpa using h
   unfold bQ;rw[bD];refine⟨(pQ a b ha' hb1).mpr ⟨hb2,hb3⟩,?_⟩;cases e:(List.range M.length).any λt=>bL R a t&&bL R t b with
   |false=>rfl
   |true =>
    rw[pj]at e;obtain⟨t,ht,e⟩:=e;have ht':t<M.length:=by simpa using ht
    rw[bD]at e;have t1:=(pQ a t ha' ht').mp e.1;have t2:=(pQ t b ht' hb1).mp e.2;obtain⟨x,hx⟩:=List.length_eq_one_iff.mp h1;have m1:t∈(bh M a).filter λc=>Ev.aN M c b:=cT.mpr ⟨jQ.mpr ⟨ht',t1.1,t1.2⟩,t2.2⟩
    have m2:b∈(bh M a).filter λc=>Ev.aN M c b:=cT.mpr ⟨hb,Ev.kM _ _⟩
    rw[hx]at m1 m2;simp at m1 m2;exact absurd (m1.trans m2.symm) t2.1
 rw[wu,wu,mU this]
section
variable {P:Program} {w:World} {K:W.Frag} {mg:Str->Option Value} {base:Heap} {f:Addr} {fd:FuncData}
end
end My
namespace L2
open PySem PySem.Spec PyProof.Rows
section
variable {X:Cx} {pins:List (Addr × Obj)} {σ:St} {H:Hp} {s:Shared} {scope:Scope} {v:Str} {fr:List (Str × Nat)} {own:List Str} {fp:List Addr}
end
section
variable {X:Cx} {elt tg iter:Expr} {ifs:List Expr} {scope:Scope} {pos:Pos} {v:Str} {own:List Str} {fr:List (Str × Nat)} {wi:TI} {g:TG} {tc:TT} {te:TE}
end
theorem ug:∀{ns:List Int} {us:List Value},Vals (ns.map V.int) us->IntsAre us ns
 | [],_,h=>by cases h;exact .nil
 |n::ns,_,h=>by
  cases h with
  |cons h t =>
   obtain⟨k,rfl⟩:=h;exact .cons n k (ug t)
def Zn(K:W.Frag):V->List V->Hp->VK->Prop:=λx vs H Q=>∃(l:Addr) (ns:List Int) (k:Int),x = .ref l/\vs = [.int k]/\ah K H l (ns.map V.int)/\k∈ns/\Q (.int (ns.idxOf k:Nat)) H
theorem Bm {X:Cx} {K:W.Frag} (hK:X.K=K):pE X "list.index" (Zn K):=by
 subst hK;intro pins s σ H x vs v us Q I rx rv h;obtain⟨l,ns,k,rfl,rfl,hq,hk,q⟩:=h;cases rx;obtain⟨u,rfl,ru⟩:=rv.one;obtain⟨t,rfl⟩:=ru;obtain⟨its,r,⟨⟨cls,dd,data,sl⟩,n,ho,hc,hdd,hd⟩,hz⟩:=I.list hq;simp only at hc hdd hd;subst hc hdd hd;have hi:=ug r;have hlen:=hi.length;have hj:ns.idxOf k<ns.length:=pC.mpr hk;have hb:sizeLine<2 ^ 62:=by decide
 rw[az]at hz;refine lO lM ⟨_,ho,rfl⟩ Gr (Gp _ _)
  (Gx l its.toArray n none sl (.int k t) (isInt k) (ns.idxOf k) (by simpa[hlen]using hj) (by omega) ?_ ?_) ⟨ho,λy hy=>(eq_isInt k t hi y (by simpa using hy)).at _ _,?_⟩
 ·show isInt k its[ns.idxOf k]=true
  rw[isInt_at k hi _ (by omega) hj];simpa using pB hj
 ·intro j hjs hlt
  show isInt k its[j]=false;rw[isInt_at k hi j (by simpa using hjs) (by omega)];exact ne_of_lt_idxOf hlt _
 ·exact⟨.int (ns.idxOf k:Nat),H,I.tok _,⟨_,rfl⟩,q⟩
def Zy(K:W.Frag):List V->Hp->VK->Prop:=λxs H Q=>∃(p:Addr) (ns:List Int),xs = [.ref p]/\ah K H p (ns.map V.int)/\0<ns.length/\∀m∈ns,(∀a∈ns,m<=a)->Q (.int m) H
def Zx(K:W.Frag):List V->Hp->VK->Prop:=λxs H Q=>∃(p:Addr) (ns:List Int),xs = [.ref p]/\ah K H p (ns.map V.int)/\0<ns.length/\∀m∈ns,(∀a∈ns,a<=m)->Q (.int m) H
theorem QR {X:Cx} {K:W.Frag} (hK:X.K=K) (hc:X.calm=true):d9 X (.builtin "min") (Zy K):=by
 subst hK;intro pins s σ H xs us Q I r h;obtain⟨p,ns,rfl,hq,hne,q⟩:=h;obtain⟨u,rfl,ru⟩:=Vals.one r;cases ru;obtain⟨its,rv,ht,hz⟩:=I.list hq;have hi:=ug rv;obtain⟨ys,e⟩:=hi.allInts.items;have hns:ns=ys.toList.map (·.1):=by rw[<- hi.numsOf,<- nums_intItems,<- e]
 have hsz:0<ys.size:=by
  have h3:=hne;rw[hns,az,jB]at h3;exact h3
 have hl:=ht.isList;rw[e]at hl;refine min_intList (I.ok.hd hc) hl hsz λv h' tk hv hk=>?_
 obtain⟨t,rfl⟩:=intItems_at hv;obtain⟨h1,h2⟩:=argBest_lt (numAt ys) (ys.size - 1);refine⟨.int _,H,I.kept (t':=tk) hk,⟨t,rfl⟩,q _ ?_ λa ha=>?_⟩
 ·rw[hns,numAt_eq];exact getD_mem (by rw[az,jB];omega)
 ·rw[hns]at ha
  obtain⟨j,hj,rfl⟩:=mem_getD ha;rw[az,jB]at hj;rw[<- numAt_eq];exact h2 j (by omega)
theorem QQ {X:Cx} {K:W.Frag} (hK:X.K=K) (hc:X.calm=true):d9 X (.builtin "max") (Zx K):=by
 subst hK;intro pins s σ H xs us Q I r h;obtain⟨p,ns,rfl,hq,hne,q⟩:=h;obtain⟨u,rfl,ru⟩:=Vals.one r;cases ru;obtain⟨its,rv,ht,hz⟩:=I.list hq;have hi:=ug rv;obtain⟨ys,e⟩:=hi.allInts.items;have hns:ns=ys.toList.map (·.1):=by rw[<- hi.numsOf,<- nums_intItems,<- e]
 have hsz:0<ys.size:=by
  have h3:=hne;rw[hns,az,jB]at h3;exact h3
 have hl:=ht.isList;rw[e]at hl;refine max_intList (I.ok.hd hc) hl hsz λv h' tk hv hk=>?_
 obtain⟨t,rfl⟩:=intItems_at hv;obtain⟨h1,h2⟩:=argBest_gt (numAt ys) (ys.size - 1);refine⟨.int _,H,I.kept (t':=tk) hk,⟨t,rfl⟩,q _ ?_ λa ha=>?_⟩
 ·rw[hns,numAt_eq];exact getD_mem (by rw[az,jB];omega)
 ·rw[hns]at ha
  obtain⟨j,hj,rfl⟩:=mem_getD ha;rw[az,jB]at hj;rw[<- numAt_eq];exact h2 j (by omega)
section
variable {prog:Program} {w:World} {A:Around} {E:Value->Shared->Prop} {s:Shared} {l:Addr} {xs:Array (Int × Tok)}
end
def p7(e:V->Bool):Value->Bool
 |.ref a=>e (.ref a)
 |_=>false
theorem Ku{X:Cx}{pins:List (Addr × Obj)}{σ:St}{H:Hp}{s:Shared}(I:Inv X pins σ H s){A:Around}{n:Nat}(hu:A.units+n<cLine){x:V}{v:Value}(rx:RelV x v){e:V->Bool}:∀{xs:List V} {us:List Value},Vals xs us->(∀z∈xs,∃a,z = .ref a)->(∀z∈xs,cg X.K H n z x (e z))->∀u∈us,SeqAt.EqAt A s u v (p7 e u)
 |_,_,.nil,_,_=>λu hu=>by cases hu
 |y::xs,u::us,.cons r t,f,g=>λu' hu'=>by
  rcases bq.mp hu' with rfl|hu'
  ·obtain⟨a,rfl⟩:=f y b9
   have:=(g _ b9).at I hu r rx;cases r;exact this
  ·exact Ku I hu rx t (λz hz=>f z (cu _ hz)) (λz hz=>g z (cu _ hz)) u' hu'
theorem aad{K:W.Frag}{a:Addr}{us:List V}{xs ys:Nat->V}{ρ:St}{H1:Hp}(h:ah K H1 a us)(hp:∀i,i<us.length->∃t,us[i]? = some (.ref t)/\H1 t=some (.tup [xs i,ys i])):iM (ki K a) (tO K 2 (lZ (cD 0) (lZ (cD 1) tN))) (none::none::ρ) H1 us.length (λi=>some (xs i)::some (ys i)::ρ) where
 go:=λi H hi hs=>⟨us,us[i],hs.seq h,aB hi⟩
 stop:=λH hs=>⟨us,hs.seq h,aW _⟩
 step:=λi H x H' Kk hi hs hy hk=>by
  obtain⟨rfl,hx⟩:=hy;have e:=hx us (hs.seq h);obtain⟨t,e1,e2⟩:=hp i hi;rw[e1]at e;cases e;refine⟨t,[xs i,ys i],rfl,.inl (.inl (hs _ _ e2)),rfl,xs i,[ys i],rfl,ys i,[],rfl,rfl,?_⟩;exact⟨Wk.set (Wk.set (Wk.refl _) rfl) rfl,hk _ (Same.refl _)⟩
end L2
namespace My
open PySem PySem.Spec PyProof.Rows L2
theorem Oe{n:Nat}{R:Nat->Nat->Bool}{a b:Nat}(h:bQ n R a b=true):bL R a b=true:=by
 unfold bQ at h;rw[bD]at h;exact h.1
theorem Bl{cs:List Nat}{i:Nat}(h:i<cs.length):cs.getD i 0∈cs:=by
 rw[aO,aB h];exact ft h
theorem uf(cs:List Nat):(cs.map λx:Nat=>(x:Int)).map V.int=cs.map nV:=by rw[eZ];rfl
theorem Kw{M:List Nat}(L:Ev.cz M){a b:Nat}:(a,b)∈cy M ↔ a<M.length/\b<M.length/\bQ M.length (Ev.aN M) a b=true:=by
 rw[<- aai (R:=Ev.aN M) L.nd λ_ _ _ _=>rfl];unfold Eo;rw[cT]
 constructor
 ·rintro⟨h1,h2⟩
  have:=Wd h1;exact⟨this.1,this.2.1,h2⟩
 ·rintro⟨h1,h2,h3⟩
  refine⟨?_,h3⟩;unfold jt;rw[lL];refine⟨a,by simpa using h1,?_⟩;rw[cW];refine⟨b,?_,rfl⟩;rw[cT];have:=Oe h3;unfold bL at this;exact⟨by simpa using h2,this⟩
theorem Au(m:Nat):∀F:List Nat,inV (nV m) (F.map nV)=decide (m∈F)
 | []=>by simp[inV]
 |x::r=>by
  have ih:=Au m r;unfold inV at ih ⊢;rw[cL,ph,ih];have e:jI (nV x) (nV m)=decide (x=m):=by
   show((x:Int) == (m:Int))=decide (x=m);rw[dQ];simp;omega
  rw[e];rw[dQ];simp only[Fl,fO,bq]
  constructor
  ·rintro(h|h)
   ·exact .inl h.symm
   ·exact .inr h
  ·rintro(h|h)
   ·exact .inl h.symm
   ·exact .inr h
theorem R5(F:List Nat):(F.map nV).all jK=true:=by
 rw[fZ];intro x hx;obtain⟨y,_,rfl⟩:=cW.mp hx;rfl
structure Fam (F:List Nat):Prop where
 nd:F.Nodup
 lt:∀x∈F,x<16
theorem Fam.len{F:List Nat}(h:Fam F):F.length<=16:=Ev.KR 16 F h.nd h.lt
theorem Fam.snoc{F:List Nat}(h:Fam F){x:Nat}(hx:x<16)(hn:x ∉ F):Fam (F++[x]) where
 nd:=FP.mpr ⟨h.nd,by simp,λa ha b hb=>by simp at hb;subst hb;exact λe=>hn (e▸ha)⟩
 lt:=λy hy=>by
  rcases f6.mp hy with hy|hy
  ·exact h.lt y hy
  ·simp at hy;subst hy;exact hx
theorem Il{F G:List Nat}{i:Nat}(h:i<F.length):(F++G).getD i 0=F.getD i 0:=by
 rw[aO,aO,jC h]
theorem tG(xs:List V)(k:Nat):bM xs none (some (k:Int))=xs.take k:=by
 unfold bM;rw[HT.uX,HT.uW,rT,Nat.sub_zero]
 by_cases h:k<=xs.length
 ·rw[Gd h]
 ·rw[Ge (by omega),mW (by omega),mW (by omega)]
section
variable {P:Program} {w:World} {K:W.Frag} {mg:Str->Option Value} {base:Heap} {f:Addr} {fd:FuncData}
abbrev Cv:Stmt:=top 65
theorem Nj:aZ ["_law_masks","_law_both","_law_found","_law_at","_law_here","_law_there","_law_some","_law_mask"] ["_law_masks","_law_both"] (aA Cv):=⟨rfl,rfl,rfl,by decide +kernel,rfl,by decide +kernel,by decide +kernel⟩
def Eg(K:W.Frag):Sp:=λvs H Q _=>∃(a:Nat) (M:List Nat) (c:Bool),vs = [.ref a,.bl c]/\H a=some (.lst (M.map nV))/\Fam M/\15∈M/\∀l M' H',Same H H'->H l=none->H' l=some (.lst (M'.map nV))->Ev.cz M'->Q (.ref l) H'
structure sO (M F:List Nat) (k:Nat):Prop where
 fam:Fam F
 sub:∀x∈M,x∈F
 cl:∀i j,i<j->j<k->F.getD i 0&&& F.getD j 0∈F
theorem sO.lat{M F:List Nat}(h:sO M F F.length)(h15:15∈M):Ev.cz F where
 nd:=h.fam.nd
 len:=b_ h.fam.len (by decide)
 meet:=λx hx y hy=>by
  obtain⟨i,hi,rfl⟩:=Ev.tQ hx;obtain⟨j,hj,rfl⟩:=Ev.tQ hy
  rcases Nat.lt_trichotomy i j with q|q|q
  ·exact h.cl i j q hj
  ·subst q;rw[wI];exact hx
  ·rw[wH];exact h.cl j i q hi
 top:=⟨15,h.sub 15 h15,λx hx=>by
  have hlt:=h.fam.lt x hx;have:∀y:Nat,y<16->Ev.Sub y 15:=by decide
  exact this x hlt⟩
theorem X2 (F:aR K "_law_shut" "_law_shut" Cv f fd) (T:Txt mg):aL P w K mg base aX 1 f fd ["_law_masks","_law_both"] (Eg K):=by
 refine F.ok Nj (λvs H Q E h=>?_) (λcdv A outer s H vs Q E hr h=>?_)
 ·obtain⟨a,M,c,rfl,_⟩:=h
  rfl
 ·obtain⟨a,M,c,rfl,ha,hM,h15,kk⟩:=h
  have nd:=Nj.nd;refine⟨_,(au (aJ (i:=2) nd rfl (Or.inl rfl) (gJ (yd (K:=K) rfl) rfl T.list sS (ae (pv 0) ag)))
   (au (aJ (i:=3) nd rfl (Or.inl rfl) ak)
   (au (Y8 cA (bC Br (pv 3) (bx (fh (K:=K) rfl) rfl T.len fz (ae (pv 2) ag)) (bj _))
   (au (aJ (i:=4) nd rfl (Or.inl rfl) (aq (aS (K:=K) rfl) (pv 2) (pv 3) (λ_ _=>rfl)))
   (au (cI cA rfl (dM (K:=K) rfl (cY (cZ (K:=K) rfl) (pv 2) dC (cH (pv 3)))) (a_ (i:=5) nd rfl (Or.inl rfl))
   (au (aJ (i:=6) nd rfl (Or.inl rfl) (ay dk (bG (ae (ay mz (pv 4) (pv 5)) ag)) (ay K_ (bG (ae (ay uG (pv 4) (pv 5)) ag)) (gJ sY rfl T.int pS (ae (pv 1) ag)))))
   (ax (cI cA rfl (dM (K:=K) rfl (pv 6)) (a_ (i:=7) nd rfl (Or.inl rfl))
   (ax (bz (bC (Yj (K:=K) rfl) (pv 7) (pv 2) (by with_unfolding_all rfl)) (ax (cw (dJ (K:=K) rfl dU gF gS gw (pv 2) (ae (pv 7) ag)))) bH))))))
   (ax (aJ (i:=3) nd rfl (Or.inl rfl) (ay bV (pv 3) ak))))))
   (ax (aV (pv 2)))))),?_⟩
  refine⟨_,rfl,a,_,rfl,.inl (ah.of ha),λL hL=>?_⟩;refine⟨λm σ H2=>∃(k:Nat) (G:List Nat) (v4 v5 v6 v7:Option V),m=17 - k/\k<=G.length/\σ = [some (.ref a),some (.bl c),some (.ref L),some (.int k),v4,v5,v6,v7]/\Same H H2/\H2 L=some (.lst (G.map nV))/\sO M G k,
   ⟨17,0,M,none,none,none,none,rfl,eD _,rfl,Same.put hL,ao,hM,λx hx=>hx,λi j _ h=>absurd h (wK _)⟩,?_⟩
  rintro m σ H2 ⟨k,G,v4,v5,v6,v7,hm,hk,rfl,s2,hl,S⟩;have hG:=S.fam.len;refine⟨_,rfl,_,rfl,L,_,rfl,.inl (ah.of hl),_,_,rfl,rfl,_,rfl,bB (λh=>?_) (λh=>?_)⟩
  ·rw[fO,az]at h
   have Ah:k<G.length:=by omega
   refine⟨λσ' H'=>∃(G:List Nat) (v4 v5 v6 v7:Option V),k+1<=G.length/\σ' = [some (.ref a),some (.bl c),some (.ref L),some (.int ((k:Int)+1)),v4,v5,v6,v7]/\Same H H'/\H' L=some (.lst (G.map nV))/\sO M G (k+1),
    λσ' H' ⟨G,v4,v5,v6,v7,h1,h2,h3,h4,h5⟩=>⟨17 - (k+1),by omega,k+1,G,v4,v5,v6,v7,rfl,h1,by rw[h2];push_cast;rfl,h3,h4,h5⟩,?_⟩
   refine⟨_,rfl,_,rfl,L,_,k,nV (G.getD k 0),rfl,rfl,ah.of hl,aH (by rw[bO,aB Ah,aO,aB Ah];rfl),?_⟩;refine⟨_,rfl,_,rfl,k,rfl,L,_,rfl,ah.of hl,λq hq=>?_⟩;rw[tG];have oq:q≠L:=λe=>by rw[e,hl]at hq;cases hq
   have TY:∀i,i<k->G.getD i 0<16:=λi hi=>S.fam.lt _ (Ev.getD_mem (by omega))
   have Jd:G.getD k 0<16:=S.fam.lt _ (Ev.getD_mem Ah);refine⟨q,rfl,⟨_,ah.of ao⟩,jM (K:=K) (a:=q) (xs:=(G.map nV).take k) (λt σ H3=>∃(X:List Nat) (v5 v6 v7:Option V),σ = [some (.ref a),some (.bl c),some (.ref L),some (.int k),some (nV (G.getD k 0)),v5,v6,v7] /\
    Same H H3/\H3 q=some (.lst ((G.map nV).take k))/\H3 L=some (.lst ((G++X).map nV))/\Fam (G++X)/\∀i,i<t->G.getD i 0&&& G.getD k 0∈G++X) ?_ ?_ ?_ ?_⟩
   ·refine⟨[],v5,v6,v7,rfl,s2.trans (Same.put hq),ao,?_,by simpa using S.fam,λi h=>absurd h (wK _)⟩
    rw[aD (bJ oq),h_];exact hl
   ·rintro i σ H3 _ ⟨X,v5,v6,v7,_,_,h3,_⟩
    exact ah.of h3
   ·rintro t y σ H3 hi ⟨X,v5,v6,v7,rfl,s3,iT,hl3,fam,cl⟩
    have htk:t<k:=by
     have:=(bN.mp hi).1;rw[lK,az]at this;omega
    have ey:y=nV (G.getD t 0):=by
     rw[PK htk,bO,aB (show t<G.length by omega)]at hi;rw[aO,aB (show t<G.length by omega)];exact(da hi).symm
    subst ey;have hlt:=TY t htk;have a16:G.getD k 0&&& G.getD t 0<16:=mX Nat.and_le_left Jd;have WX:G.getD k 0 ||| G.getD t 0<16:=Nat.or_lt_two_pow (n:=4) Jd hlt
    refine⟨_,rfl,_,rfl,_,_,rfl,rfl,by show 1<=sizeLine;decide,λp1 hp1=>?_⟩;refine⟨_,rfl,_,rfl,_,_,rfl,rfl,by show 1<=sizeLine;decide,λp2 hp2=>?_⟩;refine⟨_,rfl,.inr ⟨c,rfl,?_⟩⟩;have hb:(if c=true then(1:Int)else 0)=1\/(if c=true then(1:Int)else 0)=0:=by cases c <;> simp
    refine⟨p2,_,_,rfl,rfl,ao,by rcases hb with e|e <;> rw[e] <;> decide,by rcases hb with e|e <;> rw[e] <;> decide,?_,λp3 hp3=>?_⟩
    ·rcases hb with e|e <;> rw[e]
     ·show 1 * 1<=sizeLine;decide
     ·show 1 * 0<=sizeLine;decide
    have eA:V.int (Builtin.bitAnd (G.getD k 0:Nat) (G.getD t 0:Nat))=nV (G.getD k 0&&& G.getD t 0):=by rw[nA]
    have eO:V.int (Builtin.bitOr (G.getD k 0:Nat) (G.getD t 0:Nat))=nV (G.getD k 0 ||| G.getD t 0):=by rw[uH]
    refine⟨p1,p3,_,_,rfl,rfl,Same.put hp3 _ _ (Same.put hp2 _ _ ao),ao,?_,λp4 cU=>?_⟩
    ·rcases hb with e|e <;> rw[e]
     ·show 1+1<=sizeLine;decide
     ·show 1+0<=sizeLine;decide
    have oV:Same H3 (upd (upd (upd H3 p1 (.lst [V.int (Builtin.bitAnd (G.getD k 0:Nat) (G.getD t 0:Nat))])) p2 (.lst [V.int (Builtin.bitOr (G.getD k 0:Nat) (G.getD t 0:Nat))])) p3 (.lst (List.replicate (if c=true then(1:Int)else 0).toNat [V.int (Builtin.bitOr (G.getD k 0:Nat) (G.getD t 0:Nat))]).flatten)):=
     ((Same.put hp1).trans (Same.put hp2)).trans (Same.put hp3)
    have s4:=oV.trans (Same.put cU (o:=.lst ([V.int (Builtin.bitAnd (G.getD k 0:Nat) (G.getD t 0:Nat))]++(List.replicate (if c=true then(1:Int)else 0).toNat [V.int (Builtin.bitOr (G.getD k 0:Nat) (G.getD t 0:Nat))]).flatten)));obtain⟨SM,Tn,hsub,hand⟩:∃SM:List Nat,[V.int (Builtin.bitAnd (G.getD k 0:Nat) (G.getD t 0:Nat))]++(List.replicate (if c=true then(1:Int)else 0).toNat [V.int (Builtin.bitOr (G.getD k 0:Nat) (G.getD t 0:Nat))]).flatten=SM.map nV /\
      (∀x∈SM,x<16)/\G.getD k 0&&& G.getD t 0∈SM:=by
     rw[eA,eO];have two:∀x∈[G.getD k 0&&& G.getD t 0,G.getD k 0 ||| G.getD t 0],x<16:=by
      intro x hx;simp only[bq,fb,fj]at hx
      rcases hx with rfl|rfl
      ·exact a16
      ·exact WX
     clear hb cU oV s4 hp3;cases c with
     |true=>exact⟨[G.getD k 0&&& G.getD t 0,G.getD k 0 ||| G.getD t 0],rfl,two,b9⟩
     |false=>exact⟨[G.getD k 0&&& G.getD t 0],rfl,(λx hx=>two x (by simp only[bq,fb,fj]at hx ⊢;exact .inl hx)),b9⟩
    generalize hB:upd _ p4 _=B at s4 ⊢;have Ji:B p4=some (.lst (SM.map nV)):=by rw[<- hB,ao,Tn]
    have Ti:L≠p4:=λe=>by
     have:=oV _ _ hl3;rw[e]at this;rw[this]at cU;cases cU
    have abH:q≠L:=oq;refine⟨_,rfl,p4,rfl,⟨_,ah.of Ji⟩,jM (K:=K) (a:=p4) (xs:=SM.map nV) (λu σ H4=>∃(Y:List Nat) (v7:Option V),σ = [some (.ref a),some (.bl c),some (.ref L),some (.int k),some (nV (G.getD k 0)),some (nV (G.getD t 0)),some (.ref p4),v7] /\
     Same H H4/\H4 q=some (.lst ((G.map nV).take k))/\H4 p4=some (.lst (SM.map nV))/\H4 L=some (.lst ((G++Y).map nV))/\Fam (G++Y)/\(∀x∈G++X,x∈G++Y)/\∀x∈SM.take u,x∈G++Y)
     ⟨X,v7,rfl,s3.trans s4,s4 _ _ iT,Ji,s4 _ _ hl3,fam,λx hx=>hx,λx hx=>by simp at hx⟩ (λi σ H4 _ ⟨Y,v7,_,_,_,h4,_⟩=>ah.of h4) ?_ ?_⟩
    ·rintro u y σ H4 hu ⟨Y,v7,rfl,uV,fU,Al,cR,p8,vL,qx⟩
     have iw:u<SM.length:=by simpa using(bN.mp hu).1
     have ey:y=nV SM[u]:=by
      rw[bO,aB iw]at hu;exact(da hu).symm
     subst ey;have et:SM.take (u+1)=SM.take u++[SM[u]]:=by rw[r0,aB iw];rfl
     refine⟨_,rfl,_,rfl,L,_,rfl,.inl (ah.of cR),rfl,R5 _,_,rfl,bB (λh=>?_) (λh=>?_)⟩
     ·rw[if_pos rfl,Au]at h
      have hn:SM[u] ∉ G++Y:=by simpa using h
      refine⟨_,rfl,.inl ⟨rfl,_,ah.of cR⟩,_,rfl,L,_,_,rfl,rfl,cR,?_,?_⟩
      ·rw[az];exact cS (b_ p8.len (by decide))
      ·have H_:=p8.snoc (hsub _ (ft iw)) hn
       rw[iZ]at H_;refine⟨Y++[SM[u]],_,rfl,?_,?_,?_,?_,H_,λx hx=>?_,λx hx=>?_⟩
       ·intro b o e
        rw[aD (λz=>by rw[z,hL]at e;cases e)];exact uV _ _ e
       ·rw[aD oq];exact fU
       ·rw[aD (bJ Ti)];exact Al
       ·rw[ao,<- iZ,eh (l₁:=G++Y)];rfl
       ·rw[<- iZ];exact ko _ (vL x hx)
       ·rw[et]at hx
        rw[<- iZ]
        rcases f6.mp hx with hx|hx
        ·exact ko _ (qx x hx)
        ·exact gE _ hx
     ·rw[if_pos rfl,Au]at h
      have hn:SM[u]∈G++Y:=by
       apply Fn
       intro z;exact h (by rw[bU z];rfl)
      refine⟨Y,_,rfl,uV,fU,Al,cR,p8,vL,λx hx=>?_⟩;rw[et]at hx
      rcases f6.mp hx with hx|hx
      ·exact qx x hx
      ·simp at hx;subst hx;exact hn
    ·rintro σ H4 ⟨Y,v7,rfl,uV,fU,Al,cR,p8,vL,qx⟩
     rw[az,r9]at qx;refine⟨Y,_,_,_,rfl,uV,fU,cR,p8,λi hi=>?_⟩
     by_cases e:i=t
     ·subst e;rw[wH];exact qx _ hand
     ·exact vL _ (cl i (by omega))
   ·rintro σ H3 ⟨X,v5,v6,v7,rfl,s3,iT,hl3,fam,cl⟩
    have hlen:((G.map nV).take k).length=k:=by rw[lK,az];omega
    rw[hlen]at cl;refine⟨_,rfl,_,_,rfl,rfl,G++X,_,_,_,_,?_,rfl,s3,hl3,fam,λx hx=>ko _ (S.sub x hx),λi j hij hj=>?_⟩
    ·rw[bp];omega
    ·rw[Il (show i<G.length by omega),Il (show j<G.length by omega)]
     by_cases e:j=k
     ·subst e;exact cl i hij
     ·exact ko _ (S.cl i j hij (by omega))
  ·rw[fO,az]at h
   have ek:k=G.length:=by omega
   subst ek;exact⟨_,rfl,kk L G H2 s2 hL hl (S.lat h15)⟩
end
def GP(n:Nat)(R:Nat->Nat->Bool)(i:Nat):List Nat:=(List.range n).filter (bQ n R i)
section
variable {P:Program} {w:World} {K:W.Frag} {mg:Str->Option Value} {base:Heap} {f:Addr} {fd:FuncData}
end
end My
namespace L2
open PySem PySem.Spec PyProof.Rows
theorem aaM{x y:Int}{t u:Tok}{c:Value}:∀(l:List Value),TriplesOk l->TriplesOk (l++[.int x t,.int y u,c]):=by
 intro l h
 fun_induction TriplesOk l with
 |case1=>exact trivial
 |case2 a b d e f r ih=>exact ih h
 |case3 l h1 h2=>exact False.elim h
def Pw(o:Obj)(qual:Str):Prop:=∃vs t,o.data = .fields vs/\vs[1]? = some (.str qual t)
def pe(p:Addr)(qual:Str)(params:Arguments)(body:Expr)(scope:Scope)(cl:List (Str × Addr))(c:Addr):HO:=
 .ext λh=>∃pm ctv,h.get? p=some (W.kla_obj "<lambda>" qual params body scope cl pm c ctv)
structure h9 (H:Hp) (p:Addr) (qual:Str) (params:Arguments) (body:Expr) (scope:Scope) (cl:List (Str × Addr)):Prop where
 ex:∃c o u,H c=some (.dj o u)/\Pw o qual/\H p=some (pe p qual params body scope cl c)
section
variable {P:Program} {w:World} {H H':Hp} {h:Heap} {p:Addr} {qual:Str} {params:Arguments} {body:Expr} {scope:Scope} {cl:List (Str × Addr)}
theorem J7 {c:Addr} {pm ctv:Value} (e:h.get? p=some (W.kla_obj "<lambda>" qual params body scope cl pm c ctv)):bw P w H h p (pe p qual params body scope cl c):=
 ⟨⟨pm,ctv,e⟩,⟨_,e⟩,λ_ _ ⟨pm,ctv,e⟩ k=>⟨pm,ctv,k _ e⟩⟩
theorem h9.same(L:h9 H p qual params body scope cl)(s:Same H H'):h9 H' p qual params body scope cl:=
 let⟨c,o,u,h1,h2,h3⟩:=L.ex;⟨c,o,u,s _ _ h1,h2,s _ _ h3⟩
theorem h9.get (L:h9 H p qual params body scope cl) (ok:bE P w H h):∃c pm ctv,h.get? p=some (W.kla_obj "<lambda>" qual params body scope cl pm c ctv)/\h.CodeRec (.ref c) qual:=by
 obtain⟨c,o,u,h1,⟨vs,t,d1,d2⟩,h3⟩:=L.ex;obtain⟨⟨pm,ctv,e⟩,_⟩:=(show bw P w H h p (pe p qual params body scope cl c)from ok p _ h3);obtain⟨e2,_⟩:=ok c _ h1;exact⟨c,pm,ctv,e,c,o,vs,t,rfl,e2,d1,d2⟩
end
structure TabAt (base:Heap) (mg:Str->Option Value) (c P:Addr):Prop where
 hd:W.CodeHd base c P
 bm:∃bm ob,mg "__builtins__" = some (.ref bm)/\bm≠builtinsNs/\base.get? bm=some ob/\ob.cls = .type "module" /\ ob.dict=some builtinsNs/\ob.data = .plain
def aau(P:Addr)(pos:Pos)(qual:Str)(params:Arguments)(body:Expr)(scope:Scope)(cl:List (Str × Addr)):TE:=λ_ H Q =>
 H P=some (.lam pos qual)/\∀p H1,Same H H1->H p=none->h9 H1 p qual params body scope cl->Q (.ref p) H1
section
variable {X:Cx} {c P:Addr} {params:Arguments} {body:Expr} {scope:Scope} {pos:Pos}
theorem YD(T:TabAt X.base X.mg c P)(hcode:X.env.code = .ref c)(B:X.Ok->∀x∈scope.names,x.2 = .free->∃cc,X.env.cells.lookup x.1=some cc)(hdef:defaultsOf params X.env=([],[]):=by rfl):
  PE X (.Lambda params body scope pos) (aau P pos (X.env.qual ++ "<lambda>") params body scope (cQ X.env.cells scope.names [])):=by
 intro pins s σ H Q I ⟨hP,q⟩;refine W.kla_eval hdef ?_;obtain⟨ps,Iz,ht,hc⟩:=(show bw X.prog X.w H s.heap P (.lam pos (X.env.qual ++ "<lambda>"))from I.hok P _ hP);have hg:s.heap.Ns mainGlobals X.mg:=I.mod.glob.keeps I.bk;have C:=T.hd.keeps I.bk;obtain⟨bm,ob,b1,b2,b3,b4,b5,b6⟩:=T.bm;have KH:∀b o,X.base.get? b=some o->b≠P:=λb o e z=>by
  have:=(I.bs b o e).2;rw[z,hP]at this;cases this
 have hgP:mainGlobals≠P:=by
  obtain⟨o,es,ep,e,_⟩:=I.mod.glob;exact KH _ o e
 have hbG:bm≠mainGlobals:=λz=>by
  obtain⟨o,es,ep,e,hd,_⟩:=I.mod.glob;rw[z,e]at b3;cases b3;rw[hd]at b6;cases b6
 have hb:s.heap.BuiltinsAt X.mg P:=⟨bm,ob,b1,b2,hbG,KH _ _ b3,I.bk _ _ b3,b4,b5,b6⟩;cases hf:codeAmong pos ps.toList with
 |some cv =>
  obtain⟨c',o,u,vs,t,rfl,hz,hd,hv⟩:=hc _ hf;refine W.kla_makeFunctionHit (tE (B I.ok)) I.ok.glob hg hcode C Iz ht hf hb λctv h' tk hk hsz=>?_
  have I1:Inv X pins σ (upd H h'.objs.size (pe h'.objs.size (X.env.qual ++ "<lambda>") params body scope (cQ X.env.cells scope.names []) c')) _:=
   I.laid (t':=tk) (λb u e=>aU (W.kla_obj "<lambda>" (X.env.qual ++ "<lambda>") params body scope (cQ X.env.cells scope.names []) ((X.mg "__name__").getD .none) c' ctv) (hk b u e)) hsz (J7 (cn _ rfl))
  have hn:H h'.objs.size=none:=I.hok.fresh hsz;exact⟨.ref h'.objs.size,_,I1,rfl,q _ _ (Same.put hn) hn ⟨c',o,u,Same.put hn _ _ hz,⟨vs,t,hd,hv⟩,ao⟩⟩
 |none =>
  refine W.kla_makeFunction (tE (B I.ok)) I.ok.glob hg hcode C Iz ht hf hgP hb λc' ctv h' tk hx hge hlt hrec htb=>?_
  obtain⟨c2,oc,vs,t,e2,hoc,hd,hv⟩:=hrec;cases e2;have hn:H c'=none:=I.hok.fresh hge;have cP:c'≠P:=λz=>by rw[z,hP]at hn;cases hn
  have nP:∀b,H b=none->b≠P:=λb e z=>by rw[z,hP]at e;cases e
  have sm:Same H (upd H c' (.dj oc (.own c'))):=Same.put hn;have I1:Inv X pins σ (upd H c' (.dj oc (.own c'))) {s with heap:=h',toks:=tk}:=by
   refine I.un ⟨λb o e n _ _=>hx b o (nP b n) e,λb o e n _ _=>⟨o.slots,hx b o (nP b n) e⟩,λb o e n _=>?_,λb o e _=>?_,λb xs e=>sm _ _ e,λb o u e=>sm _ _ e,λb ps e=>⟨#[],by rw[sm _ _ e];simp⟩⟩ ?_
   ·rw[aD (bu (c9 (aQ e) hge))];exact n
   ·by_cases hb:b=P
    ·exact⟨_,by rw[hb];exact htb⟩
    ·exact⟨o,hx b o hb e⟩
   ·intro b u e
    by_cases hb:b=c'
    ·subst hb
     rw[ao]at e;cases e;exact⟨hoc,oc,hoc⟩
    ·rw[aD hb]at e
     by_cases hb2:b=P
     ·subst hb2
      rw[hP]at e;cases e;have ea:(ps++#[rawInt pos.line,rawInt pos.col,.ref c']).toList=ps.toList++[rawInt pos.line,rawInt pos.col,.ref c']:=by simp
      refine⟨_,htb,?_,λcv z=>?_⟩
      ·rw[ea];exact aaM _ ht
      ·rw[ea,codeAmong_snoc _ ht hf]at z
       cases z;exact⟨c',oc,.own c',vs,t,rfl,ao,hd,hv⟩
     ·refine(I.hok b u e).stay (λd v hd' r=>hx d v ?_ r) (λd r=>sm _ _ r) (λd xs r=>sm _ _ r) λd ob' u' r=>sm _ _ r
      rcases hd' with rfl|hd'
      ·exact hb2
      ·intro z;rw[z,hP]at hd';cases hd'
  have hsz:({s with heap:=h',toks:=tk}:Shared).heap.objs.size<=h'.objs.size:=aW _;have I2:Inv X pins σ (upd (upd H c' (.dj oc (.own c'))) h'.objs.size (pe h'.objs.size (X.env.qual ++ "<lambda>") params body scope (cQ X.env.cells scope.names []) c')) _:=
   I1.laid (t':=tk) (λb u e=>aU (W.kla_obj "<lambda>" (X.env.qual ++ "<lambda>") params body scope (cQ X.env.cells scope.names []) ((X.mg "__name__").getD .none) c' ctv) e) hsz (J7 (cn _ rfl))
  have hn2:upd H c' (.dj oc (.own c')) h'.objs.size=none:=I1.fresh;exact⟨.ref h'.objs.size,_,I2,rfl,q _ _ (sm.trans (Same.put hn2)) (sm.free hn2) ⟨c',oc,.own c',Same.put hn2 _ _ ao,⟨vs,t,hd,hv⟩,ao⟩⟩
end
theorem Kh{α:Type}{x:Str}{u:α}:∀{l:List (Str × α)},(l.map (·.1)).Nodup->(x,u)∈l->l.lookup x=some u
 | [],_,h=>nomatch h
 | (y,v)::r,nd,h=>by
  rw[cL,iJ]at nd;rw[ie]
  rcases bq.mp h with e|h2
  ·cases e;simp
  ·have:(x == y)=false:=by
    rw[kx];rintro rfl;exact nd.1 (cW.mpr ⟨_,h2,rfl⟩)
   rw[this];exact Kh nd.2 h2
theorem Pn{α β:Type}:∀(l:List α) (m:List β),((l.zip m).map (·.1)).Sublist l
 | [],_=>by simp
 |_::_,[]=>by simp
 |a::l,b::m=>by rw[wF,cL];exact(Pn l m).cons_cons a
theorem abD{ps:List Str}{us:List Value}{i:Nat}{x:Str}{u:Value}(nd:ps.Nodup)(h1:ps[i]? = some x)(h2:us[i]? = some u):(ps.zip us).reverse.lookup x=some u:=by
 refine Kh ?_ (List.mem_reverse.mpr (dG (i:=i) ?_))
 ·rw[List.map_reverse]
  refine(List.reverse_perm _).nodup_iff.mpr (nd.sublist ?_);exact Pn _ _
 ·rw[List.getElem?_zip_eq_some];exact⟨h1,h2⟩
structure rR (ps fr:List Str) (sc:Scope):Prop where
 kind:sc.kind = .function
 co:sc.isCoroutine=false
 gen:sc.isGenerator=false
 nd:(ps++fr).Nodup
 qJ:∀y∈sc.names,y.2≠.cell
 par:∀x∈ps,sc.names.lookup x=some .local
 Se:∀x∈fr,sc.names.lookup x=some .free
def pW(P:Program)(w:World)(K:W.Frag)(mg:Str->Option Value)(base:Heap)(N:List Str)(qual:Str)(scope:Scope)(p:Addr)(cd:Value)(cl:List (Str × Addr))(A:Around)(outer:List Env)(s:Shared)(H:Hp):Cx where
 prog:=P
 w:=w
 K:=K
 mg:=mg
 base:=base
 A:=A.deeper (W.envX qual scope s.heap.objs.size p cd cl)
 N:=N
 s₀:=s
 H₀:=H
 env:=W.envX qual scope s.heap.objs.size p cd cl
 outer:=outer
 stack:=W.envX qual scope s.heap.objs.size p cd cl::outer
 ex:=[]
 calm:=true
 fn:=λ_=>false
 pn:=[]
 xe:=λ_ _=>False
section
variable {P:Program} {w:World} {K:W.Frag} {mg:Str->Option Value} {base:Heap} {A:Around} {outer:List Env} {s:Shared} {H:Hp} {p c:Addr} {qual:Str} {params:Arguments} {body:Expr} {scope:Scope} {cl:List (Str × Addr)}
 {ps fr:List Str} {vs:List V} {us:List Value} {zs:St} {pm ctv:Value} {Q:VK} {t:TE}
structure wo (h:Heap) (H:Hp) (scope:Scope) (cl:List (Str × Addr)) (fr:List Str) (zs:St):Prop where
 cell:∀x cc,cl.lookup x=some cc->(∃v,h.IsCell cc v)/\H cc=none
 inj:∀x y cc,cl.lookup x=some cc->cl.lookup y=some cc->x=y
 has:∀x,scope.names.lookup x=some .free->∃cc,cl.lookup x=some cc
 len:zs.length=fr.length
 val:∀(i:Nat) x v,fr[i]? = some x->zs[i]? = some (some v)->∃cc u,cl.lookup x=some cc/\h.IsCell cc (some u)/\RelV v u
theorem Vx(S:rR ps fr scope)(hd:A.handled=none)(e0:iY P w K mg base A outer s H)(hl:vs.length=ps.length)(r:Vals vs us)(L:wo s.heap H scope cl fr zs){cd:Value}{h₁:Heap}{tk:Nat}(hns:h₁.Ns s.heap.objs.size λx=>(ps.zip us).reverse.lookup x)(hk:∀b o,s.heap.get? b=some o->h₁.get? b=some o):
  Inv (pW P w K mg base (ps++fr) qual scope p cd cl A outer s H) [] (vs.map some++zs) H {s with heap:=h₁,toks:=tk}:=by
 have jS:∀b:Addr,b ∉ (pW P w K mg base (ps++fr) qual scope p cd cl A outer s H).ex:=λb z=>absurd (show b∈([]:List Addr)from z) (by simp)
 refine⟨⟨e0.mod,S.kind,rfl,rfl,aW _,L.inj,λy hy=>?_,λy c h=>(nomatch h),λ_=>hd,Around.frames_deeper e0.frames,.inr ⟨rfl,rfl⟩,λb z=>absurd z (jS b),e0.bs,e0.fM,λb _ _=>jS b,λb z=>absurd z (jS b),e0.eK,e0.gY⟩,
  rfl,e0.bare,Un.kept hk,⟨_,hns,λi y v h1 h2 h3=>?_⟩,λy cc h=>?_,e0.hok.fresh (aW _),λy cc h=>(L.cell y cc h).2,λq hq=>absurd (show q∈([]:List (Addr × Obj))from hq) (by simp),e0.hok.kept hk,?_⟩
 ·have hy:scope.names.lookup y=some .cell\/scope.names.lookup y=some .free:=hy
  rcases hy with hy|hy
  ·exact absurd rfl (S.qJ _ (jb hy))
  ·exact L.has y hy
 ·have h1:(ps++fr)[i]? = some y:=h1
  by_cases hi:i<vs.length
  ·rw[jC (by simpa using hi),bO]at h2
   rw[jC (by omega)]at h1;cases e:vs[i]? with
   |none=>rw[e]at h2;cases h2
   |some a =>
    rw[e]at h2;cases h2;obtain⟨u,hu,rv⟩:=r.get e;exact⟨u,rv,.inl ⟨S.par y (dG h1),abD (S.nd.sublist (List.sublist_append_left _ _)) h1 hu⟩⟩
  ·rw[km (by simpa using hi),az]at h2
   rw[km (by omega)]at h1;rw[hl]at h2;obtain⟨cc,u,e1,e2,e3⟩:=L.val _ y v h1 h2;exact⟨u,e3,.inr ⟨.inr (S.Se y (dG h1)),cc,e1,e2.keeps hk⟩⟩
 ·obtain⟨⟨v,z⟩,_⟩:=L.cell y cc h
  exact⟨v,z.keeps hk⟩
 ·show _=(ps++fr).length
  rw[bp,az,bp,L.len,hl]
theorem Vw (S:rR ps fr scope) (hr:A.depth<recursionLimit) (hd:A.handled=none) (e0:iY P w K mg base A outer s H) (ho:s.heap.get? p=some (W.kla_obj "<lambda>" qual params body scope cl pm c ctv)) (hcd:s.heap.CodeRec (.ref c) qual)
  (hb:bindArgs (W.kla_fn "<lambda>" qual params body scope cl pm (.ref c) ctv) ⟨us,[]⟩=pure (ps.zip us)) (hl:vs.length=ps.length) (r:Vals vs us) (L:wo s.heap H scope cl fr zs)
  (hbody:PE (pW P w K mg base (ps++fr) qual scope p (.ref c) cl A outer s H) body t) (hq:t (vs.map some++zs) H Q) :
  codeAny (model P w) A (.call (.ref p) ⟨us,[]⟩) (λr s'=>∃u,r = .ok (.ret u)/\CE outer P w H s Q u s') s:=by
 have lim:s.heap.NoLimit:=e0.mod.nolimit.keeps λb o e=>(e0.bs b o e).1
 refine W.kla_callFunE hr ho rfl S.co S.gen rfl hcd ?_;rw[hb];refine aI (wpAny_newFunctionEnv S.qJ (λx hx=>S.par _ (wC hx).1) (λh₁ hns hsb=>?_) S.kind);have hk:∀b o,s.heap.get? b=some o->h₁.get? b=some o:=λb o e=>hsb.extBut b o (bu (aQ e)) (aU _ e)
 refine⟨lim.keeps hk,?_⟩;show codeAny _ _ (.expr body (W.envX qual scope s.heap.objs.size p (.ref c) cl)) _ _;have I:=Vx (qual:=qual) (p:=p) (cd:=.ref c) (tk:=s.toks+(ps.zip us).length) S hd e0 hl r L hns hk;refine W.kla_codeExpr (eG (hbody [] _ _ H Q I hq) (λv s' ⟨x,H',J,rv,q⟩=>?_) λ_ _ z=>False.elim z);exact⟨v,rfl,x,H',J.os,J.bare,J.base,J.hok,rv,q⟩
end
section
variable {X:Cx} {pins:List (Addr × Obj)} {σ:St} {H:Hp} {s:Shared} {p:Addr} {qual:Str} {params:Arguments} {body:Expr} {scope:Scope} {ps:List Str} {fr:List (Str × Nat)} {A:Around} {t:TE} {Q:VK} {vs:List V} {us:List Value} {E:Value->Shared->Prop}
def lamσ(fr:List (Str × Nat))(σ:St):St:=fr.map λq=>σ.getD q.2 none
theorem Vu(B:gP X scope fr)(I:Inv X pins σ H s):wo s.heap H scope (cQ X.env.cells scope.names []) (fr.map (·.1)) (lamσ fr σ) where
 cell:=λx cc h=>⟨I.cell x cc (B.sub I.ok h),I.eJ x cc (B.sub I.ok h)⟩
 inj:=λx y cc h1 h2=>I.ok.inj x y cc (B.sub I.ok h1) (B.sub I.ok h2)
 has:=λx h=>pV (jb h)
 len:=by unfold lamσ;simp
 val:=λi x v e1 e2=>by
  unfold lamσ at e2;rw[bO]at e1 e2;cases hp:fr[i]? with
  |none=>rw[hp]at e1;cases e1
  |some q =>
   rw[hp]at e1 e2;simp only[sj,Gg]at e1 e2;obtain⟨i1,i2⟩:=B.ix q (dG hp);subst e1;have e2':σ[q.2]? = some (some v):=by
    rw[aO]at e2;cases z:σ[q.2]? with
    |none=>rw[z]at e2;cases e2
    |some y=>rw[z]at e2;exact congrArg some e2
   have kX:X.env.kindOf q.1=some .cell\/X.env.kindOf q.1=some .free:=B.free (q.1,.free) (jb i2) rfl;obtain⟨m',hn',hl'⟩:=I.loc;obtain⟨u,r,l⟩:=hl' q.2 q.1 v i1 e2' (.inr kX)
   rcases l with⟨k,_⟩|⟨_,cc,hc,z⟩
   ·rcases kX with w|w <;> (rw[k]at w;cases w)
   ·obtain⟨c',hc'⟩:=pV (cells:=X.env.cells) (acc:=[]) (jb i2)
    have:=B.sub I.ok hc';rw[hc]at this;cases this;exact⟨cc,u,hc',z,r⟩
theorem Vv(B:gP X scope fr)(S:rR ps (fr.map (·.1)) scope)(I:Inv X pins σ H s)(L:h9 H p qual params body scope (cQ X.env.cells scope.names []))(hA:A.frames=X.A.frames)(hr:A.depth<recursionLimit)(hd:A.handled=none)
  (hb:∀(cl:List (Str × Addr)) (pm cd ctv:Value) (us:List Value),us.length=ps.length->bindArgs (W.kla_fn "<lambda>" qual params body scope cl pm cd ctv) ⟨us,[]⟩=pure (ps.zip us))
  (hbody:∀(c:Addr),PE (pW X.prog X.w X.K X.mg X.base (ps++fr.map (·.1)) qual scope p (.ref c) (cQ X.env.cells scope.names []) A X.stack s H) body t)
  (hl:vs.length=ps.length) (r:Vals vs us) (hq:t (vs.map some++lamσ fr σ) H Q):wpAny (model X.prog X.w) A (call (.ref p) us) (EP X pins σ Q) E s:=by
 obtain⟨c,pm,ctv,ho,hcd⟩:=L.get I.hok;have e0:=I.env0;have e1:iY X.prog X.w X.K X.mg X.base A X.stack s H:=⟨hA.trans e0.frames,e0.mod,e0.bs,e0.fM,e0.eK,e0.gY,e0.hok,e0.bare⟩;refine lQ (lP (Vw S hr hd e1 ho hcd (hb _ _ _ _ _ (by rw[<- r.length];exact hl)) hl r (Vu B I) (hbody c) hq) λr s' ⟨u,e,hq⟩=>?_);subst e;exact I.after hq
end
theorem Yq{α β:Type}{R:α->β->Prop}{l' m':List β}(h:m'.Perm l'):∀{l:List α},Paired R l l'->∃m,m.Perm l/\Paired R m m':=by
 induction h with
 |nil=>intro l p;exact⟨l,.refl _,p⟩
 |cons x _ ih =>
  intro l p;cases p with
  |cons r t =>
   obtain⟨m,h1,h2⟩:=ih t;exact⟨_::m,h1.cons _,.cons r h2⟩
 |swap x y l =>
  intro l p;cases p with
  |cons r t =>
   cases t with
   |cons r' t'=>exact⟨_,.swap _ _ _,.cons r' (.cons r t')⟩
 |trans _ _ ih1 ih2 =>
  intro l p;obtain⟨m1,h1,h2⟩:=ih2 p;obtain⟨m2,h3,h4⟩:=ih1 h2;exact⟨m2,h3.trans h1,h4⟩
def nu(kz:List Int)(xs ys:List V):Prop:=∃ps:List (Int × V),ps.Perm (kz.zip xs)/\ys=ps.map Prod.snd/\ps.Pairwise λp q=>p.1<=q.1
theorem Pp:∀{kz:List Int} {xs:List V} {us:List Value},Vals xs us->Paired (λ(p:Int × V) (q:Int × Value)=>p.1=q.1/\RelV p.2 q.2) (kz.zip xs) (kz.zip us)
 | [],_,_,_=>by simp;exact .nil
 |_::_,_,_,.nil=>by simp;exact .nil
 |k::kz,_,_,.cons r t=>by rw[wF,wF];exact .cons ⟨rfl,r⟩ (Pp t)
theorem Lg:∀{l:List (Int × V)} {m:List (Int × Value)},Paired (λ(p:Int × V) (q:Int × Value)=>p.1=q.1/\RelV p.2 q.2) l m->Vals (l.map Prod.snd) (m.map Prod.snd)/\l.map Prod.fst=m.map Prod.fst
 |_,_,.nil=>⟨.nil,rfl⟩
 |_,_,.cons r t=>by
  obtain⟨h1,h2⟩:=Lg t;exact⟨.cons r.2 h1,by rw[cL,cL,h2,r.1]⟩
theorem Z'{kz:List Int}{xs:List V}{us out:List Value}(r:Vals xs us)(h:KskOut false kz us out):∃ys,Vals ys out/\nu kz xs ys:=by
 obtain⟨qs,h1,h2,h3⟩:=h;obtain⟨ps,g1,g2⟩:=Yq h1 (Pp (kz:=kz) r);obtain⟨g3,g4⟩:=Lg g2;refine⟨ps.map Prod.snd,by rw[h2];exact g3,ps,g1,rfl,?_⟩;have h5:(qs.map Prod.fst).Pairwise (·<=·):=by
  rw[pD];exact h3.imp λ{a b} z=>z
 rw[<- g4,pD]at h5;exact h5
section
variable {prog:Program} {w:World} {A:Around} {E:Value->Shared->Prop} {s:Shared} {a kS:Addr} {e1:Nat} {keys:Array Value} {its:List Value} {kz:List Int}
end
def lR(K:W.Frag)(H:Hp)(v:V)(xs:List V):Prop:=
 (∃r n,v = .ref r/\H r=some (.rng 0 n)/\-(2 ^ 62)<=n/\n<2 ^ 62/\xs=(List.range n.toNat).map λ(i:Nat)=>V.int i)\/(∃r,v = .ref r/\ah K H r xs)
section
variable {X:Cx} {pins:List (Addr × Obj)} {σ:St} {H:Hp} {s:Shared} {A:Around} {E:Value->Shared->Prop}
theorem aa6{its:Array Value}{n:Nat}(h:ItemsOf (λi v=>∃t,v=Value.int (0+(i:Nat) * 1) t) its n):Vals ((List.range n).map λ(i:Nat)=>V.int i) its.toList:=by
 have go:∀(us:List Value) (k:Nat),(∀(j:Nat) v,us[j]? = some v->∃t,v=Value.int ((k+j:Nat):Int) t)->Vals ((List.range' k us.length).map λ(i:Nat)=>V.int i) us:=by
  intro us
  induction us with
  |nil=>intro k _;exact .nil
  |cons u us ih =>
   intro k hu;rw[jE,List.range'_succ,cL];refine .cons ?_ (ih (k+1) λj v e=>?_)
   ·obtain⟨t,e⟩:=hu 0 u rfl
    exact⟨t,by simpa using e⟩
   ·obtain⟨t,e⟩:=hu (j+1) v (by simpa using e)
    exact⟨t,by rw[e];congr 1;omega⟩
 have:=go its.toList 0 λj v e=>by
  obtain⟨t,q⟩:=h.2 j v (by simpa using e);exact⟨t,by rw[q];congr 1;simp⟩
 rw[jB,h.1]at this;rw[List.range_eq_range'];exact this
theorem QZ{v:V}{u:Value}{xs:List V}{R:List Value->Shared->Prop}(hh:A.handled=none)(I:Inv X pins σ H s)(r:RelV v u)(h:lR X.K H v xs)(hz:xs.length<=2 ^ 24)(q:∀its s',Vals xs its->Inv X pins σ H s'->R its s'):wpAny (model X.prog X.w) A (collect u) R E s:=by
 have fV:(2:Nat) ^ 24<=sizeLine:=by decide +kernel
 rcases h with⟨a,n,rfl,ha,b1,b2,rfl⟩|⟨a,rfl,ha⟩
 ·obtain rfl:u = .ref a:=r
  obtain⟨t,t',t'',ea⟩:=(show bw X.prog X.w H s.heap a (.rng 0 n)from I.hok a _ ha);have sz:n.toNat<=2 ^ 24:=by simpa using hz
  unfold collect;refine ai (wpAny_runValue (sE entry_proto_collect' ?_));show wpAny _ _ (newList [] >>= λl=>again (.builtin "list.__iadd__" ⟨[l,.ref a],[]⟩)) _ _ s;have old:∀b o,s.heap.get? b=some o->(s.heap.push (seqObj "list" #[] 0)).get? b=some o:=λb o e=>aU _ e
  have add:codeAny (model X.prog X.w) A (.builtin "list.__iadd__" ⟨[.ref s.heap.objs.size,.ref a],[]⟩) (λr s'=>r = .ok (.ret (.ref s.heap.objs.size))/\∃h' tk acc c',s' = {s with heap:=h',toks:=tk}/\(∀b o,s.heap.get? b=some o->h'.get? b=some o) /\
    h'.get? s.heap.objs.size=some {cls:=.type "list", dict:=none,data:=.seq acc c',slots:=#[]}/\Vals ((List.range n.toNat).map λ(i:Nat)=>V.int i) acc.toList) {s with heap:=s.heap.push (seqObj "list" #[] 0)}:=by
   refine sE entry_list_iadd' ?_;show wpAny _ A.in1 (Builtin.List.listExtendWith (.ref s.heap.objs.size) (.ref a) (.ref s.heap.objs.size)) _ _ _;exact wpAny_extend_range (s:={s with heap:=s.heap.push (seqObj "list" #[] 0)}) (R:=λr s'=>r = .ok (.ret (.ref s.heap.objs.size))/\∃h' tk acc c',s' = {s with heap:=h',toks:=tk}/\(∀b o,s.heap.get? b=some o->h'.get? b=some o) /\
    h'.get? s.heap.objs.size=some {cls:=.type "list", dict:=none,data:=.seq acc c',slots:=#[]}/\Vals ((List.range n.toNat).map λ(i:Nat)=>V.int i) acc.toList)
    (n:=n.toNat) hh (old _ _ ea) (small_one (by omega) (by omega) b1 b2) (by rw[rangeSize_one];split <;> omega) sz s.heap.objs.size (.ref s.heap.objs.size) 0 (cn _ rfl) λh' tk acc c' hk hS hacc =>
     ⟨rfl,h',tk,acc,c',rfl,λb o e=>hk b o (bu (aQ e)) (old b o e),hS,aa6 hacc⟩
  refine ai (wpAny_newList (aI ⟨Gn _ (by decide +kernel),lP add λr s' hr=>?_⟩));obtain⟨rfl,h',tk,acc,c',rfl,hk,hS,hv⟩:=hr;show wpAny _ A (load s.heap.objs.size >>= λo=>match o.data with | .seq xs _=>pure xs.toList|_=>unsupported "internal:collect") _ _ _;refine ai (wpAny_load hS ?_);exact aI (q _ _ hv (I.kept hk))
 ·obtain rfl:u = .ref a:=r
  obtain⟨its,hl,rv⟩:∃its:List Value,s.heap.IsList a its.toArray/\Vals xs its:=by
   rcases ha with ha|⟨o,its,n,e1,e2,e0,e3,e4,e6⟩
   ·obtain⟨_,its,n,rv,e⟩:=ha.ok I.hok
    exact⟨its,⟨_,e,rfl,n,rfl⟩,rv⟩
   ·exact⟨its.toList,⟨o,I.cq _ _ e1,e2,n,by simpa using e3⟩,e6⟩
  refine collect_list hl (q _ _ rv (I.kept λb o e=>?_)) (by rw[<- rv.length];omega);rw[pJ _ _ _ _ (bu (aQ e))];exact aU _ e
end
section
variable {X:Cx} {pins:List (Addr × Obj)} {σ:St} {G0:Hp} {s:Shared} {A:Around} {E:Value->Shared->Prop} {a kS p:Addr} {e1:Nat} {qual x:Str} {params:Arguments} {body:Expr} {scope:Scope} {fr:List (Str × Nat)} {tb:TE}
 {xs:List V} {its:List Value} {R:PySem.Fin->Shared->Prop} {Kp:Nat->V->Hp->Prop}
structure rQ (X:Cx) (qual x:Str) (params:Arguments) (body:Expr) (scope:Scope) (fr:List (Str × Nat)) (tb:TE):Prop where
 blk:gP X scope fr
 sc:rR [x] (fr.map (·.1)) scope
 bind:∀(cl:List (Str × Addr)) (pm cd ctv:Value) (us:List Value),us.length=1->bindArgs (W.kla_fn "<lambda>" qual params body scope cl pm cd ctv) ⟨us,[]⟩=pure ([x].zip us)
 run:∀(A:Around) (s:Shared) (H:Hp) (p c:Addr),A.guards=X.A.guards->A.units<=X.A.units+2->A.depth=X.A.depth->PE (pW X.prog X.w X.K X.mg X.base ([x]++fr.map (·.1)) qual scope p (.ref c) (cQ X.env.cells scope.names []) A X.stack s H) body tb
theorem sort_keys(hA:A.frames=X.A.frames)(hd:A.handled=none)(hr:A.depth<recursionLimit)(qg:A.guards=X.A.guards/\A.units<=X.A.units+2/\A.depth=X.A.depth)(KL:rQ X qual x params body scope fr tb)(hlen:its.length<1000)
  (I:Inv X ((a,seqObj "list" #[] e1)::pins) σ G0 s) (hkS:G0 kS=some (.lst [])) (L:h9 G0 p qual params body scope (cQ X.env.cells scope.names [])) (rv:Vals xs its)
  (mono:∀i z H H',Kp i z H->du kS H H'->Kp i z H') (turn:∀(i:Nat) y,xs[i]? = some y->∀H3,du kS G0 H3->(∃kv,H3 kS=some (.lst kv))->tb (some y::lamσ fr σ) H3 λz H4=>Kp i z H4/\Same H3 H4)
  (fin:∀(kv:List V) (G:Hp) (s':Shared) (keys:List Value) (n:Nat),kv.length=xs.length->(∀(i:Nat) z,kv[i]? = some z->Kp i z G)->Inv X ((a,seqObj "list" #[] e1)::pins) σ G s'->G kS=some (.lst kv)->du kS G0 G ->
   s'.heap.get? kS=some (seqObj "list" keys.toArray n)->Vals kv keys->wpAny (model X.prog X.w) A (ksk_end a false its.toArray e1 (.ref kS) keys.toArray) R E s') :
  wpAny (model X.prog X.w) A (ksk_rest a (.ref p) false its.toArray e1 (.ref kS)) R E s:=by
 have big:(1000:Nat)<=sizeLine:=by decide +kernel
 unfold ksk_rest;refine ai (pM (ai ?_))
 first
  |rw[List.forIn_toArray]
  |rw[<- Ff]
 refine ksk_fold (λi s'=>∃(kv:List V) (G:Hp),kv.length=i/\(∀(j:Nat) z,kv[j]? = some z->Kp j z G)/\Inv X ((a,seqObj "list" #[] e1)::pins) σ G s'/\G kS=some (.lst kv)/\du kS G0 G) its 0 s
  ⟨[],G0,rfl,λj z e=>by simp at e,I,hkS,λb o _ e=>e⟩ ?_ ?_
 ·rintro j v s' hv ⟨kv,G,hl,hK,J,hG,sm⟩
  rw[Nat.zero_add]at hl ⊢;obtain⟨y,hy,ry⟩:∃y,xs[j]? = some y/\RelV y v:=by
   have hj:j<xs.length:=by rw[rv.length];exact(bN.mp hv).1
   obtain⟨u,e1,e2⟩:=rv.get (aB hj);rw[hv]at e1;cases e1;exact⟨_,aB hj,e2⟩
  have hj:j<its.length:=(bN.mp hv).1;have LG:h9 G p qual params body scope (cQ X.env.cells scope.names []):=by
   obtain⟨c,o,u,h1,h2,h3⟩:=L.ex;exact⟨c,o,u,sm _ _ (hV h1 hkS (by intro z;cases z)) h1,h2,sm _ _ (hV h3 hkS (by intro z;cases z)) h3⟩
  refine ai (nh (eG (Vv (E:=λ_ _=>False) KL.blk KL.sc J LG hA hr hd KL.bind (λc=>KL.run A s' G p c qg.1 qg.2.1 qg.2.2) (vs:=[y]) (us:=[v]) rfl (.cons ry .nil) (turn j y hy G sm ⟨_,hG⟩)) (λk s2 ⟨z,H4,J4,rz,hz,s4⟩=>?_) λ_ _ z=>z.elim));have g4:=s4 _ _ hG;obtain⟨_,ks,n,rk,lk,ek⟩:=J4.jP g4;refine ai (listUpdate_at ek rfl ?_ (by show(ks.toArray).size<=sizeLine;rw[bP];omega) (by show(ks.toArray.push k).size<=sizeLine+1;rw[Array.size_push,bP];omega));have J5:=J4.qC (f:=(·.push k)) (its':=ks++[k]) (ys:=kv++[z]) (t':=s2.toks) g4 ek (by simp) (rk.append (.cons rz .nil)) (by rw[bp,mS];omega);have sx:du kS H4 (upd H4 kS (.lst (kv++[z]))):=λb o hb e=>by rw[aD hb];exact e
  refine aI ⟨rfl,kv++[z],_,by rw[bp,mS,hl],λi q e=>?_,J5,ao,λb o hb e=>sx b o hb (s4 b o (sm b o hb e))⟩
  by_cases hi:i<kv.length
  ·rw[jC hi]at e
   exact mono _ _ _ _ (mono _ _ _ _ (hK i q e) λb o _ e=>s4 b o e) sx
  ·rw[km (sf hi)]at e
   have hi2:i - kv.length=0:=by
    have:=(bN.mp e).1;rw[mS]at this;omega
   rw[hi2]at e;cases e;obtain rfl:i=j:=by omega
   exact mono _ _ _ _ hz sx
 ·rintro s' ⟨kv,G,hl,hK,J,hG,sm⟩
  obtain⟨_,ks,n,rk,lk,ek⟩:=J.jP hG;refine ai (sr ek rfl ?_);exact fin kv G s' ks n (by rw[hl,rv.length];omega) hK J hG sm ek rk
theorem Z9 {keys:List Value} {n:Nat} {G:Hp} {kv:List V} {st:SortSt} {ys:List V} {out:List Value} (I:Inv X ((a,seqObj "list" #[] e1)::pins) σ G s) (hkS:G kS=some (.lst kv)) (ek:s.heap.get? kS=some (seqObj "list" keys.toArray n))
  (hz:keys.length<=sizeLine) (fa:dF X pins G a) (hf:failedOf st=none) (ho:((arrOf st).map (·.2)).toList=out) (rv:Vals ys out) (qw:out.length<=sizeLine)
  (q:∀s',Inv X pins σ (upd (upd G kS (.lst [])) a (.lst ys)) s'->R (.done (.ret .none)) s'):wpAny (model X.prog X.w) A (ksk_tail a false e1 (.ref kS) st) R E s:=by
 have ea:=(I.pin (a,seqObj "list" #[] e1) (gE _ (b9 ..))).1;have KQ:a≠kS:=λz=>by rw[<- z,fa.1]at hkS;cases hkS
 have ho':(arrOf st).map (·.2)=out.toArray:=by rw[<- ho]
 unfold ksk_tail;dsimp only;refine ai (listUpdate_at ek rfl ?_ (by show(keys.toArray).size<=sizeLine;rw[bP];exact hz) (eD _));have J1:=I.qC (f:=λ_=>#[]) (its':=[]) (ys:=[]) (t':=s.toks) hkS ek rfl .nil (eD _);have nZ:(s.heap.update kS (Obj.mapSeq λ_=>(#[]:Array Value))).get? a=some (seqObj "list" #[] e1):=by rw[pJ _ _ _ _ KQ];exact ea
 refine ai (sH (ai (seqEpoch_at nZ rfl (ai (listUpdate_at nZ rfl ?_ (eD _) (by show((arrOf st).map (·.2)).size<=sizeLine+1;rw[ho',bP];omega))))));rw[hf];simp only[bne_self_eq_false,h7,gi];refine aI (q _ ?_);have K1:Inv X pins σ (upd G kS (.lst [])) {s with heap:=s.heap.update kS (Obj.mapSeq λ_=>(#[]:Array Value)),toks:=s.toks}:=J1.uM λp hp=>(J1.pin p (gE _ (cu _ hp)))
 have gn:upd G kS (.lst []) a=none:=by rw[aD KQ];exact fa.1
 have keep:∀b o,b≠a->(s.heap.update kS (Obj.mapSeq λ_=>(#[]:Array Value))).get? b=some o->((s.heap.update kS (Obj.mapSeq λ_=>(#[]:Array Value))).update a (Obj.mapSeq λ_=>(arrOf st).map (·.2))).get? b=some o:=λb o hb e=>by
  rw[pJ _ _ _ _ hb];exact e
 have hit:∃c,((s.heap.update kS (Obj.mapSeq λ_=>(#[]:Array Value))).update a (Obj.mapSeq λ_=>(arrOf st).map (·.2))).get? a=some (seqObj "list" out.toArray c):=by
  rw[ho'];exact⟨_,get?_update_seq nZ λ_=>out.toArray⟩
 obtain⟨c,hit⟩:=hit;have mw:∀b u,upd G kS (.lst []) b=some u->b≠a:=λb u e z=>by rw[z,gn]at e;cases e
 refine Inv.step (s:={s with heap:=s.heap.update kS (Obj.mapSeq λ_=>(#[]:Array Value)),toks:=s.toks}) (g':=s.gens) (d':=s.drawn) (t':=s.toks) (ch:=[a]) K1 (λb hb=>?_) (λb o _ _ hc e _=>keep b o (λz=>hc (by simp[z])) e) (λb o _ _ hc e _=>⟨o.slots,keep b o (λz=>hc (by simp[z])) e⟩) (λb o hc _ n=>?_) (λb o hc e=>⟨o,keep b o (λz=>hc (by simp[z])) e⟩)
  (λb zs e=>?_) (λb o u e=>?_) (λb ps e=>?_) (λm hm=>?_) (λb u e=>?_) K1.bare
 ·obtain rfl:b=a:=by simpa using hb
  exact⟨fa.2.2.2.1,fa.2.1,fa.2.2.2.2.1,fa.2.2.2.2.2⟩
 ·rw[aD (λz=>hc (by simp[z]))];exact n
 ·rw[aD (mw b _ e)];exact e
 ·rw[aD (mw b _ e)];exact e
 ·exact⟨#[],by rw[aD (mw b _ e),e];simp⟩
 ·obtain⟨o,es,ep,h1,h2⟩:=hm
  exact⟨o,es,ep,keep _ o fa.2.1.symm h1,h2⟩
 ·by_cases hb:b=a
  ·subst hb
   rw[ao]at e;cases e;exact⟨by rw[rv.length];exact qw,out,c,rv,hit⟩
  ·rw[aD hb]at e
   refine(K1.hok b u e).stay (λd v hd' r=>keep d v ?_ r) (λd r=>by rw[aD (mw d _ r)];exact r) (λd xs r=>by rw[aD (mw d _ r)];exact r) λd ob u r=>by rw[aD (mw d _ r)];exact r
   rcases hd' with rfl|hd'
   ·exact hb
   ·exact mw d _ hd'
end
section
variable {X:Cx} {pins:List (Addr × Obj)} {σ:St} {H:Hp} {s:Shared} {qual x:Str} {params:Arguments} {body:Expr} {scope:Scope} {fr:List (Str × Nat)} {tb:TE} {p:Addr} {v:V} {u:Value} {xs:List V} {kz:List Int} {Q:VK} {E:Value->Shared->Prop}
end
section
variable {X:Cx} {x:Str} {params:Arguments} {body e:Expr} {scope:Scope} {fr:List (Str × Nat)} {tb ti:TE} {c P:Addr} {p0 qB kpos pos:Pos}
def uC(B:V->Hp->Prop):List V->Hp->Prop:=λvs H=>match vs with
 | [v]=>B v H
 |_=>False
theorem uC.get{B:V->Hp->Prop}{vs:List V}{H:Hp}(h:uC B vs H):∃v,vs = [v]/\B v H:=by
 unfold uC at h
 split at h
 ·exact⟨_,rfl,h⟩
 ·exact h.elim
theorem lR.same{K:W.Frag}{H H':Hp}{v:V}{xs:List V}(h:lR K H v xs)(s:Same H H'):lR K H' v xs:=by
 rcases h with⟨r,n,h1,h2,h3⟩|⟨r,h1,h2⟩
 ·exact .inl ⟨r,n,h1,s _ _ h2,h3⟩
 ·exact .inr ⟨r,h1,s.seq h2⟩
end
section
variable {P:Program} {w:World} {K:W.Frag} {mg:Str->Option Value} {base:Heap}
end
end L2
namespace My
open PySem PySem.Spec PyProof.Rows L2
def gN(n:Nat)(R:Nat->Nat->Bool)(a:Nat):Nat:=((List.range n).map (R a)).count true
theorem YQ{α β:Type}{f:α->β}{l:List α}{m:List β}(h:m.Perm (l.map f)):∃l':List α,m=l'.map f/\l'.Perm l:=by
 generalize e:l.map f=k at h
 induction h generalizing l with
 |nil =>
  have:l = []:=by simpa using e
  subst this;exact⟨[],rfl,.nil⟩
 |cons x _ ih =>
  cases l with
  |nil=>cases e
  |cons a l =>
   rw[cL,rS]at e;obtain⟨l',h1,h2⟩:=ih e.2;exact⟨a::l',by rw[h1,cL,e.1],h2.cons a⟩
 |swap x y _ =>
  cases l with
  |nil=>cases e
  |cons a l =>
   cases l with
   |nil=>simp at e
   |cons c l =>
    rw[cL,cL,rS,rS]at e;refine⟨c::a::l,?_,.swap _ _ _⟩;rw[cL,cL,e.1,e.2.1,e.2.2]
 |trans _ _ ih1 ih2 =>
  obtain⟨l1,h1,h2⟩:=ih2 e;obtain⟨l2,h3,h4⟩:=ih1 h1.symm;exact⟨l2,h3,h4.trans h2⟩
section
variable {P:Program} {w:World} {K:W.Frag} {mg:Str->Option Value} {base:Heap} {f:Addr} {fd:FuncData}
end
theorem Hm{M:List Nat}(hM:Ev.cz M){ps:List (Nat × Nat)}(hand:Hand M ps){R:Nat->Nat->Bool}(hC:Ev.j9 M.length ps R):∀a b,a<M.length->b<M.length->R a b=Ev.aN M a b:=
 hC.RD hM.nd hand.le λa b ha hb h=>hand.all _ (aah hM.nd ha hb h)
theorem Iq{M:List Nat}(hM:Ev.cz M){ps:List (Nat × Nat)}(hand:Hand M ps)(R:Nat->Nat->Bool)(hC:Ev.j9 M.length ps R):Good M.length R:=by
 have eq:=Hm hM hand hC;refine⟨λa ha=>by rw[eq a a ha ha];exact Ev.kM _ _,λa b ha hb h1 h2=>?_,λa b ha hb=>?_,λa b ha hb=>?_⟩
 ·rw[eq a b ha hb]at h1
  rw[eq b a hb ha]at h2;exact Ev.J8 hM.nd ha hb h1 h2
 ·obtain⟨c,hc,h⟩:=hM.JN ha hb
  exact⟨c,hc,λx hx=>by rw[eq c x hc hx,eq a x ha hx,eq b x hb hx];exact h x hx⟩
 ·obtain⟨c,hc,_,h⟩:=hM.Ks ha hb
  exact⟨c,hc,λx hx=>by rw[eq x c hx hc,eq x a hx ha,eq x b hx hb];exact h x⟩
theorem Good.trans{n:Nat}{R:Nat->Nat->Bool}(G:Good n R){a b c:Nat}(ha:a<n)(hb:b<n)(hc:c<n)(h1:R a b=true)(h2:R b c=true):R a c=true:=by
 obtain⟨m,hm,h⟩:=G.meet b c hb hc;have e1:=h b hb;rw[G.refl b hb,h2]at e1;have e2:=h m hm;rw[G.refl m hm]at e2;have e3:R m b=true:=by
  cases e:R m b with
  |true=>rfl
  |false=>rw[e]at e2;cases e2
 have:b=m:=G.anti b m hb hm (by rw[e1];rfl) e3;subst this;have e4:=h a ha;rw[h1]at e4;simpa using e4.symm
def c6(n:Nat)(R:Nat->Nat->Bool)(a b c:Nat):Prop:=c<n/\∀x,x<n->R c x=(R a x&&R b x)
def c7(n:Nat)(R:Nat->Nat->Bool)(a b c:Nat):Prop:=c<n/\∀x,x<n->R x c=(R x a&&R x b)
section
variable {n:Nat} {R:Nat->Nat->Bool} {a b c d:Nat}
theorem c6.uniq(G:Good n R)(h:c6 n R a b c)(h':c6 n R a b d):c=d:=G.dis c d h.1 h'.1 λx hx=>by rw[h.2 x hx,h'.2 x hx]
theorem c7.uniq(G:Good n R)(h:c7 n R a b c)(h':c7 n R a b d):c=d:=G.lW c d h.1 h'.1 λx hx=>by rw[h.2 x hx,h'.2 x hx]
theorem c6.up(G:Good n R)(ha:a<n)(hb:b<n)(h:c6 n R a b c):R a c=true/\R b c=true:=by
 have:=h.2 c h.1;rw[G.refl c h.1]at this;simpa using this.symm
theorem c7.dn(G:Good n R)(ha:a<n)(hb:b<n)(h:c7 n R a b c):R c a=true/\R c b=true:=by
 have:=h.2 c h.1;rw[G.refl c h.1]at this;simpa using this.symm
end
theorem n_ (n:Nat) (vp vr vj vm:V):(jL n vp vr vj vm).lookup ("joins" : Str)=some vj:=by
 unfold jL;rw[g_,if_neg (by decide +kernel),g_,if_pos rfl]
theorem oa (n:Nat) (vp vr vj vm:V):(jL n vp vr vj vm).lookup ("meets" : Str)=some vm:=by
 unfold jL;rw[g_,if_pos rfl]
end My
namespace Cl
section
variable (g:Nat->List Nat) (b:Nat)
def climbs:Nat->Nat->List (List Nat)
 |0,a=>if a=b then[[a]]else[]
 |k+1,a=>if a=b then[[a]]else(g a).flatMap λd=>(climbs k d).map (a::·)
end
section
variable {g:Nat->List Nat} {b:Nat} {u:Nat->Nat}
def W(g:Nat->List Nat)(b N a:Nat):Nat:=(climbs g b N a).length
structure o_ (g:Nat->List Nat) (b a:Nat) (c:List Nat):Prop where
 hd:c.head? = some a
 last:c.getLast? = some b
 go:∀i,i+1<c.length->c.getD (i+1) 0∈g (c.getD i 0)
theorem Vb{a x:Nat}{c:List Nat}(h:o_ g b a (a::x::c)):o_ g b x (x::c)/\x∈g a:=by
 refine⟨⟨rfl,by rw[<- h.last,List.getLast?_cons_cons],λi hi=>?_⟩,?_⟩
 ·have:=h.go (i+1) (by simpa using hi)
  simpa using this
 ·have:=h.go 0 (by simp)
  simpa using this
end
end Cl
namespace My
open PySem PySem.Spec PyProof.Rows L2
def gA(n:Nat)(R:Nat->Nat->Bool)(a:Nat):List Nat:=if a<n then GP n R a else[]
theorem uq{n:Nat}{R:Nat->Nat->Bool}{a d:Nat}:d∈gA n R a ↔ a<n/\d<n/\bQ n R a d=true:=by
 unfold gA
 by_cases h:a<n
 ·rw[if_pos h]
  unfold GP;rw[cT,dS];exact⟨λz=>⟨h,z⟩,λz=>z.2⟩
 ·rw[if_neg h]
  exact⟨λz=>(nomatch z),λz=>absurd z.1 h⟩
theorem yf{p q:Nat->Bool}{x:Nat}:∀{l:List Nat},x∈l->(∀y∈l,p y=true->q y=true)->p x=false->q x=true->l.countP p<l.countP q
 | [],h,_,_,_=>nomatch h
 |y::l,h,hpq,h1,h2=>by
  rw[List.countP_cons,List.countP_cons];have le:l.countP p<=l.countP q:=List.countP_mono_left λz hz=>hpq z (cu _ hz)
  by_cases e:x=y
  ·subst e
   rw[h1,h2];simp;omega
  ·have hx:x∈l:=by
    rcases bq.mp h with z|z
    ·exact absurd z e
    ·exact z
   have:=yf hx (λz hz=>hpq z (cu _ hz)) h1 h2;have hy:=hpq y b9;cases hp:p y with
   |false=>simp;omega
   |true=>rw[hy hp];simp;omega
theorem mK(n:Nat)(R:Nat->Nat->Bool)(a:Nat):gN n R a=(List.range n).countP (R a):=by
 unfold gN;rw[List.count,List.countP_map];exact List.countP_congr λx _=>by simp
theorem Ez(n:Nat)(R:Nat->Nat->Bool)(a:Nat):gN n R a<=n:=by
 rw[mK];have:=List.countP_le_length (p:=R a) (l:=List.range n);rw[iH]at this;exact this
theorem O8{n:Nat}{R:Nat->Nat->Bool}(G:Good n R):∀a d,d∈gA n R a->gN n R d<gN n R a:=λa d h=>by
 obtain⟨ha,hd,hs⟩:=uq.mp h;have hb:=Oe hs;unfold bL at hb;rw[bD,eN,fB]at hb;rw[mK,mK];refine yf (x:=a) (dS.mpr ha) (λy hy h=>G.trans ha hd (dS.mp hy) hb.2 h) ?_ (G.refl a ha);cases e:R d a with
 |false=>rfl
 |true=>exact absurd (G.anti a d ha hd hb.2 e) hb.1
section
variable {n:Nat} {R:Nat->Nat->Bool}
end
structure Md (n:Nat) (R:Nat->Nat->Bool) (J N:Nat->Nat->Nat):Prop where
 G:Good n R
 j:∀a b,a<n->b<n->c6 n R a b (J a b)
 m:∀a b,a<n->b<n->c7 n R a b (N a b)
 md:∀a b c,a<n->b<n->c<n->R a c=true->J a (N b c)=N (J a b) c
theorem aag{n:Nat}{R:Nat->Nat->Bool}{a b:Nat}:bQ n R a b=true ↔ a≠b/\R a b=true/\∀t,t<n->R a t=true->R t b=true->t=a\/t=b:=by
 unfold bQ bL;rw[bD,bD,eN,fB,eN,Ft]
 constructor
 ·rintro⟨⟨h1,h2⟩,h3⟩
  refine⟨h1,h2,λt ht q1 q2=>?_⟩;apply kf
  intro z;have z1:a≠t:=λe=>z (.inl e.symm)
  have z2:t≠b:=λe=>z (.inr e)
  exact h3 t (dS.mpr ht) (by rw[q1,q2,bU z1,bU z2];rfl)
 ·rintro⟨h1,h2,h3⟩
  refine⟨⟨h1,h2⟩,λt ht q=>?_⟩;simp only[bD,eN,fB]at q
  rcases h3 t (dS.mp ht) q.1.2 q.2.2 with e|e
  ·exact q.1.1 e.symm
  ·exact q.2.1 e
section
variable {n:Nat} {R:Nat->Nat->Bool} {J N:Nat->Nat->Nat} {a b c x y:Nat}
theorem Md.fE(M:Md n R J N)(ha:a<n)(hb:b<n):J a b<n:=(M.j a b ha hb).1
theorem Md.mlt(M:Md n R J N)(ha:a<n)(hb:b<n):N a b<n:=(M.m a b ha hb).1
theorem Md.jl(M:Md n R J N)(ha:a<n)(hb:b<n):R a (J a b)=true/\R b (J a b)=true:=by
 have h:=(M.j a b ha hb).2 _ (M.fE ha hb);rw[M.G.refl _ (M.fE ha hb)]at h;have h:=h.symm
 rwa [bD]at h
theorem Md.ml(M:Md n R J N)(ha:a<n)(hb:b<n):R (N a b) a=true/\R (N a b) b=true:=by
 have h:=(M.m a b ha hb).2 _ (M.mlt ha hb);rw[M.G.refl _ (M.mlt ha hb)]at h;have h:=h.symm
 rwa [bD]at h
theorem Md.oz(M:Md n R J N)(ha:a<n)(hb:b<n)(hc:c<n)(h1:R a c=true)(h2:R b c=true):R (J a b) c=true:=by
 rw[(M.j a b ha hb).2 c hc,h1,h2];rfl
theorem Md.mr(M:Md n R J N)(ha:a<n)(hb:b<n)(hc:c<n)(h1:R c a=true)(h2:R c b=true):R c (N a b)=true:=by
 rw[(M.m a b ha hb).2 c hc,h1,h2];rfl
theorem Md.jc(M:Md n R J N)(ha:a<n)(hb:b<n):J a b=J b a:=
 M.G.anti _ _ (M.fE ha hb) (M.fE hb ha) (M.oz ha hb (M.fE hb ha) (M.jl hb ha).2 (M.jl hb ha).1) (M.oz hb ha (M.fE ha hb) (M.jl ha hb).2 (M.jl ha hb).1)
theorem Md.mc(M:Md n R J N)(ha:a<n)(hb:b<n):N a b=N b a:=
 M.G.anti _ _ (M.mlt ha hb) (M.mlt hb ha) (M.mr hb ha (M.mlt ha hb) (M.ml ha hb).2 (M.ml ha hb).1) (M.mr ha hb (M.mlt hb ha) (M.ml hb ha).2 (M.ml hb ha).1)
theorem Md.Ax(M:Md n R J N)(ha:a<n)(hb:b<n)(h:R a b=true):J a b=b:=M.G.anti _ _ (M.fE ha hb) hb (M.oz ha hb hb h (M.G.refl _ hb)) (M.jl ha hb).2
theorem Md.Ky(M:Md n R J N)(ha:a<n)(hb:b<n)(h:R a b=true):N a b=a:=M.G.anti _ _ (M.mlt ha hb) ha (M.ml ha hb).1 (M.mr ha hb ha (M.G.refl _ ha) h)
open Classical in
noncomputable def rk (G:Good n R) (x:Nat):Nat:=if h:∃y,y<n/\x<n/\bQ n R y x=true then rk G h.choose+1 else 0
termination_by n - gN n R x
decreasing_by
 obtain⟨h1,h2,h3⟩:=h.choose_spec;have:=O8 G _ _ (uq.mpr ⟨h1,h2,h3⟩);have:=Ez n R h.choose;omega
end
def cM{ρ:Type}(inn out:ρ->Nat):Nat->List ρ->Nat->Prop
 |s,[],e=>s=e
 |s,r::l,e=>inn r=s/\cM inn out (out r) l e
section
variable {ρ τ:Type} {inn out:ρ->Nat} {s e e':Nat} {l l':List ρ}
theorem cM.app:∀{s:Nat} {l:List ρ},cM inn out s l e->cM inn out e l' e'->cM inn out s (l++l') e'
 |s,[],h,h'=>by cases(show s=e from h);exact h'
 |s,r::l,h,h'=>⟨h.1,cM.app h.2 h'⟩
theorem cM.map{f:τ->ρ}:∀{s:Nat} {l:List τ},cM (λr=>inn (f r)) (λr=>out (f r)) s l e->cM inn out s (l.map f) e
 |s,[],h=>h
 |s,r::l,h=>⟨h.1,cM.map h.2⟩
theorem Kg{x:Nat->Nat}{p:Nat->Bool}:∀(m:Nat),(∀q,q<m->p q=false->x q=x (q+1))->cM x (λq=>x (q+1)) (x 0) ((List.range m).filter p) (x m)
 |0,_=>rfl
 |m+1,h=>by
  rw[ja,pq];refine cM.app (Kg m λq hq=>h q (by omega)) ?_;cases hp:p m with
  |true=>rw[List.filter_cons_of_pos hp];exact⟨rfl,rfl⟩
  |false=>rw[List.filter_cons_of_neg (by rw[hp];decide)];exact h m (si _) hp
theorem cM.get:∀{s:Nat} {l:List ρ},cM inn out s l e->∀(k:Nat) (r:ρ),l[k]? = some r->(s::l.map out).getD k 0=inn r
 |s,[],_,k,r,h=>by simp at h
 |s,q::l,h,0,r,hr=>by
  obtain rfl:q=r:=by simpa using hr
  exact h.1.symm
 |s,q::l,h,k+1,r,hr=>by
  have:=cM.get h.2 k r (by simpa using hr);exact this
end
theorem Oa{α:Type}{rk:α->Int}:∀{l l':List α},l.Pairwise (λx y=>rk x<rk y)->l'.Pairwise (λx y=>rk x<rk y)->(∀x,x∈l ↔ x∈l')->l=l'
 | [],[],_,_,_=>rfl
 | [],y::l',_,_,h=>absurd ((h y).mpr b9) (by simp)
 |x::l,[],_,_,h=>absurd ((h x).mp b9) (by simp)
 |x::l,y::l',h1,h2,h=>by
  rw[List.pairwise_cons]at h1 h2;have e:x=y:=by
   rcases bq.mp ((h x).mp b9)with z|z
   ·exact z
   ·rcases bq.mp ((h y).mpr b9)with w|w
    ·exact w.symm
    ·have q1:=h1.1 y w
     have q2:=h2.1 x z;omega
  subst e;rw[Oa h1.2 h2.2 λz=>⟨λhz=>?_,λhz=>?_⟩]
  ·rcases bq.mp ((h z).mp (cu _ hz))with w|w
   ·have:=h1.1 z hz
    rw[w]at this;omega
   ·exact w
  ·rcases bq.mp ((h z).mpr (cu _ hz))with w|w
   ·have:=h2.1 z hz
    rw[w]at this;omega
   ·exact w
theorem Ic{α β:Type}{f g:α->List β}:∀{l:List α},(∀x∈l,f x=g x)->l.flatMap f=l.flatMap g
 | [],_=>rfl
 |x::l,h=>by rw[pz,pz,h x b9,Ic λy hy=>h y (cu _ hy)]
structure d_ (n:Nat) (R:Nat->Nat->Bool) (cs:List Nat):Prop where
 pos:0<cs.length
 lt:∀x∈cs,x<n
 adj:∀i,i+1<cs.length->cs.getD i 0≠cs.getD (i+1) 0/\R (cs.getD i 0) (cs.getD (i+1) 0)=true
theorem qf{cs:List Nat}{i:Nat}(h:i<cs.length):cs.getD i 0∈cs:=by
 rw[aO,aB h];exact ft h
section
variable {n:Nat} {R:Nat->Nat->Bool} {J N:Nat->Nat->Nat} {a a' b b':Nat} {cs ds:List Nat} {r:Nat × Nat}
theorem d_.at(h:d_ n R cs){i:Nat}(hi:i<cs.length):cs.getD i 0<n:=h.lt _ (qf hi)
theorem d_.le(G:Good n R)(h:d_ n R cs){i:Nat}:∀{j:Nat},i<=j->j<cs.length->R (cs.getD i 0) (cs.getD j 0)=true
 |0,h1,h2=>by
  obtain rfl:i=0:=by omega
  exact G.refl _ (h.at h2)
 |j+1,h1,h2=>by
  by_cases e:i=j+1
  ·rw[e];exact G.refl _ (h.at h2)
  ·exact G.trans (h.at (by omega)) (h.at (by omega)) (h.at h2) (d_.le G h (by omega) (by omega)) (h.adj j h2).2
theorem aa3(G:Good n R)(ha:a<n)(hb:b<n)(ne:a≠b)(h:R a b=true):gN n R b<gN n R a:=by
 rw[mK,mK];refine yf (dS.mpr ha) (λy hy q=>G.trans ha hb (dS.mp hy) h q) ?_ (G.refl a ha);cases e:R b a with
 |false=>rfl
 |true=>exact absurd (G.anti _ _ ha hb h e) ne
theorem aa5(G:Good n R)(ha:a<n):0<gN n R a:=by
 rw[mK];exact List.countP_pos_iff.mpr ⟨a,dS.mpr ha,G.refl a ha⟩
theorem d_.up(G:Good n R)(h:d_ n R cs){i:Nat}:∀{j:Nat},i<j->j<cs.length->gN n R (cs.getD j 0)<gN n R (cs.getD i 0)
 |0,h1,_=>by omega
 |j+1,h1,h2=>by
  have q:=aa3 G (h.at (by omega)) (h.at h2) (h.adj j h2).1 (h.adj j h2).2
  by_cases e:i=j
  ·rw[e];exact q
  ·exact Gb q (d_.up G h (by omega) (by omega))
theorem d_.len(G:Good n R)(h:d_ n R cs):cs.length<=n:=by
 have go:∀j,j<cs.length->j+gN n R (cs.getD j 0)<=n:=by
  intro j
  induction j with
  |zero=>intro hj;have:=Ez n R (cs.getD 0 0);omega
  |succ j ih =>
   intro hj;have h1:=ih (by omega);have h2:=h.up G (i:=j) (j:=j+1) (by omega) hj;omega
 have:=go (cs.length - 1) (by have:=h.pos;omega);have:=aa5 G (h.at (i:=cs.length - 1) (by have:=h.pos;omega));have:=h.pos;omega
theorem Md.Pg(M:Md n R J N)(ha:a<n)(ha':a'<n)(hb:b<n)(hb':b'<n)(haa:R a a'=true)(hbb:R b b'=true):J (N a' b') (J a (N a' b))=J a (N a' b')/\N (N a' b') (J a (N a' b))=J (N a b') (N a' b)/\R (J a (N a' b)) (J a (N a' b'))=true/\R (N a' b) (N a' b')=true:=by
 have hh:=M.mlt ha' hb';have hk:=M.mlt ha' hb;have kh:R (N a' b) (N a' b')=true:=M.mr ha' hb' hk (M.ml ha' hb).1 (M.G.trans hk hb hb' (M.ml ha' hb).2 hbb);have hx:=M.fE ha hk;have hx':=M.fE ha hh;have xx:R (J a (N a' b)) (J a (N a' b'))=true:=M.oz ha hk hx' (M.jl ha hh).1 (M.G.trans hk hh hx' kh (M.jl ha hh).2);refine⟨?_,?_,xx,kh⟩
 ·refine M.G.anti _ _ (M.fE hh hx) hx' (M.oz hh hx hx' (M.jl ha hh).2 xx) (M.oz ha hh (M.fE hh hx) ?_ (M.jl hh hx).1)
  exact M.G.trans ha hx (M.fE hh hx) (M.jl ha hk).1 (M.jl hh hx).2
 ·have md:=M.md (N a' b) a (N a' b') hk ha hh kh
  have e:N a (N a' b')=N a b':=by
   have q1:=M.mlt ha hh;have q2:=M.mlt ha hb';refine M.G.anti _ _ q1 q2 (M.mr ha hb' q1 (M.ml ha hh).1 (M.G.trans q1 hh hb' (M.ml ha hh).2 (M.ml ha' hb').2)) (M.mr ha hh q2 (M.ml ha hb').1 (M.mr ha' hb' q2 (M.G.trans q2 ha ha' (M.ml ha hb').1 haa) (M.ml ha hb').2))
  rw[e]at md;rw[M.mc hh hx,M.jc ha hk,<- md,M.jc hk (M.mlt ha hb')]
theorem Md.Ph(M:Md n R J N)(ha:a<n)(ha':a'<n)(hb:b<n)(hb':b'<n)(haa:R a a'=true)(hbb:R b b'=true):
  J (N a b') (N a' b)=N a' b' ↔ J a (N a' b)=J a (N a' b'):=by
 obtain⟨z1,z2,z3,z4⟩:=M.Pg ha ha' hb hb' haa hbb;have hh:=M.mlt ha' hb';have hx:=M.fE ha (M.mlt ha' hb)
 constructor
 ·intro e
  rw[e]at z2;have q:=(M.ml hh hx).2;rw[z2]at q;rw[<- z1];exact(M.Ax hh hx q).symm
 ·intro e
  rw[<- z2];refine M.Ky hh hx ?_;rw[e];exact(M.jl ha hh).2
def dz(J N:Nat->Nat->Nat)(cs ds:List Nat)(r:Nat × Nat):Nat:=J (N (cs.getD r.1 0) (ds.getD (r.2+1) 0)) (N (cs.getD (r.1+1) 0) (ds.getD r.2 0))
def cF(N:Nat->Nat->Nat)(cs ds:List Nat)(r:Nat × Nat):Nat:=N (cs.getD (r.1+1) 0) (ds.getD (r.2+1) 0)
def eM(J N:Nat->Nat->Nat)(cs ds:List Nat)(r:Nat × Nat):Bool:=!decide (dz J N cs ds r=cF N cs ds r)
def ow(J N:Nat->Nat->Nat)(cs ds:List Nat)(r:Nat × Nat):Nat:=J (cs.getD r.1 0) (N (cs.getD (r.1+1) 0) (ds.getD r.2 0))
def eT(J N:Nat->Nat->Nat)(cs ds:List Nat)(r:Nat × Nat):Nat:=J (cs.getD r.1 0) (cF N cs ds r)
def gy(J N:Nat->Nat->Nat)(cs ds:List Nat)(p:Nat):List (Nat × Nat):=((List.range (ds.length - 1)).filter λq=>eM J N cs ds (p,q)).map λq=>(p,q)
def aY(J N:Nat->Nat->Nat)(cs ds:List Nat):List (Nat × Nat):=(List.range (cs.length - 1)).flatMap (gy J N cs ds)
def cJ(J N:Nat->Nat->Nat)(cs ds:List Nat):List (Nat × Nat):=(List.range (ds.length - 1)).flatMap λq=>((List.range (cs.length - 1)).filter λp=>eM J N cs ds (p,q)).map λp=>(p,q)
theorem jR:r∈aY J N cs ds ↔ r.1+1<cs.length/\r.2+1<ds.length/\dz J N cs ds r≠cF N cs ds r:=by
 unfold aY gy;simp only[lL,cW,cT,dS,eM,eN,fB]
 constructor
 ·rintro⟨p,h1,q,⟨h2,h3⟩,rfl⟩
  exact⟨by show p+1<_;omega,by show q+1<_;omega,h3⟩
 ·rintro⟨h1,h2,h3⟩
  exact⟨r.1,by omega,r.2,⟨by omega,h3⟩,rfl⟩
theorem uw:r∈cJ J N cs ds ↔ r∈aY J N cs ds:=by
 rw[jR];unfold cJ;simp only[lL,cW,cT,dS,eM,eN,fB]
 constructor
 ·rintro⟨q,h1,p,⟨h2,h3⟩,rfl⟩
  exact⟨by show p+1<_;omega,by show q+1<_;omega,h3⟩
 ·rintro⟨h1,h2,h3⟩
  exact⟨r.2,by omega,r.1,⟨by omega,h3⟩,rfl⟩
def gK(r:Nat × Nat):Int:=(r.2:Int) * 1000+(r.1:Int)
theorem aaN(h:cs.length<=1000):(cJ J N cs ds).Pairwise (λx y=>gK x<gK y):=by
 unfold cJ;rw[PX];refine⟨λq _=>?_,wD.imp λ{p q} hpq x hx y hy=>?_⟩
 ·rw[pD]
  refine(wD.filter _).imp λ{x y} hxy=>?_
  unfold gK;dsimp only;omega
 ·obtain⟨x',hx',rfl⟩:=cW.mp hx
  obtain⟨y',hy',rfl⟩:=cW.mp hy;have:=dS.mp (cT.mp hx').1;have:=dS.mp (cT.mp hy').1;unfold gK;dsimp only;omega
theorem R8:(aY J N cs ds).Nodup:=by
 unfold aY gy List.Nodup;rw[PX];refine⟨λq _=>?_,wD.imp λ{p q} hpq x hx y hy=>?_⟩
 ·rw[pD]
  refine(wD.filter _).imp λ{x y} hxy e=>?_
  injection e with _ e
  omega
 ·obtain⟨x',_,rfl⟩:=cW.mp hx
  obtain⟨y',_,rfl⟩:=cW.mp hy;intro e;injection e with e _
  omega
theorem aaf{tn:List (Nat × Nat)}(h:cs.length<=1000)(hp:tn.Perm (aY J N cs ds))(hs:tn.Pairwise (λx y=>gK x<=gK y)):tn=cJ J N cs ds:=by
 have nd:tn.Nodup:=hp.nodup_iff.mpr R8;refine Oa ?_ (aaN h) λx=>(hp.mem_iff).trans uw.symm
 rw[FT]at hs ⊢;intro i j hi hj hij;have h1:=hs i j hi hj hij;have ne:tn[i]≠tn[j]:=(FT.mp nd) i j hi hj hij;have m1:=jR.mp (hp.mem_iff.mp (ft hi));have m2:=jR.mp (hp.mem_iff.mp (ft hj));generalize tn[i]=x at h1 ne m1;generalize tn[j]=y at h1 ne m2;obtain⟨x1,x2⟩:=x;obtain⟨y1,y2⟩:=y;unfold gK at h1 ⊢;dsimp only at h1 m1 m2 ⊢;have:¬ (x1=y1/\x2=y2):=λz=>ne (by rw[z.1,z.2])
 omega
structure Two (n:Nat) (R:Nat->Nat->Bool) (J N:Nat->Nat->Nat) (cs ds:List Nat):Prop where
 M:Md n R J N
 c:d_ n R cs
 d:d_ n R ds
 first:cs.getD 0 0=ds.getD 0 0
 last:cs.getD (cs.length - 1) 0=ds.getD (ds.length - 1) 0
theorem Two.swap(T:Two n R J N cs ds):Two n R J N ds cs:=⟨T.M,T.d,T.c,T.first.symm,T.last.symm⟩
theorem Two.sym(T:Two n R J N cs ds)(h1:r.1+1<cs.length)(h2:r.2+1<ds.length):dz J N ds cs r.swap=dz J N cs ds r/\cF N ds cs r.swap=cF N cs ds r:=by
 have p1:=T.c.at (i:=r.1) (by omega);have p2:=T.c.at h1;have q1:=T.d.at (i:=r.2) (by omega);have q2:=T.d.at h2;unfold dz cF;dsimp only[Prod.swap];rw[T.M.mc q1 p2,T.M.mc q2 p1,T.M.mc q2 p2,T.M.jc (T.M.mlt p2 q1) (T.M.mlt p1 q2)];exact⟨rfl,rfl⟩
structure Qb (n:Nat) (R:Nat->Nat->Bool) (J N:Nat->Nat->Nat) (lo hi inn out:Nat):Prop where
 ll:lo<n
 lh:hi<n
 li:inn<n
 Kl:out<n
 ne:inn≠out
 r:R inn out=true
 ne':lo≠hi
 r':R lo hi=true
 up:J hi inn=out
 dn:N hi inn=lo
theorem Two.row(T:Two n R J N cs ds)(h:r∈aY J N cs ds):Qb n R J N (dz J N cs ds r) (cF N cs ds r) (ow J N cs ds r) (eT J N cs ds r):=by
 obtain⟨h1,h2,h3⟩:=jR.mp h;have p1:=T.c.at (i:=r.1) (by omega);have p2:=T.c.at h1;have q1:=T.d.at (i:=r.2) (by omega);have q2:=T.d.at h2;have pp:=(T.c.adj _ h1).2;have qq:=(T.d.adj _ h2).2;obtain⟨z1,z2,z3,z4⟩:=T.M.Pg p1 p2 q1 q2 pp qq;have z5:=T.M.Ph p1 p2 q1 q2 pp qq;have hh:=T.M.mlt p2 q2;have hx:=T.M.fE p1 (T.M.mlt p2 q1);refine⟨T.M.fE (T.M.mlt p1 q2) (T.M.mlt p2 q1),hh,hx,T.M.fE p1 hh,λe=>h3 (z5.mpr e),z3,h3,?_,z1,z2⟩;have:=(T.M.ml hh hx).1;rw[z2]at this;exact this
theorem Two.Ke(T:Two n R J N cs ds){p:Nat}(hp:p+1<cs.length):cM (ow J N cs ds) (eT J N cs ds) (cs.getD p 0) (gy J N cs ds p) (cs.getD (p+1) 0):=by
 have p1:=T.c.at (i:=p) (by omega);have p2:=T.c.at hp;have pp:=(T.c.adj _ hp).2;have hc:=T.c.pos;have hd:=T.d.pos;have q0:=T.d.at hd;have ql:=T.d.at (i:=ds.length - 1) (by omega);have G:=T.M.G;have L:=Kg (x:=λq=>J (cs.getD p 0) (N (cs.getD (p+1) 0) (ds.getD q 0))) (p:=λq=>eM J N cs ds (p,q)) (ds.length - 1) (λq hq hn=>by
  have q1:=T.d.at (i:=q) (by omega);have q2:=T.d.at (i:=q+1) (by omega);refine(T.M.Ph p1 p2 q1 q2 pp (T.d.adj q (by omega)).2).mp ?_;show dz J N cs ds (p,q)=cF N cs ds (p,q);exact uB (by simpa only[eM,Fi]using hn))
 have e0:J (cs.getD p 0) (N (cs.getD (p+1) 0) (ds.getD 0 0))=cs.getD p 0:=by
  rw[T.M.jc p1 (T.M.mlt p2 q0)];refine T.M.Ax (T.M.mlt p2 q0) p1 (G.trans (T.M.mlt p2 q0) q0 p1 (T.M.ml p2 q0).2 ?_);rw[<- T.first];exact T.c.le G (eD _) (by omega)
 have e1:J (cs.getD p 0) (N (cs.getD (p+1) 0) (ds.getD (ds.length - 1) 0))=cs.getD (p+1) 0:=by
  rw[T.M.Ky p2 ql (by rw[<- T.last];exact T.c.le G (by omega) (by omega))];exact T.M.Ax p1 p2 pp
 rw[e0,e1]at L;exact cM.map (f:=λq=>(p,q)) L
theorem Two.V0(T:Two n R J N cs ds):cM (ow J N cs ds) (eT J N cs ds) (cs.getD 0 0) (aY J N cs ds) (cs.getD (cs.length - 1) 0):=by
 have go:∀m,m<=cs.length - 1->cM (ow J N cs ds) (eT J N cs ds) (cs.getD 0 0) ((List.range m).flatMap (gy J N cs ds)) (cs.getD m 0):=by
  intro m
  induction m with
  |zero=>intro _;exact rfl
  |succ m ih =>
   intro hm;rw[ja,wt];refine cM.app (ih (by omega)) ?_;rw[pz,Fy,h_];exact T.Ke (by omega)
 exact go _ (aW _)
theorem OJ(T:Two n R J N cs ds):cJ J N cs ds=(aY J N ds cs).map Prod.swap:=by
 unfold cJ aY gy;rw[List.map_flatMap];refine Ic λq hq=>?_
 rw[eZ];have e:(List.range (cs.length - 1)).filter (λp=>eM J N cs ds (p,q))=(List.range (cs.length - 1)).filter (λp=>eM J N ds cs (q,p)):=by
  refine Fw λp hp=>?_
  have h:=T.sym (r:=(p,q)) (by have:=dS.mp hp;show p+1<_;omega) (by have:=dS.mp hq;show q+1<_;omega);unfold eM;rw[<- h.1,<- h.2];rfl
 rw[e];rfl
theorem Two.Ym(T:Two n R J N cs ds)(h:r∈aY J N cs ds):eT J N ds cs r.swap=J (ds.getD r.2 0) (cF N cs ds r):=by
 obtain⟨h1,h2,_⟩:=jR.mp h;obtain⟨s1,s2⟩:=T.sym h1 h2;unfold eT;rw[s2];rfl
def g9(J N:Nat->Nat->Nat)(cs ds:List Nat):List Nat:=cs.getD 0 0::(aY J N cs ds).map (eT J N cs ds)
theorem Bk:(g9 J N cs ds).length=(aY J N cs ds).length+1:=by unfold g9;simp
theorem VR{k:Nat}(h:(aY J N cs ds)[k]? = some r):(g9 J N cs ds).getD (k+1) 0=eT J N cs ds r:=by
 unfold g9;rw[List.getD_cons_succ,aO,bO,h];rfl
theorem Two.VP(T:Two n R J N cs ds){k:Nat}(h:(aY J N cs ds)[k]? = some r):(g9 J N cs ds).getD k 0=ow J N cs ds r:=T.V0.get k r h
theorem Two.VN(T:Two n R J N cs ds):d_ n R (g9 J N cs ds):=by
 refine⟨by rw[Bk];omega,λx hx=>?_,λi hi=>?_⟩
 ·unfold g9 at hx
  rcases bq.mp hx with rfl|hx
  ·exact T.c.at T.c.pos
  ·obtain⟨r,hr,rfl⟩:=cW.mp hx
   exact(T.row hr).Kl
 ·rw[Bk]at hi
  have e:(aY J N cs ds)[i]? = some (aY J N cs ds)[i]:=aB (by omega);rw[T.VP e,VR e];have:=T.row (ft (l:=aY J N cs ds) (n:=i) (by omega));exact⟨this.ne,this.r⟩
theorem Two.R9(T:Two n R J N cs ds):(aY J N cs ds).length+1<=n:=by
 have:=T.VN.len T.M.G
 rwa [Bk]at this
theorem cM.Bj(G:Good n R){ρ:Type}{inn out:ρ->Nat}{e:Nat}(he:e<n):∀{s:Nat} {l:List ρ},cM inn out s l e->s<n->(∀r∈l,out r<n/\R (inn r) (out r)=true)->R s e=true
 |s,[],h,hs,_=>by cases(show s=e from h);exact G.refl _ hs
 |s,q::l,h,hs,hr=>by
  obtain⟨h1,h2⟩:=hr q b9;rw[h.1]at h2;exact G.trans hs h1 he h2 (cM.Bj G he h.2 h1 λr hr'=>hr r (cu _ hr'))
theorem cM.one(G:Good n R){ρ:Type}{inn out:ρ->Nat}{s e:Nat}{l:List ρ}(hs:s<n)(he:e<n)(st:bQ n R s e=true)(h:cM inn out s l e)(hr:∀r∈l,out r<n/\R (inn r) (out r)=true/\inn r≠out r):∃r,l = [r]/\inn r=s/\out r=e:=by
 obtain⟨s1,s2,s3⟩:=aag.mp st
 match l,h with
 | [],h=>exact absurd h s1
 |q::l,h =>
  obtain⟨q1,q2,q3⟩:=hr q b9;have le:=cM.Bj G he h.2 q1 λr hr'=>⟨(hr r (cu _ hr')).1,(hr r (cu _ hr')).2.1⟩
  rw[h.1]at q2 q3
  rcases s3 _ q1 q2 le with z|z
  ·exact absurd z.symm q3
  ·match l,h.2 with
   | [],_=>exact⟨q,rfl,h.1,z⟩
   |q'::l,h' =>
    obtain⟨p1,p2,p3⟩:=hr q' (by simp);rw[z]at h';have le':=cM.Bj G he h'.2 p1 λr hr'=>⟨(hr r (by simp[hr'])).1,(hr r (by simp[hr'])).2.1⟩
    rw[h'.1]at p2 p3;exact absurd (G.anti _ _ he p1 p2 le') p3
theorem Two.rowOne(T:Two n R J N cs ds)(hc:∀i,i+1<cs.length->bQ n R (cs.getD i 0) (cs.getD (i+1) 0)=true){p:Nat}(hp:p+1<cs.length):∃r,gy J N cs ds p = [r]/\r.1=p/\ow J N cs ds r=cs.getD p 0/\eT J N cs ds r=cs.getD (p+1) 0:=by
 have mem:∀r∈gy J N cs ds p,r∈aY J N cs ds:=λr hr=>lL.mpr ⟨p,dS.mpr (by omega),hr⟩
 obtain⟨r,h1,h2,h3⟩:=cM.one T.M.G (T.c.at (by omega)) (T.c.at hp) (hc p hp) (T.Ke hp) λr hr=>⟨(T.row (mem r hr)).Kl,(T.row (mem r hr)).r,(T.row (mem r hr)).ne⟩
 refine⟨r,h1,?_,h2,h3⟩;have hr:r∈gy J N cs ds p:=by rw[h1];exact b9
 unfold gy at hr;obtain⟨q,_,rfl⟩:=cW.mp hr;rfl
theorem Two.fst(T:Two n R J N cs ds)(hc:∀i,i+1<cs.length->bQ n R (cs.getD i 0) (cs.getD (i+1) 0)=true):(aY J N cs ds).map Prod.fst=List.range (cs.length - 1):=by
 unfold aY;rw[List.map_flatMap];have go:∀l:List Nat,(∀p∈l,p+1<cs.length)->l.flatMap (λp=>(gy J N cs ds p).map Prod.fst)=l:=by
  intro l
  induction l with
  |nil=>intro _;rfl
  |cons p l ih =>
   intro h;obtain⟨r,h1,h2,_⟩:=T.rowOne hc (h p b9);rw[pz,h1,ih λq hq=>h q (cu _ hq)];show[r.1]++l=p::l;rw[h2];rfl
 exact go _ λp hp=>by have:=dS.mp hp;omega
theorem Two.R6(T:Two n R J N cs ds)(hc:∀i,i+1<cs.length->bQ n R (cs.getD i 0) (cs.getD (i+1) 0)=true){k:Nat}(h:(aY J N cs ds)[k]? = some r):r.1=k:=by
 have e:=T.fst hc;have:=congrArg (λl=>l[k]?) e;simp only[bO,h,sj]at this;have hk:k<(List.range (cs.length - 1)).length:=by
  apply kf
  intro z;rw[List.getElem?_eq_none_iff.mpr (sf z)]at this;cases this
 rw[aB hk,lJ]at this;exact da this
theorem Two.R7(T:Two n R J N cs ds)(hc:∀i,i+1<cs.length->bQ n R (cs.getD i 0) (cs.getD (i+1) 0)=true):(aY J N cs ds).length=cs.length - 1:=by
 have:=congrArg List.length (T.fst hc);simpa using this
theorem Two.snd(T:Two n R J N cs ds)(hd:∀i,i+1<ds.length->bQ n R (ds.getD i 0) (ds.getD (i+1) 0)=true):(cJ J N cs ds).map Prod.snd=List.range (ds.length - 1):=by
 rw[OJ T,eZ,<- T.swap.fst hd];rfl
theorem Two.idx(T:Two n R J N cs ds)(hd:∀i,i+1<ds.length->bQ n R (ds.getD i 0) (ds.getD (i+1) 0)=true)(h:r∈aY J N cs ds):(cJ J N cs ds).idxOf r=r.2:=by
 have hm:=uw.mpr h;have hi:=pC.mpr hm;have e:=congrArg (λl=>l[(cJ J N cs ds).idxOf r]?) (T.snd hd);simp only[bO,aB hi,pB hi,sj]at e;have hk:(cJ J N cs ds).idxOf r<(List.range (ds.length - 1)).length:=by
  have:=congrArg List.length (T.snd hd);rw[az]at this;omega
 rw[aB hk,lJ]at e;exact(da e).symm
end
def inB(n:Nat)(zs:List Int):Bool:=zs.all λz=>decide (0<=z/\z<(n:Int))
def lS(p:Nat->Nat->Bool)(zs:List Int):Bool:=(List.range (zs.length - 1)).all λi=>p (zs.getD i 0).toNat (zs.getD (i+1) 0).toNat
def bF(n:Nat)(R:Nat->Nat->Bool)(zs:List Int):Bool:=!decide (zs.length=0)&&(inB n zs&&lS (bL R) zs)
def bZ(n:Nat)(R:Nat->Nat->Bool)(zs:List Int):Bool:=bF n R zs&&lS (bQ n R) zs
theorem qe{zs:List Int}{j:Nat}(h:j<zs.length):(zs.map V.int).getD j .non = .int (zs.getD j 0):=by
 rw[aO,aO,bO,aB h];rfl
theorem Ip{zs:List Int}{j:Nat}:(zs.drop 1).getD j 0=zs.getD (j+1) 0:=by
 rw[aO,aO,List.getElem?_drop,FX]
theorem ud{n:Nat}{zs:List Int}(h:inB n zs=true){i:Nat}(hi:i<zs.length):∃k:Nat,zs.getD i 0=(k:Int)/\k<n:=by
 unfold inB at h;rw[fZ]at h;have:=h (zs.getD i 0) (by rw[aO,aB hi];exact ft hi);rw[fO]at this;exact⟨(zs.getD i 0).toNat,by omega,by omega⟩
theorem xg(n:Nat)(f:Nat->Bool):((List.range n).map f).all id=(List.range n).all f:=by
 rw[List.all_map];rfl
theorem Qh{α:Type}(d:α)(l:List α)(f:α->Bool):(List.range l.length).all (λi=>f (l.getD i d))=l.all f:=by
 rw[dQ,fZ,fZ]
 constructor
 ·intro h x hx
  obtain⟨i,hi,e⟩:=iG hx;have:=h i (by simpa using hi);rw[aO,aB hi]at this;rw[<- e];exact this
 ·intro h i hi
  have hi':i<l.length:=by simpa using hi
  rw[aO,aB hi'];exact h _ (ft hi')
section
variable {P:Program} {w:World} {K:W.Frag} {mg:Str->Option Value} {base:Heap} {f:Addr} {fd:FuncData}
abbrev qY:Stmt:=top 40
theorem Mu:aZ ["order","things"] ["order","things"] (aA qY):=⟨rfl,rfl,rfl,by decide +kernel,rfl,by decide +kernel,by decide +kernel⟩
def rn(K:W.Frag)(C:Addr):Sp:=λvs H Q _=>∃(p t n:Nat) (R:Nat->Nat->Bool) (zs:List Int),vs = [.ref p,.ref t]/\dH C H p n R/\n<=24/\ah K H t (zs.map V.int)/\zs.length<=1000/\∀H',Same H H'->Q (.bl (bF n R zs)) H'
theorem Xo {C:Addr} (F:aR K "is_chain" "is_chain" qY f fd) (T:Txt mg) (TC:eX K C) (nD:aG P w K mg base "is_thing" ["count","number"] 2 vz) (kB:aG P w K mg base "is_below" ["order","a","b"] 1 (vx C)) :
  aL P w K mg base aX 3 f fd ["order","things"] (rn K C):=by
 refine F.ok Mu (λvs H Q E h=>?_) (λcdv A outer s H vs Q E hr h=>?_)
 ·obtain⟨p,t,n,R,zs,rfl,_⟩:=h
  rfl
 ·obtain⟨p,t,n,R,zs,rfl,hO,hn,hT,fV,kk⟩:=h
  have nd:=Mu.nd;obtain⟨dx,vp,vr,vj,vm,o1,_⟩:=id hO;refine⟨_,(au (bz (bC cX (bx (fh (K:=K) rfl) rfl T.len fz (ae (pv 1) ag)) ak (bj _)) (ax (aV jW)) bH)
   (au (bz (iD (dY (bx (yc (K:=K) rfl rfl) rfl T.all boot_all (ae (dc (own:=["thing"]) (fr:=[("order", 0)]) rfl (cj (aA qY) ["order","things"] rfl rfl (by decide +kernel)) (dM (K:=K) rfl (pv 1)) (λ_ _ _ _=>⟨(a_ (i:=0) (by decide +kernel:(["thing","order"]:List Str).Nodup) rfl (Or.inl rfl)),dB,(aM nD hr rfl (ae (eV (K:=K) rfl (pv 1) rfl) (ae (pv 0) ag)))⟩)) ag)))) (ax (aV jW)) bH)
   (ax (aV (bx (yc (K:=K) rfl rfl) rfl T.all boot_all (ae (dc (own:=["a","b"]) (fr:=[("order", 0)]) rfl (cj (aA qY) ["order","things"] rfl rfl (by decide +kernel)) (qN (K:=K) true true rfl rfl T.zip (ae (pv 1) (ae (cY (cZ (K:=K) rfl) (pv 1) (cH ak) dC) ag))) (λ_ _ _ _=>⟨(jX (K:=K) (i:=0) (j:=1) rfl rfl (by decide +kernel:(["a","b","order"]:List Str).Nodup) rfl rfl rfl rfl),dB,(aM kB hr rfl (ae (pv 2) (ae (pv 0) (ae (pv 1) ag (av nofun)) (av nofun)) (av nofun)))⟩)) ag)))))),?_⟩
  refine⟨_,rfl,t,_,rfl,.inl hT,rfl,_,rfl,?_⟩;rw[az];refine bB (λh0=>?_) (λh0=>?_)
  ·have:=kk _ (Same.refl _)
   unfold bF at this;have e:zs.length=0:=by
    have h1:=uB h0;injection h1 with h1
    omega
   rw[e]at this;exact this
  ·have e0:decide (zs.length=0)=false:=by
    refine bU λz=>h0 ?_
    rw[z];exact cB rfl
   have kk:∀H',Same H H'->Q (.bl (inB n zs&&lS (bL R) zs)) H':=λH' hs=>by
    have:=kk H' hs;unfold bF at this;rw[e0,Fj,fX]at this;exact this
   refine⟨_,rfl,t,rfl,⟨_,hT⟩,λD hD=>fN (λj=>.bl (decide (0<=zs.getD j 0/\zs.getD j 0<(n:Int)))) (src_list hT) hD (by rw[az];exact cS (by omega)) (λj H3 Kt hj hs hk=>?_) (λH3 hs hl=>?_)⟩
   ·rw[az]at hj
    have eg:=qe hj;refine⟨_,rfl,p,C,dx,_,_,rfl,hs _ _ o1,TC.cl,TC.nC,p9 _ _ _ _ _,_,rfl,⟨(n:Int),_,by rw[eg];rfl⟩,λv H4 s4 hv=>?_⟩;rw[hv (n:Int) _ (by rw[eg];rfl)];exact hk _ s4
   ·rw[az]at hl
    have hl3:H3 D=some (.lst (((List.range zs.length).map λj=>decide (0<=zs.getD j 0/\zs.getD j 0<(n:Int))).map V.bl)):=by rw[hl,eZ];rfl
    refine⟨D,_,rfl,ah.of hl3,_,rfl,?_⟩;rw[xg,Qh (0:Int) zs λz=>decide (0<=z/\z<(n:Int))];show if(!inB n zs)=true then _ else _
    cases hin:inB n zs with
    |false =>
     refine eR ?_;have:=kk _ hs;rw[hin,iX]at this;exact this
    |true =>
     refine cG ?_;have mh:=hs.seq hT;refine⟨_,rfl,_,rfl,_,rfl,t,_,rfl,mh,λq hq=>?_⟩;rw[yg,<- mV];refine⟨t,q,zs.map V.int,(zs.drop 1).map V.int,rfl,(Same.put hq).seq mh,ah.of ao,λD2 hD2=>fN (λj=>.bl (bL R (zs.getD j 0).toNat (zs.getD (j+1) 0).toNat)) (rq (n:=zs.length - 1) (c1:=true) (c2:=true) ((Same.put hq).seq mh) (ah.of ao) (by simp)) hD2 (cS (by omega)) (λj H4 Kt hj jn hk=>?_) (λH4 jn cR=>?_)⟩
     ·obtain⟨a,ea,ha⟩:=ud hin (show j<zs.length by omega)
      obtain⟨b,eb,hb⟩:=ud hin (show j+1<zs.length by omega);have e1:(zs.map V.int).getD j .non = .int (a:Int):=by rw[qe (by omega),ea]
      have e2:((zs.drop 1).map V.int).getD j .non = .int (b:Int):=by rw[qe (by rw[i_];omega),Ip,eb]
      have Aa:=hO.dD ((hs.trans (Same.put hq)).trans jn);refine⟨_,rfl,_,rfl,_,rfl,p,n,a,b,R,by rw[e1,e2];rfl,Aa,ha,hb,λH5 s5=>?_⟩;have:=hk _ s5;rw[ea,eb]at this;exact this
     ·have dI:H4 D2=some (.lst (((List.range (zs.length - 1)).map λj=>bL R (zs.getD j 0).toNat (zs.getD (j+1) 0).toNat).map V.bl)):=by rw[cR,eZ];rfl
      refine⟨D2,_,rfl,ah.of dI,?_⟩;rw[xg];have:=kk _ ((hs.trans (Same.put hq)).trans jn);rw[hin,fX]at this;exact this
abbrev u6:Stmt:=top 41
theorem Mv:aZ ["order","things"] ["order","things"] (aA u6):=⟨rfl,rfl,rfl,by decide +kernel,rfl,by decide +kernel,by decide +kernel⟩
def vy(K:W.Frag)(C:Addr):Sp:=λvs H Q _=>∃(p t n:Nat) (R:Nat->Nat->Bool) (zs:List Int),vs = [.ref p,.ref t]/\dH C H p n R/\n<=24/\ah K H t (zs.map V.int)/\zs.length<=1000/\∀H',Same H H'->Q (.bl (bZ n R zs)) H'
theorem Xp {C:Addr} (F:aR K "is_climb" "is_climb" u6 f fd) (T:Txt mg) (TC:eX K C) (iO:aG P w K mg base "is_chain" ["order","things"] 3 (rn K C)) (xB:aG P w K mg base "is_step" ["order","a","b"] 2 (Dy C)) :
  aL P w K mg base aX 4 f fd ["order","things"] (vy K C):=by
 refine F.ok Mv (λvs H Q E h=>?_) (λcdv A outer s H vs Q E hr h=>?_)
 ·obtain⟨p,t,n,R,zs,rfl,_⟩:=h
  rfl
 ·obtain⟨p,t,n,R,zs,rfl,hO,hn,hT,fV,kk⟩:=h
  have nd:=Mv.nd;refine⟨_,(au (bz (iD (dY (aM iO hr rfl (ae (pv 0) (ae (pv 1) ag))))) (ax (aV jW)) bH)
   (ax (aV (bx (yc (K:=K) rfl rfl) rfl T.all boot_all (ae (dc (own:=["a","b"]) (fr:=[("order", 0)]) rfl (cj (aA u6) ["order","things"] rfl rfl (by decide +kernel)) (qN (K:=K) true true rfl rfl T.zip (ae (pv 1) (ae (cY (cZ (K:=K) rfl) (pv 1) (cH ak) dC) ag))) (λ_ _ _ _=>⟨(jX (K:=K) (i:=0) (j:=1) rfl rfl (by decide +kernel:(["a","b","order"]:List Str).Nodup) rfl rfl rfl rfl),dB,(aM xB hr rfl (ae (pv 2) (ae (pv 0) (ae (pv 1) ag (av nofun)) (av nofun)) (av nofun)))⟩)) ag))))),?_⟩
  refine⟨_,rfl,_,rfl,p,t,n,R,zs,rfl,hO,hn,hT,fV,λH3 hs=>⟨_,rfl,?_⟩⟩;unfold bZ at kk;cases hc:bF n R zs with
  |false =>
   refine eR ?_;have:=kk _ hs;rw[hc,iX]at this;exact this
  |true =>
   refine cG ?_;have hin:inB n zs=true:=by
    unfold bF at hc;simp only[bD]at hc;exact hc.2.1
   have mh:=hs.seq hT;refine⟨_,rfl,_,rfl,_,rfl,t,_,rfl,mh,λq hq=>?_⟩;rw[yg,<- mV];refine⟨t,q,zs.map V.int,(zs.drop 1).map V.int,rfl,(Same.put hq).seq mh,ah.of ao,λD2 hD2=>fN (λj=>.bl (bQ n R (zs.getD j 0).toNat (zs.getD (j+1) 0).toNat)) (rq (n:=zs.length - 1) (c1:=true) (c2:=true) ((Same.put hq).seq mh) (ah.of ao) (by simp)) hD2 (cS (by omega)) (λj H4 Kt hj jn hk=>?_) (λH4 jn cR=>?_)⟩
   ·obtain⟨a,ea,ha⟩:=ud hin (show j<zs.length by omega)
    obtain⟨b,eb,hb⟩:=ud hin (show j+1<zs.length by omega);have e1:(zs.map V.int).getD j .non = .int (a:Int):=by rw[qe (by omega),ea]
    have e2:((zs.drop 1).map V.int).getD j .non = .int (b:Int):=by rw[qe (by rw[i_];omega),Ip,eb]
    have Aa:=hO.dD ((hs.trans (Same.put hq)).trans jn);refine⟨_,rfl,_,rfl,_,rfl,p,n,a,b,R,by rw[e1,e2];rfl,Aa,hn,ha,hb,λH5 s5=>?_⟩;have:=hk _ s5;rw[ea,eb]at this;exact this
   ·have dI:H4 D2=some (.lst (((List.range (zs.length - 1)).map λj=>bQ n R (zs.getD j 0).toNat (zs.getD (j+1) 0).toNat).map V.bl)):=by rw[cR,eZ];rfl
    refine⟨D2,_,rfl,ah.of dI,?_⟩;rw[xg];have:=kk _ ((hs.trans (Same.put hq)).trans jn);rw[hc,fX]at this;exact this
end
theorem As{M:List Nat}{x:Nat}(h:x∈M):(M.map λx:Nat=>(x:Int)).idxOf (x:Int)<M.length/\M.getD ((M.map λx:Nat=>(x:Int)).idxOf (x:Int)) 0=x:=by
 have hm:(x:Int)∈M.map λx:Nat=>(x:Int):=cW.mpr ⟨x,h,rfl⟩
 have hj:=pC.mpr hm;have e:=pB hj;rw[jD]at e;have hj':(M.map λx:Nat=>(x:Int)).idxOf (x:Int)<M.length:=by simpa using hj
 refine⟨hj',?_⟩;rw[aO,aB hj'];exact Int.ofNat.inj e
section
variable {P:Program} {w:World} {K:W.Frag} {mg:Str->Option Value} {base:Heap} {f:Addr} {fd:FuncData}
theorem Kr{H:Hp}{m:Addr}{M:List Nat}(h:ah K H m (M.map nV)):ah K H m ((M.map λx:Nat=>(x:Int)).map V.int):=by
 rw[eZ];exact h
abbrev Cr:Stmt:=top 73
theorem Ng:aZ ["_law_masks","_law_a","_law_b"] ["_law_masks","_law_a","_law_b"] (aA Cr):=⟨rfl,rfl,rfl,by decide +kernel,rfl,by decide +kernel,by decide +kernel⟩
def DK(K:W.Frag):Sp:=λvs H Q _=>∃(m a b:Nat) (M:List Nat),vs = [.ref m,.int a,.int b]/\ah K H m (M.map nV)/\Ev.cz M/\a<M.length/\b<M.length/\∀c H',Same H H'->c<M.length->(∀x,Ev.aN M x c=(Ev.aN M x a&&Ev.aN M x b))->Q (.int (c:Nat)) H'
theorem Xx (F:aR K "_law_meet" "_law_meet" Cr f fd) (T:Txt mg):aL P w K mg base aX 1 f fd ["_law_masks","_law_a","_law_b"] (DK K):=by
 refine F.ok Ng (λvs H Q E h=>?_) (λcdv A outer s H vs Q E hr h=>?_)
 ·obtain⟨m,a,b,M,rfl,_⟩:=h
  rfl
 ·obtain⟨m,a,b,M,rfl,hm,L,ha,hb,kk⟩:=h
  have nd:=Ng.nd;refine⟨_,(ax (aV (dJ (K:=K) rfl dU lM sy (Bm (K:=K) rfl) (pv 0) (ae (ay mz (aq (aS (K:=K) rfl) (pv 0) (pv 1) (λ_ _=>rfl)) (aq (aS (K:=K) rfl) (pv 0) (pv 2) (λ_ _=>rfl))) ag)))),?_⟩;have hin:=L.meet _ (Ev.getD_mem ha) _ (Ev.getD_mem hb);obtain⟨h1,h2⟩:=As hin;refine⟨_,rfl,.inl ⟨rfl,_,hm⟩,_,rfl,_,rfl,m,_,a,_,rfl,rfl,hm,aH (iV ha),_,rfl,_,rfl,m,_,b,_,rfl,rfl,hm,aH (iV hb),_,_,rfl,rfl,m,_,_,rfl,rfl,Kr hm,?_,?_⟩
  ·rw[nA];exact cW.mpr ⟨_,hin,rfl⟩
  ·rw[nA]
   refine kk _ _ (Same.refl _) h1 λx=>?_
   rw[dQ,bD,Ev.eL,Ev.eL,Ev.eL,h2];exact Ev.Sub.xh
end
end My
namespace L2
open PySem PySem.Spec PyProof.Rows
section
variable {prog:Program} {w:World} {A:Around} {E:Value->Shared->Prop} {s:Shared} {c1 c2:Bool} {z TI TO i1 i2 l1 l2 T0:Addr} {k1 k2:Nat} {xs ys:Array Value} {x y:Value} {b:Bool} {o0:Obj}
theorem aa_{M:Model}{a:Addr}{Q:Option Obj->Shared->Prop}(h:Q (s.heap.get? a) s):wpAny M A (loadIfAlive a) Q E s:=λ_ _ _=>h
theorem Pj{Q:Bool->Shared->Prop}(hz:dR s.heap z TI TO (rawInt T0) b)(hT0:s.heap.get? T0=some o0)
  (hQ:∀h',dR h' z TI TO (rawInt T0) true->Heap.SameBut z s.heap h'->Q false {s with heap:=h'}):wpAny (model prog w) A (Builtin.SmallTypes.ownedTupleIsFree (.ref z)) Q E s:=by
 unfold Builtin.SmallTypes.ownedTupleIsFree;refine ai (dX hz rfl (x:=rawInt T0) rfl ?_);show wpAny _ _ (loadIfAlive ((T0:Int)).toNat >>= _) _ _ _;refine ai (aa_ ?_);rw[dg,hT0];simp only[Option.isNone_some,h7,gi];refine ai (dX hz rfl (x:=.bool b) rfl ?_);cases b with
 |true =>
  have e:((Value.bool true) != (Value.bool true))=false:=by decide
  simp only[e,h7,gi];refine ai (aI (aI ?_));exact hQ s.heap hz (Heap.SameBut.refl ..)
 |false =>
  have e:((Value.bool false) != (Value.bool true))=true:=by decide
  simp only[e,jO];refine ai (nq hz (by simp) λg hz' e'=>aI ?_);exact hQ g hz' e'
theorem abq{Q:Value->Shared->Prop}(D:ZipApart z TI TO i1 i2 l1 l2)(hz:dR s.heap z TI TO (rawInt T0) b)(hT0:s.heap.get? T0=some o0)(hTI:IsPair s.heap TI (.ref i1) (.ref i2))(h1:bf c1 s.heap i1 l1 k1)(h2:bf c2 s.heap i2 l2 k2)(hl1:bA c1 s.heap l1 xs)(hl2:bA c2 s.heap l2 ys)(hx:xs[k1]? = some x)(hy:ys[k2]? = some y)(hQ:∀h',dR h' z TI TO (rawInt T0) true->bf c1 h' i1 l1 (k1+1)->bf c2 h' i2 l2 (k2+1)->IsPair h' s.heap.objs.size x y->h'.objs.size=s.heap.objs.size+1 ->
   (∀c o,c≠z->c≠i1->c≠i2->s.heap.get? c=some o->h'.get? c=some o)->Q (.ref s.heap.objs.size) {s with heap:=h'}) :
  wpAny (model prog w) A (Builtin.«zip.__next__» ⟨[.ref z],[]⟩) (λfin s'=>∃v,fin = .done (.ret v)/\Q v s') E s:=by
 show wpAny _ _ (field (.ref z) 2 >>= _) _ _ _;refine ai (dX hz rfl (x:=.bool false) rfl ?_);show wpAny _ _ (field (.ref z) 3 >>= _) _ _ _;refine ai (dX hz rfl (x:=.ref TI) rfl ?_);refine ai (jd hTI rfl ?_);show wpAny _ _ (Builtin.SmallTypes.ownedTupleIsFree (.ref z) >>= _) _ _ _;refine ai (Pj hz hT0 λg1 hz1 e1=>?_);simp only[h7,gi];refine ai ?_;rw[<- Ff];simp only[pA,rW];refine ai (ai (eF ?_));show wpAny _ _ (Builtin.SmallTypes.nextOf (.ref i1) >>= _) _ _ _;refine ai (mx (h1.at λo q=>e1.extBut _ o D.i1z q) (hl1.at λo q=>e1.extBut _ o D.l1z q) hx λg2 h1' e2=>aI (aI ?_));refine ai (ai (eF ?_));show wpAny _ _ (Builtin.SmallTypes.nextOf (.ref i2) >>= _) _ _ _;have mI:∀o,s.heap.get? i2=some o->g2.get? i2=some o:=λo q=>e2.extBut _ o D.i12.symm (e1.extBut _ o D.i2z q)
 have mJ:∀o,s.heap.get? l2=some o->g2.get? l2=some o:=λo q=>e2.extBut _ o D.l2i1 (e1.extBut _ o D.l2z q)
 refine ai (mx (h2.at mI) (hl2.at mJ) hy λg3 h2' e3=>aI (aI (aI ?_)));refine ai (wpAny_newTuple ?_ (by show 2<=sizeLine;decide));have sz:g3.objs.size=s.heap.objs.size:=by rw[e3.1,e2.1,e1.1]
 have UL:dR g3 z TI TO (rawInt T0) true:=e3.extBut _ _ D.i2z.symm (e2.extBut _ _ D.i1z.symm hz1);refine aI ⟨_,rfl,?_⟩;show Q (.ref g3.objs.size) _;have k3:∀c o,c≠z->c≠i1->c≠i2->s.heap.get? c=some o->g3.get? c=some o:=λc o q1 q2 q3 q=>e3.extBut _ _ q3 (e2.extBut _ _ q2 (e1.extBut _ _ q1 q))
 have hp:IsPair (g3.push {cls:=.type "tuple", data:=.seq #[x,y]}) g3.objs.size x y:=cn _ rfl;rw[sz]at hp ⊢;exact hQ _ (aU _ UL) ((h1'.at λo q=>e3.extBut _ o D.i12 q).at λo q=>aU _ q) (h2'.at λo q=>aU _ q) hp (by rw[fJ,sz]) λc o q1 q2 q3 q=>aU _ (k3 c o q1 q2 q3 q)
theorem aby{Q:Fin->Shared->Prop}(hh:A.handled=none)(D:ZipApart z TI TO i1 i2 l1 l2)(hz:dR s.heap z TI TO (rawInt T0) b)(hT0:s.heap.get? T0=some o0)(hTI:IsPair s.heap TI (.ref i1) (.ref i2))(h1:bf c1 s.heap i1 l1 k1)(h2:bf c2 s.heap i2 l2 k2)(hl1:bA c1 s.heap l1 xs)(hl2:bA c2 s.heap l2 ys)(hend:xs[k1]? = none\/ys[k2]? = none)
  (hE:∀h' e,(∀c o,c≠z->c≠i1->c≠i2->s.heap.get? c=some o->h'.get? c=some o)->(∃o,h'.get? e=some o/\o.cls = .type "StopIteration")->E (.ref e) {s with heap:=h'}) :
  wpAny (model prog w) A (Builtin.«zip.__next__» ⟨[.ref z],[]⟩) Q E s:=by
 show wpAny _ _ (field (.ref z) 2 >>= _) _ _ _;refine ai (dX hz rfl (x:=.bool false) rfl ?_);show wpAny _ _ (field (.ref z) 3 >>= _) _ _ _;refine ai (dX hz rfl (x:=.ref TI) rfl ?_);refine ai (jd hTI rfl ?_);show wpAny _ _ (Builtin.SmallTypes.ownedTupleIsFree (.ref z) >>= _) _ _ _;refine ai (Pj hz hT0 λg1 hz1 e1=>?_);simp only[h7,gi];refine ai ?_;rw[<- Ff];simp only[pA,rW];refine ai (ai (eF ?_));show wpAny _ _ (Builtin.SmallTypes.nextOf (.ref i1) >>= _) _ _ _;have a1:=h1.at λo q=>e1.extBut _ o D.i1z q
 have b1:=hl1.at λo q=>e1.extBut _ o D.l1z q
 cases hx:xs[k1]? with
 |none=>exact ai (qF hh a1 b1 hx λg2 e e2 he=>hE g2 e (λc o q1 q2 q3 q=>e2 _ _ q2 (e1.extBut _ _ q1 q)) he)
 |some x =>
  have hy:ys[k2]? = none:=by
   rcases hend with h|h
   ·rw[hx]at h;cases h
   ·exact h
  refine ai (mx a1 b1 hx λg2 h1' e2=>aI (aI ?_));refine ai (ai (eF ?_));show wpAny _ _ (Builtin.SmallTypes.nextOf (.ref i2) >>= _) _ _ _;have mI:∀o,s.heap.get? i2=some o->g2.get? i2=some o:=λo q=>e2.extBut _ o D.i12.symm (e1.extBut _ o D.i2z q)
  have mJ:∀o,s.heap.get? l2=some o->g2.get? l2=some o:=λo q=>e2.extBut _ o D.l2i1 (e1.extBut _ o D.l2z q)
  exact ai (qF hh (h2.at mI) (hl2.at mJ) hy λg3 e e3 he=>hE g3 e (λc o q1 q2 q3 q=>e3 _ _ q3 (e2.extBut _ _ q2 (e1.extBut _ _ q1 q))) he)
theorem abw{Q:Option Value->Shared->Prop}(D:ZipApart z TI TO i1 i2 l1 l2)(hz:dR s.heap z TI TO (rawInt T0) b)(hT0:s.heap.get? T0=some o0)(hTI:IsPair s.heap TI (.ref i1) (.ref i2))(h1:bf c1 s.heap i1 l1 k1)(h2:bf c2 s.heap i2 l2 k2)(hl1:bA c1 s.heap l1 xs)(hl2:bA c2 s.heap l2 ys)(hx:xs[k1]? = some x)(hy:ys[k2]? = some y)(hQ:∀h',dR h' z TI TO (rawInt T0) true->bf c1 h' i1 l1 (k1+1)->bf c2 h' i2 l2 (k2+1)->IsPair h' s.heap.objs.size x y->h'.objs.size=s.heap.objs.size+1 ->
   (∀c o,c≠z->c≠i1->c≠i2->s.heap.get? c=some o->h'.get? c=some o)->Q (some (.ref s.heap.objs.size)) {s with heap:=h'}):wpAny (model prog w) A (pyNext (.ref z)) Q E s:=by
 have hT:s.TypeIs (.ref z) "zip" :=⟨_,hz,rfl⟩;unfold pyNext;exact ai (nh (pK (name:=Str.ofString "__next__") hT lN (ni lN hT wM
  (abq D hz hT0 hTI h1 h2 hl1 hl2 hx hy λh' a1 a2 a3 a4 a5 a6=>aI (hQ h' a1 a2 a3 a4 a5 a6)) (wL _))))
theorem abo{Q:Option Value->Shared->Prop}(hh:A.handled=none)(D:ZipApart z TI TO i1 i2 l1 l2)(hz:dR s.heap z TI TO (rawInt T0) b)(hT0:s.heap.get? T0=some o0)(hTI:IsPair s.heap TI (.ref i1) (.ref i2))(h1:bf c1 s.heap i1 l1 k1)(h2:bf c2 s.heap i2 l2 k2)(hl1:bA c1 s.heap l1 xs)(hl2:bA c2 s.heap l2 ys)(hend:xs[k1]? = none\/ys[k2]? = none)
  (hQ:∀h',(∀c o,c≠z->c≠i1->c≠i2->s.heap.get? c=some o->h'.get? c=some o)->Q none {s with heap:=h'}):wpAny (model prog w) A (pyNext (.ref z)) Q E s:=by
 have hT:s.TypeIs (.ref z) "zip" :=⟨_,hz,rfl⟩;unfold pyNext;refine ai (nh (pK (name:=Str.ofString "__next__") hT lN (ni lN hT wM (aby hh D hz hT0 hTI h1 h2 hl1 hl2 hend λh' e hk he=>?_) (wL _))));obtain⟨o,ho,hc⟩:=he;refine ai (wpAny_isInstance (T:= "StopIteration") (b:=true) ⟨o,ho,hc⟩ isSubtype_stop ?_);exact aI (hQ _ hk)
structure Laid (N0:Nat) (xs ys:Array Value) (h:Heap) (ts:List Addr):Prop where
 at_:∀(j:Nat) t,ts[j]? = some t->∃x y,xs[j]? = some x/\ys[j]? = some y/\IsPair h t x y
 nd:ts.Nodup
 ge:∀t∈ts,N0<=t
theorem Laid.lt{N0:Nat}{h:Heap}{ts:List Addr}(L:Laid N0 xs ys h ts){t:Addr}(ht:t∈ts):t<h.objs.size:=by
 obtain⟨j,hj,e⟩:=iG ht;obtain⟨x,y,_,_,q⟩:=L.at_ j t (by rw[aB hj,e]);exact aQ q
theorem Laid.more{N0:Nat}{h h':Heap}{ts:List Addr}(L:Laid N0 xs ys h ts)(k:∀t∈ts,∀o,h.get? t=some o->h'.get? t=some o):Laid N0 xs ys h' ts:=
 ⟨λj t e=>let⟨x,y,e1,e2,e3⟩:=L.at_ j t e;⟨x,y,e1,e2,k t (dG e) _ e3⟩,L.nd,L.ge⟩
theorem Laid.snoc{N0:Nat}{h:Heap}{ts:List Addr}{t:Addr}(L:Laid N0 xs ys h ts)(hx:xs[ts.length]? = some x)(hy:ys[ts.length]? = some y)(ht:IsPair h t x y)(hn:t ∉ ts)(hg:N0<=t):Laid N0 xs ys h (ts++[t]):=by
 refine⟨λj u e=>?_,?_,λu hu=>?_⟩
 ·by_cases hj:j<ts.length
  ·rw[jC hj]at e
   exact L.at_ j u e
  ·have e0:j=ts.length:=by
    have h1:=(bN.mp e).1;simp at h1;omega
   subst e0;rw[km (aW _),Nat.sub_self]at e;cases e;exact⟨x,y,hx,hy,ht⟩
 ·exact FP.mpr ⟨L.nd,by simp,λa ha b hb=>by simp at hb;subst hb;exact λe=>hn (e▸ha)⟩
 ·rcases f6.mp hu with hu|hu
  ·exact L.ge u hu
  ·simp at hu
   subst hu;exact hg
theorem bf.lt{c:Bool}{h:Heap}{it a:Addr}{i:Nat}(x:bf c h it a i):it<h.objs.size:=by
 obtain⟨o,e,_⟩:=x.obj;exact aQ e
theorem abu{A:Around}{R:Result->Shared->Prop}(hh:A.handled=none)(D:ZipApart z TI TO i1 i2 l1 l2){S:Addr}{n N0:Nat}(hS:S≠z/\S≠TI/\S≠i1/\S≠i2/\S≠l1/\S≠l2)(hn:n=min xs.size ys.size)(hz0:n<=100000)(res:Value):∀(k i:Nat) (s:Shared) (ts:List Addr) (T0:Addr) (b:Bool) (c:Nat),n - i=k->i<=n->ts.length=i->ts[0]? = some T0->dR s.heap z TI TO (rawInt T0) b->IsPair s.heap TI (.ref i1) (.ref i2)->bf c1 s.heap i1 l1 i->bf c2 s.heap i2 l2 i->bA c1 s.heap l1 xs->bA c2 s.heap l2 ys ->
   Laid N0 xs ys s.heap ts->(∀t∈ts,t≠S/\t≠z/\t≠i1/\t≠i2)->N0<=s.heap.objs.size->s.heap.get? S=some {cls:=.type "list", dict:=none,data:=.seq (ts.map Value.ref).toArray c,slots:=#[]} ->
   (∀h' tk ts' c',(∀b o,b≠S->b≠z->b≠i1->b≠i2->s.heap.get? b=some o->h'.get? b=some o)->ts'.length=n->Laid N0 xs ys h' ts'->(∀t∈ts',t≠S) ->
    h'.get? S=some {cls:=.type "list", dict:=none,data:=.seq (ts'.map Value.ref).toArray c',slots:=#[]}->R (.ok (.ret res)) {s with heap:=h',toks:=tk}) ->
   codeAny (model prog w) A (.builtin "list.extend.loop" ⟨[.ref S,.ref z,res],[]⟩) R s:=by
 intro k
 induction k with
 |zero =>
  intro i s ts T0 b c hk hi hts hT0 hz hTI h1 h2 hl1 hl2 hL hne hN hSl hR;have hin:i=n:=by omega
  obtain⟨x0,y0,_,_,Ab⟩:=hL.at_ 0 T0 hT0;refine sE Gq ?_;rw[Gi pI _];show wpAny _ A.in1 (pyNext (.ref z) >>= _) _ _ s;have hend:xs[i]? = none\/ys[i]? = none:=by
   by_cases h:xs.size<=i
   ·exact .inl (by simpa using h)
   ·exact .inr (by have:ys.size<=i:=(by omega);simpa using this)
  refine ai (abo hh D hz Ab hTI h1 h2 hl1 hl2 hend λh' hk'=>?_);refine aI ?_;exact hR h' s.toks ts c (λb o q1 q2 q3 q4 e=>hk' b o q2 q3 q4 e) (by omega) (hL.more λt ht o e=>hk' t o (hne t ht).2.1 (hne t ht).2.2.1 (hne t ht).2.2.2 e) (λt ht=>(hne t ht).1) (hk' S _ hS.1 hS.2.2.1 hS.2.2.2.1 hSl)
 |succ k ih =>
  intro i s ts T0 b c hk hi hts hT0 hz hTI h1 h2 hl1 hl2 hL hne hN hSl hR;have hlt:i<n:=by omega
  obtain⟨x0,y0,_,_,Ab⟩:=hL.at_ 0 T0 hT0;obtain⟨x,hx⟩:∃x,xs[i]? = some x:=⟨xs[i]'(by omega),by simp[show i<xs.size by omega]⟩;obtain⟨y,hy⟩:∃y,ys[i]? = some y:=⟨ys[i]'(by omega),by simp[show i<ys.size by omega]⟩;refine sE Gq ?_;rw[Gi pI _];show wpAny _ A.in1 (pyNext (.ref z) >>= _) _ _ s;refine ai (abw D hz Ab hTI h1 h2 hl1 hl2 hx hy λh' a1 a2 a3 a4 a5 a6=>?_);have lC:z<s.heap.objs.size:=aQ hz;have w8:S<s.heap.objs.size:=aQ hSl;have ot:=h1.lt;have ou:=h2.lt;have hS':=a6 S _ hS.1 hS.2.2.1 hS.2.2.2.1 hSl;show wpAny _ A.in1 (updateSeq S (·.push (.ref s.heap.objs.size)) >>= _) _ _ _;refine ai ?_;have hsz:((ts.map Value.ref).toArray).size=i:=by simp[hts]
  refine sN hS' rfl (aI ⟨plainId_quiet pI _,?_⟩) (by rw[hsz];exact b_ (by omega) (dh (show 100000<sizeLine by decide))) (by rw[Array.size_push,hsz];exact b_ (show i+1<=100001 by omega) (dh (show 100001<sizeLine+1 by decide)));have oth:∀b o,b≠S->h'.get? b=some o->(h'.update S (Obj.mapSeq (·.push (.ref s.heap.objs.size)))).get? b=some o:=λb o hb e=>(ig _ _ (bJ hb)).trans e
  have nS:s.heap.objs.size≠S:=eB w8;have Wv:s.heap.objs.size ∉ ts:=λhm=>absurd (hL.lt hm) (fu _)
  have Ac:=ik (Obj.mapSeq (·.push (Value.ref s.heap.objs.size))) hS' rfl;have hL':Laid N0 xs ys (h'.update S (Obj.mapSeq (·.push (.ref s.heap.objs.size)))) (ts++[s.heap.objs.size]):=by
   refine Laid.snoc (x:=x) (y:=y) (hL.more λt ht o e=>oth _ _ (hne t ht).1 (a6 t o (hne t ht).2.1 (hne t ht).2.2.1 (hne t ht).2.2.2 e)) (by rw[hts];exact hx) (by rw[hts];exact hy) (oth _ _ nS a4) Wv hN
  refine ih (i+1) {s with heap:=h'.update S (Obj.mapSeq (·.push (.ref s.heap.objs.size)))} (ts++[s.heap.objs.size]) T0 true (c+1) (by omega) hlt (by simp[hts]) ?_ (oth _ _ (bJ hS.1) a1) (oth _ _ (bJ hS.2.1) (a6 TI _ D.TIz D.TIi1 D.TIi2 hTI))
   (a2.at λo e=>oth _ o (bJ hS.2.2.1) e) (a3.at λo e=>oth _ o (bJ hS.2.2.2.1) e) ((hl1.at λo e=>a6 l1 o D.l1z D.l1i1 D.l1i2 e).at λo e=>oth _ o (bJ hS.2.2.2.2.1) e) ((hl2.at λo e=>a6 l2 o D.l2z D.l2i1 D.l2i2 e).at λo e=>oth _ o (bJ hS.2.2.2.2.2) e)
   hL' ?_ ?_ ?_ ?_
  ·rw[jC (bN.mp hT0).1]
   exact hT0
  ·intro t ht
   rcases f6.mp ht with ht|ht
   ·exact hne t ht
   ·simp at ht
    subst ht;exact⟨nS,eB lC,eB ot,eB ou⟩
  ·show N0<=(h'.update S _).objs.size
   rw[sA,a5];omega
  ·show(h'.update S _).get? S=_
   rw[Ac];simp[Obj.mapSeq]
  ·intro h'' tk ts' c' g1 g2 g3 g4 g5
   refine hR h'' tk ts' c' (λb o q1 q2 q3 q4 e=>g1 b o q1 q2 q3 q4 (oth b o q1 (a6 b o q2 q3 q4 e))) g2 g3 g4 g5
theorem abB:typeLookup (.type "zip") "__len__" = pure none:=by rw[typeLookup_type,builtinLookup_eq_fast];kernel_rfl
theorem abA:typeLookup (.type "zip") "__length_hint__" = pure none:=by rw[typeLookup_type,builtinLookup_eq_fast];kernel_rfl
theorem abt{A:Around}{R:Result->Shared->Prop}{a0 b0:Value}(hh:A.handled=none)(D:ZipApart z TI TO i1 i2 l1 l2){S:Addr}{n N0 c:Nat}(hS:S≠z/\S≠TI/\S≠i1/\S≠i2/\S≠l1/\S≠l2)(IK:S≠TO)(hn:n=min xs.size ys.size)(hz0:n<=100000)(res:Value)(hz:IsZip s.heap z TI TO .none)(hTI:IsPair s.heap TI (.ref i1) (.ref i2))(hTO:IsPair s.heap TO a0 b0)(h1:bf c1 s.heap i1 l1 0)(h2:bf c2 s.heap i2 l2 0)(hl1:bA c1 s.heap l1 xs)(hl2:bA c2 s.heap l2 ys)
  (hN:N0<=s.heap.objs.size) (hSl:s.heap.get? S=some {cls:=.type "list", dict:=none,data:=.seq #[] c,slots:=#[]})
  (hR:∀h' tk ts' c',(∀b o,b≠S->b≠z->b≠TO->b≠i1->b≠i2->s.heap.get? b=some o->h'.get? b=some o)->ts'.length=n->Laid N0 xs ys h' ts'->(∀t∈ts',t≠S) ->
    h'.get? S=some {cls:=.type "list", dict:=none,data:=.seq (ts'.map Value.ref).toArray c',slots:=#[]}->R (.ok (.ret res)) {s with heap:=h',toks:=tk}) :
   codeAny (model prog w) A (.builtin "list.extend.loop" ⟨[.ref S,.ref z,res],[]⟩) R s:=by
 have lC:z<s.heap.objs.size:=aQ hz;have w8:S<s.heap.objs.size:=aQ hSl;have ot:=h1.lt;have ou:=h2.lt;refine sE Gq ?_;rw[Gi pI _];show wpAny _ A.in1 (pyNext (.ref z) >>= _) _ _ s
 by_cases hn0:n=0
 ·have hend:xs[0]? = none\/ys[0]? = none:=by
   by_cases h:xs.size<=0
   ·exact .inl (by simpa using h)
   ·exact .inr (by have:ys.size<=0:=(by omega);simpa using this)
  refine ai (Pk hh D hz hTI hTO h1 h2 hl1 hl2 hend λh' hk'=>?_);refine aI ?_;exact hR h' s.toks [] c (λb o q1 q2 q3 q4 q5 e=>hk' b o q2 q3 q4 q5 e) (by simp[hn0]) ⟨λj t e=>by simp at e,wB,λt ht=>by cases ht⟩ (λt ht=>by cases ht) (hk' S _ hS.1 IK hS.2.2.1 hS.2.2.2.1 hSl)
 ·obtain⟨x,hx⟩:∃x,xs[0]? = some x:=⟨xs[0]'(by omega),by simp[show 0<xs.size by omega]⟩
  obtain⟨y,hy⟩:∃y,ys[0]? = some y:=⟨ys[0]'(by omega),by simp[show 0<ys.size by omega]⟩;refine ai (Pl D hz hTI hTO h1 h2 hl1 hl2 hx hy λh' a1 a2 a3 a4 a5 a6 a7=>?_);have hS':=a7 S _ hS.1 IK hS.2.2.1 hS.2.2.2.1 hSl;show wpAny _ A.in1 (updateSeq S (·.push (.ref s.heap.objs.size)) >>= _) _ _ _;refine ai ?_;refine sN hS' rfl (aI ⟨plainId_quiet pI _,?_⟩) (by show 0<=sizeLine;decide) (by show 1<=sizeLine+1;decide);have oth:∀b o,b≠S->h'.get? b=some o->(h'.update S (Obj.mapSeq (·.push (.ref s.heap.objs.size)))).get? b=some o:=λb o hb e=>(ig _ _ (bJ hb)).trans e
  have nS:s.heap.objs.size≠S:=eB w8;have Ac:=ik (Obj.mapSeq (·.push (Value.ref s.heap.objs.size))) hS' rfl;have hL':Laid N0 xs ys (h'.update S (Obj.mapSeq (·.push (.ref s.heap.objs.size)))) ([]++[s.heap.objs.size]):=Laid.snoc (x:=x) (y:=y) ⟨λj t e=>by simp at e,wB,λt ht=>by cases ht⟩ hx hy (oth _ _ nS a5) (by simp) hN;refine abu hh D hS hn hz0 res (n - 1) 1 {s with heap:=h'.update S (Obj.mapSeq (·.push (.ref s.heap.objs.size)))} [s.heap.objs.size] s.heap.objs.size false (c+1) (by omega) (by omega) rfl rfl (oth _ _ (bJ hS.1) a1) (oth _ _ (bJ hS.2.1) (a7 TI _ D.TIz D.TITO D.TIi1 D.TIi2 hTI))
   (a3.at λo e=>oth _ o (bJ hS.2.2.1) e) (a4.at λo e=>oth _ o (bJ hS.2.2.2.1) e) ((hl1.at λo e=>a7 l1 o D.l1z D.l1TO D.l1i1 D.l1i2 e).at λo e=>oth _ o (bJ hS.2.2.2.2.1) e) ((hl2.at λo e=>a7 l2 o D.l2z D.l2TO D.l2i1 D.l2i2 e).at λo e=>oth _ o (bJ hS.2.2.2.2.2) e)
   hL' ?_ ?_ ?_ ?_
  ·intro t ht
   simp at ht;subst ht;exact⟨nS,eB lC,eB ot,eB ou⟩
  ·show N0<=(h'.update S _).objs.size
   rw[sA,a6];omega
  ·show(h'.update S _).get? S=_
   rw[Ac];simp[Obj.mapSeq]
  ·intro h'' tk ts' c' g1 g2 g3 g4 g5
   refine hR h'' tk ts' c' (λb o q1 q2 q3 q4 q5 e=>g1 b o q1 q2 q4 q5 (oth b o q1 (a7 b o q2 q3 q4 q5 e))) g2 g3 g4 g5
theorem QM{Q:Value->Shared->Prop}{a0 b0:Value}{n:Nat}(hh:A.handled=none)(D:ZipApart z TI TO i1 i2 l1 l2)(hn:n=min xs.size ys.size)(hz0:n<=100000)(hz:IsZip s.heap z TI TO .none)(hTI:IsPair s.heap TI (.ref i1) (.ref i2))(hTO:IsPair s.heap TO a0 b0)(h1:bf c1 s.heap i1 l1 0)(h2:bf c2 s.heap i2 l2 0)(hl1:bA c1 s.heap l1 xs)(hl2:bA c2 s.heap l2 ys)(hQ:∀h' tk ts c',(∀b o,b≠z->b≠TO->b≠i1->b≠i2->s.heap.get? b=some o->h'.get? b=some o)->ts.length=n->Laid s.heap.objs.size xs ys h' ts->(∀t∈ts,t≠s.heap.objs.size) ->
   h'.get? s.heap.objs.size=some {cls:=.type "list", dict:=none,data:=.seq (ts.map Value.ref).toArray c',slots:=#[]}->Q (.ref s.heap.objs.size) {s with heap:=h',toks:=tk}) :
  wpAny (model prog w) A (call (.type "list") [.ref z]) Q E s:=by
 have lC:z<s.heap.objs.size:=aQ hz;have GF:TI<s.heap.objs.size:=aQ hTI;have GJ:TO<s.heap.objs.size:=aQ hTO;have ot:=h1.lt;have ou:=h2.lt;have J3:=hl1.lt;have J6:=hl2.lt;refine callType_codes (Q₁:=λobj s₁=>obj = .ref s.heap.objs.size/\s₁ = {s with heap:=s.heap.push {cls:=.type "list", data:=.seq #[]}}) F.called_list (F.typeCall_list_1 _) F.entry_list_init
  (code_list_new _ ⟨rfl,rfl⟩) λobj s₁ h₁=>?_
 obtain⟨rfl,rfl⟩:=h₁;generalize tT:s.heap.objs.size=S at *;have hS:(s.heap.push {cls:=.type "list", data:=.seq #[]}).get? S=some {cls:=.type "list", data:=.seq #[]}:=by rw[<- tT];exact cn _ rfl
 have pu:∀b o,s.heap.get? b=some o->(s.heap.push {cls:=.type "list", data:=.seq #[]}).get? b=some o:=λb o e=>aU _ e
 have zS:z≠S:=bu lC;refine⟨⟨_,hS,rfl⟩,F.args_list_init_2 _ _,?_⟩;show wpAny _ A.in1.in1 (do let old <- Builtin.List.listItems (.ref S);Builtin.List.listUpdate (.ref S) (λ_=>#[]);letGo old.toList.reverse;Builtin.List.listExtendWith (.ref S) (.ref z) .none) _ _ _;refine ai ?_;unfold Builtin.List.listItems;refine ai (jd hS rfl (aI ?_));show wpAny _ A.in1.in1 (updateSeq S (λ_=>#[]) >>= λ_=>letGo (#[]:Array Value).toList.reverse >>= λ_=>Builtin.List.listExtendWith (.ref S) (.ref z) .none) _ _ _;refine ai (sN hS rfl ?_);have hS₂:=ik (Obj.mapSeq (λ_=>(#[]:Array Value))) hS rfl;have oth:∀b o,b≠S->s.heap.get? b=some o->((s.heap.push {cls:=.type "list", data:=.seq #[]}).update S (Obj.mapSeq (λ_=>(#[]:Array Value)))).get? b=some o:=
  λb o hb e=>(ig _ _ (bJ hb)).trans (pu b o e)
 refine ai (sH ?_);have hz2:=oth z _ zS hz;have Oj:((s.heap.push {cls:=.type "list", data:=.seq #[]}).update S (Obj.mapSeq (λ_=>(#[]:Array Value)))).objs.size=S+1:=by rw[sA,fJ,tT]
 generalize (s.heap.push {cls:=.type "list", data:=.seq #[]}).update S (Obj.mapSeq (λ_=>(#[]:Array Value)))=g2 at hS₂ oth hz2 Oj ⊢;have hT2:Shared.TypeIs {s with heap:=g2} (.ref z) "zip" :=⟨_,hz2,rfl⟩;unfold Builtin.List.listExtendWith;refine ai (wpAny_typeOf hT2 ?_);have e1:Builtin.List.listSameRef (.ref S) (.ref z)=false:=by simp[Builtin.List.listSameRef,bJ zS]
 have e2:(Value.type "zip" == Value.type "list")=false:=by decide
 have e3:(Value.type "zip" == Value.type "tuple")=false:=by decide
 simp only[e1,e2,e3,wc,h7,gi];refine ai (GC hz2 ?_);refine ai (eF ?_);unfold Builtin.List.listLengthHint;refine ai (sM hT2 abB ?_);show wpAny _ A.in1.in1 (specialOf (Value.ref z) (Str.ofString "__length_hint__") >>= _) _ _ _;refine ai (sM hT2 abA ?_);refine aI ?_;show wpAny _ A.in1.in1 (rule "list.extend.makes-room" >>= λ_=>Builtin.List.listTouch (.ref S) >>= λ_ =>
  again (.builtin "list.extend.loop" ⟨[.ref S,.ref z,.none],[]⟩)) _ _ _
 refine ai (pM ?_);refine ai ?_;show wpAny _ A.in1.in1 (updateSeq S (·.push .none) >>= λ_=>updateSeq S (·.pop)) _ _ _;refine ai (sN hS₂ rfl ?_);have hS₃:=ik (Obj.mapSeq (·.push Value.none)) hS₂ rfl;refine sN (hz:=by seq_fits) hS₃ rfl ?_;have hS₄:=ik (Obj.mapSeq (·.pop)) hS₃ rfl;have jU:∀b o,b≠S->s.heap.get? b=some o->((g2.update S (Obj.mapSeq (·.push Value.none))).update S (Obj.mapSeq (·.pop))).get? b=some o:=
  λb o hb e=>(ig _ _ (bJ hb)).trans ((ig _ _ (bJ hb)).trans (oth b o hb e))
 have Ol:((g2.update S (Obj.mapSeq (·.push Value.none))).update S (Obj.mapSeq (·.pop))).objs.size=S+1:=by rw[sA,sA,Oj]
 generalize (g2.update S (Obj.mapSeq (·.push Value.none))).update S (Obj.mapSeq (·.pop))=g4 at hS₄ jU Ol ⊢;refine aI ⟨plainId_quiet pI _,?_⟩;refine abt (N0:=S) (n:=n) (A:=A.in1) hh D ⟨bJ zS,eB GF,eB ot,eB ou,eB J3,eB J6⟩ (eB GJ) hn hz0 .none (jU _ _ zS hz) (jU _ _ (bu GF) hTI) (jU _ _ (bu GJ) hTO)
  (h1.at λo e=>jU _ o (bu ot) e) (h2.at λo e=>jU _ o (bu ou) e) (hl1.at λo e=>jU _ o (bu J3) e) (hl2.at λo e=>jU _ o (bu J6) e) (by show S<=g4.objs.size;rw[Ol];omega) hS₄ λh' tk ts c' g1 qc g3 Sg g5=>?_
 refine⟨rfl,hQ h' tk ts c' (λb o q1 q2 q3 q4 e=>g1 b o (bu (by have:=aQ e;rw[tT]at this;exact this)) q1 q2 q3 q4 (jU b o (bu (by have:=aQ e;rw[tT]at this;exact this)) e)) qc g3 Sg g5⟩
end
section
variable {X:Cx} {pins:List (Addr × Obj)} {σ:St} {H H':Hp} {s:Shared} {h':Heap}
theorem Inv.Vt{t':Nat}(I:Inv X pins σ H s)(k:∀b u,s.heap.get? b=some u->h'.get? b=some u)(ext:∀b o,H b=some o->H' b=some o)(new:∀b o,H' b=some o->H b=some o\/s.heap.objs.size<=b)(hok:bE X.prog X.w H' h'):
  Inv X pins σ H' {s with heap:=h',toks:=t'}:=by
 refine I.un ⟨λb u q _ _ _=>k b u q,λb u q _ _ _=>⟨u.slots,k b u q⟩,λb u q n _=>?_,λb u q _=>⟨u,k b u q⟩,λb xs q=>ext b _ q,λb u xs q=>ext b _ q,λb ps q=>⟨#[],by rw[ext b _ q];simp⟩⟩ hok;cases e:H' b with
 |none=>rfl
 |some o =>
  rcases new b o e with z|z
  ·rw[n]at z;cases z
  ·exact absurd (aQ q) (Nat.not_lt.mpr z)
def jv(H:Hp)(L:Addr)(ts:List Addr)(xs ys:List V):Hp:=λb=>if b∈ts then some (.tup [xs.getD (ts.idxOf b) .non,ys.getD (ts.idxOf b) .non])else if b=L then some (.lst (ts.map V.ref))else H b
theorem Ls{H:Hp}{L:Addr}{ts:List Addr}{xs ys:List V}(nd:ts.Nodup){j:Nat}{t:Addr}(e:ts[j]? = some t):jv H L ts xs ys t=some (.tup [xs.getD j .non,ys.getD j .non]):=by
 have hm:t∈ts:=dG e;obtain⟨hj,e'⟩:=bN.mp e;have hi:ts.idxOf t=j:=by
  have h1:=pC.mpr hm;have h2:=pB h1;exact(wA nd).mp (h2.trans e'.symm)
 unfold jv;rw[if_pos hm,hi]
def aav(K:W.Frag)(c1 c2:Bool)(ta:TA):TE:=λσ H Q=>ta σ H λvs H1=>∃l1 l2 xs ys,vs = [.ref l1,.ref l2]/\Sq c1 K H1 l1 xs/\Sq c2 K H1 l2 ys/\min xs.length ys.length<=100000 /\
 ∀(L:Addr) (ts:List Addr) (H':Hp),Same H1 H'->H1 L=none->ts.length=min xs.length ys.length->(∀(j:Nat) t,ts[j]? = some t->H' t=some (.tup [xs.getD j .non,ys.getD j .non]))->H' L=some (.lst (ts.map V.ref))->Q (.ref L) H'
theorem abn(n l1 l2:Nat)(h1:l1<n)(h2:l2<n):ZipApart (n+4) (n+2) (n+3) n (n+1) l1 l2:=by
 have e:(n+2≠n+4/\n+3≠n+4/\n≠n+4/\n+1≠n+4/\n+2≠n+3/\n+2≠n/\n+2≠n+1/\n+3≠n/\n+3≠n+1/\n≠n+1)/\(l1≠n+4/\l1≠n+3/\l1≠n/\l1≠n+1)/\(l2≠n+4/\l2≠n+3/\l2≠n/\l2≠n+1):=by omega
 obtain⟨⟨a1,a2,a3,a4,a5,a6,a7,a8,a9,a10⟩,⟨b1,b2,b3,b4⟩,c1,c2,c3,c4⟩:=e;exact⟨a1,a2,a3,a4,a5,a6,a7,a8,a9,a10,b1,b2,b3,b4,c1,c2,c3,c4⟩
theorem uo{b n:Nat}(k:Nat)(h:b<n):b≠n+k:=by omega
theorem Pa:∀ts:List Addr,Vals (ts.map V.ref) (ts.map Value.ref)
 | []=>.nil
 |t::ts=>.cons rfl (Pa ts)
theorem YF {K:W.Frag} (c1 c2:Bool) {a b:Expr} {ta:TA} {p p2 pos pos2:Pos} (hK:X.K=K) (hc:X.calm=true) (hg1:Gl X "list") (hm1:X.mg "list" = none) (hg2:Gl X "zip") (hm2:X.mg "zip" = none) (ha:PA X [a,b] ta)
  (hs:starEach [a,b] X.env = [(false,eval a X.env),(false,eval b X.env)]:=by rfl) (hs2:starEach [b] X.env = [(false,eval b X.env)]:=by rfl)
  (he:starEach [.Call (.Name "zip" p2) [a,b] [] pos2] X.env = [(false,eval (.Call (.Name "zip" p2) [a,b] [] pos2) X.env)]:=by rfl) :
  PE X (.Call (.Name "list" p) [.Call (.Name "zip" p2) [a,b] [] pos2] [] pos) (aav K c1 c2 ta):=by
 subst hK;intro pins s σ H Q I h;refine m_ (jq I hg1 hm1 (show bootBuiltins "list" = some (.type "list")by decide +kernel) ?_ (by decide) (by decide));refine m8 ?_ (by rw[he];rfl) (by rfl);rw[he];show wpAny _ _ (spliced ((false,eval (.Call (.Name "zip" p2) [a,b] [] pos2) X.env)::[])) _ _ s;refine Gk ?_;refine Call_ (jq I hg2 hm2 (show bootBuiltins "zip" = some (.type "zip")by decide +kernel) (m8 (aK (ha pos2 pins s σ H _ I h) λus s1 ⟨vs,H1,I1,r1,q1⟩=>?_) (by rw[hs,hs2]) (by rw[hs2];rfl)));obtain⟨l1,l2,xs,ys,e,q1,q2,hmin,q⟩:=q1;subst e;obtain⟨u,v,rfl,ru,rv⟩:=Vals.two r1;cases ru;cases rv;obtain⟨qy,oS,p1,z1⟩:=I1.sq q1;obtain⟨qz,oU,p2',z2⟩:=I1.sq q2;refine Hd p1 p2' λh' zr hz hk=>?_
 refine Gm ?_;have k1:=p1.lt;have k2:=p2'.lt;have len1:=oS.length;have len2:=oU.length;obtain⟨ta0,tb0,hTO⟩:=zr.to;refine QM (n:=min xs.length ys.length) (I1.ok.hd hc) (z:=s1.heap.objs.size+4) (TI:=s1.heap.objs.size+2) (TO:=s1.heap.objs.size+3) (i1:=s1.heap.objs.size) (i2:=s1.heap.objs.size+1) (l1:=l1) (l2:=l2)
  (abn _ _ _ k1 k2) (by rw[bP,bP,<- len1,<- len2]) hmin zr.hz zr.ti hTO zr.h1 zr.h2 (p1.at λo e=>hk _ o e) (p2'.at λo e=>hk _ o e) λh2 tk ts c' g1 g2 g3 g4 g5=>?_
 simp only at g1 g5;have hkk:∀b o,s1.heap.get? b=some o->h2.get? b=some o:=λb o e=>by
  have hlt:=aQ e;exact g1 b o (uo 4 hlt) (uo 3 hlt) (uo 0 hlt) (uo 1 hlt) (hk b o e)
 have hsz:s1.heap.objs.size+5=h'.objs.size:=hz.symm;have hge:∀t∈ts,h'.objs.size<=t:=g3.ge;have hLf:H1 h'.objs.size=none:=I1.hok.fresh (by omega);have WQ:∀b o,H1 b=some o->b ∉ ts/\b≠h'.objs.size:=λb o e=>by
  have hlt:=I1.hok.lt e;have hlt2:b<h'.objs.size:=c9 hlt (by rw[<- hsz];exact FZ _ _);exact⟨λhm=>absurd hlt2 (Nat.not_lt.mpr (hge b hm)),bu hlt2⟩
 have ext:∀b o,H1 b=some o->jv H1 h'.objs.size ts xs ys b=some o:=λb o e=>by
  obtain⟨n1,n2⟩:=WQ b o e;unfold jv;rw[if_neg n1,if_neg n2];exact e
 have Iy:jv H1 h'.objs.size ts xs ys h'.objs.size=some (.lst (ts.map V.ref)):=by
  unfold jv;rw[if_neg (λhm=>g4 _ hm rfl),if_pos rfl]
 have aaO:∀(j:Nat) t,ts[j]? = some t->∃u v,RelV (xs.getD j .non) u/\RelV (ys.getD j .non) v/\IsPair h2 t u v:=λj t e=>by
  obtain⟨x,y,e1,e2,e3⟩:=g3.at_ j t e;have hj1:j<xs.length:=by
   have:=(lD.mp e1).1;rw[bP]at this;omega
  have hj2:j<ys.length:=by
   have:=(lD.mp e2).1;rw[bP]at this;omega
  obtain⟨u,hu,ru⟩:=oS.get (aB hj1);obtain⟨v,hv,rv⟩:=oU.get (aB hj2);have eu:x=u:=by
   have h3:qy.toArray[j]? = some u:=by simpa using hu
   rw[h3]at e1;exact(da e1).symm
  have ev:y=v:=by
   have h3:qz.toArray[j]? = some v:=by simpa using hv
   rw[h3]at e2;exact(da e2).symm
  subst eu ev;refine⟨x,y,?_,?_,e3⟩
  ·rw[aO,aB hj1];exact ru
  ·rw[aO,aB hj2];exact rv
 have hok:bE X.prog X.w (jv H1 h'.objs.size ts xs ys) h2:=λb o e=>by
  by_cases hm:b∈ts
  ·obtain⟨j,hj,ej⟩:=iG hm
   have e':ts[j]? = some b:=by rw[aB hj,ej]
   rw[Ls g3.nd e']at e;cases e;obtain⟨u,v,ru,rv,ip⟩:=aaO j b e';exact Bt ip ru rv
  ·by_cases hb:b=h'.objs.size
   ·subst hb
    rw[Iy]at e;cases e;exact⟨by rw[az,g2];exact b_ hmin (dh (show 100000<sizeLine by decide)),ts.map Value.ref,c',Pa ts,g5⟩
   ·have e0:H1 b=some o:=by
     unfold jv at e;rw[if_neg hm,if_neg hb]at e;exact e
    exact(I1.hok b o e0).stay (λc v _ q=>hkk c v q) (λc q=>ext c _ q) (λc xs q=>ext c _ q) λc ob u q=>ext c _ q
 have I2:Inv X pins σ (jv H1 h'.objs.size ts xs ys) {s1 with heap:=h2,toks:=tk}:=I1.Vt hkk ext (λb o e=>by
  by_cases hm:b∈ts
  ·exact .inr (b_ (by rw[<- hsz];exact FZ _ _) (hge b hm))
  ·by_cases hb:b=h'.objs.size
   ·exact .inr (by rw[hb,<- hsz];exact FZ _ _)
   ·unfold jv at e
    rw[if_neg hm,if_neg hb]at e;exact .inl e) hok
 exact⟨.ref h'.objs.size,_,I2,rfl,q _ ts _ ext hLf g2 (λj t e=>Ls g3.nd e) Iy⟩
end
end L2
namespace My
open PySem PySem.Spec PyProof.Rows L2
def iW(cs:List Nat):List (Nat × Nat):=(List.range (cs.length - 1)).map λi=>(cs.getD i 0,cs.getD (i+1) 0)
theorem uN(cs:List Nat):(iW cs).length=cs.length - 1:=by unfold iW;simp
theorem qP{cs:List Nat}{i:Nat}(h:i+1<cs.length):(iW cs)[i]? = some (cs.getD i 0,cs.getD (i+1) 0):=by
 unfold iW;rw[bO,mQ (by omega)];rfl
theorem zT{cs:List Nat}{i:Nat}(h:i<cs.length):(cs.map nV).getD i .non=nV (cs.getD i 0):=by
 rw[aO,bO,aO,aB h];rfl
theorem Sl{cs:List Nat}{i:Nat}:(cs.drop 1).getD i 0=cs.getD (i+1) 0:=by
 rw[aO,aO,List.getElem?_drop,FX]
theorem uJ{α β:Type}{F:α->β->Prop}:∀{l:List α} {m:List β},l.length=m.length->(∀(i:Nat) x y,l[i]? = some x->m[i]? = some y->F x y)->Paired F l m
 | [],[],_,_=>.nil
 | [],_::_,h,_=>by simp at h
 |_::_,[],h,_=>by simp at h
 |a::l,b::m,h,q=>.cons (q 0 a b rfl rfl) (uJ (by simpa using h) λi x y h1 h2=>q (i+1) x y (by simpa using h1) (by simpa using h2))
theorem abC{H:Hp}{cs:List Nat}{ts:List Addr}(htl:ts.length=min (cs.map nV).length ((cs.drop 1).map nV).length)(hts:∀(j:Nat) t,ts[j]? = some t->H t=some (.tup [(cs.map nV).getD j .non,((cs.drop 1).map nV).getD j .non])):Paired (bX H) (iW cs) (ts.map V.ref):=by
 have el:ts.length=cs.length - 1:=by rw[htl,az,az,i_];omega
 refine uJ (by rw[uN,az,el]) λi x v hx hv=>?_
 have hi:i<ts.length:=by
  have:=(bN.mp hv).1
  rwa [az]at this
 rw[qP (by omega)]at hx;cases hx;rw[bO,aB hi]at hv;cases hv;refine⟨ts[i],rfl,?_⟩;rw[hts i _ (aB hi),zT (by omega),zT (by rw[i_];omega),Sl]
def fF(J N:Nat->Nat->Nat)(cs ds:List Nat)(H:Hp)(r:Nat × Nat)(v:V):Prop:=∃t,v = .ref t/\H t=some (.tup [nV r.1,nV r.2,nV (dz J N cs ds r),nV (cF N cs ds r)])
theorem fF.same{J N:Nat->Nat->Nat}{cs ds:List Nat}{H H':Hp}(s:Same H H'){l:List (Nat × Nat)}{us:List V}(h:Paired (fF J N cs ds H) l us):Paired (fF J N cs ds H') l us:=Paired.dA h λ_ _ ⟨t,e,q⟩=>⟨t,e,s _ _ q⟩
section
variable {P:Program} {w:World} {K:W.Frag} {mg:Str->Option Value} {base:Heap} {f:Addr} {fd:FuncData}
abbrev CZ:Stmt:=top 52
theorem NT:aZ ["chain"] ["chain"] (aA CZ):=⟨rfl,rfl,rfl,by decide +kernel,rfl,by decide +kernel,by decide +kernel⟩
def vG(K:W.Frag):Sp:=λvs H Q _=>∃(t:Nat) (cs:List Nat),vs = [.ref t]/\ah K H t (cs.map nV)/\cs.length<=1000 /\
 ∀L us H',Same H H'->H L=none->H' L=some (.lst us)->Paired (bX H') (iW cs) us->Q (.ref L) H'
theorem XR (F:aR K "parts_of" "parts_of" CZ f fd) (T:Txt mg):aL P w K mg base aX 1 f fd ["chain"] (vG K):=by
 refine F.ok NT (λvs H Q E h=>?_) (λcdv A outer s H vs Q E hr h=>?_)
 ·obtain⟨t,cs,rfl,_⟩:=h
  rfl
 ·obtain⟨t,cs,rfl,hT,hl,kk⟩:=h
  have nd:=NT.nd;refine⟨_,(ax (aV (YF (K:=K) true true rfl rfl rfl T.list rfl T.zip (ae (pv 0) (ae (cY (cZ (K:=K) rfl) (pv 0) (cH ak) dC) ag))))),?_⟩;refine⟨_,rfl,_,rfl,_,rfl,t,_,rfl,hT,λq hq=>?_⟩;have ec:bM (cs.map nV) (some 1) none=(cs.drop 1).map nV:=by rw[show(1:Int)=((1:Nat):Int)from rfl,yh,mV]
  rw[ec];have sq:=Same.put (o:=.lst ((cs.drop 1).map nV)) hq;refine⟨t,q,cs.map nV,(cs.drop 1).map nV,rfl,sq.seq hT,ah.of ao,by rw[az];omega,λL ts H' s2 hL htl hts hl2=>?_⟩;exact kk L _ H' (sq.trans s2) (sq.free hL) hl2 (abC htl hts)
abbrev C_:Stmt:=top 53
theorem N2:aZ ["order","one","other","high","low"] ["order","one","other"] (aA C_):=⟨rfl,rfl,rfl,by decide +kernel,rfl,by decide +kernel,by decide +kernel⟩
def Ef(K:W.Frag)(C:Addr):Sp:=λvs H Q _=>∃(p t u n x0 x1 y0 y1:Nat) (R:Nat->Nat->Bool) (J N:Nat->Nat->Nat),vs = [.ref p,.ref t,.ref u]/\dH C H p n R/\Md n R J N/\H t=some (.tup [nV x0,nV x1])/\H u=some (.tup [nV y0,nV y1])/\x0<n/\x1<n/\y0<n/\y1<n /\
 ∀b H',Same H H'->H' b=some (.tup [nV (J (N x0 y1) (N x1 y0)),nV (N x1 y1)])->Q (.ref b) H'
theorem X1 {C:Addr} (F:aR K "shared_part" "shared_part" C_ f fd) (T:Txt mg) (TC:eX K C):aL P w K mg base aX 1 f fd ["order","one","other"] (Ef K C):=by
 refine F.ok N2 (λvs H Q E h=>?_) (λcdv A outer s H vs Q E hr h=>?_)
 ·obtain⟨p,t,u,n,x0,x1,y0,y1,R,J,N,rfl,_⟩:=h
  rfl
 ·obtain⟨p,t,u,n,x0,x1,y0,y1,R,J,N,rfl,hO,M,ht,hu,h0,h1,g0,g1,kk⟩:=h
  have nd:=N2.nd;obtain⟨dx,vp,vr,vj,vm,o1,_,_,oj,om⟩:=id hO;have em:∀a b,a<n->b<n->f9 n (λa b=>R b a) a b = .int (N a b:Nat):=λa b ha hb=>iR M.G.lW (M.m a b ha hb).1 (M.m a b ha hb).2
  have ej:∀a b,a<n->b<n->f9 n R a b = .int (J a b:Nat):=λa b ha hb=>iR M.G.dis (M.j a b ha hb).1 (M.j a b ha hb).2
  have m1:=M.mlt h0 g1;have m2:=M.mlt h1 g0;obtain⟨sa,us,sb,rfl,p1,p2,p3⟩:=om.get h1;obtain⟨sa',us',sc,e1,p1',p2',Yn⟩:=om.get h0;cases e1;rw[p1]at p1';cases p1';obtain⟨ra,ws,rb,rfl,q1,q2,q3⟩:=oj.get m1;refine⟨_,(au (aJ (i:=3) nd rfl (Or.inl rfl) (aq (aP (K:=K) rfl) (aq (aP (K:=K) rfl) (eV (K:=K) rfl (pv 0) rfl) (aq (aP (K:=K) rfl) (pv 1) ak (λ_ _=>rfl)) (λ_ _=>rfl)) (aq (aP (K:=K) rfl) (pv 2) ak (λ_ _=>rfl)) (λ_ _=>rfl)))
   (au (aJ (i:=4) nd rfl (Or.inl rfl) (aq (aP (K:=K) rfl) (aq (aP (K:=K) rfl) (eV (K:=K) rfl (pv 0) rfl) (aq (aP (K:=K) rfl) (aq (aP (K:=K) rfl) (eV (K:=K) rfl (pv 0) rfl) (aq (aP (K:=K) rfl) (pv 1) ak (λ_ _=>rfl)) (λ_ _=>rfl)) (aq (aP (K:=K) rfl) (pv 2) ak (λ_ _=>rfl)) (λ_ _=>rfl)) (λ_ _=>rfl)) (aq (aP (K:=K) rfl) (aq (aP (K:=K) rfl) (eV (K:=K) rfl (pv 0) rfl) (aq (aP (K:=K) rfl) (pv 1) ak (λ_ _=>rfl)) (λ_ _=>rfl)) (aq (aP (K:=K) rfl) (pv 2) ak (λ_ _=>rfl)) (λ_ _=>rfl)) (λ_ _=>rfl)))
   (ax (aV (gx (ae (pv 4) (ae (pv 3) ag))))))),?_⟩
  refine⟨_,rfl,p,C,dx,_,_,rfl,o1,TC.cl,TC.nM,oa _ _ _ _ _,_,rfl,t,_,1,nV x1,rfl,rfl,aF.of ht,aH (j:=1) rfl,sa,us,_,.ref sb,rfl,rfl,aF.of p1,aH p2,_,rfl,u,_,1,nV y1,rfl,rfl,aF.of hu,aH (j:=1) rfl,sb,_,_,.int (N x1 y1:Nat),rfl,rfl,aF.of p3,aH (by rw[gp g1,em _ _ h1 g1]),?_⟩;refine⟨_,rfl,p,C,dx,_,_,rfl,o1,TC.cl,TC.nJ,n_ _ _ _ _ _,_,rfl,p,C,dx,_,_,rfl,o1,TC.cl,TC.nM,oa _ _ _ _ _,_,rfl,t,_,0,nV x0,rfl,rfl,aF.of ht,aH (j:=0) rfl,sa,us,_,.ref sc,rfl,rfl,aF.of p1,aH p2',_,rfl,u,_,1,nV y1,rfl,rfl,aF.of hu,aH (j:=1) rfl,sc,_,_,.int (N x0 y1:Nat),rfl,rfl,aF.of Yn,aH (by rw[gp g1,em _ _ h0 g1]),
   ra,ws,_,.ref rb,rfl,rfl,aF.of q1,aH q2,_,rfl,p,C,dx,_,_,rfl,o1,TC.cl,TC.nM,oa _ _ _ _ _,_,rfl,t,_,1,nV x1,rfl,rfl,aF.of ht,aH (j:=1) rfl,sa,us,_,.ref sb,rfl,rfl,aF.of p1,aH p2,_,rfl,u,_,0,nV y0,rfl,rfl,aF.of hu,aH (j:=0) rfl,sb,_,_,.int (N x1 y0:Nat),rfl,rfl,aF.of p3,aH (by rw[gp g0,em _ _ h1 g0]),rb,_,_,.int (J (N x0 y1) (N x1 y0):Nat),rfl,rfl,aF.of q3,aH (by rw[gp m2,ej _ _ m1 m2]),?_⟩
  exact⟨_,rfl,_,rfl,by show 2<=sizeLine;decide,λb hb=>kk b _ (Same.put hb) ao⟩
abbrev Cw:Stmt:=top 54
theorem Nq:aZ ["order","one","other","told","place","part","against","facing","both"] ["order","one","other"] (aA Cw):=⟨rfl,rfl,rfl,by decide +kernel,rfl,by decide +kernel,by decide +kernel⟩
def DG(K:W.Frag)(C:Addr):Sp:=λvs H Q _=>∃(p t u n:Nat) (R:Nat->Nat->Bool) (J N:Nat->Nat->Nat) (cs ds:List Nat),vs = [.ref p,.ref t,.ref u]/\dH C H p n R/\Md n R J N/\ah K H t (cs.map nV)/\ah K H u (ds.map nV)/\(∀x∈cs,x<n)/\(∀x∈ds,x<n)/\cs.length<=100/\ds.length<=100 /\
 ∀L us H',Same H H'->H L=none->H' L=some (.lst us)->Paired (fF J N cs ds H') (aY J N cs ds) us->Q (.ref L) H'
theorem Xw {C:Addr} (F:aR K "matches" "matches" Cw f fd) (T:Txt mg) (kD:aG P w K mg base "parts_of" ["chain"] 1 (vG K)) (yb:aG P w K mg base "shared_part" ["order","one","other"] 1 (Ef K C)) :
  aL P w K mg base aX 2 f fd ["order","one","other"] (DG K C):=by
 refine F.ok Nq (λvs H Q E h=>?_) (λcdv A outer s H vs Q E hr h=>?_)
 ·obtain⟨p,t,u,n,R,J,N,cs,ds,rfl,_⟩:=h
  rfl
 ·obtain⟨p,t,u,n,R,J,N,cs,ds,rfl,hO,M,hT,hU,hc,hd,hcl,hdl,kk⟩:=h
  have nd:=Nq.nd;refine⟨_,(au (aJ (i:=3) nd rfl (Or.inl rfl) (bG ag))
   (au (cI cA rfl (Bw (K:=K) true rfl rfl T.enumerate (ae (aM kD hr rfl (ae (pv 1) ag)) ag)) (jX (K:=K) (i:=4) (j:=5) rfl rfl nd rfl rfl rfl rfl)
   (ax (cI cA rfl (Bw (K:=K) true rfl rfl T.enumerate (ae (aM kD hr rfl (ae (pv 2) ag)) ag)) (jX (K:=K) (i:=6) (j:=7) rfl rfl nd rfl rfl rfl rfl)
   (au (aJ (i:=8) nd rfl (Or.inl rfl) (aM yb hr rfl (ae (pv 0) (ae (pv 5) (ae (pv 7) ag (av nofun)) (av nofun)) (av nofun))))
   (ax (bz (bC iA (aq (aP (K:=K) rfl) (pv 8) ak (λ_ _=>rfl)) (aq (aP (K:=K) rfl) (pv 8) ak (λ_ _=>rfl)) (bj _)) (ax (cw (dJ (K:=K) rfl dU gF gS gw (pv 3) (ae (gx (ae (pv 4) (ae (pv 6) (ae (aq (aP (K:=K) rfl) (pv 8) ak (λ_ _=>rfl)) (ae (aq (aP (K:=K) rfl) (pv 8) ak (λ_ _=>rfl)) ag (av nofun)) (av nofun)) (av nofun)) (av nofun))) ag)))) bH))))))
   (ax (aV (pv 3))))),?_⟩
  refine⟨by show 0<=sizeLine;decide,λL z_=>?_⟩;have sL:=Same.put z_ (o:=.lst ([]:List V));dsimp only[cD];show jz _ _ _ [some (.ref p),some (.ref t),some (.ref u),some (.ref L),none,none,none,none,none] _;refine⟨_,rfl,t,cs,rfl,sL.seq hT,by omega,λL1 jA H1 s1 hL1 g1 hp1=>⟨L1,jA,rfl,ah.of g1,?_⟩⟩;have Tg:L1≠L:=λz=>by rw[z,ao]at hL1;cases hL1
  have el1:jA.length=cs.length - 1:=by rw[<- dq hp1,uN]
  refine zK (K:=K) (c:=true) (l:=L1) (xs:=jA) (λi σ H2=>∃(v4 v5 v6 v7 v8:Option V) (ws:List V),σ = [some (.ref p),some (.ref t),some (.ref u),some (.ref L),v4,v5,v6,v7,v8]/\Same H H2/\H2 L1=some (.lst jA)/\Paired (bX H2) (iW cs) jA/\H2 L=some (.lst ws)/\ws.length<=100 * i/\Paired (fF J N cs ds H2) ((List.range i).flatMap (gy J N cs ds)) ws)
   ⟨none,none,none,none,none,[],rfl,sL.trans s1,g1,hp1,s1 _ _ ao,eD _,.nil⟩ (λi σ H2 ⟨_,_,_,_,_,_,_,_,g2,_⟩=>ah.of g2) ?_ ?_
  ·rintro i x σ H2 Tt hx qk ⟨v4,v5,v6,v7,v8,ws,rfl,s2,g2,hp2,hL2,hwl,hm2⟩
   have hi:i<jA.length:=(bN.mp hx).1;obtain⟨q,hq,ta,rfl,zZ⟩:=fk hp2 hx;rw[qP (by omega)]at hq;cases hq;have sT:=Same.put qk (o:=.tup [V.int (i:Int),.ref ta]);refine⟨Tt,_,rfl,aF.of ao,rfl,_,_,rfl,_,_,rfl,rfl,?_⟩;dsimp only[cD];refine⟨_,rfl,u,ds,rfl,(s2.trans sT).seq hU,by omega,λL2 lz H3 s3 hL2' g3 hp3=>⟨L2,lz,rfl,ah.of g3,?_⟩⟩;have oW:=sT.trans s3;have Te:L2≠L:=λz=>by rw[z,sT _ _ hL2]at hL2';cases hL2'
   have el2:lz.length=ds.length - 1:=by rw[<- dq hp3,uN]
   refine zK (K:=K) (c:=true) (l:=L2) (xs:=lz) (λj σ H4=>∃(v6 v7 v8:Option V) (ws:List V),σ = [some (.ref p),some (.ref t),some (.ref u),some (.ref L),some (.int (i:Int)),some (.ref ta),v6,v7,v8]/\Same H H4/\H4 L1=some (.lst jA)/\Paired (bX H4) (iW cs) jA/\H4 L2=some (.lst lz)/\Paired (bX H4) (iW ds) lz/\H4 ta=some (.tup [nV (cs.getD i 0),nV (cs.getD (i+1) 0)])/\H4 L=some (.lst ws)/\ws.length<=100 * i+j /\
    Paired (fF J N cs ds H4) ((List.range i).flatMap (gy J N cs ds)++((List.range j).filter λq=>eM J N cs ds (i,q)).map λq=>(i,q)) ws)
    ⟨v6,v7,v8,ws,rfl,s2.trans oW,oW _ _ g2,eU.same oW hp2,g3,hp3,oW _ _ zZ,oW _ _ hL2,by omega,by rw[List.range_zero,List.filter_nil,rY,h_];exact fF.same oW hm2⟩ (λj σ H4 ⟨_,_,_,_,_,_,_,_,g4,_⟩=>ah.of g4) ?_ ?_
   ·rintro j y σ H4 Tu hy Tr ⟨v6,v7,v8,ws,rfl,s4,zO,Am,Ii,Ao,tR,jk,Ux,qt⟩
    have hj:j<lz.length:=(bN.mp hy).1;obtain⟨q,hq,tb,rfl,S_⟩:=fk Ao hy;rw[qP (by omega)]at hq;cases hq;have sU:=Same.put Tr (o:=.tup [V.int (j:Int),.ref tb]);refine⟨Tu,_,rfl,aF.of ao,rfl,_,_,rfl,_,_,rfl,rfl,?_⟩;dsimp only[cD];refine⟨_,rfl,_,rfl,_,rfl,p,ta,tb,n,cs.getD i 0,cs.getD (i+1) 0,ds.getD j 0,ds.getD (j+1) 0,R,J,N,rfl,hO.dD (s4.trans sU),M,sU _ _ tR,sU _ _ S_,hc _ (qf (by omega)),hc _ (qf (by omega)),hd _ (qf (by omega)),hd _ (qf (by omega)),λb H5 s5 gb=>?_⟩;have cx:=sU.trans s5;have keep:∀(ws':List V) (H6:Hp),(∀b o,b≠L->H5 b=some o->H6 b=some o)->H6 L=some (.lst ws')->ws'.length<=100 * i+(j+1)->Paired (fF J N cs ds H6) ((List.range i).flatMap (gy J N cs ds)++((List.range (j+1)).filter λq=>eM J N cs ds (i,q)).map λq=>(i,q)) ws' ->
      ∃(v6 v7 v8:Option V) (ws:List V),[some (V.ref p),some (.ref t),some (.ref u),some (.ref L),some (.int (i:Int)),some (.ref ta),some (.int (j:Int)),some (.ref tb),some (.ref b)] = [some (.ref p),some (.ref t),some (.ref u),some (.ref L),some (.int (i:Int)),some (.ref ta),v6,v7,v8]/\Same H H6/\H6 L1=some (.lst jA)/\Paired (bX H6) (iW cs) jA/\H6 L2=some (.lst lz)/\Paired (bX H6) (iW ds) lz/\H6 ta=some (.tup [nV (cs.getD i 0),nV (cs.getD (i+1) 0)])/\H6 L=some (.lst ws)/\ws.length<=100 * i+(j+1) /\
       Paired (fF J N cs ds H6) ((List.range i).flatMap (gy J N cs ds)++((List.range (j+1)).filter λq=>eM J N cs ds (i,q)).map λq=>(i,q)) ws:=by
     intro ws' H6 k6 Tf kH Uc;have pk:∀{l:List (Nat × Nat)} {us:List V},Paired (bX H4) l us->Paired (bX H6) l us:=λh=>Paired.dA h λ_ _ ⟨t,e,q⟩=>⟨t,e,k6 _ _ (hV (cx _ _ q) (cx _ _ jk) (by intro z;cases z)) (cx _ _ q)⟩
     refine⟨_,_,_,ws',rfl,λb o e=>k6 b o (cV e z_) (cx _ _ (s4 _ _ e)),k6 _ _ Tg (cx _ _ zO),pk Am,k6 _ _ Te (cx _ _ Ii),pk Ao,k6 _ _ (hV (cx _ _ tR) (cx _ _ jk) (by intro z;cases z)) (cx _ _ tR),Tf,kH,Uc⟩
    have er:(List.range (j+1)).filter (λq=>eM J N cs ds (i,q))=(List.range j).filter (λq=>eM J N cs ds (i,q))++if eM J N cs ds (i,j)=true then[j]else[]:=by
     rw[ja,pq]
     congr 1
     cases e:eM J N cs ds (i,j)with
     |true=>simp[e]
     |false=>simp[e]
    refine⟨_,rfl,b,_,0,nV (dz J N cs ds (i,j)),rfl,rfl,aF.of gb,aH (j:=0) rfl,_,rfl,b,_,1,nV (cF N cs ds (i,j)),rfl,rfl,aF.of gb,aH (j:=1) rfl,rfl,_,rfl,bB (λh=>?_) (λh=>?_)⟩
    ·have ne:eM J N cs ds (i,j)=true:=by
      unfold eM;rw[eN,fB];intro e;rw[e]at h;simp at h
     rw[if_pos ne]at er;refine⟨_,rfl,.inl ⟨rfl,_,ah.of (cx _ _ jk)⟩,_,rfl,_,rfl,_,rfl,b,_,0,nV (dz J N cs ds (i,j)),rfl,rfl,aF.of gb,aH (j:=0) rfl,_,rfl,b,_,1,nV (cF N cs ds (i,j)),rfl,rfl,aF.of gb,aH (j:=1) rfl,by show 4<=sizeLine;decide,λq hq=>?_⟩;have sq:=Same.put hq (o:=.tup [V.int (i:Int),.int (j:Int),nV (dz J N cs ds (i,j)),nV (cF N cs ds (i,j))]);have oq:q≠L:=λz=>by rw[z,cx _ _ jk]at hq;cases hq
     refine⟨L,_,.ref q,rfl,rfl,sq _ _ (cx _ _ jk),cS (by omega),?_⟩;refine keep (ws++[.ref q]) _ (λb o hb e=>by rw[aD hb];exact sq _ _ e) ao (by rw[bp,mS];omega) ?_;rw[er,eh,<- iZ];refine Paired.N_ (Paired.dA qt λ_ _ ⟨t,e,g⟩=>⟨t,e,?_⟩) ⟨q,rfl,by rw[aD oq,ao]⟩;rw[aD (hV (cx _ _ g) (cx _ _ jk) (by intro z;cases z))];exact sq _ _ (cx _ _ g)
    ·have ne:eM J N cs ds (i,j)=false:=by
      unfold eM;rw[Fi,fO];apply kf
      intro z;apply h
      rw[eN,fB];intro w;injection w with w
      exact z (by omega)
     rw[if_neg (by rw[ne];decide),h_]at er;refine keep ws _ (λb o _ e=>e) (cx _ _ jk) (by omega) ?_;rw[er];exact fF.same cx qt
   ·rintro σ H4 ⟨v6,v7,v8,ws,rfl,s4,zO,Am,Ii,Ao,tR,jk,Ux,qt⟩
    refine⟨_,_,_,_,_,ws,rfl,s4,zO,Am,jk,by omega,?_⟩;rw[ja,wt,pz,Fy,h_];rw[el2]at qt;exact qt
  ·rintro σ H2 ⟨v4,v5,v6,v7,v8,ws,rfl,s2,g2,hp2,hL2,hwl,hm2⟩
   rw[el1]at hm2;exact⟨_,rfl,kk L ws H2 s2 z_ hL2 hm2⟩
end
def Un(n:Nat)(R:Nat->Nat->Bool)(a b c:Nat):Prop:=R a c=true/\∃m x j y,c7 n R b c m/\c6 n R a m x/\c6 n R a b j/\c7 n R j c y/\x≠y
def Lex(a b c a' b' c':Nat):Prop:=a<a'\/(a=a'/\(b<b'\/(b=b'/\c<c')))
structure First (n:Nat) (U:Nat->Nat->Nat->Prop) (a b c:Nat):Prop where
 la:a<n
 lb:b<n
 lc:c<n
 is:U a b c
 no:∀a' b' c',a'<n->b'<n->c'<n->Lex a' b' c' a b c->¬ U a' b' c'
def Qc(n:Nat)(U:Nat->Nat->Nat->Prop)(v:V)(H:Hp):Prop:=(v = .non/\∀a b c,a<n->b<n->c<n->¬ U a b c)\/∃t a b c:Nat,v = .ref t/\H t=some (.tup [.int a,.int b,.int c])/\First n U a b c
section
variable {P:Program} {w:World} {K:W.Frag} {mg:Str->Option Value} {base:Heap} {f:Addr} {fd:FuncData}
abbrev Ce:Stmt:=top 46
theorem MF:aZ ["order","a","b","c"] ["order","a","b","c"] (aA Ce):=⟨rfl,rfl,rfl,by decide +kernel,rfl,by decide +kernel,by decide +kernel⟩
def vB(C:Addr):Sp:=λvs H Q _=>∃(p n a b c m x:Nat) (R:Nat->Nat->Bool),vs = [.ref p,.int a,.int b,.int c]/\dH C H p n R/\Good n R/\a<n/\b<n/\c<n/\c7 n R b c m/\c6 n R a m x/\Q (.int x) H
theorem Xt {C:Addr} (F:aR K "join_of_meet" "join_of_meet" Ce f fd) (T:Txt mg) (TC:eX K C):aL P w K mg base aX 1 f fd ["order","a","b","c"] (vB C):=by
 refine F.ok MF (λvs H Q E h=>?_) (λcdv A outer s H vs Q E hr h=>?_)
 ·obtain⟨p,n,a,b,c,m,x,R,rfl,_⟩:=h
  rfl
 ·obtain⟨p,n,a,b,c,m,x,R,rfl,hO,G,ha,hb,hc,hm,hx,kk⟩:=h
  have nd:=MF.nd;obtain⟨dx,vp,vr,vj,vm,o1,_,_,oj,om⟩:=hO;obtain⟨ra,us,rb,rfl,q1,q2,q3⟩:=oj.get ha;obtain⟨sa,ws,sb,rfl,p1,p2,p3⟩:=om.get hb;have em:f9 n (λa b=>R b a) b c = .int m:=iR G.lW hm.1 hm.2;have ex:f9 n R a m = .int x:=iR G.dis hx.1 hx.2;refine⟨_,(ax (aV (aq (aP (K:=K) rfl) (aq (aP (K:=K) rfl) (eV (K:=K) rfl (pv 0) rfl) (pv 1) (λ_ _=>rfl)) (aq (aP (K:=K) rfl) (aq (aP (K:=K) rfl) (eV (K:=K) rfl (pv 0) rfl) (pv 2) (λ_ _=>rfl)) (pv 3) (λ_ _=>rfl)) (λ_ _=>rfl)))),?_⟩;exact⟨_,rfl,p,C,dx,_,_,rfl,o1,TC.cl,TC.nJ,n_ _ _ _ _ _,_,rfl,ra,us,_,.ref rb,rfl,rfl,aF.of q1,aH q2,_,rfl,p,C,dx,_,_,rfl,o1,TC.cl,TC.nM,oa _ _ _ _ _,_,rfl,sa,ws,_,.ref sb,rfl,rfl,aF.of p1,aH p2,_,rfl,sb,_,_,.int m,rfl,rfl,aF.of p3,aH (by rw[gp hc,em]),rb,_,_,.int x,rfl,rfl,aF.of q3,aH (by rw[gp hm.1,ex]),kk⟩
abbrev Cy:Stmt:=top 47
theorem Nr:aZ ["order","a","b","c"] ["order","a","b","c"] (aA Cy):=⟨rfl,rfl,rfl,by decide +kernel,rfl,by decide +kernel,by decide +kernel⟩
def vF(C:Addr):Sp:=λvs H Q _=>∃(p n a b c j y:Nat) (R:Nat->Nat->Bool),vs = [.ref p,.int a,.int b,.int c]/\dH C H p n R/\Good n R/\a<n/\b<n/\c<n/\c6 n R a b j/\c7 n R j c y/\Q (.int y) H
theorem Xz {C:Addr} (F:aR K "meet_of_join" "meet_of_join" Cy f fd) (T:Txt mg) (TC:eX K C):aL P w K mg base aX 1 f fd ["order","a","b","c"] (vF C):=by
 refine F.ok Nr (λvs H Q E h=>?_) (λcdv A outer s H vs Q E hr h=>?_)
 ·obtain⟨p,n,a,b,c,m,x,R,rfl,_⟩:=h
  rfl
 ·obtain⟨p,n,a,b,c,j,y,R,rfl,hO,G,ha,hb,hc,hj,hy,kk⟩:=h
  have nd:=Nr.nd;obtain⟨dx,vp,vr,vj,vm,o1,_,_,oj,om⟩:=hO;obtain⟨ra,us,rb,rfl,q1,q2,q3⟩:=oj.get ha;obtain⟨sa,ws,sb,rfl,p1,p2,p3⟩:=om.get hj.1;have ej:f9 n R a b = .int j:=iR G.dis hj.1 hj.2;have ey:f9 n (λa b=>R b a) j c = .int y:=iR G.lW hy.1 hy.2;refine⟨_,(ax (aV (aq (aP (K:=K) rfl) (aq (aP (K:=K) rfl) (eV (K:=K) rfl (pv 0) rfl) (aq (aP (K:=K) rfl) (aq (aP (K:=K) rfl) (eV (K:=K) rfl (pv 0) rfl) (pv 1) (λ_ _=>rfl)) (pv 2) (λ_ _=>rfl)) (λ_ _=>rfl)) (pv 3) (λ_ _=>rfl)))),?_⟩;exact⟨_,rfl,p,C,dx,_,_,rfl,o1,TC.cl,TC.nM,oa _ _ _ _ _,_,rfl,p,C,dx,_,_,rfl,o1,TC.cl,TC.nJ,n_ _ _ _ _ _,_,rfl,ra,us,_,.ref rb,rfl,rfl,aF.of q1,aH q2,_,rfl,rb,_,_,.int j,rfl,rfl,aF.of q3,aH (by rw[gp hb,ej]),sa,ws,_,.ref sb,rfl,rfl,aF.of p1,aH p2,_,rfl,sb,_,_,.int y,rfl,rfl,aF.of p3,aH (by rw[gp hc,ey]),kk⟩
abbrev Dd:Stmt:=top 48
theorem N4:aZ ["order","a","b","c"] ["order"] (aA Dd):=⟨rfl,rfl,rfl,by decide +kernel,rfl,by decide +kernel,by decide +kernel⟩
def vJ(C:Addr):Sp:=λvs H Q _=>∃(p n:Nat) (R:Nat->Nat->Bool),vs = [.ref p]/\dH C H p n R/\Good n R/\n<=24/\∀v H',Same H H'->Qc n (Un n R) v H'->Q v H'
theorem X7 {C:Addr} (F:aR K "uneven" "uneven" Dd f fd) (T:Txt mg) (TC:eX K C) (nF:aG P w K mg base "join_of_meet" ["order","a","b","c"] 1 (vB C)) (nO:aG P w K mg base "meet_of_join" ["order","a","b","c"] 1 (vF C)) :
  aL P w K mg base aX 2 f fd ["order"] (vJ C):=by
 refine F.ok N4 (λvs H Q E h=>?_) (λcdv A outer s H vs Q E hr h=>?_)
 ·obtain⟨p,n,R,rfl,_⟩:=h
  rfl
 ·obtain⟨p,n,R,rfl,hO,G,hn,kk⟩:=h
  have nd:=N4.nd;have en:((n:Int)).toNat=n:=dg n;obtain⟨dx,vp,vr,vj,vm,o1,_,o3,_,_⟩:=id hO;refine⟨_,(au (cI cA rfl (df rfl T.range (ae (eV (K:=K) rfl (pv 0) rfl) ag)) (a_ (i:=1) nd rfl (Or.inl rfl))
   (ax (cI cA rfl (df rfl T.range (ae (eV (K:=K) rfl (pv 0) rfl) ag)) (a_ (i:=2) nd rfl (Or.inl rfl))
   (ax (cI cA rfl (df rfl T.range (ae (eV (K:=K) rfl (pv 0) rfl) ag)) (a_ (i:=3) nd rfl (Or.inl rfl))
   (ax (bz (PW.pt (qR (dY (aq (aP (K:=K) rfl) (aq (aP (K:=K) rfl) (eV (K:=K) rfl (pv 0) rfl) (pv 1) (λ_ _=>rfl)) (pv 3) (λ_ _=>rfl))) (qS (bC iA (aM nF hr rfl (ae (pv 0) (ae (pv 1) (ae (pv 2) (ae (pv 3) ag (av nofun)) (av nofun)) (av nofun)) (av nofun))) (aM nO hr rfl (ae (pv 0) (ae (pv 1) (ae (pv 2) (ae (pv 3) ag (av nofun)) (av nofun)) (av nofun)) (av nofun))) (bj _))))) (ax (aV (gx (ae (pv 1) (ae (pv 2) (ae (pv 3) ag (av nofun)) (av nofun)) (av nofun))))) bH)))))))
   (ax (aV kR))),?_⟩
  refine⟨_,rfl,p,C,dx,_,_,rfl,o1,TC.cl,TC.nC,p9 _ _ _ _ _,_,rfl,(bS (by omega)).1,(bS (by omega)).2,fP (lo:=0) (n:=((n:Int)).toNat) (λi σ H2=>∃(v1 v2 v3:Option V),σ = [some (.ref p),v1,v2,v3]/\Same H H2/\∀a b c,a<i->b<n->c<n->¬ Un n R a b c)
   ⟨none,none,none,rfl,Same.refl _,λa b c h=>by omega⟩ ?_ ?_⟩
  ·rintro i σ H2 hi ⟨v1,v2,v3,rfl,s2,qG⟩
   rw[en]at hi;refine⟨_,rfl,p,C,dx,_,_,rfl,s2 _ _ o1,TC.cl,TC.nC,p9 _ _ _ _ _,_,rfl,(bS (by omega)).1,(bS (by omega)).2,fP (lo:=0) (n:=((n:Int)).toNat) (λj σ H3=>∃(v2 v3:Option V),σ = [some (.ref p),some (.int (0+(i:Int))),v2,v3]/\Same H H3/\∀b c,b<j->c<n->¬ Un n R i b c)
    ⟨v2,v3,rfl,s2,λb c h=>by omega⟩ ?_ ?_⟩
   ·rintro j σ H3 hj ⟨v2,v3,rfl,s3,qH⟩
    rw[en]at hj;refine⟨_,rfl,p,C,dx,_,_,rfl,s3 _ _ o1,TC.cl,TC.nC,p9 _ _ _ _ _,_,rfl,(bS (by omega)).1,(bS (by omega)).2,fP (lo:=0) (n:=((n:Int)).toNat) (λk σ H4=>∃(v3:Option V),σ = [some (.ref p),some (.int (0+(i:Int))),some (.int (0+(j:Int))),v3]/\Same H H4/\∀c,c<k->¬ Un n R i j c)
     ⟨v3,rfl,s3,λc h=>by omega⟩ ?_ ?_⟩
    ·rintro k σ H4 hk ⟨v3,rfl,s4,qI⟩
     rw[en]at hk;obtain⟨ra,us,rb,rfl,q1,q2,q3⟩:=(o3.same s4).get hi;obtain⟨m,hm,hm'⟩:=G.meet j k hj hk;obtain⟨x,hx,hx'⟩:=G.join i m hi hm;obtain⟨jj,tW,Ag⟩:=G.join i j hi hj;obtain⟨y,hy,hy'⟩:=G.meet jj k tW hk;have next:¬ Un n R i j k->∀c,c<k+1->¬ Un n R i j c:=λh c hc=>by
      by_cases e:c=k
      ·subst e;exact h
      ·exact qI c (by omega)
     refine⟨_,rfl,p,C,dx,_,_,rfl,s4 _ _ o1,TC.cl,TC.nR,Ie _ _ _ _ _,_,rfl,ra,us,_,.ref rb,rfl,rfl,aF.of q1,at0 q2,_,rfl,rb,_,_,.bl (R i k),rfl,rfl,aF.of q3,at0 (gp hk),_,rfl,?_⟩;refine bB (λh=>?_) (λh=>?_)
     ·refine⟨_,rfl,_,rfl,_,rfl,_,rfl,p,n,i,j,k,m,x,R,by simp,hO.dD s4,G,hi,hj,hk,⟨hm,hm'⟩,⟨hx,hx'⟩,?_⟩
      refine⟨_,rfl,_,rfl,_,rfl,_,rfl,p,n,i,j,k,jj,y,R,by simp,hO.dD s4,G,hi,hj,hk,⟨tW,Ag⟩,⟨hy,hy'⟩,rfl,_,rfl,?_⟩;refine bB (λh2=>?_) (λh2=>?_)
      ·have ne:x≠y:=λz=>by subst z;simp at h2
       refine⟨_,rfl,_,rfl,_,rfl,by show 3<=sizeLine;decide,λt ht=>kk _ _ (s4.trans (Same.put ht)) (.inr ⟨t,i,j,k,rfl,by rw[ao,gR,gR,gR],hi,hj,hk,⟨h,m,x,jj,y,⟨hm,hm'⟩,⟨hx,hx'⟩,⟨tW,Ag⟩,⟨hy,hy'⟩,ne⟩,λa' b' c' ha hb hc l=>?_⟩)⟩
       rcases l with l|⟨rfl,l|⟨rfl,l⟩⟩
       ·exact qG a' b' c' l hb hc
       ·exact qH b' c' l hc
       ·exact qI c' l
      ·have e:x=y:=by
        by_cases z:x=y
        ·exact z
        ·exact absurd (by rw[bU (λq=>by injection q with q;omega)];rfl) h2
       refine⟨_,rfl,s4,next λz=>?_⟩;obtain⟨_,m',x',j',y',k1,k2,k3,k4,ne⟩:=z;obtain rfl:=k1.uniq G ⟨hm,hm'⟩;obtain rfl:=k3.uniq G ⟨tW,Ag⟩;exact ne ((k2.uniq G ⟨hx,hx'⟩).trans (e.trans (k4.uniq G ⟨hy,hy'⟩).symm))
     ·refine cG ⟨_,rfl,s4,next λz=>h z.1⟩
    ·rintro σ H4 ⟨v3,rfl,s4,qI⟩
     rw[en]at qI;refine⟨_,_,rfl,s4,λb c hb hc=>?_⟩
     by_cases e:b=j
     ·subst e;exact qI c hc
     ·exact qH b c (by omega) hc
   ·rintro σ H3 ⟨v2,v3,rfl,s3,qH⟩
    rw[en]at qH;refine⟨_,_,_,rfl,s3,λa b c ha hb hc=>?_⟩
    by_cases e:a=i
    ·subst e;exact qH b c hb hc
    ·exact qG a b c (by omega) hb hc
  ·rintro σ H2 ⟨v1,v2,v3,rfl,s2,qG⟩
   rw[en]at qG;exact kk _ _ s2 (.inl ⟨rfl,qG⟩)
end
end My
namespace L2
open PySem PySem.Spec PyProof.Rows
section
variable {X:Cx} {tg:Expr}
end
end L2
namespace My
open PySem PySem.Spec PyProof.Rows L2
section
variable {P:Program} {w:World} {K:W.Frag} {mg:Str->Option Value} {base:Heap} {f:Addr} {fd:FuncData}
end
section
variable {n:Nat} {R:Nat->Nat->Bool}
theorem V_(G:Good n R)(no:∀a b c,a<n->b<n->c<n->¬ Un n R a b c):∃J N,Md n R J N:=by
 have hJ:∃J:Nat->Nat->Nat,∀a b,a<n->b<n->c6 n R a b (J a b):=⟨λa b=>if h:a<n/\b<n then Classical.choose (G.join a b h.1 h.2)else 0,λa b ha hb=>by
  have h:=Pr (G.join a b ha hb);simp only[ha,hb,and_self,dite_true];exact h⟩
 have hN:∃N:Nat->Nat->Nat,∀a b,a<n->b<n->c7 n R a b (N a b):=⟨λa b=>if h:a<n/\b<n then Classical.choose (G.meet a b h.1 h.2)else 0,λa b ha hb=>by
  have h:=Pr (G.meet a b ha hb);simp only[ha,hb,and_self,dite_true];exact h⟩
 obtain⟨J,hJ⟩:=hJ;obtain⟨N,hN⟩:=hN;refine⟨J,N,G,hJ,hN,λa b c ha hb hc hac=>?_⟩;apply kf
 intro ne;have h1:=hN b c hb hc;have h3:=hJ a b ha hb;exact no a b c ha hb hc ⟨hac,_,_,_,_,h1,hJ a _ ha h1.1,h3,hN _ c h3.1 hc,ne⟩
end
def Five(n:Nat)(R:Nat->Nat->Bool)(fs:List Int):Prop:=∃b l s h t:Nat,fs = [(b:Int),(l:Int),(s:Int),(h:Int),(t:Int)]/\(b<n/\l<n/\s<n/\h<n/\t<n) /\
 l≠h/\R l h=true/\R s h=false/\R l s=false/\c7 n R l s b/\c7 n R h s b/\c6 n R l s t/\c6 n R h s t
theorem Five.len{n:Nat}{R:Nat->Nat->Bool}{fs:List Int}(h:Five n R fs):fs.length=5:=by
 obtain⟨b,l,s,h,t,rfl,_⟩:=h;rfl
theorem Five.rng{n:Nat}{R:Nat->Nat->Bool}{fs:List Int}(h:Five n R fs):∀z∈fs,0<=z/\z<(n:Int):=by
 obtain⟨b,l,s,h,t,rfl,⟨h0,h1,h2,h3,h4⟩,_⟩:=h;intro z hz;simp only[bq,fb,fj]at hz;omega
theorem R1{n:Nat}{R:Nat->Nat->Bool}{b l s h t:Nat}(hb:b<n)(hl:l<n)(hs:s<n)(hh:h<n)(ht:t<n):Five n R [(b:Int),(l:Int),(s:Int),(h:Int),(t:Int)] ↔
  (l≠h/\R l h=true/\R s h=false/\R l s=false/\c7 n R l s b/\c7 n R h s b/\c6 n R l s t/\c6 n R h s t):=by
 constructor
 ·rintro⟨b',l',s',h',t',e,_,k⟩
  simp only[rS,Int.natCast_inj,and_true]at e;obtain⟨rfl,rfl,rfl,rfl,rfl⟩:=e;exact k
 ·intro k
  exact⟨b,l,s,h,t,rfl,⟨hb,hl,hs,hh,ht⟩,k⟩
section
variable {P:Program} {w:World} {K:W.Frag} {mg:Str->Option Value} {base:Heap} {f:Addr} {fd:FuncData}
end
section
variable {n:Nat} {R:Nat->Nat->Bool} {a b c l s t m x j y:Nat}
theorem JG(G:Good n R)(hl:l<n)(hs:s<n)(ht:t<n)(h1:R l t=true)(h2:R s t=true)(h3:∀z,z<n->R l z=true->R s z=true->R t z=true):c6 n R l s t:=
 ⟨ht,λz hz=>by rw[dQ,bD];exact⟨λq=>⟨G.trans hl ht hz h1 q,G.trans hs ht hz h2 q⟩,λq=>h3 z hz q.1 q.2⟩⟩
theorem JH(G:Good n R)(hl:l<n)(hs:s<n)(ht:t<n)(h1:R t l=true)(h2:R t s=true)(h3:∀z,z<n->R z l=true->R z s=true->R z t=true):c7 n R l s t:=
 ⟨ht,λz hz=>by rw[dQ,bD];exact⟨λq=>⟨G.trans hz ht hl q h1,G.trans hz ht hs q h2⟩,λq=>h3 z hz q.1 q.2⟩⟩
theorem mn(h:c6 n R a b c){z:Nat}(hz:z<n)(h1:R a z=true)(h2:R b z=true):R c z=true:=by rw[h.2 z hz,h1,h2];rfl
theorem oy(h:c7 n R a b c){z:Nat}(hz:z<n)(h1:R z a=true)(h2:R z b=true):R z c=true:=by rw[h.2 z hz,h1,h2];rfl
theorem R4(G:Good n R)(ha:a<n)(hb:b<n)(hc:c<n)(hac:R a c=true)(hm:c7 n R b c m)(hx:c6 n R a m x)(hj:c6 n R a b j)(hy:c7 n R j c y)(ne:x≠y):Five n R [(m:Int),(x:Int),(b:Int),(y:Int),(j:Int)]:=by
 have lm:=hm.1;have lx:=hx.1;have lj:=hj.1;have ly:=hy.1;obtain⟨m1,m2⟩:=hm.dn G hb hc;obtain⟨x1,x2⟩:=hx.up G ha lm;obtain⟨j1,j2⟩:=hj.up G ha hb;obtain⟨y1,y2⟩:=hy.dn G lj hc;have aj:R a y=true:=oy hy ha j1 hac;have my:R m y=true:=oy hy lm (G.trans lm hb lj m1 j2) m2;have xy:R x y=true:=mn hx ly aj my;have xj:R x j=true:=mn hx lj j1 (G.trans lm hb lj m1 j2);have J1:c6 n R x b j:=JG G lx hb lj xj j2 λz hz q1 q2=>mn hj hz (G.trans ha lx hz x1 q1) q2
 have J2:c6 n R y b j:=JG G ly hb lj y1 j2 λz hz q1 q2=>mn hj hz (G.trans ha ly hz aj q1) q2
 have M2:c7 n R y b m:=JH G ly hb lm my m1 λz hz q1 q2=>oy hm hz q2 (G.trans hz ly hc q1 y2)
 have M1:c7 n R x b m:=JH G lx hb lm x2 m1 λz hz q1 q2=>oy M2 hz (G.trans hz lx ly q1 xy) q2
 refine(R1 lm lx hb ly lj).mpr ⟨ne,xy,?_,?_,M1,M2,J1,J2⟩
 ·cases e:R b y with
  |false=>rfl
  |true =>
   have hjy:R j y=true:=mn J2 ly (G.refl y ly) e;have hbm:R b m=true:=oy M2 hb e (G.refl b hb);have hjx:R j x=true:=mn hj lx x1 (G.trans hb lm lx hbm x2);exact absurd (G.anti _ _ lx ly xy (G.trans ly lj lx y1 hjx)) ne
 ·cases e:R x b with
  |false=>rfl
  |true =>
   have T6:R j b=true:=mn J1 hb e (G.refl b hb);have UG:R y b=true:=G.trans ly lj hb y1 T6;have UJ:R y m=true:=oy M2 ly (G.refl y ly) UG;exact absurd (G.anti _ _ lx ly xy (G.trans ly lm lx UJ x2)) ne
end
section
variable {P:Program} {w:World} {K:W.Frag} {mg:Str->Option Value} {base:Heap} {f:Addr} {fd:FuncData}
abbrev B_:Stmt:=top 49
theorem Ms:aZ ["order","triple","a","b","c","low","high"] ["order","triple"] (aA B_):=⟨rfl,rfl,rfl,by decide +kernel,rfl,by decide +kernel,by decide +kernel⟩
def Du(K:W.Frag)(C:Addr):Sp:=λvs H Q _=>∃(p t n a b c:Nat) (R:Nat->Nat->Bool),vs = [.ref p,.ref t]/\dH C H p n R/\Good n R/\aF K H t [.int a,.int b,.int c]/\a<n/\b<n/\c<n/\Un n R a b c /\
 ∀u fs H',Same H H'->H' u=some (.tup (fs.map V.int))->Five n R fs->Q (.ref u) H'
theorem Xj {C:Addr} (F:aR K "five_of" "five_of" B_ f fd) (T:Txt mg) (TC:eX K C) (nF:aG P w K mg base "join_of_meet" ["order","a","b","c"] 1 (vB C)) (nO:aG P w K mg base "meet_of_join" ["order","a","b","c"] 1 (vF C)) :
  aL P w K mg base aX 2 f fd ["order","triple"] (Du K C):=by
 refine F.ok Ms (λvs H Q E h=>?_) (λcdv A outer s H vs Q E hr h=>?_)
 ·obtain⟨p,t,n,a,b,c,R,rfl,_⟩:=h
  rfl
 ·obtain⟨p,t,n,a,b,c,R,rfl,hO,G,hT,ha,hb,hc,⟨hac,m,x,j,y,hm,hx,hj,hy,ne⟩,kk⟩:=h
  have nd:=Ms.nd;obtain⟨dx,vp,vr,vj,vm,o1,_,_,oj,om⟩:=id hO;have em:f9 n (λa b=>R b a) b c = .int m:=iR G.lW hm.1 hm.2;have ej:f9 n R a b = .int j:=iR G.dis hj.1 hj.2;obtain⟨ra,us,rb,rfl,q1,q2,q3⟩:=oj.get ha;obtain⟨sa,us',sb,rfl,p1,p2,p3⟩:=om.get hb;refine⟨_,(au (aJ (i:=2) nd rfl (Or.inl rfl) (aq (aP (K:=K) rfl) (pv 1) ak (λ_ _=>rfl)))
   (au (aJ (i:=3) nd rfl (Or.inl rfl) (aq (aP (K:=K) rfl) (pv 1) ak (λ_ _=>rfl)))
   (au (aJ (i:=4) nd rfl (Or.inl rfl) (aq (aP (K:=K) rfl) (pv 1) ak (λ_ _=>rfl)))
   (au (aJ (i:=5) nd rfl (Or.inl rfl) (aM nF hr rfl (ae (pv 0) (ae (pv 2) (ae (pv 3) (ae (pv 4) ag (av nofun)) (av nofun)) (av nofun)) (av nofun))))
   (au (aJ (i:=6) nd rfl (Or.inl rfl) (aM nO hr rfl (ae (pv 0) (ae (pv 2) (ae (pv 3) (ae (pv 4) ag (av nofun)) (av nofun)) (av nofun)) (av nofun))))
   (ax (aV (gx (ae (aq (aP (K:=K) rfl) (aq (aP (K:=K) rfl) (eV (K:=K) rfl (pv 0) rfl) (pv 3) (λ_ _=>rfl)) (pv 4) (λ_ _=>rfl)) (ae (pv 5) (ae (pv 3) (ae (pv 6) (ae (aq (aP (K:=K) rfl) (aq (aP (K:=K) rfl) (eV (K:=K) rfl (pv 0) rfl) (pv 2) (λ_ _=>rfl)) (pv 3) (λ_ _=>rfl)) ag (av nofun)) (av nofun)) (av nofun)) (av nofun)) (av nofun)))))))))),?_⟩
  refine⟨_,rfl,t,_,0,.int (a:Int),rfl,rfl,hT,aH (j:=0) rfl,?_⟩;refine⟨_,rfl,t,_,1,.int (b:Int),rfl,rfl,hT,aH (j:=1) rfl,?_⟩;refine⟨_,rfl,t,_,2,.int (c:Int),rfl,rfl,hT,aH (j:=2) rfl,?_⟩;refine⟨_,rfl,_,rfl,_,rfl,_,rfl,p,n,a,b,c,m,x,R,rfl,hO,G,ha,hb,hc,hm,hx,?_⟩;refine⟨_,rfl,_,rfl,_,rfl,_,rfl,p,n,a,b,c,j,y,R,rfl,hO,G,ha,hb,hc,hj,hy,?_⟩;refine⟨_,rfl,p,C,dx,_,_,rfl,o1,TC.cl,TC.nM,oa _ _ _ _ _,_,rfl,sa,us',_,.ref sb,rfl,rfl,aF.of p1,aH p2,_,rfl,sb,_,_,.int (m:Int),rfl,rfl,aF.of p3,aH (by rw[gp hc,em]),_,rfl,_,rfl,_,rfl,
   _,rfl,p,C,dx,_,_,rfl,o1,TC.cl,TC.nJ,n_ _ _ _ _ _,_,rfl,ra,us,_,.ref rb,rfl,rfl,aF.of q1,aH q2,_,rfl,rb,_,_,.int (j:Int),rfl,rfl,aF.of q3,aH (by rw[gp hb,ej]),by show 5<=sizeLine;decide,λu hu=>?_⟩
  exact kk u [(m:Int),(x:Int),(b:Int),(y:Int),(j:Int)] _ (Same.put hu) ao (R4 G ha hb hc hac hm hx hj hy ne)
end
end My
namespace L2
open PySem PySem.Spec PyProof.Rows
structure Moved (fs ch:List Addr) (h h':Heap):Prop where
 keep:∀b o,h.get? b=some o->b ∉ fs->b ∉ ch->h'.get? b=some o
 slot:∀b o,h.get? b=some o->b∈fs->b ∉ ch->∃sl,h'.get? b=some {o with slots:=sl}
 there:∀b o,h.get? b=some o->∃o',h'.get? b=some o'
 size:h.objs.size<=h'.objs.size
theorem Moved.any{fs ch:List Addr}{h h':Heap}(m:Moved fs ch h h'){b:Addr}{o:Obj}(e:h.get? b=some o)(n:b ∉ ch):∃sl,h'.get? b=some {o with slots:=sl}:=by
 by_cases hb:b∈fs
 ·exact m.slot b o e hb n
 ·exact⟨o.slots,m.keep b o e hb n⟩
theorem Moved.trans{fs ch:List Addr}{h h1 h2:Heap}(a:Moved fs ch h h1)(b:Moved fs ch h1 h2):Moved fs ch h h2 where
 keep:=λc o e n1 n2=>b.keep c o (a.keep c o e n1 n2) n1 n2
 slot:=λc o e n1 n2=>by
  obtain⟨sl,e1⟩:=a.slot c o e n1 n2;obtain⟨sl',e2⟩:=b.slot c _ e1 n1 n2;exact⟨sl',e2⟩
 there:=λc o e=>by
  obtain⟨o',e1⟩:=a.there c o e;exact b.there c o' e1
 size:=b_ a.size b.size
theorem Moved.mono{fs fs' ch Hf:List Addr}{h h':Heap}(a:Moved fs ch h h')(h1:∀b∈fs,b∈fs')(h2:∀b∈ch,b∈Hf):Moved fs' Hf h h' where
 keep:=λc o e n1 n2=>a.keep c o e (λz=>n1 (h1 c z)) λz=>n2 (h2 c z)
 slot:=λc o e _ n2=>a.any e λz=>n2 (h2 c z)
 there:=a.there
 size:=a.size
structure gU (h:Heap) (e:Addr) (cls:Value) (dx:Option Addr) (T:Addr) (fl:Value):Prop where
 ex:∃oe vs,h.get? e=some oe/\oe.cls=cls/\oe.dict=dx/\oe.data = .fields vs/\vs[1]? = some (.ref T)
 ne:T≠e
 tb:∃oT ts,h.get? T=some oT/\oT.data = .fields ts/\ts[3]? = some fl
section
variable {M:Model} {A:Around} {E:Value->Shared->Prop} {s:Shared} {base:Heap} {env:Env} {outer:List Env} {L e T:Addr} {oe:Obj} {vs:Array Value} {cls head fl:Value} {dx:Option Addr} {Q:Unit->Shared->Prop}
theorem zM{h:Heap}{l:List Env}(hl:h.FunFrames base l)(he:h.get? e=some oe)(hd:oe.data = .fields vs):e ∉ frs l:=λhm=>by
 obtain⟨_,o,ho,hnf⟩:=hl.mem hm;rw[he]at ho;cases ho;exact hnf vs hd
theorem Wf(o:Obj)(f:Array Value->Array Value):(o.mapFields f).dict=o.dict:=by
 obtain⟨c,d,dt,sl⟩:=o;cases dt <;> rfl
theorem HF{hadNext:Bool}(hfr:A.frames=some (env::outer))(hl:s.heap.FunFrames base (env::outer))(hf:env.frame=some L)(he:s.heap.get? e=some oe)(hd:oe.data = .fields vs)(hsz:1<vs.size)
  (h:∀h' T,Moved (frs (env::outer)) [e] s.heap h'->s.heap.objs.size<=T->gU h' e oe.cls oe.dict T (rawInt L)->Q () {s with heap:=h'}) :
  wpAny M A (do let a <- frameOf env;let pl <- entryPlaceOf L hadNext;let b <- EntryCells.newEntry head a .none (rawInt L) .none pl;setField (.ref e) 1 b) Q E s:=by
 have hene:=zM hl he hd;refine ai (wpAny_frameOf_fun hfr hl hf λh₁ hs₁=>?_);refine ai (wpAny_entryPlaceOf λpl hpl=>?_);unfold EntryCells.newEntry newFields;refine ai (wZ ?_ (hpl.sizeOk5 _ _ _ _ _));have he₁:h₁.get? e=some oe:=(hs₁.2.1 e hene).trans he;generalize hob:({cls:=.type "traceback", dict:=none,data:=.fields ([head,.ref L,.none,rawInt L,.none]++(if pl.isEmpty then List.replicate 6 Value.none else pl)).toArray}:Obj)=ob;have he₂:=aU (h:=h₁) ob he₁;refine sJ he₂ hd hsz (h _ h₁.objs.size ?_ (by rw[hs₁.1];exact aW _) ?_)
 ·have keep:∀b o,b≠e->h₁.get? b=some o->((h₁.push ob).update e (Obj.mapFields (·.setIfInBounds 1 (Value.ref h₁.objs.size)))).get? b=some o:=λb o hbe hb=>by
   rw[ig _ _ (bJ hbe)];exact aU _ hb
  have hd₃:=m9 hd (·.setIfInBounds 1 (Value.ref h₁.objs.size));refine⟨λb o hb n1 n2=>keep b o (λz=>n2 (by simp[z])) ((hs₁.2.1 b n1).trans hb),λb o hb n1 n2=>?_,λb o hb=>?_,by rw[wR,fJ,hs₁.1];exact wJ _⟩
  ·obtain⟨sl,hs⟩:=hs₁.2.2 b o hb
   exact⟨sl,keep b _ (λz=>n2 (by simp[z])) hs⟩
  ·by_cases hbe:b=e
   ·subst hbe
    exact⟨_,ik (Obj.mapFields (·.setIfInBounds 1 (Value.ref h₁.objs.size))) he₂ (sC hd₃)⟩
   ·obtain⟨sl,hs⟩:=hs₁.2.2 b o hb
    exact⟨_,keep b _ hbe hs⟩
 ·have hTe:h₁.objs.size≠e:=eB (aQ he₁)
  have hd₃:=m9 hd (·.setIfInBounds 1 (Value.ref h₁.objs.size));have he₃:=ik (Obj.mapFields (·.setIfInBounds 1 (Value.ref h₁.objs.size))) he₂ (sC hd₃);have hT₃:=(ig (h₁.push ob) (Obj.mapFields (·.setIfInBounds 1 (Value.ref h₁.objs.size))) (bJ hTe)).trans (cn h₁ (by rw[<- hob];rfl));refine⟨⟨_,_,he₃,Obj.cls_mapFields _ _,Wf _ _,hd₃,by simp[hsz]⟩,hTe,⟨_,_,hT₃,by rw[<- hob],?_⟩⟩
  first | (simp;done) | (rcases hpl with rfl|⟨_,_,_,_,_,_,_,rfl⟩ <;> simp)
theorem WN(hfr:A.frames=some (env::outer))(hl:s.heap.FunFrames base (env::outer))(hf:env.frame=some L)(he:s.heap.get? e=some oe)(hd:oe.data = .fields vs)(h1:vs[1]? = some .none)
  (h:∀h' T,Moved (frs (env::outer)) [e] s.heap h'->s.heap.objs.size<=T->gU h' e oe.cls oe.dict T (rawInt L)->Q () {s with heap:=h'}):wpAny M A (noteFrame (.ref e) env) Q E s:=by
 unfold noteFrame;simp only[hf];refine ai (dX he hd h1 ?_);rw[if_neg (by decide)];exact HF hfr hl hf he hd (lD.mp h1).1 h
theorem tM{h h':Heap}:∀{l:List Env},(∀b∈frs l,∀o,h.get? b=some o->∃sl,h'.get? b=some {o with slots:=sl})->h.FunFrames base l->h'.FunFrames base l
 | [],_,_=>trivial
 |env::r,k,⟨hk,⟨L,o,hf,hn,ho,hd⟩,hr⟩=>by
  have hL:L∈frs (env::r):=by unfold frs;rw[rV,hf];exact b9
  obtain⟨sl,e⟩:=k L hL o ho;exact⟨hk,⟨L,_,hf,hn,e,hd⟩,tM (λb hb=>k b (by unfold frs;rw[rV,hf];exact cu _ hb)) hr⟩
theorem Moved.eK{fs ch:List Addr}{h h':Heap}{l:List Env}(m:Moved fs ch h h')(hn:∀b∈frs l,b ∉ ch)(hl:h.FunFrames base l):h'.FunFrames base l:=
 tM (λb hb o e=>m.any e (hn b hb)) hl
theorem K3(hfr:A.frames=some (env::outer))(hl:s.heap.FunFrames base (env::outer))(hf:env.frame=some L)(xr:gU s.heap e cls dx T .none)
  (h:∀h' T',Moved (frs (env::outer)) [e,T] s.heap h'->s.heap.objs.size<=T'->gU h' e cls dx T' (rawInt L)->Q () {s with heap:=h'}):wpAny M A (noteFrame (.ref e) env) Q E s:=by
 obtain⟨⟨oe,vs,he,hc,hdx,hd,h1⟩,hTe,oT,ts,hT,hdT,h3⟩:=xr;subst hc hdx;unfold noteFrame;simp only[hf];refine ai (dX he hd h1 ?_);rw[if_pos (show(Value.ref T != Value.none)=true from by simp)];refine ai (dX hT hdT h3 ?_);rw[if_neg (show ¬ ((Value.none == rawInt L)=true)from by simp[rawInt])];refine ai (sJ hT hdT (lD.mp h3).1 ?_);have mv:Moved (frs (env::outer)) [e,T] s.heap (s.heap.update T (Obj.mapFields (·.setIfInBounds 3 Value.none))):=by
  have other:∀b,b≠T->(s.heap.update T (Obj.mapFields (·.setIfInBounds 3 Value.none))).get? b=s.heap.get? b:=λb hb=>ig _ _ (bJ hb)
  refine⟨λb o hb _ n=>(other b (λz=>n (by simp[z]))).trans hb,λb o hb _ n=>⟨o.slots,(other b (λz=>n (by simp[z]))).trans hb⟩,λb o hb=>?_,by rw[wR];exact aW _⟩
  by_cases hbT:b=T
  ·subst hbT
   exact⟨_,ik _ hT (sC (m9 hdT _))⟩
  ·exact⟨o,(other b hbT).trans hb⟩
 have hn1:=zM hl he hd;have hn2:=zM hl hT hdT;refine HF (oe:=oe) (vs:=vs) hfr (mv.eK (λb hb z=>?_) hl) hf ((ig _ _ hTe).trans he) hd (lD.mp h1).1 λh' T' m hT' x=>?_
 ·rcases bq.mp z with z|z
  ·exact hn1 (z▸hb)
  ·exact hn2 ((iI.mp z)▸hb)
 ·exact h h' T' (mv.trans (m.mono (λ_ z=>z) λb z=>by simp at z;simp[z])) (by rw[wR]at hT';exact hT') x
theorem tL(xr:gU s.heap e cls dx T fl)(h:∀h',Moved [] [T] s.heap h'->gU h' e cls dx T .none->Q () {s with heap:=h'}):wpAny M A (setFlight (.ref e) none) Q E s:=by
 obtain⟨⟨oe,vs,he,hc,hdx,hd,h1⟩,hTe,oT,ts,hT,hdT,h3⟩:=xr;have hsz3:3<ts.size:=(lD.mp h3).1;unfold setFlight;refine ai (dX he hd h1 ?_);rw[if_pos (show(Value.ref T != Value.none)=true from by simp)];refine sJ hT hdT hsz3 ?_;have other:∀b,b≠T->(s.heap.update T (Obj.mapFields (·.setIfInBounds 3 ((none:Option Addr).elim Value.none λf=>rawInt f)))).get? b=s.heap.get? b:=λb hb=>ig _ _ (bJ hb)
 have hT':=ik (Obj.mapFields (·.setIfInBounds 3 ((none:Option Addr).elim Value.none λf=>rawInt f))) hT (sC (m9 hdT _));refine h _ ⟨λb o hb _ n=>(other b (λz=>n (by simp[z]))).trans hb,λb o hb _ n=>⟨o.slots,(other b (λz=>n (by simp[z]))).trans hb⟩,λb o hb=>?_,by rw[wR];exact aW _⟩ ?_
 ·by_cases hbT:b=T
  ·subst hbT;exact⟨_,hT'⟩
  ·exact⟨o,(other b hbT).trans hb⟩
 ·exact⟨⟨oe,vs,(other e (bJ hTe)).trans he,hc,hdx,hd,h1⟩,hTe,_,_,hT',m9 hdT _,by simp[hsz3]⟩
theorem Moved.fresh{fs ch:List Addr}{h h1 h2:Heap}(m:Moved fs ch h h1)(m2:Moved [] [T] h1 h2)(hT:h.objs.size<=T):Moved fs ch h h2:=by
 have ne:∀b o,h.get? b=some o->b ∉ [T]:=λb o e z=>by
  have:=aQ e;rw[iI.mp z]at this;exact absurd (c9 this hT) (fu _)
 refine⟨λb o hb n1 n2=>m2.keep b o (m.keep b o hb n1 n2) (λz=>nomatch z) (ne b o hb),λb o hb n1 n2=>?_,λb o hb=>?_,b_ m.size m2.size⟩
 ·obtain⟨sl,e1⟩:=m.slot b o hb n1 n2
  exact⟨sl,m2.keep b _ e1 (λz=>nomatch z) (ne b o hb)⟩
 ·obtain⟨o',e1⟩:=m.there b o hb
  exact m2.there b o' e1
theorem VL(hfr:A.frames=some (env::outer))(hl:s.heap.FunFrames base (env::outer))(hf:env.frame=some L)(he:s.heap.get? e=some oe)(hd:oe.data = .fields vs)(h1:vs[1]? = some .none)
  (h:∀h' T,Moved (frs (env::outer)) [e] s.heap h'->s.heap.objs.size<=T->gU h' e oe.cls oe.dict T .none->Q () {s with heap:=h'}):wpAny M A (leaving env (.ref e)) Q E s:=by
 unfold leaving;exact ai (WN hfr hl hf he hd h1 λh1 T m hT x=>tL x λh2 m2 x2=>h h2 T (m.fresh m2 hT) hT x2)
theorem VM(hfr:A.frames=some (env::outer))(hl:s.heap.FunFrames base (env::outer))(hf:env.frame=some L)(xr:gU s.heap e cls dx T .none)
  (h:∀h' T',Moved (frs (env::outer)) [e,T] s.heap h'->s.heap.objs.size<=T'->gU h' e cls dx T' .none->Q () {s with heap:=h'}):wpAny M A (leaving env (.ref e)) Q E s:=by
 unfold leaving;exact ai (K3 hfr hl hf xr λh1 T m hT x=>tL x λh2 m2 x2=>h h2 T (m.fresh m2 hT) hT x2)
end
def bI(P:Program)(w:World):gQ:=λouter H s E e s'=>∃ea C dx T H',e = .ref ea/\s'.os=s.os/\AllBare s'.gens/\Un (frs outer) [] H H' s.heap s'.heap/\bE P w H' s'.heap/\gU s'.heap ea (.ref C) dx T .none /\
 H' ea=none/\H' T=none/\s.heap.get? ea=none/\s.heap.get? T=none/\E (.ref C) dx H'
theorem tY{P:Program}{w:World}{H:Hp}{h h':Heap}{fs ch:List Addr}(x:bE P w H h)(m:Moved fs ch h h')(nf:∀b∈fs,H b=none)(nc:∀b∈ch,H b=none):bE P w H h':=λb o e=>by
 have no:∀c u,H c=some u->c ∉ fs/\c ∉ ch:=λc u q=>⟨(λz=>by rw[nf c z]at q;cases q),(λz=>by rw[nc c z]at q;cases q)⟩
 refine(x b o e).stay (λc u hc q=>?_) (λ_ q=>q) (λ_ _ q=>q) λ_ _ _ q=>q
 rcases hc with z|z
 ·subst z;exact m.keep c u q (no c _ e).1 (no c _ e).2
 ·exact m.keep c u q (no c _ z).1 (no c _ z).2
section
variable {P:Program} {w:World} {K:W.Frag} {mg:Str->Option Value} {base:Heap} {N:List Str} {qual:Str} {scope:Scope} {f:Addr} {cd:Value} {A:Around} {outer:List Env} {s:Shared} {H:Hp} {E:XK}
theorem aaZ{pins:List (Addr × Obj)}{σ:St}{H1 H2:Hp}{s1:Shared}{h2 h3:Heap}{ch:List Addr}(I:Inv (cp (bI P w) P w K mg base N qual scope f cd A outer s H E) pins σ H1 s1)(un:Un (frs (cp (bI P w) P w K mg base N qual scope f cd A outer s H E).stack) [] H1 H2 s1.heap h2)(m:Moved (frs (cp (bI P w) P w K mg base N qual scope f cd A outer s H E).stack) ch h2 h3)(hc:∀b∈ch,s1.heap.get? b=none):Un (frs outer) [] H H2 s.heap h3:=by
 have jg:Un (frs outer) [] H H1 s.heap s1.heap:=I.base;have sub:∀b o,s.heap.get? b=some o->b ∉ frs outer->b ∉ frs (cp (bI P w) P w K mg base N qual scope f cd A outer s H E).stack:=λb o e n z=>by
  rcases bq.mp (I.rA b z)with q|q
  ·have h1:s.heap.objs.size<=(cp (bI P w) P w K mg base N qual scope f cd A outer s H E).env.locals:=I.ok.above
   have h2:=aQ e;rw[q]at h2;exact absurd (c9 h2 h1) (fu _)
  ·exact n q
 have gI:∀b o,s1.heap.get? b=some o->b ∉ ch:=λb o e z=>by rw[hc b z]at e;cases e
 have nx:∀b:Addr,b ∉ ([]:List Addr):=λb z=>nomatch z
 refine⟨λb o q n hb hx=>?_,λb o q n hb hx=>?_,λb o q n hx=>?_,λb o q hx=>?_,λb xs q=>un.tups b xs (jg.tups b xs q),λb o u q=>un.fQ b o u (jg.fQ b o u q),λb ps q=>?_⟩
 ·have e1:=jg.keep b o q n hb hx
  exact m.keep b o (un.keep b o e1 (jg.free b o q n hx) (sub b o q hb) (nx b)) (sub b o q hb) (gI b o e1)
 ·obtain⟨sl,e1⟩:=jg.slot b o q n hb hx
  obtain⟨sl2,e2⟩:=un.any e1 (jg.free b o q n hx) (nx b);obtain⟨rg,e3⟩:=m.any e2 (gI b _ e1);exact⟨rg,e3⟩
 ·obtain⟨o',e1⟩:=jg.there b o q hx
  exact un.free b o' e1 (jg.free b o q n hx) (nx b)
 ·obtain⟨o',e1⟩:=jg.there b o q hx
  obtain⟨o2,e2⟩:=un.there b o' e1 (nx b);exact m.there b o2 e2
 ·obtain⟨m1,e1⟩:=jg.gC b ps q
  obtain⟨m2,e2⟩:=un.gC b _ e1;exact⟨m1++m2,by rw[e2,Array.append_assoc]⟩
theorem Bo{pins:List (Addr × Obj)}{σ:St}{H1:Hp}{s1:Shared}{b:Addr}(I:Inv (cp (bI P w) P w K mg base N qual scope f cd A outer s H E) pins σ H1 s1)(e:s1.heap.get? b=none):s.heap.get? b=none:=by
 cases q:s.heap.get? b with
 |none=>rfl
 |some o =>
  obtain⟨o',e1⟩:=I.base.there b o q (λz=>nomatch z);rw[e]at e1;cases e1
theorem KY{fs:List Addr}{H1 H2:Hp}{h1 h2:Heap}{b:Addr}(un:Un fs [] H1 H2 h1 h2)(e:h2.objs.size<=b):h1.get? b=none:=by
 cases q:h1.get? b with
 |none=>rfl
 |some o =>
  obtain⟨o',e1⟩:=un.there b o q (λz=>nomatch z);exact absurd (c9 (aQ e1) e) (fu _)
theorem aaj{pins:List (Addr × Obj)}{σ:St}{H1 H2:Hp}{s1:Shared}{h2:Heap}(I:Inv (cp (bI P w) P w K mg base N qual scope f cd A outer s H E) pins σ H1 s1)(un:Un (frs (cp (bI P w) P w K mg base N qual scope f cd A outer s H E).stack) [] H1 H2 s1.heap h2):h2.FunFrames base (cp (bI P w) P w K mg base N qual scope f cd A outer s H E).stack:=
 tM (λb hb o e=>un.any e (I.oY b hb) λz=>nomatch z) I.stack
theorem Og{pins:List (Addr × Obj)}{σ:St}{H1 H2:Hp}{s1:Shared}{h2:Heap}(I:Inv (cp (bI P w) P w K mg base N qual scope f cd A outer s H E) pins σ H1 s1)(un:Un (frs (cp (bI P w) P w K mg base N qual scope f cd A outer s H E).stack) [] H1 H2 s1.heap h2):∀b∈frs (cp (bI P w) P w K mg base N qual scope f cd A outer s H E).stack,H2 b=none:=λb hb=>by
 obtain⟨_,o,ho,_⟩:=I.stack.mem hb;exact un.free b o ho (I.oY b hb) λz=>nomatch z
theorem kQ:Passes (bI P w) (cp (bI P w) P w K mg base N qual scope f cd A outer s H E) E:=by
 intro pins σ H1 s1 e s2 I h;obtain⟨ea,C,dx,T,H2,rfl,os,bare,un,hok,xr,n1,n2,f1,f2,hE⟩:=h;refine VM (base:=base) (A:=(cp (bI P w) P w K mg base N qual scope f cd A outer s H E).A) I.ok.frames (aaj I un) rfl xr λh3 T' m hT x=>?_
 have hc:∀b∈[ea,T],s1.heap.get? b=none:=λb z=>by
  rcases bq.mp z with z|z
  ·rw[z];exact f1
  ·rw[iI.mp z];exact f2
 refine⟨ea,C,dx,T',H2,rfl,os.trans I.os,bare,aaZ I un m hc,tY hok m (Og I un) (λb z=>?_),x,n1,hok.fresh hT,Bo I f1,Bo I (KY un hT),hE⟩
 rcases bq.mp z with z|z
 ·rw[z];exact n1
 ·rw[iI.mp z];exact n2
def Raises(X:Cx)(E:XK):Prop:=∀(pins:List (Addr × Obj)) (σ:St) (H:Hp) (s:Shared) (ea C:Addr) (oe:Obj) (vs:Array Value),Inv X pins σ H s->s.heap.get? ea=some oe->oe.cls = .ref C->oe.data = .fields vs->vs[1]? = some .none ->
 H ea=none->X.s₀.heap.get? ea=none->E (.ref C) oe.dict H->X.xe (.ref ea) s
theorem uS:Raises (cp (bI P w) P w K mg base N qual scope f cd A outer s H E) E:=by
 intro pins σ H1 s1 ea C oe vs I he hc hd h1 hH h0 hE;have un:Un (frs (cp (bI P w) P w K mg base N qual scope f cd A outer s H E).stack) [] H1 H1 s1.heap s1.heap:=Un.refl;refine VL (base:=base) (A:=(cp (bI P w) P w K mg base N qual scope f cd A outer s H E).A) I.ok.frames I.stack rfl he hd h1 λh3 T' m hT x=>?_
 rw[hc]at x;have base':Un (frs outer) [] H H1 s.heap s1.heap:=I.base;refine⟨ea,C,oe.dict,T',H1,rfl,I.os,I.bare,?_,tY I.hok m (Og I un) (λb z=>by rw[iI.mp z];exact hH),x,hH,I.hok.fresh hT,h0,Bo I (wQ hT),hE⟩;have sub:∀b o,s.heap.get? b=some o->b ∉ frs outer->b ∉ frs (cp (bI P w) P w K mg base N qual scope f cd A outer s H E).stack:=λb o e n z=>by
  rcases bq.mp (I.rA b z)with q|q
  ·have h1:s.heap.objs.size<=(cp (bI P w) P w K mg base N qual scope f cd A outer s H E).env.locals:=I.ok.above
   have h2:=aQ e;rw[q]at h2;exact absurd (c9 h2 h1) (fu _)
  ·exact n q
 have gI:∀b o,s.heap.get? b=some o->b ∉ [ea]:=λb o e z=>by rw[iI.mp z]at e;have h0':s.heap.get? ea=none:=h0;rw[h0']at e;cases e
 refine⟨λb o q n hb hx=>m.keep b o (base'.keep b o q n hb hx) (sub b o q hb) (gI b o q),λb o q n hb hx=>?_,base'.free,λb o q hx=>?_,base'.tups,base'.fQ,base'.gC⟩
 ·obtain⟨sl,e1⟩:=base'.slot b o q n hb hx
  obtain⟨rg,e3⟩:=m.any e1 (gI b _ q);exact⟨rg,e3⟩
 ·obtain⟨o',e1⟩:=base'.there b o q hx
  exact m.there b o' e1
end
end L2
namespace L2
open PySem PySem.Spec PyProof.Rows PySem.W
section
variable {prog:Program} {w:World} {A:Around} {E:Value->Shared->Prop} {h:Heap} {g:Array GenState} {d:Drawn} {t:Nat} {os:OsState} {K:Frag} {e D:Addr} {oe:Obj} {od:Option Obj} {name:Str} {g0 a0:Value}
theorem abg{tk:Tok}{Q:Fin->Shared->Prop}(X:K.In h)(I:InstAt h e oe D od)(hf:findObj K D od name=some (.bind g0 a0))(hk:wpAny (model prog w) A (call g0 [a0,.ref e,.ref D]) (λv s'=>Q (.done (.ret v)) s') E ⟨h,g,d,t,os⟩):wpAny (model prog w) A (Builtin.«object.__getattribute__» ⟨[.ref e,.str name tk],[]⟩) Q E ⟨h,g,d,t,os⟩:=by
 have L0:=I.type (M:=model prog w);have L1:=looks_find (M:=model prog w) X I hf;unfold Builtin.«object.__getattribute__»;refine ai (aI (ai (aI (ai (L0.at (ai (L1.at ?_)))))));show wpAny _ _ (holding [a0] (call g0 [a0,.ref e,.ref D]) >>= ret) _ _ _;exact ai (eF (eG hk (λv s' z=>aI z) λ_ _ z=>z))
theorem abf {M:Model} {nameV:Value} {Q:Unit->Shared->Prop} (X:K.In h) (I:InstAt h e oe D od) (hb:mroIn K D (.type "BaseException")=some true) (hq:Q () ⟨h,g,d,t,os⟩) :
  wpAny M A (checkBuiltinCall "BaseException.__getattribute__" ⟨[.ref e,nameV],[]⟩) Q E ⟨h,g,d,t,os⟩:=by
 have hk:builtinKind "BaseException.__getattribute__" = some .slot:=by decide +kernel
 have hsplit:splitId "BaseException.__getattribute__" = some ("BaseException","__getattribute__"):=by decide +kernel
 have ha:=F.args_bexc_ga (.ref e) nameV;have L0:=I.type (M:=M);have L1:=looks_mroIn (M:=M) X hb;simp only[checkBuiltinCall,hk,hsplit];refine ai ?_;unfold isInstance;refine ai (L0.at (L1.at ?_))
 repeat (first|wp_step)
 exact hq
theorem abe {v:Value} {tk:Tok} {fill expr:Bool} {Q:Value->Shared->Prop} (X:K.In h) (I:InstAt h e oe D od) (hga:findIn K (.ref D) "__getattribute__" = some (some (.builtin "BaseException.__getattribute__")))
  (hgt:findIn K (.ref D) "__getattr__" = some none) (hb:mroIn K D (.type "BaseException")=some true)
  (hk:∀A':Around,wpAny (model prog w) A' (Builtin.«object.__getattribute__» ⟨[.ref e,.str name tk],[]⟩) (λfin s'=>match fin with | .done (.ret v)=>wpAny (model prog w) A (handedOut v) Q E s'|_=>False) (λ_ _=>False) ⟨h,g,d,t,os⟩) :
  wpAny (model prog w) A (getAttrBy (.ref e) (.str name tk) fill expr) Q E ⟨h,g,d,t,os⟩:=by
 have L0:=I.type (M:=model prog w);have L1:=looks_findIn (M:=model prog w) X hga;have L2:=looks_findIn (M:=model prog w) X hgt;have f3:=F.attrBase_ValueError.ga.bind (.ref e);have hx0:(expr&&onTheHeap (Value.builtin "BaseException.__getattribute__"))=false:=by cases expr <;> rfl
 have hx2:(Value.builtin "BaseException.__getattribute__" == Value.builtin "object.__getattribute__")=false:=by decide +kernel
 have hx1:(onTheHeap (Value.ref D)&&Value.builtin "BaseException.__getattribute__" == Value.builtin "object.__getattribute__")=false:=by rw[hx2];rfl
 unfold getAttrBy;refine eF (ai (L0.at (ai (L1.at ?_))));dsimp only;rw[if_neg (by rw[hx1];exact Bool.false_ne_true)];unfold getAttrByItsOwn hookBefore;rw[if_pos (show onTheHeap (Value.ref D)=true from rfl)];refine ai (L2.at ?_);refine ai (nh (eF ?_));unfold callGetattribute;rw[if_neg (by rw[hx0];exact Bool.false_ne_true)];unfold boundAndCalled;refine ai (wpAny_of_eq f3 ?_);dsimp only;refine lQ (Gy F.attrBase_ValueError.ga.plain F.entry_bexc_ga (abf X I hb (eG (hk _) (λfin s' z=>?_) λ_ _ z=>z.elim)))
 rcases fin with(_|_|_|_)|_ <;> first|exact z|exact z.elim
theorem abd {s:Shared} {Q:Option Value->Shared->Prop} (X:K.In s.heap) (I:InstAt s.heap e oe D od) (hga:findIn K (.ref D) "__getattribute__" = some (some (.builtin "BaseException.__getattribute__")))
  (hgt:findIn K (.ref D) "__getattr__" = some none) (hb:mroIn K D (.type "BaseException")=some true) (hf:findObj K D od "__class__" = some (.bind (.builtin "getset_descriptor.__get__") (.builtin "object.__class__"))) (hm:mroIn K D (.type "object")=some true)
  (hq:Q (some (.ref D)) {s with toks:=s.toks+1}):wpAny (model prog w) A (getAttr? (.ref e) "__class__") Q E s:=by
 obtain⟨h,g,d,t,os⟩:=s;unfold getAttr? getAttrBy?;refine ai (wpAny_mkText (ai (nh ?_)));refine abe (v:=.none) X I hga hgt hb λA'=>abg X I hf ?_
 exact lQ (class_get X I hm (handed_on rfl (aI hq)))
end
def lE(e C:Addr)(dx:Option Addr):HO:=.ext λh=>∃oe vs,h.get? e=some oe/\oe.cls = .ref C/\oe.dict=dx/\oe.data = .fields vs
theorem RQ{P:Program}{w:World}{H:Hp}{h:Heap}{e C:Addr}{dx:Option Addr}{oe:Obj}{vs:Array Value}(h1:h.get? e=some oe)(h2:oe.cls = .ref C)(h3:oe.dict=dx)(h4:oe.data = .fields vs):bw P w H h e (lE e C dx):=
 ⟨⟨oe,vs,h1,h2,h3,h4⟩,⟨oe,h1⟩,λg1 g2 ⟨o,vs,a,b⟩ k=>⟨o,vs,k o a,b⟩⟩
theorem RP{P:Program}{w:World}{H:Hp}{h:Heap}{e C:Addr}{dx:Option Addr}(ok:bE P w H h)(z:H e=some (lE e C dx)):∃oe vs,h.get? e=some oe/\oe.cls = .ref C/\oe.dict=dx/\oe.data = .fields vs:=
 (show bw P w H h e (lE e C dx)from ok e _ z).1
theorem WY{P:Program}{w:World}{H:Hp}{h:Heap}{a:Addr}{o:HO}(x:bw P w H h a o):∃ob,h.get? a=some ob:=by
 cases o with
 |lst xs=>obtain⟨_,_,_,_,e⟩:=x;exact⟨_,e⟩
 |tup xs=>obtain⟨_,_,_,⟨ob,e,_⟩,_⟩:=x;exact⟨_,e⟩
 |dK kvs=>obtain⟨_,_,_,_,o,_,_,e,_⟩:=x;exact⟨_,e⟩
 |dT kvs=>obtain⟨_,_,_,_,o,_,_,e,_⟩:=x;exact⟨_,e⟩
 |set S n=>obtain⟨o,_,_,_,e,_⟩:=x;exact⟨_,e⟩
 |ins C dx fs=>obtain⟨_,_,_,e,_⟩:=x;exact⟨_,e⟩
 |own y=>obtain⟨_,e⟩:=x;exact⟨_,e⟩
 |xd fs=>obtain⟨_,⟨_,_,_,e,_⟩,_⟩:=x;exact⟨_,e⟩
 |rng lo hi=>obtain⟨_,_,_,e⟩:=x;exact⟨_,e⟩
 |dj ob u=>obtain⟨e,_⟩:=x;exact⟨_,e⟩
 |lu ps=>exact⟨_,(show h.get? a=some _ from x)⟩
 |lam pos qual=>obtain⟨_,e,_⟩:=x;exact⟨_,e⟩
 |met f y=>exact⟨_,(show h.get? a=some _ from x)⟩
 |ext φ=>obtain⟨_,⟨_,e⟩,_⟩:=x;exact⟨_,e⟩
theorem KZ{P:Program}{w:World}{H:Hp}{h:Heap}{a:Addr}(ok:bE P w H h)(e:h.get? a=none):H a=none:=by
 cases q:H a with
 |none=>rfl
 |some o =>
  obtain⟨ob,z⟩:=WY (ok a o q);rw[e]at z;cases z
structure iN (K:W.Frag) (C:Addr):Prop where
 ga:W.findIn K (.ref C) "__getattribute__" = some (some (.builtin "BaseException.__getattribute__"))
 gt:W.findIn K (.ref C) "__getattr__" = some none
 be:W.mroIn K C (.type "BaseException")=some true
 ob:W.mroIn K C (.type "object")=some true
 kl:W.findIn K (.ref C) "__class__" = some (some (.builtin "object.__class__"))
 gs:W.specialIn K (.builtin "object.__class__") "__get__" = some (some (.builtin "getset_descriptor.__get__"))
 tk:W.takesIn K (.builtin "object.__class__")=some true
theorem iN.Aw{K:W.Frag}{C:Addr}(x:iN K C):∃cd,W.clsIn K C=some cd:=by
 obtain⟨cd,a,_⟩:=Option.bind_eq_some_iff.mp x.ob;exact⟨cd,a⟩
theorem iN.find {K:W.Frag} {C:Addr} (x:iN K C) (od:Option Obj):W.findObj K C od "__class__" = some (.bind (.builtin "getset_descriptor.__get__") (.builtin "object.__class__")):=by
 obtain⟨cd,hc⟩:=x.Aw;unfold W.findObj;rw[hc,pG,x.kl,pG];simp[x.gs,x.tk]
theorem Vs{K:W.Frag}{e C:Addr}(cl:iN K C):W.KitX K (.ref e) (.ref C) (λh=>∃oe od,W.InstAt h e oe C od) where
 ty:=λ_ _ _ ⟨_,_,I⟩=>I.type
 it:=λ_ _ X _=>by
  obtain⟨cdD,hcD⟩:=cl.Aw;unfold W.clsIn at hcD
  split at hcD
  ·rename_i c' d' cd' sl' ho
   intro A' Q' E' s' k q;unfold isType loadHead;exact ai (wpAny_loadPart (k _ _ (X _ _ ho)) (aI q))
  ·cases hcD
 ne:=λh tp dd its n sl X htp=>by
  obtain⟨cdD,hcD⟩:=cl.Aw;refine Bool.eq_false_iff.mpr λq=>?_
  have e:C=tp:=Value.ref.inj (il.mp q);subst e;unfold W.clsIn at hcD
  split at hcD
  ·rename_i c' d' cd' sl' ho
   have z:=(X _ _ ho).symm.trans htp;cases z
  ·cases hcD
 ca:=λX ⟨_,od,I⟩ k=>abd X I cl.ga cl.gt cl.be (cl.find od) cl.ob k
def nz(H:Hp)(e C:Addr):Prop:=∃dx,H e=some (lE e C dx)/\∀a,dx=some a->∃fs,H a=some (.xd fs)
theorem abb{P:Program}{w:World}{H:Hp}{h:Heap}{e C:Addr}(ok:bE P w H h)(x:nz H e C):∃oe od,W.InstAt h e oe C od:=by
 obtain⟨dx,z,k⟩:=x;obtain⟨oe,vs,h1,h2,h3,h4⟩:=RP ok z;have nc:W.notCls oe=true:=by unfold W.notCls;rw[h4]
 cases dx with
 |none=>exact⟨oe,none,h1,h2,nc,by rw[h3];trivial⟩
 |some a =>
  obtain⟨fs,q⟩:=k a rfl;obtain⟨_,⟨od,_,_,e1,_⟩,_⟩:=(show bw P w H h a (.xd fs)from ok a _ q);exact⟨oe,some od,h1,h2,nc,by rw[h3];exact e1⟩
def Zt(K:W.Frag)(cv:V)(c:Value):List V->Hp->VK->Prop:=λxs H Q=>∃e C b,xs = [.ref e,cv]/\nz H e C/\iN K C/\W.kitOne K (.ref C) c=some b/\Q (.bl b) H
theorem fA {X:Cx} {K:W.Frag} (cv:V) (c:Value) (rc:∀u,RelV cv u->u=c) (hK:X.K=K):d9 X (.builtin "isinstance") (Zt K cv c):=by
 subst hK;intro pins s σ H xs us Q I r h;obtain⟨e,C,b,rfl,x,cl,k,q⟩:=h;obtain⟨u,v,rfl,ru,rv⟩:=Vals.two r;cases(show u=Value.ref e from ru);cases rc v rv;exact W.kia_one (Vs cl) I.cq (abb I.hok x) k (λz=>nomatch z) λtk=>⟨.bl b,H,I.tok _,rfl,q⟩
abbrev gO:List Value:=[.type "ValueError", .type "Exception", .type "BaseException", .type "object"]
theorem Lb{K:W.Frag}{h:Heap}{mg:Str->Option Value}{x:Str}{C:Addr}{bmB:List Value}{newId:String}(X:K.In h)(e:mg x=some (.ref C))(q:W.excIn K C bmB newId=true):OwnCls x C bmB newId mg h:=by
 refine⟨e,?_⟩;unfold W.excIn at q
 split at q
 ·rename_i dd cd sl ho
  split at q
  ·rename_i C' bm k0 k1 k2 k3 n k5 hm hs
   simp only[bD,il,eN]at q;obtain⟨⟨⟨⟨⟨rfl,rfl⟩,hdel⟩,ht⟩,hok⟩,hni⟩:=q;obtain⟨nm,bs,mro,ns,qn,hd,sn,sub,ab,col,del⟩:=cd;dsimp only at hm hdel hok hni;subst hm hdel;have hsl:sl = #[k0,k1,k2,k3,some (.builtin n),k5]:=by
    obtain⟨l⟩:=sl;simp only at hs;rw[hs]
   subst hsl;exact⟨bm,ns,nm,qn,bs,hd,sn,sub,ab,col,dd,k0,k1,k2,k3,k5,_,X _ _ ho,.of_isNs (W.isNs_of_in X hok),W.nsMap_none_of_in X hok hni,W.tail_of_in X ht⟩
  ·cases q
 ·cases q
def aaF(C:Addr)(E:XK)(ta:TA):TS:=λ_ σ H=>ta σ H λvs H1=>vs.length<=sizeLine/\E (.ref C) none H1
section
variable {X:Cx} {E:XK} {x:Str} {C:Addr} {bmB:List Value} {B newId initId:String} {np cpos pos:Pos} {e0:Expr} {es:List Expr} {ta:TA}
theorem BG(R:Raises X E)(hm:X.mg x=some (.ref C))(q:W.excIn X.K C bmB newId=true)(FB:ExcBaseFacts B newId initId bmB)(calm:X.calm=true)(hex:X.ex = [])(hg:Gl X x)(ha:PA X (e0::es) ta)
  (he:starEach (e0::es) X.env=(false,eval e0 X.env)::starEach es X.env:=by rfl) (hplain:(backTo cpos (starEach es X.env)).any (·.1)=false:=by rfl) (hd:(x == ("__debug__" : Str))=false:=by decide) :
  PS X (.Raise (some (.Call (.Name x np) (e0::es) [] cpos)) none pos) (aaF C E ta):=by
 intro pins s σ H D I h;have O:OwnCls x C bmB newId X.mg X.base:=Lb I.mod.mq hm q;obtain⟨tl,N,nm,q,bs,hdct,sn,sub,ab,col,dd,k0,k1,k2,k3,k5,mN,hC,hN,hni,T⟩:=O.obj;refine wpAny_Raise_call_subT (C:=C) (nm:=nm) (q:=q) (N:=N) (bs:=bs) (bm:=tl) (hdct:=hdct) (sn:=sn) (sub:=sub) (ab:=ab) (col:=col) (dd:=dd) (k0:=k0) (k1:=k1) (k2:=k2) (k3:=k3) (k5:=k5)
  FB (mN:=mN) (T.hasType FB.hasBase) (I.ok.hd calm) (by rw[he];show(false||(backTo cpos (starEach es X.env)).any (·.1))=false;rw[hplain];rfl) hni (kL I hg O.bound ⟨rfl,?_⟩ hd)
 have h':=ha cpos pins s σ H _ I h;rw[he]at h' ⊢;refine su (eG h' (λus s2 ⟨vs,H2,I2,r,hl,q2⟩=>?_) λ_ _ y=>y);refine⟨rfl,by rw[<- r.length];exact hl,I2.bk _ _ hC,hN.keeps I2.bk,T.keeps I2.bk,λh3 e hm=>?_⟩;obtain⟨t,ht,_,_⟩:=hm.there;have I3:Inv X pins σ H2 {s2 with heap:=h3}:=I2.kept (t':=s2.toks) hm.keeps;refine R pins σ H2 _ e C _ _ I3 ht rfl rfl rfl (KZ I2.hok hm.new) ?_ q2;cases z:X.s₀.heap.get? e with
 |none=>rfl
 |some o =>
  obtain⟨o',z'⟩:=I2.base.there e o z (by rw[hex];exact λz=>nomatch z);rw[hm.new]at z';cases z'
end
section
variable {X:Cx} {pins mC:List (Addr × Obj)} {σ:St} {H H1 H2:Hp} {s:Shared} {XE:XK}
abbrev Cx.oK (X:Cx) (pins:List (Addr × Obj)):Cx:={X with pn:=X.pn++pins}
theorem Inv.oK(I:Inv X pins σ H s):Inv (X.oK pins) [] σ H s:=
 ⟨⟨I.ok.mod,I.ok.kind,I.ok.glob,I.ok.blt,I.ok.above,I.ok.inj,I.ok.has,I.ok.cab,I.ok.hd,I.ok.frames,I.ok.stk,I.ok.lY,I.ok.bs,I.ok.fM,I.ok.jr,I.ok.jJ,I.ok.eK,I.ok.gY⟩,
  I.os,I.bare,I.base,I.loc,I.cell,I.free,I.eJ,λp hp=>I.pin p (by simpa using hp),I.hok,I.len⟩
theorem Inv.rD(I:Inv (X.oK pins) mC σ H s):Inv X pins σ H s:=
 ⟨⟨I.ok.mod,I.ok.kind,I.ok.glob,I.ok.blt,I.ok.above,I.ok.inj,I.ok.has,I.ok.cab,I.ok.hd,I.ok.frames,I.ok.stk,I.ok.lY,I.ok.bs,I.ok.fM,I.ok.jr,I.ok.jJ,I.ok.eK,I.ok.gY⟩,
  I.os,I.bare,I.base,I.loc,I.cell,I.free,I.eJ,λp hp=>I.pin p (ko _ hp),I.hok,I.len⟩
def TX(X:Cx)(XE:XK):Value->Shared->Prop:=λex s'=>∃pins σ H1 s1,Inv X pins σ H1 s1/\bI X.prog X.w X.stack H1 s1 XE ex s'
abbrev Cx.Ew (X:Cx) (pins:List (Addr × Obj)) (XE:XK):Cx:=(X.oK pins).wish (TX (X.oK pins) XE)
theorem Li:Passes (bI X.prog X.w) (X.Ew pins XE) XE:=λmC σ H s e s' I h=>⟨mC,σ,H,s,I.hZ,h⟩
abbrev Cx.marked (X:Cx) (e:Addr):Cx:={X with A:=X.A.mark (some (.ref e)),calm:=false,xe:=λ_ _=>False}
theorem Inv.marked{e:Addr}(I:Inv X pins σ H s):Inv (X.marked e) pins σ H s:=
 ⟨⟨I.ok.mod,I.ok.kind,I.ok.glob,I.ok.blt,I.ok.above,I.ok.inj,I.ok.has,I.ok.cab,(λz=>nomatch z),I.ok.frames,I.ok.stk,I.ok.lY,I.ok.bs,I.ok.fM,I.ok.jr,I.ok.jJ,I.ok.eK,I.ok.gY⟩,
  I.os,I.bare,I.base,I.loc,I.cell,I.free,I.eJ,I.pin,I.hok,I.len⟩
theorem Inv.unmarked{e:Addr}(ok:X.Ok)(I:Inv (X.marked e) pins σ H s):Inv X pins σ H s:=
 ⟨ok,I.os,I.bare,I.base,I.loc,I.cell,I.free,I.eJ,I.pin,I.hok,I.len⟩
theorem O7{fs ch:List Addr}{h1 h2 h3:Heap}(un:Un fs [] H1 H2 h1 h2)(m:Moved fs ch h2 h3)(hc:∀b∈ch,h1.get? b=none):Un fs [] H1 H2 h1 h3:=by
 have gI:∀b o,h1.get? b=some o->b ∉ ch:=λb o e z=>by rw[hc b z]at e;cases e
 have nx:∀b:Addr,b ∉ ([]:List Addr):=λb z=>nomatch z
 refine⟨λb o q n hb hx=>m.keep b o (un.keep b o q n hb hx) hb (gI b o q),λb o q n hb hx=>?_,un.free,λb o q hx=>?_,un.tups,un.fQ,un.gC⟩
 ·obtain⟨sl,e1⟩:=un.slot b o q n hb hx
  obtain⟨rg,e3⟩:=m.any e1 (gI b _ q);exact⟨rg,e3⟩
 ·obtain⟨o2,e2⟩:=un.there b o q hx
  exact m.there b o2 e2
theorem Inv.track{ea:Addr}{oe:Obj}{vs:Array Value}{o:HO}(I:Inv X pins σ H s)(he:s.heap.get? ea=some oe)(hd:oe.data = .fields vs)(hn:H ea=none)(h0:X.s₀.heap.get? ea=none)(hp:∀p∈X.pn++pins,p.1≠ea)(new:bw X.prog X.w (upd H ea o) s.heap ea o):Inv X pins σ (upd H ea o) s:=by
 have ne0:∀b ob,X.s₀.heap.get? b=some ob->b≠ea:=λb ob e z=>by rw[z,h0]at e;cases e
 have neT:∀b u,H b=some u->b≠ea:=λb u e z=>by rw[z,hn]at e;cases e
 refine⟨I.ok,I.os,I.bare,⟨I.base.keep,I.base.slot,λb ob e n hx=>?_,I.base.there,λb xs e=>?_,λb u xs e=>?_,λb ps e=>?_⟩,I.loc,I.cell,?_,λx c e=>?_,λp hpp=>?_,λb u e=>?_,I.len⟩
 ·rw[aD (ne0 b ob e)];exact I.base.free b ob e n hx
 ·have q:=I.base.tups b xs e
  rw[aD (neT b _ q)];exact q
 ·have q:=I.base.fQ b u xs e
  rw[aD (neT b _ q)];exact q
 ·obtain⟨more,q⟩:=I.base.gC b ps e
  exact⟨more,by rw[aD (neT b _ q)];exact q⟩
 ·have ne:X.env.locals≠ea:=λz=>by
   obtain⟨m,⟨oL,es,ep,hL,hdL,_⟩,_⟩:=I.loc;rw[z,he]at hL;cases hL;rw[hd]at hdL;cases hdL
  rw[aD ne];exact I.free
 ·have ne:c≠ea:=λz=>by
   obtain⟨v,oc,hc,hdc⟩:=I.cell x c e;rw[z,he]at hc;cases hc;rw[hd]at hdc;cases hdc
  rw[aD ne];exact I.eJ x c e
 ·obtain⟨a,b,c⟩:=I.pin p hpp
  exact⟨a,by rw[aD (hp p hpp)];exact b,c⟩
 ·by_cases z:b=ea
  ·subst z
   rw[ao]at e;cases e;exact new
  ·rw[aD z]at e
   exact(I.hok b u e).stay (λc v _ q=>q) (λc q=>by rw[aD (neT c _ q)];exact q) (λc xs q=>by rw[aD (neT c _ q)];exact q) λc ob u q=>by rw[aD (neT c _ q)];exact q
theorem Inv.gone{i:Nat}{n:Str}{h':Heap}{m':Str->Option Value}(I:Inv X pins σ H s)(hN:X.N.Nodup)(hi:X.N[i]? = some n)(hloc:X.env.scope.names.lookup n=some .local){m:Str->Option Value}(hm:s.heap.Ns X.env.locals m)
  (hn:h'.Ns X.env.locals m') (hm':∀x,x≠n->m' x=m x) (hs:Heap.SameBut X.env.locals s.heap h'):Inv X pins (σ.set i none) H {s with heap:=h',toks:=s.toks+1}:=by
 obtain⟨m0,hn0,hl⟩:=id I.loc;have em:m0=m:=by
  funext x
  obtain⟨o,es,ep,h1,h2,_,h3⟩:=hn0;obtain⟨o',es',ep',h1',h2',_,h3'⟩:=hm;rw[h1]at h1';cases h1';rw[h2]at h2';cases h2';rw[<- h3,<- h3']
 subst em;have hiσ:i<σ.length:=by rw[I.len];exact(bN.mp hi).1
 have iP:=I.iP;have oB:∀b o,X.s₀.heap.get? b=some o->b≠X.env.locals:=λb o e=>bu (c9 (aQ e) I.ok.above)
 refine⟨I.ok,I.os,I.bare,⟨λb o e n hb hx=>?_,λb o e n hb hx=>?_,I.base.free,λb o e hx=>?_,I.base.tups,I.base.fQ,I.base.gC⟩,⟨_,hn,λj y v' e1 e2 e3=>?_⟩,λy c e=>?_,I.free,I.eJ,λp hp=>?_,λb ob e=>?_,by simpa using I.len⟩
 ·exact(hs.2 b (oB b o e)).trans (I.base.keep b o e n hb hx)
 ·obtain⟨sl,e1⟩:=I.base.slot b o e n hb hx
  exact⟨sl,(hs.2 b (oB b o e)).trans e1⟩
 ·obtain⟨o',e1⟩:=I.base.there b o e hx
  exact⟨o',(hs.2 b (oB b o e)).trans e1⟩
 ·by_cases hj:j=i
  ·subst hj
   rw[wz hiσ]at e2;cases e2
  ·rw[rX (bJ hj)]at e2
   obtain⟨u',r',q⟩:=hl j y v' e1 e2 e3;refine⟨u',r',?_⟩
   rcases q with⟨k,e⟩|⟨k,c,e,z⟩
   ·refine .inl ⟨k,?_⟩
    have:y≠n:=λe=>hj (Bn hN e1 (e▸hi))
    rw[hm' y this];exact e
   ·exact .inr ⟨k,c,e,z.sameBut hs (iP y c e)⟩
 ·obtain⟨w',z⟩:=I.cell y c e
  exact⟨w',z.sameBut hs (iP y c e)⟩
 ·obtain⟨e,n,ne,nf,d⟩:=I.pin p hp
  exact⟨(hs.2 p.1 ne).trans e,n,ne,nf,d⟩
 ·have hfree:=I.free
  refine(I.hok b ob e).stay (λc w' hc q=>(hs.2 c ?_).trans q) (λ_ q=>q) (λ_ _ q=>q) λ_ _ _ q=>q
  rintro rfl
  rcases hc with rfl|hc
  ·rw[hfree]at e;cases e
  ·rw[hfree]at hc;cases hc
end
def aaI(XE:XK)(K:W.Frag)(Dc:Addr)(i n:Nat)(tb ts:TS):TS:=λD σ H=>tb D σ H/\∀cls dx H',XE cls dx H'->∃C,cls = .ref C/\W.exmOne K (.ref C) (.ref Dc)=some true /\
 ∀e,H' e=none->ts {nx:=λσ' Px=>D.nx (σ'.set i none) Px,rt:=λ_ _=>False} ((List.replicate n none).set i (some (.ref e))) (upd H' e (lE e C dx))
section
variable {X:Cx} {XE:XK} {body suite:List Stmt} {b0:Stmt} {c n:Str} {np hpos pos:Pos} {i:Nat} {Dc:Addr} {tb ts:TS}
theorem SP.vQ{pins:List (Addr × Obj)}{D:Ends}{f:Flow}{s':Shared}(h:SP (X.Ew pins XE) [] D f s'):SP X pins D f s':=by
 cases f with
 |next=>obtain⟨σ',H',I,q⟩:=h;exact⟨σ',H',I.hZ.rD,q⟩
 |brk=>obtain⟨σ',H',I,q⟩:=h;exact⟨σ',H',I.hZ.rD,q⟩
 |cont=>obtain⟨σ',H',I,q⟩:=h;exact⟨σ',H',I.hZ.rD,q⟩
 |ret u=>obtain⟨v,σ',H',I,r,q⟩:=h;exact⟨v,σ',H',I.hZ.rD,r,q⟩
theorem Y7(hN:X.N.Nodup)(hi:X.N[i]? = some n)(hloc:X.env.scope.names.lookup n=some .local)(hg:Gl X c)(hm:X.mg c=some (.ref Dc))(hst:X.stack=X.env::X.outer)(hf:X.env.frame=some X.env.locals)(TQ:X.ex = [])
  (hb:∀pins,fw (X.Ew pins XE) body tb) (hs:∀e,fw (X.marked e) (b0::suite) ts) (hd:(c == ("__debug__" : Str))=false:=by decide) :
  PS X (.Try body [.ExceptHandler (some (.Name c np)) (some n) (b0::suite) hpos] [] [] pos) (aaI XE X.K Dc i X.N.length tb ts):=by
 intro pins s σ H D I h;refine wpAny_Try_except (eG (hb pins [] s σ H D (I.oK.wish _) h.1) (λf s1 q=>?_) λex s2 hx=>?_)
 ·cases f with
  |next=>exact sG q.vQ
  |brk=>exact q.vQ
  |cont=>exact q.vQ
  |ret u=>exact q.vQ
 obtain⟨mC,σ',H1,s1,I1,ea,C,dx,T,H2,rfl,os,bare,un,hok,xr,n1,n2,f1,f2,hE⟩:=hx;obtain⟨C',hC',hex,hs'⟩:=h.2 _ _ _ hE;cases hC';have hfr:X.A.frames=some (X.env::X.outer):=by rw[<- hst];exact I1.ok.frames
 have nx:∀b:Addr,b ∉ ([]:List Addr):=λb z=>nomatch z
 have hl:s2.heap.FunFrames X.base (X.env::X.outer):=by
  rw[<- hst];exact tM (λb hb o e=>un.any e (I1.oY b hb) (nx b)) I1.stack
 have nf:∀b∈frs X.stack,H2 b=none:=λb hb=>by
  obtain⟨_,o,ho,_⟩:=I1.stack.mem hb;exact un.free b o ho (I1.oY b hb) (nx b)
 have hc:∀b∈[ea,T],s1.heap.get? b=none:=λb z=>by
  rcases bq.mp z with z|z
  ·rw[z];exact f1
  ·rw[iI.mp z];exact f2
 have nc:∀b∈[ea,T],H2 b=none:=λb z=>by
  rcases bq.mp z with z|z
  ·rw[z];exact n1
  ·rw[iI.mp z];exact n2
 have h0:X.s₀.heap.get? ea=none:=by
  cases z:X.s₀.heap.get? ea with
  |none=>rfl
  |some o =>
   obtain⟨o',z'⟩:=I1.base.there ea o z (by show ea ∉ X.ex;rw[TQ];exact nx ea);rw[f1]at z';cases z'
 have hpn:∀p∈X.pn++pins,p.1≠ea:=λp hp z=>by
  have:=(I1.pin p (ko _ hp)).1;rw[z,f1]at this;cases this
 have at_:∀{h5:Heap} {T5:Addr} {fl:Value},Un (frs X.stack) [] H1 H2 s1.heap h5->bE X.prog X.w H2 h5->gU h5 ea (.ref C) dx T5 fl->Inv X pins (List.replicate X.N.length none) (upd H2 ea (lE ea C dx)) {s2 with heap:=h5}:=by
  intro h5 T5 fl un5 Uj x5;obtain⟨hh,gg,dd,tt,oo⟩:=s2;obtain rfl:oo=s1.os:=os;have J:Inv X pins σ' H2 {s1 with heap:=h5,gens:=gg,drawn:=dd,toks:=tt}:=(I1.call (h':=h5) (g':=gg) (d':=dd) (t':=tt) (ch:=[]) un5 Uj bare (λb z=>absurd z (nx b))).rD;obtain⟨oe,vs,e1,e2,e3,e4,_⟩:=x5.ex;exact(J.weak (σ':=List.replicate X.N.length none) (by rw[FH];exact J.len.symm) (λj v q=>by rw[Fz]at q;split at q <;> cases q)).track e1 e4 n1 h0 hpn (RQ e1 e2 e3 e4)
 refine K3 hfr hl hf xr λh3 T' m hT x=>?_
 refine tL x λh4 m4 x4=>?_
 have M4:Moved (frs X.stack) [ea,T] s2.heap h4:=by rw[hst];exact m.fresh m4 hT
 have O6:=O7 un M4 hc;have Jh:=tY hok M4 nf nc;have J4:=at_ O6 Jh x4;obtain⟨oe,vs,e1,e2,e3,e4,_⟩:=x4.ex;refine wpAny_handleBy_cons (codeAny_handlers_test (kL (X:=X.marked ea) J4.marked hg hm ?_ hd)) (by intro q;cases q);have LT:W.Looks (model X.prog X.w) h4 (typeOf (.ref ea)) (.ref C):=e2▸(W.Looks.ld e1).andThen .now;refine W.exm_one (K:=X.K) J4.cq LT hex _ _ _ _ (λ_ _ z=>z) ?_;refine codeAny_handlers_suite_as (tL x4 λh5 m5 x5=>?_);have M5:Moved (frs X.stack) [T'] h4 h5:=m5.mono (λ_ z=>nomatch z) λ_ z=>z
 have fT:∀b∈[T'],s1.heap.get? b=none:=λb z=>by rw[iI.mp z];exact KY un hT
 have J5:=at_ (O7 O6 M5 fT) (tY Jh M5 nf λb z=>by rw[iI.mp z];exact hok.fresh hT) x5;refine Ep J5 hN hi (.inl hloc) (show RelV (.ref ea) (Value.ref ea)from rfl) (λs6 I6 _=>?_) (.inr hloc);refine eG (hs ea pins s6 _ _ _ I6.marked (hs' ea n1)) (λf s7 q7=>?_) λ_ _ z=>False.elim z
 cases f with
 |next =>
  obtain⟨σ7,H7,I7,q⟩:=q7;have I7:=I7.unmarked I.ok;obtain⟨m7,Jf,_⟩:=id I7.loc;refine wpAny_nameGoes_keeps hloc Jf (by rw[I7.ok.kind];rfl) λh8 v Ug Uq=>?_
  exact⟨_,_,I7.gone hN hi hloc Jf Ug (λx hx=>if_neg hx) Uq,q⟩
 |brk=>obtain⟨_,_,_,q⟩:=q7;exact False.elim q
 |cont=>obtain⟨_,_,_,q⟩:=q7;exact False.elim q
 |ret u=>obtain⟨_,_,_,_,_,q⟩:=q7;exact False.elim q
end
structure eP (P:Program) (w:World) (K:W.Frag) (mg:Str->Option Value) (base:Heap) (x:Str) (ps:List Str) (k:Nat) (sp:Sp):Prop where
 ex:∃(f:Addr) (fd:FuncData),aL P w K mg base (bI P w) k f fd ps sp/\mg x=some (.ref f)/\W.keepIn K (.ref f)=true/\Binds K fd ps []
section
variable {X:Cx} {x:Str} {ps:List Str} {k k':Nat} {sp:Sp} {e:Expr} {es:List Expr} {t:TA} {p pos:Pos} {E:XK}
theorem ju (c:eP X.prog X.w X.K X.mg X.base x ps k sp) (px:Passes (bI X.prog X.w) X E) (hr:bR k' X.A) (hg:Gl X x) (ha:PA X (e::es) t) (hk:k<=k':=by decide) (hdb:(x == ("__debug__" : Str))=false:=by decide)
  (he:starEach (e::es) X.env=(false,eval e X.env)::starEach es X.env:=by rfl) (hpl:(backTo pos (starEach es X.env)).any (·.1)=false:=by rfl):PE X (.Call (.Name x p) (e::es) [] pos) (rB sp [] E t):=by
 obtain⟨f,fd,F,hm,kp,b⟩:=c.ex;exact Lj F (hr.mono hk) hg hm kp b .nil px ha hdb he hpl
end
theorem aR.oC{P:Program}{w:World}{K:W.Frag}{mg:Str->Option Value}{base:Heap}{x qual:Str}{st:Stmt}{f:Addr}{fd:FuncData}{N ps:List Str}{k:Nat}{sp:Sp}(F:aR K x qual st f fd)(S:aZ N ps (aA st))(len:∀vs H Q E,sp vs H Q E->vs.length=ps.length)(hbody:∀(cdv:Value) (A:Around) (outer:List Env) (s:Shared) (H:Hp) (vs:List V) (Q:VK) (E:XK),bR k (A.deeper (envOfC qual (aA st) s.heap.objs.size f cdv))->sp vs H Q E->∃t,fw (cp (bI P w) P w K mg base N qual (aA st) f cdv A outer s H E) (gH st) t/\t {nx:=λ_ H'=>Q .non H',rt:=Q} (start N vs) H):aL P w K mg base (bI P w) (k+1) f fd ps sp:=by
 obtain⟨oc,od,kV,doc,pm,an,cdv,ct,osl,rfl,lk,hcd⟩:=F.ex;exact zJ lk hcd S len λA outer s H vs Q E hr hsp=>hbody cdv A outer s H vs Q E hr hsp
def uh:Value->Bool
 |.bool b=>b
 |_=>false
theorem G_:∀{bs:List Bool} {us:List Value},Vals (bs.map V.bl) us->us=bs.map Value.bool
 | [],_,h=>by cases h;rfl
 |b::bs,_,h=>by
  cases h with
  |cons h t=>rw[show _=Value.bool b from h,G_ t];rfl
def Zo(K:W.Frag):V->List V->Hp->VK->Prop:=λx vs H Q=>∃(l:Addr) (bs:List Bool),x = .ref l/\vs = [.bl true]/\ah K H l (bs.map V.bl)/\true∈bs/\Q (.int (bs.idxOf true:Nat)) H
theorem Wj {X:Cx} {K:W.Frag} (hK:X.K=K):pE X "list.index" (Zo K):=by
 subst hK;intro pins s σ H x vs v us Q I rx rv h;obtain⟨l,bs,rfl,rfl,hq,hk,q⟩:=h;cases rx;obtain⟨u,rfl,ru⟩:=rv.one;cases(show u=Value.bool true from ru);obtain⟨its,r,⟨⟨cls,dd,data,sl⟩,n,ho,hc,hdd,hd⟩,hz⟩:=I.list hq;simp only at hc hdd hd;subst hc hdd hd;have hi:=G_ r;subst hi;have hj:bs.idxOf true<bs.length:=pC.mpr hk;have hb:sizeLine<2 ^ 62:=by decide
 rw[az]at hz;refine lO lM ⟨_,ho,rfl⟩ Gr (Gp _ _)
  (Gx l (bs.map Value.bool).toArray n none sl (.bool true) uh (bs.idxOf true) (by simpa using hj) (by omega) ?_ ?_) ⟨ho,λy hy=>?_,?_⟩
 ·show uh ((bs.map Value.bool)[bs.idxOf true]'(by simpa using hj))=true
  rw[jD,pB hj];rfl
 ·intro j hjs hlt
  have hj2:j<bs.length:=by simpa using hjs
  show uh ((bs.map Value.bool)[j]'(by simpa using hj2))=false;rw[jD];show bs[j]=false;have:=PQ (p:=(· == true)) (xs:=bs) (i:=j) hlt;simpa using this
 ·obtain⟨b,_,rfl⟩:=cW.mp (show y∈bs.map Value.bool by simpa using hy)
  have e:uh (.bool b)=(b == true):=by cases b <;> rfl
  rw[e];exact wV b true
 ·exact⟨.int (bs.idxOf true:Nat),H,I.tok _,⟨_,rfl⟩,q⟩
def strOf:Expr->Option Str
 |.Constant (.str i) _ _=>some i
 |_=>none
def strsOf:List Expr->Option (List Str)
 | []=>some []
 |e::r=>(strOf e).bind λi=>(strsOf r).map (i::·)
theorem aak{e:Expr}{i:Str}(h:strOf e=some i):∃k p,e = .Constant (.str i) k p:=by
 cases e with
 |Constant c k p =>
  cases c with
  |str j=>cases h;exact⟨k,p,rfl⟩
  |_=>cases h
 |_=>cases h
theorem Lc{X:Cx}:∀{es:List Expr} (is:List Str),strsOf es=some is->PA X es (λ_ H Q=>Q (is.map V.str) H):=by
 intro es
 induction es with
 |nil =>
  intro is h;cases h;exact ag
 |cons e r ih =>
  intro is h;have h':(strOf e).bind (λi=>(strsOf r).map (i::·))=some is:=h;cases q1:strOf e with
  |none=>rw[q1]at h';cases h'
  |some i =>
   obtain⟨k,p,rfl⟩:=aak q1;rw[q1]at h';cases q:strsOf r with
   |none=>rw[pG,q]at h';cases h'
   |some l =>
    rw[pG,q]at h';cases h';exact ae iB (ih l q)
theorem Qx:bootBuiltins "ValueError" = some (.type "ValueError"):=by decide +kernel
structure kg (mg:Str->Option Value) (a0 a1 a2 a3 a4 a5 a6 a7 a8 a9 a10 a11 a12 a13 a14 aE:Addr):Prop where
 NoChain:mg "NoChain" = some (.ref a0)
 NoClimb:mg "NoClimb" = some (.ref a1)
 NoCount:mg "NoCount" = some (.ref a2)
 NoEnds:mg "NoEnds" = some (.ref a3)
 NoExchange:mg "NoExchange" = some (.ref a4)
 NoJoin:mg "NoJoin" = some (.ref a5)
 NoLine:mg "NoLine" = some (.ref a6)
 NoName:mg "NoName" = some (.ref a7)
 NoNumber:mg "NoNumber" = some (.ref a8)
 NoOrder:mg "NoOrder" = some (.ref a9)
 NoPart:mg "NoPart" = some (.ref a10)
 NoText:mg "NoText" = some (.ref a11)
 NoThing:mg "NoThing" = some (.ref a12)
 NoWord:mg "NoWord" = some (.ref a13)
 NotEven:mg "NotEven" = some (.ref a14)
 ClimbError:mg "ClimbError" = some (.ref aE)
 ve:mg "ValueError" = none
structure rM (K:W.Frag) (a0 a1 a2 a3 a4 a5 a6 a7 a8 a9 a10 a11 a12 a13 a14 aE:Addr):Prop where
 NoChain:W.nsIn K mainGlobals "NoChain" = some (some (.ref a0))
 NoClimb:W.nsIn K mainGlobals "NoClimb" = some (some (.ref a1))
 NoCount:W.nsIn K mainGlobals "NoCount" = some (some (.ref a2))
 NoEnds:W.nsIn K mainGlobals "NoEnds" = some (some (.ref a3))
 NoExchange:W.nsIn K mainGlobals "NoExchange" = some (some (.ref a4))
 NoJoin:W.nsIn K mainGlobals "NoJoin" = some (some (.ref a5))
 NoLine:W.nsIn K mainGlobals "NoLine" = some (some (.ref a6))
 NoName:W.nsIn K mainGlobals "NoName" = some (some (.ref a7))
 NoNumber:W.nsIn K mainGlobals "NoNumber" = some (some (.ref a8))
 NoOrder:W.nsIn K mainGlobals "NoOrder" = some (some (.ref a9))
 NoPart:W.nsIn K mainGlobals "NoPart" = some (some (.ref a10))
 NoText:W.nsIn K mainGlobals "NoText" = some (some (.ref a11))
 NoThing:W.nsIn K mainGlobals "NoThing" = some (some (.ref a12))
 NoWord:W.nsIn K mainGlobals "NoWord" = some (some (.ref a13))
 NotEven:W.nsIn K mainGlobals "NotEven" = some (some (.ref a14))
 ClimbError:W.nsIn K mainGlobals "ClimbError" = some (some (.ref aE))
 ve:W.nsIn K mainGlobals "ValueError" = some none
theorem rM.errs{K:W.Frag}{mg:Str->Option Value}{h:Heap}{a0 a1 a2 a3 a4 a5 a6 a7 a8 a9 a10 a11 a12 a13 a14 aE:Addr}(A:rM K a0 a1 a2 a3 a4 a5 a6 a7 a8 a9 a10 a11 a12 a13 a14 aE)(X:K.In h)(G:h.Ns mainGlobals mg):kg mg a0 a1 a2 a3 a4 a5 a6 a7 a8 a9 a10 a11 a12 a13 a14 aE:=
 ⟨W.mg_of X G A.NoChain,W.mg_of X G A.NoClimb,W.mg_of X G A.NoCount,W.mg_of X G A.NoEnds,W.mg_of X G A.NoExchange,W.mg_of X G A.NoJoin,W.mg_of X G A.NoLine,W.mg_of X G A.NoName,W.mg_of X G A.NoNumber,W.mg_of X G A.NoOrder,W.mg_of X G A.NoPart,W.mg_of X G A.NoText,W.mg_of X G A.NoThing,W.mg_of X G A.NoWord,W.mg_of X G A.NotEven,W.mg_of X G A.ClimbError,W.mg_none_of X G A.ve⟩
structure fL (K:W.Frag) (a0 a1 a2 a3 a4 a5 a6 a7 a8 a9 a10 a11 a12 a13 a14 aE C:Addr) (j:Nat):Prop where
 xc:iN K C
 RT:W.exmOne K (.ref C) (.ref aE)=some true
 ke:W.kitOne K (.ref C) (.ref aE)=some true
 kv:W.kitOne K (.ref C) (.type "ValueError")=some true
 k0:W.kitOne K (.ref C) (.ref a0)=some (decide (0=j))
 k1:W.kitOne K (.ref C) (.ref a1)=some (decide (1=j))
 k2:W.kitOne K (.ref C) (.ref a2)=some (decide (2=j))
 k3:W.kitOne K (.ref C) (.ref a3)=some (decide (3=j))
 k4:W.kitOne K (.ref C) (.ref a4)=some (decide (4=j))
 k5:W.kitOne K (.ref C) (.ref a5)=some (decide (5=j))
 k6:W.kitOne K (.ref C) (.ref a6)=some (decide (6=j))
 k7:W.kitOne K (.ref C) (.ref a7)=some (decide (7=j))
 k8:W.kitOne K (.ref C) (.ref a8)=some (decide (8=j))
 k9:W.kitOne K (.ref C) (.ref a9)=some (decide (9=j))
 k10:W.kitOne K (.ref C) (.ref a10)=some (decide (10=j))
 k11:W.kitOne K (.ref C) (.ref a11)=some (decide (11=j))
 k12:W.kitOne K (.ref C) (.ref a12)=some (decide (12=j))
 k13:W.kitOne K (.ref C) (.ref a13)=some (decide (13=j))
 k14:W.kitOne K (.ref C) (.ref a14)=some (decide (14=j))
theorem nz.same{H H':Hp}{e C:Addr}(x:nz H e C)(s:∀b o,H b=some o->H' b=some o):nz H' e C:=by
 obtain⟨dx,h1,h2⟩:=x;exact⟨dx,s _ _ h1,λa q=>let⟨fs,z⟩:=h2 a q;⟨fs,s _ _ z⟩⟩
end L2
namespace My
open PySem PySem.Spec PyProof.Rows L2
theorem aC.nU{P:Program}{w:World}{K:W.Frag}{mg:Str->Option Value}{base h:Heap}{x:Str}{st:Stmt}{ps:List Str}{k:Nat}{sp:Sp}(A:aC K x st)(X:K.In h)(G:h.Ns mainGlobals mg)(hb:vZ x st ps)(ok:∀{f:Addr} {fd:FuncData},aR K x x st f fd->aL P w K mg base (bI P w) k f fd ps sp):eP P w K mg base x ps k sp:=by
 obtain⟨f,fd,a,F⟩:=A.ex;exact⟨f,fd,ok F,W.mg_of X G a,F.kp,F.binds hb⟩
end My
namespace L2
open PySem PySem.Spec PyProof.Rows
section
variable {prog:Program} {w:World} {A:Around} {E:Value->Shared->Prop} {h:Heap} {g:Array GenState} {d:Drawn} {t:Nat} {os:OsState}
variable {nm q:Str} {C N:Addr} {bs bm bmB:List Value} {hdct:Bool} {sn:List Str} {sub:List Value} {ab:Bool} {col:Option Bool} {dd:Option Addr} {k0 k1 k2 k3 k5:Option Value} {B newId initId:String}
theorem abk(F:ExcBaseFacts B newId initId bmB)(T:OwnTail h bmB bm){mN:Str->Option Value}{rest:List Value}{fI:Addr}{oI:Obj}{Q:Fin->Shared->Prop}
  (hC:h.get? C=some (excClassObj nm q C N bs bm hdct sn sub ab col dd k0 k1 k2 k3 k5 newId)) (hn:h.Ns N mN) (hi:mN "__init__" = some (.ref fI)) (hfI:h.get? fI=some oI) (hfc:oI.cls = .type "function")
  (hq:∀h' e,Heap.MadeExcOf h h' e (.ref C) rest->wpAny (model prog w) A (call (.ref fI) (.ref e::rest)) (λr s'=>r = .none/\Q (.done (.ret (.ref e))) s') E ⟨h',g,d,t,os⟩) (hrest:rest.length<=sizeLine:=by size_fits) :
  wpAny (model prog w) A (Builtin.«type.__call__» ⟨.ref C::rest,[]⟩) Q E ⟨h,g,d,t,os⟩:=by
 repeat (first|with_reducible refine sI hC ?_|with_reducible refine wpAny_madeBy_exc hC ?_|wp_step)
 refine codeAny_call_builtin_code (Gn _ F.quiet) (wpAny_check_new_subT F T hC ?_);refine codeAny_exc_new_subT F T hC ?_ hrest;show wpAny _ _ _ _ _ _;generalize hob:({cls:=.type "tuple", data:=.seq rest.toArray}:Obj)=ob;generalize hoe:({cls:=.ref C,data:=.fields #[.ref h.objs.size,.none,.none,.none,.bool false,.none]}:Obj)=oe;have up:∀b o,h.get? b=some o->((h.push ob).push oe).get? b=some o:=λb o z=>aU _ (aU _ z)
 have hC₁:=up _ _ hC;have hfI₁:=up _ _ hfI;have hn₁:((h.push ob).push oe).Ns N mN:=let⟨o,es,ep,z,r⟩:=hn;⟨o,es,ep,up _ _ z,r⟩
 have hget:((h.push ob).push oe).get? (h.objs.size+1)=some oe:=Gv (by simp only[fJ]) (by rw[<- hoe];rfl);have hgt:((h.push ob).push oe).get? h.objs.size=some ob:=aU _ (Gv rfl (by rw[<- hob];rfl));have hcC:(Value.ref C::bm).contains (.ref C)=true:=by simp
 have T₁:=T.keeps up;have hcl:oe.cls = .ref C:=by rw[<- hoe]
 unfold isInstance
 repeat (first | (with_reducible refine sI hget ?_;rw[hcl]) | (with_reducible refine wpAny_isSubtype_exc hC₁ ?_;rw[hcC])|wp_step)
 show wpAny _ _ (typeLookup (.ref C) _) _ _ _;refine wpAny_typeLookup_tail hC₁ hn₁ T₁ F.mroIs F.init.lookup ?_;rw[hi];refine eF (ai ?_);unfold bindSpecial;refine ai (wpAny_typeOf (T:= "function") ⟨_,hfI₁,hfc⟩ ?_);rw[if_pos (by decide)];refine aI (ai (eG (hq _ (h.objs.size+1) ⟨up,wQ (wJ _),h.objs.size,hget.trans (by rw[hoe]),wQ (aW _),hgt.trans (by rw[hob])⟩) (λr s' hr=>?_) λ_ _ x=>x));obtain⟨rfl,hQ⟩:=hr
 wp_walk
 exact hQ
theorem abh(F:ExcBaseFacts B newId initId bmB)(T:OwnTail h bmB bm){mN:Str->Option Value}{rest:List Value}{fI:Addr}{oI:Obj}{Q:Value->Shared->Prop}
  (hC:h.get? C=some (excClassObj nm q C N bs bm hdct sn sub ab col dd k0 k1 k2 k3 k5 newId)) (hn:h.Ns N mN) (hi:mN "__init__" = some (.ref fI)) (hfI:h.get? fI=some oI) (hfc:oI.cls = .type "function")
  (hq:∀h' e,Heap.MadeExcOf h h' e (.ref C) rest->wpAny (model prog w) (A.under (.builtin "type.__call__" ⟨.ref C::rest,[]⟩)) (call (.ref fI) (.ref e::rest)) (λr s'=>r = .none/\Q (.ref e) s') E ⟨h',g,d,t,os⟩) (hrest:rest.length<=sizeLine:=by size_fits) :
  wpAny (model prog w) A (call (.ref C) rest) Q E ⟨h,g,d,t,os⟩:=by
 have f1:=tc_lookup;have f2:=tc_bind (.ref C);have hT:(⟨h,g,d,t,os⟩:Shared).TypeIs (.ref C) "type" :=⟨_,hC,rfl⟩;refine lQ (codeAny_of_tree ?_);show wpAny _ _ (callAny (.ref C) _) _ _ _
 repeat (any_goals (first|assumption|with_reducible refine sI hC ?_|wp_step))
 refine⟨rfl,codeAny_call_builtin_at (Gn _ (by decide +kernel)) entry_typeCall (wpAny_check_type_call_sub hC (abk (hrest:=hrest) F T hC hn hi hfI hfc λh' e hm=>?_))⟩;exact hq h' e hm
end
section
variable {M:Model} {A:Around} {E:Value->Shared->Prop} {env:Env}
variable {nm q:Str} {C N:Addr} {bs bm:List Value} {hdct:Bool} {sn:List Str} {sub:List Value} {ab:Bool} {col:Option Bool} {dd:Option Addr} {k0 k1 k2 k3 k5:Option Value} {newId:String}
theorem abj {s:Shared} {x:Sem Value} {Q:Flow->Shared->Prop} (hbase:bm.contains (.type "BaseException")=true) (hh:A.handled=none)
  (h:wpAny M A x (λv s₁=>∃e de sl vs,v = .ref e/\s₁.heap.get? C=some (excClassObj nm q C N bs bm hdct sn sub ab col dd k0 k1 k2 k3 k5 newId) /\
   s₁.heap.get? e=some {cls:=.ref C,dict:=de,data:=.fields vs,slots:=sl}/\vs[1]? = some .none/\E (.ref e) s₁) E s) :
  wpAny M A (raiseStmt env (some x) none) Q E s:=by
 have hcB:(Value.ref C::bm).contains (.type "BaseException")=true:=by rw[List.contains_cons,hbase,Bool.or_true]
 unfold raiseStmt;refine ai (eG h (λv s₁ h₁=>?_) λ_ _ x=>x);obtain⟨e,de,sl,vs,rfl,hC,he,h1,hE⟩:=h₁;obtain⟨hp,g,d,tk,os⟩:=s₁
 repeat (first|with_reducible refine dX he rfl h1 ?_|with_reducible refine sI he ?_|with_reducible refine sI hC ?_ | (with_reducible refine wpAny_isSubtype_exc hC ?_;rw[hcB])|wp_step)
 exact wpAny_raiseNew_none hh hE
end
section
variable {prog:Program} {w:World} {A:Around} {E:Value->Shared->Prop} {h:Heap} {g:Array GenState} {d:Drawn} {t:Nat} {os:OsState}
variable {nm q:Str} {C N:Addr} {bs bm bmB:List Value} {hdct:Bool} {sn:List Str} {sub:List Value} {ab:Bool} {col:Option Bool} {dd:Option Addr} {k0 k1 k2 k3 k5:Option Value} {B newId initId:String}
theorem abi(F:ExcBaseFacts B newId initId bmB)(T:OwnTail h bmB bm){e:Addr}{de:Option Addr}{sl:Array (Option Value)}{vs:Array Value}{v:Value}{Q:Value->Shared->Prop}(hC:h.get? C=some (excClassObj nm q C N bs bm hdct sn sub ab col dd k0 k1 k2 k3 k5 newId))(he:h.get? e=some {cls:=.ref C,dict:=de,data:=.fields vs,slots:=sl}){t0:Addr}(h0:vs[0]? = some (.ref t0))
  (hq:∀h' tu,(∀b o,b≠e->h.get? b=some o->h'.get? b=some o)->h'.get? e=some {cls:=.ref C,dict:=de,data:=.fields (vs.setIfInBounds 0 (.ref tu)),slots:=sl}->Q .none ⟨h',g,d,t,os⟩) :
  wpAny (model prog w) A (call (.builtin initId) [.ref e,v]) Q E ⟨h,g,d,t,os⟩:=by
 refine lQ (Gy F.init.plain F.initEntry (wpAny_check_init_subT F T hC he rfl ?_));have hsz:0<vs.size:=(lD.mp h0).1
 wp_walk
 rw[h0]
 wp_walk
 have TL:=aU {cls:=.type "tuple", data:=.seq #[v]} he;refine hq _ h.objs.size (λb o hb z=>?_) ?_
 ·rw[ig _ _ (bJ hb)]
  exact aU _ z
 ·exact ik (Obj.mapFields (·.setIfInBounds 0 (.ref h.objs.size))) TL rfl
end
end L2
namespace L2
open PySem PySem.Spec PyProof.Rows PySem.W
open Builtin Builtin.ObjectAttr
section
variable {prog:Program} {w:World} {A:Around} {E:Value->Shared->Prop} {h:Heap} {g:Array GenState} {d:Drawn} {t:Nat} {os:OsState} {K:Frag} {e C D:Addr} {cd:ClassData} {sl:Array (Option Value)} {vs:Array Value} {name:Str} {v:Value}
theorem abl{Q:Option Addr->Shared->Prop}(X:K.In h)(hcd:clsIn K C=some cd)(hhd:cd.hasDict=true)(he:h.get? e=some {cls:=.ref C,dict:=none,data:=.fields vs,slots:=sl})
  (hq:Q (some h.objs.size) ⟨(h.push {cls:=.type "dict", data:=.dict #[]}).update e λo=>{o with dict:=some h.objs.size},g,d,t,os⟩):wpAny (model prog w) A (instanceDict e true) Q E ⟨h,g,d,t,os⟩:=by
 have LC:=looks_clsIn (M:=model prog w) X hcd;have he₁:(h.push {cls:=.type "dict", data:=.dict #[]}).get? e=some {cls:=.ref C,dict:=none,data:=.fields vs,slots:=sl}:=aU _ he;unfold instanceDict;refine ai (wpAny_loadPart he ?_);dsimp only;refine ai (LC.at ?_);rw[hhd];refine ai (wpAny_alloc' ?_);refine ai (wpAny_update' he₁ ?_);exact aI hq
theorem abm {Q:Unit->Shared->Prop} (X:K.In h) (hcd:clsIn K C=some cd) (hmro:cd.mro = .ref C::.ref D::gO) (hhd:cd.hasDict=true) (hsa:findIn K (.ref C) "__setattr__" = some (some (.builtin "object.__setattr__")))
  (ht:findIn K (.ref C) name=some none) (hob:mroIn K C (.type "object")=some true) (he:h.get? e=some {cls:=.ref C,dict:=none,data:=.fields vs,slots:=sl})
  (hq:∀h' dx tk',(∀b o,b≠e->h.get? b=some o->h'.get? b=some o)->h'.get? e=some {cls:=.ref C,dict:=some dx,data:=.fields vs,slots:=sl}->h.objs.size<=dx->h'.Ns1 dx (λy=>if y=name then some v else none)->Q () ⟨h',g,d,tk',os⟩) :
  wpAny (model prog w) A (setAttr (.ref e) name v) Q E ⟨h,g,d,t,os⟩:=by
 have SF:=PySem.F.store_object;have I:InstAt h e {cls:=.ref C,dict:=none,data:=.fields vs,slots:=sl} C none:=⟨he,rfl,rfl,trivial⟩;have L0:=I.type (M:=model prog w);have L1:=looks_findIn (M:=model prog w) X hsa;have L2:=looks_findIn (M:=model prog w) X ht;have LS:Looks (model prog w) h (isInstance (.ref e) (.type "object")) true:=I.type.andThen (looks_mroIn X hob);have LM:Looks (model prog w) h (mroOf (.ref C)) cd.mro:=(looks_clsIn X hcd).andThen .now;have LC:=looks_clsIn (M:=model prog w) X hcd;have f3:=SF.slot.bind (.ref e);unfold setAttr callSpecial? specialOf
 repeat (any_goals (first|assumption|with_reducible refine L0.at ?_|with_reducible refine L1.at ?_|wp_step))
 refine Gy SF.slot.plain SF.entry (@check_slot (model prog w) _ _ _ "object.__setattr__" "object" "__setattr__" (.ref e) [.str name t,v] [] _ SF.kind SF.split LS (SF.args (.ref e) (.str name t) v) ?_);show wpAny _ _ (Builtin.«object.__setattr__» ⟨[.ref e,.str name t,v],[]⟩) _ _ _;rw[osa_eq,refuse_eq];refine ai (ai (L0.at (ai (LM.at ?_))));rw[hmro,refuseLoop_ref,refuseLoop_ref,PySem.F.store_ValueError.passes];refine aI (ai (L0.at (ai (L2.at (ai (aI ?_))))));show wpAny _ _ (storeInOwnDict (.ref e) (.ref C) (.str name t) name v false) _ _ _;unfold storeInOwnDict;refine ai (aI ?_);rw[if_neg (by simp)];refine ai (abl X hcd hhd he ?_);have he₁:(h.push {cls:=.type "dict", data:=.dict #[]}).get? e=some {cls:=.ref C,dict:=none,data:=.fields vs,slots:=sl}:=aU _ he;have hes:e≠h.objs.size:=bu (aQ he);have hgd:((h.push {cls:=.type "dict", data:=.dict #[]}).update e λo=>{o with dict:=some h.objs.size}).get? h.objs.size=some {cls:=.type "dict", data:=.dict #[]}:=
  (pJ _ _ _ _ hes.symm).trans (Gv rfl rfl)
 have hnd:((h.push {cls:=.type "dict", data:=.dict #[]}).update e λo=>{o with dict:=some h.objs.size}).Ns h.objs.size (λ_=>none):=⟨_,#[],_,hgd,rfl,λx hx=>absurd hx (by simp),λ_=>rfl⟩;show wpAny _ _ (storeInDict h.objs.size (.str name t) name v) _ _ _;unfold storeInDict newKeyGuard;refine ai (aI (ai (wpAny_nsSet1 (Heap.Ns1.of_empty hnd) λh' hn' hs=>?_)));obtain⟨oD,esD,epD,hoD,hdD,hcD⟩:=hn'.count (Within.cons name v Within.nil);refine ai (wpAny_lookBehind hoD (by rw[hdD];exact pastItsLine_dict (b_ hcD (by rw[jE,FG,wY];omega))) ?_)
 wp_walk
 refine hq h' h.objs.size _ (λb o hb z=>?_) ?_ (aW _) ?_
 ·exact(hs.2 b (bu (aQ z))).trans ((pJ _ _ _ _ hb).trans (aU _ z))
 ·exact(hs.2 e hes).trans (ik _ he₁ rfl)
 ·exact hn'
end
def eY(e C:Addr)(dx:Option Addr):HO:=.ext λh=>∃t0 sl vs,h.get? e=some {cls:=.ref C,dict:=dx,data:=.fields vs,slots:=sl}/\vs[0]? = some (.ref t0)/\vs[1]? = some .none
theorem yx{P:Program}{w:World}{H:Hp}{h:Heap}{e C t0:Addr}{dx:Option Addr}{sl:Array (Option Value)}{vs:Array Value}(h1:h.get? e=some {cls:=.ref C,dict:=dx,data:=.fields vs,slots:=sl})(h2:vs[0]? = some (.ref t0))(h3:vs[1]? = some .none):
  bw P w H h e (eY e C dx):=⟨⟨t0,sl,vs,h1,h2,h3⟩,⟨_,h1⟩,λg1 g2 ⟨t0,sl,vs,a,b⟩ k=>⟨t0,sl,vs,k _ a,b⟩⟩
theorem yw{P:Program}{w:World}{H:Hp}{h:Heap}{e C:Addr}{dx:Option Addr}(ok:bE P w H h)(z:H e=some (eY e C dx)):∃t0 sl vs,h.get? e=some {cls:=.ref C,dict:=dx,data:=.fields vs,slots:=sl}/\vs[0]? = some (.ref t0)/\vs[1]? = some .none:=(show bw P w H h e (eY e C dx)from ok e _ z).1
def ji(H:Hp)(e:Addr):Hp:=λb=>if b=e then none else H b
theorem yp{H:Hp}{e:Addr}:ji H e e=none:=by unfold ji;rw[if_pos rfl]
theorem p6{H:Hp}{e b:Addr}(h:b≠e):ji H e b=H b:=by unfold ji;rw[if_neg h]
section
variable {X:Cx} {pins:List (Addr × Obj)} {σ:St} {H:Hp} {s:Shared}
theorem Inv.aa2{e C:Addr}{dx:Option Addr}(I:Inv X pins σ H s)(z:H e=some (eY e C dx))(h0:X.s₀.heap.get? e=none):Inv X pins σ (ji H e) s:=by
 have no:∀{b:Addr},H b=none->ji H e b=none:=λ{b} n=>by
  by_cases hb:b=e
  ·rw[hb];exact yp
  ·rw[p6 hb];exact n
 have nt:∀{b:Addr} {u:HO},H b=some u->(∀φ,u≠.ext φ)->ji H e b=some u:=λ{b u} q nx=>by
  rw[p6]
  ·exact q
  ·intro hb
   rw[hb,z]at q;exact nx _ (da q).symm
 refine⟨I.ok,I.os,I.bare,⟨I.base.keep,I.base.slot,λb o q n hx=>no (I.base.free b o q n hx),I.base.there,λb xs q=>nt (I.base.tups b xs q) (λφ w=>by cases w),λb o u q=>nt (I.base.fQ b o u q) (λφ w=>by cases w),λb ps q=>?_⟩,
  I.loc,I.cell,no I.free,λx c q=>no (I.eJ x c q),λp hp=>?_,λb o q=>?_,I.len⟩
 ·obtain⟨more,q1⟩:=I.base.gC b ps q
  exact⟨more,nt q1 (λφ w=>by cases w)⟩
 ·obtain⟨a,b,c⟩:=I.pin p hp
  exact⟨a,no b,c⟩
 ·have hb:b≠e:=λw=>by rw[w,yp]at q;cases q
  rw[p6 hb]at q;exact(I.hok b o q).stay (λc v _ r=>r) (λc r=>nt r (λφ w=>by cases w)) (λc xs r=>nt r (λφ w=>by cases w)) λc ob u r=>nt r (λφ w=>by cases w)
end
def lF (K:W.Frag) (C fI:Addr):Prop:=∀h:Heap,K.In h->(∃bm N nm q bs hdct sn sub ab col dd k0 k1 k2 k3 k5 mN,h.get? C=some (excClassObj nm q C N bs bm hdct sn sub ab col dd k0 k1 k2 k3 k5 "ValueError.__new__")/\h.Ns N mN/\mN "__init__" = some (.ref fI)/\OwnTail h gO bm) /\
 ∃oI,h.get? fI=some oI/\oI.cls = .type "function"
def Ox(C:Addr)(sp:Sp)(E:XK)(ta:TA):TS:=λ_ σ H=>ta σ H λvs H1=>vs.length<=sizeLine/\∀e,H1 e=none->sp (.ref e::vs) (upd H1 e (eY e C none)) (λv H2=>v = .non/\∃dx,H2 e=some (eY e C dx)/\E (.ref C) dx (ji H2 e)) E0
section
variable {X:Cx} {E:XK} {x:Str} {C fI:Addr} {fd:FuncData} {ps:List Str} {k:Nat} {sp:Sp} {np cpos pos:Pos} {e0:Expr} {es:List Expr} {ta:TA}
theorem Y6(R:Raises X E)(hm:X.mg x=some (.ref C))(ic:lF X.K C fI)(F:aL X.prog X.w X.K X.mg X.base aX k fI fd ps sp)(hr:bR (k+1) X.A)(hb:Binds X.K fd ps [])(calm:X.calm=true)(hex:X.ex = [])(hg:Gl X x)(ha:PA X (e0::es) ta)
  (he:starEach (e0::es) X.env=(false,eval e0 X.env)::starEach es X.env:=by rfl) (hplain:(backTo cpos (starEach es X.env)).any (·.1)=false:=by rfl) (hd:(x == ("__debug__" : Str))=false:=by decide) :
  PS X (.Raise (some (.Call (.Name x np) (e0::es) [] cpos)) none pos) (Ox C sp E ta):=by
 intro pins s σ H D I h;have FB:=sv;obtain⟨⟨bm,N,nm,q,bs,hdct,sn,sub,ab,col,dd,k0,k1,k2,k3,k5,mN,hC,hN,hi,T⟩,oI,hfI,hfc⟩:=ic X.base I.mod.mq;have hbase:bm.contains (.type "BaseException")=true:=T.hasType FB.hasBase;have hpl:(backTo cpos (starEach (e0::es) X.env)).any (·.1)=false:=by rw[he];show(false||(backTo cpos (starEach es X.env)).any (·.1))=false;rw[hplain];rfl
 have h':=ha cpos pins s σ H _ I h;rw[arm_exec_Raise];simp only[evalOpt,Option.map];refine ai (nr (abj (C:=C) (nm:=nm) (q:=q) (N:=N) (bs:=bs) (bm:=bm) (hdct:=hdct) (sn:=sn) (sub:=sub) (ab:=ab) (col:=col) (dd:=dd) (k0:=k0) (k1:=k1) (k2:=k2) (k3:=k3) (k5:=k5) (newId:= "ValueError.__new__") hbase (I.ok.hd calm) ?_));refine ai (eG (wpAny_Call_ofName (kL I hg hm ?_ hd)) (λv s₃ h₃=>ai (nr (aI h₃))) λ_ _ x=>x);unfold callWith;rw[he]at h' hpl ⊢;refine ai (eF (su (eG h' (λus s2 ⟨vs,H2,I2,r,hl,q2⟩=>ai (nr ?_)) λ_ _ y=>y)));simp only[hpl];obtain⟨hp,g,d,tk,os⟩:=s2;have Iu:hp.get? C=_:=I2.bk _ _ hC;have Tj:hp.Ns N mN:=hN.keeps I2.bk;have T2:OwnTail hp gO bm:=T.keeps I2.bk;have TV:hp.get? fI=some oI:=I2.bk _ _ hfI;refine ai (wpAny_keeperOf_exc Iu ?_);rw[FN];refine ai (abh (hrest:=by rw[<- r.length];exact hl) FB T2 Iu Tj hi TV hfc λh3 e hx=>?_);obtain⟨t0,Jn,_,_⟩:=hx.there;have n2:H2 e=none:=KZ I2.hok hx.new;have h0:X.s₀.heap.get? e=none:=by
  cases z:X.s₀.heap.get? e with
  |none=>rfl
  |some o =>
   obtain⟨o',z'⟩:=I2.base.there e o z (by rw[hex];exact λz=>nomatch z);rw[hx.new]at z';cases z'
 have I3:Inv X pins σ H2 ⟨h3,g,d,tk,os⟩:=I2.kept (t':=tk) hx.keeps;have hpn:∀p∈X.pn++pins,p.1≠e:=λp hp z=>by
  have:=(I2.pin p hp).1;rw[z,hx.new]at this;cases this
 have I4:Inv X pins σ (upd H2 e (eY e C none)) ⟨h3,g,d,tk,os⟩:=I3.track Jn rfl n2 h0 hpn (yx Jn rfl rfl);have hq:=q2 e n2;have r2:Vals (V.ref e::vs) (Value.ref e::us):=.cons rfl r;have hl2:(Value.ref e::us++[]).length=ps.length:=by rw[h_,<- r2.length];exact F.len _ _ _ _ hq
 have hb':=hb ⟨h3,g,d,tk,os⟩ (Value.ref e::us) I4.cq hl2;rw[h_]at hb';refine lQ (lP (F.run _ X.stack _ _ ⟨Value.ref e::us,[]⟩ (Value.ref e::us) _ _ E0 (hr.make C us []) (I4.env0.make C us []) hb' r2 hq) λr s' hq'=>?_);cases r with
 |error e'=>exact False.elim hq'
 |ok fl =>
  cases fl with
  |ret u =>
   obtain⟨v,H',I5,rv,ev,dx,hz,hE⟩:=I4.after hq';subst ev;obtain⟨t1,sl,vs',g1,g2,g3⟩:=yw I5.hok hz;exact⟨rv,ai (eF (wpAny_point (aI ⟨e,dx,sl,vs',rfl,I5.bk _ _ hC,g1,g3,R pins σ (ji H' e) s' e C _ vs' (I5.aa2 hz h0) g1 rfl rfl g3 yp h0 hE⟩)))⟩
  |next=>exact False.elim hq'
  |brk=>exact False.elim hq'
  |cont=>exact False.elim hq'
end
structure GK (K:W.Frag) (C:Addr) (f:Str):Prop where
 ex:∃D cd,W.clsIn K C=some cd/\cd.mro = .ref C::.ref D::gO/\cd.hasDict=true
 sa:W.findIn K (.ref C) "__setattr__" = some (some (.builtin "object.__setattr__"))
 no:W.findIn K (.ref C) f=some none
 ob:W.mroIn K C (.type "object")=some true
def ZZ(K:W.Frag)(ta tv:TE)(f:Str):TS:=λD σ H=>tv σ H λy H1=>ta σ H1 λx H2=>∃e C,x = .ref e/\H2 e=some (eY e C none)/\GK K C f/\∀dx,H2 dx=none->D.nx σ (upd (upd H2 dx (.xd [(f,y)])) e (eY e C (some dx)))
section
variable {X:Cx} {o value:Expr} {ta tv:TE} {f:Str} {pos pos':Pos}
theorem Y9(ha:PE X o ta)(hv:PE X value tv)(hs:swapsWith value (some (.Attribute o f pos')) pos.line X.env=pure false):PS X (.Assign [.Attribute o f pos'] value pos) (ZZ X.K ta tv f):=by
 intro pins s σ H D I h;refine Qa (aK (hv pins s σ H _ I h) λu s1 ⟨y,H1,I1,ry,q⟩=>aK (ha pins s1 σ H1 _ I1 q) λov s2 ⟨x,H2,I2,rx,e,C,ex,ee,xs,q2⟩=>?_) hs;subst ex;obtain rfl:ov=Value.ref e:=rx;obtain⟨h,g,d,t,os⟩:=s2;obtain⟨D',cd,hcd,hmro,hhd⟩:=xs.ex;obtain⟨t0,sl,vs,he,v0,v1⟩:=yw I2.hok ee;refine abm I2.cq hcd hmro hhd xs.sa xs.no xs.ob he λh' dx tk' keep he' hdx hns=>?_
 have hn:H2 dx=none:=I2.hok.fresh hdx;have hed:e≠dx:=λz=>by rw[z,hn]at ee;cases ee
 have oth:∀{b:Addr} {u:HO},H2 b=some u->b≠e->upd (upd H2 dx (.xd [(f,y)])) e (eY e C (some dx)) b=some u:=λ{b u} z hb=>by
  rw[aD hb,aD (cV z hn)];exact z
 have ext:∀{b:Addr} {u:HO},H2 b=some u->(∀φ,u≠.ext φ)->b≠e:=λ{b u} z nx hb=>by
  rw[hb,ee]at z;exact nx _ (da z).symm
 have I3:Inv X pins σ (upd (upd H2 dx (.xd [(f,y)])) e (eY e C (some dx))) ⟨h',g,d,tk',os⟩:=by
  refine I2.un (s:=⟨h,g,d,t,os⟩) (h':=h') (t':=tk') ⟨λb ob z n _ _=>keep b ob (λw=>by rw[w,ee]at n;cases n) z,λb ob z n _ _=>⟨ob.slots,keep b ob (λw=>by rw[w,ee]at n;cases n) z⟩,λb ob z n _=>?_,λb ob z _=>?_,
   λb xs z=>oth z (ext z λφ w=>by cases w),λb ob u z=>oth z (ext z λφ w=>by cases w),λb ps z=>⟨#[],by rw[oth z (ext z λφ w=>by cases w)];simp⟩⟩ λb ob z=>?_
  ·rw[aD (λw=>by rw[w,ee]at n;cases n),aD (bu (c9 (aQ z) hdx))]
   exact n
  ·by_cases hb:b=e
   ·rw[hb];exact⟨_,he'⟩
   ·exact⟨ob,keep b ob hb z⟩
  ·by_cases hb:b=e
   ·subst hb
    rw[ao]at z;cases z;exact yx he' v0 v1
   ·rw[aD hb]at z
    by_cases hb2:b=dx
    ·subst hb2
     rw[ao]at z;cases z;refine⟨_,hns,λk=>?_⟩
     by_cases hk:k=f
     ·subst hk
      simp[List.lookup,f7,ry]
     ·have hk':(k == f)=false:=kx.mpr hk
      simp[List.lookup,hk,hk',f7]
    ·rw[aD hb2]at z
     refine(I2.hok b ob z).stay (λc v hc q=>keep c v ?_ q) (λc q=>oth q (ext q λφ w=>by cases w)) (λc xs q=>oth q (ext q λφ w=>by cases w)) λc ob u q=>oth q (ext q λφ w=>by cases w)
     rcases hc with w|w
     ·rw[w];exact hb
     ·exact ext w λφ w=>by cases w
 exact⟨σ,_,I3,q2 dx hn⟩
end
section
variable {X:Cx} {e:Expr} {te:TE} {a:Str} {j} {p1 p2 pos:Pos}
end
def tBI(K:W.Frag)(ta:TA):TE:=λσ H Q=>ta σ H λvs H1=>∃e C fI v,vs = [.ref e,v]/\H1 e=some (eY e C none)/\lF K C fI/\Q .non (upd H1 e (eY e C none))
section
variable {X:Cx} {c:Str} {C0:Addr} {np apos pos:Pos} {e0:Expr} {es:List Expr} {ta:TA}
theorem Yt (hg:Gl X c) (hm:X.mg c=some (.ref C0)) (hr:W.readsIn X.K C0 (.type "type")=true) (hsp:W.specialIn X.K (.ref C0) "__getattribute__" = some (some (.builtin "type.__getattribute__")))
  (hf:W.findCls X.K (.ref C0) (.type "type") "__init__" = some (.val (.builtin "ValueError.__init__"))) (ha:PA X (e0::es) ta) {pl:Sem Bool}
  (ht:eval (.Call (.Attribute (.Name c np) "__init__" apos) (e0::es) [] pos) X.env=(do
   let ov <- eval (.Name c np) X.env
   standAt apos.atName
   let(f,first) <- holding [ov] (getMethod ov "__init__" pl)
   callWith pos f first (backTo pos (starEach (e0::es) X.env)) (backToKw pos (keywordEach [] X.env))):=by rfl)
  (he:starEach (e0::es) X.env=(false,eval e0 X.env)::starEach es X.env:=by rfl) (hpl:(backTo pos (starEach es X.env)).any (·.1)=false:=by rfl) (hd:(c == ("__debug__" : Str))=false:=by decide) :
  PE X (.Call (.Attribute (.Name c np) "__init__" apos) (e0::es) [] pos) (tBI X.K ta):=by
 intro pins s σ H Q I h;have FB:=sv;refine W.methodCall_KW (pl:=pl) (kL I hg hm (W.method_cls I.cq hsp (W.cls_value I.cq hr hf (by decide +kernel) ?_)) hd) ht;have I1:=I.tok (s.toks+1);have h':=ha pos pins _ σ H _ I1 h;rw[he]at h' ⊢;refine Gj (by show(false||(backTo pos (starEach es X.env)).any (·.1))=false;rw[hpl];rfl) (su (eG h' (λus s2 ⟨vs,H2,I2,r,e,C,fI,v,ev,ee,ic,q2⟩=>?_) λ_ _ y=>y));subst ev;obtain⟨u,v',rfl,ru,rv⟩:=Vals.two r;cases(show u=Value.ref e from ru);obtain⟨⟨bm,N,nm,q,bs,hdct,sn,sub,ab,col,dd,k0,k1,k2,k3,k5,mN,hC,hN,hi,T⟩,_⟩:=ic s2.heap I2.cq;obtain⟨t0,sl,ws,hee,v0,v1⟩:=yw I2.hok ee;obtain⟨hp,g,d,tk,os⟩:=s2;refine abi FB T hC hee v0 λh3 tu keep Jc=>?_
 have hz:0<ws.size:=(lD.mp v0).1;have I3:Inv X pins σ (upd H2 e (eY e C none)) ⟨h3,g,d,tk,os⟩:=I2.write (x:=e) (e:=e) (t':=tk) (h':=h3) (by rw[ee];trivial) (.inl rfl) keep ⟨_,Jc⟩ (yx (t0:=tu) Jc (by simp[hz]) (by rw[Array.getElem?_setIfInBounds_ne (by decide)];exact v1));exact⟨.non,_,I3,rfl,q2⟩
end
section
variable {X:Cx} {o:Expr} {te:TE} {f:Str} {pos:Pos}
end
theorem WR{K:W.Frag}{h:Heap}{N:Addr}{x:Str}{v:Value}(X:K.In h)(e:W.nsIn K N x=some (some v)):h.nsMap N x=some v:=by
 unfold W.nsIn at e
 split at e
 ·rename_i c d es ep sl ho
  unfold Heap.nsMap;rw[X _ _ ho];dsimp only;unfold nsFind findBy;rw[<- Array.find?_toList]
  split at e
  ·rename_i y hy
   rw[hy];exact da e
  ·split at e <;> cases e
 ·cases e
def JT(e:DictEntry):Bool:=match e.key with
 |.str _ _=>true
 |_=>false
theorem WT{K:W.Frag}{N:Addr}{cN:Value}{dN:Option Addr}{es:Array DictEntry}{ep:Nat}{Dg:Array (Option Value)}(n:List.lookup N K=some ⟨cN,dN,.dict es ep,Dg⟩)(k:es.toList.all JT=true):W.nsOkIn K N=true:=by
 unfold W.nsOkIn;rw[n];rw[Array.all_toList]at k;exact k
theorem U6{K:W.Frag}{C N fI aE:Addr}{nm q:Str}{bs:List Value}{hdct:Bool}{sn:List Str}{sub:List Value}{ab:Bool}{col:Option Bool}{dd:Option Addr}{k0 k1 k2 k3 k5:Option Value}
  (l:List.lookup C K=some (excClassObj nm q C N bs (.ref aE::gO) hdct sn sub ab col dd k0 k1 k2 k3 k5 "ValueError.__new__")) (ok:W.nsOkIn K N=true) (i:W.nsIn K N "__init__" = some (some (.ref fI)))
  (x:W.excIn K aE gO "ValueError.__new__" = true) (f:W.isFn K (.ref fI)=true):lF K C fI:=by
 intro h X;refine⟨⟨_,N,nm,q,bs,hdct,sn,sub,ab,col,dd,k0,k1,k2,k3,k5,h.nsMap N,X _ _ l,.of_isNs (W.isNs_of_in X ok),WR X i,?_⟩,?_⟩
 ·obtain⟨_,tl,N',nm',q',bs',hd',sn',sub',ab',col',pX,j0,j1,j2,j3,j5,mN,hC,hN,hni,T⟩:=Lb (x:=Str.empty) (mg:=λ_=>some (.ref aE)) X rfl x
  exact .own hC hN hni .base
 ·unfold W.isFn W.typeIn at f
  have f:Option.map (λx=>x.cls) (List.lookup fI K)=some (Value.type "function"):=il.mp f;cases z:List.lookup fI K with
  |none=>rw[z]at f;cases f
  |some o=>rw[z]at f;exact⟨o,X _ _ z,da f⟩
structure rK (P:Program) (w:World) (K:W.Frag) (mg:Str->Option Value) (base:Heap) (C:Addr) (x:Str) (ps:List Str) (k:Nat) (sp:Sp):Prop where
 ex:∃(f:Addr) (fd:FuncData),aL P w K mg base aX k f fd ps sp/\lF K C f/\mg x=some (.ref C)/\Binds K fd ps []
section
variable {X:Cx} {E:XK} {x:Str} {C:Addr} {ps:List Str} {k k':Nat} {sp:Sp} {np cpos pos:Pos} {e0:Expr} {es:List Expr} {ta:TA}
theorem Y5(c:rK X.prog X.w X.K X.mg X.base C x ps k sp)(R:Raises X E)(hr:bR k' X.A)(calm:X.calm=true)(hex:X.ex = [])(hg:Gl X x)(ha:PA X (e0::es) ta)(hk:k+1<=k':=by decide)
  (he:starEach (e0::es) X.env=(false,eval e0 X.env)::starEach es X.env:=by rfl) (hplain:(backTo cpos (starEach es X.env)).any (·.1)=false:=by rfl) (hd:(x == ("__debug__" : Str))=false:=by decide) :
  PS X (.Raise (some (.Call (.Name x np) (e0::es) [] cpos)) none pos) (Ox C sp E ta):=by
 obtain⟨f,fd,F,ic,hm,b⟩:=c.ex;exact Y6 R hm ic F (hr.mono hk) b calm hex hg ha he hplain hd
end
structure Fp (K:W.Frag) (C:Addr) (fld:Str):Prop where
 xs:GK K C fld
 hd:W.hasDictIn K C=true
 ng:W.noGet K none=true
structure vY (K:W.Frag) (aE:Addr):Prop where
 rd:W.readsIn K aE (.type "type")=true
 sp:W.specialIn K (.ref aE) "__getattribute__" = some (some (.builtin "type.__getattribute__"))
 fc:W.findCls K (.ref aE) (.type "type") "__init__" = some (.val (.builtin "ValueError.__init__"))
def vt(C:Addr)(fld:Str)(ok:V->Hp->Prop):Sp:=λvs H Q _=>∃(e:Addr) (v:V),vs = [.ref e,v]/\H e=some (eY e C none)/\ok v H /\
 ∀dx H',H dx=none->H' e=some (eY e C (some dx))->H' dx=some (.xd [(fld,v)])->(∀b,b≠e->b≠dx->H' b=H b)->Q .non H'
theorem ZJ{C:Addr}{fld:Str}{ok:V->Hp->Prop}{E:XK}{H:Hp}{v:V}{e:Addr}(hv:∀H',(∀b o,H b=some o->H' b=some o)->ok v H')(he:H e=none)(k:∀dx H',(∀b o,H b=some o->H' b=some o)->H' dx=some (.xd [(fld,v)])->E (.ref C) (some dx) H'):vt C fld ok [.ref e,v] (upd H e (eY e C none)) (λu H2=>u = .non/\∃dx,H2 e=some (eY e C dx)/\E (.ref C) dx (ji H2 e)) E0:=by
 refine⟨e,v,rfl,ao,hv _ λb o q=>by rw[aD (cV q he)];exact q,λdx H' h1 h2 h3 h4=>⟨rfl,some dx,h2,k dx _ (λb o q=>?_) ?_⟩⟩
 ·have hb:b≠e:=cV q he
  have hb2:b≠dx:=λz=>by rw[z]at hb q;rw[aD hb,q]at h1;cases h1
  rw[p6 hb,h4 b hb hb2,aD hb];exact q
 ·have hne:dx≠e:=λz=>by rw[z,ao]at h1;cases h1
  rw[p6 hne];exact h3
end L2
namespace My
open PySem PySem.Spec PyProof.Rows L2
structure mM (K:W.Frag) (qual fld:Str) (st:Stmt) (C:Addr):Prop where
 ex:∃(f:Addr) (fd:FuncData),aR K "__init__" qual st f fd/\lF K C f
 fl:Fp K C fld
theorem mM.mk'{cN:Value}{dN:Option Addr}{es:Array DictEntry}{ep:Nat}{Dg:Array (Option Value)}{K:W.Frag}{qual fld:Str}{st:Stmt}{C N f aE:Addr}{nm q:Str}{bs:List Value}{sn:List Str}{sub:List Value}{ab:Bool}{col:Option Bool}{dd:Option Addr}{oc:Value}{od an:Option Addr}{osl:Array (Option Value)}{kV doc pm cdv ct:Value}{j0 j1 j2 j3 j5:Option Value}
  (l:List.lookup C K=some (excClassObj nm q C N bs (.ref aE::gO) true sn sub ab col dd j0 j1 j2 j3 j5 "ValueError.__new__")) (ns:List.lookup N K=some ⟨cN,dN,.dict es ep,Dg⟩) (sk:es.toList.all JT=true) (i:W.nsIn K N "__init__" = some (some (.ref f))) (x:W.excIn K aE gO "ValueError.__new__" = true) (fn:W.isFn K (.ref f)=true)
  (lf:List.lookup f K=some ⟨oc,od,.func (W.fnOf "__init__" qual (iQ st) (gH st) (aA st) .none kV doc pm an cdv ct),osl⟩) (c:W.codeIn K cdv qual=true) (k:W.keepIn K (.ref f)=true)
  (sa:W.findIn K (.ref C) "__setattr__" = some (some (.builtin "object.__setattr__"))) (no:W.findIn K (.ref C) fld=some none) (ob:W.mroIn K C (.type "object")=some true) (hd:W.hasDictIn K C=true) (ng:W.noGet K none=true):mM K qual fld st C:=
 ⟨⟨f,_,zN lf c k,U6 l (WT ns sk) i x fn⟩,⟨⟨⟨aE,_,by unfold W.clsIn;rw[l],rfl,rfl⟩,sa,no,ob⟩,hd,ng⟩⟩
theorem mM.cal{P:Program}{w:World}{K:W.Frag}{mg:Str->Option Value}{base:Heap}{x qual fld:Str}{st:Stmt}{C:Addr}{ps:List Str}{k:Nat}{sp:Sp}(A:mM K qual fld st C)(hm:mg x=some (.ref C))
  (hb:∀(kV doc pm:Value) (an:Option Addr) (cdv ct:Value) (us:List Value),us.length=ps.length->bindArgs (W.fnOf "__init__" qual (iQ st) (gH st) (aA st) .none kV doc pm an cdv ct) ⟨us,[]⟩=pure (ps.zip us))
  (ok:∀{f:Addr} {fd:FuncData},aR K "__init__" qual st f fd->lF K C f->aL P w K mg base aX k f fd ps sp):rK P w K mg base C x ps k sp:=by
 obtain⟨f,fd,F,ic⟩:=A.ex;exact⟨f,fd,ok F ic,ic,hm,F.binds hb⟩
def lX:List Str:=["NoChain","NoClimb","NoCount","NoEnds","NoExchange","NoJoin","NoLine","NoName","NoNumber","NoOrder","NoPart","NoText","NoThing","NoWord","NotEven"]
def eI(j:Nat):List Bool:=[decide (0=j),decide (1=j),decide (2=j),decide (3=j),decide (4=j),decide (5=j),decide (6=j),decide (7=j),decide (8=j),decide (9=j),decide (10=j),decide (11=j),decide (12=j),decide (13=j),decide (14=j)]
theorem Sb:∀j<15,((eI j).filter id).length=1/\(eI j).idxOf true=j/\true∈eI j:=by decide
section
variable {P:Program} {w:World} {K:W.Frag} {mg:Str->Option Value} {base:Heap} {f:Addr} {fd:FuncData} {a0 a1 a2 a3 a4 a5 a6 a7 a8 a9 a10 a11 a12 a13 a14 aE:Addr}
def Dk (Rz:Addr->Nat->Prop):Sp:=λvs H Q _=>∃(e C:Addr) (j:Nat),vs = [.ref e]/\nz H e C/\Rz C j/\j<15/\∀H',Same H H'->Q (.str (lX.getD j "")) H'
abbrev dP:Stmt:=top 64
theorem M6:aZ ["_law_e","_law_found","_law_words"] ["_law_e"] (aA dP):=⟨rfl,rfl,rfl,by decide +kernel,rfl,by decide +kernel,by decide +kernel⟩
theorem Sr:(aA dP).names.lookup ("ClimbError" : Str)=some .globalImplicit:=by decide +kernel
theorem Ss:(aA dP).names.lookup ("NoChain" : Str)=some .globalImplicit:=by decide +kernel
theorem Sv:(aA dP).names.lookup ("NoClimb" : Str)=some .globalImplicit:=by decide +kernel
theorem Sw:(aA dP).names.lookup ("NoCount" : Str)=some .globalImplicit:=by decide +kernel
theorem Sx:(aA dP).names.lookup ("NoEnds" : Str)=some .globalImplicit:=by decide +kernel
theorem Sy:(aA dP).names.lookup ("NoExchange" : Str)=some .globalImplicit:=by decide +kernel
theorem Sz:(aA dP).names.lookup ("NoJoin" : Str)=some .globalImplicit:=by decide +kernel
theorem SJ:(aA dP).names.lookup ("NoLine" : Str)=some .globalImplicit:=by decide +kernel
theorem SN:(aA dP).names.lookup ("NoName" : Str)=some .globalImplicit:=by decide +kernel
theorem SQ:(aA dP).names.lookup ("NoNumber" : Str)=some .globalImplicit:=by decide +kernel
theorem SX:(aA dP).names.lookup ("NoOrder" : Str)=some .globalImplicit:=by decide +kernel
theorem S0:(aA dP).names.lookup ("NoPart" : Str)=some .globalImplicit:=by decide +kernel
theorem S1:(aA dP).names.lookup ("NoText" : Str)=some .globalImplicit:=by decide +kernel
theorem S2:(aA dP).names.lookup ("NoThing" : Str)=some .globalImplicit:=by decide +kernel
theorem S3:(aA dP).names.lookup ("NoWord" : Str)=some .globalImplicit:=by decide +kernel
theorem S4:(aA dP).names.lookup ("NotEven" : Str)=some .globalImplicit:=by decide +kernel
theorem S5:(aA dP).names.lookup ("ValueError" : Str)=some .globalImplicit:=by decide +kernel
theorem fD:(aA dP).names.lookup ("isinstance" : Str)=some .globalImplicit:=by decide +kernel
theorem Xa (F:aR K "_law_class" "_law_class" dP f fd) (T:Txt mg) (Er:kg mg a0 a1 a2 a3 a4 a5 a6 a7 a8 a9 a10 a11 a12 a13 a14 aE) :
  aL P w K mg base aX 1 f fd ["_law_e"] (Dk λC j=>fL K a0 a1 a2 a3 a4 a5 a6 a7 a8 a9 a10 a11 a12 a13 a14 aE C j):=by
 refine F.ok M6 (λvs H Q E h=>?_) (λcdv A outer s H vs Q E hr h=>?_)
 ·obtain⟨e,C,j,rfl,_⟩:=h
  rfl
 ·obtain⟨e,C,j,rfl,hx,hR,hj,kk⟩:=h
  have nd:=M6.nd;refine⟨_,(au (aJ (i:=1) nd rfl (Or.inl rfl) (bG (ae (bx (fA (K:=K) (.ref a0) (.ref a0) (λ_ z=>z) rfl) fD T.isinstance eE (ae (pv 0) (ae (fH (v:=.ref a0) Ss Er.NoChain rfl) ag))) (ae (bx (fA (K:=K) (.ref a1) (.ref a1) (λ_ z=>z) rfl) fD T.isinstance eE (ae (pv 0) (ae (fH (v:=.ref a1) Sv Er.NoClimb rfl) ag))) (ae (bx (fA (K:=K) (.ref a2) (.ref a2) (λ_ z=>z) rfl) fD T.isinstance eE (ae (pv 0) (ae (fH (v:=.ref a2) Sw Er.NoCount rfl) ag))) (ae (bx (fA (K:=K) (.ref a3) (.ref a3) (λ_ z=>z) rfl) fD T.isinstance eE (ae (pv 0) (ae (fH (v:=.ref a3) Sx Er.NoEnds rfl) ag))) ag (av nofun)) (av nofun)) (av nofun)) (av nofun))))
   (au (aJ (i:=1) nd rfl (Or.inl rfl) (ay dk (pv 1) (bG (ae (bx (fA (K:=K) (.ref a4) (.ref a4) (λ_ z=>z) rfl) fD T.isinstance eE (ae (pv 0) (ae (fH (v:=.ref a4) Sy Er.NoExchange rfl) ag))) (ae (bx (fA (K:=K) (.ref a5) (.ref a5) (λ_ z=>z) rfl) fD T.isinstance eE (ae (pv 0) (ae (fH (v:=.ref a5) Sz Er.NoJoin rfl) ag))) (ae (bx (fA (K:=K) (.ref a6) (.ref a6) (λ_ z=>z) rfl) fD T.isinstance eE (ae (pv 0) (ae (fH (v:=.ref a6) SJ Er.NoLine rfl) ag))) (ae (bx (fA (K:=K) (.ref a7) (.ref a7) (λ_ z=>z) rfl) fD T.isinstance eE (ae (pv 0) (ae (fH (v:=.ref a7) SN Er.NoName rfl) ag))) ag (av nofun)) (av nofun)) (av nofun)) (av nofun)))))
   (au (aJ (i:=1) nd rfl (Or.inl rfl) (ay dk (pv 1) (bG (ae (bx (fA (K:=K) (.ref a8) (.ref a8) (λ_ z=>z) rfl) fD T.isinstance eE (ae (pv 0) (ae (fH (v:=.ref a8) SQ Er.NoNumber rfl) ag))) (ae (bx (fA (K:=K) (.ref a9) (.ref a9) (λ_ z=>z) rfl) fD T.isinstance eE (ae (pv 0) (ae (fH (v:=.ref a9) SX Er.NoOrder rfl) ag))) (ae (bx (fA (K:=K) (.ref a10) (.ref a10) (λ_ z=>z) rfl) fD T.isinstance eE (ae (pv 0) (ae (fH (v:=.ref a10) S0 Er.NoPart rfl) ag))) (ae (bx (fA (K:=K) (.ref a11) (.ref a11) (λ_ z=>z) rfl) fD T.isinstance eE (ae (pv 0) (ae (fH (v:=.ref a11) S1 Er.NoText rfl) ag))) ag (av nofun)) (av nofun)) (av nofun)) (av nofun)))))
   (au (aJ (i:=1) nd rfl (Or.inl rfl) (ay dk (pv 1) (bG (ae (bx (fA (K:=K) (.ref a12) (.ref a12) (λ_ z=>z) rfl) fD T.isinstance eE (ae (pv 0) (ae (fH (v:=.ref a12) S2 Er.NoThing rfl) ag))) (ae (bx (fA (K:=K) (.ref a13) (.ref a13) (λ_ z=>z) rfl) fD T.isinstance eE (ae (pv 0) (ae (fH (v:=.ref a13) S3 Er.NoWord rfl) ag))) (ae (bx (fA (K:=K) (.ref a14) (.ref a14) (λ_ z=>z) rfl) fD T.isinstance eE (ae (pv 0) (ae (fH (v:=.ref a14) S4 Er.NotEven rfl) ag))) ag (av nofun)) (av nofun)) (av nofun)))))
   (au (bz (PW.pt (mD (iD (dY (bx (fA (K:=K) (.ty "ValueError") (.type "ValueError") (λ_ z=>z) rfl) fD T.isinstance eE (ae (pv 0) (ae (qM (v:=.ty "ValueError") S5 Er.ve Qx rfl) ag))))) (mD (iD (dY (bx (fA (K:=K) (.ref aE) (.ref aE) (λ_ z=>z) rfl) fD T.isinstance eE (ae (pv 0) (ae (fH (v:=.ref aE) Sr Er.ClimbError rfl) ag))))) (oN (bC iA (bx (fh (K:=K) rfl) rfl T.len fz (ae (dc (own:=["_law_one"]) (fr:=[]) rfl (cj (aA dP) ["_law_e","_law_found","_law_words"] rfl rfl (by decide +kernel)) (dM (K:=K) rfl (pv 1)) (λ_ _ _ _=>⟨(a_ (i:=0) (by decide +kernel:(["_law_one"]:List Str).Nodup) rfl (Or.inl rfl)),(kU (dY (pv 0))),(pv 0)⟩)) ag)) ak (bj _)))))) (ax (aV iB)) bH)
   (au (aJ (i:=2) nd rfl (Or.inl rfl) (bG (Lc ["NoChain","NoClimb","NoCount","NoEnds","NoExchange","NoJoin","NoLine","NoName","NoNumber"] rfl)))
   (ax (aV (aq (aS (K:=K) rfl) (ay dk (pv 2) (bG (Lc ["NoOrder","NoPart","NoText","NoThing","NoWord","NotEven"] rfl))) (dJ (K:=K) rfl dU lM sy (Wj (K:=K) rfl) (pv 1) (ae jW ag)) (λ_ _=>rfl)))))))))),?_⟩
  refine⟨_,rfl,e,C,_,rfl,hx,hR.xc,hR.k0,_,rfl,e,C,_,rfl,hx,hR.xc,hR.k1,_,rfl,e,C,_,rfl,hx,hR.xc,hR.k2,_,rfl,e,C,_,rfl,hx,hR.xc,hR.k3,by show 4<=sizeLine;decide,λl1 hl1=>?_⟩;have s1:Same H (upd H l1 (.lst [.bl (decide (0=j)),.bl (decide (1=j)),.bl (decide (2=j)),.bl (decide (3=j))])):=Same.put hl1;have q1:(upd H l1 (.lst [.bl (decide (0=j)),.bl (decide (1=j)),.bl (decide (2=j)),.bl (decide (3=j))])) l1=some (.lst [.bl (decide (0=j)),.bl (decide (1=j)),.bl (decide (2=j)),.bl (decide (3=j))]):=ao;generalize upd H l1 (.lst [.bl (decide (0=j)),.bl (decide (1=j)),.bl (decide (2=j)),.bl (decide (3=j))])=H1 at s1 q1 ⊢;have hx1:=hx.same s1;refine⟨_,rfl,_,rfl,e,C,_,rfl,hx1,hR.xc,hR.k4,_,rfl,e,C,_,rfl,hx1,hR.xc,hR.k5,_,rfl,e,C,_,rfl,hx1,hR.xc,hR.k6,_,rfl,e,C,_,rfl,hx1,hR.xc,hR.k7,by show 4<=sizeLine;decide,λl2 hl2=>⟨l1,l2,_,_,rfl,rfl,Same.put hl2 _ _ q1,ao,by show 8<=sizeLine;decide,λl3 hl3=>?_⟩⟩;obtain⟨H3,s3,q3,e3⟩:∃H3:Hp,Same H1 H3/\H3 l3=some (.lst (((eI j).take 8).map V.bl))/\H3=upd (upd H1 l2 (.lst [.bl (decide (4=j)),.bl (decide (5=j)),.bl (decide (6=j)),.bl (decide (7=j))])) l3 (.lst (((eI j).take 8).map V.bl)):=⟨_,(Same.put hl2).trans (Same.put hl3),ao,rfl⟩;show jz _ _ _ [some (.ref e),some (.ref l3),none] (upd (upd H1 l2 (.lst [.bl (decide (4=j)),.bl (decide (5=j)),.bl (decide (6=j)),.bl (decide (7=j))])) l3 (.lst (((eI j).take 8).map V.bl)));rw[<- e3];have qu:=hx1.same s3;refine⟨_,rfl,_,rfl,e,C,_,rfl,qu,hR.xc,hR.k8,_,rfl,e,C,_,rfl,qu,hR.xc,hR.k9,_,rfl,e,C,_,rfl,qu,hR.xc,hR.k10,_,rfl,e,C,_,rfl,qu,hR.xc,hR.k11,by show 4<=sizeLine;decide,λl4 cR=>⟨l3,l4,_,_,rfl,rfl,Same.put cR _ _ q3,ao,by show 12<=sizeLine;decide,λl5 dI=>?_⟩⟩;obtain⟨H5,s5,q5,e5⟩:∃H5:Hp,Same H3 H5/\H5 l5=some (.lst (((eI j).take 12).map V.bl))/\H5=upd (upd H3 l4 (.lst [.bl (decide (8=j)),.bl (decide (9=j)),.bl (decide (10=j)),.bl (decide (11=j))])) l5 (.lst (((eI j).take 12).map V.bl)):=⟨_,(Same.put cR).trans (Same.put dI),ao,rfl⟩;show jz _ _ _ [some (.ref e),some (.ref l5),none] (upd (upd H3 l4 (.lst [.bl (decide (8=j)),.bl (decide (9=j)),.bl (decide (10=j)),.bl (decide (11=j))])) l5 (.lst (((eI j).take 12).map V.bl)));rw[<- e5];have ua:=qu.same s5;refine⟨_,rfl,_,rfl,e,C,_,rfl,ua,hR.xc,hR.k12,_,rfl,e,C,_,rfl,ua,hR.xc,hR.k13,_,rfl,e,C,_,rfl,ua,hR.xc,hR.k14,by show 3<=sizeLine;decide,λl6 kH=>⟨l5,l6,_,_,rfl,rfl,Same.put kH _ _ q5,ao,by show 15<=sizeLine;decide,λl7 qp=>?_⟩⟩;obtain⟨H7,s7,q7,e7⟩:∃H7:Hp,Same H5 H7/\H7 l7=some (.lst ((eI j).map V.bl))/\H7=upd (upd H5 l6 (.lst [.bl (decide (12=j)),.bl (decide (13=j)),.bl (decide (14=j))])) l7 (.lst ((eI j).map V.bl)):=⟨_,(Same.put kH).trans (Same.put qp),ao,rfl⟩;show jz _ _ _ [some (.ref e),some (.ref l7),none] (upd (upd H5 l6 (.lst [.bl (decide (12=j)),.bl (decide (13=j)),.bl (decide (14=j))])) l7 (.lst ((eI j).map V.bl)));rw[<- e7];have Jt:=ua.same s7;obtain⟨f1,f2,f3⟩:=Sb j hj;refine⟨_,rfl,e,C,_,rfl,Jt,hR.xc,hR.kv,_,rfl,cG ⟨_,rfl,e,C,_,rfl,Jt,hR.xc,hR.ke,_,rfl,cG ?_⟩⟩;refine⟨_,rfl,l7,rfl,⟨_,ah.of q7⟩,λD hD=>kE (λi=>(eI j).getD i false) (λi=>.bl true) (src_list (ah.of q7)) hD (by show 15<sizeLine;decide) (λi H8 Kt Kf hi hs hkt hkf=>?_) (λH8 s8 T_=>?_)⟩
  ·have hi':i<15:=hi
   have eg:((eI j).map V.bl).getD i .non = .bl ((eI j).getD i false):=by
    rw[aO,aO,bO,aB (show i<(eI j).length from hi')];rfl
   refine⟨_,rfl,_,by rw[eg],bB (λh=>?_) (λh=>?_)⟩
   ·refine⟨_,rfl,?_⟩
    rw[eg,h];exact hkt _ h (Same.refl _)
   ·exact hkf _ (by simpa using h) (Same.refl _)
  ·have hlen:(((List.range 15).filter λi=>(eI j).getD i false).map λ_=>V.bl true).length=1:=by
    rw[az];exact(show ∀j<15,((List.range 15).filter λi=>(eI j).getD i false).length=1 by decide) j hj
   refine⟨D,_,rfl,.inl (ah.of T_),rfl,_,rfl,?_⟩;rw[show((eI j).map V.bl).length=15 from rfl,hlen];refine cG ?_;refine⟨by show 9<=sizeLine;decide,λw1 hw1=>?_⟩;refine⟨_,rfl,by show 6<=sizeLine;decide,λw2 hw2=>⟨w1,w2,_,_,rfl,rfl,Same.put hw2 _ _ ao,ao,by show 15<=sizeLine;decide,λw3 Uw=>?_⟩⟩;have s9:=((Same.put (o:=.lst ((lX.take 9).map V.str)) hw1).trans (Same.put (o:=.lst ((lX.drop 9).map V.str)) hw2)).trans (Same.put (o:=.lst (lX.map V.str)) Uw);have q9:=s9 _ _ (s8 _ _ q7);refine⟨_,rfl,.inl ⟨rfl,_,ah.of q9⟩,l7,eI j,rfl,rfl,ah.of q9,f3,?_⟩;rw[f2];refine⟨w3,_,_,.str (lX.getD j ""),rfl,rfl,ah.of ao,aH ?_,kk _ ((((s1.trans s3).trans s5).trans s7).trans (s8.trans s9))⟩;show(lX.map V.str)[j]? = _;rw[bO,aO,aB (show j<lX.length from hj)];rfl
end
end My
namespace L2
open PySem PySem.Spec PyProof.Rows
def Qe(h:Heap)(ea C:Addr)(dx:Option Addr)(T L:Addr):Prop:=(∃oe vs,h.get? ea=some oe/\oe.cls = .ref C/\oe.dict=dx/\oe.data = .fields vs/\vs[1]? = some .none)\/gU h ea (.ref C) dx T .none\/gU h ea (.ref C) dx T (rawInt L)
section
variable {P:Program} {w:World} {K:W.Frag} {mg:Str->Option Value} {base:Heap} {N:List Str} {qual:Str} {scope:Scope} {f:Addr} {cd:Value} {A:Around} {outer:List Env} {s:Shared} {H:Hp} {E:XK}
def XS(P:Program)(w:World)(base:Heap)(Ar:Around)(env:Env)(outer:List Env)(s:Shared)(H:Hp)(E:XK):Value->Shared->Prop:=λex s'=>∃ea C dx T H',Ar.frames=some (env::outer)/\ex = .ref ea/\s'.os=s.os/\AllBare s'.gens/\Un (frs outer) [] H H' s.heap s'.heap/\bE P w H' s'.heap/\s'.heap.FunFrames base (env::outer) /\
 (∀b∈frs (env::outer),H' b=none)/\Qe s'.heap ea C dx T s.heap.objs.size/\H' ea=none/\H' T=none/\s.heap.get? ea=none/\s.heap.get? T=none/\E (.ref C) dx H'
abbrev Cx.own (P:Program) (w:World) (K:W.Frag) (mg:Str->Option Value) (base:Heap) (N:List Str) (qual:Str) (scope:Scope) (f:Addr) (cd:Value) (A:Around) (outer:List Env) (s:Shared) (H:Hp) (E:XK):Cx:=
 (cp (bI P w) P w K mg base N qual scope f cd A outer s H E).wish (XS P w base (cp (bI P w) P w K mg base N qual scope f cd A outer s H E).A (cp (bI P w) P w K mg base N qual scope f cd A outer s H E).env outer s H E)
end
section
variable {X:Cx} {e:Expr} {te:TE} {a:Str} {j} {p1 p2 pos:Pos}
end
end L2
namespace My
open PySem PySem.Spec PyProof.Rows L2
theorem Z7{n:Nat}(h:n<24):((n:Int)).natAbs.log2<1920:=by
 rw[Int.natAbs_natCast]
 by_cases h0:n=0
 ·rw[h0];decide
 ·exact(Nat.log2_lt h0).mpr (c9 h (b_ (by decide:24<=2 ^ 5) (Nat.pow_le_pow_right (by decide) (by decide))))
section
variable {P:Program} {w:World} {K:W.Frag} {mg:Str->Option Value} {base:Heap} {f:Addr} {fd:FuncData} {a0 a1 a2 a3 a4 a5 a6 a7 a8 a9 a10 a11 a12 a13 a14 aE:Addr}
end
end My
namespace L2
open PySem PySem.Spec PyProof.Rows
def aas(te:TE):TE:=λσ H Q=>te σ H λx H1=>∃(t:Addr) (fs:List Int),x = .ref t/\H1 t=some (.tup (fs.map V.int))/\fs.length=5/\(∀z∈fs,z.natAbs.log2<1920)/\∀y:Str,Q (.str y) H1
theorem aaQ{a b c d e:Int}(h:∀z∈[a,b,c,d,e],z.natAbs.log2<1920):(tupleText [(toString a:Str),(toString b:Str),(toString c:Str),(toString d:Str),(toString e:Str)]).length<=10000:=by
 have h0:=tupleText_len_le [(toString a:Str),(toString b:Str),(toString c:Str),(toString d:Str),(toString e:Str)];have e1:=sF (by decide) (h a (by simp));have e2:=sF (by decide) (h b (by simp));have e3:=sF (by decide) (h c (by simp));have e4:=sF (by decide) (h d (by simp));have e5:=sF (by decide) (h e (by simp));simp only[cL,rY,List.sum_cons,List.sum_nil,jE,FG,PySem.ofString_length]at h0;omega
section
variable {X:Cx} {e:Expr} {te:TE} {a:Str} {j} {p1 p2 pos:Pos}
theorem YC(he:PE X e te)(hgd:X.A.guards=some [])(hu:X.A.units<cLine)(h0:(Str.empty++a).length<=10000:=by decide):PE X (.JoinedStr [.Constant (.str a) j p1,.FormattedValue e 114 none p2] pos) (aas te):=by
 intro pins s σ H Q I h;refine wpAny_JoinedStr ?_;show wpAny _ _ (eval (.Constant (.str a) j p1) X.env) _ _ _;have hs0:(Str.empty++a).length<=sizeLine:=b_ h0 (by decide);refine Calls.Constant_str ⟨a,_,rfl,hs0,?_⟩;show wpAny _ _ (eval (.FormattedValue e 114 none p2) X.env) _ _ _;refine wpAny_FormattedValue_repr (aK (he pins _ σ H _ (I.tok _) h) λv s1 ⟨x,H1,I1,rx,t,fs,ex,ht,h5,hf,q⟩=>?_);subst ex;obtain rfl:v=Value.ref t:=rx
 match fs,h5 with
 | [z1,z2,z3,z4,z5],_ =>
 obtain⟨its,r,tp,hz⟩:=I1.tuple (aF.of ht);cases r with
 |cons r1 r =>
 cases r with
 |cons r2 r =>
 cases r with
 |cons r3 r =>
 cases r with
 |cons r4 r =>
 cases r with
 |cons r5 r =>
 cases r;obtain⟨t1,rfl⟩:=r1;obtain⟨t2,rfl⟩:=r2;obtain⟨t3,rfl⟩:=r3;obtain⟨t4,rfl⟩:=r4;obtain⟨t5,rfl⟩:=r5;have hl:=aaQ hf;have hl1:=b_ hl (show 10000<=sizeLine by decide);have hl2:(Str.empty++a++tupleText [(toString z1:Str),(toString z2:Str),(toString z3:Str),(toString z4:Str),(toString z5:Str)]).length<=sizeLine:=by
  rw[Str.length_append,wY];omega
 obtain⟨o,g1,g2,n,g3⟩:=(show s1.heap.IsTuple t _ from tp);refine wpAny_pyReprObj_tuple (ts:=[(toString z1:Str),(toString z2:Str),(toString z3:Str),(toString z4:Str),(toString z5:Str)]) ?_ hgd (λc hc=>nomatch hc) hu g1 g3
  (.cons (sD t1 (hf z1 (by simp))) (.cons (sD t2 (hf z2 (by simp))) (.cons (sD t3 (hf z3 (by simp))) (.cons (sD t4 (hf z4 (by simp))) (.cons (sD t5 (hf z5 (by simp))) .nil))))) (λu tk=>?_) hl1
 ·exact⟨o,g1,g2⟩
 ·refine wpAny_formatField_str ?_ ?_ hl1
  ·exact⟨_,_,rfl,hl2,hl2,.str _,H1,(I1.tok _).tok _,⟨_,rfl⟩,q _⟩
  ·exact⟨_,_,rfl,hl2,hl2,.str _,H1,((I1.tok _).tok _).tok _,⟨_,rfl⟩,q _⟩
end
end L2
namespace My
open PySem PySem.Spec PyProof.Rows L2
def Bp(v:V)(H:Hp):Prop:=∃(t:Addr) (fs:List Int),v = .ref t/\H t=some (.tup (fs.map V.int))/\fs.length=5/\∀z∈fs,z.natAbs.log2<1920
theorem R3{n:Nat}{R:Nat->Nat->Bool}{fs:List Int}(hn:n<=24)(h:Five n R fs):∀z∈fs,z.natAbs.log2<1920:=λz hz=>by
 obtain⟨h1,h2⟩:=h.rng z hz;obtain⟨k,rfl⟩:∃k:Nat,z=(k:Int):=⟨z.toNat,by omega⟩;exact Z7 (by omega)
section
variable {P:Program} {w:World} {K:W.Frag} {mg:Str->Option Value} {base:Heap} {f:Addr} {fd:FuncData} {a0 a1 a2 a3 a4 a5 a6 a7 a8 a9 a10 a11 a12 a13 a14 aE:Addr}
abbrev BZ:Stmt:=inClass (top 12) 0
theorem Mj:aZ ["self","five"] ["self","five"] (aA BZ):=⟨rfl,rfl,rfl,by decide +kernel,rfl,by decide +kernel,by decide +kernel⟩
theorem W6 {fI:Addr} (F:aR K "__init__" "NotEven.__init__" BZ f fd) (Er:kg mg a0 a1 a2 a3 a4 a5 a6 a7 a8 a9 a10 a11 a12 a13 a14 aE) (BI:vY K aE) (ic:lF K a14 fI) (Fe:Fp K a14 "five"):aL P w K mg base aX 1 f fd ["self","five"] (vt a14 "five" Bp):=by
 refine F.ok Mj (λvs H Q E h=>?_) (λcdv A outer s H vs Q E hr h=>?_)
 ·obtain⟨e,v,rfl,_⟩:=h
  rfl
 ·obtain⟨e,v,rfl,he,⟨t,fs,rfl,ht,h5,hf⟩,kk⟩:=h
  have nd:=Mj.nd;refine⟨_,(au (cw (Yt rfl Er.ClimbError BI.rd BI.sp BI.fc (ae (pv 0) (ae (YC (pv 1) hr.gd hr.aa0) ag))))
   (ax (Y9 (pv 0) (pv 1) rfl))),?_⟩
  refine⟨_,rfl,_,rfl,t,fs,rfl,ht,h5,hf,λy=>⟨e,a14,fI,_,rfl,he,ic,?_⟩⟩;refine⟨_,rfl,_,rfl,e,a14,rfl,ao,Fe.xs,λdx hdx=>?_⟩;have hne:dx≠e:=λz=>by rw[z,ao]at hdx;cases hdx
  refine kk dx _ (by rw[aD hne]at hdx;exact hdx) ao (by rw[aD hne,ao]) λb h1 h2=>?_
  rw[aD h1,aD h2,aD h1]
abbrev CK:Stmt:=top 50
theorem Nw:aZ ["order","triple"] ["order"] (aA CK):=⟨rfl,rfl,rfl,by decide +kernel,rfl,by decide +kernel,by decide +kernel⟩
def DS(C cN:Addr):Sp:=λvs H Q E=>∃(p n:Nat) (R:Nat->Nat->Bool),vs = [.ref p]/\dH C H p n R/\Good n R/\n<=24 /\
 (∀(J N:Nat->Nat->Nat) (M:Md n R J N) H',Same H H'->(∀a b c,a<n->b<n->c<n->¬ Un n R a b c)->Q .non H') /\
 (∀dx u fs a b c H',Same H H'->First n (Un n R) a b c->H' dx=some (.xd [("five", .ref u)])->H' u=some (.tup (fs.map V.int))->Five n R fs->E (.ref cN) (some dx) H')
theorem X_ {C:Addr} (F:aR K "need_even" "need_even" CK f fd) (T:Txt mg) (nT:aG P w K mg base "uneven" ["order"] 2 (vJ C)) (xA:aG P w K mg base "five_of" ["order","triple"] 2 (Du K C)) (xo:rK P w K mg base a14 "NotEven" ["self","five"] 1 (vt a14 "five" Bp)) :
  aL P w K mg base (bI P w) 3 f fd ["order"] (DS C a14):=by
 refine F.oC Nw (λvs H Q E h=>?_) (λcdv A outer s H vs Q E hr h=>?_)
 ·obtain⟨p,n,R,rfl,_⟩:=h
  rfl
 ·obtain⟨p,n,R,rfl,hO,G,hn,k1,k2⟩:=h
  have nd:=Nw.nd;refine⟨_,(au (aJ (i:=1) nd rfl (Or.inl rfl) (aM nT hr rfl (ae (pv 0) ag)))
   (ax (bz (bC Yl (pv 1) kR (bj _)) (ax (Y5 xo uS hr rfl rfl rfl (ae (aM xA hr rfl (ae (pv 0) (ae (pv 1) ag))) ag))) bH))),?_⟩
  refine⟨_,rfl,p,n,R,rfl,hO,G,hn,λv H1 s1 hv=>?_⟩
  rcases hv with⟨rfl,no⟩|⟨t,a,b,c,rfl,g,fst⟩
  ·obtain⟨J,N,M⟩:=V_ G no
   exact⟨_,rfl,rfl,_,rfl,cG (k1 J N M _ s1 no)⟩
  ·refine⟨_,rfl,rfl,_,rfl,eR ?_⟩
   refine⟨_,rfl,_,rfl,p,t,n,a,b,c,R,rfl,hO.dD s1,G,aF.of g,fst.la,fst.lb,fst.lc,fst.is,λu fs H2 s2 gu hf=>⟨by show 1<=sizeLine;decide,λe he=>?_⟩⟩;exact ZJ (λH3 s3=>⟨u,fs,rfl,s3 _ _ gu,hf.len,R3 hn hf⟩) he λdx H3 s3 hx=>k2 dx u fs a b c _ (s1.trans (s2.trans s3)) fst hx (s3 _ _ gu) hf
end
section
variable {P:Program} {w:World} {K:W.Frag} {mg:Str->Option Value} {base:Heap} {f:Addr} {fd:FuncData}
abbrev Cz:Stmt:=top 42
theorem Nt:aZ ["order","things"] ["order","things"] (aA Cz):=⟨rfl,rfl,rfl,by decide +kernel,rfl,by decide +kernel,by decide +kernel⟩
end
section
variable {P:Program} {w:World} {K:W.Frag} {mg:Str->Option Value} {base:Heap} {f:Addr} {fd:FuncData} {a0 a1 a2 a3 a4 a5 a6 a7 a8 a9 a10 a11 a12 a13 a14 aE:Addr}
def DP(K:W.Frag)(C cC:Addr):Sp:=λvs H Q E=>∃(p t n:Nat) (R:Nat->Nat->Bool) (zs:List Int),vs = [.ref p,.ref t]/\dH C H p n R/\n<=24/\ah K H t (zs.map V.int)/\zs.length<=1000/\(bZ n R zs=true->∀H',Same H H'->Q .non H')/\(bZ n R zs=false->∀H',Same H H'->E (.ref cC) none H')
theorem X9 {C:Addr} (F:aR K "need_climb" "need_climb" Cz f fd) (T:Txt mg) (TC:eX K C) (Er:kg mg a0 a1 a2 a3 a4 a5 a6 a7 a8 a9 a10 a11 a12 a13 a14 aE) (rG:W.excIn K a1 gO "ValueError.__new__" = true) (lT:aG P w K mg base "is_climb" ["order","things"] 4 (vy K C)) :
  aL P w K mg base (bI P w) 5 f fd ["order","things"] (DP K C a1):=by
 refine F.oC Nt (λvs H Q E h=>?_) (λcdv A outer s H vs Q E hr h=>?_)
 ·obtain⟨p,t,n,R,zs,rfl,_⟩:=h
  rfl
 ·obtain⟨p,t,n,R,zs,rfl,hO,hn,hT,fV,k1,k2⟩:=h
  have nd:=Nt.nd;refine⟨_,(ax (bz (iD (dY (aM lT hr rfl (ae (pv 0) (ae (pv 1) ag))))) (ax (BG uS Er.NoClimb rG sv rfl rfl rfl (ae iB ag))) bH)),?_⟩;refine⟨_,rfl,_,rfl,p,t,n,R,zs,rfl,hO,hn,hT,fV,λH3 hs=>⟨_,rfl,?_⟩⟩;cases hc:bZ n R zs with
  |true=>exact cG (k1 hc _ hs)
  |false=>exact eR ⟨by show 1<=sizeLine;decide,k2 hc _ hs⟩
end
structure j8 (n:Nat) (R:Nat->Nat->Bool) (cs:List Nat):Prop where
 ne:cs.length≠0
 lt:∀x∈cs,x<n
 st:∀i,i+1<cs.length->bQ n R (cs.getD i 0) (cs.getD (i+1) 0)=true
theorem j8.one{n:Nat}{R:Nat->Nat->Bool}{a:Nat}(h:a<n):j8 n R [a]:=⟨by simp,λx hx=>by simp at hx;omega,λi hi=>by simp at hi⟩
theorem zQ{cs:List Nat}{d:Nat}{i:Nat}(h:i<cs.length):(cs++[d]).getD i 0=cs.getD i 0:=by
 rw[aO,aO,jC h]
theorem Im{cs:List Nat}{d:Nat}:(cs++[d]).getD cs.length 0=d:=by
 rw[aO,km (aW _),Nat.sub_self];rfl
theorem j8.snoc{n:Nat}{R:Nat->Nat->Bool}{cs:List Nat}{z d:Nat}(h:j8 n R (cs++[z]))(hd:d<n)(hs:bQ n R z d=true):j8 n R ((cs++[z])++[d]):=by
 refine⟨by simp,λx hx=>?_,λi hi=>?_⟩
 ·rcases f6.mp hx with hx|hx
  ·exact h.lt x hx
  ·simp at hx;omega
 ·have hl:(cs++[z]).length=cs.length+1:=by simp
  rw[bp,hl]at hi
  by_cases e:i+1<(cs++[z]).length
  ·rw[zQ (by omega),zQ e]
   exact h.st i e
  ·have e2:i=cs.length:=by simp at hi;omega
   subst e2;rw[zQ (by omega),Im];have:(cs++[z]++[d]).getD (cs.length+1) 0=d:=by rw[<- hl];exact Im
   rw[this];exact hs
theorem Q6{M:List Nat}(L:Ev.cz M){z b:Nat}(hz:z<M.length):∀(k c:Nat),M.getD c 0<=k->c<M.length->bL (Ev.aN M) z c=true->Ev.aN M c b=true->∃d,d<M.length/\bQ M.length (Ev.aN M) z d=true/\Ev.aN M d b=true:=by
 intro k
 induction k with
 |zero =>
  intro c hk hc h1 h2;refine⟨c,hc,?_,h2⟩;unfold bQ;rw[h1,fX,eN,Ft];intro t ht;have htl:t<M.length:=by simpa using ht
  rw[bD];rintro⟨g1,g2⟩;unfold bL at g2;rw[bD,eN,fB]at g2;have:=(Ev.eL.mp g2.2).le;exact g2.1 (Ev.getD_inj L.nd htl hc (by omega))
 |succ k ih =>
  intro c hk hc h1 h2;cases hs:bQ M.length (Ev.aN M) z c with
  |true=>exact⟨c,hc,hs,h2⟩
  |false =>
   unfold bQ at hs;rw[h1,fX,Fi,pj]at hs;obtain⟨t,ht,g⟩:=hs;have htl:t<M.length:=by simpa using ht
   rw[bD]at g;obtain⟨g1,g2⟩:=g;unfold bL at g2;rw[bD,eN,fB]at g2;have hle:=(Ev.eL.mp g2.2).le;have hne:M.getD t 0≠M.getD c 0:=λe=>g2.1 (Ev.getD_inj L.nd htl hc e)
   exact ih t (by omega) htl g1 (Ev.J9 g2.2 h2)
section
variable {n:Nat} {R:Nat->Nat->Bool}
end
theorem VH{M:List Nat}(hM:Ev.cz M):Good M.length (Ev.aN M):=
 ⟨λa ha=>Ev.kM _ _,λa b ha hb h1 h2=>Ev.J8 hM.nd ha hb h1 h2,λa b ha hb=>hM.JN ha hb,λa b ha hb=>let⟨c,hc,_,h⟩:=hM.Ks ha hb;⟨c,hc,λx _=>h x⟩⟩
theorem aa4{n:Nat}{R:Nat->Nat->Bool}(G:Good n R){a:Nat}(ha:a<n):0<gN n R a:=by
 rw[mK];exact List.countP_pos_iff.mpr ⟨a,dS.mpr ha,G.refl a ha⟩
theorem JF{n:Nat}{R:Nat->Nat->Bool}(G:Good n R):∀{c:List Nat} {a b:Nat},Cl.o_ (gA n R) b a c->a<n->c.length<=gN n R a
 | [],a,b,h,_=>by cases h.hd
 | [x],a,b,h,ha=>by
  have:=aa4 G ha;show 1<=_;omega
 |x::y::r,a,b,h,ha=>by
  have e:=h.hd;cases e;obtain⟨h1,h2⟩:=Cl.Vb h;have:=JF G h1 (uq.mp h2).2.1;have hu:=O8 G _ _ h2;rw[jE];omega
theorem KC{n:Nat}:∀{zs:List Int},inB n zs=true->∃cs:List Nat,zs=cs.map (λx:Nat=>(x:Int))/\∀x∈cs,x<n
 | [],_=>⟨[],rfl,λx hx=>nomatch hx⟩
 |z::zs,h=>by
  unfold inB at h;rw[wq,bD,fO]at h;obtain⟨cs,e,q⟩:=KC (zs:=zs) h.2;refine⟨z.toNat::cs,by rw[cL,<- e,Int.toNat_of_nonneg h.1.1],λx hx=>?_⟩
  rcases bq.mp hx with rfl|hx
  ·omega
  ·exact q x hx
def di(zs ws:List Int):Bool:=decide (zs.getD 0 0=ws.getD 0 0)&&decide (zs.getD (zs.length - 1) 0=ws.getD (ws.length - 1) 0)
theorem uj{zs:List Int}(h:zs≠[]):eQ (zs.map V.int) (-1)=some (.int (zs.getD (zs.length - 1) 0)):=by
 obtain⟨pre,x,rfl⟩:∃pre x,zs=pre++[x]:=⟨zs.dropLast,zs.getLast h,(Fv h).symm⟩;rw[eh];have:=xm (pre.map V.int) (.int x);rw[aO];simpa using this
theorem tJ{zs:List Int}(h:zs≠[]):eQ (zs.map V.int) 0=some (.int (zs.getD 0 0)):=by
 cases zs with
 |nil=>exact absurd rfl h
 |cons x r=>exact aH (j:=0) rfl
theorem fS(cs:List Nat)(i:Nat):(cs.map λx:Nat=>(x:Int)).getD i 0=((cs.getD i 0:Nat):Int):=by
 rw[aO,aO,bO];cases cs[i]? <;> simp
theorem tD{n:Nat}{R:Nat->Nat->Bool}{zs:List Int}(h:bZ n R zs=true):zs≠[]:=λe=>by
 rw[e]at h;cases h
section
variable {P:Program} {w:World} {K:W.Frag} {mg:Str->Option Value} {base:Heap} {f:Addr} {fd:FuncData} {a0 a1 a2 a3 a4 a5 a6 a7 a8 a9 a10 a11 a12 a13 a14 aE:Addr}
abbrev CN:Stmt:=top 43
theorem Nx:aZ ["one","other"] ["one","other"] (aA CN):=⟨rfl,rfl,rfl,by decide +kernel,rfl,by decide +kernel,by decide +kernel⟩
def vD(K:W.Frag)(cE:Addr):Sp:=λvs H Q E=>∃(t u:Nat) (zs ws:List Int),vs = [.ref t,.ref u]/\ah K H t (zs.map V.int)/\ah K H u (ws.map V.int)/\zs≠[]/\ws≠[]/\(di zs ws=true->∀H',Same H H'->Q .non H')/\(di zs ws=false->∀H',Same H H'->E (.ref cE) none H')
theorem Ya (F:aR K "need_like_ends" "need_like_ends" CN f fd) (T:Txt mg) (Er:kg mg a0 a1 a2 a3 a4 a5 a6 a7 a8 a9 a10 a11 a12 a13 a14 aE) (rH:W.excIn K a3 gO "ValueError.__new__" = true) :
  aL P w K mg base (bI P w) 1 f fd ["one","other"] (vD K a3):=by
 refine F.oC Nx (λvs H Q E h=>?_) (λcdv A outer s H vs Q E hr h=>?_)
 ·obtain⟨t,u,zs,ws,rfl,_⟩:=h
  rfl
 ·obtain⟨t,u,zs,ws,rfl,hT,hU,n1,n2,k1,k2⟩:=h
  have nd:=Nx.nd;refine⟨_,(ax (bz (PW.pt (mD (bC iA (aq (aS (K:=K) rfl) (pv 0) ak (λ_ _=>rfl)) (aq (aS (K:=K) rfl) (pv 1) ak (λ_ _=>rfl)) (bj _)) (oN (bC iA (aq (aS (K:=K) rfl) (pv 0) (iC iF ak) (λ_ _=>rfl)) (aq (aS (K:=K) rfl) (pv 1) (iC iF ak) (λ_ _=>rfl)) (bj _))))) (ax (BG uS Er.NoEnds rH sv rfl rfl rfl (ae iB ag))) bH)),?_⟩;refine⟨_,rfl,t,_,0,.int (zs.getD 0 0),rfl,rfl,hT,tJ n1,_,rfl,u,_,0,.int (ws.getD 0 0),rfl,rfl,hU,tJ n2,rfl,_,rfl,bB (λh=>?_) (λh=>?_)⟩
  ·have hne:¬ zs.getD 0 0=ws.getD 0 0:=λe=>by rw[e]at h;simp at h
   exact⟨by show 1<=sizeLine;decide,k2 (by unfold di;rw[bU hne];rfl) _ (Same.refl _)⟩
  ·have heq:zs.getD 0 0=ws.getD 0 0:=by
    apply kf
    intro z;apply h
    simp only[eN,fB];intro w;injection w with w
    exact z w
   refine⟨_,rfl,1,rfl,t,_,_,.int (zs.getD (zs.length - 1) 0),rfl,rfl,hT,uj n1,_,rfl,1,rfl,u,_,_,.int (ws.getD (ws.length - 1) 0),rfl,rfl,hU,uj n2,rfl,_,rfl,bB (λh=>?_) (λh=>?_)⟩
   ·have hne:¬ zs.getD (zs.length - 1) 0=ws.getD (ws.length - 1) 0:=λe=>by rw[e]at h;simp at h
    exact⟨by show 1<=sizeLine;decide,k2 (by unfold di;rw[bU hne,wa]) _ (Same.refl _)⟩
   ·have hle:zs.getD (zs.length - 1) 0=ws.getD (ws.length - 1) 0:=by
     apply kf
     intro z;apply h
     simp only[eN,fB];intro w;injection w with w
     exact z w
    exact k1 (by unfold di;rw[cB heq,cB hle];rfl) _ (Same.refl _)
end
end My
namespace L2
open PySem PySem.Spec PyProof.Rows
section
variable {X:Cx} {pins:List (Addr × Obj)} {σ:St} {H:Hp} {s:Shared}
end
section
variable {X:Cx} {x:Str} {k k' m:Nat} {p:Addr} {sp:Sp} {i:Nat} {e:Expr} {es:List Expr} {t:TA} {p0 pos:Pos}
end
section
variable {X:Cx} {x qual:Str} {k k' kl m:Nat} {spO:Addr->Sp->Sp} {ps qs:List Str} {params:Arguments} {body:Expr} {scope:Scope} {fr:List (Str × Nat)} {tb:TE} {e:Expr} {es:List Expr} {t:TA} {p0 pos:Pos}
end
theorem aR.W5{P:Program}{w:World}{K:W.Frag}{mg:Str->Option Value}{base:Heap}{x qual:Str}{st:Stmt}{f c:Addr}{fd:FuncData}{N ps:List Str}{k:Nat}{sp:Sp}(F:aR K x qual st f fd)(hc:fd.code = .ref c)(S:aZ N ps (aA st))(len:∀vs H Q E,sp vs H Q E->vs.length=ps.length)(hbody:∀(A:Around) (outer:List Env) (s:Shared) (H:Hp) (vs:List V) (Q:VK) (E:XK),bR k (A.deeper (envOfC qual (aA st) s.heap.objs.size f (.ref c)))->sp vs H Q E->∃t,fw (cp (bI P w) P w K mg base N qual (aA st) f (.ref c) A outer s H E) (gH st) t/\t {nx:=λ_ H'=>Q .non H',rt:=Q} (start N vs) H):aL P w K mg base (bI P w) (k+1) f fd ps sp:=by
 obtain⟨oc,od,kV,doc,pm,an,cdv,ct,osl,rfl,lk,hcd⟩:=F.ex;obtain rfl:cdv = .ref c:=hc;exact zJ lk hcd S len λA outer s H vs Q E hr hsp=>hbody A outer s H vs Q E hr hsp
def Zq(K:W.Frag)(n:Nat):V->List V->Hp->VK->Prop:=λx vs H Q=>∃(l:Addr) (xs:List V) (y:V) (e:V->Bool) (j:Nat),x = .ref l/\vs = [y]/\ah K H l xs/\(∀z∈xs,∃a,z = .ref a)/\(∀z∈xs,cg K H n z y (e z))/\(∃z,xs[j]? = some z/\e z=true)/\(∀(m:Nat) z,m<j->xs[m]? = some z->e z=false)/\Q (.int (j:Nat)) H
theorem HN{e:V->Bool}{xs:List V}{us:List Value}(r:Vals xs us)(f:∀z∈xs,∃a,z = .ref a){i:Nat}{z:V}(h:xs[i]? = some z)(hi:i<us.length):p7 e us[i]=e z:=by
 obtain⟨u,h1,h2⟩:=r.get h;rw[aB hi]at h1;cases h1;obtain⟨a,rfl⟩:=f z (dG h);rw[show us[i]=Value.ref a from h2];rfl
theorem Wm {X:Cx} {K:W.Frag} (n:Nat) (hK:X.K=K) (hu:X.A.units+1+n<cLine):pE X "list.index" (Zq K n):=by
 subst hK;intro pins s σ H x vs v us Q I rx rv h;obtain⟨l,xs,y,e,j,rfl,rfl,hq,hr,he,⟨z,hz1,hz2⟩,hno,q⟩:=h;cases rx;obtain⟨u,rfl,ru⟩:=rv.one;obtain⟨its,r,⟨⟨cls,dd,data,sl⟩,n',ho,hc,hdd,hd⟩,hz⟩:=I.list hq;simp only at hc hdd hd;subst hc hdd hd;have hlen:=r.length;have hj:j<its.length:=by have:=(bN.mp hz1).1;omega
 have hb:sizeLine<2 ^ 62:=by decide
 refine lO lM ⟨_,ho,rfl⟩ Gr (Gp _ _)
  (Gx l its.toArray n' none sl u (p7 e) j (by simpa using hj) (by omega) ?_ ?_) ⟨ho,λw hw=>Ku I (n:=n) (by show X.A.units+1+n<cLine;exact hu) ru r hr he w (by simpa using hw),?_⟩
 ·show p7 e its[j]=true
  rw[HN r hr hz1 hj];exact hz2
 ·intro m hm hlt
  have hm':m<its.length:=by simpa using hm
  show p7 e its[m]=false;have hmx:xs[m]? = some xs[m]:=aB (by omega);rw[HN r hr hmx hm'];exact hno m _ hlt hmx
 ·exact⟨.int (j:Nat),H,I.tok _,⟨_,rfl⟩,q⟩
section
variable {prog:Program} {w:World} {A:Around} {E:Value->Shared->Prop} {s:Shared} {κ:SortKind} {g:Keyed->Prop} {N:Nat} {pd:Array (Nat × Nat × Nat)}
end
end L2
namespace L2
open PySem PySem.Spec PyProof.Rows PySem.Builtin PySem.Builtin.Str
abbrev tuples' (b:Bool):SortKind:=(sortPriv% PySem.Builtin.KeyKind.tuples) b
section
variable {prog:Program} {w:World} {A:Around} {E:Value->Shared->Prop} {s:Shared}
theorem K6{b:Bool}{i j:Int}{t u:Tok}{Q:Bool->Shared->Prop}(h:Q (decide (i<j)) s):wpAny (model prog w) A (oneLt' b (.int i t) (.int j u)) Q E s:=by
 cases b with
 |true=>exact oneLt_int h
 |false =>
  rw[oneLt'_eq];simp only[h7,gi];refine ai ?_;exact PyProof.Rows.lt_int (je h)
def uI(x y:Int × Int):Bool:=decide (x.1<y.1)||(decide (x.1=y.1)&&decide (x.2<y.2))
theorem Vo{b:Bool}{x y:Addr}{n m:Nat}{o1 o2:Obj}{p q:Int × Int}{t1 t2 u1 u2:Tok}(hx:s.heap.get? x=some o1)(dx:o1.data = .seq #[.int p.1 t1,.int p.2 t2] n)(hy:s.heap.get? y=some o2)(dy:o2.data = .seq #[.int q.1 u1,.int q.2 u2] m){Q:Bool->Shared->Prop}(h:Q (uI p q) s):wpAny (model prog w) A (keyLt' (tuples' b) (.ref x) (.ref y)) Q E s:=by
 show wpAny _ _ (do
  let xs <- Builtin.List.listItems (.ref x);let ys <- Builtin.List.listItems (.ref y)
  for ((p,q),i) in (xs.toList.zip ys.toList).zipIdx do
   if !(<- eqBool p q)then return <- oneLt' (b&&i == 0) p q
  return xs.size<ys.size) _ _ _
 refine ai (sr hx dx (ai (sr hy dy ?_)));simp only[wF,List.zip_nil_right,FV,FW,pA,rW];obtain⟨p1,p2⟩:=p;obtain⟨q1,q2⟩:=q;unfold uI at h;refine ai ?_;refine ai (ai (Gz ?_))
 by_cases e1:p1=q1
 ·rw[show(p1 == q1)=true from il.mpr e1]
  simp only[Bool.not_true,h7,gi];refine aI ?_;dsimp only;refine ai (ai (Gz ?_));have n1:¬ p1<q1:=by omega
  by_cases e2:p2=q2
  ·rw[show(p2 == q2)=true from il.mpr e2]
   simp only[Bool.not_true,h7,gi];refine aI (aI ?_);dsimp only;have n2:¬ p2<q2:=by omega
   rw[bU n1,bU n2,wa,wc]at h;exact aI h
  ·rw[show(p2 == q2)=false from kx.mpr e2]
   simp only[Fj,jO];refine ai (K6 (aI (aI ?_)));dsimp only;rw[bU n1,cB e1,fX,Bool.false_or]at h;exact aI h
 ·rw[show(p1 == q1)=false from kx.mpr e1]
  simp only[Fj,jO];refine ai (K6 (aI (aI ?_)));dsimp only;rw[bU e1,iX,wc]at h;exact aI h
end
end L2
namespace L2
open PySem PySem.W PyProof.Rows
section
variable {α β:Type} {n:Nat} {rk:Nat->Int}
def cK(n:Nat)(rk:Nat->Int):KasT α->(α->Prop)->Prop
 |.ret a,Q=>Q a
 |.ask i j k,Q=>i<n/\j<n/\cK n rk (k (decide (rk i<rk j))) Q
theorem cK.mono{Q Q':α->Prop}:∀{t:KasT α},cK n rk t Q->(∀a,Q a->Q' a)->cK n rk t Q'
 |.ret a,h,q=>q a h
 |.ask i j k,⟨h1,h2,h3⟩,q=>⟨h1,h2,cK.mono h3 q⟩
theorem cK.bind{f:α->KasT β}{Q:β->Prop}:∀{t:KasT α},cK n rk t (λa=>cK n rk (f a) Q)->cK n rk (t.bind f) Q
 |.ret a,h=>h
 |.ask i j k,⟨h1,h2,h3⟩=>⟨h1,h2,cK.bind h3⟩
theorem cK.wp{cmp:Nat->Nat->(Bool->Shared->Prop)->Shared->Prop}{s:Shared}{Q:α->Prop}(hc:∀i j C,i<n->j<n->C (decide (rk i<rk j)) s->cmp i j C s):∀{t:KasT α},cK n rk t Q->t.kasWp cmp (λa s'=>s'=s/\Q a) s
 |.ret a,h=>⟨rfl,h⟩
 |.ask i j k,⟨h1,h2,h3⟩=>hc i j _ h1 h2 (cK.wp hc h3)
end
def Pm(n:Nat)(p:Array Nat):Prop:=p.Perm (List.range n).toArray
theorem Pm.size{n:Nat}{p:Array Nat}(h:Pm n p):p.size=n:=by
 have:=h.size_eq;simpa using this
theorem Pm.lt{n i:Nat}{p:Array Nat}(h:Pm n p)(hi:i<n):p.getD i 0<n:=by
 have hs:=h.size;have hi':i<p.size:=by omega
 have e:p.getD i 0=p[i]:=by simp[Array.getD,hi']
 have hm:p[i]∈(List.range n).toArray:=h.mem_iff.mp (Array.getElem_mem hi');rw[e];simpa using hm
theorem Pm.ux{n i j d:Nat}{p:Array Nat}(h:Pm n p):Pm n (mirror p i j d):=(mirror_perm p i j d).trans h
theorem Pm.Qz{n i j:Nat}{p:Array Nat}(h:Pm n p):Pm n (bubble p i j):=(bubble_perm p i j).trans h
theorem l0(p:Array Nat)(i:Nat):p.getD i 0=p[i]?.getD 0:=by
 by_cases h:i<p.size
 ·simp[Array.getD,h]
 ·simp[Array.getD,h]
theorem zR{p:Array Nat}{i j:Nat}(hj:j<=p.size)(k:Nat):(kas_rev p i j).getD k 0=if i<=k/\k<j then p.getD (i+j - 1 - k) 0 else p.getD k 0:=by
 unfold kas_rev;rw[l0,getElem?_mirror_all hj,l0,l0]
 split <;> rfl
theorem Io{p:Array Nat}{k l:Nat}(hk:k<p.size)(hl:l<=k)(i:Nat):(bubble p k (k - l)).getD i 0=if i=l then p.getD k 0 else if l<i/\i<=k then p.getD (i - 1) 0 else p.getD i 0:=by
 rw[l0,getElem?_bubble hk _ (Nat.sub_le _ _),l0,l0,l0];have e:k - (k - l)=l:=by omega
 rw[e]
 repeat' split
 all_goals rfl
section
variable {n:Nat} {rk:Nat->Int} {p:Array Nat}
def Up(rk:Nat->Int)(p:Array Nat)(m:Nat):Prop:=∀i j,i<=j->j<m->rk (p.getD i 0)<=rk (p.getD j 0)
def Dn(rk:Nat->Int)(p:Array Nat)(m:Nat):Prop:=∀i j,i<=j->j<m->rk (p.getD j 0)<=rk (p.getD i 0)
theorem Up.rev{m:Nat}(hm:m<=p.size)(h:Dn rk p m):Up rk (kas_rev p 0 m) m:=λi j h1 h2=>by
 rw[zR hm,zR hm,if_pos ⟨eD _,by omega⟩,if_pos ⟨eD _,h2⟩];exact h _ _ (by omega) (by omega)
theorem BP{i j:Nat}(hj:j<=p.size)(heq:∀k,i<=k->k<j->rk (p.getD k 0)=rk (p.getD (j - 1) 0))(k:Nat):rk ((kas_rev p i j).getD k 0)=rk (p.getD k 0):=by
 rw[zR hj]
 split
 ·rw[heq (i+j - 1 - k) (by omega) (by omega),heq k (by omega) (by omega)]
 ·rfl
theorem xi(P:Pm n p):∀(f a:Nat),1<=a->a+f<=n->Up rk p a->cK n rk (kas_asc p f a) λm=>a<=m/\m<=a+f/\Up rk p m/\(m<a+f->rk (p.getD m 0)<rk (p.getD (m - 1) 0))
 |0,a,h1,h2,h3=>⟨aW _,aW _,h3,λz=>absurd z (fu _)⟩
 |f+1,a,h1,h2,h3=>by
  refine⟨P.lt (by omega),P.lt (by omega),?_⟩
  by_cases c:rk (p.getD a 0)<rk (p.getD (a - 1) 0)
  ·rw[cB c];dsimp only;rw[if_pos rfl]
   exact⟨aW _,by omega,h3,λ_=>c⟩
  ·rw[bU c];dsimp only;rw[if_neg Bool.false_ne_true]
   refine(xi P f (a+1) (by omega) (by omega) λi j hij hj=>?_).mono λm ⟨z1,z2,z3,z4⟩=>⟨by omega,by omega,z3,λz=>z4 (by omega)⟩
   by_cases hj2:j=a
   ·subst hj2
    by_cases hi:i=j
    ·rw[hi];exact lG _
    ·exact o9 (h3 i (j - 1) (by omega) (by omega)) (rP.mp c)
   ·exact h3 i j hij (by omega)
theorem xk:∀(f:Nat) (p:Array Nat) (a q:Nat),Pm n p->q+1<=a->a+f<=n->Dn rk p a->(∀k,a - (q+1)<=k->k<a->rk (p.getD k 0)=rk (p.getD (a - 1) 0))->cK n rk (kas_desc f p a q) λr=>Pm n r.1/\a<=r.2.1/\r.2.1<=a+f/\r.2.2+1<=r.2.1/\Dn rk r.1 r.2.1/\∀k,r.2.1 - (r.2.2+1)<=k->k<r.2.1->rk (r.1.getD k 0)=rk (r.1.getD (r.2.1 - 1) 0)
 |0,p,a,q,P,h1,h2,h3,h4=>⟨P,aW _,aW _,h1,h3,h4⟩
 |f+1,p,a,q,P,h1,h2,h3,h4=>by
  have hs:=P.size;refine⟨P.lt (by omega),P.lt (by omega),?_⟩
  by_cases c:rk (p.getD a 0)<rk (p.getD (a - 1) 0)
  ·rw[cB c];dsimp only;rw[if_pos rfl]
   have go:∀p':Array Nat,Pm n p'->(∀k,rk (p'.getD k 0)=rk (p.getD k 0))->cK n rk (kas_desc f p' (a+1) 0) λr=>Pm n r.1/\a<=r.2.1/\r.2.1<=a+(f+1)/\r.2.2+1<=r.2.1/\Dn rk r.1 r.2.1/\∀k,r.2.1 - (r.2.2+1)<=k->k<r.2.1->rk (r.1.getD k 0)=rk (r.1.getD (r.2.1 - 1) 0):=by
    intro p' P' e;refine(xk f p' (a+1) 0 P' (by omega) (by omega) (λi j hij hj=>?_) λk k1 k2=>?_).mono λr ⟨z1,z2,z3,z4⟩=>⟨z1,by omega,by omega,z4⟩
    ·rw[e,e]
     by_cases hj2:j=a
     ·subst hj2
      by_cases hi:i=j
      ·rw[hi];exact lG _
      ·exact o9 (wj c) (h3 i (j - 1) (by omega) (by omega))
     ·exact h3 i j hij (by omega)
    ·obtain rfl:k=a+1 - 1:=by omega
     rfl
   split
   ·exact go _ P.ux λk=>BP (by omega) (λk k1 k2=>h4 k k1 k2) k
   ·exact go p P λ_=>rfl
  ·rw[bU c];dsimp only;rw[if_neg Bool.false_ne_true]
   refine⟨P.lt (by omega),P.lt (by omega),?_⟩
   by_cases d:rk (p.getD (a - 1) 0)<rk (p.getD a 0)
   ·rw[cB d];dsimp only;rw[if_pos rfl]
    exact⟨P,aW _,by show a<=a+(f+1);omega,h1,h3,h4⟩
   ·rw[bU d];dsimp only;rw[if_neg Bool.false_ne_true]
    have e:rk (p.getD a 0)=rk (p.getD (a - 1) 0):=Int.le_antisymm (rP.mp d) (rP.mp c);refine(xk f p (a+1) (q+1) P (by omega) (by omega) (λi j hij hj=>?_) λk k1 k2=>?_).mono λr ⟨z1,z2,z3,z4⟩=>⟨z1,by omega,by omega,z4⟩
    ·by_cases hj2:j=a
     ·subst hj2
      by_cases hi:i=j
      ·rw[hi];exact lG _
      ·rw[e];exact h3 i (j - 1) (by omega) (by omega)
     ·exact h3 i j hij (by omega)
    ·rw[show a+1 - 1=a from rfl]
     by_cases hk:k=a
     ·rw[hk]
     ·rw[e];exact h4 k (by omega) (by omega)
def wd(n:Nat)(rk:Nat->Int)(nrem:Nat)(r:Nat × Array Nat):Prop:=Pm n r.2/\1<=r.1/\r.1<=nrem/\Up rk r.2 r.1
theorem GX{a nrem:Nat}(P:Pm n p)(h1:1<=a)(h2:a<=nrem)(h3:nrem<=n)(h4:Dn rk p a):cK n rk (kas_tail3 a nrem p) (wd n rk nrem):=by
 have hs:=P.size;have P':Pm n (kas_rev p 0 a):=P.ux;exact cK.bind ((xi P' (nrem - a) a h1 (by omega) (Up.rev (by omega) h4)).mono λm ⟨z1,z2,z3,_⟩=>⟨P',by omega,by show m<=nrem;omega,z3⟩)
theorem GR{a nrem:Nat}(P:Pm n p)(h1:a+1<=nrem)(h3:nrem<=n)(h4:Dn rk p (a+1)):cK n rk (kas_descPart a nrem p) (wd n rk nrem):=by
 refine cK.bind ((xk (nrem - (a+1)) p (a+1) 0 P (by omega) (by omega) h4 λk k1 k2=>?_).mono λr ⟨z1,z2,z3,z4,z5,z6⟩=>?_)
 ·obtain rfl:k=a+1 - 1:=by omega
  rfl
 ·have hs:=z1.size
  split
  ·refine GX z1.ux (by omega) (by omega) h3 λi j hij hj=>?_
   have q:=BP (rk:=rk) (p:=r.1) (i:=r.2.1 - (r.2.2+1)) (j:=r.2.1) (by omega) z6;rw[q,q];exact z5 i j hij hj
  ·exact GX z1 (by omega) (by omega) h3 z5
theorem Qk{nrem:Nat}(P:Pm n p)(h1:1<=nrem)(h3:nrem<=n):cK n rk (kas_count nrem p) (wd n rk nrem):=by
 have hs:=P.size;refine cK.bind ((xi P (nrem - 1) 1 (aW _) (by omega) λi j hij hj=>?_).mono λm ⟨z1,z2,z3,z4⟩=>?_)
 ·obtain rfl:i=j:=by omega
  exact lG _
 ·split
  ·exact⟨P,z1,by show m<=nrem;omega,z3⟩
  ·rename_i ne
   have hm:m<nrem:=by
    have:m≠nrem:=λe=>ne (by simp[e])
    omega
   have lt:=z4 (by omega)
   split
   ·refine⟨P.lt (by omega),P.lt (by omega),?_⟩
    by_cases c:rk (p.getD 0 0)<rk (p.getD (m - 1) 0)
    ·rw[cB c];dsimp only;rw[if_pos rfl]
     exact⟨P,z1,by show m<=nrem;omega,z3⟩
    ·rw[bU c];dsimp only;rw[if_neg Bool.false_ne_true]
     have all:∀k,k<m->rk (p.getD k 0)=rk (p.getD (m - 1) 0):=λk hk=>Int.le_antisymm (z3 k (m - 1) (by omega) (by omega)) (o9 (rP.mp c) (z3 0 k (by omega) hk))
     have q:=BP (rk:=rk) (p:=p) (i:=0) (j:=m) (by omega) λk _ hk=>all k hk
     refine GR P.ux (by omega) h3 λi j hij hj=>?_
     rw[q,q]
     by_cases hj2:j=m
     ·subst hj2
      by_cases hi:i=j
      ·rw[hi];exact lG _
      ·rw[all i (by omega)];exact wj lt
     ·rw[all i (by omega),all j (by omega)];exact lG _
   ·obtain rfl:m=1:=by omega
    refine GR P (by omega) h3 λi j hij hj=>?_
    by_cases hj2:i=j
    ·rw[hj2];exact lG _
    ·obtain rfl:i=0:=by omega
     obtain rfl:j=1:=by omega
     exact wj lt
theorem xl{k:Nat}(P:Pm n p)(hk:k<n)(hU:Up rk p k):∀(f l r:Nat),l<=r->r<=k->r - l<=f->(∀i,i<l->rk (p.getD i 0)<=rk (p.getD k 0))->(∀i,r<=i->i<k->rk (p.getD k 0)<=rk (p.getD i 0))->cK n rk (kas_place p k f l r) λm=>m<=k/\(∀i,i<m->rk (p.getD i 0)<=rk (p.getD k 0))/\∀i,m<=i->i<k->rk (p.getD k 0)<=rk (p.getD i 0)
 |0,l,r,h1,h2,h3,h4,h5=>by
  obtain rfl:l=r:=by omega
  exact⟨h2,h4,h5⟩
 |f+1,l,r,h1,h2,h3,h4,h5=>by
  unfold kas_place
  split
  ·obtain rfl:l=r:=by omega
   exact⟨h2,h4,h5⟩
  ·rename_i g
   refine⟨P.lt hk,P.lt (by omega),?_⟩
   by_cases c:rk (p.getD k 0)<rk (p.getD ((l+r) / 2) 0)
   ·rw[cB c];dsimp only;rw[if_pos rfl]
    refine xl P hk hU f l ((l+r) / 2) (by omega) (by omega) (by omega) h4 λi i1 i2=>?_
    exact o9 (wj c) (hU _ _ i1 i2)
   ·rw[bU c];dsimp only;rw[if_neg Bool.false_ne_true]
    refine xl P hk hU f ((l+r) / 2+1) r (by omega) h2 (by omega) (λi i1=>?_) h5;exact o9 (hU i ((l+r) / 2) (by omega) (by omega)) (rP.mp c)
theorem GQ:∀(f:Nat) (p:Array Nat) (k:Nat),Pm n p->k+f<=n->Up rk p k->cK n rk (kas_bin f p k) λr=>Pm n r/\Up rk r (k+f)
 |0,p,k,P,h1,h2=>⟨P,h2⟩
 |f+1,p,k,P,h1,h2=>by
  have hs:=P.size;refine cK.bind ((xl P (by omega) h2 k 0 k (eD _) (aW _) (by omega) (λi hi=>by omega) (λi i1 i2=>by omega)).mono λl ⟨z1,z2,z3⟩=>?_);refine(GQ f (bubble p k (k - l)) (k+1) P.Qz (by omega) λi j hij hj=>?_).mono λr ⟨y1,y2⟩=>⟨y1,by rw[show k+(f+1)=k+1+f by omega];exact y2⟩
  ·rw[Io (by omega) z1,Io (by omega) z1]
   repeat' split
   all_goals first|exact lG _ | (exfalso;omega)|exact h2 _ _ (by omega) (by omega)|exact z3 _ (by omega) (by omega)|exact z2 _ (by omega)
theorem Ql(h1:1<=n):cK n rk (kas_sort n) λr=>Pm n r/\Up rk r n:=by
 refine cK.bind ((Qk (nrem:=n) (Array.Perm.refl _) h1 (aW _)).mono λr ⟨z1,z2,z3,z4⟩=>?_)
 split
 ·have e:max r.1 1=r.1:=by omega
  rw[e];exact(GQ (n - r.1) r.2 r.1 z1 (by omega) z4).mono λq ⟨y1,y2⟩=>⟨y1,by rw[show r.1+(n - r.1)=n by omega]at y2;exact y2⟩
 ·obtain e:r.1=n:=by omega
  rw[e]at z4;exact⟨z1,z4⟩
end
end L2
namespace L2
open PySem PySem.Spec PyProof.Rows PySem.W
section
variable {prog:Program} {w:World} {A:Around} {E:Value->Shared->Prop} {s:Shared} {M:Model}
theorem mapM_some{α β:Type}{f:α->Sem β}{P:β->Prop}:∀(l:List α) {Q:List β->Shared->Prop},(∀v∈l,∃r,P r/\∀Q':β->Shared->Prop,Q' r s->wpAny M A (f v) Q' E s)->(∀rs:List β,rs.length=l.length->(∀r∈rs,P r)->Q rs s)->wpAny M A (l.mapM f) Q E s
 | [],Q,_,h=>by rw[List.mapM_nil];exact aI (h [] rfl λr z=>nomatch z)
 |x::l,Q,hf,h=>by
  rw[List.mapM_cons];obtain⟨r,pr,hr⟩:=hf x (.head _);refine ai (hr _ (ai (mapM_some (P:=P) l (λv hv=>hf v (.tail _ hv)) λrs hl hp=>aI (h (r::rs) (by simp[hl]) λq hq=>?_))))
  rcases bq.mp hq with rfl|hq
  ·exact pr
  ·exact hp q hq
theorem JD:∀(rs:List (Option Value)),(∀r∈rs,∃a t,r=some (Value.int a t))->∃ns,IntsAre (rs.filterMap id) ns/\ns.length=rs.length
 | [],_=>⟨[],.nil,rfl⟩
 |r::rs,h=>by
  obtain⟨a,t,rfl⟩:=h r (.head _);obtain⟨ns,h1,h2⟩:=JD rs λq hq=>h q (.tail _ hq)
  exact⟨a::ns,.cons a t h1,by simp[h2]⟩
theorem Ye {vs:List Value} {ns:List Int} (h:IntsAre vs ns) (hn:ns≠[]):oneTypeOnly' vs.toArray=pure (some (Value.type "int")):=by
 rw[oneTypeOnly'_eq,List.mapM_toArray,mapM_typeOf_ints h];simp only[map_pure,pure_bind];cases h with
 |nil=>exact absurd rfl hn
 |cons n t h=>simp
theorem Vr {keys:List Value} (h2:keys≠[]) (hk:∀v∈keys,∃(x:Addr) (o:Obj) (n:Nat) (its:Array Value) (a:Int) (t:Tok),v = .ref x/\s.heap.get? x=some o/\o.cls = .type "tuple" /\ o.data = .seq its n/\its[0]? = some (.int a t)) {Q:SortKind->Shared->Prop} (h:Q (tuples' true) s) :
  wpAny M A (keyKind' keys.toArray) Q E s:=by
 rw[keyKind'_eq,List.mapM_toArray,map_eq_pure_bind];refine ai (ai (mapM_some (P:=λr=>∃a t,r=some (Value.int a t)) _ (λv hv=>?_) λrs hl hr=>aI ?_))
 ·obtain⟨x,o,n,its,a,t,rfl,ho,hc,hd,hi⟩:=hk v hv
  refine⟨_,⟨a,t,rfl⟩,λQ' hq=>?_⟩;rw[kas_first_eq];refine ai (wpAny_typeOf_ref ho ?_);rw[hc,if_neg (by decide)];refine ai (sr ho hd (aI ?_));rw[hi];exact hq
 ·obtain⟨ns,hI,hn⟩:=JD rs hr
  have all:(rs.toArray.all λx=>x.isSome)=true:=by
   rw[List.all_toArray,fZ];intro r h;obtain⟨a,t,rfl⟩:=hr r h;rfl
  rw[if_pos all];refine ai (pM ?_);have e:(rs.toArray.filterMap id)=(rs.filterMap id).toArray:=by simp
  rw[e,Ye hI (λz=>h2 (by rw[z]at hn;exact List.length_eq_zero_iff.mp (by simpa[hl]using hn.symm)))];exact ai (aI (aI h))
section
variable {a kS:Addr} {e1:Nat} {keys its:List Value} {kz:List Int} {κ:SortKind}
theorem item_at(hl:keys.length=its.length){i:Nat}(hi:i<its.length):kas_item (keys.toArray.zip its.toArray) i=(keys.getD i Value.none,its.getD i Value.none):=by
 unfold kas_item;have h1:i<keys.length:=by omega
 have h2:i<min keys.length its.length:=by omega
 simp[Array.getD,h1,hi,h2]
theorem Z8{R:PySem.Fin->Shared->Prop}(hl:keys.length=its.length)(hz:kz.length=its.length)(h64:its.length<64)(hkind:2<=its.length->∀Q:SortKind->Shared->Prop,Q κ s->wpAny (model prog w) A (keyKind' keys.toArray) Q E s)(hcmp:∀i j,i<its.length->j<its.length->∀Q:Bool->Shared->Prop,Q (decide (kz.getD i 0<kz.getD j 0)) s->wpAny (model prog w) A (keyLt' κ (keys.getD i Value.none) (keys.getD j Value.none)) Q (λ_ _=>False) s)(h:∀st:SortSt,failedOf st=none->KskOut false kz its ((arrOf st).map (·.2)).toList->((arrOf st).map (·.2)).toList.length=its.length->wpAny (model prog w) A (ksk_tail a false e1 (.ref kS) st) R E s):wpAny (model prog w) A (ksk_end a false its.toArray e1 (.ref kS) keys.toArray) R E s:=by
 have zs:(keys.toArray.zip its.toArray).size=its.length:=by simp[hl]
 unfold ksk_end;simp only[h7,gi]
 by_cases few:its.toArray.size<2
 ·simp only[if_pos few]
  refine ai (aI ?_);rw[StateT.run_pure];rw[bP]at few;have e:((keys.toArray.zip its.toArray).map (·.2)).toList=its:=by
   rw[Array.toList_map,ksk_zip];exact List.map_snd_zip (by simp[hl])
  refine ai (aI (h _ rfl ?_ ?_))
  ·show KskOut false kz its ((keys.toArray.zip its.toArray).map (·.2)).toList
   rw[e];refine⟨kz.zip its,.refl _,(List.map_snd_zip (by omega)).symm,?_⟩;have:(kz.zip its).length<=1:=by simp;omega
   match kz.zip its,this with
   | [],_=>exact .nil
   | [x],_=>exact List.pairwise_singleton _ _
  ·show((keys.toArray.zip its.toArray).map (·.2)).toList.length=its.length
   rw[e]
 ·simp only[if_neg few]
  rw[bP]at few;refine ai (hkind (by omega) _ ?_);have est:SortSt.mk' κ (keys.toArray.zip its.toArray) #[] 7 none=kas_st κ (keys.toArray.zip its.toArray) (List.toArray (List.range its.length)):=by
   have e:=kas_range (keys.toArray.zip its.toArray);rw[zs]at e;show SortSt.mk' κ (keys.toArray.zip its.toArray) #[] 7 none=SortSt.mk' κ ((List.toArray (List.range its.length)).map (kas_item (keys.toArray.zip its.toArray))) #[] 7 none;rw[e]
  have run:=kas_runs (prog:=prog) (w:=w) (A:=A) (E:=E) (κ:=κ) (it:=keys.toArray.zip its.toArray) (n:=its.length)
   (Q:=λ_ st' s'=>s'=s/\∃p:Array Nat,Pm its.length p/\Up (λi=>kz.getD i 0) p its.length/\arrOf st'=p.map (kas_item (keys.toArray.zip its.toArray))/\failedOf st'=none)
   (G:=λp s'=>s'=s/\Pm its.length p/\Up (λi=>kz.getD i 0) p its.length) (s:=s) (by omega) h64
   (λp' st' s' _ a2 a3 a4=>⟨a4.1,p',a4.2.1,a4.2.2,a2,a3⟩)
   (cK.wp (λi j C hi hj hC=>by
    unfold kas_cmp;rw[item_at hl hi,item_at hl hj];exact hcmp i j hi hj C hC) (Ql (by omega)))
  rw[<- est]at run;refine ai (eG run ?_ λ_ _ z=>z);rintro⟨⟨⟩,st⟩ s' ⟨rfl,p,hp,hu,ha,hf⟩;have ps:=hp.size;have lt:∀i∈p.toList,i<its.length:=λi hi=>by
   have:=hp.mem_iff.mp (Array.mem_toList_iff.mp hi);simpa using this
  have eo:((arrOf st).map (·.2)).toList=p.toList.map λi=>its.getD i Value.none:=by
   rw[ha,Array.map_map,Array.toList_map];refine mU λi hi=>?_
   show(kas_item (keys.toArray.zip its.toArray) i).2=_;rw[item_at hl (lt i hi)]
  refine h st hf ?_ ?_
  ·rw[eo]
   refine⟨p.toList.map λi=>(kz.getD i 0,its.getD i Value.none),?_,?_,?_⟩
   ·have e1:p.toList.Perm (List.range its.length):=by simpa using Array.perm_iff_toList_perm.mp hp
    refine(e1.map _).trans (.of_eq ?_);refine lI (by simp[hz]) λi h1 h2=>?_
    have hi:i<its.length:=by simpa using h1
    have hi':i<kz.length:=by omega
    simp[hi,hi']
   ·rw[eZ]
    rfl
   ·rw[pD,FT]
    intro i j hi hj hij;have hj':j<p.size:=by simpa using hj
    have:=hu i j (dh hij) (by omega);have g:∀k (hk:k<p.size),p.getD k 0=p.toList[k]:=λk hk=>by simp[Array.getD,hk]
    rw[g i (by omega),g j hj']at this;exact this
  ·rw[eo,az,jB,ps]
end
end
section
variable {X:Cx} {pins:List (Addr × Obj)} {σ:St} {H:Hp} {s:Shared} {qual x:Str} {params:Arguments} {body:Expr} {scope:Scope} {fr:List (Str × Nat)} {tb:TE} {p:Addr} {v:V} {u:Value} {xs:List V} {kz:List Int} {kw:List (List V)} {Q:VK} {E:Value->Shared->Prop}
structure ku (X:Cx) (H:Hp) (kw:List (List V)) (kz:List Int):Prop where
 head:∀ws∈kw,∃a:Int,ws[0]? = some (.int a)
 cmp:∀(i j:Nat) (H3:Hp) (A:Around) (s:Shared) (E:Value->Shared->Prop) (pins:List (Addr × Obj)) (σ:St) (r q:Addr) (ws vs:List V),Same H H3->Inv X pins σ H3 s->kw[i]? = some ws->kw[j]? = some vs->H3 r=some (.tup ws)->H3 q=some (.tup vs) ->
  ∀Q:Bool->Shared->Prop,Q (decide (kz.getD i 0<kz.getD j 0)) s->wpAny (model X.prog X.w) A (keyLt' (tuples' true) (.ref r) (.ref q)) Q E s
theorem Z_{A:Around}{a:Addr}{its:List Value}{R:PySem.Fin->Shared->Prop}(hA:A.frames=X.A.frames)(hd:A.handled=none)(hr:A.depth<recursionLimit)(qg:A.guards=X.A.guards/\A.units<=X.A.units+2/\A.depth=X.A.depth)(KL:rQ X qual x params body scope fr tb)
  (I:Inv X pins σ H s) (fa:dF X pins H a) (ea:s.heap.get? a=some (seqObj "list" its.toArray 0)) (rv:Vals xs its) (L:h9 H p qual params body scope (cQ X.env.cells scope.names [])) (hl:kz.length=xs.length) (hw:kw.length=xs.length) (h64:xs.length<64)
  (TK:ku X H kw kz)
  (turn:∀(i:Nat) y ws,xs[i]? = some y->kw[i]? = some ws->∀H3,Same H H3->tb (some y::lamσ fr σ) H3 λz H4=>(∃r,z = .ref r/\H4 r=some (.tup ws))/\Same H3 H4)
  (q:∀ys H3 s',Same H H3->H3 a=some (.lst ys)->nu kz xs ys->Inv X pins σ H3 s'->R (.done (.ret .none)) s') :
  wpAny (model X.prog X.w) A (ksk_tree a (.ref p) false) R E s:=by
 have big:(64:Nat)<=sizeLine:=by decide +kernel
 have l1:=rv.length;have al:a<s.heap.objs.size:=aQ ea;unfold ksk_tree;refine ai (sr ea rfl (ai (listUpdate_at ea rfl ?_ (by show(its.toArray).size<=sizeLine;rw[bP];omega) (eD _))));obtain⟨e1,nZ⟩:∃e1,(s.heap.update a (Obj.mapSeq λ_=>(#[]:Array Value))).get? a=some (seqObj "list" #[] e1):=⟨_,get?_update_seq ea λ_=>#[]⟩;have I1:Inv X pins σ H {s with heap:=s.heap.update a (Obj.mapSeq λ_=>(#[]:Array Value)),toks:=s.toks}:=
  I.turned (λb o hb e=>by rw[pJ _ _ _ _ hb];exact e) fa.1 fa.2.1 fa.2.2.2.1 fa.2.2.2.2.1 fa.2.2.2.2.2
 refine ai (seqEpoch_at nZ rfl (ai (wpAny_newTuple (ai (wpAny_newList (eF ?_) (eD _))) (by show its.length<=sizeLine;omega))));have I2:Inv X pins σ H {s with heap:=(s.heap.update a (Obj.mapSeq λ_=>(#[]:Array Value))).push {cls:=.type "tuple", data:=.seq its.toArray},toks:=s.toks}:=I1.kept λb o e=>aU _ e
 have I3:=I2.um (its:=[]) (ys:=[]) (t':=s.toks) .nil (eD _);have Hy:((s.heap.update a (Obj.mapSeq λ_=>(#[]:Array Value))).push {cls:=.type "tuple", data:=.seq its.toArray}).get? a=some (seqObj "list" #[] e1):=aU _ nZ;have nH:H ((s.heap.update a (Obj.mapSeq λ_=>(#[]:Array Value))).push {cls:=.type "tuple", data:=.seq its.toArray}).objs.size=none:=I2.fresh;have nk:a≠((s.heap.update a (Obj.mapSeq λ_=>(#[]:Array Value))).push {cls:=.type "tuple", data:=.seq its.toArray}).objs.size:=bu (aQ Hy);generalize hkS:((s.heap.update a (Obj.mapSeq λ_=>(#[]:Array Value))).push {cls:=.type "tuple", data:=.seq its.toArray}).objs.size=kS at I3 nH nk;have RZ:dF X pins (upd H kS (.lst [])) a:=⟨by rw[aD nk];exact fa.1,fa.2⟩;have I4:Inv X ((a,seqObj "list" #[] e1)::pins) σ (upd H kS (.lst [])) _:=I3.uM λq hq=>by
  rcases bq.mp hq with rfl|hq
  ·exact⟨aU _ Hy,RZ.1,fa.2.1,fa.2.2.1,λv z=>by cases z⟩
  ·exact I3.pin q (gE _ hq)
 have sm:Same H (upd H kS (.lst [])):=Same.put nH;refine sort_keys (Kp:=λi z G=>∀ws,kw[i]? = some ws->∃r,z = .ref r/\r≠kS/\G r=some (.tup ws)) hA hd hr qg KL (by omega) I4 ao (L.same sm) rv (λi z G G' hz sx ws e=>?_) (λi y hy H3 s3 hk3=>?_) (λkv G s' keys n hkv hK J hG sX ek rk=>?_)
 ·obtain⟨r,h1,h2,h3⟩:=hz ws e
  exact⟨r,h1,h2,sx r _ h2 h3⟩
 ·have hi:i<kw.length:=by rw[hw];exact(bN.mp hy).1
  have:=turn i y _ hy (aB hi) H3 (du.of nH λb o hb e=>s3 b o hb (sm b o e));have e:(λ(z:V) (H4:Hp)=>(∃r,z = .ref r/\H4 r=some (.tup kw[i]))/\Same H3 H4)=λz H4=>(∀ws,kw[i]? = some ws->∃r,z = .ref r/\r≠kS/\H4 r=some (.tup ws))/\Same H3 H4:=by
   obtain⟨kv,hk3⟩:=hk3
   funext z H4
   refine propext ⟨λ⟨⟨r,h1,h2⟩,h3⟩=>⟨λws ek=>?_,h3⟩,λ⟨h1,h2⟩=>⟨?_,h2⟩⟩
   ·rw[aB hi]at ek;cases ek
    exact⟨r,h1,hV h2 (h3 _ _ hk3) (by intro z;cases z),h2⟩
   ·obtain⟨r,z1,_,z3⟩:=h1 _ (aB hi)
    exact⟨r,z1,z3⟩
  rw[e]at this;exact this
 ·have N9:Same H G:=λb o e=>sX b o (cV e nH) (sm b o e)
  have hkl:keys.length=its.length:=by rw[<- rk.length];omega
  have key:∀i,i<its.length->∃(r:Addr) (ws:List V),kw[i]? = some ws/\keys.getD i Value.none = .ref r/\G r=some (.tup ws):=λi hi=>by
   have hi1:i<kw.length:=by omega
   have hi2:i<kv.length:=by omega
   obtain⟨r,h1,_,h3⟩:=hK i _ (aB hi2) _ (aB hi1);obtain⟨u,e1,e2⟩:=rk.get (aB hi2);rw[h1]at e2;exact⟨r,_,aB hi1,by rw[aO,e1];exact e2,h3⟩
  refine Z8 (κ:=tuples' true) (kz:=kz) hkl (by omega) (by omega) (λh2 Q hq=>Vr (λz=>by rw[z]at hkl;simp at hkl;omega) (λv hv=>?_) hq) (λi j hi hj Q hq=>?_) λst z1 z2 z3=>?_
  ·obtain⟨i,hi,rfl⟩:=iG hv
   obtain⟨r,ws,e1,e2,e3⟩:=key i (by omega);obtain⟨b,e4⟩:=TK.head ws (dG e1);obtain⟨_,its',rv',⟨o,ho,hc,m,hd'⟩,_⟩:=(show bw X.prog X.w G s'.heap r (.tup ws)from J.hok r _ e3);obtain⟨u,e5,t,rfl⟩:=rv'.get e4;rw[aO,aB hi]at e2;exact⟨r,o,m,its'.toArray,b,t,e2,ho,hc,hd',by simpa using e5⟩
  ·obtain⟨r,ws,e1,e2,e3⟩:=key i hi
   obtain⟨r',ws',e1',e2',e3'⟩:=key j hj;rw[e2,e2'];exact TK.cmp i j G A s' _ _ _ r r' ws ws' N9 J e1 e1' e3 e3' Q hq
  ·obtain⟨ys,hv,hs⟩:=Z' rv z2
   have fG:dF X pins G a:=⟨(J.pin (a,seqObj "list" #[] e1) (gE _ (b9 ..))).2.1,fa.2⟩;refine Z9 J hG ek (by omega) fG z1 rfl hv (by omega) λs2 J2=>q ys _ s2 (λb o e=>?_) ao hs J2
   have b1:b≠kS:=cV e nH;have b2:b≠a:=cV e fa.1;rw[aD b2,aD b1];exact N9 b o e
theorem ku.same{H H':Hp}(h:ku X H kw kz)(s:Same H H'):ku X H' kw kz:=
 ⟨h.head,λi j H3 A sh E pins σ r q ws vs sm=>h.cmp i j H3 A sh E pins σ r q ws vs (s.trans sm)⟩
theorem QS(hr:bR 0 X.A)(KL:rQ X qual x params body scope fr tb)(I:Inv X pins σ H s)(r:RelV v u)(src:lR X.K H v xs)(L:h9 H p qual params body scope (cQ X.env.cells scope.names []))(hl:kz.length=xs.length)(hw:kw.length=xs.length)(h64:xs.length<64)(TK:ku X H kw kz)(turn:∀(i:Nat) y ws,xs[i]? = some y->kw[i]? = some ws->∀H3,Same H H3->tb (some y::lamσ fr σ) H3 λz H4=>(∃r,z = .ref r/\H4 r=some (.tup ws))/\Same H3 H4)(q:∀ys r H3,Same H H3->H r=none->H3 r=some (.lst ys)->nu kz xs ys->Q (.ref r) H3):
  wpAny (model X.prog X.w) X.A (call (.builtin "sorted") [u] [(Str.ofString "key", .ref p)]) (EP X pins σ Q) E s:=by
 have big:(64:Nat)<=sizeLine:=by decide +kernel
 refine call_function_entry_kw kind_sorted plain_sorted entry_sorted (ksk_s1 u (.ref p)) ?_;unfold Builtin.«sorted»;refine ai (m:=checkCount "sorted" 1 1 _) (aI (ai (QZ (A:=X.A.in1) hr.hd I r src (by omega) λits s1 rv I1=>ai (wpAny_newList ?_ (by rw[<- rv.length];omega)))));have I2:Inv X pins σ H {s1 with heap:=s1.heap.push {cls:=.type "list", data:=.seq its.toArray},toks:=s1.toks}:=I1.kept λb o e=>aU _ e
 have fa:dF X pins H s1.heap.objs.size:=I1.og (aW _) I1.fresh;have ea:(s1.heap.push {cls:=.type "list", data:=.seq its.toArray}).get? s1.heap.objs.size=some (seqObj "list" its.toArray 0):=cn _ rfl;refine ai (eF (wpAny_call_entry_kw slot_list_sort ⟨_,ea,rfl⟩ entry_list_sort ?_ (ksk_l1 _ _)));show wpAny (model X.prog X.w) X.A.in1.in1 (Builtin.«list.sort» ⟨[.ref s1.heap.objs.size],[(Str.ofString "key", .ref p)]⟩) _ _ _;rw[ksk_t1];refine Z_ (s:={s1 with heap:=s1.heap.push {cls:=.type "list", data:=.seq its.toArray},toks:=s1.toks}) rfl hr.hd hr.depth ⟨rfl,aW _,rfl⟩ KL I2 fa ea rv L hl hw h64 TK turn λys H3 s3 sm g3 so I3=>⟨_,rfl,aI ⟨_,rfl,.ref s1.heap.objs.size,H3,I3,rfl,q ys _ H3 sm fa.1 g3 so⟩⟩
end
section
variable {X:Cx} {x:Str} {params:Arguments} {body e:Expr} {scope:Scope} {fr:List (Str × Nat)} {tb ti:TE} {c P:Addr} {p0 qB kpos pos:Pos}
def aaH(X:Cx)(ti:TE)(P:Addr)(pos:Pos)(qual:Str)(fr:List (Str × Nat))(tb:TE):TE:=λσ H Q=>ti σ H λv H1=>H1 P=some (.lam pos qual)/\∃(xs:List V) (kz:List Int) (kw:List (List V)),lR X.K H1 v xs/\kz.length=xs.length/\kw.length=xs.length/\xs.length<64/\ku X H1 kw kz /\
 (∀(i:Nat) y ws,xs[i]? = some y->kw[i]? = some ws->∀H3,Same H1 H3->tb (some y::lamσ fr σ) H3 λz H4=>(∃r,z = .ref r/\H4 r=some (.tup ws))/\Same H3 H4) /\
 ∀ys r H3,Same H1 H3->H1 r=none->H3 r=some (.lst ys)->nu kz xs ys->Q (.ref r) H3
theorem YL (hg:Gl X "sorted") (hm:X.mg "sorted" = none) (T:TabAt X.base X.mg c P) (hcode:X.env.code = .ref c) (hr:bR 0 X.A) (KL:rQ X (X.env.qual ++ "<lambda>") x params body scope fr tb) (hi:PE X e ti)
  (hdef:defaultsOf params X.env=([],[]):=by rfl) (he:starEach [e] X.env = [(false,eval e X.env)]:=by rfl) :
  PE X (.Call (.Name "sorted" p0) [e] [⟨some "key", .Lambda params body scope qB,kpos⟩] pos) (aaH X ti P qB (X.env.qual ++ "<lambda>") fr tb):=by
 intro pins s σ H Q I h;refine m_ (jq I hg hm boot_sorted ?_ (by decide) (by decide));refine callWith_kw (kws:=[⟨some "key", .Lambda params body scope qB,kpos⟩]) (aK (ae hi ag he pos pins s σ H (uC λv H1=>H1 P=some (.lam qB (X.env.qual ++ "<lambda>"))/\∃(xs:List V) (kz:List Int) (kw:List (List V)),lR X.K H1 v xs/\kz.length=xs.length/\kw.length=xs.length/\xs.length<64/\ku X H1 kw kz /\
  (∀(i:Nat) y ws,xs[i]? = some y->kw[i]? = some ws->∀H3,Same H1 H3->tb (some y::lamσ fr σ) H3 λz H4=>(∃r,z = .ref r/\H4 r=some (.tup ws))/\Same H3 H4)/\∀ys r H3,Same H1 H3->H1 r=none->H3 r=some (.lst ys)->nu kz xs ys->Q (.ref r) H3) I h) λus s1 hq=>?_) (by rw[he];rfl) (by rw[he];rfl) (by rfl) (by rfl)
 ·obtain⟨vs,H1,I1,r1,hq⟩:=hq
  obtain⟨v,rfl,hP,xs,kz,kw,src,hl,hw,h64,TK,turn,q⟩:=hq.get;obtain⟨u,rfl,ru⟩:=r1.one;refine kws_cons (aK (YD T hcode (λok y hy hk=>ok.has _ (KL.blk.free y hy hk)) hdef pins s1 σ H1 (λf H2=>∃p,f = .ref p/\Same H1 H2/\h9 H2 p (X.env.qual ++ "<lambda>") params body scope (cQ X.env.cells scope.names [])) I1 ⟨hP,λp H2 s2 _ L=>⟨p,rfl,s2,L⟩⟩) λfv s2 ⟨f,H2,I2,rf,p,ef,sm,L⟩=>kws_nil ?_);subst ef;obtain rfl:fv = .ref p:=rf;exact QS hr KL I2 ru (src.same sm) L hl hw h64 (TK.same sm) (λi y k h1 h2 H3 s3=>turn i y k h1 h2 H3 (sm.trans s3)) λys r H3 s3 n3 g3 so=>q ys r H3 (sm.trans s3) (sm.free n3) g3 so
end
theorem aaP{X:Cx}{H:Hp}{ks:List (Int × Int)}(hb:∀k∈ks,0<=k.2/\k.2<1000):ku X H (ks.map λk=>[.int k.1,.int k.2]) (ks.map λk=>k.1 * 1000+k.2) where
 head:=λws h=>by
  obtain⟨k,_,rfl⟩:=cW.mp h;exact⟨k.1,rfl⟩
 cmp:=λi j H3 A s E pins σ r q ws vs _ I e1 e2 h1 h2 Q hq=>by
  rw[bO]at e1 e2;cases z1:ks[i]? with
  |none=>rw[z1]at e1;cases e1
  |some a =>
   cases z2:ks[j]? with
   |none=>rw[z2]at e2;cases e2
   |some b =>
    rw[z1]at e1;rw[z2]at e2;obtain rfl:[V.int a.1,V.int a.2]=ws:=by simpa using e1
    obtain rfl:[V.int b.1,V.int b.2]=vs:=by simpa using e2
    obtain⟨_,its,rv,⟨o,ho,_,n,hd⟩,_⟩:=(show bw X.prog X.w H3 s.heap r _ from I.hok r _ h1);obtain⟨_,its',rv',⟨o',ho',_,n',hd'⟩,_⟩:=(show bw X.prog X.w H3 s.heap q _ from I.hok q _ h2);cases rv with
    |cons r1 rv =>
     cases rv with
     |cons r2 rv =>
      cases rv;cases rv' with
      |cons r1' rv' =>
       cases rv' with
       |cons r2' rv' =>
        cases rv';obtain⟨t1,rfl⟩:=r1;obtain⟨t2,rfl⟩:=r2;obtain⟨u1,rfl⟩:=r1';obtain⟨u2,rfl⟩:=r2';refine Vo (p:=a) (q:=b) ho hd ho' hd' ?_;have b1:=hb a (dG z1);have b2:=hb b (dG z2);have g:∀(k:Nat) (c:Int × Int),ks[k]? = some c->(ks.map λk=>k.1 * 1000+k.2).getD k 0=c.1 * 1000+c.2:=λk c e=>by
         rw[aO,bO,e];rfl
        rw[g i a z1,g j b z2]at hq;have:uI a b=decide (a.1 * 1000+a.2<b.1 * 1000+b.2):=by
         unfold uI
         by_cases c1:a.1<b.1
         ·rw[cB c1,cB (show a.1 * 1000+a.2<b.1 * 1000+b.2 by omega)];rfl
         ·by_cases c2:a.1=b.1
          ·by_cases c3:a.2<b.2
           ·rw[cB c2,cB c3,cB (show a.1 * 1000+a.2<b.1 * 1000+b.2 by omega),bU c1];rfl
           ·rw[cB c2,bU c3,bU (show ¬ a.1 * 1000+a.2<b.1 * 1000+b.2 by omega),bU c1];rfl
          ·rw[bU c2,bU (show ¬ a.1 * 1000+a.2<b.1 * 1000+b.2 by omega),bU c1];rfl
        rw[this];exact hq
end L2
namespace My
open PySem PySem.Spec PyProof.Rows L2
theorem tj{n:Nat}{R:Nat->Nat->Bool}{zs:List Int}(h:bF n R zs=true):zs≠[]:=λe=>by
 rw[e]at h;cases h
theorem Hg{n:Nat}{R:Nat->Nat->Bool}{zs:List Int}(h:bF n R zs=true):∃cs:List Nat,zs=(cs.map λx:Nat=>(x:Int))/\d_ n R cs:=by
 have h0:=h;unfold bF at h;simp only[bD,eN,fB]at h;obtain⟨h1,h2,h3⟩:=h;obtain⟨cs,rfl,hlt⟩:=KC h2;rw[az]at h1;refine⟨cs,rfl,⟨by omega,hlt,λi hi=>?_⟩⟩;unfold lS at h3;rw[fZ]at h3;have:=h3 i (by rw[az];exact dS.mpr (by omega));rw[fS,fS,dg,dg]at this;unfold bL at this;rw[bD,eN,fB]at this;exact this
theorem aaW{n:Nat}{R:Nat->Nat->Bool}{J N:Nat->Nat->Nat}{cs ds:List Nat}(M:Md n R J N)(hc:d_ n R cs)(hd:d_ n R ds)(e:di (cs.map λx:Nat=>(x:Int)) (ds.map λx:Nat=>(x:Int))=true):Two n R J N cs ds:=by
 unfold di at e;rw[bD,fO,fO,az,az,fS,fS,fS,fS]at e;exact⟨M,hc,hd,by omega,by omega⟩
theorem Kq{α β:Type}(l:List α)(d:α)(g:α->β):(List.range l.length).map (λj=>g (l.getD j d))=l.map g:=by
 refine lI (by simp) λi h1 h2=>?_
 have hi:i<l.length:=by simpa using h1
 rw[jD,lJ,jD,aO,aB hi];rfl
theorem Md.other{n:Nat}{R:Nat->Nat->Bool}{J N J' N':Nat->Nat->Nat}(M:Md n R J N)(hj:∀a b,a<n->b<n->c6 n R a b (J' a b))(hm:∀a b,a<n->b<n->c7 n R a b (N' a b)):Md n R J' N':=by
 have ej:∀a b,a<n->b<n->J' a b=J a b:=λa b ha hb=>(hj a b ha hb).uniq M.G (M.j a b ha hb)
 have em:∀a b,a<n->b<n->N' a b=N a b:=λa b ha hb=>(hm a b ha hb).uniq M.G (M.m a b ha hb)
 refine⟨M.G,hj,hm,λa b c ha hb hc h=>?_⟩;rw[em b c hb hc,ej a b ha hb,ej a _ ha (M.mlt hb hc),em _ c (M.fE ha hb) hc];exact M.md a b c ha hb hc h
theorem aac{H:Hp}{F:Nat × Nat->V->Prop}{fs:List (Nat × Nat)}{us ys:List V}(hp:Paired F fs us)(h:nu (fs.map gK) us ys):∃tn:List (Nat × Nat),tn.Perm fs/\tn.Pairwise (λx y=>gK x<=gK y)/\Paired F tn ys:=by
 obtain⟨ps,h1,rfl,h3⟩:=h;have e:(fs.map gK).zip us=(fs.zip us).map λq=>(gK q.1,q.2):=by
  have:=List.zip_map_left (f:=gK) (l₁:=fs) (l₂:=us);rw[this];rfl
 rw[e]at h1;obtain⟨l,rfl,hl⟩:=YQ h1;refine⟨l.map Prod.fst,?_,?_,?_⟩
 ·have:=hl.map Prod.fst
  rwa [List.map_fst_zip (Ga (dq hp))]at this
 ·rw[pD]at h3 ⊢
  exact h3
 ·rw[eZ]
  have all:∀q∈l,F q.1 q.2:=λq hq=>by
   have hq:=hl.mem_iff.mp hq;obtain⟨i,hi,e⟩:=iG hq;have hi1:i<fs.length:=by have:=hi;rw[List.length_zip]at this;omega
   have hi2:i<us.length:=by have:=hi;rw[List.length_zip]at this;omega
   rw[List.getElem_zip]at e;obtain⟨x,hx,hF⟩:=fk hp (aB hi2);rw[aB hi1]at hx;cases hx;rw[<- e];exact hF
  clear hl h1 h3 e hp
  induction l with
  |nil=>exact .nil
  |cons q l ih=>exact .cons (all q b9) (ih λz hz=>all z (cu _ hz))
def oO(H:Hp)(q:List V):V->Bool
 |.ref t=>match H t with
  |some (.tup ws)=>decide (ws=q)
  |_=>false
 |_=>false
theorem U8{K:W.Frag}{H:Hp}{t u:Addr}{a b c d a' b' c' d':Nat}(h1:H t=some (.tup [nV a,nV b,nV c,nV d]))(h2:H u=some (.tup [nV a',nV b',nV c',nV d'])):cg K H 1 (.ref t) (.ref u) (oO H [nV a',nV b',nV c',nV d'] (.ref t)):=by
 have:=cg.tup (K:=K) (H:=H) 0 t u _ _ (λj=>match j with|0=>(a:Int) == (a':Int)|1=>(b:Int) == (b':Int)|2=>(c:Int) == (c':Int)|_=>(d:Int) == (d':Int)) (aF.of h1) (aF.of h2) rfl λj x y hx hy=>by
  match j with
  |0=>cases hx;cases hy;exact cg.int 0 _ _
  |1=>cases hx;cases hy;exact cg.int 0 _ _
  |2=>cases hx;cases hy;exact cg.int 0 _ _
  |3=>cases hx;cases hy;exact cg.int 0 _ _
  |j+4=>simp at hx
 have e:oO H [nV a',nV b',nV c',nV d'] (.ref t)=(List.range [nV a,nV b,nV c,nV d].length).all (λj=>match j with|0=>(a:Int) == (a':Int)|1=>(b:Int) == (b':Int)|2=>(c:Int) == (c':Int)|_=>(d:Int) == (d':Int)):=by
  unfold oO;simp only[h1];rw[dQ,fO];show _ ↔ (List.range 4).all _=true;simp[ja,nV]
 rw[e];exact this
theorem V9{J N:Nat->Nat->Nat}{cs ds:List Nat}{H:Hp}{K:W.Frag}{tn:List (Nat × Nat)}{ys:List V}{r:Nat × Nat}{y:V}(hp:Paired (fF J N cs ds H) tn ys)(hr:r∈tn)(hy:fF J N cs ds H r y):∃e:V->Bool,(∀z∈ys,∃a,z = .ref a)/\(∀z∈ys,cg K H 1 z y (e z))/\(∃z,ys[tn.idxOf r]? = some z/\e z=true)/\∀(m:Nat) z,m<tn.idxOf r->ys[m]? = some z->e z=false:=by
 obtain⟨u,rfl,hu⟩:=hy;have hi:=pC.mpr hr;refine⟨oO H [nV r.1,nV r.2,nV (dz J N cs ds r),nV (cF N cs ds r)],λz hz=>?_,λz hz=>?_,?_,λm z hm hz=>?_⟩
 ·obtain⟨i,hi,e⟩:=iG hz
  obtain⟨q,_,t,e2,_⟩:=fk hp (show ys[i]? = some z by rw[aB hi,e]);exact⟨t,e2⟩
 ·obtain⟨i,hi,e⟩:=iG hz
  obtain⟨q,_,t,rfl,ht⟩:=fk hp (show ys[i]? = some z by rw[aB hi,e]);exact U8 ht hu
 ·obtain⟨z,hz,t,rfl,ht⟩:=jV hp (show tn[tn.idxOf r]? = some r by rw[aB hi,pB hi])
  refine⟨_,hz,?_⟩;unfold oO;simp only[ht,decide_true]
 ·obtain⟨q,hq,t,rfl,ht⟩:=fk hp hz
  have hm':m<tn.length:=by omega
  have ne:q≠r:=λe=>by
   rw[aB hm']at hq;have h2:tn[m]=r:=by rw[<- e];exact da hq
   have h3:=PQ (p:=λz=>z == r) (xs:=tn) (i:=m) hm;rw[h2]at h3;simp at h3
  unfold oO;simp only[ht,fB];intro e;simp only[rS,nV,V.int.injEq,Int.natCast_inj]at e;exact ne (Prod.ext e.1 e.2.1)
def outV(J N:Nat->Nat->Nat)(cs ds:List Nat)(H:Hp)(r:Nat × Nat)(v:V):Prop:=∃t,v = .ref t/\H t=some (.tup [nV ((cJ J N cs ds).idxOf r),nV (dz J N cs ds r),nV (cF N cs ds r)])
theorem outV.same{J N:Nat->Nat->Nat}{cs ds:List Nat}{H H':Hp}(s:Same H H'){l:List (Nat × Nat)}{us:List V}(h:Paired (outV J N cs ds H) l us):Paired (outV J N cs ds H') l us:=Paired.dA h λ_ _ ⟨t,e,q⟩=>⟨t,e,s _ _ q⟩
section
variable {P:Program} {w:World} {K:W.Frag} {mg:Str->Option Value} {base:Heap} {f:Addr} {fd:FuncData} {a0 a1 a2 a3 a4 a5 a6 a7 a8 a9 a10 a11 a12 a13 a14 aE:Addr}
abbrev CV:Stmt:=top 55
theorem NC:aZ ["order","one","other"] ["order","one","other"] (aA CV):=⟨rfl,rfl,rfl,by decide +kernel,rfl,by decide +kernel,by decide +kernel⟩
def Ej(K:W.Frag)(C cC cE:Addr):Sp:=λvs H Q E=>∃(p t u n:Nat) (R:Nat->Nat->Bool) (zs ws:List Int),vs = [.ref p,.ref t,.ref u]/\dH C H p n R/\n<=24/\ah K H t (zs.map V.int)/\ah K H u (ws.map V.int)/\zs.length<=1000/\ws.length<=1000 /\
 (bF n R zs=true->bF n R ws=true->di zs ws=true->∀H',Same H H'->Q .non H')/\(¬ (bF n R zs=true/\bF n R ws=true)->∀H',Same H H'->E (.ref cC) none H')/\(bF n R zs=true->bF n R ws=true->di zs ws=false->∀H',Same H H'->E (.ref cE) none H')
theorem Yb {C:Addr} (F:aR K "need_two_chains" "need_two_chains" CV f fd) (T:Txt mg) (TC:eX K C) (Er:kg mg a0 a1 a2 a3 a4 a5 a6 a7 a8 a9 a10 a11 a12 a13 a14 aE) (rF:W.excIn K a0 gO "ValueError.__new__" = true) (iO:aG P w K mg base "is_chain" ["order","things"] 3 (rn K C)) (nY:eP P w K mg base "need_like_ends" ["one","other"] 1 (vD K a3)) :
  aL P w K mg base (bI P w) 6 f fd ["order","one","other"] (Ej K C a0 a3):=by
 refine F.oC NC (λvs H Q E h=>?_) (λcdv A outer s H vs Q E hr h=>?_)
 ·obtain⟨p,t,u,n,R,zs,ws,rfl,_⟩:=h
  rfl
 ·obtain⟨p,t,u,n,R,zs,ws,rfl,hO,hn,hT,hU,fV,hwl,k1,k2,k3⟩:=h
  have nd:=NC.nd;refine⟨_,(au (bz (PW.pt (mD (iD (dY (aM iO hr rfl (ae (pv 0) (ae (pv 1) ag))))) (oN (iD (dY (aM iO hr rfl (ae (pv 0) (ae (pv 2) ag)))))))) (ax (BG uS Er.NoChain rF sv rfl rfl rfl (ae iB ag))) bH)
   (ax (cw (ju nY kQ hr rfl (ae (pv 1) (ae (pv 2) ag)))))),?_⟩
  refine⟨_,rfl,_,rfl,p,t,n,R,zs,rfl,hO,hn,hT,fV,λH1 s1=>⟨_,rfl,?_⟩⟩;cases c1:bF n R zs with
  |false=>exact eR ⟨by show 1<=sizeLine;decide,k2 (λz=>by rw[z.1]at c1;cases c1) _ s1⟩
  |true =>
   refine cG ⟨_,rfl,_,rfl,p,u,n,R,ws,rfl,hO.dD s1,hn,s1.seq hU,hwl,λH2 s2=>⟨_,rfl,?_⟩⟩;cases c2:bF n R ws with
   |false=>exact eR ⟨by show 1<=sizeLine;decide,k2 (λz=>by rw[z.2]at c2;cases c2) _ (s1.trans s2)⟩
   |true =>
    refine cG ?_;have s12:=s1.trans s2;exact⟨_,rfl,_,rfl,t,u,zs,ws,rfl,s12.seq hT,s12.seq hU,tj c1,tj c2,λe H3 s3=>k1 c1 c2 e _ (s12.trans s3),λe H3 s3=>k3 c1 c2 e _ (s12.trans s3)⟩
abbrev j4:Stmt:=top 56
theorem Np:aZ ["order","one","other","found","turned","longer_one","longer_other"] ["order","one","other"] (aA j4):=⟨rfl,rfl,rfl,by decide +kernel,rfl,by decide +kernel,by decide +kernel⟩
abbrev kN:Pos:=⟨220,31,220,59⟩
abbrev kO:Str:=("longer" : Str) ++ ".<locals>." ++ "<lambda>"
def vE(K:W.Frag)(C cC cE cN Pt:Addr):Sp:=λvs H Q E=>∃(p t u n:Nat) (R:Nat->Nat->Bool) (J N:Nat->Nat->Nat) (zs ws:List Int),vs = [.ref p,.ref t,.ref u]/\dH C H p n R/\Good n R/\n<=24/\(∀a b,a<n->b<n->c6 n R a b (J a b))/\(∀a b,a<n->b<n->c7 n R a b (N a b))/\H Pt=some (.lam kN kO)/\ah K H t (zs.map V.int)/\ah K H u (ws.map V.int)/\zs.length<=1000/\ws.length<=1000 /\
 (¬ (bF n R zs=true/\bF n R ws=true)->∀H',Same H H'->E (.ref cC) none H')/\(bF n R zs=true->bF n R ws=true->di zs ws=false->∀H',Same H H'->E (.ref cE) none H') /\
 (bF n R zs=true->bF n R ws=true->di zs ws=true->∀dx u fs a b c H',Same H H'->First n (Un n R) a b c->H' dx=some (.xd [("five", .ref u)])->H' u=some (.tup (fs.map V.int))->Five n R fs->E (.ref cN) (some dx) H') /\
 (∀(cs ds:List Nat) (_:Two n R J N cs ds) (tt L1 L2 L3:Addr) us H',zs=(cs.map λx:Nat=>(x:Int))->ws=(ds.map λx:Nat=>(x:Int))->Same H H'->(∀a b c,a<n->b<n->c<n->¬ Un n R a b c)->H' tt=some (.tup [.ref L1,.ref L2,.ref L3])->(H L1=none/\H L2=none/\H L3=none/\L1≠L2/\L1≠L3/\L2≠L3) ->
  H' L1=some (.lst ((g9 J N cs ds).map nV))->H' L2=some (.lst ((g9 J N ds cs).map nV))->H' L3=some (.lst us)->Paired (outV J N cs ds H') (aY J N cs ds) us->(cJ J N cs ds).Perm (aY J N cs ds)->Q (.ref tt) H')
theorem X8 {C c Pt:Addr} (F:aR K "longer" "longer" j4 f fd) (hc:fd.code = .ref c) (tb:TabAt base mg c Pt) (T:Txt mg) (TC:eX K C) (yj:eP P w K mg base "need_two_chains" ["order","one","other"] 6 (Ej K C a0 a3)) (yi:eP P w K mg base "need_even" ["order"] 3 (DS C a14)) (xQ:aG P w K mg base "matches" ["order","one","other"] 2 (DG K C)) :
  aL P w K mg base (bI P w) 7 f fd ["order","one","other"] (vE K C a0 a3 a14 Pt):=by
 refine F.W5 hc Np (λvs H Q E h=>?_) (λA outer s H vs Q E hr h=>?_)
 ·obtain⟨p,t,u,n,R,J,N,zs,ws,rfl,_⟩:=h
  rfl
 ·obtain⟨p,t,u,n,R,J,N,zs,ws,rfl,hO,G,hn,hj,hmm,hP,hT,hU,fV,hwl,k1,k2,k3,k4⟩:=h
  have nd:=Np.nd;have hu0:=hr.units;have hu1:(A.deeper (envOfC "longer" (aA j4) s.heap.objs.size f (.ref c))).units+1+1<cLine:=by omega
  refine⟨_,(au (cw (ju yj kQ hr rfl (ae (pv 0) (ae (pv 1) (ae (pv 2) ag (av nofun)) (av nofun)) (av nofun))))
   (au (cw (ju yi kQ hr rfl (ae (pv 0) ag)))
   (au (aJ (i:=3) nd rfl (Or.inl rfl) (aM xQ hr rfl (ae (pv 0) (ae (pv 1) (ae (pv 2) ag (av nofun)) (av nofun)) (av nofun))))
   (au (aJ (i:=4) nd rfl (Or.inr rfl) (YL (x:= "row") (fr:=[]) rfl T.sorted tb rfl (hr.mono (eD _)) ⟨cj (aA j4) ["order","one","other","found","turned","longer_one","longer_other"] rfl rfl (by decide +kernel),⟨rfl,rfl,rfl,by decide +kernel,by decide +kernel,by decide +kernel,by decide +kernel⟩,λ_ _ _ _ us hl=>match us,hl with | [_],_=>rfl,λ_ _ _ _ _ _ _ _=>gx (ae (aq (aP (K:=K) rfl) (pv 0) ak (λ_ _=>rfl)) (ae (aq (aP (K:=K) rfl) (pv 0) ak (λ_ _=>rfl)) ag))⟩ (pv 3)))
   (au (aJ (i:=5) nd rfl (Or.inl rfl) (ay dk (bG (ae (aq (aS (K:=K) rfl) (pv 1) ak (λ_ _=>rfl)) ag)) (dc (own:=["row"]) (fr:=[("order", 0),("one", 1)]) rfl (cj (aA j4) ["order","one","other","found","turned","longer_one","longer_other"] rfl rfl (by decide +kernel)) (dM (K:=K) rfl (pv 3)) (λ_ _ _ _=>⟨(a_ (i:=0) (by decide +kernel:(["row","order","one"]:List Str).Nodup) rfl (Or.inl rfl)),dB,(aq (aP (K:=K) rfl) (aq (aP (K:=K) rfl) (eV (K:=K) rfl (pv 1) rfl) (aq (aS (K:=K) rfl) (pv 2) (aq (aP (K:=K) rfl) (pv 0) ak (λ_ _=>rfl)) (λ_ _=>rfl)) (λ_ _=>rfl)) (aq (aP (K:=K) rfl) (pv 0) ak (λ_ _=>rfl)) (λ_ _=>rfl))⟩))))
   (au (aJ (i:=6) nd rfl (Or.inl rfl) (ay dk (bG (ae (aq (aS (K:=K) rfl) (pv 2) ak (λ_ _=>rfl)) ag)) (dc (own:=["row"]) (fr:=[("order", 0),("other", 2)]) rfl (cj (aA j4) ["order","one","other","found","turned","longer_one","longer_other"] rfl rfl (by decide +kernel)) (dM (K:=K) rfl (pv 4)) (λ_ _ _ _=>⟨(a_ (i:=0) (by decide +kernel:(["row","order","other"]:List Str).Nodup) rfl (Or.inl rfl)),dB,(aq (aP (K:=K) rfl) (aq (aP (K:=K) rfl) (eV (K:=K) rfl (pv 1) rfl) (aq (aS (K:=K) rfl) (pv 2) (aq (aP (K:=K) rfl) (pv 0) ak (λ_ _=>rfl)) (λ_ _=>rfl)) (λ_ _=>rfl)) (aq (aP (K:=K) rfl) (pv 0) ak (λ_ _=>rfl)) (λ_ _=>rfl))⟩))))
   (ax (aV (gx (ae (pv 5) (ae (pv 6) (ae (dc (own:=["row"]) (fr:=[("turned", 4)]) rfl (cj (aA j4) ["order","one","other","found","turned","longer_one","longer_other"] rfl rfl (by decide +kernel)) (dM (K:=K) rfl (pv 3)) (λ_ _ _ _=>⟨(a_ (i:=0) (by decide +kernel:(["row","turned"]:List Str).Nodup) rfl (Or.inl rfl)),dB,(gx (ae (dJ (K:=K) rfl dU lM sy (Wm (K:=K) 1 rfl hu1) (pv 1) (ae (pv 0) ag)) (ae (aq (aP (K:=K) rfl) (pv 0) ak (λ_ _=>rfl)) (ae (aq (aP (K:=K) rfl) (pv 0) ak (λ_ _=>rfl)) ag (av nofun)) (av nofun)) (av nofun)))⟩)) ag (av nofun)) (av nofun)) (av nofun))))))))))),?_⟩
  refine⟨_,rfl,_,rfl,_,rfl,p,t,u,n,R,zs,ws,rfl,hO,hn,hT,hU,fV,hwl,λc1 c2 e H1 s1=>?_,λz H1 s1=>k1 z _ s1,λc1 c2 e H1 s1=>k2 c1 c2 e _ s1⟩;refine⟨_,rfl,p,n,R,rfl,hO.dD s1,G,hn,λJ0 N0 M0 H2 s2 no=>?_,λdx u' fs a b c' H2 s2 f1 f2 f3 f4=>k3 c1 c2 e dx u' fs a b c' H2 (s1.trans s2) f1 f2 f3 f4⟩;have M:=M0.other hj hmm;obtain⟨cs,rfl,hcs⟩:=Hg c1;obtain⟨ds,rfl,hds⟩:=Hg c2;have TW:=aaW M hcs hds e;have kk:=λtt L1 L2 L3 us H'=>k4 cs ds TW tt L1 L2 L3 us H' rfl rfl
  clear k1 k2 k3 k4;rw[uf]at hT hU;have fq:=s1.trans s2;have hcl:=hcs.len G;have hdl:=hds.len G;refine⟨_,rfl,_,rfl,_,rfl,p,t,u,n,R,J,N,cs,ds,rfl,hO.dD fq,M,fq.seq hT,fq.seq hU,hcs.lt,hds.lt,by omega,by omega,λL us H3 s3 hL gL hm=>?_⟩;have qX:=fq.trans s3;have hfl:(aY J N cs ds).length=us.length:=dq hm;have abE:=TW.R9;have hget:∀(H':Hp),Same H3 H'->∀i,i<us.length->∃ti,us[i]? = some (.ref ti)/\(aY J N cs ds)[i]? = some ((aY J N cs ds).getD i (0,0))/\H' ti=some (.tup [nV ((aY J N cs ds).getD i (0,0)).1,nV ((aY J N cs ds).getD i (0,0)).2,nV (dz J N cs ds ((aY J N cs ds).getD i (0,0))),nV (cF N cs ds ((aY J N cs ds).getD i (0,0)))]):=λH' s' i hi=>by
   obtain⟨r,hr,ti,e1,e2⟩:=fk (fF.same s' hm) (aB hi);have er:(aY J N cs ds).getD i (0,0)=r:=by rw[aO,hr];rfl
   rw[er];exact⟨ti,by rw[aB hi,e1],hr,e2⟩
  refine⟨_,rfl,qX _ _ hP,us,(aY J N cs ds).map gK,(aY J N cs ds).map λr=>[nV r.2,nV r.1],.inr ⟨L,rfl,ah.of gL⟩,by rw[az];exact hfl,by rw[az];exact hfl,by omega,?_,λi y wv hy hw H4 s4=>?_,λys D H4 s4 hD gD so=>?_⟩
  ·have:=aaP (X:=cp (bI P w) P w K mg base ["order","one","other","found","turned","longer_one","longer_other"] "longer" (aA j4) f (.ref c) A outer s H E) (H:=H3) (ks:=(aY J N cs ds).map λr=>((r.2:Int),(r.1:Int))) (λk hk=>by
    obtain⟨r,hr,rfl⟩:=cW.mp hk;have:=(jR.mp hr).1
    constructor
    ·show(0:Int)<=(r.1:Int)
     omega
    ·show(r.1:Int)<1000
     omega)
   rw[eZ,eZ]at this;exact this
  ·have hi:i<us.length:=(bN.mp hy).1
   obtain⟨ti,e1,e2,e3⟩:=hget H4 s4 i hi;rw[hy]at e1;cases e1;rw[bO,e2]at hw;cases hw;exact⟨_,rfl,ti,_,1,_,rfl,rfl,aF.of e3,aH (j:=1) rfl,_,rfl,ti,_,0,_,rfl,rfl,aF.of e3,aH (j:=0) rfl,by show 2<=sizeLine;decide,λq hq=>⟨⟨q,rfl,ao⟩,Same.put hq⟩⟩
  ·obtain⟨tn,hpm,hsr,Ak⟩:=aac (H:=H4) (F:=fF J N cs ds H4) (fF.same s4 hm) so
   obtain rfl:=aaf (by omega) hpm hsr;have t4:=qX.trans s4;obtain⟨dx,vp,vr,vj,vm,o1,_,_,oj,om⟩:=id hO;have ej:∀a b,a<n->b<n->f9 n R a b = .int (J a b:Nat):=λa b ha hb=>iR M.G.dis (M.j a b ha hb).1 (M.j a b ha hb).2
   have hyl:(cJ J N cs ds).length=ys.length:=dq Ak;have hfy:=hpm.length_eq;have Hz:∀(H':Hp),Same H3 H'->∀i,i<us.length->∃ti,us.getD i .non = .ref ti/\(aY J N cs ds).getD i (0,0)∈aY J N cs ds/\H' ti=some (.tup [nV ((aY J N cs ds).getD i (0,0)).1,nV ((aY J N cs ds).getD i (0,0)).2,nV (dz J N cs ds ((aY J N cs ds).getD i (0,0))),nV (cF N cs ds ((aY J N cs ds).getD i (0,0)))]):=λH' s' i hi=>by
    obtain⟨ti,e1,e2,e3⟩:=hget H' s' i hi;exact⟨ti,by rw[aO,e1];rfl,dG e2,e3⟩
   have Rx:∀(H':Hp),Same H4 H'->∀i,i<ys.length->∃ti,ys.getD i .non = .ref ti/\(cJ J N cs ds).getD i (0,0)∈aY J N cs ds/\H' ti=some (.tup [nV ((cJ J N cs ds).getD i (0,0)).1,nV ((cJ J N cs ds).getD i (0,0)).2,nV (dz J N cs ds ((cJ J N cs ds).getD i (0,0))),nV (cF N cs ds ((cJ J N cs ds).getD i (0,0)))]):=λH' s' i hi=>by
    obtain⟨r,hr,ti,e1,e2⟩:=fk (fF.same s' Ak) (aB hi);have er:(cJ J N cs ds).getD i (0,0)=r:=by rw[aO,hr];rfl
    rw[er];exact⟨ti,by rw[aO,aB hi,e1];rfl,uw.mp (dG hr),e2⟩
   have iu:=s4 _ _ gL;refine⟨_,rfl,t,_,0,nV (cs.getD 0 0),rfl,rfl,t4.seq hT,aH (j:=0) (iV hcs.pos),by show 1<=sizeLine;decide,λp1 hp1=>?_⟩;have gM:=Same.put (o:=.lst [nV (cs.getD 0 0)]) hp1;refine⟨_,rfl,L,rfl,⟨_,ah.of (gM _ _ iu)⟩,λD1 hD1=>fN (λj=>nV (eT J N cs ds ((aY J N cs ds).getD j (0,0)))) (src_list (ah.of (gM _ _ iu))) hD1 (cS (by omega)) (λj H5 Kt hj hs hk=>?_) (λH5 hs dI=>?_)⟩
   ·have cx:=gM.trans hs
    obtain⟨ti,eg,hm',e3⟩:=Hz H5 (s4.trans cx) j hj;generalize (aY J N cs ds).getD j (0,0)=r at hm' e3 hk ⊢;have h1:=(jR.mp hm').1;have hx:=hcs.at (i:=r.1) (by omega);have hh:=(TW.row hm').lh;obtain⟨ra,wv,rb,rfl,q1,q2,q3⟩:=(oj.same (t4.trans cx)).get hx;refine⟨_,rfl,p,C,dx,_,_,rfl,(t4.trans cx) _ _ o1,TC.cl,TC.nJ,n_ _ _ _ _ _,_,rfl,_,rfl,ti,_,0,nV r.1,eg,rfl,aF.of e3,aH (j:=0) rfl,t,_,_,nV (cs.getD r.1 0),rfl,rfl,(t4.trans cx).seq hT,aH (iV (by omega)),ra,wv,_,.ref rb,rfl,rfl,aF.of q1,aH q2,_,rfl,ti,_,3,nV (cF N cs ds r),eg,rfl,aF.of e3,aH (j:=3) rfl,rb,_,_,.int (J (cs.getD r.1 0) (cF N cs ds r):Nat),rfl,rfl,aF.of q3,aH (by rw[gp hh,ej _ _ hx hh]),?_⟩;exact hk _ (Same.refl _)
   ·have cx:=gM.trans hs
    rw[<- hfl,Kq (aY J N cs ds) (0,0) (λr=>nV (eT J N cs ds r))]at dI;refine⟨p1,D1,_,_,rfl,rfl,hs _ _ ao,dI,by rw[az];show 1+_<=_;exact dh (cS (by omega)),λl1 hl1=>?_⟩;have N8:=Same.put (o:=.lst ([nV (cs.getD 0 0)]++(aY J N cs ds).map λr=>nV (eT J N cs ds r))) hl1;have g1:(upd H5 l1 (.lst ([nV (cs.getD 0 0)]++(aY J N cs ds).map λr=>nV (eT J N cs ds r)))) l1=some (.lst ((g9 J N cs ds).map nV)):=by
     rw[ao];unfold g9;rw[cL,eZ];rfl
    have jx:=cx.trans N8;have n1:H4 l1=none:=cx.free hl1;generalize upd H5 l1 (.lst ([nV (cs.getD 0 0)]++(aY J N cs ds).map λr=>nV (eT J N cs ds r)))=H6 at g1 jx ⊢;clear dI hs N8 cx hp1 gM hD1 hl1;dsimp only[cD];show jz _ _ _ [some (.ref p),some (.ref t),some (.ref u),some (.ref L),some (.ref D),some (.ref l1),none] H6;have t6:=t4.trans jx;have zP:=jx _ _ gD;refine⟨_,rfl,u,_,0,nV (ds.getD 0 0),rfl,rfl,t6.seq hU,aH (j:=0) (iV hds.pos),by show 1<=sizeLine;decide,λp1 hp1=>?_⟩;have gM:=Same.put (o:=.lst [nV (ds.getD 0 0)]) hp1;refine⟨_,rfl,D,rfl,⟨_,ah.of (gM _ _ zP)⟩,λD1 hD1=>fN (λj=>nV (eT J N ds cs ((cJ J N cs ds).getD j (0,0)).swap)) (src_list (ah.of (gM _ _ zP))) hD1 (cS (by omega)) (λj H7 Kt hj hs hk=>?_) (λH7 hs qp=>?_)⟩
    ·have lq:=gM.trans hs
     obtain⟨ti,eg,hm',e3⟩:=Rx H7 (jx.trans lq) j hj;generalize (cJ J N cs ds).getD j (0,0)=r at hm' e3 hk ⊢;have h1:=(jR.mp hm').2.1;have hx:=hds.at (i:=r.2) (by omega);have hh:=(TW.row hm').lh;obtain⟨ra,wv,rb,rfl,q1,q2,q3⟩:=(oj.same (t6.trans lq)).get hx;refine⟨_,rfl,p,C,dx,_,_,rfl,(t6.trans lq) _ _ o1,TC.cl,TC.nJ,n_ _ _ _ _ _,_,rfl,_,rfl,ti,_,1,nV r.2,eg,rfl,aF.of e3,aH (j:=1) rfl,u,_,_,nV (ds.getD r.2 0),rfl,rfl,(t6.trans lq).seq hU,aH (iV (by omega)),ra,wv,_,.ref rb,rfl,rfl,aF.of q1,aH q2,_,rfl,ti,_,3,nV (cF N cs ds r),eg,rfl,aF.of e3,aH (j:=3) rfl,rb,_,_,.int (J (ds.getD r.2 0) (cF N cs ds r):Nat),rfl,rfl,aF.of q3,aH (by rw[gp hh,ej _ _ hx hh]),?_⟩;rw[TW.Ym hm']at hk;exact hk _ (Same.refl _)
    ·have lq:=gM.trans hs
     rw[<- hyl,Kq (cJ J N cs ds) (0,0) (λr=>nV (eT J N ds cs r.swap))]at qp;refine⟨p1,D1,_,_,rfl,rfl,hs _ _ ao,qp,by rw[az];show 1+_<=_;exact dh (cS (by omega)),λl2 hl2=>?_⟩;have sl2:=Same.put (o:=.lst ([nV (ds.getD 0 0)]++(cJ J N cs ds).map λr=>nV (eT J N ds cs r.swap))) hl2;have g2:(upd H7 l2 (.lst ([nV (ds.getD 0 0)]++(cJ J N cs ds).map λr=>nV (eT J N ds cs r.swap)))) l2=some (.lst ((g9 J N ds cs).map nV)):=by
      rw[ao];unfold g9;rw[cL,eZ,OJ TW,eZ];rfl
     have lr:=lq.trans sl2;have n2:H6 l2=none:=lq.free hl2;generalize upd H7 l2 (.lst ([nV (ds.getD 0 0)]++(cJ J N cs ds).map λr=>nV (eT J N ds cs r.swap)))=H8 at g2 lr ⊢;clear qp hs sl2 lq hp1 gM hD1 hl2;dsimp only[cD];have t8:=t6.trans lr;have Ik:=lr _ _ (jx _ _ iu);have Ij:=lr _ _ zP;have Ws:l1≠l2:=λz=>by rw[<- z,g1]at n2;cases n2
     refine⟨_,rfl,_,rfl,_,rfl,L,rfl,⟨_,ah.of Ik⟩,λD3 kG=>nW (λj v H=>∃tq,v = .ref tq/\tq≠D3/\H tq=some (.tup [nV ((cJ J N cs ds).idxOf ((aY J N cs ds).getD j (0,0))),nV (dz J N cs ds ((aY J N cs ds).getD j (0,0))),nV (cF N cs ds ((aY J N cs ds).getD j (0,0)))])) (src_list (ah.of Ik)) kG (cS (by omega)) (λj v Ha Hb sx ⟨b,e1,e2,e3⟩=>⟨b,e1,e2,sx _ _ e2 e3⟩) (λj H9 Kt hj hs ⟨yy,ub⟩ hk=>?_) (λH9 E_ hs hl9 hp9=>?_)⟩
     ·obtain⟨ti,eg,hm',e3⟩:=Hz H9 (s4.trans (jx.trans (lr.trans hs))) j hj
      generalize (aY J N cs ds).getD j (0,0)=r at hm' e3 hk ⊢;obtain⟨e,x1,x2,x3,x4⟩:=V9 (K:=K) (y:=us.getD j .non) (fF.same (jx.trans (lr.trans hs)) Ak) (uw.mpr hm') ⟨ti,eg,e3⟩;refine⟨_,rfl,.inl ⟨rfl,_,ah.of (hs _ _ Ij)⟩,_,rfl,D,ys,_,e,(cJ J N cs ds).idxOf r,rfl,rfl,ah.of (hs _ _ Ij),x1,x2,x3,x4,_,rfl,ti,_,2,nV (dz J N cs ds r),eg,rfl,aF.of e3,aH (j:=2) rfl,_,rfl,ti,_,3,nV (cF N cs ds r),eg,rfl,aF.of e3,aH (j:=3) rfl,by show 3<=sizeLine;decide,λq hq=>?_⟩;exact hk _ _ (Same.put hq) ⟨q,rfl,(λz=>by rw[z,ub]at hq;cases hq),ao⟩
     ·have Wt:l1≠D3:=λz=>by rw[<- z,lr _ _ g1]at kG;cases kG
      have Wu:l2≠D3:=λz=>by rw[<- z,g2]at kG;cases kG
      refine⟨by show 3<=sizeLine;decide,λtt htt=>?_⟩;have st:=Same.put (o:=.tup [.ref l1,.ref l2,.ref D3]) htt;have jZ:=hs.trans st;refine kk tt l1 l2 D3 E_ _ (t8.trans jZ) no ao ⟨t4.free n1,t6.free n2,t8.free kG,Ws,Wt,Wu⟩ (jZ _ _ (lr _ _ g1)) (jZ _ _ g2) (st _ _ hl9) ?_ hpm;refine uJ (by rw[hfl,<- dq hp9,iH]) λi r v hr hv=>?_
      obtain⟨j,hj,b,e1,_,e3⟩:=fk hp9 hv;have hi:i<us.length:=by have:=(bN.mp hr).1;omega
      rw[mQ hi]at hj;cases hj;have er:(aY J N cs ds).getD i (0,0)=r:=by rw[aO,hr];rfl
      rw[er]at e3;exact⟨b,e1,st _ _ e3⟩
end
section
variable {P:Program} {w:World} {K:W.Frag} {mg:Str->Option Value} {base:Heap} {f:Addr} {fd:FuncData}
end
section
variable {P:Program} {w:World} {K:W.Frag} {mg:Str->Option Value} {base:Heap} {f:Addr} {fd:FuncData} {a0 a1 a2 a3 a4 a5 a6 a7 a8 a9 a10 a11 a12 a13 a14 aE:Addr}
abbrev CW:Stmt:=top 44
theorem NK:aZ ["order","one","other"] ["order","one","other"] (aA CW):=⟨rfl,rfl,rfl,by decide +kernel,rfl,by decide +kernel,by decide +kernel⟩
def Ek(K:W.Frag)(C cC cE:Addr):Sp:=λvs H Q E=>∃(p t u n:Nat) (R:Nat->Nat->Bool) (zs ws:List Int),vs = [.ref p,.ref t,.ref u]/\dH C H p n R/\n<=24/\ah K H t (zs.map V.int)/\ah K H u (ws.map V.int)/\zs.length<=1000/\ws.length<=1000 /\
 (bZ n R zs=true->bZ n R ws=true->di zs ws=true->∀H',Same H H'->Q .non H')/\(¬ (bZ n R zs=true/\bZ n R ws=true)->∀H',Same H H'->E (.ref cC) none H')/\(bZ n R zs=true->bZ n R ws=true->di zs ws=false->∀H',Same H H'->E (.ref cE) none H')
theorem Yc {C:Addr} (F:aR K "need_two_climbs" "need_two_climbs" CW f fd) (T:Txt mg) (TC:eX K C) (Er:kg mg a0 a1 a2 a3 a4 a5 a6 a7 a8 a9 a10 a11 a12 a13 a14 aE) (tH:eP P w K mg base "need_climb" ["order","things"] 5 (DP K C a1)) (nY:eP P w K mg base "need_like_ends" ["one","other"] 1 (vD K a3)) :
  aL P w K mg base (bI P w) 6 f fd ["order","one","other"] (Ek K C a1 a3):=by
 refine F.oC NK (λvs H Q E h=>?_) (λcdv A outer s H vs Q E hr h=>?_)
 ·obtain⟨p,t,u,n,R,zs,ws,rfl,_⟩:=h
  rfl
 ·obtain⟨p,t,u,n,R,zs,ws,rfl,hO,hn,hT,hU,fV,hwl,k1,k2,k3⟩:=h
  have nd:=NK.nd;refine⟨_,(au (cw (ju tH kQ hr rfl (ae (pv 0) (ae (pv 1) ag))))
   (au (cw (ju tH kQ hr rfl (ae (pv 0) (ae (pv 2) ag))))
   (ax (cw (ju nY kQ hr rfl (ae (pv 1) (ae (pv 2) ag))))))),?_⟩
  refine⟨_,rfl,_,rfl,p,t,n,R,zs,rfl,hO,hn,hT,fV,λc1 H1 s1=>?_,λc1 H1 s1=>k2 (λz=>by rw[z.1]at c1;cases c1) _ s1⟩;refine⟨_,rfl,_,rfl,p,u,n,R,ws,rfl,hO.dD s1,hn,s1.seq hU,hwl,λc2 H2 s2=>?_,λc2 H2 s2=>k2 (λz=>by rw[z.2]at c2;cases c2) _ (s1.trans s2)⟩;have s12:=s1.trans s2;exact⟨_,rfl,_,rfl,t,u,zs,ws,rfl,s12.seq hT,s12.seq hU,tD c1,tD c2,λe H3 s3=>k1 c1 c2 e _ (s12.trans s3),λe H3 s3=>k3 c1 c2 e _ (s12.trans s3)⟩
end
def oR(p m e:Nat × Nat):List (Nat × Nat):=if m=p then(if e=p then[p]else[p,e])else(if e=m then[p,m]else[p,m,e])
theorem Yp{K:W.Frag}{H:Hp}{p q:Nat × Nat}:wk K H 0 [V.int (p.1:Int),.int (p.2:Int)] [.int (q.1:Int),.int (q.2:Int)] (λj=>if j=0 then((p.1:Int) == (q.1:Int))else((p.2:Int) == (q.2:Int))):=by
 refine⟨rfl,λj x y hx hy=>?_⟩
 match j with
 |0=>cases hx;cases hy;exact cg.int 0 _ _
 |1=>cases hx;cases hy;exact cg.int 0 _ _
 |j+2=>simp at hx
theorem Yo{p q:Nat × Nat}:(List.range [V.int (p.1:Int),.int (p.2:Int)].length).all (λj=>if j=0 then((p.1:Int) == (q.1:Int))else((p.2:Int) == (q.2:Int)))=decide (p=q):=by
 show(List.range 2).all _=_;rw[dQ,fO];simp only[ja,List.range_zero,FN,Fu,wq,List.all_nil,Fh,bD,il,if_pos,Nat.one_ne_zero,gi,Prod.ext_iff];omega
section
variable {P:Program} {w:World} {K:W.Frag} {mg:Str->Option Value} {base:Heap} {f:Addr} {fd:FuncData} {a0 a1 a2 a3 a4 a5 a6 a7 a8 a9 a10 a11 a12 a13 a14 aE:Addr}
abbrev vn:Stmt:=top 58
theorem NZ:aZ ["start","middle","end","told","part"] ["start","middle","end"] (aA vn):=⟨rfl,rfl,rfl,by decide +kernel,rfl,by decide +kernel,by decide +kernel⟩
def Ed:Sp:=λvs H Q _=>∃(v1 v2 v3:V) (p m e:Nat × Nat),vs = [v1,v2,v3]/\bX H p v1/\bX H m v2/\bX H e v3 /\
 ∀L us H',Same H H'->H L=none->H' L=some (.lst us)->Paired (λ(q:Nat × Nat) (v:V)=>bX H q v) (oR p m e) us->Q (.ref L) H'
theorem XX (F:aR K "road" "road" vn f fd) (T:Txt mg):aL P w K mg base aX 1 f fd ["start","middle","end"] Ed:=by
 refine F.ok NZ (λvs H Q E h=>?_) (λcdv A outer s H vs Q E hr h=>?_)
 ·obtain⟨v1,v2,v3,p,m,e,rfl,_⟩:=h
  rfl
 ·obtain⟨v1,v2,v3,p,m,e,rfl,⟨t1,rfl,g1⟩,⟨t2,rfl,g2⟩,⟨t3,rfl,g3⟩,kk⟩:=h
  have nd:=NZ.nd;have hu0:=hr.units;have hu1:(A.deeper (envOfC "road" (aA vn) s.heap.objs.size f cdv)).units+1+0<cLine:=by omega
  refine⟨_,(au (aJ (i:=3) nd rfl (Or.inl rfl) (bG (ae (pv 0) ag)))
   (au (cI cA rfl (By (K:=K) rfl (gx (ae (pv 1) (ae (pv 2) ag)))) (a_ (i:=4) nd rfl (Or.inl rfl))
   (ax (bz (bC (K8 (K:=K) false 0 rfl hu1) (pv 4) (aq (aS (K:=K) rfl) (pv 3) (iC iF ak) (λ_ _=>rfl)) (bj _)) (ax (cw (dJ (K:=K) rfl dU gF gS gw (pv 3) (ae (pv 4) ag)))) bH)))
   (ax (aV (pv 3))))),?_⟩
  refine⟨_,rfl,by show 1<=sizeLine;decide,λL hL=>?_⟩;have sL:=Same.put (o:=.lst [.ref t1]) hL;dsimp only[cD];refine⟨_,rfl,_,rfl,by show 2<=sizeLine;decide,λTt qk=>?_⟩;have sT:=Same.put (o:=.tup [.ref t2,.ref t3]) qk;have Wo:L≠Tt:=λz=>by rw[<- z,ao]at qk;cases qk
  refine⟨Tt,rfl,⟨_,aF.of ao⟩,R_ (K:=K) (a:=Tt) (xs:=[.ref t2,.ref t3]) (λi σ H2=>∃(v4:Option V) (us:List V) (qs:List (Nat × Nat)) (q:Nat × Nat) (v:V),σ = [some (.ref t1),some (.ref t2),some (.ref t3),some (.ref L),v4]/\Same H H2/\H2 Tt=some (.tup [.ref t2,.ref t3])/\H2 L=some (.lst (us++[v]))/\Paired (λ(q:Nat × Nat) (v:V)=>bX H q v) (qs++[q]) (us++[v])/\bX H q v/\us.length<=i /\
    (i=0->qs++[q] = [p])/\(i=1->qs++[q]=if m=p then[p]else[p,m])/\(i=2->qs++[q]=oR p m e))
   ⟨none,[],[],p,.ref t1,rfl,sL.trans sT,ao,sT _ _ ao,.cons ⟨t1,rfl,g1⟩ .nil,⟨t1,rfl,g1⟩,eD _,λ_=>rfl,λz=>by omega,λz=>by omega⟩ (λi σ H2 _ ⟨_,_,_,_,_,_,_,gT,_⟩=>aF.of gT) ?_ ?_⟩
  ·rintro i x σ H2 hx ⟨v4,us,qs,q,v,rfl,s2,gT,gL,hp,hq,iw,i0,i1,i2⟩
   obtain⟨k,tk,ek,gk,hk⟩:∃(k:Nat × Nat) (tk:Addr),x = .ref tk/\H tk=some (.tup [.int k.1,.int k.2])/\((i=0/\k=m)\/(i=1/\k=e)):=by
    match i,hx with
    |0,hx=>cases hx;exact⟨m,t2,rfl,g2,.inl ⟨rfl,rfl⟩⟩
    |1,hx=>cases hx;exact⟨e,t3,rfl,g3,.inr ⟨rfl,rfl⟩⟩
    |i+2,hx=>simp at hx
   subst ek;obtain⟨tq,rfl,gq⟩:=hq;dsimp only[cD];have lst:∀l:List (Nat × Nat),∀z w,l++[z] = [w]->z=w:=λl z w h=>by
    have:=congrArg (λl=>l.getLast?) h;simpa using this
   have Km:∀l:List (Nat × Nat),∀z w w',l++[z] = [w,w']->z=w':=λl z w w' h=>by
    have:=congrArg (λl=>l.getLast?) h;simpa using this
   refine⟨_,rfl,_,rfl,1,rfl,L,_,_,.ref tq,rfl,rfl,ah.of gL,xm us (.ref tq),tk,tq,_,_,_,rfl,rfl,aF.of (s2 _ _ gk),aF.of (s2 _ _ gq),Yp,?_⟩;rw[Yo];refine⟨_,rfl,bB (λh=>?_) (λh=>?_)⟩
   ·have ne:k≠q:=λz=>by rw[cB z]at h;simp at h
    refine⟨_,rfl,.inl ⟨rfl,_,ah.of gL⟩,_,rfl,L,_,.ref tk,rfl,rfl,gL,cS (by rw[bp,mS];rcases hk with⟨rfl,_⟩|⟨rfl,_⟩ <;> omega),?_⟩;have Wq:Tt≠L:=λz=>Wo z.symm
    refine⟨_,us++[.ref tq],qs++[q],k,.ref tk,rfl,λb o eb=>by rw[aD (cV eb hL)];exact s2 _ _ eb,by rw[aD Wq];exact gT,ao,Paired.N_ hp ⟨tk,rfl,gk⟩,⟨tk,rfl,gk⟩,by rw[bp,mS];omega,λz=>by omega,λz=>?_,λz=>?_⟩
    ·rcases hk with⟨rfl,rfl⟩|⟨rfl,_⟩
     ·have e0:=i0 rfl
      have eq:=lst _ _ _ e0;rw[eq]at ne;rw[e0,if_neg ne];rfl
     ·omega
    ·rcases hk with⟨rfl,_⟩|⟨rfl,rfl⟩
     ·omega
     ·have e1:=i1 rfl
      unfold oR
      by_cases c:m=p
      ·rw[if_pos c]at e1 ⊢
       have eq:=lst _ _ _ e1;rw[eq]at ne;rw[e1,if_neg ne];rfl
      ·rw[if_neg c]at e1 ⊢
       have eq:=Km _ _ _ _ e1;rw[eq]at ne;rw[e1,if_neg ne];rfl
   ·have eq:k=q:=by
     apply kf
     intro z;rw[bU z]at h;simp at h
    refine⟨_,us,qs,q,.ref tq,rfl,s2,gT,gL,hp,⟨tq,rfl,gq⟩,by omega,λz=>by omega,λz=>?_,λz=>?_⟩
    ·rcases hk with⟨rfl,rfl⟩|⟨rfl,_⟩
     ·have e0:=i0 rfl
      have e2:=lst _ _ _ e0;rw[e0,if_pos (eq.trans e2)]
     ·omega
    ·rcases hk with⟨rfl,_⟩|⟨rfl,rfl⟩
     ·omega
     ·have e1:=i1 rfl
      unfold oR
      by_cases c:m=p
      ·rw[if_pos c]at e1 ⊢
       have e2:=lst _ _ _ e1;rw[e1,if_pos (eq.trans e2)]
      ·rw[if_neg c]at e1 ⊢
       have e2:=Km _ _ _ _ e1;rw[e1,if_pos (eq.trans e2)]
  ·rintro σ H2 ⟨v4,us,qs,q,v,rfl,s2,gT,gL,hp,hq,iw,i0,i1,i2⟩
   have e2:=i2 rfl;rw[e2]at hp;exact⟨_,rfl,kk L _ H2 s2 hL gL hp⟩
theorem Hj{n:Nat}{R:Nat->Nat->Bool}{zs:List Int}(h:bZ n R zs=true):bF n R zs=true:=by
 unfold bZ at h;rw[bD]at h;exact h.1
theorem Hk{n:Nat}{R:Nat->Nat->Bool}{cs:List Nat}(h:bZ n R (cs.map λx:Nat=>(x:Int))=true):∀i,i+1<cs.length->bQ n R (cs.getD i 0) (cs.getD (i+1) 0)=true:=λi hi=>by
 unfold bZ lS at h;rw[bD,fZ]at h;have:=h.2 i (by rw[az];exact dS.mpr (by omega));rw[fS,fS,dg,dg]at this;exact this
def uT(J N:Nat->Nat->Nat)(cs ds:List Nat)(r:Nat × Nat):List (Nat × Nat):=oR (cs.getD r.1 0,cs.getD (r.1+1) 0) (dz J N cs ds r,cF N cs ds r) (ds.getD r.2 0,ds.getD (r.2+1) 0)
def Ys(J N:Nat->Nat->Nat)(cs ds:List Nat)(H0:Hp)(L:Addr)(H:Hp)(r:Nat × Nat)(v:V):Prop:=∃(t rl:Addr) (ws:List V),v = .ref t/\H t=some (.tup [nV r.2,.ref rl])/\H0 rl=none/\rl≠L/\H rl=some (.lst ws)/\Paired (bX H) (uT J N cs ds r) ws
abbrev vi:Stmt:=top 59
theorem NQ:aZ ["order","one","other","rows","ends"] ["order","one","other"] (aA vi):=⟨rfl,rfl,rfl,by decide +kernel,rfl,by decide +kernel,by decide +kernel⟩
def Ea(K:W.Frag)(C cC cE cN Pt:Addr):Sp:=λvs H Q E=>∃(p t u n:Nat) (R:Nat->Nat->Bool) (J N:Nat->Nat->Nat) (zs ws:List Int),vs = [.ref p,.ref t,.ref u]/\dH C H p n R/\Good n R/\n<=24/\(∀a b,a<n->b<n->c6 n R a b (J a b))/\(∀a b,a<n->b<n->c7 n R a b (N a b))/\H Pt=some (.lam kN kO)/\ah K H t (zs.map V.int)/\ah K H u (ws.map V.int)/\zs.length<=1000/\ws.length<=1000 /\
 (¬ (bZ n R zs=true/\bZ n R ws=true)->∀H',Same H H'->E (.ref cC) none H')/\(bZ n R zs=true->bZ n R ws=true->di zs ws=false->∀H',Same H H'->E (.ref cE) none H') /\
 (bZ n R zs=true->bZ n R ws=true->di zs ws=true->∀dx u fs a b c H',Same H H'->First n (Un n R) a b c->H' dx=some (.xd [("five", .ref u)])->H' u=some (.tup (fs.map V.int))->Five n R fs->E (.ref cN) (some dx) H') /\
 (∀(cs ds:List Nat) (_:Two n R J N cs ds) (_:∀i,i+1<cs.length->bQ n R (cs.getD i 0) (cs.getD (i+1) 0)=true) (_:∀i,i+1<ds.length->bQ n R (ds.getD i 0) (ds.getD (i+1) 0)=true) (L:Addr) us H',zs=(cs.map λx:Nat=>(x:Int))->ws=(ds.map λx:Nat=>(x:Int))->Same H H'->(∀a b c,a<n->b<n->c<n->¬ Un n R a b c)->H L=none ->
  H' L=some (.lst us)->Paired (Ys J N cs ds H L H') (aY J N cs ds) us->(cJ J N cs ds).Perm (aY J N cs ds)->Q (.ref L) H')
theorem Yd {C Pt:Addr} (F:aR K "paired" "paired" vi f fd) (T:Txt mg) (TC:eX K C) (yk:eP P w K mg base "need_two_climbs" ["order","one","other"] 6 (Ek K C a1 a3)) (nX:eP P w K mg base "longer" ["order","one","other"] 7 (vE K C a0 a3 a14 Pt)) (kD:aG P w K mg base "parts_of" ["chain"] 1 (vG K)) (xY:aG P w K mg base "road" ["start","middle","end"] 1 Ed) :
  aL P w K mg base (bI P w) 8 f fd ["order","one","other"] (Ea K C a1 a3 a14 Pt):=by
 refine F.oC NQ (λvs H Q E h=>?_) (λcdv A outer s H vs Q E hr h=>?_)
 ·obtain⟨p,t,u,n,R,J,N,zs,ws,rfl,_⟩:=h
  rfl
 ·obtain⟨p,t,u,n,R,J,N,zs,ws,rfl,hO,G,hn,hJ,hM,hP,hT,hU,fV,hwl,k1,k2,k3,k4⟩:=h
  have nd:=NQ.nd;refine⟨_,(au (cw (ju yk kQ hr rfl (ae (pv 0) (ae (pv 1) (ae (pv 2) ag (av nofun)) (av nofun)) (av nofun))))
   (au (aJ (i:=3) nd rfl (Or.inl rfl) (aq (aP (K:=K) rfl) (ju nX kQ hr rfl (ae (pv 0) (ae (pv 1) (ae (pv 2) ag (av nofun)) (av nofun)) (av nofun))) ak (λ_ _=>rfl)))
   (au (aJ (i:=4) nd rfl (Or.inr rfl) (aM kD hr rfl (ae (pv 2) ag)))
   (ax (aV (dc (own:=["step","row"]) (fr:=[("ends", 4)]) rfl (cj (aA vi) ["order","one","other","rows","ends"] rfl rfl (by decide +kernel)) (qN (K:=K) true true rfl rfl T.zip (ae (aM kD hr rfl (ae (pv 1) ag)) (ae (pv 3) ag))) (λ_ _ _ _=>⟨(jX (K:=K) (i:=0) (j:=1) rfl rfl (by decide +kernel:(["step","row","ends"]:List Str).Nodup) rfl rfl rfl rfl),dB,(gx (ae (aq (aP (K:=K) rfl) (pv 1) ak (λ_ _=>rfl)) (ae (aM xY hr rfl (ae (pv 0) (ae (gx (ae (aq (aP (K:=K) rfl) (pv 1) ak (λ_ _=>rfl)) (ae (aq (aP (K:=K) rfl) (pv 1) ak (λ_ _=>rfl)) ag))) (ae (aq (aS (K:=K) rfl) (pv 2) (aq (aP (K:=K) rfl) (pv 1) ak (λ_ _=>rfl)) (λ_ _=>rfl)) ag (av nofun)) (av nofun)) (av nofun))) ag)))⟩))))))),?_⟩
  refine⟨_,rfl,_,rfl,_,rfl,p,t,u,n,R,zs,ws,rfl,hO,hn,hT,hU,fV,hwl,λc1 c2 e H1 s1=>?_,λz H1 s1=>k1 z _ s1,λc1 c2 e H1 s1=>k2 c1 c2 e _ s1⟩;refine⟨_,rfl,_,rfl,_,rfl,p,t,u,n,R,J,N,zs,ws,rfl,hO.dD s1,G,hn,hJ,hM,s1 _ _ hP,s1.seq hT,s1.seq hU,fV,hwl,λz=>absurd ⟨Hj c1,Hj c2⟩ z,λ_ _ z=>(by rw[e]at z;cases z),λ_ _ _ dx v fs a b c H2 s2 f1 f2 f3 f4=>k3 c1 c2 e dx v fs a b c H2 (s1.trans s2) f1 f2 f3 f4,λcs ds TW tt L1 L2 L3 us H2 e1 e2 s2 no tS hfr g1 g2 g3 hp hpm=>⟨tt,_,2,.ref L3,rfl,rfl,aF.of tS,aH (j:=2) rfl,?_⟩⟩;subst e1 e2;have hc:=Hk c1;have hd:=Hk c2;have kk:=λL us H'=>k4 cs ds TW hc hd L us H' rfl rfl
  clear k1 k2 k3 k4;rw[uf]at hT hU;have t2:=s1.trans s2;have lc:=TW.c.len G;have ld:=TW.d.len G;have hfl:(aY J N cs ds).length=us.length:=dq hp;have hfc:=TW.R7 hc;refine⟨_,rfl,u,ds,rfl,t2.seq hU,by omega,λL4 v4 H3 s3 jk g4 cU=>?_⟩;have t3:=t2.trans s3;refine⟨_,rfl,t,cs,rfl,t3.seq hT,by omega,λL5 v5 H4 s4 hL5 g5 gZ=>?_⟩;have t4:=t3.trans s4;have BX:=s3.trans s4;have l5:v5.length=us.length:=by rw[<- dq gZ,uN];omega
  refine⟨_,rfl,L5,L3,_,_,rfl,ah.of g5,ah.of (BX _ _ g3),λD hD=>nW (λj v H'=>∃(tq rl:Addr) (ws:List V),v = .ref tq/\tq≠D/\H' tq=some (.tup [nV ((aY J N cs ds).getD j (0,0)).2,.ref rl])/\H rl=none/\rl≠D/\H' rl=some (.lst ws)/\Paired (λ(q:Nat × Nat) (v:V)=>∃tp,v = .ref tp/\tp≠D/\H' tp=some (.tup [.int q.1,.int q.2])) (uT J N cs ds ((aY J N cs ds).getD j (0,0))) ws) (rq (n:=us.length) (c1:=true) (c2:=true) (ah.of g5) (ah.of (BX _ _ g3)) (by rw[l5];simp)) hD (cS (by omega))
   (λj v Ha Hb sx ⟨tq,rl,ws,e1,e2,e3,e4,e5,e6,e7⟩=>⟨tq,rl,ws,e1,e2,sx _ _ e2 e3,e4,e5,sx _ _ e5 e6,Paired.dA e7 λ_ _ ⟨tp,x1,x2,x3⟩=>⟨tp,x1,x2,sx _ _ x2 x3⟩⟩) (λj H5 Kt hj hs ⟨yy,ub⟩ hk=>?_) (λH5 E_ hs hl9 hp9=>?_)⟩
  ·obtain⟨r,hr',tr,e3,gr⟩:=fk (outV.same (BX.trans hs) hp) (aB hj)
   have hmem:=dG hr';have er:(aY J N cs ds).getD j (0,0)=r:=by rw[aO,hr'];rfl
   have eg:us.getD j .non = .ref tr:=by rw[aO,aB hj,e3];rfl
   have rj:=TW.R6 hc hr';have ix:=TW.idx hd hmem;rw[ix]at gr;obtain⟨m1,m2,_⟩:=jR.mp hmem;rw[er]at hk;obtain⟨y5,Uz,ta,e5,zZ⟩:=jV (eU.same hs gZ) (qP (cs:=cs) (i:=j) (by omega));have Rw:v5.getD j .non = .ref ta:=by rw[aO,Uz,e5];rfl
   obtain⟨y4,Uy,te,rfl,S'⟩:=jV (eU.same (s4.trans hs) cU) (qP (cs:=ds) (i:=r.2) m2);refine⟨_,rfl,tr,_,0,nV r.2,eg,rfl,aF.of gr,aH (j:=0) rfl,_,rfl,_,rfl,tr,_,1,nV (dz J N cs ds r),eg,rfl,aF.of gr,aH (j:=1) rfl,_,rfl,tr,_,2,nV (cF N cs ds r),eg,rfl,aF.of gr,aH (j:=2) rfl,by show 2<=sizeLine;decide,λtm t_=>?_⟩;have sm:=Same.put (o:=.tup [nV (dz J N cs ds r),nV (cF N cs ds r)]) t_;refine⟨_,rfl,_,rfl,tr,_,0,nV r.2,eg,rfl,aF.of (sm _ _ gr),aH (j:=0) rfl,L4,_,_,.ref te,rfl,rfl,ah.of (sm _ _ (hs _ _ (s4 _ _ g4))),aH Uy,_,.ref tm,.ref te,(cs.getD j 0,cs.getD (j+1) 0),(dz J N cs ds r,cF N cs ds r),(ds.getD r.2 0,ds.getD (r.2+1) 0),rfl,⟨ta,Rw,sm _ _ zZ⟩,⟨tm,rfl,ao⟩,⟨te,rfl,sm _ _ S'⟩,λrl wv H6 s6 hrl S9 Uk=>⟨by show 2<=sizeLine;decide,λq hq=>?_⟩⟩;have Iv:=s6 _ _ (sm _ _ ub);have sq:=Same.put (o:=.tup [nV r.2,.ref rl]) hq;have n1:q≠D:=λz=>by rw[z,Iv]at hq;cases hq
   have n2:rl≠D:=λz=>by rw[z,sm _ _ ub]at hrl;cases hrl
   refine hk _ _ ((sm.trans s6).trans sq) ⟨q,rl,wv,rfl,n1,ao,(t4.trans (hs.trans sm)).free hrl,n2,sq _ _ S9,?_⟩;have hrd:uT J N cs ds r=oR (cs.getD j 0,cs.getD (j+1) 0) (dz J N cs ds r,cF N cs ds r) (ds.getD r.2 0,ds.getD (r.2+1) 0):=by unfold uT;rw[rj]
   rw[hrd];exact Paired.dA Uk λ_ _ ⟨tp,x1,x2⟩=>⟨tp,x1,hV (s6 _ _ x2) Iv (by intro z;cases z),sq _ _ (s6 _ _ x2)⟩
  ·refine kk D E_ H5 (t4.trans hs) no (t4.free hD) hl9 ?_ hpm
   refine uJ (by rw[hfl,<- dq hp9,iH]) λi r v hr' hv=>?_
   obtain⟨j,hj,tq,rl,wv,x1,x2,x3,x4,x5,x6,x7⟩:=fk hp9 hv;have hi:i<us.length:=by have:=(bN.mp hr').1;omega
   rw[mQ hi]at hj;cases hj;have er:(aY J N cs ds).getD i (0,0)=r:=by rw[aO,hr'];rfl
   rw[er]at x3 x7;exact⟨tq,rl,wv,x1,x3,x4,x5,x6,Paired.dA x7 λ_ _ ⟨tp,y1,_,y3⟩=>⟨tp,y1,y3⟩⟩
end
end My
namespace L2
open PySem PySem.Spec PyProof.Rows
def aaC(ta:TE):TE:=λσ H Q=>ta σ H λx H1=>∃t:Str,x = .str t/\0<t.length/\t.length<=1000/\Q x H1
section
variable {X:Cx} {a b:Expr} {rest:List Expr} {ta:TE} {pos:Pos}
theorem YK(ha:PE X a ta):PE X (.BoolOp .Or (a::b::rest) pos) (aaC ta):=by
 intro pins s σ H Q I h;refine BoolOp_or (aK (ha pins s σ H _ I h) λv s1 ⟨x,H1,I1,r1,q1⟩=>?_);obtain⟨t,rfl,hn,hn2,q1⟩:=q1;obtain⟨tk,rfl⟩:=(show ∃tk,v=Value.str t tk from r1);refine P.truthy_str (by omega) ?_;have e:(((t.length:Nat):Int) != 0)=true:=by
  rw[bne_iff_ne];omega
 rw[e];exact⟨.str t,H1,(I1.tok _).tok _,⟨tk,rfl⟩,q1⟩
end
end L2
namespace My
open PySem PySem.Spec PyProof.Rows L2
end My
namespace L2
open PySem PySem.Spec PyProof.Rows
end L2
namespace My
open PySem PySem.Spec PyProof.Rows L2
section
variable {P:Program} {w:World} {K:W.Frag} {mg:Str->Option Value} {base:Heap} {f:Addr} {fd:FuncData}
end
section
variable {n:Nat} {R R':Nat->Nat->Bool} {J N:Nat->Nat->Nat} {cs ds:List Nat}
theorem d_.bF(h:d_ n R cs):bF n R (cs.map λx:Nat=>(x:Int))=true:=by
 unfold My.bF;simp only[bD,eN,fB];refine⟨by rw[az];have:=h.pos;omega,?_,?_⟩
 ·unfold inB
  rw[fZ];intro z hz;obtain⟨x,hx,rfl⟩:=cW.mp hz;have:=h.lt x hx;rw[fO];omega
 ·unfold lS
  rw[fZ];intro i hi;rw[az]at hi;have hi:=dS.mp hi;rw[fS,fS,dg,dg];unfold bL;have:=h.adj i (by omega);rw[bD,eN,fB];exact this
theorem d_.Hi(h:d_ n R cs)(hs:∀i,i+1<cs.length->bQ n R (cs.getD i 0) (cs.getD (i+1) 0)=true):bZ n R (cs.map λx:Nat=>(x:Int))=true:=by
 unfold My.bZ;rw[h.bF,fX];unfold lS;rw[fZ];intro i hi;rw[az]at hi;have hi:=dS.mp hi;rw[fS,fS,dg,dg];exact hs i (by omega)
theorem HD(h0:cs.getD 0 0=ds.getD 0 0)(h1:cs.getD (cs.length - 1) 0=ds.getD (ds.length - 1) 0):di (cs.map λx:Nat=>(x:Int)) (ds.map λx:Nat=>(x:Int))=true:=by
 unfold di;rw[az,az,fS,fS,fS,fS,h0,h1];simp
theorem S7(G:Good n R):∃J:Nat->Nat->Nat,∀a b,a<n->b<n->c6 n R a b (J a b):=by
 refine⟨λa b=>if h:a<n/\b<n then(G.join a b h.1 h.2).choose else 0,λa b ha hb=>?_⟩;dsimp only;rw[dif_pos ⟨ha,hb⟩];exact(G.join a b ha hb).choose_spec
theorem S8(G:Good n R):∃J:Nat->Nat->Nat,∀a b,a<n->b<n->c7 n R a b (J a b):=by
 refine⟨λa b=>if h:a<n/\b<n then(G.meet a b h.1 h.2).choose else 0,λa b ha hb=>?_⟩;dsimp only;rw[dif_pos ⟨ha,hb⟩];exact(G.meet a b ha hb).choose_spec
end
theorem Qi(n:Nat):(List.range n).all (λ_=>true)=true:=by simp
theorem BJ{H:Hp}{a:Addr}{o:HO}(_:H a=none):upd H a o a=some o:=ao
theorem Oi:∀rs:List Nat,(rs.map λr=>((2 ^ r:Nat):Int)).sum=(((rs.map λr=>2 ^ r).sum:Nat):Int)
 | []=>rfl
 |r::rs=>by
  simp only[cL,List.sum_cons];rw[Oi rs]
  push_cast
  rfl
theorem getD_map{α β:Type}{g:α->β}{l:List α}{i:Nat}{d:α}{e:β}(h:i<l.length):(l.map g).getD i e=g (l.getD i d):=by
 rw[aO,aO,bO,aB h];rfl
theorem range_getD{α β:Type}(g:α->β)(l:List α)(d:α):(List.range l.length).map (λi=>g (l.getD i d))=l.map g:=by
 apply lI
 ·simp
 ·intro i h1 h2
  have h:i<l.length:=by simpa using h1
  simp only[jD,lJ];rw[aO,aB h];rfl
abbrev bits:List Nat:=[0,1,1,0,1,0,0,1]
section
variable {P:Program} {w:World} {K:W.Frag} {mg:Str->Option Value} {base:Heap} {f:Addr} {fd:FuncData}
abbrev oX:Stmt:=top 69
theorem M_:aZ ["_law_found","_law_k","_law_rows"] [] (aA oX):=⟨rfl,rfl,rfl,by decide +kernel,rfl,by decide +kernel,by decide +kernel⟩
def Dt:Sp:=λvs H Q _=>vs = []/\∀l H',Same H H'->H l=none->H' l=some (.lst (Ev.Ib.map nV))->Q (.ref l) H'
def F0:List Nat:=[1,255]++((List.range 7).map λi=>1 ||| 2 ^ (1+i))
set_option maxHeartbeats 1000000 in
theorem Xi (F:aR K "_law_fields" "_law_fields" oX f fd) (T:Txt mg):aL P w K mg base aX 1 f fd [] Dt:=by
 refine F.ok M_ (λvs H Q E h=>?_) (λcdv A outer s H vs Q E hr h=>?_)
 ·obtain⟨rfl,_⟩:=h
  rfl
 ·obtain⟨rfl,kk⟩:=h
  have nd:=M_.nd;refine⟨_,(au (aJ (i:=0) nd rfl (Or.inl rfl) (ay dk (bG (ae ak (ae ak ag))) (dc (own:=["_law_k"]) (fr:=[]) rfl (cj (aA oX) ["_law_found","_law_k","_law_rows"] rfl rfl (by decide +kernel)) (Bx rfl T.range (ae ak (ae ak ag))) (λ_ _ _ _=>⟨(a_ (i:=0) (by decide +kernel:(["_law_k"]:List Str).Nodup) rfl (Or.inl rfl)),dB,(ay uG ak (ay oF ak (pv 0)))⟩))))
   (au (cI cA rfl (Bx rfl T.range (ae ak (ae ak ag))) (a_ (i:=1) nd rfl (Or.inr rfl))
   (au (oM (i:=2) nd rfl rfl (own:=["_law_row"]) (fr:=[("_law_k", 1)]) rfl (cj (aA oX) ["_law_found","_law_k","_law_rows"] rfl rfl (by decide +kernel)) (df rfl T.range (ae ak ag)) (λ_ _ _ _=>⟨(a_ (i:=0) (by decide +kernel:(["_law_row","_law_k"]:List Str).Nodup) rfl (Or.inl rfl)),(kU (bC cX (aq (aS (K:=K) rfl) (bG (oG [0,1,1,0,1,0,0,1] rfl)) (ay mz (pv 0) (pv 1)) (λ_ _=>rfl)) ak (bj _))),(pv 0)⟩))
   (ax (cw (dJ (K:=K) rfl dU gF gS gw (pv 0) (ae (bx (QV (K:=K) rfl rfl) rfl T.sum boot_sum (ae (dc (own:=["_law_row"]) (fr:=[]) rfl (cj (aA oX) ["_law_found","_law_k","_law_rows"] rfl rfl (by decide +kernel)) (dM (K:=K) rfl (pv 2)) (λ_ _ _ _=>⟨(a_ (i:=0) (by decide +kernel:(["_law_row"]:List Str).Nodup) rfl (Or.inl rfl)),dB,(ay oF ak (pv 0))⟩)) ag)) ag))))))
   (ax (aV (pv 0))))),?_⟩
  refine⟨by show 2<=sizeLine;decide,λp1 hp1=>?_⟩;refine⟨1,8,rfl,⟨by decide,by decide,by decide,by decide⟩,λD hD=>fN (λi=>nV (1 ||| 2 ^ (1+i))) src_range hD (by show 7<sizeLine;decide) (λi H2 Kt hi hs hk=>?_) (λH2 hs hl=>?_)⟩
  ·refine⟨_,rfl,_,_,rfl,rfl,⟨by omega,by have:i<7:=hi;omega,by decide⟩,_,_,rfl,rfl,?_⟩
   have e:(1:Int) * 2 ^ (1+(i:Int)).toNat=((2 ^ (1+i):Nat):Int):=by
    have e1:(1+(i:Int)).toNat=1+i:=by omega
    rw[e1];push_cast;omega
   dsimp only;rw[e];have e2:Builtin.bitOr (1:Int) ((2 ^ (1+i):Nat):Int)=((1 ||| 2 ^ (1+i):Nat):Int):=uH 1 _;rw[e2];exact hk _ (Same.refl _)
  have h1':H2 p1=some (.lst [.int 1,.int 255]):=hs _ _ ao;have s1:Same H H2:=(Same.put hp1).trans hs;refine⟨p1,D,_,_,rfl,rfl,h1',hl,by show 9<=sizeLine;decide,λL hL=>?_⟩;have hL0:H L=none:=s1.free hL;refine⟨1,8,rfl,⟨by decide,by decide,by decide,by decide⟩,fP (lo:=1) (n:=7) (λi σ H3=>∃v1 v2,σ = [some (.ref L),v1,v2]/\Same H H3 /\
   H3 L=some (.lst ((F0++(List.range i).map λk=>(((List.range 8).filter λr=>bits.getD (r&&& (1+k)) 0 == 0).map λr=>2 ^ r).sum).map nV))) ⟨none,none,rfl,s1.trans (Same.put hL),by rw[ao];rfl⟩ ?_ ?_⟩
  ·rintro i σ H3 hi ⟨v1,v2,rfl,s3,hl3⟩
   refine⟨8,rfl,by decide,by decide,λD2 hD2=>kE (λr=>bits.getD (r&&& (1+i)) 0 == 0) nV src_range hD2 (by show 8<sizeLine;decide) (λj H4 Kt Kf hj hs hkt hkf=>?_) (λH4 jn cR=>?_)⟩
   ·have T4:j<8:=hj
    refine⟨by show 8<=sizeLine;decide,λq hq=>?_⟩;have eb:Builtin.bitAnd (0+(j:Int)) (1+(i:Int))=((j&&& (1+i):Nat):Int):=by
     rw[gR];exact nA j (1+i)
    have hx:j&&& (1+i)<bits.length:=mX Nat.and_le_left (by show j<8;exact T4);refine⟨_,rfl,_,rfl,_,_,rfl,rfl,q,bits.map nV,_,nV (bits.getD (j&&& (1+i)) 0),rfl,rfl,ah.of ao,?_,rfl,_,rfl,?_⟩
    ·rw[eb]
     exact aH (by rw[bO,aB hx,aO,aB hx];rfl)
    ·have ed:decide (nV (bits.getD (j&&& (1+i)) 0)=V.int 0)=(bits.getD (j&&& (1+i)) 0 == 0):=by
      rw[dQ];simp only[fO,il]
      constructor
      ·intro h;injection h with h;omega
      ·intro h;rw[h];rfl
     rw[ed];refine bB (λh=>?_) (λh=>?_)
     ·refine⟨_,rfl,?_⟩
      rw[gR];exact hkt _ h (Same.put hq)
     ·exact hkf _ (by simpa using h) (Same.put hq)
   ·have Je:=jn _ _ hl3
    change H4 D2=some (.lst (((List.range 8).filter λr=>bits.getD (r&&& (1+i)) 0 == 0).map nV))at cR
    refine⟨_,rfl,.inl ⟨rfl,_,ah.of Je⟩,?_⟩;refine⟨_,rfl,D2,rfl,⟨_,ah.of cR⟩,λD3 kG=>fN (λj=>.int ((2 ^ (((List.range 8).filter λr=>bits.getD (r&&& (1+i)) 0 == 0).getD j 0):Nat):Int)) (src_list (ah.of cR)) kG ?_ (λj H5 Kt hj hs hk=>?_) (λH5 jo dI=>?_)⟩
    ·rw[az]
     exact mX (mR _ _) (by show 8<sizeLine;decide)
    ·have hj':j<((List.range 8).filter λr=>bits.getD (r&&& (1+i)) 0 == 0).length:=by simpa using hj
     have hr:((List.range 8).filter λr=>bits.getD (r&&& (1+i)) 0 == 0).getD j 0<8:=by
      rw[aO,aB hj'];have:=(cT.mp (ft hj')).1;simpa using this
     refine⟨_,rfl,_,_,rfl,getD_map (d:=0) hj',⟨by omega,by omega,by decide⟩,?_⟩;have e:(1:Int) * 2 ^ ((((List.range 8).filter λr=>bits.getD (r&&& (1+i)) 0 == 0).getD j 0:Nat):Int).toNat=((2 ^ (((List.range 8).filter λr=>bits.getD (r&&& (1+i)) 0 == 0).getD j 0):Nat):Int):=by
      rw[dg];push_cast;omega
     dsimp only;rw[e];exact hk _ (Same.refl _)
    ·have en:(((List.range 8).filter λr=>bits.getD (r&&& (1+i)) 0 == 0).map nV).length=((List.range 8).filter λr=>bits.getD (r&&& (1+i)) 0 == 0).length:=az _
     rw[en,range_getD (λr=>V.int ((2 ^ r:Nat):Int))]at dI;have el:((List.range 8).filter λr=>bits.getD (r&&& (1+i)) 0 == 0).map (λr=>V.int ((2 ^ r:Nat):Int))=(((List.range 8).filter λr=>bits.getD (r&&& (1+i)) 0 == 0).map λr=>((2 ^ r:Nat):Int)).map V.int:=by rw[eZ];rfl
     rw[el]at dI;refine⟨D3,_,rfl,ah.of dI,?_,λx hx=>?_,?_⟩
     ·rw[az]
      exact b_ (mR _ _) (by simp)
     ·obtain⟨r,hr,rfl⟩:=cW.mp hx
      have h8:r<8:=by simpa using(cT.mp hr).1
      have h2:2 ^ r<=2 ^ 8:=Nat.pow_le_pow_right (by decide) (by omega);exact⟨Int.natCast_nonneg _,o9 (Int.ofNat_le.mpr h2) (by decide)⟩
     ·rw[Oi]
      refine⟨L,_,_,rfl,rfl,jo _ _ Je,?_,?_⟩
      ·rw[az,bp,az,iH]
       have:F0.length=9:=rfl;exact cS (by omega)
      ·refine⟨_,_,rfl,?_,?_⟩
       ·intro b o e
        rw[aD (λz=>by rw[z,hL0]at e;cases e)];exact jo _ _ (jn _ _ (s3 _ _ e))
       ·have er:List.range (i+1)=List.range i++[i]:=ja
        rw[ao,er];simp only[eh,cL,rY,iZ]
  ·rintro σ H3 ⟨v1,v2,rfl,s3,hl3⟩
   exact⟨_,rfl,kk L H3 s3 hL0 hl3⟩
end
theorem gW(x:Int)(k:Nat)(hk:0<k):∃r:Nat,r<k/\x % (k:Int)=(r:Int):=
 ⟨(x % (k:Int)).toNat,by have h1:=mO x (show(k:Int)≠0 by omega);have h2:=rO x (show(0:Int)<k by omega);omega,by have h1:=mO x (show(k:Int)≠0 by omega);omega⟩
theorem tK:∀r,r<5->Ev.gX (1+r)≠[]/\(Ev.gX (1+r)).length<=100/\∀x∈Ev.gX (1+r),x<2 ^ 40:=by decide +kernel
theorem V2:∀a,a<5->∀b,b<5->Ev.mH (Ev.gX (1+a)) (Ev.gX (1+b)) 10≠[]/\(Ev.mH (Ev.gX (1+a)) (Ev.gX (1+b)) 10).length<=100:=by decide +kernel
theorem BR:∀r,r<6->(Ev.hW (1+r)).length<=100/\∀x∈Ev.hW (1+r),x<2 ^ 40:=by decide +kernel
theorem ZN:∀r,r<2->Ev.kW r≠[]/\(Ev.kW r).length<=100/\∀x∈Ev.kW r,x<2 ^ 40:=by decide +kernel
section
variable {P:Program} {w:World} {K:W.Frag} {mg:Str->Option Value} {base:Heap} {f:Addr} {fd:FuncData}
abbrev vd:Stmt:=top 70
theorem Nf:aZ ["_law_draws_here","_law_family","_law_way","_law_one","_law_other","_law_some","_law_lower","_law_row","_law_ring"] ["_law_draws_here","_law_family"] (aA vd):=⟨rfl,rfl,rfl,by decide +kernel,rfl,by decide +kernel,by decide +kernel⟩
def Dz(K:W.Frag):Sp:=λvs H Q _=>∃(a:Nat) (ns:List Int) (fam:Int),vs = [.ref a,.int fam]/\H a=some (.lst (ns.map V.int))/\ns.length=8/\∀l M H',Same H H'->H l=none->H' l=some (.lst (M.map nV))->Ev.cz M->Q (.ref l) H'
set_option maxHeartbeats 0 in
theorem Xu (F:aR K "_law_kind" "_law_kind" vd f fd) (T:Txt mg) (nG:aG P w K mg base "_law_flower" ["_law_many"] 1 Dv) (pU:aG P w K mg base "_law_stack" ["_law_one","_law_other","_law_places"] 1 (Eh K))
  (xH:aG P w K mg base "_law_fields" [] 1 Dt) (pT:aG P w K mg base "_law_beside" ["_law_one","_law_other"] 1 (Dj K)) (xO:aG P w K mg base "_law_shut" ["_law_masks","_law_both"] 1 (Eg K)) :
  aL P w K mg base aX 2 f fd ["_law_draws_here","_law_family"] (Dz K):=by
 refine F.ok Nf (λvs H Q E h=>?_) (λcdv A outer s H vs Q E hr h=>?_)
 ·obtain⟨a,ns,fam,rfl,_⟩:=h
  rfl
 ·obtain⟨a,ns,fam,rfl,ha,hlen,kk⟩:=h
  have nd:=Nf.nd;obtain⟨d0,d1,d2,d3,d4,d5,d6,d7,rfl⟩:∃d0 d1 d2 d3 d4 d5 d6 d7,ns = [d0,d1,d2,d3,d4,d5,d6,d7]:=by
   match ns,hlen with
   | [d0,d1,d2,d3,d4,d5,d6,d7],_=>exact⟨_,_,_,_,_,_,_,_,rfl⟩
  obtain⟨r1,hr1,e1⟩:=gW d1 5 (by decide);obtain⟨r2,hr2,e2⟩:=gW d2 5 (by decide);obtain⟨RV,RW,f1c⟩:=tK r1 hr1;obtain⟨f2a,HX,HY⟩:=tK r2 hr2;refine⟨_,(au (aJ (i:=2) nd rfl (Or.inl rfl) (ay bW (aq (aS (K:=K) rfl) (pv 0) ak (λ_ _=>rfl)) ak))
   (au (aJ (i:=3) nd rfl (Or.inl rfl) (aM nG hr rfl (ae (ay bV ak (ay bW (aq (aS (K:=K) rfl) (pv 0) ak (λ_ _=>rfl)) ak)) ag)))
   (au (aJ (i:=4) nd rfl (Or.inl rfl) (aM nG hr rfl (ae (ay bV ak (ay bW (aq (aS (K:=K) rfl) (pv 0) ak (λ_ _=>rfl)) ak)) ag)))
   (au (bz (bC cX (pv 2) ak (bj _)) (au (aJ (i:=6) nd rfl (Or.inl rfl) (aM pU hr rfl (ae (pv 3) (ae (pv 4) (ae ak ag (av nofun)) (av nofun)) (av nofun))))
   (ax (aV (aM pU hr rfl (ae (pv 6) (ae (aM nG hr rfl (ae (ay bV ak (ay bW (aq (aS (K:=K) rfl) (pv 0) ak (λ_ _=>rfl)) ak)) ag)) (ae ak ag (av nofun)) (av nofun)) (av nofun)))))) bH)
   (au (bz (bC cX (pv 2) ak (bj _)) (ax (aV (Yw xH hr rfl))) bH)
   (au (bz (bC cX (pv 2) ak (bj _)) (au (aJ (i:=7) nd rfl (Or.inl rfl) (cY (cZ (K:=K) rfl) (bG (oG [0,1,3,7] rfl)) dC (cH (ay bV ak (ay bW (aq (aS (K:=K) rfl) (pv 0) ak (λ_ _=>rfl)) ak)))))
   (au (bz (bC cX (ay bW (aq (aS (K:=K) rfl) (pv 0) ak (λ_ _=>rfl)) ak) ak (bj _)) (ax (aV (aM pT hr rfl (ae (pv 7) (ae (cY (cZ (K:=K) rfl) (bG (oG [0,1,3,7,15,31] rfl)) dC (cH (ay bV ak (ay bW (aq (aS (K:=K) rfl) (pv 0) ak (λ_ _=>rfl)) ak)))) ag))))) bH)
   (ax (aV (aM pT hr rfl (ae (pv 7) (ae (aM nG hr rfl (ae (ay bV ak (ay bW (aq (aS (K:=K) rfl) (pv 0) ak (λ_ _=>rfl)) ak)) ag)) ag))))))) bH)
   (au (bz (bC cX (pv 2) ak (bj _)) (au (aJ (i:=8) nd rfl (Or.inl rfl) (aq (aS (K:=K) rfl) (bG (ae (bG (oG [0,1,2,6,7] rfl)) (ae (bG (oG [0,1,3,4,12,15] rfl)) ag))) (ay bW (aq (aS (K:=K) rfl) (pv 0) ak (λ_ _=>rfl)) ak) (λ_ _=>rfl)))
   (au (bz (bC cX (ay bW (aq (aS (K:=K) rfl) (pv 0) ak (λ_ _=>rfl)) ak) ak (bj _)) (ax (aV (aM pT hr rfl (ae (cY (cZ (K:=K) rfl) (bG (oG [0,1,3,7] rfl)) dC (cH (ay bV ak (ay bW (aq (aS (K:=K) rfl) (pv 0) ak (λ_ _=>rfl)) ak)))) (ae (pv 8) ag))))) bH)
   (ax (aV (aM pU hr rfl (ae (pv 8) (ae (pv 4) (ae ak ag (av nofun)) (av nofun)) (av nofun))))))) bH)
   (au (oM (i:=5) nd rfl rfl (own:=["_law_k"]) (fr:=[("_law_family", 1)]) rfl (cj (aA vd) ["_law_draws_here","_law_family","_law_way","_law_one","_law_other","_law_some","_law_lower","_law_row","_law_ring"] rfl rfl (by decide +kernel)) (df rfl T.range (ae ak ag)) (λ_ _ _ _=>⟨(a_ (i:=0) (by decide +kernel:(["_law_k","_law_family"]:List Str).Nodup) rfl (Or.inl rfl)),(kU (bC cX (ay mz (ay La (pv 1) (pv 0)) ak) ak (bj _))),(pv 0)⟩))
   (ax (aV (aM xO hr rfl (ae (ay dk (bG (ae ak ag)) (pv 5)) (ae (oJ (Yh (K:=K) rfl) (pv 2) (gx (ae ak (ae ak ag))) (by with_unfolding_all rfl)) ag))))))))))))),?_⟩
  refine⟨_,rfl,a,_,0,_,rfl,rfl,ah.of ha,rfl,_,_,rfl,rfl,(by show(0:Int)<8;decide),?_⟩;refine⟨_,rfl,a,_,1,_,rfl,rfl,ah.of ha,rfl,_,_,rfl,rfl,(by show(0:Int)<5;decide),_,_,rfl,rfl,1+r1,by rw[show d1 % 5=(r1:Int)from e1];simp,by omega,by omega,λo1 H1 s1 ho1 q1=>?_⟩;refine⟨_,rfl,a,_,2,_,rfl,rfl,ah.of (s1 _ _ ha),rfl,_,_,rfl,rfl,(by show(0:Int)<5;decide),_,_,rfl,rfl,1+r2,by rw[show d2 % 5=(r2:Int)from e2];simp,by omega,by omega,λo2 H2 s2 ho2 q2=>?_⟩;have fq:=s1.trans s2;have ha2:=fq _ _ ha;have Zb:=s2 _ _ q1;refine⟨_,rfl,rfl,_,rfl,bB (λ_=>?_) (λ_=>?_)⟩
  ·obtain⟨r3,Um,e3⟩:=gW d3 4 (by decide)
   obtain⟨RX,yz,yA⟩:=tK r3 (by omega);obtain⟨l1,l2⟩:=V2 r1 hr1 r2 hr2;refine⟨_,rfl,_,rfl,o1,o2,10,_,_,rfl,Zb,q2,RV,RW,HX,HY,by decide,λo3 H3 s3 Jg q3=>?_⟩;refine⟨_,rfl,_,rfl,a,_,3,_,rfl,rfl,ah.of (s3 _ _ ha2),rfl,_,_,rfl,rfl,(by show(0:Int)<4;decide),_,_,rfl,rfl,1+r3,by rw[show d3 % 4=(r3:Int)from e3];simp,by omega,by omega,λo4 H4 s4 Uh q4=>?_⟩;refine⟨o3,o4,20,_,_,rfl,s4 _ _ q3,q4,l1,l2,yz,yA,by decide,λo5 H5 s5 iS q5=>?_⟩;have hX:=(fq.trans s3).trans s4;exact kk o5 _ H5 (hX.trans s5) (hX.free iS) q5 (Ev.Vy r1 hr1 r2 hr2 r3 Um)
  refine⟨_,rfl,rfl,_,rfl,bB (λ_=>?_) (λ_=>?_)⟩
  ·exact⟨rfl,λo3 H3 s3 Jg q3=>kk o3 _ H3 (fq.trans s3) (fq.free Jg) q3 Ev.Vz⟩
  refine⟨_,rfl,rfl,_,rfl,bB (λ_=>?_) (λ_=>?_)⟩
  ·obtain⟨t1,ht1,g1⟩:=gW d1 4 (by decide)
   have Sf:1+d1 % 4=((1+t1:Nat):Int):=by rw[show d1 % 4=(t1:Int)from g1];push_cast;rfl
   obtain⟨w1,w2⟩:=BR t1 (by omega);refine⟨by show 4<=sizeLine;decide,λp1 hp1=>?_⟩;refine⟨_,rfl,a,_,1,_,rfl,rfl,ah.of (Same.put hp1 _ _ ha2),rfl,_,_,rfl,rfl,(by show(0:Int)<4;decide),_,_,rfl,rfl,_,rfl,p1,_,rfl,ah.of ao,λp2 hp2=>?_⟩;have er:bM (([0,1,3,7]:List Int).map V.int) none (some (1+d1 % 4))=(Ev.hW (1+t1)).map nV:=by
    rw[Sf,tG];have:∀t,t<4->(([0,1,3,7]:List Int).map V.int).take (1+t)=(Ev.hW (1+t)).map nV:=by decide
    exact this t1 ht1
   rw[er];generalize hB:upd _ p2 _=B;have sB:Same H2 B:=by rw[<- hB];exact(Same.put hp1).trans (Same.put hp2)
   have hrow:B p2=some (.lst ((Ev.hW (1+t1)).map nV)):=by rw[<- hB,ao]
   have kZ:=fq.trans sB;refine⟨_,rfl,a,_,3,_,rfl,rfl,ah.of (sB _ _ ha2),rfl,_,_,rfl,rfl,(by show(0:Int)<2;decide),rfl,_,rfl,bB (λ_=>?_) (λ_=>?_)⟩
   ·obtain⟨t2,kJ,g2⟩:=gW d2 6 (by decide)
    have qc:1+d2 % 6=((1+t2:Nat):Int):=by rw[show d2 % 6=(t2:Int)from g2];push_cast;rfl
    obtain⟨w3,w4⟩:=BR t2 kJ;refine⟨_,rfl,by show 6<=sizeLine;decide,λp3 hp3=>?_⟩;refine⟨_,rfl,a,_,2,_,rfl,rfl,ah.of (Same.put hp3 _ _ (sB _ _ ha2)),rfl,_,_,rfl,rfl,(by show(0:Int)<6;decide),_,_,rfl,rfl,_,rfl,p3,_,rfl,ah.of ao,λp4 cU=>?_⟩;have RG:bM (([0,1,3,7,15,31]:List Int).map V.int) none (some (1+d2 % 6))=(Ev.hW (1+t2)).map nV:=by
     rw[qc,tG];have:∀t,t<6->(([0,1,3,7,15,31]:List Int).map V.int).take (1+t)=(Ev.hW (1+t)).map nV:=by decide
     exact this t2 kJ
    rw[RG];refine⟨p2,p4,_,_,rfl,Same.put cU _ _ (Same.put hp3 _ _ hrow),ao,w1,w3,w4,λo5 H5 s5 iS q5=>?_⟩;have hX:=(kZ.trans (Same.put hp3)).trans ((Same.put cU).trans s5);refine kk o5 _ H5 hX (Same.free ?_ iS) q5 (Ev.VB t1 ht1 t2 kJ);exact(kZ.trans (Same.put hp3)).trans (Same.put cU)
   ·obtain⟨t2,kJ,g2⟩:=gW d2 4 (by decide)
    obtain⟨RX,yz,yA⟩:=tK t2 (by omega);refine⟨_,rfl,_,rfl,a,_,2,_,rfl,rfl,ah.of (sB _ _ ha2),rfl,_,_,rfl,rfl,(by show(0:Int)<4;decide),_,_,rfl,rfl,1+t2,by rw[show d2 % 4=(t2:Int)from g2];simp,by omega,by omega,λo4 H4 s4 Uh q4=>?_⟩;refine⟨p2,o4,_,_,rfl,s4 _ _ hrow,q4,w1,yz,yA,λo5 H5 s5 iS q5=>?_⟩;have hX:=kZ.trans s4;exact kk o5 _ H5 (hX.trans s5) (hX.free iS) q5 (Ev.VD t1 ht1 t2 kJ)
  refine⟨_,rfl,rfl,_,rfl,bB (λ_=>?_) (λ_=>?_)⟩
  ·obtain⟨t1,ht1,g1⟩:=gW d1 2 (by decide)
   obtain⟨y1,y2,y3⟩:=ZN t1 ht1;refine⟨by show 5<=sizeLine;decide,λp1 hp1=>⟨by show 6<=sizeLine;decide,λp2 hp2=>⟨by show 2<=sizeLine;decide,λp3 hp3=>?_⟩⟩⟩;generalize hB:upd (upd (upd H2 p1 _) p2 _) p3 _=B;have sB:Same H2 B:=by rw[<- hB];exact((Same.put hp1).trans (Same.put hp2)).trans (Same.put hp3)
   have h3:B p3=some (.lst [.ref p1,.ref p2]):=by rw[<- hB,ao]
   have h1:B p1=some (.lst ((Ev.kW 0).map nV)):=by rw[<- hB];exact Same.put hp3 _ _ (Same.put hp2 _ _ ao)
   have h2:B p2=some (.lst ((Ev.kW 1).map nV)):=by rw[<- hB];exact Same.put hp3 _ _ ao
   obtain⟨pr,hpr,Jl⟩:∃pr,eQ [V.ref p1,V.ref p2] (t1:Int)=some (.ref pr)/\B pr=some (.lst ((Ev.kW t1).map nV)):=by
    match t1,ht1 with
    |0,_=>exact⟨p1,rfl,h1⟩
    |1,_=>exact⟨p2,rfl,h2⟩
   have kZ:=fq.trans sB;refine⟨_,rfl,a,_,1,_,rfl,rfl,ah.of (sB _ _ ha2),rfl,_,_,rfl,rfl,(by show(0:Int)<2;decide),p3,_,_,.ref pr,rfl,rfl,ah.of h3,by rw[show d1 % 2=(t1:Int)from g1];exact hpr,?_⟩;refine⟨_,rfl,a,_,3,_,rfl,rfl,ah.of (sB _ _ ha2),rfl,_,_,rfl,rfl,(by show(0:Int)<2;decide),rfl,_,rfl,bB (λ_=>?_) (λ_=>?_)⟩
   ·obtain⟨t2,kJ,g2⟩:=gW d2 4 (by decide)
    have qc:1+d2 % 4=((1+t2:Nat):Int):=by rw[show d2 % 4=(t2:Int)from g2];push_cast;rfl
    obtain⟨w1,w2⟩:=BR t2 (by omega);refine⟨by show 4<=sizeLine;decide,λp4 cU=>?_⟩;refine⟨_,rfl,a,_,2,_,rfl,rfl,ah.of (Same.put cU _ _ (sB _ _ ha2)),rfl,_,_,rfl,rfl,(by show(0:Int)<4;decide),_,_,rfl,rfl,_,rfl,p4,_,rfl,ah.of ao,λp5 gZ=>?_⟩;have er:bM (([0,1,3,7]:List Int).map V.int) none (some (1+d2 % 4))=(Ev.hW (1+t2)).map nV:=by
     rw[qc,tG];have:∀t,t<4->(([0,1,3,7]:List Int).map V.int).take (1+t)=(Ev.hW (1+t)).map nV:=by decide
     exact this t2 kJ
    rw[er];refine⟨_,rfl,p5,pr,_,_,rfl,ao,Same.put gZ _ _ (Same.put cU _ _ Jl),w1,y2,y3,λo5 H5 s5 iS q5=>?_⟩;have hX:=(kZ.trans (Same.put cU)).trans ((Same.put gZ).trans s5);refine kk o5 _ H5 hX (Same.free ?_ iS) q5 (Ev.VF t2 kJ t1 ht1);exact(kZ.trans (Same.put cU)).trans (Same.put gZ)
   ·refine⟨_,rfl,_,rfl,pr,o2,10,_,_,rfl,Jl,sB _ _ q2,y1,y2,HX,HY,by decide,λo5 H5 s5 iS q5=>?_⟩
    exact kk o5 _ H5 (kZ.trans s5) (kZ.free iS) q5 (Ev.VG r2 hr2 t1 ht1)
  refine⟨15,rfl,by decide,by decide,λD hD=>kE (λj=>decide (V.int (Builtin.bitAnd (fam / 2 ^ (0+(j:Int)).toNat) 1)=V.int 1)) nV src_range hD (by show 15<sizeLine;decide) (λj H3 Kt Kf hj hs hkt hkf=>?_) (λH3 hs3 hl3=>?_)⟩
  ·refine⟨_,rfl,_,rfl,_,_,rfl,rfl,by omega,_,_,rfl,rfl,rfl,_,rfl,bB (λh=>?_) (λh=>?_)⟩
   ·refine⟨_,rfl,?_⟩
    rw[gR];exact hkt _ h (Same.refl _)
   ·exact hkf _ (by simpa using h) (Same.refl _)
  ·change H3 D=some (.lst (((List.range 15).filter λj:Nat=>decide (V.int (Builtin.bitAnd (fam / 2 ^ (0+(j:Int)).toNat) 1)=V.int 1)).map nV))at hl3
   generalize hS:(List.range 15).filter (λj:Nat=>decide (V.int (Builtin.bitAnd (fam / 2 ^ (0+(j:Int)).toNat) 1)=V.int 1))=SM at hl3;have Ia:Fam (15::SM):=by
    refine⟨iJ.mpr ⟨λh=>?_,?_⟩,λx hx=>?_⟩
    ·rw[<- hS]at h
     have:=(cT.mp h).1;simp at this
    ·rw[<- hS];exact FQ.filter _
    ·rcases bq.mp hx with rfl|hx
     ·decide
     ·rw[<- hS]at hx
      have:=(cT.mp hx).1;simp at this;omega
   have hlS:SM.length<=15:=by have:=Ia.len;simp at this;omega
   refine⟨by show 1<=sizeLine;decide,λp1 hp1=>⟨_,rfl,p1,D,_,_,rfl,rfl,ao,Same.put hp1 _ _ hl3,by rw[az];exact dh (dZ (by show 1+SM.length<=24;omega)),λp2 hp2=>?_⟩⟩;refine⟨_,rfl,by show 2<=sizeLine;decide,λp3 hp3=>⟨p3,_,rfl,.inr (aF.of ao),rfl,rfl,?_⟩⟩;have h4:(upd (upd (upd H3 p1 (.lst [V.int 15])) p2 (.lst ([V.int 15]++SM.map nV))) p3 (.tup [V.int 2,V.int 7])) p2=some (.lst ((15::SM).map nV)):=Same.put hp3 _ _ ao;refine⟨p2,15::SM,_,rfl,h4,Ia,b9,λo5 M H5 s5 iS q5 hM=>?_⟩;have qX:=fq.trans hs3;have ZV:=(((qX.trans (Same.put hp1)).trans (Same.put hp2)).trans (Same.put hp3)).trans s5;refine kk o5 M H5 ZV (Same.free ?_ iS) q5 hM;exact((qX.trans (Same.put hp1)).trans (Same.put hp2)).trans (Same.put hp3)
abbrev va:Stmt:=top 77
theorem M7:aZ ["_law_known","_law_masks","_law_a","_law_b","_law_draws_here","_law_found","_law_k","_law_some"] ["_law_known","_law_masks","_law_a","_law_b","_law_draws_here"] (aA va):=⟨rfl,rfl,rfl,by decide +kernel,rfl,by decide +kernel,by decide +kernel⟩
def Dl(K:W.Frag):Sp:=λvs H Q _=>∃(kn m a b d:Nat) (M:List Nat) (us:List V) (ds:List Int),vs = [.ref kn,.ref m,.int a,.int b,.ref d]/\ah K H kn us/\Paired (bX H) (cy M) us/\us.length<=576/\ah K H m (M.map nV)/\Ev.cz M/\a<M.length/\b<M.length/\Ev.aN M a b=true/\ah K H d (ds.map V.int)/\6<=ds.length /\
 ∀L cs H',Same H H'->H L=none->H' L=some (.lst (cs.map nV))->cs.length<=25->j8 M.length (Ev.aN M) cs->Cl.o_ (gA M.length (Ev.aN M)) b a cs->Q (.ref L) H'
theorem Xb (F:aR K "_law_climb" "_law_climb" va f fd) (T:Txt mg) (jh:aG P w K mg base "_law_at_most" ["_law_masks","_law_a","_law_b"] 1 (rh K)) :
  aL P w K mg base aX 2 f fd ["_law_known","_law_masks","_law_a","_law_b","_law_draws_here"] (Dl K):=by
 refine F.ok M7 (λvs H Q E h=>?_) (λcdv A outer s H vs Q E hr h=>?_)
 ·obtain⟨kn,m,a,b,d,M,us,ds,rfl,_⟩:=h
  rfl
 ·obtain⟨kn,m,a,b,d,M,us,ds,rfl,hkn,hkp,iw,hm,hM,ha,hb,hab,hd,hdl,kk⟩:=h
  have nd:=M7.nd;have hpl:us.length=(cy M).length:=(dq hkp).symm;refine⟨_,(au (aJ (i:=5) nd rfl (Or.inr rfl) (bG (ae (pv 2) ag)))
   (au (cI cA rfl (df rfl T.range (ae ak ag)) (a_ (i:=6) nd rfl (Or.inl rfl))
   (au (oM (i:=7) nd rfl rfl (own:=["_law_c","_law_d"]) (fr:=[("_law_found", 5),("_law_masks", 1),("_law_b", 3)]) rfl (cj (aA va) ["_law_known","_law_masks","_law_a","_law_b","_law_draws_here","_law_found","_law_k","_law_some"] rfl rfl (by decide +kernel)) (dM (K:=K) rfl (pv 0)) (λ_ _ _ _=>⟨(jX (K:=K) (i:=0) (j:=1) rfl rfl (by decide +kernel:(["_law_c","_law_d","_law_found","_law_masks","_law_b"]:List Str).Nodup) rfl rfl rfl rfl),(kU (PW.pt (qR (bC cX (pv 0) (aq (aS (K:=K) rfl) (pv 2) (iC iF ak) (λ_ _=>rfl)) (bj _)) (qS (dY (aM jh hr rfl (ae (pv 3) (ae (pv 1) (ae (pv 4) ag (av nofun)) (av nofun)) (av nofun)))))))),(pv 1)⟩))
   (ax (bz (bC iA (aq (aS (K:=K) rfl) (pv 5) (iC iF ak) (λ_ _=>rfl)) (pv 3) (bj _)) (ax (cw (dJ (K:=K) rfl dU gF gS gw (pv 5) (ae (aq (aS (K:=K) rfl) (pv 7) (ay bW (ay bV (ay jT (aq (aS (K:=K) rfl) (pv 4) (ay bW (pv 6) ak) (λ_ _=>rfl)) (ay bV (pv 6) ak)) (pv 6)) (bx (fh (K:=K) rfl) rfl T.len fz (ae (pv 7) ag))) (λ_ _=>rfl)) ag)))) bH))))
   (ax (aV (pv 5))))),?_⟩
  refine⟨_,rfl,by show 1<=sizeLine;decide,λL hL=>?_⟩;refine⟨24,rfl,by decide,by decide,fP (lo:=0) (n:=(24:Int).toNat) (λi σ H2=>∃(v6 v7:Option V) (cs:List Nat) (z:Nat),σ = [some (.ref kn),some (.ref m),some (.int (a:Int)),some (.int (b:Int)),some (.ref d),some (.ref L),v6,v7]/\Same H H2/\H2 L=some (.lst ((cs++[z]).map nV))/\cs.length<=i/\j8 M.length (Ev.aN M) (cs++[z])/\Ev.aN M z b=true/\(cs++[z]).head? = some a/\(z=b\/cs.length=i))
   ⟨none,none,[],a,rfl,Same.put hL,ao,aW _,j8.one ha,hab,rfl,.inr rfl⟩ ?_ ?_⟩
  ·rintro i σ H2 hi ⟨v6,v7,cs,z,rfl,s2,hl,hcl,hC,Aq,hhd,qw⟩
   have abG:i<24:=hi;have hz:z<M.length:=hC.lt z (by simp);have HB:eQ ((cs++[z]).map nV) (-1)=some (nV z):=by
    rw[G3 (by simp)];simp
   have T8:=eU.same s2 hkp;have hpq:∀j,j<us.length->∃t,us[j]? = some (.ref t)/\H2 t=some (.tup [.int (((cy M).getD j (0,0)).1:Int),.int (((cy M).getD j (0,0)).2:Int)]):=λj hj=>by
    obtain⟨q,hq,t,e1,e2⟩:=fk T8 (show us[j]? = some us[j]from aB hj);exact⟨t,by rw[aB hj,e1],by rw[aO,hq];exact e2⟩
   refine⟨_,rfl,kn,rfl,⟨_,s2.seq hkn⟩,λD hD=>kE (λj=>decide (((cy M).getD j (0,0)).1=z)&&Ev.aN M ((cy M).getD j (0,0)).2 b) (λj=>nV ((cy M).getD j (0,0)).2) (aad (s2.seq hkn) hpq) hD (jy (by omega)) (λj H3 Kt Kf hj hs hkt hkf=>?_) (λH3 hs hl3=>?_)⟩
   ·have Ul:=uv (p:=(cy M).getD j (0,0)) (by rw[aO,aB (by omega)];exact ft _)
    refine⟨_,rfl,_,rfl,_,rfl,L,_,_,_,rfl,rfl,ah.of (hs _ _ hl),HB,rfl,_,rfl,?_⟩;have ed:decide (V.int (((cy M).getD j (0,0)).1:Int)=nV z)=decide (((cy M).getD j (0,0)).1=z):=by
     apply pZ.mpr
     constructor
     ·intro h;injection h with h;omega
     ·intro h;rw[h]
    rw[ed];refine bB (λh1=>?_) (λh1=>?_)
    ·refine⟨_,rfl,_,rfl,_,rfl,m,((cy M).getD j (0,0)).2,b,M,rfl,(s2.trans hs).seq hm,Ul.2.1,hb,λH4 s4=>⟨_,rfl,?_⟩⟩
     refine bB (λh2=>?_) (λh2=>?_)
     ·exact⟨_,rfl,hkt _ (by rw[h1,h2];rfl) s4⟩
     ·exact hkf _ (by rw[h1,fX];simpa using h2) s4
    ·refine cG (hkf _ ?_ (Same.refl _))
     have h2:decide (((cy M).getD j (0,0)).1=z)=false:=by simpa using h1
     rw[h2,iX]
   ·have hl':=hs _ _ hl
    have t3:=s2.trans hs;have eS:((List.range us.length).filter λj=>decide (((cy M).getD j (0,0)).1=z)&&Ev.aN M ((cy M).getD j (0,0)).2 b).map (λj=>nV ((cy M).getD j (0,0)).2)=(((cy M).filter λq=>decide (q.1=z)&&Ev.aN M q.2 b).map Prod.snd).map nV:=by
     rw[hpl,<- ZM (λq:Nat × Nat=>decide (q.1=z)&&Ev.aN M q.2 b) (0,0) (cy M),eZ,eZ];rfl
    rw[eS]at hl3;generalize hS:((cy M).filter λq=>decide (q.1=z)&&Ev.aN M q.2 b).map Prod.snd=S at hl3;have Wb:∀x∈S,x<M.length/\bQ M.length (Ev.aN M) z x=true/\Ev.aN M x b=true:=λx hx=>by
     rw[<- hS]at hx;obtain⟨q,hq,rfl⟩:=cW.mp hx;obtain⟨h1,h2⟩:=cT.mp hq;rw[bD,fO]at h2;obtain⟨q1,q2⟩:=q;obtain⟨h2,h3⟩:=h2;subst h2;have:=(Kw hM).mp h1;exact⟨this.2.1,this.2.2,h3⟩
    have abL:S.length<=576:=by
     rw[<- hS,az];have:=mR (λq:Nat × Nat=>decide (q.1=z)&&Ev.aN M q.2 b) (cy M);omega
    refine⟨_,rfl,_,rfl,L,_,_,_,rfl,rfl,ah.of hl',HB,_,rfl,rfl,_,rfl,?_⟩;have ed:(!decide (nV z=V.int (b:Int))) = !decide (z=b):=by
     congr 1
     apply pZ.mpr
     constructor
     ·intro h;injection h with h;omega
     ·intro h;rw[h]
    rw[ed];refine bB (λh1=>?_) (λh1=>?_)
    ·have hne:z≠b:=by simpa using h1
     have hS0:0<S.length:=by
      obtain⟨dd,hdd,hst,hdb⟩:=Q6 hM (b:=b) hz (M.getD b 0) b (aW _) hb (by unfold bL;rw[Aq];simp[hne]) (Ev.kM _ _);have:dd∈S:=by
       rw[<- hS];exact cW.mpr ⟨(z,dd),cT.mpr ⟨(Kw hM).mpr ⟨hz,hdd,hst⟩,by simp[hdb]⟩,rfl⟩
      exact PL this
     refine⟨_,rfl,.inl ⟨rfl,_,ah.of hl'⟩,?_⟩;obtain⟨r6,h6,e6⟩:=gW (0+(i:Int)) 6 (by decide);have e6:(0+(i:Int)) % 6=(r6:Int):=e6;obtain⟨dv,Rv⟩:∃dv:Int,(ds.map V.int)[r6]? = some (.int dv):=⟨ds[r6]'(by omega),by rw[bO,aB (by omega)];rfl⟩;refine⟨_,rfl,_,rfl,_,rfl,_,_,rfl,rfl,by show(0:Int)<6;decide,d,_,_,.int dv,rfl,rfl,t3.seq hd,by show eQ _ ((0+(i:Int)) % 6)=_;rw[e6];exact aH Rv,_,rfl,_,_,rfl,rfl,_,_,rfl,rfl,⟨by show(0:Int)<0+(i:Int)+1;omega,by show 0+(i:Int)+1<1073741824;omega⟩,_,rfl,_,_,rfl,rfl,?_⟩;refine⟨_,rfl,D,_,rfl,.inl (ah.of hl3),_,_,rfl,rfl,by show(0:Int)<((S.map nV).length:Int);rw[az];omega,?_⟩;obtain⟨rs,hrs,RL⟩:=gW (dv / (0+(i:Int)+1)+(0+(i:Int))) S.length hS0;have hx:(S.map nV)[rs]? = some (nV (S.getD rs 0)):=iV hrs;refine⟨D,_,_,nV (S.getD rs 0),rfl,rfl,ah.of hl3,by show eQ _ ((dv / (0+(i:Int)+1)+(0+(i:Int))) % ((S.map nV).length:Int))=_;rw[az,RL];exact aH hx,?_⟩;obtain⟨m1,m2,m3⟩:=Wb (S.getD rs 0) (Bl hrs);refine⟨L,_,nV (S.getD rs 0),rfl,rfl,hl',jy (by rw[az,bp];show cs.length+1<=1000;omega),?_⟩;refine⟨_,_,cs++[z],S.getD rs 0,rfl,λb o e=>?_,by rw[ao];simp,by rw[bp];show cs.length+1<=i+1;omega,hC.snoc m1 m2,m3,by rw[List.head?_append,hhd];rfl,.inr (by rw[bp,qw.resolve_left hne];rfl)⟩;rw[aD (λz=>by rw[z,hL]at e;cases e)];exact t3 _ _ e
    ·exact⟨_,_,cs,z,rfl,t3,hl',by omega,hC,Aq,hhd,.inl (by simpa using h1)⟩
  ·rintro σ H2 ⟨v6,v7,cs,z,rfl,s2,hl,hcl,hC,Aq,hhd,qw⟩
   have hcl:cs.length<=24:=hcl;have hz:Cl.o_ (gA M.length (Ev.aN M)) z a (cs++[z]):=⟨hhd,by simp,λi hi=>uq.mpr ⟨hC.lt _ (Bl (by omega)),hC.lt _ (Bl hi),hC.st i hi⟩⟩;have UW:z=b:=by
    rcases qw with h|h
    ·exact h
    ·have h:cs.length=24:=h
     have h1:=JF (VH hM) hz ha;have h2:=Ez M.length (Ev.aN M) a;have h3:=hM.len;rw[bp,h]at h1;have h1:24+1<=_:=h1;omega
   rw[UW]at hz hl hC;exact⟨_,rfl,kk L (cs++[b]) H2 s2 hL hl (by rw[bp];show cs.length+1<=25;omega) hC hz⟩
end
theorem Ra(ns:List Int)(lo hi:Option Int):∃ms:List Int,bM (ns.map V.int) lo hi=ms.map V.int/\ms.length<=ns.length:=by
 unfold bM;refine⟨_,by rw[<- mV,<- List.map_take],?_⟩;rw[lK,i_];omega
theorem Wg{M:List Nat}(L:Ev.cz M){x:Nat}(hx:x∈M)(hmin:∀y∈M,x<=y):∀y∈M,Ev.Sub x y:=λy hy=>by
 have h1:=L.meet x hx y hy;have h2:=hmin _ h1;have h3:=(Ev.Sub.and_left x y).le;have e:x&&& y=x:=by omega
 exact e
theorem Ho{ds:List Int}{k:Nat}(h:k<=ds.length):bM (ds.map V.int) (some (k:Int)) none=(ds.drop k).map V.int:=by rw[yh,mV]
theorem q_{ι:Type}{t u:TS}{D:Ends}{σ:L2.St}{H:Hp}(C:ι->Hp->Prop)(sg:ι->L2.St)(main:∀D':Ends,D'.rt=D.rt->(∀i H',C i H'->D'.nx (sg i) H')->t D' σ H)(rest:∀i H',C i H'->u D (sg i) H'):jz t u D σ H:=
 main {D with nx:=u D} rfl rest
def dw(w n:Nat)(R:Nat->Nat->Bool)(zs ws:List Int):Bool:=if w=0 then bZ n R zs&&bZ n R ws else bF n R zs&&bF n R ws
def dE (w n:Nat) (R:Nat->Nat->Bool) (zs ws:List Int) (ev:Bool):Str:=if dw w n R zs ws then(if di zs ws then(if ev then "" else "NotEven")else "NoEnds")else(if w=0 then "NoClimb" else "NoChain")
section
variable {w n:Nat} {R:Nat->Nat->Bool} {zs ws:List Int} {ev:Bool}
theorem rE (h:dw w n R zs ws=true) (e:di zs ws=true):dE w n R zs ws ev=(if ev then("" : Str)else("NotEven" : Str)):=by unfold dE;rw[h,e];rfl
theorem vR (h:dw w n R zs ws=true) (e:di zs ws=false):dE w n R zs ws ev = "NoEnds" :=by unfold dE;rw[h,e];rfl
theorem Fd (h:dw w n R zs ws=false):dE w n R zs ws ev=(if w=0 then("NoClimb" : Str)else("NoChain" : Str)):=by unfold dE;rw[h];rfl
theorem good0(h:bZ n R zs=true)(h':bZ n R ws=true):dw 0 n R zs ws=true:=by unfold dw;rw[h,h'];rfl
theorem zY(h:bF n R zs=true)(h':bF n R ws=true):dw 1 n R zs ws=true:=by unfold dw;rw[h,h'];rfl
theorem Qq(h:¬ (bZ n R zs=true/\bZ n R ws=true)):dw 0 n R zs ws=false:=by
 unfold dw;rw[if_pos rfl];cases c1:bZ n R zs with
 |false=>rfl
 |true =>
  cases c2:bZ n R ws with
  |false=>rfl
  |true=>exact absurd ⟨c1,c2⟩ h
theorem Qr(h:¬ (bF n R zs=true/\bF n R ws=true)):dw 1 n R zs ws=false:=by
 unfold dw;rw[if_neg (by decide)];cases c1:bF n R zs with
 |false=>rfl
 |true =>
  cases c2:bF n R ws with
  |false=>rfl
  |true=>exact absurd ⟨c1,c2⟩ h
end
section
variable {P:Program} {w:World} {K:W.Frag} {mg:Str->Option Value} {base:Heap} {f:Addr} {fd:FuncData} {a0 a1 a2 a3 a4 a5 a6 a7 a8 a9 a10 a11 a12 a13 a14 aE:Addr}
abbrev Cg:Stmt:=top 79
theorem MK:aZ ["_law_way","_law_order_here","_law_one","_law_other","_law_kept","_law_found","_law_good","_law_e"] ["_law_way","_law_order_here","_law_one","_law_other"] (aA Cg):=⟨rfl,rfl,rfl,by decide +kernel,rfl,by decide +kernel,by decide +kernel⟩
def Dh(K:W.Frag)(C Pt:Addr):Sp:=λvs H Q _=>∃(w p n t u:Nat) (zs ws:List Int) (R:Nat->Nat->Bool) (ev:Bool),vs = [.int w,.ref p,.ref t,.ref u]/\w<2/\dH C H p n R/\Good n R/\n<=24/\H Pt=some (.lam kN kO)/\H t=some (.lst (zs.map V.int))/\H u=some (.lst (ws.map V.int))/\zs.length<=100/\ws.length<=100 /\
 (ev=true->∀a b c,a<n->b<n->c<n->¬ Un n R a b c)/\(ev=false->∃a b c,a<n/\b<n/\c<n/\Un n R a b c)/\∀H',Same H H'->Q (.str (dE w n R zs ws ev)) H'
theorem W7 {C Pt:Addr} (F:aR K "_law_asked" "_law_asked" Cg f fd) (T:Txt mg) (TC:eX K C) (Er:kg mg a0 a1 a2 a3 a4 a5 a6 a7 a8 a9 a10 a11 a12 a13 a14 aE) (qT:fL K a0 a1 a2 a3 a4 a5 a6 a7 a8 a9 a10 a11 a12 a13 a14 aE a0 0) (qU:fL K a0 a1 a2 a3 a4 a5 a6 a7 a8 a9 a10 a11 a12 a13 a14 aE a1 1) (oP:fL K a0 a1 a2 a3 a4 a5 a6 a7 a8 a9 a10 a11 a12 a13 a14 aE a3 3) (oQ:fL K a0 a1 a2 a3 a4 a5 a6 a7 a8 a9 a10 a11 a12 a13 a14 aE a14 14)
  (yl:eP P w K mg base "paired" ["order","one","other"] 8 (Ea K C a1 a3 a14 Pt)) (nX:eP P w K mg base "longer" ["order","one","other"] 7 (vE K C a0 a3 a14 Pt))
  (xE:aG P w K mg base "_law_class" ["_law_e"] 1 (Dk λC j=>fL K a0 a1 a2 a3 a4 a5 a6 a7 a8 a9 a10 a11 a12 a13 a14 aE C j)) :
  aL P w K mg base aX 9 f fd ["_law_way","_law_order_here","_law_one","_law_other"] (Dh K C Pt):=by
 refine F.ok MK (λvs H Q E h=>?_) (λcdv A outer s H vs Q E hr h=>?_)
 ·obtain⟨w,p,n,t,u,zs,ws,R,ev,rfl,_⟩:=h
  rfl
 ·obtain⟨w,p,n,t,u,zs,ws,R,ev,rfl,hw,hO,G,hn,hP,hT,hU,fV,hwl,hev,tX,kk⟩:=h
  have nd:=MK.nd;obtain⟨J,hJ⟩:=S7 G;obtain⟨N,hN⟩:=S8 G;obtain⟨XE,mj⟩:∃XE:XK,XE=λcls dx H'=>∃j:Nat,∃c:Addr,cls = .ref c/\Same H H'/\(dx=none\/∃d v,dx=some d/\H' d=some (.xd v))/\fL K a0 a1 a2 a3 a4 a5 a6 a7 a8 a9 a10 a11 a12 a13 a14 aE c j/\((j=0/\dE w n R zs ws ev = "NoChain")\/(j=1/\dE w n R zs ws ev = "NoClimb")\/(j=3/\dE w n R zs ws ev = "NoEnds")\/(j=14/\dE w n R zs ws ev = "NotEven")):=⟨_,rfl⟩
  have HS:∀{a b c},First n (Un n R) a b c->ev=false:=λ{a b c} f1=>by
   cases ev with
   |false=>rfl
   |true=>exact absurd f1.is (hev rfl a b c f1.la f1.lb f1.lc)
  have HW:(∀a b c,a<n->b<n->c<n->¬ Un n R a b c)->ev=true:=λno=>by
   cases ev with
   |true=>rfl
   |false =>
    obtain⟨a,b,c,ha,hb,hc,hun⟩:=tX rfl;exact absurd hun (no a b c ha hb hc)
  refine⟨_,(au (aJ (i:=4) nd rfl (Or.inl rfl) kR)
   (au (aJ (i:=5) nd rfl (Or.inl rfl) kR)
   (au (Y7 (i:=7) (XE:=XE) nd rfl rfl rfl Er.ClimbError rfl rfl rfl (λpins=>(ax (bz (bC cX (pv 0) ak (bj _)) (ax (aJ (i:=5) nd rfl (Or.inl rfl) (ju yl Li hr rfl (ae (pv 1) (ae (pv 2) (ae (pv 3) ag (av nofun)) (av nofun)) (av nofun))))) (ax (aJ (i:=5) nd rfl (Or.inl rfl) (ju nX Li hr rfl (ae (pv 1) (ae (pv 2) (ae (pv 3) ag (av nofun)) (av nofun)) (av nofun)))))))) (λe=>(ax (aJ (i:=4) nd rfl (Or.inl rfl) (pv 7)))))
   (au (bz (bC uF (pv 4) kR (bj _)) (au (aJ (i:=6) nd rfl (Or.inl rfl) (bx (sZ (K:=K) "list" rfl) rfl T.isinstance eE (ae (pv 5) (ae (qM (v:=.ty "list") rfl T.list sS rfl) ag))))
   (au (bz (bC cX (pv 0) ak (bj _)) (ax (aJ (i:=6) nd rfl (Or.inl rfl) (bx (sZ (K:=K) "tuple" rfl) rfl T.isinstance eE (ae (pv 5) (ae (qM (v:=.ty "tuple") rfl T.tuple kA rfl) ag))))) bH)
   (ax (aV (aq (aS (K:=K) rfl) (bG (ae iB (ae iB ag))) (gJ sY rfl T.int pS (ae (pv 6) ag)) (λ_ _=>rfl)))))) bH)
   (ax (aV (YK (aM xE hr rfl (ae (pv 4) ag))))))))),?_⟩
  refine⟨?_,λcls dx H' hx=>?_⟩
  ·match w,hw with
   |0,_ =>
    refine⟨_,rfl,rfl,_,rfl,eR ?_⟩;refine⟨_,rfl,_,rfl,_,rfl,p,t,u,n,R,J,N,zs,ws,rfl,hO,G,hn,hJ,hN,hP,ah.of hT,ah.of hU,by omega,by omega,λhno H1 s1=>by rw[mj];exact⟨1,a1,rfl,s1,.inl rfl,qU,.inr (.inl ⟨rfl,Fd (Qq hno)⟩)⟩,λc1 c2 ce H1 s1=>by rw[mj];exact⟨3,a3,rfl,s1,.inl rfl,oP,.inr (.inr (.inl ⟨rfl,vR (good0 c1 c2) ce⟩))⟩,
     λc1 c2 ce dx v fs a b c H1 s1 f1 f2 f3 f4=>by rw[mj];exact⟨14,a14,rfl,s1,.inr ⟨dx,_,rfl,f2⟩,oQ,.inr (.inr (.inr ⟨rfl,by rw[rE (good0 c1 c2) ce,HS f1];rfl⟩))⟩,λcs ds TW hc hd L us H1 e1 e2 s1 no hL q hp hpm=>?_⟩
    refine⟨_,rfl,rfl,_,rfl,eR ?_⟩;refine⟨_,rfl,_,_,_,rfl,.lst q,rfl,?_⟩;refine⟨_,rfl,rfl,_,rfl,cG ?_⟩;refine⟨by show 2<=sizeLine;decide,λl hl=>?_⟩;have sl:=Same.put (o:=.lst [.str "other", .str ""]) hl;refine⟨_,rfl,.inr ⟨true,rfl,l,_,1,.str "", rfl,rfl,ah.of ao,aH (j:=1) rfl,?_⟩⟩;have fin:=kk _ (s1.trans sl);subst e1 e2;have g0:dw 0 n R (cs.map λx:Nat=>(x:Int)) (ds.map λx:Nat=>(x:Int))=true:=good0 (TW.c.Hi hc) (TW.d.Hi hd);rw[rE g0 (HD TW.first TW.last),HW no]at fin;exact fin
   |1,_ =>
    refine⟨_,rfl,rfl,_,rfl,cG ?_⟩;refine⟨_,rfl,_,rfl,_,rfl,p,t,u,n,R,J,N,zs,ws,rfl,hO,G,hn,hJ,hN,hP,ah.of hT,ah.of hU,by omega,by omega,λhno H1 s1=>by rw[mj];exact⟨0,a0,rfl,s1,.inl rfl,qT,.inl ⟨rfl,Fd (Qr hno)⟩⟩,λc1 c2 ce H1 s1=>by rw[mj];exact⟨3,a3,rfl,s1,.inl rfl,oP,.inr (.inr (.inl ⟨rfl,vR (zY c1 c2) ce⟩))⟩,
     λc1 c2 ce dx v fs a b c H1 s1 f1 f2 f3 f4=>by rw[mj];exact⟨14,a14,rfl,s1,.inr ⟨dx,_,rfl,f2⟩,oQ,.inr (.inr (.inr ⟨rfl,by rw[rE (zY c1 c2) ce,HS f1];rfl⟩))⟩,λcs ds TW tt L1 L2 L3 us H1 e1 e2 s1 no tS hfr g1 g2 g3 hp hpm=>?_⟩
    refine⟨_,rfl,rfl,_,rfl,eR ?_⟩;refine⟨_,rfl,_,_,_,rfl,.tup tS,rfl,?_⟩;refine⟨_,rfl,rfl,_,rfl,eR ⟨_,rfl,_,_,_,rfl,.tup tS,rfl,?_⟩⟩;refine⟨by show 2<=sizeLine;decide,λl hl=>?_⟩;have sl:=Same.put (o:=.lst [.str "other", .str ""]) hl;refine⟨_,rfl,.inr ⟨true,rfl,l,_,1,.str "", rfl,rfl,ah.of ao,aH (j:=1) rfl,?_⟩⟩;have fin:=kk _ (s1.trans sl);subst e1 e2;have g0:dw 1 n R (cs.map λx:Nat=>(x:Int)) (ds.map λx:Nat=>(x:Int))=true:=zY TW.c.bF TW.d.bF;rw[rE g0 (HD TW.first TW.last),HW no]at fin;exact fin
  ·rw[mj]at hx
   obtain⟨j,c,rfl,s1,hdx,hr',hj⟩:=hx;refine⟨c,rfl,hr'.RT,λee he=>⟨_,rfl,?_⟩⟩;have se:=Same.put (o:=lE ee c dx) he;refine⟨_,rfl,rfl,_,rfl,cG ⟨_,rfl,ee,c,j,rfl,⟨dx,ao,λa q=>?_⟩,hr',by omega,λH3 s3=>?_⟩⟩
   ·rcases hdx with e|⟨d,v,e,g⟩
    ·rw[e]at q;cases q
    ·rw[e]at q;cases q;exact⟨_,se _ _ g⟩
   have fin:=kk _ ((s1.trans se).trans s3)
   rcases hj with⟨rfl,hj⟩|⟨rfl,hj⟩|⟨rfl,hj⟩|⟨rfl,hj⟩
   ·rw[hj]at fin
    exact⟨_,rfl,by decide,by decide,fin⟩
   ·rw[hj]at fin
    exact⟨_,rfl,by decide,by decide,fin⟩
   ·rw[hj]at fin
    exact⟨_,rfl,by decide,by decide,fin⟩
   ·rw[hj]at fin
    exact⟨_,rfl,by decide,by decide,fin⟩
abbrev Cp:Stmt:=top 80
theorem M9:aZ ["_law_order_here","_law_one","_law_other","_law_even","_law_found","_law_way","_law_good"] ["_law_order_here","_law_one","_law_other","_law_even"] (aA Cp):=⟨rfl,rfl,rfl,by decide +kernel,rfl,by decide +kernel,by decide +kernel⟩
def Dp(K:W.Frag)(C:Addr):Sp:=λvs H Q _=>∃(p n t u:Nat) (zs ws:List Int) (R:Nat->Nat->Bool) (ev:Bool),vs = [.ref p,.ref t,.ref u,.bl ev]/\dH C H p n R/\n<=24/\H t=some (.lst (zs.map V.int))/\H u=some (.lst (ws.map V.int))/\zs.length<=100/\ws.length<=100 /\
 ∀L H',Same H H'->H' L=some (.lst [.str (dE 0 n R zs ws ev),.str (dE 1 n R zs ws ev)])->Q (.ref L) H'
theorem Xe {C:Addr} (F:aR K "_law_due" "_law_due" Cp f fd) (T:Txt mg) (iO:aG P w K mg base "is_chain" ["order","things"] 3 (rn K C)) (lT:aG P w K mg base "is_climb" ["order","things"] 4 (vy K C)) :
  aL P w K mg base aX 5 f fd ["_law_order_here","_law_one","_law_other","_law_even"] (Dp K C):=by
 refine F.ok M9 (λvs H Q E h=>?_) (λcdv A outer s H vs Q E hr h=>?_)
 ·obtain⟨p,n,t,u,zs,ws,R,ev,rfl,_⟩:=h
  rfl
 ·obtain⟨p,n,t,u,zs,ws,R,ev,rfl,hO,hn,hT,hU,fV,hwl,kk⟩:=h
  have nd:=M9.nd;refine⟨_,(au (aJ (i:=4) nd rfl (Or.inl rfl) (bG ag))
   (au (cI cA rfl (df rfl T.range (ae ak ag)) (a_ (i:=5) nd rfl (Or.inl rfl))
   (au (aJ (i:=6) nd rfl (Or.inl rfl) (mB (aM iO hr rfl (ae (pv 0) (ae (pv 1) ag))) (kT (aM iO hr rfl (ae (pv 0) (ae (pv 2) ag))))))
   (au (bz (bC cX (pv 5) ak (bj _)) (ax (aJ (i:=6) nd rfl (Or.inl rfl) (mB (aM lT hr rfl (ae (pv 0) (ae (pv 1) ag))) (kT (aM lT hr rfl (ae (pv 0) (ae (pv 2) ag))))))) bH)
   (ax (bz (iD (dY (pv 6))) (ax (cw (dJ (K:=K) rfl dU gF gS gw (pv 4) (ae (aq (aS (K:=K) rfl) (bG (ae iB (ae iB ag))) (pv 5) (λ_ _=>rfl)) ag)))) (ax (bz (PW.pt (mD (bC iA (aq (aS (K:=K) rfl) (pv 1) ak (λ_ _=>rfl)) (aq (aS (K:=K) rfl) (pv 2) ak (λ_ _=>rfl)) (bj _)) (oN (bC iA (aq (aS (K:=K) rfl) (pv 1) (iC iF ak) (λ_ _=>rfl)) (aq (aS (K:=K) rfl) (pv 2) (iC iF ak) (λ_ _=>rfl)) (bj _))))) (ax (cw (dJ (K:=K) rfl dU gF gS gw (pv 4) (ae iB ag)))) (ax (cw (dJ (K:=K) rfl dU gF gS gw (pv 4) (ae (aq (aS (K:=K) rfl) (bG (ae iB (ae iB ag))) (gJ sY rfl T.int pS (ae (pv 3) ag)) (λ_ _=>rfl)) ag)))))))))))
   (ax (aV (pv 4))))),?_⟩
  refine⟨by show 0<=sizeLine;decide,λL hL=>?_⟩;dsimp only[cD];refine⟨2,rfl,by decide,by decide,fP (lo:=0) (n:=(2:Int).toNat) (λi σ H2=>∃(v5 v6:Option V),σ = [some (.ref p),some (.ref t),some (.ref u),some (.bl ev),some (.ref L),v5,v6]/\Same H H2/\H2 L=some (.lst ((List.range i).map λw=>V.str (dE w n R zs ws ev))))
   ⟨none,none,rfl,Same.put hL,ao⟩ ?_ ?_⟩
  ·rintro i σ H2 hi ⟨v5,v6,rfl,s2,gL⟩
   have hi:i<2:=hi;dsimp only[cD];refine q_ (ι:=Bool) (λg H'=>Same H2 H'/\g=(bF n R zs&&bF n R ws)) (λg=>[some (.ref p),some (.ref t),some (.ref u),some (.bl ev),some (.ref L),some (.int (0+(i:Int))),some (.bl g)]) (λD' tZ hD'=>?_) ?_
   ·refine⟨_,rfl,_,rfl,p,t,n,R,zs,rfl,hO.dD s2,hn,ah.of (s2 _ _ hT),by omega,λH3 s3=>⟨_,rfl,?_⟩⟩
    cases c1:bF n R zs with
    |false=>exact cG (hD' false H3 ⟨s3,by rw[c1];rfl⟩)
    |true=>exact eR ⟨_,rfl,_,rfl,p,u,n,R,ws,rfl,hO.dD (s2.trans s3),hn,ah.of (s3 _ _ (s2 _ _ hU)),by omega,λH4 s4=>hD' (bF n R ws) H4 ⟨s3.trans s4,by rw[c1];rfl⟩⟩
   rintro g H3 ⟨s3,eg⟩;have t3:=s2.trans s3;refine q_ (ι:=Bool) (λg H'=>Same H2 H'/\g=dw i n R zs ws) (λg=>[some (.ref p),some (.ref t),some (.ref u),some (.bl ev),some (.ref L),some (.int (0+(i:Int))),some (.bl g)]) (λD' tZ hD'=>?_) ?_
   ·refine⟨_,rfl,rfl,_,rfl,bB (λh=>?_) (λh=>?_)⟩
    ·have i0:i=0:=by
      have h:=uB h;injection h with h
      omega
     subst i0;refine⟨_,rfl,_,rfl,p,t,n,R,zs,rfl,hO.dD t3,hn,ah.of (t3 _ _ hT),by omega,λH4 s4=>⟨_,rfl,?_⟩⟩;have lg:=s3.trans s4;cases c1:bZ n R zs with
     |false=>exact cG (hD' false H4 ⟨lg,by unfold dw;rw[if_pos rfl,c1];rfl⟩)
     |true=>exact eR ⟨_,rfl,_,rfl,p,u,n,R,ws,rfl,hO.dD (s2.trans lg),hn,ah.of (lg _ _ (s2 _ _ hU)),by omega,λH5 s5=>hD' (bZ n R ws) H5 ⟨lg.trans s5,by unfold dw;rw[if_pos rfl,c1];rfl⟩⟩
    ·have i0:i≠0:=λz=>h (by rw[z];rfl)
     exact hD' g H3 ⟨s3,by rw[eg];unfold dw;rw[if_neg i0]⟩
   rintro g H4 ⟨s4,rfl⟩;have t4:=s2.trans s4;have iu:=s4 _ _ gL;have IV:=t4 _ _ hT;have I0:=t4 _ _ hU;have fin:∀(x:Str) (H5:Hp),Same H4 H5->x=dE i n R zs ws ev->∃(v5 v6:Option V),[some (.ref p),some (.ref t),some (.ref u),some (.bl ev),some (.ref L),some (.int (0+(i:Int))),some (V.bl (dw i n R zs ws))] = [some (.ref p),some (.ref t),some (.ref u),some (.bl ev),some (.ref L),v5,v6]/\Same H (upd H5 L (.lst (((List.range i).map λw=>V.str (dE w n R zs ws ev))++[.str x])))/\(upd H5 L (.lst (((List.range i).map λw=>V.str (dE w n R zs ws ev))++[.str x]))) L=some (.lst ((List.range (i+1)).map λw=>V.str (dE w n R zs ws ev))):=λx H5 s5 e=>by
    refine⟨_,_,rfl,λb o eb=>by rw[aD (cV eb hL)];exact s5 _ _ (t4 _ _ eb),?_⟩;rw[ao,e,ja,eh];rfl
   have sz:(((List.range i).map λw=>V.str (dE w n R zs ws ev))).length<sizeLine:=cS (by rw[az,iH];omega);have S6:dw i n R zs ws=true->zs≠[]/\ws≠[]:=λh=>by
    unfold dw at h
    split at h
    ·rw[bD]at h
     exact⟨tD h.1,tD h.2⟩
    ·rw[bD]at h
     exact⟨tj h.1,tj h.2⟩
   refine⟨_,rfl,dw i n R zs ws,rfl,?_⟩;cases hg:dw i n R zs ws with
   |false =>
    refine eR ⟨_,rfl,.inl ⟨rfl,_,ah.of iu⟩,by show 2<=sizeLine;decide,λl hl=>?_⟩;have sl:=Same.put (o:=.lst [.str "NoClimb", .str "NoChain"]) hl;have at_:[V.str "NoClimb", .str "NoChain"][i]? = some (.str (if i=0 then("NoClimb" : Str)else("NoChain" : Str))):=by
     match i,hi with
     |0,_=>rfl
     |1,_=>rfl
    refine⟨_,rfl,l,_,_,_,rfl,rfl,ah.of ao,at0 at_,L,_,_,rfl,rfl,sl _ _ iu,sz,?_⟩;have:=fin _ _ sl (Fd (ev:=ev) hg).symm;rw[hg]at this;exact this
   |true =>
    obtain⟨n1,n2⟩:=S6 hg;rw[hg]at fin;refine cG ⟨_,rfl,t,_,0,.int (zs.getD 0 0),rfl,rfl,ah.of IV,tJ n1,_,rfl,u,_,0,.int (ws.getD 0 0),rfl,rfl,ah.of I0,tJ n2,rfl,_,rfl,bB (λh=>?_) (λh=>?_)⟩
    ·have hne:¬ zs.getD 0 0=ws.getD 0 0:=λe=>by rw[e]at h;simp at h
     exact⟨_,rfl,.inl ⟨rfl,_,ah.of iu⟩,L,_,.str "NoEnds", rfl,rfl,iu,sz,fin _ _ (Same.refl _) (vR hg (by unfold di;rw[bU hne];rfl)).symm⟩
    ·have heq:zs.getD 0 0=ws.getD 0 0:=by
      apply kf
      intro z;apply h
      simp only[eN,fB];intro w;injection w with w
      exact z w
     refine⟨_,rfl,1,rfl,t,_,_,.int (zs.getD (zs.length - 1) 0),rfl,rfl,ah.of IV,uj n1,_,rfl,1,rfl,u,_,_,.int (ws.getD (ws.length - 1) 0),rfl,rfl,ah.of I0,uj n2,rfl,_,rfl,bB (λh=>?_) (λh=>?_)⟩
     ·have hne:¬ zs.getD (zs.length - 1) 0=ws.getD (ws.length - 1) 0:=λe=>by rw[e]at h;simp at h
      exact⟨_,rfl,.inl ⟨rfl,_,ah.of iu⟩,L,_,.str "NoEnds", rfl,rfl,iu,sz,fin _ _ (Same.refl _) (vR hg (by unfold di;rw[bU hne,wa])).symm⟩
     ·have hle:zs.getD (zs.length - 1) 0=ws.getD (ws.length - 1) 0:=by
       apply kf
       intro z;apply h
       simp only[eN,fB];intro w;injection w with w
       exact z w
      have ee:di zs ws=true:=by unfold di;rw[cB heq,cB hle];rfl
      refine⟨_,rfl,.inl ⟨rfl,_,ah.of iu⟩,by show 2<=sizeLine;decide,λl hl=>?_⟩;have sl:=Same.put (o:=.lst [.str "NotEven", .str ""]) hl;refine⟨_,rfl,.inr ⟨ev,rfl,l,_,_,.str (if ev then("" : Str)else("NotEven" : Str)),rfl,rfl,ah.of ao,?_,L,_,_,rfl,rfl,sl _ _ iu,sz,?_⟩⟩
      ·cases ev with
       |true=>exact aH (j:=1) rfl
       |false=>exact aH (j:=0) rfl
      ·exact fin _ _ sl (rE hg ee).symm
  ·rintro σ H2 ⟨v5,v6,rfl,s2,gL⟩
   exact⟨_,rfl,kk L H2 s2 gL⟩
end
theorem gB{A B:Prop}{x y:Int}(h:x≠y)(hb:B):if decide (V.int x=V.int y)=true then A else B:=by
 rw[if_neg (λz=>h (by rw[fO]at z;injection z))];exact hb
theorem rC{A B:Prop}{x y:Int}(h:x=y)(ha:A):if decide (V.int x=V.int y)=true then A else B:=by
 rw[if_pos (by rw[h];exact cB rfl)];exact ha
theorem Q_(ns:List Int)(lo hi:Option Int):∃ms:List Int,bM (ns.map V.int) lo hi=ms.map V.int/\ms.length<=ns.length:=by
 unfold bM;refine⟨_,by rw[<- mV,<- List.map_take],?_⟩;rw[lK,i_];omega
theorem ints_app(a b:List Int):a.map V.int++b.map V.int=(a++b).map V.int:=by rw[eh]
theorem ints4{ds:List Int}(h:4<=ds.length):∃a b c d r,ds=a::b::c::d::r:=by
 match ds,h with
 |a::b::c::d::r,_=>exact⟨_,_,_,_,_,rfl⟩
section
variable {P:Program} {w:World} {K:W.Frag} {mg:Str->Option Value} {base:Heap} {f:Addr} {fd:FuncData}
abbrev Cj:Stmt:=top 78
theorem MP:aZ ["_law_things","_law_draws_here","_law_count","_law_at","_law_far","_law_way"] ["_law_things","_law_draws_here","_law_count"] (aA Cj):=⟨rfl,rfl,rfl,by decide +kernel,rfl,by decide +kernel,by decide +kernel⟩
def Di(K:W.Frag):Sp:=λvs H Q _=>∃(t d:Nat) (n:Nat) (zs ds:List Int),vs = [.ref t,.ref d,.int n]/\H t=some (.lst (zs.map V.int))/\0<zs.length/\zs.length<=25/\ah K H d (ds.map V.int)/\4<=ds.length/\Small ds/\0<n /\
 ∀(L:Addr) (ws:List Int) (H':Hp),Same H H'->(L=t\/H L=none)->H' L=some (.lst (ws.map V.int))->ws.length<=80->Q (.ref L) H'
theorem W9 (F:aR K "_law_bent" "_law_bent" Cj f fd) (T:Txt mg):aL P w K mg base aX 1 f fd ["_law_things","_law_draws_here","_law_count"] (Di K):=by
 refine F.ok MP (λvs H Q E h=>?_) (λcdv A outer s H vs Q E hr h=>?_)
 ·obtain⟨t,d,n,zs,ds,rfl,_⟩:=h
  rfl
 ·obtain⟨t,d,n,zs,ds,rfl,hT0,hz0,abK,hd,hdl,hsm,hn,kk⟩:=h
  have nd:=MP.nd;obtain⟨d4,d5,d6,d7,dr,rfl⟩:=ints4 hdl;have hT:=ah.of (K:=K) hT0;have s5:=hsm d5 (by simp);obtain⟨at',hat,Ru⟩:=kF d4 zs.length hz0;obtain⟨wy,hwy,yv⟩:=kF d6 9 (by decide);have yv:d6 % 9=(wy:Int):=yv;have p1:((at':Int)+1)=((at'+1:Nat):Int):=by omega
  refine⟨_,(au (aJ (i:=3) nd rfl (Or.inl rfl) (ay bW (aq (aS (K:=K) rfl) (pv 1) ak (λ_ _=>rfl)) (bx (fh (K:=K) rfl) rfl T.len fz (ae (pv 0) ag))))
   (au (aJ (i:=4) nd rfl (Or.inl rfl) (ay kP (aq (aS (K:=K) rfl) (pv 1) ak (λ_ _=>rfl)) (ay K9 ak ak)))
   (au (aJ (i:=5) nd rfl (Or.inl rfl) (ay bW (aq (aS (K:=K) rfl) (pv 1) ak (λ_ _=>rfl)) ak))
   (au (bz (bC cX (pv 5) ak (bj _)) (ax (aV (ay dk (cY (cZ (K:=K) rfl) (pv 0) dC (cH (pv 3))) (cY (cZ (K:=K) rfl) (pv 0) (cH (ay bV (pv 3) ak)) dC)))) bH)
   (au (bz (bC cX (pv 5) ak (bj _)) (ax (aV (ay dk (ay dk (cY (cZ (K:=K) rfl) (pv 0) dC (cH (pv 3))) (cY (cZ (K:=K) rfl) (pv 0) (cH (pv 3)) (cH (ay bV (pv 3) ak)))) (cY (cZ (K:=K) rfl) (pv 0) (cH (pv 3)) dC)))) bH)
   (au (bz (bC cX (pv 5) ak (bj _)) (ax (aV (ay dk (ay dk (cY (cZ (K:=K) rfl) (pv 0) dC (cH (pv 3))) (bG (ae (ay bW (aq (aS (K:=K) rfl) (pv 1) ak (λ_ _=>rfl)) (pv 2)) ag))) (cY (cZ (K:=K) rfl) (pv 0) (cH (ay bV (pv 3) ak)) dC)))) bH)
   (au (bz (bC cX (pv 5) ak (bj _)) (ax (aV (ay dk (ay dk (cY (cZ (K:=K) rfl) (pv 0) dC (cH (pv 3))) (bG (ae (aq (aS (K:=K) rfl) (bG (ae (iC iF ak) (ae (pv 2) (ae (ay Bs (iC iF ak) (pv 4)) (ae (ay bV (pv 2) (pv 4)) ag (av nofun)) (av nofun)) (av nofun)) (av nofun))) (ay bW (aq (aS (K:=K) rfl) (pv 1) ak (λ_ _=>rfl)) ak) (λ_ _=>rfl)) ag))) (cY (cZ (K:=K) rfl) (pv 0) (cH (ay bV (pv 3) ak)) dC)))) bH)
   (au (bz (bC cX (pv 5) ak (bj _)) (ax (aV (bG ag))) bH)
   (ax (aV (pv 0))))))))))),?_⟩
  refine⟨_,rfl,d,_,0,.int d4,rfl,rfl,hd,aH (j:=0) rfl,_,rfl,t,_,rfl,.inl hT,_,_,rfl,rfl,by show(0:Int)<((zs.map V.int).length:Int);rw[az];omega,?_⟩;refine⟨_,rfl,d,_,1,.int d5,rfl,rfl,hd,aH (j:=1) rfl,_,_,rfl,rfl,⟨by decide,by decide,by decide⟩,_,_,rfl,rfl,.inl ⟨by omega,by omega⟩,?_⟩;refine⟨_,rfl,d,_,2,.int d6,rfl,rfl,hd,aH (j:=2) rfl,_,_,rfl,rfl,by show(0:Int)<9;decide,?_⟩;dsimp only;rw[az,Ru,yv];generalize abF:d5 * 10 ^ (30:Int).toNat=far;show jz _ _ _ [some (.ref t),some (.ref d),some (.int (n:Int)),some (.int (at':Int)),some (.int far),some (.int (wy:Int))] _;have cut:∀lo hi,∃ms:List Int,bM (zs.map V.int) lo hi=ms.map V.int/\ms.length<=25:=λlo hi=>by
   obtain⟨ms,e,h⟩:=Q_ zs lo hi;exact⟨ms,e,by omega⟩
  rcases(show wy=0\/wy=1\/wy=2\/wy=3\/wy=4\/(wy≠0/\wy≠1/\wy≠2/\wy≠3/\wy≠4)by omega)with e|e|e|e|e|e
  ·refine⟨_,rfl,rfl,_,rfl,rC (by omega) ?_⟩
   refine⟨_,rfl,_,rfl,_,rfl,t,_,rfl,hT,λq1 hq1=>?_⟩;refine⟨_,rfl,_,rfl,_,_,rfl,rfl,_,rfl,t,_,rfl,(Same.put hq1).seq hT,λq2 hq2=>?_⟩;obtain⟨m1,e1,l1⟩:=cut none (some (at':Int));obtain⟨m2,e2,l2⟩:=cut (some ((at':Int)+1)) none;rw[e1]at hq2 ⊢;rw[e2];refine⟨q1,q2,_,_,rfl,rfl,Same.put hq2 _ _ ao,ao,by rw[az,az];exact dh (jy (by omega)),λq3 iT=>?_⟩;rw[ints_app];exact kk q3 (m1++m2) _ (((Same.put hq1).trans (Same.put hq2)).trans (Same.put iT)) (.inr (((Same.put hq1).trans (Same.put hq2)).free iT)) ao (by rw[bp];omega)
  ·refine⟨_,rfl,rfl,_,rfl,gB (by omega) ⟨_,rfl,rfl,_,rfl,rC (by omega) ?_⟩⟩
   refine⟨_,rfl,_,rfl,_,rfl,t,_,rfl,hT,λq1 hq1=>?_⟩;refine⟨_,rfl,_,rfl,_,rfl,_,rfl,_,_,rfl,rfl,_,rfl,t,_,rfl,(Same.put hq1).seq hT,λq2 hq2=>?_⟩;obtain⟨m1,e1,l1⟩:=cut none (some (at':Int));obtain⟨m2,e2,l2⟩:=cut (some (at':Int)) (some ((at':Int)+1));obtain⟨m3,e3,l3⟩:=cut (some (at':Int)) none;rw[e1]at hq2 ⊢;rw[e2];refine⟨q1,q2,_,_,rfl,rfl,Same.put hq2 _ _ ao,ao,by rw[az,az];exact dh (jy (by omega)),λq3 iT=>?_⟩;rw[ints_app];have t3:Same H (upd (upd (upd H q1 (.lst (m1.map V.int))) q2 (.lst (m2.map V.int))) q3 (.lst ((m1++m2).map V.int))):=((Same.put hq1).trans (Same.put hq2)).trans (Same.put iT);refine⟨_,rfl,_,rfl,_,rfl,t,_,rfl,t3.seq hT,λq4 fU=>?_⟩;rw[e3];refine⟨q3,q4,_,_,rfl,rfl,Same.put fU _ _ ao,ao,by rw[az,az,bp];exact dh (jy (by omega)),λq5 kI=>?_⟩;rw[ints_app];exact kk q5 (m1++m2++m3) _ ((t3.trans (Same.put fU)).trans (Same.put kI)) (.inr ((t3.trans (Same.put fU)).free kI)) ao (by rw[bp,bp];omega)
  ·refine⟨_,rfl,rfl,_,rfl,gB (by omega) ⟨_,rfl,rfl,_,rfl,gB (by omega) ⟨_,rfl,rfl,_,rfl,rC (by omega) ?_⟩⟩⟩
   refine⟨_,rfl,_,rfl,_,rfl,t,_,rfl,hT,λq1 hq1=>?_⟩;obtain⟨m1,e1,l1⟩:=cut none (some (at':Int));obtain⟨m3,e3,l3⟩:=cut (some ((at':Int)+1)) none;rw[e1];refine⟨_,rfl,d,_,3,.int d7,rfl,rfl,(Same.put hq1).seq hd,aH (j:=3) rfl,_,rfl,_,_,rfl,rfl,by show(0:Int)<(n:Int);omega,by show 1<=sizeLine;decide,λq2 hq2=>?_⟩;refine⟨q1,q2,_,_,rfl,rfl,Same.put hq2 _ _ ao,ao,by rw[az];exact dh (jy (by show m1.length+1<=1000;omega)),λq3 iT=>?_⟩;have t3:Same H (upd (upd (upd H q1 (.lst (m1.map V.int))) q2 (.lst [.int (d7 % (n:Int))])) q3 (.lst (m1.map V.int++[.int (d7 % (n:Int))]))):=((Same.put hq1).trans (Same.put hq2)).trans (Same.put iT);refine⟨_,rfl,_,rfl,_,_,rfl,rfl,_,rfl,t,_,rfl,t3.seq hT,λq4 fU=>?_⟩;rw[e3];refine⟨q3,q4,_,_,rfl,rfl,Same.put fU _ _ ao,ao,by rw[bp,az,az];exact dh (jy (by show m1.length+1+m3.length<=1000;omega)),λq5 kI=>?_⟩;exact kk q5 (m1++[d7 % (n:Int)]++m3) _ ((t3.trans (Same.put fU)).trans (Same.put kI)) (.inr ((t3.trans (Same.put fU)).free kI)) (by rw[ao,eh,eh];rfl) (by rw[bp,bp];show m1.length+1+m3.length<=80;omega)
  ·refine⟨_,rfl,rfl,_,rfl,gB (by omega) ⟨_,rfl,rfl,_,rfl,gB (by omega) ⟨_,rfl,rfl,_,rfl,gB (by omega) ⟨_,rfl,rfl,_,rfl,rC (by omega) ?_⟩⟩⟩⟩
   refine⟨_,rfl,_,rfl,_,rfl,t,_,rfl,hT,λq1 hq1=>?_⟩;obtain⟨m1,e1,l1⟩:=cut none (some (at':Int));obtain⟨m3,e3,l3⟩:=cut (some ((at':Int)+1)) none;rw[e1];refine⟨_,rfl,_,rfl,_,rfl,_,rfl,_,_,rfl,rfl,_,rfl,_,rfl,_,_,rfl,rfl,by show 4<=sizeLine;decide,λqa Jk=>?_⟩;have ta:Same H (upd (upd H q1 (.lst (m1.map V.int))) qa (.lst [.int (-1),.int (n:Int),.int (-1 - far),.int ((n:Int)+far)])):=(Same.put hq1).trans (Same.put Jk);obtain⟨z,ez⟩:∃z,eQ ([V.int (-1),V.int (n:Int),V.int (-1 - far),V.int ((n:Int)+far)]:List V) (d7 % 4)=some (.int z):=by
    obtain⟨r4,h4,e4⟩:=kF d7 4 (by decide);have e4:d7 % 4=(r4:Int):=e4;rw[e4]
    match r4,h4 with
    |0,_=>exact⟨_,aH (j:=0) rfl⟩
    |1,_=>exact⟨_,aH (j:=1) rfl⟩
    |2,_=>exact⟨_,aH (j:=2) rfl⟩
    |3,_=>exact⟨_,aH (j:=3) rfl⟩
   refine⟨_,rfl,d,_,3,.int d7,rfl,rfl,ta.seq hd,aH (j:=3) rfl,_,_,rfl,rfl,by show(0:Int)<4;decide,qa,_,_,.int z,rfl,rfl,ah.of ao,ez,by show 1<=sizeLine;decide,λq2 hq2=>?_⟩;refine⟨q1,q2,_,_,rfl,rfl,Same.put hq2 _ _ (Same.put Jk _ _ ao),ao,by rw[az];exact dh (jy (by show m1.length+1<=1000;omega)),λq3 iT=>?_⟩;have t3:Same H (upd (upd (upd (upd H q1 (.lst (m1.map V.int))) qa (.lst [.int (-1),.int (n:Int),.int (-1 - far),.int ((n:Int)+far)])) q2 (.lst [.int z])) q3 (.lst (m1.map V.int++[.int z]))):=(ta.trans (Same.put hq2)).trans (Same.put iT);refine⟨_,rfl,_,rfl,_,_,rfl,rfl,_,rfl,t,_,rfl,t3.seq hT,λq4 fU=>?_⟩;rw[e3];refine⟨q3,q4,_,_,rfl,rfl,Same.put fU _ _ ao,ao,by rw[bp,az,az];exact dh (jy (by show m1.length+1+m3.length<=1000;omega)),λq5 kI=>?_⟩;exact kk q5 (m1++[z]++m3) _ ((t3.trans (Same.put fU)).trans (Same.put kI)) (.inr ((t3.trans (Same.put fU)).free kI)) (by rw[ao,eh,eh];rfl) (by rw[bp,bp];show m1.length+1+m3.length<=80;omega)
  ·refine⟨_,rfl,rfl,_,rfl,gB (by omega) ⟨_,rfl,rfl,_,rfl,gB (by omega) ⟨_,rfl,rfl,_,rfl,gB (by omega) ⟨_,rfl,rfl,_,rfl,gB (by omega) ⟨_,rfl,rfl,_,rfl,rC (by omega) ?_⟩⟩⟩⟩⟩
   exact⟨by show 0<=sizeLine;decide,λq1 hq1=>kk q1 [] _ (Same.put hq1) (.inr hq1) ao (by decide)⟩
  ·refine⟨_,rfl,rfl,_,rfl,gB (by omega) ⟨_,rfl,rfl,_,rfl,gB (by omega) ⟨_,rfl,rfl,_,rfl,gB (by omega) ⟨_,rfl,rfl,_,rfl,gB (by omega) ⟨_,rfl,rfl,_,rfl,gB (by omega) ⟨_,rfl,?_⟩⟩⟩⟩⟩⟩
   exact kk t zs H (Same.refl _) (.inl rfl) hT0 (by omega)
end
theorem Q9(x y:Nat)(mid:List Nat):bM ((x::(mid++[y])).map nV) (some 1) (some (-1))=mid.map nV/\bM ((x::(mid++[y])).map nV) none (some 1) = [nV x]/\bM ((x::(mid++[y])).map nV) (some 1) none=(mid++[y]).map nV/\bM ((mid++[y]).map nV) (some (-1)) none = [nV y]:=by
 have l1:((x::(mid++[y])).map nV).length=mid.length+2:=by simp
 have l2:((mid++[y]).map nV).length=mid.length+1:=by simp
 have i1:HT.dO (mid.length+2) 0 (some 1)=1:=by
  show(if(1:Int)<0 then((1:Int)+((mid.length+2:Nat):Int)).toNat else min (1:Int).toNat (mid.length+2))=1;rw[if_neg (by decide)];show min 1 (mid.length+2)=1;omega
 have U0:HT.dO (mid.length+2) (mid.length+2) (some 1)=1:=i1;have i2:HT.dO (mid.length+2) (mid.length+2) (some (-1))=mid.length+1:=by
  show(if(-1:Int)<0 then((-1:Int)+((mid.length+2:Nat):Int)).toNat else min (-1:Int).toNat (mid.length+2))=mid.length+1;rw[if_pos (by decide)];omega
 have i3:HT.dO (mid.length+1) 0 (some (-1))=mid.length:=by
  show(if(-1:Int)<0 then((-1:Int)+((mid.length+1:Nat):Int)).toNat else min (-1:Int).toNat (mid.length+1))=mid.length;rw[if_pos (by decide)];omega
 refine⟨?_,?_,?_,?_⟩
 ·unfold bM
  rw[l1,i1,i2,cL,List.drop_succ_cons,rT,eh];have e:mid.length+1 - 1=(mid.map nV).length:=by rw[az];omega
  rw[e,List.take_left]
 ·unfold bM
  rw[l1,U0];show((x::(mid++[y])).map nV).take 1 = [nV x];rfl
 ·unfold bM
  rw[l1,i1];show(((x::(mid++[y])).map nV).drop 1).take (mid.length+2 - 1)=_;rw[cL,List.drop_succ_cons,rT];exact mW (by rw[l2];omega)
 ·unfold bM
  rw[l2,i3];show(((mid++[y]).map nV).drop mid.length).take (mid.length+1 - mid.length)=_;rw[eh];have e:mid.length=(mid.map nV).length:=by rw[az]
  conv=>lhs;rw[show mid.length+1 - mid.length=1 by omega,e]
  rw[List.drop_left];rfl
theorem Rb(x:Nat):bM ([x].map nV) (some 1) (some (-1))=([]:List Nat).map nV/\bM ([x].map nV) none (some 1) = [nV x]/\bM ([x].map nV) (some 1) none=([]:List Nat).map nV/\bM (([]:List Nat).map nV) (some (-1)) none = []:=⟨rfl,rfl,rfl,rfl⟩
section
variable {P:Program} {w:World} {K:W.Frag} {mg:Str->Option Value} {base:Heap} {f:Addr} {fd:FuncData}
abbrev vg:Stmt:=top 81
theorem Nn:aZ ["_law_known","_law_masks","_law_draws_here","_law_found","_law_k","_law_a","_law_b","_law_climb_here","_law_some"] ["_law_known","_law_masks","_law_draws_here"] (aA vg):=⟨rfl,rfl,rfl,by decide +kernel,rfl,by decide +kernel,by decide +kernel⟩
def Ei(K:W.Frag):Sp:=λvs H Q _=>∃(kn m d:Nat) (M:List Nat) (us:List V) (ds:List Int),vs = [.ref kn,.ref m,.ref d]/\ah K H kn us/\Paired (bX H) (cy M) us/\us.length<=576/\ah K H m (M.map nV)/\Ev.cz M/\ah K H d (ds.map V.int)/\ds.length=18/\Small ds /\
 ∀(L t u:Addr) (zs ws:List Int) H',Same H H'->H' L=some (.lst [.ref t,.ref u])->H' t=some (.lst (zs.map V.int))->H' u=some (.lst (ws.map V.int))->zs.length<=80->ws.length<=80->Q (.ref L) H'
theorem X5 (F:aR K "_law_two" "_law_two" vg f fd) (T:Txt mg) (xK:aG P w K mg base "_law_meet" ["_law_masks","_law_a","_law_b"] 1 (DK K)) (xF:aG P w K mg base "_law_climb" ["_law_known","_law_masks","_law_a","_law_b","_law_draws_here"] 2 (Dl K)) (xD:aG P w K mg base "_law_bent" ["_law_things","_law_draws_here","_law_count"] 1 (Di K)) :
  aL P w K mg base aX 3 f fd ["_law_known","_law_masks","_law_draws_here"] (Ei K):=by
 refine F.ok Nn (λvs H Q E h=>?_) (λcdv A outer s H vs Q E hr h=>?_)
 ·obtain⟨kn,m,d,M,us,ds,rfl,_⟩:=h
  rfl
 ·obtain⟨kn,m,d,M,us,ds,rfl,hkn,hkp,iw,hm,hM,hd,hdl,hsm,kk⟩:=h
  have nd:=Nn.nd;refine⟨_,(au (aJ (i:=3) nd rfl (Or.inl rfl) (bG ag))
   (au (cI cA rfl (df rfl T.range (ae ak ag)) (a_ (i:=4) nd rfl (Or.inr rfl))
   (au (aJ (i:=5) nd rfl (Or.inl rfl) (dJ (K:=K) rfl dU lM sy (Bm (K:=K) rfl) (pv 1) (ae (bx (QR (K:=K) rfl rfl) rfl T.min boot_min (ae (pv 1) ag)) ag)))
   (au (aJ (i:=6) nd rfl (Or.inl rfl) (dJ (K:=K) rfl dU lM sy (Bm (K:=K) rfl) (pv 1) (ae (bx (QQ (K:=K) rfl rfl) rfl T.max boot_max (ae (pv 1) ag)) ag)))
   (au (bz (bC cX (ay bW (aq (aS (K:=K) rfl) (pv 2) (ay bV ak (pv 4)) (λ_ _=>rfl)) ak) ak (bj _)) (au (aJ (i:=6) nd rfl (Or.inl rfl) (ay bW (ay jT (aq (aS (K:=K) rfl) (pv 2) (ay bV ak (pv 4)) (λ_ _=>rfl)) ak) (bx (fh (K:=K) rfl) rfl T.len fz (ae (pv 1) ag))))
   (ax (aJ (i:=5) nd rfl (Or.inl rfl) (aM xK hr rfl (ae (pv 1) (ae (pv 6) (ae (ay bW (ay jT (aq (aS (K:=K) rfl) (pv 2) (ay bV ak (pv 4)) (λ_ _=>rfl)) ak) (bx (fh (K:=K) rfl) rfl T.len fz (ae (pv 1) ag))) ag (av nofun)) (av nofun)) (av nofun)))))) bH)
   (au (aJ (i:=7) nd rfl (Or.inl rfl) (aM xF hr rfl (ae (pv 0) (ae (pv 1) (ae (pv 5) (ae (pv 6) (ae (cY (cZ (K:=K) rfl) (pv 2) (cH (ay kP ak (pv 4))) dC) ag (av nofun)) (av nofun)) (av nofun)) (av nofun)) (av nofun))))
   (au (bz (bC cX (ay bW (ay jT (aq (aS (K:=K) rfl) (pv 2) ak (λ_ _=>rfl)) (ay bV (pv 4) ak)) ak) ak (bj _)) (au (oM (i:=8) nd rfl rfl (own:=["_law_thing"]) (fr:=[("_law_draws_here", 2),("_law_k", 4)]) rfl (cj (aA vg) ["_law_known","_law_masks","_law_draws_here","_law_found","_law_k","_law_a","_law_b","_law_climb_here","_law_some"] rfl rfl (by decide +kernel)) (dM (K:=K) rfl (cY (cZ (K:=K) rfl) (pv 7) (cH ak) (cH (iC iF ak)))) (λ_ _ _ _=>⟨(a_ (i:=0) (by decide +kernel:(["_law_thing","_law_draws_here","_law_k"]:List Str).Nodup) rfl (Or.inl rfl)),(kU (bC cX (ay mz (ay La (aq (aS (K:=K) rfl) (pv 1) (ay bV ak (pv 2)) (λ_ _=>rfl)) (pv 0)) ak) ak (bj _))),(pv 0)⟩))
   (ax (aJ (i:=7) nd rfl (Or.inl rfl) (ay dk (ay dk (cY (cZ (K:=K) rfl) (pv 7) dC (cH ak)) (pv 8)) (cY (cZ (K:=K) rfl) (cY (cZ (K:=K) rfl) (pv 7) (cH ak) dC) (cH (iC iF ak)) dC))))) bH)
   (au (bz (bC cX (ay bW (ay jT (aq (aS (K:=K) rfl) (pv 2) ak (λ_ _=>rfl)) (ay bV (pv 4) ak)) ak) ak (bj _)) (ax (aJ (i:=7) nd rfl (Or.inl rfl) (aM xD hr rfl (ae (pv 7) (ae (cY (cZ (K:=K) rfl) (pv 2) (cH (ay bV ak (pv 4))) dC) (ae (bx (fh (K:=K) rfl) rfl T.len fz (ae (pv 1) ag)) ag (av nofun)) (av nofun)) (av nofun))))) bH)
   (ax (cw (dJ (K:=K) rfl dU gF gS gw (pv 3) (ae (pv 7) ag)))))))))))
   (ax (aV (pv 3))))),?_⟩
  refine⟨by show 0<=sizeLine;decide,λL hL=>?_⟩;refine⟨2,rfl,by decide,by decide,fP (lo:=0) (n:=(2:Int).toNat) (λi σ H2=>∃(v4 v5 v6 v7 v8:Option V) (ts:List Addr),σ = [some (.ref kn),some (.ref m),some (.ref d),some (.ref L),v4,v5,v6,v7,v8]/\Same H H2/\H2 L=some (.lst (ts.map V.ref))/\ts.length=i/\∀t∈ts,t≠L/\∃zs:List Int,H2 t=some (.lst (zs.map V.int))/\zs.length<=80)
   ⟨none,none,none,none,none,[],rfl,Same.put hL,ao,rfl,λt ht=>nomatch ht⟩ ?_ ?_⟩
  ·rintro i σ H2 hi ⟨v4,v5,v6,v7,v8,ts,rfl,s2,hl,hlen,hts⟩
   have hi2:i<2:=hi;have hm2:=s2.seq hm;have qE:=Kr hm2;have pos2:0<(M.map λx:Nat=>(x:Int)).length:=by rw[az];exact hM.pos
   refine⟨_,rfl,.inl ⟨rfl,_,hm2⟩,_,rfl,m,_,rfl,qE,pos2,λmi hmi hmin=>⟨m,_,mi,rfl,rfl,qE,hmi,?_⟩⟩;refine⟨_,rfl,.inl ⟨rfl,_,hm2⟩,_,rfl,m,_,rfl,qE,pos2,λma hma Ud=>⟨m,_,ma,rfl,rfl,qE,hma,?_⟩⟩;obtain⟨x0,hx0,rfl⟩:=cW.mp hmi;obtain⟨x1,hx1,rfl⟩:=cW.mp hma;obtain⟨ia,ga⟩:=As hx0;obtain⟨ib,gb⟩:=As hx1;have Tx:Ev.Sub x0 x1:=Wg hM hx0 (λy hy=>by have:=hmin (y:Int) (cW.mpr ⟨y,hy,rfl⟩);omega) x1 hx1;generalize (M.map λx:Nat=>(x:Int)).idxOf (x0:Int)=A0 at ia ga ⊢;generalize (M.map λx:Nat=>(x:Int)).idxOf (x1:Int)=B0 at ib gb ⊢;have hAB:Ev.aN M A0 B0=true:=by rw[Ev.eL,ga,gb];exact Tx
   clear hmi hma hmin Ud qE;have e8:(8:Int)+(0+(i:Int))=((8+i:Nat):Int):=by omega
   obtain⟨d8,Ad⟩:∃z:Int,(ds.map V.int)[8+i]? = some (.int z):=⟨ds[8+i]'(by omega),by rw[bO,aB (by omega)];rfl⟩;have hd2:=s2.seq hd;dsimp only[cD];show jz _ _ _ [some (.ref kn),some (.ref m),some (.ref d),some (.ref L),some (.int (0+(i:Int))),some (.int (A0:Int)),some (.int (B0:Int)),v7,v8] _;have posM:(0:Int)<((M.map nV).length:Int):=by rw[az];have:=hM.pos;omega
   refine q_ (ι:=Nat × Nat) (λq H'=>q.1<M.length/\q.2<M.length/\Ev.aN M q.1 q.2=true/\Same H2 H') (λq=>[some (.ref kn),some (.ref m),some (.ref d),some (.ref L),some (.int (0+(i:Int))),some (.int (q.1:Int)),some (.int (q.2:Int)),v7,v8]) (λD' tZ hD'=>?_) ?_
   ·refine⟨_,rfl,_,rfl,_,_,rfl,rfl,d,_,_,.int d8,rfl,rfl,hd2,by rw[e8];exact aH Ad,_,_,rfl,rfl,by show(0:Int)<4;decide,rfl,_,rfl,?_⟩
    refine bB (λh1=>?_) (λh1=>?_)
    ·obtain⟨rb,hrb,RJ⟩:=gW (d8 / 4) M.length hM.pos
     obtain⟨rc,Uo,RK⟩:=gW (d8 / 96) M.length hM.pos;refine⟨_,rfl,_,rfl,_,_,rfl,rfl,d,_,_,.int d8,rfl,rfl,hd2,by rw[e8];exact aH Ad,_,_,rfl,rfl,⟨by decide,by decide⟩,_,rfl,m,_,rfl,.inl hm2,_,_,rfl,rfl,posM,?_⟩;refine⟨_,rfl,_,rfl,_,rfl,_,rfl,_,_,rfl,rfl,d,_,_,.int d8,rfl,rfl,hd2,by rw[e8];exact aH Ad,_,_,rfl,rfl,⟨by decide,by decide⟩,_,rfl,m,_,rfl,.inl hm2,_,_,rfl,rfl,posM,?_⟩;rw[az];dsimp only;rw[RJ,RK];refine⟨m,rb,rc,M,rfl,hm2,hM,hrb,Uo,λmt H8 s8 hmt Ue=>?_⟩;have e1:=Ue mt;rw[Ev.kM]at e1;have e2:Ev.aN M mt rb=true:=by
      have:=e1.symm;rw[bD]at this;exact this.1
     exact hD' (mt,rb) H8 ⟨hmt,hrb,e2,s8⟩
    ·exact hD' (A0,B0) H2 ⟨ia,ib,hAB,Same.refl _⟩
   ·rintro⟨a',b'⟩ H3 ⟨ha',hb',hab',s3⟩
    have t3:=s2.trans s3;have hl3:=s3 _ _ hl;have Rt:(2:Int) * (0+(i:Int))=((2 * i:Nat):Int):=by omega
    have yr:(11:Int)+(0+(i:Int))=((11+i:Nat):Int):=by omega
    have yt:(16:Int)+(0+(i:Int))=((16+i:Nat):Int):=by omega
    have TJ:=t3.seq hd;refine⟨_,rfl,_,rfl,_,rfl,_,rfl,_,rfl,_,rfl,_,_,rfl,rfl,.inl ⟨by omega,by omega⟩,_,rfl,d,_,rfl,TJ,λq hq=>?_⟩;rw[Rt,Ho (by omega)];have sq:=Same.put (o:=.lst ((ds.drop (2 * i)).map V.int)) hq;have tq:=t3.trans sq;refine⟨kn,m,a',b',q,M,us,ds.drop (2 * i),rfl,tq.seq hkn,eU.same tq hkp,iw,tq.seq hm,hM,ha',hb',hab',ah.of ao,by rw[i_];omega,λt cs H4 s4 ht q4 hcl z7 hC=>?_⟩;have lg:=sq.trans s4;have t4:=t3.trans lg;have cR:=lg _ _ hl3;have htL:t≠L:=λz=>by
     have:=sq _ _ hl3;rw[<- z,ht]at this;cases this
    clear ht sq tq s4 hq;obtain⟨Rf,TB⟩:∃z:Int,(ds.map V.int)[15]? = some (.int z):=⟨ds[15]'(by omega),by rw[bO,aB (by omega)];rfl⟩;obtain⟨tI,TF⟩:∃z:Int,(ds.map V.int)[16+i]? = some (.int z):=⟨ds[16+i]'(by omega),by rw[bO,aB (by omega)];rfl⟩;have Ja:=t4.seq hd;dsimp only[cD];show jz _ _ _ [some (.ref kn),some (.ref m),some (.ref d),some (.ref L),some (.int (0+(i:Int))),some (.int (a':Int)),some (.int (b':Int)),some (.ref t),v8] _;refine q_ (ι:=Addr × List Nat × Option V) (λq H'=>Same H4 H'/\q.1≠L/\H' q.1=some (.lst (q.2.1.map nV))/\0<q.2.1.length/\q.2.1.length<=25) (λq=>[some (.ref kn),some (.ref m),some (.ref d),some (.ref L),some (.int (0+(i:Int))),some (.int (a':Int)),some (.int (b':Int)),some (.ref q.1),q.2.2]) (λD' tZ hD'=>?_) ?_
    ·refine⟨_,rfl,d,_,15,.int Rf,rfl,rfl,Ja,aH (j:=15) TB,_,rfl,_,_,rfl,rfl,_,_,rfl,rfl,⟨by show(0:Int)<0+(i:Int)+1;omega,by show 0+(i:Int)+1<1073741824;omega⟩,_,_,rfl,rfl,by show(0:Int)<2;decide,rfl,_,rfl,bB (λh1=>?_) (λh1=>hD' (t,cs,v8) H4 ⟨Same.refl _,htL,q4,by have:=z7.ne;show 0<cs.length;omega,hcl⟩)⟩
     obtain⟨mid,hd1,tl,c1,c2,c3,c4,c5⟩:∃(mid:List Nat) (hd1:List Nat) (tl:List Nat),bM (cs.map nV) (some 1) (some (-1))=mid.map nV/\bM (cs.map nV) none (some 1)=hd1.map nV/\(∃r:List Nat,bM (cs.map nV) (some 1) none=r.map nV/\bM (r.map nV) (some (-1)) none=tl.map nV)/\mid.length+hd1.length+tl.length<=25/\0<hd1.length:=by
      match cs,z7.ne,hcl with
      | [x],_,_ =>
       obtain⟨q1,q2,q3,q4⟩:=Rb x;exact⟨[],[x],[],q1,q2,⟨[],q3,q4⟩,by simp,by simp⟩
      |x::y::r,_,hcl =>
       obtain⟨mid,z,hz⟩:∃mid z,y::r=mid++[z]:=⟨(y::r).dropLast,(y::r).getLast (by simp),(Fv (by simp)).symm⟩;rw[hz]at hcl ⊢;obtain⟨q1,q2,q3,q4⟩:=Q9 x z mid;exact⟨mid,[x],[z],q1,q2,⟨_,q3,q4⟩,by simp at hcl ⊢;omega,by simp⟩
     obtain⟨rr,c3,QB⟩:=c3;refine⟨_,rfl,_,rfl,1,rfl,_,rfl,t,_,rfl,ah.of q4,λq hq=>?_⟩;rw[c1];have sq:=Same.put (o:=.lst (mid.map nV)) hq;refine⟨q,rfl,⟨_,ah.of ao⟩,λD hD=>kE (λj=>decide (V.int (Builtin.bitAnd (tI / 2 ^ (((mid.getD j 0:Nat):Int)).toNat) 1)=V.int 1)) (λj=>nV (mid.getD j 0)) (src_list (ah.of ao)) hD (cS (by rw[az];omega)) (λj H5 Kt Kf hj hs hkt hkf=>?_) (λH5 hs dI=>?_)⟩
     ·have hj':j<mid.length:=by rwa [az]at hj
      have eg:(mid.map nV).getD j .non = .int ((mid.getD j 0:Nat):Int):=zT hj';refine⟨_,rfl,_,rfl,_,_,rfl,rfl,d,_,_,.int tI,rfl,rfl,(sq.trans hs).seq Ja,by rw[yt];exact aH TF,_,rfl,_,_,rfl,eg,by omega,_,_,rfl,rfl,rfl,_,rfl,bB (λh=>?_) (λh=>hkf _ (by simpa using h) (Same.refl _))⟩;exact⟨_,rfl,by rw[eg];exact hkt _ h (Same.refl _)⟩
     ·have s5:=sq.trans hs
      obtain⟨sel,RM,abI⟩:∃sel:List Nat,((List.range (mid.map nV).length).filter λj=>decide (V.int (Builtin.bitAnd (tI / 2 ^ (((mid.getD j 0:Nat):Int)).toNat) 1)=V.int 1)).map (λj=>nV (mid.getD j 0))=sel.map nV/\sel.length<=mid.length:=by
       refine⟨((List.range mid.length).filter λj=>decide (V.int (Builtin.bitAnd (tI / 2 ^ (((mid.getD j 0:Nat):Int)).toNat) 1)=V.int 1)).map (λj=>mid.getD j 0),by rw[az,eZ];rfl,?_⟩;rw[az];refine b_ (mR _ _) ?_;rw[iH];exact aW _
      rw[RM]at dI;have Ir:=s5 _ _ q4;dsimp only[cD];refine⟨_,rfl,_,rfl,t,_,rfl,ah.of Ir,λp1 hp1=>?_⟩;rw[c2];have gM:=Same.put (o:=.lst (hd1.map nV)) hp1;refine⟨_,rfl,p1,D,_,_,rfl,rfl,ao,gM _ _ dI,by rw[az,az];exact dh (cS (by omega)),λp2 hp2=>?_⟩;have sp2:=Same.put (o:=.lst (hd1.map nV++sel.map nV)) hp2;have s12:=gM.trans sp2;refine⟨_,rfl,_,rfl,t,_,rfl,ah.of (s12 _ _ Ir),λp3 hp3=>?_⟩;rw[c3];have Ob:=Same.put (o:=.lst (rr.map nV)) hp3;refine⟨1,rfl,_,rfl,p3,_,rfl,ah.of ao,λp4 cU=>?_⟩;rw[QB];have Oc:=Same.put (o:=.lst (tl.map nV)) cU;refine⟨p2,p4,_,_,rfl,rfl,Oc _ _ (Ob _ _ ao),ao,by rw[bp,az,az,az];exact dh (cS (by omega)),λp5 gZ=>?_⟩;have Mf:=s5.trans (s12.trans (Ob.trans Oc));have n5:p5≠L:=λz=>by rw[z,Mf _ _ cR]at gZ;cases gZ
      exact hD' (p5,hd1++sel++tl,some (.ref D)) _ ⟨Mf.trans (Same.put gZ),n5,by rw[ao,eh,eh],by show 0<(hd1++sel++tl).length;rw[bp,bp];omega,by show(hd1++sel++tl).length<=25;rw[bp,bp];omega⟩
    rintro⟨t,cs,v8⟩ H5 ⟨s5,htL,q5,cpos,Hh⟩;have cpos:0<cs.length:=cpos;have Hh:cs.length<=25:=Hh;have q5:H5 t=some (.lst (cs.map nV)):=q5;have htL:t≠L:=htL;have t5:=t4.trans s5;have dI:=s5 _ _ cR;have Jb:=t5.seq hd;have Ub:=t5.seq hm;have Uu:∀x∈ts,x≠L/\∃zs:List Int,H5 x=some (.lst (zs.map V.int))/\zs.length<=80:=λx hx=>by
     obtain⟨h1,zs,h2,h3⟩:=hts x hx;exact⟨h1,zs,s5 _ _ (lg _ _ (s3 _ _ h2)),h3⟩
    obtain⟨Rc,Tz⟩:∃z:Int,(ds.map V.int)[10]? = some (.int z):=⟨ds[10]'(by omega),by rw[bO,aB (by omega)];rfl⟩;clear z7 hC hcl q4;refine q_ (ι:=Addr × List Int) (λq H'=>Same H5 H'/\q.1≠L/\H' q.1=some (.lst (q.2.map V.int))/\q.2.length<=80) (λq=>[some (.ref kn),some (.ref m),some (.ref d),some (.ref L),some (.int (0+(i:Int))),some (.int (a':Int)),some (.int (b':Int)),some (.ref q.1),v8]) (λD' tZ hD'=>?_) ?_
    ·refine⟨_,rfl,d,_,10,.int Rc,rfl,rfl,Jb,aH (j:=10) Tz,_,rfl,_,_,rfl,rfl,_,_,rfl,rfl,⟨by show(0:Int)<0+(i:Int)+1;omega,by show 0+(i:Int)+1<1073741824;omega⟩,_,_,rfl,rfl,by show(0:Int)<4;decide,rfl,_,rfl,bB (λh1=>?_) (λh1=>?_)⟩
     ·refine⟨_,rfl,_,rfl,_,rfl,_,_,rfl,rfl,_,rfl,d,_,rfl,Jb,λq2 hq2=>?_⟩
      rw[yr,Ho (by omega)];have vK:=Same.put (o:=.lst ((ds.drop (11+i)).map V.int)) hq2;refine⟨_,rfl,m,_,rfl,.inl (vK.seq Ub),?_⟩;have Lv:=q5;rw[<- uf]at Lv;refine⟨t,q2,M.length,cs.map λx:Nat=>(x:Int),ds.drop (11+i),by rw[az];rfl,vK _ _ Lv,by rw[az];omega,by rw[az];omega,ah.of ao,by rw[i_];omega,λx hx=>hsm x (FK hx),hM.pos,λL2 ws H6 s6 Sd q6 hwl=>?_⟩;have Mh:=vK.trans s6;have kH:=Mh _ _ dI;have hL2:L2≠L:=λz=>by
       rcases Sd with e|e
       ·exact htL (by rw[<- e,z])
       ·rw[z,vK _ _ dI]at e
        cases e
      exact hD' (L2,ws) H6 ⟨Mh,hL2,q6,hwl⟩
     ·exact hD' (t,cs.map λx:Nat=>(x:Int)) H5 ⟨Same.refl _,htL,by rw[uf];exact q5,by show(cs.map λx:Nat=>(x:Int)).length<=80;rw[az];omega⟩
    rintro⟨tx,zs⟩ H6 ⟨s6,nL,q6,zl⟩;have nL:tx≠L:=nL;have q6:H6 tx=some (.lst (zs.map V.int)):=q6;have zl:zs.length<=80:=zl;have t6:=t5.trans s6;have kH:=s6 _ _ dI;refine⟨_,rfl,.inl ⟨rfl,_,ah.of kH⟩,_,rfl,L,_,.ref tx,rfl,rfl,kH,jy (by rw[az];omega),?_⟩;refine⟨_,_,_,_,_,ts++[tx],rfl,λb o e=>by rw[aD (cV e hL)];exact t6 _ _ e,by rw[ao,eh];rfl,by rw[bp,hlen];rfl,λx hx=>?_⟩
    rcases f6.mp hx with hx|hx
    ·obtain⟨h1,zs',h2,h3⟩:=Uu x hx
     exact⟨h1,zs',by rw[aD h1];exact s6 _ _ h2,h3⟩
    ·have:x=tx:=by simpa using hx
     rw[this];exact⟨nL,zs,by rw[aD nL];exact q6,zl⟩
  ·rintro σ H2 ⟨v4,v5,v6,v7,v8,ts,rfl,s2,hl,hlen,hts⟩
   match ts,hlen with
   | [t,u],_ =>
    obtain⟨_,zs,q1,l1⟩:=hts t (by simp);obtain⟨_,ws,q2,l2⟩:=hts u (by simp);exact⟨_,rfl,kk L t u zs ws H2 s2 hl q1 q2 l1 l2⟩
theorem HQ(g:Nat->V):∀(l:List Nat) (k:Nat),(l.map g).eraseIdx k=(l.eraseIdx k).map g
 | [],_=>rfl
 |_::_,0=>rfl
 |x::l,k+1=>by rw[cL,PJ,PJ,cL,HQ g l k]
theorem HR:∀(l:List Nat) (k:Nat) (h:k<l.length),(l[k]::l.eraseIdx k).Perm l
 |x::l,0,_=>List.Perm.refl _
 |x::l,k+1,h=>(List.Perm.swap x (l[k]'(P1 h)) (l.eraseIdx k)).trans (List.Perm.cons x (HR l k (P1 h)))
abbrev Cu:Stmt:=top 71
theorem Ni:aZ ["_law_script","_law_at","_law_draws_here","_law_family","_law_left","_law_found","_law_k"] ["_law_script","_law_at"] (aA Cu):=⟨rfl,rfl,rfl,by decide +kernel,rfl,by decide +kernel,by decide +kernel⟩
def DY(K:W.Frag):Sp:=λvs H Q _=>∃(a:Nat) (ns:List Int) (k:Nat),vs = [.ref a,.int k]/\ah K H a (ns.map V.int)/\∀l M H',Same H H'->H l=none->H' l=some (.lst (M.map nV))->Ev.cz M->Q (.ref l) H'
theorem XJ (F:aR K "_law_order" "_law_order" Cu f fd) (T:Txt mg) (lU:aG P w K mg base "_law_cell_at" ["_law_script","_law_k"] 1 (vv K)) (kC:aG P w K mg base "_law_draws" ["_law_cell","_law_many"] 2 vw)
  (xJ:aG P w K mg base "_law_kind" ["_law_draws_here","_law_family"] 2 (Dz K)):aL P w K mg base aX 3 f fd ["_law_script","_law_at"] (DY K):=by
 refine F.ok Ni (λvs H Q E h=>?_) (λcdv A outer s H vs Q E hr h=>?_)
 ·obtain⟨a,ns,k,rfl,_⟩:=h
  rfl
 ·obtain⟨a,K5,k,rfl,hS,kk⟩:=h
  have nd:=Ni.nd;refine⟨_,(au (aJ (i:=2) nd rfl (Or.inl rfl) (aM kC hr rfl (ae (aM lU hr rfl (ae (pv 0) (ae (pv 1) ag))) (ae ak ag))))
   (au (aJ (i:=3) nd rfl (Or.inl rfl) (aq (aS (K:=K) rfl) (aM kC hr rfl (ae (aM lU hr rfl (ae (pv 0) (ae (ay bV (pv 1) ak) ag))) (ae ak ag))) ak (λ_ _=>rfl)))
   (au (bz (bC cX (ay bW (aq (aS (K:=K) rfl) (pv 2) ak (λ_ _=>rfl)) ak) ak (bj _)) (ax (aJ (i:=3) nd rfl (Or.inl rfl) (ay mz (pv 3) (aq (aS (K:=K) rfl) (pv 2) ak (λ_ _=>rfl))))) bH)
   (au (aJ (i:=4) nd rfl (Or.inl rfl) (aM xJ hr rfl (ae (pv 2) (ae (pv 3) ag))))
   (au (aJ (i:=5) nd rfl (Or.inl rfl) (bG ag))
   (au (cI cA rfl (df rfl T.range (ae (bx (fh (K:=K) rfl) rfl T.len fz (ae (pv 4) ag)) ag)) (a_ (i:=6) nd rfl (Or.inl rfl))
   (ax (cw (dJ (K:=K) rfl dU gF gS gw (pv 5) (ae (dJ (K:=K) rfl dU PySem.F.slot_list_pop PySem.F.type_list_pop Wn (pv 4) (ae (ay bW (ay bV (ay jT (aq (aS (K:=K) rfl) (pv 2) ak (λ_ _=>rfl)) ak) (ay kP (pv 6) (aq (aS (K:=K) rfl) (pv 2) ak (λ_ _=>rfl)))) (bx (fh (K:=K) rfl) rfl T.len fz (ae (pv 4) ag))) ag)) ag)))))
   (ax (aV (pv 5))))))))),?_⟩
  refine⟨_,rfl,_,rfl,a,k,K5,rfl,hS,λc1 H1 s1=>⟨c1,8,rfl,by decide,λd ds H2 s2 hd q2 hlen hsm=>?_⟩⟩;have fq:=s1.trans s2;refine⟨_,rfl,_,rfl,_,_,rfl,rfl,a,k+1,K5,by simp,fq.seq hS,λc2 H3 s3=>⟨c2,1,rfl,by decide,λe Hx H4 s4 he q4 hlen2 abJ=>?_⟩⟩;obtain⟨f0,rfl⟩:∃f0,Hx = [f0]:=by
   match Hx,hlen2 with
   | [f0],_=>exact⟨f0,rfl⟩
  refine⟨e,_,0,_,rfl,rfl,ah.of q4,rfl,?_⟩;obtain⟨d0,d1',d2',d3,d4,d5,d6,d7,rfl⟩:∃d0 d1 d2 d3 d4 d5 d6 d7,ds = [d0,d1,d2,d3,d4,d5,d6,d7]:=by
   match ds,hlen with
   | [d0,d1,d2,d3,d4,d5,d6,d7],_=>exact⟨_,_,_,_,_,_,_,_,rfl⟩
  have hX:=(fq.trans s3).trans s4;have qd:=s4 _ _ (s3 _ _ q2);have hdH:H d=none:=s1.free hd;refine⟨_,rfl,d,_,4,_,rfl,rfl,ah.of qd,rfl,_,_,rfl,rfl,(by show(0:Int)<2;decide),rfl,_,rfl,bB (λ_=>⟨_,rfl,_,rfl,d,_,5,_,rfl,rfl,ah.of qd,rfl,_,_,rfl,rfl,?_⟩) (λ_=>?_)⟩
  all_goals
   refine⟨_,rfl,_,rfl,d,_,_,rfl,qd,rfl,λL1 M H5 s5 hL1 q5 hM=>?_⟩;refine⟨by show 0<=sizeLine;decide,λL2 hL2=>?_⟩;have ln:=hM.len;have en:(((M.map nV).length:Int)).toNat=M.length:=by rw[dg,az]
   have Td:H L1=none:=hX.free hL1;have z9:H L2=none:=(hX.trans s5).free hL2;have d1:d≠L1:=λz=>by rw[z,hL1]at qd;cases qd
   have d2:d≠L2:=λz=>by rw[<- z,s5 _ _ qd]at hL2;cases hL2
   have ym:L1≠L2:=λz=>by rw[<- z,q5]at hL2;cases hL2
   have sk:∀{H3:Hp} {l:Addr} {o:HO},H l=none->Same H H3->Same H (upd H3 l o):=λhl s3 b o e=>by
    rw[aD (λz=>by rw[z,hl]at e;cases e)];exact s3 _ _ e
   refine⟨_,rfl,L1,_,rfl,.inl (ah.of (Same.put hL2 _ _ q5)),_,rfl,by rw[az];exact(bS (by omega)).1,by rw[az];exact(bS (by omega)).2,fP (lo:=0) (n:=(((M.map nV).length:Int)).toNat)
    (λi σ H6=>∃(v3 v6:Option V) (M1 M2:List Nat),σ = [some (.ref a),some (.int k),some (.ref d),v3,some (.ref L1),some (.ref L2),v6]/\Same H H6/\H6 d=some (.lst (([d0,d1',d2',d3,d4,d5,d6,d7]:List Int).map V.int))/\H6 L1=some (.lst (M1.map nV))/\H6 L2=some (.lst (M2.map nV))/\M2.length=i/\(M2++M1).Perm M)
    ⟨_,none,M,[],rfl,sk z9 (hX.trans s5),by rw[aD d2];exact s5 _ _ qd,by rw[aD ym];exact q5,ao,rfl,List.Perm.refl _⟩ ?_ ?_⟩
   ·rintro i σ H6 hi ⟨v3,v6,M1,M2,rfl,s6,uQ,q1,q2,hl2,hp⟩
    rw[en]at hi;have hlen:M2.length+M1.length=M.length:=by rw[<- hp.length_eq,bp]
    obtain⟨r,hr,er⟩:=gW (d6 / 7+(0+(i:Int)) * d7) M1.length (by omega);have yu:(d6 / 7+(0+(i:Int)) * d7) % ((M1.map nV).length:Int)=(r:Int):=by rw[az];exact er
    have Zd:(upd H6 L1 (.lst ((M1.eraseIdx r).map nV))) L2=some (.lst (M2.map nV)):=by rw[aD ym.symm];exact q2
    refine⟨_,rfl,.inl ⟨rfl,_,ah.of q2⟩,_,rfl,.inl ⟨rfl,_,ah.of q1⟩,_,rfl,d,_,6,_,rfl,rfl,ah.of uQ,rfl,_,_,rfl,rfl,⟨by decide,by decide⟩,_,rfl,_,rfl,d,_,7,_,rfl,rfl,ah.of uQ,rfl,_,_,rfl,rfl,.inl ⟨by omega,by omega⟩,_,_,rfl,rfl,_,rfl,L1,_,rfl,.inl (ah.of q1),_,_,rfl,rfl,by rw[az];omega,?_⟩;refine⟨L1,_,_,r,nV M1[r],rfl,rfl,q1,?_,?_,?_,by rw[bO,aB hr];rfl,?_⟩
    ·rw[yu];omega
    ·rw[yu];omega
    ·rw[yu,wX (by omega) (by rw[az];omega)];simp
    rw[HQ];refine⟨L2,_,_,rfl,rfl,Zd,by rw[az];exact dZ (by omega),?_⟩;refine⟨_,_,M1.eraseIdx r,M2++[M1[r]],rfl,sk z9 (sk Td s6),by rw[aD d2,aD d1];exact uQ,by rw[aD ym,ao],by rw[ao,eh];rfl,by rw[bp,hl2];rfl,?_⟩;rw[iZ];exact(List.Perm.append_left M2 (HR M1 r hr)).trans hp
   ·rintro σ H6 ⟨v3,v6,M1,M2,rfl,s6,uQ,q1,q2,hl2,hp⟩
    rw[en]at hl2;have hlen:M2.length+M1.length=M.length:=by rw[<- hp.length_eq,bp]
    have e0:M1 = []:=List.eq_nil_of_length_eq_zero (by omega);rw[e0,h_]at hp;exact⟨_,rfl,kk L2 M2 H6 s6 z9 q2 (hM.perm hp.symm)⟩
end
end My
namespace L2
open PySem PySem.Spec PyProof.Rows
abbrev Tab:=Addr × Addr × Pos × Str
def iE(tabs:List Tab)(b:Addr):Option HO:=(tabs.find? λt=>decide (t.2.1=b)).map λt=>.lam t.2.2.1 t.2.2.2
def pN(tabs:List Tab)(H:Hp):Prop:=∀b o,iE tabs b=some o->H b=some o
theorem OD{tabs:List Tab}{b:Addr}{o:HO}(h:iE tabs b=some o):∃t∈tabs,t.2.1=b/\o = .lam t.2.2.1 t.2.2.2:=by
 unfold iE at h;cases e:tabs.find? λt=>decide (t.2.1=b)with
 |none=>rw[e]at h;cases h
 |some t =>
  rw[e]at h;cases h;exact⟨t,List.mem_of_find?_eq_some e,uB (List.find?_some (p:=λt:Tab=>decide (t.2.1=b)) e),rfl⟩
theorem VJ{P:Program}{w:World}{K:W.Frag}{mg mb:Str->Option Value}{CX:gQ}{k:Nat}{fa a:Addr}{fd:FuncData}{x:Str}{sp:Sp}{s₁:Shared}{vs:List Value}{ns:List Int}{tabs:List Tab}
  (KX:K.In s₁.heap) (hns:s₁.heap.Ns mainGlobals mg) (hb:s₁.heap.Ns builtinsNs mb) (hbb:∀x:Str,x ≠ "__name__" -> mb x=bootBuiltins x) (hlim:s₁.heap.NoLimit) (hg:s₁.gens = #[])
  (hbm:∃bm ob,mg "__builtins__" = some (.ref bm)/\bm≠builtinsNs/\s₁.heap.get? bm=some ob/\ob.cls = .type "module" /\ ob.dict=some builtinsNs/\ob.data = .plain)
  (hT:∀t∈tabs,W.CodeHd s₁.heap t.1 t.2.1/\s₁.heap.get? t.2.1=some (W.tabObj #[])) (Tc:W.noTabs K=true)
  (ha:s₁.heap.get? a=some {cls:=.type "list", data:=.seq vs.toArray}) (hi:IntsAre vs ns) (hl:ns.length<=sizeLine) (hr:bR k callerA)
  (F:∀base:Heap,K.In base->base.Ns mainGlobals mg->(∀t∈tabs,TabAt base mg t.1 t.2.1)->aL P w K mg base CX k fa fd [x] sp) (hbind:∀(s:Shared) (u:Value),BindsTo s fd ⟨[u],[]⟩ [(x,u)])
  (hsp:∀H:Hp,ah K H a (ns.map V.int)->pN tabs H->sp [.ref a] H (λv H'=>v = .bl true/\pN tabs H') λ_ _ _=>False)
  (z0:∀H e s',CX [] H s₁ (λ_ _ _=>False) e s'->False) :
  codeAny (model P w) callerA (.call (.ref fa) ⟨[.ref a],[]⟩) (λr s'=>r = .ok (.ret (.bool true))/\OldK s₁.heap s'.heap/\s'.os=s₁.os/\AllBare s'.gens) s₁:=by
 have rv:=O_ hi;have lenV:=hi.length;have o6:∀{b:Addr} {o:HO},iE tabs b=some o->∃t∈tabs,t.2.1=b/\o = .lam t.2.2.1 t.2.2.2/\s₁.heap.get? b=some (W.tabObj #[]):=λ{b o} e=>by
  obtain⟨t,h1,h2,h3⟩:=OD e;exact⟨t,h1,h2,h3,by rw[<- h2];exact(hT t h1).2⟩
 have aT:iE tabs a=none:=by
  cases e:iE tabs a with
  |none=>rfl
  |some o =>
   obtain⟨_,_,_,_,q⟩:=o6 e;rw[ha]at q;cases q
 have KT:∀b o,iE tabs b=some o->K.lookup b=none:=λb o e=>by
  obtain⟨_,_,_,_,q⟩:=o6 e;cases hk:K.lookup b with
  |none=>rfl
  |some ob =>
   have e2:=KX b ob hk;rw[q]at e2;cases e2;have h2:=fZ.mp Tc (b,_) (W.mem_of_lookupK hk);exact absurd (show false=true from h2) Bool.false_ne_true
 have core:∀H:Hp,(∀b o,H b=some o->iE tabs b=some o\/(b=a/\∃o' xs,o = .dj o' (.lst xs)))->pN tabs H->ah K H a (ns.map V.int)->bE P w H s₁.heap->(H a≠none->K.lookup a=none) ->
   codeAny (model P w) callerA (.call (.ref fa) ⟨[.ref a],[]⟩) (λr s'=>r = .ok (.ret (.bool true))/\OldK s₁.heap s'.heap/\s'.os=s₁.os/\AllBare s'.gens) s₁:=by
  intro H hO qi hS hok hK;have free:∀{b:Addr} {o:Obj},s₁.heap.get? b=some o->o.cls≠.none->o.cls≠.type "list" -> H b=none:=λ{b o} e c1 c2=>by
   cases q:H b with
   |none=>rfl
   |some u =>
    rcases hO b u q with z|⟨z,_⟩
    ·obtain⟨_,_,_,_,z2⟩:=o6 z
     rw[e]at z2;cases z2;exact absurd rfl c1
    ·rw[z,ha]at e;cases e
     exact absurd rfl c2
  have sQ:∀{b:Addr} {o:Obj},s₁.heap.get? b=some o->H b=none->(jm s₁.heap H).get? b=some o:=λe n=>T1 e n
  have jS:∀{b:Addr} {o:Obj} {es:Array DictEntry} {ep:Nat},s₁.heap.get? b=some o->o.data = .dict es ep->H b=none:=λ{b o es ep} e d=>by
   cases q:H b with
   |none=>rfl
   |some u =>
    rcases hO b u q with z|⟨z,_⟩
    ·obtain⟨_,_,_,_,z2⟩:=o6 z
     rw[e]at z2;cases z2;cases d
    ·rw[z,ha]at e;cases e
     cases d
  have uA:∀{b:Addr} {m:Str->Option Value},s₁.heap.Ns b m->(jm s₁.heap H).Ns b m:=λ{b m} ⟨o,es,ep,e,d,r⟩=>⟨o,es,ep,sQ e (jS e d),d,r⟩
  have Iw:K.In (jm s₁.heap H):=λb o e=>sQ (KX b o e) (by
   cases q:H b with
   |none=>rfl
   |some u =>
    rcases hO b u q with z|⟨z,_⟩
    ·rw[KT b u z]at e;cases e
    ·subst z
     rw[hK (by rw[q];simp)]at e;cases e)
  have hM:Mod K mg (jm s₁.heap H):=⟨Iw,uA hns,⟨mb,uA hb,hbb⟩,let⟨mc,h1,h2⟩:=hlim;⟨mc,uA h1,h2⟩⟩;have e0:iY P w K mg (jm s₁.heap H) callerA [] s₁ H:=⟨rfl,hM,λb o e=>W2 e,Ga (T3 _ _),trivial,λb hb=>absurd (show b∈([]:List Addr)from hb) (by simp),hok,.of_eq hg⟩;have Tq:∀t∈tabs,TabAt (jm s₁.heap H) mg t.1 t.2.1:=λt ht=>by
   refine⟨?_,?_⟩
   ·obtain⟨o,vs,file,tf,flags,tg,inF,text,tt,q1,q2,r⟩:=(hT t ht).1
    exact⟨o,vs,file,tf,flags,tg,inF,text,tt,sQ q1 (free q1 (by rw[q2];intro z;cases z) (by rw[q2];decide)),q2,r⟩
   ·obtain⟨bm,ob,q1,q2,q3,q4,r⟩:=hbm
    exact⟨bm,ob,q1,q2,sQ q3 (free q3 (by rw[q4];intro z;cases z) (by rw[q4];decide)),q4,r⟩
  refine lP ((F _ Iw (uA hns) Tq).run callerA [] s₁ H ⟨[.ref a],[]⟩ [.ref a] [.ref a] _ _ hr e0 (hbind s₁ (.ref a)) (.cons rfl .nil) (hsp H hS qi)) λr s' h=>?_
  cases r with
  |error e=>exact(z0 H e s' h).elim
  |ok fl =>
   cases fl with
   |next=>exact False.elim h
   |brk=>exact False.elim h
   |cont=>exact False.elim h
   |ret u =>
    obtain⟨v,H',os,bare,un,hok',r',q,hT'⟩:=h;have q':v = .bl true:=q;subst q';obtain rfl:u=Value.bool true:=r';have key:∀b o,s₁.heap.get? b=some o->s'.heap.get? b=some o\/(isCodeTable s₁.heap b/\o=W.tabObj #[]/\∃ps,s'.heap.get? b=some (W.tabObj ps)):=λb o e=>by
     cases q:H b with
     |none=>exact .inl (un.keep b o e q (by intro z;exact absurd (show b∈([]:List Addr)from z) (by simp)) (by simp))
     |some u =>
      rcases hO b u q with z|⟨rfl,ob,xs,rfl⟩
      ·obtain⟨t,t1,t2,t3,z2⟩:=o6 z
       rw[e]at z2;cases z2;subst t3;obtain⟨ps,p1,_⟩:=(show bw P w H' s'.heap b (.lam t.2.2.1 t.2.2.2)from hok' b _ (hT' b _ z));refine .inr ⟨?_,rfl,ps,p1⟩;have:=((hT t t1).1.tab (hT t t1).2).isCodeTable;rw[t2]at this;exact this
      ·have z2:=un.fQ b ob _ q
       obtain⟨e1,_⟩:=hok b _ q;obtain⟨e2,_⟩:=hok' b _ z2;rw[e]at e1;cases e1;exact .inl e2
    refine⟨rfl,⟨λb o e=>?_,λb o e=>?_⟩,os,bare⟩
    ·rcases key b o e with z|⟨z1,rfl,ps,z2⟩
     ·exact .inl z
     ·exact .inr (.inl ⟨z1,rfl,#[],ps,rfl,by rw[Array.empty_append];exact z2⟩)
    ·rcases key b o e with z|⟨_,_,ps,z2⟩
     ·exact⟨o,z⟩
     ·exact⟨_,z2⟩
 have Ow:∀(H:Hp) b o,iE tabs b=some o->bw P w H s₁.heap b o:=λH b o e=>by
  obtain⟨t,_,_,rfl,q⟩:=o6 e;exact⟨#[],q,trivial,λcv z=>by cases z⟩
 cases hk:K.lookup a with
 |some o =>
  have e:=KX a o hk;rw[ha]at e;cases e;exact core (iE tabs) (λb o e=>.inl e) (λb o e=>e) (.inr ⟨_,vs.toArray,_,hk,rfl,rfl,rfl,by rw[bP,lenV];exact hl,by simpa using rv⟩) (λb u z=>Ow _ b u z) λz=>absurd aT z
 |none =>
  refine core (λb=>if b=a then some (.dj {cls:=.type "list", data:=.seq vs.toArray} (.lst (ns.map V.int)))else iE tabs b) (λb o e=>?_) (λb o e=>?_) (.inl (.inr ⟨{cls:=.type "list", data:=.seq vs.toArray},if_pos rfl⟩)) (λb u z=>?_) λ_=>hk
  ·by_cases hb:b=a
   ·have z':=(if_pos hb).symm.trans e
    cases z';exact .inr ⟨hb,_,_,rfl⟩
   ·exact .inl ((if_neg hb).symm.trans e)
  ·have hb:b≠a:=λz=>by rw[z,aT]at e;cases e
   exact(if_neg hb).trans e
  ·by_cases hb:b=a
   ·have z':=(if_pos hb).symm.trans z
    cases z';subst hb;exact⟨ha,by rw[az];exact hl,vs,_,rv,ha⟩
   ·exact Ow _ b u ((if_neg hb).symm.trans z)
theorem aa8{l:W.OpenLaw}{n k:Nat}{q:Program}{loose:List Str}{XP:(Str->Option Value)->Heap->Prop}{YP:World->Heap->Prop}{d:DefRec}{K:Params->W.Frag}{CX:World->gQ}{sp:World->Sp}{x:Str}{tabs:List Tab}(hn:l.most=some n)(hn2:n<=sizeLine)(hdf:d.params.defaults = [])(hr:bR k callerA)(hY:∀(w:World) (h:Heap),YP w h->(K w.params).In h)(hT:∀(w:World) (h:Heap),YP w h->(∀t∈tabs,W.codeHdIn (K w.params) t.1 t.2.1=true/\h.get? t.2.1=some (W.tabObj #[]))/\W.noTabs (K w.params)=true)(F:∀(w:World) (mg:Str->Option Value) (fa:Addr) (h:Heap),(K w.params).In h->h.Ns mainGlobals mg->mg d.name=some (.ref fa)->∃fd:FuncData,(∀(s:Shared) (u:Value),BindsTo s fd ⟨[u],[]⟩ [(x,u)])/\∀base:Heap,(K w.params).In base->base.Ns mainGlobals mg->(∀t∈tabs,TabAt base mg t.1 t.2.1)->aL l.prog w (K w.params) mg base (CX w) k fa fd [x] (sp w))(hsp:∀(w:World) (H:Hp) (a:Addr) (ns:List Int),ns.length<=n->ah (K w.params) H a (ns.map V.int)->pN tabs H->sp w [.ref a] H (λv H'=>v = .bl true/\pN tabs H') λ_ _ _=>False)(z0:∀(w:World) (H:Hp) (s:Shared) (e:Value) (s':Shared),CX w [] H s (λ_ _ _=>False) e s'->False):W.WalkO q loose XP YP l.row.toRowW d [] (λf vs=>PySem.call f vs):=by
 refine Fg.Qn hn hdf λw s₀ s₁ mg mb fa o pm cd doc a vs ns G Y ho hd hcd hmg hobj hints hlen hg=>?_
 have KX:=hY w _ Y;obtain⟨fd,hb,hF⟩:=F w mg fa _ KX G.T.g hmg;obtain⟨t1,t2⟩:=hT w _ Y;exact VJ KX G.T.g G.T.b G.T.builtins G.T.nolimit hg G.T.bmain (λt ht=>⟨W.codeHd_of_K KX (t1 t ht).1,(t1 t ht).2⟩) t2 hobj hints (b_ hlen hn2) hr hF hb (λH hS qi=>hsp w H a ns hlen hS qi) λH e s'=>z0 w H s₁ e s'
end L2
namespace My
open PySem PySem.Spec PyProof.Rows L2
def vC(K:W.Frag)(Pt:Addr):Sp:=λvs H Q _=>∃(a:Nat) (ns:List Int),vs = [.ref a]/\ah K H a (ns.map V.int)/\ns.length<=63/\H Pt=some (.lam kN kO)/\∀H',H' Pt=some (.lam kN kO)->Q (.bl true) H'
theorem aa7{l:W.OpenLaw}{q:Program}{loose:List Str}{XP:(Str->Option Value)->Heap->Prop}{YP:World->Heap->Prop}{d:DefRec}{K:Params->W.Frag}{c Pt:Addr}(hn:l.most=some 63)(hdf:d.params.defaults = [])(hY:∀(w:World) (h:Heap),YP w h->(K w.params).In h/\h.get? Pt=some (W.tabObj #[]))(hT:∀w:World,W.codeHdIn (K w.params) c Pt=true)(hno:∀w:World,W.noTabs (K w.params)=true)(F:∀(w:World) (mg:Str->Option Value) (fa:Addr) (h:Heap),(K w.params).In h->h.Ns mainGlobals mg->mg d.name=some (.ref fa) ->
   ∃fd:FuncData,(∀(s:Shared) (u:Value),BindsTo s fd ⟨[u],[]⟩ [("_law_script", u)])/\∀base:Heap,(K w.params).In base->base.Ns mainGlobals mg->TabAt base mg c Pt->aL l.prog w (K w.params) mg base aX 40 fa fd ["_law_script"] (vC (K w.params) Pt)) :
  W.WalkO q loose XP YP l.row.toRowW d [] (λf vs=>PySem.call f vs):=
 L2.aa8 (n:=63) (k:=40) (x:= "_law_script") (CX:=λ_=>aX) (sp:=λw=>vC (K w.params) Pt) (tabs:=[(c,Pt,kN,kO)]) hn (by decide) hdf ⟨rfl,by decide,by decide,rfl⟩ (λw h Y=>(hY w h Y).1)
  (λw h Y=>⟨λt ht=>by
   obtain rfl:t=(c,Pt,kN,kO):=by simpa using ht
   exact⟨hT w,(hY w h Y).2⟩,hno w⟩)
  (λw mg fa h KX G hmg=>by
   obtain⟨fd,h1,h2⟩:=F w mg fa h KX G hmg;exact⟨fd,h1,λbase kb nb tb=>h2 base kb nb (tb _ (iI.mpr rfl))⟩)
  (λw H a ns hl hS qi=>⟨a,ns,rfl,hS,hl,qi Pt _ (by unfold iE;simp),λH' hP=>⟨rfl,λb o e=>by
   obtain⟨t,t1,t2,t3⟩:=OD e;obtain rfl:t=(c,Pt,kN,kO):=by simpa using t1
   rw[<- t2,t3];exact hP⟩⟩) λ_ _ _ _ _ z=>z
theorem QX{K:W.Frag}{x:Str}{c Pt f:Addr}{st:Stmt}{fd:FuncData}(ht:W.tabIn K x=some (c,Pt))(a:W.nsIn K mainGlobals x=some (some (.ref f)))(F:aR K x x st f fd):fd.code = .ref c:=by
 obtain⟨oc,od,kV,doc,pm,an,cdv,ct,osl,rfl,lk,hcd⟩:=F.ex;unfold W.tabIn at ht;rw[a]at ht;simp only[lk]at ht;show cdv = .ref c;cases cdv with
 |ref c2 =>
  dsimp only at ht
  split at ht
  ·split at ht
   ·cases ht;rfl
   ·cases ht
  ·cases ht
 |_=>cases ht
theorem aaL{K:W.Frag}{x:Str}{f c P:Addr}{oc co:Value}{od cd':Option Addr}{fd:FuncData}{osl sl:Array (Option Value)}{vs:Array Value}(a:W.nsIn K mainGlobals x=some (some (.ref f)))(l:K.lookup f=some ⟨oc,od,.func fd,osl⟩)(hc:fd.code = .ref c)(l2:K.lookup c=some ⟨co,cd',.fields vs,sl⟩)(hv:(vs[11]?:Option Value)=some (.ref P)):W.tabIn K x=some (c,P):=by
 unfold W.tabIn;rw[a];simp only[l,hc,l2,hv]
theorem aC.QC{P:Program}{w:World}{K:W.Frag}{mg:Str->Option Value}{base h:Heap}{x:Str}{st:Stmt}{ps:List Str}{k:Nat}{sp:Sp}{c Pt:Addr}(A:aC K x st)(X:K.In h)(G:h.Ns mainGlobals mg)(hb:vZ x st ps)(ht:W.tabIn K x=some (c,Pt))(ok:∀{f:Addr} {fd:FuncData},aR K x x st f fd->fd.code = .ref c->aL P w K mg base (bI P w) k f fd ps sp):eP P w K mg base x ps k sp:=by
 obtain⟨f,fd,a,F⟩:=A.ex;exact⟨f,fd,ok F (QX ht a F),W.mg_of X G a,F.kp,F.binds hb⟩
theorem JC{K:W.Frag}{H:Hp}{a b:Addr}{zs:List Int}(h1:ah K H a (zs.map V.int))(h2:ah K H b (zs.map V.int)):cg K H 1 (.ref a) (.ref b) true:=by
 have:=cg.lst (K:=K) (H:=H) 0 a b _ _ (λ_=>true) h1 h2 rfl λj x y hx hy=>by
  rw[hx]at hy;cases hy;rw[bO]at hx;cases e:zs[j]? with
  |none=>rw[e]at hx;cases hx
  |some z =>
   rw[e]at hx;cases hx;have:=cg.int (K:=K) (H:=H) 0 z z;rw[G4]at this;exact this
 rw[Qi]at this;exact this
section
variable {P:Program} {w:World} {K:W.Frag} {mg:Str->Option Value} {base:Heap} {f:Addr} {fd:FuncData}
abbrev mF:Stmt:=top 82
theorem MJ:aZ ["_law_script","_law_masks","_law_known","_law_pairs","_law_order_here","_law_even","_law_cell","_law_handed_here","_law_due_here","_law_way","_law_one","_law_other"] ["_law_script"] (aA mF):=⟨rfl,rfl,rfl,by decide +kernel,rfl,by decide +kernel,by decide +kernel⟩
theorem Xv {C Pt:Addr} (F:aR K "law" "law" mF f fd) (T:Txt mg) (TC:eX K C) (xN:aG P w K mg base "_law_order" ["_law_script","_law_at"] 3 (DY K)) (lU:aG P w K mg base "_law_cell_at" ["_law_script","_law_k"] 1 (vv K))
  (kC:aG P w K mg base "_law_draws" ["_law_cell","_law_many"] 2 vw) (xI:aG P w K mg base "_law_handed" ["_law_masks","_law_draws_here"] 3 (Dw K)) (nI:aG P w K mg base "_law_steps" ["_law_masks"] 2 (vH K)) (nT:aG P w K mg base "uneven" ["order"] 2 (vJ C))
  (xP:aG P w K mg base "_law_two" ["_law_known","_law_masks","_law_draws_here"] 3 (Ei K)) (xG:aG P w K mg base "_law_due" ["_law_order_here","_law_one","_law_other","_law_even"] 5 (Dp K C)) (xC:aG P w K mg base "_law_asked" ["_law_way","_law_order_here","_law_one","_law_other"] 9 (Dh K C Pt))
  (xq:rL P w K mg base C "Order" ["self","count","pairs"] 5 (Dx K C)):aL P w K mg base aX 10 f fd ["_law_script"] (vC K Pt):=by
 refine F.ok MJ (λvs H Q E h=>?_) (λcdv A outer s H vs Q E hr h=>?_)
 ·obtain⟨a,ns,rfl,_⟩:=h
  rfl
 ·obtain⟨a,ns,rfl,hS,hns,hP,kk⟩:=h
  have nd:=MJ.nd;have hu0:=hr.units;have hu1:(A.deeper (envOfC "law" (aA mF) s.heap.objs.size f cdv)).units+1+1<cLine:=by omega
  refine⟨_,(au (aJ (i:=1) nd rfl (Or.inl rfl) (aM xN hr rfl (ae (pv 0) (ae ak ag))))
   (au (aJ (i:=2) nd rfl (Or.inl rfl) (aM nI hr rfl (ae (pv 1) ag)))
   (au (aJ (i:=3) nd rfl (Or.inl rfl) (aM xI hr rfl (ae (pv 1) (ae (aM kC hr rfl (ae (aM lU hr rfl (ae (pv 0) (ae ak ag))) (ae ak ag))) ag))))
   (au (aJ (i:=4) nd rfl (Or.inl rfl) (YH xq hr rfl (ae (bx (fh (K:=K) rfl) rfl T.len fz (ae (pv 1) ag)) (ae (pv 3) ag))))
   (au (aJ (i:=5) nd rfl (Or.inl rfl) (oJ uF (aM nT hr rfl (ae (pv 4) ag)) kR (bj _)))
   (au (cI cA rfl (dM (K:=K) rfl (ay dk (bG (ae ak (ae ak ag))) (cY (cZ (K:=K) rfl) (pv 0) (cH ak) (cH ak)))) (a_ (i:=6) nd rfl (Or.inl rfl))
   (au (Bz (aM xP hr rfl (ae (pv 2) (ae (pv 1) (ae (aM kC hr rfl (ae (pv 6) (ae ak ag))) ag (av nofun)) (av nofun)) (av nofun))) (YS (K:=K) rfl rfl (uL (a_ (i:=10) nd rfl (Or.inl rfl)) (uL (a_ (i:=11) nd rfl (Or.inl rfl)) Lp))))
   (au (aJ (i:=7) nd rfl (Or.inl rfl) (bG (ae (gJ (yd (K:=K) rfl) rfl T.list sS (ae (pv 10) ag)) (ae (gJ (yd (K:=K) rfl) rfl T.list sS (ae (pv 11) ag)) ag))))
   (au (aJ (i:=8) nd rfl (Or.inl rfl) (aM xG hr rfl (ae (pv 4) (ae (pv 10) (ae (pv 11) (ae (pv 5) ag (av nofun)) (av nofun)) (av nofun)) (av nofun))))
   (au (cI cA rfl (df rfl T.range (ae ak ag)) (a_ (i:=9) nd rfl (Or.inl rfl))
   (ax (bz (bC iA (aM xC hr rfl (ae (pv 9) (ae (pv 4) (ae (aq (aS (K:=K) rfl) (pv 7) ak (λ_ _=>rfl)) (ae (aq (aS (K:=K) rfl) (pv 7) ak (λ_ _=>rfl)) ag (av nofun)) (av nofun)) (av nofun)) (av nofun))) (aq (aS (K:=K) rfl) (pv 8) (pv 9) (λ_ _=>rfl)) (bj _)) (ax (aV jW)) bH)))
   (ax (bz (bC (K8 (K:=K) true 1 rfl hu1) (pv 7) (bG (ae (pv 10) (ae (pv 11) ag))) (bj _)) (ax (aV jW)) bH)))))))
   (ax (aV jW)))))))),?_⟩
  refine⟨_,rfl,a,ns,0,rfl,hS,λm M H0 s0 hm0 Lw hM=>?_⟩;refine⟨_,rfl,m,M,rfl,ah.of Lw,hM.len,λkn us0 H1 s1 hkn Ze Uv T7=>?_⟩;have L_:=s0.trans s1;have qm:=s1 _ _ Lw;refine⟨_,rfl,_,rfl,a,2,ns,rfl,L_.seq hS,λc H2 s2=>⟨c,8,rfl,by decide,λd ds H3 s3 hd q3 hdl hsm=>?_⟩⟩;have Mb:=s2.trans s3;refine⟨m,d,M,ds,rfl,ah.of (Mb _ _ qm),ah.of q3,hdl,hM.pos,hM.len,λL us ps H4 s4 hL q4 iw hpp hand=>?_⟩;have oV:=Mb.trans s4;have Lx:=oV _ _ qm;refine⟨_,rfl,m,_,rfl,.inl (ah.of Lx),_,rfl,λx dx hx hdx hne=>?_⟩;rw[az];have cx:Same H4 (upd (upd H4 dx (.own x)) x (.ins C dx [])):=λb o e=>by
   rw[aD (cV e hx),aD (cV e hdx)];exact e
  refine⟨x,dx,M.length,L,ps,rfl,ao,⟨us,ah.of (cx _ _ q4),eU.same cx hpp⟩,hM.pos,hM.len,hand.lt,Iq hM hand,λH5 R fr hC hO=>⟨rfl,?_⟩⟩;have jx:Same H4 H5:=λb o e=>fr b o (cx _ _ e) (cV e hx)
  have hR:=Hm hM hand hC;have G:=Iq hM hand R hC;have BW:=oV.trans jx;have BV:Same H H5:=L_.trans BW;have Zg:=jx _ _ Lx;have Zf:=BW _ _ Ze;have T9:=eU.same BW T7;have Aj:=hM.len;refine⟨_,rfl,x,M.length,R,rfl,hO,G,Aj,λve Py Mg Js=>⟨rfl,?_⟩⟩;have hev:decide (ve=V.non)=true->∀a b c,a<M.length->b<M.length->c<M.length->¬ Un M.length R a b c:=λh=>by
   have h:=uB h;subst h
   rcases Js with⟨_,no⟩|⟨_,_,_,_,e,_⟩
   ·exact no
   ·cases e
  have tX:decide (ve=V.non)=false->∃a b c,a<M.length/\b<M.length/\c<M.length/\Un M.length R a b c:=λh=>by
   have h:=of_decide_eq_false h
   rcases Js with⟨e,_⟩|⟨_,a,b,c,_,_,fst⟩
   ·exact absurd e h
   ·exact⟨a,b,c,fst.la,fst.lb,fst.lc,fst.is⟩
  generalize decide (ve=V.non)=ev at hev tX ⊢;have ZT:=BV.trans Mg;refine⟨by show 2<=sizeLine;decide,λp1 hp1=>⟨_,rfl,_,rfl,_,rfl,a,_,rfl,(ZT.trans (Same.put hp1)).seq hS,λp2 hp2=>?_⟩⟩;obtain⟨ms,Ry,hms⟩:=Ra ns (some 3) (some 19);rw[Ry];refine⟨p1,p2,_,_,rfl,rfl,Same.put hp2 _ _ ao,ao,by rw[az];show 2+ms.length<=sizeLine;exact dh (cS (by omega)),λp3 hp3=>?_⟩;generalize hB:upd (upd (upd Py p1 _) p2 _) p3 _=B;have sB:Same H5 B:=by rw[<- hB];exact Mg.trans (((Same.put hp1).trans (Same.put hp2)).trans (Same.put hp3))
  have hl3:B p3=some (.lst (([0,7]++ms).map V.int)):=by rw[<- hB,ao,eh];rfl
  clear hB;refine⟨p3,rfl,⟨_,ah.of hl3⟩,jM (K:=K) (a:=p3) (xs:=([0,7]++ms).map V.int) (λi σ H6=>∃(v7 v8 v9 v10 v11 Fb:Option V),σ = [some (.ref a),some (.ref m),some (.ref kn),some (.ref L),some (.ref x),some (.bl ev),v7,v8,v9,v10,v11,Fb]/\Same B H6)
   ⟨none,none,none,none,none,none,rfl,Same.refl _⟩ (λi σ H6 _ ⟨_,_,_,_,_,_,_,s6⟩=>ah.of (s6 _ _ hl3)) ?_ ?_⟩
  ·rintro i y σ H6 hy ⟨v7,v8,v9,v10,v11,Fb,rfl,s6⟩
   obtain⟨zc,rfl⟩:∃z,y=V.int z:=by
    rw[bO]at hy;cases e:([0,7]++ms)[i]? with
    |none=>rw[e]at hy;cases hy
    |some z=>rw[e]at hy;exact⟨z,(da hy).symm⟩
   have t6:=sB.trans s6;refine⟨_,rfl,_,rfl,_,rfl,zc,18,rfl,by decide,λd ds H7 s7 hd q7 hdl hsm=>?_⟩;have t7:=t6.trans s7;refine⟨kn,m,d,M,us0,ds,rfl,ah.of (t7 _ _ Zf),eU.same t7 T9,Uv,ah.of (t7 _ _ Zg),hM,ah.of q7,hdl,hsm,λlt t u zs ws H8 s8 hlt ht hu' hz hw=>⟨lt,_,rfl,ah.of hlt,rfl,_,_,rfl,_,_,rfl,rfl,?_⟩⟩;have t8:=t7.trans s8;have b8:Same B H8:=s6.trans (s7.trans s8);dsimp only[cD];refine⟨_,rfl,t,_,rfl,.inl (ah.of ht),λh1 hh1=>⟨_,rfl,u,_,rfl,.inl (ah.of (Same.put hh1 _ _ hu')),λh2 Ae=>⟨by show 2<=sizeLine;decide,λhl Af=>?_⟩⟩⟩;have N6:=Same.put (o:=.lst (zs.map V.int)) hh1;have Df:=Same.put (o:=.lst (ws.map V.int)) Ae;have shl:=Same.put (o:=.lst [.ref h1,.ref h2]) Af;have jZ:=(N6.trans Df).trans shl;have zU:=shl _ _ (Df _ _ (BJ (o:=.lst (zs.map V.int)) hh1));have zV:=shl _ _ (BJ (o:=.lst (ws.map V.int)) Ae);have zW:=BJ (o:=.lst [.ref h1,.ref h2]) Af;dsimp only[cD];generalize upd (upd (upd H8 h1 _) h2 _) hl _=H9 at jZ zU zV zW ⊢;clear shl N6 Df Af Ae hh1;have t9:=t8.trans jZ;have ht9:=jZ _ _ ht;have Jq:=jZ _ _ hu';refine⟨_,rfl,_,rfl,_,rfl,_,rfl,x,M.length,t,u,zs,ws,R,ev,rfl,hO.dD t9,Aj,ht9,Jq,by omega,by omega,λLd Fq k_ Sh=>?_⟩;have t10:=t9.trans k_;have b10:Same B Fq:=b8.trans (jZ.trans k_);have g1:=k_ _ _ zU;have g2:=k_ _ _ zV;have gl:=k_ _ _ zW;have gt:=k_ _ _ ht9;have gu:=k_ _ _ Jq;clear k_ zU zV zW;dsimp only[cD];refine⟨2,rfl,by decide,by decide,fP (lo:=0) (n:=(2:Int).toNat) (λj σ rN=>∃(v9:Option V),σ = [some (.ref a),some (.ref m),some (.ref kn),some (.ref L),some (.ref x),some (.bl ev),some (.int zc),some (.ref hl),some (.ref Ld),v9,some (.ref t),some (.ref u)]/\Same Fq rN)
    ⟨v10,rfl,Same.refl _⟩ ?_ ?_⟩
   ·rintro j σ rN hj ⟨v9,rfl,jY⟩
    have hj:j<2:=hj;have t11:=t10.trans jY;have ej:(0:Int)+(j:Int)=((j:Nat):Int):=by omega
    have Qp:[V.str (dE 0 M.length R zs ws ev),.str (dE 1 M.length R zs ws ev)][j]? = some (.str (dE j M.length R zs ws ev)):=by
     match j,hj with
     |0,_=>rfl
     |1,_=>rfl
    refine⟨_,rfl,_,rfl,_,rfl,hl,_,0,.ref h1,rfl,rfl,ah.of (jY _ _ gl),aH (j:=0) rfl,_,rfl,hl,_,1,.ref h2,rfl,rfl,ah.of (jY _ _ gl),aH (j:=1) rfl,j,x,M.length,h1,h2,zs,ws,R,ev,by rw[ej];rfl,hj,hO.dD t11,G,Aj,t11 _ _ (BV _ _ hP),jY _ _ g1,jY _ _ g2,by omega,by omega,hev,tX,λH12 s12=>?_⟩;refine⟨_,rfl,_,rfl,Ld,_,_,.str (dE j M.length R zs ws ev),rfl,rfl,ah.of (s12 _ _ (jY _ _ Sh)),at0 Qp,rfl,_,rfl,?_⟩;rw[cB rfl];exact cG ⟨_,rfl,jY.trans s12⟩
   ·rintro σ rN ⟨v9,rfl,jY⟩
    refine⟨_,rfl,_,rfl,_,rfl,by show 2<=sizeLine;decide,λl2 hl2=>?_⟩;have sl2:=Same.put (o:=.lst [.ref t,.ref u]) hl2;have s12:=jY.trans sl2;have its:wk K (upd rN l2 (.lst [.ref t,.ref u])) 1 [.ref h1,.ref h2] [.ref t,.ref u] λ_=>true:=by
     refine⟨rfl,λk x y hx hy=>?_⟩
     match k,hx,hy with
     |0,hx,hy=>cases hx;cases hy;exact JC (ah.of (s12 _ _ g1)) (ah.of (s12 _ _ gt))
     |1,hx,hy=>cases hx;cases hy;exact JC (ah.of (s12 _ _ g2)) (ah.of (s12 _ _ gu))
    refine⟨hl,l2,_,_,_,rfl,rfl,ah.of (s12 _ _ gl),ah.of ao,its,_,rfl,cG ?_⟩;exact⟨_,_,_,_,_,_,rfl,b10.trans s12⟩
  ·rintro σ H6 ⟨v7,v8,v9,v10,v11,Fb,rfl,s6⟩
   exact kk _ (s6 _ _ (sB _ _ (BV _ _ hP)))
end
end My
def PySem.W.Fast.tw13609148282972053062 : PySem.Program := PySem.Challenge.pw_evenclimb_k43_what_paired_and_longer_ref
theorem PySem.W.Fast.te13609148282972053062 : PySem.Challenge.pw_evenclimb_k43_what_paired_and_longer_ref = PySem.W.Fast.tw13609148282972053062 := rfl
theorem PySem.W.Fast.te10747100848068296532 : True := trivial
theorem PySem.W.Fast.tw6062634773970487436 : True := trivial
theorem PySem.W.Fast.tw11143517503196369275 : True := trivial
theorem PySem.W.Fast.tw13180896262378457131 : True := trivial
theorem PySem.W.Fast.tw8420405450642002079 : True := trivial
theorem PySem.W.Fast.tw2103400916353919147 : True := trivial
theorem PySem.W.Fast.tw8647485830812713500 : True := trivial
theorem PySem.W.Fast.tw541447285604907454 : True := trivial
theorem PySem.W.Fast.tw6841863953183145764 : True := trivial
theorem PySem.W.Fast.tw11704017982410634507 : True := trivial
theorem PySem.W.Fast.tw9607285944531482875 : True := trivial
theorem PySem.W.Fast.tw3003120564159992925 : True := trivial
theorem PySem.W.Fast.tw7349687839282442334 : True := trivial
theorem PySem.W.Fast.tw7164842626254884191 : True := trivial
theorem PySem.W.Fast.tw10365718348680475960 : True := trivial
theorem PySem.W.Fast.tw9534094654435253741 : True := trivial
theorem PySem.W.Fast.tw12685142851159270331 : True := trivial
theorem PySem.W.Fast.tw10139311476275046902 : True := trivial
theorem PySem.W.Fast.tw10526317170325598430 : True := trivial
theorem PySem.W.Fast.tw15227200541098166537 : True := trivial
theorem PySem.W.Fast.tw16533395565738407025 : True := trivial
theorem PySem.W.Fast.tw16457045232076894130 : True := trivial
theorem PySem.W.Fast.tw15726914986192370336 : True := trivial
theorem PySem.W.Fast.tw10127651831614395568 : True := trivial
theorem PySem.W.Fast.tw17956009811853439583 : True := trivial
theorem PySem.W.Fast.tw8291237633576173781 : True := trivial
theorem PySem.W.Fast.tw2419909784234284505 : True := trivial
theorem PySem.W.Fast.tw12231814475068921787 : True := trivial
theorem PySem.W.Fast.tw4972451586202198339 : True := trivial
theorem PySem.W.Fast.tw414967077998500167 : True := trivial
theorem PySem.W.Fast.tw14854229461116940735 : True := trivial
theorem PySem.W.Fast.tw10755166660384591462 : True := trivial
theorem PySem.W.Fast.tw9676660355270125750 : True := trivial
theorem PySem.W.Fast.tw15076377293235536976 : True := trivial
theorem PySem.W.Fast.tw17515228884458978107 : True := trivial
theorem PySem.W.Fast.tw9235753254410001826 : True := trivial
theorem PySem.W.Fast.tw17186361576897083238 : True := trivial
theorem PySem.W.Fast.tw12671772958283195781 : True := trivial
theorem PySem.W.Fast.tw11470136014377312305 : True := trivial
theorem PySem.W.Fast.tw9191776321352328905 : True := trivial
theorem PySem.W.Fast.tw8226025449797771531 : True := trivial
theorem PySem.W.Fast.tw15491774395778499175 : True := trivial
theorem PySem.W.Fast.tw11401223410848361091 : True := trivial
theorem PySem.W.Fast.tw5378394841188217720 : True := trivial
theorem PySem.W.Fast.tw16692354031020064090 : True := trivial
theorem PySem.W.Fast.tw16952549100043680808 : True := trivial
theorem PySem.W.Fast.tw710653143909860108 : True := trivial
theorem PySem.W.Fast.tw4064880531521751963 : True := trivial
theorem PySem.W.Fast.tw8134854867627279969 : True := trivial
theorem PySem.W.Fast.tw8485439811873335487 : True := trivial
theorem PySem.W.Fast.tw6720627534736427859 : True := trivial
theorem PySem.W.Fast.tw2772507233284602010 : True := trivial
theorem PySem.W.Fast.tw3960710564783455132 : True := trivial
theorem PySem.W.Fast.tw2868667557201901899 : True := trivial
theorem PySem.W.Fast.tw865379161543244166 : True := trivial
theorem PySem.W.Fast.tw562853876320616243 : True := trivial
theorem PySem.W.Fast.tw12913200183374655371 : True := trivial
theorem PySem.W.Fast.tw18222527952467721979 : True := trivial
theorem PySem.W.Fast.tw908948490520450739 : True := trivial
theorem PySem.W.Fast.tw2840788392957938550 : True := trivial
theorem PySem.W.Fast.tw18034987392982304223 : True := trivial
theorem PySem.W.Fast.tw7477719553911006970 : True := trivial
theorem PySem.W.Fast.tw1382360234766277747 : True := trivial
theorem PySem.W.Fast.tw10736356083270770561 : True := trivial
theorem PySem.W.Fast.tw16894788776407903253 : True := trivial
theorem PySem.W.Fast.tw15288267512548940090 : True := trivial
theorem PySem.W.Fast.tw16004147323007408263 : True := trivial
theorem PySem.W.Fast.tw650747001570141941 : True := trivial
theorem PySem.W.Fast.tw15153933017945310990 : True := trivial
theorem PySem.W.Fast.tw16646416460495998431 : True := trivial
theorem PySem.W.Fast.tw4731487440158238384 : True := trivial
theorem PySem.W.Fast.tw8507812009450963776 : True := trivial
theorem PySem.W.Fast.tw15525656008235925038 : True := trivial
theorem PySem.W.Fast.tw17732110459625695376 : True := trivial
theorem PySem.W.Fast.tw6484471100375322127 : True := trivial
theorem PySem.W.Fast.tw17623652553336635952 : True := trivial
theorem PySem.W.Fast.tw12664298591856508188 : True := trivial
theorem PySem.W.Fast.tw12226684134820477494 : True := trivial
theorem PySem.W.Fast.tw15253743518091809315 : True := trivial
theorem PySem.W.Fast.tw17957677635296142323 : True := trivial
theorem PySem.W.Fast.tw274283659540230484 : True := trivial
theorem PySem.W.Fast.tw15763993320582596962 : True := trivial
theorem PySem.W.Fast.tw2365060931351957869 : True := trivial
theorem PySem.W.Fast.tw16482621051555858189 : True := trivial
theorem PySem.W.Fast.tw7849213434355915943 : True := trivial
theorem PySem.W.Fast.tw1812564721874285675 : True := trivial
theorem PySem.W.Fast.tw15792666564897549004 : True := trivial
theorem PySem.W.Fast.tw513490445310089984 : True := trivial
theorem PySem.W.Fast.tw4392429315188083792 : True := trivial
theorem PySem.W.Fast.tw4230161860711792162 : True := trivial
theorem PySem.W.Fast.tw10969205550186181993 : True := trivial
theorem PySem.W.Fast.tw14070312160351445262 : True := trivial
theorem PySem.W.Fast.tw6748562211350044062 : True := trivial
theorem PySem.W.Fast.tw5014334690933480756 : True := trivial
theorem PySem.W.Fast.tw8695069741272773558 : True := trivial
theorem PySem.W.Fast.tw9734548015021067110 : True := trivial
theorem PySem.W.Fast.tw11988432450153484232 : True := trivial
theorem PySem.W.Fast.tw1025307513494518086 : True := trivial
theorem PySem.W.Fast.tw10766068875312627980 : True := trivial
theorem PySem.W.Fast.tw328580430952029363 : True := trivial
theorem PySem.W.Fast.tw15723897022781501844 : True := trivial
theorem PySem.W.Fast.tw1442941050791567828 : True := trivial
theorem PySem.W.Fast.tw8119153661395549626 : True := trivial
theorem PySem.W.Fast.tw4657666703181518348 : True := trivial
theorem PySem.W.Fast.tw1440642461150786473 : True := trivial
theorem PySem.W.Fast.tw3105834397578277695 : True := trivial
theorem PySem.W.Fast.tw18383185232733192009 : True := trivial
theorem PySem.W.Fast.tw9100448944728086647 : True := trivial
theorem PySem.W.Fast.tw2484944194977701857 : True := trivial
theorem PySem.W.Fast.tw8499601814345756681 : True := trivial
theorem PySem.W.Fast.tw2186488086571973472 : True := trivial
theorem PySem.W.Fast.tw2378396492214872417 : True := trivial
theorem PySem.W.Fast.tw9156017083522875974 : True := trivial
theorem PySem.W.Fast.tw11493339869671551201 : True := trivial
theorem PySem.W.Fast.tw17591748009558037930 : True := trivial
theorem PySem.W.Fast.tw5736887411138521053 : True := trivial
theorem PySem.W.Fast.tw13441125988281665216 : True := trivial
theorem PySem.W.Fast.tw17513342546151455706 : True := trivial
theorem PySem.W.Fast.tw16874662426176336168 : True := trivial
theorem PySem.W.Fast.tw14396308127802480535 : True := trivial
theorem PySem.W.Fast.tw3937467800302013101 : True := trivial
theorem PySem.W.Fast.tw2617463489290201298 : True := trivial
theorem PySem.W.Fast.tw9866205057668431849 : True := trivial
theorem PySem.W.Fast.tw14664411897479208516 : True := trivial
theorem PySem.W.Fast.tw11332437332604192996 : True := trivial
theorem PySem.W.Fast.tw12256934607070311870 : True := trivial
theorem PySem.W.Fast.tw3082030307290141212 : True := trivial
theorem PySem.W.Fast.tw17286115192482626400 : True := trivial
theorem PySem.W.Fast.tw16198057051281460691 : True := trivial
theorem PySem.W.Fast.tw15887418158312080336 : True := trivial
theorem PySem.W.Fast.tw11917868156080078507 : True := trivial
theorem PySem.W.Fast.tw9452276938744595950 : True := trivial
theorem PySem.W.Fast.tw16968424491572528242 : True := trivial
theorem PySem.W.Fast.tw10843330824840623490 : True := trivial
theorem PySem.W.Fast.tw601784488932696364 : True := trivial
theorem PySem.W.Fast.tw4876498423770760216 : True := trivial
theorem PySem.W.Fast.tw14708690136590538180 : True := trivial
theorem PySem.W.Fast.tw17218491625424381921 : True := trivial
theorem PySem.W.Fast.tw17014643492131393137 : True := trivial
theorem PySem.W.Fast.tw4911643957109485742 : True := trivial
theorem PySem.W.Fast.tw5416497766539977032 : True := trivial
theorem PySem.W.Fast.tw960310003359712898 : True := trivial
theorem PySem.W.Fast.tw6236120902036455337 : True := trivial
theorem PySem.W.Fast.tw17918643338543312594 : True := trivial
theorem PySem.W.Fast.tw16728036837168516343 : True := trivial
theorem PySem.W.Fast.tw6831284428187949371 : True := trivial
theorem PySem.W.Fast.tw2488004083468158827 : True := trivial
theorem PySem.W.Fast.tw11480924968306614136 : True := trivial
theorem PySem.W.Fast.tw9017497433774027839 : True := trivial
theorem PySem.W.Fast.tw1306025857822686153 : True := trivial
theorem PySem.W.Fast.tw15312705295836096236 : True := trivial
theorem PySem.W.Fast.tw12718652459476789930 : True := trivial
theorem PySem.W.Fast.tw15085652810898326571 : True := trivial
theorem PySem.W.Fast.tw13832046479707414400 : True := trivial
theorem PySem.W.Fast.tw5820674421871418317 : True := trivial
theorem PySem.W.Fast.tw5737034210314226045 : True := trivial
theorem PySem.W.Fast.tw4508454464834346555 : True := trivial
theorem PySem.W.Fast.tw15818848553152080477 : True := trivial
theorem PySem.W.Fast.tw8752518549518344735 : True := trivial
theorem PySem.W.Fast.tw8018908039779791516 : True := trivial
theorem PySem.W.Fast.tw1331601186406478929 : True := trivial
theorem PySem.W.Fast.tw7338780509493340083 : True := trivial
theorem PySem.W.Fast.tw11350430557422279611 : True := trivial
theorem PySem.W.Fast.tw14751415209398270831 : True := trivial
theorem PySem.W.Fast.tw9796923450530521800 : True := trivial
theorem PySem.W.Fast.tw16096284515667171606 : True := trivial
theorem PySem.W.Fast.tw1069314348610716175 : True := trivial
theorem PySem.W.Fast.tw18169972811125282293 : True := trivial
theorem PySem.W.Fast.tw15529397701969284786 : True := trivial
theorem PySem.W.Fast.tw14266928989769967200 : True := trivial
theorem PySem.W.Fast.tw8301759658559219906 : True := trivial
theorem PySem.W.Fast.tw2653450541953073169 : True := trivial
theorem PySem.W.Fast.tw9751299392565856176 : True := trivial
theorem PySem.W.Fast.tw18188544568573727254 : True := trivial
theorem PySem.W.Fast.tw577198244545827849 : True := trivial
theorem PySem.W.Fast.tw3136070376352264301 : True := trivial
theorem PySem.W.Fast.tw3192321106159309601 : True := trivial
theorem PySem.W.Fast.tw1372765839384387315 : True := trivial
theorem PySem.W.Fast.tw14450998338501611 : True := trivial
theorem PySem.W.Fast.tw16868492380212527169 : True := trivial
theorem PySem.W.Fast.tw3977280564036106890 : True := trivial
theorem PySem.W.Fast.tw6005301713740928280 : True := trivial
theorem PySem.W.Fast.tw7252402368511598380 : True := trivial
theorem PySem.W.Fast.tw11808847463655321282 : True := trivial
theorem PySem.W.Fast.tw6373742578236421879 : True := trivial
theorem PySem.W.Fast.tw15474277524330856976 : True := trivial
theorem PySem.W.Fast.tw6141943552466541419 : True := trivial
theorem PySem.W.Fast.tw12190607301367157259 : True := trivial
theorem PySem.W.Fast.tw11013449533785793497 : True := trivial
theorem PySem.W.Fast.tw12157633515476390106 : True := trivial
theorem PySem.W.Fast.tw10645160969554292940 : True := trivial
theorem PySem.W.Fast.tw15418538310241277135 : True := trivial
theorem PySem.W.Fast.tw10290278881285663473 : True := trivial
theorem PySem.W.Fast.tw1964257668061234596 : True := trivial
theorem PySem.W.Fast.tw14754057920527177836 : True := trivial
theorem PySem.W.Fast.tw4603502531235467576 : True := trivial
theorem PySem.W.Fast.tw5275350595531497542 : True := trivial
theorem PySem.W.Fast.tw4208019189882965924 : True := trivial
theorem PySem.W.Fast.tw14485001564048956676 : True := trivial
theorem PySem.W.Fast.tw4752124957621014071 : True := trivial
theorem PySem.W.Fast.tw43571597501672155 : True := trivial
theorem PySem.W.Fast.tw7402369849971882039 : True := trivial
theorem PySem.W.Fast.tw18154090653788118269 : True := trivial
theorem PySem.W.Fast.tw16290734543424374222 : True := trivial
theorem PySem.W.Fast.tw14241477486491305406 : True := trivial
theorem PySem.W.Fast.tw4486599227629255552 : True := trivial
theorem PySem.W.Fast.tw7566661924650612488 : True := trivial
theorem PySem.W.Fast.tw4914755766242695696 : True := trivial
theorem PySem.W.Fast.tw1729593750018688053 : True := trivial
theorem PySem.W.Fast.tw2549947510261492954 : True := trivial
theorem PySem.W.Fast.tw14605165380917718772 : True := trivial
theorem PySem.W.Fast.tw14372901957976005461 : True := trivial
theorem PySem.W.Fast.tw4298347169143544301 : True := trivial
theorem PySem.W.Fast.tw6467748051063293508 : True := trivial
theorem PySem.W.Fast.tw11425338862534567032 : True := trivial
theorem PySem.W.Fast.tw17735711215648987106 : True := trivial
theorem PySem.W.Fast.tw4970130281731855375 : True := trivial
theorem PySem.W.Fast.tw4367521001202363913 : True := trivial
theorem PySem.W.Fast.tw10838116695530562843 : True := trivial
theorem PySem.W.Fast.tw1264430838963825105 : True := trivial
theorem PySem.W.Fast.tw13889572476318073237 : True := trivial
theorem PySem.W.Fast.tw16250685334944209360 : True := trivial
theorem PySem.W.Fast.tw13859722560537475434 : True := trivial
theorem PySem.W.Fast.tw17414088064979519332 : True := trivial
theorem PySem.W.Fast.tw5792931063486994176 : True := trivial
theorem PySem.W.Fast.tw14909085038968527288 : True := trivial
theorem PySem.W.Fast.tw13850876052053174120 : True := trivial
theorem PySem.W.Fast.tw2607458318392275755 : True := trivial
theorem PySem.W.Fast.tw5612012900046336012 : True := trivial
theorem PySem.W.Fast.tw1761974135812842197 : True := trivial
theorem PySem.W.Fast.tw17374200802061948624 : True := trivial
theorem PySem.W.Fast.tw11896404454806027616 : True := trivial
theorem PySem.W.Fast.tw1050352521165132431 : True := trivial
theorem PySem.W.Fast.tw9190876005365332632 : True := trivial
theorem PySem.W.Fast.tw2282654533998827474 : True := trivial
theorem PySem.W.Fast.tw6327244371456013017 : True := trivial
theorem PySem.W.Fast.tw3232243295321961018 : True := trivial
theorem PySem.W.Fast.tw945463377743133695 : True := trivial
theorem PySem.W.Fast.tw12977977304646189004 : True := trivial
theorem PySem.W.Fast.tw4393928729338946773 : True := trivial
theorem PySem.W.Fast.tw13207571261471426808 : True := trivial
theorem PySem.W.Fast.tw12196173164360235164 : True := trivial
theorem PySem.W.Fast.tw15628867669588347637 : True := trivial
theorem PySem.W.Fast.tw8550281834782180455 : True := trivial
theorem PySem.W.Fast.tw7286304744722846669 : True := trivial
theorem PySem.W.Fast.tw4174917958886627370 : True := trivial
theorem PySem.W.Fast.tw3480903070147401807 : True := trivial
theorem PySem.W.Fast.tw1782803049056791574 : True := trivial
theorem PySem.W.Fast.tw14125734620994998845 : True := trivial
theorem PySem.W.Fast.tw8989524091610313805 : True := trivial
theorem PySem.W.Fast.tw18190443781635550437 : True := trivial
theorem PySem.W.Fast.tw1020290475092835751 : True := trivial
theorem PySem.W.Fast.tw3191640961259975225 : True := trivial
theorem PySem.W.Fast.tw1725045639479487698 : True := trivial
theorem PySem.W.Fast.tw9381313251281498386 : True := trivial
theorem PySem.W.Fast.tw17399680883446487495 : True := trivial
theorem PySem.W.Fast.tw18126512949790949400 : True := trivial
theorem PySem.W.Fast.tw12870139716255297181 : True := trivial
theorem PySem.W.Fast.tw9769936282914370463 : True := trivial
theorem PySem.W.Fast.tw7284395341753347292 : True := trivial
theorem PySem.W.Fast.tw16943563425759317781 : True := trivial
theorem PySem.W.Fast.tw14157897035878798694 : True := trivial
theorem PySem.W.Fast.tw9399037060673845305 : True := trivial
theorem PySem.W.Fast.tw13885625389865056102 : True := trivial
theorem PySem.W.Fast.tw17771569328354012619 : True := trivial
theorem PySem.W.Fast.tw8270697608600498076 : True := trivial
theorem PySem.W.Fast.tw3974303355648511020 : True := trivial
theorem PySem.W.Fast.tw3922428466554510308 : True := trivial
theorem PySem.W.Fast.tw6818696752325072545 : True := trivial
theorem PySem.W.Fast.tw15524784821307930208 : True := trivial
theorem PySem.W.Fast.tw494733155879926519 : True := trivial
theorem PySem.W.Fast.tw2755443487952614712 : True := trivial
theorem PySem.W.Fast.tw17746341765792527616 : True := trivial
theorem PySem.W.Fast.tw17648639466605863563 : True := trivial
theorem PySem.W.Fast.tw16787277547569841098 : True := trivial
theorem PySem.W.Fast.tw1366468717360698153 : True := trivial
theorem PySem.W.Fast.tw12508016693319763925 : True := trivial
theorem PySem.W.Fast.tw9875775791376602839 : True := trivial
theorem PySem.W.Fast.tw9268594631092357994 : True := trivial
theorem PySem.W.Fast.tw8497297783867200863 : True := trivial
theorem PySem.W.Fast.tw17515728929559351758 : True := trivial
theorem PySem.W.Fast.tw11769183100942388438 : True := trivial
theorem PySem.W.Fast.tw9165489366672887108 : True := trivial
theorem PySem.W.Fast.tw8885700247390589626 : True := trivial
theorem PySem.W.Fast.tw16368665258442480537 : True := trivial
theorem PySem.W.Fast.tw9093726309973875181 : True := trivial
theorem PySem.W.Fast.tw11767483767557277006 : True := trivial
theorem PySem.W.Fast.tw14337246046617328774 : True := trivial
theorem PySem.W.Fast.tw1588337715553363898 : True := trivial
theorem PySem.W.Fast.tw13522444083117889749 : True := trivial
theorem PySem.W.Fast.tw15687537627959820425 : True := trivial
theorem PySem.W.Fast.tw7488948259426463691 : True := trivial
theorem PySem.W.Fast.tw12503311234224324788 : True := trivial
theorem PySem.W.Fast.tw6417431834835902128 : True := trivial
theorem PySem.W.Fast.tw8815594347468515872 : True := trivial
theorem PySem.W.Fast.tw3230189300310385843 : True := trivial
theorem PySem.W.Fast.tw9321133151498932676 : True := trivial
theorem PySem.W.Fast.tw3290488236207926777 : True := trivial
theorem PySem.W.Fast.tw17134772443371265876 : True := trivial
theorem PySem.W.Fast.tw1382698877715557986 : True := trivial
theorem PySem.W.Fast.tw4583428166504862836 : True := trivial
theorem PySem.W.Fast.tw15495049911703299254 : True := trivial
theorem PySem.W.Fast.tw15831889385615809564 : True := trivial
theorem PySem.W.Fast.tw589589173256850301 : True := trivial
theorem PySem.W.Fast.tw11630932239493387183 : True := trivial
theorem PySem.W.Fast.tw15671096296096815592 : True := trivial
theorem PySem.W.Fast.tw12121099255883950569 : True := trivial
theorem PySem.W.Fast.tw7082882218006247442 : True := trivial
theorem PySem.W.Fast.tw1775168792822700679 : True := trivial
theorem PySem.W.Fast.tw9756650482730175601 : True := trivial
theorem PySem.W.Fast.tw7989895575196187741 : True := trivial
theorem PySem.W.Fast.tw4320724054712891563 : True := trivial
theorem PySem.W.Fast.tw3678799326918029295 : True := trivial
theorem PySem.W.Fast.tw17328118855054348679 : True := trivial
theorem PySem.W.Fast.tw15454549203471575790 : True := trivial
theorem PySem.W.Fast.tw10750126753030293151 : True := trivial
theorem PySem.W.Fast.tw5253014382844158672 : True := trivial
theorem PySem.W.Fast.tw12403924161704943403 : True := trivial
theorem PySem.W.Fast.tw14219273883096917207 : True := trivial
theorem PySem.W.Fast.tw8729757453635180735 : True := trivial
theorem PySem.W.Fast.tw18156329688542822807 : True := trivial
theorem PySem.W.Fast.tw12036983560210625212 : True := trivial
theorem PySem.W.Fast.tw16165916965933324853 : True := trivial
theorem PySem.W.Fast.tw11230983252566602771 : True := trivial
theorem PySem.W.Fast.tw8949049467356485969 : True := trivial
theorem PySem.W.Fast.tw6112694317039816511 : True := trivial
theorem PySem.W.Fast.tw4463281890340185148 : True := trivial
theorem PySem.W.Fast.tw5844204215211078452 : True := trivial
theorem PySem.W.Fast.tw4236588772420134649 : True := trivial
theorem PySem.W.Fast.tw2033191226527040138 : True := trivial
theorem PySem.W.Fast.tw7848454283595892562 : True := trivial
theorem PySem.W.Fast.tw8642428293282562710 : True := trivial
theorem PySem.W.Fast.tw8318003495339008222 : True := trivial
theorem PySem.W.Fast.tw7290041371174719110 : True := trivial
theorem PySem.W.Fast.tw5735487055358146894 : True := trivial
theorem PySem.W.Fast.tw5248200933924407501 : True := trivial
theorem PySem.W.Fast.tw3370391607354755620 : True := trivial
theorem PySem.W.Fast.tw17293800239114996423 : True := trivial
theorem PySem.W.Fast.tw14585945685152659950 : True := trivial
theorem PySem.W.Fast.tw14560970114375686350 : True := trivial
theorem PySem.W.Fast.tw13267222840727546568 : True := trivial
theorem PySem.W.Fast.tw10730139920160657396 : True := trivial
theorem PySem.W.Fast.tw9929042167543639176 : True := trivial
theorem PySem.W.Fast.tw8702186434503479068 : True := trivial
theorem PySem.W.Fast.tw8335094478784041294 : True := trivial
theorem PySem.W.Fast.tw8320063247154905832 : True := trivial
theorem PySem.W.Fast.tw8090655685946392265 : True := trivial
theorem PySem.W.Fast.tw7378443445410002689 : True := trivial
theorem PySem.W.Fast.tw5901680445382233284 : True := trivial
theorem PySem.W.Fast.tw23587235857210955 : True := trivial
theorem PySem.W.Fast.tw223280359601805980 : True := trivial
theorem PySem.W.Fast.tw15987946402611785327 : True := trivial
theorem PySem.W.Fast.tw15002419348714394537 : True := trivial
theorem PySem.W.Fast.tw14410070200743509587 : True := trivial
theorem PySem.W.Fast.tw13487196217342319294 : True := trivial
theorem PySem.W.Fast.tw12563559379378235745 : True := trivial
theorem PySem.W.Fast.tw1019159465528357891 : True := trivial
theorem PySem.W.Fast.tw639353857963563107 : True := trivial
theorem PySem.W.Fast.tw196743730032502625 : True := trivial
theorem PySem.W.Fast.tw18232172005624775438 : True := trivial
theorem PySem.W.Fast.tw9870072537221113613 : True := trivial
theorem PySem.W.Fast.tw9607774837744781425 : True := trivial
theorem PySem.W.Fast.tw9211222321015710515 : True := trivial
theorem PySem.W.Fast.tw8266020015191705020 : True := trivial
theorem PySem.W.Fast.tw7850122363071842995 : True := trivial
theorem PySem.W.Fast.tw7501324159215370588 : True := trivial
theorem PySem.W.Fast.tw6318859822998744259 : True := trivial
theorem PySem.W.Fast.tw5211309916897928830 : True := trivial
theorem PySem.W.Fast.tw3768851154406894659 : True := trivial
theorem PySem.W.Fast.tw3393270443618227910 : True := trivial
theorem PySem.W.Fast.tw320638252245952079 : True := trivial
theorem PySem.W.Fast.tw2779027285350435053 : True := trivial
theorem PySem.W.Fast.tw17905962734007607694 : True := trivial
theorem PySem.W.Fast.tw17769504913317190717 : True := trivial
theorem PySem.W.Fast.tw16686672721325442160 : True := trivial
theorem PySem.W.Fast.tw15471790876471518084 : True := trivial
theorem PySem.W.Fast.tw15425623747094799918 : True := trivial
theorem PySem.W.Fast.tw14312631658072870413 : True := trivial
theorem PySem.W.Fast.tw14187392392153255275 : True := trivial
theorem PySem.W.Fast.tw13671012717211430885 : True := trivial
theorem PySem.W.Fast.tw1341436631769301903 : True := trivial
theorem PySem.W.Fast.tw12498011120129718054 : True := trivial
theorem PySem.W.Fast.tw12165673037901239562 : True := trivial
theorem PySem.W.Fast.tw11912438031059629483 : True := trivial
theorem PySem.W.Fast.tw11435872435455899559 : True := trivial
theorem PySem.W.Fast.tw11223466055852580112 : True := trivial
theorem PySem.W.Fast.tw10319585733238826103 : True := trivial
theorem PySem.W.Fast.tw10232798467807231761 : True := trivial
theorem PySem.W.Fast.tw11184450710013090111 : True := trivial
theorem PySem.W.Fast.tw10341178174065306648 : True := trivial
theorem PySem.W.Fast.tw15431952650471726539 : True := trivial
theorem PySem.W.Fast.tw16797098561883988220 : True := trivial
theorem PySem.W.Fast.tw15158696003543483474 : True := trivial
theorem PySem.W.Fast.tw9836710488376928187 : True := trivial
theorem PySem.W.Fast.tw6725340507560139537 : True := trivial
theorem PySem.W.Fast.tw5657494186350373250 : True := trivial
theorem PySem.W.Fast.tw2493457010166921115 : True := trivial
theorem PySem.W.Fast.tw1711489175802370234 : True := trivial
theorem PySem.W.Fast.tw11141551574560688001 : True := trivial
theorem PySem.W.Fast.tw1845682677420095689 : True := trivial
theorem PySem.W.Fast.tw16294933339450286560 : True := trivial
theorem PySem.W.Fast.tw14970085748582343016 : True := trivial
theorem PySem.W.Fast.tw12193237344663328597 : True := trivial
theorem PySem.W.Fast.tw223473898341244374 : True := trivial
theorem PySem.W.Fast.tw476492976031409695 : True := trivial
theorem PySem.W.Fast.tw13336958411642639442 : True := trivial
theorem PySem.W.Fast.tw11048523063586098383 : True := trivial
theorem PySem.W.Fast.tw7319590753593387149 : True := trivial
theorem PySem.W.Fast.tw16433079212476855082 : True := trivial
theorem PySem.W.Fast.tw13194375901010845084 : True := trivial
theorem PySem.W.Fast.tw2812991246367257578 : True := trivial
theorem PySem.W.Fast.tw1855466660780351013 : True := trivial
theorem PySem.W.Fast.tw8738427843800328469 : True := trivial
theorem PySem.W.Fast.tw13577833028888427616 : True := trivial
theorem PySem.W.Fast.tw18311506859116336049 : True := trivial
theorem PySem.W.Fast.tw13242137686221178601 : True := trivial
theorem PySem.W.Fast.tw11089938853961002788 : True := trivial
theorem PySem.W.Fast.tw948668879086160068 : True := trivial
theorem PySem.W.Fast.tw8291098260484330935 : True := trivial
theorem PySem.W.Fast.tw8246462819232107884 : True := trivial
theorem PySem.W.Fast.tw6670542727347587685 : True := trivial
theorem PySem.W.Fast.tw5887048241121206378 : True := trivial
theorem PySem.W.Fast.tw4152528273408679020 : True := trivial
theorem PySem.W.Fast.tw17420706167156847417 : True := trivial
theorem PySem.W.Fast.tw15737201705269681696 : True := trivial
theorem PySem.W.Fast.tw15674788917509138926 : True := trivial
theorem PySem.W.Fast.tw1472769378864192640 : True := trivial
theorem PySem.W.Fast.tw1396069181377162802 : True := trivial
theorem PySem.W.Fast.tw12409217305529409999 : True := trivial
theorem PySem.W.Fast.tw10619186091722900019 : True := trivial
theorem PySem.W.Fast.tw7158999206801464660 : True := trivial
theorem PySem.W.Fast.tw15778868281701974708 : True := trivial
theorem PySem.W.Fast.tw13573545011795439828 : True := trivial
theorem PySem.W.Fast.tw3250069558819743022 : True := trivial
theorem PySem.W.Fast.tw15228330947159504873 : True := trivial
theorem PySem.W.Fast.tw14100127383020100057 : True := trivial
theorem PySem.W.Fast.tw8670145583979929839 : True := trivial
theorem PySem.W.Fast.tw7442591316616607761 : True := trivial
theorem PySem.W.Fast.tw18081352075765937709 : True := trivial
theorem PySem.W.Fast.tw17243910179548959864 : True := trivial
theorem PySem.W.Fast.tw16249867090869377509 : True := trivial
theorem PySem.W.Fast.tw15364532729944731861 : True := trivial
theorem PySem.W.Fast.tw15100078613735413343 : True := trivial
theorem PySem.W.Fast.tw14062643686026568350 : True := trivial
theorem PySem.W.Fast.tw1333729132556506648 : True := trivial
theorem PySem.W.Fast.tw12205701210001580306 : True := trivial
theorem PySem.W.Fast.tw11957395482864307700 : True := trivial
theorem PySem.W.Fast.tw10935317810873736333 : True := trivial
theorem PySem.W.Fast.tw10158613477482994841 : True := trivial
theorem PySem.W.Fast.tw7299445360772396429 : True := trivial
theorem PySem.W.Fast.tw8941970665317446760 : True := trivial
theorem PySem.W.Fast.tw8528515833396537960 : True := trivial
theorem PySem.W.Fast.tw5680710858222946706 : True := trivial
theorem PySem.W.Fast.tw4628743321177062121 : True := trivial
theorem PySem.W.Fast.tw4007464810013813139 : True := trivial
theorem PySem.W.Fast.tw13936233241097805354 : True := trivial
theorem PySem.W.Fast.tw1290023767637204751 : True := trivial
theorem PySem.W.Fast.tw12769248296415307784 : True := trivial
theorem PySem.W.Fast.tw10080510931776943878 : True := trivial
theorem PySem.W.Fast.tw16432195860782744322 : True := trivial
theorem PySem.W.Fast.tw8583677711621771977 : True := trivial
theorem PySem.W.Fast.tw14840319592158791312 : True := trivial
theorem PySem.W.Fast.tw12493326012123665807 : True := trivial
theorem PySem.W.Fast.tw9765356232968880497 : True := trivial
theorem PySem.W.Fast.tw5708043955497922054 : True := trivial
theorem PySem.W.Fast.tw4343191611101007131 : True := trivial
theorem PySem.W.Fast.tw11990154635249888956 : True := trivial
theorem PySem.W.Fast.tw4213433624840052099 : True := trivial
theorem PySem.W.Fast.tw9411086099734568546 : True := trivial
theorem PySem.W.Fast.tw9132983408986392790 : True := trivial
theorem PySem.W.Fast.tw7838847209245730505 : True := trivial
theorem PySem.W.Fast.tw24790448180574576 : True := trivial
theorem PySem.W.Fast.tw18089722434995817582 : True := trivial
theorem PySem.W.Fast.tw13888530013978567582 : True := trivial
theorem PySem.W.Fast.tw13540621668680680632 : True := trivial
theorem PySem.W.Fast.tw12085835647661922852 : True := trivial
theorem PySem.W.Fast.tw10490642862591013590 : True := trivial
theorem PySem.W.Fast.tw6160430263193199512 : True := trivial
theorem PySem.W.Fast.tw6041489228376933107 : True := trivial
theorem PySem.W.Fast.tw7172426890746385975 : True := trivial
theorem PySem.W.Fast.tw6803218611706626038 : True := trivial
theorem PySem.W.Fast.tw16657253567957631450 : True := trivial
theorem PySem.W.Fast.tw9897924293479606634 : True := trivial
theorem PySem.W.Fast.tw9379840474961260760 : True := trivial
theorem PySem.W.Fast.tw9180596354315196154 : True := trivial
theorem PySem.W.Fast.tw9015307789165128095 : True := trivial
theorem PySem.W.Fast.tw8896397926881968100 : True := trivial
namespace My
open PySem PySem.Spec PyProof.Rows L2
set_option maxHeartbeats 0 in
theorem all_mk {l:W.OpenLaw} {w:World} {K:W.Frag} {h:Heap} {mg:Str->Option Value} {fa C a0 a1 a2 a3 a4 a5 a6 a7 a8 a9 a10 a11 a12 a13 a14 aE c0 P0:Addr} (X:K.In h) (G:h.Ns mainGlobals mg) (hfa:mg "law" = some (.ref fa)) (tx:ny K)
  (cO:ClsAt K "Order" "Order.__init__" uY C) (nC:W.findIn K (.ref C) "count" = some none) (nP:W.findIn K (.ref C) "pairs" = some none) (nR:W.findIn K (.ref C) "reach" = some none) (nJ:W.findIn K (.ref C) "joins" = some none) (nM:W.findIn K (.ref C) "meets" = some none)
  (ht:W.tabIn K "longer" = some (c0,P0))
  (er:rM K a0 a1 a2 a3 a4 a5 a6 a7 a8 a9 a10 a11 a12 a13 a14 aE)
  (BI:vY K aE)
  (qT:fL K a0 a1 a2 a3 a4 a5 a6 a7 a8 a9 a10 a11 a12 a13 a14 aE a0 0)
  (qU:fL K a0 a1 a2 a3 a4 a5 a6 a7 a8 a9 a10 a11 a12 a13 a14 aE a1 1)
  (oP:fL K a0 a1 a2 a3 a4 a5 a6 a7 a8 a9 a10 a11 a12 a13 a14 aE a3 3)
  (oQ:fL K a0 a1 a2 a3 a4 a5 a6 a7 a8 a9 a10 a11 a12 a13 a14 aE a14 14)
  (rF:W.excIn K a0 gO "ValueError.__new__" = true)
  (rG:W.excIn K a1 gO "ValueError.__new__" = true)
  (rH:W.excIn K a3 gO "ValueError.__new__" = true)
  (yL:aC K "is_whole" Cd)
  (yK:aC K "is_thing" Cb)
  (zv:aC K "need_thing" CT)
  (zm:aC K "need_count" CG)
  (zu:aC K "need_pairs" CQ)
  (zz:aC K "own_row" vh)
  (yC:aC K "either" u0)
  (zF:aC K "shared" vo)
  (yB:aC K "column" uZ)
  (zD:aC K "reach_of" q8)
  (zH:aC K "twos" vq)
  (zt:aC K "need_one_way" CP)
  (yE:aC K "ends_with" u5)
  (yD:aC K "ends_of" u3)
  (zo:aC K "need_ends" CJ)
  (zB:aC K "pairs_of" vk)
  (yG:aC K "is_below" Ca)
  (yJ:aC K "is_step" u9)
  (yS:aC K "_law_cell_at" Ck)
  (y9:aC K "_law_mixed" Ct)
  (yV:aC K "_law_draws" Cm)
  (yZ:aC K "_law_flower" vb)
  (zb:aC K "_law_stack" vf)
  (yR:aC K "_law_beside" u_)
  (yP:aC K "_law_at_most" Ci)
  (zf:aC K "_law_steps" qZ)
  (y6:aC K "_law_handed" Cq)
  (za:aC K "_law_shut" Cv)
  (yH:aC K "is_chain" qY)
  (yI:aC K "is_climb" u6)
  (y8:aC K "_law_meet" Cr)
  (zC:aC K "parts_of" CZ)
  (zG:aC K "shared_part" C_)
  (zi:aC K "matches" Cw)
  (yM:aC K "join_of_meet" Ce)
  (zj:aC K "meet_of_join" Cy)
  (zI:aC K "uneven" Dd)
  (yF:aC K "five_of" B_)
  (yT:aC K "_law_class" dP)
  (uc:mM K "NotEven.__init__" "five" BZ a14)
  (zp:aC K "need_even" CK)
  (zk:aC K "need_climb" Cz)
  (zq:aC K "need_like_ends" CN)
  (zx:aC K "need_two_chains" CV)
  (zh:aC K "longer" j4)
  (zy:aC K "need_two_climbs" CW)
  (zE:aC K "road" vn)
  (zA:aC K "paired" vi)
  (yX:aC K "_law_fields" oX)
  (y7:aC K "_law_kind" vd)
  (yU:aC K "_law_climb" va)
  (yO:aC K "_law_asked" Cg)
  (yW:aC K "_law_due" Cp)
  (yQ:aC K "_law_bent" Cj)
  (zg:aC K "_law_two" vg)
  (y_:aC K "_law_order" Cu)
  (yN:aC K "law" mF) :
  ∃fd:FuncData,(∀(s:Shared) (v:Value),BindsTo s fd ⟨[v],[]⟩ [("_law_script", v)])/\∀base:Heap,K.In base->base.Ns mainGlobals mg->TabAt base mg c0 P0->aL l.prog w K mg base aX 40 fa fd ["_law_script"] (vC K P0):=by
 have T:=tx.txt X G;have TC:eX K C:=⟨cO.cl,nC,nP,nR,nJ,nM⟩;obtain⟨f,fd,a,F⟩:=yN.ex;have e:=hfa.symm.trans (W.mg_of X G a);cases e;obtain⟨oc,od,kV,doc,pm,an,cdv,ct,osl,rfl,lk,hcd⟩:=id F.ex;refine⟨W.fnOf "law" "law" (iQ mF) (gH mF) (aA mF) .none kV doc pm an cdv ct,λs v=>.of_eq rfl,λbase _ _ tb=>?_⟩;have Er:=er.errs X G;have nE:aG l.prog w K mg base "is_whole" ["value"] 1 vA:=yL.cal X G (λ_ _ _ _ _ _ us hl=>match us,hl with | [_],_=>rfl) (λF=>Xs F T);have nD:aG l.prog w K mg base "is_thing" ["count","number"] 2 vz:=yK.cal X G (λ_ _ _ _ _ _ us hl=>match us,hl with | [_,_],_=>rfl) (λF=>Xr F T nE);have sW:aG l.prog w K mg base "need_thing" ["count","number"] 3 DX:=zv.cal X G (λ_ _ _ _ _ _ us hl=>match us,hl with | [_,_],_=>rfl) (λF=>XH F T nD);have xR:aG l.prog w K mg base "need_count" ["count"] 2 DQ:=zm.cal X G (λ_ _ _ _ _ _ us hl=>match us,hl with | [_],_=>rfl) (λF=>XB F T nE);have xU:aG l.prog w K mg base "need_pairs" ["count","pairs"] 4 (DW K):=zu.cal X G (λ_ _ _ _ _ _ us hl=>match us,hl with | [_,_],_=>rfl) (λF=>XF F T sW);have xV:aG l.prog w K mg base "own_row" ["count","thing"] 1 D_:=zz.cal X G (λ_ _ _ _ _ _ us hl=>match us,hl with | [_,_],_=>rfl) (λF=>XM F T);have xu:aG l.prog w K mg base "either" ["one","other"] 1 Dq:=yC.cal X G (λ_ _ _ _ _ _ us hl=>match us,hl with | [_,_],_=>rfl) (λF=>Xf F T);have xZ:aG l.prog w K mg base "shared" ["one","other"] 1 Ee:=zF.cal X G (λ_ _ _ _ _ _ us hl=>match us,hl with | [_,_],_=>rfl) (λF=>XZ F T);have xt:aG l.prog w K mg base "column" ["rows","place"] 1 Dm:=yB.cal X G (λ_ _ _ _ _ _ us hl=>match us,hl with | [_,_],_=>rfl) (λF=>Xc F T);have xX:aG l.prog w K mg base "reach_of" ["count","pairs"] 2 (Ec K):=zD.cal X G (λ_ _ _ _ _ _ us hl=>match us,hl with | [_,_],_=>rfl) (λF=>XT F T xV xu);have nQ:aG l.prog w K mg base "twos" ["count"] 1 vI:=zH.cal X G (λ_ _ _ _ _ _ us hl=>match us,hl with | [_],_=>rfl) (λF=>X6 F T);have xT:aG l.prog w K mg base "need_one_way" ["count","reach"] 2 DT:=zt.cal X G (λ_ _ _ _ _ _ us hl=>match us,hl with | [_,_],_=>rfl) (λF=>XD F T nQ);have xv:aG l.prog w K mg base "ends_with" ["rows","things","thing"] 2 (Ds K):=yE.cal X G (λ_ _ _ _ _ _ us hl=>match us,hl with | [_,_,_],_=>rfl) (λF=>Xh F T xZ);have sV:aG l.prog w K mg base "ends_of" ["rows"] 3 (Dr K):=yD.cal X G (λ_ _ _ _ _ _ us hl=>match us,hl with | [_],_=>rfl) (λF=>Xg F T xv);have xS:aG l.prog w K mg base "need_ends" ["count","joins","meets"] 2 DR:=zo.cal X G (λ_ _ _ _ _ _ us hl=>match us,hl with | [_,_,_],_=>rfl) (λF=>XC F T nQ);have xW:aG l.prog w K mg base "pairs_of" ["count","reach"] 1 Eb:=zB.cal X G (λ_ _ _ _ _ _ us hl=>match us,hl with | [_,_],_=>rfl) (λF=>XQ F T);have xq:rL l.prog w K mg base C "Order" ["self","count","pairs"] 5 (Dx K C):=cO.cal X G (λ_ _ _ _ _ _ us hl=>match us,hl with | [_,_,_],_=>rfl) (λF=>Xm F T TC xR xU xX xT sV xt xS xW);have kB:aG l.prog w K mg base "is_below" ["order","a","b"] 1 (vx C):=yG.cal X G (λ_ _ _ _ _ _ us hl=>match us,hl with | [_,_,_],_=>rfl) (λF=>Xn F T TC);have xB:aG l.prog w K mg base "is_step" ["order","a","b"] 2 (Dy C):=yJ.cal X G (λ_ _ _ _ _ _ us hl=>match us,hl with | [_,_,_],_=>rfl) (λF=>Xq F T TC kB);have lU:aG l.prog w K mg base "_law_cell_at" ["_law_script","_law_k"] 1 (vv K):=yS.cal X G (λ_ _ _ _ _ _ us hl=>match us,hl with | [_,_],_=>rfl) (λF=>W' F T);have xM:aG l.prog w K mg base "_law_mixed" ["_law_cell","_law_place"] 1 DN:=y9.cal X G (λ_ _ _ _ _ _ us hl=>match us,hl with | [_,_],_=>rfl) (λF=>Xy F T);have kC:aG l.prog w K mg base "_law_draws" ["_law_cell","_law_many"] 2 vw:=yV.cal X G (λ_ _ _ _ _ _ us hl=>match us,hl with | [_,_],_=>rfl) (λF=>Xd F T xM);have nG:aG l.prog w K mg base "_law_flower" ["_law_many"] 1 Dv:=yZ.cal X G (λ_ _ _ _ _ _ us hl=>match us,hl with | [_],_=>rfl) (λF=>Xk F T);have pU:aG l.prog w K mg base "_law_stack" ["_law_one","_law_other","_law_places"] 1 (Eh K):=zb.cal X G (λ_ _ _ _ _ _ us hl=>match us,hl with | [_,_,_],_=>rfl) (λF=>X3 F T);have pT:aG l.prog w K mg base "_law_beside" ["_law_one","_law_other"] 1 (Dj K):=yR.cal X G (λ_ _ _ _ _ _ us hl=>match us,hl with | [_,_],_=>rfl) (λF=>W_ F T);have jh:aG l.prog w K mg base "_law_at_most" ["_law_masks","_law_a","_law_b"] 1 (rh K):=yP.cal X G (λ_ _ _ _ _ _ us hl=>match us,hl with | [_,_,_],_=>rfl) (λF=>W8 F T);have nI:aG l.prog w K mg base "_law_steps" ["_law_masks"] 2 (vH K):=zf.cal X G (λ_ _ _ _ _ _ us hl=>match us,hl with | [_],_=>rfl) (λF=>X4 F T jh);have xI:aG l.prog w K mg base "_law_handed" ["_law_masks","_law_draws_here"] 3 (Dw K):=y6.cal X G (λ_ _ _ _ _ _ us hl=>match us,hl with | [_,_],_=>rfl) (λF=>Xl F T nI jh);have xO:aG l.prog w K mg base "_law_shut" ["_law_masks","_law_both"] 1 (Eg K):=za.cal X G (λ_ _ _ _ _ _ us hl=>match us,hl with | [_,_],_=>rfl) (λF=>X2 F T);have iO:aG l.prog w K mg base "is_chain" ["order","things"] 3 (rn K C):=yH.cal X G (λ_ _ _ _ _ _ us hl=>match us,hl with | [_,_],_=>rfl) (λF=>Xo F T TC nD kB);have lT:aG l.prog w K mg base "is_climb" ["order","things"] 4 (vy K C):=yI.cal X G (λ_ _ _ _ _ _ us hl=>match us,hl with | [_,_],_=>rfl) (λF=>Xp F T TC iO xB);have xK:aG l.prog w K mg base "_law_meet" ["_law_masks","_law_a","_law_b"] 1 (DK K):=y8.cal X G (λ_ _ _ _ _ _ us hl=>match us,hl with | [_,_,_],_=>rfl) (λF=>Xx F T);have kD:aG l.prog w K mg base "parts_of" ["chain"] 1 (vG K):=zC.cal X G (λ_ _ _ _ _ _ us hl=>match us,hl with | [_],_=>rfl) (λF=>XR F T);have yb:aG l.prog w K mg base "shared_part" ["order","one","other"] 1 (Ef K C):=zG.cal X G (λ_ _ _ _ _ _ us hl=>match us,hl with | [_,_,_],_=>rfl) (λF=>X1 F T TC);have xQ:aG l.prog w K mg base "matches" ["order","one","other"] 2 (DG K C):=zi.cal X G (λ_ _ _ _ _ _ us hl=>match us,hl with | [_,_,_],_=>rfl) (λF=>Xw F T kD yb);have nF:aG l.prog w K mg base "join_of_meet" ["order","a","b","c"] 1 (vB C):=yM.cal X G (λ_ _ _ _ _ _ us hl=>match us,hl with | [_,_,_,_],_=>rfl) (λF=>Xt F T TC);have nO:aG l.prog w K mg base "meet_of_join" ["order","a","b","c"] 1 (vF C):=zj.cal X G (λ_ _ _ _ _ _ us hl=>match us,hl with | [_,_,_,_],_=>rfl) (λF=>Xz F T TC);have nT:aG l.prog w K mg base "uneven" ["order"] 2 (vJ C):=zI.cal X G (λ_ _ _ _ _ _ us hl=>match us,hl with | [_],_=>rfl) (λF=>X7 F T TC nF nO);have xA:aG l.prog w K mg base "five_of" ["order","triple"] 2 (Du K C):=yF.cal X G (λ_ _ _ _ _ _ us hl=>match us,hl with | [_,_],_=>rfl) (λF=>Xj F T TC nF nO);have xE:aG l.prog w K mg base "_law_class" ["_law_e"] 1 (Dk λC j=>fL K a0 a1 a2 a3 a4 a5 a6 a7 a8 a9 a10 a11 a12 a13 a14 aE C j):=yT.cal X G (λ_ _ _ _ _ _ us hl=>match us,hl with | [_],_=>rfl) (λF=>Xa F T Er);have Fe:=uc.fl;have xo:rK l.prog w K mg base a14 "NotEven" ["self","five"] 1 (vt a14 "five" Bp):=uc.cal Er.NotEven (λ_ _ _ _ _ _ us hl=>match us,hl with | [_,_],_=>rfl) (λF ic=>W6 F Er BI ic Fe);have yi:eP l.prog w K mg base "need_even" ["order"] 3 (DS C a14):=zp.nU X G (λ_ _ _ _ _ _ us hl=>match us,hl with | [_],_=>rfl) (λF=>X_ F T nT xA xo);have tH:eP l.prog w K mg base "need_climb" ["order","things"] 5 (DP K C a1):=zk.nU X G (λ_ _ _ _ _ _ us hl=>match us,hl with | [_,_],_=>rfl) (λF=>X9 F T TC Er rG lT);have nY:eP l.prog w K mg base "need_like_ends" ["one","other"] 1 (vD K a3):=zq.nU X G (λ_ _ _ _ _ _ us hl=>match us,hl with | [_,_],_=>rfl) (λF=>Ya F T Er rH);have yj:eP l.prog w K mg base "need_two_chains" ["order","one","other"] 6 (Ej K C a0 a3):=zx.nU X G (λ_ _ _ _ _ _ us hl=>match us,hl with | [_,_,_],_=>rfl) (λF=>Yb F T TC Er rF iO nY);have nX:eP l.prog w K mg base "longer" ["order","one","other"] 7 (vE K C a0 a3 a14 P0):=zh.QC X G (λ_ _ _ _ _ _ us hl=>match us,hl with | [_,_,_],_=>rfl) ht (λF hc=>X8 F hc tb T TC yj yi xQ);have yk:eP l.prog w K mg base "need_two_climbs" ["order","one","other"] 6 (Ek K C a1 a3):=zy.nU X G (λ_ _ _ _ _ _ us hl=>match us,hl with | [_,_,_],_=>rfl) (λF=>Yc F T TC Er tH nY);have xY:aG l.prog w K mg base "road" ["start","middle","end"] 1 Ed:=zE.cal X G (λ_ _ _ _ _ _ us hl=>match us,hl with | [_,_,_],_=>rfl) (λF=>XX F T);have yl:eP l.prog w K mg base "paired" ["order","one","other"] 8 (Ea K C a1 a3 a14 P0):=zA.nU X G (λ_ _ _ _ _ _ us hl=>match us,hl with | [_,_,_],_=>rfl) (λF=>Yd F T TC yk nX kD xY);have xH:aG l.prog w K mg base "_law_fields" [] 1 Dt:=yX.cal X G (λ_ _ _ _ _ _ us hl=>match us,hl with | [],_=>rfl) (λF=>Xi F T);have xJ:aG l.prog w K mg base "_law_kind" ["_law_draws_here","_law_family"] 2 (Dz K):=y7.cal X G (λ_ _ _ _ _ _ us hl=>match us,hl with | [_,_],_=>rfl) (λF=>Xu F T nG pU xH pT xO);have xF:aG l.prog w K mg base "_law_climb" ["_law_known","_law_masks","_law_a","_law_b","_law_draws_here"] 2 (Dl K):=yU.cal X G (λ_ _ _ _ _ _ us hl=>match us,hl with | [_,_,_,_,_],_=>rfl) (λF=>Xb F T jh);have xC:aG l.prog w K mg base "_law_asked" ["_law_way","_law_order_here","_law_one","_law_other"] 9 (Dh K C P0):=yO.cal X G (λ_ _ _ _ _ _ us hl=>match us,hl with | [_,_,_,_],_=>rfl) (λF=>W7 F T TC Er qT qU oP oQ yl nX xE);have xG:aG l.prog w K mg base "_law_due" ["_law_order_here","_law_one","_law_other","_law_even"] 5 (Dp K C):=yW.cal X G (λ_ _ _ _ _ _ us hl=>match us,hl with | [_,_,_,_],_=>rfl) (λF=>Xe F T iO lT);have xD:aG l.prog w K mg base "_law_bent" ["_law_things","_law_draws_here","_law_count"] 1 (Di K):=yQ.cal X G (λ_ _ _ _ _ _ us hl=>match us,hl with | [_,_,_],_=>rfl) (λF=>W9 F T);have xP:aG l.prog w K mg base "_law_two" ["_law_known","_law_masks","_law_draws_here"] 3 (Ei K):=zg.cal X G (λ_ _ _ _ _ _ us hl=>match us,hl with | [_,_,_],_=>rfl) (λF=>X5 F T xK xF xD);have xN:aG l.prog w K mg base "_law_order" ["_law_script","_law_at"] 3 (DY K):=y_.cal X G (λ_ _ _ _ _ _ us hl=>match us,hl with | [_,_],_=>rfl) (λF=>XJ F T lU kC xJ);exact(Xv F T TC xN lU kC xI nI nT xP xG xC xq).mono (by decide)
end My
open PySem PySem.W PyProof.Rows
set_option maxRecDepth 100000 in
set_option maxHeartbeats 0 in
theorem PySem.Challenge.cw_evenclimb_k43_what_paired_and_longer_ref_holds : PySem.Challenge.rw_evenclimb_k43_what_paired_and_longer_ref.Holds := by
 w_on;o_law;k_head;(case hw=>w_witness2)
 k_fill
 refine' My.aa7 (l:=PySem.Challenge.rw_evenclimb_k43_what_paired_and_longer_ref) rfl rfl (λw h Y=>⟨PySem.W.km_in_of Y,PySem.W.km_tabs_of Y _ (List.Mem.head _)⟩) ?hT ?Wz ?F
 case F =>
  intro w mg fa h KX G hmg
  refine' My.all_mk KX G hmg ?tx ?cO ?nC ?nP ?nR ?nJ ?nM ?ht ?er ?BI ?qT ?qU ?oP ?oQ ?rF ?rG ?rH ?yL ?yK ?zv ?zm ?zu ?zz ?yC ?zF ?yB ?zD ?zH ?zt ?yE ?yD ?zo ?zB ?yG ?yJ ?yS ?y9 ?yV ?yZ ?zb ?yR ?yP ?zf ?y6 ?za ?yH ?yI ?y8 ?zC ?zG ?zi ?yM ?zj ?zI ?yF ?yT ?uc ?zp ?zk ?zq ?zx ?zh ?zy ?zE ?zA ?yX ?y7 ?yU ?yO ?yW ?yQ ?zg ?y_ ?yN
  (case tx=>(refine' My.ny.mk' ?l1 ?l2 ?l3 ?l4 ?l5 ?l6 ?l7 ?l8 ?l9 ?l10 ?Bd ?Be ?Bf ?Bg ?Bh ?Bi ?m);(case l1=>k_is);(case l2=>k_is);(case l3=>k_is);(case l4=>k_is);(case l5=>k_is);(case l6=>k_is);(case l7=>k_is);(case l8=>k_is);(case l9=>k_is);(case l10=>k_is);(case Bd=>k_is);(case Be=>k_is);(case Bf=>k_is);(case Bg=>k_is);(case Bh=>k_is);(case Bi=>k_is);(case m=>k_is);skip)
  (case cO=>(refine' My.ClsAt.mk' ?ns ?pg ?hd ?po ?sa ?mk ?kc ?a ?i ?l ?c ?k);(case ns=>k_is);(case pg=>k_is);(case hd=>k_is);(case po=>k_is);(case sa=>k_is);(case mk=>k_is);(case kc=>k_is);(case a=>k_is);(case i=>k_is);(case l=>k_is);(case c=>k_is);(case k=>k_is))
  (case nC|nP|nR|nJ|nM=>k_is)
  (case ht=>((refine' My.aaL ?a ?l ?c ?l2 ?v);(case a=>k_is);(case l=>k_is);(case c=>exact rfl);(case l2=>k_is);(case v=>exact rfl)))
  (case er=>(refine' L2.rM.mk ?e0 ?e1 ?e2 ?e3 ?e4 ?e5 ?e6 ?e7 ?e8 ?e9 ?e10 ?yr ?Rn ?Ro ?Rp ?Rq ?yt);(case e0=>k_is);(case e1=>k_is);(case e2=>k_is);(case e3=>k_is);(case e4=>k_is);(case e5=>k_is);(case e6=>k_is);(case e7=>k_is);(case e8=>k_is);(case e9=>k_is);(case e10=>k_is);(case yr=>k_is);(case Rn=>k_is);(case Ro=>k_is);(case Rp=>k_is);(case Rq=>k_is);(case yt=>k_is))
  (case BI=>(refine' L2.vY.mk ?a ?b ?c);(case a=>k_is);(case b=>k_is);(case c=>k_is))
  (case qT|qU|oP|oQ=>(refine' L2.fL.mk (L2.iN.mk ?x1 ?x2 ?x3 ?x4 ?x5 ?x6 ?x7) ?x8 ?x9 ?x10 ?k0 ?k1 ?k2 ?k3 ?k4 ?k5 ?k6 ?k7 ?k8 ?k9 ?k10 ?k11 ?k12 ?k13 ?k14);(case x1=>k_is);(case x2=>k_is);(case x3=>k_is);(case x4=>k_is);(case x5=>k_is);(case x6=>k_is);(case x7=>k_is);(case x8=>kts_exm);(case x9=>kit_is);(case x10=>kit_is);(case k0=>kit_is);(case k1=>kit_is);(case k2=>kit_is);(case k3=>kit_is);(case k4=>kit_is);(case k5=>kit_is);(case k6=>kit_is);(case k7=>kit_is);(case k8=>kit_is);(case k9=>kit_is);(case k10=>kit_is);(case k11=>kit_is);(case k12=>kit_is);(case k13=>kit_is);(case k14=>kit_is))
  (case rF|rG|rH=>k_exc)
  (case yL|yK|zv|zm|zu|zz|yC|zF|yB|zD|zH|zt|yE|yD|zo|zB|yG|yJ|yS|y9|yV|yZ|zb|yR|yP|zf|y6|za|yH|yI|y8|zC|zG|zi|yM|zj|zI|yF|yT=>(refine' My.aC.mk' ?a ?l ?c ?k);(case a=>k_is);(case l=>k_is);(case c=>k_is);(case k=>k_is))
  (case uc=>(refine' My.mM.mk' ?l ?ns ?sk ?i ?x ?fn ?lf ?c ?k ?sa ?no ?ob ?hd ?ng);(case l=>k_is);(case ns=>k_is);(case sk=>(first|rfl|decide +kernel));(case i=>k_is);(case x=>k_exc);(case fn=>k_is);(case lf=>k_is);(case c=>k_is);(case k=>k_is);(case sa=>k_is);(case no=>k_is);(case ob=>k_is);(case hd=>k_is);(case ng=>k_is))
  (case zp|zk|zq|zx|zh|zy|zE|zA|yX|y7|yU|yO|yW|yQ|zg|y_|yN=>(refine' My.aC.mk' ?a ?l ?c ?k);(case a=>k_is);(case l=>k_is);(case c=>k_is);(case k=>k_is))
 case hT=>(intro w;kernel_rfl)
 case Wz=>(intro w;kernel_rfl)
