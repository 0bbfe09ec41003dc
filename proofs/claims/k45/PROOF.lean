import PyProof.Rows.All
import KE.KNest
import KE.KRevSl
import KE.KSortAsk
import KE.KTryMore
import KE.RegKIsAll
import KE.RegKTryMore
import Lean
import OpenK.AllK
import PyProof.Dict
import PyProof.EqAt
import PyProof.EqKinds
import PyProof.ExcAttrAll.ValueError
import PyProof.ExcBaseAll.ValueError
import PyProof.ExcInit
import PyProof.FString
import PyProof.InstStoreFacts
import PyProof.ListRange
import PyProof.NeKinds
import PyProof.NsDelKeeps
import PyProof.ReprHeadsTuple
import PyProof.ReprNest
import PyProof.TupleCall
import Wide.All
import Wide.FinOn
import PySem.Challenge.RW_evenclimb_k45_chains_made_longer
set_option Elab.async false
set_option linter.all false
set_option bootstrap.genMatcherCode false
set_option maxRecDepth 100000
set_option maxHeartbeats 8000000
noncomputable section
def ai:=@PySem.wpAny_bind
def au:=@List.length_map
def ay:=@List.getElem?_eq_getElem
def aH:=@PySem.wpAny_pure
def aN:=@List.getD_eq_getElem?_getD
def aR:=@PySem.Heap.lt_size
noncomputable def aU:=@PySem.Heap.get?_push_of_some
def aW:=@Nat.le_refl
def bx:=@List.mem_cons
def bE:=@Nat.ne_of_lt
def bJ:=@Bool.and_eq_true
def bN:=@List.getElem?_eq_some_iff
def bQ:=@Ne.symm
def bU:=@List.size_toArray
def bX:=@List.getElem?_map
def b9:=@List.mem_cons_self
def b_:=@Nat.le_trans
def ck:=@List.mem_cons_of_mem
def cn:=@PySem.Heap.get?_push_size
def cx:=@decide_eq_false
def cy:=@decide_eq_true
def cA:=@List.length_append
def cF:=@PySem.PassesOwn.never
def cJ:=@decide_eq_true_iff
def cR:=@List.mem_filter
def cS:=@List.mem_map
def cT:=@PySem.boot_len
def cX:=@List.map_cons
def cY:=@Nat.lt_of_lt_of_le
def df:=@Option.some.inj
def dh:=@PySem.Paired.length
def dm:=@Bool.eq_iff_iff
def dq:=@List.lookup_cons
def dr:=@List.mem_of_getElem?
def du:=@PyProof.Rows.boot_isinstance
def dw:=@PySem.wpAny_field
def dM:=@Nat.lt_irrefl
def dO:=@Nat.ne_of_gt
def dW:=@Int.toNat_natCast
def dY:=@List.map_map
def dZ:=@PySem.W.mg_of
def d8:=@PySem.wpAny_mono
def eB:=@Nat.le_of_lt
def eD:=@Nat.zero_le
def eE:=@PySem.Heap.size_push
def eM:=@PySem.F.plainAttrs_list
def ft:=@Int.zero_add
def fu:=@List.getElem_mem
def fw:=@List.mem_range
def fz:=@List.not_mem_nil
def fB:=@PySem.wpAny_holding
def fK:=@or_false
def fO:=@Array.length_toList
def fP:=@Bool.not_eq_true'
def fS:=@PySem.W.mg_none_of
def fX:=@List.all_eq_true
def f6:=@decide_eq_false_iff_not
def gx:=@List.map_append
def gy:=@List.mem_append
def gB:=@List.mem_append_right
def gO:=@Bool.true_and
def gR:=@beq_iff_eq
def g9:=@if_false
def h_:=@List.append_nil
def ie:=@List.getElem_of_mem
def ig:=@List.mem_singleton
noncomputable def ik:=@PySem.Heap.get?_update_other
def il:=@PySem.Heap.get?_update_self
noncomputable def iq:=@PySem.mem_of_lookup
noncomputable def iE:=@List.getElem?_append_right
def iF:=@List.getElem_map
noncomputable def iG:=@List.nodup_cons
def iI:=@PySem.W.kia_one
def iP:=@if_true
def iZ:=@Bool.false_eq_true
def je:=@List.append_assoc
def jf:=@List.getElem?_append_left
def jg:=@List.range_succ
def jh:=@PySem.F.slot_list_append
def ji:=@PySem.wpAny_seqItems
def jm:=@beq_eq_false_iff_ne
def jN:=@List.ext_getElem
def jO:=@List.length_cons
def jP:=@List.length_drop
def jQ:=@PySem.F.type_list_append
def jR:=@PySem.codeAny_mono
def jS:=@PySem.wpAny_truthy_bool
def kJ:=@List.length_range
def kK:=@List.length_take
def kL:=@List.mem_append_left
def kO:=@PySem.F.slot_list_index
def kP:=@PySem.call_meets
def kQ:=@PySem.wpAny_call
def kR:=@PySem.wpAny_newObj_type
def lg:=@decide_eq_decide
def lN:=@Array.getElem?_eq_some_iff
def lO:=@Bool.false_and
def lQ:=@Int.le_refl
def lR:=@List.mem_flatMap
def lS:=@List.pairwise_iff_getElem
def lU:=@PySem.F.slot_zip_next
def lV:=@PySem.Heap.get?_update_ne
noncomputable def lW:=@PySem.numAt_eq
def lX:=@PySem.wpAny_Call_Name_kw
def lY:=@PySem.wpAny_call_entry
def m_:=@Int.emod_nonneg
def nj:=@List.getElem_idxOf
def nq:=@List.getElem_range
def nr:=@List.idxOf_lt_length_iff
noncomputable def nu:=@List.map_congr_left
def ny:=@List.map_drop
def nz:=@List.pairwise_map
noncomputable def nA:=@List.take_length
def nB:=@Nat.lt_of_le_of_lt
def nD:=@Nat.lt_succ_self
def nI:=@PyProof.Rows.callWith_type1
def nL:=@PySem.Obj.data_mapFields
def nO:=@PySem.wpAny_attempt
def nQ:=@PySem.wpAny_callSpecial?_slot
def nT:=@PySem.wpAny_passesOwn
def nU:=@PySem.wpAny_setField_rec
def nW:=@PySem.wpAny_standAt
def pR:=@Int.le_trans
def pT:=@List.any_cons
def pU:=@List.filter_append
def pV:=@List.find?_cons
def pW:=@List.forIn_cons
def pX:=@List.forIn_nil
def pZ:=@List.getElem?_range
def p6:=@List.length_filter_le
def p7:=@List.length_singleton
def p8:=@List.take_add_one
def p9:=@List.take_of_length_le
def qa:=@Nat.le_of_not_lt
def qc:=@Nat.le_succ
def qe:=@Option.bind_some
def qg:=@PySem.F.plain_extend_loop
noncomputable def qh:=@PySem.F.type_list_index
def qi:=@PySem.intItems_at
def qj:=@PySem.wpAny_rule
def qw:=@beq_self_eq_true
def rW:=@of_decide_eq_true
def sZ:=@Int.emod_lt_of_pos
def tj:=@Int.eq_ofNat_of_zero_le
def tm:=@Int.not_lt
def tG:=@List.cons.injEq
def tH:=@List.filterMap_cons
def tI:=@List.flatMap_cons
def tK:=@List.getElem?_set_ne
def tL:=@List.getElem_inj
def tM:=@List.map_nil
noncomputable def tO:=@List.pairwise_lt_range
def tP:=@List.replicate_succ
def tR:=@Nat.and_assoc
def tS:=@PyProof.Rows.listItems_at
def tT:=@PySem.Calls.evalArgs_plain
def tU:=@PySem.Heap.size_update
def tV:=@PySem.Obj.isFreed_of_fields
def tW:=@PySem.ReprIs.int
noncomputable def tX:=@PySem.codeAny_builtin
noncomputable def tY:=@PySem.int_text_length_le
def tZ:=@PySem.wpAny_execs_nil
def t_:=@PySem.wpAny_letGo
def ua:=@PySem.wpAny_loadPart_at
def ub:=@PySem.wpAny_setField
def uc:=@PySem.wpAny_updateSeq
def w8:=@Bool.or_false
def w9:=@Classical.choose_spec
def xg:=@Decidable.byContradiction
def xl:=@Int.le_of_lt
def xo:=@List.any_eq_true
def xq:=@List.drop_zero
def xt:=@List.filter_cons
def xu:=@List.filter_map
noncomputable def xv:=@List.flatMap_append
def xA:=@List.flatMap_def
def xB:=@List.flatten_cons
def xC:=@List.getElem?_set_self
def xD:=@List.nodup_nil
def xE:=@List.of_mem_zip
def xF:=@List.zip_cons_cons
def xG:=@Nat.and_comm
def xH:=@Nat.and_self
def xI:=@Nat.lt_succ_of_lt
def xJ:=@Nat.not_lt_zero
def xK:=@Option.getD_some
noncomputable def xM:=@Option.map_some
def xN:=@Option.some.injEq
def xO:=@PyProof.Rows.get?_update_seq
def xP:=@PyProof.Rows.slot_tuple_getitem
def xQ:=@PySem.Calls.callWith_builtin
def xR:=@PySem.F.args_zip_next_1
def xS:=@PySem.F.entry_zip_next
def xT:=@PySem.F.excBase_ValueError
def xU:=@PySem.F.slot_bool_hash
def xV:=@PySem.F.slot_tuple_iterator_next
def xW:=@PySem.Heap.get?_none_of_le
def xX:=@PySem.Heap.size_after_update
def xY:=@PySem.Paired.snoc
def xZ:=@PySem.SeqAt.EqAt.bool_bool
def yb:=@PySem.SeqAt.EqAt.same
def yc:=@PySem.nums_intItems
def yd:=@PySem.seqIndex_of
def ye:=@PySem.sizeLine_eq
def yf:=@PySem.wpAny_newList
noncomputable def yg:=@PySem.wpAny_onRaise
def yh:=@PySem.wpAny_pyIter_list
def yi:=@PySem.wpAny_specialOf
def zm:=@dite_true
def GZ:=@Array.forIn_toList
def G4:=@Bool.and_false
def G5:=@Bool.and_true
def G6:=@Bool.not_eq_false'
noncomputable def G7:=@Bool.not_false
def G8:=@Bool.or_eq_true
def G_:=@Classical.byContradiction
def He:=@List.all_cons
def Hf:=@List.dropLast_concat_getLast
def Hg:=@List.filter_congr
def Hh:=@List.flatMap_nil
def Hi:=@List.foldl_cons
def Hj:=@List.getElem?_replicate
def Hk:=@List.length_nil
def Hl:=@List.length_replicate
def Hm:=@List.length_set
def Hn:=@List.map_id'
def Ho:=@List.nodup_append
def Hq:=@List.nodup_range
def Hr:=@List.zipIdx_cons
def Hs:=@List.zipIdx_nil
def Ht:=@Nat.add_comm
def Hu:=@Nat.le_add_right
def Hv:=@Nat.le_of_eq
def Hw:=@Nat.lt_trans
def Hx:=@Nat.min_eq_left
def Hy:=@Nat.min_eq_right
def Hz:=@Nat.min_self
def HB:=@Nat.sub_self
def HF:=@PySem.Around.under_plainId
def HJ:=@PySem.Calls.spliced_cons
def HN:=@PySem.Calls.spliced_nil
def HQ:=@PySem.Code.quiet_builtin
def HR:=@PySem.F.args_list_index_2
def HS:=@PySem.F.entry_extend_loop
def HW:=@PySem.F.entry_list_index
def HX:=@PySem.F.slot_dict_get
def HY:=@PySem.F.slot_list_extend
def H_:=@PySem.Heap.get?_push_at
def Ia:=@PySem.SeqAt.EqAt.of_refs
def Ib:=@PySem.SeqAt.list_indexAt
def Ic:=@PySem.W.callWith_K
def Ie:=@PySem.codeAny_call_builtin
def Ig:=@PySem.wpAny_assign_Name
def Ih:=@PySem.wpAny_comprehension_free
def Ii:=@PySem.wpAny_eqBool_int
def Ij:=@PySem.wpAny_pyIter_tuple
def Ik:=@PySem.wpAny_pyIter_zip
def Il:=@PySem.wpAny_updateSeq_pair
def RV:=@Int.fdiv_eq_ediv_of_nonneg
def RX:=@List.eraseIdx_cons_succ
def RZ:=@List.getElem?_take_of_lt
def R0:=@List.length_pos_of_mem
def R1:=@List.mem_or_eq_of_mem_set
def R3:=@List.not_of_lt_findIdx
def R4:=@List.pairwise_flatMap
def R5:=@Nat.lt_of_succ_lt_succ
noncomputable def R7:=@PySem.F.args_dict_get_2
def R8:=@PySem.F.args_tuple_iterator_next_1
def R9:=@PySem.F.entry_dict_get
def R_:=@PySem.F.entry_tuple_iterator_next
def Sb:=@PySem.F.type_list_extend
def Sd:=@PySem.W.cellsFrom_some
def Se:=@PySem.plainObj_wpAny_Assign_Attribute

set_option genSizeOf false
namespace L2
open PySem PySem.Spec PyProof.Rows
abbrev Key:=Sum Int Str
noncomputable def oU:Int->Value->Bool
 |k,.bool b=>k==(if b then 1 else 0)
 |_,_=>false
noncomputable def lz:Key->Value->Bool
 |.inl k,v=>Value.isInt k v||oU k v
 |.inr x,v=>Value.isStrOf x v
noncomputable def XJ(w:World):Key->Int
 |.inl k=>hashInt k
 |.inr x=>hashStr w x
theorem Xq{k:Int}{v:Value}(h:oU k v=true):∃b:Bool,k=(if b then 1 else 0)/\v=Value.bool b:=by
 cases v with
 |bool b=>exact⟨b,by simpa[oU]using h,rfl⟩
 |_=>simp[oU]at h
theorem iQ:∀{k:Key} {v:Value},lz k v=true->(∃i t,k=Sum.inl i/\v=Value.int i t)\/(∃x t,k=Sum.inr x/\v=Value.str x t)\/(∃b:Bool,k=Sum.inl (if b then 1 else 0)/\v=Value.bool b)
 |.inl i,v,h=>by
  rcases(G8 _ _).mp (show(Value.isInt i v||oU i v)=true from h)with h|h
  ·obtain⟨t,e⟩:=Value.isInt_shape (k:=i) (v:=v) h
   exact .inl ⟨i,t,rfl,e⟩
  ·obtain⟨b,e,e'⟩:=Xq h
   exact .inr (.inr ⟨b,by rw[e],e'⟩)
 |.inr x,v,h=>by
  obtain⟨t,e⟩:=Value.isStrOf_shape (x:=x) (v:=v) h;exact .inr (.inl ⟨x,t,rfl,e⟩)
theorem XQ(i:Int)(t:Tok):lz (.inl i) (.int i t)=true:=by simp[lz,Value.isInt]
theorem XR(x:Str)(t:Tok):lz (.inr x) (.str x t)=true:=by simp[lz,Value.isStrOf]
theorem XM(b:Bool):lz (.inl (if b then 1 else 0)) (.bool b)=true:=by cases b<;>simp[lz,oU]
theorem V8{prog:Program}{w:World}{A:Around}{E:Value->Shared->Prop}{s:Shared}{b:Bool}{Q:Int->Shared->Prop}(h:Q (hashInt (if b then 1 else 0)) {s with toks:=s.toks+1}):
  wpAny (model prog w) A (pyHash (.bool b)) Q E s:=by
 have hr:=rawHash_range (if b then 1 else 0);have hT:s.TypeIs (.bool b) "bool" :=rfl;unfold pyHash;have hv:[Value.bool b].any Value.onHeap=false:=rfl;refine ai ?_;rw[cRoomFor,if_neg (by rw[hv];exact Bool.false_ne_true)];refine aH ?_;refine ai (yi hT xU.lookup ?_);show wpAny _ _ (if(some (Value.builtin "int.__hash__")==some Value.none)=true then _ else _) Q E s;rw[if_neg (by rw[beq_builtin_none];exact Bool.false_ne_true)];refine ai (yi hT xU.lookup ?_);show wpAny _ _ (callSpecialIfBoundUnlessNone? (.bool b) "__hash__" _>>=_) Q E s;refine ai (wpAny_callSpecialIfBoundUnlessNone?_slot hT xU
  (lY xU hT entry_int_hash
   (show wpAny _ _ (do ret (<- mkInt (rawHash (if b then 1 else 0)))) _ _ s from wpAny_ret_mkInt ?_) (args_int_hash _)))
 show wpAny _ _ (if(decide (-(2:Int) ^ 63<=rawHash (if b then 1 else 0))&&decide (rawHash (if b then 1 else 0)<2 ^ 63))=true then _ else _) Q E _;rw[if_pos (by rw[cy hr.1,cy hr.2];rfl)];exact aH h
theorem u3(a b:Int):decide ((Sum.inl a:Key)=Sum.inl b)=(a==b):=by
 by_cases e:a=b
 ·subst e;simp
 ·have h:¬ (Sum.inl a:Key)=Sum.inl b:=λq=>e (Sum.inl.inj q)
  rw[cx h];exact(jm.mpr e).symm
theorem XZ(a b:Str):decide ((Sum.inr a:Key)=Sum.inr b)=decide (a=b):=by
 by_cases e:a=b
 ·subst e;simp
 ·have h:¬ (Sum.inr a:Key)=Sum.inr b:=λq=>e (Sum.inr.inj q)
  rw[cx h,cx e]
theorem MF(a:Int)(b:Str):decide ((Sum.inl a:Key)=Sum.inr b)=false:=cx (λq=>nomatch q)
theorem MJ(a:Str)(b:Int):decide ((Sum.inr a:Key)=Sum.inl b)=false:=cx (λq=>nomatch q)
noncomputable def fV(prog:Program)(w:World):PySem.KeyKind prog w Key where
 is:=lz
 hash:=XJ w
 inj:=λv a b ha hb=>by
  rcases iQ ha with⟨i,t,rfl,rfl⟩|⟨x,t,rfl,rfl⟩|⟨x,rfl,rfl⟩
  ·rcases iQ hb with⟨j,u,rfl,e⟩|⟨y,u,rfl,e⟩|⟨y,rfl,e⟩
   ·injection e with e1 _;rw[e1]
   ·exact nomatch e
   ·exact nomatch e
  ·rcases iQ hb with⟨j,u,rfl,e⟩|⟨y,u,rfl,e⟩|⟨y,rfl,e⟩
   ·exact nomatch e
   ·injection e with e1 _;rw[e1]
   ·exact nomatch e
  ·rcases iQ hb with⟨j,u,rfl,e⟩|⟨y,u,rfl,e⟩|⟨y,rfl,e⟩
   ·exact nomatch e
   ·exact nomatch e
   ·injection e with e1;rw[e1]
 byValue:=λk v h=>by
  rcases iQ h with⟨i,t,rfl,rfl⟩|⟨x,t,rfl,rfl⟩|⟨x,rfl,rfl⟩<;>rfl
 pyHash:=λhv h=>by
  rcases iQ hv with⟨i,t,rfl,rfl⟩|⟨x,t,rfl,rfl⟩|⟨x,rfl,rfl⟩
  ·exact wpAny_pyHash_int h
  ·exact wpAny_pyHash_str h
  ·exact V8 h
 eqBool:=λhu hv h=>by
  rcases iQ hu with⟨i,t,rfl,rfl⟩|⟨x,t,rfl,rfl⟩|⟨x,rfl,rfl⟩
  ·rcases iQ hv with⟨j,u,rfl,rfl⟩|⟨y,u,rfl,rfl⟩|⟨y,rfl,rfl⟩
   ·rw[u3]at h;exact Ii h
   ·rw[MF]at h;exact SeqAt.EqAt.int_str i t y u _ _ _ _ h
   ·rw[u3]at h;exact SeqAt.EqAt.int_bool i t y _ _ _ _ h
  ·rcases iQ hv with⟨j,u,rfl,rfl⟩|⟨y,u,rfl,rfl⟩|⟨y,rfl,rfl⟩
   ·rw[MJ]at h;exact SeqAt.EqAt.str_int x t j u _ _ _ _ h
   ·rw[XZ]at h;exact wpAny_eqBool_str h
   ·rw[MJ]at h;exact SeqAt.EqAt.str_bool x t y _ _ _ _ h
  ·rcases iQ hv with⟨j,u,rfl,rfl⟩|⟨y,u,rfl,rfl⟩|⟨y,rfl,rfl⟩
   ·rw[u3]at h;exact SeqAt.EqAt.bool_int x j u _ _ _ _ h
   ·rw[MF]at h;exact SeqAt.EqAt.bool_str x y u _ _ _ _ h
   ·rw[u3]at h
    have e:((if x then(1:Int)else 0)==(if y then(1:Int)else 0))=(x==y):=by cases x<;>cases y<;>rfl
    rw[e]at h;exact xZ x y _ _ _ _ h
 «strs»:=λk x t v h=>by
  rcases iQ h with⟨i,u,rfl,e⟩|⟨y,u,rfl,e⟩|⟨y,rfl,e⟩
  ·exact nomatch e
  ·injection e with e1 _
   subst e1;cases v<;>rfl
  ·exact nomatch e
theorem YD(prog:Program)(w:World)(i:Int)(t:Tok):(fV prog w).is (.inl i) (.int i t)=true:=XQ i t
theorem YF(prog:Program)(w:World)(x:Str)(t:Tok):(fV prog w).is (.inr x) (.str x t)=true:=XR x t
inductive V where
 |non|bl (b:Bool)|int (i:Int)|str (x:Str)|iu (b:Array UInt8)|flt (b:UInt64)|ref (a:Addr)|ty (n:String)
 deriving DecidableEq
noncomputable def RelV:V->Value->Prop
 |.non,u=>u=Value.none
 |.bl b,u=>u=Value.bool b
 |.int i,u=>∃t,u=Value.int i t
 |.str x,u=>∃t,u=Value.str x t
 |.iu b,u=>∃t,u=Value.bytes b t
 |.flt b,u=>∃t,u=Value.float b t
 |.ref a,u=>u=Value.ref a
 |.ty n,u=>u=Value.type n
abbrev Vals:List V->List Value->Prop:=Paired RelV
theorem Vals.length{xs:List V}{us:List Value}(r:Vals xs us):xs.length=us.length:=dh r
theorem Vals.get:∀{xs:List V} {us:List Value} {i:Nat} {x:V},Vals xs us->xs[i]?=some x->∃u,us[i]?=some u/\RelV x u
 |_,_,_,_,.nil,e=>by simp at e
 |_,_,0,_,.cons r _,e=>by simp at e;subst e;exact⟨_,rfl,r⟩
 |_,_,i+1,x,.cons _ t,e=>by
  obtain⟨u,h1,h2⟩:=Vals.get (i:=i) (x:=x) t (by simpa using e);exact⟨u,by simpa using h1,h2⟩
theorem Vals.set{x:V}{u:Value}(r:RelV x u):∀{xs:List V} {us:List Value} (i:Nat),Vals xs us->Vals (xs.set i x) (us.set i u)
 |_,_,_,.nil=>.nil
 |_,_,0,.cons _ t=>.cons r t
 |_,_,i+1,.cons q t=>.cons q (Vals.set r i t)
theorem Vals.append:∀{xs ys:List V} {us ws:List Value},Vals xs us->Vals ys ws->Vals (xs++ys) (us++ws)
 |_,_,_,_,.nil,s=>s
 |_,_,_,_,.cons r t,s=>.cons r (Vals.append t s)
theorem Vals.take:∀{xs:List V} {us:List Value} (n:Nat),Vals xs us->Vals (xs.take n) (us.take n)
 |_,_,0,_=>.nil
 |_,_,_+1,.nil=>.nil
 |_,_,n+1,.cons r t=>.cons r (Vals.take n t)
theorem Vals.drop:∀{xs:List V} {us:List Value} (n:Nat),Vals xs us->Vals (xs.drop n) (us.drop n)
 |_,_,0,r=>r
 |_,_,_+1,.nil=>.nil
 |_,_,n+1,.cons _ t=>Vals.drop n t
noncomputable def fZ:Option V->Option Value->Prop
 |some v,some u=>RelV v u
 |none,none=>True
 |_,_=>False
def KV{κ:Type}:List (κ × V)->List (κ × Value)->Prop:=Paired λ(p:κ × V) (q:κ × Value)=>p.1=q.1/\RelV p.2 q.2
noncomputable def kV:Key->V
 |.inl i=>.int i
 |.inr x=>.str x
inductive HO where
 |lst (xs:List V)
 |tup (xs:List V)
 |dK (kvs:List (Key × V))|dT (kvs:List (List Key × V))
 |set (S:Int->Bool) (n:Nat)
 |ins (C dx:Addr) (fs:List (Str × V))
 |own (x:Addr)
 |xd (fs:List (Str × V))
 |met (f x:Addr)
 |rng (lo hi:Int)
 |dz (o:Obj) (u:HO)
 |lJ (ps:Array Value)
 |lam (pos:Pos) (qual:Str)
 |ext (φ:Heap->Prop)
def Mw(k:Key)(v:V):Prop:=v=kV k\/∃b:Bool,v = .bl b/\k = .inl (if b then 1 else 0)
abbrev Cr:List Key->List V->Prop:=Paired Mw
def jT(H:Addr->Option HO)(b:Addr)(ks:List Key):Prop:=∃ws,Cr ks ws/\H b=some (.tup ws)
abbrev Hp:=Addr->Option HO
noncomputable def upd(H:Hp)(a:Addr)(o:HO):Hp:=λb=>if b=a then some o else H b
theorem av{H:Hp}{a:Addr}{o:HO}:upd H a o a=some o:=by unfold upd;rw[if_pos rfl]
theorem aG{H:Hp}{a b:Addr}{o:HO}(h:b≠a):upd H a o b=H b:=by unfold upd;rw[if_neg h]
theorem GP{H:Hp}{a:Addr}{o u:HO}:upd (upd H a o) a u=upd H a u:=by
 funext b;unfold upd;split<;>rfl
theorem gi{H:Hp}{a b:Addr}{o u:HO}(h:H a=some o)(h':H b=some u)(d:o≠u):a≠b:=by
 intro e;subst e;rw[h]at h';exact d (df h')
theorem dg{H:Hp}{a b:Addr}{o:HO}(h:H a=some o)(h':H b=none):a≠b:=by
 intro e;subst e;rw[h]at h';cases h'
section
variable (P:Program) (w:World)
noncomputable def bC(H:Hp)(h:Heap)(a:Addr):HO->Prop
 |.lst xs=>xs.length<=sizeLine/\∃(its:List Value) (n:Nat),Vals xs its/\h.get? a=some {cls:=.type "list", data:=.seq its.toArray n}
 |.tup xs=>xs.length<=sizeLine/\∃its:List Value,Vals xs its/\IsTup h a its.toArray/\∃o,h.get? a=some o/\o.dict=none
 |.dK kvs=>kvs.length<=sizeLine/\(a==sysModules)=false/\∃vs,KV kvs vs/\h.DictOf (fV P w) a vs
 |.dT kvs=>kvs.length<=sizeLine/\(a==sysModules)=false/\∃xs:List (List Key × Addr × Value),
   Paired (λ(p:List Key × V) (q:List Key × Addr × Value)=>p.1=q.1/\jT H q.2.1 p.1/\RelV p.2 q.2.2) kvs xs /\
   ∃o es ep,h.get? a=some o/\o.ExactDict/\o.data = .dict es ep/\es.toList=xs.map (entryOfKey (tupleKind (fV P w)))/\(xs.map (·.1)).Nodup
 |.set S n=>h.SetOf (intKind P w) a S n
 |.ins C dx fs=>H dx=some (.own a)/\fs.length<=1000/\dx≠a/\h.get? a=some (W.instObj C dx) /\
   ∃mA,h.Ns1 dx mA/\(∀f,fZ (fs.lookup f) (mA f))/\PySem.Within mA (fs.map (·.1))
 |.own _=>∃o,h.get? a=some o
 |.xd fs=>∃mA,h.Ns1 a mA/\∀f,fZ (fs.lookup f) (mA f)
 |.rng lo hi=>∃t u v,h.get? a=some {cls:=.type "range", data:=.fields #[.int lo t,.int hi u,.int 1 v]}
 |.dz o u=>h.get? a=some o/\bC H h a u
 |.lJ ps=>h.get? a=some {cls:=.none,data:=.fields ps}
 |.lam pos qual=>∃ps,h.get? a=some {cls:=.none,data:=.fields ps}/\TriplesOk ps.toList/\∀cv,codeAmong pos ps.toList=some cv->∃c o u vs t,cv = .ref c/\H c=some (.dz o u)/\o.data = .fields vs/\vs[1]?=some (.str qual t)
 |.met f x=>h.get? a=some (W.methodObj (.ref f) (.ref x))
 |.ext φ=>φ h/\(∃o,h.get? a=some o)/\∀h1 h2:Heap,φ h1->(∀o,h1.get? a=some o->h2.get? a=some o)->φ h2
def bM(H:Hp)(h:Heap):Prop:=∀a o,H a=some o->bC P w H h a o
end
section
variable {P:Program} {w:World} {H H':Hp} {h h':Heap} {a:Addr} {o:HO}
theorem bC.lt(x:bC P w H h a o):a<h.objs.size:=by
 cases o with
 |lst xs=>obtain⟨_,_,_,_,e⟩:=x;exact aR e
 |tup xs=>obtain⟨_,_,_,p,_⟩:=x;exact p.lt
 |dK kvs=>obtain⟨_,_,_,_,o,_,_,e,_⟩:=x;exact aR e
 |dT kvs=>obtain⟨_,_,_,_,o,_,_,e,_⟩:=x;exact aR e
 |set S n=>obtain⟨o,_,_,_,e,_⟩:=x;exact aR e
 |ins C dx fs=>obtain⟨_,_,_,e,_⟩:=x;exact aR e
 |own y=>obtain⟨_,e⟩:=x;exact aR e
 |xd fs=>obtain⟨_,⟨_,_,_,e,_⟩,_⟩:=x;exact aR e
 |rng lo hi=>obtain⟨_,_,_,e⟩:=x;exact aR e
 |dz ob u=>obtain⟨e,_⟩:=x;exact aR e
 |lJ ps=>exact aR (show h.get? a=some _ from x)
 |lam pos qual=>obtain⟨_,e,_⟩:=x;exact aR e
 |met f y=>exact aR (show h.get? a=some _ from x)
 |ext φ=>obtain⟨_,⟨_,e⟩,_⟩:=x;exact aR e
theorem Paired.d_{α β:Type}{F G:α->β->Prop}:∀{l₁:List α} {l₂:List β},Paired F l₁ l₂->(∀a b,F a b->G a b)->Paired G l₁ l₂
 |_,_,.nil,_=>.nil
 |_,_,.cons r t,f=>.cons (f _ _ r) (Paired.d_ t f)
theorem bC.stay(x:bC P w H h a o)(k:∀b u,(b=a\/H b=some (.own a))->h.get? b=some u->h'.get? b=some u)(ho:∀b,H b=some (.own a)->H' b=some (.own a))(ht:∀b xs,H b=some (.tup xs)->H' b=some (.tup xs))(hz:∀b ob u,H b=some (.dz ob u)->H' b=some (.dz ob u)):bC P w H' h' a o:=by
 induction o with
 |lst xs=>obtain⟨z,its,n,r,e⟩:=x;exact⟨z,its,n,r,k _ _ (.inl rfl) e⟩
 |tup xs=>obtain⟨z,its,r,⟨ob,e,c⟩,od,e2,d⟩:=x;exact⟨z,its,r,⟨ob,k _ _ (.inl rfl) e,c⟩,od,k _ _ (.inl rfl) e2,d⟩
 |dK kvs=>obtain⟨z,y,vs,r,ob,es,ep,e,c⟩:=x;exact⟨z,y,vs,r,ob,es,ep,k _ _ (.inl rfl) e,c⟩
 |dT kvs =>
  obtain⟨z,y,xs,r,ob,es,ep,e,c⟩:=x;exact⟨z,y,xs,Paired.d_ r λp q z=>⟨z.1,(let⟨ws,k1,k2⟩:=z.2.1;⟨ws,k1,ht _ _ k2⟩),z.2.2⟩,ob,es,ep,k _ _ (.inl rfl) e,c⟩
 |set S n=>obtain⟨ob,es,ep,t,e,c⟩:=x;exact⟨ob,es,ep,t,k _ _ (.inl rfl) e,c⟩
 |ins C dx fs =>
  obtain⟨d,z,ne,e,mA,⟨od,es,ep,e2,c⟩,r⟩:=x;exact⟨ho _ d,z,ne,k _ _ (.inl rfl) e,mA,⟨od,es,ep,k _ _ (.inr d) e2,c⟩,r⟩
 |own y=>obtain⟨ob,e⟩:=x;exact⟨ob,k _ _ (.inl rfl) e⟩
 |xd fs=>obtain⟨mA,⟨od,es,ep,e,c⟩,r⟩:=x;exact⟨mA,⟨od,es,ep,k _ _ (.inl rfl) e,c⟩,r⟩
 |rng lo hi=>obtain⟨t,u,v,e⟩:=x;exact⟨t,u,v,k _ _ (.inl rfl) e⟩
 |dz ob u ih=>obtain⟨e,q⟩:=x;exact⟨k _ _ (.inl rfl) e,ih q⟩
 |lJ ps =>
  have e:h.get? a=some {cls:=.none,data:=.fields ps}:=x;show h'.get? a=some {cls:=.none,data:=.fields ps};exact k a _ (.inl rfl) e
 |lam pos qual=>obtain⟨ps,e,t,q⟩:=x;exact⟨ps,k _ _ (.inl rfl) e,t,λcv z=>let⟨c,o,u,vs,t,q1,q2,q3⟩:=q cv z;⟨c,o,u,vs,t,q1,hz _ _ _ q2,q3⟩⟩
 |met f y =>
  have e:h.get? a=some (W.methodObj (.ref f) (.ref y)):=x;show h'.get? a=some (W.methodObj (.ref f) (.ref y));exact k a _ (.inl rfl) e
 |ext φ=>obtain⟨p,⟨o,e⟩,st⟩:=x;exact⟨st _ _ p λo q=>k _ _ (.inl rfl) q,⟨o,k _ _ (.inl rfl) e⟩,st⟩
theorem bM.lt(x:bM P w H h)(e:H a=some o):a<h.objs.size:=(x a o e).lt
theorem bM.fresh(x:bM P w H h)(e:h.objs.size<=a):H a=none:=by
 cases q:H a with
 |none=>rfl
 |some u=>exact absurd (cY (x.lt q) e) (dM _)
theorem bM.kept(x:bM P w H h)(k:∀b u,h.get? b=some u->h'.get? b=some u):bM P w H h':=λa o e =>
 (x a o e).stay (λb u _ q=>k b u q) (λ_ q=>q) (λ_ _ q=>q) λ_ _ _ q=>q
theorem bM.laid(x:bM P w H h)(k:∀b u,h.get? b=some u->h'.get? b=some u)(hp:h.objs.size<=a)(new:bC P w (upd H a o) h' a o):bM P w (upd H a o) h':=λb u e=>by
 have hn:=x.fresh hp
 by_cases hb:b=a
 ·subst hb;rw[av]at e;cases e;exact new
 ·rw[aG hb]at e
  exact(x b u e).stay (λc v _ q=>k c v q) (λc q=>by rw[aG (dg q hn)];exact q) (λc xs q=>by rw[aG (dg q hn)];exact q) λc ob u q=>by rw[aG (dg q hn)];exact q
end
def Rd(H:Hp)(a:Addr)(u:HO):Prop:=H a=some u\/∃o,H a=some (.dz o u)
theorem Rd.ok{P:Program}{w:World}{H:Hp}{h:Heap}{a:Addr}{u:HO}(r:Rd H a u)(x:bM P w H h):bC P w H h a u:=by
 rcases r with r|⟨o,r⟩
 ·exact x a u r
 ·obtain⟨_,q⟩:=x a _ r
  exact q
noncomputable def p_:Option HO->Prop
 |some (.lst _)=>True
 |some (.dK _)=>True
 |some (.dT _)=>True
 |some (.set _ _)=>True
 |some (.ins _ _ _)=>True
 |some (.ext _)=>True
 |some (.lam _ _)=>True
 |_=>False
section
variable {P:Program} {w:World} {H:Hp} {h h':Heap} {x e:Addr} {o':HO}
theorem bM.write(ok:bM P w H h)(mu:p_ (H x))(he:e=x\/H e=some (.own x))(k:∀b u,b≠e->h.get? b=some u->h'.get? b=some u)(heo:∃u,h'.get? e=some u)
  (new:bC P w (upd H x o') h' x o'):bM P w (upd H x o') h':=λb u q=>by
 have NX:∀c y,H c=some (.own y)->c≠x:=λc y r z=>by subst z;rw[r]at mu;exact mu
 have Y_:∀c xs,H c=some (.tup xs)->c≠x:=λc xs r z=>by subst z;rw[r]at mu;exact mu
 have Y0:∀c ob u,H c=some (.dz ob u)->c≠x:=λc ob u r z=>by subst z;rw[r]at mu;exact mu
 by_cases hb:b=x
 ·subst hb;rw[av]at q;cases q;exact new
 ·rw[aG hb]at q
  by_cases hbe:b=e
  ·have q':H b=some (.own x):=by
    rcases he with z|z
    ·exact absurd (hbe.trans z) hb
    ·rw[hbe];exact z
   rw[q]at q';cases q';obtain⟨v,hv⟩:=heo;exact⟨v,by rw[hbe];exact hv⟩
  ·refine(ok b u q).stay (λc v hc r=>k c v ?_ r) (λc r=>by rw[aG (NX c b r)];exact r) (λc xs r=>by rw[aG (Y_ c xs r)];exact r) λc ob u r=>by rw[aG (Y0 c ob u r)];exact r
   rcases hc with rfl|hc
   ·exact hbe
   ·rintro rfl
    rcases he with z|z
    ·exact NX c b hc z
    ·rw[hc]at z;cases z;exact hb rfl
end
structure Un (fs ex:List Addr) (H H':Hp) (h h':Heap):Prop where
 keep:∀b o,h.get? b=some o->H b=none->b ∉ fs->b ∉ ex->h'.get? b=some o
 slot:∀b o,h.get? b=some o->H b=none->b∈fs->b ∉ ex->∃sl,h'.get? b=some {o with slots:=sl}
 free:∀b o,h.get? b=some o->H b=none->b ∉ ex->H' b=none
 there:∀b o,h.get? b=some o->b ∉ ex->∃o',h'.get? b=some o'
 tups:∀b xs,H b=some (.tup xs)->H' b=some (.tup xs)
 fU:∀b o u,H b=some (.dz o u)->H' b=some (.dz o u)
 gk:∀b ps,H b=some (.lJ ps)->∃more,H' b=some (.lJ (ps++more))
section
variable {fs fs' ex ex':List Addr} {H H1 H2:Hp} {h h1 h2 h':Heap} {a x e:Addr} {o:HO}
theorem Un.any(u:Un fs ex H H1 h h1){b:Addr}{ob:Obj}(q:h.get? b=some ob)(n:H b=none)(hx:b ∉ ex):∃sl,h1.get? b=some {ob with slots:=sl}:=by
 by_cases hb:b∈fs
 ·exact u.slot b ob q n hb hx
 ·exact⟨ob.slots,u.keep b ob q n hb hx⟩
theorem Un.kept(k:∀b u,h.get? b=some u->h'.get? b=some u):Un fs ex H H h h':=
 ⟨λb ob q _ _ _=>k b ob q,λb ob q _ _ _=>⟨ob.slots,k b ob q⟩,λ_ _ _ n _=>n,λb ob q _=>⟨ob,k b ob q⟩,λ_ _ q=>q,λ_ _ _ q=>q,λ_ ps q=>⟨#[],by rw[q];simp⟩⟩
theorem Un.refl:Un fs ex H H h h:=Un.kept λ_ _ q=>q
theorem Un.laid(k:∀b u,h.get? b=some u->h'.get? b=some u)(hp:h.objs.size<=a)(hn:H a=none):Un fs ex H (upd H a o) h h' where
 keep:=λb u q _ _ _=>k b u q
 slot:=λb u q _ _ _=>⟨u.slots,k b u q⟩
 free:=λb u q n _=>by rw[aG (bE (cY (aR q) hp))];exact n
 there:=λb u q _=>⟨u,k b u q⟩
 tups:=λb xs q=>by rw[aG (dg q hn)];exact q
 fU:=λb u xs q=>by rw[aG (dg q hn)];exact q
 gk:=λb ps q=>⟨#[],by rw[aG (dg q hn),q];simp⟩
theorem Un.write(mu:p_ (H x))(he:e=x\/H e=some (.own x))(k:∀b u,b≠e->h.get? b=some u->h'.get? b=some u)(heo:∃u,h'.get? e=some u):Un fs ex H (upd H x o) h h':=by
 have hx:∀b,H b=none->b≠x:=λb n z=>by subst z;rw[n]at mu;exact mu
 have hb:∀b,H b=none->b≠e:=λb n z=>by
  subst z
  rcases he with r|r
  ·exact hx b n r
  ·rw[n]at r;cases r
 have hm:∀b u,H b=some u->¬ p_ (some u)->b≠x:=λb u q nm z=>by subst z;rw[q]at mu;exact nm mu
 refine⟨λb u q n _ _=>k b u (hb b n) q,λb u q n _ _=>⟨u.slots,k b u (hb b n) q⟩,λb u q n _=>by rw[aG (hx b n)];exact n,λb u q _=>?_,
  λb xs q=>by rw[aG (hm b _ q λz=>z)];exact q,λb u xs q=>by rw[aG (hm b _ q λz=>z)];exact q,λb ps q=>⟨#[],by rw[aG (hm b _ q λz=>z),q];simp⟩⟩
 by_cases hbe:b=e
 ·subst hbe;exact heo
 ·exact⟨u,k b u hbe q⟩
end
noncomputable def wO(h:Heap)(H:Hp):List Addr:=(List.range h.objs.size).filter λa=>(H a).isSome
noncomputable def jt(h:Heap)(H:Hp):Heap:=W.hideAll h (wO h H)
theorem Wm(h:Heap)(H:Hp):(jt h H).objs.size=h.objs.size:=W.hideAll_size _ _
theorem Wj{h:Heap}{H:Hp}{b:Addr}{o:Obj}(e:h.get? b=some o)(n:H b=none):(jt h H).get? b=some o:=
 W.hideAll_get _ e λhm=>by
  have q:(H b).isSome=true:=(cR.mp hm).2;rw[n]at q;simp at q
theorem Zc{h:Heap}{H:Hp}{b:Addr}{o:Obj}(e:(jt h H).get? b=some o):h.get? b=some o/\H b=none:=by
 have e':h.get? b=some o:=W.of_hideAll (wO h H) e;refine⟨e',?_⟩;cases q:H b with
 |none=>rfl
 |some x =>
  have hm:b∈wO h H:=cR.mpr ⟨fw.mpr (aR e'),by simp[q]⟩;have z:(jt h H).get? b=none:=W.hideAll_none (wO h H) hm;rw[z]at e;cases e
noncomputable def Sl(g h:Heap)(L:Addr):List (Addr × Obj):=(List.range h.objs.size).filterMap λa=>if a=L\/(g.get? a).isSome=true then none else(h.get? a).map λo=>(a,o)
noncomputable def rest(g h:Heap)(L d:Addr):List (Addr × Obj):=(Sl g h L).filter λp=>decide (p.1≠d)
structure Mod (K:W.Frag) (mg:Str->Option Value) (base:Heap):Prop where
 iR:K.In base
 glob:base.Ns mainGlobals mg
 blt:∃mb,base.Ns builtinsNs mb/\∀x:Str,x ≠ "__name__" -> mb x=bootBuiltins x
 nolimit:base.NoLimit
structure Cx where
 prog:Program
 w:World
 K:W.Frag
 mg:Str->Option Value
 base:Heap
 A:Around
 N:List Str
 s₀:Shared
 H₀:Hp
 env:Env
 outer:List Env
 stack:List Env
 ex:List Addr
 fn:Str->Bool
 calm:Bool
 pn:List (Addr × Obj)
 xe:Value->Shared->Prop
noncomputable def frs(l:List Env):List Addr:=l.filterMap (·.frame)
abbrev Cx.fs (X:Cx):List Addr:=frs X.outer
def qp(sc:Scope)(x:Str):Prop:=sc.names.lookup x=some .local\/sc.names.lookup x=some .cell\/sc.names.lookup x=some .free
def Loc(sc:Scope)(x:Str):Prop:=sc.names.lookup x=some .local\/sc.names.lookup x=some .cell
def Look(env:Env)(h:Heap)(m:Str->Option Value)(x:Str)(u:Value):Prop:=
 (env.kindOf x=some .local/\m x=some u)\/((env.kindOf x=some .cell\/env.kindOf x=some .free)/\∃c,env.cells.lookup x=some c/\h.IsCell c (some u))
structure Cx.Ok (X:Cx):Prop where
 mod:Mod X.K X.mg X.base
 kind:X.env.scope.kind = .function
 glob:X.env.globals=mainGlobals
 blt:X.env.builtins=builtinsNs
 above:X.s₀.heap.objs.size<=X.env.locals
 inj:∀x y c,X.env.cells.lookup x=some c->X.env.cells.lookup y=some c->x=y
 has:∀x,(X.env.kindOf x=some .cell\/X.env.kindOf x=some .free)->∃c,X.env.cells.lookup x=some c
 cab:∀x c,X.fn x=true->X.env.cells.lookup x=some c->X.s₀.heap.objs.size<=c
 hd:X.calm=true->X.A.handled=none
 frames:X.A.frames=some X.stack
 stk:X.stack=X.outer\/(X.stack=X.env::X.outer/\X.env.frame=some X.env.locals)
 j4:∀b∈X.ex,b≠X.env.locals/\∀x c,X.env.cells.lookup x=some c->c≠b
 bs:∀b o,X.base.get? b=some o->X.s₀.heap.get? b=some o/\X.H₀ b=none
 eP:X.base.objs.size<=X.s₀.heap.objs.size
 iz:∀b o,X.base.get? b=some o->b ∉ X.ex
 iN:∀b∈X.ex,b ∉ X.fs
 d9:X.s₀.heap.FunFrames X.base X.outer
 gG:∀b∈X.fs,X.H₀ b=none
structure Inv (X:Cx) (pins:List (Addr × Obj)) (σ:List (Option V)) (H:Hp) (s:Shared):Prop where
 ok:X.Ok
 os:s.os=X.s₀.os
 bare:AllBare s.gens
 base:Un X.fs X.ex X.H₀ H X.s₀.heap s.heap
 loc:∃m,s.heap.Ns X.env.locals m/\∀(i:Nat) (x:Str) (v:V),X.N[i]?=some x->σ[i]?=some (some v)->qp X.env.scope x->∃u,RelV v u/\Look X.env s.heap m x u
 cell:∀x c,X.env.cells.lookup x=some c->∃v,s.heap.IsCell c v
 free:H X.env.locals=none
 dQ:∀x c,X.env.cells.lookup x=some c->H c=none
 pin:∀p∈X.pn++pins,s.heap.get? p.1=some p.2/\H p.1=none/\p.1≠X.env.locals/\p.1 ∉ X.fs/\∀v,p.2.data≠.cell v
 hok:bM X.prog X.w H s.heap
 len:σ.length=X.N.length
section
variable {X:Cx} {pins:List (Addr × Obj)} {σ:List (Option V)} {H H':Hp} {s:Shared} {h':Heap}
theorem Cx.Ok.Y3(ok:X.Ok){b:Addr}{o:Obj}(e:X.base.get? b=some o):b ∉ X.fs:=λhb=>by
 have:=(ok.d9.mem hb).1;rw[e]at this;cases this
theorem Inv.bs(I:Inv X pins σ H s):∀b o,X.base.get? b=some o->s.heap.get? b=some o/\H b=none:=λb o e =>
 ⟨I.base.keep b o (I.ok.bs b o e).1 (I.ok.bs b o e).2 (I.ok.Y3 e) (I.ok.iz b o e),I.base.free b o (I.ok.bs b o e).1 (I.ok.bs b o e).2 (I.ok.iz b o e)⟩
theorem Inv.bk(I:Inv X pins σ H s):∀b o,X.base.get? b=some o->s.heap.get? b=some o:=λb o e=>(I.bs b o e).1
theorem Inv.mod(I:Inv X pins σ H s):Mod X.K X.mg X.base:=I.ok.mod
theorem Inv.cu(I:Inv X pins σ H s):X.K.In s.heap:=I.ok.mod.iR.keeps I.bk
theorem Inv.lt(I:Inv X pins σ H s):X.env.locals<s.heap.objs.size:=let⟨_,hn,_⟩:=I.loc;hn.lt
theorem Inv.sz(I:Inv X pins σ H s):X.s₀.heap.objs.size<=s.heap.objs.size:=b_ I.ok.above (eB I.lt)
theorem Inv.Y5(I:Inv X pins σ H s){a:Addr}(h:s.heap.objs.size<=a):a ∉ X.fs:=λhb=>by
 obtain⟨_,o,ho,_⟩:=I.ok.d9.mem hb;exact absurd (cY (aR ho) (b_ I.sz h)) (dM _)
theorem Inv.iK(I:Inv X pins σ H s):∀x c,X.env.cells.lookup x=some c->c≠X.env.locals:=λx c e z=>by
 obtain⟨v,o,ho,hd⟩:=I.cell x c e;obtain⟨m,⟨o',es,ep,ho',hd',_⟩,_⟩:=I.loc;rw[z,ho']at ho;cases ho;rw[hd']at hd;cases hd
theorem Inv.d9(I:Inv X pins σ H s):s.heap.FunFrames X.base X.outer:=by
 have all:∀(l:List Env),(∀b∈frs l,b∈X.fs)->X.s₀.heap.FunFrames X.base l->s.heap.FunFrames X.base l:=by
  intro l
  induction l with
  |nil=>intro _ _;trivial
  |cons env r ih =>
   intro hs hl;obtain⟨hk,⟨L,o,hf,hn,ho,hd⟩,hr⟩:=hl;have hL:L∈X.fs:=hs L (by unfold frs;rw[tH,hf];exact b9);obtain⟨sl,e⟩:=I.base.slot L o ho (I.ok.gG L hL) hL λz=>I.ok.iN L z hL;exact⟨hk,⟨L,_,hf,hn,e,hd⟩,ih (λb hb=>hs b (by unfold frs;rw[tH,hf];exact ck _ hb)) hr⟩
 exact all X.outer (λ_ hb=>hb) I.ok.d9
theorem Inv.stack(I:Inv X pins σ H s):s.heap.FunFrames X.base X.stack:=by
 rcases I.ok.stk with e|⟨e,hf⟩
 ·rw[e];exact I.d9
 ·rw[e]
  obtain⟨m,hn,_⟩:=I.loc;refine .cons (by rw[I.ok.kind];decide) hf hn ?_ I.d9;exact xW (b_ I.ok.eP I.ok.above)
theorem Inv.pL(I:Inv X pins σ H s):∀b∈frs X.stack,b∈X.env.locals::X.fs:=λb hb=>by
 rcases I.ok.stk with e|⟨e,hf⟩
 ·rw[e]at hb;exact ck _ hb
 ·rw[e]at hb
  unfold frs at hb;rw[tH,hf]at hb;exact hb
theorem Inv.mU(I:Inv X pins σ H s):∀b∈frs X.stack,H b=none:=λb hb=>by
 rcases bx.mp (I.pL b hb)with e|hb
 ·rw[e];exact I.free
 ·obtain⟨_,o,ho,_⟩:=I.ok.d9.mem hb
  exact I.base.free b o ho (I.ok.gG b hb) λz=>I.ok.iN b z hb
theorem Inv.step{g':Array GenState}{t':Nat}{d':Drawn}{ch:List Addr}(I:Inv X pins σ H s)(hch:∀b∈ch,(b∈X.ex\/X.s₀.heap.objs.size<=b)/\b≠X.env.locals/\(∀x c,X.env.cells.lookup x=some c->c≠b)/\∀p∈X.pn++pins,p.1≠b)(keep:∀b o,b≠X.env.locals->b ∉ X.fs->b ∉ ch->s.heap.get? b=some o->H b=none->h'.get? b=some o)
  (slot:∀b o,b≠X.env.locals->b∈X.fs->b ∉ ch->s.heap.get? b=some o->H b=none->∃sl,h'.get? b=some {o with slots:=sl}) (free:∀b o,b ∉ ch->s.heap.get? b=some o->H b=none->H' b=none)
  (there:∀b o,b ∉ ch->s.heap.get? b=some o->∃o',h'.get? b=some o')
  (tups:∀b xs,H b=some (.tup xs)->H' b=some (.tup xs)) (fU:∀b o u,H b=some (.dz o u)->H' b=some (.dz o u)) (gk:∀b ps,H b=some (.lJ ps)->∃more,H' b=some (.lJ (ps++more)))
  (ns:∀m,s.heap.Ns X.env.locals m->h'.Ns X.env.locals m) (hok:bM X.prog X.w H' h') (hg:AllBare g') :
  Inv X pins σ H' {s with heap:=h',gens:=g',drawn:=d',toks:=t'}:=by
 have o8:∀b o,X.s₀.heap.get? b=some o->b≠X.env.locals:=λb o e=>bE (cY (aR e) I.ok.above);have vn:∀b o,X.s₀.heap.get? b=some o->b ∉ X.ex->b ∉ ch:=λb o e hx hb=>by
  rcases(hch b hb).1 with z|z
  ·exact hx z
  ·exact absurd (cY (aR e) z) (dM _)
 have cellK:∀x c,X.env.cells.lookup x=some c->∀v,s.heap.IsCell c v->h'.IsCell c v:=λx c e v ⟨o,ho,hd⟩=>by
  have gI:c ∉ ch:=λz=>(hch c z).2.2.1 x c e rfl
  by_cases hc:c∈X.fs
  ·obtain⟨sl,q⟩:=slot c o (I.iK x c e) hc gI ho (I.dQ x c e)
   exact⟨_,q,hd⟩
  ·exact⟨o,keep c o (I.iK x c e) hc gI ho (I.dQ x c e),hd⟩
 refine⟨I.ok,I.os,hg,⟨λb o e n hb hx=>?_,λb o e n hb hx=>?_,λb o e n hx=>?_,λb o e hx=>?_,λb xs e=>tups b xs (I.base.tups b xs e),λb o xs e=>fU b o xs (I.base.fU b o xs e),λb ps e=>?_⟩,?_,λx c e=>?_,?_,λx c e=>?_,λp hp=>?_,hok,I.len⟩
 ·exact keep b o (o8 b o e) hb (vn b o e hx) (I.base.keep b o e n hb hx) (I.base.free b o e n hx)
 ·obtain⟨sl,e1⟩:=I.base.slot b o e n hb hx
  obtain⟨sl',e2⟩:=slot b _ (o8 b o e) hb (vn b o e hx) e1 (I.base.free b o e n hx);exact⟨sl',e2⟩
 ·obtain⟨o',e1⟩:=I.base.there b o e hx
  exact free b o' (vn b o e hx) e1 (I.base.free b o e n hx)
 ·obtain⟨o',e1⟩:=I.base.there b o e hx
  exact there b o' (vn b o e hx) e1
 ·obtain⟨m1,e1⟩:=I.base.gk b ps e
  obtain⟨m2,e2⟩:=gk b _ e1;exact⟨m1++m2,by rw[e2,Array.append_assoc]⟩
 ·obtain⟨m,hn,hl⟩:=I.loc
  refine⟨m,ns m hn,λi x v e1 e2 e3=>?_⟩;obtain⟨u,r,l⟩:=hl i x v e1 e2 e3;refine⟨u,r,?_⟩
  rcases l with l|⟨k,c,e,z⟩
  ·exact .inl l
  ·exact .inr ⟨k,c,e,cellK x c e _ z⟩
 ·obtain⟨v,z⟩:=I.cell x c e
  exact⟨v,cellK x c e v z⟩
 ·obtain⟨m,⟨o,_,_,ho,_⟩,_⟩:=I.loc
  exact free _ o (λz=>(hch _ z).2.1 rfl) ho I.free
 ·obtain⟨v,o,ho,hd⟩:=I.cell x c e
  exact free c o (λz=>(hch c z).2.2.1 x c e rfl) ho (I.dQ x c e)
 ·obtain⟨e,n,ne,nf,d⟩:=I.pin p hp
  have gI:p.1 ∉ ch:=λz=>(hch p.1 z).2.2.2 p hp rfl;exact⟨keep p.1 p.2 ne nf gI e n,free p.1 p.2 gI e n,ne,nf,d⟩
theorem Inv.un{t':Nat}(I:Inv X pins σ H s)(u:Un X.fs [] H H' s.heap h')(hok:bM X.prog X.w H' h'):Inv X pins σ H' {s with heap:=h',toks:=t'}:=by
 obtain⟨m,⟨o,es,ep,ho,r⟩,_⟩:=id I.loc;obtain⟨sl,hL⟩:=u.any ho I.free (by simp);exact I.step (g':=s.gens) (d':=s.drawn) (ch:=[]) (λ_ z=>nomatch z) (λb o _ hb _ e n=>u.keep b o e n hb (by simp)) (λb o _ hb _ e n=>u.slot b o e n hb (by simp)) (λb o _ e n=>u.free b o e n (by simp)) (λb o _ e=>u.there b o e (by simp)) u.tups u.fU u.gk (λm' hm=>by
  obtain⟨o',es',ep',ho',r'⟩:=hm;rw[ho]at ho';cases ho';exact⟨_,es',ep',hL,r'⟩) hok I.bare
theorem Inv.call{g':Array GenState}{t':Nat}{d':Drawn}{ch:List Addr}(I:Inv X pins σ H s)(u:Un (frs X.stack) ch H H' s.heap h')(hok:bM X.prog X.w H' h')(hg:AllBare g')(hch:∀b∈ch,(b∈X.ex\/X.s₀.heap.objs.size<=b)/\b≠X.env.locals/\(∀x c,X.env.cells.lookup x=some c->c≠b)/\∀p∈X.pn++pins,p.1≠b):
  Inv X pins σ H' {s with heap:=h',gens:=g',drawn:=d',toks:=t'}:=by
 obtain⟨m,⟨o,es,ep,ho,r⟩,_⟩:=id I.loc;obtain⟨sl,hL⟩:=u.any ho I.free λz=>(hch _ z).2.1 rfl;exact I.step (ch:=ch) hch (λb o hL hb hc e n=>u.keep b o e n (λz=>(bx.mp (I.pL b z)).elim hL hb) hc) (λb o _ _ hc e n=>u.any e n hc) (λb o hc e n=>u.free b o e n hc) (λb o hc e=>u.there b o e hc) u.tups u.fU u.gk (λm' hm=>by
  obtain⟨o',es',ep',ho',r'⟩:=hm;rw[ho]at ho';cases ho';exact⟨_,es',ep',hL,r'⟩) hok hg
theorem Inv.turned{t':Nat}{it:Addr}(I:Inv X pins σ H s)(k:∀b o,b≠it->s.heap.get? b=some o->h'.get? b=some o)(hn:H it=none)(hL:it≠X.env.locals)
  (h1:it∈X.ex\/X.s₀.heap.objs.size<=it) (h2:∀x c,X.env.cells.lookup x=some c->c≠it) (h3:∀p∈X.pn++pins,p.1≠it):Inv X pins σ H {s with heap:=h',toks:=t'}:=by
 have Ny:∀b u,H b=some u->b≠it:=λb u e z=>by rw[z,hn]at e;cases e
 refine I.step (g':=s.gens) (d':=s.drawn) (ch:=[it]) (λb hb=>?_) (λb o _ _ hc e _=>k b o (λz=>hc (by simp[z])) e) (λb o _ _ hc e _=>⟨o.slots,k b o (λz=>hc (by simp[z])) e⟩) (λ_ _ _ _ n=>n)
  (λb o hc e=>⟨o,k b o (λz=>hc (by simp[z])) e⟩) (λ_ _ e=>e) (λ_ _ _ e=>e) (λb ps e=>⟨#[],by rw[e];simp⟩) (λm hm=>?_) (λb u e=>?_) I.bare
 ·have e:b=it:=by simpa using hb
  subst e;exact⟨h1,hL,h2,h3⟩
 ·obtain⟨o,es,ep,ho,r⟩:=hm
  exact⟨o,es,ep,k _ o (bQ hL) ho,r⟩
 ·refine(I.hok b u e).stay (λc v hc q=>k c v ?_ q) (λ_ q=>q) (λ_ _ q=>q) λ_ _ _ q=>q
  rcases hc with z|z
  ·rw[z];exact Ny b u e
  ·exact Ny c _ z
theorem Inv.tok(I:Inv X pins σ H s)(t:Nat):Inv X pins σ H {s with toks:=t}:=I.un (h':=s.heap) (t':=t) Un.refl I.hok
theorem Inv.kept{t':Nat}(I:Inv X pins σ H s)(k:∀b u,s.heap.get? b=some u->h'.get? b=some u):Inv X pins σ H {s with heap:=h',toks:=t'}:=I.un (Un.kept k) (I.hok.kept k)
theorem Inv.laid{a:Addr}{o:HO}{t':Nat}(I:Inv X pins σ H s)(k:∀b u,s.heap.get? b=some u->h'.get? b=some u)(hp:s.heap.objs.size<=a)(new:bC X.prog X.w (upd H a o) h' a o):
  Inv X pins σ (upd H a o) {s with heap:=h',toks:=t'}:=I.un (Un.laid k hp (I.hok.fresh hp)) (I.hok.laid k hp new)
theorem Inv.write{x e:Addr}{o:HO}{t':Nat}(I:Inv X pins σ H s)(mu:p_ (H x))(he:e=x\/H e=some (.own x))(k:∀b u,b≠e->s.heap.get? b=some u->h'.get? b=some u)(heo:∃u,h'.get? e=some u)
  (new:bC X.prog X.w (upd H x o) h' x o):Inv X pins σ (upd H x o) {s with heap:=h',toks:=t'}:=I.un (Un.write mu he k heo) (I.hok.write mu he k heo new)
theorem Inv.weak{σ':List (Option V)}(I:Inv X pins σ H s)(hl:σ'.length=σ.length)(w:∀(i:Nat) v,σ'[i]?=some (some v)->σ[i]?=some (some v)):Inv X pins σ' H s:=
 ⟨I.ok,I.os,I.bare,I.base,let⟨m,hn,hl'⟩:=I.loc;⟨m,hn,λi x v e1 e2 e3=>hl' i x v e1 (w i v e2) e3⟩,I.cell,I.free,I.dQ,I.pin,I.hok,hl.trans I.len⟩
theorem Inv.vF{lB:List (Addr × Obj)}(I:Inv X pins σ H s)(h:∀p∈lB,s.heap.get? p.1=some p.2/\H p.1=none/\p.1≠X.env.locals/\p.1 ∉ X.fs/\∀v,p.2.data≠.cell v):Inv X lB σ H s:=
 ⟨I.ok,I.os,I.bare,I.base,I.loc,I.cell,I.free,I.dQ,λp hp=>(gy.mp hp).elim (λz=>I.pin p (kL _ z)) (h p),I.hok,I.len⟩
theorem C_{N:List Str}(hN:N.Nodup){i j:Nat}{x:Str}(a:N[i]?=some x)(b:N[j]?=some x):i=j:=by
 obtain⟨h1,e1⟩:=bN.mp a;obtain⟨h2,e2⟩:=bN.mp b;exact(tL hN).mp (e1.trans e2.symm)
theorem wJ{M:Model}{A:Around}{E:Value->Shared->Prop}{i:Nat}{x:Str}{v:V}{u:Value}{Q:Unit->Shared->Prop}(I:Inv X pins σ H s)(hN:X.N.Nodup)(hi:X.N[i]?=some x)(hx:Loc X.env.scope x)(r:RelV v u)(h:∀s',Inv X pins (σ.set i (some v)) H s'->(∃a,Heap.SameBut a s.heap s'.heap/\(a=X.env.locals\/X.env.cells.lookup x=some a))->Q () s')(hf:X.fn x=true\/X.env.scope.names.lookup x=some .local:=by first|exact .inl rfl|exact .inr rfl|assumption):wpAny M A (storeName X.env x u) Q E s:=by
 obtain⟨m,hn,hl⟩:=id I.loc;have hcls:(X.env.scope.kind==.class||(X.env.scope.kind==.module&&X.env.locals != X.env.globals))=false:=by rw[I.ok.kind];rfl
 have hiσ:i<σ.length:=by rw[I.len];exact(bN.mp hi).1
 have iK:=I.iK;have tracked:∀{a:Addr} {h':Heap},(∃o,s.heap.get? a=some o/\H a=none)->Heap.SameBut a s.heap h'->bM X.prog X.w H h':=λ{a h'} ha hs b ob e=>by
  obtain⟨_,_,hfree⟩:=ha;refine(I.hok b ob e).stay (λc w' hc q=>(hs.2 c ?_).trans q) (λ_ q=>q) (λ_ _ q=>q) λ_ _ _ q=>q;rintro rfl
  rcases hc with rfl|hc
  ·rw[hfree]at e;cases e
  ·rw[hfree]at hc;cases hc
 rcases hx with hk|hk
 ·refine wpAny_storeName_local hk hn (λh' hn' hs=>?_) hcls
  obtain⟨oL,_,_,hoL,_⟩:=id hn;refine h _ ⟨I.ok,I.os,I.bare,⟨λb o e n hb hx=>?_,λb o e n hb hx=>?_,I.base.free,λb o e hx=>?_,I.base.tups,I.base.fU,I.base.gk⟩,⟨_,hn',λj y v' e1 e2 e3=>?_⟩,λy c e=>?_,I.free,I.dQ,λp hp=>?_,tracked ⟨oL,hoL,I.free⟩ hs,by simpa using I.len⟩ ⟨_,hs,.inl rfl⟩
  ·exact(hs.2 b (bE (cY (aR e) I.ok.above))).trans (I.base.keep b o e n hb hx)
  ·obtain⟨sl,e1⟩:=I.base.slot b o e n hb hx
   exact⟨sl,(hs.2 b (bE (cY (aR e) I.ok.above))).trans e1⟩
  ·obtain⟨o',e1⟩:=I.base.there b o e hx
   exact⟨o',(hs.2 b (bE (cY (aR e) I.ok.above))).trans e1⟩
  ·by_cases hj:j=i
   ·subst hj
    rw[hi]at e1;cases e1;rw[xC hiσ]at e2;cases e2;exact⟨u,r,.inl ⟨hk,by simp⟩⟩
   ·rw[tK (bQ hj)]at e2
    obtain⟨u',r',q⟩:=hl j y v' e1 e2 e3;refine⟨u',r',?_⟩
    rcases q with⟨k,e⟩|⟨k,c,e,z⟩
    ·refine .inl ⟨k,?_⟩
     have:y≠x:=λe=>hj (C_ hN e1 (e▸hi));simp[this,e]
    ·exact .inr ⟨k,c,e,z.sameBut hs (iK y c e)⟩
  ·obtain⟨w',z⟩:=I.cell y c e
   exact⟨w',z.sameBut hs (iK y c e)⟩
  ·obtain⟨e,n,ne,nf,d⟩:=I.pin p hp
   exact⟨(hs.2 p.1 ne).trans e,n,ne,nf,d⟩
 ·have hfn:X.fn x=true:=by
   rcases hf with z|z
   ·exact z
   ·rw[z]at hk;cases hk
  obtain⟨c,hc⟩:=I.ok.has x (.inl hk);obtain⟨w',z⟩:=I.cell x c hc;refine wpAny_storeName_cell I.ok.kind hk hc z (λh' hc' hs=>?_);obtain⟨oc,hoc,WK⟩:=id z;refine h {s with heap:=h'} ⟨I.ok,I.os,I.bare,⟨λb o e n hb hx=>?_,λb o e n hb hx=>?_,I.base.free,λb o e hx=>?_,I.base.tups,I.base.fU,I.base.gk⟩,⟨m,hn.sameBut hs (bQ (iK x c hc)),λj y v' e1 e2 e3=>?_⟩,λy c' e=>?_,I.free,I.dQ,λp hp=>?_,tracked ⟨oc,hoc,I.dQ x c hc⟩ hs,by simpa using I.len⟩ ⟨c,hs,.inr hc⟩
  ·exact(hs.2 b (bE (cY (aR e) (I.ok.cab x c hfn hc)))).trans (I.base.keep b o e n hb hx)
  ·obtain⟨sl,e1⟩:=I.base.slot b o e n hb hx
   exact⟨sl,(hs.2 b (bE (cY (aR e) (I.ok.cab x c hfn hc)))).trans e1⟩
  ·obtain⟨o',e1⟩:=I.base.there b o e hx
   exact⟨o',(hs.2 b (bE (cY (aR e) (I.ok.cab x c hfn hc)))).trans e1⟩
  ·by_cases hj:j=i
   ·subst hj
    rw[hi]at e1;cases e1;rw[xC hiσ]at e2;cases e2;exact⟨u,r,.inr ⟨.inl hk,c,hc,hc'⟩⟩
   ·rw[tK (bQ hj)]at e2
    obtain⟨u',r',q⟩:=hl j y v' e1 e2 e3;refine⟨u',r',?_⟩
    rcases q with q|⟨k,c',e,z'⟩
    ·exact .inl q
    ·refine .inr ⟨k,c',e,z'.sameBut hs ?_⟩
     rintro rfl;exact hj (C_ hN e1 (I.ok.inj _ _ _ e hc▸hi))
  ·by_cases hcc:c'=c
   ·subst hcc;exact⟨_,hc'⟩
   ·obtain⟨w2,z2⟩:=I.cell y c' e
    exact⟨w2,z2.sameBut hs hcc⟩
  ·obtain⟨e,n,ne,nf,d⟩:=I.pin p hp
   refine⟨(hs.2 p.1 ?_).trans e,n,ne,nf,d⟩;intro q;rw[q,hoc]at e;have q':oc=p.2:=df e;exact d w' (by rw[<- q'];exact WK)
theorem QW{M:Model}{A:Around}{E:Value->Shared->Prop}{i:Nat}{x:Str}{v:V}{u:Value}{Q:Unit->Shared->Prop}(I:Inv X pins σ H s)(hN:X.N.Nodup)(hi:X.N[i]?=some x)(hx:Loc X.env.scope x)(r:RelV v u)(h:∀s',Inv X pins (σ.set i (some v)) H s'->Q () s')(hf:X.fn x=true\/X.env.scope.names.lookup x=some .local:=by first|exact .inl rfl|exact .inr rfl|assumption):wpAny M A (storeName X.env x u) Q E s:=
 wJ I hN hi hx r (λs' I' _=>h s' I') hf
theorem Inv.call'{s':Shared}{ch:List Addr}(I:Inv X pins σ H s)(ho:s'.os=s.os)(u:Un (frs X.stack) ch H H' s.heap s'.heap)(hok:bM X.prog X.w H' s'.heap)(hg:AllBare s'.gens)(hch:∀b∈ch,(b∈X.ex\/X.s₀.heap.objs.size<=b)/\b≠X.env.locals/\(∀x c,X.env.cells.lookup x=some c->c≠b)/\∀p∈X.pn++pins,p.1≠b):Inv X pins σ H' s':=by
 obtain⟨h',g',d',t',o'⟩:=s';have e:o'=s.os:=ho;subst e;exact I.call (g':=g') (t':=t') (d':=d') u hok hg hch
end
abbrev XK:=Value->Option Addr->Hp->Prop
abbrev St:=List (Option V)
abbrev VK:=V->Hp->Prop
abbrev TE:=St->Hp->VK->Prop
abbrev TT:=St->Hp->(Bool->Hp->Prop)->Prop
abbrev TA:=St->Hp->(List V->Hp->Prop)->Prop
structure Ends where
 nx:St->Hp->Prop
 rt:VK
 bk:St->Hp->Prop:=λ_ _=>False
 ct:St->Hp->Prop:=λ_ _=>False
abbrev TS:=Ends->St->Hp->Prop
def EP(X:Cx)(pins:List (Addr × Obj))(σ:St)(Q:VK)(u:Value)(s':Shared):Prop:=∃v H',Inv X pins σ H' s'/\RelV v u/\Q v H'
def TP(X:Cx)(pins:List (Addr × Obj))(σ:St)(Q:Bool->Hp->Prop)(b:Bool)(s':Shared):Prop:=∃H',Inv X pins σ H' s'/\Q b H'
def AP(X:Cx)(pins:List (Addr × Obj))(σ:St)(Q:List V->Hp->Prop)(us:List Value)(s':Shared):Prop:=∃vs H',Inv X pins σ H' s'/\Vals vs us/\Q vs H'
noncomputable def SP(X:Cx)(pins:List (Addr × Obj))(D:Ends)(f:Flow)(s':Shared):Prop:=
 match f with
 |.next=>∃σ' H',Inv X pins σ' H' s'/\D.nx σ' H'
 |.brk=>∃σ' H',Inv X pins σ' H' s'/\D.bk σ' H'
 |.cont=>∃σ' H',Inv X pins σ' H' s'/\D.ct σ' H'
 |.ret u=>∃v σ' H',Inv X pins σ' H' s'/\RelV v u/\D.rt v H'
def PE(X:Cx)(e:Expr)(t:TE):Prop:=
 ∀(pins:List (Addr × Obj)) (s:Shared) (σ:St) (H:Hp) (Q:VK),Inv X pins σ H s->t σ H Q->wpAny (model X.prog X.w) X.A (eval e X.env) (EP X pins σ Q) X.xe s
def PT(X:Cx)(e:Expr)(t:TT):Prop:=
 ∀(pins:List (Addr × Obj)) (s:Shared) (σ:St) (H:Hp) (Q:Bool->Hp->Prop),Inv X pins σ H s->t σ H Q->wpAny (model X.prog X.w) X.A (isTrue e X.env (eval e X.env)) (TP X pins σ Q) X.xe s
def PW(X:Cx)(e:Expr)(t:TT):Prop:=
 ∀(whole:Sem Value) (pins:List (Addr × Obj)) (s:Shared) (σ:St) (H:Hp) (Q:Bool->Hp->Prop),Inv X pins σ H s->t σ H Q->wpAny (model X.prog X.w) X.A (isTrue e X.env whole) (TP X pins σ Q) X.xe s
theorem PW.pt{X:Cx}{e:Expr}{t:TT}(h:PW X e t):PT X e t:=h _
def PA(X:Cx)(es:List Expr)(t:TA):Prop:=
 ∀(pos:Pos) (pins:List (Addr × Obj)) (s:Shared) (σ:St) (H:Hp) (Q:List V->Hp->Prop),Inv X pins σ H s->t σ H Q->wpAny (model X.prog X.w) X.A (spliced (backTo pos (starEach es X.env))) (AP X pins σ Q) X.xe s
def PS(X:Cx)(st:Stmt)(t:TS):Prop:=
 ∀(pins:List (Addr × Obj)) (s:Shared) (σ:St) (H:Hp) (D:Ends),Inv X pins σ H s->t D σ H->wpAny (model X.prog X.w) X.A (exec st X.env) (SP X pins D) X.xe s
def fA(X:Cx)(st:List Stmt)(t:TS):Prop:=
 ∀(pins:List (Addr × Obj)) (s:Shared) (σ:St) (H:Hp) (D:Ends),Inv X pins σ H s->t D σ H->wpAny (model X.prog X.w) X.A (execs st X.env) (SP X pins D) X.xe s
theorem aM{α:Type}{t:Sem α}{Q Q':α->Shared->Prop}{M:Model}{A:Around}{E:Value->Shared->Prop}{s:Shared}(h:wpAny M A t Q E s)(hQ:∀a s,Q a s->Q' a s):wpAny M A t Q' E s:=d8 h hQ λ_ _ x=>x
section
variable {X:Cx}
def Rg(i:Nat):TE:=λσ H Q=>∃v,σ[i]?=some (some v)/\Q v H
def tC(v:V):TE:=λ_ H Q=>Q v H
theorem aaQ {i:Nat} {x:Str} {pos:Pos} (hN:X.N[i]?=some x) (hv:qp X.env.scope x) (hd:(x==("__debug__" : Str))=false:=by decide) (hcd:(x==("__classdict__" : Str))=false:=by decide):PE X (.Name x pos) (Rg i):=by
 intro pins s σ H Q I h;obtain⟨v,e,h⟩:=h;obtain⟨m,hn,hl⟩:=I.loc;obtain⟨u,r,l⟩:=hl i x v hN e hv;have fin:EP X pins σ Q u s:=⟨v,H,I,r,h⟩
 rcases l with⟨hk,hm⟩|⟨hk,c,hc,hcell⟩
 ·exact wpAny_Name (wpAny_loadName_local I.ok.kind hk hn hm fin) hd
 ·rcases hk with hk|hk
  ·exact wpAny_Name (wpAny_loadName_cell I.ok.kind hk hc hcell fin) hd
  ·exact wpAny_Name (wpAny_loadName_free I.ok.kind hk hc hcell fin hcd) hd
theorem ak{i j pos}:PE X (.Constant (.int i) j pos) (tC (.int i)):=λ_ _ _ H _ I h=>wpAny_Constant_int ⟨.int i,H,I.tok _,⟨_,rfl⟩,h⟩
theorem dj{b j pos}:PE X (.Constant (.bool b) j pos) (tC (.bl b)):=λ_ _ _ H _ I h=>Constant_bool ⟨.bl b,H,I,rfl,h⟩
theorem jB{j pos}:PE X (.Constant .none j pos) (tC .non):=λ_ _ _ H _ I h=>Constant_none ⟨.non,H,I,rfl,h⟩
theorem rZ{x j pos}:PE X (.Constant (.str x) j pos) (tC (.str x)):=λ_ _ _ H _ I h=>Calls.Constant_str ⟨.str x,H,I.tok _,⟨_,rfl⟩,h⟩
def Gl(X:Cx)(x:Str):Prop:=X.env.kindOf x=some .globalImplicit
theorem kg{E:Value->Shared->Prop}{pins:List (Addr × Obj)}{s:Shared}{σ:St}{H:Hp}{x:Str}{u:Value}{pos:Pos}{Q:Value->Shared->Prop}(I:Inv X pins σ H s)(hg:Gl X x)(hm:X.mg x=some u)(h:Q u s)
  (hd:(x==("__debug__" : Str))=false:=by decide):wpAny (model X.prog X.w) X.A (eval (.Name x pos) X.env) Q E s:=
 Calls.Name_function_global I.ok.kind hg (Calls.loadGlobal_global (by rw[I.ok.glob];exact I.mod.glob.keeps I.bk) hm h) hd
theorem jw{E:Value->Shared->Prop}{pins:List (Addr × Obj)}{s:Shared}{σ:St}{H:Hp}{x:Str}{u:Value}{pos:Pos}{Q:Value->Shared->Prop}(I:Inv X pins σ H s)(hg:Gl X x)(hm:X.mg x=none)(hv:bootBuiltins x=some u)(h:Q u s)
  (hn:x ≠ "__name__" :=by decide) (hd:(x==("__debug__" : Str))=false:=by decide):wpAny (model X.prog X.w) X.A (eval (.Name x pos) X.env) Q E s:=by
 obtain⟨mb,h1,h2⟩:=I.mod.blt;exact Calls.Name_function_global I.ok.kind hg (Calls.loadGlobal_builtin (by rw[I.ok.glob];exact I.mod.glob.keeps I.bk) hm (by rw[I.ok.blt];exact h1.keeps I.bk) ((h2 x hn).trans hv) h) hd
theorem fM {x:Str} {v:V} {u:Value} {pos:Pos} (hg:Gl X x) (hm:X.mg x=some u) (r:RelV v u) (hd:(x==("__debug__" : Str))=false:=by decide):PE X (.Name x pos) (tC v):=
 λ_ _ _ H _ I h=>kg I hg hm ⟨v,H,I,r,h⟩ hd
theorem ky {x:Str} {v:V} {u:Value} {pos:Pos} (hg:Gl X x) (hm:X.mg x=none) (hv:bootBuiltins x=some u) (r:RelV v u) (hn:x ≠ "__name__" :=by decide) (hd:(x==("__debug__" : Str))=false:=by decide):PE X (.Name x pos) (tC v):=
 λ_ _ _ H _ I h=>jw I hg hm hv ⟨v,H,I,r,h⟩ hn hd
variable {a b:Expr} {ta tb:TE} {pos:Pos}
def tB(t:TE):TT:=λσ H Q=>t σ H λx H1=>∃c,x = .bl c/\Q c H1
theorem cg{e:Expr}{t:TE}(h:PE X e t)(he:∀whole,isTrue e X.env whole=(do let v <- whole;standAt e.pos;holding [v] (truthy v)):=by intro _;rfl):PT X e (tB t):=by
 intro pins s σ H Q I hw;refine isTrue_plain (aM (h pins s σ H _ I hw) λv s1 ⟨x,H1,I1,r1,q1⟩=>?_) (he _);obtain⟨d,rfl,q⟩:=q1;cases r1;exact jS ⟨H1,I1,q⟩
variable {tA wM:TT} {rest:List Expr}
def ach(t u:TT):TT:=λσ H Q=>t σ H λc H1=>if c=true then u σ H1 Q else Q false H1
def tOr(t u:TT):TT:=λσ H Q=>t σ H λc H1=>if c=true then Q true H1 else u σ H1 Q
def acz(t:TT):TT:=λσ H Q=>t σ H λc H1=>Q (!c) H1
theorem mK(ha:PT X a tA):PW X (.BoolOp .And [a] pos) tA:=by
 intro wh pins s σ H Q I h;refine isTrue_and (aM (ha pins s σ H Q I h) λc s1 e=>?_);cases c with
 |true=>exact isTrue_and_nil e
 |false=>exact e
theorem fj(ha:PT X a tA):PW X (.BoolOp .Or [a] pos) tA:=by
 intro wh pins s σ H Q I h;refine isTrue_or (aM (ha pins s σ H Q I h) λc s1 e=>?_);cases c with
 |false=>exact isTrue_or_nil e
 |true=>exact e
theorem mJ(ha:PT X a tA)(hb:PW X (.BoolOp .And (b::rest) pos) wM):PW X (.BoolOp .And (a::b::rest) pos) (ach tA wM):=by
 intro wh pins s σ H Q I h;refine isTrue_and (aM (ha pins s σ H _ I h) λc s1 ⟨H1,I1,q1⟩=>?_);cases c with
 |true=>exact hb wh pins s1 σ H1 Q I1 q1
 |false=>exact⟨H1,I1,q1⟩
theorem dJ(ha:PT X a tA)(hb:PW X (.BoolOp .Or (b::rest) pos) wM):PW X (.BoolOp .Or (a::b::rest) pos) (tOr tA wM):=by
 intro wh pins s σ H Q I h;refine isTrue_or (aM (ha pins s σ H _ I h) λc s1 ⟨H1,I1,q1⟩=>?_);cases c with
 |true=>exact⟨H1,I1,q1⟩
 |false=>exact hb wh pins s1 σ H1 Q I1 q1
theorem dA(ha:PT X a tA):PT X (.UnaryOp .Not a pos) (acz tA):=by
 intro pins s σ H Q I h;exact isTrue_not (ha pins s σ H (λc H1=>Q (!c) H1) I h)
def aci(ta tb:TE):TE:=λσ H Q=>ta σ H λx H1=>∃c,x = .bl c/\if c=true then tb σ H1 Q else Q (.bl false) H1
noncomputable def acB(ta tb:TE):TE:=λσ H Q=>ta σ H λx H1=>∃c,x = .bl c/\if c=true then Q (.bl true) H1 else tb σ H1 Q
def acA(ta:TE):TE:=λσ H Q=>ta σ H λx H1=>∃c,x = .bl c/\Q (.bl (!c)) H1
theorem jC{op}{t:TE}(h:PE X a t):PE X (.BoolOp op [a] pos) t:=λpins s σ H Q I hw=>BoolOp_one (h pins s σ H Q I hw)
theorem kx(ha:PE X a ta)(hb:PE X (.BoolOp .And (b::rest) pos) tb):PE X (.BoolOp .And (a::b::rest) pos) (aci ta tb):=by
 intro pins s σ H Q I h;refine BoolOp_and (aM (ha pins s σ H _ I h) λv s1 ⟨x,H1,I1,r1,q1⟩=>?_);obtain⟨c,rfl,q1⟩:=q1;cases r1;refine jS ?_;cases c with
 |true=>exact hb pins s1 σ H1 Q I1 q1
 |false=>exact⟨.bl false,H1,I1,rfl,q1⟩
theorem aaO(ha:PE X a ta)(hb:PE X (.BoolOp .Or (b::rest) pos) tb):PE X (.BoolOp .Or (a::b::rest) pos) (acB ta tb):=by
 intro pins s σ H Q I h;refine BoolOp_or (aM (ha pins s σ H _ I h) λv s1 ⟨x,H1,I1,r1,q1⟩=>?_);obtain⟨c,rfl,q1⟩:=q1;cases r1;refine jS ?_;cases c with
 |false=>exact hb pins s1 σ H1 Q I1 q1
 |true=>exact⟨.bl true,H1,I1,rfl,q1⟩
theorem Oi(ha:PE X a ta):PE X (.UnaryOp .Not a pos) (acA ta):=by
 intro pins s σ H Q I h;refine UnaryOp_ (aM (ha pins s σ H _ I h) λv s1 ⟨x,H1,I1,r1,q1⟩=>?_);obtain⟨c,rfl,q1⟩:=q1;cases r1;exact not_of (jS ⟨.bl (!c),H1,I1,rfl,q1⟩)
end
def ag(K:W.Frag)(H:Hp)(a:Addr)(xs:List V):Prop:=
 Rd H a (.lst xs) \/
  ∃(o:Obj) (its:Array Value) (n:Nat),K.lookup a=some o/\o.cls = .type "list" /\ o.dict=none/\o.data = .seq its n/\its.size<=sizeLine/\Vals xs its.toList
def az(K:W.Frag)(H:Hp)(a:Addr)(xs:List V):Prop:=
 Rd H a (.tup xs) \/
  ∃(o:Obj) (its:Array Value) (n:Nat),K.lookup a=some o/\o.cls = .type "tuple" /\ o.data = .seq its n/\its.size<=sizeLine/\Vals xs its.toList
noncomputable def Sh:Value->Option V
 |.none=>some .non
 |.bool b=>some (.bl b)
 |.int i _=>some (.int i)
 |.str x _=>some (.str x)
 |.bytes b _=>some (.iu b)
 |.float b _=>some (.flt b)
 |.ref a=>some (.ref a)
 |.type n=>some (.ty n)
 |_=>none
theorem RelV.abs{x:V}{u:Value}(r:RelV x u):Sh u=some x:=by
 cases x with
 |non=>cases r;rfl
 |bl _=>cases r;rfl
 |int _=>obtain⟨t,rfl⟩:=r;rfl
 |str _=>obtain⟨t,rfl⟩:=r;rfl
 |iu _=>obtain⟨t,rfl⟩:=r;rfl
 |flt _=>obtain⟨t,rfl⟩:=r;rfl
 |ref _=>cases r;rfl
 |ty _=>cases r;rfl
theorem RelV.inj{x y:V}{u:Value}(r:RelV x u)(q:RelV y u):x=y:=df (r.abs.symm.trans q.abs)
theorem Vals.inj:∀{xs ys:List V} {us:List Value},Vals xs us->Vals ys us->xs=ys
 |_,_,_,.nil,.nil=>rfl
 |_,_,_,.cons r t,.cons r' t'=>by rw[r.inj r',Vals.inj t t']
section
variable {X:Cx} {pins:List (Addr × Obj)} {σ:St} {H:Hp} {s:Shared} {a:Addr} {xs ys:List V}
theorem ag.of{K:W.Frag}(h:H a=some (.lst xs)):ag K H a xs:=.inl (.inl h)
theorem az.of{K:W.Frag}(h:H a=some (.tup xs)):az K H a xs:=.inl (.inl h)
theorem Inv.list(I:Inv X pins σ H s)(h:ag X.K H a xs):∃its:List Value,Vals xs its/\PlainL s.heap a its.toArray/\xs.length<=sizeLine:=by
 rcases h with h|⟨o,its,n,hk,hc,hd,hs,hz,r⟩
 ·obtain⟨z,its,n,r,e⟩:=h.ok I.hok
  exact⟨its,r,⟨_,n,e,rfl,rfl,rfl⟩,z⟩
 ·refine⟨its.toList,r,⟨o,n,I.cu a o hk,hc,hd,by simpa using hs⟩,?_⟩
  have e:=r.length;simp only[fO]at e;omega
theorem Inv.tuple(I:Inv X pins σ H s)(h:az X.K H a xs):∃its:List Value,Vals xs its/\IsTup s.heap a its.toArray/\xs.length<=sizeLine:=by
 rcases h with h|⟨o,its,n,hk,hc,hs,hz,r⟩
 ·obtain⟨z,its,r,p,_⟩:=h.ok I.hok
  exact⟨its,r,p,z⟩
 ·refine⟨its.toList,r,⟨o,I.cu a o hk,hc,n,by simpa using hs⟩,?_⟩
  have e:=r.length;simp only[fO]at e;omega
theorem Inv.M_(I:Inv X pins σ H s)(h:ag X.K H a xs)(h':ag X.K H a ys):xs=ys:=by
 obtain⟨its,r,⟨o,n,e,_,_,d⟩,_⟩:=I.list h;obtain⟨its',r',⟨o',n',e',_,_,d'⟩,_⟩:=I.list h';rw[e]at e';cases e';rw[d]at d';injection d' with d1 _
 have:its=its':=by simpa using congrArg Array.toList d1
 subst this;exact r.inj r'
theorem Inv.GF(I:Inv X pins σ H s)(h:az X.K H a xs)(h':az X.K H a ys):xs=ys:=by
 obtain⟨its,r,⟨o,e,_,n,d⟩,_⟩:=I.tuple h;obtain⟨its',r',⟨o',e',_,n',d'⟩,_⟩:=I.tuple h';rw[e]at e';cases e';rw[d]at d';injection d' with d1 _
 have:its=its':=by simpa using congrArg Array.toList d1
 subst this;exact r.inj r'
end
abbrev Cx.wish (X:Cx) (E:Value->Shared->Prop):Cx:={X with xe:=E}
abbrev Cx.vo (X:Cx):Cx:=X.wish λ_ _=>False
theorem Cx.Ok.wish{X:Cx}(ok:X.Ok)(E:Value->Shared->Prop):(X.wish E).Ok:=
 ⟨ok.mod,ok.kind,ok.glob,ok.blt,ok.above,ok.inj,ok.has,ok.cab,ok.hd,ok.frames,ok.stk,ok.j4,ok.bs,ok.eP,ok.iz,ok.iN,ok.d9,ok.gG⟩
theorem Cx.Ok.hZ{X:Cx}{E:Value->Shared->Prop}(ok:(X.wish E).Ok):X.Ok:=
 ⟨ok.mod,ok.kind,ok.glob,ok.blt,ok.above,ok.inj,ok.has,ok.cab,ok.hd,ok.frames,ok.stk,ok.j4,ok.bs,ok.eP,ok.iz,ok.iN,ok.d9,ok.gG⟩
section
variable {X:Cx} {pins:List (Addr × Obj)} {σ:St} {H:Hp} {s:Shared} {E:Value->Shared->Prop}
theorem Inv.wish(I:Inv X pins σ H s)(E:Value->Shared->Prop):Inv (X.wish E) pins σ H s:=⟨I.ok.wish E,I.os,I.bare,I.base,I.loc,I.cell,I.free,I.dQ,I.pin,I.hok,I.len⟩
theorem Inv.hZ(I:Inv (X.wish E) pins σ H s):Inv X pins σ H s:=⟨I.ok.hZ,I.os,I.bare,I.base,I.loc,I.cell,I.free,I.dQ,I.pin,I.hok,I.len⟩
theorem SP.hZ{D:Ends}{f:Flow}{s':Shared}(h:SP (X.wish E) pins D f s'):SP X pins D f s':=by
 cases f with
 |next=>obtain⟨σ',H',I,q⟩:=h;exact⟨σ',H',I.hZ,q⟩
 |brk=>obtain⟨σ',H',I,q⟩:=h;exact⟨σ',H',I.hZ,q⟩
 |cont=>obtain⟨σ',H',I,q⟩:=h;exact⟨σ',H',I.hZ,q⟩
 |ret u=>obtain⟨v,σ',H',I,r,q⟩:=h;exact⟨v,σ',H',I.hZ,r,q⟩
theorem fA.vo{st:List Stmt}{t:TS}(h:fA X.vo st t):fA X st t:=λpins s σ H D I hw =>
 d8 (h pins s σ H D (I.wish _) hw) (λ_ _ q=>q.hZ) λ_ _ z=>False.elim z
end
section
variable {X:Cx} {st:Stmt} {rest:List Stmt} {t u:TS} {e:Expr} {te:TE} {pos:Pos}
def acx:TS:=λD σ H=>D.nx σ H
def kC(t u:TS):TS:=λD σ H=>t {D with nx:=u D} σ H
theorem bD:fA X [] acx:=λ_ _ σ H _ I h=>tZ ⟨σ,H,I,h⟩
theorem ax(h1:PS X st t)(h2:fA X rest u):fA X (st::rest) (kC t u):=by
 intro pins s σ H D I h;refine wpAny_execs_cons (aM (h1 pins s σ H {D with nx:=u D} I h) λf s1 q=>?_);cases f with
 |next =>
  obtain⟨σ',H',I',q⟩:=q;exact h2 pins s1 σ' H' D I' q
 |ret v=>exact q
 |brk=>exact q
 |cont=>exact q
theorem aA(h1:PS X st t):fA X [st] t:=by
 intro pins s σ H D I h;refine wpAny_execs_cons (aM (h1 pins s σ H D I h) λf s1 q=>?_);cases f with
 |next=>exact tZ q
 |ret v=>exact q
 |brk=>exact q
 |cont=>exact q
theorem Inv.quiet{pins:List (Addr × Obj)}{σ:St}{H:Hp}{s:Shared}(I:Inv X pins σ H s):interactive X.env=false:=by simp[interactive,I.ok.kind]
def aco(te:TE):TS:=λD σ H=>te σ H λ_ H1=>D.nx σ H1
theorem dI(he:PE X e te)(hs:swapsWith e none pos.line X.env=pure false:=by rfl):PS X (.Expr e pos) (aco te):=by
 intro pins s σ H D I h;exact wpAny_Expr_any (aM (he pins s σ H _ I h) λv s1 ⟨x,H1,I1,r1,q1⟩=>⟨σ,H1,I1,q1⟩) I.quiet hs
def acE(te:TE):TS:=λD σ H=>te σ H D.rt
theorem aQ(he:PE X e te):PS X (.Return (some e) pos) (acE te):=by
 intro pins s σ H D I h;exact wpAny_Return_some (aM (he pins s σ H _ I h) λv s1 ⟨x,H1,I1,r1,q1⟩=>⟨x,σ,H1,I1,r1,q1⟩)
def acr(c:TT)(t u:TS):TS:=λD σ H=>c σ H λb H1=>if b=true then t D σ H1 else u D σ H1
theorem bB{c:Expr}{a b:List Stmt}{tc:TT}(hc:PT X c tc)(ha:fA X a t)(hb:fA X b u):PS X (.If c a b pos) (acr tc t u):=by
 intro pins s σ H D I h;refine wpAny_If (aM (hc pins s σ H _ I h) λd s1 ⟨H1,I1,q1⟩=>?_);cases d with
 |true=>exact ha pins s1 σ H1 D I1 q1
 |false=>exact hb pins s1 σ H1 D I1 q1
def acw:TS:=λ_ _ _=>False
theorem vG:PS X st acw:=λ_ _ _ _ _ _ h=>h.elim
end
abbrev TG:=V->St->Hp->(St->Hp->Prop)->Prop
abbrev kT:=List V->St->Hp->(St->Hp->Prop)->Prop
def PG(X:Cx)(target:Expr)(t:TG):Prop:=
 ∀(pins:List (Addr × Obj)) (s:Shared) (σ:St) (H:Hp) (v:V) (u:Value) (Q:St->Hp->Prop),Inv X pins σ H s->RelV v u->t v σ H Q ->
  wpAny (model X.prog X.w) X.A (assign target X.env u) (λ_ s'=>∃σ' H',Inv X pins σ' H' s'/\Q σ' H') X.xe s
def qf(X:Cx)(ts:List Expr)(t:kT):Prop:=
 ∀(pins:List (Addr × Obj)) (s:Shared) (σ:St) (H:Hp) (vs:List V) (us:List Value) (Q:St->Hp->Prop),Inv X pins σ H s->Vals vs us->t vs σ H Q ->
  wpAny (model X.prog X.w) X.A (assignInOrder ((assignEach ts X.env).map (·.2)) us) (λ_ s'=>∃σ' H',Inv X pins σ' H' s'/\Q σ' H') X.xe s
abbrev yl:=V->V->V->Hp->(Hp->Prop)->Prop
def HD(X:Cx)(t:yl):Prop:=
 ∀(pins:List (Addr × Obj)) (s:Shared) (σ:St) (H:Hp) (o i v:V) (ov iv u:Value) (Q:Hp->Prop),Inv X pins σ H s->RelV o ov->RelV i iv->RelV v u->t o i v H Q ->
  wpAny (model X.prog X.w) X.A (setItem ov iv u) (λ_ s'=>∃H',Inv X pins σ H' s'/\Q H') X.xe s
section
variable {X:Cx} {pos:Pos}
def cK(i:Nat):TG:=λv σ H Q=>Q (σ.set i (some v)) H
theorem bf{i:Nat}{x:Str}(hN:X.N.Nodup)(hi:X.N[i]?=some x)(hx:Loc X.env.scope x)(hf:X.fn x=true\/X.env.scope.names.lookup x=some .local:=by first|exact .inl rfl|exact .inr rfl|assumption):PG X (.Name x pos) (cK i):=by
 intro pins s σ H v u Q I r h;exact Ig (QW I hN hi hx r (λs' I'=>⟨_,H,I',h⟩) hf)
def uE:kT:=λvs σ H Q=>vs = []/\Q σ H
def mw(t:TG)(u:kT):kT:=λvs σ H Q=>∃v r,vs=v::r/\t v σ H λσ' H'=>u r σ' H' Q
theorem Om:qf X [] uE:=by
 intro pins s σ H vs us Q I r h;obtain⟨e,h⟩:=h;subst e;cases r;exact assignInOrder_nil ⟨σ,H,I,h⟩
theorem mI{e:Expr}{es:List Expr}{t:TG}{u:kT}(h1:PG X e t)(h2:qf X es u)(hs:(assignEach (e::es) X.env).map (·.2)=assign e X.env::(assignEach es X.env).map (·.2):=by rfl):qf X (e::es) (mw t u):=by
 intro pins s σ H vs us Q I r h;obtain⟨v,vr,e1,h⟩:=h;subst e1;cases r with
 |cons r rr =>
  rw[hs];refine assignInOrder_cons (aM (h1 pins s σ H _ _ _ I r h) λ_ s1 ⟨σ1,H1,I1,q1⟩=>?_);exact h2 pins s1 σ1 H1 _ _ Q I1 rr q1
def qN(K:W.Frag)(n:Nat)(t:kT):TG:=λv σ H Q=>∃a xs,v = .ref a/\az K H a xs/\xs.length=n/\t xs σ H Q
theorem Ol{es:List Expr}{k:Nat}{t:kT}{n:Nat}(hc:X.calm=true)(h:qf X es t)(hn:(assignEach es X.env).length=n:=by rfl)(hst:(assignEach es X.env).findIdx? (·.1)=none:=by rfl):PG X (.Tuple es k pos) (qN X.K n t):=by
 intro pins s σ H v u Q I r hw;obtain⟨a,xs,e1,hq,hl,hw⟩:=hw;subst e1;cases r;obtain⟨its,rv,ht,hz⟩:=I.tuple hq;refine assign_Tuple_tuple (I.ok.hd hc) ht (by simp[hn,<- hl,rv.length]) hst λh' hx=>?_;have I1:Inv X pins σ H {s with heap:=h'}:=I.kept (t':=s.toks) λb o e=>hx b o (bE (aR e)) e;exact h pins _ σ H xs _ Q I1 (by simpa using rv) hw
def Ve(to ti:TE)(t:yl):TG:=λv σ H Q=>to σ H λo H1=>ti σ H1 λi H2=>t o i v H2 λH3=>Q σ H3
theorem Oj{o i:Expr}{to ti:TE}{t:yl}(ho:PE X o to)(hi:PE X i ti)(hs:HD X t)
  (ha:∀v,assign (.Subscript o i pos) X.env v=(do
   let ov <- holding [v] (eval o X.env)
   let iv <- holding [v,ov] (eval i X.env)
   standAt pos
   holding [v,ov,iv] (setItem ov iv v)
   release [v,ov,iv] []):=by intro _;rfl):PG X (.Subscript o i pos) (Ve to ti t):=by
 intro pins s σ H v u Q I r h;rw[ha];refine ai (fB (aM (ho pins s σ H _ I h) λov s1 ⟨x,H1,I1,r1,q1⟩=>?_));refine ai (fB (aM (hi pins s1 σ H1 _ I1 q1) λiv s2 ⟨y,H2,I2,r2,q2⟩=>?_));refine ai (nW (ai (fB (aM (hs pins s2 σ H2 x y v ov iv u _ I2 r1 r2 r q2) λ_ s3 ⟨H3,I3,q3⟩=>?_))));exact wpAny_release ⟨σ,H3,I3,q3⟩
def wL(te:TE)(g:TG):TS:=λD σ H=>te σ H λx H1=>g x σ H1 D.nx
theorem Ds{tg e:Expr}{te:TE}{g:TG}(he:PE X e te)(hg:PG X tg g)(hs:swapsWithSole [tg] e pos.line X.env=pure false:=by rfl)(hw:swappedStores [tg] e X.env=pure none:=by rfl)
  (h1:(assignEach [tg] X.env).map (·.2) = [assign tg X.env]:=by rfl):PS X (.Assign [tg] e pos) (wL te g):=by
 intro pins s σ H D I h;refine wpAny_Assign_stores (aM (he pins s σ H _ I h) λv s1 ⟨x,H1,I1,r1,q1⟩=>?_) hs hw;rw[h1];exact aM (hg pins s1 σ H1 x v _ I1 r1 q1) λ_ s2 q=>q
theorem aP{i:Nat}{x:Str}{e:Expr}{te:TE}{pos':Pos}(hN:X.N.Nodup)(hi:X.N[i]?=some x)(hx:Loc X.env.scope x)(he:PE X e te)(hs:swapsWith e (some (.Name x pos')) pos.line X.env=pure false:=by rfl)(hf:X.fn x=true\/X.env.scope.names.lookup x=some .local:=by first|exact .inl rfl|exact .inr rfl|assumption):
  PS X (.Assign [.Name x pos'] e pos) (wL te (cK i)):=by
 intro pins s σ H D I h;refine wpAny_Assign_Name (aM (he pins s σ H _ I h) λv s1 ⟨y,H1,I1,r1,q1⟩=>?_) hs;exact QW I1 hN hi hx r1 (λs2 I2=>⟨_,H1,I2,q1⟩) hf
def acI(c:TT)(tb:TS):TS:=λD σ H=>∃W:Nat->St->Hp->Prop,(∃m,W m σ H)/\∀m σ H,W m σ H ->
 c σ H λb H1=>if b=true then ∃N:St->Hp->Prop,(∀σ' H',N σ' H'->∃m',m'<m/\W m' σ' H')/\tb {D with nx:=N,ct:=N,bk:=D.nx} σ H1 else D.nx σ H1
theorem aa7{c:Expr}{body:List Stmt}{tc:TT}{tb:TS}(hp:PassesOwn (model X.prog X.w) X.A X.env X.xe)(hc:PT X c tc)(hb:fA X body tb):PS X (.While c body [] pos) (acI tc tb):=by
 intro pins s σ H D I h;obtain⟨W,⟨m0,w0⟩,turn⟩:=h;refine wpAny_While (codeAny_whileLoop (λn s'=>∃σ' H',Inv X pins σ' H' s'/\W n σ' H') ?_ m0 ⟨σ,H,I,w0⟩);rintro n s1 ⟨σ1,H1,I1,w1⟩;refine nT hp (aM (hc pins s1 σ1 H1 _ I1 (turn n σ1 H1 w1)) λb s2 ⟨H2,I2,q2⟩=>?_);cases b with
 |true =>
  obtain⟨N,hN,q2⟩:=q2;rw[if_pos rfl];refine nT hp (aM (hb pins s2 σ1 H2 _ I2 q2) λf s3 q3=>?_);cases f with
  |next =>
   obtain⟨σ3,H3,I3,n3⟩:=q3;obtain⟨m',hm,w3⟩:=hN σ3 H3 n3;exact⟨m',hm,σ3,H3,I3,w3⟩
  |cont =>
   obtain⟨σ3,H3,I3,n3⟩:=q3;obtain⟨m',hm,w3⟩:=hN σ3 H3 n3;exact⟨m',hm,σ3,H3,I3,w3⟩
  |brk=>exact q3
  |ret v=>exact q3
 |false =>
  rw[if_neg Bool.false_ne_true];exact tZ ⟨σ1,H2,I2,q2⟩
end
structure It where
 go:Nat->Hp->Prop
 mZ:Nat->Hp->V->Hp->Prop
 stop:Nat->Hp->Prop
def cW(X:Cx)(pins:List (Addr × Obj))(H:Hp)(b:Addr):Prop:=
 H b=none/\b≠X.env.locals/\b ∉ X.fs/\(b∈X.ex\/X.s₀.heap.objs.size<=b)/\(∀x c,X.env.cells.lookup x=some c->c≠b)/\∀p∈X.pn++pins,p.1≠b
theorem Inv.oF{X:Cx}{pins:List (Addr × Obj)}{σ:St}{H H':Hp}{s:Shared}{b:Addr}(I:Inv X pins σ H s)(hb:s.heap.objs.size<=b)(hn:H' b=none):cW X pins H' b:=by
 refine⟨hn,dO (cY I.lt hb),I.Y5 hb,.inr (b_ I.sz hb),λx c e z=>?_,λp hp z=>?_⟩
 ·obtain⟨v,q⟩:=I.cell x c e
  exact absurd (cY q.lt (by rw[z];exact hb)) (dM _)
 ·exact absurd (cY (aR (I.pin p hp).1) (by rw[z];exact hb)) (dM _)
structure Turn (P:Program) (w:World) (K:W.Frag) (tg:Expr) (J:It) (fp:List Addr) (it:Addr) (tn:Nat->Heap->Prop):Prop where
 mem:it∈fp
 obj:∀i h,tn i h->∀b∈fp,∃o,h.get? b=some o/\∀v,o.data≠.cell v
 keep:∀i h h',tn i h->(∀b∈fp,∀o,h.get? b=some o->h'.get? b=some o)->tn i h'
 item:∀(X:Cx),X.prog=P->X.w=w->X.K=K->X.calm=true->∀(i:Nat) (pins:List (Addr × Obj)) (s:Shared) (σ:St) (H:Hp) (E:Value->Shared->Prop),Inv X pins σ H s->(∀b∈fp,cW X pins H b)->tn i s.heap->J.go i H ->
  wpAny (model P w) X.A (pyNext (.ref it)) (λr s1=>∃u,r=some u /\
   wpAny (model P w) X.A (letOwnedTupleGo tg (.ref it) u) (λ_ s2=>∃x H',Inv X pins σ H' s2/\RelV x u/\J.mZ i H x H'/\tn (i+1) s2.heap/\∀b∈fp,H' b=none) E s1) E s
 done:∀(X:Cx),X.prog=P->X.w=w->X.K=K->X.calm=true->∀(i:Nat) (pins:List (Addr × Obj)) (s:Shared) (σ:St) (H:Hp) (E:Value->Shared->Prop),Inv X pins σ H s->(∀b∈fp,cW X pins H b)->tn i s.heap->J.stop i H ->
  wpAny (model P w) X.A (pyNext (.ref it)) (λr s1=>r=none/\Inv X pins σ H s1) E s
 self:∀(A:Around) (i:Nat) (s:Shared) (Q:Value->Shared->Prop) (E:Value->Shared->Prop),tn i s.heap->Q (.ref it) s->wpAny (model P w) A (pyIter (.ref it)) Q E s
abbrev TI:=St->Hp->(It->Hp->Prop)->Prop
def PIE(X:Cx)(pins:List (Addr × Obj))(σ:St)(tg:Expr)(R:It->Hp->Prop)(itv:Value)(s2:Shared):Prop:=
 ∃(it:Addr) (fp:List Addr) (tn:Nat->Heap->Prop) (J:It) (H':Hp),itv = .ref it/\Inv X pins σ H' s2/\Turn X.prog X.w X.K tg J fp it tn/\tn 0 s2.heap/\(∀b∈fp,cW X pins H' b)/\R J H'
def PI(X:Cx)(tg iter:Expr)(wi:TI):Prop:=
 ∀(pins:List (Addr × Obj)) (s:Shared) (σ:St) (H:Hp) (R:It->Hp->Prop),Inv X pins σ H s->wi σ H R ->
  wpAny (model X.prog X.w) X.A (eval iter X.env) (λv s1=>wpAny (model X.prog X.w) X.A (pyIter v) (PIE X pins σ tg R) X.xe s1) X.xe s
theorem Bw{M:Model}{A:Around}{E:Value->Shared->Prop}{s:Shared}{tg:Expr}{it:Addr}{u:Value}{o:Obj}{n:String}{vs:Array Value}{Q:Unit->Shared->Prop}(ho:s.heap.get? it=some o)(hc:o.cls = .type n)(hd:o.data = .fields vs)
  (hn:["enumerate","zip","dict_itemiterator","dict_reverseitemiterator","odict_iterator","itertools.zip_longest","itertools.pairwise"].contains n=false) (hQ:Q () s):wpAny M A (letOwnedTupleGo tg (.ref it) u) Q E s:=by
 unfold letOwnedTupleGo;cases tg<;>first
  |exact aH hQ
  | (cases u<;>first
    |exact aH hQ
    | (refine ai (wpAny_load ho ?_);rw[hc,hd];show wpAny M A (if(["enumerate","zip","dict_itemiterator","dict_reverseitemiterator","odict_iterator","itertools.zip_longest","itertools.pairwise"].contains n&&vs[0]?==some (rawInt _))=true then _ else _) Q E s;rw[if_neg (by intro h;rw[hn,lO]at h;cases h)];exact aH hQ))
noncomputable def kH(K:W.Frag)(a:Addr):It:=
 ⟨λi H=>∃xs x,ag K H a xs/\xs[i]?=some x,λi H x H'=>H'=H/\∀xs,ag K H a xs->xs[i]?=some x,λi H=>∃xs,ag K H a xs/\xs.length<=i⟩
noncomputable def tD(K:W.Frag)(a:Addr):It:=
 ⟨λi H=>∃xs x,az K H a xs/\xs[i]?=some x,λi H x H'=>H'=H/\∀xs,az K H a xs->xs[i]?=some x,λi H=>∃xs,az K H a xs/\xs.length<=i⟩
noncomputable def kI(lo:Int)(n:Nat):It:=⟨λi _=>i<n,λi H x H'=>H'=H/\x = .int (lo+i),λi _=>n<=i⟩
theorem acS{P:Program}{w:World}{K:W.Frag}{tg:Expr}(a it:Addr):Turn P w K tg (kH K a) [it] it (λi h=>h.IsListIter it a i) where
 mem:=by simp
 obj:=λi h st b hb=>by
  have e:b=it:=by simpa using hb
  subst e;obtain⟨o,e,c,d⟩:=st;exact⟨o,e,λv z=>by rw[d]at z;cases z⟩
 keep:=λi h h' st k=>st.at λo e=>k it (by simp) o e
 item:=by
  intro X hP hw hK hc i pins s σ H E I hf st hg;subst hP hw hK;obtain⟨xs,x,hq,hx⟩:=hg;obtain⟨its,rv,p,hz⟩:=I.list hq;obtain⟨u,hu,ru⟩:=rv.get hx;obtain⟨f0,f1,f2,f3,f4,f5⟩:=hf it (by simp);refine wpAny_pyNext_list_item st p.isList (x:=u) (by simpa using hu) λh' st' sb=>?_;have I1:Inv X pins σ H {s with heap:=h'}:=I.turned (t':=s.toks) (λb o hb e=>(sb.2 b hb).trans e) f0 f1 f3 f4 f5;obtain⟨o,e,c,d⟩:=id st';exact⟨u,rfl,Bw (s:={s with heap:=h'}) e c d (by decide) ⟨x,H,I1,ru,⟨rfl,λys hy=>by rw[I.M_ hy hq];exact hx⟩,st',λb hb=>(hf b hb).1⟩⟩
 done:=by
  intro X hP hw hK hc i pins s σ H E I hf st hg;subst hP hw hK;obtain⟨xs,hq,hx⟩:=hg;obtain⟨its,rv,p,hz⟩:=I.list hq;obtain⟨f0,f1,f2,f3,f4,f5⟩:=hf it (by simp);have hl:=rv.length;exact wpAny_pyNext_list_end (I.ok.hd hc) st p.isList (by simp;omega) λh' eb=>⟨rfl,I.turned (t':=s.toks) (λb o hb e=>eb b o hb e) f0 f1 f3 f4 f5⟩
 self:=λ_ _ _ _ _ st h=>wpAny_pyIter_listiter st h
theorem acU{P:Program}{w:World}{K:W.Frag}{tg:Expr}(a it:Addr):Turn P w K tg (tD K a) [it] it (λi h=>h.IsTupleIter it a i) where
 mem:=by simp
 obj:=λi h st b hb=>by
  have e:b=it:=by simpa using hb
  subst e;obtain⟨o,e,c,d⟩:=st;exact⟨o,e,λv z=>by rw[d]at z;cases z⟩
 keep:=λi h h' st k=>st.at λo e=>k it (by simp) o e
 item:=by
  intro X hP hw hK hc i pins s σ H E I hf st hg;subst hP hw hK;obtain⟨xs,x,hq,hx⟩:=hg;obtain⟨its,rv,p,hz⟩:=I.tuple hq;obtain⟨u,hu,ru⟩:=rv.get hx;obtain⟨f0,f1,f2,f3,f4,f5⟩:=hf it (by simp);refine wpAny_pyNext_tuple_item st (show s.heap.IsTuple a its.toArray from p) (x:=u) (by simpa using hu) λh' st' sb=>?_;have I1:Inv X pins σ H {s with heap:=h'}:=I.turned (t':=s.toks) (λb o hb e=>(sb.2 b hb).trans e) f0 f1 f3 f4 f5;obtain⟨o,e,c,d⟩:=id st';exact⟨u,rfl,Bw (s:={s with heap:=h'}) e c d (by decide) ⟨x,H,I1,ru,⟨rfl,λys hy=>by rw[I.GF hy hq];exact hx⟩,st',λb hb=>(hf b hb).1⟩⟩
 done:=by
  intro X hP hw hK hc i pins s σ H E I hf st hg;subst hP hw hK;obtain⟨xs,hq,hx⟩:=hg;obtain⟨its,rv,p,hz⟩:=I.tuple hq;obtain⟨f0,f1,f2,f3,f4,f5⟩:=hf it (by simp);have hl:=rv.length;exact wpAny_pyNext_tuple_end (I.ok.hd hc) st (show s.heap.IsTuple a its.toArray from p) (by simp;omega) λh' eb=>⟨rfl,I.turned (t':=s.toks) (λb o hb e=>eb b o hb e) f0 f1 f3 f4 f5⟩
 self:=λ_ _ _ _ _ st h=>wpAny_pyIter_tupleiter st h
theorem acT{P:Program}{w:World}{K:PySem.W.Frag}{tg:Expr}(it:Addr)(lo:Int)(n:Nat):Turn P w K tg (kI lo n) [it] it (λi h=>IsRangeIter h it (lo+(i:Nat)*1) ((n:Int) - (i:Nat)) 1) where
 mem:=by simp
 obj:=λi h st b hb=>by
  have e:b=it:=by simpa using hb
  subst e;exact⟨_,st,λv z=>by
   have z':Data.fields _=Data.cell v:=z;cases z'⟩
 keep:=λi h h' st k=>k it (by simp) _ st
 item:=by
  intro X hP hw hK hc i pins s σ H E I hf st hg;subst hP hw hK;obtain⟨f0,f1,f2,f3,f4,f5⟩:=hf it (by simp);have W:=Walks.range (prog:=X.prog) (w:=X.w) (I.ok.hd hc) it lo 1 n;refine W.item i s _ _ hg st λv h' tk hv st' kk=>?_;obtain⟨t,rfl⟩:=hv;have I1:Inv X pins σ H {s with heap:=h',toks:=tk}:=I.turned (λb o hb e=>kk b o (by simpa using hb) e) f0 f1 f3 f4 f5;refine⟨_,rfl,Bw (s:={s with heap:=h',toks:=tk}) (n:= "range_iterator") st' rfl rfl (by decide) ⟨.int (lo+i),H,I1,⟨t,?_⟩,⟨rfl,rfl⟩,st',λb hb=>(hf b hb).1⟩⟩;rw[Int.mul_one]
 done:=by
  intro X hP hw hK hc i pins s σ H E I hf st hg;subst hP hw hK;obtain⟨f0,f1,f2,f3,f4,f5⟩:=hf it (by simp);exact wpAny_pyNext_range_end (I.ok.hd hc) st (by have:n<=i:=hg;omega) λh' eb=>⟨rfl,I.turned (t':=s.toks) (λb o hb e=>eb b o hb e) f0 f1 f3 f4 f5⟩
 self:=λ_ _ _ _ _ st h=>wpAny_pyIter_rangeiter st h
section
variable {X:Cx} {tg:Expr}
def Mb(K:W.Frag)(tl:TE):TI:=λσ H R=>tl σ H λx H1=>∃a,x = .ref a/\(∃xs,ag K H1 a xs)/\R (kH K a) H1
def Mf(K:W.Frag)(tl:TE):TI:=λσ H R=>tl σ H λx H1=>∃a,x = .ref a/\(∃xs,az K H1 a xs)/\R (tD K a) H1
theorem aaV{l:Expr}{tl:TE}(hl:PE X l tl):PI X tg l (Mb X.K tl):=by
 intro pins s σ H R I h;refine aM (hl pins s σ H _ I h) λv s1 ⟨x,H1,I1,r1,q1⟩=>?_;obtain⟨a,e,⟨xs,hq⟩,q⟩:=q1;subst e;cases r1;obtain⟨its,rv,p,hz⟩:=I1.list hq;refine yh p.isList ?_;refine⟨s1.heap.objs.size,[s1.heap.objs.size],_,_,H1,rfl,I1.kept (t':=s1.toks) λb o e=>aU _ e,acS a _,⟨_,cn _ rfl,rfl,rfl⟩,λb hb=>?_,q⟩;have e:b=s1.heap.objs.size:=by simpa using hb
 subst e;exact I1.oF (aW _) (I1.hok.fresh (aW _))
theorem aaX{l:Expr}{tl:TE}(hl:PE X l tl):PI X tg l (Mf X.K tl):=by
 intro pins s σ H R I h;refine aM (hl pins s σ H _ I h) λv s1 ⟨x,H1,I1,r1,q1⟩=>?_;obtain⟨a,e,⟨xs,hq⟩,q⟩:=q1;subst e;cases r1;obtain⟨its,rv,p,hz⟩:=I1.tuple hq;refine Ij (show s1.heap.IsTuple a its.toArray from p) ?_;refine⟨s1.heap.objs.size,[s1.heap.objs.size],_,_,H1,rfl,I1.kept (t':=s1.toks) λb o e=>aU _ e,acU a _,⟨_,cn _ rfl,rfl,rfl⟩,λb hb=>?_,q⟩;have e:b=s1.heap.objs.size:=by simpa using hb
 subst e;exact I1.oF (aW _) (I1.hok.fresh (aW _))
theorem O7{pins:List (Addr × Obj)}{σ:St}{H:Hp}{s:Shared}{R:It->Hp->Prop}{E:Value->Shared->Prop}{lo hi:Int}{t u v:Tok}{tk:Nat}(I:Inv X pins σ H s)(h1:-(2 ^ 62)<=lo)(h2:lo<2 ^ 62)(h3:-(2 ^ 62)<=hi)(h4:hi<2 ^ 62)
  (q:R (kI lo (hi - lo).toNat) H):wpAny (model X.prog X.w) X.A (pyIter (.ref s.heap.objs.size)) (PIE X pins σ tg R) E {s with heap:=s.heap.push {cls:=.type "range", data:=.fields #[.int lo t,.int hi u,.int 1 v]},toks:=tk}:=by
 refine wpAny_pyIter_range (IsRange.new ..) (small_one h1 h2 h3 h4) ?_;have I1:Inv X pins σ H {s with heap:=s.heap.push {cls:=.type "range", data:=.fields #[.int lo t,.int hi u,.int 1 v]},toks:=tk}:=I.kept λb o e=>aU _ e;refine⟨(s.heap.push {cls:=.type "range", data:=.fields #[.int lo t,.int hi u,.int 1 v]}).objs.size,[(s.heap.push {cls:=.type "range", data:=.fields #[.int lo t,.int hi u,.int 1 v]}).objs.size],_,_,H,rfl,
  I1.kept (t':=tk) λb o e=>aU _ e,acT _ lo (hi - lo).toNat,?_,λb hb=>?_,q⟩
 ·have e1:lo+((0:Nat):Int)*1=lo:=by simp
  have e2:(((hi - lo).toNat:Nat):Int) - ((0:Nat):Int)=Builtin.Range.rangeSize lo hi 1:=by rw[rangeSize_one];split<;>omega
  show IsRangeIter _ _ (lo+((0:Nat):Int)*1) ((((hi - lo).toNat:Nat):Int) - ((0:Nat):Int)) 1;rw[e1,e2];exact cn _ rfl
 ·have e:b=(s.heap.push {cls:=.type "range", data:=.fields #[.int lo t,.int hi u,.int 1 v]}).objs.size:=by simpa using hb
  subst e;exact I1.oF (aW _) (I1.hok.fresh (aW _))
def Xc(ta:TA):TI:=λσ H R=>ta σ H λvs H1=>∃j:Int,vs = [.int j]/\-(2 ^ 62)<=j/\j<2 ^ 62/\R (kI 0 j.toNat) H1
def Xd(ta:TA):TI:=λσ H R=>ta σ H λvs H1=>∃i j:Int,vs = [.int i,.int j]/\(-(2 ^ 62)<=i/\i<2 ^ 62/\-(2 ^ 62)<=j/\j<2 ^ 62)/\R (kI i (j - i).toNat) H1
theorem cM {a:Expr} {ta:TA} {p pos:Pos} (hg:Gl X "range") (hm:X.mg "range" = none) (ha:PA X [a] ta) (hs:starEach [a] X.env = [(false,eval a X.env)]:=by rfl):PI X tg (.Call (.Name "range" p) [a] [] pos) (Xc ta):=by
 intro pins s σ H R I h;refine Call_ (jw I hg hm boot_range (nI (aM (ha pos pins s σ H _ I h) λus s1 ⟨vs,H1,I1,r1,q1⟩=>?_) hs rfl));obtain⟨j,e,q1,q2,q⟩:=q1;subst e;cases r1 with
 |cons r rr =>
  cases rr;obtain⟨t,rfl⟩:=r;exact call_range_1 (O7 I1 (by omega) (by omega) q1 q2 (by simpa using q))
theorem Dq {a b:Expr} {ta:TA} {p pos:Pos} (hg:Gl X "range") (hm:X.mg "range" = none) (ha:PA X [a,b] ta) (hs:starEach [a,b] X.env = [(false,eval a X.env),(false,eval b X.env)]:=by rfl) (hs2:starEach [b] X.env = [(false,eval b X.env)]:=by rfl) :
  PI X tg (.Call (.Name "range" p) [a,b] [] pos) (Xd ta):=by
 intro pins s σ H R I h;refine Call_ (jw I hg hm boot_range (nI (aM (ha pos pins s σ H _ I h) λus s1 ⟨vs,H1,I1,r1,q1⟩=>?_) (by rw[hs,hs2]) (by rw[hs2];rfl)));obtain⟨i,j,e,⟨q1,q2,q3,q4⟩,q⟩:=q1;subst e;cases r1 with
 |cons r rr =>
  cases rr with
  |cons r' rr =>
   cases rr;obtain⟨t,rfl⟩:=r;obtain⟨t',rfl⟩:=r';exact call_range_2 (O7 I1 q1 q2 q3 q4 q)
def acp(wi:TI)(g:TG)(tb:TS):TS:=λD σ H=>wi σ H λJ H1=>∃W:Nat->Nat->St->Hp->Prop,(∃m,W 0 m σ H1)/\∀i m σ H,W i m σ H ->
 (J.stop i H/\D.nx σ H)\/(J.go i H/\∃N:St->Hp->Prop,(∀σ' H',N σ' H'->∃m',m'<m/\W (i+1) m' σ' H')/\∀x H',J.mZ i H x H'->g x σ H' λσ2 H2=>tb {D with nx:=N,ct:=N,bk:=D.nx} σ2 H2)
noncomputable def r0(fp:List Addr)(h:Heap):List (Addr × Obj):=fp.filterMap λb=>(h.get? b).map λo=>(b,o)
theorem vd{fp:List Addr}{h:Heap}{b:Addr}{o:Obj}(hb:b∈fp)(e:h.get? b=some o):(b,o)∈r0 fp h:=List.mem_filterMap.mpr ⟨b,hb,by rw[e];rfl⟩
theorem Zd{fp:List Addr}{h:Heap}{p:Addr × Obj}(hp:p∈r0 fp h):p.1∈fp/\h.get? p.1=some p.2:=by
 obtain⟨b,hb,e⟩:=List.mem_filterMap.mp hp;cases q:h.get? b with
 |none=>rw[q]at e;cases e
 |some o =>
  rw[q]at e;have e':(b,o)=p:=df e;subst e';exact⟨hb,q⟩
theorem Inv.pinned{pins:List (Addr × Obj)}{σ:St}{H:Hp}{s:Shared}{fp:List Addr}(I:Inv X pins σ H s)(hf:∀b∈fp,cW X pins H b)(ho:∀b∈fp,∃o,s.heap.get? b=some o/\∀v,o.data≠.cell v):Inv X (pins++r0 fp s.heap) σ H s:=
 I.vF λp hp=>(gy.mp hp).elim (λz=>I.pin p (gB _ z)) λz=>by
  obtain⟨hb,e⟩:=Zd z;obtain⟨f0,f1,f2,_⟩:=hf p.1 hb;obtain⟨o,e',d⟩:=ho p.1 hb;rw[e]at e';cases e';exact⟨e,f0,f1,f2,d⟩
theorem Inv.wQ{pins pl:List (Addr × Obj)}{σ:St}{H:Hp}{s:Shared}(I:Inv X (pins++pl) σ H s):Inv X pins σ H s:=I.vF λp hp=>I.pin p (gB _ (kL _ hp))
theorem cH{iter:Expr}{body:List Stmt}{wi:TI}{g:TG}{tb:TS}{pos:Pos}(hp:PassesOwn (model X.prog X.w) X.A X.env X.xe)(hc:X.calm=true)(hi:PI X tg iter wi)(hg:PG X tg g)(hb:fA X body tb)(hs:∀x,foldedSetIterable iter X.env x=pure x:=by intro _;rfl):PS X (.For tg iter body [] pos) (acp wi g tb):=by
 intro pins s σ H D I h;refine wpAny_For (aM (hi pins s σ H _ I h) λv s1 h1=>aM h1 λitv s2 h2=>?_) hs;obtain⟨it,fp,tn,J,H2,e,I2,T,st2,f2,W,⟨m0,w0⟩,turn⟩:=h2;subst e;have stat:∀{H':Hp},(∀b∈fp,H' b=none)->∀b∈fp,cW X pins H' b:=λhn b hb=>⟨hn b hb,(f2 b hb).2⟩;refine codeAny_forLoop_any (λn s'=>∃i σ' H',Inv X pins σ' H' s'/\tn i s'.heap/\(∀b∈fp,H' b=none)/\W i n σ' H') ?_ m0 ⟨0,σ,H2,I2,st2,λb hb=>(f2 b hb).1,w0⟩;rintro n s3 ⟨i,σ3,H3,I3,st3,qL,w3⟩
 rcases turn i n σ3 H3 w3 with⟨stop,qn⟩|⟨go,N,hN,step⟩
 ·refine nT hp (aM (T.done X rfl rfl rfl hc i pins s3 σ3 H3 X.xe I3 (stat qL) st3 stop) λr s4 ⟨hr,I4⟩=>?_)
  subst hr;exact tZ ⟨σ3,H3,I4,qn⟩
 ·refine nT hp (aM (T.item X rfl rfl rfl hc i pins s3 σ3 H3 X.xe I3 (stat qL) st3 go) λr s4 ⟨u,hr,h4⟩=>?_)
  subst hr;refine nT hp (aM h4 λ_ s5 ⟨x,H5,I5,r5,y5,mR,Bi⟩=>?_);have xk:=I5.pinned (stat Bi) (T.obj _ _ mR);refine nT hp (aM (hg _ s5 σ3 H5 x u _ xk r5 (step x H5 y5)) λ_ s6 ⟨σ6,H6,I6,q6⟩=>?_);refine nT hp (aM (hb _ s6 σ6 H6 _ I6 q6) λf s7 q7=>?_);have again:∀{σ7:St} {H7:Hp},Inv X (pins++r0 fp s5.heap) σ7 H7 s7->N σ7 H7->∃m,m<n/\∃i σ' H',Inv X pins σ' H' s7/\tn i s7.heap/\(∀b∈fp,H' b=none)/\W i m σ' H':=λ{σ7 H7} I7 n7=>by
   obtain⟨m',hm,w7⟩:=hN σ7 H7 n7;refine⟨m',hm,i+1,σ7,H7,I7.wQ,T.keep _ _ _ mR λb hb o e=>(I7.pin (b,o) (gB _ (gB _ (vd hb e)))).1,λb hb=>?_,w7⟩;obtain⟨o,e,d⟩:=T.obj _ _ mR b hb;exact(I7.pin (b,o) (gB _ (gB _ (vd hb e)))).2.1
  cases f with
  |next=>obtain⟨σ7,H7,I7,n7⟩:=q7;exact again I7 n7
  |cont=>obtain⟨σ7,H7,I7,n7⟩:=q7;exact again I7 n7
  |brk=>obtain⟨σ7,H7,I7,q7⟩:=q7;exact⟨σ7,H7,I7.wQ,q7⟩
  |ret v=>obtain⟨x7,σ7,H7,I7,r7,q7⟩:=q7;exact⟨x7,σ7,H7,I7.wQ,r7,q7⟩
end
theorem jr{K:PySem.W.Frag}{a:Addr}{xs:List V}{g:TG}{tb:TS}{D:Ends}{σ:St}{H:Hp}(Pv:Nat->St->Hp->Prop)(h0:Pv 0 σ H)(hl:∀i σ H,i<=xs.length->Pv i σ H->ag K H a xs)
  (hs:∀i x σ H,xs[i]?=some x->Pv i σ H->g x σ H λσ2 H2=>tb {D with nx:=Pv (i+1),ct:=Pv (i+1),bk:=D.nx} σ2 H2) (hd:∀σ H,Pv xs.length σ H->D.nx σ H) :
  ∃W:Nat->Nat->St->Hp->Prop,(∃m,W 0 m σ H)/\∀i m σ H,W i m σ H ->
   ((kH K a).stop i H/\D.nx σ H)\/((kH K a).go i H/\∃N:St->Hp->Prop,(∀σ' H',N σ' H'->∃m',m'<m/\W (i+1) m' σ' H')/\∀x H',(kH K a).mZ i H x H'->g x σ H' λσ2 H2=>tb {D with nx:=N,ct:=N,bk:=D.nx} σ2 H2):=by
 refine⟨λi m σ H=>m=xs.length - i/\i<=xs.length/\Pv i σ H,⟨xs.length,by simp,eD _,h0⟩,?_⟩;rintro i m σ H ⟨rfl,hi,p⟩;have q:=hl i σ H hi p
 by_cases hlt:i<xs.length
 ·refine .inr ⟨⟨xs,xs[i],q,by simp[hlt]⟩,Pv (i+1),λσ' H' p'=>⟨xs.length - (i+1),by omega,rfl,hlt,p'⟩,λx H' y=>?_⟩
  obtain⟨e,y⟩:=y;subst e;exact hs i x σ _ (y xs q) p
 ·have e:i=xs.length:=by omega
  subst e;exact .inl ⟨⟨xs,q,aW _⟩,hd σ H p⟩
theorem fb{lo:Int}{n:Nat}{g:TG}{tb:TS}{D:Ends}{σ:St}{H:Hp}(Pv:Nat->St->Hp->Prop)(h0:Pv 0 σ H)
  (hs:∀i σ H,i<n->Pv i σ H->g (.int (lo+i)) σ H λσ2 H2=>tb {D with nx:=Pv (i+1),ct:=Pv (i+1),bk:=D.nx} σ2 H2) (hd:∀σ H,Pv n σ H->D.nx σ H) :
  ∃W:Nat->Nat->St->Hp->Prop,(∃m,W 0 m σ H)/\∀i m σ H,W i m σ H ->
   ((kI lo n).stop i H/\D.nx σ H)\/((kI lo n).go i H/\∃N:St->Hp->Prop,(∀σ' H',N σ' H'->∃m',m'<m/\W (i+1) m' σ' H')/\∀x H',(kI lo n).mZ i H x H'->g x σ H' λσ2 H2=>tb {D with nx:=N,ct:=N,bk:=D.nx} σ2 H2):=by
 refine⟨λi m σ H=>m=n - i/\i<=n/\Pv i σ H,⟨n,by simp,eD _,h0⟩,?_⟩;rintro i m σ H ⟨rfl,hi,p⟩
 by_cases hlt:i<n
 ·refine .inr ⟨hlt,Pv (i+1),λσ' H' p'=>⟨n - (i+1),by omega,rfl,hlt,p'⟩,λx H' y=>?_⟩
  obtain⟨e,y⟩:=y;subst e y;exact hs i σ _ hlt p
 ·have e:i=n:=by omega
  subst e;exact .inl ⟨aW _,hd σ H p⟩
abbrev R2:=V->V->Hp->VK->Prop
def bY(X:Cx)(f:Value->Value->Sem Value)(r:R2):Prop:=
 ∀(pins:List (Addr × Obj)) (s:Shared) (σ:St) (H:Hp) (x y:V) (v u:Value) (Q:VK),Inv X pins σ H s->RelV x v->RelV y u->r x y H Q ->
  wpAny (model X.prog X.w) X.A (f v u) (EP X pins σ Q) X.xe s
def ym(X:Cx)(f:Value->Sem Value)(r:V->Hp->VK->Prop):Prop:=
 ∀(pins:List (Addr × Obj)) (s:Shared) (σ:St) (H:Hp) (x:V) (v:Value) (Q:VK),Inv X pins σ H s->RelV x v->r x H Q ->
  wpAny (model X.prog X.w) X.A (f v) (EP X pins σ Q) X.xe s
def dD(X:Cx)(f:Value)(r:List V->Hp->VK->Prop):Prop:=
 ∀(pins:List (Addr × Obj)) (s:Shared) (σ:St) (H:Hp) (xs:List V) (us:List Value) (Q:VK),Inv X pins σ H s->Vals xs us->r xs H Q ->
  wpAny (model X.prog X.w) X.A (call f us) (EP X pins σ Q) X.xe s
def wN(r:R2)(ta tb:TE):TE:=λσ H Q=>ta σ H λx H1=>tb σ H1 λy H2=>r x y H2 Q
def tUn(r:V->Hp->VK->Prop)(ta:TE):TE:=λσ H Q=>ta σ H λx H1=>r x H1 Q
def rI(C:Int->Int->Prop)(g:Int->Int->V):R2:=λx y H Q=>∃i j,x = .int i/\y = .int j/\C i j/\Q (g i j) H
def jG(g:Int->Int->V):R2:=λx y H Q=>∃i j,x = .int i/\y = .int j/\Q (g i j) H
def rU(g:Int->V):V->Hp->VK->Prop:=λx H Q=>∃i,x = .int i/\Q (g i) H
section
variable {X:Cx} {a b c:Expr} {ta tb tc:TE} {pos:Pos}
theorem yv(ha:PE X a ta)(hb:PE X b tb){pins:List (Addr × Obj)}{s:Shared}{σ:St}{H:Hp}{R:V->V->Hp->Prop}(I:Inv X pins σ H s)(h:ta σ H λx H1=>tb σ H1 λy H2=>R x y H2){Q:Value->Shared->Prop}{f:Value->Value->Sem Value}(hf:∀v u s2 x y H2,Inv X pins σ H2 s2->RelV x v->RelV y u->R x y H2->wpAny (model X.prog X.w) X.A (f v u) Q X.xe s2):wpAny (model X.prog X.w) X.A (eval a X.env) (λv s₁=>wpAny (model X.prog X.w) X.A (eval b X.env) (λu s₂=>wpAny (model X.prog X.w) X.A (f v u) Q X.xe s₂) X.xe s₁) X.xe s:=by
 refine aM (ha pins s σ H _ I h) λv s1 ⟨x,H1,I1,r1,q1⟩=>?_;refine aM (hb pins s1 σ H1 _ I1 q1) λu s2 ⟨y,H2,I2,r2,q2⟩=>?_;exact hf v u s2 x y H2 I2 r1 r2 q2
theorem aJ{op:Operator}{r:R2}(ho:bY X (binaryOp op) r)(ha:PE X a ta)(hb:PE X b tb):PE X (.BinOp a op b pos) (wN r ta tb):=by
 intro pins s σ H Q I h;exact wpAny_BinOp (yv ha hb I h λv u s2 x y H2 I2 rx ry q=>ho pins s2 σ H2 x y v u Q I2 rx ry q)
theorem jD{op:UnaryOp}{r:V->Hp->VK->Prop}(ho:ym X (unaryOp op) r)(ha:PE X a ta):PE X (.UnaryOp op a pos) (tUn r ta):=by
 intro pins s σ H Q I h;exact UnaryOp_ (aM (ha pins s σ H _ I h) λv s1 ⟨x,H1,I1,r1,q1⟩=>ho pins s1 σ H1 x v Q I1 r1 q1)
theorem o_{f:Value->Value->Sem Value}{C:Int->Int->Prop}{g:Int->Int->Int}
  (rule:∀(i j:Int) (t u:Tok) (s:Shared) (Q:Value->Shared->Prop) (E:Value->Shared->Prop),C i j->Q (.int (g i j) s.toks) {s with toks:=s.toks+1}->wpAny (model X.prog X.w) X.A (f (.int i t) (.int j u)) Q E s) :
  bY X f (rI C λi j=>.int (g i j)):=by
 intro pins s σ H x y v u Q I rx ry h;obtain⟨i,j,rfl,rfl,hc,q⟩:=h;obtain⟨t,rfl⟩:=rx;obtain⟨t',rfl⟩:=ry;exact rule i j t t' s _ _ hc ⟨.int (g i j),H,I.tok _,⟨_,rfl⟩,q⟩
theorem vw{f:Value->Value->Sem Value}{g:Int->Int->Int}
  (rule:∀(i j:Int) (t u:Tok) (s:Shared) (Q:Value->Shared->Prop) (E:Value->Shared->Prop),Q (.int (g i j) s.toks) {s with toks:=s.toks+1}->wpAny (model X.prog X.w) X.A (f (.int i t) (.int j u)) Q E s) :
  bY X f (jG λi j=>.int (g i j)):=by
 intro pins s σ H x y v u Q I rx ry h;obtain⟨i,j,rfl,rfl,q⟩:=h;obtain⟨t,rfl⟩:=rx;obtain⟨t',rfl⟩:=ry;exact rule i j t t' s _ _ ⟨.int (g i j),H,I.tok _,⟨_,rfl⟩,q⟩
theorem vv{f:Value->Value->Sem Value}{g:Int->Int->Bool}(rule:∀(i j:Int) (t u:Tok) (s:Shared) (Q:Value->Shared->Prop) (E:Value->Shared->Prop),Q (.bool (g i j)) s->wpAny (model X.prog X.w) X.A (f (.int i t) (.int j u)) Q E s):bY X f (jG λi j=>.bl (g i j)):=by
 intro pins s σ H x y v u Q I rx ry h;obtain⟨i,j,rfl,rfl,q⟩:=h;obtain⟨t,rfl⟩:=rx;obtain⟨t',rfl⟩:=ry;exact rule i j t t' s _ _ ⟨.bl (g i j),H,I,rfl,q⟩
def RM(i j:Int):Prop:=0<j/\j<1073741824
def G9(i j:Int):Prop:=0<=j/\j<=1000000/\i.natAbs<2 ^ 64
def sS(i j:Int):Prop:=(-(2 ^ 64)<i/\i<2 ^ 64)\/(-(2 ^ 64)<j/\j<2 ^ 64)
theorem sS.ok{i j:Int}(h:sS i j):IntMulOk i j:=by
 rcases h with⟨h1,h2⟩|⟨h1,h2⟩
 ·exact .of_left (intBits_le_64 h1 h2)
 ·exact .of_right (intBits_le_64 h1 h2)
theorem acX(k:Nat):(0:Int)<=2 ^ k:=by
 rw[two_pow_cast];exact Int.natCast_nonneg _
theorem dG:bY X (binaryOp .Add) (jG λi j=>.int (i+j)):=vw λ_ _ _ _ _ _ _ q=>add_int q
theorem N_:bY X (binaryOp .Sub) (jG λi j=>.int (i - j)):=vw λ_ _ _ _ _ _ _ q=>sub_int q
theorem ph:bY X (binaryOp .Mult) (rI sS λi j=>.int (i*j)):=o_ λ_ _ _ _ _ _ _ hc q=>mul_int q hc.ok
theorem rY:bY X (binaryOp .FloorDiv) (rI RM λi j=>.int (i / j)):=o_ λi j _ _ _ _ _ hc q=>by
 have h1:(0:Int)<j:=hc.1;have h2:j<1073741824:=hc.2;exact floordiv_int (by omega) (by rw[RV i (by omega)];exact q) (.inl (PyProof.noPylong_small (by omega)))
theorem cU:bY X (binaryOp .Mod) (rI (λ_ j=>0<j) λi j=>.int (i % j)):=o_ λi j _ _ _ _ _ hc q=>by
 have h1:(0:Int)<j:=hc;exact mod_int' (by omega) (by rw[Int.fmod_eq_emod_of_nonneg i (by omega)];exact q)
theorem aas:bY X (binaryOp .Pow) (rI G9 λi j=>.int (i ^ j.toNat)):=o_ λ_ _ _ _ _ _ _ hc q=>pow_int_small hc.1 hc.2.1 hc.2.2 q
theorem pj:bY X (binaryOp .LShift) (rI G9 λi j=>.int (i*2 ^ j.toNat)):=o_ λ_ _ _ _ _ _ _ hc q=>lshift_int_small hc.1 hc.2.1 hc.2.2 q
theorem N9:bY X (binaryOp .RShift) (rI (λ_ j=>0<=j) λi j=>.int (i / 2 ^ j.toNat)):=o_ λi j _ _ _ _ _ hc q =>
 rshift_int hc (by rw[RV i (acX _)];exact q)
theorem jz:bY X (binaryOp .BitAnd) (jG λi j=>.int (Builtin.bitAnd i j)):=vw λ_ _ _ _ _ _ _ q=>and_int q
theorem vz:bY X (binaryOp .BitOr) (jG λi j=>.int (Builtin.bitOr i j)):=vw λ_ _ _ _ _ _ _ q=>or_int q
theorem unI{f:Value->Sem Value}{g:Int->Int}
  (rule:∀(i:Int) (t:Tok) (s:Shared) (Q:Value->Shared->Prop) (E:Value->Shared->Prop),Q (.int (g i) s.toks) {s with toks:=s.toks+1}->wpAny (model X.prog X.w) X.A (f (.int i t)) Q E s) :
  ym X f (rU λi=>.int (g i)):=by
 intro pins s σ H x v Q I rx h;obtain⟨i,rfl,q⟩:=h;obtain⟨t,rfl⟩:=rx;exact rule i t s _ _ ⟨.int (g i),H,I.tok _,⟨_,rfl⟩,q⟩
theorem jK:ym X (unaryOp .USub) (rU λi=>.int (-i)):=unI λ_ _ _ _ _ q=>neg_int q
end
noncomputable def QH:V->V->Bool
 |.non,.non=>true | .non,.int _=>true | .int _,.non=>true | .non,.bl _=>true | .bl _,.non=>true | .non,.str _=>true | .str _,.non=>true
 |.int _,.int _=>true | .bl _,.bl _=>true | .str _,.str _=>true | .iu _,.iu _=>true
 |.int _,.str _=>true | .str _,.int _=>true | .bl _,.str _=>true | .str _,.bl _=>true
 |_,_=>false
def rEq:R2:=λx y H Q=>QH x y=true/\Q (.bl (decide (x=y))) H
def rNe:R2:=λx y H Q=>QH x y=true/\Q (.bl (!decide (x=y))) H
theorem JL{i j:Int}:decide (V.int i=V.int j)=(i==j):=by
 rw[dm];simp
theorem JH{i j:Bool}:decide (V.bl i=V.bl j)=(i==j):=by
 rw[dm];simp
theorem JM{i j:Str}:decide (V.str i=V.str j)=(i==j):=by
 rw[dm];simp
theorem JK{i j:Array UInt8}:decide (V.iu i=V.iu j)=(i.toList==j.toList):=by
 rw[dm];cases i;cases j;simp
section
variable {X:Cx} {a b c:Expr} {ta tb tc:TE} {pos:Pos}
theorem cB{pins:List (Addr × Obj)}{σ:St}{H:Hp}{s:Shared}{Q:VK}{k k':Bool}(I:Inv X pins σ H s)(q:Q (.bl k) H)(e:k=k'):EP X pins σ Q (.bool k') s:=by
 subst e;exact⟨.bl k,H,I,rfl,q⟩
theorem dH:bY X (compareOp .Eq) rEq:=by
 intro pins s σ H x y v u Q I rx ry h;obtain⟨hs,q⟩:=h;cases x with
 |non =>
  cases rx;cases y with
  |non=>cases ry;exact PySem.EqNone.eq_none_none (cB I q (by simp))
  |bl j=>cases ry;exact PySem.EqNone.eq_none_bool (cB I q (by simp))
  |int j=>obtain⟨t',rfl⟩:=ry;exact PySem.EqNone.eq_none_int (cB I q (by simp))
  |str j=>obtain⟨t',rfl⟩:=ry;exact PySem.EqNone.eq_none_str (cB I q (by simp))
  |_=>exact absurd (show false=true from hs) Bool.false_ne_true
 |bl i =>
  cases rx;cases y with
  |non=>cases ry;exact PySem.EqNone.eq_bool_none (cB I q (by simp))
  |bl j=>cases ry;exact eq_bool (cB I q JH)
  |str j=>obtain⟨t',rfl⟩:=ry;exact PySem.EqMixed.eq_bool_str (cB I q (by simp))
  |_=>exact absurd (show false=true from hs) Bool.false_ne_true
 |int i =>
  obtain⟨t,rfl⟩:=rx;cases y with
  |non=>cases ry;exact PySem.EqNone.eq_int_none (cB I q (by simp))
  |int j=>obtain⟨t',rfl⟩:=ry;exact eq_int (cB I q JL)
  |str j=>obtain⟨t',rfl⟩:=ry;exact PySem.EqMixed.eq_int_str (cB I q (by simp))
  |_=>exact absurd (show false=true from hs) Bool.false_ne_true
 |str i =>
  obtain⟨t,rfl⟩:=rx;cases y with
  |non=>cases ry;exact PySem.EqNone.eq_str_none (cB I q (by simp))
  |bl j=>cases ry;exact PySem.EqMixed.eq_str_bool (cB I q (by simp))
  |int j=>obtain⟨t',rfl⟩:=ry;exact PySem.EqMixed.eq_str_int (cB I q (by simp))
  |str j=>obtain⟨t',rfl⟩:=ry;exact eq_str (cB I q JM)
  |_=>exact absurd (show false=true from hs) Bool.false_ne_true
 |iu i =>
  obtain⟨t,rfl⟩:=rx;cases y with
  |iu j=>obtain⟨t',rfl⟩:=ry;exact W.eq_bytes (cB I q JK)
  |_=>exact absurd (show false=true from hs) Bool.false_ne_true
 |_=>cases y<;>exact absurd (show false=true from hs) Bool.false_ne_true
theorem eU:bY X (compareOp .NotEq) rNe:=by
 intro pins s σ H x y v u Q I rx ry h;obtain⟨hs,q⟩:=h;cases x with
 |non =>
  cases rx;cases y with
  |non=>cases ry;exact PySem.EqNone.ne_none_none (cB I q (by simp))
  |bl j=>cases ry;exact PySem.EqNone.ne_none_bool (cB I q (by simp))
  |int j=>obtain⟨t',rfl⟩:=ry;exact PySem.EqNone.ne_none_int (cB I q (by simp))
  |str j=>obtain⟨t',rfl⟩:=ry;exact PySem.EqNone.ne_none_str (cB I q (by simp))
  |_=>exact absurd (show false=true from hs) Bool.false_ne_true
 |bl i =>
  cases rx;cases y with
  |non=>cases ry;exact PySem.EqNone.ne_bool_none (cB I q (by simp))
  |bl j=>cases ry;exact ne_bool (cB I q (congrArg not JH))
  |str j=>obtain⟨t',rfl⟩:=ry;exact PySem.EqMixed.ne_bool_str (cB I q (by simp))
  |_=>exact absurd (show false=true from hs) Bool.false_ne_true
 |int i =>
  obtain⟨t,rfl⟩:=rx;cases y with
  |non=>cases ry;exact PySem.EqNone.ne_int_none (cB I q (by simp))
  |int j=>obtain⟨t',rfl⟩:=ry;exact ne_int (cB I q (congrArg not JL))
  |str j=>obtain⟨t',rfl⟩:=ry;exact PySem.EqMixed.ne_int_str (cB I q (by simp))
  |_=>exact absurd (show false=true from hs) Bool.false_ne_true
 |str i =>
  obtain⟨t,rfl⟩:=rx;cases y with
  |non=>cases ry;exact PySem.EqNone.ne_str_none (cB I q (by simp))
  |bl j=>cases ry;exact PySem.EqMixed.ne_str_bool (cB I q (by simp))
  |int j=>obtain⟨t',rfl⟩:=ry;exact PySem.EqMixed.ne_str_int (cB I q (by simp))
  |str j=>obtain⟨t',rfl⟩:=ry;exact ne_str (cB I q (congrArg not JM))
  |_=>exact absurd (show false=true from hs) Bool.false_ne_true
 |iu i =>
  obtain⟨t,rfl⟩:=rx;cases y with
  |iu j=>obtain⟨t',rfl⟩:=ry;exact W.ne_bytes (cB I q (congrArg not JK))
  |_=>exact absurd (show false=true from hs) Bool.false_ne_true
 |_=>cases y<;>exact absurd (show false=true from hs) Bool.false_ne_true
theorem pe:bY X (compareOp .Lt) (jG λi j=>.bl (decide (i<j))):=vv λ_ _ _ _ _ _ _ q=>lt_int q
theorem Dg:bY X (compareOp .LtE) (jG λi j=>.bl (decide (i<=j))):=vv λ_ _ _ _ _ _ _ q=>le_int q
theorem aao:bY X (compareOp .Gt) (jG λi j=>.bl (decide (j<i))):=vv λ_ _ _ _ _ _ _ q=>gt_int q
theorem vx:bY X (compareOp .GtE) (jG λi j=>.bl (decide (j<=i))):=vv λ_ _ _ _ _ _ _ q=>ge_int q
theorem vy:bY X (compareOp .Is) (λx y H Q=>y = .non/\Q (.bl (decide (x = .non))) H):=by
 intro pins s σ H x y v u Q I rx ry h;obtain⟨rfl,q⟩:=h;cases ry;refine is_none_gen (cB I q ?_);cases x<;>first
  | (cases rx;rfl)
  | (obtain⟨t,rfl⟩:=rx;rfl)
theorem N7:bY X (compareOp .IsNot) (λx y H Q=>y = .non/\Q (.bl (!decide (x = .non))) H):=by
 intro pins s σ H x y v u Q I rx ry h;obtain⟨rfl,q⟩:=h;cases ry;refine isnot_none_gen (cB I q ?_);cases x<;>first
  | (cases rx;rfl)
  | (obtain⟨t,rfl⟩:=rx;rfl)
theorem a_(b:Expr){op:CmpOp}(h:op≠.In:=by decide)(h2:op≠.NotIn:=by decide):behindInMarks op b=false:=by
 have e1:(op==CmpOp.In)=false:=by cases op<;>first|rfl|exact absurd rfl h
 have e2:(op==CmpOp.NotIn)=false:=by cases op<;>first|rfl|exact absurd rfl h2
 cases b<;>simp[behindInMarks,e1,e2]
theorem gj{op:CmpOp}{r:R2}(ho:bY X (compareOp op) r)(ha:PE X a ta)(hb:PE X b tb)(hm:behindInMarks op b=false):PE X (.Compare a [op] [b] pos) (wN r ta tb):=by
 intro pins s σ H Q I h;exact wpAny_Compare1 (yv ha hb I h λv u s2 x y H2 I2 rx ry q=>ho pins s2 σ H2 x y v u Q I2 rx ry q) hm
def Rf(t:TE):TT:=λσ H Q=>t σ H λx H'=>∃k,x = .bl k/\Q k H'
theorem bu{op:CmpOp}{r:R2}(ho:bY X (compareOp op) r)(ha:PE X a ta)(hb:PE X b tb)(hm:behindInMarks op b=false):PT X (.Compare a [op] [b] pos) (Rf (wN r ta tb)):=by
 intro pins s σ H Q I h;refine wpAny_isTrue_Compare1 (aM (ha pins s σ H _ I h) λv s1 ⟨x,H1,I1,r1,q1⟩=>aM (hb pins s1 σ H1 _ I1 q1) λu s2 ⟨y,H2,I2,r2,q2⟩ =>
  aM (ho pins s2 σ H2 x y v u _ I2 r1 r2 q2) λc s3 ⟨z,H3,I3,r3,k,e,q3⟩=>?_) hm
 subst e;cases r3;exact jS ⟨H3,I3,q3⟩
def Q9(r r':R2)(ta tb tc:TE):TE:=λσ H Q=>ta σ H λx H1=>tb σ H1 λy H2=>r x y H2 λz H3=>∃k,z = .bl k /\
 (if k=true then tc σ H3 λw' H4=>r' y w' H4 Q else Q (.bl false) H3)
theorem aaG{op op':CmpOp}{r r':R2}(ho:bY X (compareOp op) r)(ho':bY X (compareOp op') r')(ha:PE X a ta)(hb:PE X b tb)(hc:PE X c tc)(hm:lastMarks [op,op'] [b,c]=false:=by with_unfolding_all rfl):PE X (.Compare a [op,op'] [b,c] pos) (Q9 r r' ta tb tc):=by
 intro pins s σ H Q I h;refine Compare_chain (aM (ha pins s σ H _ I h) λv s1 ⟨x,H1,I1,r1,q1⟩=>chain_link (aM (hb pins s1 σ H1 _ I1 q1) λu s2 ⟨y,H2,I2,r2,q2⟩ =>
  aM (ho pins s2 σ H2 x y v u _ I2 r1 r2 q2) λd s3 ⟨z,H3,I3,r3,k,e,q3⟩=>?_)) hm
 subst e;cases r3;refine jS ?_;cases k with
 |false=>exact ite_ff ⟨.bl false,H3,I3,rfl,q3⟩
 |true=>exact ite_tt (chain_last (aM (hc pins s3 σ H3 _ I3 q3) λw' s4 ⟨z',H4,I4,r4,q4⟩=>ho' pins s4 σ H4 y z' u w' Q I4 r2 r4 q4))
theorem aa9{op op':CmpOp}{r r':R2}(ho:bY X (compareOp op) r)(ho':bY X (compareOp op') r')(ha:PE X a ta)(hb:PE X b tb)(hc:PE X c tc)(hm:lastMarks [op,op'] [b,c]=false:=by with_unfolding_all rfl):PT X (.Compare a [op,op'] [b,c] pos) (Rf (Q9 r r' ta tb tc)):=by
 intro pins s σ H Q I h;refine isTrue_chain (aM (ha pins s σ H _ I h) λv s1 ⟨x,H1,I1,r1,q1⟩=>test_link (aM (hb pins s1 σ H1 _ I1 q1) λu s2 ⟨y,H2,I2,r2,q2⟩ =>
  aM (ho pins s2 σ H2 x y v u _ I2 r1 r2 q2) λd s3 ⟨z,H3,I3,r3,k,e,q3⟩=>?_)) hm
 subst e;cases r3;refine jS ?_;cases k with
 |false =>
  obtain⟨k',e',q'⟩:=q3;cases e';exact ite_ff ⟨H3,I3,q'⟩
 |true =>
  refine ite_tt (test_last (aM (hc pins s3 σ H3 _ I3 q3) λw' s4 ⟨z',H4,I4,r4,q4⟩=>aM (ho' pins s4 σ H4 y z' u w' _ I4 r2 r4 q4) λd' s5 ⟨z2,H5,I5,r5,k2,e2,q5⟩=>?_));subst e2;cases r5;exact jS ⟨H5,I5,q5⟩
theorem u6:(sizeLine:Nat)<2 ^ 63:=by rw[ye];decide
theorem vals1{x:V}{us:List Value}(r:Vals [x] us):∃u,us = [u]/\RelV x u:=by
 cases r with
 |cons r1 r2=>cases r2;exact⟨_,rfl,r1⟩
theorem Jm:dD X (.type "int") (λxs H Q=>(∃i,xs = [.int i]/\Q (.int i) H)\/∃k,xs = [.bl k]/\Q (.int (if k then 1 else 0)) H):=by
 intro pins s σ H xs us Q I r h
 rcases h with⟨i,rfl,q⟩|⟨k,rfl,q⟩
 ·obtain⟨u,rfl,t,rfl⟩:=vals1 r
  exact call_int_int ⟨.int i,H,I,⟨_,rfl⟩,q⟩
 ·obtain⟨u,rfl,r1⟩:=vals1 r
  cases r1;exact call_int_bool ⟨.int (if k then 1 else 0),H,I.tok _,⟨_,rfl⟩,q⟩
end
structure nE (h:Heap) (x dx C:Addr) (mA:Str->Option Value):Prop where
 obj:h.get? x=some (W.instObj C dx)
 ns:h.Ns1 dx mA
 ne:dx≠x
theorem Nh{h:Heap}{dx:Addr}{mA:Str->Option Value}(n:h.Ns1 dx mA):∃od,h.get? dx=some od/\∀name,W.lookIn name od=some (mA name):=by
 obtain⟨o,es,ep,ho,hd,hk,_,hm⟩:=n;refine⟨o,ho,λname=>?_⟩;have e:=hm name;unfold nsFind findBy at e;rw[<- Array.find?_toList]at e;unfold W.lookIn;rw[hd];dsimp only
 split
 ·rename_i y q
  rw[q]at e;exact congrArg some e
 ·rename_i q
  rw[q]at e;have a:es.toList.any (·.refKey)=false:=by
   rw[List.any_eq_false];intro y hy;obtain⟨z,t,hkey⟩:=hk y (Array.mem_toList_iff.mp hy);simp[DictEntry.refKey,hkey]
  have a':¬ es.toList.any (·.refKey)=true:=by rw[a];exact Bool.false_ne_true
  rw[if_neg a'];exact congrArg some e
theorem nE.look{h:Heap}{x dx C:Addr}{mA:Str->Option Value}(I:nE h x dx C mA):∃od,W.InstAt h x (W.instObj C dx) C (some od)/\∀name,W.lookIn name od=some (mA name):=
 let⟨od,ho,hl⟩:=Nh I.ns
 ⟨od,⟨I.obj,rfl,rfl,ho⟩,hl⟩
section
variable {prog:Program} {w:World} {A:Around} {E:Value->Shared->Prop} {s:Shared} {K:W.Frag} {x dx C f:Addr} {mA:Str->Option Value} {name:Str} {v:Value}
theorem get_map{expr:Bool}{Q:Value->Shared->Prop}(X:K.In s.heap)(I:nE s.heap x dx C mA)(hg:W.plainGet K C name=true)(hh:W.hasDictIn K C=true)
  (ha:W.findIn K (.ref C) name=some none) (hv:mA name=some v) (hv':W.handedIn v=true) (h:Q v {s with toks:=s.toks+1}) :
  wpAny (model prog w) A (getAttr (.ref x) name expr) Q E s:=by
 obtain⟨od,J,hl⟩:=I.look;exact W.get_value X J (W.plainGet_of hg).1 (W.findObj_own hh ha rfl (by rw[hl,hv])) hv' h
theorem abT{ns:List Str}{Q:Unit->Shared->Prop}(X:K.In s.heap)(I:nE s.heap x dx C mA)
  (hs:W.findIn K (.ref C) "__setattr__" = some (some (.builtin "object.__setattr__"))) (hp:W.plainOver K C=true) (ht:W.takerIn K C name=some none) (hh:W.hasDictIn K C=true)
  (hw:PySem.Within mA ns) (hsz:ns.length<=sizeLine)
  (h:∀h',nE h' x dx C (λy=>if y=name then some v else mA y)->Heap.SameBut dx s.heap h'->Q () {s with heap:=h',toks:=s.toks+2}) :
  wpAny (model prog w) A (setAttr (.ref x) name v) Q E s:=by
 obtain⟨od,J,hl⟩:=I.look;refine W.set_plain X J hs (W.osa_open (s:={s with toks:=s.toks+1}) (r:=none) X J hp ht λb=>?_);obtain⟨cd,hc,hd'⟩:=W.any_some hh;have hx:s.heap.get? x=some ⟨.ref C,some dx,.plain,#[]⟩:=I.obj;refine ai (aH (ai (ai (wpAny_loadPart hx (ai (W.Looks.here (s:={s with toks:=s.toks+1}) (W.looks_clsIn X hc) ?_))))));rw[hd'];refine aH (a:=some dx) (ai (aH (ai ?_)));refine wpAny_nsSet1 (s:={s with toks:=s.toks+1}) I.ns λh' hn2 hs2=>?_;obtain⟨oD,esD,epD,hoD,hdD,hcD⟩:=hn2.count (PySem.Within.cons name v hw);refine ai (wpAny_lookBehind hoD (by rw[hdD];exact pastItsLine_dict (b_ hcD (by rw[jO];omega))) ?_);exact aH (h _ ⟨(hs2.2 _ (bQ I.ne)).trans I.obj,hn2,I.ne⟩ hs2)
theorem Ym{R:Result->Shared->Prop}{vs:List Value}{kw:List (Str × Value)}(X:K.In s.heap)(hm:W.makesIn K C=true)
  (hi:W.findIn K (.ref C) "__init__" = some (some (.ref f))) (hf:W.typeIn K (.ref f)=some (.type "function"))
  (h:codeAny (model prog w) (A.under (.builtin "type.__call__" ⟨.ref C::vs,kw⟩)) (.call (.ref f) ⟨.ref (s.heap.objs.size+1)::vs,kw⟩) (W.InitBack (s.heap.objs.size+1) R)
   {s with heap:=(s.heap.push W.emptyDict).push (W.instObj C s.heap.objs.size)}) :
  codeAny (model prog w) A (.call (.ref C) ⟨vs,kw⟩) R s:=by
 obtain⟨hh,g,d,t,os⟩:=s;exact W.make_core (W.makes_of X hm) (W.looks_findIn X hi) (λself=>W.bind_fn X self hf) (.inl rfl) h
end
noncomputable def cj(f:Str)(v:V):List (Str × V)->List (Str × V)
 | []=>[(f,v)]
 | (g,x)::r=>if g=f then(g,v)::r else(g,x)::cj f v r
theorem hV(f g:Str)(v:V):∀fs:List (Str × V),(cj f v fs).lookup g=if g=f then some v else fs.lookup g
 | []=>by
  show List.lookup g [(f,v)]=_
  by_cases h:g=f
  ·have hb:(g==f)=true:=gR.mpr h
   simp only[List.lookup,hb,if_pos h]
  ·have hb:(g==f)=false:=jm.mpr h
   simp only[List.lookup,hb,if_neg h]
 | (k,x)::r=>by
  have ih:=hV f g v r;rw[show cj f v ((k,x)::r)=(if k=f then(k,v)::r else(k,x)::cj f v r)from rfl]
  by_cases hk:k=f
  ·rw[if_pos hk]
   by_cases h:g=k
   ·have hb:(g==k)=true:=gR.mpr h
    simp only[List.lookup,hb,if_pos (h.trans hk)]
   ·have hb:(g==k)=false:=jm.mpr h
    simp only[List.lookup,hb,if_neg (λe:g=f=>h (e.trans hk.symm))]
  ·rw[if_neg hk]
   by_cases h:g=k
   ·have hb:(g==k)=true:=gR.mpr h
    simp only[List.lookup,hb,if_neg (λe:g=f=>hk (h.symm.trans e))]
   ·have hb:(g==k)=false:=jm.mpr h
    simp only[List.lookup,hb];exact ih
theorem Cv(f:Str)(v:V):∀fs:List (Str × V),f∈(cj f v fs).map (·.1)/\∀g,g∈fs.map (·.1)->g∈(cj f v fs).map (·.1)
 | []=>⟨by simp[cj],λg h=>by simp at h⟩
 | (k,x)::r=>by
  obtain⟨i1,i2⟩:=Cv f v r;rw[show cj f v ((k,x)::r)=(if k=f then(k,v)::r else(k,x)::cj f v r)from rfl]
  by_cases hk:k=f
  ·rw[if_pos hk]
   subst hk;exact⟨by simp,λg h=>by simpa using h⟩
  ·rw[if_neg hk]
   refine⟨?_,λg h=>?_⟩
   ·rw[cX]
    exact ck _ i1
   ·rw[cX]at h ⊢
    rcases bx.mp h with e|e
    ·exact bx.mpr (.inl e)
    ·exact ck _ (i2 g e)
theorem oY(f:Str)(v:V):∀fs:List (Str × V),(cj f v fs).length<=fs.length+1
 | []=>by simp[cj]
 | (k,x)::r=>by
  have ih:=oY f v r;rw[show cj f v ((k,x)::r)=(if k=f then(k,v)::r else(k,x)::cj f v r)from rfl]
  by_cases hk:k=f
  ·rw[if_pos hk,jO,jO];omega
  ·rw[if_neg hk,jO,jO];omega
theorem fZ.some_of{v:V}{o:Option Value}(r:fZ (some v) o):∃u,o=some u/\RelV v u:=by
 cases o with
 |none=>exact(show False from r).elim
 |some u=>exact⟨u,rfl,r⟩
theorem Lc{v:V}{u:Value}(r:RelV v u):W.handedIn u=true:=by
 cases v with
 |non=>cases(show u=Value.none from r);rfl
 |bl b=>cases(show u=Value.bool b from r);rfl
 |int i=>obtain⟨t,e⟩:=(show ∃t,u=Value.int i t from r);cases e;rfl
 |str x=>obtain⟨t,e⟩:=(show ∃t,u=Value.str x t from r);cases e;rfl
 |iu b=>obtain⟨t,e⟩:=(show ∃t,u=Value.bytes b t from r);cases e;rfl
 |flt b=>obtain⟨t,e⟩:=(show ∃t,u=Value.float b t from r);cases e;rfl
 |ref a=>cases(show u=Value.ref a from r);rfl
 |ty n=>cases(show u=Value.type n from r);rfl
section
variable {P:Program} {w:World} {H H':Hp} {h h':Heap} {a C dx:Addr} {fs fs':List (Str × V)}
theorem Ci(hok:bM P w H h)(e:H a=some (.ins C dx fs)):∃mA,nE h a dx C mA/\(∀f,fZ (fs.lookup f) (mA f))/\PySem.Within mA (fs.map (·.1))/\fs.length<=1000/\H dx=some (.own a):=by
 obtain⟨d,z,ne,ob,mA,n,r,q⟩:=(show bC P w H h a (.ins C dx fs)from hok a _ e);exact⟨mA,⟨ob,n,ne⟩,r,q,z,d⟩
end
structure Cls (K:W.Frag) (C:Addr):Prop where
 pg:W.plainGet K C Str.empty=true
 hd:W.hasDictIn K C=true
 po:W.plainOver K C=true
 sa:W.findIn K (.ref C) "__setattr__" = some (some (.builtin "object.__setattr__"))
theorem Cls.get{K:W.Frag}{C:Addr}(c:Cls K C)(f:Str):W.plainGet K C f=true:=c.pg
def iH(K:W.Frag)(C:Addr)(f:Str):Prop:=W.findIn K (.ref C) f=some none
theorem iH.taker{K:W.Frag}{C:Addr}{f:Str}(n:iH K C f):W.takerIn K C f=some none:=by
 unfold W.takerIn;rw[show W.findIn K (.ref C) f=some none from n];rfl
section
variable {X:Cx} {pins:List (Addr × Obj)} {σ:St} {H:Hp} {s:Shared} {a C dx:Addr} {fs:List (Str × V)} {f:Str} {v:V} {A:Around} {E:Value->Shared->Prop}
theorem Vh{b:Bool}{Q:Value->Shared->Prop}(I:Inv X pins σ H s)(e:H a=some (.ins C dx fs))(c:Cls X.K C)(n:iH X.K C f)(l:fs.lookup f=some v)(h:∀u s',Inv X pins σ H s'->RelV v u->Q u s'):wpAny (model X.prog X.w) A (getAttr (.ref a) f b) Q E s:=by
 obtain⟨mA,O,r,_,_,_⟩:=Ci I.hok e;obtain⟨u,hu,ru⟩:=fZ.some_of (v:=v) (o:=mA f) (by rw[<- l];exact r f);exact get_map I.cu O (c.get f) c.hd n hu (Lc ru) (h u _ (I.tok _) ru)
theorem abU{y:V}{u:Value}{Q:Unit->Shared->Prop}(I:Inv X pins σ H s)(e:H a=some (.ins C dx fs))(c:Cls X.K C)(n:iH X.K C f)(hl:fs.length<1000)(ry:RelV y u)(h:∀s',Inv X pins σ (upd H a (.ins C dx (cj f y fs))) s'->Q () s'):wpAny (model X.prog X.w) A (setAttr (.ref a) f u) Q E s:=by
 obtain⟨mA,O,r,wi,_,ho⟩:=Ci I.hok e;have hz:(fs.map (·.1)).length<=sizeLine:=by rw[au,ye];omega
 refine abT I.cu O c.sa c.po n.taker c.hd wi hz λh' O' sb=>h _ ?_;have hd:∃o,h'.get? dx=some o:=let⟨o,_,_,e',_⟩:=O'.ns;⟨o,e'⟩
 refine I.write (x:=a) (e:=dx) (by rw[e];exact True.intro) (.inr ho) (λb q hb z=>(sb.2 b hb).trans z) hd ?_;refine⟨by rw[aG O.ne];exact ho,?_,O.ne,O'.obj,_,O'.ns,λg=>?_,λg hg=>?_⟩
 ·have:=oY f y fs;omega
 ·show fZ ((cj f y fs).lookup g) (if g=f then some u else mA g)
  rw[hV]
  by_cases q:g=f
  ·rw[if_pos q,if_pos q];exact ry
  ·rw[if_neg q,if_neg q];exact r g
 ·by_cases q:g=f
  ·rw[q];exact(Cv f y fs).1
  ·refine(Cv f y fs).2 g (wi g λz=>hg ?_)
   show(if g=f then some u else mA g)=none;rw[if_neg q];exact z
theorem Inv.made(I:Inv X pins σ H s):Inv X pins σ (upd (upd H s.heap.objs.size (.own (s.heap.objs.size+1))) (s.heap.objs.size+1) (.ins C s.heap.objs.size []))
  {s with heap:=(s.heap.push W.emptyDict).push (W.instObj C s.heap.objs.size)}:=by
 have e1:(s.heap.push W.emptyDict).get? s.heap.objs.size=some W.emptyDict:=cn s.heap rfl;have e2:((s.heap.push W.emptyDict).push (W.instObj C s.heap.objs.size)).get? (s.heap.objs.size+1)=some (W.instObj C s.heap.objs.size):=by
  have:=cn (s.heap.push W.emptyDict) (o:=W.instObj C s.heap.objs.size) rfl
  rwa [eE]at this
 have e3:(s.heap.push W.emptyDict).Ns s.heap.objs.size (λ_=>none):=⟨W.emptyDict,#[],_,e1,rfl,(λe he=>absurd he (by simp)),λ_=>rfl⟩;have I1:=I.laid (a:=s.heap.objs.size) (o:=.own (s.heap.objs.size+1)) (h':=s.heap.push W.emptyDict) (t':=s.toks) (λb u q=>aU _ q) (aW _) ⟨_,e1⟩;refine I1.laid (a:=s.heap.objs.size+1) (o:=.ins C s.heap.objs.size []) (t':=s.toks) (λb u q=>aU _ q) (Hv (eE _ _)) ?_;have ne:s.heap.objs.size≠s.heap.objs.size+1:=bE (nD _);refine⟨by rw[aG ne,av],eD _,ne,e2,λ_=>none,(Heap.Ns1.of_empty e3).at λo q=>aU _ q,λ_=>True.intro,λy hy=>absurd rfl hy⟩
theorem Ja{prog:Program}{w:World}{env:Env}{e:Expr}{f:Str}{pos:Pos}{s:Shared}{Q:Value->Shared->Prop}(hb:attributeBase e f env (eval e env)=eval e env)(h:wpAny (model prog w) A (eval e env) (λo s₁=>wpAny (model prog w) A (getAttr o f true) Q E s₁) E s):wpAny (model prog w) A (eval (.Attribute e f pos) env) Q E s:=
 Attribute_any_ h (by rw[arm_eval_Attribute,hb])
end
def Q_(K:W.Frag)(ta:TE)(f:Str):TE:=λσ H Q=>ta σ H λx H1=>∃a C dx fs v,x = .ref a/\H1 a=some (.ins C dx fs)/\Cls K C/\iH K C f/\fs.lookup f=some v/\Q v H1
def Pa(K:W.Frag)(ta tv:TE)(f:Str):TS:=λD σ H=>tv σ H λy H1=>ta σ H1 λx H2=>∃a C dx fs,x = .ref a/\H2 a=some (.ins C dx fs)/\Cls K C/\iH K C f/\fs.length<1000 /\
 D.nx σ (upd H2 a (.ins C dx (cj f y fs)))
section
variable {X:Cx} {o e value:Expr} {f:Str} {pos pos' tpos:Pos} {ta tv:TE}
theorem aaJ(he:PE X e ta)(hb:attributeBase e f X.env (eval e X.env)=eval e X.env):PE X (.Attribute e f pos) (Q_ X.K ta f):=by
 intro pins s σ H Q I h;refine Ja hb (aM (he pins s σ H _ I h) λu s1 ⟨x,H1,I1,rx,a,C,dx,fs,v,ex,ea,c,n,l,q⟩=>?_);subst ex;obtain rfl:u=Value.ref a:=rx;exact Vh I1 ea c n l λu' s2 I2 ru=>⟨v,H1,I2,ru,q⟩
theorem aa3(ha:PE X o ta)(hv:PE X value tv)(hs:swapsWith value (some (.Attribute o f pos')) pos.line X.env=pure false):PS X (.Assign [.Attribute o f pos'] value pos) (Pa X.K ta tv f):=by
 intro pins s σ H D I h;refine Se (aM (hv pins s σ H _ I h) λu s1 ⟨y,H1,I1,ry,q⟩=>aM (ha pins s1 σ H1 _ I1 q) λov s2 ⟨x,H2,I2,rx,a,C,dx,fs,ex,ea,c,n,l,q2⟩=>?_) hs;subst ex;obtain rfl:ov=Value.ref a:=rx;exact abU I2 ea c n l ry λs3 I3=>⟨σ,_,I3,q2⟩
end
section
variable {X:Cx} {pins:List (Addr × Obj)} {σ:St} {H:Hp} {s:Shared} {A:Around} {E:Value->Shared->Prop} {Q:Value->Shared->Prop} {c:Value} {b:Bool}
inductive gC (K:W.Frag) (H:Hp):V->Value->Prop where
 |non:gC K H .non (.type "NoneType")
 |bl (x:Bool):gC K H (.bl x) (.type "bool")
 |int (i:Int):gC K H (.int i) (.type "int")
 |str (x:Str):gC K H (.str x) (.type "str")
 |flt (x:UInt64):gC K H (.flt x) (.type "float")
 |lst {a:Addr} {xs:List V} (e:H a=some (.lst xs)):gC K H (.ref a) (.type "list")
 |dz {a:Addr} {o:Obj} {xs:List V} (e:H a=some (.dz o (.lst xs))):gC K H (.ref a) (.type "list")
 |tup {a:Addr} {xs:List V} (e:H a=some (.tup xs)):gC K H (.ref a) (.type "tuple")
 |dK {a:Addr} {kvs:List (Key × V)} (e:H a=some (.dK kvs)):gC K H (.ref a) (.type "dict")
 |dT {a:Addr} {kvs:List (List Key × V)} (e:H a=some (.dT kvs)):gC K H (.ref a) (.type "dict")
 |ins {a C dx:Addr} {fs:List (Str × V)} (e:H a=some (.ins C dx fs)) (cl:Cls K C) (ha:W.findIn K (.ref C) "__class__" = some (some (.builtin "object.__class__")))
   (hn:W.specialIn K (.builtin "object.__class__") "__get__" = some (some (.builtin "getset_descriptor.__get__"))) (htk:W.takesIn K (.builtin "object.__class__")=some true)
   (hm:W.mroIn K C (.type "object")=some true):gC K H (.ref a) (.ref C)
theorem Xx{x:V}{u t:Value}(I:Inv X pins σ H s)(rx:RelV x u)(ty:gC X.K H x t)(e:W.kitOne X.K t c=some b)(h:∀tk,Q (.bool b) {s with toks:=tk}):
  wpAny (model X.prog X.w) A (call (.builtin "isinstance") [u,c]) Q E s:=by
 cases ty with
 |non=>cases(show u=Value.none from rx);exact W.kia_one W.kitx_none I.cu True.intro e (λz=>nomatch z) h
 |bl y=>cases(show u=Value.bool y from rx);exact W.kia_one W.kitx_bool I.cu True.intro e (λz=>nomatch z) h
 |int i=>obtain⟨t,q⟩:=(show ∃t,u=Value.int i t from rx);cases q;exact W.kia_one W.kitx_int I.cu True.intro e (λz=>nomatch z) h
 |str y=>obtain⟨t,q⟩:=(show ∃t,u=Value.str y t from rx);cases q;exact W.kia_one W.kitx_str I.cu True.intro e (λz=>nomatch z) h
 |flt y=>obtain⟨t,q⟩:=(show ∃t,u=Value.float y t from rx);cases q;exact W.kia_one W.kitx_float I.cu True.intro e (λz=>nomatch z) h
 | @lst a xs ea =>
  cases(show u=Value.ref a from rx);obtain⟨_,_,n,_,h1⟩:=(show bC X.prog X.w H s.heap a (.lst xs)from I.hok a _ ea);exact W.kia_one W.kitx_list I.cu ⟨_,h1,rfl⟩ e (λz=>nomatch z) h
 | @dz a ob xs ea =>
  cases(show u=Value.ref a from rx);obtain⟨_,_,_,n,_,h1⟩:=(show bC X.prog X.w H s.heap a (.dz ob (.lst xs))from I.hok a _ ea);exact W.kia_one W.kitx_list I.cu ⟨_,h1,rfl⟩ e (λz=>nomatch z) h
 | @tup a xs ea =>
  cases(show u=Value.ref a from rx);obtain⟨_,_,_,p,_⟩:=(show bC X.prog X.w H s.heap a (.tup xs)from I.hok a _ ea);obtain⟨o,h1,h2,_⟩:=p;exact W.kia_one W.kitx_tuple I.cu ⟨o,h1,h2⟩ e (λz=>nomatch z) h
 | @dK a kvs ea =>
  cases(show u=Value.ref a from rx);obtain⟨_,_,vs,_,p⟩:=(show bC X.prog X.w H s.heap a (.dK kvs)from I.hok a _ ea);obtain⟨o,es,ep,h1,h2,_⟩:=p;exact W.kia_one W.kitx_dict I.cu ⟨o,h1,h2.1⟩ e (λz=>nomatch z) h
 | @dT a kvs ea =>
  cases(show u=Value.ref a from rx);obtain⟨_,_,xs,_,o,es,ep,h1,h2,_⟩:=(show bC X.prog X.w H s.heap a (.dT kvs)from I.hok a _ ea);exact W.kia_one W.kitx_dict I.cu ⟨o,h1,h2.1⟩ e (λz=>nomatch z) h
 | @ins a C dx fs ea cl ha hn htk hm =>
  cases(show u=Value.ref a from rx);obtain⟨mA,O,_⟩:=Ci I.hok ea;obtain⟨od,J,_⟩:=O.look;exact W.kia_one (W.kitx_own (cl.get _) cl.hd ha hn htk hm) I.cu J e (λz=>nomatch z) h
end
structure bR (k:Nat) (A:Around):Prop where
 hd:A.handled=none
 dp:A.depth+3*k+5<recursionLimit
 un:A.units+16*k+200<cLine
 gd:A.guards=some []
theorem bR.mono{j k:Nat}{A:Around}(r:bR k A)(h:j<=k):bR j A:=⟨r.hd,by have:=r.dp;omega,by have:=r.un;omega,r.gd⟩
theorem bR.deeper{k:Nat}{A:Around}(r:bR (k+1) A)(env:Env):bR k (A.deeper env):=
 ⟨r.hd,by have:=r.dp;show A.depth+1+3*k+5<_;omega,by have:=r.un;show A.units+3+16*k+200<_;omega,r.gd⟩
theorem Yk {A:Around} {C:Addr} {us:List Value} {kw:List (Str × Value)}:(A.under (.builtin "type.__call__" ⟨.ref C::us,kw⟩)).depth=A.depth+1:=by
 first|rfl|simp[Around.under,Code.weight,Code.isCreation,Code.isGuard,Code.isCaller,Code.frames,Code.isFrame,guardIds]
theorem Yn {A:Around} {C:Addr} {us:List Value} {kw:List (Str × Value)}:(A.under (.builtin "type.__call__" ⟨.ref C::us,kw⟩)).units=A.units+1:=by
 first|rfl|simp[Around.under,Code.cUnits,Code.frames,Code.isFrame]
theorem Yl {A:Around} {C:Addr} {us:List Value} {kw:List (Str × Value)}:(A.under (.builtin "type.__call__" ⟨.ref C::us,kw⟩)).guards=A.guards:=by
 first|rfl | (cases h:A.guards<;>simp[Around.under,Code.guards,pushGuards,Code.isGuard,guardIds,h])
theorem bR.make {k:Nat} {A:Around} (r:bR (k+1) A) (C:Addr) (us:List Value) (kw:List (Str × Value)):bR k (A.under (.builtin "type.__call__" ⟨.ref C::us,kw⟩)):=
 ⟨r.hd,by have:=r.dp;rw[Yk];omega,by have:=r.un;rw[Yn];omega,by rw[Yl];exact r.gd⟩
theorem bR.depth{k:Nat}{A:Around}(r:bR k A):A.depth<recursionLimit:=by have:=r.dp;omega
theorem bR.units{k:Nat}{A:Around}(r:bR k A):A.units+64<cLine:=by have:=r.un;omega
theorem bR.ac0{k:Nat}{A:Around}(r:bR k A):A.units<cLine:=by have:=r.un;omega
def GC:TA:=λ_ H Q=>Q [] H
def ack(ta:TE)(tr:TA):TA:=λσ H Q=>ta σ H λx H1=>tr σ H1 λxs H2=>Q (x::xs) H2
section
variable {X:Cx} {e:Expr} {es:List Expr} {te:TE} {t:TA} {pos:Pos}
theorem ah:PA X [] GC:=λ_ _ _ _ H Q I h=>HN ⟨[],H,I,.nil,h⟩
theorem ae(ha:PE X e te)(hr:PA X es t)(hs:starEach (e::es) X.env=(false,eval e X.env)::starEach es X.env:=by rfl):PA X (e::es) (ack te t):=by
 intro pos pins s σ H Q I h;rw[hs];show wpAny _ _ (spliced ((false,eval e X.env)::backTo pos (starEach es X.env))) _ _ s;refine HJ (aM (ha pins s σ H _ I h) λu s1 ⟨x,H1,I1,r1,q1⟩=>?_);exact aM (hr pos pins s1 σ H1 _ I1 q1) λus s2 ⟨xs,H2,I2,r2,q2⟩=>⟨x::xs,H2,I2,.cons r1 r2,q2⟩
def acH(t:TA):TE:=λσ H Q=>t σ H λxs H1=>xs.length<=sizeLine/\∀p,H1 p=none->Q (.ref p) (upd H1 p (.tup xs))
def acv(t:TA):TE:=λσ H Q=>t σ H λxs H1=>xs.length<=sizeLine/\∀p,H1 p=none->Q (.ref p) (upd H1 p (.lst xs))
theorem gJ{x1}(h:PA X es t):PE X (.Tuple es x1 pos) (acH t):=by
 intro pins s σ H Q I hq;refine wpAny_Tuple_spliced (aM (h pos pins s σ H _ I hq) λus s1 ⟨xs,H1,I1,r,z,q⟩=>⟨by rw[<- r.length];exact z,?_⟩);have hf:H1 s1.heap.objs.size=none:=I1.hok.fresh (aW _);refine⟨.ref s1.heap.objs.size,upd H1 s1.heap.objs.size (.tup xs),I1.laid (t':=s1.toks) (λb u e=>aU _ e) (aW _) ?_,rfl,q _ hf⟩;exact⟨z,us,r,⟨_,cn _ rfl,rfl,_,rfl⟩,_,cn _ rfl,rfl⟩
theorem bV(h:PA X es t):PE X (.List es pos) (acv t):=by
 intro pins s σ H Q I hq;refine wpAny_List_spliced (aM (h pos pins s σ H _ I hq) λus s1 ⟨xs,H1,I1,r,z,q⟩=>⟨by rw[<- r.length];exact z,?_⟩);have hf:H1 s1.heap.objs.size=none:=I1.hok.fresh (aW _);refine⟨.ref s1.heap.objs.size,upd H1 s1.heap.objs.size (.lst xs),I1.laid (t':=s1.toks) (λb u e=>aU _ e) (aW _) ?_,rfl,q _ hf⟩;exact⟨z,us,0,r,cn _ rfl⟩
end
abbrev Sp:=List V->Hp->VK->XK->Prop
abbrev gw:=List Env->Hp->Shared->XK->Value->Shared->Prop
structure ja (P:Program) (w:World) (K:W.Frag) (mg:Str->Option Value) (base:Heap) (A:Around) (outer:List Env) (s:Shared) (H:Hp):Prop where
 frames:A.frames=some outer
 mod:Mod K mg base
 bs:∀b o,base.get? b=some o->s.heap.get? b=some o/\H b=none
 eP:base.objs.size<=s.heap.objs.size
 d9:s.heap.FunFrames base outer
 gG:∀b∈frs outer,H b=none
 hok:bM P w H s.heap
 bare:AllBare s.gens
def CE(outer:List Env)(P:Program)(w:World)(H:Hp)(s:Shared)(Q:VK)(u:Value)(s':Shared):Prop:=
 ∃v H',s'.os=s.os/\AllBare s'.gens/\Un (frs outer) [] H H' s.heap s'.heap/\bM P w H' s'.heap/\RelV v u/\Q v H'
noncomputable def CR(CX:gw)(outer:List Env)(P:Program)(w:World)(H:Hp)(s:Shared)(Q:VK)(E:XK)(r:Result)(s':Shared):Prop:=
 match r with
 |.ok (.ret u)=>CE outer P w H s Q u s'
 |.ok _=>False
 |.error e=>CX outer H s E e s'
structure aO (P:Program) (w:World) (K:W.Frag) (mg:Str->Option Value) (base:Heap) (CX:gw) (k:Nat) (f:Addr) (fd:FuncData) (ps:List Str) (sp:Sp):Prop where
 len:∀vs H Q E,sp vs H Q E->vs.length=ps.length
 run:∀(A:Around) (outer:List Env) (s:Shared) (H:Hp) (args:Args) (us:List Value) (vs:List V) (Q:VK) (E:XK),bR k A->ja P w K mg base A outer s H->BindsTo s fd args (ps.zip us)->Vals vs us->sp vs H Q E ->
  codeAny (model P w) A (.call (.ref f) args) (CR CX outer P w H s Q E) s
theorem aO.mono{P:Program}{w:World}{K:W.Frag}{mg:Str->Option Value}{base:Heap}{CX:gw}{j k:Nat}{f:Addr}{fd:FuncData}{ps:List Str}{sp:Sp}(F:aO P w K mg base CX j f fd ps sp)(h:j<=k):aO P w K mg base CX k f fd ps sp:=⟨F.len,λA outer s H args us vs Q E hr=>F.run A outer s H args us vs Q E (hr.mono h)⟩
theorem ja.make{P:Program}{w:World}{K:W.Frag}{mg:Str->Option Value}{base:Heap}{A:Around}{outer:List Env}{s:Shared}{H:Hp}(e:ja P w K mg base A outer s H)(C:Addr)(us:List Value)(kw:List (Str × Value)):
  ja P w K mg base (A.under (.builtin "type.__call__" ⟨.ref C::us,kw⟩)) outer s H:=⟨by first|exact e.frames | (simpa[Around.under,Code.envs,Code.isFrame,pushEnvs]using e.frames),e.mod,e.bs,e.eP,e.d9,e.gG,e.hok,e.bare⟩
section
variable {X:Cx} {pins:List (Addr × Obj)} {σ:St} {H:Hp} {s s':Shared}
theorem Inv.env0(I:Inv X pins σ H s):ja X.prog X.w X.K X.mg X.base X.A X.stack s H:=
 ⟨I.ok.frames,I.ok.mod,I.bs,b_ I.ok.eP I.sz,I.stack,I.mU,I.hok,I.bare⟩
theorem Inv.after{Q:VK}{u:Value}(I:Inv X pins σ H s)(h:CE X.stack X.prog X.w H s Q u s'):EP X pins σ Q u s':=by
 obtain⟨v,H',os,bare,un,hok,r,q⟩:=h;obtain⟨hh,g,d,t,os'⟩:=s';obtain rfl:os'=s.os:=os;exact⟨v,H',I.call (h':=hh) (g':=g) (d':=d) (t':=t) (ch:=[]) un hok bare (λb z=>absurd z (by simp)),r,q⟩
end
def pM(sp:Sp)(dP:List V)(E:XK)(t:TA):TE:=λσ H Q=>t σ H λvs H1=>sp (vs++dP) H1 Q E
def Ra(C:Addr)(sp:Sp)(dP:List V)(E:XK)(t:TA):TE:=λσ H Q=>t σ H λvs H1=>∀x dx,H1 x=none->H1 dx=none->dx≠x ->
 sp (.ref x::(vs++dP)) (upd (upd H1 dx (.own x)) x (.ins C dx [])) (λv H2=>v = .non/\Q (.ref x) H2) E
def Binds(K:W.Frag)(fd:FuncData)(ps:List Str)(ds:List Value):Prop:=
 ∀(s:Shared) (us:List Value),K.In s.heap->(us++ds).length=ps.length->BindsTo s fd ⟨us,[]⟩ (ps.zip (us++ds))
theorem Binds.all{K:W.Frag}{fd:FuncData}{ps:List Str}(h:∀us:List Value,us.length=ps.length->bindArgs fd ⟨us,[]⟩=pure (ps.zip us)):Binds K fd ps []:=λs us _ hl=>by
 rw[h_]at hl ⊢;exact .of_eq (h us hl)
def Passes(CX:gw)(X:Cx)(E:XK):Prop:=∀(pins:List (Addr × Obj)) (σ:St) (H:Hp) (s:Shared) (e:Value) (s':Shared),Inv X pins σ H s->CX X.stack H s E e s'->X.xe e s'
section
variable {X:Cx} {CX:gw} {k:Nat} {f C:Addr} {fd:FuncData} {ps:List Str} {sp:Sp} {dP:List V} {ds:List Value} {E:XK} {x m:Str} {p pos apos:Pos} {e o:Expr} {es:List Expr} {ta:TE} {t:TA}
theorem O9{pins:List (Addr × Obj)}{σ:St}{H:Hp}{s:Shared}{Q:VK}{us:List Value}{vs:List V}(F:aO X.prog X.w X.K X.mg X.base CX k f fd ps sp)(hr:bR k X.A)(hb:Binds X.K fd ps ds)(hd:Vals dP ds)(hx:Passes CX X E)(I:Inv X pins σ H s)(r:Vals vs us)(h:sp (vs++dP) H Q E):wpAny (model X.prog X.w) X.A (call (.ref f) us) (EP X pins σ Q) X.xe s:=by
 have r2:Vals (vs++dP) (us++ds):=r.append hd;have hl:(us++ds).length=ps.length:=by rw[<- r2.length];exact F.len _ _ _ _ h
 refine kQ (jR (F.run X.A X.stack s H ⟨us,[]⟩ (us++ds) (vs++dP) Q E hr I.env0 (hb s us I.cu hl) r2 h) λr s' hq=>?_);cases r with
 |error e=>exact hx pins σ H s e s' I hq
 |ok fl =>
  cases fl with
  |ret u=>exact I.after hq
  |next=>exact False.elim hq
  |brk=>exact False.elim hq
  |cont=>exact False.elim hq
theorem Oh(F:aO X.prog X.w X.K X.mg X.base CX k f fd ps sp)(hr:bR k X.A)(hg:Gl X x)(hm:X.mg x=some (.ref f))(hk:W.keepIn X.K (.ref f)=true)(hb:Binds X.K fd ps ds)(hd:Vals dP ds)(hx:Passes CX X E)
  (ha:PA X (e::es) t) (hdb:(x==("__debug__" : Str))=false:=by decide) (he:starEach (e::es) X.env=(false,eval e X.env)::starEach es X.env:=by rfl) (hpl:(backTo pos (starEach es X.env)).any (·.1)=false:=by rfl) :
  PE X (.Call (.Name x p) (e::es) [] pos) (pM sp dP E t):=by
 intro pins s σ H Q I h;refine lX (kg I hg hm ?_ hdb);refine W.callWith_K (h₀:=X.base) I.ok.mod.iR hk (aM (ha pos pins s σ H _ I h) λus s1 ⟨vs,H1,I1,r,q⟩=>⟨I1.cu,?_⟩) he hpl;exact O9 F hr hb hd hx I1 r q
theorem aaD(F:aO X.prog X.w X.K X.mg X.base CX k f fd ps sp)(hr:bR k X.A)(hg:Gl X x)(hm:X.mg x=some (.ref f))(hk:W.keepIn X.K (.ref f)=true)(hb:Binds X.K fd ps ds)(hd:Vals dP ds)(hx:Passes CX X E)
  (hdb:(x==("__debug__" : Str))=false:=by decide):PE X (.Call (.Name x p) [] [] pos) (pM sp dP E GC):=by
 intro pins s σ H Q I h;refine lX (kg I hg hm ?_ hdb);exact W.callWith_K0 I.cu hk (O9 (us:=[]) F hr hb hd hx I .nil h)
structure Mk (K:W.Frag) (C f:Addr):Prop where
 makes:W.makesIn K C=true
 init:W.findIn K (.ref C) "__init__" = some (some (.ref f))
 fn:W.isFn K (.ref f)=true
 kp:W.keepIn K (.ref C)=true
theorem abM{pins:List (Addr × Obj)}{σ:St}{H:Hp}{s:Shared}{Q:VK}{us:List Value}{vs:List V}(M:Mk X.K C f)(F:aO X.prog X.w X.K X.mg X.base CX k f fd ps sp)(hr:bR (k+1) X.A)(hb:Binds X.K fd ps ds)(hd:Vals dP ds)(hx:Passes CX X E)(I:Inv X pins σ H s)(r:Vals vs us)(h:∀x dx,H x=none->H dx=none->dx≠x->sp (.ref x::(vs++dP)) (upd (upd H dx (.own x)) x (.ins C dx [])) (λv H2=>v = .non/\Q (.ref x) H2) E):wpAny (model X.prog X.w) X.A (call (.ref C) us) (EP X pins σ Q) X.xe s:=by
 have hq:=h (s.heap.objs.size+1) s.heap.objs.size (I.hok.fresh (qc _)) (I.hok.fresh (aW _)) (bE (nD _));have I2:=Inv.made (C:=C) I;have r2:Vals (V.ref (s.heap.objs.size+1)::(vs++dP)) (Value.ref (s.heap.objs.size+1)::(us++ds)):=.cons rfl (r.append hd);have hl:(Value.ref (s.heap.objs.size+1)::us++ds).length=ps.length:=by
  have e:=r2.length;rw[F.len _ _ _ _ hq]at e;exact e.symm
 refine kQ (Ym (f:=f) I.cu M.makes M.init (gR.mp M.fn) (jR (F.run _ X.stack _ _ ⟨Value.ref (s.heap.objs.size+1)::us,[]⟩ (Value.ref (s.heap.objs.size+1)::(us++ds)) _ _ E (hr.make C us [])
  (I2.env0.make C us []) (hb _ (Value.ref (s.heap.objs.size+1)::us) I2.cu hl) r2 hq) λr s' hq'=>?_))
 cases r with
 |error e=>exact hx pins σ _ _ e s' I2 hq'
 |ok fl =>
  cases fl with
  |ret u =>
   obtain⟨v,H',I3,rv,ev,q3⟩:=I2.after hq';subst ev;exact⟨rv,⟨V.ref (s.heap.objs.size+1),H',I3,rfl,q3⟩⟩
  |next=>exact False.elim hq'
  |brk=>exact False.elim hq'
  |cont=>exact False.elim hq'
theorem aaM(M:Mk X.K C f)(F:aO X.prog X.w X.K X.mg X.base CX k f fd ps sp)(hr:bR (k+1) X.A)(hg:Gl X x)(hm:X.mg x=some (.ref C))(hb:Binds X.K fd ps ds)(hd:Vals dP ds)(hx:Passes CX X E)
  (ha:PA X (e::es) t) (hdb:(x==("__debug__" : Str))=false:=by decide) (he:starEach (e::es) X.env=(false,eval e X.env)::starEach es X.env:=by rfl) (hpl:(backTo pos (starEach es X.env)).any (·.1)=false:=by rfl) :
  PE X (.Call (.Name x p) (e::es) [] pos) (Ra C sp dP E t):=by
 intro pins s σ H Q I h;refine lX (kg I hg hm ?_ hdb);refine W.callWith_K (h₀:=X.base) I.ok.mod.iR M.kp (aM (ha pos pins s σ H _ I h) λus s1 ⟨vs,H1,I1,r,q⟩=>⟨I1.cu,?_⟩) he hpl;exact abM M F hr hb hd hx I1 r q
end
section
variable {X:Cx} {CX:gw} {k:Nat} {f C:Addr} {fd:FuncData} {ps ks:List Str} {sp:Sp} {E:XK} {x m:Str} {p pos apos kpos:Pos} {e o:Expr} {es:List Expr} {kws:List Keyword} {te ta:TE} {t tk:TA} {nm:Option Str}
variable {g:List Value->List Value->List Value} {gV:List V->List V->List V}
end
structure bh (N P:List Str) (sc:Scope):Prop where
 kind:sc.kind = .function
 co:sc.isCoroutine=false
 gen:sc.isGenerator=false
 nd:N.Nodup
 pre:N.take P.length=P
 par:∀x∈P,sc.names.lookup x=some .local\/sc.names.lookup x=some .cell
 Y4:∀y∈sc.names,y.2≠.free
theorem Jf{kindOf:Str->Option NameKind}{x:Str}:∀{binds:List (Str × Value)} {m:Str->Option Value},(∀v,(x,v) ∉ binds)->bindL kindOf binds m x=m x
 | [],_,_=>rfl
 | (n,v)::r,m,h=>by
  unfold bindL;rw[Jf λw hw=>h w (ck _ hw)]
  split
  ·have:x≠n:=by rintro rfl;exact h v b9
   simp[this]
  ·rfl
theorem Jd{kindOf:Str->Option NameKind}{x:Str}:∀{binds:List (Str × Value)} {m:Str->Option Value},(∀v,(x,v) ∉ binds)->bindC kindOf binds m x=m x
 | [],_,_=>rfl
 | (n,v)::r,m,h=>by
  unfold bindC;rw[Jd λw hw=>h w (ck _ hw)]
  split
  ·rfl
  ·have:x≠n:=by rintro rfl;exact h v b9
   simp[this]
theorem Je{kindOf:Str->Option NameKind}{x:Str}{v:Value}:∀{P:List Str} {vs:List Value} {i:Nat} {m:Str->Option Value},P.Nodup->P[i]?=some x->vs[i]?=some v->kindOf x=some .local->bindL kindOf (P.zip vs) m x=some v
 | [],_,_,_,_,h,_,_=>by simp at h
 |_::_,[],_,_,_,_,h,_=>by simp at h
 |p::P,w::vs,0,m,nd,h1,h2,hk=>by
  simp at h1 h2;subst h1;subst h2;show bindL kindOf ((p,w)::P.zip vs) m p=_;unfold bindL;rw[Jf λv hv=>(iG.mp nd).1 (xE hv).1,if_pos hk];simp
 |p::P,w::vs,i+1,m,nd,h1,h2,hk=>by
  show bindL kindOf ((p,w)::P.zip vs) m x=_;unfold bindL;exact Je (i:=i) (iG.mp nd).2 (by simpa using h1) (by simpa using h2) hk
theorem Jc{kindOf:Str->Option NameKind}{x:Str}{v:Value}:∀{P:List Str} {vs:List Value} {i:Nat} {m:Str->Option Value},P.Nodup->P[i]?=some x->vs[i]?=some v->kindOf x≠some .local->bindC kindOf (P.zip vs) m x=some v
 | [],_,_,_,_,h,_,_=>by simp at h
 |_::_,[],_,_,_,_,h,_=>by simp at h
 |p::P,w::vs,0,m,nd,h1,h2,hk=>by
  simp at h1 h2;subst h1;subst h2;show bindC kindOf ((p,w)::P.zip vs) m p=_;unfold bindC;rw[Jd λv hv=>(iG.mp nd).1 (xE hv).1,if_neg hk];simp
 |p::P,w::vs,i+1,m,nd,h1,h2,hk=>by
  show bindC kindOf ((p,w)::P.zip vs) m x=_;unfold bindC;exact Jc (i:=i) (iG.mp nd).2 (by simpa using h1) (by simpa using h2) hk
noncomputable def start(N:List Str)(vs:List V):St:=vs.map some++List.replicate (N.length - vs.length) none
noncomputable def cG(CX:gw)(P:Program)(w:World)(K:W.Frag)(mg:Str->Option Value)(base:Heap)(N:List Str)(qual:Str)(scope:Scope)(f:Addr)(cd:Value)(A:Around)(outer:List Env)(s:Shared)(H:Hp)(E:XK):Cx where
 prog:=P
 w:=w
 K:=K
 mg:=mg
 base:=base
 A:=A.deeper (envOfC qual scope s.heap.objs.size f cd)
 N:=N
 s₀:=s
 H₀:=H
 env:=envOfC qual scope s.heap.objs.size f cd
 outer:=outer
 stack:=envOfC qual scope s.heap.objs.size f cd::outer
 ex:=[]
 calm:=true
 fn:=λ_=>true
 pn:=[]
 xe:=λe s'=>wpAny (model P w) (A.deeper (envOfC qual scope s.heap.objs.size f cd)) (leaving (envOfC qual scope s.heap.objs.size f cd) e) (λ_ s''=>CX outer H s E e s'') (λe' s''=>CX outer H s E e' s'') s'
theorem Jp{sc:Scope}{n:Nat}{x:Str}(h:sc.names.lookup x=some .cell):∃c,(cellsFrom n sc.names []).lookup x=some c:=by
 have q:=W.cellsFrom_some sc.names n [] (.inl h);exact Option.isSome_iff_exists.mp q
theorem Xp{CX:gw}{P:Program}{w:World}{K:W.Frag}{mg:Str->Option Value}{base:Heap}{N ps:List Str}{qual:Str}{scope:Scope}{f:Addr}{cd:Value}{A:Around}{outer:List Env}{s s1:Shared}{H:Hp}{E:XK}{us:List Value}{vs:List V}(S:bh N ps scope)(hd:A.handled=none)(e0:ja P w K mg base A outer s H)(hl:vs.length=ps.length)(r:Vals vs us)(x:InCallC s s.heap.objs.size (bindL (envOfC qual scope s.heap.objs.size f cd).kindOf (ps.zip us) λ_=>none) (cellsFrom (s.heap.objs.size+1) scope.names []) (bindC (envOfC qual scope s.heap.objs.size f cd).kindOf (ps.zip us) λ_=>none) s1):Inv (cG CX P w K mg base N qual scope f cd A outer s H E) [] (start N vs) H s1:=by
 have hpl:ps.length<=N.length:=by have:=congrArg List.length S.pre;rw[kK]at this;omega
 obtain⟨h1,tk,rfl,hk⟩:=x.done;have ko:∀b:Addr,b ∉ (cG CX P w K mg base N qual scope f cd A outer s H E).ex:=λb z=>absurd (show b∈([]:List Addr)from z) (by simp);refine⟨⟨e0.mod,S.kind,rfl,rfl,aW _,λy z c h1 h2=>?_,λy hy=>?_,λy c _ h=>?_,λ_=>hd,Around.frames_deeper e0.frames,.inr ⟨rfl,rfl⟩,λb z=>absurd z (ko b),e0.bs,e0.eP,λb _ _=>ko b,λb z=>absurd z (ko b),e0.d9,e0.gG⟩,
  rfl,e0.bare,Un.kept hk,⟨_,x.toInCall.ns,λi y v h1 h2 h3=>?_⟩,λy c h=>⟨_,x.cell y c h⟩,e0.hok.fresh (aW _),λy c h=>?_,λp hp=>absurd (show p∈([]:List (Addr × Obj))from hp) (by simp),e0.hok.kept hk,?_⟩
 ·exact name_of_addr x.apart (iq h1) (iq h2)
 ·have hy:scope.names.lookup y=some .cell\/scope.names.lookup y=some .free:=hy
  rcases hy with hy|hy
  ·exact Jp hy
  ·exact absurd rfl (S.Y4 _ (iq hy))
 ·exact eB (x.above y c (iq h))
 ·have hi:i<vs.length:=by
   unfold start at h2
   by_cases hi:i<vs.length
   ·exact hi
   ·rw[iE (by simpa using hi)]at h2
    rw[Hj]at h2
    split at h2<;>cases h2
  have ha:vs[i]?=some v:=by
   unfold start at h2;rw[jf (by simpa using hi),bX]at h2;cases e:vs[i]? with
   |none=>rw[e]at h2;cases h2
   |some a=>rw[e]at h2;cases h2;rfl
  obtain⟨u,hu,rv⟩:=r.get ha;have hp:ps[i]?=some y:=by
   rw[<- S.pre,RZ (by omega)];exact h1
  have Nv:ps.Nodup:=by rw[<- S.pre];exact S.nd.sublist (List.take_sublist _ _)
  refine⟨u,rv,?_⟩
  rcases S.par y (dr hp)with k|k
  ·exact .inl ⟨k,Je Nv hp hu k⟩
  ·obtain⟨c,e⟩:=Jp (n:=s.heap.objs.size+1) k
   refine .inr ⟨.inl k,c,e,?_⟩;have q:=x.cell y c e;rw[Jc Nv hp hu (by show scope.names.lookup y≠_;rw[k];decide)]at q;exact q
 ·exact e0.hok.fresh (eB (x.above y c (iq h)))
 ·unfold start
  show _=N.length;rw[cA,au,Hl];omega
theorem Bf{CX:gw}{P:Program}{w:World}{K:W.Frag}{mg:Str->Option Value}{base:Heap}{k:Nat}{f:Addr}{name qual:Str}{params:Arguments}{body:List Stmt}{scope:Scope}{dV kV doc pm cdv ct oc:Value}{an od:Option Addr}
  {osl:Array (Option Value)} {N ps:List Str} {sp:Sp} (lk:K.lookup f=some ⟨oc,od,.func (W.fnOf name qual params body scope dV kV doc pm an cdv ct),osl⟩) (hcd:W.codeIn K cdv qual=true) (S:bh N ps scope)
  (len:∀vs H Q E,sp vs H Q E->vs.length=ps.length)
  (hbody:∀(A:Around) (outer:List Env) (s:Shared) (H:Hp) (vs:List V) (Q:VK) (E:XK),bR k (A.deeper (envOfC qual scope s.heap.objs.size f cdv))->sp vs H Q E ->
   ∃t,fA (cG CX P w K mg base N qual scope f cdv A outer s H E) body t/\t {nx:=λ_ H'=>Q .non H',rt:=Q} (start N vs) H) :
  aO P w K mg base CX (k+1) f (W.fnOf name qual params body scope dV kV doc pm an cdv ct) ps sp:=by
 refine⟨len,λA outer s H args us vs Q E hr e0 hb r hsp=>?_⟩;have hl:=len _ _ _ _ hsp;have KX:K.In s.heap:=e0.mod.iR.keeps λb o e=>(e0.bs b o e).1;have lim:s.heap.NoLimit:=e0.mod.nolimit.keeps λb o e=>(e0.bs b o e).1;have hkind:∀y∈ps.zip us,scope.names.lookup y.1=some .local\/(scope.names.lookup y.1=some .cell/\((cellsFrom (s.heap.objs.size+1) scope.names []).lookup y.1).isSome=true):=λ⟨n,v⟩ hy=>by
  rcases S.par n (xE hy).1 with q|q
  ·exact .inl q
  ·exact .inr ⟨q,W.cellsFrom_some _ _ _ (.inl q)⟩
 refine codeAny_call_function hr.depth (KX _ _ lk) rfl S.co S.gen rfl (W.codeRec_of KX hcd) (hb _ _ _ _ ?_);refine wpAny_newFunctionEnv_cells S.kind hkind λenv he s1 x=>?_;subst he;refine⟨lim.keeps x.toInCall.keep,codeAny_func ?_⟩;obtain⟨t,ht,hq⟩:=hbody A outer s H vs Q E (hr.deeper _) hsp;have I:Inv (cG CX P w K mg base N qual scope f cdv A outer s H E) [] (start N vs) H s1:=Xp S hr.hd e0 hl r x;refine d8 (ht [] s1 (start N vs) H _ I hq) (λfl s' hs=>?_) λe s' hs=>hs;have fin:∀{σ':St} {H':Hp} {v:V} {u:Value},Inv (cG CX P w K mg base N qual scope f cdv A outer s H E) [] σ' H' s'->RelV v u->Q v H'->CE outer P w H s Q u s':=
  λ{σ' H' v u} J rv q=>⟨v,H',J.os,J.bare,J.base,J.hok,rv,q⟩
 cases fl with
 |ret u =>
  obtain⟨v,σ',H',J,rv,q⟩:=hs;exact fin J rv q
 |next =>
  obtain⟨σ',H',J,q⟩:=hs;exact fin (v:=V.non) (u:=Value.none) J rfl q
 |brk =>
  obtain⟨_,_,_,q⟩:=hs;exact False.elim q
 |cont =>
  obtain⟨_,_,_,q⟩:=hs;exact False.elim q
section
variable {X:Cx} {x:Str} {p pos:Pos} {e:Expr} {es:List Expr} {t:TA} {id T:String} {r:List V->Hp->VK->Prop}
def Q8(r:List V->Hp->VK->Prop)(t:TA):TE:=λσ H Q=>t σ H λvs H1=>r vs H1 Q
theorem aY (hc:dD X (.builtin id) r) (hg:Gl X x) (hm:X.mg x=none) (hv:bootBuiltins x=some (.builtin id)) (ha:PA X (e::es) t) (hn:x ≠ "__name__" :=by decide) (hdb:(x==("__debug__" : Str))=false:=by decide)
  (he:starEach (e::es) X.env=(false,eval e X.env)::starEach es X.env:=by rfl) (hpl:(backTo pos (starEach es X.env)).any (·.1)=false:=by rfl):PE X (.Call (.Name x p) (e::es) [] pos) (Q8 r t):=by
 intro pins s σ H Q I h;refine lX (jw I hg hm hv ?_ hn hdb);exact PyProof.Rows.callWith_builtin1 (aM (ha pos pins s σ H _ I h) λus s1 ⟨vs,H1,I1,r1,q1⟩=>hc pins s1 σ H1 vs us Q I1 r1 q1) he hpl
theorem fL (hc:dD X (.type T) r) (hg:Gl X x) (hm:X.mg x=none) (hv:bootBuiltins x=some (.type T)) (ha:PA X (e::es) t) (hn:x ≠ "__name__" :=by decide) (hdb:(x==("__debug__" : Str))=false:=by decide)
  (he:starEach (e::es) X.env=(false,eval e X.env)::starEach es X.env:=by rfl) (hpl:(backTo pos (starEach es X.env)).any (·.1)=false:=by rfl):PE X (.Call (.Name x p) (e::es) [] pos) (Q8 r t):=by
 intro pins s σ H Q I h;refine lX (jw I hg hm hv ?_ hn hdb);exact nI (aM (ha pos pins s σ H _ I h) λus s1 ⟨vs,H1,I1,r1,q1⟩=>hc pins s1 σ H1 vs us Q I1 r1 q1) he hpl
end
end L2
namespace HT
open PySem PyProof.Rows
section
open PySem.SeqAt
open PySem.AutoSeq1 (wpAny_loadPart')
open PySem.MeetsSeq PySem.MeetsSeq2 PySem.MeetsSeq3
end
section
variable {prog:Program} {w:World} {A:Around} {E:Value->Shared->Prop} {s:Shared}
noncomputable def bj(n d:Nat):Option Int->Nat
 |none=>d
 |some v=>if v<0 then(v+(n:Int)).toNat else min v.toNat n
theorem vR(n d:Nat):bj n d none=d:=rfl
theorem vQ(n d k:Nat):bj n d (some (k:Int))=min k n:=by
 show(if(k:Int)<0 then((k:Int)+(n:Int)).toNat else min (k:Int).toNat n)=min k n;rw[if_neg (by omega),dW]
theorem abP(n d:Nat)(hd:d<=n)(o:Option Int):bj n d o<=n:=by
 cases o with
 |none=>exact hd
 |some v =>
  show(if v<0 then(v+(n:Int)).toNat else min v.toNat n)<=n
  by_cases hv:v<0
  ·rw[if_pos hv];omega
  ·rw[if_neg hv];exact Nat.min_le_right _ _
theorem Ju(v:Int)(n d:Nat):(if v<0 then max (v+(n:Int)) 0 else min v (n:Int))=((bj n d (some v):Nat):Int):=by
 show(if v<0 then max (v+(n:Int)) 0 else min v (n:Int))=(((if v<0 then(v+(n:Int)).toNat else min v.toNat n):Nat):Int)
 by_cases hv:v<0
 ·simp only[if_pos hv];omega
 ·simp only[if_neg hv];omega
theorem Sj(lo hi:Option Int)(n:Nat):Builtin.Slice.sliceAdjust lo hi 1 (n:Int)=(((bj n 0 lo:Nat):Int),((bj n n hi:Nat):Int)):=by
 have h1:¬ ((1:Int)<0):=by omega
 unfold Builtin.Slice.sliceAdjust;simp only[h1,g9];refine Prod.ext ?_ ?_
 ·cases lo with
  |none=>rfl
  |some v=>exact Ju v n 0
 ·cases hi with
  |none=>rfl
  |some v=>exact Ju v n n
theorem aa0(i j:Nat):Builtin.Slice.slicePlaces (i:Int) (j:Int) 1=j - i:=by
 unfold Builtin.Slice.slicePlaces;have h1:(1:Int) > 0:=by omega
 simp only[h1,iP,Int.ediv_one]
 split<;>omega
theorem QQ{v:Value}{o:Option Int}{Q:Option Int->Shared->Prop}(p:IsPart v o)(h:Q o s):wpAny (model prog w) A (Builtin.Slice.slicePartIndex v) Q E s:=by
 cases p with
 |none=>exact slicePart_none h
 |int i t=>exact slicePart_int h
theorem abX{sl:Addr}{vl vu:Value}{lo hi:Option Int}{n:Nat}{Q:Int × Int × Nat->Shared->Prop}(hs:s.heap.IsSliceOf sl vl vu .none)(pl:IsPart vl lo)(pu:IsPart vu hi)(h:Q (((bj n 0 lo:Nat):Int),1,bj n n hi - bj n 0 lo) s):wpAny (model prog w) A (Builtin.Slice.sliceApplied (.ref sl) (pure (n:Int))) Q E s:=by
 obtain⟨os,hos,hcs,hds⟩:=id hs;unfold Builtin.Slice.sliceApplied Builtin.Slice.sliceFields;refine ai (ai (dw hos hds (x:=vl) rfl (ai (dw hos hds (x:=vu) rfl (ai (dw hos hds (x:=.none) rfl (aH ?_)))))));refine ai (slicePart_none ?_);show wpAny _ _ (if((1:Int)==0)=true then _ else _) _ _ s;rw[if_neg (by decide)];refine ai (QQ pl (ai (QQ pu (ai (aH ?_)))));show wpAny _ _ (match Builtin.Slice.sliceAdjust lo hi 1 (n:Int)with | (lo,hi)=>pure (lo,(1:Int),Builtin.Slice.slicePlaces lo hi 1)) _ _ s;rw[Sj lo hi n];show wpAny _ _ (pure (((bj n 0 lo:Nat):Int),(1:Int),Builtin.Slice.slicePlaces ((bj n 0 lo:Nat):Int) ((bj n n hi:Nat):Int) 1)) _ _ s;rw[aa0];exact aH h
theorem aaZ(xs:Array Value)(i k:Nat):((List.range k).filterMap λ(m:Nat)=>xs[((i:Int)+(m:Int)*1).toNat]?).toArray=((xs.toList.drop i).take k).toArray:=by
 have e:(λ(m:Nat)=>xs[((i:Int)+(m:Int)*1).toNat]?)=λm=>xs[i+m]?:=by
  funext m
  have:((i:Int)+(m:Int)*1).toNat=i+m:=by omega
  rw[this]
 rw[e];have:=pick_run xs i k;rw[List.filterMap_map]at this;have e2:((λx=>xs[x]?) ∘ λx=>i+x)=λm=>xs[i+m]?:=rfl;rw[e2]at this;rw[this]
theorem Vg{t sl:Addr}{items:Array Value}{vl vu:Value}{lo hi:Option Int}{Q:Value->Shared->Prop}(ht:IsTup s.heap t items)(hs:s.heap.IsSliceOf sl vl vu .none)(pl:IsPart vl lo)(pu:IsPart vu hi)(hw:¬ (bj items.size 0 lo=0/\bj items.size items.size hi=items.size))
  (h:Q (.ref s.heap.objs.size) {s with heap:=s.heap.push {cls:=.type "tuple", data:=.seq ((items.toList.drop (bj items.size 0 lo)).take (bj items.size items.size hi - bj items.size 0 lo)).toArray}})
  (hsz:items.size<=sizeLine):wpAny (model prog w) A (getItem (.ref t) (.ref sl)) Q E s:=by
 have uV:sizeOk (.seq ((items.toList.drop (bj items.size 0 lo)).take (bj items.size items.size hi - bj items.size 0 lo)).toArray):=by
  show((items.toList.drop (bj items.size 0 lo)).take (bj items.size items.size hi - bj items.size 0 lo)).toArray.size<=sizeLine;rw[bU,kK,jP,fO];omega
 have hj:bj items.size items.size hi<=items.size:=abP _ _ (aW _) hi;obtain⟨os,hos,hcs,hds⟩:=id hs;have hTs:s.TypeIs (.ref sl) "slice" :=⟨os,hos,hcs⟩;unfold getItem
 try with_reducible refine fB ?_
 first|refine ai (aH ?_)|skip
 refine ai (wpAny_sequenceKey ht.typeIs (by decide) ?_);refine ai (nQ (name:=Str.ofString "__getitem__") ht.typeIs xP
  (lY xP ht.typeIs entry_tuple_getitem ?_ (args_tuple_getitem _ _)))
 show wpAny _ _ (Builtin.Tuple.tupleItemsOf (.ref t)>>=_) _ _ s;refine ai (tupleItemsOf_ ht ?_);refine ai (wpAny_typeOf hTs ?_);rw[if_pos (by decide)];refine ai (abX hs pl pu ?_);have hno:¬ ((((bj items.size 0 lo:Nat):Int)==0&&(1:Int)==1&&(bj items.size items.size hi - bj items.size 0 lo)==items.size)=true):=by
  intro q;rw[bJ,bJ]at q;have q1:((bj items.size 0 lo:Nat):Int)=0:=eq_of_beq q.1.1;have q2:bj items.size items.size hi - bj items.size 0 lo=items.size:=eq_of_beq q.2;exact hw ⟨by omega,by omega⟩
 show wpAny _ _ (if(((bj items.size 0 lo:Nat):Int)==0&&(1:Int)==1&&(bj items.size items.size hi - bj items.size 0 lo)==items.size)=true then _ else _) _ _ s;rw[if_neg hno,aaZ]
 first
  |exact ai (m:=Builtin.Tuple.tupleExact _) (kR (aH ⟨_,rfl,aH h⟩) uV)
  |exact ai (m:=Builtin.Tuple.tupleExact _) (kR (ai (aH (aH ⟨_,rfl,aH h⟩))) uV)
  |exact ai (ai (m:=Builtin.Tuple.tupleExact _) (kR (aH (aH ⟨_,rfl,aH h⟩)) uV))
  |exact ai (ai (m:=Builtin.Tuple.tupleExact _) (kR (aH ⟨_,rfl,aH h⟩) uV))
end
end HT
namespace L2
open PySem PySem.Spec PyProof.Rows
abbrev TO:=St->Hp->(Option Int->Hp->Prop)->Prop
noncomputable def PO(X:Cx)(e:Option Expr)(t:TO):Prop:=
 ∀(pins:List (Addr × Obj)) (s:Shared) (σ:St) (H:Hp) (Q:Option Int->Hp->Prop),Inv X pins σ H s->t σ H Q ->
  wpAny (model X.prog X.w) X.A (evalPart e X.env) (λu s'=>∃o H',Inv X pins σ H' s'/\IsPart u o/\Q o H') X.xe s
def acy:TO:=λ_ H Q=>Q none H
def acC(t:TE):TO:=λσ H Q=>t σ H λx H1=>∃i,x = .int i/\Q (some i) H1
section
variable {X:Cx} {e:Expr} {te:TE} {lo hi:Option Expr} {tl th:TO} {pos p2:Pos}
theorem fh:PO X none acy:=by
 intro pins s σ H Q I h;rw[evalPart_none];exact aH ⟨none,H,I,.none,h⟩
theorem dS(h:PE X e te):PO X (some e) (acC te):=by
 intro pins s σ H Q I hw;rw[evalPart_some];refine aM (h pins s σ H _ I hw) λu s1 ⟨x,H1,I1,r1,q1⟩=>?_;obtain⟨i,rfl,q⟩:=q1;obtain⟨t,rfl⟩:=r1;exact⟨some i,H1,I1,.int i t,q⟩
def qk(X:Cx)(r:V->Option Int->Option Int->Hp->VK->Prop):Prop:=
 ∀(pins:List (Addr × Obj)) (s:Shared) (σ:St) (H:Hp) (x:V) (v vl vu:Value) (lo hi:Option Int) (sl:Addr) (Q:VK),Inv X pins σ H s->RelV x v->s.heap.IsSliceOf sl vl vu .none->IsPart vl lo->IsPart vu hi->r x lo hi H Q ->
  ∃T id,typeLookup (.type T) "__getitem__" = pure (some (.builtin id))/\s.TypeIs v T/\wpAny (model X.prog X.w) X.A (getItem v (.ref sl)) (EP X pins σ Q) X.xe s
def tSl(r:V->Option Int->Option Int->Hp->VK->Prop)(te:TE)(tl th:TO):TE:=λσ H Q=>te σ H λx H1=>tl σ H1 λl H2=>th σ H2 λu H3=>r x l u H3 Q
theorem eL{r:V->Option Int->Option Int->Hp->VK->Prop}(hr:qk X r)(he:PE X e te)(hl:PO X lo tl)(hu:PO X hi th):PE X (.Subscript e (.Slice lo hi none p2) pos) (tSl r te tl th):=by
 intro pins s σ H Q I h;refine Subscript_ (aM (he pins s σ H _ I h) λv s1 ⟨x,H1,I1,r1,q1⟩=>?_);refine wpAny_Slice (aM (hl pins s1 σ H1 _ I1 q1) λvl s2 ⟨l,H2,I2,pl,q2⟩=>aM (hu pins s2 σ H2 _ I2 q2) λvu s3 ⟨u,H3,I3,pu,q3⟩=>?_);rw[evalPart_none];refine aH ?_;have I4:Inv X pins σ H3 {s3 with heap:=s3.heap.push {cls:=.type "slice", data:=.fields #[vl,vu,.none]}}:=I3.kept (t':=s3.toks) λb ob q=>aU _ q;obtain⟨T,id,hT,ht,hg⟩:=hr pins {s3 with heap:=s3.heap.push {cls:=.type "slice", data:=.fields #[vl,vu,.none]}} σ H3 x v vl vu l u s3.heap.objs.size Q I4 r1 (Heap.IsSliceOf.new ..) pl pu q3;show wpAny (model X.prog X.w) X.A (subscriptTail e (.Slice lo hi none p2) v (.ref s3.heap.objs.size)) (EP X pins σ Q) X.xe {s3 with heap:=s3.heap.push {cls:=.type "slice", data:=.fields #[vl,vu,.none]}};exact tail_any (ops:=[.ref s3.heap.objs.size,v]) ht hT hg (by with_unfolding_all rfl)
noncomputable def bP(xs:List V)(lo hi:Option Int):List V:=(xs.drop (HT.bj xs.length 0 lo)).take (HT.bj xs.length xs.length hi - HT.bj xs.length 0 lo)
theorem JB(xs:List V)(lo hi:Option Int):(bP xs lo hi).length<=xs.length:=by
 unfold bP;rw[kK,jP];omega
def O5(K:W.Frag):V->Option Int->Option Int->Hp->VK->Prop:=λx lo hi H Q=>∃a xs,x = .ref a/\az K H a xs /\
 ¬ (HT.bj xs.length 0 lo=0/\HT.bj xs.length xs.length hi=xs.length)/\∀p,H p=none->Q (.ref p) (upd H p (.tup (bP xs lo hi)))
theorem abW:qk X (O5 X.K):=by
 intro pins s σ H x v vl vu lo hi sl Q I rx hs pl pu h;obtain⟨a,xs,rfl,hx,hw,q⟩:=h;cases rx;obtain⟨its,r,ht,hz⟩:=I.tuple hx;have hlen:its.toArray.size=xs.length:=by rw[bU];exact r.length.symm
 refine⟨"tuple", _,xP.lookup,ht.typeIs,?_⟩;refine HT.Vg ht hs pl pu (by rw[hlen];exact hw) ?_ (by rw[hlen];exact hz);rw[hlen];refine⟨.ref s.heap.objs.size,_,I.laid (t':=s.toks) (o:=.tup (bP xs lo hi)) (λb ob q=>aU _ q) (aW _) ?_,rfl,q _ (I.hok.fresh (aW _))⟩;exact⟨b_ (JB xs lo hi) hz,_,(r.drop (HT.bj xs.length 0 lo)).take (HT.bj xs.length xs.length hi - HT.bj xs.length 0 lo),IsTup.new _ _,_,cn _ rfl,rfl⟩
end
noncomputable def iy(n:Nat)(i:Int):Option Nat:=if 0<=i then(if i<n then some i.toNat else none)else if -(n:Int)<=i then some (i+n).toNat else none
noncomputable def eN{α:Type}(xs:List α)(i:Int):Option α:=(iy xs.length i).bind λj=>xs[j]?
theorem Mu{n:Nat}{i:Int}{j:Nat}(h:iy n i=some j):seqIndex? i n=some j/\j<n/\-(n:Int)<=i/\i<n:=by
 unfold iy at h
 by_cases h0:0<=i
 ·rw[if_pos h0]at h
  by_cases h1:i<n
  ·rw[if_pos h1]at h
   have e:i.toNat=j:=df h;exact⟨by rw[yd h0 h1,e],by omega,by omega,h1⟩
  ·rw[if_neg h1]at h;cases h
 ·rw[if_neg h0]at h
  by_cases h1:-(n:Int)<=i
  ·rw[if_pos h1]at h
   have e:(i+n).toNat=j:=df h;exact⟨by rw[seqIndex_neg (by omega) h1,e],by omega,h1,by omega⟩
  ·rw[if_neg h1]at h;cases h
theorem IV{α:Type}{xs:List α}{i:Int}{v:α}(h:eN xs i=some v):∃j,seqIndex? i xs.length=some j/\xs[j]?=some v/\j<xs.length/\-(xs.length:Int)<=i/\i<xs.length:=by
 unfold eN at h;cases e:iy xs.length i with
 |none=>rw[e]at h;cases h
 |some j =>
  rw[e]at h;obtain⟨h1,h2,h3,h4⟩:=Mu e;exact⟨j,h1,h,h2,h3,h4⟩
theorem aI{α:Type}{xs:List α}{j:Nat}{v:α}(h:xs[j]?=some v):eN xs (j:Int)=some v:=by
 have hj:j<xs.length:=(bN.mp h).1;have e:iy xs.length (j:Int)=some j:=by
  unfold iy;rw[if_pos (by omega),if_pos (by omega)];simp
 unfold eN;rw[e];exact h
theorem IW{α:Type}(xs:List α)(v:α):eN (xs++[v]) (-1)=some v:=by
 have hl:(xs++[v]).length=xs.length+1:=by simp
 have e:iy (xs++[v]).length (-1)=some xs.length:=by
  unfold iy;rw[hl,if_neg (by decide),if_pos (by omega)]
  congr 1
  omega
 unfold eN;rw[e];show(xs++[v])[xs.length]?=some v;simp
def R6(b:Expr):Prop:=∀o i,subscripted b false o i=operate [o,i] (getItem o i)
def ni(X:Cx)(r:R2):Prop:=
 ∀(value slice:Expr) (pins:List (Addr × Obj)) (s:Shared) (σ:St) (H:Hp) (x y:V) (v u:Value) (Q:VK),Inv X pins σ H s->RelV x v->RelV y u->r x y H Q ->
  subscripted slice false v u=operate [v,u] (getItem v u)->wpAny (model X.prog X.w) X.A (subscriptTail value slice v u) (EP X pins σ Q) X.xe s
def lT(X:Cx)(id:String)(r:V->List V->Hp->VK->Prop):Prop:=
 ∀(pins:List (Addr × Obj)) (s:Shared) (σ:St) (H:Hp) (x:V) (xs:List V) (v:Value) (us:List Value) (Q:VK),Inv X pins σ H s->RelV x v->Vals xs us->r x xs H Q ->
  wpAny (model X.prog X.w) X.A (call (.builtin id) (v::us)) (EP X pins σ Q) X.xe s
section
variable {X:Cx} {a b:Expr} {ta tb:TE} {pos:Pos}
theorem aq{r:R2}(hr:ni X r)(ha:PE X a ta)(hb:PE X b tb)(hs:R6 b):PE X (.Subscript a b pos) (wN r ta tb):=by
 intro pins s σ H Q I h;exact Subscript_ (yv ha hb I h λv u s2 x y H2 I2 rx ry q=>hr a b pins s2 σ H2 x y v u Q I2 rx ry q (hs _ _))
def O1(K:W.Frag):R2:=λx y H Q=>∃p xs i v,x = .ref p/\y = .int i/\ag K H p xs/\eN xs i=some v/\Q v H
def O2(K:W.Frag):R2:=λx y H Q=>∃p xs i v,x = .ref p/\y = .int i/\az K H p xs/\eN xs i=some v/\Q v H
theorem Xz:ni X (O1 X.K):=by
 intro value slice pins s σ H x y v u Q I rx ry h hs;obtain⟨p,xs,i,z,rfl,rfl,hq,he,q⟩:=h;cases rx;obtain⟨t,rfl⟩:=ry;obtain⟨its,r,pl,hz⟩:=I.list hq;obtain⟨j,h1,h2,h3,h4,h5⟩:=IV he;obtain⟨w,ew,mM⟩:=r.get h2;have hl:=r.length;have hn:=u6;have fin:EP X pins σ Q w s:=⟨z,H,I,mM,q⟩
 by_cases h0:0<=i
 ·have hj:i.toNat=j:=by
   rw[yd h0 h5]at h1;exact df h1
  exact item_listR pl.isList h0 (by omega) (by rw[hj];simpa using ew) fin hs
 ·have hj:(i+(its.toArray.size:Int)).toNat=j:=by
   rw[seqIndex_neg (by omega) h4]at h1;rw[bU,<- hl];exact df h1
  exact subscriptTail_builtinR (x:=w) pl.isList.typeIs slot_list_getitem.lookup
   (wpAny_getItem_list_neg (Q:=λr s'=>r=w/\EP X pins σ Q r s') pl.isList (by omega) (by rw[bU]<;>omega) (by omega) (by rw[hj];simpa using ew) ⟨rfl,fin⟩) hs
theorem XC:ni X (O2 X.K):=by
 intro value slice pins s σ H x y v u Q I rx ry h hs;obtain⟨p,xs,i,z,rfl,rfl,hq,he,q⟩:=h;cases rx;obtain⟨t,rfl⟩:=ry;obtain⟨its,r,pl,hz⟩:=I.tuple hq;obtain⟨j,h1,h2,h3,h4,h5⟩:=IV he;obtain⟨w,ew,mM⟩:=r.get h2;have hl:=r.length;have hn:=u6;have fin:EP X pins σ Q w s:=⟨z,H,I,mM,q⟩;exact subscriptTail_builtinR (x:=w) pl.typeIs xP.lookup
  (getItem_tuple (j:=j) (Q:=λr s'=>r=w/\EP X pins σ Q r s') pl (by omega) (by omega) (by rw[bU,<- hl];exact h1) (by simpa using ew) ⟨rfl,fin⟩) hs
theorem Yo (its:List Value) (n j:Nat) (u:Value):Obj.mapSeq (·.setIfInBounds j u) {cls:=.type "list", data:=.seq its.toArray n} = {cls:=.type "list", data:=.seq (its.set j u).toArray n}:=by
 simp[Obj.mapSeq]
theorem Inv.lst{pins:List (Addr × Obj)}{σ:St}{H:Hp}{s:Shared}{p:Addr}{xs:List V}(I:Inv X pins σ H s)(h:H p=some (.lst xs)):
  ∃(its:List Value) (n:Nat),Vals xs its/\s.heap.get? p=some {cls:=.type "list", data:=.seq its.toArray n}/\xs.length<=sizeLine:=by
 obtain⟨z,its,n,r,e⟩:=I.hok p _ h;exact⟨its,n,r,e,z⟩
theorem Inv.Yj{pins:List (Addr × Obj)}{σ:St}{H:Hp}{s:Shared}{p:Addr}{xs ys:List V}{its its':List Value}{n n':Nat}{f:Obj->Obj}(I:Inv X pins σ H s)(h:H p=some (.lst xs))
  (ho:s.heap.get? p=some {cls:=.type "list", data:=.seq its.toArray n}) (hf:f {cls:=.type "list", data:=.seq its.toArray n} = {cls:=.type "list", data:=.seq its'.toArray n'}) (r:Vals ys its') (hz:ys.length<=sizeLine) (t:Nat) :
  Inv X pins σ (upd H p (.lst ys)) {s with heap:=s.heap.update p f,toks:=t}:=by
 have e:(s.heap.update p f).get? p=some {cls:=.type "list", data:=.seq its'.toArray n'}:=by
  rw[il f ho (by rw[hf]<;>rfl),hf]
 refine I.write (x:=p) (e:=p) (by rw[h];trivial) (.inl rfl) (λb u hb q=>(ik _ _ (bQ hb)).trans q) ⟨_,e⟩ ?_;exact⟨hz,its',n',r,e⟩
def abz:V->V->V->Hp->(Hp->Prop)->Prop:=λo i v H Q=>∃p xs k j,o = .ref p/\i = .int k/\H p=some (.lst xs)/\iy xs.length k=some j/\Q (upd H p (.lst (xs.set j v)))
theorem set_list:HD X abz:=by
 intro pins s σ H o i v ov iv u Q I ro ri rv h;obtain⟨p,xs,k,j,rfl,rfl,hp,hj,q⟩:=h;cases ro;obtain⟨t,rfl⟩:=ri;obtain⟨its,n,r,ho,hz⟩:=I.lst hp;obtain⟨h1,h2,h3,h4⟩:=Mu hj;have hl:=r.length;have hn:=u6;have I':Inv X pins σ (upd H p (.lst (xs.set j v))) {s with heap:=s.heap.update p (Obj.mapSeq (·.setIfInBounds j u))}:=
  I.Yj hp ho (Yo its n j u) (r.set rv j) (by rw[Hm];exact hz) s.toks
 by_cases h0:0<=k
 ·have hk:k.toNat=j:=by
   rw[yd h0 h4]at h1;exact df h1
  exact W.ki_setAt ho h0 (by omega) (by rw[bU,<- hl];exact h4) (by rw[hk];exact⟨_,I',q⟩)
 ·have hk:(k+(its.toArray.size:Int)).toNat=j:=by
   rw[seqIndex_neg (by omega) h3]at h1;rw[bU,<- hl];exact df h1
  exact W.ki_setBack ho (by omega) (by rw[bU,<- hl];exact h3) (by omega) (by rw[hk];exact⟨_,I',q⟩)
theorem abZ(lo hi:Option Int)(n:Nat):(sliceBounds lo hi none n).1=((HT.bj n 0 lo:Nat):Int)/\(sliceBounds lo hi none n).2.1=((HT.bj n n hi:Nat):Int)/\(sliceBounds lo hi none n).2.2=1:=by
 refine⟨?_,?_,rfl⟩
 ·cases lo with
  |none=>simp[sliceBounds,HT.bj]
  |some i =>
   simp only[sliceBounds,HT.bj,Option.getD_none,show(1:Int) > 0 by decide,iP]
   by_cases h:i<0
   ·simp only[h,iP]<;>omega
   ·simp only[h,g9]<;>omega
 ·cases hi with
  |none=>simp[sliceBounds,HT.bj]
  |some i =>
   simp only[sliceBounds,HT.bj,Option.getD_none,show(1:Int) > 0 by decide,iP]
   by_cases h:i<0
   ·simp only[h,iP]<;>omega
   ·simp only[h,g9]<;>omega
theorem abY(its:List Value)(lo hi:Option Int):slicePick its.toArray lo hi none=((its.drop (HT.bj its.length 0 lo)).take (HT.bj its.length its.length hi - HT.bj its.length 0 lo)).toArray:=by
 obtain⟨h1,h2,h3⟩:=abZ lo hi its.toArray.size;unfold slicePick;rw[h1,h2,h3];simp only[sliceRange_one,pick_run,bU]<;>rfl
def O4(K:W.Frag):V->Option Int->Option Int->Hp->VK->Prop:=λx lo hi H Q=>∃a xs,x = .ref a/\ag K H a xs/\∀p,H p=none->Q (.ref p) (upd H p (.lst (bP xs lo hi)))
theorem abV:qk X (O4 X.K):=by
 intro pins s σ H x v vl vu lo hi sl Q I rx hs pl pu h;obtain⟨a,xs,rfl,hx,q⟩:=h;cases rx;obtain⟨its,r,ht,hz⟩:=I.list hx;have hlen:=r.length;refine⟨"list", _,slot_list_getitem.lookup,ht.isList.typeIs,?_⟩;refine wpAny_getItem_list_slice ht.isList hs pl pu .none (by simp) ?_ (by rw[bU]<;>omega);rw[abY,<- hlen];refine⟨.ref s.heap.objs.size,_,I.laid (t':=s.toks) (o:=.lst (bP xs lo hi)) (λb ob q=>aU _ q) (aW _) ?_,rfl,q _ (I.hok.fresh (aW _))⟩;exact⟨b_ (JB xs lo hi) hz,_,0,(r.drop (HT.bj xs.length 0 lo)).take (HT.bj xs.length xs.length hi - HT.bj xs.length 0 lo),cn _ rfl⟩
noncomputable def j6:V->Bool
 |.non=>true
 |.bl _=>true
 |.int _=>true
 |.str _=>true
 |_=>false
noncomputable def jZ:V->V->Bool
 |.non,.non=>true
 |.bl a,.bl b=>a==b
 |.bl a,.int b=>(if a then 1 else 0)==b
 |.int a,.bl b=>a==(if b then 1 else 0)
 |.int a,.int b=>a==b
 |.str a,.str b=>a==b
 |_,_=>false
theorem Uq{A:Around}{s:Shared}{y x:V}{u v:Value}(ry:RelV y u)(rx:RelV x v)(fy:j6 y=true)(fx:j6 x=true):SeqAt.EqAt A s u v (jZ y x):=by
 cases y with
 |non =>
  cases ry;cases x with
  |non=>cases rx;exact yb _
  |bl b=>cases rx;exact SeqAt.EqAt.none_bool b
  |int b=>obtain⟨t,rfl⟩:=rx;exact SeqAt.EqAt.none_int b t
  |str b=>obtain⟨t,rfl⟩:=rx;exact SeqAt.EqAt.none_str b t
  |_=>exact absurd (show false=true from fx) Bool.false_ne_true
 |bl a =>
  cases ry;cases x with
  |non=>cases rx;exact SeqAt.EqAt.bool_none a
  |bl b=>cases rx;exact xZ a b
  |int b=>obtain⟨t,rfl⟩:=rx;exact SeqAt.EqAt.bool_int a b t
  |str b=>obtain⟨t,rfl⟩:=rx;exact SeqAt.EqAt.bool_str a b t
  |_=>exact absurd (show false=true from fx) Bool.false_ne_true
 |int a =>
  obtain⟨t',rfl⟩:=ry;cases x with
  |non=>cases rx;exact SeqAt.EqAt.int_none a t'
  |bl b=>cases rx;exact SeqAt.EqAt.int_bool a t' b
  |int b=>obtain⟨t,rfl⟩:=rx;exact SeqAt.EqAt.int_int a t' b t
  |str b=>obtain⟨t,rfl⟩:=rx;exact SeqAt.EqAt.int_str a t' b t
  |_=>exact absurd (show false=true from fx) Bool.false_ne_true
 |str a =>
  obtain⟨t',rfl⟩:=ry;cases x with
  |non=>cases rx;exact SeqAt.EqAt.str_none a t'
  |bl b=>cases rx;exact SeqAt.EqAt.str_bool a t' b
  |int b=>obtain⟨t,rfl⟩:=rx;exact SeqAt.EqAt.str_int a t' b t
  |str b=>obtain⟨t,rfl⟩:=rx;exact SeqAt.EqAt.str_str a t' b t
  |_=>exact absurd (show false=true from fx) Bool.false_ne_true
 |_=>exact absurd (show false=true from fy) Bool.false_ne_true
noncomputable def f9(x:V)(u:Value):Bool:=match u with
 |.none=>jZ .non x
 |.bool b=>jZ (.bl b) x
 |.int i _=>jZ (.int i) x
 |.str z _=>jZ (.str z) x
 |_=>false
theorem JZ{x y:V}{u:Value}(r:RelV y u)(f:j6 y=true):f9 x u=jZ y x:=by
 cases y with
 |non=>cases r;rfl
 |bl b=>cases r;rfl
 |int i=>obtain⟨t,rfl⟩:=r;rfl
 |str z=>obtain⟨t,rfl⟩:=r;rfl
 |_=>exact absurd (show false=true from f) Bool.false_ne_true
theorem qt{x:V}:∀{xs:List V} {us:List Value},Vals xs us->xs.all j6=true->us.any (f9 x)=xs.any λy=>jZ y x
 |_,_,.nil,_=>rfl
 |y::xs,u::us,.cons r t,f=>by
  rw[He,bJ]at f;rw[pT,pT,JZ r f.1,qt t f.2]
theorem rR{A:Around}{s:Shared}{x:V}{v:Value}(rx:RelV x v)(fx:j6 x=true):∀{xs:List V} {us:List Value},Vals xs us->xs.all j6=true->∀u∈us,SeqAt.EqAt A s u v (f9 x u)
 |_,_,.nil,_=>λu hu=>by cases hu
 |y::xs,u::us,.cons r t,f=>λu' hu=>by
  rw[He,bJ]at f
  rcases bx.mp hu with rfl|hu
  ·rw[JZ r f.1];exact Uq r rx f.1 fx
  ·exact rR rx fx t f.2 u' hu
noncomputable def inV(x:V)(xs:List V):Bool:=xs.any λy=>jZ y x
def vJ(K:W.Frag)(neg:Bool):R2:=λx y H Q=>∃p xs,y = .ref p/\(ag K H p xs\/az K H p xs)/\j6 x=true/\xs.all j6=true/\Q (.bl (if neg then !inV x xs else inV x xs)) H
theorem aap:bY X (compareOp .In) (vJ X.K false):=by
 intro pins s σ H x y v u Q I rx ry h;obtain⟨p,xs,rfl,hq,fx,fs,q⟩:=h;cases ry
 rcases hq with hq|hq
 ·obtain⟨its,r,pl,hz⟩:=I.list hq
  refine SeqAt.in_listAt (f9 x) pl.isList (λw hw=>rR rx fx r fs w (by simpa using hw)) ⟨.bl _,H,I,rfl,?_⟩;rw[show its.toArray.any (f9 x)=its.any (f9 x)by simp,qt r fs];exact q
 ·obtain⟨its,r,pl,hz⟩:=I.tuple hq
  refine SeqAt.in_tupleAt (f9 x) pl (λw hw=>rR rx fx r fs w (by simpa using hw)) ⟨.bl _,H,I,rfl,?_⟩;rw[show its.toArray.any (f9 x)=its.any (f9 x)by simp,qt r fs];exact q
theorem aar:bY X (compareOp .NotIn) (vJ X.K true):=by
 intro pins s σ H x y v u Q I rx ry h;obtain⟨p,xs,rfl,hq,fx,fs,q⟩:=h;cases ry
 rcases hq with hq|hq
 ·obtain⟨its,r,pl,hz⟩:=I.list hq
  refine SeqAt.notIn_listAt (f9 x) pl.isList (λw hw=>rR rx fx r fs w (by simpa using hw)) ⟨.bl _,H,I,rfl,?_⟩;rw[show its.toArray.any (f9 x)=its.any (f9 x)by simp,qt r fs];exact q
 ·obtain⟨its,r,pl,hz⟩:=I.tuple hq
  refine SeqAt.notIn_tupleAt (f9 x) pl (λw hw=>rR rx fx r fs w (by simpa using hw)) ⟨.bl _,H,I,rfl,?_⟩;rw[show its.toArray.any (f9 x)=its.any (f9 x)by simp,qt r fs];exact q
theorem Ta:dD X (.builtin "len") (λxs H Q=>∃p ys,xs = [.ref p]/\(ag X.K H p ys\/az X.K H p ys)/\Q (.int ys.length) H):=by
 intro pins s σ H xs us Q I r h;obtain⟨p,ys,rfl,hq,q⟩:=h;obtain⟨u,rfl,rx⟩:=vals1 r;cases rx;have hn:=u6
 rcases hq with hq|hq
 ·obtain⟨its,r',pl,hz⟩:=I.list hq
  have hlen:=r'.length;exact Calls.call_len_list pl.isList (by simp only[bU]<;>omega) ⟨.int ys.length,H,I.tok _,⟨s.toks+1,by rw[bU,hlen]⟩,q⟩
 ·obtain⟨its,r',pl,hz⟩:=I.tuple hq
  have hlen:=r'.length;exact len_tuple pl (by simp only[bU]<;>omega) ⟨.int ys.length,H,I.tok _,⟨s.toks+1,by rw[bU,hlen]⟩,q⟩
theorem Tc:dD X (.type "list") (λxs H Q=>∃p ys,xs = [.ref p]/\(ag X.K H p ys\/az X.K H p ys)/\∀l,H l=none->Q (.ref l) (upd H l (.lst ys))):=by
 intro pins s σ H xs us Q I r h;obtain⟨p,ys,rfl,hq,q⟩:=h;obtain⟨u,rfl,rx⟩:=vals1 r;cases rx;have fin:∀(its:List Value),Vals ys its->ys.length<=sizeLine->∀(h':Heap) (c':Nat),(∀b o',s.heap.get? b=some o'->h'.get? b=some o') ->
   h'.get? s.heap.objs.size=some {cls:=.type "list", dict:=none,data:=.seq its.toArray c',slots:=#[]}->EP X pins σ Q (.ref s.heap.objs.size) {s with heap:=h'}:=λits r' hz h' c' kp e =>
  ⟨.ref s.heap.objs.size,_,I.laid (t':=s.toks) kp (aW _) (show bC X.prog X.w _ h' _ (.lst ys)from⟨hz,its,c',r',e⟩),rfl,q _ (I.hok.fresh (aW _))⟩
 rcases hq with hq|hq
 ·obtain⟨its,r',pl,hz⟩:=I.list hq
  have hlen:=r'.length;obtain⟨o,ho,hc,n,hd⟩:=pl.isList;exact call_list_seq p (.inl rfl) ho hc hd (λh' c' kp e=>fin its r' hz h' c' kp e) (by simp only[bU]<;>omega)
 ·obtain⟨its,r',pl,hz⟩:=I.tuple hq
  have hlen:=r'.length;obtain⟨o,ho,hc,n,hd⟩:=pl;exact call_list_seq p (.inr rfl) ho hc hd (λh' c' kp e=>fin its r' hz h' c' kp e) (by simp only[bU]<;>omega)
theorem Tq:dD X (.type "tuple") (λxs H Q=>∃p ys,xs = [.ref p]/\((ag X.K H p ys/\∀l,H l=none->Q (.ref l) (upd H l (.tup ys)))\/(az X.K H p ys/\Q (.ref p) H))):=by
 intro pins s σ H xs us Q I r h;obtain⟨p,ys,rfl,h⟩:=h;obtain⟨u,rfl,rx⟩:=vals1 r;cases rx
 rcases h with⟨hq,q⟩|⟨hq,q⟩
 ·obtain⟨its,r',pl,hz⟩:=I.list hq
  have hlen:=r'.length;refine call_tuple_list pl.isList (λh' kp=>?_) (by simp only[bU]<;>omega);have I1:Inv X pins σ H {s with heap:=h'}:=I.kept (t':=s.toks) kp;have I2:Inv X pins σ (upd H h'.objs.size (.tup ys)) {s with heap:=h'.push {cls:=.type "tuple", data:=.seq its.toArray}}:=
   I1.laid (t':=s.toks) (λb o e=>aU _ e) (aW _) (show bC X.prog X.w _ _ _ (.tup ys)from⟨hz,its,r',IsTup.new _ _,_,cn _ rfl,rfl⟩)
  exact⟨.ref h'.objs.size,_,I2,rfl,q _ (I1.hok.fresh (aW _))⟩
 ·obtain⟨its,r',pl,hz⟩:=I.tuple hq
  exact call_tuple_same pl ⟨.ref p,H,I,rfl,q⟩
noncomputable def GK(K:W.Frag)(T:String)(x:V)(H:Hp):Prop:=match x with
 |.str _=>T = "str"
 |.int _=>T = "int"
 |.ref p=>(T = "list" /\ ∃xs,ag K H p xs)\/(T = "tuple" /\ ∃o,K.lookup p=some o/\o.cls = .type "tuple" /\ o.dict=none) \/
   (T = "dict" /\ ((∃kvs,H p=some (.dK kvs))\/∃kvs,H p=some (.dT kvs)))\/(T = "set" /\ ∃S n,H p=some (.set S n))\/(T = "tuple" /\ ∃xs,H p=some (.tup xs))
 |_=>False
theorem Rn{pins:List (Addr × Obj)}{σ:St}{H:Hp}{s:Shared}{T:String}{x:V}{v:Value}(I:Inv X pins σ H s)(r:RelV x v)(ty:GK X.K T x H):s.TypeIs v T/\∀a,v = .ref a->∃ob,s.heap.get? a=some ob/\ob.dict=none:=by
 cases x with
 |str z =>
  obtain⟨t,rfl⟩:=r;cases(show T = "str" from ty);exact⟨typeIs_str s z t,λ_ e=>nomatch e⟩
 |int i =>
  obtain⟨t,rfl⟩:=r;cases(show T = "int" from ty);exact⟨typeIs_int s i t,λ_ e=>nomatch e⟩
 |ref p =>
  cases r
  rcases ty with⟨rfl,xs,hq⟩|⟨rfl,o,hk,hc,hd⟩|⟨rfl,hk⟩|⟨rfl,S,n,hk⟩|⟨rfl,zs,hk⟩
  ·obtain⟨its,_,pl,_⟩:=I.list hq
   refine⟨pl.isList.typeIs,λa e=>?_⟩;cases e;obtain⟨o,n,e,c,hd,_⟩:=pl;exact⟨o,e,hd⟩
  ·refine⟨⟨o,I.cu p o hk,hc⟩,λa e=>?_⟩
   cases e;exact⟨o,I.cu _ o hk,hd⟩
  ·have z:∃o,s.heap.get? p=some o/\o.ExactDict:=by
    rcases hk with⟨kvs,hk⟩|⟨kvs,hk⟩
    ·obtain⟨_,_,_,_,o,_,_,e,ex,_⟩:=I.hok p _ hk
     exact⟨o,e,ex⟩
    ·obtain⟨_,_,_,_,o,_,_,e,ex,_⟩:=I.hok p _ hk
     exact⟨o,e,ex⟩
   obtain⟨o,e,ex⟩:=z;refine⟨⟨o,e,ex.1⟩,λa e2=>?_⟩;cases e2;exact⟨o,e,ex.2.1⟩
  ·obtain⟨o,_,_,_,e,ex,_⟩:=I.hok p _ hk
   refine⟨⟨o,e,ex.1⟩,λa e2=>?_⟩;cases e2;exact⟨o,e,ex.2.1⟩
  ·obtain⟨_,_,_,⟨o2,e2,c2,_⟩,o,e,hd⟩:=(show bC X.prog X.w H s.heap p (.tup zs)from I.hok p _ hk)
   refine⟨⟨o2,e2,c2⟩,λa e3=>?_⟩;cases e3;exact⟨o,e,hd⟩
 |_=>exact False.elim ty
def Q7(K:W.Frag)(T:String)(r:V->List V->Hp->VK->Prop)(to:TE):TE:=λσ H Q=>to σ H λx H1=>GK K T x H1/\r x [] H1 Q
def Q6(K:W.Frag)(T:String)(r:V->List V->Hp->VK->Prop)(to:TE)(t:TA):TE:=λσ H Q=>to σ H λx H1=>GK K T x H1/\t σ H1 λxs H2=>r x xs H2 Q
variable {o e:Expr} {es:List Expr} {to:TE} {t:TA} {name:Str} {apos cpos:Pos} {T id:String} {r:V->List V->Hp->VK->Prop}
theorem aaB (pa:PlainAttrs T) (slot:Slot T name id) (hty:typeOf (.builtin id)=pure (.type "method_descriptor")) (hm:lT X id r) (ho:PE X o to)
  (hbase:attributeBase o name X.env (eval o X.env)=eval o X.env:=by rfl) (hline:(apos.endLine==cpos.line)=true:=by rfl):PE X (.Call (.Attribute o name apos) [] [] cpos) (Q7 X.K T r to):=by
 intro pins s σ H Q I h;refine wpAny_Call_method0_late hbase hline (aM (ho pins s σ H _ I h) λv s1 ⟨x,H1,I1,r1,ty,q1⟩=>?_);obtain⟨h1,h2⟩:=Rn I1 r1 ty;exact⟨T,id,pa,slot,hty,h1,h2,xQ rfl (PySem.evalArgs_none (hm pins s1 σ H1 x [] v [] Q I1 r1 .nil q1))⟩
theorem aaA (pa:PlainAttrs T) (slot:Slot T name id) (hty:typeOf (.builtin id)=pure (.type "method_descriptor")) (hm:lT X id r) (ho:PE X o to) (ha:PA X (e::es) t)
  (hbase:attributeBase o name X.env (eval o X.env)=eval o X.env:=by rfl)
  (hfew:((backTo cpos (starEach (e::es) X.env)).all (λx=>!x.1)&&(backToKw cpos (keywordEach [] X.env)).all (λx=>x.1.isSome)
   && decide ((e::es).length+([]:List Keyword).length+(if([]:List Keyword).isEmpty then 0 else 1)<30))=true:=by rfl)
  (hline:(apos.endLine==cpos.line)=true:=by rfl) (hs:starEach (e::es) X.env=(false,eval e X.env)::starEach es X.env:=by rfl) (hplain:(backTo cpos (starEach es X.env)).any (·.1)=false:=by rfl) :
  PE X (.Call (.Attribute o name apos) (e::es) [] cpos) (Q6 X.K T r to t):=by
 intro pins s σ H Q I h;refine wpAny_Call_method_late hbase hfew hline rfl (aM (ho pins s σ H _ I h) λv s1 ⟨x,H1,I1,r1,ty,q1⟩=>?_);obtain⟨h1,h2⟩:=Rn I1 r1 ty;refine⟨T,id,pa,slot,hty,h1,h2,?_⟩;have hA:=ha cpos pins s1 σ H1 _ I1 q1;rw[hs]at hA ⊢;refine xQ (by show(false||(backTo cpos (starEach es X.env)).any (·.1))=false;rw[hplain]<;>rfl) (tT ?_);exact aM hA λus s2 ⟨vs,H2,I2,r2,q2⟩=>hm pins s2 σ H2 x vs v us Q I2 r1 r2 q2
end
def tQ(X:Cx)(id:String)(r:V->List V->Hp->VK->Prop):Prop:=
 ∀(pins:List (Addr × Obj)) (s:Shared) (σ:St) (H:Hp) (x:V) (xs:List V) (v:Value) (us:List Value) (Q:VK),Inv X pins σ H s->RelV x v->Vals xs us->r x xs H Q ->
  wpAny (model X.prog X.w) X.A (call (.builtin id) (v::us)) (EP X pins σ Q) X.xe s
theorem Vals.one{x:V}{us:List Value}(h:Vals [x] us):∃u,us = [u]/\RelV x u:=by
 cases h with
 |cons r t=>cases t;exact⟨_,rfl,r⟩
theorem Vals.two{x y:V}{us:List Value}(h:Vals [x,y] us):∃u v,us = [u,v]/\RelV x u/\RelV y v:=by
 cases h with
 |cons r t =>
  obtain⟨v,rfl,q⟩:=Vals.one t;exact⟨_,_,rfl,r,q⟩
theorem Vals.zero:∀{us:List Value},Vals [] us->us = []
 |_,.nil=>rfl
theorem Vals.eraseIdx:∀{xs:List V} {us:List Value} (i:Nat),Vals xs us->Vals (xs.eraseIdx i) (us.eraseIdx i)
 |_,_,_,.nil=>.nil
 |_,_,0,.cons _ t=>t
 |_,_,i+1,.cons r t=>.cons r (Vals.eraseIdx i t)
theorem Vals.rep{xs:List V}{us:List Value}(h:Vals xs us):∀k:Nat,Vals (List.replicate k xs).flatten (List.replicate k us).flatten
 |0=>.nil
 |k+1=>by
  rw[tP,tP,xB,xB];exact Vals.append h (Vals.rep h k)
theorem M7{α:Type}:∀(l:List α) (i:Nat),(l.eraseIdx i).length<=l.length
 | [],_=>aW _
 |_::_,0=>qc _
 |_::r,i+1=>Nat.succ_le_succ (M7 r i)
theorem foldl_rep(its:List Value):∀(k:Nat) (acc:List Value),List.foldl (λx1 x2=>x1++x2) acc.toArray (List.replicate k its.toArray)=(acc++(List.replicate k its).flatten).toArray
 |0,acc=>by simp
 |k+1,acc=>by
  have e:acc.toArray++its.toArray=(acc++its).toArray:=by simp
  have e2:(acc++its)++(List.replicate k its).flatten=acc++(List.replicate (k+1) its).flatten:=by
   rw[tP,xB,je]
  rw[<- e2,<- foldl_rep its k (acc++its),<- e,tP,Hi]
section
variable {X:Cx} {pins:List (Addr × Obj)} {σ:St} {H:Hp} {s:Shared} {l b:Addr} {xs ys zs:List V}
theorem Inv.o6{its its':List Value}{n:Nat}{f:Array Value->Array Value}{t':Nat}(I:Inv X pins σ H s)(hH:H l=some (.lst xs))
  (e:s.heap.get? l=some {cls:=.type "list", data:=.seq its.toArray n}) (hf:f its.toArray=its'.toArray) (hv:Vals ys its') (hz:ys.length<=sizeLine) :
  Inv X pins σ (upd H l (.lst ys)) {s with heap:=s.heap.update l (Obj.mapSeq f),toks:=t'}:=by
 have q:=PySem.IsL.update e f;rw[hf]at q;refine I.write (x:=l) (e:=l) (by rw[hH];exact trivial) (.inl rfl) (λb' u hb hu=>(ik s.heap (Obj.mapSeq f) (bQ hb)).trans hu) ⟨_,q⟩ ?_;exact⟨hz,its',_,hv,q⟩
theorem Inv.rM{its:List Value}{t':Nat}(I:Inv X pins σ H s)(hv:Vals ys its)(hz:ys.length<=sizeLine):
  Inv X pins σ (upd H s.heap.objs.size (.lst ys)) {s with heap:=s.heap.push {cls:=.type "list", data:=.seq its.toArray},toks:=t'}:=
 I.laid (λ_ _ q=>aU _ q) (aW _) ⟨hz,its,0,hv,cn _ rfl⟩
theorem Inv.fresh(I:Inv X pins σ H s):H s.heap.objs.size=none:=I.hok.fresh (aW _)
theorem Inv.jy (I:Inv X pins σ H s) (hH:H l=some (.lst xs)):xs.length<=sizeLine/\∃(its:List Value) (n:Nat),Vals xs its/\xs.length=its.length/\s.heap.get? l=some {cls:=.type "list", data:=.seq its.toArray n}:=by
 obtain⟨z,its,n,r,e⟩:=I.hok l _ hH;exact⟨z,its,n,r,r.length,e⟩
theorem NQ{n:Nat}(h:n<=sizeLine):Builtin.List.listTooLong n=false:=by
 unfold Builtin.List.listTooLong;exact cx (by omega)
end
section
variable {X:Cx}
def abd:V->List V->Hp->VK->Prop:=λx vs H Q=>∃l xs y,x = .ref l/\vs = [y]/\H l=some (.lst xs)/\xs.length<sizeLine/\Q .non (upd H l (.lst (xs++[y])))
theorem iT:tQ X "list.append" abd:=by
 intro pins s σ H x vs v us Q I rx rv h;obtain⟨l,xs,y,rfl,rfl,hH,hz,q⟩:=h;cases rx;obtain⟨u,rfl,ru⟩:=rv.one;obtain⟨z,its,n,r,hl,e⟩:=I.jy hH;refine kP jh ⟨_,e,rfl⟩ F.entry_list_append (F.args_list_append_2 _ _) (PySem.list_append l its.toArray n u (by rw[bU];omega)) ⟨e,?_⟩;refine⟨.non,_,I.o6 (its':=its++[u]) hH e (by simp) (r.append (.cons ru .nil)) ?_,rfl,q⟩;rw[cA,p7];omega
def abg:V->List V->Hp->VK->Prop:=λx vs H Q=>∃l b xs zs,x = .ref l/\vs = [.ref b]/\H l=some (.lst xs)/\H b=some (.lst zs)/\xs.length+zs.length<=sizeLine/\Q .non (upd H l (.lst (xs++zs)))
theorem Nt:tQ X "list.extend" abg:=by
 intro pins s σ H x vs v us Q I rx rv h;obtain⟨l,b,xs,zs,rfl,rfl,hH,hB,hz,q⟩:=h;cases rx;obtain⟨u,rfl,ru⟩:=rv.one;cases ru;obtain⟨z,its,n,r,hl,e⟩:=I.jy hH;obtain⟨z2,its2,n2,r2,hl2,e2⟩:=I.jy hB;have hsz:its.toArray.size+its2.toArray.size<=sizeLine:=by rw[bU,bU];omega
 have BX:¬ (!its.toArray.isEmpty&&Builtin.List.listTooLong (its.toArray.size+its2.toArray.size))=true:=by
  rw[NQ hsz,G4];exact Bool.false_ne_true
 refine kP HY ⟨_,e,rfl⟩ F.entry_list_extend (F.args_list_extend_2 _ _)
  (AutoSeq1.list_extend_list_list_0 l its.toArray n b its2.toArray n2 BX (by rw[bU];omega) (by omega)) ⟨e,e2,?_⟩
 refine⟨.non,_,I.o6 (its':=its++its2) hH e (by simp) (r.append r2) ?_,rfl,q⟩;rw[cA];omega
def abw:V->List V->Hp->VK->Prop:=λx vs H Q=>∃l xs i k y,x = .ref l/\vs = [.int i]/\H l=some (.lst xs)/\-(2 ^ 63)<=i/\i<2 ^ 63/\seqIndex? i xs.length=some k/\xs[k]?=some y/\Q y (upd H l (.lst (xs.eraseIdx k)))
theorem YK:tQ X "list.pop" abw:=by
 intro pins s σ H x vs v us Q I rx rv h;obtain⟨l,xs,i,k,y,rfl,rfl,hH,h1,h2,hk,hy,q⟩:=h;cases rx;obtain⟨u,rfl,ru⟩:=rv.one;obtain⟨t,rfl⟩:=ru;obtain⟨z,its,n,r,hl,e⟩:=I.jy hH;obtain⟨w,hw,mM⟩:=r.get hy;refine kP F.slot_list_pop ⟨_,e,rfl⟩ F.entry_list_pop (F.args_list_pop_2 _ _)
  (MeetsSeq.list_pop_at l its.toArray n i t k w (fitsIndex_both h1 h2) (by rw[bU,<- hl];exact hk) (by rw[<- Array.getElem?_toList];exact hw) (by rw[bU];omega)) ⟨e,?_⟩
 refine⟨y,_,I.o6 (its':=its.eraseIdx k) hH e ?_ (r.eraseIdx k) ?_,mM,q⟩
 ·show its.toArray.eraseIdxIfInBounds k=(its.eraseIdx k).toArray
  rw[List.eraseIdxIfInBounds_toArray]
 ·have:=M7 xs k
  omega
def abf:V->List V->Hp->VK->Prop:=λx vs H Q=>∃l xs,x = .ref l/\vs = []/\H l=some (.lst xs)/\Q .non (upd H l (.lst []))
theorem YG:tQ X "list.clear" abf:=by
 intro pins s σ H x vs v us Q I rx rv h;obtain⟨l,xs,rfl,rfl,hH,q⟩:=h;cases rx;have hus:=rv.zero;subst hus;obtain⟨z,its,n,r,hl,e⟩:=I.jy hH;refine kP F.slot_list_clear ⟨_,e,rfl⟩ F.entry_list_clear (F.args_list_clear_1 _) (AutoSeq1.list_clear_list_0 l its.toArray n (by rw[bU];omega)) ⟨e,?_⟩;exact⟨.non,_,I.o6 (its':=[]) (ys:=[]) hH e rfl .nil (eD _),rfl,q⟩
def abe:R2:=λx y H Q=>∃l b xs zs,x = .ref l/\y = .ref b/\H l=some (.lst xs)/\H b=some (.lst zs)/\xs.length+zs.length<=sizeLine/\∀p,H p=none->Q (.ref p) (upd H p (.lst (xs++zs)))
theorem fJ:bY X (binaryOp .Add) abe:=by
 intro pins s σ H x y v u Q I rx ry h;obtain⟨l,b,xs,zs,rfl,rfl,hH,hB,hz,q⟩:=h;cases rx;cases ry;obtain⟨z,its,n,r,hl,e⟩:=I.jy hH;obtain⟨z2,its2,n2,r2,hl2,e2⟩:=I.jy hB;refine PySem.P.add_list e e2 ?_ (by rw[bU,bU];omega);have ea:its.toArray++its2.toArray=(its++its2).toArray:=by simp
 rw[ea];exact⟨.ref _,_,I.rM (t':=s.toks) (r.append r2) (by rw[cA];omega),rfl,q _ I.fresh⟩
def abx:R2:=λx y H Q=>∃l k xs,x = .ref l/\y = .int k/\H l=some (.lst xs)/\-(2 ^ 63)<=k/\k<2 ^ 63/\xs.length*k.toNat<=sizeLine /\
 ∀p,H p=none->Q (.ref p) (upd H p (.lst (List.replicate k.toNat xs).flatten))
theorem len_rep{α:Type}(xs:List α)(k:Nat):(List.replicate k xs).flatten.length=k*xs.length:=by
 induction k with
 |zero=>simp
 |succ k ih=>rw[tP,xB,cA,ih,Nat.succ_mul,Ht]
theorem N8:bY X (binaryOp .Mult) abx:=by
 intro pins s σ H x y v u Q I rx ry h;obtain⟨l,k,xs,rfl,rfl,hH,h1,h2,hz,q⟩:=h;cases rx;obtain⟨t,rfl⟩:=ry;obtain⟨z,its,n,r,hl,e⟩:=I.jy hH;have hlen:its.toArray.size*k.toNat<=sizeLine:=by rw[bU,<- hl];exact hz
 have hcap:¬ its.toArray.size*k.toNat > (2 ^ 63 - 1) / 8:=by
  have:(sizeLine:Nat)<=(2 ^ 63 - 1) / 8:=by decide
  omega
 have hfit:¬ (!Builtin.List.listFitsIndex k)=true:=by
  rw[fitsIndex_both h1 h2];exact Bool.false_ne_true
 have BX:¬ Builtin.List.listTooLong (its.toArray.size*k.toNat)=true:=by
  rw[NQ hlen];exact Bool.false_ne_true
 have hnew:List.foldl (λx1 x2=>x1++x2) #[] (List.replicate (if its.toArray.isEmpty=true then 0 else k.toNat) its.toArray)=(List.replicate k.toNat its).flatten.toArray:=by
  have f0:∀m:Nat,List.foldl (λx1 x2=>x1++x2) #[] (List.replicate m its.toArray)=(List.replicate m its).flatten.toArray:=λm=>by
   have:=foldl_rep its m [];rw[List.nil_append]at this;exact this
  rw[f0];cases its with
  |nil=>simp
  |cons a r'=>rw[if_neg (by simp)]
 refine wpAny_binaryOp_repeat_ref (T:= "list") (U:= "int") (by decide) ⟨_,e,rfl⟩ (λs'=>typeIs_int s' k t) noFill_list_mul F.fills_int_mul F.slot_int_rmul repeat_list F.slot_int_index.lookup
  (kP F.slot_int_rmul (typeIs_int s k t) F.entry_int_rmul (F.args_int_rmul_2 _ _) (int___rmul___int_list k t l its.toArray n)
   ⟨e,rfl,⟨_,e,rfl⟩,kP F.slot_list_mul ⟨_,e,rfl⟩ F.entry_list_mul (F.args_list_mul_2 _ _) (AutoListH.list___mul___list_int_3 l its.toArray n k t hfit hcap BX) ⟨e,?_⟩⟩)
 rw[hnew];exact⟨.ref _,_,I.rM (t':=s.toks) (r.rep k.toNat) (by rw[len_rep,Nat.mul_comm];exact hz),rfl,q _ I.fresh⟩
end
section
variable {prog:Program} {w:World} {A:Around} {E:Value->Shared->Prop} {s:Shared}
end
section
variable {X:Cx}
end
section
variable {κ:Type} [DecidableEq κ]
noncomputable def dC(kvs:List (κ × V))(k:κ):Option V:=(kvs.find? λkv=>decide (kv.1=k)).map (·.2)
noncomputable def putK(kvs:List (κ × V))(k:κ)(v:V):List (κ × V):=
 if(kvs.any λkv=>decide (kv.1=k))=true then kvs.map (λkv=>if kv.1=k then(kv.1,v)else kv)else kvs++[(k,v)]
theorem lK{p:κ × V}{r:List (κ × V)}{k:κ}(e:p.1=k):dC (p::r) k=some p.2:=by simp[dC,pV,e]
theorem kE{p:κ × V}{r:List (κ × V)}{k:κ}(e:¬ p.1=k):dC (p::r) k=dC r k:=by simp[dC,pV,e]
theorem GQ(k:κ):∀kvs:List (κ × V),(kvs.any λkv=>decide (kv.1=k))=(dC kvs k).isSome
 | []=>rfl
 |p::r=>by
  rw[pT]
  by_cases e:p.1=k
  ·simp only[lK e,cy e,Bool.true_or,Option.isSome_some]
  ·rw[kE e,cx e,Bool.false_or];exact GQ k r
theorem Ru(k j:κ)(y:V):∀kvs:List (κ × V),dC kvs k=none->dC (kvs++[(k,y)]) j=if j=k then some y else dC kvs j
 | [],_=>by
  by_cases e:k=j
  ·rw[if_pos e.symm];exact lK (p:=(k,y)) e
  ·rw[if_neg (λz=>e z.symm)];exact kE (p:=(k,y)) e
 |p::r,hn=>by
  rw[List.cons_append];have hk:¬ p.1=k:=λz=>by rw[lK z]at hn;cases hn
  rw[kE hk]at hn;have ih:=Ru k j y r hn
  by_cases e:p.1=j
  ·rw[lK e,lK e,if_neg (λz=>hk (e.trans z))]
  ·rw[kE e,kE e,ih]
theorem M8(kvs:List (κ × V))(k:κ)(v:V):(putK kvs k v).length<=kvs.length+1:=by
 unfold putK
 split
 ·rw[au];omega
 ·rw[cA,jO,Hk];omega
theorem aa_{kvs:List (κ × V)}{k:κ}(v:V)(h:dC kvs k=none):putK kvs k v=kvs++[(k,v)]:=by
 unfold putK;rw[GQ,h];exact if_neg (by decide)
theorem fZ.Xw{o:Option V}{u:Option Value}(r:fZ o u):o.isSome=u.isSome:=by
 cases o with
 |none=>cases u with
  |none=>rfl
  |some _=>exact(show False from r).elim
 |some _=>cases u with
  |none=>exact(show False from r).elim
  |some _=>rfl
theorem fZ.getD{o:Option V}{u:Option Value}{d:V}{d':Value}(r:fZ o u)(rd:RelV d d'):RelV (o.getD d) (u.getD d'):=by
 cases o with
 |none=>cases u with
  |none=>exact rd
  |some _=>exact(show False from r).elim
 |some _=>cases u with
  |none=>exact(show False from r).elim
  |some _=>exact r
theorem KV.val{kvs:List (κ × V)}{vs:List (κ × Value)}(r:KV kvs vs)(k:κ):fZ (dC kvs k) (valueAt vs k):=by
 unfold KV at r
 induction r with
 |nil=>exact True.intro
 | @cons p q ps qs h t ih =>
  obtain⟨h1,h2⟩:=h
  by_cases e:p.1=k
  ·have e':q.1=k:=h1.symm.trans e
   have b:valueAt (q::qs) k=some q.2:=by simp[valueAt,pV,e']
   rw[lK e,b];exact h2
  ·have e':¬ q.1=k:=λz=>e (h1.trans z)
   have b:valueAt (q::qs) k=valueAt qs k:=by simp[valueAt,pV,e']
   rw[kE e,b];exact ih
theorem KV.any{kvs:List (κ × V)}{vs:List (κ × Value)}(r:KV kvs vs)(k:κ):(kvs.any λkv=>decide (kv.1=k))=vs.any λkv=>decide (kv.1=k):=by
 unfold KV at r
 induction r with
 |nil=>rfl
 |cons h t ih=>rw[pT,pT,ih,h.1]
theorem KV.repl{kvs:List (κ × V)}{vs:List (κ × Value)}(r:KV kvs vs)(k:κ){y:V}{u:Value}(ry:RelV y u):
  KV (kvs.map λkv=>if kv.1=k then(kv.1,y)else kv) (vs.map λkv=>if kv.1=k then(kv.1,u)else kv):=by
 unfold KV at r ⊢
 induction r with
 |nil=>exact .nil
 | @cons p q ps qs h t ih =>
  rw[cX,cX];refine .cons ?_ ih;obtain⟨h1,h2⟩:=h
  by_cases e:p.1=k
  ·rw[if_pos e,if_pos (h1.symm.trans e)];exact⟨h1,ry⟩
  ·rw[if_neg e,if_neg (λz=>e (h1.trans z))];exact⟨h1,h2⟩
theorem KV.put{kvs:List (κ × V)}{vs:List (κ × Value)}(r:KV kvs vs)(k:κ){y:V}{u:Value}(ry:RelV y u):KV (putK kvs k y) (stored vs k u):=by
 unfold putK stored;rw[r.any k]
 by_cases e:(vs.any λkv=>decide (kv.1=k))=true
 ·rw[if_pos e,if_pos e];exact r.repl k ry
 ·rw[if_neg e,if_neg e];exact xY r ⟨rfl,ry⟩
theorem KV.length{kvs:List (κ × V)}{vs:List (κ × Value)}(r:KV kvs vs):kvs.length=vs.length:=dh r
end
theorem Cq{P:Program}{w:World}{k:Key}{u:Value}(r:RelV (kV k) u):(fV P w).is k u=true:=by
 cases k with
 |inl i=>obtain⟨t,e⟩:=(show ∃t,u=Value.int i t from r);subst e;exact YD P w i t
 |inr x=>obtain⟨t,e⟩:=(show ∃t,u=Value.str x t from r);subst e;exact YF P w x t
theorem XH{P:Program}{w:World}{k:Key}{v:V}{u:Value}(q:Mw k v)(r:RelV v u):(fV P w).is k u=true:=by
 rcases q with e|⟨b,e,ek⟩
 ·subst e;exact Cq r
 ·subst e;subst ek;cases(show u=Value.bool b from r);exact XM b
theorem Mr{P:Program}{w:World}:∀{ks:List Key} {ws:List V} {us:List Value},Cr ks ws->Vals ws us->ItemsAre (fV P w) ks us
 |_,_,_,.nil,.nil=>.nil
 |_,_,_,.cons q t,.cons h t'=>.cons (XH q h) (Mr t t')
abbrev KT (H:Hp):List (List Key × V)->List (List Key × Addr × Value)->Prop:=Paired λp q=>p.1=q.1/\jT H q.2.1 p.1/\RelV p.2 q.2.2
theorem KT.val{H:Hp}{kvs:List (List Key × V)}{xs:List (List Key × Addr × Value)}(r:KT H kvs xs)(k:List Key):fZ (dC kvs k) ((atKey xs k).map (·.2)):=by
 induction r with
 |nil=>exact True.intro
 | @cons p q ps qs h t ih =>
  obtain⟨h1,_,h2⟩:=h
  by_cases e:p.1=k
  ·have e':q.1=k:=h1.symm.trans e
   have b:atKey (q::qs) k=some q.2:=by simp[atKey,pV,e']
   rw[lK e,b];exact h2
  ·have e':¬ q.1=k:=λz=>e (h1.trans z)
   have b:atKey (q::qs) k=atKey qs k:=by simp[atKey,pV,e']
   rw[kE e,b];exact ih
theorem KT.repl{H:Hp}{kvs:List (List Key × V)}{xs:List (List Key × Addr × Value)}(r:KT H kvs xs)(k:List Key){y:V}{u:Value}(ry:RelV y u):
  KT H (kvs.map λkv=>if kv.1=k then(kv.1,y)else kv) (xs.map (putAt k u)):=by
 induction r with
 |nil=>exact .nil
 | @cons p q ps qs h t ih =>
  rw[cX,cX];refine .cons ?_ ih;obtain⟨h1,h2,h3⟩:=h;unfold putAt
  by_cases e:p.1=k
  ·rw[if_pos e,if_pos (h1.symm.trans e)];exact⟨h1,h2,ry⟩
  ·rw[if_neg e,if_neg (λz=>e (h1.trans z))];exact⟨h1,h2,h3⟩
theorem KT.put{H:Hp}{kvs:List (List Key × V)}{xs:List (List Key × Addr × Value)}(r:KT H kvs xs)(k:List Key){b:Addr}{y:V}{u:Value}(hb:jT H b k)(ry:RelV y u):KT H (putK kvs k y) (storedH xs k b u):=by
 have e:(kvs.any λkv=>decide (kv.1=k))=(atKey xs k).isSome:=by
  rw[GQ,(r.val k).Xw,Option.isSome_map]
 unfold putK storedH;rw[e]
 by_cases q:(atKey xs k).isSome=true
 ·rw[if_pos q,if_pos q];exact r.repl k ry
 ·rw[if_neg q,if_neg q];exact xY r ⟨rfl,hb,ry⟩
theorem KT.keeps{H H':Hp}{kvs:List (List Key × V)}{xs:List (List Key × Addr × Value)}(r:KT H kvs xs)(ht:∀b ys,H b=some (.tup ys)->H' b=some (.tup ys)):KT H' kvs xs:=
 Paired.d_ r λ_ _ z=>⟨z.1,(let⟨ws,k1,k2⟩:=z.2.1;⟨ws,k1,ht _ _ k2⟩),z.2.2⟩
section
variable {P:Program} {w:World} {H:Hp} {h:Heap} {a:Addr}
theorem O8{u:HO}(ok:bM P w H h)(e:Rd H a u):bC P w H h a u:=e.ok ok
theorem zo{kvs:List (Key × V)}(ok:bM P w H h)(e:Rd H a (.dK kvs)):kvs.length<=sizeLine/\(a==sysModules)=false/\∃vs,KV kvs vs/\h.DictOf (fV P w) a vs:=
 show bC P w H h a (.dK kvs)from O8 ok e
theorem T6{kvs:List (Key × V)}(ok:bM P w H h)(e:H a=some (.dK kvs)):kvs.length<=sizeLine/\(a==sysModules)=false/\∃vs,KV kvs vs/\h.DictOf (fV P w) a vs:=zo ok (.inl e)
theorem Cu{ks:List Key}(ok:bM P w H h)(e:jT H a ks):(tupleKind (fV P w)).is h ks a:=by
 obtain⟨ws,q,e⟩:=e;obtain⟨_,its,r,⟨o,h1,h2,n,h3⟩,_⟩:=(show bC P w H h a (.tup ws)from ok a _ e);exact⟨o,its.toArray,n,h1,h2,h3,by simpa using Mr q r⟩
theorem zq{kvs:List (List Key × V)}(ok:bM P w H h)(e:Rd H a (.dT kvs)):kvs.length<=sizeLine/\(a==sysModules)=false/\∃xs,KT H kvs xs/\h.DictOfH (tupleKind (fV P w)) a xs:=by
 obtain⟨z,y,xs,r,o,es,ep,h1,h2,h3,h4,h5⟩:=(show bC P w H h a (.dT kvs)from O8 ok e);refine⟨z,y,xs,r,o,es,ep,h1,h2,h3,h4,λx hx=>?_,h5⟩;have all:∀{l:List (List Key × V)} {m:List (List Key × Addr × Value)},KT H l m->∀x∈m,(tupleKind (fV P w)).is h x.1 x.2.1:=by
  intro l m q
  induction q with
  |nil=>intro x hx;exact nomatch hx
  | @cons p q ps qs hq t ih =>
   intro x hx
   rcases bx.mp hx with e|hx
   ·subst e
    exact Cu ok (by rw[<- hq.1];exact hq.2.1)
   ·exact ih x hx
 exact all r x hx
theorem T8{kvs:List (List Key × V)}(ok:bM P w H h)(e:H a=some (.dT kvs)):kvs.length<=sizeLine/\(a==sysModules)=false/\∃xs,KT H kvs xs/\h.DictOfH (tupleKind (fV P w)) a xs:=zq ok (.inl e)
end
def pP(H:Hp)(a:Addr)(y:V)(r:Option V):Prop:=
 (∃kvs k,Rd H a (.dK kvs)/\y=kV k/\r=dC kvs k)\/∃kvs k b,Rd H a (.dT kvs)/\y = .ref b/\jT H b k/\r=dC kvs k
def pQ(H:Hp)(a:Addr)(y v:V)(H':Hp):Prop:=
 (∃kvs k,H a=some (.dK kvs)/\y=kV k/\kvs.length<sizeLine/\H'=upd H a (.dK (putK kvs k v))) \/
 ∃kvs k b,H a=some (.dT kvs)/\y = .ref b/\jT H b k/\kvs.length<sizeLine/\H'=upd H a (.dT (putK kvs k v))
theorem pP.t{H:Hp}{a b:Addr}{kvs:List (List Key × V)}{k:List Key}(e:H a=some (.dT kvs))(eb:jT H b k):pP H a (.ref b) (dC kvs k):=.inr ⟨kvs,k,b,.inl e,rfl,eb,rfl⟩
theorem pQ.t{H:Hp}{a b:Addr}{kvs:List (List Key × V)}{k:List Key}{v:V}(e:H a=some (.dT kvs))(eb:jT H b k)(hl:kvs.length<sizeLine):pQ H a (.ref b) v (upd H a (.dT (putK kvs k v))):=.inr ⟨kvs,k,b,e,rfl,eb,hl,rfl⟩
section
variable {X:Cx} {pins:List (Addr × Obj)} {σ:St} {H:Hp} {s:Shared} {a:Addr} {y v:V} {u r:Value} {o:Option V} {A:Around} {E:Value->Shared->Prop}
theorem Inv.big(I:Inv X pins σ H s):sysModules<s.heap.objs.size:=by
 have h:mainGlobals<s.heap.objs.size:=(I.mod.glob.keeps I.bk).lt;exact Hw (by decide) h
theorem JF{h':Heap}{t':Nat}{ob:HO}(I:Inv X pins σ H s)(mu:p_ (H a))(hs:Heap.SameBut a s.heap h')(he:∃q,h'.get? a=some q)(new:bC X.prog X.w (upd H a ob) h' a ob):
  Inv X pins σ (upd H a ob) {s with heap:=h',toks:=t'}:=
 I.write (x:=a) (e:=a) mu (.inl rfl) (λb q hb z=>(hs.2 b hb).trans z) he new
theorem T4{P:Program}{w:World}{H':Hp}{h':Heap}{kvs:List (Key × V)}{vs:List (Key × Value)}(z:kvs.length<=sizeLine)(hd:(a==sysModules)=false)(rel:KV kvs vs)(dd:h'.DictOf (fV P w) a vs):bC P w H' h' a (.dK kvs):=⟨z,hd,vs,rel,dd⟩
theorem T1{H':Hp}{Q:Unit->Shared->Prop}(hu:A.units+1<cLine)(I:Inv X pins σ H s)(g:pQ H a y v H')(ry:RelV y u)(rv:RelV v r)(h:∀s',Inv X pins σ H' s'->Q () s'):wpAny (model X.prog X.w) A (setItem (.ref a) u r) Q E s:=by
 rcases g with⟨kvs,k,e,ey,l,eH⟩|⟨kvs,k,b,e,ey,eb,l,eH⟩
 ·subst ey eH
  obtain⟨z,hd,vs,rel,dd⟩:=T6 I.hok e;have hz:vs.length<=sizeLine:=by rw[<- rel.length];exact z
  have hl:(putK kvs k v).length<=sizeLine:=by have:=M8 kvs k v;omega
  refine wpAny_setItem_pairs (hsz:=hz) (Cq ry) dd λh' qG hs=>h _ ?_;have he:∃q,h'.get? a=some q:=let⟨q,_,_,hq,_⟩:=qG;⟨q,hq⟩
  exact JF I (by rw[e];exact True.intro) hs he (T4 hl hd (rel.put k rv) qG)
 ·subst ey eH
  cases(show u=Value.ref b from ry);obtain⟨z,hd,xs,rel,dd⟩:=T8 I.hok e;have hz:xs.length<=sizeLine:=by rw[<- dh rel];exact z
  have hl:(putK kvs k v).length<=sizeLine:=by have:=M8 kvs k v;omega
  refine wpAny_setItem_heap (hsz:=hz) (tupleKind_room_in1 hu) (Cu I.hok eb) dd λh' qG hs=>h _ ?_;obtain⟨q,es,ep,hq,h2,h3,h4,_,h5⟩:=qG;refine JF I (by rw[e];exact True.intro) hs ⟨q,hq⟩ ⟨hl,hd,_,(rel.put k eb rv).keeps λc ys ec=>?_,q,es,ep,hq,h2,h3,h4,h5⟩;rw[aG (gi ec e (λz=>nomatch z))];exact ec
end
section
variable {X:Cx} {pins:List (Addr × Obj)} {σ:St} {H:Hp} {s:Shared} {a:Addr} {kvs:List (Key × V)} {k:Key} {u:Value} {A:Around} {E:Value->Shared->Prop}
end
def abO(td ty tv:TE):TS:=λD σ H=>tv σ H λv H1=>td σ H1 λx H2=>ty σ H2 λy H3=>∃a H4,x = .ref a/\pQ H3 a y v H4/\D.nx σ H4
section
variable {X:Cx} {o i e value:Expr} {pos pos' tpos:Pos} {td ty tv:TE}
theorem aa2(hu:X.A.units+1<cLine)(ho:PE X o td)(hi:PE X i ty)(hv:PE X value tv)(hs:swapsWith value (some (.Subscript o i pos')) pos.line X.env=pure false):PS X (.Assign [.Subscript o i pos'] value pos) (abO td ty tv):=by
 intro pins s σ H D I h;refine wpAny_Assign_Subscript (aM (hv pins s σ H _ I h) λr s1 ⟨v,H1,I1,rv,q1⟩=>aM (ho pins s1 σ H1 _ I1 q1) λu s2 ⟨x,H2,I2,rx,q2⟩=>aM (hi pins s2 σ H2 _ I2 q2) λiv s3 ⟨y,H3,I3,ry,a,H4,ex,g,q3⟩=>?_) hs;subst ex;obtain rfl:u=Value.ref a:=rx;exact T1 hu I3 g ry rv λs4 I4=>⟨σ,H4,I4,q3⟩
end
theorem T7 {P:Program} {w:World} {H:Hp} (h:Heap) (hb:sysModules<h.objs.size):bC P w H (h.push {cls:=.type "dict", data:=.dict #[]}) h.objs.size (.dT []):=
 ⟨eD _,jm.mpr (bQ (bE hb)),[],.nil,_,#[],0,cn _ rfl,⟨rfl,rfl,rfl⟩,rfl,rfl,xD⟩
def acn:TE:=λ_ H Q=>∀p,H p=none->Q (.ref p) (upd H p (.dT []))
section
variable {X:Cx} {pos:Pos}
theorem aaI:PE X (.Dict [] [] pos) acn:=λpins s σ H Q I h =>
 wpAny_Dict_empty ⟨.ref s.heap.objs.size,_,I.laid (a:=s.heap.objs.size) (o:=.dT []) (t':=s.toks) (λ_ _ q=>aU _ q) (aW _) (T7 s.heap I.big),rfl,h _ (I.hok.fresh (aW _))⟩
end
structure M1 (X:Cx) (o:Expr) (m:Str) (apos:Pos) (e:Expr) (cpos:Pos):Prop where
 base:attributeBase o m X.env (eval o X.env)=eval o X.env
 few:((backTo cpos (starEach [e] X.env)).all (λx=>!x.1)&&(backToKw cpos (keywordEach [] X.env)).all (λx=>x.1.isSome)
  && decide (([e]:List Expr).length+([]:List Keyword).length+(if([]:List Keyword).isEmpty then 0 else 1)<30))=true
 line:(apos.endLine==cpos.line)=true
 trees:backTo cpos (starEach [e] X.env) = [(false,eval e X.env)]
structure M2 (X:Cx) (o:Expr) (m:Str) (apos:Pos) (e f:Expr) (cpos:Pos):Prop where
 base:attributeBase o m X.env (eval o X.env)=eval o X.env
 few:((backTo cpos (starEach [e,f] X.env)).all (λx=>!x.1)&&(backToKw cpos (keywordEach [] X.env)).all (λx=>x.1.isSome)
  && decide (([e,f]:List Expr).length+([]:List Keyword).length+(if([]:List Keyword).isEmpty then 0 else 1)<30))=true
 line:(apos.endLine==cpos.line)=true
 trees:backTo cpos (starEach [e,f] X.env) = [(false,eval e X.env),(false,eval f X.env)]
def Hd(H:Hp)(a:Addr):Prop:=(∃kvs,Rd H a (.dK kvs))\/∃kvs,Rd H a (.dT kvs)
theorem Xt{X:Cx}{pins:List (Addr × Obj)}{σ:St}{H:Hp}{s:Shared}{a:Addr}(I:Inv X pins σ H s)(d:Hd H a):
  s.TypeIs (.ref a) "dict" /\ (∀b,Value.ref a = .ref b->∃ob,s.heap.get? b=some ob/\ob.dict=none)/\(a==sysModules)=false:=by
 rcases d with⟨kvs,e⟩|⟨kvs,e⟩
 ·obtain⟨_,hd,vs,_,dd⟩:=zo I.hok e
  refine⟨dd.typeIs,λb q=>?_,hd⟩;cases q;obtain⟨ob,_,_,h1,h2,_⟩:=dd;exact⟨ob,h1,h2.2.1⟩
 ·obtain⟨_,hd,xs,_,dd⟩:=zq I.hok e
  refine⟨dd.typeIs,λb q=>?_,hd⟩;cases q;obtain⟨ob,_,_,h1,h2,_⟩:=dd;exact⟨ob,h1,h2.2.1⟩
section
variable {X:Cx} {pins:List (Addr × Obj)} {σ:St} {H:Hp} {s:Shared} {a:Addr} {y d:V} {u r:Value} {o:Option V} {A:Around} {E:Value->Shared->Prop}
theorem TY{Q:Value->Shared->Prop}(hu:A.units+1<cLine)(I:Inv X pins σ H s)(g:pP H a y o)(ry:RelV y u)(h:∀w' s',Inv X pins σ H s'->RelV (o.getD .non) w'->Q w' s'):
  wpAny (model X.prog X.w) A (call (.builtin "dict.get") [.ref a,u]) Q E s:=by
 rcases g with⟨kvs,k,e,ey,l⟩|⟨kvs,k,b,e,ey,eb,l⟩
 ·subst ey
  obtain⟨z,hd,vs,rel,dd⟩:=zo I.hok e;refine call_meetsIn HX dd.typeIs R9 (R7 _ _) (meets_dict_get (fV X.prog X.w) a (Cq ry) hd) ⟨_,dd.mapOf,h _ _ (I.tok _) ?_⟩;rw[l];exact(rel.val k).getD rfl
 ·subst ey
  cases(show u=Value.ref b from ry);obtain⟨z,hd,xs,rel,dd⟩:=zq I.hok e;refine call_meetsIn HX dd.typeIs R9 (R7 _ _) (meetsH_dict_get (tupleKind (fV X.prog X.w)) a b hd) ⟨tupleKind_room_in1 hu,k,xs,Cu I.hok eb,dd,h _ _ (I.tok _) ?_⟩;rw[l];exact(rel.val k).getD rfl
end
def acm(td ty:TE):TE:=λσ H Q=>td σ H λx H1=>∃a,x = .ref a/\Hd H1 a/\ty σ H1 λy H2=>∃o,pP H2 a y o/\Q (o.getD .non) H2
section
variable {X:Cx} {o e f:Expr} {apos cpos:Pos} {td ty tx:TE}
theorem aaH (hu:X.A.units+1<cLine) (ho:PE X o td) (he:PE X e ty) (m:M1 X o "get" apos e cpos):PE X (.Call (.Attribute o "get" apos) [e] [] cpos) (acm td ty):=by
 intro pins s σ H Q I h;refine wpAny_Call_method m.base m.few m.line PySem.F.plainAttrs_dict HX PySem.F.type_dict_get (aM (ho pins s σ H _ I h) λu s1 ⟨x,H1,I1,rx,a,ex,d,q1⟩=>?_);subst ex;obtain rfl:u=Value.ref a:=rx;obtain⟨t1,t2,_⟩:=Xt I1 d;refine⟨t1,t2,?_⟩;rw[m.trees];refine xQ rfl (tT (HJ (aM (he pins s1 σ H1 _ I1 q1) λiv s2 ⟨y,H2,I2,ry,ov,g,q2⟩=>HN ?_)));exact TY hu I2 g ry λw' s3 I3 mM=>⟨_,H2,I3,mM,q2⟩
end
section
variable {X:Cx} {pins:List (Addr × Obj)} {σ:St} {H:Hp} {s:Shared} {a:Addr} {kvs:List (Key × V)} {A:Around} {E:Value->Shared->Prop}
end
section
variable {X:Cx} {pins:List (Addr × Obj)} {σ:St} {H:Hp} {s:Shared} {a:Addr} {y:V} {u:Value} {A:Around} {E:Value->Shared->Prop}
end
end L2
namespace G3
open PySem PySem.W PySem.Calls PyProof.Rows
theorem Xo{P:Params}{h:Heap}:∀(ns:List Int) (vs:List Value),WellAll P h vs (ns.map WData.int)->IntsAre vs ns:=by
 intro ns
 induction ns with
 |nil =>
  intro vs w;rw[tM]at w;cases w;exact .nil
 |cons n ns ih =>
  intro vs w;rw[cX]at w;cases w with
  |cons a b =>
   cases a;exact .cons _ _ (ih _ b)
theorem abQ{l:OpenLaw}{n:Nat}(hn:l.most=some n){P:Params}{h:Heap}{args:List WData}{vals:List Value}(hpre:l.row.toRowW.claim.pre args=true)(hwl:WellAll P h vals args):
  ∃a vs ns,vals = [Value.ref a]/\args = [WData.list (ns.map WData.int)]/\h.get? a=some {cls:=.type "list", data:=.seq vs.toArray}/\IntsAre vs ns/\ns.length<=n:=by
 have hsh:WShape.hasAll [] args [.list .int]=true:=(pre_splitW hpre).1;have hc:l.pre.holds [] {args:=args}=true:=(pre_splitW hpre).2;obtain⟨d,r,rfl,h1,h2⟩:=hasAllW_cons hsh;obtain rfl:=hasAllW_nil h2;obtain⟨xs,rfl,h3⟩:=hasW_list h1;obtain⟨ns,rfl⟩:=items_int h3;have hlen:ns.length<=n:=by
  unfold OpenLaw.pre at hc;have h4:(WTm.not (.lt (.lit (.int (n:Int))) (.len (.arg 0)))).holds [] {args:=[.list (ns.map .int)]}=true:=by
   have h4:=(holds_andW hc).1;rw[hn]at h4;exact h4
  have h5:=condW_of h4 (w_not (w_lt w_lit (w_len_list (w_arg rfl))));rw[au]at h5;refine qa λq=>?_;have q':(n:Int)<((ns.length:Nat):Int):=by omega
  first
   | (rw[cy q']at h5;exact absurd h5 (by decide))
   | (simp at h5;omega)
 cases hwl with
 |cons w1 w2 =>
  cases w2;cases w1 with
  |list ho hall=>exact⟨_,_,ns,rfl,rfl,ho,Xo ns _ hall,hlen⟩
theorem aa1(l:OpenLaw)(args:List WData):l.row.toRowW.claim.post args (.bool true) args=true:=
 postW_of (r:=l.row.toRowW) (X:=(true==true))
  (show WShape.has [] (.bool true) .bool=true by first|rfl|decide|simp[WShape.has,WShape.arms,WShape.armsAll])
  (show(WTm.eq .res (.lit (.bool true))).value [] {args:=args,res:=some (.bool true),after:=args}=some (.bool (true==true))from w_eq_bool (w_res rfl) w_lit) rfl
theorem Sy{l:OpenLaw}{n:Nat}{q:Program}{loose:List Str}{XP:(Str->Option Value)->Heap->Prop}{YP:World->Heap->Prop}{d:DefRec}(hn:l.most=some n)(hdf:d.params.defaults = [])
  (call:∀(w:World) (s₀ s₁:Shared) (mg mb:Str->Option Value) (fa:Addr) (o:Obj) (pm cd doc:Value) (a:Addr) (vs:List Value) (ns:List Int),
   Ground q loose [] XP w s₀ mg mb s₁.heap->YP w s₁.heap ->
   s₁.heap.get? fa=some o->o.data = .func (docDef d.name d.params d.body d.scope pm cd doc)->s₁.heap.CodeRec cd d.name->mg d.name=some (.ref fa) ->
   s₁.heap.get? a=some {cls:=.type "list", data:=.seq vs.toArray}->IntsAre vs ns->ns.length<=n->s₁.gens = #[] ->
   codeAny (model l.prog w) callerA (.call (.ref fa) ⟨[.ref a],[]⟩) (λr s'=>r = .ok (.ret (.bool true))/\OldK s₁.heap s'.heap/\s'.os=s₁.os/\AllBare s'.gens) s₁) :
  WalkO q loose XP YP l.row.toRowW d [] (λf vs=>PySem.call f vs):=by
 intro w s₀ s₁ mg mb G Y fa o pm cd doc dV kV ho hd hcd hD hmg hg args vals as hpre hlay hrd hwl hlo;obtain rfl:dV = .none:=Dflts.none hD hdf;obtain rfl:kV = .none:=Dflts.noKw hD;obtain⟨a,vs,ns,rfl,rfl,hobj,hints,hlen⟩:=abQ hn hpre hwl;refine enter_call (jR (call w s₀ s₁ mg mb fa o pm cd doc a vs ns G Y ho (fd_plain hd) hcd hmg hobj hints hlen hg) λr s' hq=>?_);obtain⟨rfl,h2,h3,h4⟩:=hq;exact⟨.inl ⟨.bool true,.bool true,[],rfl,λ_=>rfl,.bool true,aa1 l _,λ_=>⟨List.Pairwise.nil,λ_ hm=>(nomatch hm)⟩⟩,h2,h3,h4⟩
section
variable {prog:Program} {w:World} {A:Around} {E:Value->Shared->Prop} {s:Shared} {K:Frag}
end
end G3
namespace L2
open PySem PySem.Spec PyProof.Rows
theorem GR:∀{vs:List Value} {ns:List Int},IntsAre vs ns->Vals (ns.map V.int) vs
 |_,_,.nil=>.nil
 |_,_,.cons n t h=>.cons ⟨t,rfl⟩ (GR h)
noncomputable def inClass(s:Stmt)(j:Nat):Stmt:=match s with
 |.ClassDef _ _ _ body _ _ _ _ _ _ _=>body.getD j (.Pass ⟨0,0,0,0⟩)
 |_=>.Pass ⟨0,0,0,0⟩
noncomputable def iL(s:Stmt):Arguments:=match s with
 |.FunctionDef _ a _ _ _ _ _ _ _ _=>a
 |_=>{posonlyargs:=[],args:=[],vararg:=none,kwonlyargs:=[],kw_defaults:=[],kwarg:=none,defaults:=[]}
noncomputable def gE(s:Stmt):List Stmt:=match s with
 |.FunctionDef _ _ b _ _ _ _ _ _ _=>b
 |_=>[]
noncomputable def aB(s:Stmt):Scope:=match s with
 |.FunctionDef _ _ _ _ _ _ sc _ _ _=>sc
 |_=>{kind:=.function,names:=[],isGenerator:=false,isCoroutine:=false}
abbrev aX:gw:=λ_ _ _ _ _ _=>False
abbrev E0:XK:=λ_ _ _=>False
theorem Dk{X:Cx}:Passes aX X E0:=λ_ _ _ _ _ _ _ h=>h.elim
structure aS (K:W.Frag) (x qual:Str) (st:Stmt) (f:Addr) (fd:FuncData):Prop where
 ex:∃(oc:Value) (od:Option Addr) (kV doc pm:Value) (an:Option Addr) (cdv ct:Value) (osl:Array (Option Value)),
  fd=W.fnOf x qual (iL st) (gE st) (aB st) .none kV doc pm an cdv ct/\K.lookup f=some ⟨oc,od,.func fd,osl⟩/\W.codeIn K cdv qual=true
 kp:W.keepIn K (.ref f)=true
section
variable {P:Program} {w:World} {K:W.Frag} {mg:Str->Option Value} {base:Heap}
theorem aS.ok{x qual:Str}{st:Stmt}{f:Addr}{fd:FuncData}{N ps:List Str}{k:Nat}{sp:Sp}(F:aS K x qual st f fd)(S:bh N ps (aB st))(len:∀vs H Q E,sp vs H Q E->vs.length=ps.length)(hbody:∀(cdv:Value) (A:Around) (outer:List Env) (s:Shared) (H:Hp) (vs:List V) (Q:VK) (E:XK),bR k (A.deeper (envOfC qual (aB st) s.heap.objs.size f cdv))->sp vs H Q E->∃t,fA (cG aX P w K mg base N qual (aB st) f cdv A outer s H E).vo (gE st) t/\t {nx:=λ_ H'=>Q .non H',rt:=Q} (start N vs) H):aO P w K mg base aX (k+1) f fd ps sp:=by
 obtain⟨oc,od,kV,doc,pm,an,cdv,ct,osl,rfl,lk,hcd⟩:=F.ex;refine Bf lk hcd S len λA outer s H vs Q E hr hsp=>?_;obtain⟨t,h,q⟩:=hbody cdv A outer s H vs Q E hr hsp;exact⟨t,h.vo,q⟩
theorem aS.binds{x qual:Str}{st:Stmt}{f:Addr}{fd:FuncData}{ps:List Str}(F:aS K x qual st f fd)
  (h:∀(kV doc pm:Value) (an:Option Addr) (cdv ct:Value) (us:List Value),us.length=ps.length->bindArgs (W.fnOf x qual (iL st) (gE st) (aB st) .none kV doc pm an cdv ct) ⟨us,[]⟩=pure (ps.zip us)):Binds K fd ps []:=by
 obtain⟨oc,od,kV,doc,pm,an,cdv,ct,osl,rfl,lk,hcd⟩:=F.ex;exact .all (h kV doc pm an cdv ct)
theorem Bk{x qual:Str}{st:Stmt}{f:Addr}{oc:Value}{od an:Option Addr}{osl:Array (Option Value)}{kV doc pm cdv ct:Value}(l:K.lookup f=some ⟨oc,od,.func (W.fnOf x qual (iL st) (gE st) (aB st) .none kV doc pm an cdv ct),osl⟩)
  (c:W.codeIn K cdv qual=true) (k:W.keepIn K (.ref f)=true):aS K x qual st f (W.fnOf x qual (iL st) (gE st) (aB st) .none kV doc pm an cdv ct):=⟨⟨oc,od,kV,doc,pm,an,cdv,ct,osl,rfl,l,c⟩,k⟩
end
theorem LW{A:Around}{k:Nat}(hr:bR k A):A.units+1<cLine:=nB (Nat.add_le_add_left (by decide:1<=64) _) hr.units
theorem QS{n:Nat}(h:n<=1000):n<sizeLine:=nB h (by decide)
section
variable {X:Cx}
theorem pv (i:Nat) {x:Str} {pos:Pos} (hN:X.N[i]?=some x:=by rfl) (hv:qp X.env.scope x:=by first|exact Or.inl rfl|exact Or.inr (Or.inl rfl)|exact Or.inr (Or.inr rfl)) (hd:(x==("__debug__" : Str))=false:=by decide)
  (hcd:(x==("__classdict__" : Str))=false:=by decide):PE X (.Name x pos) (Rg i):=aaQ hN hv hd hcd
end
theorem bA{A B:Prop}(h:B):if false=true then A else B:=by
 rw[if_neg Bool.false_ne_true];exact h
theorem eR{A B:Prop}(h:A):if true=true then A else B:=by
 rw[if_pos rfl];exact h
theorem bq{c A B:Prop}[Decidable c](h1:c->A)(h2:¬ c->B):if c then A else B:=by
 by_cases h:c
 ·rw[if_pos h]
  exact h1 h
 ·rw[if_neg h]
  exact h2 h
def Same(H H':Hp):Prop:=∀b o,H b=some o->H' b=some o
theorem Same.refl(H:Hp):Same H H:=λ_ _ h=>h
theorem Same.trans{H H1 H2:Hp}(a:Same H H1)(b:Same H1 H2):Same H H2:=λc o h=>b c o (a c o h)
theorem Same.free{H H':Hp}(e:Same H H'){l:Addr}(h:H' l=Option.none):H l=Option.none:=by
 cases q:H l with
 |none=>rfl
 |some o =>
  rw[e l o q]at h;cases h
theorem Same.seq{K:W.Frag}{H H':Hp}{a:Addr}{xs:List V}(e:Same H H')(h:ag K H a xs):ag K H' a xs:=by
 rcases h with(h|⟨o,h⟩)|h
 ·exact .inl (.inl (e _ _ h))
 ·exact .inl (.inr ⟨o,e _ _ h⟩)
 ·exact .inr h
section
variable {κ:Type} [DecidableEq κ]
end
noncomputable def cq(cells:List (Str × Addr)):List (Str × NameKind)->List (Str × Addr)->List (Str × Addr)
 | [],acc=>acc
 | (n,k)::r,acc=>cq cells r (if(k==NameKind.free)=true then(n,(cells.lookup n).getD 0)::acc else acc)
theorem y_{cells:List (Str × Addr)}{x:Str}{c:Addr}:∀{names:List (Str × NameKind)} {acc:List (Str × Addr)},(cq cells names acc).lookup x=some c->acc.lookup x=some c\/((x,NameKind.free)∈names/\c=(cells.lookup x).getD 0)
 | [],acc,h=>.inl h
 | (n,k)::r,acc,h=>by
  unfold cq at h
  rcases y_ h with h1|⟨h1,e⟩
  ·clear h
   split at h1
   ·rename_i hk
    rw[dq]at h1;cases hx:x==n with
    |true =>
     rw[hx]at h1;have hx':x=n:=by simpa using hx
     have hk':k = .free:=by simpa using hk
     subst hx' hk';exact .inr ⟨b9,(df h1).symm⟩
    |false =>
     rw[hx]at h1;exact .inl h1
   ·exact .inl h1
  ·exact .inr ⟨ck _ h1,e⟩
theorem uv{cells:List (Str × Addr)}{x:Str}:∀{names:List (Str × NameKind)} {acc:List (Str × Addr)} {c:Addr},acc.lookup x=some c->∃c',(cq cells names acc).lookup x=some c'
 | [],_,c,h=>⟨c,h⟩
 | (n,k)::r,acc,c,h=>by
  unfold cq
  split
  ·cases hx:x==n with
   |true=>exact uv (c:=(cells.lookup n).getD 0) (by rw[dq,hx])
   |false=>exact uv (c:=c) (by rw[dq,hx];exact h)
  ·exact uv h
theorem mn{cells:List (Str × Addr)}{x:Str}:∀{names:List (Str × NameKind)} {acc:List (Str × Addr)},(x,NameKind.free)∈names->∃c,(cq cells names acc).lookup x=some c
 | [],_,h=>nomatch h
 | (n,k)::r,acc,h=>by
  unfold cq
  rcases bx.mp h with e|h
  ·injection e with e1 e2
   subst e1;subst e2;exact uv (c:=(cells.lookup x).getD 0) (by simp)
  ·exact mn h
theorem qB{scope:Scope}{env:Env}(h:∀x∈scope.names,x.2 = .free->∃c,env.cells.lookup x.1=some c):closureFor scope env=pure (cq env.cells scope.names []):=by
 have go:∀(names:List (Str × NameKind)) (acc:List (Str × Addr)),(∀x∈names,x.2 = .free->∃c,env.cells.lookup x.1=some c) ->
   (forIn names acc λx cs=>if(x.2==NameKind.free)=true then do let c <- cellOf env x.1;pure (ForInStep.yield ((x.1,c)::cs))else pure (ForInStep.yield cs):Sem (List (Str × Addr)))=pure (cq env.cells names acc):=by
  intro names
  induction names with
  |nil=>intro acc _;rfl
  |cons x r ih =>
   intro acc hx;obtain⟨n,k⟩:=x;rw[pW];unfold cq;cases hk:k==NameKind.free with
   |true =>
    obtain⟨c,hc⟩:=hx (n,k) b9 (by simpa using hk);simp only[hk,iP,cellOf,hc,pure_bind,xK];exact ih _ λy hy=>hx y (ck _ hy)
   |false =>
    simp only[hk,iZ,g9,pure_bind];exact ih _ λy hy=>hx y (ck _ hy)
 have e:=go scope.names [] h;have e2:closureFor scope env=(forIn scope.names [] λx cs=>if(x.2==NameKind.free)=true then do let c <- cellOf env x.1;pure (ForInStep.yield ((x.1,c)::cs))else pure (ForInStep.yield cs):Sem (List (Str × Addr)))>>=λcs=>pure cs:=by
  rfl
 rw[e2,e];rfl
theorem u9{env:Env}:∀{names:List (Str × NameKind)} {x:Str},names.lookup x=some .free ->
  (names.map λ(n,k)=>if(k==NameKind.free&&env.scope.kind==.function&&env.kindOf n==some .cell)then(n,NameKind.cell)else(n,k)).lookup x=some .cell \/
  (names.map λ(n,k)=>if(k==NameKind.free&&env.scope.kind==.function&&env.kindOf n==some .cell)then(n,NameKind.cell)else(n,k)).lookup x=some .free
 | [],_,h=>by simp at h
 | (n,k)::r,x,h=>by
  have ih:=@u9 env r x;show List.lookup x ((if(k==NameKind.free&&env.scope.kind==.function&&env.kindOf n==some .cell)=true then(n,NameKind.cell)else(n,k))::_)=_\/List.lookup x ((if(k==NameKind.free&&env.scope.kind==.function&&env.kindOf n==some .cell)=true then(n,NameKind.cell)else(n,k))::_)=_;cases hx:x==n with
  |true =>
   simp only[dq,hx]at h;cases h
   by_cases hc:(NameKind.free==NameKind.free&&env.scope.kind==.function&&env.kindOf n==some .cell)=true
   ·rw[if_pos hc];simp[dq,hx]
   ·rw[if_neg hc];simp[dq,hx]
  |false =>
   simp only[dq,hx]at h
   by_cases hc:(k==NameKind.free&&env.scope.kind==.function&&env.kindOf n==some .cell)=true
   ·rw[if_pos hc];simp only[dq,hx];exact ih h
   ·rw[if_neg hc];simp only[dq,hx];exact ih h
theorem Nm{env:Env}:∀{names:List (Str × NameKind)} {x:Str},(∀y∈names,y.2≠.cell) ->
  ((names.map λ(n,k)=>if(k==NameKind.free&&env.scope.kind==.function&&env.kindOf n==some .cell)then(n,NameKind.cell)else(n,k)).lookup x=some .cell \/
  (names.map λ(n,k)=>if(k==NameKind.free&&env.scope.kind==.function&&env.kindOf n==some .cell)then(n,NameKind.cell)else(n,k)).lookup x=some .free)->(x,NameKind.free)∈names
 | [],_,_,h=>by simp at h
 | (n,k)::r,x,hn,h=>by
  have ih:=@Nm env r x λy hy=>hn y (ck _ hy)
  change List.lookup x ((if(k==NameKind.free&&env.scope.kind==.function&&env.kindOf n==some .cell)=true then(n,NameKind.cell)else(n,k))::_)=_\/List.lookup x ((if(k==NameKind.free&&env.scope.kind==.function&&env.kindOf n==some .cell)=true then(n,NameKind.cell)else(n,k))::_)=_ at h
  cases hx:x==n with
  |true =>
   have e:x=n:=by simpa using hx
   subst e
   by_cases hc:(k==NameKind.free&&env.scope.kind==.function&&env.kindOf x==some .cell)=true
   ·have hk:k = .free:=by
     have:=(bJ _ _▸hc:_/\_).1;have:=(bJ _ _▸this:_/\_).1;simpa using this
    subst hk;exact b9
   ·rw[if_neg hc]at h
    simp only[dq,hx]at h
    rcases h with h|h
    ·cases h;exact absurd rfl (hn _ b9)
    ·cases h;exact b9
  |false =>
   by_cases hc:(k==NameKind.free&&env.scope.kind==.function&&env.kindOf n==some .cell)=true
   ·rw[if_pos hc]at h;simp only[dq,hx]at h;exact ck _ (ih h)
   ·rw[if_neg hc]at h;simp only[dq,hx]at h;exact ck _ (ih h)
noncomputable def blk(X:Cx)(scope:Scope)(N':List Str)(C:Addr)(s₀:Shared)(H₀:Hp)(fp:List Addr):Cx:=
 {X with N:=N',s₀:=s₀,H₀:=H₀,env:=compEnvC scope (cq X.env.cells scope.names []) C X.env,outer:=X.stack,stack:=X.stack,ex:=fp,fn:=λ_=>false,pn:=[],xe:=λ_ _=>False}
structure gq (X:Cx) (scope:Scope) (fr:List (Str × Nat)):Prop where
 kind:scope.kind = .function
 o9:∀y∈scope.names,y.2≠.cell
 names:∀y∈scope.names,y.2 = .local->scope.names.lookup y.1=some .local
 free:∀y∈scope.names,y.2 = .free->X.env.scope.names.lookup y.1=some .cell\/X.env.scope.names.lookup y.1=some .free
 ix:∀p∈fr,X.N[p.2]?=some p.1/\scope.names.lookup p.1=some .free
noncomputable def blkσ(no:Nat)(fr:List (Str × Nat))(σ:St):St:=List.replicate no none++fr.map λp=>σ.getD p.2 none
def Wk(σ σ':St):Prop:=σ.length=σ'.length/\∀(i:Nat) v,σ[i]?=some (some v)->σ'[i]?=some (some v)
theorem Wk.refl(σ:St):Wk σ σ:=⟨rfl,λ_ _ h=>h⟩
theorem Wk.set{σ σ':St}{i:Nat}{x:Option V}(h:Wk σ σ')(hi:σ[i]?=some none):Wk σ (σ'.set i x):=by
 refine⟨by rw[Hm];exact h.1,λj v e=>?_⟩;have hj:j≠i:=by rintro rfl;rw[hi]at e;cases e
 rw[tK (bQ hj)];exact h.2 j v e
section
variable {X:Cx} {pins:List (Addr × Obj)} {σ:St} {H:Hp} {s:Shared} {scope:Scope} {fr:List (Str × Nat)} {own:List Str} {fp:List Addr}
theorem gq.cell(B:gq X scope fr)(ok:X.Ok):∀x∈scope.names,x.2 = .free->∃c,X.env.cells.lookup x.1=some c:=λx hx hk=>ok.has x.1 (B.free x hx hk)
theorem gq.sub(B:gq X scope fr)(ok:X.Ok){x:Str}{c:Addr}(h:(cq X.env.cells scope.names []).lookup x=some c):X.env.cells.lookup x=some c:=by
 rcases y_ h with h|⟨hm,e⟩
 ·simp at h
 ·obtain⟨c',hc⟩:=B.cell ok _ hm rfl
  rw[e,hc];rfl
theorem S1(B:gq X scope fr)(I:Inv X pins σ H s)(hf:∀b∈fp,cW X pins H b)(hfs:∀b∈fp,b<s.heap.objs.size){N':List Str}:(blk X scope N' s.heap.objs.size s H fp).Ok where
 mod:=I.ok.mod
 kind:=B.kind
 glob:=I.ok.glob
 blt:=I.ok.blt
 above:=aW _
 inj:=λx y c h1 h2=>I.ok.inj x y c (B.sub I.ok h1) (B.sub I.ok h2)
 has:=λx h=>mn (Nm B.o9 h)
 cab:=λx c h=>by cases h
 hd:=I.ok.hd
 frames:=I.ok.frames
 stk:=.inl rfl
 j4:=λb hb=>⟨bE (hfs b hb),λx c h=>(hf b hb).2.2.2.2.1 x c (B.sub I.ok h)⟩
 bs:=I.bs
 eP:=b_ I.ok.eP I.sz
 iz:=λb o e hb=>by
  rcases(hf b hb).2.2.2.1 with h|h
  ·exact I.ok.iz b o e h
  ·exact absurd (cY (aR e) (b_ I.ok.eP h)) (dM _)
 iN:=λb hb h=>by
  rcases bx.mp (I.pL b h)with e|h
  ·exact(hf b hb).2.1 e
  ·exact(hf b hb).2.2.1 h
 d9:=I.stack
 gG:=I.mU
theorem S2(B:gq X scope fr)(I:Inv X pins σ H s)(hf:∀b∈fp,cW X pins H b)(hfs:∀b∈fp,b<s.heap.objs.size){h1:Heap}{m:Str->Option Value}{tk:Nat}(hn:h1.Ns s.heap.objs.size m)
  (hk:∀b o,s.heap.get? b=some o->h1.get? b=some o):Inv (blk X scope (own++fr.map (·.1)) s.heap.objs.size s H fp) [] (blkσ own.length fr σ) H {s with heap:=h1,toks:=tk} where
 ok:=S1 B I hf hfs
 os:=rfl
 bare:=I.bare
 base:=Un.kept hk
 loc:=by
  refine⟨m,hn,λi x v e1 e2 e3=>?_⟩
  change (own++fr.map (·.1))[i]?=some x at e1
  unfold blkσ at e2
  by_cases hi:i<own.length
  ·rw[jf (by simpa using hi),Hj]at e2
   split at e2<;>cases e2
  ·rw[iE (by simpa using qa hi),bX]at e1
   rw[iE (by simpa using qa hi),bX,Hl]at e2;cases hp:fr[i - own.length]? with
   |none=>rw[hp]at e1;cases e1
   |some p =>
    rw[hp]at e1 e2;simp only[xM,xN]at e1 e2;obtain⟨i1,i2⟩:=B.ix p (dr hp);subst e1;have e2':σ[p.2]?=some (some v):=by
     rw[aN]at e2;cases q:σ[p.2]? with
     |none=>rw[q]at e2;cases e2
     |some z=>rw[q]at e2;exact congrArg some e2
    have kX:X.env.kindOf p.1=some .cell\/X.env.kindOf p.1=some .free:=B.free (p.1,.free) (iq i2) rfl;obtain⟨m',hn',hl'⟩:=I.loc;have vis:qp X.env.scope p.1:=.inr kX;obtain⟨u,r,l⟩:=hl' p.2 p.1 v i1 e2' vis;refine⟨u,r,.inr ⟨u9 i2,?_⟩⟩
    rcases l with⟨k,_⟩|⟨_,c,hc,z⟩
    ·rcases kX with q|q<;>(rw[k]at q;cases q)
    ·obtain⟨c',hc'⟩:=mn (cells:=X.env.cells) (acc:=[]) (iq i2)
     have:=B.sub I.ok hc';rw[hc]at this;cases this;exact⟨c,hc',z.keeps hk⟩
 cell:=λx c h=>by
  obtain⟨v,z⟩:=I.cell x c (B.sub I.ok h);exact⟨v,z.keeps hk⟩
 free:=I.hok.fresh (aW _)
 dQ:=λx c h=>I.dQ x c (B.sub I.ok h)
 pin:=λp hp=>absurd (show p∈([]:List (Addr × Obj))from hp) (by simp)
 hok:=I.hok.kept hk
 len:=by
  unfold blkσ;show _=(own++fr.map (·.1)).length;simp
theorem S0{s':Shared}{H':Hp}{σ':St}{pY:List (Addr × Obj)}{N':List Str}(I:Inv X pins σ H s)(hf:∀b∈fp,cW X pins H b)(J:Inv (blk X scope N' s.heap.objs.size s H fp) pY σ' H' s'):Inv X pins σ H' s':=
 I.call' J.os J.base J.hok J.bare λb hb=>⟨(hf b hb).2.2.2.1,(hf b hb).2.1,(hf b hb).2.2.2.2.1,(hf b hb).2.2.2.2.2⟩
end
def kM(Y:Cx)(ifs:List Expr)(t:TT):Prop:=
 ∀(pins:List (Addr × Obj)) (s:Shared) (σ:St) (H:Hp) (Q:Bool->Hp->Prop),Inv Y pins σ H s->t σ H Q ->
  wpAny (model Y.prog Y.w) Y.A (forIn ifs true λc r=>if r=true then do let ok <- isTrue c Y.env (eval c Y.env);pure (ForInStep.yield ok)else pure (ForInStep.yield r)) (TP Y pins σ Q) Y.xe s
def pN:TT:=λ_ H Q=>Q true H
theorem c9{Y:Cx}:kM Y [] pN:=λ_ _ _ H _ I h=>wpAny_tests_nil ⟨H,I,h⟩
theorem kA{Y:Cx}{c:Expr}{t:TT}(h:PT Y c t):kM Y [c] t:=λpins s σ H Q I hq=>wpAny_tests_one (h pins s σ H Q I hq)
def jM(J:It)(g:TG)(tc:TT)(te:TE)(σ₀:St)(D:Addr)(Q:Hp->Prop)(H:Hp):Prop:=
 ∃W:Nat->Nat->List V->Hp->Prop,(∃m,W 0 m [] H)/\∀i m ys H,W i m ys H ->
  (J.stop i H/\Q H)\/(J.go i H/\∃N:List V->Hp->Prop,(∀ys' H',N ys' H'->∃m',m'<m/\W (i+1) m' ys' H')/\∀x H',J.mZ i H x H'->g x σ₀ H' λσ2 H2=>Wk σ₀ σ2 /\
   tc σ2 H2 λb H3=>if b=true then te σ2 H3 λy H4=>H4 D=some (.lst ys)/\ys.length<sizeLine/\N (ys++[y]) (upd H4 D (.lst (ys++[y])))else N ys H3)
theorem Inv.ac7{X:Cx}{pins:List (Addr × Obj)}{σ σ':St}{H:Hp}{s:Shared}(I:Inv X pins σ' H s)(h:Wk σ σ'):Inv X pins σ H s:=I.weak h.1 h.2
theorem Jy{Y:Cx}{elt tg iter:Expr}{ifs:List Expr}{scope:Scope}{pos:Pos}{it D:Addr}{fp:List Addr}{tn:Nat->Heap->Prop}{J:It}{g:TG}{tc:TT}{te:TE}{σ₀:St}{H:Hp}{s:Shared}{Q:Hp->Prop}
  (hc:Y.calm=true) (T:Turn Y.prog Y.w Y.K tg J fp it tn) (hg:PG Y tg g) (hif:kM Y ifs tc) (he:PE Y elt te)
  (I:Inv Y [] σ₀ H s) (st:tn 0 s.heap) (hf:∀b∈fp,cW Y [] H b) (hw:jM J g tc te σ₀ D Q H) (hx:Y.xe=λ_ _=>False) :
  codeAny (model Y.prog Y.w) Y.A (.compLoop (.ListComp elt [⟨tg,iter,ifs,0⟩] scope pos) 0 (.ref it) (.ref D) Y.env) (λr s'=>∃H',r = .ok .next/\Inv Y [] σ₀ H' s'/\Q H') s:=by
 obtain⟨W,⟨m0,w0⟩,turn⟩:=hw;have stat:∀{H':Hp},(∀b∈fp,H' b=none)->∀b∈fp,cW Y [] H' b:=λhn b hb=>⟨hn b hb,(hf b hb).2⟩;refine codeAny_loop rfl (λn s'=>∃i ys H',Inv Y [] σ₀ H' s'/\tn i s'.heap/\(∀b∈fp,H' b=none)/\W i n ys H') ?_ m0 ⟨0,[],H,I,st,λb hb=>(hf b hb).1,w0⟩;rintro n s3 ⟨i,ys,H3,I3,st3,qL,w3⟩;show wpAny _ Y.A ((compTurn (.ListComp elt [⟨tg,iter,ifs,0⟩] scope pos) 0 (.ref it) (.ref D) Y.env).onRaise (λx=>do noteFrame x Y.env;theTreesLotGoes x)) _ _ s3;refine wpAny_noted ?_;rw[compTurn_list];refine ai (nW (ai ?_));have toE:∀{α:Type} {t:Sem α} {P:α->Shared->Prop} {E:Value->Shared->Prop} {s:Shared},wpAny (model Y.prog Y.w) Y.A t P Y.xe s->wpAny (model Y.prog Y.w) Y.A t P E s:=λ{α t P E s} h=>by
  rw[hx]at h;exact d8 h (λ_ _ q=>q) λ_ _ q=>q.elim
 rcases turn i n ys H3 w3 with⟨stop,qn⟩|⟨go,N,hN,step⟩
 ·refine aM (T.done Y rfl rfl rfl hc i [] s3 σ₀ H3 _ I3 (stat qL) st3 stop) λr s4 ⟨hr,I4⟩=>?_
  subst hr;exact aH ⟨H3,rfl,I4,qn⟩
 ·refine aM (T.item Y rfl rfl rfl hc i [] s3 σ₀ H3 _ I3 (stat qL) st3 go) λr s4 ⟨u,hr,h4⟩=>?_
  subst hr;refine ai (aM h4 λ_ s5 ⟨x,H5,I5,r5,y5,mR,Bi⟩=>?_);have xk:=I5.pinned (stat Bi) (T.obj _ _ mR);refine ai (toE (aM (hg _ s5 σ₀ H5 x u _ xk r5 (step x H5 y5)) λ_ s6 ⟨σ6,H6,I6,Rx,q6⟩=>?_));have again:∀{s7:Shared} {σ7:St} {wV:List V} {H7:Hp},Inv Y ([]++r0 fp s5.heap) σ7 H7 s7->Wk σ₀ σ7->N wV H7->∃m,m<n/\∃i ys H',Inv Y [] σ₀ H' s7/\tn i s7.heap/\(∀b∈fp,H' b=none)/\W i m ys H':=λ{s7 σ7 wV H7} I7 wk7 n7=>by
   obtain⟨m',hm,w7⟩:=hN wV H7 n7;refine⟨m',hm,i+1,wV,H7,(I7.wQ).ac7 wk7,T.keep _ _ _ mR λb hb o e=>(I7.pin (b,o) (gB _ (gB _ (vd hb e)))).1,λb hb=>?_,w7⟩;obtain⟨o,e,d⟩:=T.obj _ _ mR b hb;exact(I7.pin (b,o) (gB _ (gB _ (vd hb e)))).2.1
  refine ai (d8 (hif _ s6 σ6 H6 _ I6 q6) (λok s7 ⟨H7,I7,q7⟩=>?_) λ_ _ q=>by rw[hx]at q;exact q.elim);cases ok with
  |false=>exact aH ⟨rfl,again I7 Rx q7⟩
  |true =>
   refine ai (ai (d8 (he _ s7 σ6 H7 _ I7 q7) (λv s8 ⟨y,H8,I8,r8,hD,hz,n8⟩=>?_) λ_ _ q=>by rw[hx]at q;exact q.elim));refine ai (d8 (iT _ s8 σ6 H8 (.ref D) [y] (.ref D) [v] (λ_ H9=>N (ys++[y]) H9) I8 rfl (.cons r8 .nil) ⟨D,ys,y,rfl,rfl,hD,hz,n8⟩) (λz s9 ⟨_,H9,I9,_,n9⟩=>?_) λ_ _ q=>by rw[hx]at q;exact q.elim);exact aH (aH ⟨rfl,again I9 Rx n9⟩)
def Gz(wi:TI)(no:Nat)(fr:List (Str × Nat))(g:TG)(tc:TT)(te:TE):TE:=λσ H Q=>wi σ H λJ H1=>∀D,H1 D=none->jM J g tc te (blkσ no fr σ) D (λH'=>Q (.ref D) H') (upd H1 D (.lst []))
section
variable {X:Cx} {elt tg iter:Expr} {ifs:List Expr} {scope:Scope} {pos:Pos} {own:List Str} {fr:List (Str × Nat)} {wi:TI} {g:TG} {tc:TT} {te:TE}
theorem Jx{pins:List (Addr × Obj)}{σ:St}{H2:Hp}{s2:Shared}{it:Addr}{fp:List Addr}{tn:Nat->Heap->Prop}{J:It}{Qd:V->Hp->Prop}{RR:Value->Addr->Result->Shared->Prop}{E:Value->Shared->Prop}(hc:X.calm=true)(B:gq X scope fr)
  (hb:∀(C:Addr) (s₀:Shared) (H₀:Hp) (fp:List Addr),PG (blk X scope (own++fr.map (·.1)) C s₀ H₀ fp) tg g/\kM (blk X scope (own++fr.map (·.1)) C s₀ H₀ fp) ifs tc/\PE (blk X scope (own++fr.map (·.1)) C s₀ H₀ fp) elt te)
  (I2:Inv X pins σ H2 s2) (T:Turn X.prog X.w X.K tg J fp it tn) (st2:tn 0 s2.heap) (f2:∀b∈fp,cW X pins H2 b)
  (hw:∀D,H2 D=none->jM J g tc te (blkσ own.length fr σ) D (λH'=>Qd (.ref D) H') (upd H2 D (.lst [])))
  (hR:∀(D C:Addr) (s':Shared) (H':Hp) (m:Str->Option Value),Inv X pins σ H' s'->s'.heap.Ns C m->H' C=none->C≠X.env.locals->X.s₀.heap.objs.size<=C->(∀x c,X.env.cells.lookup x=some c->c≠C)->(∀p∈X.pn++pins,p.1≠C) ->
   Qd (.ref D) H'->RR (.ref D) C (.ok .next) s') :
  wpAny (model X.prog X.w) X.A (newList []) (λacc s₃=>wpAny (model X.prog X.w) X.A (newFunctionEnv scope X.env.globals (cq X.env.cells scope.names []) [] X.env.qual none .none (some X.env)) (λcenv s₄ =>
   codeAny (model X.prog X.w) X.A (.compStart (.ListComp elt [⟨tg,iter,ifs,0⟩] scope pos) 0 (.ref it) acc {cenv with scope:=relabel scope X.env}) (RR acc cenv.locals) s₄) E s₃) E s2:=by
 refine kR (wpAny_newFunctionEnv B.o9 (by intro y hy;simp at hy) (λh₁ hns₁ hsb₁=>?_) B.kind);dsimp only at hns₁ hsb₁ ⊢;have hD:H2 s2.heap.objs.size=none:=I2.fresh;have I3:Inv X pins σ (upd H2 s2.heap.objs.size (.lst [])) {s2 with heap:=s2.heap.push {cls:=.type "list", data:=.seq ([]:List Value).toArray},toks:=s2.toks}:=I2.rM .nil (by simp);have rP:∀b∈fp,b<s2.heap.objs.size:=λb hb=>by obtain⟨o,e,_⟩:=T.obj _ _ st2 b hb;exact aR e
 have f3:∀b∈fp,cW X pins (upd H2 s2.heap.objs.size (.lst [])) b:=λb hb=>⟨by rw[aG (bE (rP b hb))];exact(f2 b hb).1,(f2 b hb).2⟩;generalize hs3:({s2 with heap:=s2.heap.push {cls:=.type "list", data:=.seq ([]:List Value).toArray},toks:=s2.toks}:Shared)=s3 at I3;have e3:s3.heap=s2.heap.push {cls:=.type "list", data:=.seq ([]:List Value).toArray}:=by rw[<- hs3]
 have rQ:∀b∈fp,b<s3.heap.objs.size:=λb hb=>by rw[e3,eE];exact xI (rP b hb)
 have eC:(s2.heap.push {cls:=.type "list", dict:=none,data:=.seq ([]:List Value).toArray}).objs.size=s3.heap.objs.size:=by rw[e3]
 have old:∀b o,s3.heap.get? b=some o->h₁.get? b=some o:=λb o e=>by
  have hb:b<s3.heap.objs.size:=aR e;rw[e3]at e;exact hsb₁.extBut b o (by rw[eC];exact bE hb) (aU _ e)
 rw[eC]at hns₁ ⊢;have IY:Inv (blk X scope (own++fr.map (·.1)) s3.heap.objs.size s3 (upd H2 s2.heap.objs.size (.lst [])) fp) [] (blkσ own.length fr σ) (upd H2 s2.heap.objs.size (.lst [])) {s3 with heap:=h₁,toks:=s2.toks+([]:List (Str × Value)).length}:=
  S2 (own:=own) B I3 f3 rQ hns₁ old
 have st3:tn 0 h₁:=T.keep _ _ _ st2 λb hb o e=>old b o (by rw[e3];exact aU _ e);have fY:∀b∈fp,cW (blk X scope (own++fr.map (·.1)) s3.heap.objs.size s3 (upd H2 s2.heap.objs.size (.lst [])) fp) [] (upd H2 s2.heap.objs.size (.lst [])) b:=λb hb =>
  ⟨(f3 b hb).1,bE (rQ b hb),(IY.ok.iN b hb),.inl hb,(IY.ok.j4 b hb).2,λp hp=>absurd (show p∈([]:List (Addr × Obj))from hp) (by simp)⟩
 obtain⟨b1,b2,b3⟩:=hb s3.heap.objs.size s3 (upd H2 s2.heap.objs.size (.lst [])) fp;have loop:=Jy (Y:=blk X scope (own++fr.map (·.1)) s3.heap.objs.size s3 (upd H2 s2.heap.objs.size (.lst [])) fp) (iter:=iter) (scope:=scope) (pos:=pos) hc T b1 b2 b3 IY st3 fY (hw _ hD) rfl;have rN:codeAny (model X.prog X.w) X.A (.compLoop (.ListComp elt [⟨tg,iter,ifs,0⟩] scope pos) 0 (.ref it) (.ref s2.heap.objs.size) (compEnvC scope (cq X.env.cells scope.names []) s3.heap.objs.size X.env)) (RR (.ref s2.heap.objs.size) s3.heap.objs.size) {s3 with heap:=h₁,toks:=s2.toks+([]:List (Str × Value)).length}:=by
  refine jR loop λr s' ⟨H',hr,J',q⟩=>?_;subst hr;obtain⟨m',hn',_⟩:=id J'.loc;refine hR s2.heap.objs.size s3.heap.objs.size s' H' m' (S0 I3 f3 J') hn' J'.free (dO I3.lt) I3.sz (λx c e=>?_) (λp hp z=>?_) q
  ·obtain⟨v,z⟩:=I3.cell x c e
   exact bE z.lt
  ·exact absurd (aR (I3.pin p hp).1) (by rw[z];exact dM _)
 have es:({s2 with heap:=h₁,toks:=s2.toks+([]:List (Str × Value)).length}:Shared) = {s3 with heap:=h₁,toks:=s2.toks+([]:List (Str × Value)).length}:=by rw[<- hs3]
 rw[es];exact codeAny_compStart_list rN (T.self X.A 0 _ _ _ st3 rN)
theorem c6(hc:X.calm=true)(B:gq X scope fr)(hi:PI X tg iter wi)
  (hb:∀(C:Addr) (s₀:Shared) (H₀:Hp) (fp:List Addr),PG (blk X scope (own++fr.map (·.1)) C s₀ H₀ fp) tg g/\kM (blk X scope (own++fr.map (·.1)) C s₀ H₀ fp) ifs tc/\PE (blk X scope (own++fr.map (·.1)) C s₀ H₀ fp) elt te)
  (hs:∀x,foldedSetIterable iter X.env x=pure x:=by intro _;rfl):PE X (.ListComp elt [⟨tg,iter,ifs,0⟩] scope pos) (Gz wi own.length fr g tc te):=by
 intro pins s σ H Q I h;rw[eval_ListComp];refine Ih (use:=none) rfl hs (qB (B.cell I.ok)) B.kind B.names (aM (hi pins s σ H _ I h) λv s1 h1=>aM h1 λitv s2 h2=>?_);obtain⟨it,fp,tn,J,H2,e,I2,T,st2,f2,hD⟩:=h2;subst e;refine Jx (own:=own) (Qd:=Q) (RR:=λacc C=>compPost (model X.prog X.w) X.A X.xe none (EP X pins σ Q) acc C) hc B hb I2 T st2 f2 hD ?_;intro D C s' H' m I' hn hC c1 c2 c3 c4 q;exact⟨m,hn,λh' sb=>⟨.ref D,H',I'.turned (t':=s'.toks) (λb o hb e=>sb.extBut b o hb e) hC (bQ c1).symm (.inr c2) c3 c4,rfl,q⟩⟩
theorem pB{i:Nat}{x:Str}{py spos:Pos}(hN:X.N.Nodup)(hx:X.N[i]?=some x)(hl:X.env.scope.names.lookup x=some .local)(hc:X.calm=true)(B:gq X scope fr)(hi:PI X tg iter wi)
  (hb:∀(C:Addr) (s₀:Shared) (H₀:Hp) (fp:List Addr),PG (blk X scope (own++fr.map (·.1)) C s₀ H₀ fp) tg g/\kM (blk X scope (own++fr.map (·.1)) C s₀ H₀ fp) ifs tc/\PE (blk X scope (own++fr.map (·.1)) C s₀ H₀ fp) elt te)
  (hsw:swapsWith (.ListComp elt [⟨tg,iter,ifs,0⟩] scope pos) (some (.Name x py)) spos.line X.env=pure true:=by rfl)
  (hs:∀x,foldedSetIterable iter X.env x=pure x:=by intro _;rfl):PS X (.Assign [.Name x py] (.ListComp elt [⟨tg,iter,ifs,0⟩] scope pos) spos) (wL (Gz wi own.length fr g tc te) (cK i)):=by
 intro pins s σ H D0 I h;rw[exec_Assign_Name_used _ _ _ _ hsw];refine ai (nW (ai ?_));show wpAny _ X.A (do let _ <- comprehension (.ListComp elt [⟨tg,iter,ifs,0⟩] scope pos) scope X.env _ (newList []) false (eval iter X.env) (some (assign (.Name x py) X.env))) _ _ s;refine ai (d8 (Ih (use:=some (assign (.Name x py) X.env)) (Q:=λ_ s'=>SP X pins D0 .next s') rfl hs (qB (B.cell I.ok)) B.kind B.names
  (aM (hi pins s σ H _ I h) λv s1 h1=>aM h1 λitv s2 h2=>?_)) (λ_ s' hq=>aH (aH hq)) λ_ _ e=>e)
 obtain⟨it,fp,tn,J,H2,e,I2,T,st2,f2,hD⟩:=h2;subst e;refine Jx (own:=own) (Qd:=λv H'=>cK i v σ H' D0.nx) (RR:=λacc C=>compPost (model X.prog X.w) X.A X.xe (some (assign (.Name x py) X.env)) (λ_ s'=>SP X pins D0 .next s') acc C) hc B hb I2 T st2 f2 hD ?_;intro D C s' H' m I' hn hC c1 c2 c3 c4 q;show wpAny _ X.A (assign (.Name x py) X.env (.ref D)) _ _ _;refine Ig (wJ I' hN hx (.inl hl) (v:=.ref D) rfl (λs'' xi ⟨a,sb,ha⟩=>?_) (.inr hl));have Bz:C≠a:=by
  rcases ha with rfl|ha
  ·exact c1
  ·exact λe=>c3 x a ha e.symm
 refine⟨m,hn.sameBut sb Bz,λh' Fb=>?_⟩;exact⟨_,H',xi.turned (t':=s''.toks) (λb o hb e=>Fb.extBut b o hb e) hC c1 (.inr c2) c3 c4,q⟩
end
noncomputable def bw(b:Bool)(h:Heap)(it a:Addr)(i:Nat):Prop:=match b with
 |true=>h.IsListIter it a i
 |false=>h.IsTupleIter it a i
def bI(b:Bool)(h:Heap)(a:Addr)(items:Array Value):Prop:=match b with
 |true=>h.IsList a items
 |false=>h.IsTuple a items
theorem bw.at{b:Bool}{h h':Heap}{it a:Addr}{i:Nat}(x:bw b h it a i)(k:∀o,h.get? it=some o->h'.get? it=some o):bw b h' it a i:=by
 cases b with
 |true=>exact Heap.IsListIter.at x k
 |false=>exact Heap.IsTupleIter.at x k
theorem bI.at{b:Bool}{h h':Heap}{a:Addr}{items:Array Value}(x:bI b h a items)(k:∀o,h.get? a=some o->h'.get? a=some o):bI b h' a items:=by
 cases b with
 |true=>exact Heap.IsList.at x k
 |false=>obtain⟨o,e,r⟩:=x;exact⟨o,k o e,r⟩
theorem bw.obj{b:Bool}{h:Heap}{it a:Addr}{i:Nat}(x:bw b h it a i):∃o,h.get? it=some o/\∀v,o.data≠.cell v:=by
 cases b with
 |true=>obtain⟨o,e,c,d⟩:=x;exact⟨o,e,λv z=>by rw[d]at z;cases z⟩
 |false=>obtain⟨o,e,c,d⟩:=x;exact⟨o,e,λv z=>by rw[d]at z;cases z⟩
theorem bI.lt{b:Bool}{h:Heap}{a:Addr}{items:Array Value}(x:bI b h a items):a<h.objs.size:=by
 cases b with
 |true=>obtain⟨o,e,_⟩:=x;exact aR e
 |false=>obtain⟨o,e,_⟩:=x;exact aR e
section
variable {prog:Program} {w:World} {A:Around} {E:Value->Shared->Prop} {s:Shared}
theorem YX{it l:Addr}{i:Nat}{items:Array Value}{x:Value}{Q:Value->Shared->Prop}(hit:s.heap.IsTupleIter it l i)(hl:s.heap.IsTuple l items)(hx:items[i]?=some x)
  (hQ:∀h',h'.IsTupleIter it l (i+1)->Heap.SameBut it s.heap h'->Q x {s with heap:=h'}):wpAny (model prog w) A (Builtin.SmallTypes.nextOf (.ref it)) Q E s:=by
 obtain⟨o,ho,hc,hd⟩:=id hit;obtain⟨ol,hol,_,nl,hdl⟩:=hl;unfold Builtin.SmallTypes.nextOf;refine ai (nQ (name:=Str.ofString "__next__") hit.typeIs xV (lY xV hit.typeIs R_ ?_ (R8 _)));show wpAny _ _ (field (.ref it) 0>>=_) _ _ s;refine ai (dw ho hd (x:=.ref l) rfl ?_);show wpAny _ _ (if(Value.ref l==Value.none)=true then _ else _) _ _ s;rw[if_neg (show ¬ ((Value.ref l==Value.none)=true)from Bool.false_ne_true)];show wpAny _ _ (field (.ref it) 1>>=_) _ _ s;refine ai (dw ho hd (x:=.int i 0) rfl ?_);show wpAny _ _ (seqItems? (.ref l)>>=_) _ _ s;refine ai (ji hol hdl ?_);simp only[dW,hx];refine ai (ub ho hd (by simp) (aH ⟨x,rfl,aH (hQ _ ?_ (Heap.SameBut.update ..))⟩));exact⟨_,il _ ho (tV (nL hd _)),(Obj.cls_mapFields ..).trans hc,by rw[nL hd];simp[rawInt]⟩
theorem YZ{it l:Addr}{i:Nat}{items:Array Value}{Q:Value->Shared->Prop}(hh:A.handled=none)(hit:s.heap.IsTupleIter it l i)(hl:s.heap.IsTuple l items)(hx:items[i]?=none)
  (hE:∀h' e,Heap.ExtBut it s.heap h'->(∃o,h'.get? e=some o/\o.cls = .type "StopIteration")->E (.ref e) {s with heap:=h'}):wpAny (model prog w) A (Builtin.SmallTypes.nextOf (.ref it)) Q E s:=by
 obtain⟨o,ho,hc,hd⟩:=id hit;obtain⟨ol,hol,_,nl,hdl⟩:=hl;unfold Builtin.SmallTypes.nextOf;refine ai (nQ (name:=Str.ofString "__next__") hit.typeIs xV (lY xV hit.typeIs R_ ?_ (R8 _)));show wpAny _ _ (field (.ref it) 0>>=_) _ _ s;refine ai (dw ho hd (x:=.ref l) rfl ?_);show wpAny _ _ (if(Value.ref l==Value.none)=true then _ else _) _ _ s;rw[if_neg (show ¬ ((Value.ref l==Value.none)=true)from Bool.false_ne_true)];show wpAny _ _ (field (.ref it) 1>>=_) _ _ s;refine ai (dw ho hd (x:=.int i 0) rfl ?_);show wpAny _ _ (seqItems? (.ref l)>>=_) _ _ s;refine ai (ji hol hdl ?_);simp only[dW,hx];refine ai (qj (ai (ub ho hd (by simp) ?_)));show wpAny _ _ (newExc (.type "StopIteration") []>>=_) _ _ _;refine ai ?_;simp only[newExc,newTuple];refine ai (kR ?_ (by size_fits));refine ai (m:=firstArgMember _ _) (wpAny_of_eq (a:=Value.none) (by first|rfl | (simp only[firstArgMember];rfl)) ?_);refine kR ?_ (by size_fits);simp only[raiseNew];refine ai (wpAny_handled ?_)
 first|rw[show A.in1.handled=none from hh] | rw[hh]
 refine ai (aH (wpAny_throw ?_));exact hE _ _ (((Heap.SameBut.update ..).extBut.push _).push _) ⟨_,cn _ rfl,rfl⟩
theorem mH{b:Bool}{it l:Addr}{i:Nat}{items:Array Value}{x:Value}{Q:Value->Shared->Prop}(hit:bw b s.heap it l i)(hl:bI b s.heap l items)(hx:items[i]?=some x)
  (hQ:∀h',bw b h' it l (i+1)->Heap.SameBut it s.heap h'->Q x {s with heap:=h'}):wpAny (model prog w) A (Builtin.SmallTypes.nextOf (.ref it)) Q E s:=by
 cases b with
 |true=>exact wpAny_nextOf_list_item hit hl hx hQ
 |false=>exact YX hit hl hx hQ
theorem rT{b:Bool}{it l:Addr}{i:Nat}{items:Array Value}{Q:Value->Shared->Prop}(hh:A.handled=none)(hit:bw b s.heap it l i)(hl:bI b s.heap l items)(hx:items[i]?=none)
  (hE:∀h' e,Heap.ExtBut it s.heap h'->(∃o,h'.get? e=some o/\o.cls = .type "StopIteration")->E (.ref e) {s with heap:=h'}):wpAny (model prog w) A (Builtin.SmallTypes.nextOf (.ref it)) Q E s:=by
 cases b with
 |true=>exact wpAny_nextOf_list_end hh hit hl hx hE
 |false=>exact YZ hh hit hl hx hE
end
abbrev dX (h:Heap) (z TI TO:Addr) (f0:Value) (b:Bool):Prop:=
 h.get? z=some {cls:=.type "zip", dict:=none,data:=.fields #[f0,.bool b,.bool false,.ref TI,.ref TO],slots:=#[]}
section
variable {prog:Program} {w:World} {A:Around} {E:Value->Shared->Prop} {s:Shared} {c1 c2:Bool} {z TI TO i1 i2 l1 l2:Addr} {k1 k2:Nat} {xs ys:Array Value} {x y a b:Value}
theorem ads{f0:Value}{bb:Bool}{Q:Value->Shared->Prop}(D:ZipApart z TI TO i1 i2 l1 l2)(hz:dX s.heap z TI TO f0 bb)(hfree:∀{A':Around} {E':Value->Shared->Prop} {Q':Bool->Shared->Prop},Q' true s->wpAny (model prog w) A' (Builtin.SmallTypes.ownedTupleIsFree (.ref z)) Q' E' s)(hTI:IsPair s.heap TI (.ref i1) (.ref i2))(hTO:IsPair s.heap TO a b)(h1:bw c1 s.heap i1 l1 k1)(h2:bw c2 s.heap i2 l2 k2)(hl1:bI c1 s.heap l1 xs)(hl2:bI c2 s.heap l2 ys)(hx:xs[k1]?=some x)(hy:ys[k2]?=some y)(hQ:∀h',IsZip h' z TI TO (rawInt s.heap.objs.size)->IsPair h' TO x y->bw c1 h' i1 l1 (k1+1)->bw c2 h' i2 l2 (k2+1)->IsPair h' s.heap.objs.size x y->h'.objs.size=s.heap.objs.size+1 ->
   (∀c o,c≠z->c≠TO->c≠i1->c≠i2->s.heap.get? c=some o->h'.get? c=some o)->Q (.ref s.heap.objs.size) {s with heap:=h'}) :
  wpAny (model prog w) A (Builtin.«zip.__next__» ⟨[.ref z],[]⟩) (λfin s'=>∃v,fin = .done (.ret v)/\Q v s') E s:=by
 show wpAny _ _ (field (.ref z) 2>>=_) _ _ _;refine ai (dw hz rfl (x:=.bool false) rfl ?_);show wpAny _ _ (field (.ref z) 3>>=_) _ _ _;refine ai (dw hz rfl (x:=.ref TI) rfl ?_);refine ai (ji hTI rfl ?_);show wpAny _ _ (Builtin.SmallTypes.ownedTupleIsFree (.ref z)>>=_) _ _ _;refine ai (hfree ?_);simp only[iP];refine ai (qj ?_);refine ai (dw hz rfl (x:=.ref TO) rfl ?_);refine ai (nU hz (by simp) λg1 hz1 e1=>?_)
 replace hz1:dX g1 z TI TO .ellipsis bb:=hz1
 refine ai ?_;simp only[Hr,Hs,pW,pX];refine ai (ai (yg ?_));show wpAny _ _ (Builtin.SmallTypes.nextOf (.ref i1)>>=_) _ _ _;refine ai (mH (h1.at λo q=>e1.extBut _ o D.i1z q) (hl1.at λo q=>e1.extBut _ o D.l1z q) hx λg2 h1' e2=>aH ?_);have q_:IsPair g2 TO a b:=e2.extBut _ _ D.TOi1 (e1.extBut _ _ D.TOz hTO);refine ai (ji q_ rfl ?_);refine ai (Il q_ λg3 uN e3=>?_)
 replace uN:IsPair g3 TO x b:=uN
 refine ai (t_ (aH ?_));refine ai (ai (yg ?_));show wpAny _ _ (Builtin.SmallTypes.nextOf (.ref i2)>>=_) _ _ _;have mW:∀o,s.heap.get? i2=some o->g3.get? i2=some o:=λo q=>e3.extBut _ o D.TOi2.symm (e2.extBut _ o D.i12.symm (e1.extBut _ o D.i2z q));have mX:∀o,s.heap.get? l2=some o->g3.get? l2=some o:=λo q=>e3.extBut _ o D.l2TO (e2.extBut _ o D.l2i1 (e1.extBut _ o D.l2z q));refine ai (mH (h2.at mW) (hl2.at mX) hy λg4 h2' e4=>aH ?_);have La:IsPair g4 TO x b:=e4.extBut _ _ D.TOi2 uN;refine ai (ji La rfl ?_);refine ai (Il La λg5 uO e5=>?_)
 replace uO:IsPair g5 TO x y:=uO
 refine ai (t_ (aH (aH ?_)));refine ai (ji uO rfl ?_);refine ai (wpAny_newTuple ?_);have sz:g5.objs.size=s.heap.objs.size:=by rw[e5.1,e4.1,e3.1,e2.1,e1.1]
 have L_:dX g5 z TI TO .ellipsis bb:=e5.extBut _ _ D.TOz.symm (e4.extBut _ _ D.i2z.symm (e3.extBut _ _ D.TOz.symm (e2.extBut _ _ D.i1z.symm hz1)));have k5:∀c o,c≠z->c≠TO->c≠i1->c≠i2->s.heap.get? c=some o->g5.get? c=some o:=λc o q1 q2 q3 q4 q =>
  e5.extBut _ _ q2 (e4.extBut _ _ q4 (e3.extBut _ _ q2 (e2.extBut _ _ q3 (e1.extBut _ _ q1 q))))
 have h15:bw c1 g5 i1 l1 (k1+1):=h1'.at λo q=>e5.extBut _ o D.TOi1.symm (e4.extBut _ o D.i12 (e3.extBut _ o D.TOi1.symm q));have VH:bw c2 g5 i2 l2 (k2+1):=h2'.at λo q=>e5.extBut _ o D.TOi2.symm q;have lM:z<g5.objs.size:=aR L_;show wpAny _ _ (Builtin.SmallTypes.ownedTupleHandOut (.ref z) (.ref g5.objs.size)>>=_) _ _ _;refine ai ?_;unfold Builtin.SmallTypes.ownedTupleHandOut;have W':dX (g5.push {cls:=.type "tuple", data:=.seq #[x,y]}) z TI TO .ellipsis bb:=aU _ L_;refine ai (nU W' (by simp) λg7 Ce e7=>?_)
 replace Ce:dX g7 z TI TO (rawInt g5.objs.size) bb:=Ce
 refine nU Ce (by simp) λg8 hz8 e8=>?_
 replace hz8:IsZip g8 z TI TO (rawInt g5.objs.size):=hz8
 have up:∀c o,c≠z->g5.get? c=some o->g8.get? c=some o:=λc o q1 q=>e8.extBut _ _ q1 (e7.extBut _ _ q1 (aU _ q));have hT8:IsPair g8 g5.objs.size x y:=e8.extBut _ _ (dO lM) (e7.extBut _ _ (dO lM) (cn _ rfl));have z8:g8.objs.size=g5.objs.size+1:=by rw[e8.1,e7.1,eE]
 rw[sz]at hz8 hT8 z8;refine aH ⟨_,rfl,?_⟩;show Q (.ref g5.objs.size) _;rw[sz];exact hQ g8 hz8 (up _ _ D.TOz uO) (h15.at λo q=>up _ o D.i1z q) (VH.at λo q=>up _ o D.i2z q) hT8 z8 λc o q1 q2 q3 q4 q=>up c o q1 (k5 c o q1 q2 q3 q4 q)
theorem ady{f0:Value}{bb:Bool}{Q:Fin->Shared->Prop}(hh:A.handled=none)(D:ZipApart z TI TO i1 i2 l1 l2)(hz:dX s.heap z TI TO f0 bb)(hfree:∀{A':Around} {E':Value->Shared->Prop} {Q':Bool->Shared->Prop},Q' true s->wpAny (model prog w) A' (Builtin.SmallTypes.ownedTupleIsFree (.ref z)) Q' E' s)(hTI:IsPair s.heap TI (.ref i1) (.ref i2))(hTO:IsPair s.heap TO a b)(h1:bw c1 s.heap i1 l1 k1)(h2:bw c2 s.heap i2 l2 k2)(hl1:bI c1 s.heap l1 xs)(hl2:bI c2 s.heap l2 ys)(hend:xs[k1]?=none\/ys[k2]?=none)
  (hE:∀h' e,(∀c o,c≠z->c≠TO->c≠i1->c≠i2->s.heap.get? c=some o->h'.get? c=some o)->(∃o,h'.get? e=some o/\o.cls = .type "StopIteration")->E (.ref e) {s with heap:=h'}) :
  wpAny (model prog w) A (Builtin.«zip.__next__» ⟨[.ref z],[]⟩) Q E s:=by
 show wpAny _ _ (field (.ref z) 2>>=_) _ _ _;refine ai (dw hz rfl (x:=.bool false) rfl ?_);show wpAny _ _ (field (.ref z) 3>>=_) _ _ _;refine ai (dw hz rfl (x:=.ref TI) rfl ?_);refine ai (ji hTI rfl ?_);show wpAny _ _ (Builtin.SmallTypes.ownedTupleIsFree (.ref z)>>=_) _ _ _;refine ai (hfree ?_);simp only[iP];refine ai (qj ?_);refine ai (dw hz rfl (x:=.ref TO) rfl ?_);refine ai (nU hz (by simp) λg1 hz1 e1=>?_)
 replace hz1:dX g1 z TI TO .ellipsis bb:=hz1
 refine ai ?_;simp only[Hr,Hs,pW,pX];refine ai (ai (yg ?_));show wpAny _ _ (Builtin.SmallTypes.nextOf (.ref i1)>>=_) _ _ _;have u1:∀o,s.heap.get? i1=some o->g1.get? i1=some o:=λo q=>e1.extBut _ o D.i1z q;have u2:∀o,s.heap.get? l1=some o->g1.get? l1=some o:=λo q=>e1.extBut _ o D.l1z q;cases hx:xs[k1]? with
 |none =>
  refine ai (rT hh (h1.at u1) (hl1.at u2) hx λg2 e e2 he=>?_);obtain⟨oe,hoe,hce⟩:=he;have hz2:dX g2 z TI TO .ellipsis bb:=e2 _ _ D.i1z.symm hz1;have hez:e≠z:=λq=>by subst q;rw[hz2]at hoe;cases hoe;simp at hce
  exact nU hz2 (by simp) λg3 _ e3=>hE g3 e (λc o q1 _ q3 _ q=>e3.extBut _ _ q1 (e2 _ _ q3 (e1.extBut _ _ q1 q))) ⟨oe,e3.extBut _ _ hez hoe,hce⟩
 |some x =>
  have hy:ys[k2]?=none:=by rcases hend with h|h;rw[hx]at h;cases h;exact h
  refine ai (mH (h1.at u1) (hl1.at u2) hx λg2 h1' e2=>aH ?_);have q_:IsPair g2 TO a b:=e2.extBut _ _ D.TOi1 (e1.extBut _ _ D.TOz hTO);refine ai (ji q_ rfl ?_);refine ai (Il q_ λg3 uN e3=>?_);refine ai (t_ (aH ?_));refine ai (ai (yg ?_));show wpAny _ _ (Builtin.SmallTypes.nextOf (.ref i2)>>=_) _ _ _;have mW:∀o,s.heap.get? i2=some o->g3.get? i2=some o:=λo q=>e3.extBut _ o D.TOi2.symm (e2.extBut _ o D.i12.symm (e1.extBut _ o D.i2z q));have mX:∀o,s.heap.get? l2=some o->g3.get? l2=some o:=λo q=>e3.extBut _ o D.l2TO (e2.extBut _ o D.l2i1 (e1.extBut _ o D.l2z q));refine ai (rT hh (h2.at mW) (hl2.at mX) hy λg4 e e4 he=>?_);obtain⟨oe,hoe,hce⟩:=he;have L9:dX g4 z TI TO .ellipsis bb:=e4 _ _ D.i2z.symm (e3.extBut _ _ D.TOz.symm (e2.extBut _ _ D.i1z.symm hz1));have hez:e≠z:=λq=>by subst q;rw[L9]at hoe;cases hoe;simp at hce
  exact nU L9 (by simp) λg5 _ e5=>hE g5 e (λc o q1 q2 q3 q4 q=>e5.extBut _ _ q1 (e4 _ _ q4 (e3.extBut _ _ q2 (e2.extBut _ _ q3 (e1.extBut _ _ q1 q))))) ⟨oe,e5.extBut _ _ hez hoe,hce⟩
theorem adw{f0:Value}{bb:Bool}{Q:Option Value->Shared->Prop}(D:ZipApart z TI TO i1 i2 l1 l2)(hz:dX s.heap z TI TO f0 bb)(hfree:∀{A':Around} {E':Value->Shared->Prop} {Q':Bool->Shared->Prop},Q' true s->wpAny (model prog w) A' (Builtin.SmallTypes.ownedTupleIsFree (.ref z)) Q' E' s)(hTI:IsPair s.heap TI (.ref i1) (.ref i2))(hTO:IsPair s.heap TO a b)(h1:bw c1 s.heap i1 l1 k1)(h2:bw c2 s.heap i2 l2 k2)(hl1:bI c1 s.heap l1 xs)(hl2:bI c2 s.heap l2 ys)(hx:xs[k1]?=some x)(hy:ys[k2]?=some y)(hQ:∀h',IsZip h' z TI TO (rawInt s.heap.objs.size)->IsPair h' TO x y->bw c1 h' i1 l1 (k1+1)->bw c2 h' i2 l2 (k2+1)->IsPair h' s.heap.objs.size x y->h'.objs.size=s.heap.objs.size+1 ->
   (∀c o,c≠z->c≠TO->c≠i1->c≠i2->s.heap.get? c=some o->h'.get? c=some o)->Q (some (.ref s.heap.objs.size)) {s with heap:=h'}) :
  wpAny (model prog w) A (pyNext (.ref z)) Q E s:=by
 have hT:s.TypeIs (.ref z) "zip" :=⟨_,hz,rfl⟩;unfold pyNext;exact ai (nO (nQ (name:=Str.ofString "__next__") hT lU (lY lU hT xS
  (ads D hz hfree hTI hTO h1 h2 hl1 hl2 hx hy λh' a1 a2 a3 a4 a5 a6 a7=>aH (hQ h' a1 a2 a3 a4 a5 a6 a7)) (xR _))))
theorem adp{f0:Value}{bb:Bool}{Q:Option Value->Shared->Prop}(hh:A.handled=none)(D:ZipApart z TI TO i1 i2 l1 l2)(hz:dX s.heap z TI TO f0 bb)(hfree:∀{A':Around} {E':Value->Shared->Prop} {Q':Bool->Shared->Prop},Q' true s->wpAny (model prog w) A' (Builtin.SmallTypes.ownedTupleIsFree (.ref z)) Q' E' s)(hTI:IsPair s.heap TI (.ref i1) (.ref i2))(hTO:IsPair s.heap TO a b)(h1:bw c1 s.heap i1 l1 k1)(h2:bw c2 s.heap i2 l2 k2)(hl1:bI c1 s.heap l1 xs)(hl2:bI c2 s.heap l2 ys)(hend:xs[k1]?=none\/ys[k2]?=none)
  (hQ:∀h',(∀c o,c≠z->c≠TO->c≠i1->c≠i2->s.heap.get? c=some o->h'.get? c=some o)->Q none {s with heap:=h'}):wpAny (model prog w) A (pyNext (.ref z)) Q E s:=by
 have hT:s.TypeIs (.ref z) "zip" :=⟨_,hz,rfl⟩;unfold pyNext;refine ai (nO (nQ (name:=Str.ofString "__next__") hT lU (lY lU hT xS (ady hh D hz hfree hTI hTO h1 h2 hl1 hl2 hend λh' e hk he=>?_) (xR _))));obtain⟨o,ho,hc⟩:=he;refine ai (wpAny_isInstance (T:= "StopIteration") (b:=true) ⟨o,ho,hc⟩ isSubtype_stop ?_);exact aH (hQ _ hk)
theorem Kn(hz:IsZip s.heap z TI TO .none){A':Around}{E':Value->Shared->Prop}{Q':Bool->Shared->Prop}(h:Q' true s):wpAny (model prog w) A' (Builtin.SmallTypes.ownedTupleIsFree (.ref z)) Q' E' s:=by
 unfold Builtin.SmallTypes.ownedTupleIsFree;exact ai (dw hz rfl (x:=.none) rfl (aH h))
theorem RJ{Q:Option Value->Shared->Prop}(D:ZipApart z TI TO i1 i2 l1 l2)(hz:IsZip s.heap z TI TO .none)(hTI:IsPair s.heap TI (.ref i1) (.ref i2))(hTO:IsPair s.heap TO a b)(h1:bw c1 s.heap i1 l1 k1)(h2:bw c2 s.heap i2 l2 k2)(hl1:bI c1 s.heap l1 xs)(hl2:bI c2 s.heap l2 ys)(hx:xs[k1]?=some x)(hy:ys[k2]?=some y)(hQ:∀h',IsZip h' z TI TO (rawInt s.heap.objs.size)->IsPair h' TO x y->bw c1 h' i1 l1 (k1+1)->bw c2 h' i2 l2 (k2+1)->IsPair h' s.heap.objs.size x y->h'.objs.size=s.heap.objs.size+1 ->
   (∀c o,c≠z->c≠TO->c≠i1->c≠i2->s.heap.get? c=some o->h'.get? c=some o)->Q (some (.ref s.heap.objs.size)) {s with heap:=h'}) :
  wpAny (model prog w) A (pyNext (.ref z)) Q E s:=adw D hz (Kn hz) hTI hTO h1 h2 hl1 hl2 hx hy hQ
theorem RG{Q:Option Value->Shared->Prop}(hh:A.handled=none)(D:ZipApart z TI TO i1 i2 l1 l2)(hz:IsZip s.heap z TI TO .none)(hTI:IsPair s.heap TI (.ref i1) (.ref i2))(hTO:IsPair s.heap TO a b)(h1:bw c1 s.heap i1 l1 k1)(h2:bw c2 s.heap i2 l2 k2)(hl1:bI c1 s.heap l1 xs)(hl2:bI c2 s.heap l2 ys)(hend:xs[k1]?=none\/ys[k2]?=none)
  (hQ:∀h',(∀c o,c≠z->c≠TO->c≠i1->c≠i2->s.heap.get? c=some o->h'.get? c=some o)->Q none {s with heap:=h'}):wpAny (model prog w) A (pyNext (.ref z)) Q E s:=adp hh D hz (Kn hz) hTI hTO h1 h2 hl1 hl2 hend hQ
end
def Sq(b:Bool)(K:W.Frag)(H:Hp)(a:Addr)(xs:List V):Prop:=match b with
 |true=>ag K H a xs
 |false=>az K H a xs
section
variable {X:Cx} {pins:List (Addr × Obj)} {σ:St} {H:Hp} {s:Shared} {a:Addr} {xs ys:List V} {c:Bool}
theorem Inv.sq(I:Inv X pins σ H s)(h:Sq c X.K H a xs):∃its:List Value,Vals xs its/\bI c s.heap a its.toArray/\xs.length<=sizeLine:=by
 cases c with
 |true=>obtain⟨its,r,p,z⟩:=I.list h;exact⟨its,r,p.isList,z⟩
 |false=>obtain⟨its,r,p,z⟩:=I.tuple h;exact⟨its,r,p,z⟩
theorem Inv.Gu(I:Inv X pins σ H s)(h:Sq c X.K H a xs)(h':Sq c X.K H a ys):xs=ys:=by
 cases c with
 |true=>exact I.M_ h h'
 |false=>exact I.GF h h'
theorem Inv.eW(I:Inv X pins σ H s)(h:Sq c X.K H a xs){b:Addr}(f:cW X pins H b):a≠b:=by
 intro e;subst e;have base:∀o,X.K.lookup a=some o->False:=λo q=>by
  have e1:=I.ok.mod.iR a o q
  rcases f.2.2.2.1 with z|z
  ·exact I.ok.iz a o e1 z
  ·exact absurd (cY (aR e1) (b_ I.ok.eP z)) (dM _)
 cases c with
 |true =>
  rcases h with(h|⟨o,h⟩)|⟨o,_,_,h,_⟩
  ·rw[f.1]at h;cases h
  ·rw[f.1]at h;cases h
  ·exact base o h
 |false =>
  rcases h with(h|⟨o,h⟩)|⟨o,_,_,h,_⟩
  ·rw[f.1]at h;cases h
  ·rw[f.1]at h;cases h
  ·exact base o h
theorem Inv.Rk{h':Heap}{t':Nat}{ch:List Addr}{T:Addr}{o:HO}(I:Inv X pins σ H s)(hch:∀b∈ch,cW X pins H b)
  (k:∀b u,b ∉ ch->s.heap.get? b=some u->h'.get? b=some u) (hT:s.heap.objs.size<=T) (new:bC X.prog X.w (upd H T o) h' T o):Inv X pins σ (upd H T o) {s with heap:=h',toks:=t'}:=by
 have oJ:H T=none:=I.hok.fresh hT;have rV:∀b u,H b=some u->b ∉ ch:=λb u e z=>by rw[(hch b z).1]at e;cases e
 have hb:∀b u,s.heap.get? b=some u->b≠T:=λb u e=>bE (cY (aR e) hT);refine I.step (g':=s.gens) (d':=s.drawn) (ch:=ch) (λb hb=>⟨(hch b hb).2.2.2.1,(hch b hb).2.1,(hch b hb).2.2.2.2.1,(hch b hb).2.2.2.2.2⟩) (λb u _ _ hc e _=>k b u hc e) (λb u _ _ hc e _=>⟨u.slots,k b u hc e⟩)
  (λb u _ e n=>by rw[aG (hb b u e)];exact n) (λb u hc e=>⟨u,k b u hc e⟩) (λb ys e=>by rw[aG (dg e oJ)];exact e) (λb u ys e=>by rw[aG (dg e oJ)];exact e)
  (λb ps e=>⟨#[],by rw[aG (dg e oJ),e];simp⟩) (λm hm=>?_) (λb u e=>?_) I.bare
 ·obtain⟨o',es,ep,ho,r⟩:=hm
  exact⟨o',es,ep,k _ o' (λz=>(hch _ z).2.1 rfl) ho,r⟩
 ·by_cases hbT:b=T
  ·subst hbT;rw[av]at e;cases e;exact new
  ·rw[aG hbT]at e
   refine(I.hok b u e).stay (λc v hc q=>k c v ?_ q) (λc q=>by rw[aG (dg q oJ)];exact q) (λc ys q=>by rw[aG (dg q oJ)];exact q) λc ob u q=>by rw[aG (dg q oJ)];exact q
   rcases hc with z|z
   ·rw[z];exact rV b u e
   ·exact rV c _ z
theorem Inv.Rj{h':Heap}{t':Nat}{ch:List Addr}(I:Inv X pins σ H s)(hch:∀b∈ch,cW X pins H b)
  (k:∀b u,b ∉ ch->s.heap.get? b=some u->h'.get? b=some u):Inv X pins σ H {s with heap:=h',toks:=t'}:=by
 have rV:∀b u,H b=some u->b ∉ ch:=λb u e z=>by rw[(hch b z).1]at e;cases e
 refine I.step (g':=s.gens) (d':=s.drawn) (ch:=ch) (λb hb=>⟨(hch b hb).2.2.2.1,(hch b hb).2.1,(hch b hb).2.2.2.2.1,(hch b hb).2.2.2.2.2⟩) (λb u _ _ hc e _=>k b u hc e) (λb u _ _ hc e _=>⟨u.slots,k b u hc e⟩)
  (λb u _ e n=>n) (λb u hc e=>⟨u,k b u hc e⟩) (λb ys e=>e) (λb u ys e=>e) (λb ps e=>⟨#[],by rw[e];simp⟩) (λm hm=>?_) (λb u e=>?_) I.bare
 ·obtain⟨o',es,ep,ho,r⟩:=hm
  exact⟨o',es,ep,k _ o' (λz=>(hch _ z).2.1 rfl) ho,r⟩
 ·refine(I.hok b u e).stay (λc v hc q=>k c v ?_ q) (λc q=>q) (λc ys q=>q) λc ob u q=>q
  rcases hc with z|z
  ·rw[z];exact rV b u e
  ·exact rV c _ z
end
noncomputable def xm(K:W.Frag)(c1 c2:Bool)(l1 l2:Addr):It:=
 ⟨λi H=>∃xs ys x y,Sq c1 K H l1 xs/\Sq c2 K H l2 ys/\xs[i]?=some x/\ys[i]?=some y,
   λi H v H'=>∃T x y,v = .ref T/\H T=none/\H'=upd H T (.tup [x,y])/\(∀xs,Sq c1 K H l1 xs->xs[i]?=some x)/\∀ys,Sq c2 K H l2 ys->ys[i]?=some y,
   λi H=>∃xs ys,Sq c1 K H l1 xs/\Sq c2 K H l2 ys/\(xs.length<=i\/ys.length<=i)⟩
structure Ir (c1 c2:Bool) (z TI TO i1 i2 l1 l2:Addr) (i:Nat) (h:Heap):Prop where
 hz:IsZip h z TI TO .none
 ti:IsPair h TI (.ref i1) (.ref i2)
 to:∃a b,IsPair h TO a b
 h1:bw c1 h i1 l1 i
 h2:bw c2 h i2 l2 i
theorem Dh{P:Program}{w:World}{H:Hp}{h:Heap}{T:Addr}{x y:V}{u v:Value}(e:IsPair h T u v)(r1:RelV x u)(r2:RelV y v):bC P w H h T (.tup [x,y]):=
 ⟨by show 2<=sizeLine;decide,[u,v],.cons r1 (.cons r2 .nil),⟨_,e,rfl,_,rfl⟩,_,e,rfl⟩
theorem acV{P:Program}{w:World}{K:W.Frag}{elts:List Expr}{k:Nat}{pos:Pos}{c1 c2:Bool}{z TI TO i1 i2:Addr}(l1 l2:Addr)(nd:TI≠z/\TO≠z/\i1≠z/\i2≠z/\TI≠TO/\TI≠i1/\TI≠i2/\TO≠i1/\TO≠i2/\i1≠i2):Turn P w K (.Tuple elts k pos) (xm K c1 c2 l1 l2) [z,TI,TO,i1,i2] z (Ir c1 c2 z TI TO i1 i2 l1 l2) where
 mem:=by simp
 obj:=λi h st b hb=>by
  have fld:∀{a:Addr} {o:Obj},h.get? a=some o->(∀v,o.data≠.cell v)->∃o,h.get? a=some o/\∀v,o.data≠.cell v:=λe d=>⟨_,e,d⟩;simp only[bx,fz,fK]at hb
  rcases hb with rfl|rfl|rfl|rfl|rfl
  ·exact⟨_,st.hz,λv q=>by cases(show Data.fields _=Data.cell v from q)⟩
  ·exact⟨_,st.ti,λv q=>by cases(show Data.seq _ _=Data.cell v from q)⟩
  ·obtain⟨_,_,e⟩:=st.to
   exact⟨_,e,λv q=>by cases(show Data.seq _ _=Data.cell v from q)⟩
  ·exact st.h1.obj
  ·exact st.h2.obj
 keep:=λi h h' st kk=>⟨kk z (by simp) _ st.hz,kk TI (by simp) _ st.ti,let⟨a,b,e⟩:=st.to;⟨a,b,kk TO (by simp) _ e⟩,st.h1.at λo e=>kk i1 (by simp) o e,st.h2.at λo e=>kk i2 (by simp) o e⟩
 item:=by
  intro X hP hw hK hc i pins s σ H E I hf st hg;subst hP hw hK;obtain⟨xs,ys,x,y,q1,q2,hx,hy⟩:=hg;obtain⟨rH,pD,p1,z1⟩:=I.sq q1;obtain⟨rJ,pE,p2,z2⟩:=I.sq q2;obtain⟨u,hu,ru⟩:=pD.get hx;obtain⟨v,hv,rv⟩:=pE.get hy;obtain⟨a,b,hTO⟩:=st.to;obtain⟨n1,n2,n3,n4,n5,n6,n7,n8,n9,n10⟩:=nd;have D:ZipApart z TI TO i1 i2 l1 l2:=⟨n1,n2,n3,n4,n5,n6,n7,n8,n9,n10,I.eW q1 (hf z (by simp)),I.eW q1 (hf TO (by simp)),I.eW q1 (hf i1 (by simp)),I.eW q1 (hf i2 (by simp)),
   I.eW q2 (hf z (by simp)),I.eW q2 (hf TO (by simp)),I.eW q2 (hf i1 (by simp)),I.eW q2 (hf i2 (by simp))⟩
  refine RJ D st.hz st.ti hTO st.h1 st.h2 p1 p2 (by simpa using hu) (by simpa using hv) λh' a1 a2 a3 a4 a5 a6 a7=>?_;refine⟨_,rfl,wpAny_letOwnedTupleGo_zip a1 λh2 b1 b2=>?_⟩;have hzlt:z<s.heap.objs.size:=aR st.hz;have V4:IsPair h2 TI (.ref i1) (.ref i2):=b2.extBut _ _ n1 (a7 _ _ n1 n5 n6 n7 st.ti);have keep:∀b u,b ∉ [z,TO,i1,i2]->s.heap.get? b=some u->h2.get? b=some u:=λb u hb e=>by
   simp only[bx,fz,fK,not_or]at hb;exact b2.extBut _ _ hb.1 (a7 b u hb.1 hb.2.1 hb.2.2.1 hb.2.2.2 e)
  have hT2:IsPair h2 s.heap.objs.size u v:=b2.extBut _ _ (dO hzlt) a5;have Gy:∀b∈[z,TO,i1,i2],b∈[z,TI,TO,i1,i2]:=λb hb=>by
   simp only[bx,fz,fK]at hb ⊢
   rcases hb with h|h|h|h<;>simp[h]
  have I2:Inv X pins σ (upd H s.heap.objs.size (.tup [x,y])) {s with heap:=h2,toks:=s.toks}:=
   I.Rk (λb hb=>hf b (Gy b hb)) keep (aW _) (Dh hT2 ru rv)
  refine⟨.ref s.heap.objs.size,_,I2,rfl,⟨_,x,y,rfl,I.fresh,rfl,λzs hz=>by rw[I.Gu hz q1];exact hx,λzs hz=>by rw[I.Gu hz q2];exact hy⟩,
   ⟨b1,V4,⟨u,v,b2.extBut _ _ n2 a2⟩,a3.at λo e=>b2.extBut _ o n3 e,a4.at λo e=>b2.extBut _ o n4 e⟩,λb hb=>?_⟩
  have hlt:b<s.heap.objs.size:=by
   have live:∀b∈[z,TI,TO,i1,i2],b<s.heap.objs.size:=λb hb=>by
    simp only[bx,fz,fK]at hb
    rcases hb with rfl|rfl|rfl|rfl|rfl
    ·exact hzlt
    ·exact aR st.ti
    ·exact aR hTO
    ·obtain⟨o,e,_⟩:=st.h1.obj;exact aR e
    ·obtain⟨o,e,_⟩:=st.h2.obj;exact aR e
   exact live b hb
  rw[aG (bE hlt)];exact(hf b hb).1
 done:=by
  intro X hP hw hK hc i pins s σ H E I hf st hg;subst hP hw hK;obtain⟨xs,ys,q1,q2,hend⟩:=hg;obtain⟨rH,pD,p1,z1⟩:=I.sq q1;obtain⟨rJ,pE,p2,z2⟩:=I.sq q2;obtain⟨a,b,hTO⟩:=st.to;obtain⟨n1,n2,n3,n4,n5,n6,n7,n8,n9,n10⟩:=nd;have D:ZipApart z TI TO i1 i2 l1 l2:=⟨n1,n2,n3,n4,n5,n6,n7,n8,n9,n10,I.eW q1 (hf z (by simp)),I.eW q1 (hf TO (by simp)),I.eW q1 (hf i1 (by simp)),I.eW q1 (hf i2 (by simp)),
   I.eW q2 (hf z (by simp)),I.eW q2 (hf TO (by simp)),I.eW q2 (hf i1 (by simp)),I.eW q2 (hf i2 (by simp))⟩
  have e1:=pD.length;have e2:=pE.length;have hend':rH.toArray[i]?=none\/rJ.toArray[i]?=none:=by
   rcases hend with h|h
   ·exact .inl (by simp;omega)
   ·exact .inr (by simp;omega)
  refine RG (I.ok.hd hc) D st.hz st.ti hTO st.h1 st.h2 p1 p2 hend' λh' kk=>⟨rfl,?_⟩;have Gy:∀b∈[z,TO,i1,i2],b∈[z,TI,TO,i1,i2]:=λb hb=>by
   simp only[bx,fz,fK]at hb ⊢
   rcases hb with h|h|h|h<;>simp[h]
  exact I.Rj (t':=s.toks) (ch:=[z,TO,i1,i2]) (λb hb=>hf b (Gy b hb)) λb u hb e=>by
   simp only[bx,fz,fK,not_or]at hb;exact kk b u hb.1 hb.2.1 hb.2.2.1 hb.2.2.2 e
 self:=λ_ _ _ _ _ st h=>Ik st.hz h
noncomputable def iw (c:Bool) (l:Addr):Obj:={cls:=.type (match c with|true => "list_iterator" |false => "tuple_iterator"),data:=.fields #[.ref l,.int 0 0]}
theorem Gs{c:Bool}{h:Heap}{it l:Addr}(e:h.get? it=some (iw c l)):bw c h it l 0:=by
 cases c with
 |true=>exact⟨_,e,rfl,rfl⟩
 |false=>exact⟨_,e,rfl,rfl⟩
section
variable {prog:Program} {w:World} {A:Around} {E:Value->Shared->Prop} {s:Shared}
theorem rK{c:Bool}{l:Addr}{items:Array Value}{Q:Value->Shared->Prop}(hl:bI c s.heap l items)
  (hQ:Q (.ref s.heap.objs.size) {s with heap:=s.heap.push (iw c l)}):wpAny (model prog w) A (pyIter (.ref l)) Q E s:=by
 cases c with
 |true=>exact yh hl hQ
 |false=>exact Ij hl hQ
end
abbrev wW (c1:Bool) (h:Heap) (l1:Addr):Heap:=h.push (iw c1 l1)
abbrev wX (c1 c2:Bool) (h:Heap) (l1 l2:Addr):Heap:=(wW c1 h l1).push (iw c2 l2)
abbrev wY (c1 c2:Bool) (h:Heap) (l1 l2:Addr):Heap:=(wX c1 c2 h l1 l2).push {cls:=.type "tuple", data:=.seq #[.ref h.objs.size,.ref (wW c1 h l1).objs.size]}
abbrev wZ (c1 c2:Bool) (h:Heap) (l1 l2:Addr):Heap:=(wY c1 c2 h l1 l2).push {cls:=.type "tuple", data:=.seq #[.none,.none]}
abbrev m6 (c1 c2:Bool) (h:Heap) (l1 l2:Addr):Heap:=(wZ c1 c2 h l1 l2).push {cls:=.type "zip", data:=.fields #[.none,.bool false,.bool false,.ref (wX c1 c2 h l1 l2).objs.size,.ref (wY c1 c2 h l1 l2).objs.size]}
theorem Yu(c1 c2:Bool)(l1 l2:Addr)(xs ys:Array Value):
  Meets (Builtin.«zip.__new__» ⟨[.type "zip", .ref l1,.ref l2],[]⟩) (λ_ R s=>bI c1 s.heap l1 xs/\bI c2 s.heap l2 ys /\
   R (.ok (.ret (.ref (wZ c1 c2 s.heap l1 l2).objs.size))) {s with heap:=m6 c1 c2 s.heap l1 l2}):=
 .of_wp λprog w A R s h=>by
  obtain⟨hp,g,d,tk,os⟩:=s;obtain⟨hl1,hl2,h⟩:=h;have hsub:=sub_zip;have hL1:bI c1 (Shared.heap ⟨hp,g,d,tk,os⟩) l1 xs:=hl1;have hL2:bI c2 (Shared.heap ⟨hp.push (iw c1 l1),g,d,tk,os⟩) l2 ys:=hl2.at λo e=>aU _ e
  wp_walk using rK hL1,rK hL2
  exact⟨_,rfl,h⟩
section
variable {prog:Program} {w:World} {A:Around} {E:Value->Shared->Prop} {s:Shared}
theorem Jl{c1 c2:Bool}{l1 l2:Addr}{xs ys:Array Value}{Q:Value->Shared->Prop}(hl1:bI c1 s.heap l1 xs)(hl2:bI c2 s.heap l2 ys)(h:∀h',Ir c1 c2 (s.heap.objs.size+4) (s.heap.objs.size+2) (s.heap.objs.size+3) s.heap.objs.size (s.heap.objs.size+1) l1 l2 0 h'->h'.objs.size=s.heap.objs.size+5 ->
   (∀c o,s.heap.get? c=some o->h'.get? c=some o)->Q (.ref (s.heap.objs.size+4)) {s with heap:=h'}) :
  wpAny (model prog w) A (call (.type "zip") [.ref l1,.ref l2]) Q E s:=by
 refine callType_new F.called_zip (by decide) (F.typeCall_zip_2 _ _) (F.newCall_zip_2 _ _) (λobj=>F.args_object_init_3 obj _ _) F.entry_zip_new (Yu c1 c2 l1 l2 xs ys) ⟨hl1,hl2,?_⟩;have z1:(wW c1 s.heap l1).objs.size=s.heap.objs.size+1:=eE ..;have z2:(wX c1 c2 s.heap l1 l2).objs.size=s.heap.objs.size+2:=by rw[eE,z1]
 have z3:(wY c1 c2 s.heap l1 l2).objs.size=s.heap.objs.size+3:=by rw[eE,z2]
 have z4:(wZ c1 c2 s.heap l1 l2).objs.size=s.heap.objs.size+4:=by rw[eE,z3]
 have z5:(m6 c1 c2 s.heap l1 l2).objs.size=s.heap.objs.size+5:=by rw[eE,z4]
 have g5:(m6 c1 c2 s.heap l1 l2).get? (wZ c1 c2 s.heap l1 l2).objs.size=some _:=cn _ rfl;have g4:(m6 c1 c2 s.heap l1 l2).get? (wY c1 c2 s.heap l1 l2).objs.size=some _:=aU _ (cn _ rfl);have g3:(m6 c1 c2 s.heap l1 l2).get? (wX c1 c2 s.heap l1 l2).objs.size=some _:=aU _ (aU _ (cn _ rfl));have g2:(m6 c1 c2 s.heap l1 l2).get? (wW c1 s.heap l1).objs.size=some _:=aU _ (aU _ (aU _ (cn _ rfl)));have g1:(m6 c1 c2 s.heap l1 l2).get? s.heap.objs.size=some _:=aU _ (aU _ (aU _ (aU _ (cn _ rfl))));show _/\_;rw[z2,z3,z4]at g5;rw[z1,z2]at g3;rw[z3]at g4;rw[z1]at g2;rw[z4];exact⟨⟨_,g5,rfl⟩,h _ ⟨g5,g3,⟨_,_,g4⟩,Gs g1,Gs g2⟩ z5 λc o x =>
  aU _ (aU _ (aU _ (aU _ (aU _ x))))⟩
end
section
variable {X:Cx} {elts:List Expr} {k:Nat} {tpos:Pos}
def Mg(K:W.Frag)(c1 c2:Bool)(ta:TA):TI:=λσ H R=>ta σ H λvs H1=>∃l1 l2 xs ys,vs = [.ref l1,.ref l2]/\Sq c1 K H1 l1 xs/\Sq c2 K H1 l2 ys/\R (xm K c1 c2 l1 l2) H1
theorem aaY (c1 c2:Bool) {a b:Expr} {ta:TA} {p pos:Pos} (hg:Gl X "zip") (hm:X.mg "zip" = none) (ha:PA X [a,b] ta) (hs:starEach [a,b] X.env = [(false,eval a X.env),(false,eval b X.env)]:=by rfl) (hs2:starEach [b] X.env = [(false,eval b X.env)]:=by rfl) :
  PI X (.Tuple elts k tpos) (.Call (.Name "zip" p) [a,b] [] pos) (Mg X.K c1 c2 ta):=by
 intro pins s σ H R I h;refine Call_ (jw I hg hm (show bootBuiltins "zip" = some (.type "zip")by decide +kernel) (nI (aM (ha pos pins s σ H _ I h) λus s1 ⟨vs,H1,I1,r1,q1⟩=>?_) (by rw[hs,hs2]) (by rw[hs2];rfl)));obtain⟨l1,l2,xs,ys,e,q1,q2,q⟩:=q1;subst e;obtain⟨u,v,rfl,ru,rv⟩:=Vals.two r1;cases ru;cases rv;obtain⟨rH,_,p1,_⟩:=I1.sq q1;obtain⟨rJ,_,p2,_⟩:=I1.sq q2;refine Jl p1 p2 λh' zr hz hk=>Ik zr.hz ?_;have I2:Inv X pins σ H1 {s1 with heap:=h',toks:=s1.toks}:=I1.kept hk;have nd:∀n:Nat,n+2≠n+4/\n+3≠n+4/\n≠n+4/\n+1≠n+4/\n+2≠n+3/\n+2≠n/\n+2≠n+1/\n+3≠n/\n+3≠n+1/\n≠n+1:=λn=>by omega
 refine⟨_,_,_,_,H1,rfl,I2,acV l1 l2 (nd s1.heap.objs.size),zr,λb hb=>?_,q⟩;simp only[bx,fz,fK]at hb;have ge:s1.heap.objs.size<=b:=by rcases hb with rfl|rfl|rfl|rfl|rfl<;>omega
 exact I1.oF ge (I1.hok.fresh ge)
end
theorem JN{prog:Program}{w:World}{A:Around}(hh:A.handled=none)(c:Bool)(it l:Addr)(hne:l≠it)(items:Array Value):Draws prog w A it [it,l] items.size (λi v=>items[i]?=some v) (λi h=>bw c h it l i/\bI c h l items) where
 live:=λ_ _ st=>let⟨o,ho,_⟩:=st.1.obj;⟨o,ho⟩
 frame:=λ_ _ _ st hk=>⟨st.1.at λo e=>hk it (by simp) o e,st.2.at λo e=>hk l (by simp) o e⟩
 item:=λi s Q E hi st hQ=>mH st.1 st.2 (x:=items[i]) (by simp[hi]) λh' hit' hs'=>hQ _ h' s.toks (by simp[hi]) ⟨hit',st.2.at λo e=>hs'.extBut _ o hne e⟩ hs'
 done:=λs Q E st hE=>rT hh st.1 st.2 (by simp) hE
theorem Yt(c:Bool)(l:Addr)(items:Array Value):
  Meets (Builtin.«enumerate.__new__» ⟨[.type "enumerate", .ref l],[]⟩) (λ_ R s=>bI c s.heap l items /\
   R (.ok (.ret (.ref (s.heap.push (iw c l)).objs.size))) {s with heap:=(s.heap.push (iw c l)).push {cls:=.type "enumerate", data:=.fields #[.none,.bool false,.ref s.heap.objs.size,rawInt 0,.none,.none]}}):=
 .of_wp λprog w A R s h=>by
  obtain⟨hp,g,d,tk,os⟩:=s;obtain⟨hl,h⟩:=h;have hsub:=sub_enumerate;have hL:bI c (Shared.heap ⟨hp,g,d,tk,os⟩) l items:=hl
  wp_walk
  refine wpAny_stack_any λst=>aH ?_
  split
  ·rename_i cc _ _ _ _ _
   cases(cc==Value.type "enumerate")
   ·wp_walk using rK hL
    exact⟨_,rfl,h⟩
   ·wp_walk using rK hL
    exact⟨_,rfl,h⟩
  ·wp_walk using rK hL
   exact⟨_,rfl,h⟩
structure Hc (c:Bool) (e it l:Addr) (i:Nat) (h:Heap):Prop where
 he:∃old,IsEnum h e it i old
 h1:bw c h it l i
theorem S9{prog:Program}{w:World}{A:Around}{E:Value->Shared->Prop}{s:Shared}{c:Bool}{l:Addr}{items:Array Value}{Q:Value->Shared->Prop}(hl:bI c s.heap l items)
  (h:∀h',Hc c (s.heap.objs.size+1) s.heap.objs.size l 0 h'->h'.objs.size=s.heap.objs.size+2->(∀b o,s.heap.get? b=some o->h'.get? b=some o)->Q (.ref (s.heap.objs.size+1)) {s with heap:=h'}) :
  wpAny (model prog w) A (call (.type "enumerate") [.ref l]) Q E s:=by
 refine callType_new F.called_enumerate (by decide) (F.typeCall_enumerate_1 _) (F.newCall_enumerate_1 _) (λobj=>F.args_object_init_2 obj _) F.entry_enumerate_new (Yt c l items) ⟨hl,?_⟩;have hz:(s.heap.push (iw c l)).objs.size=s.heap.objs.size+1:=eE ..;have g2:((s.heap.push (iw c l)).push {cls:=.type "enumerate", data:=.fields #[.none,.bool false,.ref s.heap.objs.size,rawInt 0,.none,.none]}).get? (s.heap.push (iw c l)).objs.size=some _:=cn _ rfl;have g1:((s.heap.push (iw c l)).push {cls:=.type "enumerate", data:=.fields #[.none,.bool false,.ref s.heap.objs.size,rawInt 0,.none,.none]}).get? s.heap.objs.size=some (iw c l):=aU _ (cn _ rfl);show _/\_;rw[hz]at g2 ⊢;exact⟨⟨_,g2,rfl⟩,h _ ⟨⟨.none,g2⟩,Gs g1⟩ (by rw[eE,hz]) λb o e=>aU _ (aU _ e)⟩
noncomputable def Ite(K:W.Frag)(c:Bool)(l:Addr):It:=
 ⟨λi H=>∃xs x,Sq c K H l xs/\xs[i]?=some x,
   λi H v H'=>∃T x,v = .ref T/\H T=none/\H'=upd H T (.tup [.int i,x])/\∀xs,Sq c K H l xs->xs[i]?=some x,
   λi H=>∃xs,Sq c K H l xs/\xs.length=i⟩
theorem acR{P:Program}{w:World}{K:W.Frag}{elts:List Expr}{k:Nat}{pos:Pos}{c:Bool}{e it:Addr}(l:Addr)(ne:e≠it):Turn P w K (.Tuple elts k pos) (Ite K c l) [e,it] e (Hc c e it l) where
 mem:=by simp
 obj:=λi h st b hb=>by
  simp only[bx,fz,fK]at hb
  rcases hb with rfl|rfl
  ·obtain⟨old,q⟩:=st.he
   exact⟨_,q,λv q=>by cases(show Data.fields _=Data.cell v from q)⟩
  ·exact st.h1.obj
 keep:=λi h h' st kk=>⟨let⟨old,q⟩:=st.he;⟨old,kk e (by simp) _ q⟩,st.h1.at λo q=>kk it (by simp) o q⟩
 item:=by
  intro X hP hw hK hc i pins s σ H E I hf st hg;subst hP hw hK;obtain⟨xs,x,q1,hx⟩:=hg;obtain⟨its,rv,p,z⟩:=I.sq q1;obtain⟨u,hu,ru⟩:=rv.get hx;obtain⟨old,he⟩:=st.he;have n1:l≠e:=I.eW q1 (hf e (by simp));have n2:l≠it:=I.eW q1 (hf it (by simp));have hil:i<its.length:=by rw[<- rv.length];exact(bN.mp hx).1
  have hh:X.A.in1.handled=none:=I.ok.hd hc;refine wpAny_pyNext_enum_itemD (JN hh c it l n2 its.toArray) he ⟨st.h1,p⟩ (by simpa using hil) ne (by simp[ne,bQ n1]) λx' h' tk hP ho hs' hT hsz hk=>?_;have ex:x'=u:=by
   have hu':its.toArray[i]?=some u:=by simpa using hu
   rw[hu']at hP;exact(df hP).symm
  subst ex;refine⟨_,rfl,wpAny_letOwnedTupleGo_enum ho λh2 b1 b2=>?_⟩;have elt:e<s.heap.objs.size:=aR he;obtain⟨oi,ei,_⟩:=st.h1.obj;have Xh:it<s.heap.objs.size:=aR ei;have keep:∀b u,b ∉ [e,it]->s.heap.get? b=some u->h2.get? b=some u:=λb u hb q=>by
   simp only[bx,fz,fK,not_or]at hb;exact b2.extBut _ _ hb.1 (hk b u hb.1 hb.2 q)
  have hT2:IsPair h2 s.heap.objs.size (.int i tk) x':=b2.extBut _ _ (dO elt) hT;have I2:Inv X pins σ (upd H s.heap.objs.size (.tup [.int i,x])) {s with heap:=h2,toks:=tk+1}:=I.Rk hf keep (aW _) (Dh hT2 ⟨tk,rfl⟩ ru);refine⟨.ref s.heap.objs.size,_,I2,rfl,⟨_,x,rfl,I.fresh,rfl,λzs hz=>by rw[I.Gu hz q1];exact hx⟩,⟨⟨x',by simpa using b1⟩,hs'.1.at λo q=>b2.extBut _ o (bQ ne) q⟩,λb hb=>?_⟩;have hlt:b<s.heap.objs.size:=by
   simp only[bx,fz,fK]at hb
   rcases hb with rfl|rfl
   ·exact elt
   ·exact Xh
  rw[aG (bE hlt)];exact(hf b hb).1
 done:=by
  intro X hP hw hK hc i pins s σ H E I hf st hg;subst hP hw hK;obtain⟨xs,q1,hend⟩:=hg;obtain⟨its,rv,p,z⟩:=I.sq q1;obtain⟨old,he⟩:=st.he;have n2:l≠it:=I.eW q1 (hf it (by simp));have el:i=its.toArray.size:=by rw[<- hend,rv.length];simp
  have hh:X.A.in1.handled=none:=I.ok.hd hc;refine wpAny_pyNext_enum_endD (JN hh c it l n2 its.toArray) he (by rw[<- el];exact⟨st.h1,p⟩) λh' hx=>⟨rfl,?_⟩;exact I.Rj (t':=s.toks) (ch:=[e,it]) hf λb u hb q=>by
   simp only[bx,fz,fK,not_or]at hb;exact hx b u hb.2 q
 self:=λ_ _ _ _ _ st h=>let⟨_,he⟩:=st.he;wpAny_pyIter_enum he h
section
variable {X:Cx} {elts:List Expr} {k:Nat} {tpos:Pos}
def Ma(K:W.Frag)(c:Bool)(ta:TA):TI:=λσ H R=>ta σ H λvs H1=>∃l xs,vs = [.ref l]/\Sq c K H1 l xs/\R (Ite K c l) H1
theorem aaU (c:Bool) {a:Expr} {ta:TA} {p pos:Pos} (hg:Gl X "enumerate") (hm:X.mg "enumerate" = none) (ha:PA X [a] ta) (hs:starEach [a] X.env = [(false,eval a X.env)]:=by rfl) :
  PI X (.Tuple elts k tpos) (.Call (.Name "enumerate" p) [a] [] pos) (Ma X.K c ta):=by
 intro pins s σ H R I h;refine Call_ (jw I hg hm (show bootBuiltins "enumerate" = some (.type "enumerate")by decide +kernel) (nI (aM (ha pos pins s σ H _ I h) λus s1 ⟨vs,H1,I1,r1,q1⟩=>?_) hs rfl));obtain⟨l,xs,e,q1,q⟩:=q1;subst e;obtain⟨u,rfl,ru⟩:=Vals.one r1;cases ru;obtain⟨its,_,p1,_⟩:=I1.sq q1;refine S9 p1 λh' er hz hk=>let⟨_,he⟩:=er.he;wpAny_pyIter_enum he ?_
 have I2:Inv X pins σ H1 {s1 with heap:=h',toks:=s1.toks}:=I1.kept hk;refine⟨_,_,_,_,H1,rfl,I2,acR l (show s1.heap.objs.size+1≠s1.heap.objs.size by omega),er,λb hb=>?_,q⟩;simp only[bx,fz,fK]at hb;have ge:s1.heap.objs.size<=b:=by rcases hb with rfl|rfl<;>omega
 exact I1.oF ge (I1.hok.fresh ge)
end
theorem Same.put{H:Hp}{a:Addr}{o:HO}(h:H a=none):Same H (upd H a o):=λb u e=>by rw[aG (dg e h)];exact e
def dE(D:Addr)(H H':Hp):Prop:=∀b o,b≠D->H b=some o->H' b=some o
theorem Same.x{H H':Hp}(s:Same H H')(D:Addr):dE D H H':=λb o _ e=>s b o e
theorem dE.put{D:Addr}{H:Hp}{o:HO}:dE D H (upd H D o):=λb u hb e=>by rw[aG hb];exact e
theorem dE.trans{D:Addr}{H H1 H2:Hp}(a:dE D H H1)(b:dE D H1 H2):dE D H H2:=λc o hc e=>b c o hc (a c o hc e)
theorem dE.of{D:Addr}{H H':Hp}(h:H D=none)(s:dE D H H'):Same H H':=λb o e=>s b o (dg e h) e
theorem Same.sq{K:W.Frag}{H H':Hp}{a:Addr}{xs:List V}{c:Bool}(e:Same H H')(h:Sq c K H a xs):Sq c K H' a xs:=by
 cases c with
 |true=>exact e.seq h
 |false =>
  rcases h with(h|⟨o,h⟩)|h
  ·exact .inl (.inl (e _ _ h))
  ·exact .inl (.inr ⟨o,e _ _ h⟩)
  ·exact .inr h
theorem Same.mQ{K:W.Frag}{H H':Hp}{a:Addr}{xs:List V}(e:Same H H')(h:az K H a xs):az K H' a xs:=e.sq (c:=false) h
structure iJ (J:It) (g:TG) (σ₀:St) (H1:Hp) (n:Nat) (sl:Nat->St):Prop where
 go:∀i H,i<n->Same H1 H->J.go i H
 stop:∀H,Same H1 H->J.stop n H
 step:∀i H x H' (K:St->Hp->Prop),i<n->Same H1 H->J.mZ i H x H'->(∀H2,Same H H2->K (sl i) H2)->g x σ₀ H' λσ2 H2=>Wk σ₀ σ2/\K σ2 H2
theorem src_range{lo:Int}{n:Nat}{ρ:St}{H1:Hp}:iJ (kI lo n) (cK 0) (none::ρ) H1 n (λi=>some (.int (lo+i))::ρ) where
 go:=λi H hi _=>hi
 stop:=λH _=>aW n
 step:=λi H x H' K hi hs hy hk=>by
  obtain⟨rfl,rfl⟩:=hy;exact⟨Wk.set (Wk.refl _) rfl,hk _ (Same.refl _)⟩
theorem src_list{K:W.Frag}{a:Addr}{xs:List V}{ρ:St}{H1:Hp}(h:ag K H1 a xs):iJ (kH K a) (cK 0) (none::ρ) H1 xs.length (λi=>some (xs.getD i .non)::ρ) where
 go:=λi H hi hs=>⟨xs,xs[i],hs.seq h,ay hi⟩
 stop:=λH hs=>⟨xs,hs.seq h,aW _⟩
 step:=λi H x H' K hi hs hy hk=>by
  obtain⟨rfl,hx⟩:=hy;have e:=hx xs (hs.seq h);have e2:xs.getD i .non=x:=by rw[aN,e];rfl
  refine⟨Wk.set (Wk.refl _) rfl,?_⟩;have:=hk _ (Same.refl _);rw[e2]at this;exact this
theorem Gv{K:W.Frag}{a:Addr}{xs:List V}{ρ:St}{H1:Hp}(h:az K H1 a xs):iJ (tD K a) (cK 0) (none::ρ) H1 xs.length (λi=>some (xs.getD i .non)::ρ) where
 go:=λi H hi hs=>⟨xs,xs[i],hs.mQ h,ay hi⟩
 stop:=λH hs=>⟨xs,hs.mQ h,aW _⟩
 step:=λi H x H' K hi hs hy hk=>by
  obtain⟨rfl,hx⟩:=hy;have e:=hx xs (hs.mQ h);have e2:xs.getD i .non=x:=by rw[aN,e];rfl
  refine⟨Wk.set (Wk.refl _) rfl,?_⟩;have:=hk _ (Same.refl _);rw[e2]at this;exact this
theorem wI{K:W.Frag}{c1 c2:Bool}{a b:Addr}{xs ys:List V}{n:Nat}{ρ:St}{H1:Hp}(h1:Sq c1 K H1 a xs)(h2:Sq c2 K H1 b ys)(hn:n=min xs.length ys.length):iJ (xm K c1 c2 a b) (qN K 2 (mw (cK 0) (mw (cK 1) uE))) (none::none::ρ) H1 n (λi=>some (xs.getD i .non)::some (ys.getD i .non)::ρ) where
 go:=λi H hi hs=>⟨xs,ys,xs[i]'(by omega),ys[i]'(by omega),hs.sq h1,hs.sq h2,ay (by omega),ay (by omega)⟩
 stop:=λH hs=>⟨xs,ys,hs.sq h1,hs.sq h2,by omega⟩
 step:=λi H v H' Kk hi hs hy hk=>by
  obtain⟨T,x,y,rfl,hT,rfl,hx,hy⟩:=hy;have e1:=hx xs (hs.sq h1);have e2:=hy ys (hs.sq h2);have e3:xs.getD i .non=x:=by rw[aN,e1];rfl
  have e4:ys.getD i .non=y:=by rw[aN,e2];rfl
  refine⟨T,[x,y],rfl,.inl (.inl av),rfl,x,[y],rfl,y,[],rfl,rfl,?_⟩;have:=hk (upd H T (.tup [x,y])) (Same.put hT);rw[e3,e4]at this;exact⟨Wk.set (Wk.set (Wk.refl _) rfl) rfl,this⟩
theorem Paired.ab1{α β:Type}{F:α->β->Prop}{l₁:List α}{l₂:List β}{a:α}{b:β}(r:Paired F l₁ l₂)(h:F a b):Paired F (l₁++[a]) (l₂++[b]):=xY r h
theorem zb{J:It}{g:TG}{tc:TT}{te:TE}{σ₀:St}{D:Addr}{Q:Hp->Prop}{H1:Hp}{n:Nat}{sl:Nat->St}(keep:Nat->Bool)(Rl:Nat->V->Hp->Prop)(S:iJ J g σ₀ H1 n sl)(hD:H1 D=none)(hn:n<sizeLine)(mono:∀i v H H',dE D H H'->Rl i v H->Rl i v H')(step:∀i H (Kt:V->Hp->Prop) (Kf:Hp->Prop),i<n->Same H1 H->(∃ys,H D=some (.lst ys))->(∀v H',keep i=true->Same H H'->Rl i v H'->Kt v H')->(∀H',keep i=false->Same H H'->Kf H') ->
   tc (sl i) H λb H3=>if b=true then te (sl i) H3 Kt else Kf H3)
  (fin:∀H' ys,Same H1 H'->H' D=some (.lst ys)->Paired (λi v=>Rl i v H') ((List.range n).filter keep) ys->Q H'):jM J g tc te σ₀ D Q (upd H1 D (.lst [])):=by
 refine⟨λi m ys H=>m=n - i/\i<=n/\Same H1 H/\H D=some (.lst ys)/\Paired (λi v=>Rl i v H) ((List.range i).filter keep) ys,⟨n,by omega,by omega,Same.put hD,av,.nil⟩,?_⟩;rintro i m ys H ⟨hm,hi,hs,hl,hp⟩;have hlen:ys.length<=i:=by
  have:=dh hp;rw[<- this];exact b_ (p6 _ _) (by simp)
 by_cases e:i=n
 ·subst e
  exact .inl ⟨S.stop H hs,fin H ys hs hl hp⟩
 ·have hin:i<n:=by omega
  refine .inr ⟨S.go i H hin hs,λys' H'=>i+1<=n/\Same H1 H'/\H' D=some (.lst ys')/\Paired (λi v=>Rl i v H') ((List.range (i+1)).filter keep) ys',λys' H' h=>⟨n - (i+1),by omega,rfl,h⟩,λx H' hy=>?_⟩;refine S.step i H x H' (λσ2 H2=>tc σ2 H2 λb H3=>if b=true then te σ2 H3 λy H4=>H4 D=some (.lst ys)/\ys.length<sizeLine/\_ else _) hin hs hy λH2 s2=>?_;have up:∀{H':Hp},Same H2 H'->Paired (λi v=>Rl i v H') ((List.range i).filter keep) ys:=λ{H'} s'=>Paired.d_ hp λa b r=>mono a b _ _ ((s2.trans s').x D) r;refine step i H2 _ _ hin (hs.trans s2) ⟨ys,s2 _ _ hl⟩ (λv H4 hk s4 r=>?_) λH4 hk s4=>?_
  ·have cL:H4 D=some (.lst ys):=s4 _ _ (s2 _ _ hl)
   refine⟨cL,by omega,hin,?_,av,?_⟩
   ·exact dE.of hD (((hs.trans (s2.trans s4)).x D).trans dE.put)
   ·rw[jg,pU]
    have e1:[i].filter keep = [i]:=by simp[hk]
    rw[e1];exact xY (Paired.d_ (up s4) λa b q=>mono a b _ _ dE.put q) (mono _ _ _ _ dE.put r)
  ·refine⟨hin,hs.trans (s2.trans s4),s4 _ _ (s2 _ _ hl),?_⟩
   rw[jg,pU];have e1:[i].filter keep = []:=by simp[hk]
   rw[e1,h_];exact up s4
theorem Od{α:Type}{f:α->V}:∀{l:List α} {ys:List V},Paired (λi v=>v=f i) l ys->ys=l.map f
 |_,_,.nil=>rfl
 |_,_,.cons h t=>by rw[h,Od t];rfl
theorem jY{J:It}{g:TG}{tc:TT}{te:TE}{σ₀:St}{D:Addr}{Q:Hp->Prop}{H1:Hp}{n:Nat}{sl:Nat->St}(keep:Nat->Bool)(f:Nat->V)(S:iJ J g σ₀ H1 n sl)(hD:H1 D=none)(hn:n<sizeLine)(step:∀i H (Kt:V->Hp->Prop) (Kf:Hp->Prop),i<n->Same H1 H->(∀H',keep i=true->Same H H'->Kt (f i) H')->(∀H',keep i=false->Same H H'->Kf H') ->
   tc (sl i) H λb H3=>if b=true then te (sl i) H3 Kt else Kf H3)
  (fin:∀H',Same H1 H'->H' D=some (.lst (((List.range n).filter keep).map f))->Q H'):jM J g tc te σ₀ D Q (upd H1 D (.lst [])):=
 zb keep (λi v _=>v=f i) S hD hn (λ_ _ _ _ _ h=>h) (λi H Kt Kf hi hs _ h1 h2=>step i H Kt Kf hi hs (λH' hk s'=>h1 _ H' hk s' rfl) h2)
  λH' ys hs hl hp=>fin H' hs (by rw[hl,Od hp])
theorem filter_true{α:Type}(l:List α):l.filter (λ_=>true)=l:=List.filter_eq_self.mpr λ_ _=>rfl
theorem eQ{J:It}{g:TG}{te:TE}{σ₀:St}{D:Addr}{Q:Hp->Prop}{H1:Hp}{n:Nat}{sl:Nat->St}(f:Nat->V)(S:iJ J g σ₀ H1 n sl)(hD:H1 D=none)(hn:n<sizeLine)(step:∀i H (Kt:V->Hp->Prop),i<n->Same H1 H->(∀H',Same H H'->Kt (f i) H')->te (sl i) H Kt)(fin:∀H',Same H1 H'->H' D=some (.lst ((List.range n).map f))->Q H'):jM J g pN te σ₀ D Q (upd H1 D (.lst [])):=
 jY (λ_=>true) f S hD hn (λi H Kt Kf hi hs h1 _=>eR (A:=te (sl i) H Kt) (B:=Kf H) (step i H Kt hi hs λH' s'=>h1 H' rfl s')) λH' hs hl=>fin H' hs (by rw[hl,filter_true])
theorem qC{J:It}{g:TG}{te:TE}{σ₀:St}{D:Addr}{Q:Hp->Prop}{H1:Hp}{n:Nat}{sl:Nat->St}(Rl:Nat->V->Hp->Prop)(S:iJ J g σ₀ H1 n sl)(hD:H1 D=none)(hn:n<sizeLine)(mono:∀i v H H',dE D H H'->Rl i v H->Rl i v H')(step:∀i H (Kt:V->Hp->Prop),i<n->Same H1 H->(∃ys,H D=some (.lst ys))->(∀v H',Same H H'->Rl i v H'->Kt v H')->te (sl i) H Kt)(fin:∀H' ys,Same H1 H'->H' D=some (.lst ys)->Paired (λi v=>Rl i v H') (List.range n) ys->Q H'):jM J g pN te σ₀ D Q (upd H1 D (.lst [])):=
 zb (λ_=>true) Rl S hD hn mono (λi H Kt Kf hi hs hy h1 _=>eR (A:=te (sl i) H Kt) (B:=Kf H) (step i H Kt hi hs hy λv H' s' r=>h1 v H' rfl s' r)) λH' ys hs hl hp=>fin H' ys hs hl (by rw[filter_true]at hp;exact hp)
theorem za{J:It}{g:TG}{te:TE}{σ₀:St}{D:Addr}{Q:Hp->Prop}{H1:Hp}{n:Nat}{sl:Nat->St}(c:Nat->List V)(S:iJ J g σ₀ H1 n sl)(hD:H1 D=none)(hn:n<sizeLine)(step:∀i H (Kt:V->Hp->Prop),i<n->Same H1 H->(∀a H',Same H H'->H a=none->H' a=some (.lst (c i))->Kt (.ref a) H')->te (sl i) H Kt)(fin:∀H' (as:List Addr),Same H1 H'->H' D=some (.lst (as.map V.ref))->as.length=n->as.Nodup->(∀a∈as,H1 a=none/\a≠D)->(∀(i:Nat) a,as[i]?=some a->H' a=some (.lst (c i)))->Q H'):jM J g pN te σ₀ D Q (upd H1 D (.lst [])):=by
 refine⟨λi m ys H=>m=n - i/\i<=n/\Same H1 H/\H D=some (.lst ys)/\∃as:List Addr,ys=as.map V.ref/\as.length=i/\as.Nodup/\(∀a∈as,H1 a=none/\a≠D)/\∀(j:Nat) a,as[j]?=some a->H a=some (.lst (c j)),
  ⟨n,by omega,by omega,Same.put hD,av,[],rfl,rfl,xD,λ_ h=>(nomatch h),λj a h=>by simp at h⟩,?_⟩
 rintro i m ys H ⟨hm,hi,hs,hl,as,rfl,h1,h2,h3,h4⟩
 by_cases e:i=n
 ·subst e
  exact .inl ⟨S.stop H hs,fin H as hs hl h1 h2 h3 h4⟩
 ·have hin:i<n:=by omega
  refine .inr ⟨S.go i H hin hs,λys' H'=>i+1<=n/\Same H1 H'/\H' D=some (.lst ys')/\∃as:List Addr,ys'=as.map V.ref/\as.length=i+1/\as.Nodup/\(∀a∈as,H1 a=none/\a≠D)/\∀(j:Nat) a,as[j]?=some a->H' a=some (.lst (c j)),
   λys' H' h=>⟨n - (i+1),by omega,rfl,h⟩,λx H' hy=>?_⟩
  refine S.step i H x H' (λσ2 H2=>pN σ2 H2 λb H3=>if b=true then te σ2 H3 λy H4=>H4 D=some (.lst (as.map V.ref))/\(as.map V.ref).length<sizeLine/\_ else _) hin hs hy λH2 s2=>?_;dsimp only[pN];rw[if_pos rfl];refine step i H2 _ hin (hs.trans s2) λa H4 s4 ha hc=>?_;have cL:H4 D=some (.lst (as.map V.ref)):=s4 _ _ (s2 _ _ hl);have haD:a≠D:=λe=>by rw[e,s2 _ _ hl]at ha;cases ha
  have Ss:a ∉ as:=λhm=>by
   obtain⟨j,hj,e⟩:=ie hm;have:=s2 _ _ (h4 j a (by rw[ay hj,e]));rw[ha]at this;cases this
  refine⟨cL,by simp;omega,hin,dE.of hD (((hs.trans (s2.trans s4)).x D).trans dE.put),av,as++[a],by simp,by simp[h1],?_,?_,?_⟩
  ·exact Ho.mpr ⟨h2,by simp,λx hx y hy=>by simp at hy;subst hy;exact λe=>Ss (e▸hx)⟩
  ·intro b hb
   rcases gy.mp hb with hb|hb
   ·exact h3 b hb
   ·simp at hb
    subst hb;exact⟨(hs.trans s2).free ha,haD⟩
  ·intro j b hj
   by_cases hjl:j<as.length
   ·rw[jf hjl]at hj
    have q:=h4 j b hj;have hbD:b≠D:=(h3 b (dr hj)).2;rw[aG hbD];exact s4 _ _ (s2 _ _ q)
   ·have hj2:(as++[a])[j]?=some b:=hj
    rw[iE (by omega)]at hj2;have e0:j=as.length:=by
     by_cases z:j - as.length=0
     ·omega
     ·rw[List.getElem?_eq_none (by simp;omega)]at hj2;cases hj2
    subst e0;simp at hj2;subst hj2;rw[aG haD,h1];exact hc
def Pu(pre:List V->Hp->Prop)(post:List V->Hp->V->Hp->Prop):Sp:=λvs H Q _=>pre vs H/\∀v H',Same H H'->post vs H v H'->Q v H'
noncomputable def yw(sc fW:Scope)(N:List Str)(fr:List (Str × Nat)):Bool:=
 sc.kind==.function&&sc.names.all (λy=>y.2 != .cell&&(y.2 != .local||sc.names.lookup y.1==some .local)&&(y.2 != .free||fW.names.lookup y.1==some .cell||fW.names.lookup y.1==some .free)) &&
 fr.all λp=>N[p.2]?==some p.1&&sc.names.lookup p.1==some .free
theorem cp{X:Cx}{scope:Scope}{fr:List (Str × Nat)}(fW:Scope)(N:List Str)(h1:X.env.scope=fW)(h2:X.N=N)(h:yw scope fW N fr=true):gq X scope fr:=by
 unfold yw at h;rw[bJ,bJ]at h;obtain⟨⟨a,b⟩,c⟩:=h;rw[fX]at b c;subst h1 h2;refine⟨by simpa using a,λy hy e=>?_,λy hy e=>?_,λy hy e=>?_,λp hp=>?_⟩
 ·have:=b y hy
  rw[e]at this;simp at this
 ·have:=b y hy
  rw[e]at this;simpa using this
 ·have:=b y hy
  rw[e]at this;simpa using this
 ·have:=c p hp
  simpa using this
structure aC (P:Program) (w:World) (K:W.Frag) (mg:Str->Option Value) (base:Heap) (x:Str) (ps:List Str) (k:Nat) (sp:Sp):Prop where
 ex:∃(f:Addr) (fd:FuncData),aO P w K mg base aX k f fd ps sp/\mg x=some (.ref f)/\W.keepIn K (.ref f)=true/\Binds K fd ps []
section
variable {X:Cx} {x:Str} {ps:List Str} {k k':Nat} {sp:Sp} {e:Expr} {es:List Expr} {t:TA} {p pos:Pos}
theorem aL (c:aC X.prog X.w X.K X.mg X.base x ps k sp) (hr:bR k' X.A) (hg:Gl X x) (ha:PA X (e::es) t) (hk:k<=k':=by decide) (hdb:(x==("__debug__" : Str))=false:=by decide)
  (he:starEach (e::es) X.env=(false,eval e X.env)::starEach es X.env:=by rfl) (hpl:(backTo pos (starEach es X.env)).any (·.1)=false:=by rfl):PE X (.Call (.Name x p) (e::es) [] pos) (pM sp [] E0 t):=by
 obtain⟨f,fd,F,hm,kp,b⟩:=c.ex;exact Oh F (hr.mono hk) hg hm kp b .nil Dk ha hdb he hpl
theorem aaE (c:aC X.prog X.w X.K X.mg X.base x ps k sp) (hr:bR k' X.A) (hg:Gl X x) (hk:k<=k':=by decide) (hdb:(x==("__debug__" : Str))=false:=by decide):PE X (.Call (.Name x p) [] [] pos) (pM sp [] E0 GC):=by
 obtain⟨f,fd,F,hm,kp,b⟩:=c.ex;exact aaD F (hr.mono hk) hg hm kp b .nil Dk hdb
end
theorem S' {X:Cx} (T:String):dD X (.builtin "isinstance") (λxs H Q=>∃x t b,xs = [x,.ty T]/\gC X.K H x t/\W.kitOne X.K t (.type T)=some b/\Q (.bl b) H):=by
 intro pins s σ H xs us Q I r h;obtain⟨x,t,b,rfl,ty,e,q⟩:=h;obtain⟨u,v,rfl,ru,rv⟩:=Vals.two r;cases rv;exact Xx I ru ty e λtk=>⟨.bl b,H,I.tok _,rfl,q⟩
theorem Jk:bootBuiltins "bool" = some (.type "bool"):=by decide +kernel
theorem uh:bootBuiltins "int" = some (.type "int"):=by decide +kernel
theorem jW:bootBuiltins "list" = some (.type "list"):=by decide +kernel
theorem jX:bootBuiltins "tuple" = some (.type "tuple"):=by decide +kernel
section
variable {X:Cx} {K:W.Frag}
theorem aV(h:X.K=K):ni X (O1 K):=h▸Xz
theorem aK(h:X.K=K):ni X (O2 K):=h▸XC
theorem fk(h:X.K=K):qk X (O4 K):=h▸abV
theorem QM(h:X.K=K):qk X (O5 K):=h▸abW
theorem N5(h:X.K=K):bY X (compareOp .In) (vJ K false):=h▸aap
theorem aaq(h:X.K=K):bY X (compareOp .NotIn) (vJ K true):=h▸aar
def abn(K:W.Frag):List V->Hp->VK->Prop:=λxs H Q=>∃p ys,xs = [.ref p]/\(ag K H p ys\/az K H p ys)/\Q (.int ys.length) H
theorem cI (h:X.K=K):dD X (.builtin "len") (abn K):=h▸Ta
def abo(K:W.Frag):List V->Hp->VK->Prop:=λxs H Q=>∃p ys,xs = [.ref p]/\(ag K H p ys\/az K H p ys)/\∀l,H l=none->Q (.ref l) (upd H l (.lst ys))
theorem oA (h:X.K=K):dD X (.type "list") (abo K):=h▸Tc
def abB(K:W.Frag):List V->Hp->VK->Prop:=λxs H Q=>∃p ys,xs = [.ref p]/\((ag K H p ys/\∀l,H l=none->Q (.ref l) (upd H l (.tup ys)))\/(az K H p ys/\Q (.ref p) H))
theorem mj (h:X.K=K):dD X (.type "tuple") (abB K):=h▸Tq
noncomputable def abk(K:W.Frag)(T:String):List V->Hp->VK->Prop:=λxs H Q=>∃x t b,xs = [x,.ty T]/\gC K H x t/\W.kitOne K t (.type T)=some b/\Q (.bl b) H
theorem k_ (T:String) (h:X.K=K):dD X (.builtin "isinstance") (abk K T):=h▸S' T
variable {tg:Expr} {l:Expr} {tl:TE} {elts:List Expr} {k:Nat} {tpos pos p apos cpos:Pos} {a b o e:Expr} {es:List Expr} {ta:TA} {te tv to:TE} {f:Str}
theorem dk(h:X.K=K)(hl:PE X l tl):PI X tg l (Mb K tl):=h▸aaV hl
theorem Dr(h:X.K=K)(hl:PE X l tl):PI X tg l (Mf K tl):=h▸aaX hl
theorem vE (c1 c2:Bool) (h:X.K=K) (hg:Gl X "zip") (hm:X.mg "zip" = none) (ha:PA X [a,b] ta) (hs:starEach [a,b] X.env = [(false,eval a X.env),(false,eval b X.env)]:=by rfl) (hs2:starEach [b] X.env = [(false,eval b X.env)]:=by rfl) :
  PI X (.Tuple elts k tpos) (.Call (.Name "zip" p) [a,b] [] pos) (Mg K c1 c2 ta):=h▸aaY c1 c2 hg hm ha hs hs2
theorem Dp (c:Bool) (h:X.K=K) (hg:Gl X "enumerate") (hm:X.mg "enumerate" = none) (ha:PA X [a] ta) (hs:starEach [a] X.env = [(false,eval a X.env)]:=by rfl) :
  PI X (.Tuple elts k tpos) (.Call (.Name "enumerate" p) [a] [] pos) (Ma K c ta):=h▸aaU c hg hm ha hs
theorem fe(h:X.K=K)(he:PE X e te)(hb:attributeBase e f X.env (eval e X.env)=eval e X.env):PE X (.Attribute e f pos) (Q_ K te f):=h▸aaJ he hb
theorem si{value:Expr}{pos':Pos}(h:X.K=K)(ha:PE X o te)(hv:PE X value tv)(hs:swapsWith value (some (.Attribute o f pos')) pos.line X.env=pure false):PS X (.Assign [.Attribute o f pos'] value pos) (Pa K te tv f):=h▸aa3 ha hv hs
variable {name:Str} {T id:String} {r:V->List V->Hp->VK->Prop} {t:TA}
theorem aaC (h:X.K=K) (pa:PlainAttrs T) (slot:Slot T name id) (hty:typeOf (.builtin id)=pure (.type "method_descriptor")) (hm:lT X id r) (ho:PE X o to)
  (hbase:attributeBase o name X.env (eval o X.env)=eval o X.env:=by rfl) (hline:(apos.endLine==cpos.line)=true:=by rfl):PE X (.Call (.Attribute o name apos) [] [] cpos) (Q7 K T r to):=h▸aaB pa slot hty hm ho hbase hline
theorem eV (h:X.K=K) (pa:PlainAttrs T) (slot:Slot T name id) (hty:typeOf (.builtin id)=pure (.type "method_descriptor")) (hm:lT X id r) (ho:PE X o to) (ha:PA X (e::es) t)
  (h1:attributeBase o name X.env (eval o X.env)=eval o X.env:=by rfl)
  (h2:((backTo cpos (starEach (e::es) X.env)).all (λx=>!x.1)&&(backToKw cpos (keywordEach [] X.env)).all (λx=>x.1.isSome)&&decide ((e::es).length+([]:List Keyword).length+(if([]:List Keyword).isEmpty then 0 else 1)<30))=true:=by rfl)
  (h3:(apos.endLine==cpos.line)=true:=by rfl) (h4:starEach (e::es) X.env=(false,eval e X.env)::starEach es X.env:=by rfl) (h5:(backTo cpos (starEach es X.env)).any (·.1)=false:=by rfl) :
  PE X (.Call (.Attribute o name apos) (e::es) [] cpos) (Q6 K T r to t):=h▸aaA pa slot hty hm ho ha h1 h2 h3 h4 h5
theorem lA{x y:Str}{i j:Nat}{p1 p2:Pos}(h:X.K=K)(hc:X.calm=true)(hN:X.N.Nodup)(hi:X.N[i]?=some x)(hj:X.N[j]?=some y)(hx:X.env.scope.names.lookup x=some .local)(hy:X.env.scope.names.lookup y=some .local):PG X (.Tuple [.Name x p1,.Name y p2] k tpos) (qN K 2 (mw (cK i) (mw (cK j) uE))):=
 h▸Ol hc (mI (bf hN hi (Or.inl hx) (Or.inr hx)) (mI (bf hN hj (Or.inl hy) (Or.inr hy)) Om))
end
noncomputable def Its(c:Bool)(K:W.Frag)(a:Addr):It:=match c with
 |true=>kH K a
 |false=>tD K a
def Xe(K:W.Frag)(c:Bool)(tl:TE):TI:=λσ H R=>tl σ H λx H1=>∃a,x = .ref a/\(∃xs,Sq c K H1 a xs)/\R (Its c K a) H1
def abm(K:W.Frag)(c:Bool):R2:=λx y H Q=>∃p xs i v,x = .ref p/\y = .int i/\Sq c K H p xs/\eN xs i=some v/\Q v H
section
variable {X:Cx} {K:W.Frag} {tg l:Expr} {tl:TE}
theorem aaW(c:Bool)(h:X.K=K)(hl:PE X l tl):PI X tg l (Xe K c tl):=by
 cases c with
 |true=>exact dk h hl
 |false=>exact Dr h hl
theorem XB(c:Bool)(h:X.K=K):ni X (abm K c):=by
 cases c with
 |true=>exact aV h
 |false=>exact aK h
theorem ab_{c:Bool}{a:Addr}{xs:List V}{ρ:St}{H1:Hp}(h:Sq c K H1 a xs):iJ (Its c K a) (cK 0) (none::ρ) H1 xs.length (λi=>some (xs.getD i .non)::ρ):=by
 cases c with
 |true=>exact src_list h
 |false=>exact Gv h
end
section
variable {K:W.Frag} {g:TG} {tb:TS} {D:Ends} {σ:St} {H:Hp}
theorem Bh{c:Bool}{l:Addr}{xs:List V}(Pv:Nat->St->Hp->Prop)(h0:Pv 0 σ H)(hl:∀i σ H,Pv i σ H->Sq c K H l xs)
  (hs:∀i x σ H T,xs[i]?=some x->H T=none->Pv i σ H->g (.ref T) σ (upd H T (.tup [.int i,x])) λσ2 H2=>tb {D with nx:=Pv (i+1),ct:=Pv (i+1),bk:=D.nx} σ2 H2) (hd:∀σ H,Pv xs.length σ H->D.nx σ H) :
  ∃W:Nat->Nat->St->Hp->Prop,(∃m,W 0 m σ H)/\∀i m σ H,W i m σ H ->
   ((Ite K c l).stop i H/\D.nx σ H)\/((Ite K c l).go i H/\∃N:St->Hp->Prop,(∀σ' H',N σ' H'->∃m',m'<m/\W (i+1) m' σ' H')/\∀x H',(Ite K c l).mZ i H x H'->g x σ H' λσ2 H2=>tb {D with nx:=N,ct:=N,bk:=D.nx} σ2 H2):=by
 refine⟨λi m σ H=>m=xs.length - i/\i<=xs.length/\Pv i σ H,⟨xs.length,by simp,eD _,h0⟩,?_⟩;rintro i m σ H ⟨rfl,hi,p⟩;have q:=hl i σ H p
 by_cases hlt:i<xs.length
 ·refine .inr ⟨⟨xs,xs[i],q,by simp[hlt]⟩,Pv (i+1),λσ' H' p'=>⟨xs.length - (i+1),by omega,rfl,hlt,p'⟩,λx H' y=>?_⟩
  obtain⟨T,x,rfl,hT,rfl,hx⟩:=y;exact hs i x σ H T (hx xs q) hT p
 ·have e:i=xs.length:=by omega
  subst e;exact .inl ⟨⟨xs,q,rfl⟩,hd σ H p⟩
end
theorem ao{e:Expr}{es:List Expr}{env:Env}(h:∀v p,e≠.Starred v p):starEach (e::es) env=(false,eval e env)::starEach es env:=by
 cases e<;>first|rfl|exact absurd rfl (h _ _)
noncomputable def intOf:Expr->Option Int
 |.Constant (.int i) _ _=>some i
 |_=>none
noncomputable def intsOf:List Expr->Option (List Int)
 | []=>some []
 |e::r=>(intOf e).bind λi=>(intsOf r).map (i::·)
theorem Xl{e:Expr}{i:Int}(h:intOf e=some i):∃k p,e = .Constant (.int i) k p:=by
 cases e with
 |Constant c k p =>
  cases c with
  |int j=>cases h;exact⟨k,p,rfl⟩
  |_=>cases h
 |_=>cases h
theorem pq{X:Cx}:∀{es:List Expr} (is:List Int),intsOf es=some is->PA X es (λ_ H Q=>Q (is.map V.int) H):=by
 intro es
 induction es with
 |nil =>
  intro is h;cases h;exact ah
 |cons e r ih =>
  intro is h;have h':(intOf e).bind (λi=>(intsOf r).map (i::·))=some is:=h;cases q1:intOf e with
  |none=>rw[q1]at h';cases h'
  |some i =>
   obtain⟨k,p,rfl⟩:=Xl q1;rw[q1]at h';cases q:intsOf r with
   |none=>rw[qe,q]at h';cases h'
   |some js =>
    rw[qe,q]at h';cases h';exact ae ak (ih js q)
theorem Oq{g:Nat->Int}(h:∀i,0<=g i/\g i<=1099511627776):∀n,0<=preSum g n/\preSum g n<=1099511627776*n
 |0=>by simp[preSum]
 |n+1=>by
  have ih:=Oq h n;have hn:=h n;simp only[preSum]
  push_cast
  omega
theorem Ot(ns:List Int):∀n,n<=ns.length->preSum (λi=>ns.getD i 0) n=(ns.take n).sum
 |0,_=>by simp[preSum]
 |n+1,h=>by
  have ih:=Ot ns n (by omega);have hn:n<ns.length:=by omega
  simp only[preSum];rw[ih];have e1:ns.getD n 0=ns[n]:=by rw[aN,ay hn];rfl
  have e2:ns.take (n+1)=ns.take n++[ns[n]]:=by rw[p8,ay hn];rfl
  rw[e1,e2,List.sum_append];simp
def O6(K:W.Frag):List V->Hp->VK->Prop:=λxs H Q=>∃(p:Addr) (ns:List Int),xs = [.ref p]/\ag K H p (ns.map V.int)/\ns.length<=1000/\(∀x∈ns,0<=x/\x<=1099511627776)/\Q (.int ns.sum) H
theorem Tn {X:Cx} (hc:X.calm=true):dD X (.builtin "sum") (O6 X.K):=by
 intro pins s σ H xs us Q I r h;obtain⟨p,ns,rfl,hq,hl,hb,q⟩:=h;obtain⟨u,rfl,ru⟩:=Vals.one r;cases ru;obtain⟨its,rv,pl,hz⟩:=I.list hq;have hlen:its.length=ns.length:=by rw[<- rv.length,au]
 have hp:p<s.heap.objs.size:=by obtain⟨o,_,e,_⟩:=pl;exact aR e
 refine call_sum_walk (yh pl.isList ?_);have hh:X.A.in1.handled=none:=I.ok.hd hc;refine⟨s.heap.objs.size,_,_,_,_,_,λi=>ns.getD i 0,rfl,Walks.list hh s.heap.objs.size p (bE hp) its.toArray,⟨⟨_,cn _ rfl,rfl,rfl⟩,pl.isList.at λo e=>aU _ e⟩,λb hb=>?_,λi v hv=>?_,λj hj=>?_,λh' tk t' hk=>?_⟩
 ·simp only[bx,fz,fK]at hb
  rcases hb with rfl|rfl
  ·simp[eE]
  ·exact Hw hp (by simp[eE])
 ·have hv':its[i]?=some v:=by simpa using hv
  have hi:i<ns.length:=by rw[<- hlen];exact(bN.mp hv').1
  obtain⟨w',h1,h2⟩:=rv.get (i:=i) (x:=.int ns[i]) (by simp[hi]);rw[hv']at h1;cases h1;obtain⟨t,e⟩:=h2;refine⟨t,?_⟩;show v=Value.int (ns.getD i 0) t;rw[e,aN,ay hi];rfl
 ·have gb:∀i,0<=ns.getD i 0/\ns.getD i 0<=1099511627776:=λi=>by
   rw[aN];cases e:ns[i]? with
   |none=>simp
   |some x=>exact hb x (dr e)
  have hj':j<ns.length:=by rw[<- hlen];simpa using hj
  have h1:=gb j;have h2:=Oq gb (j+1)
  constructor
  ·show InLong (ns.getD j 0)
   unfold InLong;omega
  ·unfold InLong;push_cast at h2;omega
 ·have e:preSum (λi=>ns.getD i 0) its.toArray.size=ns.sum:=by
   rw[show its.toArray.size=ns.length by simp[hlen],Ot ns _ (aW _),nA]
  rw[e];have I1:Inv X pins σ H {s with heap:=s.heap.push {cls:=.type "list_iterator", data:=.fields #[.ref p,.int 0 0]},toks:=s.toks}:=I.kept λb o e=>aU _ e;have I2:Inv X pins σ H {s with heap:=h',toks:=tk}:=by
   refine I.kept λb o e=>hk b o ?_ (aU _ e);simp only[bx,fz,fK];exact bE (aR e)
  exact⟨.int ns.sum,H,I2,⟨t',rfl⟩,q⟩
theorem Tp {X:Cx} {K:W.Frag} (h:X.K=K) (hc:X.calm=true):dD X (.builtin "sum") (O6 K):=h▸Tn hc
theorem abD(bs:List Bool):((List.range bs.length).all λi=>(bs[i]?).getD true)=bs.all id:=by
 rw[dm,fX,fX]
 constructor
 ·intro h b hb
  obtain⟨i,hi,e⟩:=ie hb;have:=h i (by simpa using hi);rw[ay hi,e]at this;exact this
 ·intro h i hi
  have hi':i<bs.length:=by simpa using hi
  rw[ay hi'];exact h _ (fu hi')
def OD(K:W.Frag):List V->Hp->VK->Prop:=λxs H Q=>∃(p:Addr) (bs:List Bool),xs = [.ref p]/\ag K H p (bs.map V.bl)/\Q (.bl (bs.all id)) H
theorem S3{bs:List Bool}{its:List Value}(rv:Vals (bs.map V.bl) its){i:Nat}{v:Value}(h:its[i]?=some v):∃b,bs[i]?=some b/\v = .bool b:=by
 have hi:i<its.length:=(bN.mp h).1;have hlen:its.length=bs.length:=by rw[<- rv.length,au]
 obtain⟨w',h1,h2⟩:=rv.get (i:=i) (x:=.bl (bs[i]'(by omega))) (by simp[show i<bs.length by omega]);rw[h]at h1;cases h1;exact⟨_,ay (by omega),h2⟩
theorem S_ {X:Cx} (hc:X.calm=true):dD X (.builtin "all") (OD X.K):=by
 intro pins s σ H xs us Q I r h;obtain⟨p,bs,rfl,hq,q⟩:=h;obtain⟨u,rfl,ru⟩:=Vals.one r;cases ru;obtain⟨its,rv,pl,hz⟩:=I.list hq;have hlen:its.length=bs.length:=by rw[<- rv.length,au]
 have hp:p<s.heap.objs.size:=by obtain⟨o,_,e,_⟩:=pl;exact aR e
 refine call_all_walk (yh pl.isList ?_);have hh:X.A.in1.handled=none:=I.ok.hd hc;refine⟨s.heap.objs.size,_,_,_,_,_,λi=>(bs[i]?).getD true,rfl,Walks.list hh s.heap.objs.size p (bE hp) its.toArray,⟨⟨_,cn _ rfl,rfl,rfl⟩,pl.isList.at λo e=>aU _ e⟩,λi v s' Q' E' hP hQ=>?_,λh' tk hk=>?_⟩
 ·obtain⟨b,e,rfl⟩:=S3 rv (by simpa using hP)
  simp only[e,xK]at hQ;exact jS hQ
 ·have e:((List.range its.toArray.size).all λi=>(bs[i]?).getD true)=bs.all id:=by
   rw[bU,hlen];exact abD bs
  rw[e];have I2:Inv X pins σ H {s with heap:=h',toks:=tk}:=by
   refine I.kept λb o e=>hk b o ?_ (aU _ e);simp only[bx,fz,fK];exact bE (aR e)
  exact⟨.bl (bs.all id),H,I2,rfl,q⟩
theorem qA {X:Cx} {K:W.Frag} (h:X.K=K) (hc:X.calm=true):dD X (.builtin "all") (OD K):=h▸S_ hc
inductive bK (K:W.Frag) (H:Hp):Nat->V->V->Bool->Prop
 |int (n:Nat) (i j:Int):bK K H n (.int i) (.int j) (i==j)
 |bl (n:Nat) (i j:Bool):bK K H n (.bl i) (.bl j) (i==j)
 |same (n:Nat) (a:Addr):bK K H n (.ref a) (.ref a) true
 |tup (n:Nat) (a b:Addr) (xs ys:List V) (e:Nat->Bool):az K H a xs->az K H b ys->xs.length=ys.length->(∀(j:Nat) x y,xs[j]?=some x->ys[j]?=some y->bK K H n x y (e j))->bK K H (n+1) (.ref a) (.ref b) ((List.range xs.length).all e)
 |lst (n:Nat) (a b:Addr) (xs ys:List V) (e:Nat->Bool):ag K H a xs->ag K H b ys->xs.length=ys.length->(∀(j:Nat) x y,xs[j]?=some x->ys[j]?=some y->bK K H n x y (e j))->bK K H (n+1) (.ref a) (.ref b) ((List.range xs.length).all e)
 |lens (n:Nat) (a b:Addr) (xs ys:List V):ag K H a xs->ag K H b ys->xs.length≠ys.length->bK K H (n+1) (.ref a) (.ref b) false
section
variable {X:Cx} {pins:List (Addr × Obj)} {σ:St} {H:Hp} {s:Shared}
theorem Inv.M9(I:Inv X pins σ H s){a:Addr}{xs ys:List V}(h:ag X.K H a xs)(h':ag X.K H a ys):∃its,Vals xs its/\Vals ys its:=by
 obtain⟨its,r,⟨o,n,e,d1,d2,d3⟩,_⟩:=I.list h;obtain⟨its',r',⟨o',n',e',f1,f2,f3⟩,_⟩:=I.list h';rw[e]at e';cases e';rw[d3]at f3;injection f3 with q1 q2
 have:its=its':=by simpa using q1
 subst this;exact⟨its,r,r'⟩
theorem bK.E_(I:Inv X pins σ H s){n:Nat}{x y:V}{b:Bool}(h:bK X.K H n x y b):∀{v:Value},RelV x v->RelV y v->b=true:=by
 induction h with
 |int n i j =>
  rintro v ⟨t,rfl⟩ ⟨u,e⟩;cases e;simp
 |bl n i j =>
  intro v h1 h2;cases h1;cases h2;simp
 |same n a=>intros;rfl
 |tup n a b xs ys e h1 h2 hl hi ih =>
  intro v r1 r2;cases r1;cases r2;have:=I.GF h1 h2;subst this;obtain⟨its,r,_,_⟩:=I.tuple h1;rw[fX];intro j hj;have hj':j<xs.length:=by simpa using hj
  obtain⟨w',_,q⟩:=r.get (ay hj');exact ih j _ _ (ay hj') (ay hj') q q
 |lst n a b xs ys e h1 h2 hl hi ih =>
  intro v r1 r2;cases r1;cases r2;obtain⟨its,r,r'⟩:=I.M9 h1 h2;rw[fX];intro j hj;have hj':j<xs.length:=by simpa using hj
  obtain⟨w',z1,q⟩:=r.get (ay hj');obtain⟨w'',z2,q'⟩:=r'.get (ay (show j<ys.length by omega));rw[z1]at z2;cases z2;exact ih j _ _ (ay hj') (ay _) q q'
 |lens n a b xs ys h1 h2 hl =>
  intro v r1 r2;cases r1;cases r2;obtain⟨its,r,r'⟩:=I.M9 h1 h2;exact absurd (r.length.trans r'.length.symm) hl
theorem bK.at(I:Inv X pins σ H s){n:Nat}{x y:V}{b:Bool}(h:bK X.K H n x y b):∀{A:Around} {v u:Value},A.units+n<cLine->RelV x v->RelV y u->SeqAt.EqAt A s v u b:=by
 induction h with
 |int n i j =>
  rintro A v u hu ⟨t,rfl⟩ ⟨t',rfl⟩;exact SeqAt.EqAt.int_int i t j t'
 |bl n i j =>
  intro A v u hu h1 h2;cases h1;cases h2;exact xZ i j
 |same n a =>
  intro A v u hu h1 h2;cases h1;cases h2;exact yb _
 |tup n a b xs ys e h1 h2 hl hi ih =>
  intro A v u hu r1 r2
  by_cases hab:v=u
  ·have:=bK.E_ I (.tup n a b xs ys e h1 h2 hl hi) r1 (hab▸r2)
   rw[this,hab];exact yb _
  ·cases r1
   cases r2;obtain⟨its,r,t1,_⟩:=I.tuple h1;obtain⟨its2,r',t2,_⟩:=I.tuple h2;refine Ia (λz=>hab (by rw[z])) ?_;have hh:=SeqAt.RcAt.tuples (A:=A) (s:=s) (e:=e) t1 t2 (by omega) λj g1 g2=>?_
   ·have el:its.toArray.size=its2.toArray.size:=by simp;rw[<- r.length,<- r'.length];exact hl
    have e2:((List.range (min its.toArray.size its2.toArray.size)).all e&&its.toArray.size==its2.toArray.size)=(List.range xs.length).all e:=by
     rw[<- el,Hz,qw,G5]
     congr 2
     simp[<- r.length]
    rw[e2]at hh;exact hh
   ·have j1:j<xs.length:=by rw[r.length];simpa using g1
    have j2:j<ys.length:=by omega
    obtain⟨w',z1,q⟩:=r.get (ay j1);obtain⟨w'',z2,q'⟩:=r'.get (ay j2);have e1:its.toArray[j]=w':=by have:=(bN.mp z1).2;simpa using this
    have e2:its2.toArray[j]=w'':=by have:=(bN.mp z2).2;simpa using this
    rw[e1,e2];exact ih j _ _ (ay j1) (ay j2) (by show A.units+1+n<cLine;omega) q q'
 |lst n a b xs ys e h1 h2 hl hi ih =>
  intro A v u hu r1 r2
  by_cases hab:v=u
  ·have:=bK.E_ I (.lst n a b xs ys e h1 h2 hl hi) r1 (hab▸r2)
   rw[this,hab];exact yb _
  ·cases r1
   cases r2;obtain⟨its,r,t1,_⟩:=I.list h1;obtain⟨its2,r',t2,_⟩:=I.list h2;refine Ia (λz=>hab (by rw[z])) ?_;have el:its.toArray.size=its2.toArray.size:=by simp;rw[<- r.length,<- r'.length];exact hl
   have hh:=SeqAt.RcAt.lists (A:=A) (s:=s) (e:=e) t1.isList t2.isList el (by omega) λj g1 g2=>?_
   ·have e2:(List.range its.toArray.size).all e=(List.range xs.length).all e:=by
     congr 2
     simp[<- r.length]
    rw[e2]at hh;exact hh
   ·have j1:j<xs.length:=by rw[r.length];simpa using g1
    have j2:j<ys.length:=by omega
    obtain⟨w',z1,q⟩:=r.get (ay j1);obtain⟨w'',z2,q'⟩:=r'.get (ay j2);have e1:its.toArray[j]=w':=by have:=(bN.mp z1).2;simpa using this
    have e2:its2.toArray[j]=w'':=by have:=(bN.mp z2).2;simpa using this
    rw[e1,e2];exact ih j _ _ (ay j1) (ay j2) (by show A.units+1+n<cLine;omega) q q'
 |lens n a b xs ys h1 h2 hl =>
  intro A v u hu r1 r2
  by_cases hab:v=u
  ·have:=bK.E_ I (.lens n a b xs ys h1 h2 hl) r1 (hab▸r2)
   cases this
  ·cases r1
   cases r2;obtain⟨its,r,t1,_⟩:=I.list h1;obtain⟨its2,r',t2,_⟩:=I.list h2;refine Ia (λz=>hab (by rw[z])) (SeqAt.RcAt.lists_lengths t1.isList t2.isList ?_ (by omega));have:its.length≠its2.length:=by rw[<- r.length,<- r'.length];exact hl
   simpa using this
end
def jd(K:W.Frag)(H:Hp)(n:Nat)(xs ys:List V)(e:Nat->Bool):Prop:=xs.length=ys.length/\∀(j:Nat) x y,xs[j]?=some x->ys[j]?=some y->bK K H n x y (e j)
def Dv(K:W.Frag)(c ne:Bool)(n:Nat):R2:=λx y H Q=>∃a b xs ys e,x = .ref a/\y = .ref b/\Sq c K H a xs/\Sq c K H b ys/\jd K H n xs ys e/\Q (.bl (ne != (List.range xs.length).all e)) H
theorem rX{X:Cx}{K:W.Frag}(c:Bool)(n:Nat)(h:X.K=K)(hu:X.A.units+1+n<cLine):bY X (compareOp .Eq) (Dv K c false n):=by
 subst h;intro pins s σ H x y v u Q I rx ry h;obtain⟨a,b,xs,ys,e,rfl,rfl,ha,hb,⟨hl,hi⟩,q⟩:=h;cases rx;cases ry;cases c with
 |true =>
  obtain⟨its,r,t1,_⟩:=I.list ha;obtain⟨its2,r',t2,_⟩:=I.list hb;have el:its.toArray.size=its2.toArray.size:=by simp;rw[<- r.length,<- r'.length];exact hl
  have hh:=SeqAt.RcAt.lists (A:=X.A) (s:=s) (e:=e) t1.isList t2.isList el (by omega) λj g1 g2=>?_
  ·have e2:(List.range its.toArray.size).all e=(List.range xs.length).all e:=by
    congr 2
    simp[<- r.length]
   rw[e2]at hh;exact hh _ _ _ _ ⟨.bl ((List.range xs.length).all e),H,I,rfl,by simpa using q⟩
  ·have j1:j<xs.length:=by rw[r.length];simpa using g1
   have j2:j<ys.length:=by omega
   obtain⟨w',z1,q⟩:=r.get (ay j1);obtain⟨w'',z2,q'⟩:=r'.get (ay j2);have e1:its.toArray[j]=w':=by have:=(bN.mp z1).2;simpa using this
   have e2:its2.toArray[j]=w'':=by have:=(bN.mp z2).2;simpa using this
   rw[e1,e2];exact bK.at I (hi j _ _ (ay j1) (ay j2)) (by show X.A.units+1+n<cLine;omega) q q'
 |false =>
  obtain⟨its,r,t1,_⟩:=I.tuple ha;obtain⟨its2,r',t2,_⟩:=I.tuple hb;have el:its.toArray.size=its2.toArray.size:=by simp;rw[<- r.length,<- r'.length];exact hl
  have hh:=SeqAt.RcAt.tuples (A:=X.A) (s:=s) (e:=e) t1 t2 (by omega) λj g1 g2=>?_
  ·have e2:((List.range (min its.toArray.size its2.toArray.size)).all e&&its.toArray.size==its2.toArray.size)=(List.range xs.length).all e:=by
    rw[<- el,Hz,qw,G5]
    congr 2
    simp[<- r.length]
   rw[e2]at hh;exact hh _ _ _ _ ⟨.bl ((List.range xs.length).all e),H,I,rfl,by simpa using q⟩
  ·have j1:j<xs.length:=by rw[r.length];simpa using g1
   have j2:j<ys.length:=by omega
   obtain⟨w',z1,q⟩:=r.get (ay j1);obtain⟨w'',z2,q'⟩:=r'.get (ay j2);have e1:its.toArray[j]=w':=by have:=(bN.mp z1).2;simpa using this
   have e2:its2.toArray[j]=w'':=by have:=(bN.mp z2).2;simpa using this
   rw[e1,e2];exact bK.at I (hi j _ _ (ay j1) (ay j2)) (by show X.A.units+1+n<cLine;omega) q q'
theorem N6{X:Cx}{K:W.Frag}(c:Bool)(n:Nat)(h:X.K=K)(hu:X.A.units+1+n<cLine):bY X (compareOp .NotEq) (Dv K c true n):=by
 subst h;intro pins s σ H x y v u Q I rx ry h;obtain⟨a,b,xs,ys,e,rfl,rfl,ha,hb,⟨hl,hi⟩,q⟩:=h;cases rx;cases ry;cases c with
 |true =>
  obtain⟨its,r,t1,_⟩:=I.list ha;obtain⟨its2,r',t2,_⟩:=I.list hb;have el:its.toArray.size=its2.toArray.size:=by simp;rw[<- r.length,<- r'.length];exact hl
  have hh:=SeqAt.RcNeAt.lists (A:=X.A) (s:=s) (e:=e) t1.isList t2.isList el (by omega) λj g1 g2=>?_
  ·have e2:(List.range its.toArray.size).all e=(List.range xs.length).all e:=by
    congr 2
    simp[<- r.length]
   rw[e2]at hh;exact hh _ _ _ _ ⟨.bl (!(List.range xs.length).all e),H,I,rfl,by simpa using q⟩
  ·have j1:j<xs.length:=by rw[r.length];simpa using g1
   have j2:j<ys.length:=by omega
   obtain⟨w',z1,q⟩:=r.get (ay j1);obtain⟨w'',z2,q'⟩:=r'.get (ay j2);have e1:its.toArray[j]=w':=by have:=(bN.mp z1).2;simpa using this
   have e2:its2.toArray[j]=w'':=by have:=(bN.mp z2).2;simpa using this
   rw[e1,e2];exact bK.at I (hi j _ _ (ay j1) (ay j2)) (by show X.A.units+1+n<cLine;omega) q q'
 |false =>
  obtain⟨its,r,t1,_⟩:=I.tuple ha;obtain⟨its2,r',t2,_⟩:=I.tuple hb;have el:its.toArray.size=its2.toArray.size:=by simp;rw[<- r.length,<- r'.length];exact hl
  have hh:=SeqAt.RcNeAt.tuples (A:=X.A) (s:=s) (e:=e) t1 t2 (by omega) λj g1 g2=>?_
  ·have e2:((List.range (min its.toArray.size its2.toArray.size)).all e&&its.toArray.size==its2.toArray.size)=(List.range xs.length).all e:=by
    rw[<- el,Hz,qw,G5]
    congr 2
    simp[<- r.length]
   rw[e2]at hh;exact hh _ _ _ _ ⟨.bl (!(List.range xs.length).all e),H,I,rfl,by simpa using q⟩
  ·have j1:j<xs.length:=by rw[r.length];simpa using g1
   have j2:j<ys.length:=by omega
   obtain⟨w',z1,q⟩:=r.get (ay j1);obtain⟨w'',z2,q'⟩:=r'.get (ay j2);have e1:its.toArray[j]=w':=by have:=(bN.mp z1).2;simpa using this
   have e2:its2.toArray[j]=w'':=by have:=(bN.mp z2).2;simpa using this
   rw[e1,e2];exact bK.at I (hi j _ _ (ay j1) (ay j2)) (by show X.A.units+1+n<cLine;omega) q q'
section
variable {prog:Program} {w:World} {A:Around} {E:Value->Shared->Prop}
variable {s:Shared}
end
end L2
namespace Ev
def Sub(x y:Nat):Prop:=x&&& y=x
instance (x y:Nat):Decidable (Sub x y):=inferInstanceAs (Decidable (_=_))
theorem Sub.rfl'(x:Nat):Sub x x:=xH x
theorem Sub.trans{x y z:Nat}(a:Sub x y)(b:Sub y z):Sub x z:=by
 unfold Sub at *;rw[<- a,tR,b]
theorem Sub.antisymm{x y:Nat}(a:Sub x y)(b:Sub y x):x=y:=by
 unfold Sub at *;rw[<- a,xG,b]
theorem Sub.le{x y:Nat}(a:Sub x y):x<=y:=by
 unfold Sub at a;rw[<- a];exact Nat.and_le_right
theorem Sub.and_left(x y:Nat):Sub (x&&& y) x:=by
 unfold Sub;rw[tR,xG y x,<- tR,xH]
theorem Sub.and_right(x y:Nat):Sub (x&&& y) y:=by
 unfold Sub;rw[tR,xH]
theorem Sub.yq{x a b:Nat}:Sub x (a&&& b) ↔ Sub x a/\Sub x b:=by
 constructor
 ·intro h
  exact⟨h.trans (Sub.and_left a b),h.trans (Sub.and_right a b)⟩
 ·rintro⟨h1,h2⟩
  unfold Sub at *;rw[<- tR,h1,h2]
structure bL (M:List Nat):Prop where
 nd:M.Nodup
 len:M.length<=24
 meet:∀x∈M,∀y∈M,x&&& y∈M
 top:∃t∈M,∀x∈M,Sub x t
theorem bL.pos{M:List Nat}(L:bL M):0<M.length:=by
 obtain⟨t,ht,_⟩:=L.top;exact R0 ht
theorem bL.perm{M M':List Nat}(L:bL M)(p:M.Perm M'):bL M' where
 nd:=p.nodup_iff.mp L.nd
 len:=by rw[<- p.length_eq];exact L.len
 meet:=λx hx y hy=>p.mem_iff.mp (L.meet x (p.mem_iff.mpr hx) y (p.mem_iff.mpr hy))
 top:=by
  obtain⟨t,ht,h⟩:=L.top;exact⟨t,p.mem_iff.mp ht,λx hx=>h x (p.mem_iff.mpr hx)⟩
noncomputable def aF(M:List Nat)(i j:Nat):Bool:=decide (Sub (M.getD i 0) (M.getD j 0))
theorem dF{M:List Nat}{i j:Nat}:aF M i j=true ↔ Sub (M.getD i 0) (M.getD j 0):=by simp[aF]
theorem jx(M:List Nat)(i:Nat):aF M i i=true:=dF.mpr (Sub.rfl' _)
theorem M6{M:List Nat}{i j k:Nat}(a:aF M i j=true)(b:aF M j k=true):aF M i k=true:=dF.mpr ((dF.mp a).trans (dF.mp b))
theorem getD_mem{M:List Nat}{i:Nat}(h:i<M.length):M.getD i 0∈M:=by
 rw[aN,ay h];exact fu h
theorem uG{M:List Nat}{x:Nat}(h:x∈M):∃i,i<M.length/\M.getD i 0=x:=by
 obtain⟨i,hi,e⟩:=ie h;exact⟨i,hi,by rw[aN,ay hi];exact e⟩
theorem getD_inj{M:List Nat}(nd:M.Nodup){i j:Nat}(hi:i<M.length)(hj:j<M.length)(e:M.getD i 0=M.getD j 0):i=j:=by
 rw[aN,aN,ay hi,ay hj]at e;exact(tL nd).mp e
theorem u5{M:List Nat}(nd:M.Nodup){i j:Nat}(hi:i<M.length)(hj:j<M.length)(a:aF M i j=true)(b:aF M j i=true):i=j:=
 getD_inj nd hi hj ((dF.mp a).antisymm (dF.mp b))
theorem bL.o7{M:List Nat}(L:bL M){a b:Nat}(ha:a<M.length)(hb:b<M.length):∃c,c<M.length/\M.getD c 0=M.getD a 0&&& M.getD b 0/\∀x,aF M x c=(aF M x a&&aF M x b):=by
 obtain⟨c,hc,e⟩:=uG (L.meet _ (getD_mem ha) _ (getD_mem hb));refine⟨c,hc,e,λx=>?_⟩;rw[dm,bJ,dF,dF,dF,e];exact Sub.yq
theorem Bg{M:List Nat}(hm:∀x∈M,∀y∈M,x&&& y∈M):∀(S:List Nat) (t:Nat),(∀x∈S,x∈M)->t∈M->S.foldl (·&&& ·) t∈M/\Sub (S.foldl (·&&& ·) t) t/\(∀x∈S,Sub (S.foldl (·&&& ·) t) x)/\∀y,Sub y t->(∀x∈S,Sub y x)->Sub y (S.foldl (·&&& ·) t)
 | [],t,_,ht=>⟨ht,Sub.rfl' t,λ_ h=>(nomatch h),λ_ h _=>h⟩
 |s::S,t,hS,ht=>by
  have hs:s∈M:=hS s b9;obtain⟨h1,h2,h3,h4⟩:=Bg hm S (t&&& s) (λx hx=>hS x (ck _ hx)) (hm t ht s hs);rw[Hi];refine⟨h1,h2.trans (Sub.and_left t s),λx hx=>?_,λy hy hx=>h4 y (Sub.yq.mpr ⟨hy,hx s b9⟩) λx h=>hx x (ck _ h)⟩
  rcases bx.mp hx with rfl|hx
  ·exact h2.trans (Sub.and_right t x)
  ·exact h3 x hx
theorem bL.oX{M:List Nat}(L:bL M){a b:Nat}(ha:a<M.length)(hb:b<M.length):∃c,c<M.length/\∀x,x<M.length->aF M c x=(aF M a x&&aF M b x):=by
 obtain⟨t,ht,htop⟩:=L.top
 let S:=M.filter λx=>decide (Sub (M.getD a 0) x)&&decide (Sub (M.getD b 0) x)
 obtain⟨h1,h2,h3,h4⟩:=Bg L.meet S t (λx hx=>(cR.mp hx).1) ht;obtain⟨c,hc,e⟩:=uG h1;refine⟨c,hc,λx hx=>?_⟩;have Mi:∀y∈S,Sub (M.getD a 0) y/\Sub (M.getD b 0) y:=λy hy=>by
  have:=(cR.mp hy).2;simpa[bJ]using this
 have ka:Sub (M.getD a 0) (S.foldl (·&&& ·) t):=h4 _ (htop _ (getD_mem ha)) λy hy=>(Mi y hy).1;have kb:Sub (M.getD b 0) (S.foldl (·&&& ·) t):=h4 _ (htop _ (getD_mem hb)) λy hy=>(Mi y hy).2;rw[dm,bJ,dF,dF,dF,e]
 constructor
 ·intro h
  exact⟨ka.trans h,kb.trans h⟩
 ·rintro⟨h,h'⟩
  exact h3 _ (cR.mpr ⟨getD_mem hx,by rw[bJ];exact⟨cy h,cy h'⟩⟩)
structure kG (n:Nat) (ps:List (Nat × Nat)) (R:Nat->Nat->Bool):Prop where
 refl:∀a,a<n->R a a=true
 has:∀p∈ps,R p.1 p.2=true
 trans:∀a b c,a<n->b<n->c<n->R a b=true->R b c=true->R a c=true
 least:∀T:Nat->Nat->Bool,(∀a,a<n->T a a=true)->(∀p∈ps,T p.1 p.2=true)->(∀a b c,a<n->b<n->c<n->T a b=true->T b c=true->T a c=true) ->
  ∀a b,a<n->b<n->R a b=true->T a b=true
structure jU (n:Nat) (ps:List (Nat × Nat)) (m:Nat) (R:Nat->Nat->Bool):Prop where
 refl:∀a,a<n->R a a=true
 has:∀p∈ps,R p.1 p.2=true
 tr:∀k,k<m->∀a b,a<n->b<n->R a k=true->R k b=true->R a b=true
 least:∀T:Nat->Nat->Bool,(∀a,a<n->T a a=true)->(∀p∈ps,T p.1 p.2=true)->(∀a b c,a<n->b<n->c<n->T a b=true->T b c=true->T a c=true) ->
  ∀a b,a<n->b<n->R a b=true->T a b=true
noncomputable def kF(R:Nat->Nat->Bool)(m:Nat):Nat->Nat->Bool:=λa b=>R a b||(R a m&&R m b)
theorem wU{R:Nat->Nat->Bool}{m a b:Nat}:kF R m a b=true ↔ R a b=true\/(R a m=true/\R m b=true):=by simp[kF]
theorem jU.step{n m:Nat}{ps:List (Nat × Nat)}{R:Nat->Nat->Bool}(W:jU n ps m R)(hm:m<n):jU n ps (m+1) (kF R m) where
 refl:=λa ha=>wU.mpr (.inl (W.refl a ha))
 has:=λp hp=>wU.mpr (.inl (W.has p hp))
 tr:=λk hk a b ha hb h1 h2=>by
  rw[wU]at *
  by_cases e:k=m
  ·subst e
   have h1':R a k=true:=h1.elim id (·.1);have h2':R k b=true:=h2.elim id (·.2);exact .inr ⟨h1',h2'⟩
  ·have hk':k<m:=by omega
   rcases h1 with h1|⟨h1,h1'⟩
   ·rcases h2 with h2|⟨h2,h2'⟩
    ·exact .inl (W.tr k hk' a b ha hb h1 h2)
    ·exact .inr ⟨W.tr k hk' a m ha hm h1 h2,h2'⟩
   ·rcases h2 with h2|⟨h2,h2'⟩
    ·exact .inr ⟨h1,W.tr k hk' m b hm hb h1' h2⟩
    ·exact .inr ⟨h1,h2'⟩
 least:=λT t1 t2 t3 a b ha hb h=>by
  rcases wU.mp h with h|⟨h,h'⟩
  ·exact W.least T t1 t2 t3 a b ha hb h
  ·exact t3 a m b ha hm hb (W.least T t1 t2 t3 a m ha hm h) (W.least T t1 t2 t3 m b hm hb h')
theorem jU.done{n:Nat}{ps:List (Nat × Nat)}{R:Nat->Nat->Bool}(W:jU n ps n R):kG n ps R:=
 ⟨W.refl,W.has,λa b c ha hb hc h1 h2=>W.tr b hb a c ha hc h1 h2,W.least⟩
noncomputable def base(ps:List (Nat × Nat)):Nat->Nat->Bool:=λa b=>a==b||ps.any λp=>p.1==a&&p.2==b
theorem oa{ps:List (Nat × Nat)}{a b:Nat}:base ps a b=true ↔ a=b\/(a,b)∈ps:=by
 simp only[base,G8,gR,xo,bJ]
 constructor
 ·rintro(h|⟨⟨x,y⟩,hp,rfl,rfl⟩)
  ·exact .inl h
  ·exact .inr hp
 ·rintro(h|h)
  ·exact .inl h
  ·exact .inr ⟨(a,b),h,rfl,rfl⟩
theorem jU.start{n:Nat}{ps:List (Nat × Nat)}(hp:∀p∈ps,p.1<n/\p.2<n):jU n ps 0 (base ps) where
 refl:=λa _=>oa.mpr (.inl rfl)
 has:=λp hp=>oa.mpr (.inr hp)
 tr:=λk hk=>by omega
 least:=λT t1 t2 _ a b ha _ h=>by
  rcases oa.mp h with rfl|h
  ·exact t1 a ha
  ·exact t2 _ h
def stepM(M:List Nat)(a b:Nat):Prop:=a≠b/\aF M a b=true/\∀c,c<M.length->aF M a c=true->aF M c b=true->c=a\/c=b
theorem kG.Us{M:List Nat}{ps:List (Nat × Nat)}{R:Nat->Nat->Bool}(nd:M.Nodup)(C:kG M.length ps R)(h1:∀p∈ps,aF M p.1 p.2=true)(h2:∀a b,a<M.length->b<M.length->stepM M a b->(a,b)∈ps):∀a b,a<M.length->b<M.length->R a b=aF M a b:=by
 have go:∀(d a b:Nat),a<M.length->b<M.length->M.getD b 0 - M.getD a 0=d->aF M a b=true->R a b=true:=by
  intro d
  induction d using Nat.strongRecOn with
  |_ d ih =>
   intro a b ha hb hd hl
   by_cases e:a=b
   ·subst e;exact C.refl a ha
   ·by_cases hs:stepM M a b
    ·exact C.has _ (h2 a b ha hb hs)
    ·have hc:∃c,c<M.length/\aF M a c=true/\aF M c b=true/\c≠a/\c≠b:=by
      apply G_
      intro hn;refine hs ⟨e,hl,λc hc h1 h2=>?_⟩;apply G_
      intro hcc;exact hn ⟨c,hc,h1,h2,λz=>hcc (.inl z),λz=>hcc (.inr z)⟩
     obtain⟨c,hc,l1,l2,n1,n2⟩:=hc;have i1:=(dF.mp l1).le;have i2:=(dF.mp l2).le;have j1:M.getD a 0≠M.getD c 0:=λz=>n1 (getD_inj nd hc ha z.symm);have j2:M.getD c 0≠M.getD b 0:=λz=>n2 (getD_inj nd hc hb z);exact C.trans a c b ha hc hb (ih _ (by omega) a c ha hc rfl l1) (ih _ (by omega) c b hc hb rfl l2)
 intro a b ha hb;rw[dm];exact⟨λh=>C.least (aF M) (λa _=>jx M a) h1 (λa b c _ _ _=>M6) a b ha hb h,λh=>go _ a b ha hb rfl h⟩
instance (M:List Nat):Decidable (bL M):=
 decidable_of_iff (M.Nodup/\M.length<=24/\(∀x∈M,∀y∈M,x&&& y∈M)/\∃t∈M,∀x∈M,Sub x t)
  ⟨λhpq=>by obtain⟨a,b,c,d⟩:=hpq;exact⟨a,b,c,d⟩,λhpq=>by obtain⟨a,b,c,d⟩:=hpq;exact⟨a,b,c,d⟩⟩
noncomputable def gX(k:Nat):List Nat:=[0]++(if 1<k then(List.range k).map (λi=>2 ^ i)else[])++[2 ^ k - 1]
noncomputable def mS(one other:List Nat)(p:Nat):List Nat:=one++(other.drop 1).map λm=>one.getLastD 0 ||| (m*2 ^ p)
noncomputable def kY(one other:List Nat):List Nat:=one.flatMap λm=>other.map λx=>m ||| (x*2 ^ 10)
noncomputable def hW(k:Nat):List Nat:=([0,1,3,7,15,31]:List Nat).take k
noncomputable def lC:Nat->List Nat
 |0=>[0,1,2,6,7]
 |_=>[0,1,3,4,12,15]
noncomputable def Kd:List Nat:=[1,255]++((List.range 7).map λi=>1 ||| 2 ^ (1+i)) ++
 (List.range 7).map λk=>(((List.range 8).filter λr=>([0,1,1,0,1,0,0,1]:List Nat).getD (r&&& (1+k)) 0==0).map λr=>2 ^ r).sum
theorem X8:∀a,a<5->∀b,b<5->∀c,c<4->bL (mS (mS (gX (1+a)) (gX (1+b)) 10) (gX (1+c)) 20):=by decide +kernel
theorem X9:bL Kd:=by decide +kernel
theorem X_:∀a,a<4->∀b,b<6->bL (kY (hW (1+a)) (hW (1+b))):=by decide +kernel
theorem Ya:∀a,a<4->∀b,b<4->bL (kY (hW (1+a)) (gX (1+b))):=by decide +kernel
theorem Yb:∀a,a<4->∀b,b<2->bL (kY (hW (1+a)) (lC b)):=by decide +kernel
theorem Yc:∀a,a<5->∀b,b<2->bL (mS (lC b) (gX (1+a)) 10):=by decide +kernel
theorem NB:∀(n:Nat) (l:List Nat),l.Nodup->(∀x∈l,x<n)->l.length<=n
 |0,l,_,h=>by
  cases l with
  |nil=>exact aW _
  |cons a r=>exact absurd (h a b9) (xJ _)
 |n+1,l,nd,h=>by
  have ih:=NB n (l.erase n) (nd.erase n) λx hx=>by
   have h1:=h x (List.mem_of_mem_erase hx);have h2:x≠n:=λe=>by subst e;exact nd.not_mem_erase hx
   omega
  have h3:l.length<=(l.erase n).length+1:=by rw[List.length_erase];split<;>omega
  omega
end Ev
namespace My
open PySem PySem.Spec PyProof.Rows L2
noncomputable def top(i:Nat):Stmt:=PySem.Challenge.pw_evenclimb_k45_chains_made_longer.main.body.getD i (.Pass ⟨0,0,0,0⟩)
structure Txt (mg:Str->Option Value):Prop where
 len:mg "len" = none
 range:mg "range" = none
 zip:mg "zip" = none
 enumerate:mg "enumerate" = none
 tuple:mg "tuple" = none
 list:mg "list" = none
 int:mg "int" = none
 bool:mg "bool" = none
 str:mg "str" = none
 isinstance:mg "isinstance" = none
 sum:mg "sum" = none
 any:mg "any" = none
 all:mg "all" = none
 sorted:mg "sorted" = none
 min:mg "min" = none
 max:mg "max" = none
 most:∃t,mg "MOST_THINGS" = some (.int 24 t)
section
variable {P:Program} {w:World} {K:W.Frag} {mg:Str->Option Value} {base:Heap} {f:Addr} {fd:FuncData}
abbrev DX:Stmt:=top 20
theorem Pw:bh ["value"] ["value"] (aB DX):=⟨rfl,rfl,rfl,by decide +kernel,rfl,by decide +kernel,by decide +kernel⟩
def wA:Sp:=Pu (λvs _=>∃i,vs = [.int i]) λ_ _ v _=>v = .bl true
theorem ZK (F:aS K "is_whole" "is_whole" DX f fd) (T:Txt mg):aO P w K mg base aX 1 f fd ["value"] wA:=by
 refine F.ok Pw (λvs H Q E h=>?_) (λcdv A outer s H vs Q E hr h=>?_)
 ·obtain⟨⟨i,rfl⟩,_⟩:=h
  rfl
 ·obtain⟨⟨i,rfl⟩,k⟩:=h
  have nd:=Pw.nd;refine⟨_,(aA (aQ (kx (aY (k_ (K:=K) "int" rfl) rfl T.isinstance du (ae (pv 0) (ae (ky (v:=.ty "int") rfl T.int uh rfl) ah))) (jC (Oi (aY (k_ (K:=K) "bool" rfl) rfl T.isinstance du (ae (pv 0) (ae (ky (v:=.ty "bool") rfl T.bool Jk rfl) ah)))))))),?_⟩;refine⟨_,rfl,_,_,_,rfl,.int i,rfl,true,rfl,eR ?_⟩;exact⟨_,rfl,_,_,_,rfl,.int i,rfl,false,rfl,k _ _ (Same.refl _) rfl⟩
abbrev DW:Stmt:=top 21
theorem Pr:bh ["count","number"] ["count","number"] (aB DW):=⟨rfl,rfl,rfl,by decide +kernel,rfl,by decide +kernel,by decide +kernel⟩
def wz:Sp:=Pu (λvs _=>∃n i,vs = [.int n,.int i]) λvs _ v _=>∀n i,vs = [.int n,.int i]->v = .bl (decide (0<=i/\i<n))
theorem ZJ (F:aS K "is_thing" "is_thing" DW f fd) (T:Txt mg) (oh:aC P w K mg base "is_whole" ["value"] 1 wA):aO P w K mg base aX 2 f fd ["count","number"] wz:=by
 refine F.ok Pr (λvs H Q E h=>?_) (λcdv A outer s H vs Q E hr h=>?_)
 ·obtain⟨⟨n,i,rfl⟩,_⟩:=h
  rfl
 ·obtain⟨⟨n,i,rfl⟩,k⟩:=h
  have nd:=Pr.nd;refine⟨_,(aA (aQ (kx (aL oh hr rfl (ae (pv 1) ah)) (jC (aaG Dg pe ak (pv 1) (pv 0)))))),?_⟩;refine⟨_,rfl,⟨i,rfl⟩,λv H1 s1 hv=>?_⟩;subst hv;refine⟨true,rfl,eR ?_⟩;refine⟨_,rfl,_,_,rfl,rfl,_,rfl,bq (λh1=>?_) (λh1=>?_)⟩
  ·refine⟨_,rfl,_,_,rfl,rfl,k _ _ s1 ?_⟩
   intro n' i' e;cases e;rw[show decide (0<=i/\i<n)=decide (i<n)from by
    rw[cJ]at h1;exact lg.mpr ⟨λh=>h.2,λh=>⟨h1,h⟩⟩]
  ·refine k _ _ s1 ?_
   intro n' i' e;cases e;rw[cx (λh=>h1 (cy h.1))]
abbrev Ew:Stmt:=top 22
theorem Qv:bh ["count","number"] ["count","number"] (aB Ew):=⟨rfl,rfl,rfl,by decide +kernel,rfl,by decide +kernel,by decide +kernel⟩
def FX:Sp:=Pu (λvs _=>∃n i:Int,vs = [.int n,.int i]/\0<=i/\i<n) λ_ _ v _=>v = .non
theorem Z0 (F:aS K "need_thing" "need_thing" Ew f fd) (T:Txt mg) (og:aC P w K mg base "is_thing" ["count","number"] 2 wz):aO P w K mg base aX 3 f fd ["count","number"] FX:=by
 refine F.ok Qv (λvs H Q E h=>?_) (λcdv A outer s H vs Q E hr h=>?_)
 ·obtain⟨⟨n,i,rfl,_⟩,_⟩:=h
  rfl
 ·obtain⟨⟨n,i,rfl,h0,h1⟩,k⟩:=h
  have nd:=Qv.nd;refine⟨_,(aA (bB (dA (cg (aL og hr rfl (ae (pv 0) (ae (pv 1) ah))))) (aA vG) bD)),?_⟩;refine⟨_,rfl,_,rfl,⟨n,i,rfl⟩,λv H1 s1 hv=>?_⟩;rw[hv n i rfl,cy (show 0<=i/\i<n from⟨h0,h1⟩)];exact⟨true,rfl,bA (k _ _ s1 rfl)⟩
abbrev En:Stmt:=top 23
theorem Qp:bh ["count"] ["count"] (aB En):=⟨rfl,rfl,rfl,by decide +kernel,rfl,by decide +kernel,by decide +kernel⟩
def FP:Sp:=Pu (λvs _=>∃n:Int,vs = [.int n]/\1<=n/\n<=24) λ_ _ v _=>v = .non
theorem ZV (F:aS K "need_count" "need_count" En f fd) (T:Txt mg) (oh:aC P w K mg base "is_whole" ["value"] 1 wA):aO P w K mg base aX 2 f fd ["count"] FP:=by
 refine F.ok Qp (λvs H Q E h=>?_) (λcdv A outer s H vs Q E hr h=>?_)
 ·obtain⟨⟨n,rfl,_⟩,_⟩:=h
  rfl
 ·obtain⟨⟨n,rfl,h0,h1⟩,k⟩:=h
  have nd:=Qp.nd;obtain⟨t24,Ue⟩:=T.most;refine⟨_,(aA (bB (PW.pt (dJ (dA (cg (aL oh hr rfl (ae (pv 0) ah)))) (fj (dA (aa9 Dg Dg ak (pv 0) (fM (v:=.int 24) rfl Ue ⟨_,rfl⟩)))))) (aA vG) bD)),?_⟩;refine⟨_,rfl,⟨n,rfl⟩,λv H1 s1 hv=>?_⟩;subst hv;refine⟨true,rfl,bA ?_⟩;refine⟨_,rfl,_,_,rfl,rfl,_,rfl,?_⟩;rw[if_pos (cy h0)];refine⟨_,_,rfl,rfl,_,rfl,?_⟩;rw[cy h1];exact bA (k _ _ s1 rfl)
end
noncomputable def c5(H:Hp)(p:Nat × Nat)(v:V):Prop:=∃t,v = .ref t/\H t=some (.tup [.int p.1,.int p.2])
noncomputable def nG(K:W.Frag)(H:Hp)(a:Addr)(ps:List (Nat × Nat)):Prop:=∃vs,ag K H a vs/\Paired (c5 H) ps vs
noncomputable def TT(H:Hp)(v:V)(n:Nat)(g:Nat->Nat->V):Prop:=∃a vs,v = .ref a/\H a=some (.tup vs)/\Paired (λi u=>∃b,u = .ref b/\H b=some (.tup ((List.range n).map (g i)))) (List.range n) vs
theorem c5.same{H H':Hp}(s:Same H H'){p:Nat × Nat}{v:V}(h:c5 H p v):c5 H' p v:=let⟨t,e,q⟩:=h;⟨t,e,s _ _ q⟩
theorem eK.same{H H':Hp}(s:Same H H'){ps:List (Nat × Nat)}{vs:List V}(h:Paired (c5 H) ps vs):Paired (c5 H') ps vs:=Paired.d_ h λ_ _ q=>q.same s
theorem nG.same{K:W.Frag}{H H':Hp}{a:Addr}{ps:List (Nat × Nat)}(s:Same H H')(h:nG K H a ps):nG K H' a ps:=let⟨vs,e,q⟩:=h;⟨vs,s.seq e,eK.same s q⟩
theorem TT.same{H H':Hp}(s:Same H H'){v:V}{n:Nat}{g:Nat->Nat->V}(h:TT H v n g):TT H' v n g:=
 let⟨a,vs,e,q,r⟩:=h;⟨a,vs,e,s _ _ q,Paired.d_ r λ_ _ hpq=>by obtain⟨b,e,q⟩:=hpq;exact⟨b,e,s _ _ q⟩⟩
theorem eJ{α β:Type}{F:α->β->Prop}:∀{l:List α} {m:List β} {i:Nat} {y:β},Paired F l m->m[i]?=some y->∃x,l[i]?=some x/\F x y
 |_,_,_,_,.nil,h=>by simp at h
 |_,_,0,_,.cons r _,h=>by simp at h;subst h;exact⟨_,rfl,r⟩
 |_,_,i+1,y,.cons _ t,h=>by
  obtain⟨x,h1,h2⟩:=eJ (i:=i) (y:=y) t (by simpa using h);exact⟨x,by simpa using h1,h2⟩
theorem ku{α β:Type}{F:α->β->Prop}:∀{l:List α} {m:List β} {i:Nat} {x:α},Paired F l m->l[i]?=some x->∃y,m[i]?=some y/\F x y
 |_,_,_,_,.nil,h=>by simp at h
 |_,_,0,_,.cons r _,h=>by simp at h;subst h;exact⟨_,rfl,r⟩
 |_,_,i+1,y,.cons _ t,h=>by
  obtain⟨x,h1,h2⟩:=ku (i:=i) (x:=y) t (by simpa using h);exact⟨x,by simpa using h1,h2⟩
theorem TT.row{H:Hp}{v:V}{n:Nat}{g:Nat->Nat->V}(h:TT H v n g){i:Nat}(hi:i<n):∃a vs b,v = .ref a/\H a=some (.tup vs)/\vs.length=n/\vs[i]?=some (.ref b)/\H b=some (.tup ((List.range n).map (g i))):=by
 obtain⟨a,vs,e,q,r⟩:=h;obtain⟨y,h1,b,rfl,h2⟩:=ku (i:=i) (x:=i) r (by simp[hi]);exact⟨a,vs,b,e,q,by simpa using(dh r).symm,h1,h2⟩
theorem qu{n:Nat}{g:Nat->V}{j:Nat}(hj:j<n):eN ((List.range n).map g) (j:Int)=some (g j):=aI (by simp[hj])
theorem dB{n:Nat}(h:n<=24):n<sizeLine:=nB h (by decide)
theorem c7{n:Nat}(h:n<=100000):n<sizeLine:=nB h (by decide)
theorem bF{n:Nat}(h:n<=100000):-(2 ^ 62)<=(n:Int)/\(n:Int)<2 ^ 62:=by omega
theorem zk{t i:Nat}:decide (V.int (t:Int)=V.int (0+(i:Int)))=decide (t=i):=by
 apply lg.mpr
 constructor
 ·intro h;injection h with h;omega
 ·intro h;subst h;simp
section
variable {P:Program} {w:World} {K:W.Frag} {mg:Str->Option Value} {base:Heap} {f:Addr} {fd:FuncData}
abbrev Eu:Stmt:=top 24
theorem Qu:bh ["count","pairs","pair"] ["count","pairs"] (aB Eu):=⟨rfl,rfl,rfl,by decide +kernel,rfl,by decide +kernel,by decide +kernel⟩
def FW(K:W.Frag):Sp:=Pu (λvs H=>∃(n a:Nat) (ps:List (Nat × Nat)),vs = [.int n,.ref a]/\nG K H a ps/\∀p∈ps,p.1<n/\p.2<n) λ_ _ v _=>v = .non
theorem ZZ (F:aS K "need_pairs" "need_pairs" Eu f fd) (T:Txt mg) (uq:aC P w K mg base "need_thing" ["count","number"] 3 FX):aO P w K mg base aX 4 f fd ["count","pairs"] (FW K):=by
 refine F.ok Qu (λvs H Q E h=>?_) (λcdv A outer s H vs Q E hr h=>?_)
 ·obtain⟨⟨n,a,ps,rfl,_⟩,_⟩:=h
  rfl
 ·obtain⟨⟨n,a,ps,rfl,⟨vs,hl,hp⟩,hb⟩,k⟩:=h
  have nd:=Qu.nd;refine⟨_,(aA (cH cF rfl (dk (K:=K) rfl (pv 1)) (bf (i:=2) nd rfl (Or.inl rfl))
   (ax (dI (aL uq hr rfl (ae (pv 0) (ae (aq (aK (K:=K) rfl) (pv 2) ak (λ_ _=>rfl)) ah))))
   (aA (dI (aL uq hr rfl (ae (pv 0) (ae (aq (aK (K:=K) rfl) (pv 2) ak (λ_ _=>rfl)) ah)))))))),?_⟩
  refine⟨_,rfl,a,rfl,⟨_,hl⟩,jr (K:=K) (a:=a) (xs:=vs) (λi σ H2=>∃v,σ = [some (.int n),some (.ref a),v]/\Same H H2) ⟨none,rfl,Same.refl _⟩ (λi σ H2 _ hpq=>by obtain⟨_,_,s2⟩:=hpq;exact s2.seq hl) ?_ ?_⟩
  ·rintro i y σ H2 hi ⟨v,rfl,s2⟩
   obtain⟨p,hp1,t,rfl,ht⟩:=eJ hp hi;obtain⟨b1,b2⟩:=hb p (dr hp1);refine⟨_,rfl,_,rfl,t,_,0,_,rfl,rfl,.inl (.inl (s2 _ _ ht)),rfl,⟨n,_,rfl,by omega,by omega⟩,λv3 H3 s3 _=>?_⟩;refine⟨_,rfl,_,rfl,t,_,1,_,rfl,rfl,.inl (.inl ((s2.trans s3) _ _ ht)),rfl,⟨n,_,rfl,by omega,by omega⟩,λv4 H4 s4 _=>?_⟩;exact⟨_,rfl,(s2.trans s3).trans s4⟩
  ·rintro σ H2 ⟨v,rfl,s2⟩
   exact k _ _ s2 rfl
abbrev wj:Stmt:=top 25
theorem Qx:bh ["count","thing"] ["count","thing"] (aB wj):=⟨rfl,rfl,rfl,by decide +kernel,rfl,by decide +kernel,by decide +kernel⟩
noncomputable def bT(n:Nat)(p:Nat->Bool):List V:=(List.range n).map λb=>V.bl (p b)
def Ga:Sp:=Pu (λvs H=>∃n t:Nat,vs = [.int n,.int t]/\n<=24) λvs H v H'=>∀n t:Nat,vs = [.int n,.int t]->∃a,v = .ref a/\H a=none/\H' a=some (.lst (bT n λb=>decide (t=b)))
theorem Z2 (F:aS K "own_row" "own_row" wj f fd) (T:Txt mg):aO P w K mg base aX 1 f fd ["count","thing"] Ga:=by
 refine F.ok Qx (λvs H Q E h=>?_) (λcdv A outer s H vs Q E hr h=>?_)
 ·obtain⟨⟨n,t,rfl,_⟩,_⟩:=h
  rfl
 ·obtain⟨⟨n,t,rfl,hn⟩,k⟩:=h
  have nd:=Qx.nd;refine⟨_,(aA (aQ (c6 (own:=["other"]) (fr:=[("thing", 1)]) rfl (cp (aB wj) ["count","thing"] rfl rfl (by decide +kernel)) (cM rfl T.range (ae (pv 0) ah)) (λ_ _ _ _=>⟨(bf (i:=0) (by decide +kernel:(["other","thing"]:List Str).Nodup) rfl (Or.inl rfl)),c9,(gj dH (pv 1) (pv 0) (a_ _))⟩)))),?_⟩;refine⟨_,rfl,n,rfl,(bF (by omega)).1,(bF (by omega)).2,λD hD=>eQ (λi=>.bl (decide (t=i))) src_range hD (dB (by simpa using hn)) (λi H2 Kt hi hs hk=>?_) (λH' hs hl=>?_)⟩
  ·refine⟨_,rfl,_,rfl,rfl,?_⟩
   rw[zk];exact hk _ (Same.refl _)
  ·refine k _ _ hs ?_
   intro n' t' e;cases e;exact⟨D,rfl,hD,by rw[hl];simp[bT]⟩
end
theorem su(n:Nat)(p:Nat->Bool):(bT n p).length=n:=by simp[bT]
theorem sr{n:Nat}{p:Nat->Bool}{i:Nat}(h:i<n):(bT n p).getD i .non = .bl (p i):=by simp[bT,h]
theorem abJ{n:Nat}{p:Nat->Bool}{j:Nat}:(bT n p).set j (.bl true)=bT n λb=>if b=j then true else p b:=by
 apply jN
 ·simp[bT]
 ·intro i h1 h2
  simp only[bT,List.getElem_set,iF,nq]
  by_cases e:j=i
  ·simp[e]
  ·have:¬ i=j:=λz=>e z.symm
   simp[e,this]
theorem lD{n:Nat}{p q:Nat->Bool}(h:∀b,b<n->p b=q b):bT n p=bT n q:=by
 unfold bT;apply nu
 intro b hb;rw[h b (by simpa using hb)]
section
variable {P:Program} {w:World} {K:W.Frag} {mg:Str->Option Value} {base:Heap} {f:Addr} {fd:FuncData}
abbrev vU:Stmt:=top 26
theorem Pj:bh ["one","other"] ["one","other"] (aB vU):=⟨rfl,rfl,rfl,by decide +kernel,rfl,by decide +kernel,by decide +kernel⟩
def Fn:Sp:=Pu (λvs H=>∃(x y n:Nat) (p q:Nat->Bool),vs = [.ref x,.ref y]/\H x=some (.lst (bT n p))/\H y=some (.lst (bT n q))/\n<=24)
 λvs H v H'=>∀(x y n:Nat) (p q:Nat->Bool),vs = [.ref x,.ref y]->H x=some (.lst (bT n p))->H y=some (.lst (bT n q))->∃a,v = .ref a/\H a=none/\H' a=some (.lst (bT n λb=>p b||q b))
theorem vK{n m:Nat}{p q:Nat->Bool}(h:bT n p=bT m q):n=m/\∀b,b<n->p b=q b:=by
 have e:n=m:=by have:=congrArg List.length h;rwa [su,su]at this
 subst e;refine⟨rfl,λb hb=>?_⟩;have:=congrArg (λl=>l.getD b V.non) h;simp only[sr hb]at this;injection this
theorem Zr (F:aS K "either" "either" vU f fd) (T:Txt mg):aO P w K mg base aX 1 f fd ["one","other"] Fn:=by
 refine F.ok Pj (λvs H Q E h=>?_) (λcdv A outer s H vs Q E hr h=>?_)
 ·obtain⟨⟨x,y,n,p,q,rfl,_⟩,_⟩:=h
  rfl
 ·obtain⟨⟨x,y,n,p,q,rfl,hx,hy,hn⟩,k⟩:=h
  have nd:=Pj.nd;refine⟨_,(aA (aQ (c6 (own:=["a","b"]) (fr:=[]) rfl (cp (aB vU) ["one","other"] rfl rfl (by decide +kernel)) (vE (K:=K) true true rfl rfl T.zip (ae (pv 0) (ae (pv 1) ah))) (λ_ _ _ _=>⟨(lA (K:=K) (i:=0) (j:=1) rfl rfl (by decide +kernel:(["a","b"]:List Str).Nodup) rfl rfl rfl rfl),c9,(aaO (pv 0) (jC (pv 1)))⟩)))),?_⟩;refine⟨_,rfl,_,rfl,x,y,_,_,rfl,ag.of hx,ag.of hy,λD hD=>eQ (λi=>.bl (p i||q i)) (wI (c1:=true) (c2:=true) (ag.of hx) (ag.of hy) (n:=n) (by simp[su])) hD (dB hn) (λi H2 Kt hi hs hk=>?_) (λH' hs hl=>?_)⟩
  ·refine⟨_,rfl,p i,sr hi,bq (λh=>?_) (λh=>?_)⟩
   ·have:=hk _ (Same.refl _)
    simpa[h]using this
   ·refine⟨_,rfl,?_⟩
    have:=hk _ (Same.refl _);rw[sr hi];simpa[h]using this
  ·refine k _ _ hs ?_
   intro x' y' n' p' q' e h1 h2;cases e;rw[hx]at h1;rw[hy]at h2;injection h1 with h1
   injection h1 with h1
   injection h2 with h2
   injection h2 with h2
   obtain⟨rfl,e1⟩:=vK h1;obtain⟨_,e2⟩:=vK h2;refine⟨D,rfl,hD,?_⟩;rw[hl];show some (HO.lst (bT n λi=>p i||q i))=_;rw[lD λb hb=>by rw[e1 b hb,e2 b hb]]
abbrev wm:Stmt:=top 27
theorem QC:bh ["one","other"] ["one","other"] (aB wm):=⟨rfl,rfl,rfl,by decide +kernel,rfl,by decide +kernel,by decide +kernel⟩
def Gh:Sp:=Pu (λvs H=>∃(x y n:Nat) (p q:Nat->Bool),vs = [.ref x,.ref y]/\H x=some (.tup (bT n p))/\H y=some (.tup (bT n q))/\n<=24)
 λvs H v H'=>∀(x y n:Nat) (p q:Nat->Bool),vs = [.ref x,.ref y]->H x=some (.tup (bT n p))->H y=some (.tup (bT n q))->∃a,v = .ref a/\H a=none/\H' a=some (.tup (bT n λb=>p b&&q b))
theorem Z8 (F:aS K "shared" "shared" wm f fd) (T:Txt mg):aO P w K mg base aX 1 f fd ["one","other"] Gh:=by
 refine F.ok QC (λvs H Q E h=>?_) (λcdv A outer s H vs Q E hr h=>?_)
 ·obtain⟨⟨x,y,n,p,q,rfl,_⟩,_⟩:=h
  rfl
 ·obtain⟨⟨x,y,n,p,q,rfl,hx,hy,hn⟩,k⟩:=h
  have nd:=QC.nd;refine⟨_,(aA (aQ (fL (mj (K:=K) rfl) rfl T.tuple jX (ae (c6 (own:=["a","b"]) (fr:=[]) rfl (cp (aB wm) ["one","other"] rfl rfl (by decide +kernel)) (vE (K:=K) false false rfl rfl T.zip (ae (pv 0) (ae (pv 1) ah))) (λ_ _ _ _=>⟨(lA (K:=K) (i:=0) (j:=1) rfl rfl (by decide +kernel:(["a","b"]:List Str).Nodup) rfl rfl rfl rfl),c9,(kx (pv 0) (jC (pv 1)))⟩)) ah)))),?_⟩;refine⟨_,rfl,_,rfl,x,y,_,_,rfl,az.of hx,az.of hy,λD hD=>eQ (λi=>.bl (p i&&q i)) (wI (c1:=false) (c2:=false) (az.of hx) (az.of hy) (n:=n) (by simp[su])) hD (dB hn) (λi H2 Kt hi hs hk=>?_) (λH' hs hl=>?_)⟩
  ·refine⟨_,rfl,p i,sr hi,bq (λh=>?_) (λh=>?_)⟩
   ·refine⟨_,rfl,?_⟩
    have:=hk _ (Same.refl _);rw[sr hi];simpa[h]using this
   ·have:=hk _ (Same.refl _)
    simpa[h]using this
  ·refine⟨D,_,rfl,.inl ⟨ag.of hl,λl hl'=>?_⟩⟩
   have hlH:H l=none:=hs.free hl';refine k _ _ (hs.trans (Same.put hl')) ?_;intro x' y' n' p' q' e h1 h2;cases e;rw[hx]at h1;rw[hy]at h2;injection h1 with h1
   injection h1 with h1
   injection h2 with h2
   injection h2 with h2
   obtain⟨rfl,e1⟩:=vK h1;obtain⟨_,e2⟩:=vK h2;refine⟨l,rfl,hlH,?_⟩;rw[av];show some (HO.tup (bT n λi=>p i&&q i))=_;rw[lD λb hb=>by rw[e1 b hb,e2 b hb]]
abbrev vT:Stmt:=top 28
theorem Ph:bh ["rows","place"] ["rows","place"] (aB vT):=⟨rfl,rfl,rfl,by decide +kernel,rfl,by decide +kernel,by decide +kernel⟩
def Fm:Sp:=Pu (λvs H=>∃(v:V) (n j:Nat) (g:Nat->Nat->V),vs = [v,.int j]/\TT H v n g/\j<n/\n<=24)
 λvs H v H'=>∀(u:V) (n j:Nat) (g:Nat->Nat->V),vs = [u,.int j]->TT H u n g->j<n->∃a,v = .ref a/\H a=none/\H' a=some (.tup ((List.range n).map λi=>g i j))
theorem TT.inj{H:Hp}{v:V}{n m:Nat}{g g':Nat->Nat->V}(h:TT H v n g)(h':TT H v m g'):n=m/\∀i j,i<n->j<n->g i j=g' i j:=by
 obtain⟨a,vs,e,q,r⟩:=id h;obtain⟨a',vs',e',q',r'⟩:=id h';rw[e]at e';injection e' with e'
 subst e';rw[q]at q';injection q' with q'
 injection q' with q'
 subst q';have en:n=m:=by
  have h1:=dh r;have h2:=dh r';simp at h1 h2;omega
 subst en;refine⟨rfl,λi j hi hj=>?_⟩;obtain⟨y,h1,b,rfl,h2⟩:=ku (i:=i) (x:=i) r (by simp[hi]);obtain⟨y',h1',b',rfl,h2'⟩:=ku (i:=i) (x:=i) r' (by simp[hi]);rw[h1]at h1';injection h1' with h1'
 injection h1' with h1'
 subst h1';rw[h2]at h2';injection h2' with h2'
 injection h2' with h2'
 have:=congrArg (λl=>l.getD j V.non) h2';simpa[hj]using this
theorem Zo (F:aS K "column" "column" vT f fd) (T:Txt mg):aO P w K mg base aX 1 f fd ["rows","place"] Fm:=by
 refine F.ok Ph (λvs H Q E h=>?_) (λcdv A outer s H vs Q E hr h=>?_)
 ·obtain⟨⟨v,n,j,g,rfl,_⟩,_⟩:=h
  rfl
 ·obtain⟨⟨v,n,j,g,rfl,ht,hj,hn⟩,k⟩:=h
  have nd:=Ph.nd;obtain⟨a,us,rfl,hq,hr'⟩:=id ht;have hlen:us.length=n:=by simpa using(dh hr').symm
  refine⟨_,(aA (aQ (fL (mj (K:=K) rfl) rfl T.tuple jX (ae (c6 (own:=["row"]) (fr:=[("place", 1)]) rfl (cp (aB vT) ["rows","place"] rfl rfl (by decide +kernel)) (Dr (K:=K) rfl (pv 0)) (λ_ _ _ _=>⟨(bf (i:=0) (by decide +kernel:(["row","place"]:List Str).Nodup) rfl (Or.inl rfl)),c9,(aq (aK (K:=K) rfl) (pv 0) (pv 1) (λ_ _=>rfl))⟩)) ah)))),?_⟩;refine⟨_,rfl,a,rfl,⟨_,az.of hq⟩,λD hD=>eQ (λi=>g i j) (Gv (az.of hq)) hD (dB (by omega)) (λi H2 Kt hi hs hk=>?_) (λH' hs hl=>?_)⟩
  ·obtain⟨y,h1,b,rfl,h2⟩:=ku (i:=i) (x:=i) hr' (pZ (by omega))
   refine⟨_,rfl,_,rfl,b,_,j,_,(by rw[aN,h1];rfl),rfl,az.of (hs _ _ h2),qu hj,hk _ (Same.refl _)⟩
  ·refine⟨D,_,rfl,.inl ⟨ag.of hl,λl hl'=>?_⟩⟩
   refine k _ _ (hs.trans (Same.put hl')) ?_;intro u' n' j' g' e h1 h2;injection e with e1 e2
   injection e2 with e2 _
   injection e2 with e2
   have ej:j=j':=by omega
   subst ej;rw[<- e1]at h1;obtain⟨rfl,eg⟩:=ht.inj h1;refine⟨l,rfl,hs.free hl',?_⟩;rw[av,hlen]
   congr 2
   exact nu λi hi=>eg i j (by simpa using hi) hj
end
theorem Y2{N:List Addr}(hN:N.Nodup){i j:Nat}{x:Addr}(a:N[i]?=some x)(b:N[j]?=some x):i=j:=by
 obtain⟨h1,e1⟩:=bN.mp a;obtain⟨h2,e2⟩:=bN.mp b;exact(tL hN).mp (e1.trans e2.symm)
theorem NC:∀{as:List Addr} {t b:Nat},as.Nodup->b ∉ as->(as.set t b).Nodup
 | [],_,_,_,_=>by simp
 |a::r,0,b,nd,hb=>iG.mpr ⟨λh=>hb (ck _ h),(iG.mp nd).2⟩
 |a::r,t+1,b,nd,hb=>by
  rw[List.set_cons_succ];refine iG.mpr ⟨λh=>?_,NC (iG.mp nd).2 λh=>hb (ck _ h)⟩
  rcases R1 h with h|h
  ·exact(iG.mp nd).1 h
  ·subst h;exact hb b9
structure eY (H0 H:Hp) (r n:Nat) (as:List Addr) (R:Nat->Nat->Bool):Prop where
 same:Same H0 H
 lst:H r=some (.lst (as.map V.ref))
 len:as.length=n
 nd:as.Nodup
 Nx:H0 r=none
 new:∀a∈as,H0 a=none/\a≠r
 row:∀(i:Nat) a,as[i]?=some a->H a=some (.lst (bT n (R i)))
theorem eY.congr{H0 H:Hp}{r n:Nat}{as:List Addr}{R R':Nat->Nat->Bool}(W:eY H0 H r n as R)(h:∀a b,a<n->b<n->R a b=R' a b):eY H0 H r n as R':=
 {W with row:=λi a e=>(W.row i a e).trans (by rw[lD λb hb=>h i b (by rw[<- W.len];exact(bN.mp e).1) hb])}
theorem eY.get{H0 H:Hp}{r n:Nat}{as:List Addr}{R:Nat->Nat->Bool}(W:eY H0 H r n as R){i:Nat}(hi:i<n):∃a,as[i]?=some a/\(as.map V.ref)[i]?=some (.ref a)/\a∈as/\H a=some (.lst (bT n (R i))):=by
 have h:i<as.length:=by rw[W.len];exact hi
 exact⟨as[i],ay h,by simp[h],fu h,W.row i _ (ay h)⟩
theorem eY.grow{H0 H H':Hp}{r n:Nat}{as:List Addr}{R:Nat->Nat->Bool}(W:eY H0 H r n as R)(s:Same H H'):eY H0 H' r n as R:=
 {W with same:=W.same.trans s,lst:=s _ _ W.lst,row:=λi a e=>s _ _ (W.row i a e)}
theorem eY.put{H0 H:Hp}{r n:Nat}{as:List Addr}{R:Nat->Nat->Bool}(W:eY H0 H r n as R){i j a:Nat}(ha:as[i]?=some a):
  eY H0 (upd H a (.lst ((bT n (R i)).set j (.bl true)))) r n as (λx y=>if x=i/\y=j then true else R x y):=by
 have am:a∈as:=dr ha;refine{W with same:=λb o e=>?_,lst:=?_,row:=λk b e=>?_}
 ·rw[aG (λz=>by rw[z,(W.new a am).1]at e;cases e)]
  exact W.same _ _ e
 ·rw[aG (bQ (W.new a am).2)]
  exact W.lst
 ·by_cases hk:k=i
  ·subst hk
   rw[ha]at e;cases e;rw[av,abJ]
   congr 2
   apply lD
   intro b hb;simp
  ·have hba:b≠a:=by
    rintro rfl;exact hk (Y2 W.nd e ha)
   rw[aG hba,W.row k b e]
   congr 2
   apply lD
   intro c hc;rw[if_neg (λz=>hk z.1)]
theorem eY.swap{H0 H:Hp}{r n:Nat}{as:List Addr}{R:Nat->Nat->Bool}(W:eY H0 H r n as R){t b:Nat}{p:Nat->Bool}(ht:t<n)(hb:H0 b=none)(hbr:b≠r)(hba:b ∉ as)(hp:H b=some (.lst (bT n p))):
  eY H0 (upd H r (.lst ((as.map V.ref).set t (.ref b)))) r n (as.set t b) (λx y=>if x=t then p y else R x y):=by
 refine⟨λc o e=>?_,?_,by rw[Hm];exact W.len,?_,W.Nx,λc hc=>?_,λk c e=>?_⟩
 ·rw[aG (λz=>by rw[z,W.Nx]at e;cases e)]
  exact W.same _ _ e
 ·rw[av,List.map_set]
 ·exact NC W.nd hba
 ·rcases R1 hc with h|h
  ·exact W.new c h
  ·subst h;exact⟨hb,hbr⟩
 ·by_cases hk:t=k
  ·subst hk
   have hlt:t<as.length:=by rw[W.len];exact ht
   rw[xC hlt]at e;cases e;rw[aG hbr,hp]
   congr 2
   apply lD
   intro y _;rw[if_pos rfl]
  ·rw[tK hk]at e
   rw[aG (W.new c (dr e)).2,W.row k c e]
   congr 2
   apply lD
   intro y _;rw[if_neg (λz=>hk z.symm)]
theorem Sz(a b:Nat):Ev.base [] a b=decide (a=b):=by rw[dm,Ev.oa];simp
theorem SJ(ps:List (Nat × Nat))(p:Nat × Nat)(a b:Nat):Ev.base (ps++[p]) a b=if a=p.1/\b=p.2 then true else Ev.base ps a b:=by
 rw[dm,Ev.oa]
 by_cases h:a=p.1/\b=p.2
 ·rw[if_pos h]
  obtain⟨rfl,rfl⟩:=h;simp
 ·rw[if_neg h,Ev.oa]
  simp only[gy,ig]
  constructor
  ·rintro(h1|h1|h1)
   ·exact .inl h1
   ·exact .inr h1
   ·subst h1;exact absurd ⟨rfl,rfl⟩ h
  ·rintro(h1|h1)
   ·exact .inl h1
   ·exact .inr (.inl h1)
section
variable {P:Program} {w:World} {K:W.Frag} {mg:Str->Option Value} {base:Heap} {f:Addr} {fd:FuncData}
theorem Mt{n j:Nat}(h:j<n):iy n (j:Int)=some j:=by
 unfold iy;rw[if_pos (by omega),if_pos (by omega)];simp
abbrev qx (R:Nat->Nat->Bool):Nat->Nat->V:=λa b=>.bl (R a b)
abbrev sH:Stmt:=top 29
theorem QB:bh ["count","pairs","rows","pair","middle","thing"] ["count","pairs"] (aB sH):=⟨rfl,rfl,rfl,by decide +kernel,rfl,by decide +kernel,by decide +kernel⟩
def Ge(K:W.Frag):Sp:=λvs H Q _=>∃(n a:Nat) (ps:List (Nat × Nat)),vs = [.int n,.ref a]/\nG K H a ps/\n<=24/\(∀p∈ps,p.1<n/\p.2<n) /\
 ∀v H' R,Same H H'->Ev.kG n ps R->TT H' v n (qx R)->Q v H'
theorem at0{α:Type}{xs:List α}{j:Nat}{v:α}(h:xs[j]?=some v):eN xs (0+(j:Int))=some v:=by rw[ft];exact aI h
theorem Xy{n j:Nat}(h:j<n):iy n (0+(j:Int))=some j:=by rw[ft];exact Mt h
theorem abI{n:Nat}{p:Nat->Bool}{j:Nat}(h:j<n):(bT n p)[j]?=some (.bl (p j)):=by simp[bT,h]
theorem Z5 (F:aS K "reach_of" "reach_of" sH f fd) (T:Txt mg) (yX:aC P w K mg base "own_row" ["count","thing"] 1 Ga) (yB:aC P w K mg base "either" ["one","other"] 1 Fn) :
  aO P w K mg base aX 2 f fd ["count","pairs"] (Ge K):=by
 refine F.ok QB (λvs H Q E h=>?_) (λcdv A outer s H vs Q E hr h=>?_)
 ·obtain⟨n,a,ps,rfl,_⟩:=h
  rfl
 ·obtain⟨n,a,ps,rfl,⟨us,jv,hup⟩,hn,hb,k⟩:=h
  have nd:=QB.nd;have en:((n:Int)).toNat=n:=dW n;refine⟨_,(ax (pB (i:=2) nd rfl rfl (own:=["thing"]) (fr:=[("count", 0)]) rfl (cp (aB sH) ["count","pairs","rows","pair","middle","thing"] rfl rfl (by decide +kernel)) (cM rfl T.range (ae (pv 0) ah)) (λ_ _ _ _=>⟨(bf (i:=0) (by decide +kernel:(["thing","count"]:List Str).Nodup) rfl (Or.inl rfl)),c9,(aL yX hr rfl (ae (pv 1) (ae (pv 0) ah)))⟩))
   (ax (cH cF rfl (dk (K:=K) rfl (pv 1)) (bf (i:=3) nd rfl (Or.inl rfl))
   (aA (Ds dj (Oj (aq (aV (K:=K) rfl) (pv 2) (aq (aK (K:=K) rfl) (pv 3) ak (λ_ _=>rfl)) (λ_ _=>rfl)) (aq (aK (K:=K) rfl) (pv 3) ak (λ_ _=>rfl)) set_list))))
   (ax (cH cF rfl (cM rfl T.range (ae (pv 0) ah)) (bf (i:=4) nd rfl (Or.inl rfl))
   (aA (cH cF rfl (cM rfl T.range (ae (pv 0) ah)) (bf (i:=5) nd rfl (Or.inl rfl))
   (aA (bB (cg (aq (aV (K:=K) rfl) (aq (aV (K:=K) rfl) (pv 2) (pv 5) (λ_ _=>rfl)) (pv 4) (λ_ _=>rfl))) (aA (Ds (aL yB hr rfl (ae (aq (aV (K:=K) rfl) (pv 2) (pv 5) (λ_ _=>rfl)) (ae (aq (aV (K:=K) rfl) (pv 2) (pv 4) (λ_ _=>rfl)) ah))) (Oj (pv 2) (pv 5) set_list))) bD)))))
   (aA (aQ (fL (mj (K:=K) rfl) rfl T.tuple jX (ae (c6 (own:=["row"]) (fr:=[]) rfl (cp (aB sH) ["count","pairs","rows","pair","middle","thing"] rfl rfl (by decide +kernel)) (dk (K:=K) rfl (pv 2)) (λ_ _ _ _=>⟨(bf (i:=0) (by decide +kernel:(["row"]:List Str).Nodup) rfl (Or.inl rfl)),c9,(fL (mj (K:=K) rfl) rfl T.tuple jX (ae (pv 0) ah))⟩)) ah))))))),?_⟩
  refine⟨_,rfl,n,rfl,(bF (by omega)).1,(bF (by omega)).2,λD hD=>za (λi=>bT n λb=>decide (i=b)) src_range hD (dB (by simpa using hn)) (λi H2 Kt hi hs hk=>?_) (λH1 as hs hl h1 h2 h3 h4=>?_)⟩
  ·refine⟨_,rfl,_,rfl,⟨n,i,by simp,hn⟩,λv H3 s3 hv=>?_⟩
   obtain⟨b,rfl,hb1,hb2⟩:=hv n i (by simp);exact hk b H3 s3 hb1 hb2
  have W0:eY H H1 D n as (Ev.base []):=⟨hs,hl,h1.trans en,h2,hD,h3,λi b e=>(h4 i b e).trans (by rw[lD λc hc=>(Sz i c).symm])⟩;refine⟨_,rfl,a,rfl,⟨_,hs.seq jv⟩,jr (K:=K) (a:=a) (xs:=us) (λi σ H2=>∃v3,σ = [some (.int n),some (.ref a),some (.ref D),v3,none,none]/\eY H H2 D n as (Ev.base (ps.take i)))
   ⟨none,rfl,by simpa using W0⟩ (λi σ H2 _ hpq=>by obtain⟨_,_,W⟩:=hpq;exact W.same.seq jv) ?_ ?_⟩
  ·rintro i y σ H2 hi ⟨v3,rfl,W⟩
   obtain⟨p,hp1,t,rfl,ht⟩:=eJ hup hi;obtain⟨b1,b2⟩:=hb p (dr hp1);obtain⟨r,r1,r2,r3,r4⟩:=W.get b1;refine⟨_,rfl,_,rfl,t,_,0,_,rfl,rfl,az.of (W.same _ _ ht),rfl,D,_,_,_,rfl,rfl,ag.of W.lst,aI r2,_,rfl,t,_,1,_,rfl,rfl,az.of (W.same _ _ ht),rfl,r,_,_,p.2,rfl,rfl,r4,?_,?_⟩
   ·rw[su];exact Mt b2
   ·refine⟨_,rfl,(W.put r1).congr λx y _ _=>?_⟩
    have et:ps.take (i+1)=ps.take i++[p]:=by rw[p8,hp1];rfl
    rw[et,SJ]
  ·rintro σ H2 ⟨v3,rfl,W⟩
   have el:us.length=ps.length:=(dh hup).symm;rw[el,nA]at W;have hlen:us.length=ps.length:=(dh hup).symm;refine⟨_,rfl,n,rfl,(bF (by omega)).1,(bF (by omega)).2,fb (lo:=0) (n:=((n:Int)).toNat) (λm σ H2=>∃v3 v4 v5 as R,σ = [some (.int n),some (.ref a),some (.ref D),v3,v4,v5]/\eY H H2 D n as R/\Ev.jU n ps m R)
    ⟨v3,none,none,as,_,rfl,W,Ev.jU.start hb⟩ ?_ ?_⟩
   ·rintro m σ H2 hm ⟨v3,v4,v5,as,R,rfl,W,WI⟩
    have hmn:m<n:=by omega
    refine⟨_,rfl,n,rfl,(bF (by omega)).1,(bF (by omega)).2,fb (lo:=0) (n:=((n:Int)).toNat) (λt σ H2=>∃v5 as,σ = [some (.int n),some (.ref a),some (.ref D),v3,some (.int (0+m)),v5] /\
     eY H H2 D n as (λx y=>if x<t then Ev.kF R m x y else R x y)) ⟨v5,as,rfl,W.congr λx y _ _=>by rw[if_neg (xJ x)]⟩ ?_ ?_⟩
    ·rintro t σ H3 ht ⟨v5,as,rfl,W⟩
     have htn:t<n:=by omega
     obtain⟨rt,t1,t2,t3,t4⟩:=W.get htn;obtain⟨rm,m1,m2,m3,m4⟩:=W.get hmn;refine⟨_,rfl,_,rfl,D,_,_,_,rfl,rfl,ag.of W.lst,at0 t2,_,rfl,rt,_,_,_,rfl,rfl,ag.of t4,at0 (abI hmn),_,rfl,bq (λh=>?_) (λh=>?_)⟩
     ·rw[if_neg (dM t)]at h
      refine⟨_,rfl,_,rfl,D,_,_,_,rfl,rfl,ag.of W.lst,at0 t2,_,rfl,_,rfl,D,_,_,_,rfl,rfl,ag.of W.lst,at0 m2,⟨rt,rm,n,_,_,rfl,t4,m4,hn⟩,λv H4 s4 hv=>?_⟩;obtain⟨b,rfl,q1,q2⟩:=hv rt rm n _ _ rfl t4 m4;have W4:=W.grow s4;have hbD:b≠D:=λe=>by rw[e,W.lst]at q1;cases q1
      have hba:b ∉ as:=λhm=>by
       obtain⟨j,hj,e⟩:=ie hm;have:=W.row j b (by rw[ay hj,e]);rw[q1]at this;cases this
      refine⟨_,rfl,_,rfl,D,_,_,t,rfl,rfl,W4.lst,?_,?_⟩
      ·rw[au,W4.len];exact Xy htn
      ·refine⟨_,_,rfl,(W4.swap htn (W.same.free q1) hbD hba q2).congr λx y hx hy=>?_⟩
       by_cases e:x=t
       ·subst e
        rw[if_pos rfl,if_neg (dM x),if_pos (nD x)];have em:(if m<x then Ev.kF R m m y else R m y)=R m y:=by
         split
         ·unfold Ev.kF
          cases R m y<;>simp
         ·rfl
        rw[em];unfold Ev.kF;rw[h,gO]
       ·rw[if_neg e]
        by_cases rD:x<t
        ·rw[if_pos rD,if_pos (by omega)]
        ·rw[if_neg rD,if_neg (by omega)]
     ·rw[if_neg (dM t)]at h
      refine⟨_,as,rfl,W.congr λx y hx hy=>?_⟩
      by_cases e:x=t
      ·subst e
       rw[if_neg (dM x),if_pos (nD x)];unfold Ev.kF;have h':R x m=false:=by simpa using h
       rw[h',lO,w8]
      ·by_cases rD:x<t
       ·rw[if_pos rD,if_pos (by omega)]
       ·rw[if_neg rD,if_neg (by omega)]
    ·rintro σ H3 ⟨v5,as,rfl,W⟩
     exact⟨_,_,_,as,Ev.kF R m,rfl,W.congr λx y hx _=>by rw[if_pos (by omega)],WI.step hmn⟩
   ·rintro σ H2 ⟨v3,v4,v5,as,R,rfl,W,WI⟩
    rw[en]at WI;refine⟨_,rfl,D,rfl,⟨_,ag.of W.lst⟩,λD2 hD2=>qC (λi v H=>∃b,v = .ref b/\b≠D2/\H b=some (.tup (bT n (R i)))) (src_list (ag.of W.lst)) hD2 (dB (by rw[au,W.len];exact hn))
     (λi v H H' s hpq=>by obtain⟨b,e,hb,q⟩:=hpq;exact⟨b,e,hb,s _ _ hb q⟩) (λi H3 Kt hi hs hy hk=>?_) (λH3 ys hs hl hp=>?_)⟩
    ·rw[au,W.len]at hi
     obtain⟨r,r1,r2,r3,r4⟩:=W.get hi;obtain⟨zs,hz⟩:=hy;refine⟨_,rfl,r,_,by rw[aN,r2];rfl,.inl ⟨ag.of (hs _ _ r4),λl hl'=>?_⟩⟩;exact hk _ _ (Same.put hl') ⟨l,rfl,(λe=>by rw[e,hz]at hl';cases hl'),av⟩
    ·refine⟨D2,_,rfl,.inl ⟨ag.of hl,λl hl'=>?_⟩⟩
     have Um:(as.map V.ref).length=n:=by rw[au,W.len]
     rw[Um]at hp;refine k _ _ R ((W.same.trans hs).trans (Same.put hl')) WI.done ⟨l,ys,rfl,av,Paired.d_ hp λi u hpq=>by obtain⟨b,e,_,q⟩:=hpq;exact⟨b,e,Same.put hl' _ _ q⟩⟩
end
theorem vC{H:Hp}{L:Addr}{xs ys:List V}(hL:H L=some (.lst xs)){ps:List (Nat × Nat)}{us:List V}(h:Paired (c5 H) ps us):Paired (c5 (upd H L (.lst ys))) ps us:=
 Paired.d_ h λ_ _ hpq=>by obtain⟨t,e,q⟩:=hpq;exact⟨t,e,by rw[aG (gi q hL (λz=>nomatch z))];exact q⟩
theorem pz{α β:Type}{F:α->β->Prop}:∀{a b:List α} {c d:List β},Paired F a c->Paired F b d->Paired F (a++b) (c++d)
 |_,_,_,_,.nil,h=>h
 |_,_,_,_,.cons r t,h=>.cons r (pz t h)
theorem Di{α β γ:Type}{F:γ->β->Prop}{g:α->γ}:∀{a:List α} {c:List β},Paired (λx y=>F (g x) y) a c->Paired F (a.map g) c
 |_,_,.nil=>.nil
 |_,_,.cons r t=>.cons r (Di t)
theorem Dx{α:Type}(i:Nat)(h:Nat->List α):(List.range (i+1)).flatMap h=(List.range i).flatMap h++h i:=by
 rw[jg,xv];simp
noncomputable def GJ(n:Nat):List (Nat × Nat):=(List.range n).flatMap λl=>(List.range (n - (l+1))).map λj=>(l,l+1+j)
theorem Nq{n:Nat}{p:Nat × Nat}(h:p∈GJ n):p.1<p.2/\p.2<n:=by
 unfold GJ at h;rw[lR]at h;obtain⟨l,hl,h⟩:=h;rw[cS]at h;obtain⟨j,hj,rfl⟩:=h;simp at hl hj ⊢;omega
noncomputable def jA(n:Nat)(R:Nat->Nat->Bool):List (Nat × Nat):=(List.range n).flatMap λl=>((List.range n).filter λh=>!decide (l=h)&&R l h).map λh=>(l,h)
section
variable {P:Program} {w:World} {K:W.Frag} {mg:Str->Option Value} {base:Heap} {f:Addr} {fd:FuncData}
abbrev wo:Stmt:=top 30
theorem QF:bh ["count","told","low"] ["count"] (aB wo):=⟨rfl,rfl,rfl,by decide +kernel,rfl,by decide +kernel,by decide +kernel⟩
def wG:Sp:=λvs H Q _=>∃n:Nat,vs = [.int n]/\n<=24/\∀l us H',Same H H'->H' l=some (.lst us)->Paired (c5 H') (GJ n) us->Q (.ref l) H'
theorem aad (F:aS K "twos" "twos" wo f fd) (T:Txt mg):aO P w K mg base aX 1 f fd ["count"] wG:=by
 refine F.ok QF (λvs H Q E h=>?_) (λcdv A outer s H vs Q E hr h=>?_)
 ·obtain⟨n,rfl,_⟩:=h
  rfl
 ·obtain⟨n,rfl,hn,k⟩:=h
  have nd:=QF.nd;have en:((n:Int)).toNat=n:=dW n;refine⟨_,(ax (aP (i:=1) nd rfl (Or.inl rfl) (bV ah))
   (ax (cH cF rfl (cM rfl T.range (ae (pv 0) ah)) (bf (i:=2) nd rfl (Or.inr rfl))
   (aA (dI (eV (K:=K) rfl eM HY Sb Nt (pv 1) (ae (c6 (own:=["high"]) (fr:=[("low", 2)]) rfl (cp (aB wo) ["count","told","low"] rfl rfl (by decide +kernel)) (Dq rfl T.range (ae (aJ dG (pv 2) ak) (ae (pv 0) ah))) (λ_ _ _ _=>⟨(bf (i:=0) (by decide +kernel:(["high","low"]:List Str).Nodup) rfl (Or.inl rfl)),c9,(gJ (ae (pv 1) (ae (pv 0) ah)))⟩)) ah)))))
   (aA (aQ (pv 1))))),?_⟩
  refine⟨by show 0<=sizeLine;decide,λL hL=>?_⟩;refine⟨_,rfl,n,rfl,(bF (by omega)).1,(bF (by omega)).2,fb (lo:=0) (n:=((n:Int)).toNat) (λi σ H2=>∃v2 us,σ = [some (.int n),some (.ref L),v2]/\Same H H2/\H2 L=some (.lst us)/\us.length<=24*i /\
   Paired (c5 H2) ((List.range i).flatMap λl=>(List.range (n - (l+1))).map λj=>(l,l+1+j)) us) ⟨none,[],rfl,Same.put hL,av,by simp,.nil⟩ ?_ ?_⟩
  ·rintro i σ H2 hi ⟨v2,us,rfl,s2,hl,hlen,hp⟩
   have hin:i<n:=by omega
   refine⟨_,rfl,.inl ⟨rfl,_,ag.of hl⟩,?_⟩;refine⟨_,rfl,_,_,rfl,rfl,_,rfl,(0+(i:Int)+1),n,rfl,⟨by omega,by omega,by omega,by omega⟩,λD hD=>?_⟩;refine qC (λj v H=>∃t,v = .ref t/\t≠D/\H t=some (.tup [.int i,.int ((i+1+j:Nat):Int)])) src_range hD (dB (by omega)) (λj v H H' s hpq=>by obtain⟨b,e,hb,q⟩:=hpq;exact⟨b,e,hb,s _ _ hb q⟩) (λj H3 Kt hj hs hy hk=>?_) (λH3 ys hs hl3 hp3=>?_)
   ·obtain⟨zs,hz⟩:=hy
    refine⟨_,rfl,_,rfl,by show 2<=sizeLine;decide,λt ht=>?_⟩;refine hk _ _ (Same.put ht) ⟨t,rfl,(λe=>by rw[e,hz]at ht;cases ht),?_⟩;rw[av]
    congr 4
    ·omega
    ·congr 1
     push_cast
     omega
   ·have hDL:D≠L:=λe=>by rw[e,hl]at hD;cases hD
    have Wu:ys.length=n - (i+1):=by
     have:=dh hp3;simp at this;omega
    refine⟨L,D,us,ys,rfl,rfl,hs _ _ hl,hl3,by have:=@c7 100000 (by omega);omega,?_⟩;refine⟨_,us++ys,rfl,?_,av,by rw[cA];omega,?_⟩
    ·intro b o e
     rw[aG (λz=>by rw[z,hL]at e;cases e)];exact hs _ _ (s2 _ _ e)
    ·rw[Dx]
     refine vC (hs _ _ hl) (pz (eK.same hs hp) (Di ?_));have ec:((n:Int) - (0+(i:Int)+1)).toNat=n - (i+1):=by omega
     rw[ec]at hp3;exact Paired.d_ hp3 λj v hpq=>by obtain⟨t,e,_,q⟩:=hpq;exact⟨t,e,q⟩
  ·rintro σ H2 ⟨v2,us,rfl,s2,hl,hlen,hp⟩
   rw[en]at hp;exact⟨_,rfl,k L us H2 s2 hl hp⟩
abbrev Et:Stmt:=top 31
theorem Qt:bh ["count","reach","two"] ["count","reach"] (aB Et):=⟨rfl,rfl,rfl,by decide +kernel,rfl,by decide +kernel,by decide +kernel⟩
def FV:Sp:=λvs H Q _=>∃(n:Nat) (v:V) (R:Nat->Nat->Bool),vs = [.int n,v]/\TT H v n (qx R)/\n<=24/\(∀a b,a<b->b<n->¬ (R a b=true/\R b a=true))/\∀H',Same H H'->Q .non H'
theorem ZX (F:aS K "need_one_way" "need_one_way" Et f fd) (T:Txt mg) (oz:aC P w K mg base "twos" ["count"] 1 wG):aO P w K mg base aX 2 f fd ["count","reach"] FV:=by
 refine F.ok Qt (λvs H Q E h=>?_) (λcdv A outer s H vs Q E hr h=>?_)
 ·obtain⟨n,v,R,rfl,_⟩:=h
  rfl
 ·obtain⟨n,v,R,rfl,ht,hn,ha,k⟩:=h
  have nd:=Qt.nd;refine⟨_,(aA (cH cF rfl (dk (K:=K) rfl (aL oz hr rfl (ae (pv 0) ah))) (bf (i:=2) nd rfl (Or.inl rfl))
   (aA (bB (PW.pt (mJ (cg (aq (aK (K:=K) rfl) (aq (aK (K:=K) rfl) (pv 1) (aq (aK (K:=K) rfl) (pv 2) ak (λ_ _=>rfl)) (λ_ _=>rfl)) (aq (aK (K:=K) rfl) (pv 2) ak (λ_ _=>rfl)) (λ_ _=>rfl))) (mK (cg (aq (aK (K:=K) rfl) (aq (aK (K:=K) rfl) (pv 1) (aq (aK (K:=K) rfl) (pv 2) ak (λ_ _=>rfl)) (λ_ _=>rfl)) (aq (aK (K:=K) rfl) (pv 2) ak (λ_ _=>rfl)) (λ_ _=>rfl)))))) (aA vG) bD)))),?_⟩
  refine⟨_,rfl,n,rfl,hn,λl us H1 s1 hl hp=>⟨l,rfl,⟨_,ag.of hl⟩,jr (K:=K) (a:=l) (xs:=us) (λi σ H2=>∃v2,σ = [some (.int n),some v,v2]/\Same H1 H2) ⟨none,rfl,Same.refl _⟩ (λi σ H2 _ hpq=>by obtain⟨_,_,s2⟩:=hpq;exact ag.of (s2 _ _ hl)) ?_ ?_⟩⟩
  ·rintro i y σ H2 hi ⟨v2,rfl,s2⟩
   obtain⟨p,hp1,t,rfl,htt⟩:=eJ hp hi;obtain⟨b1,b2⟩:=Nq (dr hp1);obtain⟨a,vs,r1,rfl,q1,q2,q3,q4⟩:=(ht.same (s1.trans s2)).row (show p.1<n by omega);obtain⟨a',vs',r2,e',vH,q2',Dt,Du⟩:=(ht.same (s1.trans s2)).row b2;cases e';rw[q1]at vH;cases vH;have j9:=s2 _ _ htt;refine⟨_,rfl,_,rfl,t,_,0,_,rfl,rfl,az.of j9,rfl,a,_,_,_,rfl,rfl,az.of q1,aI q3,_,rfl,t,_,1,_,rfl,rfl,az.of j9,rfl,r1,_,_,_,rfl,rfl,az.of q4,qu b2,_,rfl,bq (λh=>?_) (λh=>?_)⟩
   ·refine⟨_,rfl,_,rfl,t,_,1,_,rfl,rfl,az.of j9,rfl,a,_,_,_,rfl,rfl,az.of q1,aI Dt,_,rfl,t,_,0,_,rfl,rfl,az.of j9,rfl,r2,_,_,_,rfl,rfl,az.of Du,qu (show p.1<n by omega),_,rfl,bq (λh'=>?_) (λh'=>?_)⟩
    ·exact absurd ⟨h,h'⟩ (ha _ _ b1 b2)
    ·exact⟨_,rfl,s2⟩
   ·refine bA ?_
    exact⟨_,rfl,s2⟩
  ·rintro σ H2 ⟨v2,rfl,s2⟩
   exact k _ (s1.trans s2)
end
noncomputable def gf(n:Nat)(p:Nat->Bool):List Key:=(List.range n).map λb=>Sum.inl (if p b then 1 else 0)
theorem Ct{n:Nat}{p q:Nat->Bool}(h:gf n p=gf n q):∀b,b<n->p b=q b:=by
 intro b hb;have:=congrArg (λl=>l[b]?) h;simp only[gf,bX,pZ hb,xM,xN,Sum.inl.injEq]at this;cases hp:p b<;>cases hq:q b<;>simp[hp,hq]at this ⊢
theorem XX{n:Nat}{p q:Nat->Bool}(h:∀b,b<n->p b=q b):gf n p=gf n q:=by
 unfold gf;apply nu
 intro b hb;rw[h b (by simpa using hb)]
theorem Mx(p:Nat->Bool):∀l:List Nat,Cr (l.map λb=>(Sum.inl (if p b then 1 else 0):Key)) (l.map λb=>V.bl (p b))
 | []=>.nil
 |b::r=>.cons (.inr ⟨p b,rfl,rfl⟩) (Mx p r)
theorem Ri{H:Hp}{b:Addr}{n:Nat}{p:Nat->Bool}(h:H b=some (.tup (bT n p))):jT H b (gf n p):=⟨_,Mx p _,h⟩
noncomputable def g_(n:Nat)(R:Nat->Nat->Bool):Nat->List (List Key × V)
 |0=>[]
 |i+1=>g_ n R i++[(gf n (R i),.int i)]
theorem MK(n:Nat)(R:Nat->Nat->Bool):∀i,(g_ n R i).length=i
 |0=>rfl
 |i+1=>by rw[g_,cA,MK n R i];rfl
theorem Yw(l:List (List Key × V)){k k':List Key}{v:V}(e:¬ k'=k)(h:dC l k=none):dC (l++[(k',v)]) k=none:=by
 induction l with
 |nil=>exact kE (p:=(k',v)) e
 |cons p r ih =>
  rw[List.cons_append]
  by_cases q:p.1=k
  ·rw[lK q]at h;cases h
  ·rw[kE q]at h ⊢;exact ih h
theorem Cw{n:Nat}{R:Nat->Nat->Bool}{k:List Key}:∀{i:Nat},(∀c,c<i->gf n (R c)≠k)->dC (g_ n R i) k=none
 |0,_=>rfl
 |i+1,h=>by
  have ih:=Cw (n:=n) (R:=R) (k:=k) (i:=i) λc hc=>h c (by omega);have hk:dC (g_ n R i) k=none:=ih;rw[g_];have e:¬ gf n (R i)=k:=h i (by omega);exact Yw (g_ n R i) e hk
theorem MN{n:Nat}{R:Nat->Nat->Bool}(dis:∀i j,i<n->j<n->(∀b,b<n->R i b=R j b)->i=j){c:Nat}(hc:c<n):∀{i:Nat},i<=n->c<i->dC (g_ n R i) (gf n (R c))=some (.int c)
 |0,_,h=>by omega
 |i+1,hi,h=>by
  rw[g_,Ru _ _ _ _ (Cw λd hd e=>by have:=dis d i (by omega) (by omega) (Ct e);omega)]
  by_cases e:c=i
  ·subst e;rw[if_pos rfl]
  ·rw[if_neg (λz=>e (dis c i hc (by omega) (Ct z)))]
   exact MN dis hc (by omega) (by omega)
noncomputable def f7(n:Nat)(R:Nat->Nat->Bool)(a b:Nat):V:=(dC (g_ n R n) (gf n λx=>R a x&&R b x)).getD .non
theorem iM{n:Nat}{R:Nat->Nat->Bool}(dis:∀i j,i<n->j<n->(∀b,b<n->R i b=R j b)->i=j){a b c:Nat}(hc:c<n)(h:∀x,x<n->R c x=(R a x&&R b x)):f7 n R a b = .int c:=by
 unfold f7;rw[<- XX h,MN dis hc (aW _) hc];rfl
section
variable {P:Program} {w:World} {K:W.Frag} {mg:Str->Option Value} {base:Heap} {f:Addr} {fd:FuncData}
def jk(H:Hp)(n:Nat)(R:Nat->Nat->Bool)(us:List V):Prop:=Paired (λi u=>∃b,u = .ref b/\H b=some (.tup (bT n (R i)))) (List.range n) us
theorem jk.same{H H':Hp}{n:Nat}{R:Nat->Nat->Bool}{us:List V}(s:Same H H')(h:jk H n R us):jk H' n R us:=Paired.d_ h λ_ _ hpq=>by obtain⟨b,e,q⟩:=hpq;exact⟨b,e,s _ _ q⟩
theorem jk.len{H:Hp}{n:Nat}{R:Nat->Nat->Bool}{us:List V}(h:jk H n R us):us.length=n:=by simpa using(dh h).symm
theorem jk.get{H:Hp}{n:Nat}{R:Nat->Nat->Bool}{us:List V}(h:jk H n R us){i:Nat}(hi:i<n):∃b,us[i]?=some (.ref b)/\H b=some (.tup (bT n (R i))):=by
 obtain⟨y,h1,b,rfl,h2⟩:=ku (i:=i) (x:=i) h (pZ hi);exact⟨b,h1,h2⟩
abbrev vW:Stmt:=top 32
theorem Pl:bh ["rows","things","thing"] ["rows","things","thing"] (aB vW):=⟨rfl,rfl,rfl,by decide +kernel,rfl,by decide +kernel,by decide +kernel⟩
def Fp(K:W.Frag):Sp:=λvs H Q _=>∃(c:Bool) (a d t n:Nat) (us:List V) (R:Nat->Nat->Bool) (kvs:List (List Key × V)),vs = [.ref a,.ref d,.int t]/\Sq c K H a us/\jk H n R us/\H d=some (.dT kvs)/\t<n/\n<=24 /\
 ∀l H',Same H H'->H l=none->H' l=some (.tup ((List.range n).map λj=>(dC kvs (gf n λb=>R t b&&R j b)).getD .non))->Q (.ref l) H'
theorem Zu (F:aS K "ends_with" "ends_with" vW f fd) (T:Txt mg) (y6:aC P w K mg base "shared" ["one","other"] 1 Gh):aO P w K mg base aX 2 f fd ["rows","things","thing"] (Fp K):=by
 refine F.ok Pl (λvs H Q E h=>?_) (λcdv A outer s H vs Q E hr h=>?_)
 ·obtain⟨c,a,d,t,n,us,R,kvs,rfl,_⟩:=h
  rfl
 ·obtain⟨c,a,d,t,n,us,R,kvs,rfl,hq,hrow,hd,ht,hn,k⟩:=h
  have nd:=Pl.nd;have hu:=LW hr;refine⟨_,(aA (aQ (fL (mj (K:=K) rfl) rfl T.tuple jX (ae (c6 (own:=["row"]) (fr:=[("things", 1),("rows", 0),("thing", 2)]) rfl (cp (aB vW) ["rows","things","thing"] rfl rfl (by decide +kernel)) (aaW (K:=K) c rfl (pv 0)) (λ_ _ _ _=>⟨(bf (i:=0) (by decide +kernel:(["row","things","rows","thing"]:List Str).Nodup) rfl (Or.inl rfl)),c9,(aaH hu (pv 1) (aL y6 hr rfl (ae (aq (XB (K:=K) c rfl) (pv 2) (pv 3) (λ_ _=>rfl)) (ae (pv 0) ah))) ⟨rfl,rfl,rfl,rfl⟩)⟩)) ah)))),?_⟩;refine⟨_,rfl,a,rfl,⟨_,hq⟩,λD hD=>eQ (λj=>(dC kvs (gf n λb=>R t b&&R j b)).getD .non) (ab_ hq) hD (dB (by rw[hrow.len];exact hn)) (λi H2 Kt hi hs hk=>?_) (λH' hs hl=>?_)⟩
  ·rw[hrow.len]at hi
   obtain⟨bt,t1,t2⟩:=hrow.get ht;obtain⟨bi,i1,i2⟩:=hrow.get hi;refine⟨_,rfl,d,rfl,.inr ⟨kvs,.inl (hs _ _ hd)⟩,?_⟩;refine⟨_,rfl,_,rfl,a,us,_,_,rfl,rfl,hs.sq hq,aI t1,_,rfl,⟨bt,bi,n,R t,R i,by rw[aN,i1];rfl,hs _ _ t2,hs _ _ i2,hn⟩,λv H3 s3 hv=>?_⟩;obtain⟨b,rfl,q1,q2⟩:=hv bt bi n (R t) (R i) (by rw[aN,i1];rfl) (hs _ _ t2) (hs _ _ i2);exact⟨_,pP.t (s3 _ _ (hs _ _ hd)) (Ri q2),hk _ s3⟩
  ·refine⟨D,_,rfl,.inl ⟨ag.of hl,λl hl'=>?_⟩⟩
   rw[hrow.len];exact k l _ (hs.trans (Same.put hl')) (hs.free hl') av
abbrev vV:Stmt:=top 33
theorem Pk:bh ["rows","things","thing","row"] ["rows"] (aB vV):=⟨rfl,rfl,rfl,by decide +kernel,rfl,by decide +kernel,by decide +kernel⟩
def Fo(K:W.Frag):Sp:=λvs H Q _=>∃(c:Bool) (a n:Nat) (us:List V) (R:Nat->Nat->Bool),vs = [.ref a]/\Sq c K H a us/\jk H n R us/\n<=24/\(∀i j,i<n->j<n->(∀b,b<n->R i b=R j b)->i=j) /\
 ∀v H',Same H H'->TT H' v n (f7 n R)->Q v H'
theorem Zt (F:aS K "ends_of" "ends_of" vV f fd) (T:Txt mg) (yC:aC P w K mg base "ends_with" ["rows","things","thing"] 2 (Fp K)):aO P w K mg base aX 3 f fd ["rows"] (Fo K):=by
 refine F.ok Pk (λvs H Q E h=>?_) (λcdv A outer s H vs Q E hr h=>?_)
 ·obtain⟨c,a,n,us,R,rfl,_⟩:=h
  rfl
 ·obtain⟨c,a,n,us,R,rfl,hq,hrow,hn,dis,k⟩:=h
  have nd:=Pk.nd;have hu:=LW hr;have hlen:=hrow.len;refine⟨_,(ax (aP (i:=1) nd rfl (Or.inr rfl) aaI)
   (ax (cH cF rfl (Dp (K:=K) c rfl rfl T.enumerate (ae (pv 0) ah)) (lA (K:=K) (i:=2) (j:=3) rfl rfl nd rfl rfl rfl rfl)
   (aA (aa2 hu (pv 1) (pv 3) (pv 2) rfl)))
   (aA (aQ (fL (mj (K:=K) rfl) rfl T.tuple jX (ae (c6 (own:=["thing"]) (fr:=[("rows", 0),("things", 1)]) rfl (cp (aB vV) ["rows","things","thing","row"] rfl rfl (by decide +kernel)) (cM rfl T.range (ae (aY (cI (K:=K) rfl) rfl T.len cT (ae (pv 0) ah)) ah)) (λ_ _ _ _=>⟨(bf (i:=0) (by decide +kernel:(["thing","rows","things"]:List Str).Nodup) rfl (Or.inl rfl)),c9,(aL yC hr rfl (ae (pv 1) (ae (pv 2) (ae (pv 0) ah (ao nofun)) (ao nofun)) (ao nofun)))⟩)) ah)))))),?_⟩
  intro d hd;refine⟨_,rfl,a,us,rfl,(Same.put hd).sq hq,Bh (K:=K) (c:=c) (l:=a) (xs:=us) (λi σ H2=>∃v2 v3,σ = [some (.ref a),some (.ref d),v2,v3]/\Same H H2/\H2 d=some (.dT (g_ n R i))/\i<=n)
   ⟨none,none,rfl,Same.put hd,av,eD _⟩ (λi σ H2 hpq=>by obtain⟨_,_,_,s2,_⟩:=hpq;exact s2.sq hq) ?_ ?_⟩
  ·rintro i x σ H2 t hx ht ⟨v2,v3,rfl,s2,h2,hi⟩
   have hin:i<n:=by rw[<- hlen];exact(bN.mp hx).1
   obtain⟨bi,i1,i2⟩:=hrow.get hin;rw[i1]at hx;cases hx;refine⟨t,_,rfl,az.of av,rfl,_,_,rfl,_,_,rfl,rfl,?_⟩;have hdt:d≠t:=λe=>by rw[<- e,h2]at ht;cases ht
   have h2':(upd H2 t (.tup [.int i,.ref bi])) d=some (.dT (g_ n R i)):=by rw[aG hdt];exact h2
   have i3:(upd H2 t (.tup [.int i,.ref bi])) bi=some (.tup (bT n (R i))):=Same.put ht _ _ (s2 _ _ i2);have hnone:dC (g_ n R i) (gf n (R i))=none:=Cw λc' hc' e=>by have:=dis c' i (by omega) hin (Ct e);omega
   refine⟨_,rfl,_,rfl,_,rfl,d,_,rfl,pQ.t h2' (Ri i3) (by rw[MK];exact dB (by omega)),?_⟩;refine⟨_,_,rfl,?_,?_,hin⟩
   ·intro b o e
    rw[aG (λz=>by rw[z,hd]at e;cases e)];exact Same.put ht _ _ (s2 _ _ e)
   ·rw[av,aa_ _ hnone]
    rfl
  ·rintro σ H2 ⟨v2,v3,rfl,s2,h2,hi⟩
   rw[hlen]at h2;have hq2:ag K H2 a us\/az K H2 a us:=by
    have:=s2.sq hq;cases c with
    |true=>exact .inl this
    |false=>exact .inr this
   refine⟨_,rfl,a,us,rfl,hq2,us.length,rfl,(bF (by omega)).1,(bF (by omega)).2,λD hD=>?_⟩;rw[hlen];refine qC (λi v H=>∃b,v = .ref b/\b≠D/\H b=some (.tup ((List.range n).map (f7 n R i)))) src_range hD (dB (by simpa using hn)) (λi v H H' s hpq=>by obtain⟨b,e,hb,q⟩:=hpq;exact⟨b,e,hb,s _ _ hb q⟩) (λi H3 Kt hi hs hy hk=>?_) (λH3 ys hs hl hp=>?_)
   ·have hin:i<n:=by simpa using hi
    obtain⟨zs,hz⟩:=hy;refine⟨_,rfl,_,rfl,_,rfl,c,a,d,i,n,us,R,_,by simp,hs.sq (s2.sq hq),(hrow.same s2).same hs,hs _ _ h2,hin,hn,λl H4 s4 h4 q4=>?_⟩;exact hk _ H4 s4 ⟨l,rfl,(λe=>by rw[e,hz]at h4;cases h4),q4⟩
   ·refine⟨D,_,rfl,.inl ⟨ag.of hl,λl hl'=>?_⟩⟩
    have en:((n:Int)).toNat=n:=dW n;rw[en]at hp;exact k _ _ ((s2.trans hs).trans (Same.put hl')) ⟨l,ys,rfl,av,Paired.d_ hp λi u hpq=>by obtain⟨b,e,_,q⟩:=hpq;exact⟨b,e,Same.put hl' _ _ q⟩⟩
end
theorem eG{α:Type}{n:Nat}{g:Nat->α}{j:Nat}(h:j<n):((List.range n).map g)[j]?=some (g j):=by simp[h]
section
variable {P:Program} {w:World} {K:W.Frag} {mg:Str->Option Value} {base:Heap} {f:Addr} {fd:FuncData}
abbrev Eo:Stmt:=top 34
theorem Qq:bh ["count","joins","meets","two"] ["count","joins","meets"] (aB Eo):=⟨rfl,rfl,rfl,by decide +kernel,rfl,by decide +kernel,by decide +kernel⟩
def FQ:Sp:=λvs H Q _=>∃(n:Nat) (v u:V) (g g':Nat->Nat->V),vs = [.int n,v,u]/\TT H v n g/\TT H u n g'/\n<=24/\(∀a b,a<n->b<n->g a b≠.non/\g' a b≠.non)/\∀H',Same H H'->Q .non H'
theorem ZW (F:aS K "need_ends" "need_ends" Eo f fd) (T:Txt mg) (oz:aC P w K mg base "twos" ["count"] 1 wG):aO P w K mg base aX 2 f fd ["count","joins","meets"] FQ:=by
 refine F.ok Qq (λvs H Q E h=>?_) (λcdv A outer s H vs Q E hr h=>?_)
 ·obtain⟨n,v,u,g,g',rfl,_⟩:=h
  rfl
 ·obtain⟨n,v,u,g,g',rfl,ht,ht',hn,ha,k⟩:=h
  have nd:=Qq.nd;refine⟨_,(aA (cH cF rfl (dk (K:=K) rfl (aL oz hr rfl (ae (pv 0) ah))) (bf (i:=3) nd rfl (Or.inl rfl))
   (aA (bB (PW.pt (dJ (bu vy (aq (aK (K:=K) rfl) (aq (aK (K:=K) rfl) (pv 1) (aq (aK (K:=K) rfl) (pv 3) ak (λ_ _=>rfl)) (λ_ _=>rfl)) (aq (aK (K:=K) rfl) (pv 3) ak (λ_ _=>rfl)) (λ_ _=>rfl)) jB (a_ _)) (fj (bu vy (aq (aK (K:=K) rfl) (aq (aK (K:=K) rfl) (pv 2) (aq (aK (K:=K) rfl) (pv 3) ak (λ_ _=>rfl)) (λ_ _=>rfl)) (aq (aK (K:=K) rfl) (pv 3) ak (λ_ _=>rfl)) (λ_ _=>rfl)) jB (a_ _))))) (aA vG) bD)))),?_⟩
  refine⟨_,rfl,n,rfl,hn,λl us H1 s1 hl hp=>⟨l,rfl,⟨_,ag.of hl⟩,jr (K:=K) (a:=l) (xs:=us) (λi σ H2=>∃v2,σ = [some (.int n),some v,some u,v2]/\Same H1 H2) ⟨none,rfl,Same.refl _⟩ (λi σ H2 _ hpq=>by obtain⟨_,_,s2⟩:=hpq;exact ag.of (s2 _ _ hl)) ?_ ?_⟩⟩
  ·rintro i y σ H2 hi ⟨v2,rfl,s2⟩
   obtain⟨p,hp1,t,rfl,htt⟩:=eJ hp hi;obtain⟨b1,b2⟩:=Nq (dr hp1);have hp0:p.1<n:=by omega
   obtain⟨a,vs,r1,rfl,q1,q2,q3,q4⟩:=(ht.same (s1.trans s2)).row hp0;obtain⟨a',vs',r2,rfl,vH,q2',Dt,Du⟩:=(ht'.same (s1.trans s2)).row hp0;have j9:=s2 _ _ htt;obtain⟨n1,n2⟩:=ha _ _ hp0 b2;refine⟨_,rfl,_,rfl,t,_,0,_,rfl,rfl,az.of j9,rfl,a,_,_,_,rfl,rfl,az.of q1,aI q3,_,rfl,t,_,1,_,rfl,rfl,az.of j9,rfl,r1,_,_,_,rfl,rfl,az.of q4,qu b2,rfl,_,rfl,?_⟩;rw[cx n1];refine bA ?_;refine⟨_,rfl,_,rfl,t,_,0,_,rfl,rfl,az.of j9,rfl,a',_,_,_,rfl,rfl,az.of vH,aI Dt,_,rfl,t,_,1,_,rfl,rfl,az.of j9,rfl,r2,_,_,_,rfl,rfl,az.of Du,qu b2,rfl,_,rfl,?_⟩;rw[cx n2];refine bA ?_;exact⟨_,rfl,s2⟩
  ·rintro σ H2 ⟨v2,rfl,s2⟩
   exact k _ (s1.trans s2)
abbrev wk:Stmt:=top 35
theorem Qy:bh ["count","reach","told","low"] ["count","reach"] (aB wk):=⟨rfl,rfl,rfl,by decide +kernel,rfl,by decide +kernel,by decide +kernel⟩
noncomputable def kN(H:Hp)(v:V)(ps:List (Nat × Nat)):Prop:=∃a us,v = .ref a/\H a=some (.tup us)/\Paired (c5 H) ps us
theorem kN.same{H H':Hp}{v:V}{ps:List (Nat × Nat)}(s:Same H H')(h:kN H v ps):kN H' v ps:=let⟨a,us,e,q,r⟩:=h;⟨a,us,e,s _ _ q,eK.same s r⟩
def Gb:Sp:=λvs H Q _=>∃(n:Nat) (v:V) (R:Nat->Nat->Bool),vs = [.int n,v]/\TT H v n (qx R)/\n<=24/\∀u H',Same H H'->kN H' u (jA n R)->Q u H'
theorem Z3 (F:aS K "pairs_of" "pairs_of" wk f fd) (T:Txt mg):aO P w K mg base aX 1 f fd ["count","reach"] Gb:=by
 refine F.ok Qy (λvs H Q E h=>?_) (λcdv A outer s H vs Q E hr h=>?_)
 ·obtain⟨n,v,R,rfl,_⟩:=h
  rfl
 ·obtain⟨n,v,R,rfl,ht,hn,k⟩:=h
  have nd:=Qy.nd;have en:((n:Int)).toNat=n:=dW n;refine⟨_,(ax (aP (i:=2) nd rfl (Or.inl rfl) (bV ah))
   (ax (cH cF rfl (cM rfl T.range (ae (pv 0) ah)) (bf (i:=3) nd rfl (Or.inr rfl))
   (aA (dI (eV (K:=K) rfl eM HY Sb Nt (pv 2) (ae (c6 (own:=["high"]) (fr:=[("low", 3),("reach", 1)]) rfl (cp (aB wk) ["count","reach","told","low"] rfl rfl (by decide +kernel)) (cM rfl T.range (ae (pv 0) ah)) (λ_ _ _ _=>⟨(bf (i:=0) (by decide +kernel:(["high","low","reach"]:List Str).Nodup) rfl (Or.inl rfl)),(kA (PW.pt (mJ (bu eU (pv 1) (pv 0) (a_ _)) (mK (cg (aq (aK (K:=K) rfl) (aq (aK (K:=K) rfl) (pv 2) (pv 1) (λ_ _=>rfl)) (pv 0) (λ_ _=>rfl))))))),(gJ (ae (pv 1) (ae (pv 0) ah)))⟩)) ah)))))
   (aA (aQ (fL (mj (K:=K) rfl) rfl T.tuple jX (ae (pv 2) ah)))))),?_⟩
  refine⟨by show 0<=sizeLine;decide,λL hL=>?_⟩;refine⟨_,rfl,n,rfl,(bF (by omega)).1,(bF (by omega)).2,fb (lo:=0) (n:=((n:Int)).toNat) (λi σ H2=>∃v3 us,σ = [some (.int n),some v,some (.ref L),v3]/\Same H H2/\H2 L=some (.lst us)/\us.length<=24*i /\
   Paired (c5 H2) ((List.range i).flatMap λl=>((List.range n).filter λh=>!decide (l=h)&&R l h).map λh=>(l,h)) us) ⟨none,[],rfl,Same.put hL,av,by simp,.nil⟩ ?_ ?_⟩
  ·rintro i σ H2 hi ⟨v3,us,rfl,s2,hl,hlen,hp⟩
   have hin:i<n:=by omega
   refine⟨_,rfl,.inl ⟨rfl,_,ag.of hl⟩,?_⟩;refine⟨_,rfl,n,rfl,(bF (by omega)).1,(bF (by omega)).2,λD hD=>?_⟩;refine zb (λj=>!decide (i=j)&&R i j) (λj v H=>∃t,v = .ref t/\t≠D/\H t=some (.tup [.int i,.int (j:Int)])) src_range hD (dB (by omega)) (λj v H H' s hpq=>by obtain⟨b,e,hb,q⟩:=hpq;exact⟨b,e,hb,s _ _ hb q⟩) (λj H3 Kt Kf hj hs hy hkt hkf=>?_) (λH3 ys hs hl3 hp3=>?_)
   ·have hjn:j<n:=by omega
    obtain⟨zs,hz⟩:=hy;obtain⟨a,vs,r1,rfl,q1,q2,q3,q4⟩:=(ht.same (s2.trans hs)).row hin;refine⟨_,rfl,_,rfl,rfl,_,rfl,?_⟩;have ed:(!decide (V.int (0+(i:Int))=V.int (0+(j:Int)))) = !decide (i=j):=by
     congr 1
     rw[ft];exact zk
    rw[ed];refine bq (λh=>?_) (λh=>?_)
    ·refine⟨_,rfl,_,rfl,a,_,_,_,rfl,rfl,az.of q1,at0 q3,_,rfl,r1,_,_,_,rfl,rfl,az.of q4,at0 (eG hjn),_,rfl,bq (λh'=>?_) (λh'=>?_)⟩
     ·refine⟨_,rfl,_,rfl,by show 2<=sizeLine;decide,λt ht=>?_⟩
      refine hkt _ _ (by rw[h,h',gO]) (Same.put ht) ⟨t,rfl,(λe=>by rw[e,hz]at ht;cases ht),?_⟩;rw[av,ft,ft]
     ·exact hkf _ (by rw[h,gO];simpa using h') (Same.refl _)
    ·refine bA ?_
     have h2:(!decide (i=j))=false:=by simpa using h
     exact hkf _ (by rw[h2,lO]) (Same.refl _)
   ·have hDL:D≠L:=λe=>by rw[e,hl]at hD;cases hD
    rw[en]at hp3;have Wu:ys.length<=n:=by
     have h1:=dh hp3;have h2:=p6 (λj=>!decide (i=j)&&R i j) (List.range n);rw[kJ]at h2;omega
    refine⟨L,D,us,ys,rfl,rfl,hs _ _ hl,hl3,by have:=@c7 100000 (by omega);omega,?_⟩;refine⟨_,us++ys,rfl,?_,av,by rw[cA];omega,?_⟩
    ·intro b o e
     rw[aG (λz=>by rw[z,hL]at e;cases e)];exact hs _ _ (s2 _ _ e)
    ·rw[Dx]
     refine vC (hs _ _ hl) (pz (eK.same hs hp) (Di ?_));exact Paired.d_ hp3 λj v hpq=>by obtain⟨t,e,_,q⟩:=hpq;exact⟨t,e,q⟩
  ·rintro σ H2 ⟨v2,us,rfl,s2,hl,hlen,hp⟩
   rw[en]at hp;refine⟨_,rfl,L,us,rfl,.inl ⟨ag.of hl,λl hl'=>?_⟩⟩;exact k _ _ (s2.trans (Same.put hl')) ⟨l,us,rfl,av,eK.same (Same.put hl') hp⟩
end
structure Good (n:Nat) (R:Nat->Nat->Bool):Prop where
 refl:∀a,a<n->R a a=true
 anti:∀a b,a<n->b<n->R a b=true->R b a=true->a=b
 join:∀a b,a<n->b<n->∃c,c<n/\∀x,x<n->R c x=(R a x&&R b x)
 meet:∀a b,a<n->b<n->∃c,c<n/\∀x,x<n->R x c=(R x a&&R x b)
theorem Good.dis{n:Nat}{R:Nat->Nat->Bool}(G:Good n R):∀i j,i<n->j<n->(∀b,b<n->R i b=R j b)->i=j:=λi j hi hj h =>
 G.anti i j hi hj (by rw[h j hj];exact G.refl j hj) (by rw[<- h i hi];exact G.refl i hi)
theorem Good.mq{n:Nat}{R:Nat->Nat->Bool}(G:Good n R):∀i j,i<n->j<n->(∀b,b<n->R b i=R b j)->i=j:=λi j hi hj h =>
 G.anti i j hi hj (by rw[<- h i hi];exact G.refl i hi) (by rw[h j hj];exact G.refl j hj)
noncomputable def j7 (n:Nat) (vp vr vj vm:V):List (Str × V):=cj "meets" vm (cj "joins" vj (cj "reach" vr (cj "pairs" vp (cj "count" (.int n) []))))
def fQ(C:Addr)(H:Hp)(p n:Nat)(R:Nat->Nat->Bool):Prop:=∃dx vp vr vj vm,H p=some (.ins C dx (j7 n vp vr vj vm))/\kN H vp (jA n R)/\TT H vr n (qx R)/\TT H vj n (f7 n R)/\TT H vm n (f7 n λa b=>R b a)
structure gP (K:W.Frag) (C:Addr):Prop where
 cl:Cls K C
 nC:iH K C "count"
 nP:iH K C "pairs"
 nR:iH K C "reach"
 nJ:iH K C "joins"
 nM:iH K C "meets"
theorem TT.ins{H:Hp}{p C dx:Addr}{fs:List (Str × V)}{o:HO}(hp:H p=some (.ins C dx fs)){v:V}{n:Nat}{g:Nat->Nat->V}(h:TT H v n g):TT (upd H p o) v n g:=
 let⟨a,vs,e,q,r⟩:=h
 ⟨a,vs,e,by rw[aG (gi q hp (λz=>nomatch z))];exact q,Paired.d_ r λ_ _ hpq=>by obtain⟨b,e,q⟩:=hpq;exact⟨b,e,by rw[aG (gi q hp (λz=>nomatch z))];exact q⟩⟩
theorem kN.ins{H:Hp}{p C dx:Addr}{fs:List (Str × V)}{o:HO}(hp:H p=some (.ins C dx fs)){v:V}{ps:List (Nat × Nat)}(h:kN H v ps):kN (upd H p o) v ps:=
 let⟨a,vs,e,q,r⟩:=h
 ⟨a,vs,e,by rw[aG (gi q hp (λz=>nomatch z))];exact q,Paired.d_ r λ_ _ hpq=>by obtain⟨b,e,q⟩:=hpq;exact⟨b,e,by rw[aG (gi q hp (λz=>nomatch z))];exact q⟩⟩
section
variable {P:Program} {w:World} {K:W.Frag} {mg:Str->Option Value} {base:Heap} {f:Addr} {fd:FuncData}
abbrev vS:Stmt:=inClass (top 36) 0
theorem Pg:bh ["self","count","pairs","reach","joins","meets"] ["self","count","pairs"] (aB vS):=⟨rfl,rfl,rfl,by decide +kernel,rfl,by decide +kernel,by decide +kernel⟩
def Fx(K:W.Frag)(C:Addr):Sp:=λvs H Q _=>∃(p dx n a:Nat) (ps:List (Nat × Nat)),vs = [.ref p,.int n,.ref a]/\H p=some (.ins C dx [])/\nG K H a ps/\1<=n/\n<=24/\(∀p∈ps,p.1<n/\p.2<n)/\(∀R,Ev.kG n ps R->Good n R) /\
 ∀H' R,(∀b o,H b=some o->b≠p->H' b=some o)->Ev.kG n ps R->fQ C H' p n R->Q .non H'
theorem ZD {C:Addr} (F:aS K "__init__" "Order.__init__" vS f fd) (T:Txt mg) (TC:gP K C)
  (yT:aC P w K mg base "need_count" ["count"] 2 FP) (yW:aC P w K mg base "need_pairs" ["count","pairs"] 4 (FW K)) (y4:aC P w K mg base "reach_of" ["count","pairs"] 2 (Ge K))
  (yV:aC P w K mg base "need_one_way" ["count","reach"] 2 FV) (ui:aC P w K mg base "ends_of" ["rows"] 3 (Fo K)) (yA:aC P w K mg base "column" ["rows","place"] 1 Fm)
  (yU:aC P w K mg base "need_ends" ["count","joins","meets"] 2 FQ) (yZ:aC P w K mg base "pairs_of" ["count","reach"] 1 Gb):aO P w K mg base aX 5 f fd ["self","count","pairs"] (Fx K C):=by
 refine F.ok Pg (λvs H Q E h=>?_) (λcdv A outer s H vs Q E hr h=>?_)
 ·obtain⟨p,dx,n,a,ps,rfl,_⟩:=h
  rfl
 ·obtain⟨p,dx,n,a,ps,rfl,hp,hps,h1,hn,hb,hg,k⟩:=h
  have nd:=Pg.nd;have en:((n:Int)).toNat=n:=dW n;refine⟨_,(ax (dI (aL yT hr rfl (ae (pv 1) ah)))
   (ax (dI (aL yW hr rfl (ae (pv 1) (ae (pv 2) ah))))
   (ax (aP (i:=3) nd rfl (Or.inr rfl) (aL y4 hr rfl (ae (pv 1) (ae (pv 2) ah))))
   (ax (dI (aL yV hr rfl (ae (pv 1) (ae (pv 3) ah))))
   (ax (aP (i:=4) nd rfl (Or.inl rfl) (aL ui hr rfl (ae (pv 3) ah)))
   (ax (aP (i:=5) nd rfl (Or.inl rfl) (aL ui hr rfl (ae (c6 (own:=["thing"]) (fr:=[("reach", 3)]) rfl (cp (aB vS) ["self","count","pairs","reach","joins","meets"] rfl rfl (by decide +kernel)) (cM rfl T.range (ae (pv 1) ah)) (λ_ _ _ _=>⟨(bf (i:=0) (by decide +kernel:(["thing","reach"]:List Str).Nodup) rfl (Or.inl rfl)),c9,(aL yA hr rfl (ae (pv 1) (ae (pv 0) ah)))⟩)) ah)))
   (ax (dI (aL yU hr rfl (ae (pv 1) (ae (pv 4) (ae (pv 5) ah (ao nofun)) (ao nofun)) (ao nofun))))
   (ax (si (K:=K) rfl (pv 0) (pv 1) rfl)
   (ax (si (K:=K) rfl (pv 0) (aL yZ hr rfl (ae (pv 1) (ae (pv 3) ah))) rfl)
   (ax (si (K:=K) rfl (pv 0) (pv 3) rfl)
   (ax (si (K:=K) rfl (pv 0) (pv 4) rfl)
   (aA (si (K:=K) rfl (pv 0) (pv 5) rfl))))))))))))),?_⟩
  refine⟨_,rfl,⟨n,rfl,by omega,by omega⟩,λv1 H1 s1 _=>?_⟩;refine⟨_,rfl,_,rfl,⟨n,a,ps,rfl,hps.same s1,hb⟩,λv2 H2 s2 _=>?_⟩;have da:=s1.trans s2;refine⟨_,rfl,_,rfl,n,a,ps,rfl,hps.same da,hn,hb,λvr H3 R s3 hC ht=>?_⟩;have G:=hg R hC;refine⟨_,rfl,_,rfl,n,vr,R,rfl,ht,hn,λx y hx hy hpq=>by obtain⟨h1,h2⟩:=hpq;exact absurd (G.anti x y (by omega) hy h1 h2) (by omega),λH4 s4=>?_⟩;obtain⟨ra,us,rfl,q1,q2⟩:=id (ht.same s4);refine⟨_,rfl,false,ra,n,us,R,rfl,az.of q1,q2,hn,G.dis,λvj H5 s5 htj=>?_⟩;refine⟨_,rfl,n,rfl,(bF (by omega)).1,(bF (by omega)).2,λD hD=>?_⟩;refine qC (λi v H=>∃b,v = .ref b/\b≠D/\H b=some (.tup (bT n λj=>R j i))) src_range hD (dB (by omega)) (λi v H H' s hpq=>by obtain⟨b,e,hb,q⟩:=hpq;exact⟨b,e,hb,s _ _ hb q⟩) (λi H6 Kt hi hs hy hk=>?_) (λH6 ys hs hl oM=>?_)
  ·obtain⟨zs,hz⟩:=hy
   have hin:i<n:=by omega
   have oO:=((ht.same s4).same s5).same hs;refine⟨_,rfl,_,rfl,⟨_,n,i,_,by simp,oO,hin,hn⟩,λv H7 s7 hv=>?_⟩;obtain⟨b,rfl,b1,b2⟩:=hv _ n i _ (by simp) oO hin;exact hk _ H7 s7 ⟨b,rfl,(λe=>by rw[e,hz]at b1;cases b1),b2⟩
  rw[en]at oM;have abK:jk H6 n (λa b=>R b a) ys:=Paired.d_ oM λi u hpq=>by obtain⟨b,e,_,q⟩:=hpq;exact⟨b,e,q⟩
  refine⟨true,D,n,ys,_,rfl,ag.of hl,abK,hn,G.mq,λvm H7 s7 Lz=>?_⟩;have Lw:=(htj.same hs).same s7;have s07:Same H H7:=((((da.trans s3).trans s4).trans s5).trans hs).trans s7;refine⟨_,rfl,_,rfl,_,rfl,n,vj,vm,_,_,rfl,Lw,Lz,hn,λx y hx hy=>?_,λH8 s8=>?_⟩
  ·obtain⟨c,hc,hj⟩:=G.join x y hx hy
   obtain⟨d,hd,hm⟩:=G.meet x y hx hy;rw[iM G.dis hc hj,iM G.mq hd hm];exact⟨(λz=>nomatch z),(λz=>nomatch z)⟩
  have O_:=s07.trans s8;have hp8:H8 p=some (.ins C dx []):=O_ _ _ hp;have LK:TT H8 (.ref ra) n (qx R):=((((ht.same s4).same s5).same hs).same s7).same s8;refine⟨_,rfl,_,rfl,p,C,dx,[],rfl,hp8,TC.cl,TC.nC,by show 0<1000;decide,?_⟩;refine⟨_,rfl,_,rfl,n,_,R,rfl,LK.ins hp8,hn,λvp H9 s9 hpp=>?_⟩;have hp9:=s9 _ _ (av (H:=H8) (a:=p) (o:=.ins C dx (cj "count" (.int n) [])));have W2:=(LK.ins hp8 (o:=.ins C dx (cj "count" (.int n) []))).same s9;have WX:=((Lw.same s8).ins hp8 (o:=.ins C dx (cj "count" (.int n) []))).same s9;have WY:=((Lz.same s8).ins hp8 (o:=.ins C dx (cj "count" (.int n) []))).same s9;have l1:(cj "count" (V.int n) []).length<=1:=oY _ _ _;have l2:(cj "pairs" vp (cj "count" (V.int n) [])).length<=2:=b_ (oY _ _ _) (by omega);have l3:(cj "reach" (V.ref ra) (cj "pairs" vp (cj "count" (V.int n) []))).length<=3:=b_ (oY _ _ _) (by omega);have l4:(cj "joins" vj (cj "reach" (V.ref ra) (cj "pairs" vp (cj "count" (V.int n) [])))).length<=4:=b_ (oY _ _ _) (by omega);refine⟨_,rfl,p,C,dx,_,rfl,hp9,TC.cl,TC.nP,by omega,?_⟩;refine⟨_,rfl,_,rfl,p,C,dx,_,rfl,av,TC.cl,TC.nR,by omega,?_⟩;refine⟨_,rfl,_,rfl,p,C,dx,_,rfl,av,TC.cl,TC.nJ,by omega,?_⟩;refine⟨_,rfl,_,rfl,p,C,dx,_,rfl,av,TC.cl,TC.nM,by omega,?_⟩;rw[GP,GP,GP];refine k _ R (λb o e Ld=>?_) hC ⟨dx,vp,_,vj,vm,av,hpp.ins hp9,W2.ins hp9,WX.ins hp9,WY.ins hp9⟩;rw[aG Ld];refine s9 _ _ ?_;rw[aG Ld];exact O_ _ _ e
end
structure sW (P:Program) (w:World) (K:W.Frag) (mg:Str->Option Value) (base:Heap) (C:Addr) (x:Str) (ps:List Str) (k:Nat) (sp:Sp):Prop where
 ex:∃(f:Addr) (fd:FuncData),aO P w K mg base aX k f fd ps sp/\Mk K C f/\mg x=some (.ref C)/\Binds K fd ps []
section
variable {X:Cx} {C:Addr} {x:Str} {ps:List Str} {k k':Nat} {sp:Sp} {e:Expr} {es:List Expr} {t:TA} {p pos:Pos}
theorem aaN (c:sW X.prog X.w X.K X.mg X.base C x ps k sp) (hr:bR k' X.A) (hg:Gl X x) (ha:PA X (e::es) t) (hk:k+1<=k':=by decide) (hdb:(x==("__debug__" : Str))=false:=by decide)
  (he:starEach (e::es) X.env=(false,eval e X.env)::starEach es X.env:=by rfl) (hpl:(backTo pos (starEach es X.env)).any (·.1)=false:=by rfl):PE X (.Call (.Name x p) (e::es) [] pos) (Ra C sp [] E0 t):=by
 obtain⟨f,fd,F,M,hm,b⟩:=c.ex;exact aaM M F (hr.mono hk) hg hm b .nil Dk ha hdb he hpl
end
structure aD (K:W.Frag) (x:Str) (st:Stmt):Prop where
 ex:∃(f:Addr) (fd:FuncData),W.nsIn K mainGlobals x=some (some (.ref f))/\aS K x x st f fd
theorem aD.mk'{K:W.Frag}{x:Str}{st:Stmt}{f:Addr}{oc:Value}{od an:Option Addr}{osl:Array (Option Value)}{kV doc pm cdv ct:Value}(a:W.nsIn K mainGlobals x=some (some (.ref f)))
  (l:K.lookup f=some ⟨oc,od,.func (W.fnOf x x (iL st) (gE st) (aB st) .none kV doc pm an cdv ct),osl⟩) (c:W.codeIn K cdv x=true) (k:W.keepIn K (.ref f)=true):aD K x st:=⟨f,_,a,Bk l c k⟩
abbrev w6 (x:Str) (st:Stmt) (ps:List Str):Prop:=∀(kV doc pm:Value) (an:Option Addr) (cdv ct:Value) (us:List Value),us.length=ps.length->bindArgs (W.fnOf x x (iL st) (gE st) (aB st) .none kV doc pm an cdv ct) ⟨us,[]⟩=pure (ps.zip us)
theorem aD.cal{P:Program}{w:World}{K:W.Frag}{mg:Str->Option Value}{base h:Heap}{x:Str}{st:Stmt}{ps:List Str}{k:Nat}{sp:Sp}(A:aD K x st)(X:K.In h)(G:h.Ns mainGlobals mg)(hb:w6 x st ps)(ok:∀{f:Addr} {fd:FuncData},aS K x x st f fd->aO P w K mg base aX k f fd ps sp):aC P w K mg base x ps k sp:=by
 obtain⟨f,fd,a,F⟩:=A.ex;exact⟨f,fd,ok F,W.mg_of X G a,F.kp,F.binds hb⟩
structure ClsAt (K:W.Frag) (x qual:Str) (st:Stmt) (C:Addr):Prop where
 ns:W.nsIn K mainGlobals x=some (some (.ref C))
 cl:Cls K C
 ex:∃(f:Addr) (fd:FuncData),aS K "__init__" qual st f fd/\Mk K C f
theorem ClsAt.mk'{K:W.Frag}{x qual:Str}{st:Stmt}{C f:Addr}{oc:Value}{od an:Option Addr}{osl:Array (Option Value)}{kV doc pm cdv ct:Value}(ns:W.nsIn K mainGlobals x=some (some (.ref C)))
  (pg:W.plainGet K C Str.empty=true) (hd:W.hasDictIn K C=true) (po:W.plainOver K C=true) (sa:W.findIn K (.ref C) "__setattr__" = some (some (.builtin "object.__setattr__"))) (mk:W.makesIn K C=true) (kc:W.keepIn K (.ref C)=true)
  (a:W.findIn K (.ref C) "__init__" = some (some (.ref f))) (i:W.isFn K (.ref f)=true)
  (l:K.lookup f=some ⟨oc,od,.func (W.fnOf "__init__" qual (iL st) (gE st) (aB st) .none kV doc pm an cdv ct),osl⟩) (c:W.codeIn K cdv qual=true) (k:W.keepIn K (.ref f)=true):ClsAt K x qual st C:=
 ⟨ns,⟨pg,hd,po,sa⟩,f,_,Bk l c k,⟨mk,a,i,kc⟩⟩
theorem ClsAt.cal{P:Program}{w:World}{K:W.Frag}{mg:Str->Option Value}{base h:Heap}{x qual:Str}{st:Stmt}{C:Addr}{ps:List Str}{k:Nat}{sp:Sp}(A:ClsAt K x qual st C)(X:K.In h)(G:h.Ns mainGlobals mg)
  (hb:∀(kV doc pm:Value) (an:Option Addr) (cdv ct:Value) (us:List Value),us.length=ps.length->bindArgs (W.fnOf "__init__" qual (iL st) (gE st) (aB st) .none kV doc pm an cdv ct) ⟨us,[]⟩=pure (ps.zip us))
  (ok:∀{f:Addr} {fd:FuncData},aS K "__init__" qual st f fd->aO P w K mg base aX k f fd ps sp):sW P w K mg base C x ps k sp:=by
 obtain⟨f,fd,F,M⟩:=A.ex;exact⟨f,fd,ok F,M,W.mg_of X G A.ns,F.binds hb⟩
structure nZ (K:W.Frag):Prop where
 len:W.nsIn K mainGlobals "len" = some none
 range:W.nsIn K mainGlobals "range" = some none
 zip:W.nsIn K mainGlobals "zip" = some none
 enumerate:W.nsIn K mainGlobals "enumerate" = some none
 tuple:W.nsIn K mainGlobals "tuple" = some none
 list:W.nsIn K mainGlobals "list" = some none
 int:W.nsIn K mainGlobals "int" = some none
 bool:W.nsIn K mainGlobals "bool" = some none
 str:W.nsIn K mainGlobals "str" = some none
 isinstance:W.nsIn K mainGlobals "isinstance" = some none
 sum:W.nsIn K mainGlobals "sum" = some none
 any:W.nsIn K mainGlobals "any" = some none
 all:W.nsIn K mainGlobals "all" = some none
 sorted:W.nsIn K mainGlobals "sorted" = some none
 min:W.nsIn K mainGlobals "min" = some none
 max:W.nsIn K mainGlobals "max" = some none
 most:∃t,W.nsIn K mainGlobals "MOST_THINGS" = some (some (.int 24 t))
theorem nZ.txt{K:W.Frag}{mg:Str->Option Value}{h:Heap}(A:nZ K)(X:K.In h)(G:h.Ns mainGlobals mg):Txt mg:=
 ⟨W.mg_none_of X G A.len,W.mg_none_of X G A.range,W.mg_none_of X G A.zip,W.mg_none_of X G A.enumerate,W.mg_none_of X G A.tuple,W.mg_none_of X G A.list,W.mg_none_of X G A.int,W.mg_none_of X G A.bool,W.mg_none_of X G A.str,
  W.mg_none_of X G A.isinstance,W.mg_none_of X G A.sum,W.mg_none_of X G A.any,W.mg_none_of X G A.all,W.mg_none_of X G A.sorted,W.mg_none_of X G A.min,W.mg_none_of X G A.max,let⟨t,e⟩:=A.most;⟨t,W.mg_of X G e⟩⟩
theorem nZ.mk' {K:W.Frag} {t:Tok} (l1:W.nsIn K mainGlobals "len" = some none) (l2:W.nsIn K mainGlobals "range" = some none) (l3:W.nsIn K mainGlobals "zip" = some none) (l4:W.nsIn K mainGlobals "enumerate" = some none)
  (l5:W.nsIn K mainGlobals "tuple" = some none) (l6:W.nsIn K mainGlobals "list" = some none) (l7:W.nsIn K mainGlobals "int" = some none) (l8:W.nsIn K mainGlobals "bool" = some none) (l9:W.nsIn K mainGlobals "str" = some none)
  (l10:W.nsIn K mainGlobals "isinstance" = some none) (Cy:W.nsIn K mainGlobals "sum" = some none) (Cz:W.nsIn K mainGlobals "any" = some none) (CG:W.nsIn K mainGlobals "all" = some none) (CJ:W.nsIn K mainGlobals "sorted" = some none) (CK:W.nsIn K mainGlobals "min" = some none) (CN:W.nsIn K mainGlobals "max" = some none) (m:W.nsIn K mainGlobals "MOST_THINGS" = some (some (.int 24 t))):nZ K:=⟨l1,l2,l3,l4,l5,l6,l7,l8,l9,l10,Cy,Cz,CG,CJ,CK,CN,t,m⟩
end My
namespace L2
open PySem PySem.Spec PyProof.Rows
structure iD (X:Cx) (scope:Scope) (v:Str) (fr:List (Str × Nat)):Prop where
 kind:scope.kind = .function
 one:∀y∈scope.names,y.2 = .cell->y.1=v
 vis:scope.names.lookup v=some .cell
 names:∀y∈scope.names,y.2 = .local->scope.names.lookup y.1=some .local
 free:∀y∈scope.names,y.2 = .free->y.1≠v/\(X.env.scope.names.lookup y.1=some .cell\/X.env.scope.names.lookup y.1=some .free)
 ix:∀p∈fr,X.N[p.2]?=some p.1/\scope.names.lookup p.1=some .free
 lay:∀L acc,cellsFrom L scope.names acc=(v,L)::acc
 push:∀h,pushCells h scope.names=h.push {cls:=.type "cell", data:=.cell none}
noncomputable def gS(X:Cx)(scope:Scope)(v:Str)(N':List Str)(C:Addr)(s₀:Shared)(H₀:Hp)(fp:List Addr):Cx:=
 {X with N:=N',s₀:=s₀,H₀:=H₀,env:=compEnvC scope ((v,C+1)::cq X.env.cells scope.names []) C X.env,outer:=X.stack,stack:=X.stack,ex:=fp,fn:=λx=>x==v,pn:=[],xe:=λ_ _=>False}
theorem Nj{env:Env}:∀{names:List (Str × NameKind)} {x:Str},names.lookup x=some .cell ->
  (names.map λ(n,k)=>if(k==NameKind.free&&env.scope.kind==.function&&env.kindOf n==some .cell)then(n,NameKind.cell)else(n,k)).lookup x=some .cell
 | [],_,h=>by simp at h
 | (n,k)::r,x,h=>by
  have ih:=@Nj env r x;show List.lookup x ((if(k==NameKind.free&&env.scope.kind==.function&&env.kindOf n==some .cell)=true then(n,NameKind.cell)else(n,k))::_)=_;cases hx:x==n with
  |true =>
   simp only[dq,hx]at h;cases h;rw[if_neg (by simp)];simp[dq,hx]
  |false =>
   simp only[dq,hx]at h
   by_cases hc:(k==NameKind.free&&env.scope.kind==.function&&env.kindOf n==some .cell)=true
   ·rw[if_pos hc];simp only[dq,hx];exact ih h
   ·rw[if_neg hc];simp only[dq,hx];exact ih h
theorem Nn{env:Env}{v:Str}:∀{names:List (Str × NameKind)} {x:Str},(∀y∈names,y.2 = .cell->y.1=v)->x≠v ->
  ((names.map λ(n,k)=>if(k==NameKind.free&&env.scope.kind==.function&&env.kindOf n==some .cell)then(n,NameKind.cell)else(n,k)).lookup x=some .cell \/
  (names.map λ(n,k)=>if(k==NameKind.free&&env.scope.kind==.function&&env.kindOf n==some .cell)then(n,NameKind.cell)else(n,k)).lookup x=some .free)->(x,NameKind.free)∈names
 | [],_,_,_,h=>by simp at h
 | (n,k)::r,x,hn,hv,h=>by
  have ih:=@Nn env v r x (λy hy=>hn y (ck _ hy)) hv
  change List.lookup x ((if(k==NameKind.free&&env.scope.kind==.function&&env.kindOf n==some .cell)=true then(n,NameKind.cell)else(n,k))::_)=_\/List.lookup x ((if(k==NameKind.free&&env.scope.kind==.function&&env.kindOf n==some .cell)=true then(n,NameKind.cell)else(n,k))::_)=_ at h
  cases hx:x==n with
  |true =>
   have e:x=n:=by simpa using hx
   subst e
   by_cases hc:(k==NameKind.free&&env.scope.kind==.function&&env.kindOf x==some .cell)=true
   ·have hk:k = .free:=by
     have:=(bJ _ _▸hc:_/\_).1;have:=(bJ _ _▸this:_/\_).1;simpa using this
    subst hk;exact b9
   ·rw[if_neg hc]at h
    simp only[dq,hx]at h
    rcases h with h|h
    ·cases h;exact absurd (hn _ b9 rfl) hv
    ·cases h;exact b9
  |false =>
   by_cases hc:(k==NameKind.free&&env.scope.kind==.function&&env.kindOf n==some .cell)=true
   ·rw[if_pos hc]at h;simp only[dq,hx]at h;exact ck _ (ih h)
   ·rw[if_neg hc]at h;simp only[dq,hx]at h;exact ck _ (ih h)
theorem YT{M:Model}{A:Around}{E:Value->Shared->Prop}{s:Shared}{scope:Scope}{globals:Addr}{cl:List (Str × Addr)}{qual:Str}{func:Option Addr}{code:Value}{around:Env}{v:Str}{Q:Env->Shared->Prop}
  (lay:∀L acc,cellsFrom L scope.names acc=(v,L)::acc) (push:∀h,pushCells h scope.names=h.push {cls:=.type "cell", data:=.cell none})
  (hQ:Q (newEnv scope s.heap.objs.size globals ((v,s.heap.objs.size+1)::cl) qual func code (some around) builtinsNs) {s with heap:=(s.heap.push {cls:=.type "dict", data:=.dict #[]}).push {cls:=.type "cell", data:=.cell none}}) :
  wpAny M A (newFunctionEnv scope globals cl [] qual func code (some around) builtinsNs) Q E s:=by
 simp only[newFunctionEnv,Option.isSome_some,iP];refine ai (wpAny_alloc ?_);refine ai (wpAny_layCells _ (λname kind cells=>by cases hkc:kind==NameKind.cell<;>simp[hkc]) _ _ _ _ ?_);rw[lay,push];refine ai ?_;rw[pX];refine aH (aH ?_);rw[show({s with heap:=s.heap.push {cls:=.type "dict", data:=.dict #[]}}:Shared).heap.objs.size=s.heap.objs.size+1 from eE ..];exact hQ
section
variable {X:Cx} {pins:List (Addr × Obj)} {σ:St} {H:Hp} {s:Shared} {scope:Scope} {v:Str} {fr:List (Str × Nat)} {own:List Str} {fp:List Addr}
theorem iD.cell(B:iD X scope v fr)(ok:X.Ok):∀x∈scope.names,x.2 = .free->∃c,X.env.cells.lookup x.1=some c:=λx hx hk=>ok.has x.1 (B.free x hx hk).2
theorem iD.sub(B:iD X scope v fr)(ok:X.Ok){x:Str}{c:Addr}(h:(cq X.env.cells scope.names []).lookup x=some c):X.env.cells.lookup x=some c:=by
 rcases y_ h with h|⟨hm,e⟩
 ·simp at h
 ·obtain⟨c',hc⟩:=B.cell ok _ hm rfl
  rw[e,hc];rfl
theorem iD.two(B:iD X scope v fr)(ok:X.Ok){C:Addr}{x:Str}{c:Addr}(h:List.lookup x ((v,C)::cq X.env.cells scope.names [])=some c):(x=v/\c=C)\/(x≠v/\(cq X.env.cells scope.names []).lookup x=some c/\X.env.cells.lookup x=some c):=by
 rw[dq]at h;cases hx:x==v with
 |true=>rw[hx]at h;exact .inl ⟨by simpa using hx,(df h).symm⟩
 |false=>rw[hx]at h;exact .inr ⟨by simpa using hx,h,B.sub ok h⟩
theorem Jq(I:Inv X pins σ H s){x:Str}{c:Addr}(h:X.env.cells.lookup x=some c):c<s.heap.objs.size:=by
 obtain⟨u,z⟩:=I.cell x c h;exact z.lt
theorem SQ(B:iD X scope v fr)(I:Inv X pins σ H s)(hf:∀b∈fp,cW X pins H b)(hfs:∀b∈fp,b<s.heap.objs.size){N':List Str}:(gS X scope v N' s.heap.objs.size s H fp).Ok where
 mod:=I.ok.mod
 kind:=B.kind
 glob:=I.ok.glob
 blt:=I.ok.blt
 above:=aW _
 inj:=λx y c h1 h2=>by
  rcases B.two I.ok h1 with⟨e1,e2⟩|⟨_,_,e2⟩<;>rcases B.two I.ok h2 with⟨e3,e4⟩|⟨_,_,e4⟩
  ·rw[e1,e3]
  ·have h:=Jq I e4
   rw[e2]at h;exact absurd (Nat.lt_of_succ_lt h) (dM _)
  ·have h:=Jq I e2
   rw[e4]at h;exact absurd (Nat.lt_of_succ_lt h) (dM _)
  ·exact I.ok.inj x y c e2 e4
 has:=λx h=>by
  by_cases hx:x=v
  ·subst hx;exact⟨_,by show List.lookup _ (_::_)=_;rw[dq,qw]⟩
  ·obtain⟨c,hc⟩:=mn (cells:=X.env.cells) (acc:=[]) (Nn B.one hx h)
   refine⟨c,?_⟩;show List.lookup _ (_::_)=_;rw[dq,jm.mpr hx];exact hc
 cab:=λx c hx h=>by
  have e:x=v:=by simpa[gS]using hx
  rcases B.two I.ok h with⟨_,e2⟩|⟨e2,_⟩
  ·rw[e2];exact qc _
  ·exact absurd e e2
 hd:=I.ok.hd
 frames:=I.ok.frames
 stk:=.inl rfl
 j4:=λb hb=>⟨bE (hfs b hb),λx c h=>by
  rcases B.two I.ok h with⟨_,e2⟩|⟨_,_,e2⟩
  ·rw[e2];exact dO (xI (hfs b hb))
  ·exact(hf b hb).2.2.2.2.1 x c e2⟩
 bs:=I.bs
 eP:=b_ I.ok.eP I.sz
 iz:=λb o e hb=>by
  rcases(hf b hb).2.2.2.1 with h|h
  ·exact I.ok.iz b o e h
  ·exact absurd (cY (aR e) (b_ I.ok.eP h)) (dM _)
 iN:=λb hb h=>by
  rcases bx.mp (I.pL b h)with e|h
  ·exact(hf b hb).2.1 e
  ·exact(hf b hb).2.2.1 h
 d9:=I.stack
 gG:=I.mU
theorem SX(B:iD X scope v fr)(I:Inv X pins σ H s)(hf:∀b∈fp,cW X pins H b)(hfs:∀b∈fp,b<s.heap.objs.size){h1:Heap}{m:Str->Option Value}{tk:Nat}(hn:h1.Ns s.heap.objs.size m)(hcl:h1.IsCell (s.heap.objs.size+1) none)
  (hk:∀b o,s.heap.get? b=some o->h1.get? b=some o):Inv (gS X scope v (own++fr.map (·.1)) s.heap.objs.size s H fp) [] (blkσ own.length fr σ) H {s with heap:=h1,toks:=tk} where
 ok:=SQ B I hf hfs
 os:=rfl
 bare:=I.bare
 base:=Un.kept hk
 loc:=by
  refine⟨m,hn,λi x z e1 e2 e3=>?_⟩
  change (own++fr.map (·.1))[i]?=some x at e1
  unfold blkσ at e2
  by_cases hi:i<own.length
  ·rw[jf (by simpa using hi),Hj]at e2
   split at e2<;>cases e2
  ·rw[iE (by simpa using qa hi),bX]at e1
   rw[iE (by simpa using qa hi),bX,Hl]at e2;cases hp:fr[i - own.length]? with
   |none=>rw[hp]at e1;cases e1
   |some p =>
    rw[hp]at e1 e2;simp only[xM,xN]at e1 e2;obtain⟨i1,i2⟩:=B.ix p (dr hp);subst e1;have e2':σ[p.2]?=some (some z):=by
     rw[aN]at e2;cases q:σ[p.2]? with
     |none=>rw[q]at e2;cases e2
     |some z=>rw[q]at e2;exact congrArg some e2
    obtain⟨nv,kX⟩:=B.free (p.1,.free) (iq i2) rfl;have kX:X.env.kindOf p.1=some .cell\/X.env.kindOf p.1=some .free:=kX;obtain⟨m',hn',hl'⟩:=I.loc;have vis:qp X.env.scope p.1:=.inr kX;obtain⟨u,r,l⟩:=hl' p.2 p.1 z i1 e2' vis;refine⟨u,r,.inr ⟨u9 i2,?_⟩⟩
    rcases l with⟨k,_⟩|⟨_,c,hc,z⟩
    ·rcases kX with q|q<;>(rw[k]at q;cases q)
    ·obtain⟨c',hc'⟩:=mn (cells:=X.env.cells) (acc:=[]) (iq i2)
     have:=B.sub I.ok hc';rw[hc]at this;cases this;refine⟨c,?_,z.keeps hk⟩;show List.lookup _ (_::_)=_;rw[dq,jm.mpr nv];exact hc'
 cell:=λx c h=>by
  rcases B.two I.ok h with⟨_,e2⟩|⟨_,_,e2⟩
  ·rw[e2];exact⟨_,hcl⟩
  ·obtain⟨u,z⟩:=I.cell x c e2
   exact⟨u,z.keeps hk⟩
 free:=I.hok.fresh (aW _)
 dQ:=λx c h=>by
  rcases B.two I.ok h with⟨_,e2⟩|⟨_,_,e2⟩
  ·rw[e2];exact I.hok.fresh (qc _)
  ·exact I.dQ x c e2
 pin:=λp hp=>absurd (show p∈([]:List (Addr × Obj))from hp) (by simp)
 hok:=I.hok.kept hk
 len:=by
  unfold blkσ;show _=(own++fr.map (·.1)).length;simp
theorem SN{s':Shared}{H':Hp}{σ':St}{pY:List (Addr × Obj)}{N':List Str}(I:Inv X pins σ H s)(hf:∀b∈fp,cW X pins H b)(J:Inv (gS X scope v N' s.heap.objs.size s H fp) pY σ' H' s'):Inv X pins σ H' s':=
 I.call' J.os J.base J.hok J.bare λb hb=>⟨(hf b hb).2.2.2.1,(hf b hb).2.1,(hf b hb).2.2.2.2.1,(hf b hb).2.2.2.2.2⟩
end
section
variable {X:Cx} {elt tg iter:Expr} {ifs:List Expr} {scope:Scope} {pos:Pos} {v:Str} {own:List Str} {fr:List (Str × Nat)} {wi:TI} {g:TG} {tc:TT} {te:TE}
theorem Tz{pins:List (Addr × Obj)}{σ:St}{H2:Hp}{s2:Shared}{it:Addr}{fp:List Addr}{tn:Nat->Heap->Prop}{J:It}{Qd:V->Hp->Prop}{RR:Value->Addr->Result->Shared->Prop}{E:Value->Shared->Prop}(hc:X.calm=true)(B:iD X scope v fr)
  (hb:∀(C:Addr) (s₀:Shared) (H₀:Hp) (fp:List Addr),PG (gS X scope v (own++fr.map (·.1)) C s₀ H₀ fp) tg g/\kM (gS X scope v (own++fr.map (·.1)) C s₀ H₀ fp) ifs tc/\PE (gS X scope v (own++fr.map (·.1)) C s₀ H₀ fp) elt te)
  (I2:Inv X pins σ H2 s2) (T:Turn X.prog X.w X.K tg J fp it tn) (st2:tn 0 s2.heap) (f2:∀b∈fp,cW X pins H2 b)
  (hw:∀D,H2 D=none->jM J g tc te (blkσ own.length fr σ) D (λH'=>Qd (.ref D) H') (upd H2 D (.lst [])))
  (hR:∀(D C:Addr) (s':Shared) (H':Hp) (m:Str->Option Value),Inv X pins σ H' s'->s'.heap.Ns C m->H' C=none->C≠X.env.locals->X.s₀.heap.objs.size<=C->(∀x c,X.env.cells.lookup x=some c->c≠C)->(∀p∈X.pn++pins,p.1≠C) ->
   Qd (.ref D) H'->RR (.ref D) C (.ok .next) s') :
  wpAny (model X.prog X.w) X.A (newList []) (λacc s₃=>wpAny (model X.prog X.w) X.A (newFunctionEnv scope X.env.globals (cq X.env.cells scope.names []) [] X.env.qual none .none (some X.env)) (λcenv s₄ =>
   codeAny (model X.prog X.w) X.A (.compStart (.ListComp elt [⟨tg,iter,ifs,0⟩] scope pos) 0 (.ref it) acc {cenv with scope:=relabel scope X.env}) (RR acc cenv.locals) s₄) E s₃) E s2:=by
 refine kR (YT (v:=v) B.lay B.push ?_);have hD:H2 s2.heap.objs.size=none:=I2.fresh;have I3:Inv X pins σ (upd H2 s2.heap.objs.size (.lst [])) {s2 with heap:=s2.heap.push {cls:=.type "list", data:=.seq ([]:List Value).toArray},toks:=s2.toks}:=I2.rM .nil (by simp);have rP:∀b∈fp,b<s2.heap.objs.size:=λb hb=>by obtain⟨o,e,_⟩:=T.obj _ _ st2 b hb;exact aR e
 have f3:∀b∈fp,cW X pins (upd H2 s2.heap.objs.size (.lst [])) b:=λb hb=>⟨by rw[aG (bE (rP b hb))];exact(f2 b hb).1,(f2 b hb).2⟩;generalize hs3:({s2 with heap:=s2.heap.push {cls:=.type "list", data:=.seq ([]:List Value).toArray},toks:=s2.toks}:Shared)=s3 at I3;have e3:s3.heap=s2.heap.push {cls:=.type "list", data:=.seq ([]:List Value).toArray}:=by rw[<- hs3]
 have rQ:∀b∈fp,b<s3.heap.objs.size:=λb hb=>by rw[e3,eE];exact xI (rP b hb)
 generalize hh1:(s3.heap.push {cls:=.type "dict", data:=.dict #[]}).push {cls:=.type "cell", data:=.cell none}=h₁;have old:∀b o,s3.heap.get? b=some o->h₁.get? b=some o:=λb o e=>by
  rw[<- hh1];exact aU _ (aU _ e)
 have hns₁:h₁.Ns s3.heap.objs.size (λ_=>none):=by
  rw[<- hh1];exact(Heap.Ns.new s3.heap (.type "dict")).keeps λb o e=>aU _ e
 have hcl₁:h₁.IsCell (s3.heap.objs.size+1) none:=by
  rw[<- hh1];have q:=cn (s3.heap.push {cls:=.type "dict", data:=.dict #[]}) (o:={cls:=.type "cell", data:=.cell none}) rfl;rw[eE]at q;exact⟨_,q,rfl⟩
 have IY:Inv (gS X scope v (own++fr.map (·.1)) s3.heap.objs.size s3 (upd H2 s2.heap.objs.size (.lst [])) fp) [] (blkσ own.length fr σ) (upd H2 s2.heap.objs.size (.lst [])) {s3 with heap:=h₁}:=
  SX (own:=own) B I3 f3 rQ hns₁ hcl₁ old
 have st3:tn 0 h₁:=T.keep _ _ _ st2 λb hb o e=>old b o (by rw[e3];exact aU _ e);have fY:∀b∈fp,cW (gS X scope v (own++fr.map (·.1)) s3.heap.objs.size s3 (upd H2 s2.heap.objs.size (.lst [])) fp) [] (upd H2 s2.heap.objs.size (.lst [])) b:=λb hb =>
  ⟨(f3 b hb).1,bE (rQ b hb),(IY.ok.iN b hb),.inl hb,(IY.ok.j4 b hb).2,λp hp=>absurd (show p∈([]:List (Addr × Obj))from hp) (by simp)⟩
 obtain⟨b1,b2,b3⟩:=hb s3.heap.objs.size s3 (upd H2 s2.heap.objs.size (.lst [])) fp;have loop:=Jy (Y:=gS X scope v (own++fr.map (·.1)) s3.heap.objs.size s3 (upd H2 s2.heap.objs.size (.lst [])) fp) (iter:=iter) (scope:=scope) (pos:=pos) hc T b1 b2 b3 IY st3 fY (hw _ hD) rfl;have rN:codeAny (model X.prog X.w) X.A (.compLoop (.ListComp elt [⟨tg,iter,ifs,0⟩] scope pos) 0 (.ref it) (.ref s2.heap.objs.size) (compEnvC scope ((v,s3.heap.objs.size+1)::cq X.env.cells scope.names []) s3.heap.objs.size X.env)) (RR (.ref s2.heap.objs.size) s3.heap.objs.size) {s3 with heap:=h₁}:=by
  refine jR loop λr s' ⟨H',hr,J',q⟩=>?_;subst hr;obtain⟨m',hn',_⟩:=id J'.loc;refine hR s2.heap.objs.size s3.heap.objs.size s' H' m' (SN I3 f3 J') hn' J'.free (dO I3.lt) I3.sz (λx c e=>?_) (λp hp z=>?_) q
  ·obtain⟨u,z⟩:=I3.cell x c e
   exact bE z.lt
  ·exact absurd (aR (I3.pin p hp).1) (by rw[z];exact dM _)
 exact codeAny_compStart_list rN (T.self X.A 0 _ _ _ st3 rN)
theorem Ov{i:Nat}{x:Str}{py spos:Pos}(hN:X.N.Nodup)(hx:X.N[i]?=some x)(hl:X.env.scope.names.lookup x=some .local)(hc:X.calm=true)(B:iD X scope v fr)(hi:PI X tg iter wi)
  (hb:∀(C:Addr) (s₀:Shared) (H₀:Hp) (fp:List Addr),PG (gS X scope v (own++fr.map (·.1)) C s₀ H₀ fp) tg g/\kM (gS X scope v (own++fr.map (·.1)) C s₀ H₀ fp) ifs tc/\PE (gS X scope v (own++fr.map (·.1)) C s₀ H₀ fp) elt te)
  (hsw:swapsWith (.ListComp elt [⟨tg,iter,ifs,0⟩] scope pos) (some (.Name x py)) spos.line X.env=pure true:=by rfl)
  (hs:∀x,foldedSetIterable iter X.env x=pure x:=by intro _;rfl):PS X (.Assign [.Name x py] (.ListComp elt [⟨tg,iter,ifs,0⟩] scope pos) spos) (wL (Gz wi own.length fr g tc te) (cK i)):=by
 intro pins s σ H D0 I h;rw[exec_Assign_Name_used _ _ _ _ hsw];refine ai (nW (ai ?_));show wpAny _ X.A (do let _ <- comprehension (.ListComp elt [⟨tg,iter,ifs,0⟩] scope pos) scope X.env _ (newList []) false (eval iter X.env) (some (assign (.Name x py) X.env))) _ _ s;refine ai (d8 (Ih (use:=some (assign (.Name x py) X.env)) (Q:=λ_ s'=>SP X pins D0 .next s') rfl hs (qB (B.cell I.ok)) B.kind B.names
  (aM (hi pins s σ H _ I h) λv s1 h1=>aM h1 λitv s2 h2=>?_)) (λ_ s' hq=>aH (aH hq)) λ_ _ e=>e)
 obtain⟨it,fp,tn,J,H2,e,I2,T,st2,f2,hD⟩:=h2;subst e;refine Tz (own:=own) (Qd:=λv H'=>cK i v σ H' D0.nx) (RR:=λacc C=>compPost (model X.prog X.w) X.A X.xe (some (assign (.Name x py) X.env)) (λ_ s'=>SP X pins D0 .next s') acc C) hc B hb I2 T st2 f2 hD ?_;intro D C s' H' m I' hn hC c1 c2 c3 c4 q;show wpAny _ X.A (assign (.Name x py) X.env (.ref D)) _ _ _;refine Ig (wJ I' hN hx (.inl hl) (v:=.ref D) rfl (λs'' xi ⟨a,sb,ha⟩=>?_) (.inr hl));have Bz:C≠a:=by
  rcases ha with rfl|ha
  ·exact c1
  ·exact λe=>c3 x a ha e.symm
 refine⟨m,hn.sameBut sb Bz,λh' Fb=>?_⟩;exact⟨_,H',xi.turned (t':=s''.toks) (λb o hb e=>Fb.extBut b o hb e) hC c1 (.inr c2) c3 c4,q⟩
end
noncomputable def Jg(sc fW:Scope)(v:Str)(N:List Str)(fr:List (Str × Nat)):Bool:=
 sc.kind==.function&&sc.names.lookup v==some .cell&&sc.names.all (λy=>(y.2 != .cell||y.1==v)&&(y.2 != .local||sc.names.lookup y.1==some .local)&&(y.2 != .free||(y.1 != v&&(fW.names.lookup y.1==some .cell||fW.names.lookup y.1==some .free)))) &&
 fr.all λp=>N[p.2]?==some p.1&&sc.names.lookup p.1==some .free
theorem Jh {X:Cx} {scope:Scope} {v:Str} {fr:List (Str × Nat)} (fW:Scope) (N:List Str) (h1:X.env.scope=fW) (h2:X.N=N) (h:Jg scope fW v N fr=true) (lay:∀L acc,cellsFrom L scope.names acc=(v,L)::acc) (push:∀h,pushCells h scope.names=h.push {cls:=.type "cell", data:=.cell none}):iD X scope v fr:=by
 unfold Jg at h;rw[bJ,bJ,bJ]at h;obtain⟨⟨⟨a,a2⟩,b⟩,c⟩:=h;rw[fX]at b c;subst h1 h2;refine⟨by simpa using a,λy hy e=>?_,by simpa using a2,λy hy e=>?_,λy hy e=>?_,λp hp=>?_,lay,push⟩
 ·have:=b y hy
  rw[e]at this;simpa using this
 ·have:=b y hy
  rw[e]at this;simpa using this
 ·have:=b y hy
  rw[e]at this;simpa using this
 ·have:=c p hp
  simpa using this
theorem Ji{X:Cx}{scope fW:Scope}{env:Env}{fr:List (Str × Nat)}(N:List Str)(h1:X.env.scope=relabel fW env)(h2:X.N=N)(h:yw scope fW N fr=true):gq X scope fr:=by
 have q:=cp (X:={X with env:={X.env with scope:=fW}}) (scope:=scope) (fr:=fr) fW N rfl h2 h;refine⟨q.kind,q.o9,q.names,λy hy e=>?_,q.ix⟩;rw[h1]
 rcases q.free y hy e with z|z
 ·exact .inl (Nj z)
 ·exact u9 z
theorem oS:∀{ns:List Int} {us:List Value},Vals (ns.map V.int) us->IntsAre us ns
 | [],_,h=>by cases h;exact .nil
 |n::ns,_,h=>by
  cases h with
  |cons h t =>
   obtain⟨k,rfl⟩:=h;exact .cons n k (oS t)
def abh(K:W.Frag):V->List V->Hp->VK->Prop:=λx vs H Q=>∃(l:Addr) (ns:List Int) (k:Int),x = .ref l/\vs = [.int k]/\ag K H l (ns.map V.int)/\k∈ns/\Q (.int (ns.idxOf k:Nat)) H
theorem vi {X:Cx} {K:W.Frag} (hK:X.K=K):lT X "list.index" (abh K):=by
 subst hK;intro pins s σ H x vs v us Q I rx rv h;obtain⟨l,ns,k,rfl,rfl,hq,hk,q⟩:=h;cases rx;obtain⟨u,rfl,ru⟩:=rv.one;obtain⟨t,rfl⟩:=ru;obtain⟨its,r,⟨⟨cls,dd,data,sl⟩,n,ho,hc,hdd,hd⟩,hz⟩:=I.list hq;simp only at hc hdd hd;subst hc hdd hd;have hi:=oS r;have hlen:=hi.length;have hj:ns.idxOf k<ns.length:=nr.mpr hk;have hb:sizeLine<2 ^ 62:=by decide
 rw[au]at hz;refine kP kO ⟨_,ho,rfl⟩ HW (HR _ _)
  (Ib l its.toArray n none sl (.int k t) (isInt k) (ns.idxOf k) (by simpa[hlen]using hj) (by omega) ?_ ?_) ⟨ho,λy hy=>(eq_isInt k t hi y (by simpa using hy)).at _ _,?_⟩
 ·show isInt k its[ns.idxOf k]=true
  rw[isInt_at k hi _ (by omega) hj];simpa using nj hj
 ·intro j hjs hlt
  show isInt k its[j]=false;rw[isInt_at k hi j (by simpa using hjs) (by omega)];exact ne_of_lt_idxOf hlt _
 ·exact⟨.int (ns.idxOf k:Nat),H,I.tok _,⟨_,rfl⟩,q⟩
end L2
namespace My
open PySem PySem.Spec PyProof.Rows L2
theorem kW(x y:Nat):Builtin.bitAnd (x:Int) (y:Int)=((x&&& y:Nat):Int):=by rw[bitAnd_pp (by omega) (by omega)];simp
theorem vA(x y:Nat):Builtin.bitOr (x:Int) (y:Int)=((x ||| y:Nat):Int):=by
 rw[bitOr_and,kW];have:=nat_or_add_and x y;omega
abbrev nV (x:Nat):V:=.int (x:Int)
section
variable {P:Program} {w:World} {K:W.Frag} {mg:Str->Option Value} {base:Heap} {f:Addr} {fd:FuncData}
abbrev Ea:Stmt:=top 54
theorem PJ:bh ["_law_script","_law_k"] ["_law_script","_law_k"] (aB Ea):=⟨rfl,rfl,rfl,by decide +kernel,rfl,by decide +kernel,by decide +kernel⟩
def wu(K:W.Frag):Sp:=λvs H Q _=>∃(a k:Nat) (ns:List Int),vs = [.ref a,.int k]/\ag K H a (ns.map V.int)/\∀i H',Same H H'->Q (.int i) H'
theorem Zi (F:aS K "_law_cell_at" "_law_cell_at" Ea f fd) (T:Txt mg):aO P w K mg base aX 1 f fd ["_law_script","_law_k"] (wu K):=by
 refine F.ok PJ (λvs H Q E h=>?_) (λcdv A outer s H vs Q E hr h=>?_)
 ·obtain⟨a,k,ns,rfl,_⟩:=h
  rfl
 ·obtain⟨a,k,ns,rfl,hS,kk⟩:=h
  have nd:=PJ.nd;refine⟨_,(ax (bB (bu pe (pv 1) (aY (cI (K:=K) rfl) rfl T.len cT (ae (pv 0) ah)) (a_ _)) (aA (aQ (aq (aV (K:=K) rfl) (pv 0) (pv 1) (λ_ _=>rfl)))) bD)
   (aA (aQ ak))),?_⟩
  refine⟨_,rfl,_,rfl,a,_,rfl,.inl hS,_,_,rfl,rfl,_,rfl,bq (λh=>?_) (λh=>?_)⟩
  ·rw[cJ,au]at h
   have hk:k<ns.length:=by omega
   exact⟨_,rfl,_,rfl,a,_,k,.int ns[k],rfl,rfl,hS,aI (by simp[hk]),kk _ _ (Same.refl _)⟩
  ·exact kk _ _ (Same.refl _)
abbrev Ef:Stmt:=top 55
theorem Qa:bh ["_law_cell","_law_place","_law_number"] ["_law_cell","_law_place"] (aB Ef):=⟨rfl,rfl,rfl,by decide +kernel,rfl,by decide +kernel,by decide +kernel⟩
def FN:Sp:=λvs H Q _=>∃(c:Int) (p:Nat),vs = [.int c,.int p]/\p<=1000/\∀i H',0<=i->i<2147483648->Same H H'->Q (.int i) H'
theorem ZS (F:aS K "_law_mixed" "_law_mixed" Ef f fd) (T:Txt mg):aO P w K mg base aX 1 f fd ["_law_cell","_law_place"] FN:=by
 refine F.ok Qa (λvs H Q E h=>?_) (λcdv A outer s H vs Q E hr h=>?_)
 ·obtain⟨c,p,rfl,_⟩:=h
  rfl
 ·obtain⟨c,p,rfl,hp,kk⟩:=h
  have nd:=Qa.nd;have m1:∀x:Int,0<=x % 2147483629/\x % 2147483629<2147483629:=λx=>⟨m_ x (by decide),sZ x (by decide)⟩;have m2:∀x:Int,0<=x % 2147483587/\x % 2147483587<2147483587:=λx=>⟨m_ x (by decide),sZ x (by decide)⟩;have cm:∀x y:Int,sS (x % 2147483629) y:=λx y=>.inl ⟨by have:=m1 x;omega,by have:=m1 x;omega⟩;refine⟨_,(ax (aP (i:=2) nd rfl (Or.inl rfl) (aJ cU (aJ dG (aJ dG (aJ ph (aJ cU (pv 0) ak) ak) (aJ ph ak (pv 1))) ak) ak))
   (ax (aP (i:=2) nd rfl (Or.inl rfl) (aJ cU (aJ dG (aJ dG (aJ ph (pv 2) (pv 2)) (aJ ph ak (pv 1))) ak) ak))
   (aA (aQ (aJ cU (aJ dG (aJ ph (pv 2) (pv 2)) ak) ak))))),?_⟩
  refine⟨_,rfl,_,_,rfl,rfl,(by show(0:Int)<2147483629;decide),_,_,rfl,rfl,cm _ _,_,rfl,_,_,rfl,rfl,.inl ⟨by decide,by decide⟩,_,_,rfl,rfl,_,_,rfl,rfl,_,_,rfl,rfl,(by show(0:Int)<2147483629;decide),?_⟩;refine⟨_,rfl,_,rfl,_,_,rfl,rfl,cm _ _,_,rfl,_,_,rfl,rfl,.inl ⟨by decide,by decide⟩,_,_,rfl,rfl,_,_,rfl,rfl,_,_,rfl,rfl,(by show(0:Int)<2147483629;decide),?_⟩;refine⟨_,rfl,_,rfl,_,_,rfl,rfl,cm _ _,_,_,rfl,rfl,_,_,rfl,rfl,(by show(0:Int)<2147483587;decide),?_⟩;exact kk _ _ (m2 _).1 (by have:=(m2 ((((c % 2147483629*16807+69621*(p:Int)+11) % 2147483629*((c % 2147483629*16807+69621*(p:Int)+11) % 2147483629)+48271*(p:Int)+7) % 2147483629)*(((c % 2147483629*16807+69621*(p:Int)+11) % 2147483629*((c % 2147483629*16807+69621*(p:Int)+11) % 2147483629)+48271*(p:Int)+7) % 2147483629)+69621)).2;omega) (Same.refl _)
abbrev Eb:Stmt:=top 56
theorem PQ:bh ["_law_cell","_law_many","_law_found","_law_left","_law_k"] ["_law_cell","_law_many"] (aB Eb):=⟨rfl,rfl,rfl,by decide +kernel,rfl,by decide +kernel,by decide +kernel⟩
def Small(ns:List Int):Prop:=∀x∈ns,0<=x/\x<2147483648
noncomputable def wy:Sp:=λvs H Q _=>∃(c:Int) (m:Nat),vs = [.int c,.int m]/\m<=1000/\∀l ns H',Same H H'->H l=none->H' l=some (.lst (ns.map V.int))->ns.length=m->Small ns->Q (.ref l) H'
theorem Zq (F:aS K "_law_draws" "_law_draws" Eb f fd) (T:Txt mg) (yL:aC P w K mg base "_law_mixed" ["_law_cell","_law_place"] 1 FN):aO P w K mg base aX 2 f fd ["_law_cell","_law_many"] wy:=by
 refine F.ok PQ (λvs H Q E h=>?_) (λcdv A outer s H vs Q E hr h=>?_)
 ·obtain⟨c,m,rfl,_⟩:=h
  rfl
 ·obtain⟨c,m,rfl,hm,kk⟩:=h
  have nd:=PQ.nd;have em:((m:Int)).toNat=m:=dW m;refine⟨_,(ax (aP (i:=2) nd rfl (Or.inl rfl) (bV ah))
   (ax (aP (i:=3) nd rfl (Or.inl rfl) (aJ N_ (pv 0) (aJ aas ak ak)))
   (ax (cH cF rfl (cM rfl T.range (ae (pv 1) ah)) (bf (i:=4) nd rfl (Or.inl rfl))
   (aA (bB (bu vx (pv 3) ak (a_ _)) (ax (dI (eV (K:=K) rfl eM jh jQ iT (pv 2) (ae (aJ cU (pv 3) ak) ah)))
   (aA (aP (i:=3) nd rfl (Or.inl rfl) (aJ rY (pv 3) ak)))) (aA (dI (eV (K:=K) rfl eM jh jQ iT (pv 2) (ae (aL yL hr rfl (ae (pv 0) (ae (pv 4) ah))) ah)))))))
   (aA (aQ (pv 2)))))),?_⟩
  refine⟨by show 0<=sizeLine;decide,λL hL=>?_⟩;refine⟨_,rfl,_,_,rfl,rfl,⟨by decide,by decide,by decide⟩,_,_,rfl,rfl,?_⟩;refine⟨_,rfl,m,rfl,(bF (by omega)).1,(bF (by omega)).2,fb (lo:=0) (n:=((m:Int)).toNat) (λi σ H2=>∃(v4:Option V) (x:Int) (ns:List Int),σ = [some (.int c),some (.int m),some (.ref L),some (.int x),v4]/\Same H H2/\H2 L=some (.lst (ns.map V.int))/\ns.length=i/\Small ns)
   ⟨none,_,[],rfl,Same.put hL,av,rfl,λ_ h=>nomatch h⟩ ?_ ?_⟩
  ·rintro i σ H2 hi ⟨v4,x,ns,rfl,s2,hl,hlen,hsm⟩
   have sn:∀y:Int,0<=y->y<2147483648->Small (ns++[y]):=λy h0 h1 z hz=>by
    rcases gy.mp hz with hz|hz
    ·exact hsm z hz
    ·simp at hz;subst hz;exact⟨h0,h1⟩
   have sk:∀{H3:Hp} {o:HO},Same H2 H3->Same H (upd H3 L o):=λs3 b o e=>by
    rw[aG (λz=>by rw[z,hL]at e;cases e)];exact s3 _ _ (s2 _ _ e)
   have hz:(ns.map V.int).length<sizeLine:=by rw[au];exact c7 (by omega)
   refine⟨_,rfl,_,_,rfl,rfl,_,rfl,bq (λh=>?_) (λh=>?_)⟩
   ·have q:=m_ x (show(1000003:Int)≠0 by decide)
    have q':=sZ x (show(0:Int)<1000003 by decide);refine⟨_,rfl,.inl ⟨rfl,_,ag.of hl⟩,_,rfl,_,_,rfl,rfl,(by show(0:Int)<1000003;decide),L,_,_,rfl,rfl,hl,hz,?_⟩;refine⟨_,rfl,_,_,rfl,rfl,⟨by decide,by decide⟩,?_⟩;exact⟨_,_,ns++[x % 1000003],rfl,sk (Same.refl _),by rw[av];simp,by simp[hlen],sn _ q (by omega)⟩
   ·refine⟨_,rfl,.inl ⟨rfl,_,ag.of hl⟩,_,rfl,_,rfl,c,i,by simp,by omega,λy H3 y0 y1 s3=>?_⟩
    exact⟨L,_,_,rfl,rfl,s3 _ _ hl,hz,_,x,ns++[y],rfl,sk s3,by rw[av];simp,by simp[hlen],sn _ y0 y1⟩
  ·rintro σ H2 ⟨v4,x,ns,rfl,s2,hl,hlen,hsm⟩
   exact⟨_,rfl,kk L ns H2 s2 hL hl (hlen.trans em) hsm⟩
end
theorem Jz(xs:List V):bP xs (some 1) none=xs.drop 1:=by
 unfold bP;rw[show(HT.bj xs.length 0 (some 1))=min 1 xs.length from HT.vQ xs.length 0 1,HT.vR];cases xs with
 |nil=>rfl
 |cons a r=>simp
theorem I0{xs:List V}(h:xs≠[]):eN xs (-1)=some (xs.getLast h):=by
 have:=IW xs.dropLast (xs.getLast h)
 rwa [Hf]at this
theorem QK(x p:Nat):(x:Int)*2 ^ ((p:Int)).toNat=((x*2 ^ p:Nat):Int):=by
 rw[dW];push_cast;rfl
section
variable {P:Program} {w:World} {K:W.Frag} {mg:Str->Option Value} {base:Heap} {f:Addr} {fd:FuncData}
abbrev wa:Stmt:=top 60
theorem P1:bh ["_law_many"] ["_law_many"] (aB wa):=⟨rfl,rfl,rfl,by decide +kernel,rfl,by decide +kernel,by decide +kernel⟩
def Fu:Sp:=λvs H Q _=>∃m:Nat,vs = [.int m]/\1<=m/\m<=5/\∀l H',Same H H'->H l=none->H' l=some (.lst ((Ev.gX m).map nV))->Q (.ref l) H'
theorem Zy (F:aS K "_law_flower" "_law_flower" wa f fd) (T:Txt mg):aO P w K mg base aX 1 f fd ["_law_many"] Fu:=by
 refine F.ok P1 (λvs H Q E h=>?_) (λcdv A outer s H vs Q E hr h=>?_)
 ·obtain⟨m,rfl,_⟩:=h
  rfl
 ·obtain⟨m,rfl,h1,h5,kk⟩:=h
  have nd:=P1.nd;have em:((m:Int)).toNat=m:=dW m;refine⟨_,(aA (aQ (aJ fJ (aJ fJ (bV (ae ak ah)) (aJ N8 (c6 (own:=["_law_k"]) (fr:=[]) rfl (cp (aB wa) ["_law_many"] rfl rfl (by decide +kernel)) (cM rfl T.range (ae (pv 0) ah)) (λ_ _ _ _=>⟨(bf (i:=0) (by decide +kernel:(["_law_k"]:List Str).Nodup) rfl (Or.inl rfl)),c9,(aJ pj ak (pv 0))⟩)) (fL Jm rfl T.int uh (ae (gj aao (pv 0) ak (a_ _)) ah)))) (bV (ae (aJ N_ (aJ pj ak (pv 0)) ak) ah))))),?_⟩;refine⟨by show 1<=sizeLine;decide,λp1 hp1=>?_⟩;refine⟨_,rfl,m,rfl,(bF (by omega)).1,(bF (by omega)).2,λD hD=>eQ (λi=>.int (1*2 ^ (0+(i:Int)).toNat)) src_range hD (dB (by omega)) (λi H2 Kt hi hs hk=>?_) (λH2 hs hl=>?_)⟩
  ·exact⟨_,rfl,_,_,rfl,rfl,⟨by omega,by omega,by decide⟩,hk _ (Same.refl _)⟩
  refine⟨_,rfl,_,_,rfl,rfl,.inr ⟨_,rfl,?_⟩⟩;rw[em]at hl;have s1:Same H H2:=(Same.put hp1).trans hs;have hb:(if decide ((1:Int)<(m:Int))=true then(1:Int)else 0)=1\/(if decide ((1:Int)<(m:Int))=true then(1:Int)else 0)=0:=by split<;>simp
  refine⟨D,_,_,rfl,rfl,hl,by rcases hb with e|e<;>rw[e]<;>decide,by rcases hb with e|e<;>rw[e]<;>decide,?_,λp2 hp2=>?_⟩
  ·rw[au,kJ]
   rcases hb with e|e<;>rw[e]<;>simp
   exact eB (dB (by omega))
  have h1':H2 p1=some (.lst [.int 0]):=hs _ _ av;refine⟨p1,p2,_,_,rfl,rfl,Same.put hp2 _ _ h1',av,?_,λp3 hp3=>?_⟩
  ·rw[len_rep,au,kJ]
   rcases hb with e|e<;>rw[e]<;>simp
   ·exact b_ (show 1+m<=24 by omega) (eB (dB (aW _)))
   ·decide
  refine⟨_,rfl,_,_,rfl,rfl,⟨by omega,by omega,by decide⟩,_,_,rfl,rfl,by show 1<=sizeLine;decide,λp4 cD=>?_⟩;refine⟨p3,p4,_,_,rfl,rfl,Same.put cD _ _ av,av,?_,λp5 gZ=>?_⟩
  ·rw[cA,len_rep,au,kJ]
   rcases hb with e|e<;>rw[e]<;>simp
   ·exact b_ (show 1+m+1<=24 by omega) (eB (dB (aW _)))
   ·decide
  refine kk p5 _ ((((s1.trans (Same.put hp2)).trans (Same.put hp3)).trans (Same.put cD)).trans (Same.put gZ)) (Same.free ?_ gZ) ?_
  ·exact((s1.trans (Same.put hp2)).trans (Same.put hp3)).trans (Same.put cD)
  rw[av];have hm:m=1\/m=2\/m=3\/m=4\/m=5:=by omega
  rcases hm with rfl|rfl|rfl|rfl|rfl<;>rfl
abbrev wg:Stmt:=top 61
theorem Qg:bh ["_law_one","_law_other","_law_places"] ["_law_one","_law_other","_law_places"] (aB wg):=⟨rfl,rfl,rfl,by decide +kernel,rfl,by decide +kernel,by decide +kernel⟩
def Gk(K:W.Frag):Sp:=λvs H Q _=>∃(a b p:Nat) (M1 M2:List Nat),vs = [.ref a,.ref b,.int p]/\H a=some (.lst (M1.map nV))/\H b=some (.lst (M2.map nV))/\M1≠[]/\M1.length<=100/\M2.length<=100/\(∀x∈M2,x<2 ^ 40)/\p<=100 /\
 ∀l H',Same H H'->H l=none->H' l=some (.lst ((Ev.mS M1 M2 p).map nV))->Q (.ref l) H'
theorem Z' (F:aS K "_law_stack" "_law_stack" wg f fd) (T:Txt mg):aO P w K mg base aX 1 f fd ["_law_one","_law_other","_law_places"] (Gk K):=by
 refine F.ok Qg (λvs H Q E h=>?_) (λcdv A outer s H vs Q E hr h=>?_)
 ·obtain⟨a,b,p,M1,M2,rfl,_⟩:=h
  rfl
 ·obtain⟨a,b,p,M1,M2,rfl,ha,hb,hne,hl1,hl2,hm,hp,kk⟩:=h
  have nd:=Qg.nd;refine⟨_,(aA (aQ (aJ fJ (pv 0) (c6 (own:=["_law_mask"]) (fr:=[("_law_one", 0),("_law_places", 2)]) rfl (cp (aB wg) ["_law_one","_law_other","_law_places"] rfl rfl (by decide +kernel)) (dk (K:=K) rfl (eL (fk (K:=K) rfl) (pv 1) (dS ak) fh)) (λ_ _ _ _=>⟨(bf (i:=0) (by decide +kernel:(["_law_mask","_law_one","_law_places"]:List Str).Nodup) rfl (Or.inl rfl)),c9,(aJ vz (aq (aV (K:=K) rfl) (pv 1) (jD jK ak) (λ_ _=>rfl)) (aJ pj (pv 0) (pv 2)))⟩))))),?_⟩;refine⟨_,rfl,_,rfl,1,rfl,b,_,rfl,ag.of hb,λq hq=>?_⟩;rw[Jz,<- ny];refine⟨q,rfl,⟨_,ag.of av⟩,λD hD=>eQ (λi=>nV (M1.getLastD 0 ||| ((M2.drop 1).getD i 0*2 ^ p))) (src_list (ag.of av)) hD (c7 (by simp;omega)) (λi H2 Kt hi hs hk=>?_) (λH2 hs hl=>?_)⟩
  ·have hi':i<(M2.drop 1).length:=by simpa using hi
   have ha2:H2 a=some (.lst (M1.map nV)):=hs _ _ (Same.put hq _ _ ha);have hne':M1.map nV≠[]:=by simpa using hne
   have eg:((M2.drop 1).map nV).getD i .non=nV ((M2.drop 1).getD i 0):=by
    rw[aN,aN,bX,ay hi'];rfl
   have hx:(M2.drop 1).getD i 0<2 ^ 40:=by
    rw[aN,ay hi'];exact hm _ (List.mem_of_mem_drop (fu hi'))
   refine⟨_,rfl,_,rfl,a,_,_,_,rfl,rfl,ag.of ha2,I0 hne',_,rfl,_,rfl,_,_,eg,rfl,⟨by omega,by omega,by omega⟩,_,_,by rw[List.getLast_map],rfl,?_⟩;have e2:M1.getLast hne=M1.getLastD 0:=by
    rw[List.getLastD_eq_getLast?,List.getLast?_eq_some_getLast hne];rfl
   dsimp only;rw[QK,vA,e2];exact hk _ (Same.refl _)
  ·have s1:=(Same.put hq).trans hs
   refine⟨a,D,_,_,rfl,rfl,s1 _ _ ha,hl,?_,λl hl'=>?_⟩
   ·simp
    exact b_ (show M1.length+(M2.length - 1)<=1000 by omega) (eB (c7 (by omega)))
   ·refine kk l _ (s1.trans (Same.put hl')) (s1.free hl') ?_
    rw[av]
    congr 2
    unfold Ev.mS;rw[gx]
    congr 1
    apply jN
    ·simp
    ·intro i h1 h2
     have hi':i<(M2.drop 1).length:=by simpa using h1
     simp only[iF,nq];rw[aN,ay hi'];rfl
abbrev vX:Stmt:=top 62
theorem PB:bh ["_law_one","_law_other","_law_found","_law_mask"] ["_law_one","_law_other"] (aB vX):=⟨rfl,rfl,rfl,by decide +kernel,rfl,by decide +kernel,by decide +kernel⟩
def Fh(K:W.Frag):Sp:=λvs H Q _=>∃(a b:Nat) (M1 M2:List Nat),vs = [.ref a,.ref b]/\H a=some (.lst (M1.map nV))/\H b=some (.lst (M2.map nV))/\M1.length<=100/\M2.length<=100/\(∀x∈M2,x<2 ^ 40) /\
 ∀l H',Same H H'->H l=none->H' l=some (.lst ((Ev.kY M1 M2).map nV))->Q (.ref l) H'
theorem Zh (F:aS K "_law_beside" "_law_beside" vX f fd) (T:Txt mg):aO P w K mg base aX 1 f fd ["_law_one","_law_other"] (Fh K):=by
 refine F.ok PB (λvs H Q E h=>?_) (λcdv A outer s H vs Q E hr h=>?_)
 ·obtain⟨a,b,M1,M2,rfl,_⟩:=h
  rfl
 ·obtain⟨a,b,M1,M2,rfl,ha,hb,hl1,hl2,hm,kk⟩:=h
  have nd:=PB.nd;refine⟨_,(ax (aP (i:=2) nd rfl (Or.inl rfl) (bV ah))
   (ax (cH cF rfl (dk (K:=K) rfl (pv 0)) (bf (i:=3) nd rfl (Or.inr rfl))
   (aA (aP (i:=2) nd rfl (Or.inl rfl) (aJ fJ (pv 2) (c6 (own:=["_law_more"]) (fr:=[("_law_mask", 3)]) rfl (cp (aB vX) ["_law_one","_law_other","_law_found","_law_mask"] rfl rfl (by decide +kernel)) (dk (K:=K) rfl (pv 1)) (λ_ _ _ _=>⟨(bf (i:=0) (by decide +kernel:(["_law_more","_law_mask"]:List Str).Nodup) rfl (Or.inl rfl)),c9,(aJ vz (pv 1) (aJ pj (pv 0) ak))⟩))))))
   (aA (aQ (pv 2))))),?_⟩
  refine⟨by show 0<=sizeLine;decide,λL hL=>?_⟩;refine⟨_,rfl,a,rfl,⟨_,ag.of (Same.put hL _ _ ha)⟩,jr (K:=K) (a:=a) (xs:=M1.map nV) (λi σ H2=>∃v3 l,σ = [some (.ref a),some (.ref b),some (.ref l),v3]/\Same H H2/\H l=none/\H2 l=some (.lst ((Ev.kY (M1.take i) M2).map nV)))
   ⟨none,L,rfl,Same.put hL,hL,by rw[av];rfl⟩ (λi σ H2 _ hpq=>by obtain⟨_,_,_,s2,_⟩:=hpq;exact ag.of (s2 _ _ ha)) ?_ ?_⟩
  ·rintro i y σ H2 hi ⟨v3,l,rfl,s2,hl,hl2'⟩
   have hi1:i<M1.length:=by simpa using(bN.mp hi).1
   have ey:y=nV M1[i]:=by
    rw[bX,ay hi1]at hi;exact(df hi).symm
   subst ey;refine⟨_,rfl,_,rfl,b,rfl,⟨_,ag.of (s2 _ _ hb)⟩,λD hD=>eQ (λj=>nV (M1[i] ||| (M2.getD j 0*2 ^ 10))) (src_list (ag.of (s2 _ _ hb))) hD (c7 (by simp;omega)) (λj H3 Kt hj hs hk=>?_) (λH3 hs hl3=>?_)⟩
   ·have hj':j<M2.length:=by simpa using hj
    have eg:(M2.map nV).getD j .non=nV (M2.getD j 0):=by
     rw[aN,aN,bX,ay hj'];rfl
    have hx:M2.getD j 0<2 ^ 40:=by
     rw[aN,ay hj'];exact hm _ (fu hj')
    refine⟨_,rfl,_,rfl,_,_,eg,rfl,⟨by decide,by decide,by omega⟩,_,_,rfl,rfl,?_⟩;have e3:((M2.getD j 0:Nat):Int)*2 ^ ((10:Int)).toNat=((M2.getD j 0*2 ^ 10:Nat):Int):=QK _ 10;dsimp only;rw[e3,vA];exact hk _ (Same.refl _)
   ·have hlen:((Ev.kY (M1.take i) M2).map nV).length<=10000:=by
     rw[au];unfold Ev.kY;rw[List.length_flatMap];have:((M1.take i).map λm=>(M2.map λx=>m ||| x*2 ^ 10).length)=(M1.take i).map λ_=>M2.length:=by
      apply nu;intro x _;simp
     rw[this,List.map_const',List.sum_replicate_nat];have h1:(M1.take i).length<=100:=by simp;omega
     exact b_ (Nat.mul_le_mul h1 hl2) (by decide)
    refine⟨l,D,_,_,rfl,rfl,hs _ _ hl2',hl3,?_,λq hq=>?_⟩
    ·rw[au (f:=λj=>nV (M1[i] ||| (M2.getD j 0*2 ^ 10)))]
     simp only[kJ,au]at hlen ⊢;have:=@c7 100000 (by omega);omega
    ·have sq:=(s2.trans hs)
     refine⟨_,q,rfl,sq.trans (Same.put hq),sq.free hq,?_⟩;rw[av];have et:M1.take (i+1)=M1.take i++[M1[i]]:=by rw[p8,ay hi1];rfl
     rw[et];unfold Ev.kY;rw[xv,gx]
     congr 3
     apply jN
     ·simp
     ·intro j h1 h2
      have hj':j<M2.length:=by simpa using h1
      simp only[iF,nq,tI,Hh,h_];rw[aN,ay hj'];rfl
  ·rintro σ H2 ⟨v3,l,rfl,s2,hl,hl2'⟩
   rw[au,nA]at hl2';exact⟨_,rfl,kk l H2 s2 hl hl2'⟩
theorem eT{M:List Nat}{a:Nat}(h:a<M.length):(M.map nV)[a]?=some (nV (M.getD a 0)):=by
 rw[bX,ay h,aN,ay h];rfl
abbrev D_:Stmt:=top 66
theorem Pz:bh ["_law_masks","_law_a","_law_b"] ["_law_masks","_law_a","_law_b"] (aB D_):=⟨rfl,rfl,rfl,by decide +kernel,rfl,by decide +kernel,by decide +kernel⟩
def mP(K:W.Frag):Sp:=λvs H Q _=>∃(m a b:Nat) (M:List Nat),vs = [.ref m,.int a,.int b]/\ag K H m (M.map nV)/\a<M.length/\b<M.length/\∀H',Same H H'->Q (.bl (Ev.aF M a b)) H'
theorem Zg (F:aS K "_law_at_most" "_law_at_most" D_ f fd) (T:Txt mg):aO P w K mg base aX 1 f fd ["_law_masks","_law_a","_law_b"] (mP K):=by
 refine F.ok Pz (λvs H Q E h=>?_) (λcdv A outer s H vs Q E hr h=>?_)
 ·obtain⟨m,a,b,M,rfl,_⟩:=h
  rfl
 ·obtain⟨m,a,b,M,rfl,hm,ha,hb,kk⟩:=h
  have nd:=Pz.nd;refine⟨_,(aA (aQ (gj dH (aJ jz (aq (aV (K:=K) rfl) (pv 0) (pv 1) (λ_ _=>rfl)) (aq (aV (K:=K) rfl) (pv 0) (pv 2) (λ_ _=>rfl))) (aq (aV (K:=K) rfl) (pv 0) (pv 1) (λ_ _=>rfl)) (a_ _)))),?_⟩;refine⟨_,rfl,_,rfl,m,_,a,_,rfl,rfl,hm,aI (eT ha),_,rfl,_,rfl,m,_,b,_,rfl,rfl,hm,aI (eT hb),_,_,rfl,rfl,_,rfl,_,rfl,m,_,a,_,rfl,rfl,hm,aI (eT ha),rfl,?_⟩;have e:decide (V.int (Builtin.bitAnd (M.getD a 0:Nat) (M.getD b 0:Nat))=nV (M.getD a 0))=Ev.aF M a b:=by
   rw[kW];unfold Ev.aF;apply lg.mpr
   unfold Ev.Sub
   constructor
   ·intro h;injection h with h;omega
   ·intro h;rw[h]
  dsimp only;rw[e];exact kk _ (Same.refl _)
abbrev sF:Stmt:=top 69
theorem Qh:bh ["_law_masks","_law_count","_law_found","_law_a","_law_above","_law_b"] ["_law_masks"] (aB sF):=⟨rfl,rfl,rfl,by decide +kernel,rfl,by decide +kernel,by decide +kernel⟩
noncomputable def bz(M:List Nat)(a:Nat):List Nat:=(List.range M.length).filter λb=>!decide (a=b)&&Ev.aF M a b
noncomputable def cQ(M:List Nat):List (Nat × Nat):=(List.range M.length).flatMap λa=>((bz M a).filter λb=>((bz M a).filter λc=>Ev.aF M c b).length==1).map λb=>(a,b)
theorem ki{M:List Nat}{a b:Nat}:b∈bz M a ↔ b<M.length/\a≠b/\Ev.aF M a b=true:=by
 unfold bz;rw[cR];simp[and_assoc]
theorem vf{M:List Nat}{p:Nat × Nat}(h:p∈cQ M):p.1<M.length/\p.2<M.length/\Ev.aF M p.1 p.2=true:=by
 unfold cQ at h;rw[lR]at h;obtain⟨a,ha,h⟩:=h;obtain⟨b,hb,rfl⟩:=cS.mp h;have h1:=ki.mp (cR.mp hb).1;exact⟨by simpa using ha,h1.1,h1.2.2⟩
theorem N3{l:List Nat}{b:Nat}(nd:l.Nodup)(hb:b∈l)(h:∀c∈l,c=b):l.length=1:=by
 match l,nd,hb,h with
 | [x],_,_,_=>rfl
 |x::y::r,nd,_,h =>
  have h1:=h x b9;have h2:=h y (ck _ b9);rw[iG]at nd;exact absurd (show x∈y::r by rw[h1,<- h2];exact b9) nd.1
theorem acb{M:List Nat}(nd:M.Nodup){a b:Nat}(ha:a<M.length)(hb:b<M.length)(h:Ev.stepM M a b):(a,b)∈cQ M:=by
 unfold cQ;rw[lR];refine⟨a,by simpa using ha,cS.mpr ⟨b,cR.mpr ⟨ki.mpr ⟨hb,h.1,h.2.1⟩,?_⟩,rfl⟩⟩;have e:((bz M a).filter λc=>Ev.aF M c b).length=1:=by
  apply N3 (b:=b)
  ·exact(Hq.filter _).filter _
  ·exact cR.mpr ⟨ki.mpr ⟨hb,h.1,h.2.1⟩,Ev.jx M b⟩
  ·intro c hc
   obtain⟨h1,h2⟩:=cR.mp hc;obtain⟨h3,h4,h5⟩:=ki.mp h1
   rcases h.2.2 c h3 h5 h2 with z|z
   ·exact absurd z.symm h4
   ·exact z
 rw[e];rfl
theorem U4(p:Nat->Bool)(l:List Nat):((List.range l.length).filter λj=>p (l.getD j 0)).length=(l.filter p).length:=by
 have e:l=(List.range l.length).map λj=>l.getD j 0:=by
  apply jN
  ·simp
  ·intro i h1 h2
   simp only[iF,nq];rw[aN,ay h1];rfl
 have e2:(l.filter p).length=(((List.range l.length).map λj=>l.getD j 0).filter p).length:=by rw[<- e]
 rw[e2,xu,au];rfl
def wF(K:W.Frag):Sp:=λvs H Q _=>∃(m:Nat) (M:List Nat),vs = [.ref m]/\ag K H m (M.map nV)/\M.length<=24/\∀l us H',Same H H'->H l=none->H' l=some (.lst us)->us.length<=576->Paired (c5 H') (cQ M) us->Q (.ref l) H'
theorem aac (F:aS K "_law_steps" "_law_steps" sF f fd) (T:Txt mg) (eZ:aC P w K mg base "_law_at_most" ["_law_masks","_law_a","_law_b"] 1 (mP K)):aO P w K mg base aX 2 f fd ["_law_masks"] (wF K):=by
 refine F.ok Qh (λvs H Q E h=>?_) (λcdv A outer s H vs Q E hr h=>?_)
 ·obtain⟨m,M,rfl,_⟩:=h
  rfl
 ·obtain⟨m,M,rfl,hm,hn,kk⟩:=h
  have nd:=Qh.nd;have en:(((M.map nV).length:Int)).toNat=M.length:=by rw[dW,au]
  refine⟨_,(ax (aP (i:=1) nd rfl (Or.inl rfl) (aY (cI (K:=K) rfl) rfl T.len cT (ae (pv 0) ah)))
   (ax (aP (i:=2) nd rfl (Or.inl rfl) (bV ah))
   (ax (cH cF rfl (cM rfl T.range (ae (pv 1) ah)) (bf (i:=3) nd rfl (Or.inr rfl))
   (ax (pB (i:=4) nd rfl rfl (own:=["_law_b"]) (fr:=[("_law_a", 3),("_law_masks", 0)]) rfl (cp (aB sF) ["_law_masks","_law_count","_law_found","_law_a","_law_above","_law_b"] rfl rfl (by decide +kernel)) (cM rfl T.range (ae (pv 1) ah)) (λ_ _ _ _=>⟨(bf (i:=0) (by decide +kernel:(["_law_b","_law_a","_law_masks"]:List Str).Nodup) rfl (Or.inl rfl)),(kA (PW.pt (mJ (bu eU (pv 1) (pv 0) (a_ _)) (mK (cg (aL eZ hr rfl (ae (pv 2) (ae (pv 1) (ae (pv 0) ah (ao nofun)) (ao nofun)) (ao nofun)))))))),(pv 0)⟩))
   (aA (cH cF rfl (dk (K:=K) rfl (pv 4)) (bf (i:=5) nd rfl (Or.inr rfl))
   (aA (bB (bu dH (aY (cI (K:=K) rfl) rfl T.len cT (ae (c6 (own:=["_law_c"]) (fr:=[("_law_masks", 0),("_law_b", 5)]) rfl (cp (aB sF) ["_law_masks","_law_count","_law_found","_law_a","_law_above","_law_b"] rfl rfl (by decide +kernel)) (dk (K:=K) rfl (pv 4)) (λ_ _ _ _=>⟨(bf (i:=0) (by decide +kernel:(["_law_c","_law_masks","_law_b"]:List Str).Nodup) rfl (Or.inl rfl)),(kA (cg (aL eZ hr rfl (ae (pv 1) (ae (pv 0) (ae (pv 2) ah (ao nofun)) (ao nofun)) (ao nofun))))),(pv 0)⟩)) ah)) ak (a_ _)) (aA (dI (eV (K:=K) rfl eM jh jQ iT (pv 2) (ae (gJ (ae (pv 3) (ae (pv 5) ah))) ah)))) bD))))))
   (aA (aQ (pv 2)))))),?_⟩
  refine⟨_,rfl,m,_,rfl,.inl hm,?_⟩;refine⟨by show 0<=sizeLine;decide,λL hL=>?_⟩;refine⟨_,rfl,_,rfl,by rw[au];exact(bF (by omega)).1,by rw[au];exact(bF (by omega)).2,fb (lo:=0) (n:=(((M.map nV).length:Int)).toNat) (λi σ H2=>∃(v3 v4 v5:Option V) (us:List V),σ = [some (.ref m),some (.int (M.map nV).length),some (.ref L),v3,v4,v5]/\Same H H2/\H2 L=some (.lst us)/\us.length<=24*i /\
   Paired (c5 H2) ((List.range i).flatMap λa=>((bz M a).filter λb=>((bz M a).filter λc=>Ev.aF M c b).length==1).map λb=>(a,b)) us) ⟨none,none,none,[],rfl,Same.put hL,av,by simp,.nil⟩ ?_ ?_⟩
  ·rintro i σ H2 hi ⟨v3,v4,v5,us,rfl,s2,hl,hlen,hp⟩
   rw[en]at hi;refine⟨_,rfl,_,rfl,by rw[au];exact(bF (by omega)).1,by rw[au];exact(bF (by omega)).2,λD hD=>jY (λb=>!decide (i=b)&&Ev.aF M i b) nV src_range hD (by rw[en];exact dB hn) (λj H3 Kt Kf hj hs hkt hkf=>?_) (λH3 hs3 hl3=>?_)⟩
   ·rw[en]at hj
    refine⟨_,rfl,_,rfl,rfl,_,rfl,?_⟩;have ed:(!decide (V.int (0+(i:Int))=V.int (0+(j:Int)))) = !decide (i=j):=by
     congr 1
     rw[ft];exact zk
    rw[ed];refine bq (λh=>?_) (λh=>?_)
    ·refine⟨_,rfl,_,rfl,_,rfl,m,i,j,M,by simp,hs.seq (s2.seq hm),hi,hj,λH4 s4=>⟨_,rfl,bq (λh'=>?_) (λh'=>?_)⟩⟩
     ·refine⟨_,rfl,?_⟩
      rw[ft];exact hkt _ (by rw[h,h',gO]) s4
     ·exact hkf _ (by rw[h,gO];simpa using h') s4
    ·refine bA ?_
     have h2:(!decide (i=j))=false:=by simpa using h
     exact hkf _ (by rw[h2,lO]) (Same.refl _)
   rw[en]at hl3
   change H3 D=some (.lst ((bz M i).map nV))at hl3
   have hDL:D≠L:=λe=>by rw[e,hl]at hD;cases hD
   have hab:(bz M i).length<=24:=b_ (p6 _ _) (by rw[kJ];exact hn);refine⟨_,rfl,D,rfl,⟨_,ag.of hl3⟩,jr (K:=K) (a:=D) (xs:=(bz M i).map nV) (λt σ H4=>∃(v5:Option V) (ws:List V),σ = [some (.ref m),some (.int (M.map nV).length),some (.ref L),some (.int (0+(i:Int))),some (.ref D),v5]/\Same H H4/\H4 D=some (.lst ((bz M i).map nV)) /\
    H4 L=some (.lst (us++ws))/\ws.length<=t/\Paired (c5 H4) (((List.range i).flatMap λa=>((bz M a).filter λb=>((bz M a).filter λc=>Ev.aF M c b).length==1).map λb=>(a,b))++((((bz M i).take t).filter λb=>((bz M i).filter λc=>Ev.aF M c b).length==1).map λb=>(i,b))) (us++ws))
    ⟨v5,[],rfl,s2.trans hs3,hl3,by rw[h_];exact hs3 _ _ hl,aW _,by simpa using eK.same hs3 hp⟩ (λi σ H4 _ hpq=>by obtain⟨_,_,_,_,h4,_⟩:=hpq;exact ag.of h4) ?_ ?_⟩
   ·rintro t y σ H4 ht ⟨v5,ws,rfl,s4,qV,cL,hws,cD⟩
    have htl:t<(bz M i).length:=by simpa using(bN.mp ht).1
    have ey:y=nV (bz M i)[t]:=by
     rw[bX,ay htl]at ht;exact(df ht).symm
    subst ey;have V9:=(ki.mp (fu htl)).1;have et:(bz M i).take (t+1)=(bz M i).take t++[(bz M i)[t]]:=by rw[p8,ay htl];rfl
    refine⟨_,rfl,D,rfl,⟨_,ag.of qV⟩,λD2 hD2=>jY (λj=>Ev.aF M ((bz M i).getD j 0) (bz M i)[t]) (λj=>nV ((bz M i).getD j 0)) (src_list (ag.of qV)) hD2 (by rw[au];exact dB hab) (λj H5 Kt Kf hj hs hkt hkf=>?_) (λH5 ju fE=>?_)⟩
    ·have hj':j<(bz M i).length:=by simpa using hj
     have hcl:(bz M i).getD j 0<M.length:=by
      rw[aN,ay hj'];exact(ki.mp (fu hj')).1
     have eg:((bz M i).map nV).getD j .non=nV ((bz M i).getD j 0):=by
      rw[aN,eT hj'];rfl
     refine⟨_,rfl,_,rfl,_,rfl,m,_,_,M,by rw[eg];rfl,hs.seq (s4.seq hm),hcl,V9,λH6 s6=>⟨_,rfl,bq (λh=>?_) (λh=>?_)⟩⟩
     ·refine⟨_,rfl,?_⟩
      rw[eg];exact hkt _ h s6
     ·exact hkf _ (by simpa using h) s6
    have ef:(((List.range ((bz M i).map nV).length).filter λj=>Ev.aF M ((bz M i).getD j 0) (bz M i)[t]).map λj=>nV ((bz M i).getD j 0)).length=((bz M i).filter λc=>Ev.aF M c (bz M i)[t]).length:=by
     rw[au,au];exact U4 (λc=>Ev.aF M c (bz M i)[t]) (bz M i)
    refine⟨D2,_,rfl,.inl (ag.of fE),rfl,_,rfl,?_⟩;rw[ef];have rh:=ju _ _ cL;have ed:decide (V.int ((((bz M i).filter λc=>Ev.aF M c (bz M i)[t]).length:Nat):Int)=V.int 1)=(((bz M i).filter λc=>Ev.aF M c (bz M i)[t]).length==1):=by
     rw[dm];simp only[cJ,gR]
     constructor
     ·intro h;injection h with h;omega
     ·intro h;rw[h];rfl
    rw[ed];refine bq (λh=>?_) (λh=>?_)
    ·refine⟨_,rfl,.inl ⟨rfl,_,ag.of rh⟩,_,rfl,_,rfl,by show 2<=sizeLine;decide,λq hq=>?_⟩
     refine⟨L,_,_,rfl,rfl,Same.put hq _ _ rh,?_,?_⟩
     ·rw[cA];exact c7 (by omega)
     ·have oN:L≠q:=λe=>by rw[<- e,rh]at hq;cases hq
      refine⟨_,ws++[.ref q],rfl,?_,?_,?_,by rw[cA];exact Nat.succ_le_succ hws,?_⟩
      ·intro b o e
       rw[aG (λz=>by rw[z,hL]at e;cases e)];exact Same.put hq _ _ (ju _ _ (s4 _ _ e))
      ·rw[aG hDL];exact Same.put hq _ _ (ju _ _ qV)
      ·rw[av,je]
      ·rw[et,pU,gx,<- je,<- je]
       have e1:([(bz M i)[t]].filter λb=>((bz M i).filter λc=>Ev.aF M c b).length==1) = [(bz M i)[t]]:=by rw[xt,if_pos h];rfl
       rw[e1];refine vC (Same.put hq _ _ rh) (pz (eK.same (ju.trans (Same.put hq)) cD) (.cons ⟨q,rfl,?_⟩ .nil));rw[av,ft]
    ·refine⟨_,ws,rfl,s4.trans ju,ju _ _ qV,rh,Nat.le_succ_of_le hws,?_⟩
     rw[et,pU,gx];have e1:([(bz M i)[t]].filter λb=>((bz M i).filter λc=>Ev.aF M c b).length==1) = []:=by rw[xt,if_neg h];rfl
     rw[e1,tM,h_];exact eK.same ju cD
   ·rintro σ H4 ⟨v5,ws,rfl,s4,qV,cL,hws,cD⟩
    rw[au,nA]at cD;rw[au]at hws;refine⟨_,_,_,us++ws,rfl,s4,cL,by rw[cA];omega,?_⟩;rw[Dx];exact cD
  ·rintro σ H2 ⟨v3,v4,v5,us,rfl,s2,hl,hlen,hp⟩
   rw[en]at hp hlen;exact⟨_,rfl,kk L us H2 s2 hL hl (by omega) hp⟩
end
theorem uY{M:List Nat}{x:Nat}(h:x∈M):(M.map λx:Nat=>(x:Int)).idxOf (x:Int)<M.length/\M.getD ((M.map λx:Nat=>(x:Int)).idxOf (x:Int)) 0=x:=by
 have hm:(x:Int)∈M.map λx:Nat=>(x:Int):=cS.mpr ⟨x,h,rfl⟩;have hj:=nr.mpr hm;have e:=nj hj;rw[iF]at e;have hj':(M.map λx:Nat=>(x:Int)).idxOf (x:Int)<M.length:=by simpa using hj
 refine⟨hj',?_⟩;rw[aN,ay hj'];exact Int.ofNat.inj e
theorem Sr(m:Nat):Builtin.bitAnd (-1) (m:Int)=(m:Int):=by
 rw[bitAnd_np (by decide) (by omega)];have:(Builtin.bitNot (-1)).toNat=0:=by decide
 rw[this];simp
theorem acg(x y:Nat):decide (V.int (Builtin.bitAnd (x:Int) (y:Int))=nV x)=decide (Ev.Sub x y):=by
 rw[kW];apply lg.mpr
 unfold Ev.Sub
 constructor
 ·intro h;injection h with h;omega
 ·intro h;rw[h]
theorem QX(x y:Nat):decide (V.int (Builtin.bitAnd (y:Int) (x:Int))=nV x)=decide (Ev.Sub x y):=by
 rw[bitAnd_comm];exact acg x y
noncomputable def yo:Option Nat->V
 |none=>.int (-1)
 |some m=>nV m
noncomputable def kf(A B:Nat)(o:Option Nat)(m:Nat):Option Nat:=if decide (Ev.Sub A m)&&decide (Ev.Sub B m)then some (match o with|none=>m|some x=>x&&& m)else o
theorem Si(o:Option Nat)(m:Nat):∃i:Int,yo o = .int i/\V.int (Builtin.bitAnd i (m:Int))=yo (some (match o with|none=>m|some x=>x&&& m)):=by
 cases o with
 |none=>exact⟨-1,rfl,by rw[Sr];rfl⟩
 |some x=>exact⟨x,rfl,by rw[kW];rfl⟩
theorem Mv(A B:Nat):∀(l:List Nat) (o:Option Nat),l.foldl (kf A B) o=match o,l.filter (λm=>decide (Ev.Sub A m)&&decide (Ev.Sub B m))with
  |o,[]=>o
  |none,s::S=>some (S.foldl (·&&& ·) s)
  |some x,s::S=>some ((s::S).foldl (·&&& ·) x)
 | [],o=>by cases o<;>rfl
 |m::l,o=>by
  rw[Hi,Mv A B l];unfold kf
  by_cases h:(decide (Ev.Sub A m)&&decide (Ev.Sub B m))=true
  ·rw[if_pos h,xt,if_pos h]
   cases o with
   |none=>cases l.filter (λm=>decide (Ev.Sub A m)&&decide (Ev.Sub B m))<;>rfl
   |some x=>cases l.filter (λm=>decide (Ev.Sub A m)&&decide (Ev.Sub B m))<;>rfl
  ·rw[if_neg h,xt,if_neg h]
theorem XF{M:List Nat}(L:Ev.bL M){a b:Nat}(ha:a<M.length)(hb:b<M.length):∃j,M.foldl (kf (M.getD a 0) (M.getD b 0)) none=some j/\j∈M/\Ev.Sub (M.getD a 0) j/\Ev.Sub (M.getD b 0) j/\∀x∈M,Ev.Sub (M.getD a 0) x->Ev.Sub (M.getD b 0) x->Ev.Sub j x:=by
 rw[Mv];have hin:∀x,x∈M.filter (λm=>decide (Ev.Sub (M.getD a 0) m)&&decide (Ev.Sub (M.getD b 0) m)) ↔ x∈M/\Ev.Sub (M.getD a 0) x/\Ev.Sub (M.getD b 0) x:=λx=>by
  rw[cR];simp
 cases e:M.filter (λm=>decide (Ev.Sub (M.getD a 0) m)&&decide (Ev.Sub (M.getD b 0) m))with
 |nil =>
  obtain⟨t,ht,htop⟩:=L.top;have:=(hin t).mpr ⟨ht,htop _ (Ev.getD_mem ha),htop _ (Ev.getD_mem hb)⟩;rw[e]at this;cases this
 |cons s S =>
  rw[e]at hin;have hs:=(hin s).mp b9;obtain⟨h1,h2,h3,h4⟩:=Ev.Bg L.meet S s (λx hx=>((hin x).mp (ck _ hx)).1) hs.1;refine⟨_,rfl,h1,h4 _ hs.2.1 λx hx=>((hin x).mp (ck _ hx)).2.1,h4 _ hs.2.2 λx hx=>((hin x).mp (ck _ hx)).2.2,λx hx k1 k2=>?_⟩
  rcases bx.mp ((hin x).mpr ⟨hx,k1,k2⟩)with z|z
  ·rw[z];exact h2
  ·exact h3 x z
section
variable {P:Program} {w:World} {K:W.Frag} {mg:Str->Option Value} {base:Heap} {f:Addr} {fd:FuncData}
theorem CW{H:Hp}{m:Addr}{M:List Nat}(h:ag K H m (M.map nV)):ag K H m ((M.map λx:Nat=>(x:Int)).map V.int):=by
 rw[dY];exact h
abbrev Ee:Stmt:=top 67
theorem P_:bh ["_law_masks","_law_a","_law_b"] ["_law_masks","_law_a","_law_b"] (aB Ee):=⟨rfl,rfl,rfl,by decide +kernel,rfl,by decide +kernel,by decide +kernel⟩
def pK(K:W.Frag):Sp:=λvs H Q _=>∃(m a b:Nat) (M:List Nat),vs = [.ref m,.int a,.int b]/\ag K H m (M.map nV)/\Ev.bL M/\a<M.length/\b<M.length/\∀c H',Same H H'->c<M.length->(∀x,Ev.aF M x c=(Ev.aF M x a&&Ev.aF M x b))->Q (.int (c:Nat)) H'
theorem ZR (F:aS K "_law_meet" "_law_meet" Ee f fd) (T:Txt mg):aO P w K mg base aX 1 f fd ["_law_masks","_law_a","_law_b"] (pK K):=by
 refine F.ok P_ (λvs H Q E h=>?_) (λcdv A outer s H vs Q E hr h=>?_)
 ·obtain⟨m,a,b,M,rfl,_⟩:=h
  rfl
 ·obtain⟨m,a,b,M,rfl,hm,L,ha,hb,kk⟩:=h
  have nd:=P_.nd;refine⟨_,(aA (aQ (eV (K:=K) rfl eM kO qh (vi (K:=K) rfl) (pv 0) (ae (aJ jz (aq (aV (K:=K) rfl) (pv 0) (pv 1) (λ_ _=>rfl)) (aq (aV (K:=K) rfl) (pv 0) (pv 2) (λ_ _=>rfl))) ah)))),?_⟩;have hin:=L.meet _ (Ev.getD_mem ha) _ (Ev.getD_mem hb);obtain⟨h1,h2⟩:=uY hin;refine⟨_,rfl,.inl ⟨rfl,_,hm⟩,_,rfl,_,rfl,m,_,a,_,rfl,rfl,hm,aI (eT ha),_,rfl,_,rfl,m,_,b,_,rfl,rfl,hm,aI (eT hb),_,_,rfl,rfl,m,_,_,rfl,rfl,CW hm,?_,?_⟩
  ·rw[kW];exact cS.mpr ⟨_,hin,rfl⟩
  ·rw[kW]
   refine kk _ _ (Same.refl _) h1 λx=>?_;rw[dm,bJ,Ev.dF,Ev.dF,Ev.dF,h2];exact Ev.Sub.yq
abbrev Ed:Stmt:=top 68
theorem P8:bh ["_law_masks","_law_a","_law_b","_law_least","_law_mask"] ["_law_masks","_law_a","_law_b"] (aB Ed):=⟨rfl,rfl,rfl,by decide +kernel,rfl,by decide +kernel,by decide +kernel⟩
def sJ(K:W.Frag):Sp:=λvs H Q _=>∃(m a b:Nat) (M:List Nat),vs = [.ref m,.int a,.int b]/\ag K H m (M.map nV)/\Ev.bL M/\a<M.length/\b<M.length/\∀c H',Same H H'->c<M.length->(∀x,x<M.length->Ev.aF M c x=(Ev.aF M a x&&Ev.aF M b x))->Q (.int (c:Nat)) H'
theorem ZM (F:aS K "_law_join" "_law_join" Ed f fd) (T:Txt mg):aO P w K mg base aX 1 f fd ["_law_masks","_law_a","_law_b"] (sJ K):=by
 refine F.ok P8 (λvs H Q E h=>?_) (λcdv A outer s H vs Q E hr h=>?_)
 ·obtain⟨m,a,b,M,rfl,_⟩:=h
  rfl
 ·obtain⟨m,a,b,M,rfl,hm,L,ha,hb,kk⟩:=h
  have nd:=P8.nd;refine⟨_,(ax (aP (i:=3) nd rfl (Or.inl rfl) (jD jK ak))
   (ax (cH cF rfl (dk (K:=K) rfl (pv 0)) (bf (i:=4) nd rfl (Or.inl rfl))
   (aA (bB (PW.pt (mJ (bu dH (aJ jz (pv 4) (aq (aV (K:=K) rfl) (pv 0) (pv 1) (λ_ _=>rfl))) (aq (aV (K:=K) rfl) (pv 0) (pv 1) (λ_ _=>rfl)) (a_ _)) (mK (bu dH (aJ jz (pv 4) (aq (aV (K:=K) rfl) (pv 0) (pv 2) (λ_ _=>rfl))) (aq (aV (K:=K) rfl) (pv 0) (pv 2) (λ_ _=>rfl)) (a_ _))))) (aA (aP (i:=3) nd rfl (Or.inl rfl) (aJ jz (pv 3) (pv 4)))) bD)))
   (aA (aQ (eV (K:=K) rfl eM kO qh (vi (K:=K) rfl) (pv 0) (ae (pv 3) ah)))))),?_⟩
  obtain⟨j,hj,h1,h2,h3,h4⟩:=XF L ha hb;refine⟨1,rfl,?_⟩;refine⟨_,rfl,m,rfl,⟨_,hm⟩,jr (K:=K) (a:=m) (xs:=M.map nV) (λi σ H2=>∃(v4:Option V) (o:Option Nat),σ = [some (.ref m),some (.int a),some (.int b),some (yo o),v4]/\Same H H2/\o=(M.take i).foldl (kf (M.getD a 0) (M.getD b 0)) none)
   ⟨none,none,rfl,Same.refl _,rfl⟩ (λi σ H2 _ hpq=>by obtain⟨_,_,_,s2,_⟩:=hpq;exact s2.seq hm) ?_ ?_⟩
  ·rintro i y σ H2 hy ⟨v4,o,rfl,s2,ho⟩
   have hi:i<M.length:=by simpa using(bN.mp hy).1
   have ey:y=nV M[i]:=by
    rw[bX,ay hi]at hy;exact(df hy).symm
   subst ey;have hm2:=s2.seq hm;have et:(M.take (i+1)).foldl (kf (M.getD a 0) (M.getD b 0)) none=kf (M.getD a 0) (M.getD b 0) o M[i]:=by
    rw[p8,ay hi];show((M.take i)++[M[i]]).foldl _ _=_;rw[List.foldl_append,<- ho];rfl
   have fin:∀o',o'=kf (M.getD a 0) (M.getD b 0) o M[i]->o'=(M.take (i+1)).foldl (kf (M.getD a 0) (M.getD b 0)) none:=λo' h=>h.trans et.symm;unfold kf at fin;refine⟨_,rfl,_,rfl,_,rfl,m,_,a,_,rfl,rfl,hm2,aI (eT ha),_,_,rfl,rfl,_,rfl,_,rfl,m,_,a,_,rfl,rfl,hm2,aI (eT ha),rfl,_,rfl,?_⟩;rw[QX];refine bq (λh=>?_) (λh=>?_)
   ·refine⟨_,rfl,_,rfl,_,rfl,m,_,b,_,rfl,rfl,hm2,aI (eT hb),_,_,rfl,rfl,_,rfl,_,rfl,m,_,b,_,rfl,rfl,hm2,aI (eT hb),rfl,_,rfl,?_⟩
    rw[QX];refine bq (λh'=>?_) (λh'=>?_)
    ·obtain⟨z,e1,e2⟩:=Si o M[i]
     rw[e1];refine⟨_,rfl,_,rfl,_,_,rfl,rfl,?_⟩;rw[h,h',gO,if_pos rfl]at fin;exact⟨some (nV M[i]),_,by rw[<- e2];rfl,s2,fin _ rfl⟩
    ·rw[h,gO,if_neg h']at fin
     exact⟨_,o,rfl,s2,fin _ rfl⟩
   ·refine bA ?_
    rw[if_neg (λz=>h ((bJ _ _).mp z).1)]at fin;exact⟨_,o,rfl,s2,fin _ rfl⟩
  ·rintro σ H2 ⟨v4,o,rfl,s2,ho⟩
   rw[au,nA,hj]at ho;subst ho;have hm2:=s2.seq hm;obtain⟨k1,k2⟩:=uY h1;refine⟨_,rfl,.inl ⟨rfl,_,hm2⟩,_,rfl,m,_,_,rfl,rfl,CW hm2,cS.mpr ⟨_,h1,rfl⟩,?_⟩;refine kk _ _ s2 k1 λx hx=>?_;rw[dm,bJ,Ev.dF,Ev.dF,Ev.dF,k2];exact⟨λh=>⟨h2.trans h,h3.trans h⟩,λh=>h4 _ (Ev.getD_mem hx) h.1 h.2⟩
end
theorem QZ:∀rs:List Nat,(rs.map λr=>((2 ^ r:Nat):Int)).sum=(((rs.map λr=>2 ^ r).sum:Nat):Int)
 | []=>rfl
 |r::rs=>by
  simp only[cX,List.sum_cons];rw[QZ rs]
  push_cast
  rfl
theorem getD_map{α β:Type}{g:α->β}{l:List α}{i:Nat}{d:α}{e:β}(h:i<l.length):(l.map g).getD i e=g (l.getD i d):=by
 rw[aN,aN,bX,ay h];rfl
theorem range_getD{α β:Type}(g:α->β)(l:List α)(d:α):(List.range l.length).map (λi=>g (l.getD i d))=l.map g:=by
 apply jN
 ·simp
 ·intro i h1 h2
  have h:i<l.length:=by simpa using h1
  simp only[iF,nq];rw[aN,ay h];rfl
abbrev bits:List Nat:=[0,1,1,0,1,0,0,1]
section
variable {P:Program} {w:World} {K:W.Frag} {mg:Str->Option Value} {base:Heap} {f:Addr} {fd:FuncData}
abbrev pJ:Stmt:=top 63
theorem PX:bh ["_law_found","_law_k","_law_rows_here"] [] (aB pJ):=⟨rfl,rfl,rfl,by decide +kernel,rfl,by decide +kernel,by decide +kernel⟩
def Fq:Sp:=λvs H Q _=>vs = []/\∀l H',Same H H'->H l=none->H' l=some (.lst (Ev.Kd.map nV))->Q (.ref l) H'
noncomputable def F0:List Nat:=[1,255]++((List.range 7).map λi=>1 ||| 2 ^ (1+i))
set_option maxHeartbeats 1000000 in
theorem Zv (F:aS K "_law_fields" "_law_fields" pJ f fd) (T:Txt mg):aO P w K mg base aX 1 f fd [] Fq:=by
 refine F.ok PX (λvs H Q E h=>?_) (λcdv A outer s H vs Q E hr h=>?_)
 ·obtain⟨rfl,_⟩:=h
  rfl
 ·obtain⟨rfl,kk⟩:=h
  have nd:=PX.nd;refine⟨_,(ax (aP (i:=0) nd rfl (Or.inl rfl) (aJ fJ (bV (ae ak (ae ak ah))) (c6 (own:=["_law_k"]) (fr:=[]) rfl (cp (aB pJ) ["_law_found","_law_k","_law_rows_here"] rfl rfl (by decide +kernel)) (Dq rfl T.range (ae ak (ae ak ah))) (λ_ _ _ _=>⟨(bf (i:=0) (by decide +kernel:(["_law_k"]:List Str).Nodup) rfl (Or.inl rfl)),c9,(aJ vz ak (aJ pj ak (pv 0)))⟩))))
   (ax (cH cF rfl (Dq rfl T.range (ae ak (ae ak ah))) (bf (i:=1) nd rfl (Or.inr rfl))
   (ax (pB (i:=2) nd rfl rfl (own:=["_law_row"]) (fr:=[("_law_k", 1)]) rfl (cp (aB pJ) ["_law_found","_law_k","_law_rows_here"] rfl rfl (by decide +kernel)) (cM rfl T.range (ae ak ah)) (λ_ _ _ _=>⟨(bf (i:=0) (by decide +kernel:(["_law_row","_law_k"]:List Str).Nodup) rfl (Or.inl rfl)),(kA (bu dH (aq (aV (K:=K) rfl) (bV (pq [0,1,1,0,1,0,0,1] rfl)) (aJ jz (pv 0) (pv 1)) (λ_ _=>rfl)) ak (a_ _))),(pv 0)⟩))
   (aA (dI (eV (K:=K) rfl eM jh jQ iT (pv 0) (ae (aY (Tp (K:=K) rfl rfl) rfl T.sum boot_sum (ae (c6 (own:=["_law_row"]) (fr:=[]) rfl (cp (aB pJ) ["_law_found","_law_k","_law_rows_here"] rfl rfl (by decide +kernel)) (dk (K:=K) rfl (pv 2)) (λ_ _ _ _=>⟨(bf (i:=0) (by decide +kernel:(["_law_row"]:List Str).Nodup) rfl (Or.inl rfl)),c9,(aJ pj ak (pv 0))⟩)) ah)) ah))))))
   (aA (aQ (pv 0))))),?_⟩
  refine⟨by show 2<=sizeLine;decide,λp1 hp1=>?_⟩;refine⟨1,8,rfl,⟨by decide,by decide,by decide,by decide⟩,λD hD=>eQ (λi=>nV (1 ||| 2 ^ (1+i))) src_range hD (by show 7<sizeLine;decide) (λi H2 Kt hi hs hk=>?_) (λH2 hs hl=>?_)⟩
  ·refine⟨_,rfl,_,_,rfl,rfl,⟨by omega,by have:i<7:=hi;omega,by decide⟩,_,_,rfl,rfl,?_⟩
   have e:(1:Int)*2 ^ (1+(i:Int)).toNat=((2 ^ (1+i):Nat):Int):=by
    have e1:(1+(i:Int)).toNat=1+i:=by omega
    rw[e1];push_cast;omega
   dsimp only;rw[e];have e2:Builtin.bitOr (1:Int) ((2 ^ (1+i):Nat):Int)=((1 ||| 2 ^ (1+i):Nat):Int):=vA 1 _;rw[e2];exact hk _ (Same.refl _)
  have h1':H2 p1=some (.lst [.int 1,.int 255]):=hs _ _ av;have s1:Same H H2:=(Same.put hp1).trans hs;refine⟨p1,D,_,_,rfl,rfl,h1',hl,by show 9<=sizeLine;decide,λL hL=>?_⟩;have hL0:H L=none:=s1.free hL;refine⟨1,8,rfl,⟨by decide,by decide,by decide,by decide⟩,fb (lo:=1) (n:=7) (λi σ H3=>∃v1 v2,σ = [some (.ref L),v1,v2]/\Same H H3 /\
   H3 L=some (.lst ((F0++(List.range i).map λk=>(((List.range 8).filter λr=>bits.getD (r&&& (1+k)) 0==0).map λr=>2 ^ r).sum).map nV))) ⟨none,none,rfl,s1.trans (Same.put hL),by rw[av];rfl⟩ ?_ ?_⟩
  ·rintro i σ H3 hi ⟨v1,v2,rfl,s3,hl3⟩
   refine⟨8,rfl,by decide,by decide,λD2 hD2=>jY (λr=>bits.getD (r&&& (1+i)) 0==0) nV src_range hD2 (by show 8<sizeLine;decide) (λj H4 Kt Kf hj hs hkt hkf=>?_) (λH4 gH cL=>?_)⟩
   ·have Wn:j<8:=hj
    refine⟨by show 8<=sizeLine;decide,λq hq=>?_⟩;have eb:Builtin.bitAnd (0+(j:Int)) (1+(i:Int))=((j&&& (1+i):Nat):Int):=by
     rw[ft];exact kW j (1+i)
    have hx:j&&& (1+i)<bits.length:=nB Nat.and_le_left (by show j<8;exact Wn);refine⟨_,rfl,_,rfl,_,_,rfl,rfl,q,bits.map nV,_,nV (bits.getD (j&&& (1+i)) 0),rfl,rfl,ag.of av,?_,rfl,_,rfl,?_⟩
    ·rw[eb]
     exact aI (by rw[bX,ay hx,aN,ay hx];rfl)
    ·have ed:decide (nV (bits.getD (j&&& (1+i)) 0)=V.int 0)=(bits.getD (j&&& (1+i)) 0==0):=by
      rw[dm];simp only[cJ,gR]
      constructor
      ·intro h;injection h with h;omega
      ·intro h;rw[h];rfl
     rw[ed];refine bq (λh=>?_) (λh=>?_)
     ·refine⟨_,rfl,?_⟩
      rw[ft];exact hkt _ h (Same.put hq)
     ·exact hkf _ (by simpa using h) (Same.put hq)
   ·have Li:=gH _ _ hl3
    change H4 D2=some (.lst (((List.range 8).filter λr=>bits.getD (r&&& (1+i)) 0==0).map nV))at cL
    refine⟨_,rfl,.inl ⟨rfl,_,ag.of Li⟩,?_⟩;refine⟨_,rfl,D2,rfl,⟨_,ag.of cL⟩,λD3 lr=>eQ (λj=>.int ((2 ^ (((List.range 8).filter λr=>bits.getD (r&&& (1+i)) 0==0).getD j 0):Nat):Int)) (src_list (ag.of cL)) lr ?_ (λj H5 Kt hj hs hk=>?_) (λH5 ju fE=>?_)⟩
    ·rw[au]
     exact nB (p6 _ _) (by show 8<sizeLine;decide)
    ·have hj':j<((List.range 8).filter λr=>bits.getD (r&&& (1+i)) 0==0).length:=by simpa using hj
     have hr:((List.range 8).filter λr=>bits.getD (r&&& (1+i)) 0==0).getD j 0<8:=by
      rw[aN,ay hj'];have:=(cR.mp (fu hj')).1;simpa using this
     refine⟨_,rfl,_,_,rfl,getD_map (d:=0) hj',⟨by omega,by omega,by decide⟩,?_⟩;have e:(1:Int)*2 ^ ((((List.range 8).filter λr=>bits.getD (r&&& (1+i)) 0==0).getD j 0:Nat):Int).toNat=((2 ^ (((List.range 8).filter λr=>bits.getD (r&&& (1+i)) 0==0).getD j 0):Nat):Int):=by
      rw[dW];push_cast;omega
     dsimp only;rw[e];exact hk _ (Same.refl _)
    ·have en:(((List.range 8).filter λr=>bits.getD (r&&& (1+i)) 0==0).map nV).length=((List.range 8).filter λr=>bits.getD (r&&& (1+i)) 0==0).length:=au _
     rw[en,range_getD (λr=>V.int ((2 ^ r:Nat):Int))]at fE;have el:((List.range 8).filter λr=>bits.getD (r&&& (1+i)) 0==0).map (λr=>V.int ((2 ^ r:Nat):Int))=(((List.range 8).filter λr=>bits.getD (r&&& (1+i)) 0==0).map λr=>((2 ^ r:Nat):Int)).map V.int:=by rw[dY];rfl
     rw[el]at fE;refine⟨D3,_,rfl,ag.of fE,?_,λx hx=>?_,?_⟩
     ·rw[au]
      exact b_ (p6 _ _) (by simp)
     ·obtain⟨r,hr,rfl⟩:=cS.mp hx
      have h8:r<8:=by simpa using(cR.mp hr).1
      have h2:2 ^ r<=2 ^ 8:=Nat.pow_le_pow_right (by decide) (by omega);exact⟨Int.natCast_nonneg _,pR (Int.ofNat_le.mpr h2) (by decide)⟩
     ·rw[QZ]
      refine⟨L,_,_,rfl,rfl,ju _ _ Li,?_,?_⟩
      ·rw[au,cA,au,kJ]
       have:F0.length=9:=rfl;exact c7 (by omega)
      ·refine⟨_,_,rfl,?_,?_⟩
       ·intro b o e
        rw[aG (λz=>by rw[z,hL0]at e;cases e)];exact ju _ _ (gH _ _ (s3 _ _ e))
       ·have er:List.range (i+1)=List.range i++[i]:=jg
        rw[av,er];simp only[gx,cX,tM,je]
  ·rintro σ H3 ⟨v1,v2,rfl,s3,hl3⟩
   exact⟨_,rfl,kk L H3 s3 hL0 hl3⟩
end
theorem uZ(m:Nat):∀F:List Nat,inV (nV m) (F.map nV)=decide (m∈F)
 | []=>by simp[inV]
 |x::r=>by
  have ih:=uZ m r;unfold inV at ih ⊢;rw[cX,pT,ih];have e:jZ (nV x) (nV m)=decide (x=m):=by
   show((x:Int)==(m:Int))=decide (x=m);rw[dm];simp;omega
  rw[e];rw[dm];simp only[G8,cJ,bx]
  constructor
  ·rintro(h|h)
   ·exact .inl h.symm
   ·exact .inr h
  ·rintro(h|h)
   ·exact .inl h.symm
   ·exact .inr h
theorem Ki(F:List Nat):(F.map nV).all j6=true:=by
 rw[fX];intro x hx;obtain⟨y,_,rfl⟩:=cS.mp hx;rfl
structure Fam (F:List Nat):Prop where
 nd:F.Nodup
 lt:∀x∈F,x<16
theorem Fam.len{F:List Nat}(h:Fam F):F.length<=16:=Ev.NB 16 F h.nd h.lt
theorem Fam.snoc{F:List Nat}(h:Fam F){x:Nat}(hx:x<16)(hn:x ∉ F):Fam (F++[x]) where
 nd:=Ho.mpr ⟨h.nd,by simp,λa ha b hb=>by simp at hb;subst hb;exact λe=>hn (e▸ha)⟩
 lt:=λy hy=>by
  rcases gy.mp hy with hy|hy
  ·exact h.lt y hy
  ·simp at hy;subst hy;exact hx
theorem KD{F G:List Nat}{i:Nat}(h:i<F.length):(F++G).getD i 0=F.getD i 0:=by
 rw[aN,aN,jf h]
theorem ux(xs:List V)(k:Nat):bP xs none (some (k:Int))=xs.take k:=by
 unfold bP;rw[HT.vR,HT.vQ,xq,Nat.sub_zero]
 by_cases h:k<=xs.length
 ·rw[Hx h]
 ·rw[Hy (by omega),p9 (by omega),p9 (by omega)]
section
variable {P:Program} {w:World} {K:W.Frag} {mg:Str->Option Value} {base:Heap} {f:Addr} {fd:FuncData}
abbrev Eh:Stmt:=top 59
theorem Qf:bh ["_law_masks","_law_both","_law_found","_law_at","_law_here","_law_there","_law_some","_law_mask"] ["_law_masks","_law_both"] (aB Eh):=⟨rfl,rfl,rfl,by decide +kernel,rfl,by decide +kernel,by decide +kernel⟩
def Gj(K:W.Frag):Sp:=λvs H Q _=>∃(a:Nat) (M:List Nat) (c:Bool),vs = [.ref a,.bl c]/\H a=some (.lst (M.map nV))/\Fam M/\15∈M/\∀l M' H',Same H H'->H l=none->H' l=some (.lst (M'.map nV))->Ev.bL M'->Q (.ref l) H'
structure ud (M F:List Nat) (k:Nat):Prop where
 fam:Fam F
 sub:∀x∈M,x∈F
 cl:∀i j,i<j->j<k->F.getD i 0&&& F.getD j 0∈F
theorem ud.lat{M F:List Nat}(h:ud M F F.length)(h15:15∈M):Ev.bL F where
 nd:=h.fam.nd
 len:=b_ h.fam.len (by decide)
 meet:=λx hx y hy=>by
  obtain⟨i,hi,rfl⟩:=Ev.uG hx;obtain⟨j,hj,rfl⟩:=Ev.uG hy
  rcases Nat.lt_trichotomy i j with q|q|q
  ·exact h.cl i j q hj
  ·subst q;rw[xH];exact hx
  ·rw[xG];exact h.cl j i q hi
 top:=⟨15,h.sub 15 h15,λx hx=>by
  have hlt:=h.fam.lt x hx;have:∀y:Nat,y<16->Ev.Sub y 15:=by decide
  exact this x hlt⟩
theorem Z_ (F:aS K "_law_shut" "_law_shut" Eh f fd) (T:Txt mg):aO P w K mg base aX 1 f fd ["_law_masks","_law_both"] (Gj K):=by
 refine F.ok Qf (λvs H Q E h=>?_) (λcdv A outer s H vs Q E hr h=>?_)
 ·obtain⟨a,M,c,rfl,_⟩:=h
  rfl
 ·obtain⟨a,M,c,rfl,ha,hM,h15,kk⟩:=h
  have nd:=Qf.nd;refine⟨_,(ax (aP (i:=2) nd rfl (Or.inl rfl) (fL (oA (K:=K) rfl) rfl T.list jW (ae (pv 0) ah)))
   (ax (aP (i:=3) nd rfl (Or.inl rfl) ak)
   (ax (aa7 cF (bu pe (pv 3) (aY (cI (K:=K) rfl) rfl T.len cT (ae (pv 2) ah)) (a_ _))
   (ax (aP (i:=4) nd rfl (Or.inl rfl) (aq (aV (K:=K) rfl) (pv 2) (pv 3) (λ_ _=>rfl)))
   (ax (cH cF rfl (dk (K:=K) rfl (eL (fk (K:=K) rfl) (pv 2) fh (dS (pv 3)))) (bf (i:=5) nd rfl (Or.inl rfl))
   (ax (aP (i:=6) nd rfl (Or.inl rfl) (aJ fJ (bV (ae (aJ jz (pv 4) (pv 5)) ah)) (aJ N8 (bV (ae (aJ vz (pv 4) (pv 5)) ah)) (fL Jm rfl T.int uh (ae (pv 1) ah)))))
   (aA (cH cF rfl (dk (K:=K) rfl (pv 6)) (bf (i:=7) nd rfl (Or.inl rfl))
   (aA (bB (bu (aaq (K:=K) rfl) (pv 7) (pv 2) (by with_unfolding_all rfl)) (aA (dI (eV (K:=K) rfl eM jh jQ iT (pv 2) (ae (pv 7) ah)))) bD))))))
   (aA (aP (i:=3) nd rfl (Or.inl rfl) (aJ dG (pv 3) ak))))))
   (aA (aQ (pv 2)))))),?_⟩
  refine⟨_,rfl,a,_,rfl,.inl (ag.of ha),λL hL=>?_⟩;refine⟨λm σ H2=>∃(k:Nat) (G:List Nat) (v4 v5 v6 v7:Option V),m=17 - k/\k<=G.length/\σ = [some (.ref a),some (.bl c),some (.ref L),some (.int k),v4,v5,v6,v7]/\Same H H2/\H2 L=some (.lst (G.map nV))/\ud M G k,
   ⟨17,0,M,none,none,none,none,rfl,eD _,rfl,Same.put hL,av,hM,λx hx=>hx,λi j _ h=>absurd h (xJ _)⟩,?_⟩
  rintro m σ H2 ⟨k,G,v4,v5,v6,v7,hm,hk,rfl,s2,hl,S⟩;have hG:=S.fam.len;refine⟨_,rfl,_,rfl,L,_,rfl,.inl (ag.of hl),_,_,rfl,rfl,_,rfl,bq (λh=>?_) (λh=>?_)⟩
  ·rw[cJ,au]at h
   have BW:k<G.length:=by omega
   refine⟨λσ' H'=>∃(G:List Nat) (v4 v5 v6 v7:Option V),k+1<=G.length/\σ' = [some (.ref a),some (.bl c),some (.ref L),some (.int ((k:Int)+1)),v4,v5,v6,v7]/\Same H H'/\H' L=some (.lst (G.map nV))/\ud M G (k+1),
    λσ' H' hpq=>by obtain⟨G,v4,v5,v6,v7,h1,h2,h3,h4,h5⟩:=hpq;exact⟨17 - (k+1),by omega,k+1,G,v4,v5,v6,v7,rfl,h1,by rw[h2];push_cast;rfl,h3,h4,h5⟩,?_⟩
   refine⟨_,rfl,_,rfl,L,_,k,nV (G.getD k 0),rfl,rfl,ag.of hl,aI (by rw[bX,ay BW,aN,ay BW];rfl),?_⟩;refine⟨_,rfl,_,rfl,k,rfl,L,_,rfl,ag.of hl,λq hq=>?_⟩;rw[ux];have oN:q≠L:=λe=>by rw[e,hl]at hq;cases hq
   have Wi:∀i,i<k->G.getD i 0<16:=λi hi=>S.fam.lt _ (Ev.getD_mem (by omega));have Lg:G.getD k 0<16:=S.fam.lt _ (Ev.getD_mem BW);refine⟨q,rfl,⟨_,ag.of av⟩,jr (K:=K) (a:=q) (xs:=(G.map nV).take k) (λt σ H3=>∃(X:List Nat) (v5 v6 v7:Option V),σ = [some (.ref a),some (.bl c),some (.ref L),some (.int k),some (nV (G.getD k 0)),v5,v6,v7] /\
    Same H H3/\H3 q=some (.lst ((G.map nV).take k))/\H3 L=some (.lst ((G++X).map nV))/\Fam (G++X)/\∀i,i<t->G.getD i 0&&& G.getD k 0∈G++X) ?_ ?_ ?_ ?_⟩
   ·refine⟨[],v5,v6,v7,rfl,s2.trans (Same.put hq),av,?_,by simpa using S.fam,λi h=>absurd h (xJ _)⟩
    rw[aG (bQ oN),h_];exact hl
   ·rintro i σ H3 _ ⟨X,v5,v6,v7,_,_,h3,_⟩
    exact ag.of h3
   ·rintro t y σ H3 hi ⟨X,v5,v6,v7,rfl,s3,Lq,hl3,fam,cl⟩
    have htk:t<k:=by
     have:=(bN.mp hi).1;rw[kK,au]at this;omega
    have ey:y=nV (G.getD t 0):=by
     rw[RZ htk,bX,ay (show t<G.length by omega)]at hi;rw[aN,ay (show t<G.length by omega)];exact(df hi).symm
    subst ey;have hlt:=Wi t htk;have a16:G.getD k 0&&& G.getD t 0<16:=nB Nat.and_le_left Lg;have Za:G.getD k 0 ||| G.getD t 0<16:=Nat.or_lt_two_pow (n:=4) Lg hlt
    refine⟨_,rfl,_,rfl,_,_,rfl,rfl,by show 1<=sizeLine;decide,λp1 hp1=>?_⟩;refine⟨_,rfl,_,rfl,_,_,rfl,rfl,by show 1<=sizeLine;decide,λp2 hp2=>?_⟩;refine⟨_,rfl,.inr ⟨c,rfl,?_⟩⟩;have hb:(if c=true then(1:Int)else 0)=1\/(if c=true then(1:Int)else 0)=0:=by cases c<;>simp
    refine⟨p2,_,_,rfl,rfl,av,by rcases hb with e|e<;>rw[e]<;>decide,by rcases hb with e|e<;>rw[e]<;>decide,?_,λp3 hp3=>?_⟩
    ·rcases hb with e|e<;>rw[e]
     ·show 1*1<=sizeLine;decide
     ·show 1*0<=sizeLine;decide
    have eA:V.int (Builtin.bitAnd (G.getD k 0:Nat) (G.getD t 0:Nat))=nV (G.getD k 0&&& G.getD t 0):=by rw[kW]
    have eO:V.int (Builtin.bitOr (G.getD k 0:Nat) (G.getD t 0:Nat))=nV (G.getD k 0 ||| G.getD t 0):=by rw[vA]
    refine⟨p1,p3,_,_,rfl,rfl,Same.put hp3 _ _ (Same.put hp2 _ _ av),av,?_,λp4 cD=>?_⟩
    ·rcases hb with e|e<;>rw[e]
     ·show 1+1<=sizeLine;decide
     ·show 1+0<=sizeLine;decide
    have lG:Same H3 (upd (upd (upd H3 p1 (.lst [V.int (Builtin.bitAnd (G.getD k 0:Nat) (G.getD t 0:Nat))])) p2 (.lst [V.int (Builtin.bitOr (G.getD k 0:Nat) (G.getD t 0:Nat))])) p3 (.lst (List.replicate (if c=true then(1:Int)else 0).toNat [V.int (Builtin.bitOr (G.getD k 0:Nat) (G.getD t 0:Nat))]).flatten)):=
     ((Same.put hp1).trans (Same.put hp2)).trans (Same.put hp3)
    have s4:=lG.trans (Same.put cD (o:=.lst ([V.int (Builtin.bitAnd (G.getD k 0:Nat) (G.getD t 0:Nat))]++(List.replicate (if c=true then(1:Int)else 0).toNat [V.int (Builtin.bitOr (G.getD k 0:Nat) (G.getD t 0:Nat))]).flatten)));obtain⟨SM,V3,hsub,hand⟩:∃SM:List Nat,[V.int (Builtin.bitAnd (G.getD k 0:Nat) (G.getD t 0:Nat))]++(List.replicate (if c=true then(1:Int)else 0).toNat [V.int (Builtin.bitOr (G.getD k 0:Nat) (G.getD t 0:Nat))]).flatten=SM.map nV /\
      (∀x∈SM,x<16)/\G.getD k 0&&& G.getD t 0∈SM:=by
     rw[eA,eO];have two:∀x∈[G.getD k 0&&& G.getD t 0,G.getD k 0 ||| G.getD t 0],x<16:=by
      intro x hx;simp only[bx,fz,fK]at hx
      rcases hx with rfl|rfl
      ·exact a16
      ·exact Za
     clear hb cD lG s4 hp3;cases c with
     |true=>exact⟨[G.getD k 0&&& G.getD t 0,G.getD k 0 ||| G.getD t 0],rfl,two,b9⟩
     |false=>exact⟨[G.getD k 0&&& G.getD t 0],rfl,(λx hx=>two x (by simp only[bx,fz,fK]at hx ⊢;exact .inl hx)),b9⟩
    generalize hB:upd _ p4 _=B at s4 ⊢;have Lp:B p4=some (.lst (SM.map nV)):=by rw[<- hB,av,V3]
    have V0:L≠p4:=λe=>by
     have:=lG _ _ hl3;rw[e]at this;rw[this]at cD;cases cD
    have adD:q≠L:=oN;refine⟨_,rfl,p4,rfl,⟨_,ag.of Lp⟩,jr (K:=K) (a:=p4) (xs:=SM.map nV) (λu σ H4=>∃(Y:List Nat) (v7:Option V),σ = [some (.ref a),some (.bl c),some (.ref L),some (.int k),some (nV (G.getD k 0)),some (nV (G.getD t 0)),some (.ref p4),v7] /\
     Same H H4/\H4 q=some (.lst ((G.map nV).take k))/\H4 p4=some (.lst (SM.map nV))/\H4 L=some (.lst ((G++Y).map nV))/\Fam (G++Y)/\(∀x∈G++X,x∈G++Y)/\∀x∈SM.take u,x∈G++Y)
     ⟨X,v7,rfl,s3.trans s4,s4 _ _ Lq,Lp,s4 _ _ hl3,fam,λx hx=>hx,λx hx=>by simp at hx⟩ (λi σ H4 _ hpq=>by obtain⟨Y,v7,_,_,_,h4,_⟩:=hpq;exact ag.of h4) ?_ ?_⟩
    ·rintro u y σ H4 hu ⟨Y,v7,rfl,vO,uU,B_,cL,qK,wK,rF⟩
     have jv:u<SM.length:=by simpa using(bN.mp hu).1
     have ey:y=nV SM[u]:=by
      rw[bX,ay jv]at hu;exact(df hu).symm
     subst ey;have et:SM.take (u+1)=SM.take u++[SM[u]]:=by rw[p8,ay jv];rfl
     refine⟨_,rfl,_,rfl,L,_,rfl,.inl (ag.of cL),rfl,Ki _,_,rfl,bq (λh=>?_) (λh=>?_)⟩
     ·rw[if_pos rfl,uZ]at h
      have hn:SM[u] ∉ G++Y:=by simpa using h
      refine⟨_,rfl,.inl ⟨rfl,_,ag.of cL⟩,_,rfl,L,_,_,rfl,rfl,cL,?_,?_⟩
      ·rw[au];exact c7 (b_ qK.len (by decide))
      ·have Ka:=qK.snoc (hsub _ (fu jv)) hn
       rw[je]at Ka;refine⟨Y++[SM[u]],_,rfl,?_,?_,?_,?_,Ka,λx hx=>?_,λx hx=>?_⟩
       ·intro b o e
        rw[aG (λz=>by rw[z,hL]at e;cases e)];exact vO _ _ e
       ·rw[aG oN];exact uU
       ·rw[aG (bQ V0)];exact B_
       ·rw[av,<- je,gx (l₁:=G++Y)];rfl
       ·rw[<- je];exact kL _ (wK x hx)
       ·rw[et]at hx
        rw[<- je]
        rcases gy.mp hx with hx|hx
        ·exact kL _ (rF x hx)
        ·exact gB _ hx
     ·rw[if_pos rfl,uZ]at h
      have hn:SM[u]∈G++Y:=by
       apply G_
       intro z;exact h (by rw[cx z];rfl)
      refine⟨Y,_,rfl,vO,uU,B_,cL,qK,wK,λx hx=>?_⟩;rw[et]at hx
      rcases gy.mp hx with hx|hx
      ·exact rF x hx
      ·simp at hx;subst hx;exact hn
    ·rintro σ H4 ⟨Y,v7,rfl,vO,uU,B_,cL,qK,wK,rF⟩
     rw[au,nA]at rF;refine⟨Y,_,_,_,rfl,vO,uU,cL,qK,λi hi=>?_⟩
     by_cases e:i=t
     ·subst e;rw[xG];exact rF _ hand
     ·exact wK _ (cl i (by omega))
   ·rintro σ H3 ⟨X,v5,v6,v7,rfl,s3,Lq,hl3,fam,cl⟩
    have hlen:((G.map nV).take k).length=k:=by rw[kK,au];omega
    rw[hlen]at cl;refine⟨_,rfl,_,_,rfl,rfl,G++X,_,_,_,_,?_,rfl,s3,hl3,fam,λx hx=>kL _ (S.sub x hx),λi j hij hj=>?_⟩
    ·rw[cA];omega
    ·rw[KD (show i<G.length by omega),KD (show j<G.length by omega)]
     by_cases e:j=k
     ·subst e;exact cl i hij
     ·exact kL _ (S.cl i j hij (by omega))
  ·rw[cJ,au]at h
   have ek:k=G.length:=by omega
   subst ek;exact⟨_,rfl,kk L G H2 s2 hL hl (S.lat h15)⟩
end
theorem gU(x:Int)(k:Nat)(hk:0<k):∃r:Nat,r<k/\x % (k:Int)=(r:Int):=
 ⟨(x % (k:Int)).toNat,by have h1:=m_ x (show(k:Int)≠0 by omega);have h2:=sZ x (show(0:Int)<k by omega);omega,by have h1:=m_ x (show(k:Int)≠0 by omega);omega⟩
theorem uB:∀r,r<5->Ev.gX (1+r)≠[]/\(Ev.gX (1+r)).length<=100/\∀x∈Ev.gX (1+r),x<2 ^ 40:=by decide +kernel
theorem Yi:∀a,a<5->∀b,b<5->Ev.mS (Ev.gX (1+a)) (Ev.gX (1+b)) 10≠[]/\(Ev.mS (Ev.gX (1+a)) (Ev.gX (1+b)) 10).length<=100:=by decide +kernel
theorem Dz:∀r,r<6->(Ev.hW (1+r)).length<=100/\∀x∈Ev.hW (1+r),x<2 ^ 40:=by decide +kernel
theorem abG:∀r,r<2->Ev.lC r≠[]/\(Ev.lC r).length<=100/\∀x∈Ev.lC r,x<2 ^ 40:=by decide +kernel
section
variable {P:Program} {w:World} {K:W.Frag} {mg:Str->Option Value} {base:Heap} {f:Addr} {fd:FuncData}
abbrev wd:Stmt:=top 64
theorem P9:bh ["_law_draws_here","_law_family","_law_way","_law_one","_law_other","_law_some","_law_lower","_law_row","_law_ring"] ["_law_draws_here","_law_family"] (aB wd):=⟨rfl,rfl,rfl,by decide +kernel,rfl,by decide +kernel,by decide +kernel⟩
def FG(K:W.Frag):Sp:=λvs H Q _=>∃(a:Nat) (ns:List Int) (fam:Int),vs = [.ref a,.int fam]/\H a=some (.lst (ns.map V.int))/\ns.length=8/\∀l M H',Same H H'->H l=none->H' l=some (.lst (M.map nV))->Ev.bL M->Q (.ref l) H'
set_option maxHeartbeats 0 in
theorem ZN (F:aS K "_law_kind" "_law_kind" wd f fd) (T:Txt mg) (ot:aC P w K mg base "_law_flower" ["_law_many"] 1 Fu) (qz:aC P w K mg base "_law_stack" ["_law_one","_law_other","_law_places"] 1 (Gk K))
  (yH:aC P w K mg base "_law_fields" [] 1 Fq) (qy:aC P w K mg base "_law_beside" ["_law_one","_law_other"] 1 (Fh K)) (yP:aC P w K mg base "_law_shut" ["_law_masks","_law_both"] 1 (Gj K)) :
  aO P w K mg base aX 2 f fd ["_law_draws_here","_law_family"] (FG K):=by
 refine F.ok P9 (λvs H Q E h=>?_) (λcdv A outer s H vs Q E hr h=>?_)
 ·obtain⟨a,ns,fam,rfl,_⟩:=h
  rfl
 ·obtain⟨a,ns,fam,rfl,ha,hlen,kk⟩:=h
  have nd:=P9.nd;obtain⟨d0,d1,d2,d3,d4,d5,d6,d7,rfl⟩:∃d0 d1 d2 d3 d4 d5 d6 d7,ns = [d0,d1,d2,d3,d4,d5,d6,d7]:=by
   match ns,hlen with
   | [d0,d1,d2,d3,d4,d5,d6,d7],_=>exact⟨_,_,_,_,_,_,_,_,rfl⟩
  obtain⟨r1,hr1,e1⟩:=gU d1 5 (by decide);obtain⟨r2,hr2,e2⟩:=gU d2 5 (by decide);obtain⟨UW,U0,f1c⟩:=uB r1 hr1;obtain⟨f2a,J9,J_⟩:=uB r2 hr2;refine⟨_,(ax (aP (i:=2) nd rfl (Or.inl rfl) (aJ cU (aq (aV (K:=K) rfl) (pv 0) ak (λ_ _=>rfl)) ak))
   (ax (aP (i:=3) nd rfl (Or.inl rfl) (aL ot hr rfl (ae (aJ dG ak (aJ cU (aq (aV (K:=K) rfl) (pv 0) ak (λ_ _=>rfl)) ak)) ah)))
   (ax (aP (i:=4) nd rfl (Or.inl rfl) (aL ot hr rfl (ae (aJ dG ak (aJ cU (aq (aV (K:=K) rfl) (pv 0) ak (λ_ _=>rfl)) ak)) ah)))
   (ax (bB (bu dH (pv 2) ak (a_ _)) (ax (aP (i:=6) nd rfl (Or.inl rfl) (aL qz hr rfl (ae (pv 3) (ae (pv 4) (ae ak ah (ao nofun)) (ao nofun)) (ao nofun))))
   (aA (aQ (aL qz hr rfl (ae (pv 6) (ae (aL ot hr rfl (ae (aJ dG ak (aJ cU (aq (aV (K:=K) rfl) (pv 0) ak (λ_ _=>rfl)) ak)) ah)) (ae ak ah (ao nofun)) (ao nofun)) (ao nofun)))))) bD)
   (ax (bB (bu dH (pv 2) ak (a_ _)) (aA (aQ (aaE yH hr rfl))) bD)
   (ax (bB (bu dH (pv 2) ak (a_ _)) (ax (aP (i:=7) nd rfl (Or.inl rfl) (eL (fk (K:=K) rfl) (bV (pq [0,1,3,7] rfl)) fh (dS (aJ dG ak (aJ cU (aq (aV (K:=K) rfl) (pv 0) ak (λ_ _=>rfl)) ak)))))
   (ax (bB (bu dH (aJ cU (aq (aV (K:=K) rfl) (pv 0) ak (λ_ _=>rfl)) ak) ak (a_ _)) (aA (aQ (aL qy hr rfl (ae (pv 7) (ae (eL (fk (K:=K) rfl) (bV (pq [0,1,3,7,15,31] rfl)) fh (dS (aJ dG ak (aJ cU (aq (aV (K:=K) rfl) (pv 0) ak (λ_ _=>rfl)) ak)))) ah))))) bD)
   (aA (aQ (aL qy hr rfl (ae (pv 7) (ae (aL ot hr rfl (ae (aJ dG ak (aJ cU (aq (aV (K:=K) rfl) (pv 0) ak (λ_ _=>rfl)) ak)) ah)) ah))))))) bD)
   (ax (bB (bu dH (pv 2) ak (a_ _)) (ax (aP (i:=8) nd rfl (Or.inl rfl) (aq (aV (K:=K) rfl) (bV (ae (bV (pq [0,1,2,6,7] rfl)) (ae (bV (pq [0,1,3,4,12,15] rfl)) ah))) (aJ cU (aq (aV (K:=K) rfl) (pv 0) ak (λ_ _=>rfl)) ak) (λ_ _=>rfl)))
   (ax (bB (bu dH (aJ cU (aq (aV (K:=K) rfl) (pv 0) ak (λ_ _=>rfl)) ak) ak (a_ _)) (aA (aQ (aL qy hr rfl (ae (eL (fk (K:=K) rfl) (bV (pq [0,1,3,7] rfl)) fh (dS (aJ dG ak (aJ cU (aq (aV (K:=K) rfl) (pv 0) ak (λ_ _=>rfl)) ak)))) (ae (pv 8) ah))))) bD)
   (aA (aQ (aL qz hr rfl (ae (pv 8) (ae (pv 4) (ae ak ah (ao nofun)) (ao nofun)) (ao nofun))))))) bD)
   (ax (pB (i:=5) nd rfl rfl (own:=["_law_k"]) (fr:=[("_law_family", 1)]) rfl (cp (aB wd) ["_law_draws_here","_law_family","_law_way","_law_one","_law_other","_law_some","_law_lower","_law_row","_law_ring"] rfl rfl (by decide +kernel)) (cM rfl T.range (ae ak ah)) (λ_ _ _ _=>⟨(bf (i:=0) (by decide +kernel:(["_law_k","_law_family"]:List Str).Nodup) rfl (Or.inl rfl)),(kA (bu dH (aJ jz (aJ N9 (pv 1) (pv 0)) ak) ak (a_ _))),(pv 0)⟩))
   (aA (aQ (aL yP hr rfl (ae (aJ fJ (bV (ae ak ah)) (pv 5)) (ae (gj (N5 (K:=K) rfl) (pv 2) (gJ (ae ak (ae ak ah))) (by with_unfolding_all rfl)) ah))))))))))))),?_⟩
  refine⟨_,rfl,a,_,0,_,rfl,rfl,ag.of ha,rfl,_,_,rfl,rfl,(by show(0:Int)<8;decide),?_⟩;refine⟨_,rfl,a,_,1,_,rfl,rfl,ag.of ha,rfl,_,_,rfl,rfl,(by show(0:Int)<5;decide),_,_,rfl,rfl,1+r1,by rw[show d1 % 5=(r1:Int)from e1];simp,by omega,by omega,λo1 H1 s1 ho1 q1=>?_⟩;refine⟨_,rfl,a,_,2,_,rfl,rfl,ag.of (s1 _ _ ha),rfl,_,_,rfl,rfl,(by show(0:Int)<5;decide),_,_,rfl,rfl,1+r2,by rw[show d2 % 5=(r2:Int)from e2];simp,by omega,by omega,λo2 H2 s2 ho2 q2=>?_⟩;have da:=s1.trans s2;have ha2:=da _ _ ha;have q12:=s2 _ _ q1;refine⟨_,rfl,rfl,_,rfl,bq (λ_=>?_) (λ_=>?_)⟩
  ·obtain⟨r3,WN,e3⟩:=gU d3 4 (by decide)
   obtain⟨U1,zy,zz⟩:=uB r3 (by omega);obtain⟨l1,l2⟩:=Yi r1 hr1 r2 hr2;refine⟨_,rfl,_,rfl,o1,o2,10,_,_,rfl,q12,q2,UW,U0,J9,J_,by decide,λo3 H3 s3 Lk q3=>?_⟩;refine⟨_,rfl,_,rfl,a,_,3,_,rfl,rfl,ag.of (s3 _ _ ha2),rfl,_,_,rfl,rfl,(by show(0:Int)<4;decide),_,_,rfl,rfl,1+r3,by rw[show d3 % 4=(r3:Int)from e3];simp,by omega,by omega,λo4 H4 s4 WD q4=>?_⟩;refine⟨o3,o4,20,_,_,rfl,s4 _ _ q3,q4,l1,l2,zy,zz,by decide,λo5 H5 s5 iO q5=>?_⟩;have hX:=(da.trans s3).trans s4;exact kk o5 _ H5 (hX.trans s5) (hX.free iO) q5 (Ev.X8 r1 hr1 r2 hr2 r3 WN)
  refine⟨_,rfl,rfl,_,rfl,bq (λ_=>?_) (λ_=>?_)⟩
  ·exact⟨rfl,λo3 H3 s3 Lk q3=>kk o3 _ H3 (da.trans s3) (da.free Lk) q3 Ev.X9⟩
  refine⟨_,rfl,rfl,_,rfl,bq (λ_=>?_) (λ_=>?_)⟩
  ·obtain⟨t1,ht1,g1⟩:=gU d1 4 (by decide)
   have U9:1+d1 % 4=((1+t1:Nat):Int):=by rw[show d1 % 4=(t1:Int)from g1];push_cast;rfl
   obtain⟨w1,w2⟩:=Dz t1 (by omega);refine⟨by show 4<=sizeLine;decide,λp1 hp1=>?_⟩;refine⟨_,rfl,a,_,1,_,rfl,rfl,ag.of (Same.put hp1 _ _ ha2),rfl,_,_,rfl,rfl,(by show(0:Int)<4;decide),_,_,rfl,rfl,_,rfl,p1,_,rfl,ag.of av,λp2 hp2=>?_⟩;have er:bP (([0,1,3,7]:List Int).map V.int) none (some (1+d1 % 4))=(Ev.hW (1+t1)).map nV:=by
    rw[U9,ux];have:∀t,t<4->(([0,1,3,7]:List Int).map V.int).take (1+t)=(Ev.hW (1+t)).map nV:=by decide
    exact this t1 ht1
   rw[er];generalize hB:upd _ p2 _=B;have sB:Same H2 B:=by rw[<- hB];exact(Same.put hp1).trans (Same.put hp2)
   have hrow:B p2=some (.lst ((Ev.hW (1+t1)).map nV)):=by rw[<- hB,av]
   have lF:=da.trans sB;refine⟨_,rfl,a,_,3,_,rfl,rfl,ag.of (sB _ _ ha2),rfl,_,_,rfl,rfl,(by show(0:Int)<2;decide),rfl,_,rfl,bq (λ_=>?_) (λ_=>?_)⟩
   ·obtain⟨t2,lu,g2⟩:=gU d2 6 (by decide)
    have qM:1+d2 % 6=((1+t2:Nat):Int):=by rw[show d2 % 6=(t2:Int)from g2];push_cast;rfl
    obtain⟨w3,w4⟩:=Dz t2 lu;refine⟨_,rfl,by show 6<=sizeLine;decide,λp3 hp3=>?_⟩;refine⟨_,rfl,a,_,2,_,rfl,rfl,ag.of (Same.put hp3 _ _ (sB _ _ ha2)),rfl,_,_,rfl,rfl,(by show(0:Int)<6;decide),_,_,rfl,rfl,_,rfl,p3,_,rfl,ag.of av,λp4 cD=>?_⟩;have Ut:bP (([0,1,3,7,15,31]:List Int).map V.int) none (some (1+d2 % 6))=(Ev.hW (1+t2)).map nV:=by
     rw[qM,ux];have:∀t,t<6->(([0,1,3,7,15,31]:List Int).map V.int).take (1+t)=(Ev.hW (1+t)).map nV:=by decide
     exact this t2 lu
    rw[Ut];refine⟨p2,p4,_,_,rfl,Same.put cD _ _ (Same.put hp3 _ _ hrow),av,w1,w3,w4,λo5 H5 s5 iO q5=>?_⟩;have hX:=(lF.trans (Same.put hp3)).trans ((Same.put cD).trans s5);refine kk o5 _ H5 hX (Same.free ?_ iO) q5 (Ev.X_ t1 ht1 t2 lu);exact(lF.trans (Same.put hp3)).trans (Same.put cD)
   ·obtain⟨t2,lu,g2⟩:=gU d2 4 (by decide)
    obtain⟨U1,zy,zz⟩:=uB t2 (by omega);refine⟨_,rfl,_,rfl,a,_,2,_,rfl,rfl,ag.of (sB _ _ ha2),rfl,_,_,rfl,rfl,(by show(0:Int)<4;decide),_,_,rfl,rfl,1+t2,by rw[show d2 % 4=(t2:Int)from g2];simp,by omega,by omega,λo4 H4 s4 WD q4=>?_⟩;refine⟨p2,o4,_,_,rfl,s4 _ _ hrow,q4,w1,zy,zz,λo5 H5 s5 iO q5=>?_⟩;have hX:=lF.trans s4;exact kk o5 _ H5 (hX.trans s5) (hX.free iO) q5 (Ev.Ya t1 ht1 t2 lu)
  refine⟨_,rfl,rfl,_,rfl,bq (λ_=>?_) (λ_=>?_)⟩
  ·obtain⟨t1,ht1,g1⟩:=gU d1 2 (by decide)
   obtain⟨y1,y2,y3⟩:=abG t1 ht1;refine⟨by show 5<=sizeLine;decide,λp1 hp1=>⟨by show 6<=sizeLine;decide,λp2 hp2=>⟨by show 2<=sizeLine;decide,λp3 hp3=>?_⟩⟩⟩;generalize hB:upd (upd (upd H2 p1 _) p2 _) p3 _=B;have sB:Same H2 B:=by rw[<- hB];exact((Same.put hp1).trans (Same.put hp2)).trans (Same.put hp3)
   have h3:B p3=some (.lst [.ref p1,.ref p2]):=by rw[<- hB,av]
   have h1:B p1=some (.lst ((Ev.lC 0).map nV)):=by rw[<- hB];exact Same.put hp3 _ _ (Same.put hp2 _ _ av)
   have h2:B p2=some (.lst ((Ev.lC 1).map nV)):=by rw[<- hB];exact Same.put hp3 _ _ av
   obtain⟨pr,hpr,Lr⟩:∃pr,eN [V.ref p1,V.ref p2] (t1:Int)=some (.ref pr)/\B pr=some (.lst ((Ev.lC t1).map nV)):=by
    match t1,ht1 with
    |0,_=>exact⟨p1,rfl,h1⟩
    |1,_=>exact⟨p2,rfl,h2⟩
   have lF:=da.trans sB;refine⟨_,rfl,a,_,1,_,rfl,rfl,ag.of (sB _ _ ha2),rfl,_,_,rfl,rfl,(by show(0:Int)<2;decide),p3,_,_,.ref pr,rfl,rfl,ag.of h3,by rw[show d1 % 2=(t1:Int)from g1];exact hpr,?_⟩;refine⟨_,rfl,a,_,3,_,rfl,rfl,ag.of (sB _ _ ha2),rfl,_,_,rfl,rfl,(by show(0:Int)<2;decide),rfl,_,rfl,bq (λ_=>?_) (λ_=>?_)⟩
   ·obtain⟨t2,lu,g2⟩:=gU d2 4 (by decide)
    have qM:1+d2 % 4=((1+t2:Nat):Int):=by rw[show d2 % 4=(t2:Int)from g2];push_cast;rfl
    obtain⟨w1,w2⟩:=Dz t2 (by omega);refine⟨by show 4<=sizeLine;decide,λp4 cD=>?_⟩;refine⟨_,rfl,a,_,2,_,rfl,rfl,ag.of (Same.put cD _ _ (sB _ _ ha2)),rfl,_,_,rfl,rfl,(by show(0:Int)<4;decide),_,_,rfl,rfl,_,rfl,p4,_,rfl,ag.of av,λp5 gZ=>?_⟩;have er:bP (([0,1,3,7]:List Int).map V.int) none (some (1+d2 % 4))=(Ev.hW (1+t2)).map nV:=by
     rw[qM,ux];have:∀t,t<4->(([0,1,3,7]:List Int).map V.int).take (1+t)=(Ev.hW (1+t)).map nV:=by decide
     exact this t2 lu
    rw[er];refine⟨_,rfl,p5,pr,_,_,rfl,av,Same.put gZ _ _ (Same.put cD _ _ Lr),w1,y2,y3,λo5 H5 s5 iO q5=>?_⟩;have hX:=(lF.trans (Same.put cD)).trans ((Same.put gZ).trans s5);refine kk o5 _ H5 hX (Same.free ?_ iO) q5 (Ev.Yb t2 lu t1 ht1);exact(lF.trans (Same.put cD)).trans (Same.put gZ)
   ·refine⟨_,rfl,_,rfl,pr,o2,10,_,_,rfl,Lr,sB _ _ q2,y1,y2,J9,J_,by decide,λo5 H5 s5 iO q5=>?_⟩
    exact kk o5 _ H5 (lF.trans s5) (lF.free iO) q5 (Ev.Yc r2 hr2 t1 ht1)
  refine⟨15,rfl,by decide,by decide,λD hD=>jY (λj=>decide (V.int (Builtin.bitAnd (fam / 2 ^ (0+(j:Int)).toNat) 1)=V.int 1)) nV src_range hD (by show 15<sizeLine;decide) (λj H3 Kt Kf hj hs hkt hkf=>?_) (λH3 hs3 hl3=>?_)⟩
  ·refine⟨_,rfl,_,rfl,_,_,rfl,rfl,by omega,_,_,rfl,rfl,rfl,_,rfl,bq (λh=>?_) (λh=>?_)⟩
   ·refine⟨_,rfl,?_⟩
    rw[ft];exact hkt _ h (Same.refl _)
   ·exact hkf _ (by simpa using h) (Same.refl _)
  ·change H3 D=some (.lst (((List.range 15).filter λj:Nat=>decide (V.int (Builtin.bitAnd (fam / 2 ^ (0+(j:Int)).toNat) 1)=V.int 1)).map nV))at hl3
   generalize hS:(List.range 15).filter (λj:Nat=>decide (V.int (Builtin.bitAnd (fam / 2 ^ (0+(j:Int)).toNat) 1)=V.int 1))=SM at hl3;have Kc:Fam (15::SM):=by
    refine⟨iG.mpr ⟨λh=>?_,?_⟩,λx hx=>?_⟩
    ·rw[<- hS]at h
     have:=(cR.mp h).1;simp at this
    ·rw[<- hS];exact Hq.filter _
    ·rcases bx.mp hx with rfl|hx
     ·decide
     ·rw[<- hS]at hx
      have:=(cR.mp hx).1;simp at this;omega
   have hlS:SM.length<=15:=by have:=Kc.len;simp at this;omega
   refine⟨by show 1<=sizeLine;decide,λp1 hp1=>⟨_,rfl,p1,D,_,_,rfl,rfl,av,Same.put hp1 _ _ hl3,by rw[au];exact eB (dB (by show 1+SM.length<=24;omega)),λp2 hp2=>?_⟩⟩;refine⟨_,rfl,by show 2<=sizeLine;decide,λp3 hp3=>⟨p3,_,rfl,.inr (az.of av),rfl,rfl,?_⟩⟩;have h4:(upd (upd (upd H3 p1 (.lst [V.int 15])) p2 (.lst ([V.int 15]++SM.map nV))) p3 (.tup [V.int 2,V.int 7])) p2=some (.lst ((15::SM).map nV)):=Same.put hp3 _ _ av;refine⟨p2,15::SM,_,rfl,h4,Kc,b9,λo5 M H5 s5 iO q5 hM=>?_⟩;have lE:=da.trans hs3;have s06:=(((lE.trans (Same.put hp1)).trans (Same.put hp2)).trans (Same.put hp3)).trans s5;refine kk o5 M H5 s06 (Same.free ?_ iO) q5 hM;exact((lE.trans (Same.put hp1)).trans (Same.put hp2)).trans (Same.put hp3)
theorem qD(xs:List V)(k:Nat):bP xs (some (k:Int)) none=xs.drop k:=by
 unfold bP;rw[HT.vR,HT.vQ]
 by_cases h:k<=xs.length
 ·rw[Hx h,p9 (by simp)]
 ·rw[Hy (by omega),List.drop_length,List.drop_of_length_le (by omega)];simp
theorem TJ(xs:List V)(k:Nat):bP xs none (some (k:Int))=xs.take k:=by
 unfold bP;rw[HT.vR,HT.vQ,xq,Nat.sub_zero]
 by_cases h:k<=xs.length
 ·rw[Hx h]
 ·rw[Hy (by omega),p9 (by omega),p9 (by omega)]
theorem qI(x:Int)(k:Nat)(hk:0<k):∃r:Nat,r<k/\x % (k:Int)=(r:Int):=
 ⟨(x % (k:Int)).toNat,by have h1:=m_ x (show(k:Int)≠0 by omega);have h2:=sZ x (show(0:Int)<k by omega);omega,by have h1:=m_ x (show(k:Int)≠0 by omega);omega⟩
theorem Oc{α β:Type}{G:α->β->Prop}:∀{l:List α} {m:List β} (k:Nat),Paired G l m->Paired G (l.drop k) (m.drop k)
 |_,_,0,h=>h
 |_,_,_+1,.nil=>.nil
 |_,_,k+1,.cons _ t=>Oc k t
theorem Og{α β:Type}{G:α->β->Prop}:∀{l:List α} {m:List β} (k:Nat),Paired G l m->Paired G (l.take k) (m.take k)
 |_,_,0,_=>.nil
 |_,_,_+1,.nil=>.nil
 |_,_,k+1,.cons r t=>.cons r (Og k t)
structure Hand (M:List Nat) (ps:List (Nat × Nat)):Prop where
 lt:∀p∈ps,p.1<M.length/\p.2<M.length
 le:∀p∈ps,Ev.aF M p.1 p.2=true
 all:∀p∈cQ M,p∈ps
theorem uF{ns:List Int}{i:Nat}(h:i<ns.length):(ns.map V.int)[i]?=some (.int (ns.getD i 0)):=by
 rw[bX,ay h,aN,ay h];rfl
abbrev Ec:Stmt:=top 70
theorem P5:bh ["_law_masks","_law_draws_here","_law_found","_law_k","_law_turn","_law_a","_law_b"] ["_law_masks","_law_draws_here"] (aB Ec):=⟨rfl,rfl,rfl,by decide +kernel,rfl,by decide +kernel,by decide +kernel⟩
def Fw(K:W.Frag):Sp:=λvs H Q _=>∃(m d:Nat) (M:List Nat) (ns:List Int),vs = [.ref m,.ref d]/\ag K H m (M.map nV)/\ag K H d (ns.map V.int)/\ns.length=8/\0<M.length/\M.length<=24 /\
 ∀l us ps H',Same H H'->H l=none->H' l=some (.lst us)->us.length<=1000->Paired (c5 H') ps us->Hand M ps->Q (.ref l) H'
theorem ZC (F:aS K "_law_handed" "_law_handed" Ec f fd) (T:Txt mg) (ow:aC P w K mg base "_law_steps" ["_law_masks"] 2 (wF K)) (eZ:aC P w K mg base "_law_at_most" ["_law_masks","_law_a","_law_b"] 1 (mP K)) :
  aO P w K mg base aX 3 f fd ["_law_masks","_law_draws_here"] (Fw K):=by
 refine F.ok P5 (λvs H Q E h=>?_) (λcdv A outer s H vs Q E hr h=>?_)
 ·obtain⟨m,d,M,ns,rfl,_⟩:=h
  rfl
 ·obtain⟨m,d,M,ns,rfl,hm,hd,hns,hpos,hn,kk⟩:=h
  have nd:=P5.nd;refine⟨_,(ax (aP (i:=2) nd rfl (Or.inl rfl) (aL ow hr rfl (ae (pv 0) ah)))
   (ax (cH cF rfl (cM rfl T.range (ae (aJ cU (aq (aV (K:=K) rfl) (pv 1) ak (λ_ _=>rfl)) ak) ah)) (bf (i:=3) nd rfl (Or.inl rfl))
   (ax (aP (i:=5) nd rfl (Or.inl rfl) (aJ cU (aJ rY (aq (aV (K:=K) rfl) (pv 1) (aJ dG ak (aJ cU (pv 3) ak)) (λ_ _=>rfl)) (aJ dG (pv 3) ak)) (aY (cI (K:=K) rfl) rfl T.len cT (ae (pv 0) ah))))
   (ax (aP (i:=6) nd rfl (Or.inl rfl) (aJ cU (aJ rY (aq (aV (K:=K) rfl) (pv 1) (aJ dG ak (aJ cU (pv 3) ak)) (λ_ _=>rfl)) (aJ dG (pv 3) ak)) (aY (cI (K:=K) rfl) rfl T.len cT (ae (pv 0) ah))))
   (aA (bB (cg (aL eZ hr rfl (ae (pv 0) (ae (pv 5) (ae (pv 6) ah (ao nofun)) (ao nofun)) (ao nofun)))) (aA (dI (eV (K:=K) rfl eM jh jQ iT (pv 2) (ae (gJ (ae (pv 5) (ae (pv 6) ah))) ah)))) bD)))))
   (ax (aP (i:=4) nd rfl (Or.inl rfl) (aJ cU (aq (aV (K:=K) rfl) (pv 1) ak (λ_ _=>rfl)) (aJ dG (aY (cI (K:=K) rfl) rfl T.len cT (ae (pv 2) ah)) ak)))
   (aA (aQ (aJ fJ (eL (fk (K:=K) rfl) (pv 2) (dS (pv 4)) fh) (eL (fk (K:=K) rfl) (pv 2) fh (dS (pv 4))))))))),?_⟩
  refine⟨_,rfl,m,M,rfl,hm,hn,λL us H1 s1 hL hl hlen hp=>?_⟩;obtain⟨c0,hc0,e0⟩:=qI (ns.getD 0 0) 12 (by decide);refine⟨_,rfl,d,_,0,_,rfl,rfl,s1.seq hd,aI (uF (i:=0) (by omega)),_,_,rfl,rfl,(by show(0:Int)<12;decide),_,rfl,?_,?_,?_⟩
  ·show -(2 ^ 62)<=ns.getD 0 0 % 12
   rw[show ns.getD 0 0 % 12=(c0:Int)from e0];omega
  ·show ns.getD 0 0 % 12<2 ^ 62
   rw[show ns.getD 0 0 % 12=(c0:Int)from e0];omega
  have ec:(ns.getD 0 0 % 12).toNat=c0:=by rw[show ns.getD 0 0 % 12=(c0:Int)from e0];simp
  refine fb (lo:=0) (n:=(ns.getD 0 0 % 12).toNat) (λi σ H2=>∃(v3 v4 v5 v6:Option V) (ws:List V) (qs:List (Nat × Nat)),σ = [some (.ref m),some (.ref d),some (.ref L),v3,v4,v5,v6]/\Same H H2/\H2 L=some (.lst ws)/\ws.length<=576+i/\Paired (c5 H2) qs ws/\Hand M qs)
   ⟨none,none,none,none,us,cQ M,rfl,s1,hl,by omega,hp,λp hp=>⟨(vf hp).1,(vf hp).2.1⟩,λp hp=>(vf hp).2.2,λp hp=>hp⟩ ?_ ?_
  ·rintro i σ H2 hi ⟨v3,v4,v5,v6,ws,qs,rfl,s2,hl2,hw,hpq,hand⟩
   rw[ec]at hi;have hm2:=s2.seq hm;have hd2:=s2.seq hd;obtain⟨t,ht,et⟩:=qI (0+(i:Int)) 3 (by decide);have i1:1+(0+(i:Int)) % 3=((1+t:Nat):Int):=by rw[show(0+(i:Int)) % 3=(t:Int)from et];push_cast;rfl
   have i4:4+(0+(i:Int)) % 3=((4+t:Nat):Int):=by rw[show(0+(i:Int)) % 3=(t:Int)from et];push_cast;rfl
   obtain⟨x,hx,ex⟩:=qI (ns.getD (1+t) 0 / (0+(i:Int)+1)) M.length hpos;obtain⟨y,hy,ey⟩:=qI (ns.getD (4+t) 0 / (0+(i:Int)+1)) M.length hpos;refine⟨_,rfl,_,rfl,_,_,rfl,rfl,(by show(0:Int)<3;decide),_,_,rfl,rfl,d,_,_,_,rfl,rfl,hd2,by rw[i1];exact aI (uF (by omega)),_,rfl,_,_,rfl,rfl,_,_,rfl,rfl,⟨by omega,by omega⟩,_,rfl,m,_,rfl,.inl hm2,_,_,rfl,rfl,by rw[au];omega,?_⟩;refine⟨_,rfl,_,rfl,_,_,rfl,rfl,(by show(0:Int)<3;decide),_,_,rfl,rfl,d,_,_,_,rfl,rfl,hd2,by rw[i4];exact aI (uF (by omega)),_,rfl,_,_,rfl,rfl,_,_,rfl,rfl,⟨by omega,by omega⟩,_,rfl,m,_,rfl,.inl hm2,_,_,rfl,rfl,by rw[au];omega,?_⟩;have ex':ns.getD (1+t) 0 / (0+(i:Int)+1) % ((M.map nV).length:Int)=(x:Int):=by rw[au];exact ex
   have ey':ns.getD (4+t) 0 / (0+(i:Int)+1) % ((M.map nV).length:Int)=(y:Int):=by rw[au];exact ey
   refine⟨_,rfl,_,rfl,_,rfl,m,x,y,M,by dsimp only;rw[ex',ey'];rfl,hm2,hx,hy,λH3 s3=>⟨_,rfl,bq (λh=>?_) (λh=>?_)⟩⟩
   ·have hl3:=s3 _ _ hl2
    refine⟨_,rfl,.inl ⟨rfl,_,ag.of hl3⟩,_,rfl,_,rfl,by show 2<=sizeLine;decide,λq hq=>?_⟩;refine⟨L,_,_,rfl,rfl,Same.put hq _ _ hl3,c7 (by omega),?_⟩;refine⟨_,_,_,_,ws++[.ref q],qs++[(x,y)],rfl,?_,av,by rw[cA];simp;omega,?_,?_⟩
    ·intro b o e
     rw[aG (λz=>by rw[z,hL]at e;cases e)];exact Same.put hq _ _ (s3 _ _ (s2 _ _ e))
    ·refine vC (Same.put hq _ _ hl3) (pz (eK.same (s3.trans (Same.put hq)) hpq) (.cons ⟨q,rfl,?_⟩ .nil))
     rw[av];dsimp only;rw[ex',ey']
    ·refine⟨λp hp=>?_,λp hp=>?_,λp hp=>kL _ (hand.all p hp)⟩
     ·rcases gy.mp hp with hp|hp
      ·exact hand.lt p hp
      ·simp at hp;subst hp;exact⟨hx,hy⟩
     ·rcases gy.mp hp with hp|hp
      ·exact hand.le p hp
      ·simp at hp;subst hp;exact h
   ·exact⟨_,_,_,_,ws,qs,rfl,s2.trans s3,s3 _ _ hl2,by omega,eK.same s3 hpq,hand⟩
  ·rintro σ H2 ⟨v3,v4,v5,v6,ws,qs,rfl,s2,hl2,hw,hpq,hand⟩
   rw[ec]at hw;obtain⟨t,ht,et⟩:=qI (ns.getD 7 0) (ws.length+1) (by omega);refine⟨_,rfl,d,_,7,_,rfl,rfl,s2.seq hd,aI (uF (i:=7) (by omega)),_,rfl,L,_,rfl,.inl (ag.of hl2),_,_,rfl,rfl,_,_,rfl,rfl,by omega,?_⟩;have Uz:ns.getD 7 0 % ((ws.length:Int)+1)=(t:Int):=by rw[<- et];push_cast;rfl
   dsimp only;rw[Uz];refine⟨_,rfl,_,rfl,_,rfl,L,_,rfl,ag.of hl2,λp1 hp1=>?_⟩;rw[qD];have hL1:=Same.put hp1 (o:=.lst (ws.drop t)) _ _ hl2;refine⟨_,rfl,_,rfl,_,rfl,L,_,rfl,ag.of hL1,λp2 hp2=>?_⟩;rw[TJ];refine⟨p1,p2,_,_,rfl,rfl,Same.put hp2 _ _ av,av,?_,λp3 hp3=>?_⟩
   ·rw[jP,kK];exact eB (c7 (by omega))
   ·have s3:Same H2 _:=((Same.put hp1 (o:=.lst (ws.drop t))).trans (Same.put hp2 (o:=.lst (ws.take t)))).trans (Same.put hp3 (o:=.lst (ws.drop t++ws.take t)))
    refine kk p3 (ws.drop t++ws.take t) (qs.drop t++qs.take t) _ (s2.trans s3) (Same.free ?_ hp3) av ?_ (eK.same s3 (pz (Oc t hpq) (Og t hpq))) ?_
    ·exact s2.trans ((Same.put hp1).trans (Same.put hp2))
    ·rw[cA,jP,kK];omega
    ·have mem:∀p,p∈qs.drop t++qs.take t ↔ p∈qs:=λp=>by
      rw[gy]
      constructor
      ·rintro(h|h)
       ·exact List.mem_of_mem_drop h
       ·exact List.mem_of_mem_take h
      ·intro h
       rw[<- List.take_append_drop t qs]at h
       rcases gy.mp h with h|h
       ·exact .inr h
       ·exact .inl h
     exact⟨λp hp=>hand.lt p ((mem p).mp hp),λp hp=>hand.le p ((mem p).mp hp),λp hp=>(mem p).mpr (hand.all p hp)⟩
end
theorem Jv{M:List Nat}(hM:Ev.bL M){ps:List (Nat × Nat)}(hand:Hand M ps){R:Nat->Nat->Bool}(hC:Ev.kG M.length ps R):∀a b,a<M.length->b<M.length->R a b=Ev.aF M a b:=
 hC.Us hM.nd hand.le λa b ha hb h=>hand.all _ (acb hM.nd ha hb h)
theorem KZ{M:List Nat}(hM:Ev.bL M){ps:List (Nat × Nat)}(hand:Hand M ps)(R:Nat->Nat->Bool)(hC:Ev.kG M.length ps R):Good M.length R:=by
 have eq:=Jv hM hand hC;refine⟨λa ha=>by rw[eq a a ha ha];exact Ev.jx _ _,λa b ha hb h1 h2=>?_,λa b ha hb=>?_,λa b ha hb=>?_⟩
 ·rw[eq a b ha hb]at h1
  rw[eq b a hb ha]at h2;exact Ev.u5 hM.nd ha hb h1 h2
 ·obtain⟨c,hc,h⟩:=hM.oX ha hb
  exact⟨c,hc,λx hx=>by rw[eq c x hc hx,eq a x ha hx,eq b x hb hx];exact h x hx⟩
 ·obtain⟨c,hc,_,h⟩:=hM.o7 ha hb
  exact⟨c,hc,λx hx=>by rw[eq x c hx hc,eq x a hx ha,eq x b hx hb];exact h x⟩
theorem TT.get{H:Hp}{v:V}{n:Nat}{g:Nat->Nat->V}(h:TT H v n g){i:Nat}(hi:i<n):∃a vs b,v = .ref a/\H a=some (.tup vs)/\vs[i]?=some (.ref b)/\H b=some (.tup ((List.range n).map (g i))):=by
 obtain⟨a,vs,e,q,r⟩:=h;have hl:vs.length=n:=by have:=dh r;simpa using this.symm
 obtain⟨x,hx,b,eb,qb⟩:=eJ r (show vs[i]?=some vs[i]from ay (by omega));have:x=i:=by
  rw[pZ hi]at hx;cases hx;rfl
 subst this;exact⟨a,vs,b,e,q,by rw[ay (by omega),eb],qb⟩
theorem Kj (n:Nat) (vp vr vj vm:V):(j7 n vp vr vj vm).lookup ("reach" : Str)=some vr:=by
 unfold j7;rw[hV,if_neg (by decide +kernel),hV,if_neg (by decide +kernel),hV,if_pos rfl]
theorem uA (n:Nat) (vp vr vj vm:V):(j7 n vp vr vj vm).lookup ("count" : Str)=some (.int n):=by
 unfold j7;rw[hV,if_neg (by decide +kernel),hV,if_neg (by decide +kernel),hV,if_neg (by decide +kernel),hV,if_neg (by decide +kernel),hV,if_pos rfl]
theorem fQ.iY{C:Addr}{H H':Hp}{p n:Nat}{R:Nat->Nat->Bool}(s:Same H H')(h:fQ C H p n R):fQ C H' p n R:=by
 obtain⟨dx,vp,vr,vj,vm,a,b,c,d,e⟩:=h;exact⟨dx,vp,vr,vj,vm,s _ _ a,b.same s,c.same s,d.same s,e.same s⟩
noncomputable def cZ(R:Nat->Nat->Bool)(a b:Nat):Bool:=!decide (a=b)&&R a b
noncomputable def fq(n:Nat)(R:Nat->Nat->Bool)(a b:Nat):Bool:=cZ R a b&&!(List.range n).any λt=>cZ R a t&&cZ R t b
theorem Good.trans{n:Nat}{R:Nat->Nat->Bool}(G:Good n R){a b c:Nat}(ha:a<n)(hb:b<n)(hc:c<n)(h1:R a b=true)(h2:R b c=true):R a c=true:=by
 obtain⟨m,hm,h⟩:=G.meet b c hb hc;have e1:=h b hb;rw[G.refl b hb,h2]at e1;have e2:=h m hm;rw[G.refl m hm]at e2;have e3:R m b=true:=by
  cases e:R m b with
  |true=>rfl
  |false=>rw[e]at e2;cases e2
 have:b=m:=G.anti b m hb hm (by rw[e1];rfl) e3;subst this;have e4:=h a ha;rw[h1]at e4;simpa using e4.symm
def bH(n:Nat)(R:Nat->Nat->Bool)(a b c:Nat):Prop:=c<n/\∀x,x<n->R c x=(R a x&&R b x)
def bO(n:Nat)(R:Nat->Nat->Bool)(a b c:Nat):Prop:=c<n/\∀x,x<n->R x c=(R x a&&R x b)
section
variable {n:Nat} {R:Nat->Nat->Bool} {a b c d:Nat}
theorem bH.uniq(G:Good n R)(h:bH n R a b c)(h':bH n R a b d):c=d:=G.dis c d h.1 h'.1 λx hx=>by rw[h.2 x hx,h'.2 x hx]
theorem bO.uniq(G:Good n R)(h:bO n R a b c)(h':bO n R a b d):c=d:=G.mq c d h.1 h'.1 λx hx=>by rw[h.2 x hx,h'.2 x hx]
theorem bH.up(G:Good n R)(ha:a<n)(hb:b<n)(h:bH n R a b c):R a c=true/\R b c=true:=by
 have:=h.2 c h.1;rw[G.refl c h.1]at this;simpa using this.symm
theorem bO.dn(G:Good n R)(ha:a<n)(hb:b<n)(h:bO n R a b c):R c a=true/\R c b=true:=by
 have:=h.2 c h.1;rw[G.refl c h.1]at this;simpa using this.symm
theorem bH.of_le(G:Good n R)(ha:a<n)(hb:b<n)(h:R a b=true):bH n R a b b:=⟨hb,λx hx=>by
 cases e:R b x with
 |false=>simp
 |true=>rw[G.trans ha hb hx h e];rfl⟩
theorem bH.eq_iff(G:Good n R)(ha:a<n)(hb:b<n)(h:bH n R a b c):decide (V.int (c:Int)=V.int (b:Int))=R a b:=by
 rw[dm,cJ]
 constructor
 ·intro e
  have:c=b:=by injection e with e;omega
  subst this;exact(h.up G ha hb).1
 ·intro e
  rw[h.uniq G (bH.of_le G ha hb e)]
end
theorem oC (n:Nat) (vp vr vj vm:V):(j7 n vp vr vj vm).lookup ("joins" : Str)=some vj:=by
 unfold j7;rw[hV,if_neg (by decide +kernel),hV,if_pos rfl]
theorem oE (n:Nat) (vp vr vj vm:V):(j7 n vp vr vj vm).lookup ("meets" : Str)=some vm:=by
 unfold j7;rw[hV,if_pos rfl]
def yn(n:Nat)(R:Nat->Nat->Bool)(a0 a1 b0 b1:Nat):Prop:=bH n R a1 b0 b1/\bO n R a1 b0 a0
theorem Xu{n:Nat}{R:Nat->Nat->Bool}{a b x e:Nat}(G:Good n R)(h:bH n R a b x):bH n R a b e ↔ x=e:=⟨λh'=>h.uniq G h',λq=>q▸h⟩
theorem Xv{n:Nat}{R:Nat->Nat->Bool}{a b x e:Nat}(G:Good n R)(h:bO n R a b x):bO n R a b e ↔ x=e:=⟨λh'=>h.uniq G h',λq=>q▸h⟩
theorem JG{a b:Nat}:decide (V.int (a:Int)=V.int (b:Int))=decide (a=b):=by
 apply lg.mpr
 constructor
 ·intro h;injection h with h;omega
 ·intro h;rw[h]
section
variable {P:Program} {w:World} {K:W.Frag} {mg:Str->Option Value} {base:Heap} {f:Addr} {fd:FuncData}
abbrev Ei:Stmt:=top 74
theorem Qj:bh ["_law_masks","_law_one","_law_other","_law_join_here"] ["_law_masks","_law_one","_law_other"] (aB Ei):=⟨rfl,rfl,rfl,by decide +kernel,rfl,by decide +kernel,by decide +kernel⟩
def Gq(K:W.Frag):Sp:=λvs H Q _=>∃(m t1 t2 x0 x1 y0 y1:Nat) (M:List Nat),vs = [.ref m,.ref t1,.ref t2]/\ag K H m (M.map nV)/\Ev.bL M/\az K H t1 [.int (x0:Int),.int (x1:Int)]/\az K H t2 [.int (y0:Int),.int (y1:Int)]/\x0<M.length/\x1<M.length/\y0<M.length/\y1<M.length /\
 ∀c H',Same H H'->(c=true ↔ yn M.length (Ev.aF M) x0 x1 y0 y1)->Q (.bl c) H'
theorem VD{M:List Nat}(hM:Ev.bL M):Good M.length (Ev.aF M):=by
 refine⟨λa ha=>Ev.jx _ _,λa b ha hb h1 h2=>Ev.u5 hM.nd ha hb h1 h2,λa b ha hb=>?_,λa b ha hb=>?_⟩
 ·obtain⟨c,hc,h⟩:=hM.oX ha hb
  exact⟨c,hc,h⟩
 ·obtain⟨c,hc,_,h⟩:=hM.o7 ha hb
  exact⟨c,hc,λx _=>h x⟩
theorem aag (F:aS K "_law_up" "_law_up" Ei f fd) (T:Txt mg)
  (gT:aC P w K mg base "_law_meet" ["_law_masks","_law_a","_law_b"] 1 (pK K)) (jo:aC P w K mg base "_law_join" ["_law_masks","_law_a","_law_b"] 1 (sJ K)) :
  aO P w K mg base aX 2 f fd ["_law_masks","_law_one","_law_other"] (Gq K):=by
 refine F.ok Qj (λvs H Q E h=>?_) (λcdv A outer s H vs Q E hr h=>?_)
 ·obtain⟨m,t1,t2,x0,x1,y0,y1,M,rfl,_⟩:=h
  rfl
 ·obtain⟨m,t1,t2,x0,x1,y0,y1,M,rfl,hm,hM,h1,h2,hx0,hx1,hy0,hy1,kk⟩:=h
  have nd:=Qj.nd;have G:=VD hM;refine⟨_,(ax (aP (i:=3) nd rfl (Or.inl rfl) (aL jo hr rfl (ae (pv 0) (ae (aq (aK (K:=K) rfl) (pv 1) ak (λ_ _=>rfl)) (ae (aq (aK (K:=K) rfl) (pv 2) ak (λ_ _=>rfl)) ah (ao nofun)) (ao nofun)) (ao nofun))))
   (aA (aQ (kx (gj dH (pv 3) (aq (aK (K:=K) rfl) (pv 2) ak (λ_ _=>rfl)) (a_ _)) (jC (gj dH (aL gT hr rfl (ae (pv 0) (ae (aq (aK (K:=K) rfl) (pv 1) ak (λ_ _=>rfl)) (ae (aq (aK (K:=K) rfl) (pv 2) ak (λ_ _=>rfl)) ah (ao nofun)) (ao nofun)) (ao nofun))) (aq (aK (K:=K) rfl) (pv 1) ak (λ_ _=>rfl)) (a_ _))))))),?_⟩
  refine⟨_,rfl,_,rfl,t1,_,1,.int (x1:Int),rfl,rfl,h1,aI (j:=1) rfl,_,rfl,t2,_,0,.int (y0:Int),rfl,rfl,h2,aI (j:=0) rfl,m,x1,y0,M,rfl,hm,hM,hx1,hy0,λj H1 s1 hj hj'=>?_⟩;have kj:=Xu (e:=y1) G (⟨hj,λx hx=>hj' x hx⟩:bH M.length (Ev.aF M) x1 y0 j);refine⟨_,rfl,_,rfl,t2,_,1,.int (y1:Int),rfl,rfl,s1.mQ h2,aI (j:=1) rfl,rfl,_,rfl,?_⟩;rw[JG];refine bq (λk=>?_) (λk=>?_)
  ·refine⟨_,rfl,_,rfl,t1,_,1,.int (x1:Int),rfl,rfl,s1.mQ h1,aI (j:=1) rfl,_,rfl,t2,_,0,.int (y0:Int),rfl,rfl,s1.mQ h2,aI (j:=0) rfl,m,x1,y0,M,rfl,s1.seq hm,hM,hx1,hy0,λmm H2 s2 hmm Wx=>?_⟩
   have km:=Xv (e:=x0) G (⟨hmm,λx _=>Wx x⟩:bO M.length (Ev.aF M) x1 y0 mm);refine⟨_,rfl,t1,_,0,.int (x0:Int),rfl,rfl,(s1.trans s2).mQ h1,aI (j:=0) rfl,rfl,?_⟩;rw[JG];refine kk _ _ (s1.trans s2) ?_;unfold yn;rw[kj,km];rw[cJ]at k ⊢;exact⟨λz=>⟨k,z⟩,λz=>z.2⟩
  ·refine kk _ _ s1 ⟨λz=>(nomatch z),λz=>?_⟩
   have:=kj.mp z.1;exact absurd (cy this) k
abbrev DT:Stmt:=top 38
theorem Pp:bh ["order","a","b"] ["order","a","b"] (aB DT):=⟨rfl,rfl,rfl,by decide +kernel,rfl,by decide +kernel,by decide +kernel⟩
def Fy(C:Addr):Sp:=λvs H Q _=>∃(p n a b:Nat) (R:Nat->Nat->Bool),vs = [.ref p,.int a,.int b]/\fQ C H p n R/\a<n/\b<n/\∀H',Same H H'->Q (.bl (cZ R a b)) H'
theorem ZF {C:Addr} (F:aS K "is_below" "is_below" DT f fd) (T:Txt mg) (TC:gP K C):aO P w K mg base aX 1 f fd ["order","a","b"] (Fy C):=by
 refine F.ok Pp (λvs H Q E h=>?_) (λcdv A outer s H vs Q E hr h=>?_)
 ·obtain⟨p,n,a,b,R,rfl,_⟩:=h
  rfl
 ·obtain⟨p,n,a,b,R,rfl,hO,ha,hb,kk⟩:=h
  have nd:=Pp.nd;refine⟨_,(aA (aQ (kx (gj eU (pv 1) (pv 2) (a_ _)) (jC (aq (aK (K:=K) rfl) (aq (aK (K:=K) rfl) (fe (K:=K) rfl (pv 0) rfl) (pv 1) (λ_ _=>rfl)) (pv 2) (λ_ _=>rfl)))))),?_⟩;have ed:(!decide (V.int (a:Int)=V.int (b:Int))) = !decide (a=b):=by
   congr 1
   exact lg.mpr ⟨λh=>by injection h with h;omega,λh=>by rw[h]⟩
  refine⟨_,rfl,_,rfl,rfl,_,rfl,?_⟩;rw[ed];refine bq (λh=>?_) (λh=>?_)
  ·obtain⟨dx,vp,vr,vj,vm,o1,_,o3,_,_⟩:=hO
   obtain⟨ra,us,rb,rfl,q1,q2,q3⟩:=o3.get ha;refine⟨_,rfl,p,C,dx,_,_,rfl,o1,TC.cl,TC.nR,Kj _ _ _ _ _,_,rfl,ra,us,_,.ref rb,rfl,rfl,az.of q1,aI q2,_,rfl,rb,_,_,.bl (R a b),rfl,rfl,az.of q3,aI (eG hb),?_⟩;have:=kk _ (Same.refl _);unfold cZ at this;rw[h,gO]at this;exact this
  ·have h2:(!decide (a=b))=false:=by simpa using h
   have:=kk _ (Same.refl _);unfold cZ at this;rw[h2,lO]at this;exact this
end
theorem aax{n:Nat}{R R':Nat->Nat->Bool}(h:∀a b,a<n->b<n->R a b=R' a b):jA n R=jA n R':=by
 unfold jA;have:∀l∈List.range n,(((List.range n).filter λh=>!decide (l=h)&&R l h).map λh=>(l,h))=(((List.range n).filter λh=>!decide (l=h)&&R' l h).map λh=>(l,h)):=by
  intro l hl
  congr 1
  apply Hg
  intro x hx;rw[h l x (by simpa using hl) (by simpa using hx)]
 rw[xA,xA,nu this]
theorem abE{α:Type}(k:α->Bool)(d:α)(l:List α):((List.range l.length).filter λi=>k (l.getD i d)).map (λi=>l.getD i d)=l.filter k:=by
 have e:l=(List.range l.length).map λi=>l.getD i d:=by
  apply jN
  ·simp
  ·intro i h1 h2
   simp[aN,ay h1]
 conv=>rhs;rw[e]
 rw[xu];rfl
noncomputable def Gx(n:Nat)(R:Nat->Nat->Bool):List (Nat × Nat):=(jA n R).filter λq=>fq n R q.1 q.2
theorem Yx{n:Nat}{R:Nat->Nat->Bool}{q:Nat × Nat}(h:q∈jA n R):q.1<n/\q.2<n/\q.1≠q.2/\R q.1 q.2=true:=by
 unfold jA at h;rw[lR]at h;obtain⟨l,hl,hq⟩:=h;rw[cS]at hq;obtain⟨x,hx,rfl⟩:=hq;rw[cR]at hx;obtain⟨h1,h2⟩:=hx;simp at hl h1 h2;exact⟨hl,h1,h2.1,h2.2⟩
theorem acd{M:List Nat}(nd:M.Nodup){R:Nat->Nat->Bool}(hR:∀a b,a<M.length->b<M.length->R a b=Ev.aF M a b):Gx M.length R=cQ M:=by
 unfold Gx;rw[aax hR];unfold jA cQ;rw[List.filter_flatMap];have:∀a∈List.range M.length,((((List.range M.length).filter λh=>!decide (a=h)&&Ev.aF M a h).map λh=>(a,h)).filter λq=>fq M.length R q.1 q.2) =
   (((bz M a).filter λb=>((bz M a).filter λc=>Ev.aF M c b).length==1).map λb=>(a,b)):=by
  intro a ha;have ha':a<M.length:=by simpa using ha
  rw[xu]
  congr 1
  apply Hg
  intro b hb;obtain⟨hb1,hb2,hb3⟩:=ki.mp hb;have YL:(bz M a).Nodup:=Hq.filter _;rw[dm];show fq M.length R a b=true ↔ _;have qv:∀x y,x<M.length->y<M.length->(cZ R x y=true ↔ x≠y/\Ev.aF M x y=true):=λx y hx hy=>by
   unfold cZ;rw[hR x y hx hy];simp
  constructor
  ·intro h
   unfold fq at h;rw[bJ]at h;obtain⟨h1,h2⟩:=h;have no:∀t,t<M.length->cZ R a t=true->cZ R t b=true->False:=λt ht e1 e2=>by
    have:((List.range M.length).any λt=>cZ R a t&&cZ R t b)=true:=by
     rw[xo];exact⟨t,by simpa using ht,by rw[e1,e2];rfl⟩
    rw[this]at h2;cases h2
   have h3:=N3 (l:=(bz M a).filter λc=>Ev.aF M c b) (b:=b) (YL.filter _) (cR.mpr ⟨hb,Ev.jx _ _⟩) λc hc=>by
    obtain⟨c1,c2⟩:=cR.mp hc;obtain⟨d1,d2,d3⟩:=ki.mp c1
    by_cases e:c=b
    ·exact e
    ·exact(no c d1 ((qv a c ha' d1).mpr ⟨d2,d3⟩) ((qv c b d1 hb1).mpr ⟨e,c2⟩)).elim
   rw[h3];rfl
  ·intro h
   have h1:((bz M a).filter λc=>Ev.aF M c b).length=1:=by simpa using h
   unfold fq;rw[bJ];refine⟨(qv a b ha' hb1).mpr ⟨hb2,hb3⟩,?_⟩;cases e:(List.range M.length).any λt=>cZ R a t&&cZ R t b with
   |false=>rfl
   |true =>
    rw[xo]at e;obtain⟨t,ht,e⟩:=e;have ht':t<M.length:=by simpa using ht
    rw[bJ]at e;have t1:=(qv a t ha' ht').mp e.1;have t2:=(qv t b ht' hb1).mp e.2;obtain⟨x,hx⟩:=List.length_eq_one_iff.mp h1;have m1:t∈(bz M a).filter λc=>Ev.aF M c b:=cR.mpr ⟨ki.mpr ⟨ht',t1.1,t1.2⟩,t2.2⟩;have m2:b∈(bz M a).filter λc=>Ev.aF M c b:=cR.mpr ⟨hb,Ev.jx _ _⟩;rw[hx]at m1 m2;simp at m1 m2;exact absurd (m1.trans m2.symm) t2.1
 rw[xA,xA,nu this]
section
variable {P:Program} {w:World} {K:W.Frag} {mg:Str->Option Value} {base:Heap} {f:Addr} {fd:FuncData}
end
end My
namespace L2
open PySem PySem.Spec PyProof.Rows
def abt(K:W.Frag):List V->Hp->VK->Prop:=λxs H Q=>∃(p:Addr) (ns:List Int),xs = [.ref p]/\ag K H p (ns.map V.int)/\0<ns.length/\∀m∈ns,(∀a∈ns,m<=a)->Q (.int m) H
def abq(K:W.Frag):List V->Hp->VK->Prop:=λxs H Q=>∃(p:Addr) (ns:List Int),xs = [.ref p]/\ag K H p (ns.map V.int)/\0<ns.length/\∀m∈ns,(∀a∈ns,a<=m)->Q (.int m) H
theorem Jo {X:Cx} {K:W.Frag} (hK:X.K=K) (hc:X.calm=true):dD X (.builtin "min") (abt K):=by
 subst hK;intro pins s σ H xs us Q I r h;obtain⟨p,ns,rfl,hq,hne,q⟩:=h;obtain⟨u,rfl,ru⟩:=Vals.one r;cases ru;obtain⟨its,rv,ht,hz⟩:=I.list hq;have hi:=oS rv;obtain⟨ys,e⟩:=hi.allInts.items;have hns:ns=ys.toList.map (·.1):=by rw[<- hi.numsOf,<- yc,<- e]
 have hsz:0<ys.size:=by
  have h3:=hne;rw[hns,au,fO]at h3;exact h3
 have hl:=ht.isList;rw[e]at hl;refine min_intList (I.ok.hd hc) hl hsz λv h' tk hv hk=>?_;obtain⟨t,rfl⟩:=qi hv;obtain⟨h1,h2⟩:=argBest_lt (numAt ys) (ys.size - 1);refine⟨.int _,H,I.kept (t':=tk) hk,⟨t,rfl⟩,q _ ?_ λa ha=>?_⟩
 ·rw[hns,lW];exact getD_mem (by rw[au,fO];omega)
 ·rw[hns]at ha
  obtain⟨j,hj,rfl⟩:=mem_getD ha;rw[au,fO]at hj;rw[<- lW];exact h2 j (by omega)
theorem Jn {X:Cx} {K:W.Frag} (hK:X.K=K) (hc:X.calm=true):dD X (.builtin "max") (abq K):=by
 subst hK;intro pins s σ H xs us Q I r h;obtain⟨p,ns,rfl,hq,hne,q⟩:=h;obtain⟨u,rfl,ru⟩:=Vals.one r;cases ru;obtain⟨its,rv,ht,hz⟩:=I.list hq;have hi:=oS rv;obtain⟨ys,e⟩:=hi.allInts.items;have hns:ns=ys.toList.map (·.1):=by rw[<- hi.numsOf,<- yc,<- e]
 have hsz:0<ys.size:=by
  have h3:=hne;rw[hns,au,fO]at h3;exact h3
 have hl:=ht.isList;rw[e]at hl;refine max_intList (I.ok.hd hc) hl hsz λv h' tk hv hk=>?_;obtain⟨t,rfl⟩:=qi hv;obtain⟨h1,h2⟩:=argBest_gt (numAt ys) (ys.size - 1);refine⟨.int _,H,I.kept (t':=tk) hk,⟨t,rfl⟩,q _ ?_ λa ha=>?_⟩
 ·rw[hns,lW];exact getD_mem (by rw[au,fO];omega)
 ·rw[hns]at ha
  obtain⟨j,hj,rfl⟩:=mem_getD ha;rw[au,fO]at hj;rw[<- lW];exact h2 j (by omega)
section
variable {prog:Program} {w:World} {A:Around} {E:Value->Shared->Prop} {s:Shared} {l:Addr} {xs:Array (Int × Tok)}
theorem Ms{Q:Value->Shared->Prop}(hl:s.heap.IsTuple l (intItems xs))
  (h:∀s₂:Shared,s₂ = {s with heap:=s.heap.push {cls:=.type "tuple_iterator", data:=.fields #[.ref l,.int 0 0]}} ->
   (s₂.heap.IsTupleIter s.heap.objs.size l 0/\s₂.heap.IsTuple l (intItems xs))->(∀b∈[s.heap.objs.size,l],b<s₂.heap.objs.size)->l≠s.heap.objs.size->Q (.ref s.heap.objs.size) s₂) :
  wpAny (model prog w) A (pyIter (.ref l)) Q E s:=by
 have hlt:l<s.heap.objs.size:=by obtain⟨_,e,_⟩:=hl;exact aR e
 refine Ij hl (h _ rfl ⟨⟨_,cn _ rfl,rfl,rfl⟩,hl.push _⟩ (λb hb=>?_) (bE hlt));show b<(s.heap.push _).objs.size;rw[eE]
 rcases bx.mp hb with rfl|hb
 ·exact nD _
 ·rcases bx.mp hb with rfl|hb
  ·exact xI hlt
  ·cases hb
theorem N1 {h':Heap} (hk:∀b o,b ∉ [s.heap.objs.size]->(s.heap.push {cls:=.type "tuple_iterator", data:=.fields #[.ref l,.int 0 0]}).get? b=some o->h'.get? b=some o) :
  ∀b o,s.heap.get? b=some o->h'.get? b=some o:=λb o e=>by
 refine hk b o (λhm=>?_) (aU _ e)
 rcases bx.mp hm with e1|hm
 ·exact absurd (e1▸aR e) (dM _)
 ·cases hm
theorem Yq{Q:Value->Shared->Prop}(hh:A.handled=none)(hl:s.heap.IsTuple l (intItems xs))(hne:0<xs.size)
  (h:∀v h' tk,(intItems xs)[argBest (λi j=>decide (numAt xs i > numAt xs j)) (xs.size - 1)]?=some v->(∀b o,s.heap.get? b=some o->h'.get? b=some o)->Q v {s with heap:=h',toks:=tk}) :
  wpAny (model prog w) A (call (.builtin "max") [.ref l]) Q E s:=by
 refine call_max_walk (Ms hl λs₂ e st hfp hlI=>?_);subst e;refine⟨_,_,_,_,_,_,_,rfl,Walks.tuple (A:=A.in1) hh _ l hlI (intItems xs),st,hfp,by simpa[intItems]using hne,CmpOf.ints_gt (numAt xs) (λ_ _=>qi),λv h' tk hP hk=>?_⟩;exact h v h' tk (by simpa[intItems]using hP) (N1 hk)
theorem YC{Q:Value->Shared->Prop}(hh:A.handled=none)(hl:s.heap.IsTuple l (intItems xs))(hne:0<xs.size)
  (h:∀v h' tk,(intItems xs)[argBest (λi j=>decide (numAt xs i<numAt xs j)) (xs.size - 1)]?=some v->(∀b o,s.heap.get? b=some o->h'.get? b=some o)->Q v {s with heap:=h',toks:=tk}) :
  wpAny (model prog w) A (call (.builtin "min") [.ref l]) Q E s:=by
 refine call_min_walk (Ms hl λs₂ e st hfp hlI=>?_);subst e;refine⟨_,_,_,_,_,_,_,rfl,Walks.tuple (A:=A.in1) hh _ l hlI (intItems xs),st,hfp,by simpa[intItems]using hne,CmpOf.ints_lt (numAt xs) (λ_ _=>qi),λv h' tk hP hk=>?_⟩;exact h v h' tk (by simpa[intItems]using hP) (N1 hk)
end
def abu(K:W.Frag):List V->Hp->VK->Prop:=λxs H Q=>∃(p:Addr) (ns:List Int),xs = [.ref p]/\az K H p (ns.map V.int)/\0<ns.length/\∀m∈ns,(∀a∈ns,m<=a)->Q (.int m) H
def abr(K:W.Frag):List V->Hp->VK->Prop:=λxs H Q=>∃(p:Addr) (ns:List Int),xs = [.ref p]/\az K H p (ns.map V.int)/\0<ns.length/\∀m∈ns,(∀a∈ns,a<=m)->Q (.int m) H
theorem Tf {X:Cx} {K:W.Frag} (hK:X.K=K) (hc:X.calm=true):dD X (.builtin "min") (abu K):=by
 subst hK;intro pins s σ H xs us Q I r h;obtain⟨p,ns,rfl,hq,hne,q⟩:=h;obtain⟨u,rfl,ru⟩:=Vals.one r;cases ru;obtain⟨its,rv,ht,hz⟩:=I.tuple hq;have hi:=oS rv;obtain⟨ys,e⟩:=hi.allInts.items;have hns:ns=ys.toList.map (·.1):=by rw[<- hi.numsOf,<- yc,<- e]
 have hsz:0<ys.size:=by
  have h3:=hne;rw[hns,au,fO]at h3;exact h3
 have hl:s.heap.IsTuple p its.toArray:=ht;rw[e]at hl;refine YC (I.ok.hd hc) hl hsz λv h' tk hv hk=>?_;obtain⟨t,rfl⟩:=qi hv;obtain⟨h1,h2⟩:=argBest_lt (numAt ys) (ys.size - 1);refine⟨.int _,H,I.kept (t':=tk) hk,⟨t,rfl⟩,q _ ?_ λa ha=>?_⟩
 ·rw[hns,lW];exact getD_mem (by rw[au,fO];omega)
 ·rw[hns]at ha
  obtain⟨j,hj,rfl⟩:=mem_getD ha;rw[au,fO]at hj;rw[<- lW];exact h2 j (by omega)
theorem Te {X:Cx} {K:W.Frag} (hK:X.K=K) (hc:X.calm=true):dD X (.builtin "max") (abr K):=by
 subst hK;intro pins s σ H xs us Q I r h;obtain⟨p,ns,rfl,hq,hne,q⟩:=h;obtain⟨u,rfl,ru⟩:=Vals.one r;cases ru;obtain⟨its,rv,ht,hz⟩:=I.tuple hq;have hi:=oS rv;obtain⟨ys,e⟩:=hi.allInts.items;have hns:ns=ys.toList.map (·.1):=by rw[<- hi.numsOf,<- yc,<- e]
 have hsz:0<ys.size:=by
  have h3:=hne;rw[hns,au,fO]at h3;exact h3
 have hl:s.heap.IsTuple p its.toArray:=ht;rw[e]at hl;refine Yq (I.ok.hd hc) hl hsz λv h' tk hv hk=>?_;obtain⟨t,rfl⟩:=qi hv;obtain⟨h1,h2⟩:=argBest_gt (numAt ys) (ys.size - 1);refine⟨.int _,H,I.kept (t':=tk) hk,⟨t,rfl⟩,q _ ?_ λa ha=>?_⟩
 ·rw[hns,lW];exact getD_mem (by rw[au,fO];omega)
 ·rw[hns]at ha
  obtain⟨j,hj,rfl⟩:=mem_getD ha;rw[au,fO]at hj;rw[<- lW];exact h2 j (by omega)
theorem aaT{X:Cx}{K:W.Frag}{es:List Expr}{k:Nat}{t:kT}{n:Nat}{pos:Pos}(hK:X.K=K)(hc:X.calm=true)(h:qf X es t)(hn:(assignEach es X.env).length=n:=by rfl)(hst:(assignEach es X.env).findIdx? (·.1)=none:=by rfl):PG X (.Tuple es k pos) (qN K n t):=hK▸Ol hc h hn hst
noncomputable def qJ(e:V->Bool):Value->Bool
 |.ref a=>e (.ref a)
 |_=>false
theorem Nk{X:Cx}{pins:List (Addr × Obj)}{σ:St}{H:Hp}{s:Shared}(I:Inv X pins σ H s){A:Around}{n:Nat}(hu:A.units+n<cLine){x:V}{v:Value}(rx:RelV x v){e:V->Bool}:∀{xs:List V} {us:List Value},Vals xs us->(∀z∈xs,∃a,z = .ref a)->(∀z∈xs,bK X.K H n z x (e z))->∀u∈us,SeqAt.EqAt A s u v (qJ e u)
 |_,_,.nil,_,_=>λu hu=>by cases hu
 |y::xs,u::us,.cons r t,f,g=>λu' hu'=>by
  rcases bx.mp hu' with rfl|hu'
  ·obtain⟨a,rfl⟩:=f y b9
   have:=(g _ b9).at I hu r rx;cases r;exact this
  ·exact Nk I hu rx t (λz hz=>f z (ck _ hz)) (λz hz=>g z (ck _ hz)) u' hu'
theorem ab9{K:W.Frag}{a:Addr}{us:List V}{xs ys:Nat->V}{ρ:St}{H1:Hp}(h:ag K H1 a us)(hp:∀i,i<us.length->∃t,us[i]?=some (.ref t)/\H1 t=some (.tup [xs i,ys i])):iJ (kH K a) (qN K 2 (mw (cK 0) (mw (cK 1) uE))) (none::none::ρ) H1 us.length (λi=>some (xs i)::some (ys i)::ρ) where
 go:=λi H hi hs=>⟨us,us[i],hs.seq h,ay hi⟩
 stop:=λH hs=>⟨us,hs.seq h,aW _⟩
 step:=λi H x H' Kk hi hs hy hk=>by
  obtain⟨rfl,hx⟩:=hy;have e:=hx us (hs.seq h);obtain⟨t,e1,e2⟩:=hp i hi;rw[e1]at e;cases e;refine⟨t,[xs i,ys i],rfl,.inl (.inl (hs _ _ e2)),rfl,xs i,[ys i],rfl,ys i,[],rfl,rfl,?_⟩;exact⟨Wk.set (Wk.set (Wk.refl _) rfl) rfl,hk _ (Same.refl _)⟩
end L2
namespace My
open PySem PySem.Spec PyProof.Rows L2
theorem Gw{n:Nat}{R:Nat->Nat->Bool}{a b:Nat}(h:fq n R a b=true):cZ R a b=true:=by
 unfold fq at h;rw[bJ]at h;exact h.1
theorem CZ{cs:List Nat}{i:Nat}(h:i<cs.length):cs.getD i 0∈cs:=by
 rw[aN,ay h];exact fu h
theorem rG(cs:List Nat):(cs.map λx:Nat=>(x:Int)).map V.int=cs.map nV:=by rw[dY];rfl
theorem Np{M:List Nat}(L:Ev.bL M){a b:Nat}:(a,b)∈cQ M ↔ a<M.length/\b<M.length/\fq M.length (Ev.aF M) a b=true:=by
 rw[<- acd (R:=Ev.aF M) L.nd λ_ _ _ _=>rfl];unfold Gx;rw[cR]
 constructor
 ·rintro⟨h1,h2⟩
  have:=Yx h1;exact⟨this.1,this.2.1,h2⟩
 ·rintro⟨h1,h2,h3⟩
  refine⟨?_,h3⟩;unfold jA;rw[lR];refine⟨a,by simpa using h1,?_⟩;rw[cS];refine⟨b,?_,rfl⟩;rw[cR];have:=Gw h3;unfold cZ at this;exact⟨by simpa using h2,this⟩
noncomputable def Iu(n:Nat)(R:Nat->Nat->Bool)(i:Nat):List Nat:=(List.range n).filter (fq n R i)
section
variable {P:Program} {w:World} {K:W.Frag} {mg:Str->Option Value} {base:Heap} {f:Addr} {fd:FuncData}
end
end My
namespace L2
open PySem PySem.Spec PyProof.Rows
theorem acL{x y:Int}{t u:Tok}{c:Value}:∀(l:List Value),TriplesOk l->TriplesOk (l++[.int x t,.int y u,c]):=by
 intro l h
 fun_induction TriplesOk l with
 |case1=>exact trivial
 |case2 a b d e f r ih=>exact ih h
 |case3 l h1 h2=>exact False.elim h
def RN(o:Obj)(qual:Str):Prop:=∃vs t,o.data = .fields vs/\vs[1]?=some (.str qual t)
noncomputable def pS(p:Addr)(qual:Str)(params:Arguments)(body:Expr)(scope:Scope)(cl:List (Str × Addr))(c:Addr):HO:=
 .ext λh=>∃pm ctv,h.get? p=some (W.kla_obj "<lambda>" qual params body scope cl pm c ctv)
structure h9 (H:Hp) (p:Addr) (qual:Str) (params:Arguments) (body:Expr) (scope:Scope) (cl:List (Str × Addr)):Prop where
 ex:∃c o u,H c=some (.dz o u)/\RN o qual/\H p=some (pS p qual params body scope cl c)
section
variable {P:Program} {w:World} {H H':Hp} {h:Heap} {p:Addr} {qual:Str} {params:Arguments} {body:Expr} {scope:Scope} {cl:List (Str × Addr)}
theorem M3 {c:Addr} {pm ctv:Value} (e:h.get? p=some (W.kla_obj "<lambda>" qual params body scope cl pm c ctv)):bC P w H h p (pS p qual params body scope cl c):=
 ⟨⟨pm,ctv,e⟩,⟨_,e⟩,λ_ _ ⟨pm,ctv,e⟩ k=>⟨pm,ctv,k _ e⟩⟩
theorem h9.same(L:h9 H p qual params body scope cl)(s:Same H H'):h9 H' p qual params body scope cl:=
 let⟨c,o,u,h1,h2,h3⟩:=L.ex;⟨c,o,u,s _ _ h1,h2,s _ _ h3⟩
theorem h9.get (L:h9 H p qual params body scope cl) (ok:bM P w H h):∃c pm ctv,h.get? p=some (W.kla_obj "<lambda>" qual params body scope cl pm c ctv)/\h.CodeRec (.ref c) qual:=by
 obtain⟨c,o,u,h1,⟨vs,t,d1,d2⟩,h3⟩:=L.ex;obtain⟨⟨pm,ctv,e⟩,_⟩:=(show bC P w H h p (pS p qual params body scope cl c)from ok p _ h3);obtain⟨e2,_⟩:=ok c _ h1;exact⟨c,pm,ctv,e,c,o,vs,t,rfl,e2,d1,d2⟩
end
structure TabAt (base:Heap) (mg:Str->Option Value) (c P:Addr):Prop where
 hd:W.CodeHd base c P
 bm:∃bm ob,mg "__builtins__" = some (.ref bm)/\bm≠builtinsNs/\base.get? bm=some ob/\ob.cls = .type "module" /\ ob.dict=some builtinsNs/\ob.data = .plain
def acs(P:Addr)(pos:Pos)(qual:Str)(params:Arguments)(body:Expr)(scope:Scope)(cl:List (Str × Addr)):TE:=λ_ H Q =>
 H P=some (.lam pos qual)/\∀p H1,Same H H1->H p=none->h9 H1 p qual params body scope cl->Q (.ref p) H1
section
variable {X:Cx} {c P:Addr} {params:Arguments} {body:Expr} {scope:Scope} {pos:Pos}
theorem aaL(T:TabAt X.base X.mg c P)(hcode:X.env.code = .ref c)(B:X.Ok->∀x∈scope.names,x.2 = .free->∃cc,X.env.cells.lookup x.1=some cc)(hdef:defaultsOf params X.env=([],[]):=by rfl):
  PE X (.Lambda params body scope pos) (acs P pos (X.env.qual ++ "<lambda>") params body scope (cq X.env.cells scope.names [])):=by
 intro pins s σ H Q I ⟨hP,q⟩;refine W.kla_eval hdef ?_;obtain⟨ps,K9,ht,hc⟩:=(show bC X.prog X.w H s.heap P (.lam pos (X.env.qual ++ "<lambda>"))from I.hok P _ hP);have hg:s.heap.Ns mainGlobals X.mg:=I.mod.glob.keeps I.bk;have C:=T.hd.keeps I.bk;obtain⟨bm,ob,b1,b2,b3,b4,b5,b6⟩:=T.bm;have Nw:∀b o,X.base.get? b=some o->b≠P:=λb o e z=>by
  have:=(I.bs b o e).2;rw[z,hP]at this;cases this
 have hgP:mainGlobals≠P:=by
  obtain⟨o,es,ep,e,_⟩:=I.mod.glob;exact Nw _ o e
 have hbG:bm≠mainGlobals:=λz=>by
  obtain⟨o,es,ep,e,hd,_⟩:=I.mod.glob;rw[z,e]at b3;cases b3;rw[hd]at b6;cases b6
 have hb:s.heap.BuiltinsAt X.mg P:=⟨bm,ob,b1,b2,hbG,Nw _ _ b3,I.bk _ _ b3,b4,b5,b6⟩;cases hf:codeAmong pos ps.toList with
 |some cv =>
  obtain⟨c',o,u,vs,t,rfl,hz,hd,hv⟩:=hc _ hf;refine W.kla_makeFunctionHit (qB (B I.ok)) I.ok.glob hg hcode C K9 ht hf hb λctv h' tk hk hsz=>?_;have I1:Inv X pins σ (upd H h'.objs.size (pS h'.objs.size (X.env.qual ++ "<lambda>") params body scope (cq X.env.cells scope.names []) c')) _:=
   I.laid (t':=tk) (λb u e=>aU (W.kla_obj "<lambda>" (X.env.qual ++ "<lambda>") params body scope (cq X.env.cells scope.names []) ((X.mg "__name__").getD .none) c' ctv) (hk b u e)) hsz (M3 (cn _ rfl))
  have hn:H h'.objs.size=none:=I.hok.fresh hsz;exact⟨.ref h'.objs.size,_,I1,rfl,q _ _ (Same.put hn) hn ⟨c',o,u,Same.put hn _ _ hz,⟨vs,t,hd,hv⟩,av⟩⟩
 |none =>
  refine W.kla_makeFunction (qB (B I.ok)) I.ok.glob hg hcode C K9 ht hf hgP hb λc' ctv h' tk hx hge hlt hrec htb=>?_;obtain⟨c2,oc,vs,t,e2,hoc,hd,hv⟩:=hrec;cases e2;have hn:H c'=none:=I.hok.fresh hge;have cP:c'≠P:=λz=>by rw[z,hP]at hn;cases hn
  have nP:∀b,H b=none->b≠P:=λb e z=>by rw[z,hP]at e;cases e
  have sm:Same H (upd H c' (.dz oc (.own c'))):=Same.put hn;have I1:Inv X pins σ (upd H c' (.dz oc (.own c'))) {s with heap:=h',toks:=tk}:=by
   refine I.un ⟨λb o e n _ _=>hx b o (nP b n) e,λb o e n _ _=>⟨o.slots,hx b o (nP b n) e⟩,λb o e n _=>?_,λb o e _=>?_,λb xs e=>sm _ _ e,λb o u e=>sm _ _ e,λb ps e=>⟨#[],by rw[sm _ _ e];simp⟩⟩ ?_
   ·rw[aG (bE (cY (aR e) hge))];exact n
   ·by_cases hb:b=P
    ·exact⟨_,by rw[hb];exact htb⟩
    ·exact⟨o,hx b o hb e⟩
   ·intro b u e
    by_cases hb:b=c'
    ·subst hb
     rw[av]at e;cases e;exact⟨hoc,oc,hoc⟩
    ·rw[aG hb]at e
     by_cases hb2:b=P
     ·subst hb2
      rw[hP]at e;cases e;have ea:(ps++#[rawInt pos.line,rawInt pos.col,.ref c']).toList=ps.toList++[rawInt pos.line,rawInt pos.col,.ref c']:=by simp
      refine⟨_,htb,?_,λcv z=>?_⟩
      ·rw[ea];exact acL _ ht
      ·rw[ea,codeAmong_snoc _ ht hf]at z
       cases z;exact⟨c',oc,.own c',vs,t,rfl,av,hd,hv⟩
     ·refine(I.hok b u e).stay (λd v hd' r=>hx d v ?_ r) (λd r=>sm _ _ r) (λd xs r=>sm _ _ r) λd ob' u' r=>sm _ _ r
      rcases hd' with rfl|hd'
      ·exact hb2
      ·intro z;rw[z,hP]at hd';cases hd'
  have hsz:({s with heap:=h',toks:=tk}:Shared).heap.objs.size<=h'.objs.size:=aW _;have I2:Inv X pins σ (upd (upd H c' (.dz oc (.own c'))) h'.objs.size (pS h'.objs.size (X.env.qual ++ "<lambda>") params body scope (cq X.env.cells scope.names []) c')) _:=
   I1.laid (t':=tk) (λb u e=>aU (W.kla_obj "<lambda>" (X.env.qual ++ "<lambda>") params body scope (cq X.env.cells scope.names []) ((X.mg "__name__").getD .none) c' ctv) e) hsz (M3 (cn _ rfl))
  have hn2:upd H c' (.dz oc (.own c')) h'.objs.size=none:=I1.fresh;exact⟨.ref h'.objs.size,_,I2,rfl,q _ _ (sm.trans (Same.put hn2)) (sm.free hn2) ⟨c',oc,.own c',Same.put hn2 _ _ av,⟨vs,t,hd,hv⟩,av⟩⟩
end
theorem Ni{α:Type}{x:Str}{u:α}:∀{l:List (Str × α)},(l.map (·.1)).Nodup->(x,u)∈l->l.lookup x=some u
 | [],_,h=>nomatch h
 | (y,v)::r,nd,h=>by
  rw[cX,iG]at nd;rw[dq]
  rcases bx.mp h with e|h2
  ·cases e;simp
  ·have:(x==y)=false:=by
    rw[jm];rintro rfl;exact nd.1 (cS.mpr ⟨_,h2,rfl⟩)
   rw[this];exact Ni nd.2 h2
theorem RK{α β:Type}:∀(l:List α) (m:List β),((l.zip m).map (·.1)).Sublist l
 | [],_=>by simp
 |_::_,[]=>by simp
 |a::l,b::m=>by rw[xF,cX];exact(RK l m).cons_cons a
theorem adB{ps:List Str}{us:List Value}{i:Nat}{x:Str}{u:Value}(nd:ps.Nodup)(h1:ps[i]?=some x)(h2:us[i]?=some u):(ps.zip us).reverse.lookup x=some u:=by
 refine Ni ?_ (List.mem_reverse.mpr (dr (i:=i) ?_))
 ·rw[List.map_reverse]
  refine(List.reverse_perm _).nodup_iff.mpr (nd.sublist ?_);exact RK _ _
 ·rw[List.getElem?_zip_eq_some];exact⟨h1,h2⟩
structure tF (ps fr:List Str) (sc:Scope):Prop where
 kind:sc.kind = .function
 co:sc.isCoroutine=false
 gen:sc.isGenerator=false
 nd:(ps++fr).Nodup
 o9:∀y∈sc.names,y.2≠.cell
 par:∀x∈ps,sc.names.lookup x=some .local
 U8:∀x∈fr,sc.names.lookup x=some .free
noncomputable def qE(P:Program)(w:World)(K:W.Frag)(mg:Str->Option Value)(base:Heap)(N:List Str)(qual:Str)(scope:Scope)(p:Addr)(cd:Value)(cl:List (Str × Addr))(A:Around)(outer:List Env)(s:Shared)(H:Hp):Cx where
 prog:=P
 w:=w
 K:=K
 mg:=mg
 base:=base
 A:=A.deeper (W.envX qual scope s.heap.objs.size p cd cl)
 N:=N
 s₀:=s
 H₀:=H
 env:=W.envX qual scope s.heap.objs.size p cd cl
 outer:=outer
 stack:=W.envX qual scope s.heap.objs.size p cd cl::outer
 ex:=[]
 calm:=true
 fn:=λ_=>false
 pn:=[]
 xe:=λ_ _=>False
section
variable {P:Program} {w:World} {K:W.Frag} {mg:Str->Option Value} {base:Heap} {A:Around} {outer:List Env} {s:Shared} {H:Hp} {p c:Addr} {qual:Str} {params:Arguments} {body:Expr} {scope:Scope} {cl:List (Str × Addr)}
 {ps fr:List Str} {vs:List V} {us:List Value} {zs:St} {pm ctv:Value} {Q:VK} {t:TE}
structure xn (h:Heap) (H:Hp) (scope:Scope) (cl:List (Str × Addr)) (fr:List Str) (zs:St):Prop where
 cell:∀x cc,cl.lookup x=some cc->(∃v,h.IsCell cc v)/\H cc=none
 inj:∀x y cc,cl.lookup x=some cc->cl.lookup y=some cc->x=y
 has:∀x,scope.names.lookup x=some .free->∃cc,cl.lookup x=some cc
 len:zs.length=fr.length
 val:∀(i:Nat) x v,fr[i]?=some x->zs[i]?=some (some v)->∃cc u,cl.lookup x=some cc/\h.IsCell cc (some u)/\RelV v u
theorem X7(S:tF ps fr scope)(hd:A.handled=none)(e0:ja P w K mg base A outer s H)(hl:vs.length=ps.length)(r:Vals vs us)(L:xn s.heap H scope cl fr zs){cd:Value}{h₁:Heap}{tk:Nat}(hns:h₁.Ns s.heap.objs.size λx=>(ps.zip us).reverse.lookup x)(hk:∀b o,s.heap.get? b=some o->h₁.get? b=some o):
  Inv (qE P w K mg base (ps++fr) qual scope p cd cl A outer s H) [] (vs.map some++zs) H {s with heap:=h₁,toks:=tk}:=by
 have ko:∀b:Addr,b ∉ (qE P w K mg base (ps++fr) qual scope p cd cl A outer s H).ex:=λb z=>absurd (show b∈([]:List Addr)from z) (by simp);refine⟨⟨e0.mod,S.kind,rfl,rfl,aW _,L.inj,λy hy=>?_,λy c h=>(nomatch h),λ_=>hd,Around.frames_deeper e0.frames,.inr ⟨rfl,rfl⟩,λb z=>absurd z (ko b),e0.bs,e0.eP,λb _ _=>ko b,λb z=>absurd z (ko b),e0.d9,e0.gG⟩,
  rfl,e0.bare,Un.kept hk,⟨_,hns,λi y v h1 h2 h3=>?_⟩,λy cc h=>?_,e0.hok.fresh (aW _),λy cc h=>(L.cell y cc h).2,λq hq=>absurd (show q∈([]:List (Addr × Obj))from hq) (by simp),e0.hok.kept hk,?_⟩
 ·have hy:scope.names.lookup y=some .cell\/scope.names.lookup y=some .free:=hy
  rcases hy with hy|hy
  ·exact absurd rfl (S.o9 _ (iq hy))
  ·exact L.has y hy
 ·have h1:(ps++fr)[i]?=some y:=h1
  by_cases hi:i<vs.length
  ·rw[jf (by simpa using hi),bX]at h2
   rw[jf (by omega)]at h1;cases e:vs[i]? with
   |none=>rw[e]at h2;cases h2
   |some a =>
    rw[e]at h2;cases h2;obtain⟨u,hu,rv⟩:=r.get e;exact⟨u,rv,.inl ⟨S.par y (dr h1),adB (S.nd.sublist (List.sublist_append_left _ _)) h1 hu⟩⟩
  ·rw[iE (by simpa using hi),au]at h2
   rw[iE (by omega)]at h1;rw[hl]at h2;obtain⟨cc,u,e1,e2,e3⟩:=L.val _ y v h1 h2;exact⟨u,e3,.inr ⟨.inr (S.U8 y (dr h1)),cc,e1,e2.keeps hk⟩⟩
 ·obtain⟨⟨v,z⟩,_⟩:=L.cell y cc h
  exact⟨v,z.keeps hk⟩
 ·show _=(ps++fr).length
  rw[cA,au,cA,L.len,hl]
theorem X6 (S:tF ps fr scope) (hr:A.depth<recursionLimit) (hd:A.handled=none) (e0:ja P w K mg base A outer s H) (ho:s.heap.get? p=some (W.kla_obj "<lambda>" qual params body scope cl pm c ctv)) (hcd:s.heap.CodeRec (.ref c) qual)
  (hb:bindArgs (W.kla_fn "<lambda>" qual params body scope cl pm (.ref c) ctv) ⟨us,[]⟩=pure (ps.zip us)) (hl:vs.length=ps.length) (r:Vals vs us) (L:xn s.heap H scope cl fr zs)
  (hbody:PE (qE P w K mg base (ps++fr) qual scope p (.ref c) cl A outer s H) body t) (hq:t (vs.map some++zs) H Q) :
  codeAny (model P w) A (.call (.ref p) ⟨us,[]⟩) (λr s'=>∃u,r = .ok (.ret u)/\CE outer P w H s Q u s') s:=by
 have lim:s.heap.NoLimit:=e0.mod.nolimit.keeps λb o e=>(e0.bs b o e).1;refine W.kla_callFunE hr ho rfl S.co S.gen rfl hcd ?_;rw[hb];refine aH (wpAny_newFunctionEnv S.o9 (λx hx=>S.par _ (xE hx).1) (λh₁ hns hsb=>?_) S.kind);have hk:∀b o,s.heap.get? b=some o->h₁.get? b=some o:=λb o e=>hsb.extBut b o (bE (aR e)) (aU _ e);refine⟨lim.keeps hk,?_⟩;show codeAny _ _ (.expr body (W.envX qual scope s.heap.objs.size p (.ref c) cl)) _ _;have I:=X7 (qual:=qual) (p:=p) (cd:=.ref c) (tk:=s.toks+(ps.zip us).length) S hd e0 hl r L hns hk;refine W.kla_codeExpr (d8 (hbody [] _ _ H Q I hq) (λv s' ⟨x,H',J,rv,q⟩=>?_) λ_ _ z=>False.elim z);exact⟨v,rfl,x,H',J.os,J.bare,J.base,J.hok,rv,q⟩
end
section
variable {X:Cx} {pins:List (Addr × Obj)} {σ:St} {H:Hp} {s:Shared} {p:Addr} {qual:Str} {params:Arguments} {body:Expr} {scope:Scope} {ps:List Str} {fr:List (Str × Nat)} {A:Around} {t:TE} {Q:VK} {vs:List V} {us:List Value} {E:Value->Shared->Prop}
noncomputable def lamσ(fr:List (Str × Nat))(σ:St):St:=fr.map λq=>σ.getD q.2 none
theorem X4(B:gq X scope fr)(I:Inv X pins σ H s):xn s.heap H scope (cq X.env.cells scope.names []) (fr.map (·.1)) (lamσ fr σ) where
 cell:=λx cc h=>⟨I.cell x cc (B.sub I.ok h),I.dQ x cc (B.sub I.ok h)⟩
 inj:=λx y cc h1 h2=>I.ok.inj x y cc (B.sub I.ok h1) (B.sub I.ok h2)
 has:=λx h=>mn (iq h)
 len:=by unfold lamσ;simp
 val:=λi x v e1 e2=>by
  unfold lamσ at e2;rw[bX]at e1 e2;cases hp:fr[i]? with
  |none=>rw[hp]at e1;cases e1
  |some q =>
   rw[hp]at e1 e2;simp only[xM,xN]at e1 e2;obtain⟨i1,i2⟩:=B.ix q (dr hp);subst e1;have e2':σ[q.2]?=some (some v):=by
    rw[aN]at e2;cases z:σ[q.2]? with
    |none=>rw[z]at e2;cases e2
    |some y=>rw[z]at e2;exact congrArg some e2
   have kX:X.env.kindOf q.1=some .cell\/X.env.kindOf q.1=some .free:=B.free (q.1,.free) (iq i2) rfl;obtain⟨m',hn',hl'⟩:=I.loc;obtain⟨u,r,l⟩:=hl' q.2 q.1 v i1 e2' (.inr kX)
   rcases l with⟨k,_⟩|⟨_,cc,hc,z⟩
   ·rcases kX with w|w<;>(rw[k]at w;cases w)
   ·obtain⟨c',hc'⟩:=mn (cells:=X.env.cells) (acc:=[]) (iq i2)
    have:=B.sub I.ok hc';rw[hc]at this;cases this;exact⟨cc,u,hc',z,r⟩
theorem X5(B:gq X scope fr)(S:tF ps (fr.map (·.1)) scope)(I:Inv X pins σ H s)(L:h9 H p qual params body scope (cq X.env.cells scope.names []))(hA:A.frames=X.A.frames)(hr:A.depth<recursionLimit)(hd:A.handled=none)
  (hb:∀(cl:List (Str × Addr)) (pm cd ctv:Value) (us:List Value),us.length=ps.length->bindArgs (W.kla_fn "<lambda>" qual params body scope cl pm cd ctv) ⟨us,[]⟩=pure (ps.zip us))
  (hbody:∀(c:Addr),PE (qE X.prog X.w X.K X.mg X.base (ps++fr.map (·.1)) qual scope p (.ref c) (cq X.env.cells scope.names []) A X.stack s H) body t)
  (hl:vs.length=ps.length) (r:Vals vs us) (hq:t (vs.map some++lamσ fr σ) H Q):wpAny (model X.prog X.w) A (call (.ref p) us) (EP X pins σ Q) E s:=by
 obtain⟨c,pm,ctv,ho,hcd⟩:=L.get I.hok;have e0:=I.env0;have e1:ja X.prog X.w X.K X.mg X.base A X.stack s H:=⟨hA.trans e0.frames,e0.mod,e0.bs,e0.eP,e0.d9,e0.gG,e0.hok,e0.bare⟩;refine kQ (jR (X6 S hr hd e1 ho hcd (hb _ _ _ _ _ (by rw[<- r.length];exact hl)) hl r (X4 B I) (hbody c) hq) λr s' ⟨u,e,hq⟩=>?_);subst e;exact I.after hq
end
theorem Mj:∀{ns:List Int} {vs:List Value},Vals (ns.map V.int) vs->IntsAre vs ns
 | [],_,.nil=>.nil
 |n::ns,_,.cons r t=>by
  obtain⟨k,rfl⟩:=r;exact .cons n k (Mj t)
theorem aaw{α β:Type}{R:α->β->Prop}{l' m':List β}(h:m'.Perm l'):∀{l:List α},Paired R l l'->∃m,m.Perm l/\Paired R m m':=by
 induction h with
 |nil=>intro l p;exact⟨l,.refl _,p⟩
 |cons x _ ih =>
  intro l p;cases p with
  |cons r t =>
   obtain⟨m,h1,h2⟩:=ih t;exact⟨_::m,h1.cons _,.cons r h2⟩
 |swap x y l =>
  intro l p;cases p with
  |cons r t =>
   cases t with
   |cons r' t'=>exact⟨_,.swap _ _ _,.cons r' (.cons r t')⟩
 |trans _ _ ih1 ih2 =>
  intro l p;obtain⟨m1,h1,h2⟩:=ih2 p;obtain⟨m2,h3,h4⟩:=ih1 h2;exact⟨m2,h3.trans h1,h4⟩
def nY(kz:List Int)(xs ys:List V):Prop:=∃ps:List (Int × V),ps.Perm (kz.zip xs)/\ys=ps.map Prod.snd/\ps.Pairwise λp q=>p.1<=q.1
theorem RL:∀{kz:List Int} {xs:List V} {us:List Value},Vals xs us->Paired (λ(p:Int × V) (q:Int × Value)=>p.1=q.1/\RelV p.2 q.2) (kz.zip xs) (kz.zip us)
 | [],_,_,_=>by simp;exact .nil
 |_::_,_,_,.nil=>by simp;exact .nil
 |k::kz,_,_,.cons r t=>by rw[xF,xF];exact .cons ⟨rfl,r⟩ (RL t)
theorem Oe:∀{l:List (Int × V)} {m:List (Int × Value)},Paired (λ(p:Int × V) (q:Int × Value)=>p.1=q.1/\RelV p.2 q.2) l m->Vals (l.map Prod.snd) (m.map Prod.snd)/\l.map Prod.fst=m.map Prod.fst
 |_,_,.nil=>⟨.nil,rfl⟩
 |_,_,.cons r t=>by
  obtain⟨h1,h2⟩:=Oe t;exact⟨.cons r.2 h1,by rw[cX,cX,h2,r.1]⟩
theorem ab6{kz:List Int}{xs:List V}{us out:List Value}(r:Vals xs us)(h:KskOut false kz us out):∃ys,Vals ys out/\nY kz xs ys:=by
 obtain⟨qs,h1,h2,h3⟩:=h;obtain⟨ps,g1,g2⟩:=aaw h1 (RL (kz:=kz) r);obtain⟨g3,g4⟩:=Oe g2;refine⟨ps.map Prod.snd,by rw[h2];exact g3,ps,g1,rfl,?_⟩;have h5:(qs.map Prod.fst).Pairwise (·<=·):=by
  rw[nz];exact h3.imp λ{a b} z=>z
 rw[<- g4,nz]at h5;exact h5
section
variable {prog:Program} {w:World} {A:Around} {E:Value->Shared->Prop} {s:Shared} {a kS:Addr} {e1:Nat} {keys:Array Value} {its:List Value} {kz:List Int}
end
def lZ(K:W.Frag)(H:Hp)(v:V)(xs:List V):Prop:=
 (∃r n,v = .ref r/\H r=some (.rng 0 n)/\-(2 ^ 62)<=n/\n<2 ^ 62/\xs=(List.range n.toNat).map λ(i:Nat)=>V.int i)\/(∃r,v = .ref r/\ag K H r xs)
section
variable {X:Cx} {pins:List (Addr × Obj)} {σ:St} {H:Hp} {s:Shared} {A:Around} {E:Value->Shared->Prop}
theorem Rv{its:Array Value}{n:Nat}(h:ItemsOf (λi v=>∃t,v=Value.int (0+(i:Nat)*1) t) its n):Vals ((List.range n).map λ(i:Nat)=>V.int i) its.toList:=by
 have go:∀(us:List Value) (k:Nat),(∀(j:Nat) v,us[j]?=some v->∃t,v=Value.int ((k+j:Nat):Int) t)->Vals ((List.range' k us.length).map λ(i:Nat)=>V.int i) us:=by
  intro us
  induction us with
  |nil=>intro k _;exact .nil
  |cons u us ih =>
   intro k hu;rw[jO,List.range'_succ,cX];refine .cons ?_ (ih (k+1) λj v e=>?_)
   ·obtain⟨t,e⟩:=hu 0 u rfl
    exact⟨t,by simpa using e⟩
   ·obtain⟨t,e⟩:=hu (j+1) v (by simpa using e)
    exact⟨t,by rw[e];congr 1;omega⟩
 have:=go its.toList 0 λj v e=>by
  obtain⟨t,q⟩:=h.2 j v (by simpa using e);exact⟨t,by rw[q];congr 1;simp⟩
 rw[fO,h.1]at this;rw[List.range_eq_range'];exact this
theorem Jw{v:V}{u:Value}{xs:List V}{R:List Value->Shared->Prop}(hh:A.handled=none)(I:Inv X pins σ H s)(r:RelV v u)(h:lZ X.K H v xs)(hz:xs.length<=2 ^ 24)(q:∀its s',Vals xs its->Inv X pins σ H s'->R its s'):wpAny (model X.prog X.w) A (collect u) R E s:=by
 have oP:(2:Nat) ^ 24<=sizeLine:=by decide +kernel
 rcases h with⟨a,n,rfl,ha,b1,b2,rfl⟩|⟨a,rfl,ha⟩
 ·obtain rfl:u = .ref a:=r
  obtain⟨t,t',t'',ea⟩:=(show bC X.prog X.w H s.heap a (.rng 0 n)from I.hok a _ ha);have sz:n.toNat<=2 ^ 24:=by simpa using hz
  unfold collect;refine ai (wpAny_runValue (tX entry_proto_collect' ?_));show wpAny _ _ (newList []>>=λl=>again (.builtin "list.__iadd__" ⟨[l,.ref a],[]⟩)) _ _ s;have old:∀b o,s.heap.get? b=some o->(s.heap.push (seqObj "list" #[] 0)).get? b=some o:=λb o e=>aU _ e;have add:codeAny (model X.prog X.w) A (.builtin "list.__iadd__" ⟨[.ref s.heap.objs.size,.ref a],[]⟩) (λr s'=>r = .ok (.ret (.ref s.heap.objs.size))/\∃h' tk acc c',s' = {s with heap:=h',toks:=tk}/\(∀b o,s.heap.get? b=some o->h'.get? b=some o) /\
    h'.get? s.heap.objs.size=some {cls:=.type "list", dict:=none,data:=.seq acc c',slots:=#[]}/\Vals ((List.range n.toNat).map λ(i:Nat)=>V.int i) acc.toList) {s with heap:=s.heap.push (seqObj "list" #[] 0)}:=by
   refine tX entry_list_iadd' ?_;show wpAny _ A.in1 (Builtin.List.listExtendWith (.ref s.heap.objs.size) (.ref a) (.ref s.heap.objs.size)) _ _ _;exact wpAny_extend_range (s:={s with heap:=s.heap.push (seqObj "list" #[] 0)}) (R:=λr s'=>r = .ok (.ret (.ref s.heap.objs.size))/\∃h' tk acc c',s' = {s with heap:=h',toks:=tk}/\(∀b o,s.heap.get? b=some o->h'.get? b=some o) /\
    h'.get? s.heap.objs.size=some {cls:=.type "list", dict:=none,data:=.seq acc c',slots:=#[]}/\Vals ((List.range n.toNat).map λ(i:Nat)=>V.int i) acc.toList)
    (n:=n.toNat) hh (old _ _ ea) (small_one (by omega) (by omega) b1 b2) (by rw[rangeSize_one];split<;>omega) sz s.heap.objs.size (.ref s.heap.objs.size) 0 (cn _ rfl) λh' tk acc c' hk hS hacc =>
     ⟨rfl,h',tk,acc,c',rfl,λb o e=>hk b o (bE (aR e)) (old b o e),hS,Rv hacc⟩
  refine ai (yf (aH ⟨HQ _ (by decide +kernel),jR add λr s' hr=>?_⟩));obtain⟨rfl,h',tk,acc,c',rfl,hk,hS,hv⟩:=hr;show wpAny _ A (load s.heap.objs.size>>=λo=>match o.data with | .seq xs _=>pure xs.toList|_=>unsupported "internal:collect") _ _ _;refine ai (wpAny_load hS ?_);exact aH (q _ _ hv (I.kept hk))
 ·obtain rfl:u = .ref a:=r
  obtain⟨its,hl,rv⟩:∃its:List Value,s.heap.IsList a its.toArray/\Vals xs its:=by
   rcases ha with ha|⟨o,its,n,e1,e2,e0,e3,e4,e6⟩
   ·obtain⟨_,its,n,rv,e⟩:=ha.ok I.hok
    exact⟨its,⟨_,e,rfl,n,rfl⟩,rv⟩
   ·exact⟨its.toList,⟨o,I.cu _ _ e1,e2,n,by simpa using e3⟩,e6⟩
  refine collect_list hl (q _ _ rv (I.kept λb o e=>?_)) (by rw[<- rv.length];omega);rw[lV _ _ _ _ (bE (aR e))];exact aU _ e
end
section
variable {X:Cx} {pins:List (Addr × Obj)} {σ:St} {G0:Hp} {s:Shared} {A:Around} {E:Value->Shared->Prop} {a kS p:Addr} {e1:Nat} {qual x:Str} {params:Arguments} {body:Expr} {scope:Scope} {fr:List (Str × Nat)} {tb:TE}
 {xs:List V} {its:List Value} {R:PySem.Fin->Shared->Prop} {Kp:Nat->V->Hp->Prop}
structure tE (X:Cx) (qual x:Str) (params:Arguments) (body:Expr) (scope:Scope) (fr:List (Str × Nat)) (tb:TE):Prop where
 blk:gq X scope fr
 sc:tF [x] (fr.map (·.1)) scope
 bind:∀(cl:List (Str × Addr)) (pm cd ctv:Value) (us:List Value),us.length=1->bindArgs (W.kla_fn "<lambda>" qual params body scope cl pm cd ctv) ⟨us,[]⟩=pure ([x].zip us)
 run:∀(A:Around) (s:Shared) (H:Hp) (p c:Addr),A.guards=X.A.guards->A.units<=X.A.units+2->A.depth=X.A.depth->PE (qE X.prog X.w X.K X.mg X.base ([x]++fr.map (·.1)) qual scope p (.ref c) (cq X.env.cells scope.names []) A X.stack s H) body tb
theorem sort_keys(hA:A.frames=X.A.frames)(hd:A.handled=none)(hr:A.depth<recursionLimit)(qU:A.guards=X.A.guards/\A.units<=X.A.units+2/\A.depth=X.A.depth)(KL:tE X qual x params body scope fr tb)(hlen:its.length<1000)
  (I:Inv X ((a,seqObj "list" #[] e1)::pins) σ G0 s) (hkS:G0 kS=some (.lst [])) (L:h9 G0 p qual params body scope (cq X.env.cells scope.names [])) (rv:Vals xs its)
  (mono:∀i z H H',Kp i z H->dE kS H H'->Kp i z H') (turn:∀(i:Nat) y,xs[i]?=some y->∀H3,dE kS G0 H3->(∃kv,H3 kS=some (.lst kv))->tb (some y::lamσ fr σ) H3 λz H4=>Kp i z H4/\Same H3 H4)
  (fin:∀(kv:List V) (G:Hp) (s':Shared) (keys:List Value) (n:Nat),kv.length=xs.length->(∀(i:Nat) z,kv[i]?=some z->Kp i z G)->Inv X ((a,seqObj "list" #[] e1)::pins) σ G s'->G kS=some (.lst kv)->dE kS G0 G ->
   s'.heap.get? kS=some (seqObj "list" keys.toArray n)->Vals kv keys->wpAny (model X.prog X.w) A (ksk_end a false its.toArray e1 (.ref kS) keys.toArray) R E s') :
  wpAny (model X.prog X.w) A (ksk_rest a (.ref p) false its.toArray e1 (.ref kS)) R E s:=by
 have big:(1000:Nat)<=sizeLine:=by decide +kernel
 unfold ksk_rest;refine ai (qj (ai ?_))
 first
  |rw[List.forIn_toArray]
  |rw[<- GZ]
 refine ksk_fold (λi s'=>∃(kv:List V) (G:Hp),kv.length=i/\(∀(j:Nat) z,kv[j]?=some z->Kp j z G)/\Inv X ((a,seqObj "list" #[] e1)::pins) σ G s'/\G kS=some (.lst kv)/\dE kS G0 G) its 0 s
  ⟨[],G0,rfl,λj z e=>by simp at e,I,hkS,λb o _ e=>e⟩ ?_ ?_
 ·rintro j v s' hv ⟨kv,G,hl,hK,J,hG,sm⟩
  rw[Nat.zero_add]at hl ⊢;obtain⟨y,hy,ry⟩:∃y,xs[j]?=some y/\RelV y v:=by
   have hj:j<xs.length:=by rw[rv.length];exact(bN.mp hv).1
   obtain⟨u,e1,e2⟩:=rv.get (ay hj);rw[hv]at e1;cases e1;exact⟨_,ay hj,e2⟩
  have hj:j<its.length:=(bN.mp hv).1;have LG:h9 G p qual params body scope (cq X.env.cells scope.names []):=by
   obtain⟨c,o,u,h1,h2,h3⟩:=L.ex;exact⟨c,o,u,sm _ _ (gi h1 hkS (by intro z;cases z)) h1,h2,sm _ _ (gi h3 hkS (by intro z;cases z)) h3⟩
  refine ai (nO (d8 (X5 (E:=λ_ _=>False) KL.blk KL.sc J LG hA hr hd KL.bind (λc=>KL.run A s' G p c qU.1 qU.2.1 qU.2.2) (vs:=[y]) (us:=[v]) rfl (.cons ry .nil) (turn j y hy G sm ⟨_,hG⟩)) (λk s2 ⟨z,H4,J4,rz,hz,s4⟩=>?_) λ_ _ z=>z.elim));have g4:=s4 _ _ hG;obtain⟨_,ks,n,rk,lk,ek⟩:=J4.jy g4;refine ai (listUpdate_at ek rfl ?_ (by show(ks.toArray).size<=sizeLine;rw[bU];omega) (by show(ks.toArray.push k).size<=sizeLine+1;rw[Array.size_push,bU];omega));have J5:=J4.o6 (f:=(·.push k)) (its':=ks++[k]) (ys:=kv++[z]) (t':=s2.toks) g4 ek (by simp) (rk.append (.cons rz .nil)) (by rw[cA,p7];omega);have sx:dE kS H4 (upd H4 kS (.lst (kv++[z]))):=λb o hb e=>by rw[aG hb];exact e
  refine aH ⟨rfl,kv++[z],_,by rw[cA,p7,hl],λi q e=>?_,J5,av,λb o hb e=>sx b o hb (s4 b o (sm b o hb e))⟩
  by_cases hi:i<kv.length
  ·rw[jf hi]at e
   exact mono _ _ _ _ (mono _ _ _ _ (hK i q e) λb o _ e=>s4 b o e) sx
  ·rw[iE (qa hi)]at e
   have hi2:i - kv.length=0:=by
    have:=(bN.mp e).1;rw[p7]at this;omega
   rw[hi2]at e;cases e;obtain rfl:i=j:=by omega
   exact mono _ _ _ _ hz sx
 ·rintro s' ⟨kv,G,hl,hK,J,hG,sm⟩
  obtain⟨_,ks,n,rk,lk,ek⟩:=J.jy hG;refine ai (tS ek rfl ?_);exact fin kv G s' ks n (by rw[hl,rv.length];omega) hK J hG sm ek rk
theorem ab3 {keys:List Value} {n:Nat} {G:Hp} {kv:List V} {st:SortSt} {ys:List V} {out:List Value} (I:Inv X ((a,seqObj "list" #[] e1)::pins) σ G s) (hkS:G kS=some (.lst kv)) (ek:s.heap.get? kS=some (seqObj "list" keys.toArray n))
  (hz:keys.length<=sizeLine) (fa:cW X pins G a) (hf:failedOf st=none) (ho:((arrOf st).map (·.2)).toList=out) (rv:Vals ys out) (rE:out.length<=sizeLine)
  (q:∀s',Inv X pins σ (upd (upd G kS (.lst [])) a (.lst ys)) s'->R (.done (.ret .none)) s'):wpAny (model X.prog X.w) A (ksk_tail a false e1 (.ref kS) st) R E s:=by
 have ea:=(I.pin (a,seqObj "list" #[] e1) (gB _ (b9 ..))).1;have Nz:a≠kS:=λz=>by rw[<- z,fa.1]at hkS;cases hkS
 have ho':(arrOf st).map (·.2)=out.toArray:=by rw[<- ho]
 unfold ksk_tail;dsimp only;refine ai (listUpdate_at ek rfl ?_ (by show(keys.toArray).size<=sizeLine;rw[bU];exact hz) (eD _));have J1:=I.o6 (f:=λ_=>#[]) (its':=[]) (ys:=[]) (t':=s.toks) hkS ek rfl .nil (eD _);have oB:(s.heap.update kS (Obj.mapSeq λ_=>(#[]:Array Value))).get? a=some (seqObj "list" #[] e1):=by rw[lV _ _ _ _ Nz];exact ea
 refine ai (t_ (ai (seqEpoch_at oB rfl (ai (listUpdate_at oB rfl ?_ (eD _) (by show((arrOf st).map (·.2)).size<=sizeLine+1;rw[ho',bU];omega))))));rw[hf];simp only[bne_self_eq_false,iZ,g9];refine aH (q _ ?_);have K1:Inv X pins σ (upd G kS (.lst [])) {s with heap:=s.heap.update kS (Obj.mapSeq λ_=>(#[]:Array Value)),toks:=s.toks}:=J1.vF λp hp=>(J1.pin p (gB _ (ck _ hp)));have gn:upd G kS (.lst []) a=none:=by rw[aG Nz];exact fa.1
 have keep:∀b o,b≠a->(s.heap.update kS (Obj.mapSeq λ_=>(#[]:Array Value))).get? b=some o->((s.heap.update kS (Obj.mapSeq λ_=>(#[]:Array Value))).update a (Obj.mapSeq λ_=>(arrOf st).map (·.2))).get? b=some o:=λb o hb e=>by
  rw[lV _ _ _ _ hb];exact e
 have hit:∃c,((s.heap.update kS (Obj.mapSeq λ_=>(#[]:Array Value))).update a (Obj.mapSeq λ_=>(arrOf st).map (·.2))).get? a=some (seqObj "list" out.toArray c):=by
  rw[ho'];exact⟨_,xO oB λ_=>out.toArray⟩
 obtain⟨c,hit⟩:=hit;have mG:∀b u,upd G kS (.lst []) b=some u->b≠a:=λb u e z=>by rw[z,gn]at e;cases e
 refine Inv.step (s:={s with heap:=s.heap.update kS (Obj.mapSeq λ_=>(#[]:Array Value)),toks:=s.toks}) (g':=s.gens) (d':=s.drawn) (t':=s.toks) (ch:=[a]) K1 (λb hb=>?_) (λb o _ _ hc e _=>keep b o (λz=>hc (by simp[z])) e) (λb o _ _ hc e _=>⟨o.slots,keep b o (λz=>hc (by simp[z])) e⟩) (λb o hc _ n=>?_) (λb o hc e=>⟨o,keep b o (λz=>hc (by simp[z])) e⟩)
  (λb zs e=>?_) (λb o u e=>?_) (λb ps e=>?_) (λm hm=>?_) (λb u e=>?_) K1.bare
 ·obtain rfl:b=a:=by simpa using hb
  exact⟨fa.2.2.2.1,fa.2.1,fa.2.2.2.2.1,fa.2.2.2.2.2⟩
 ·rw[aG (λz=>hc (by simp[z]))];exact n
 ·rw[aG (mG b _ e)];exact e
 ·rw[aG (mG b _ e)];exact e
 ·exact⟨#[],by rw[aG (mG b _ e),e];simp⟩
 ·obtain⟨o,es,ep,h1,h2⟩:=hm
  exact⟨o,es,ep,keep _ o fa.2.1.symm h1,h2⟩
 ·by_cases hb:b=a
  ·subst hb
   rw[av]at e;cases e;exact⟨by rw[rv.length];exact rE,out,c,rv,hit⟩
  ·rw[aG hb]at e
   refine(K1.hok b u e).stay (λd v hd' r=>keep d v ?_ r) (λd r=>by rw[aG (mG d _ r)];exact r) (λd xs r=>by rw[aG (mG d _ r)];exact r) λd ob u r=>by rw[aG (mG d _ r)];exact r
   rcases hd' with rfl|hd'
   ·exact hb
   ·exact mG d _ hd'
end
section
variable {X:Cx} {pins:List (Addr × Obj)} {σ:St} {H:Hp} {s:Shared} {qual x:Str} {params:Arguments} {body:Expr} {scope:Scope} {fr:List (Str × Nat)} {tb:TE} {p:Addr} {v:V} {u:Value} {xs:List V} {kz:List Int} {Q:VK} {E:Value->Shared->Prop}
end
section
variable {X:Cx} {x:Str} {params:Arguments} {body e:Expr} {scope:Scope} {fr:List (Str × Nat)} {tb ti:TE} {c P:Addr} {p0 rO kpos pos:Pos}
noncomputable def vt(B:V->Hp->Prop):List V->Hp->Prop:=λvs H=>match vs with
 | [v]=>B v H
 |_=>False
theorem vt.get{B:V->Hp->Prop}{vs:List V}{H:Hp}(h:vt B vs H):∃v,vs = [v]/\B v H:=by
 unfold vt at h
 split at h
 ·exact⟨_,rfl,h⟩
 ·exact h.elim
theorem lZ.same{K:W.Frag}{H H':Hp}{v:V}{xs:List V}(h:lZ K H v xs)(s:Same H H'):lZ K H' v xs:=by
 rcases h with⟨r,n,h1,h2,h3⟩|⟨r,h1,h2⟩
 ·exact .inl ⟨r,n,h1,s _ _ h2,h3⟩
 ·exact .inr ⟨r,h1,s.seq h2⟩
end
def aby:List V->Hp->VK->Prop:=λvs H Q=>∃j,vs = [.int j]/\∀p,H p=none->Q (.ref p) (upd H p (.rng 0 j))
theorem Tg {X:Cx}:dD X (.type "range") aby:=by
 intro pins s σ H vs us Q I rv h;obtain⟨j,rfl,q⟩:=h;obtain⟨u,rfl,t,rfl⟩:=rv.one;refine call_range_1 ⟨.ref s.heap.objs.size,_,I.laid (o:=.rng 0 j) (λb u e=>aU _ e) (aW _) ⟨_,_,_,cn _ rfl⟩,rfl,q _ I.fresh⟩
section
variable {P:Program} {w:World} {K:W.Frag} {mg:Str->Option Value} {base:Heap}
end
end L2
namespace My
open PySem PySem.Spec PyProof.Rows L2
noncomputable def fN(n:Nat)(R:Nat->Nat->Bool)(a:Nat):Nat:=((List.range n).map (R a)).count true
theorem aaS{α β:Type}{f:α->β}{l:List α}{m:List β}(h:m.Perm (l.map f)):∃l':List α,m=l'.map f/\l'.Perm l:=by
 generalize e:l.map f=k at h
 induction h generalizing l with
 |nil =>
  have:l = []:=by simpa using e
  subst this;exact⟨[],rfl,.nil⟩
 |cons x _ ih =>
  cases l with
  |nil=>cases e
  |cons a l =>
   rw[cX,tG]at e;obtain⟨l',h1,h2⟩:=ih e.2;exact⟨a::l',by rw[h1,cX,e.1],h2.cons a⟩
 |swap x y _ =>
  cases l with
  |nil=>cases e
  |cons a l =>
   cases l with
   |nil=>simp at e
   |cons c l =>
    rw[cX,cX,tG,tG]at e;refine⟨c::a::l,?_,.swap _ _ _⟩;rw[cX,cX,e.1,e.2.1,e.2.2]
 |trans _ _ ih1 ih2 =>
  obtain⟨l1,h1,h2⟩:=ih2 e;obtain⟨l2,h3,h4⟩:=ih1 h1.symm;exact⟨l2,h3,h4.trans h2⟩
section
variable {P:Program} {w:World} {K:W.Frag} {mg:Str->Option Value} {base:Heap} {f:Addr} {fd:FuncData}
end
end My
namespace Cl
section
variable (g:Nat->List Nat) (b:Nat)
noncomputable def climbs:Nat->Nat->List (List Nat)
 |0,a=>if a=b then[[a]]else[]
 |k+1,a=>if a=b then[[a]]else(g a).flatMap λd=>(climbs k d).map (a::·)
end
section
variable {g:Nat->List Nat} {b:Nat} {u:Nat->Nat}
noncomputable def W(g:Nat->List Nat)(b N a:Nat):Nat:=(climbs g b N a).length
structure nh (g:Nat->List Nat) (b a:Nat) (c:List Nat):Prop where
 hd:c.head? = some a
 last:c.getLast? = some b
 go:∀i,i+1<c.length->c.getD (i+1) 0∈g (c.getD i 0)
theorem Xs{a x:Nat}{c:List Nat}(h:nh g b a (a::x::c)):nh g b x (x::c)/\x∈g a:=by
 refine⟨⟨rfl,by rw[<- h.last,List.getLast?_cons_cons],λi hi=>?_⟩,?_⟩
 ·have:=h.go (i+1) (by simpa using hi)
  simpa using this
 ·have:=h.go 0 (by simp)
  simpa using this
end
end Cl
namespace My
open PySem PySem.Spec PyProof.Rows L2
noncomputable def gA(n:Nat)(R:Nat->Nat->Bool)(a:Nat):List Nat:=if a<n then Iu n R a else[]
theorem vb{n:Nat}{R:Nat->Nat->Bool}{a d:Nat}:d∈gA n R a ↔ a<n/\d<n/\fq n R a d=true:=by
 unfold gA
 by_cases h:a<n
 ·rw[if_pos h]
  unfold Iu;rw[cR,fw];exact⟨λz=>⟨h,z⟩,λz=>z.2⟩
 ·rw[if_neg h]
  exact⟨λz=>(nomatch z),λz=>absurd z.1 h⟩
theorem zg{p q:Nat->Bool}{x:Nat}:∀{l:List Nat},x∈l->(∀y∈l,p y=true->q y=true)->p x=false->q x=true->l.countP p<l.countP q
 | [],h,_,_,_=>nomatch h
 |y::l,h,hpq,h1,h2=>by
  rw[List.countP_cons,List.countP_cons];have le:l.countP p<=l.countP q:=List.countP_mono_left λz hz=>hpq z (ck _ hz)
  by_cases e:x=y
  ·subst e
   rw[h1,h2];simp;omega
  ·have hx:x∈l:=by
    rcases bx.mp h with z|z
    ·exact absurd z e
    ·exact z
   have:=zg hx (λz hz=>hpq z (ck _ hz)) h1 h2;have hy:=hpq y b9;cases hp:p y with
   |false=>simp;omega
   |true=>rw[hy hp];simp;omega
theorem mY(n:Nat)(R:Nat->Nat->Bool)(a:Nat):fN n R a=(List.range n).countP (R a):=by
 unfold fN;rw[List.count,List.countP_map];exact List.countP_congr λx _=>by simp
theorem GL(n:Nat)(R:Nat->Nat->Bool)(a:Nat):fN n R a<=n:=by
 rw[mY];have:=List.countP_le_length (p:=R a) (l:=List.range n);rw[kJ]at this;exact this
theorem Rr{n:Nat}{R:Nat->Nat->Bool}(G:Good n R):∀a d,d∈gA n R a->fN n R d<fN n R a:=λa d h=>by
 obtain⟨ha,hd,hs⟩:=vb.mp h;have hb:=Gw hs;unfold cZ at hb;rw[bJ,fP,f6]at hb;rw[mY,mY];refine zg (x:=a) (fw.mpr ha) (λy hy h=>G.trans ha hd (fw.mp hy) hb.2 h) ?_ (G.refl a ha);cases e:R d a with
 |false=>rfl
 |true=>exact absurd (G.anti a d ha hd hb.2 e) hb.1
section
variable {n:Nat} {R:Nat->Nat->Bool}
end
structure Md (n:Nat) (R:Nat->Nat->Bool) (J N:Nat->Nat->Nat):Prop where
 G:Good n R
 j:∀a b,a<n->b<n->bH n R a b (J a b)
 m:∀a b,a<n->b<n->bO n R a b (N a b)
 md:∀a b c,a<n->b<n->c<n->R a c=true->J a (N b c)=N (J a b) c
section
variable {n:Nat} {R:Nat->Nat->Bool} {J N:Nat->Nat->Nat} {a b c x y:Nat}
theorem Md.fF(M:Md n R J N)(ha:a<n)(hb:b<n):J a b<n:=(M.j a b ha hb).1
theorem Md.mlt(M:Md n R J N)(ha:a<n)(hb:b<n):N a b<n:=(M.m a b ha hb).1
theorem Md.jl(M:Md n R J N)(ha:a<n)(hb:b<n):R a (J a b)=true/\R b (J a b)=true:=by
 have h:=(M.j a b ha hb).2 _ (M.fF ha hb);rw[M.G.refl _ (M.fF ha hb)]at h;have h:=h.symm
 rwa [bJ]at h
theorem Md.ml(M:Md n R J N)(ha:a<n)(hb:b<n):R (N a b) a=true/\R (N a b) b=true:=by
 have h:=(M.m a b ha hb).2 _ (M.mlt ha hb);rw[M.G.refl _ (M.mlt ha hb)]at h;have h:=h.symm
 rwa [bJ]at h
theorem Md.oW(M:Md n R J N)(ha:a<n)(hb:b<n)(hc:c<n)(h1:R a c=true)(h2:R b c=true):R (J a b) c=true:=by
 rw[(M.j a b ha hb).2 c hc,h1,h2];rfl
theorem Md.mF(M:Md n R J N)(ha:a<n)(hb:b<n)(hc:c<n)(h1:R c a=true)(h2:R c b=true):R c (N a b)=true:=by
 rw[(M.m a b ha hb).2 c hc,h1,h2];rfl
theorem Md.jc(M:Md n R J N)(ha:a<n)(hb:b<n):J a b=J b a:=
 M.G.anti _ _ (M.fF ha hb) (M.fF hb ha) (M.oW ha hb (M.fF hb ha) (M.jl hb ha).2 (M.jl hb ha).1) (M.oW hb ha (M.fF ha hb) (M.jl ha hb).2 (M.jl ha hb).1)
theorem Md.mc(M:Md n R J N)(ha:a<n)(hb:b<n):N a b=N b a:=
 M.G.anti _ _ (M.mlt ha hb) (M.mlt hb ha) (M.mF hb ha (M.mlt ha hb) (M.ml ha hb).2 (M.ml ha hb).1) (M.mF ha hb (M.mlt hb ha) (M.ml hb ha).2 (M.ml hb ha).1)
theorem Md.Cp(M:Md n R J N)(ha:a<n)(hb:b<n)(h:R a b=true):J a b=b:=M.G.anti _ _ (M.fF ha hb) hb (M.oW ha hb hb h (M.G.refl _ hb)) (M.jl ha hb).2
theorem Md.Nr(M:Md n R J N)(ha:a<n)(hb:b<n)(h:R a b=true):N a b=a:=M.G.anti _ _ (M.mlt ha hb) ha (M.ml ha hb).1 (M.mF ha hb ha (M.G.refl _ ha) h)
open Classical in
noncomputable def rk (G:Good n R) (x:Nat):Nat:=if h:∃y,y<n/\x<n/\fq n R y x=true then rk G h.choose+1 else 0
termination_by n - fN n R x
decreasing_by
 obtain⟨h1,h2,h3⟩:=h.choose_spec;have:=Rr G _ _ (vb.mpr ⟨h1,h2,h3⟩);have:=GL n R h.choose;omega
end
noncomputable def dc{ρ:Type}(inn out:ρ->Nat):Nat->List ρ->Nat->Prop
 |s,[],e=>s=e
 |s,r::l,e=>inn r=s/\dc inn out (out r) l e
section
variable {ρ τ:Type} {inn out:ρ->Nat} {s e e':Nat} {l l':List ρ}
theorem dc.app:∀{s:Nat} {l:List ρ},dc inn out s l e->dc inn out e l' e'->dc inn out s (l++l') e'
 |s,[],h,h'=>by cases(show s=e from h);exact h'
 |s,r::l,h,h'=>⟨h.1,dc.app h.2 h'⟩
theorem dc.map{f:τ->ρ}:∀{s:Nat} {l:List τ},dc (λr=>inn (f r)) (λr=>out (f r)) s l e->dc inn out s (l.map f) e
 |s,[],h=>h
 |s,r::l,h=>⟨h.1,dc.map h.2⟩
theorem Ng{x:Nat->Nat}{p:Nat->Bool}:∀(m:Nat),(∀q,q<m->p q=false->x q=x (q+1))->dc x (λq=>x (q+1)) (x 0) ((List.range m).filter p) (x m)
 |0,_=>rfl
 |m+1,h=>by
  rw[jg,pU];refine dc.app (Ng m λq hq=>h q (by omega)) ?_;cases hp:p m with
  |true=>rw[List.filter_cons_of_pos hp];exact⟨rfl,rfl⟩
  |false=>rw[List.filter_cons_of_neg (by rw[hp];decide)];exact h m (nD _) hp
theorem dc.get:∀{s:Nat} {l:List ρ},dc inn out s l e->∀(k:Nat) (r:ρ),l[k]?=some r->(s::l.map out).getD k 0=inn r
 |s,[],_,k,r,h=>by simp at h
 |s,q::l,h,0,r,hr=>by
  obtain rfl:q=r:=by simpa using hr
  exact h.1.symm
 |s,q::l,h,k+1,r,hr=>by
  have:=dc.get h.2 k r (by simpa using hr);exact this
theorem dc.last:∀{s:Nat} {l:List ρ},dc inn out s l e->(s::l.map out).getD l.length 0=e
 |s,[],h=>h
 |s,q::l,h=>by
  have:=dc.last h.2;exact this
theorem dc.JV:∀{s:Nat} {l:List ρ},dc inn out s l e->s≠e->∃r∈l,out r=e
 |s,[],h,ne=>absurd h ne
 |s,q::l,h,ne=>by
  by_cases c:out q=e
  ·exact⟨q,b9,c⟩
  ·obtain⟨r,h1,h2⟩:=dc.JV h.2 c
   exact⟨r,ck _ h1,h2⟩
end
theorem wq{α:Type}{rk:α->Int}:∀{l l':List α},l.Pairwise (λx y=>rk x<rk y)->l'.Pairwise (λx y=>rk x<rk y)->(∀x,x∈l ↔ x∈l')->l=l'
 | [],[],_,_,_=>rfl
 | [],y::l',_,_,h=>absurd ((h y).mpr b9) (by simp)
 |x::l,[],_,_,h=>absurd ((h x).mp b9) (by simp)
 |x::l,y::l',h1,h2,h=>by
  rw[List.pairwise_cons]at h1 h2;have e:x=y:=by
   rcases bx.mp ((h x).mp b9)with z|z
   ·exact z
   ·rcases bx.mp ((h y).mpr b9)with w|w
    ·exact w.symm
    ·have q1:=h1.1 y w
     have q2:=h2.1 x z;omega
  subst e;rw[wq h1.2 h2.2 λz=>⟨λhz=>?_,λhz=>?_⟩]
  ·rcases bx.mp ((h z).mp (ck _ hz))with w|w
   ·have:=h1.1 z hz
    rw[w]at this;omega
   ·exact w
  ·rcases bx.mp ((h z).mpr (ck _ hz))with w|w
   ·have:=h2.1 z hz
    rw[w]at this;omega
   ·exact w
theorem Kh{α β:Type}{f g:α->List β}:∀{l:List α},(∀x∈l,f x=g x)->l.flatMap f=l.flatMap g
 | [],_=>rfl
 |x::l,h=>by rw[tI,tI,h x b9,Kh λy hy=>h y (ck _ hy)]
structure cz (n:Nat) (R:Nat->Nat->Bool) (cs:List Nat):Prop where
 pos:0<cs.length
 lt:∀x∈cs,x<n
 adj:∀i,i+1<cs.length->cs.getD i 0≠cs.getD (i+1) 0/\R (cs.getD i 0) (cs.getD (i+1) 0)=true
theorem qO{cs:List Nat}{i:Nat}(h:i<cs.length):cs.getD i 0∈cs:=by
 rw[aN,ay h];exact fu h
section
variable {n:Nat} {R:Nat->Nat->Bool} {J N:Nat->Nat->Nat} {a a' b b':Nat} {cs ds:List Nat} {r:Nat × Nat}
theorem cz.at(h:cz n R cs){i:Nat}(hi:i<cs.length):cs.getD i 0<n:=h.lt _ (qO hi)
theorem cz.le(G:Good n R)(h:cz n R cs){i:Nat}:∀{j:Nat},i<=j->j<cs.length->R (cs.getD i 0) (cs.getD j 0)=true
 |0,h1,h2=>by
  obtain rfl:i=0:=by omega
  exact G.refl _ (h.at h2)
 |j+1,h1,h2=>by
  by_cases e:i=j+1
  ·rw[e];exact G.refl _ (h.at h2)
  ·exact G.trans (h.at (by omega)) (h.at (by omega)) (h.at h2) (cz.le G h (by omega) (by omega)) (h.adj j h2).2
theorem ac2(G:Good n R)(ha:a<n)(hb:b<n)(ne:a≠b)(h:R a b=true):fN n R b<fN n R a:=by
 rw[mY,mY];refine zg (fw.mpr ha) (λy hy q=>G.trans ha hb (fw.mp hy) h q) ?_ (G.refl a ha);cases e:R b a with
 |false=>rfl
 |true=>exact absurd (G.anti _ _ ha hb h e) ne
theorem ac4(G:Good n R)(ha:a<n):0<fN n R a:=by
 rw[mY];exact List.countP_pos_iff.mpr ⟨a,fw.mpr ha,G.refl a ha⟩
theorem cz.up(G:Good n R)(h:cz n R cs){i:Nat}:∀{j:Nat},i<j->j<cs.length->fN n R (cs.getD j 0)<fN n R (cs.getD i 0)
 |0,h1,_=>by omega
 |j+1,h1,h2=>by
  have q:=ac2 G (h.at (by omega)) (h.at h2) (h.adj j h2).1 (h.adj j h2).2
  by_cases e:i=j
  ·rw[e];exact q
  ·exact Hw q (cz.up G h (by omega) (by omega))
theorem cz.len(G:Good n R)(h:cz n R cs):cs.length<=n:=by
 have go:∀j,j<cs.length->j+fN n R (cs.getD j 0)<=n:=by
  intro j
  induction j with
  |zero=>intro hj;have:=GL n R (cs.getD 0 0);omega
  |succ j ih =>
   intro hj;have h1:=ih (by omega);have h2:=h.up G (i:=j) (j:=j+1) (by omega) hj;omega
 have:=go (cs.length - 1) (by have:=h.pos;omega);have:=ac4 G (h.at (i:=cs.length - 1) (by have:=h.pos;omega));have:=h.pos;omega
theorem cz.pw(G:Good n R)(h:cz n R cs):cs.Pairwise (λx y=>-(fN n R x:Int) < -(fN n R y:Int)):=by
 rw[lS];intro i j hi hj hij;have:=h.up G hij hj;rw[aN,aN,ay hi,ay hj]at this;simp only[xK]at this;omega
theorem Md.RB(M:Md n R J N)(ha:a<n)(ha':a'<n)(hb:b<n)(hb':b'<n)(haa:R a a'=true)(hbb:R b b'=true):J (N a' b') (J a (N a' b))=J a (N a' b')/\N (N a' b') (J a (N a' b))=J (N a b') (N a' b)/\R (J a (N a' b)) (J a (N a' b'))=true/\R (N a' b) (N a' b')=true:=by
 have hh:=M.mlt ha' hb';have hk:=M.mlt ha' hb;have kh:R (N a' b) (N a' b')=true:=M.mF ha' hb' hk (M.ml ha' hb).1 (M.G.trans hk hb hb' (M.ml ha' hb).2 hbb);have hx:=M.fF ha hk;have hx':=M.fF ha hh;have xx:R (J a (N a' b)) (J a (N a' b'))=true:=M.oW ha hk hx' (M.jl ha hh).1 (M.G.trans hk hh hx' kh (M.jl ha hh).2);refine⟨?_,?_,xx,kh⟩
 ·refine M.G.anti _ _ (M.fF hh hx) hx' (M.oW hh hx hx' (M.jl ha hh).2 xx) (M.oW ha hh (M.fF hh hx) ?_ (M.jl hh hx).1)
  exact M.G.trans ha hx (M.fF hh hx) (M.jl ha hk).1 (M.jl hh hx).2
 ·have md:=M.md (N a' b) a (N a' b') hk ha hh kh
  have e:N a (N a' b')=N a b':=by
   have q1:=M.mlt ha hh;have q2:=M.mlt ha hb';refine M.G.anti _ _ q1 q2 (M.mF ha hb' q1 (M.ml ha hh).1 (M.G.trans q1 hh hb' (M.ml ha hh).2 (M.ml ha' hb').2)) (M.mF ha hh q2 (M.ml ha hb').1 (M.mF ha' hb' q2 (M.G.trans q2 ha ha' (M.ml ha hb').1 haa) (M.ml ha hb').2))
  rw[e]at md;rw[M.mc hh hx,M.jc ha hk,<- md,M.jc hk (M.mlt ha hb')]
theorem Md.RC(M:Md n R J N)(ha:a<n)(ha':a'<n)(hb:b<n)(hb':b'<n)(haa:R a a'=true)(hbb:R b b'=true):
  J (N a b') (N a' b)=N a' b' ↔ J a (N a' b)=J a (N a' b'):=by
 obtain⟨z1,z2,z3,z4⟩:=M.RB ha ha' hb hb' haa hbb;have hh:=M.mlt ha' hb';have hx:=M.fF ha (M.mlt ha' hb)
 constructor
 ·intro e
  rw[e]at z2;have q:=(M.ml hh hx).2;rw[z2]at q;rw[<- z1];exact(M.Cp hh hx q).symm
 ·intro e
  rw[<- z2];refine M.Nr hh hx ?_;rw[e];exact(M.jl ha hh).2
noncomputable def cw(J N:Nat->Nat->Nat)(cs ds:List Nat)(r:Nat × Nat):Nat:=J (N (cs.getD r.1 0) (ds.getD (r.2+1) 0)) (N (cs.getD (r.1+1) 0) (ds.getD r.2 0))
noncomputable def bS(N:Nat->Nat->Nat)(cs ds:List Nat)(r:Nat × Nat):Nat:=N (cs.getD (r.1+1) 0) (ds.getD (r.2+1) 0)
noncomputable def eI(J N:Nat->Nat->Nat)(cs ds:List Nat)(r:Nat × Nat):Bool:=!decide (cw J N cs ds r=bS N cs ds r)
noncomputable def j_(J N:Nat->Nat->Nat)(cs ds:List Nat)(r:Nat × Nat):Nat:=J (cs.getD r.1 0) (N (cs.getD (r.1+1) 0) (ds.getD r.2 0))
noncomputable def dR(J N:Nat->Nat->Nat)(cs ds:List Nat)(r:Nat × Nat):Nat:=J (cs.getD r.1 0) (bS N cs ds r)
noncomputable def jH(J N:Nat->Nat->Nat)(cs ds:List Nat)(p:Nat):List (Nat × Nat):=((List.range (ds.length - 1)).filter λq=>eI J N cs ds (p,q)).map λq=>(p,q)
noncomputable def aZ(J N:Nat->Nat->Nat)(cs ds:List Nat):List (Nat × Nat):=(List.range (cs.length - 1)).flatMap (jH J N cs ds)
noncomputable def bp(J N:Nat->Nat->Nat)(cs ds:List Nat):List (Nat × Nat):=(List.range (ds.length - 1)).flatMap λq=>((List.range (cs.length - 1)).filter λp=>eI J N cs ds (p,q)).map λp=>(p,q)
theorem iS:r∈aZ J N cs ds ↔ r.1+1<cs.length/\r.2+1<ds.length/\cw J N cs ds r≠bS N cs ds r:=by
 unfold aZ jH;simp only[lR,cS,cR,fw,eI,fP,f6]
 constructor
 ·rintro⟨p,h1,q,⟨h2,h3⟩,rfl⟩
  exact⟨by show p+1<_;omega,by show q+1<_;omega,h3⟩
 ·rintro⟨h1,h2,h3⟩
  exact⟨r.1,by omega,r.2,⟨by omega,h3⟩,rfl⟩
theorem vg:r∈bp J N cs ds ↔ r∈aZ J N cs ds:=by
 rw[iS];unfold bp;simp only[lR,cS,cR,fw,eI,fP,f6]
 constructor
 ·rintro⟨q,h1,p,⟨h2,h3⟩,rfl⟩
  exact⟨by show p+1<_;omega,by show q+1<_;omega,h3⟩
 ·rintro⟨h1,h2,h3⟩
  exact⟨r.2,by omega,r.1,⟨by omega,h3⟩,rfl⟩
noncomputable def gK(r:Nat × Nat):Int:=(r.2:Int)*1000+(r.1:Int)
theorem acM(h:cs.length<=1000):(bp J N cs ds).Pairwise (λx y=>gK x<gK y):=by
 unfold bp;rw[R4];refine⟨λq _=>?_,tO.imp λ{p q} hpq x hx y hy=>?_⟩
 ·rw[nz]
  refine(tO.filter _).imp λ{x y} hxy=>?_;unfold gK;dsimp only;omega
 ·obtain⟨x',hx',rfl⟩:=cS.mp hx
  obtain⟨y',hy',rfl⟩:=cS.mp hy;have:=fw.mp (cR.mp hx').1;have:=fw.mp (cR.mp hy').1;unfold gK;dsimp only;omega
theorem Kl:(aZ J N cs ds).Nodup:=by
 unfold aZ jH List.Nodup;rw[R4];refine⟨λq _=>?_,tO.imp λ{p q} hpq x hx y hy=>?_⟩
 ·rw[nz]
  refine(tO.filter _).imp λ{x y} hxy e=>?_;injection e with _ e
  omega
 ·obtain⟨x',_,rfl⟩:=cS.mp hx
  obtain⟨y',_,rfl⟩:=cS.mp hy;intro e;injection e with e _
  omega
theorem aca{tn:List (Nat × Nat)}(h:cs.length<=1000)(hp:tn.Perm (aZ J N cs ds))(hs:tn.Pairwise (λx y=>gK x<=gK y)):tn=bp J N cs ds:=by
 have nd:tn.Nodup:=hp.nodup_iff.mpr Kl;refine wq ?_ (acM h) λx=>(hp.mem_iff).trans vg.symm;rw[lS]at hs ⊢;intro i j hi hj hij;have h1:=hs i j hi hj hij;have ne:tn[i]≠tn[j]:=(lS.mp nd) i j hi hj hij;have m1:=iS.mp (hp.mem_iff.mp (fu hi));have m2:=iS.mp (hp.mem_iff.mp (fu hj));generalize tn[i]=x at h1 ne m1;generalize tn[j]=y at h1 ne m2;obtain⟨x1,x2⟩:=x;obtain⟨y1,y2⟩:=y;unfold gK at h1 ⊢;dsimp only at h1 m1 m2 ⊢;have:¬ (x1=y1/\x2=y2):=λz=>ne (by rw[z.1,z.2]);omega
structure Two (n:Nat) (R:Nat->Nat->Bool) (J N:Nat->Nat->Nat) (cs ds:List Nat):Prop where
 M:Md n R J N
 c:cz n R cs
 d:cz n R ds
 first:cs.getD 0 0=ds.getD 0 0
 last:cs.getD (cs.length - 1) 0=ds.getD (ds.length - 1) 0
theorem Two.swap(T:Two n R J N cs ds):Two n R J N ds cs:=⟨T.M,T.d,T.c,T.first.symm,T.last.symm⟩
theorem Two.sym(T:Two n R J N cs ds)(h1:r.1+1<cs.length)(h2:r.2+1<ds.length):cw J N ds cs r.swap=cw J N cs ds r/\bS N ds cs r.swap=bS N cs ds r:=by
 have p1:=T.c.at (i:=r.1) (by omega);have p2:=T.c.at h1;have q1:=T.d.at (i:=r.2) (by omega);have q2:=T.d.at h2;unfold cw bS;dsimp only[Prod.swap];rw[T.M.mc q1 p2,T.M.mc q2 p1,T.M.mc q2 p2,T.M.jc (T.M.mlt p2 q1) (T.M.mlt p1 q2)];exact⟨rfl,rfl⟩
structure yj (n:Nat) (R:Nat->Nat->Bool) (J N:Nat->Nat->Nat) (lo hi inn out:Nat):Prop where
 ll:lo<n
 lh:hi<n
 li:inn<n
 CV:out<n
 ne:inn≠out
 r:R inn out=true
 ne':lo≠hi
 r':R lo hi=true
 up:J hi inn=out
 dn:N hi inn=lo
theorem Two.row(T:Two n R J N cs ds)(h:r∈aZ J N cs ds):yj n R J N (cw J N cs ds r) (bS N cs ds r) (j_ J N cs ds r) (dR J N cs ds r):=by
 obtain⟨h1,h2,h3⟩:=iS.mp h;have p1:=T.c.at (i:=r.1) (by omega);have p2:=T.c.at h1;have q1:=T.d.at (i:=r.2) (by omega);have q2:=T.d.at h2;have pp:=(T.c.adj _ h1).2;have qq:=(T.d.adj _ h2).2;obtain⟨z1,z2,z3,z4⟩:=T.M.RB p1 p2 q1 q2 pp qq;have z5:=T.M.RC p1 p2 q1 q2 pp qq;have hh:=T.M.mlt p2 q2;have hx:=T.M.fF p1 (T.M.mlt p2 q1);refine⟨T.M.fF (T.M.mlt p1 q2) (T.M.mlt p2 q1),hh,hx,T.M.fF p1 hh,λe=>h3 (z5.mpr e),z3,h3,?_,z1,z2⟩;have:=(T.M.ml hh hx).1;rw[z2]at this;exact this
theorem Two.Nf(T:Two n R J N cs ds){p:Nat}(hp:p+1<cs.length):dc (j_ J N cs ds) (dR J N cs ds) (cs.getD p 0) (jH J N cs ds p) (cs.getD (p+1) 0):=by
 have p1:=T.c.at (i:=p) (by omega);have p2:=T.c.at hp;have pp:=(T.c.adj _ hp).2;have hc:=T.c.pos;have hd:=T.d.pos;have q0:=T.d.at hd;have ql:=T.d.at (i:=ds.length - 1) (by omega);have G:=T.M.G;have L:=Ng (x:=λq=>J (cs.getD p 0) (N (cs.getD (p+1) 0) (ds.getD q 0))) (p:=λq=>eI J N cs ds (p,q)) (ds.length - 1) (λq hq hn=>by
  have q1:=T.d.at (i:=q) (by omega);have q2:=T.d.at (i:=q+1) (by omega);refine(T.M.RC p1 p2 q1 q2 pp (T.d.adj q (by omega)).2).mp ?_;show cw J N cs ds (p,q)=bS N cs ds (p,q);exact rW (by simpa only[eI,G6]using hn))
 have e0:J (cs.getD p 0) (N (cs.getD (p+1) 0) (ds.getD 0 0))=cs.getD p 0:=by
  rw[T.M.jc p1 (T.M.mlt p2 q0)];refine T.M.Cp (T.M.mlt p2 q0) p1 (G.trans (T.M.mlt p2 q0) q0 p1 (T.M.ml p2 q0).2 ?_);rw[<- T.first];exact T.c.le G (eD _) (by omega)
 have e1:J (cs.getD p 0) (N (cs.getD (p+1) 0) (ds.getD (ds.length - 1) 0))=cs.getD (p+1) 0:=by
  rw[T.M.Nr p2 ql (by rw[<- T.last];exact T.c.le G (by omega) (by omega))];exact T.M.Cp p1 p2 pp
 rw[e0,e1]at L;exact dc.map (f:=λq=>(p,q)) L
theorem Two.Nc(T:Two n R J N cs ds):dc (j_ J N cs ds) (dR J N cs ds) (cs.getD 0 0) (aZ J N cs ds) (cs.getD (cs.length - 1) 0):=by
 have go:∀m,m<=cs.length - 1->dc (j_ J N cs ds) (dR J N cs ds) (cs.getD 0 0) ((List.range m).flatMap (jH J N cs ds)) (cs.getD m 0):=by
  intro m
  induction m with
  |zero=>intro _;exact rfl
  |succ m ih =>
   intro hm;rw[jg,xv];refine dc.app (ih (by omega)) ?_;rw[tI,Hh,h_];exact T.Nf (by omega)
 exact go _ (aW _)
theorem GD(T:Two n R J N cs ds):bp J N cs ds=(aZ J N ds cs).map Prod.swap:=by
 unfold bp aZ jH;rw[List.map_flatMap];refine Kh λq hq=>?_;rw[dY];have e:(List.range (cs.length - 1)).filter (λp=>eI J N cs ds (p,q))=(List.range (cs.length - 1)).filter (λp=>eI J N ds cs (q,p)):=by
  refine Hg λp hp=>?_;have h:=T.sym (r:=(p,q)) (by have:=fw.mp hp;show p+1<_;omega) (by have:=fw.mp hq;show q+1<_;omega);unfold eI;rw[<- h.1,<- h.2];rfl
 rw[e];rfl
theorem Yy(T:Two n R J N cs ds)(h:r∈aZ J N cs ds):r.swap∈aZ J N ds cs:=by
 obtain⟨h1,h2,h3⟩:=iS.mp h;obtain⟨s1,s2⟩:=T.sym h1 h2;exact iS.mpr ⟨h2,h1,by rw[s1,s2];exact h3⟩
theorem Two.abH(T:Two n R J N cs ds)(h:r∈aZ J N cs ds):yj n R J N (cw J N cs ds r) (bS N cs ds r) (j_ J N ds cs r.swap) (dR J N ds cs r.swap):=by
 obtain⟨h1,h2,_⟩:=iS.mp h;obtain⟨s1,s2⟩:=T.sym h1 h2;have:=T.swap.row (Yy T h);rw[s1,s2]at this;exact this
theorem Two.aat(T:Two n R J N cs ds)(h:r∈aZ J N cs ds):dR J N ds cs r.swap=J (ds.getD r.2 0) (bS N cs ds r):=by
 obtain⟨h1,h2,_⟩:=iS.mp h;obtain⟨s1,s2⟩:=T.sym h1 h2;unfold dR;rw[s2];rfl
noncomputable def bZ(J N:Nat->Nat->Nat)(cs ds:List Nat):List Nat:=cs.getD 0 0::(aZ J N cs ds).map (dR J N cs ds)
theorem mE:(bZ J N cs ds).length=(aZ J N cs ds).length+1:=by unfold bZ;simp
theorem CT{k:Nat}(h:(aZ J N cs ds)[k]?=some r):(bZ J N cs ds).getD (k+1) 0=dR J N cs ds r:=by
 unfold bZ;rw[List.getD_cons_succ,aN,bX,h];rfl
theorem Two.CQ(T:Two n R J N cs ds){k:Nat}(h:(aZ J N cs ds)[k]?=some r):(bZ J N cs ds).getD k 0=j_ J N cs ds r:=T.Nc.get k r h
theorem Two.Nb(T:Two n R J N cs ds):(bZ J N cs ds).getD ((bZ J N cs ds).length - 1) 0=cs.getD (cs.length - 1) 0:=by
 rw[mE];exact T.Nc.last
theorem Two.oZ(T:Two n R J N cs ds):cz n R (bZ J N cs ds):=by
 refine⟨by rw[mE];omega,λx hx=>?_,λi hi=>?_⟩
 ·unfold bZ at hx
  rcases bx.mp hx with rfl|hx
  ·exact T.c.at T.c.pos
  ·obtain⟨r,hr,rfl⟩:=cS.mp hx
   exact(T.row hr).CV
 ·rw[mE]at hi
  have e:(aZ J N cs ds)[i]?=some (aZ J N cs ds)[i]:=ay (by omega);rw[T.CQ e,CT e];have:=T.row (fu (l:=aZ J N cs ds) (n:=i) (by omega));exact⟨this.ne,this.r⟩
theorem Two.Km(T:Two n R J N cs ds):(aZ J N cs ds).length+1<=n:=by
 have:=T.oZ.len T.M.G
 rwa [mE]at this
theorem Two.sub(T:Two n R J N cs ds){x:Nat}(hx:x∈cs):x∈bZ J N cs ds:=by
 obtain⟨i,hi,rfl⟩:=ie hx;have e:cs[i]=cs.getD i 0:=by rw[aN,ay hi];rfl
 rw[e];cases i with
 |zero=>exact b9
 |succ i =>
  obtain⟨r,h1,h2⟩:=(T.Nf hi).JV (T.c.adj i hi).1;refine ck _ (cS.mpr ⟨r,?_,h2⟩);exact lR.mpr ⟨i,fw.mpr (by omega),h1⟩
theorem Two.grown(T:Two n R J N cs ds):(bZ J N cs ds).filter (λx=>decide (x∈cs))=cs:=by
 refine wq (rk:=λx=>-(fN n R x:Int)) ((T.oZ.pw T.M.G).filter _) (T.c.pw T.M.G) λx=>?_;rw[cR,cJ];exact⟨λh=>h.2,λh=>⟨T.sub h,h⟩⟩
end
noncomputable def inB(n:Nat)(zs:List Int):Bool:=zs.all λz=>decide (0<=z/\z<(n:Int))
noncomputable def uf(p:Nat->Nat->Bool)(zs:List Int):Bool:=(List.range (zs.length - 1)).all λi=>p (zs.getD i 0).toNat (zs.getD (i+1) 0).toNat
noncomputable def di(n:Nat)(R:Nat->Nat->Bool)(zs:List Int):Bool:=!decide (zs.length=0)&&(inB n zs&&uf (cZ R) zs)
theorem Bu{zs:List Int}{j:Nat}(h:j<zs.length):(zs.map V.int).getD j .non = .int (zs.getD j 0):=by
 rw[aN,aN,bX,ay h];rfl
theorem Vf{zs:List Int}{j:Nat}:(zs.drop 1).getD j 0=zs.getD (j+1) 0:=by
 rw[aN,aN,List.getElem?_drop,Ht]
theorem Mh{n:Nat}{zs:List Int}(h:inB n zs=true){i:Nat}(hi:i<zs.length):∃k:Nat,zs.getD i 0=(k:Int)/\k<n:=by
 unfold inB at h;rw[fX]at h;have:=h (zs.getD i 0) (by rw[aN,ay hi];exact fu hi);rw[cJ]at this;exact⟨(zs.getD i 0).toNat,by omega,by omega⟩
theorem Iw(n:Nat)(f:Nat->Bool):((List.range n).map f).all id=(List.range n).all f:=by
 rw[List.all_map];rfl
theorem Sn{α:Type}(d:α)(l:List α)(f:α->Bool):(List.range l.length).all (λi=>f (l.getD i d))=l.all f:=by
 rw[dm,fX,fX]
 constructor
 ·intro h x hx
  obtain⟨i,hi,e⟩:=ie hx;have:=h i (by simpa using hi);rw[aN,ay hi]at this;rw[<- e];exact this
 ·intro h i hi
  have hi':i<l.length:=by simpa using hi
  rw[aN,ay hi'];exact h _ (fu hi')
section
variable {P:Program} {w:World} {K:W.Frag} {mg:Str->Option Value} {base:Heap} {f:Addr} {fd:FuncData}
abbrev sy:Stmt:=top 39
theorem Pq:bh ["order","things"] ["order","things"] (aB sy):=⟨rfl,rfl,rfl,by decide +kernel,rfl,by decide +kernel,by decide +kernel⟩
def Fz(K:W.Frag)(C:Addr):Sp:=λvs H Q _=>∃(p t n:Nat) (R:Nat->Nat->Bool) (zs:List Int),vs = [.ref p,.ref t]/\fQ C H p n R/\n<=24/\ag K H t (zs.map V.int)/\zs.length<=1000/\∀H',Same H H'->Q (.bl (di n R zs)) H'
theorem ZG {C:Addr} (F:aS K "is_chain" "is_chain" sy f fd) (T:Txt mg) (TC:gP K C) (og:aC P w K mg base "is_thing" ["count","number"] 2 wz) (yE:aC P w K mg base "is_below" ["order","a","b"] 1 (Fy C)) :
  aO P w K mg base aX 3 f fd ["order","things"] (Fz K C):=by
 refine F.ok Pq (λvs H Q E h=>?_) (λcdv A outer s H vs Q E hr h=>?_)
 ·obtain⟨p,t,n,R,zs,rfl,_⟩:=h
  rfl
 ·obtain⟨p,t,n,R,zs,rfl,hO,hn,hT,oP,kk⟩:=h
  have nd:=Pq.nd;obtain⟨dx,vp,vr,vj,vm,o1,_⟩:=id hO;refine⟨_,(ax (bB (bu dH (aY (cI (K:=K) rfl) rfl T.len cT (ae (pv 1) ah)) ak (a_ _)) (aA (aQ dj)) bD)
   (ax (bB (dA (cg (aY (qA (K:=K) rfl rfl) rfl T.all boot_all (ae (c6 (own:=["thing"]) (fr:=[("order", 0)]) rfl (cp (aB sy) ["order","things"] rfl rfl (by decide +kernel)) (dk (K:=K) rfl (pv 1)) (λ_ _ _ _=>⟨(bf (i:=0) (by decide +kernel:(["thing","order"]:List Str).Nodup) rfl (Or.inl rfl)),c9,(aL og hr rfl (ae (fe (K:=K) rfl (pv 1) rfl) (ae (pv 0) ah)))⟩)) ah)))) (aA (aQ dj)) bD)
   (aA (aQ (aY (qA (K:=K) rfl rfl) rfl T.all boot_all (ae (c6 (own:=["a","b"]) (fr:=[("order", 0)]) rfl (cp (aB sy) ["order","things"] rfl rfl (by decide +kernel)) (vE (K:=K) true true rfl rfl T.zip (ae (pv 1) (ae (eL (fk (K:=K) rfl) (pv 1) (dS ak) fh) ah))) (λ_ _ _ _=>⟨(lA (K:=K) (i:=0) (j:=1) rfl rfl (by decide +kernel:(["a","b","order"]:List Str).Nodup) rfl rfl rfl rfl),c9,(aL yE hr rfl (ae (pv 2) (ae (pv 0) (ae (pv 1) ah (ao nofun)) (ao nofun)) (ao nofun)))⟩)) ah)))))),?_⟩
  refine⟨_,rfl,t,_,rfl,.inl hT,rfl,_,rfl,?_⟩;rw[au];refine bq (λh0=>?_) (λh0=>?_)
  ·have:=kk _ (Same.refl _)
   unfold di at this;have e:zs.length=0:=by
    have h1:=rW h0;injection h1 with h1
    omega
   rw[e]at this;exact this
  ·have e0:decide (zs.length=0)=false:=by
    refine cx λz=>h0 ?_;rw[z];exact cy rfl
   have kk:∀H',Same H H'->Q (.bl (inB n zs&&uf (cZ R) zs)) H':=λH' hs=>by
    have:=kk H' hs;unfold di at this;rw[e0,G7,gO]at this;exact this
   refine⟨_,rfl,t,rfl,⟨_,hT⟩,λD hD=>eQ (λj=>.bl (decide (0<=zs.getD j 0/\zs.getD j 0<(n:Int)))) (src_list hT) hD (by rw[au];exact c7 (by omega)) (λj H3 Kt hj hs hk=>?_) (λH3 hs hl=>?_)⟩
   ·rw[au]at hj
    have eg:=Bu hj;refine⟨_,rfl,p,C,dx,_,_,rfl,hs _ _ o1,TC.cl,TC.nC,uA _ _ _ _ _,_,rfl,⟨(n:Int),_,by rw[eg];rfl⟩,λv H4 s4 hv=>?_⟩;rw[hv (n:Int) _ (by rw[eg];rfl)];exact hk _ s4
   ·rw[au]at hl
    have hl3:H3 D=some (.lst (((List.range zs.length).map λj=>decide (0<=zs.getD j 0/\zs.getD j 0<(n:Int))).map V.bl)):=by rw[hl,dY];rfl
    refine⟨D,_,rfl,ag.of hl3,_,rfl,?_⟩;rw[Iw,Sn (0:Int) zs λz=>decide (0<=z/\z<(n:Int))];show if(!inB n zs)=true then _ else _
    cases hin:inB n zs with
    |false =>
     refine eR ?_;have:=kk _ hs;rw[hin,lO]at this;exact this
    |true =>
     refine bA ?_;have BM:=hs.seq hT;refine⟨_,rfl,_,rfl,_,rfl,t,_,rfl,BM,λq hq=>?_⟩;rw[Jz,<- ny];refine⟨t,q,zs.map V.int,(zs.drop 1).map V.int,rfl,(Same.put hq).seq BM,ag.of av,λD2 hD2=>eQ (λj=>.bl (cZ R (zs.getD j 0).toNat (zs.getD (j+1) 0).toNat)) (wI (n:=zs.length - 1) (c1:=true) (c2:=true) ((Same.put hq).seq BM) (ag.of av) (by simp)) hD2 (c7 (by omega)) (λj H4 Kt hj gH hk=>?_) (λH4 gH cL=>?_)⟩
     ·obtain⟨a,ea,ha⟩:=Mh hin (show j<zs.length by omega)
      obtain⟨b,eb,hb⟩:=Mh hin (show j+1<zs.length by omega);have e1:(zs.map V.int).getD j .non = .int (a:Int):=by rw[Bu (by omega),ea]
      have e2:((zs.drop 1).map V.int).getD j .non = .int (b:Int):=by rw[Bu (by rw[jP];omega),Vf,eb]
      have V2:=hO.iY ((hs.trans (Same.put hq)).trans gH);refine⟨_,rfl,_,rfl,_,rfl,p,n,a,b,R,by rw[e1,e2];rfl,V2,ha,hb,λH5 s5=>?_⟩;have:=hk _ s5;rw[ea,eb]at this;exact this
     ·have fE:H4 D2=some (.lst (((List.range (zs.length - 1)).map λj=>cZ R (zs.getD j 0).toNat (zs.getD (j+1) 0).toNat).map V.bl)):=by rw[cL,dY];rfl
      refine⟨D2,_,rfl,ag.of fE,?_⟩;rw[Iw];have:=kk _ ((hs.trans (Same.put hq)).trans gH);rw[hin,gO]at this;exact this
end
end My
namespace L2
open PySem PySem.Spec PyProof.Rows
section
variable {prog:Program} {w:World} {A:Around} {E:Value->Shared->Prop} {s:Shared} {c1 c2:Bool} {z TI TO i1 i2 l1 l2 T0:Addr} {k1 k2:Nat} {xs ys:Array Value} {x y:Value} {b:Bool} {o0:Obj}
theorem ac8{M:Model}{a:Addr}{Q:Option Obj->Shared->Prop}(h:Q (s.heap.get? a) s):wpAny M A (loadIfAlive a) Q E s:=λ_ _ _=>h
theorem RD{Q:Bool->Shared->Prop}(hz:dX s.heap z TI TO (rawInt T0) b)(hT0:s.heap.get? T0=some o0)
  (hQ:∀h',dX h' z TI TO (rawInt T0) true->Heap.SameBut z s.heap h'->Q false {s with heap:=h'}):wpAny (model prog w) A (Builtin.SmallTypes.ownedTupleIsFree (.ref z)) Q E s:=by
 unfold Builtin.SmallTypes.ownedTupleIsFree;refine ai (dw hz rfl (x:=rawInt T0) rfl ?_);show wpAny _ _ (loadIfAlive ((T0:Int)).toNat>>=_) _ _ _;refine ai (ac8 ?_);rw[dW,hT0];simp only[Option.isNone_some,iZ,g9];refine ai (dw hz rfl (x:=.bool b) rfl ?_);cases b with
 |true =>
  have e:((Value.bool true) != (Value.bool true))=false:=by decide
  simp only[e,iZ,g9];refine ai (aH (aH ?_));exact hQ s.heap hz (Heap.SameBut.refl ..)
 |false =>
  have e:((Value.bool false) != (Value.bool true))=true:=by decide
  simp only[e,iP];refine ai (nU hz (by simp) λg hz' e'=>aH ?_);exact hQ g hz' e'
theorem adq{Q:Value->Shared->Prop}(D:ZipApart z TI TO i1 i2 l1 l2)(hz:dX s.heap z TI TO (rawInt T0) b)(hT0:s.heap.get? T0=some o0)(hTI:IsPair s.heap TI (.ref i1) (.ref i2))(h1:bw c1 s.heap i1 l1 k1)(h2:bw c2 s.heap i2 l2 k2)(hl1:bI c1 s.heap l1 xs)(hl2:bI c2 s.heap l2 ys)(hx:xs[k1]?=some x)(hy:ys[k2]?=some y)(hQ:∀h',dX h' z TI TO (rawInt T0) true->bw c1 h' i1 l1 (k1+1)->bw c2 h' i2 l2 (k2+1)->IsPair h' s.heap.objs.size x y->h'.objs.size=s.heap.objs.size+1 ->
   (∀c o,c≠z->c≠i1->c≠i2->s.heap.get? c=some o->h'.get? c=some o)->Q (.ref s.heap.objs.size) {s with heap:=h'}) :
  wpAny (model prog w) A (Builtin.«zip.__next__» ⟨[.ref z],[]⟩) (λfin s'=>∃v,fin = .done (.ret v)/\Q v s') E s:=by
 show wpAny _ _ (field (.ref z) 2>>=_) _ _ _;refine ai (dw hz rfl (x:=.bool false) rfl ?_);show wpAny _ _ (field (.ref z) 3>>=_) _ _ _;refine ai (dw hz rfl (x:=.ref TI) rfl ?_);refine ai (ji hTI rfl ?_);show wpAny _ _ (Builtin.SmallTypes.ownedTupleIsFree (.ref z)>>=_) _ _ _;refine ai (RD hz hT0 λg1 hz1 e1=>?_);simp only[iZ,g9];refine ai ?_;rw[<- GZ];simp only[pW,pX];refine ai (ai (fB ?_));show wpAny _ _ (Builtin.SmallTypes.nextOf (.ref i1)>>=_) _ _ _;refine ai (mH (h1.at λo q=>e1.extBut _ o D.i1z q) (hl1.at λo q=>e1.extBut _ o D.l1z q) hx λg2 h1' e2=>aH (aH ?_));refine ai (ai (fB ?_));show wpAny _ _ (Builtin.SmallTypes.nextOf (.ref i2)>>=_) _ _ _;have mW:∀o,s.heap.get? i2=some o->g2.get? i2=some o:=λo q=>e2.extBut _ o D.i12.symm (e1.extBut _ o D.i2z q);have mX:∀o,s.heap.get? l2=some o->g2.get? l2=some o:=λo q=>e2.extBut _ o D.l2i1 (e1.extBut _ o D.l2z q);refine ai (mH (h2.at mW) (hl2.at mX) hy λg3 h2' e3=>aH (aH (aH ?_)));refine ai (wpAny_newTuple ?_ (by show 2<=sizeLine;decide));have sz:g3.objs.size=s.heap.objs.size:=by rw[e3.1,e2.1,e1.1]
 have W_:dX g3 z TI TO (rawInt T0) true:=e3.extBut _ _ D.i2z.symm (e2.extBut _ _ D.i1z.symm hz1);refine aH ⟨_,rfl,?_⟩;show Q (.ref g3.objs.size) _;have k3:∀c o,c≠z->c≠i1->c≠i2->s.heap.get? c=some o->g3.get? c=some o:=λc o q1 q2 q3 q=>e3.extBut _ _ q3 (e2.extBut _ _ q2 (e1.extBut _ _ q1 q));have hp:IsPair (g3.push {cls:=.type "tuple", data:=.seq #[x,y]}) g3.objs.size x y:=cn _ rfl;rw[sz]at hp ⊢;exact hQ _ (aU _ W_) ((h1'.at λo q=>e3.extBut _ o D.i12 q).at λo q=>aU _ q) (h2'.at λo q=>aU _ q) hp (by rw[eE,sz]) λc o q1 q2 q3 q=>aU _ (k3 c o q1 q2 q3 q)
theorem adx{Q:Fin->Shared->Prop}(hh:A.handled=none)(D:ZipApart z TI TO i1 i2 l1 l2)(hz:dX s.heap z TI TO (rawInt T0) b)(hT0:s.heap.get? T0=some o0)(hTI:IsPair s.heap TI (.ref i1) (.ref i2))(h1:bw c1 s.heap i1 l1 k1)(h2:bw c2 s.heap i2 l2 k2)(hl1:bI c1 s.heap l1 xs)(hl2:bI c2 s.heap l2 ys)(hend:xs[k1]?=none\/ys[k2]?=none)
  (hE:∀h' e,(∀c o,c≠z->c≠i1->c≠i2->s.heap.get? c=some o->h'.get? c=some o)->(∃o,h'.get? e=some o/\o.cls = .type "StopIteration")->E (.ref e) {s with heap:=h'}) :
  wpAny (model prog w) A (Builtin.«zip.__next__» ⟨[.ref z],[]⟩) Q E s:=by
 show wpAny _ _ (field (.ref z) 2>>=_) _ _ _;refine ai (dw hz rfl (x:=.bool false) rfl ?_);show wpAny _ _ (field (.ref z) 3>>=_) _ _ _;refine ai (dw hz rfl (x:=.ref TI) rfl ?_);refine ai (ji hTI rfl ?_);show wpAny _ _ (Builtin.SmallTypes.ownedTupleIsFree (.ref z)>>=_) _ _ _;refine ai (RD hz hT0 λg1 hz1 e1=>?_);simp only[iZ,g9];refine ai ?_;rw[<- GZ];simp only[pW,pX];refine ai (ai (fB ?_));show wpAny _ _ (Builtin.SmallTypes.nextOf (.ref i1)>>=_) _ _ _;have a1:=h1.at λo q=>e1.extBut _ o D.i1z q;have b1:=hl1.at λo q=>e1.extBut _ o D.l1z q;cases hx:xs[k1]? with
 |none=>exact ai (rT hh a1 b1 hx λg2 e e2 he=>hE g2 e (λc o q1 q2 q3 q=>e2 _ _ q2 (e1.extBut _ _ q1 q)) he)
 |some x =>
  have hy:ys[k2]?=none:=by
   rcases hend with h|h
   ·rw[hx]at h;cases h
   ·exact h
  refine ai (mH a1 b1 hx λg2 h1' e2=>aH (aH ?_));refine ai (ai (fB ?_));show wpAny _ _ (Builtin.SmallTypes.nextOf (.ref i2)>>=_) _ _ _;have mW:∀o,s.heap.get? i2=some o->g2.get? i2=some o:=λo q=>e2.extBut _ o D.i12.symm (e1.extBut _ o D.i2z q);have mX:∀o,s.heap.get? l2=some o->g2.get? l2=some o:=λo q=>e2.extBut _ o D.l2i1 (e1.extBut _ o D.l2z q);exact ai (rT hh (h2.at mW) (hl2.at mX) hy λg3 e e3 he=>hE g3 e (λc o q1 q2 q3 q=>e3 _ _ q3 (e2.extBut _ _ q2 (e1.extBut _ _ q1 q))) he)
theorem adv{Q:Option Value->Shared->Prop}(D:ZipApart z TI TO i1 i2 l1 l2)(hz:dX s.heap z TI TO (rawInt T0) b)(hT0:s.heap.get? T0=some o0)(hTI:IsPair s.heap TI (.ref i1) (.ref i2))(h1:bw c1 s.heap i1 l1 k1)(h2:bw c2 s.heap i2 l2 k2)(hl1:bI c1 s.heap l1 xs)(hl2:bI c2 s.heap l2 ys)(hx:xs[k1]?=some x)(hy:ys[k2]?=some y)(hQ:∀h',dX h' z TI TO (rawInt T0) true->bw c1 h' i1 l1 (k1+1)->bw c2 h' i2 l2 (k2+1)->IsPair h' s.heap.objs.size x y->h'.objs.size=s.heap.objs.size+1 ->
   (∀c o,c≠z->c≠i1->c≠i2->s.heap.get? c=some o->h'.get? c=some o)->Q (some (.ref s.heap.objs.size)) {s with heap:=h'}):wpAny (model prog w) A (pyNext (.ref z)) Q E s:=by
 have hT:s.TypeIs (.ref z) "zip" :=⟨_,hz,rfl⟩;unfold pyNext;exact ai (nO (nQ (name:=Str.ofString "__next__") hT lU (lY lU hT xS
  (adq D hz hT0 hTI h1 h2 hl1 hl2 hx hy λh' a1 a2 a3 a4 a5 a6=>aH (hQ h' a1 a2 a3 a4 a5 a6)) (xR _))))
theorem ado{Q:Option Value->Shared->Prop}(hh:A.handled=none)(D:ZipApart z TI TO i1 i2 l1 l2)(hz:dX s.heap z TI TO (rawInt T0) b)(hT0:s.heap.get? T0=some o0)(hTI:IsPair s.heap TI (.ref i1) (.ref i2))(h1:bw c1 s.heap i1 l1 k1)(h2:bw c2 s.heap i2 l2 k2)(hl1:bI c1 s.heap l1 xs)(hl2:bI c2 s.heap l2 ys)(hend:xs[k1]?=none\/ys[k2]?=none)
  (hQ:∀h',(∀c o,c≠z->c≠i1->c≠i2->s.heap.get? c=some o->h'.get? c=some o)->Q none {s with heap:=h'}):wpAny (model prog w) A (pyNext (.ref z)) Q E s:=by
 have hT:s.TypeIs (.ref z) "zip" :=⟨_,hz,rfl⟩;unfold pyNext;refine ai (nO (nQ (name:=Str.ofString "__next__") hT lU (lY lU hT xS (adx hh D hz hT0 hTI h1 h2 hl1 hl2 hend λh' e hk he=>?_) (xR _))));obtain⟨o,ho,hc⟩:=he;refine ai (wpAny_isInstance (T:= "StopIteration") (b:=true) ⟨o,ho,hc⟩ isSubtype_stop ?_);exact aH (hQ _ hk)
structure Laid (N0:Nat) (xs ys:Array Value) (h:Heap) (ts:List Addr):Prop where
 at_:∀(j:Nat) t,ts[j]?=some t->∃x y,xs[j]?=some x/\ys[j]?=some y/\IsPair h t x y
 nd:ts.Nodup
 ge:∀t∈ts,N0<=t
theorem Laid.lt{N0:Nat}{h:Heap}{ts:List Addr}(L:Laid N0 xs ys h ts){t:Addr}(ht:t∈ts):t<h.objs.size:=by
 obtain⟨j,hj,e⟩:=ie ht;obtain⟨x,y,_,_,q⟩:=L.at_ j t (by rw[ay hj,e]);exact aR q
theorem Laid.more{N0:Nat}{h h':Heap}{ts:List Addr}(L:Laid N0 xs ys h ts)(k:∀t∈ts,∀o,h.get? t=some o->h'.get? t=some o):Laid N0 xs ys h' ts:=
 ⟨λj t e=>let⟨x,y,e1,e2,e3⟩:=L.at_ j t e;⟨x,y,e1,e2,k t (dr e) _ e3⟩,L.nd,L.ge⟩
theorem Laid.snoc{N0:Nat}{h:Heap}{ts:List Addr}{t:Addr}(L:Laid N0 xs ys h ts)(hx:xs[ts.length]?=some x)(hy:ys[ts.length]?=some y)(ht:IsPair h t x y)(hn:t ∉ ts)(hg:N0<=t):Laid N0 xs ys h (ts++[t]):=by
 refine⟨λj u e=>?_,?_,λu hu=>?_⟩
 ·by_cases hj:j<ts.length
  ·rw[jf hj]at e
   exact L.at_ j u e
  ·have e0:j=ts.length:=by
    have h1:=(bN.mp e).1;simp at h1;omega
   subst e0;rw[iE (aW _),HB]at e;cases e;exact⟨x,y,hx,hy,ht⟩
 ·exact Ho.mpr ⟨L.nd,by simp,λa ha b hb=>by simp at hb;subst hb;exact λe=>hn (e▸ha)⟩
 ·rcases gy.mp hu with hu|hu
  ·exact L.ge u hu
  ·simp at hu
   subst hu;exact hg
theorem bw.lt{c:Bool}{h:Heap}{it a:Addr}{i:Nat}(x:bw c h it a i):it<h.objs.size:=by
 obtain⟨o,e,_⟩:=x.obj;exact aR e
theorem adu{A:Around}{R:Result->Shared->Prop}(hh:A.handled=none)(D:ZipApart z TI TO i1 i2 l1 l2){S:Addr}{n N0:Nat}(hS:S≠z/\S≠TI/\S≠i1/\S≠i2/\S≠l1/\S≠l2)(hn:n=min xs.size ys.size)(hz0:n<=100000)(res:Value):∀(k i:Nat) (s:Shared) (ts:List Addr) (T0:Addr) (b:Bool) (c:Nat),n - i=k->i<=n->ts.length=i->ts[0]?=some T0->dX s.heap z TI TO (rawInt T0) b->IsPair s.heap TI (.ref i1) (.ref i2)->bw c1 s.heap i1 l1 i->bw c2 s.heap i2 l2 i->bI c1 s.heap l1 xs->bI c2 s.heap l2 ys ->
   Laid N0 xs ys s.heap ts->(∀t∈ts,t≠S/\t≠z/\t≠i1/\t≠i2)->N0<=s.heap.objs.size->s.heap.get? S=some {cls:=.type "list", dict:=none,data:=.seq (ts.map Value.ref).toArray c,slots:=#[]} ->
   (∀h' tk ts' c',(∀b o,b≠S->b≠z->b≠i1->b≠i2->s.heap.get? b=some o->h'.get? b=some o)->ts'.length=n->Laid N0 xs ys h' ts'->(∀t∈ts',t≠S) ->
    h'.get? S=some {cls:=.type "list", dict:=none,data:=.seq (ts'.map Value.ref).toArray c',slots:=#[]}->R (.ok (.ret res)) {s with heap:=h',toks:=tk}) ->
   codeAny (model prog w) A (.builtin "list.extend.loop" ⟨[.ref S,.ref z,res],[]⟩) R s:=by
 intro k
 induction k with
 |zero =>
  intro i s ts T0 b c hk hi hts hT0 hz hTI h1 h2 hl1 hl2 hL hne hN hSl hR;have hin:i=n:=by omega
  obtain⟨x0,y0,_,_,BK⟩:=hL.at_ 0 T0 hT0;refine tX HS ?_;rw[HF qg _];show wpAny _ A.in1 (pyNext (.ref z)>>=_) _ _ s;have hend:xs[i]?=none\/ys[i]?=none:=by
   by_cases h:xs.size<=i
   ·exact .inl (by simpa using h)
   ·exact .inr (by have:ys.size<=i:=(by omega);simpa using this)
  refine ai (ado hh D hz BK hTI h1 h2 hl1 hl2 hend λh' hk'=>?_);refine aH ?_;exact hR h' s.toks ts c (λb o q1 q2 q3 q4 e=>hk' b o q2 q3 q4 e) (by omega) (hL.more λt ht o e=>hk' t o (hne t ht).2.1 (hne t ht).2.2.1 (hne t ht).2.2.2 e) (λt ht=>(hne t ht).1) (hk' S _ hS.1 hS.2.2.1 hS.2.2.2.1 hSl)
 |succ k ih =>
  intro i s ts T0 b c hk hi hts hT0 hz hTI h1 h2 hl1 hl2 hL hne hN hSl hR;have hlt:i<n:=by omega
  obtain⟨x0,y0,_,_,BK⟩:=hL.at_ 0 T0 hT0;obtain⟨x,hx⟩:∃x,xs[i]?=some x:=⟨xs[i]'(by omega),by simp[show i<xs.size by omega]⟩;obtain⟨y,hy⟩:∃y,ys[i]?=some y:=⟨ys[i]'(by omega),by simp[show i<ys.size by omega]⟩;refine tX HS ?_;rw[HF qg _];show wpAny _ A.in1 (pyNext (.ref z)>>=_) _ _ s;refine ai (adv D hz BK hTI h1 h2 hl1 hl2 hx hy λh' a1 a2 a3 a4 a5 a6=>?_);have lM:z<s.heap.objs.size:=aR hz;have yk:S<s.heap.objs.size:=aR hSl;have oQ:=h1.lt;have oR:=h2.lt;have hS':=a6 S _ hS.1 hS.2.2.1 hS.2.2.2.1 hSl;show wpAny _ A.in1 (updateSeq S (·.push (.ref s.heap.objs.size))>>=_) _ _ _;refine ai ?_;have hsz:((ts.map Value.ref).toArray).size=i:=by simp[hts]
  refine uc hS' rfl (aH ⟨plainId_quiet qg _,?_⟩) (by rw[hsz];exact b_ (by omega) (eB (show 100000<sizeLine by decide))) (by rw[Array.size_push,hsz];exact b_ (show i+1<=100001 by omega) (eB (show 100001<sizeLine+1 by decide)));have oth:∀b o,b≠S->h'.get? b=some o->(h'.update S (Obj.mapSeq (·.push (.ref s.heap.objs.size)))).get? b=some o:=λb o hb e=>(ik _ _ (bQ hb)).trans e;have nS:s.heap.objs.size≠S:=dO yk;have YW:s.heap.objs.size ∉ ts:=λhm=>absurd (hL.lt hm) (dM _);have BL:=il (Obj.mapSeq (·.push (Value.ref s.heap.objs.size))) hS' rfl;have hL':Laid N0 xs ys (h'.update S (Obj.mapSeq (·.push (.ref s.heap.objs.size)))) (ts++[s.heap.objs.size]):=by
   refine Laid.snoc (x:=x) (y:=y) (hL.more λt ht o e=>oth _ _ (hne t ht).1 (a6 t o (hne t ht).2.1 (hne t ht).2.2.1 (hne t ht).2.2.2 e)) (by rw[hts];exact hx) (by rw[hts];exact hy) (oth _ _ nS a4) YW hN
  refine ih (i+1) {s with heap:=h'.update S (Obj.mapSeq (·.push (.ref s.heap.objs.size)))} (ts++[s.heap.objs.size]) T0 true (c+1) (by omega) hlt (by simp[hts]) ?_ (oth _ _ (bQ hS.1) a1) (oth _ _ (bQ hS.2.1) (a6 TI _ D.TIz D.TIi1 D.TIi2 hTI))
   (a2.at λo e=>oth _ o (bQ hS.2.2.1) e) (a3.at λo e=>oth _ o (bQ hS.2.2.2.1) e) ((hl1.at λo e=>a6 l1 o D.l1z D.l1i1 D.l1i2 e).at λo e=>oth _ o (bQ hS.2.2.2.2.1) e) ((hl2.at λo e=>a6 l2 o D.l2z D.l2i1 D.l2i2 e).at λo e=>oth _ o (bQ hS.2.2.2.2.2) e)
   hL' ?_ ?_ ?_ ?_
  ·rw[jf (bN.mp hT0).1]
   exact hT0
  ·intro t ht
   rcases gy.mp ht with ht|ht
   ·exact hne t ht
   ·simp at ht
    subst ht;exact⟨nS,dO lM,dO oQ,dO oR⟩
  ·show N0<=(h'.update S _).objs.size
   rw[tU,a5];omega
  ·show(h'.update S _).get? S=_
   rw[BL];simp[Obj.mapSeq]
  ·intro h'' tk ts' c' g1 g2 g3 g4 g5
   refine hR h'' tk ts' c' (λb o q1 q2 q3 q4 e=>g1 b o q1 q2 q3 q4 (oth b o q1 (a6 b o q2 q3 q4 e))) g2 g3 g4 g5
theorem adA:typeLookup (.type "zip") "__len__" = pure none:=by rw[typeLookup_type,builtinLookup_eq_fast];kernel_rfl
theorem adz:typeLookup (.type "zip") "__length_hint__" = pure none:=by rw[typeLookup_type,builtinLookup_eq_fast];kernel_rfl
theorem adt{A:Around}{R:Result->Shared->Prop}{a0 b0:Value}(hh:A.handled=none)(D:ZipApart z TI TO i1 i2 l1 l2){S:Addr}{n N0 c:Nat}(hS:S≠z/\S≠TI/\S≠i1/\S≠i2/\S≠l1/\S≠l2)(K_:S≠TO)(hn:n=min xs.size ys.size)(hz0:n<=100000)(res:Value)(hz:IsZip s.heap z TI TO .none)(hTI:IsPair s.heap TI (.ref i1) (.ref i2))(hTO:IsPair s.heap TO a0 b0)(h1:bw c1 s.heap i1 l1 0)(h2:bw c2 s.heap i2 l2 0)(hl1:bI c1 s.heap l1 xs)(hl2:bI c2 s.heap l2 ys)
  (hN:N0<=s.heap.objs.size) (hSl:s.heap.get? S=some {cls:=.type "list", dict:=none,data:=.seq #[] c,slots:=#[]})
  (hR:∀h' tk ts' c',(∀b o,b≠S->b≠z->b≠TO->b≠i1->b≠i2->s.heap.get? b=some o->h'.get? b=some o)->ts'.length=n->Laid N0 xs ys h' ts'->(∀t∈ts',t≠S) ->
    h'.get? S=some {cls:=.type "list", dict:=none,data:=.seq (ts'.map Value.ref).toArray c',slots:=#[]}->R (.ok (.ret res)) {s with heap:=h',toks:=tk}) :
   codeAny (model prog w) A (.builtin "list.extend.loop" ⟨[.ref S,.ref z,res],[]⟩) R s:=by
 have lM:z<s.heap.objs.size:=aR hz;have yk:S<s.heap.objs.size:=aR hSl;have oQ:=h1.lt;have oR:=h2.lt;refine tX HS ?_;rw[HF qg _];show wpAny _ A.in1 (pyNext (.ref z)>>=_) _ _ s
 by_cases hn0:n=0
 ·have hend:xs[0]?=none\/ys[0]?=none:=by
   by_cases h:xs.size<=0
   ·exact .inl (by simpa using h)
   ·exact .inr (by have:ys.size<=0:=(by omega);simpa using this)
  refine ai (RG hh D hz hTI hTO h1 h2 hl1 hl2 hend λh' hk'=>?_);refine aH ?_;exact hR h' s.toks [] c (λb o q1 q2 q3 q4 q5 e=>hk' b o q2 q3 q4 q5 e) (by simp[hn0]) ⟨λj t e=>by simp at e,xD,λt ht=>by cases ht⟩ (λt ht=>by cases ht) (hk' S _ hS.1 K_ hS.2.2.1 hS.2.2.2.1 hSl)
 ·obtain⟨x,hx⟩:∃x,xs[0]?=some x:=⟨xs[0]'(by omega),by simp[show 0<xs.size by omega]⟩
  obtain⟨y,hy⟩:∃y,ys[0]?=some y:=⟨ys[0]'(by omega),by simp[show 0<ys.size by omega]⟩;refine ai (RJ D hz hTI hTO h1 h2 hl1 hl2 hx hy λh' a1 a2 a3 a4 a5 a6 a7=>?_);have hS':=a7 S _ hS.1 K_ hS.2.2.1 hS.2.2.2.1 hSl;show wpAny _ A.in1 (updateSeq S (·.push (.ref s.heap.objs.size))>>=_) _ _ _;refine ai ?_;refine uc hS' rfl (aH ⟨plainId_quiet qg _,?_⟩) (by show 0<=sizeLine;decide) (by show 1<=sizeLine+1;decide);have oth:∀b o,b≠S->h'.get? b=some o->(h'.update S (Obj.mapSeq (·.push (.ref s.heap.objs.size)))).get? b=some o:=λb o hb e=>(ik _ _ (bQ hb)).trans e;have nS:s.heap.objs.size≠S:=dO yk;have BL:=il (Obj.mapSeq (·.push (Value.ref s.heap.objs.size))) hS' rfl;have hL':Laid N0 xs ys (h'.update S (Obj.mapSeq (·.push (.ref s.heap.objs.size)))) ([]++[s.heap.objs.size]):=Laid.snoc (x:=x) (y:=y) ⟨λj t e=>by simp at e,xD,λt ht=>by cases ht⟩ hx hy (oth _ _ nS a5) (by simp) hN;refine adu hh D hS hn hz0 res (n - 1) 1 {s with heap:=h'.update S (Obj.mapSeq (·.push (.ref s.heap.objs.size)))} [s.heap.objs.size] s.heap.objs.size false (c+1) (by omega) (by omega) rfl rfl (oth _ _ (bQ hS.1) a1) (oth _ _ (bQ hS.2.1) (a7 TI _ D.TIz D.TITO D.TIi1 D.TIi2 hTI))
   (a3.at λo e=>oth _ o (bQ hS.2.2.1) e) (a4.at λo e=>oth _ o (bQ hS.2.2.2.1) e) ((hl1.at λo e=>a7 l1 o D.l1z D.l1TO D.l1i1 D.l1i2 e).at λo e=>oth _ o (bQ hS.2.2.2.2.1) e) ((hl2.at λo e=>a7 l2 o D.l2z D.l2TO D.l2i1 D.l2i2 e).at λo e=>oth _ o (bQ hS.2.2.2.2.2) e)
   hL' ?_ ?_ ?_ ?_
  ·intro t ht
   simp at ht;subst ht;exact⟨nS,dO lM,dO oQ,dO oR⟩
  ·show N0<=(h'.update S _).objs.size
   rw[tU,a6];omega
  ·show(h'.update S _).get? S=_
   rw[BL];simp[Obj.mapSeq]
  ·intro h'' tk ts' c' g1 g2 g3 g4 g5
   refine hR h'' tk ts' c' (λb o q1 q2 q3 q4 q5 e=>g1 b o q1 q2 q4 q5 (oth b o q1 (a7 b o q2 q3 q4 q5 e))) g2 g3 g4 g5
theorem Td{Q:Value->Shared->Prop}{a0 b0:Value}{n:Nat}(hh:A.handled=none)(D:ZipApart z TI TO i1 i2 l1 l2)(hn:n=min xs.size ys.size)(hz0:n<=100000)(hz:IsZip s.heap z TI TO .none)(hTI:IsPair s.heap TI (.ref i1) (.ref i2))(hTO:IsPair s.heap TO a0 b0)(h1:bw c1 s.heap i1 l1 0)(h2:bw c2 s.heap i2 l2 0)(hl1:bI c1 s.heap l1 xs)(hl2:bI c2 s.heap l2 ys)(hQ:∀h' tk ts c',(∀b o,b≠z->b≠TO->b≠i1->b≠i2->s.heap.get? b=some o->h'.get? b=some o)->ts.length=n->Laid s.heap.objs.size xs ys h' ts->(∀t∈ts,t≠s.heap.objs.size) ->
   h'.get? s.heap.objs.size=some {cls:=.type "list", dict:=none,data:=.seq (ts.map Value.ref).toArray c',slots:=#[]}->Q (.ref s.heap.objs.size) {s with heap:=h',toks:=tk}) :
  wpAny (model prog w) A (call (.type "list") [.ref z]) Q E s:=by
 have lM:z<s.heap.objs.size:=aR hz;have Im:TI<s.heap.objs.size:=aR hTI;have Io:TO<s.heap.objs.size:=aR hTO;have oQ:=h1.lt;have oR:=h2.lt;have MP:=hl1.lt;have MT:=hl2.lt;refine callType_codes (Q₁:=λobj s₁=>obj = .ref s.heap.objs.size/\s₁ = {s with heap:=s.heap.push {cls:=.type "list", data:=.seq #[]}}) F.called_list (F.typeCall_list_1 _) F.entry_list_init
  (code_list_new _ ⟨rfl,rfl⟩) λobj s₁ h₁=>?_
 obtain⟨rfl,rfl⟩:=h₁;generalize uM:s.heap.objs.size=S at *;have hS:(s.heap.push {cls:=.type "list", data:=.seq #[]}).get? S=some {cls:=.type "list", data:=.seq #[]}:=by rw[<- uM];exact cn _ rfl
 have pu:∀b o,s.heap.get? b=some o->(s.heap.push {cls:=.type "list", data:=.seq #[]}).get? b=some o:=λb o e=>aU _ e;have zS:z≠S:=bE lM;refine⟨⟨_,hS,rfl⟩,F.args_list_init_2 _ _,?_⟩;show wpAny _ A.in1.in1 (do let old <- Builtin.List.listItems (.ref S);Builtin.List.listUpdate (.ref S) (λ_=>#[]);letGo old.toList.reverse;Builtin.List.listExtendWith (.ref S) (.ref z) .none) _ _ _;refine ai ?_;unfold Builtin.List.listItems;refine ai (ji hS rfl (aH ?_));show wpAny _ A.in1.in1 (updateSeq S (λ_=>#[])>>=λ_=>letGo (#[]:Array Value).toList.reverse>>=λ_=>Builtin.List.listExtendWith (.ref S) (.ref z) .none) _ _ _;refine ai (uc hS rfl ?_);have hS₂:=il (Obj.mapSeq (λ_=>(#[]:Array Value))) hS rfl;have oth:∀b o,b≠S->s.heap.get? b=some o->((s.heap.push {cls:=.type "list", data:=.seq #[]}).update S (Obj.mapSeq (λ_=>(#[]:Array Value)))).get? b=some o:=
  λb o hb e=>(ik _ _ (bQ hb)).trans (pu b o e)
 refine ai (t_ ?_);have hz2:=oth z _ zS hz;have Q0:((s.heap.push {cls:=.type "list", data:=.seq #[]}).update S (Obj.mapSeq (λ_=>(#[]:Array Value)))).objs.size=S+1:=by rw[tU,eE,uM]
 generalize (s.heap.push {cls:=.type "list", data:=.seq #[]}).update S (Obj.mapSeq (λ_=>(#[]:Array Value)))=g2 at hS₂ oth hz2 Q0 ⊢;have hT2:Shared.TypeIs {s with heap:=g2} (.ref z) "zip" :=⟨_,hz2,rfl⟩;unfold Builtin.List.listExtendWith;refine ai (wpAny_typeOf hT2 ?_);have e1:Builtin.List.listSameRef (.ref S) (.ref z)=false:=by simp[Builtin.List.listSameRef,bQ zS]
 have e2:(Value.type "zip" == Value.type "list")=false:=by decide
 have e3:(Value.type "zip" == Value.type "tuple")=false:=by decide
 simp only[e1,e2,e3,w8,iZ,g9];refine ai (Ik hz2 ?_);refine ai (fB ?_);unfold Builtin.List.listLengthHint;refine ai (yi hT2 adA ?_);show wpAny _ A.in1.in1 (specialOf (Value.ref z) (Str.ofString "__length_hint__")>>=_) _ _ _;refine ai (yi hT2 adz ?_);refine aH ?_;show wpAny _ A.in1.in1 (rule "list.extend.makes-room" >>= λ_=>Builtin.List.listTouch (.ref S)>>=λ_ =>
  again (.builtin "list.extend.loop" ⟨[.ref S,.ref z,.none],[]⟩)) _ _ _
 refine ai (qj ?_);refine ai ?_;show wpAny _ A.in1.in1 (updateSeq S (·.push .none)>>=λ_=>updateSeq S (·.pop)) _ _ _;refine ai (uc hS₂ rfl ?_);have hS₃:=il (Obj.mapSeq (·.push Value.none)) hS₂ rfl;refine uc (hz:=by seq_fits) hS₃ rfl ?_;have hS₄:=il (Obj.mapSeq (·.pop)) hS₃ rfl;have kr:∀b o,b≠S->s.heap.get? b=some o->((g2.update S (Obj.mapSeq (·.push Value.none))).update S (Obj.mapSeq (·.pop))).get? b=some o:=
  λb o hb e=>(ik _ _ (bQ hb)).trans ((ik _ _ (bQ hb)).trans (oth b o hb e))
 have Q5:((g2.update S (Obj.mapSeq (·.push Value.none))).update S (Obj.mapSeq (·.pop))).objs.size=S+1:=by rw[tU,tU,Q0]
 generalize (g2.update S (Obj.mapSeq (·.push Value.none))).update S (Obj.mapSeq (·.pop))=g4 at hS₄ kr Q5 ⊢;refine aH ⟨plainId_quiet qg _,?_⟩;refine adt (N0:=S) (n:=n) (A:=A.in1) hh D ⟨bQ zS,dO Im,dO oQ,dO oR,dO MP,dO MT⟩ (dO Io) hn hz0 .none (kr _ _ zS hz) (kr _ _ (bE Im) hTI) (kr _ _ (bE Io) hTO)
  (h1.at λo e=>kr _ o (bE oQ) e) (h2.at λo e=>kr _ o (bE oR) e) (hl1.at λo e=>kr _ o (bE MP) e) (hl2.at λo e=>kr _ o (bE MT) e) (by show S<=g4.objs.size;rw[Q5];omega) hS₄ λh' tk ts c' g1 qM g3 U_ g5=>?_
 refine⟨rfl,hQ h' tk ts c' (λb o q1 q2 q3 q4 e=>g1 b o (bE (by have:=aR e;rw[uM]at this;exact this)) q1 q2 q3 q4 (kr b o (bE (by have:=aR e;rw[uM]at this;exact this)) e)) qM g3 U_ g5⟩
end
section
variable {X:Cx} {pins:List (Addr × Obj)} {σ:St} {H H':Hp} {s:Shared} {h':Heap}
theorem Inv.X3{t':Nat}(I:Inv X pins σ H s)(k:∀b u,s.heap.get? b=some u->h'.get? b=some u)(ext:∀b o,H b=some o->H' b=some o)(new:∀b o,H' b=some o->H b=some o\/s.heap.objs.size<=b)(hok:bM X.prog X.w H' h'):
  Inv X pins σ H' {s with heap:=h',toks:=t'}:=by
 refine I.un ⟨λb u q _ _ _=>k b u q,λb u q _ _ _=>⟨u.slots,k b u q⟩,λb u q n _=>?_,λb u q _=>⟨u,k b u q⟩,λb xs q=>ext b _ q,λb u xs q=>ext b _ q,λb ps q=>⟨#[],by rw[ext b _ q];simp⟩⟩ hok;cases e:H' b with
 |none=>rfl
 |some o =>
  rcases new b o e with z|z
  ·rw[n]at z;cases z
  ·exact absurd (aR q) (Nat.not_lt.mpr z)
noncomputable def jE(H:Hp)(L:Addr)(ts:List Addr)(xs ys:List V):Hp:=λb=>if b∈ts then some (.tup [xs.getD (ts.idxOf b) .non,ys.getD (ts.idxOf b) .non])else if b=L then some (.lst (ts.map V.ref))else H b
theorem Ow{H:Hp}{L:Addr}{ts:List Addr}{xs ys:List V}(nd:ts.Nodup){j:Nat}{t:Addr}(e:ts[j]?=some t):jE H L ts xs ys t=some (.tup [xs.getD j .non,ys.getD j .non]):=by
 have hm:t∈ts:=dr e;obtain⟨hj,e'⟩:=bN.mp e;have hi:ts.idxOf t=j:=by
  have h1:=nr.mpr hm;have h2:=nj h1;exact(tL nd).mp (h2.trans e'.symm)
 unfold jE;rw[if_pos hm,hi]
def acu(K:W.Frag)(c1 c2:Bool)(ta:TA):TE:=λσ H Q=>ta σ H λvs H1=>∃l1 l2 xs ys,vs = [.ref l1,.ref l2]/\Sq c1 K H1 l1 xs/\Sq c2 K H1 l2 ys/\min xs.length ys.length<=100000 /\
 ∀(L:Addr) (ts:List Addr) (H':Hp),Same H1 H'->H1 L=none->ts.length=min xs.length ys.length->(∀(j:Nat) t,ts[j]?=some t->H' t=some (.tup [xs.getD j .non,ys.getD j .non]))->H' L=some (.lst (ts.map V.ref))->Q (.ref L) H'
theorem adn(n l1 l2:Nat)(h1:l1<n)(h2:l2<n):ZipApart (n+4) (n+2) (n+3) n (n+1) l1 l2:=by
 have e:(n+2≠n+4/\n+3≠n+4/\n≠n+4/\n+1≠n+4/\n+2≠n+3/\n+2≠n/\n+2≠n+1/\n+3≠n/\n+3≠n+1/\n≠n+1)/\(l1≠n+4/\l1≠n+3/\l1≠n/\l1≠n+1)/\(l2≠n+4/\l2≠n+3/\l2≠n/\l2≠n+1):=by omega
 obtain⟨⟨a1,a2,a3,a4,a5,a6,a7,a8,a9,a10⟩,⟨b1,b2,b3,b4⟩,c1,c2,c3,c4⟩:=e;exact⟨a1,a2,a3,a4,a5,a6,a7,a8,a9,a10,b1,b2,b3,b4,c1,c2,c3,c4⟩
theorem u_{b n:Nat}(k:Nat)(h:b<n):b≠n+k:=by omega
theorem Rw:∀ts:List Addr,Vals (ts.map V.ref) (ts.map Value.ref)
 | []=>.nil
 |t::ts=>.cons rfl (Rw ts)
theorem Dm {K:W.Frag} (c1 c2:Bool) {a b:Expr} {ta:TA} {p p2 pos pos2:Pos} (hK:X.K=K) (hc:X.calm=true) (hg1:Gl X "list") (hm1:X.mg "list" = none) (hg2:Gl X "zip") (hm2:X.mg "zip" = none) (ha:PA X [a,b] ta)
  (hs:starEach [a,b] X.env = [(false,eval a X.env),(false,eval b X.env)]:=by rfl) (hs2:starEach [b] X.env = [(false,eval b X.env)]:=by rfl)
  (he:starEach [.Call (.Name "zip" p2) [a,b] [] pos2] X.env = [(false,eval (.Call (.Name "zip" p2) [a,b] [] pos2) X.env)]:=by rfl) :
  PE X (.Call (.Name "list" p) [.Call (.Name "zip" p2) [a,b] [] pos2] [] pos) (acu K c1 c2 ta):=by
 subst hK;intro pins s σ H Q I h;refine lX (jw I hg1 hm1 (show bootBuiltins "list" = some (.type "list")by decide +kernel) ?_ (by decide) (by decide));refine nI ?_ (by rw[he];rfl) (by rfl);rw[he];show wpAny _ _ (spliced ((false,eval (.Call (.Name "zip" p2) [a,b] [] pos2) X.env)::[])) _ _ s;refine HJ ?_;refine Call_ (jw I hg2 hm2 (show bootBuiltins "zip" = some (.type "zip")by decide +kernel) (nI (aM (ha pos2 pins s σ H _ I h) λus s1 ⟨vs,H1,I1,r1,q1⟩=>?_) (by rw[hs,hs2]) (by rw[hs2];rfl)));obtain⟨l1,l2,xs,ys,e,q1,q2,hmin,q⟩:=q1;subst e;obtain⟨u,v,rfl,ru,rv⟩:=Vals.two r1;cases ru;cases rv;obtain⟨rH,pD,p1,z1⟩:=I1.sq q1;obtain⟨rJ,pE,p2',z2⟩:=I1.sq q2;refine Jl p1 p2' λh' zr hz hk=>?_;refine HN ?_;have k1:=p1.lt;have k2:=p2'.lt;have len1:=pD.length;have len2:=pE.length;obtain⟨ta0,tb0,hTO⟩:=zr.to;refine Td (n:=min xs.length ys.length) (I1.ok.hd hc) (z:=s1.heap.objs.size+4) (TI:=s1.heap.objs.size+2) (TO:=s1.heap.objs.size+3) (i1:=s1.heap.objs.size) (i2:=s1.heap.objs.size+1) (l1:=l1) (l2:=l2)
  (adn _ _ _ k1 k2) (by rw[bU,bU,<- len1,<- len2]) hmin zr.hz zr.ti hTO zr.h1 zr.h2 (p1.at λo e=>hk _ o e) (p2'.at λo e=>hk _ o e) λh2 tk ts c' g1 g2 g3 g4 g5=>?_
 simp only at g1 g5;have hkk:∀b o,s1.heap.get? b=some o->h2.get? b=some o:=λb o e=>by
  have hlt:=aR e;exact g1 b o (u_ 4 hlt) (u_ 3 hlt) (u_ 0 hlt) (u_ 1 hlt) (hk b o e)
 have hsz:s1.heap.objs.size+5=h'.objs.size:=hz.symm;have hge:∀t∈ts,h'.objs.size<=t:=g3.ge;have hLf:H1 h'.objs.size=none:=I1.hok.fresh (by omega);have Y7:∀b o,H1 b=some o->b ∉ ts/\b≠h'.objs.size:=λb o e=>by
  have hlt:=I1.hok.lt e;have hlt2:b<h'.objs.size:=cY hlt (by rw[<- hsz];exact Hu _ _);exact⟨λhm=>absurd hlt2 (Nat.not_lt.mpr (hge b hm)),bE hlt2⟩
 have ext:∀b o,H1 b=some o->jE H1 h'.objs.size ts xs ys b=some o:=λb o e=>by
  obtain⟨n1,n2⟩:=Y7 b o e;unfold jE;rw[if_neg n1,if_neg n2];exact e
 have K7:jE H1 h'.objs.size ts xs ys h'.objs.size=some (.lst (ts.map V.ref)):=by
  unfold jE;rw[if_neg (λhm=>g4 _ hm rfl),if_pos rfl]
 have acO:∀(j:Nat) t,ts[j]?=some t->∃u v,RelV (xs.getD j .non) u/\RelV (ys.getD j .non) v/\IsPair h2 t u v:=λj t e=>by
  obtain⟨x,y,e1,e2,e3⟩:=g3.at_ j t e;have hj1:j<xs.length:=by
   have:=(lN.mp e1).1;rw[bU]at this;omega
  have hj2:j<ys.length:=by
   have:=(lN.mp e2).1;rw[bU]at this;omega
  obtain⟨u,hu,ru⟩:=pD.get (ay hj1);obtain⟨v,hv,rv⟩:=pE.get (ay hj2);have eu:x=u:=by
   have h3:rH.toArray[j]?=some u:=by simpa using hu
   rw[h3]at e1;exact(df e1).symm
  have ev:y=v:=by
   have h3:rJ.toArray[j]?=some v:=by simpa using hv
   rw[h3]at e2;exact(df e2).symm
  subst eu ev;refine⟨x,y,?_,?_,e3⟩
  ·rw[aN,ay hj1];exact ru
  ·rw[aN,ay hj2];exact rv
 have hok:bM X.prog X.w (jE H1 h'.objs.size ts xs ys) h2:=λb o e=>by
  by_cases hm:b∈ts
  ·obtain⟨j,hj,ej⟩:=ie hm
   have e':ts[j]?=some b:=by rw[ay hj,ej]
   rw[Ow g3.nd e']at e;cases e;obtain⟨u,v,ru,rv,ip⟩:=acO j b e';exact Dh ip ru rv
  ·by_cases hb:b=h'.objs.size
   ·subst hb
    rw[K7]at e;cases e;exact⟨by rw[au,g2];exact b_ hmin (eB (show 100000<sizeLine by decide)),ts.map Value.ref,c',Rw ts,g5⟩
   ·have e0:H1 b=some o:=by
     unfold jE at e;rw[if_neg hm,if_neg hb]at e;exact e
    exact(I1.hok b o e0).stay (λc v _ q=>hkk c v q) (λc q=>ext c _ q) (λc xs q=>ext c _ q) λc ob u q=>ext c _ q
 have I2:Inv X pins σ (jE H1 h'.objs.size ts xs ys) {s1 with heap:=h2,toks:=tk}:=I1.X3 hkk ext (λb o e=>by
  by_cases hm:b∈ts
  ·exact .inr (b_ (by rw[<- hsz];exact Hu _ _) (hge b hm))
  ·by_cases hb:b=h'.objs.size
   ·exact .inr (by rw[hb,<- hsz];exact Hu _ _)
   ·unfold jE at e
    rw[if_neg hm,if_neg hb]at e;exact .inl e) hok
 exact⟨.ref h'.objs.size,_,I2,rfl,q _ ts _ ext hLf g2 (λj t e=>Ow g3.nd e) K7⟩
end
end L2
namespace My
open PySem PySem.Spec PyProof.Rows L2
noncomputable def iX(cs:List Nat):List (Nat × Nat):=(List.range (cs.length - 1)).map λi=>(cs.getD i 0,cs.getD (i+1) 0)
theorem sf(cs:List Nat):(iX cs).length=cs.length - 1:=by unfold iX;simp
theorem r9{cs:List Nat}{i:Nat}(h:i+1<cs.length):(iX cs)[i]?=some (cs.getD i 0,cs.getD (i+1) 0):=by
 unfold iX;rw[bX,pZ (by omega)];rfl
theorem lq{cs:List Nat}{i:Nat}(h:i<cs.length):(cs.map nV).getD i .non=nV (cs.getD i 0):=by
 rw[aN,bX,aN,ay h];rfl
theorem KN{cs:List Nat}{i:Nat}:(cs.drop 1).getD i 0=cs.getD (i+1) 0:=by
 rw[aN,aN,List.getElem?_drop,Ht]
theorem Dj{α β:Type}{F:α->β->Prop}:∀{l:List α} {m:List β},l.length=m.length->(∀(i:Nat) x y,l[i]?=some x->m[i]?=some y->F x y)->Paired F l m
 | [],[],_,_=>.nil
 | [],_::_,h,_=>by simp at h
 |_::_,[],h,_=>by simp at h
 |a::l,b::m,h,q=>.cons (q 0 a b rfl rfl) (Dj (by simpa using h) λi x y h1 h2=>q (i+1) x y (by simpa using h1) (by simpa using h2))
theorem GX{H:Hp}{cs:List Nat}{ts:List Addr}(htl:ts.length=min (cs.map nV).length ((cs.drop 1).map nV).length)(hts:∀(j:Nat) t,ts[j]?=some t->H t=some (.tup [(cs.map nV).getD j .non,((cs.drop 1).map nV).getD j .non])):Paired (c5 H) (iX cs) (ts.map V.ref):=by
 have el:ts.length=cs.length - 1:=by rw[htl,au,au,jP];omega
 refine Dj (by rw[sf,au,el]) λi x v hx hv=>?_;have hi:i<ts.length:=by
  have:=(bN.mp hv).1
  rwa [au]at this
 rw[r9 (by omega)]at hx;cases hx;rw[bX,ay hi]at hv;cases hv;refine⟨ts[i],rfl,?_⟩;rw[hts i _ (ay hi),lq (by omega),lq (by rw[jP];omega),KN]
def fH(J N:Nat->Nat->Nat)(cs ds:List Nat)(H:Hp)(r:Nat × Nat)(v:V):Prop:=∃t,v = .ref t/\H t=some (.tup [nV r.1,nV r.2,nV (cw J N cs ds r),nV (bS N cs ds r)])
theorem fH.same{J N:Nat->Nat->Nat}{cs ds:List Nat}{H H':Hp}(s:Same H H'){l:List (Nat × Nat)}{us:List V}(h:Paired (fH J N cs ds H) l us):Paired (fH J N cs ds H') l us:=Paired.d_ h λ_ _ hpq=>by obtain⟨t,e,q⟩:=hpq;exact⟨t,e,s _ _ q⟩
section
variable {P:Program} {w:World} {K:W.Frag} {mg:Str->Option Value} {base:Heap} {f:Addr} {fd:FuncData}
abbrev Ey:Stmt:=top 48
theorem Qz:bh ["chain"] ["chain"] (aB Ey):=⟨rfl,rfl,rfl,by decide +kernel,rfl,by decide +kernel,by decide +kernel⟩
def Gd(K:W.Frag):Sp:=λvs H Q _=>∃(t:Nat) (cs:List Nat),vs = [.ref t]/\ag K H t (cs.map nV)/\cs.length<=1000 /\
 ∀L us H',Same H H'->H L=none->H' L=some (.lst us)->Paired (c5 H') (iX cs) us->Q (.ref L) H'
theorem Z4 (F:aS K "parts_of" "parts_of" Ey f fd) (T:Txt mg):aO P w K mg base aX 1 f fd ["chain"] (Gd K):=by
 refine F.ok Qz (λvs H Q E h=>?_) (λcdv A outer s H vs Q E hr h=>?_)
 ·obtain⟨t,cs,rfl,_⟩:=h
  rfl
 ·obtain⟨t,cs,rfl,hT,hl,kk⟩:=h
  have nd:=Qz.nd;refine⟨_,(aA (aQ (Dm (K:=K) true true rfl rfl rfl T.list rfl T.zip (ae (pv 0) (ae (eL (fk (K:=K) rfl) (pv 0) (dS ak) fh) ah))))),?_⟩;refine⟨_,rfl,_,rfl,_,rfl,t,_,rfl,hT,λq hq=>?_⟩;have ec:bP (cs.map nV) (some 1) none=(cs.drop 1).map nV:=by rw[show(1:Int)=((1:Nat):Int)from rfl,qD,ny]
  rw[ec];have sq:=Same.put (o:=.lst ((cs.drop 1).map nV)) hq;refine⟨t,q,cs.map nV,(cs.drop 1).map nV,rfl,sq.seq hT,ag.of av,by rw[au];omega,λL ts H' s2 hL htl hts hl2=>?_⟩;exact kk L _ H' (sq.trans s2) (sq.free hL) hl2 (GX htl hts)
abbrev Ez:Stmt:=top 49
theorem QD:bh ["order","one","other","high","low"] ["order","one","other"] (aB Ez):=⟨rfl,rfl,rfl,by decide +kernel,rfl,by decide +kernel,by decide +kernel⟩
def Gi(K:W.Frag)(C:Addr):Sp:=λvs H Q _=>∃(p t u n x0 x1 y0 y1:Nat) (R:Nat->Nat->Bool) (J N:Nat->Nat->Nat),vs = [.ref p,.ref t,.ref u]/\fQ C H p n R/\Md n R J N/\H t=some (.tup [nV x0,nV x1])/\H u=some (.tup [nV y0,nV y1])/\x0<n/\x1<n/\y0<n/\y1<n /\
 ∀b H',Same H H'->H' b=some (.tup [nV (J (N x0 y1) (N x1 y0)),nV (N x1 y1)])->Q (.ref b) H'
theorem Z9 {C:Addr} (F:aS K "shared_part" "shared_part" Ez f fd) (T:Txt mg) (TC:gP K C):aO P w K mg base aX 1 f fd ["order","one","other"] (Gi K C):=by
 refine F.ok QD (λvs H Q E h=>?_) (λcdv A outer s H vs Q E hr h=>?_)
 ·obtain⟨p,t,u,n,x0,x1,y0,y1,R,J,N,rfl,_⟩:=h
  rfl
 ·obtain⟨p,t,u,n,x0,x1,y0,y1,R,J,N,rfl,hO,M,ht,hu,h0,h1,g0,g1,kk⟩:=h
  have nd:=QD.nd;obtain⟨dx,vp,vr,vj,vm,o1,_,_,oj,om⟩:=id hO;have em:∀a b,a<n->b<n->f7 n (λa b=>R b a) a b = .int (N a b:Nat):=λa b ha hb=>iM M.G.mq (M.m a b ha hb).1 (M.m a b ha hb).2;have ej:∀a b,a<n->b<n->f7 n R a b = .int (J a b:Nat):=λa b ha hb=>iM M.G.dis (M.j a b ha hb).1 (M.j a b ha hb).2;have m1:=M.mlt h0 g1;have m2:=M.mlt h1 g0;obtain⟨sa,us,sb,rfl,p1,p2,p3⟩:=om.get h1;obtain⟨sa',us',sc,e1,p1',p2',p3'⟩:=om.get h0;cases e1;rw[p1]at p1';cases p1';obtain⟨ra,ws,rb,rfl,q1,q2,q3⟩:=oj.get m1;refine⟨_,(ax (aP (i:=3) nd rfl (Or.inl rfl) (aq (aK (K:=K) rfl) (aq (aK (K:=K) rfl) (fe (K:=K) rfl (pv 0) rfl) (aq (aK (K:=K) rfl) (pv 1) ak (λ_ _=>rfl)) (λ_ _=>rfl)) (aq (aK (K:=K) rfl) (pv 2) ak (λ_ _=>rfl)) (λ_ _=>rfl)))
   (ax (aP (i:=4) nd rfl (Or.inl rfl) (aq (aK (K:=K) rfl) (aq (aK (K:=K) rfl) (fe (K:=K) rfl (pv 0) rfl) (aq (aK (K:=K) rfl) (aq (aK (K:=K) rfl) (fe (K:=K) rfl (pv 0) rfl) (aq (aK (K:=K) rfl) (pv 1) ak (λ_ _=>rfl)) (λ_ _=>rfl)) (aq (aK (K:=K) rfl) (pv 2) ak (λ_ _=>rfl)) (λ_ _=>rfl)) (λ_ _=>rfl)) (aq (aK (K:=K) rfl) (aq (aK (K:=K) rfl) (fe (K:=K) rfl (pv 0) rfl) (aq (aK (K:=K) rfl) (pv 1) ak (λ_ _=>rfl)) (λ_ _=>rfl)) (aq (aK (K:=K) rfl) (pv 2) ak (λ_ _=>rfl)) (λ_ _=>rfl)) (λ_ _=>rfl)))
   (aA (aQ (gJ (ae (pv 4) (ae (pv 3) ah))))))),?_⟩
  refine⟨_,rfl,p,C,dx,_,_,rfl,o1,TC.cl,TC.nM,oE _ _ _ _ _,_,rfl,t,_,1,nV x1,rfl,rfl,az.of ht,aI (j:=1) rfl,sa,us,_,.ref sb,rfl,rfl,az.of p1,aI p2,_,rfl,u,_,1,nV y1,rfl,rfl,az.of hu,aI (j:=1) rfl,sb,_,_,.int (N x1 y1:Nat),rfl,rfl,az.of p3,aI (by rw[eG g1,em _ _ h1 g1]),?_⟩;refine⟨_,rfl,p,C,dx,_,_,rfl,o1,TC.cl,TC.nJ,oC _ _ _ _ _,_,rfl,p,C,dx,_,_,rfl,o1,TC.cl,TC.nM,oE _ _ _ _ _,_,rfl,t,_,0,nV x0,rfl,rfl,az.of ht,aI (j:=0) rfl,sa,us,_,.ref sc,rfl,rfl,az.of p1,aI p2',_,rfl,u,_,1,nV y1,rfl,rfl,az.of hu,aI (j:=1) rfl,sc,_,_,.int (N x0 y1:Nat),rfl,rfl,az.of p3',aI (by rw[eG g1,em _ _ h0 g1]),
   ra,ws,_,.ref rb,rfl,rfl,az.of q1,aI q2,_,rfl,p,C,dx,_,_,rfl,o1,TC.cl,TC.nM,oE _ _ _ _ _,_,rfl,t,_,1,nV x1,rfl,rfl,az.of ht,aI (j:=1) rfl,sa,us,_,.ref sb,rfl,rfl,az.of p1,aI p2,_,rfl,u,_,0,nV y0,rfl,rfl,az.of hu,aI (j:=0) rfl,sb,_,_,.int (N x1 y0:Nat),rfl,rfl,az.of p3,aI (by rw[eG g0,em _ _ h1 g0]),rb,_,_,.int (J (N x0 y1) (N x1 y0):Nat),rfl,rfl,az.of q3,aI (by rw[eG m2,ej _ _ m1 m2]),?_⟩
  exact⟨_,rfl,_,rfl,by show 2<=sizeLine;decide,λb hb=>kk b _ (Same.put hb) av⟩
abbrev El:Stmt:=top 50
theorem Qn:bh ["order","one","other","told","place","part","against","facing","both"] ["order","one","other"] (aB El):=⟨rfl,rfl,rfl,by decide +kernel,rfl,by decide +kernel,by decide +kernel⟩
def FK(K:W.Frag)(C:Addr):Sp:=λvs H Q _=>∃(p t u n:Nat) (R:Nat->Nat->Bool) (J N:Nat->Nat->Nat) (cs ds:List Nat),vs = [.ref p,.ref t,.ref u]/\fQ C H p n R/\Md n R J N/\ag K H t (cs.map nV)/\ag K H u (ds.map nV)/\(∀x∈cs,x<n)/\(∀x∈ds,x<n)/\cs.length<=100/\ds.length<=100 /\
 ∀L us H',Same H H'->H L=none->H' L=some (.lst us)->Paired (fH J N cs ds H') (aZ J N cs ds) us->Q (.ref L) H'
theorem ZQ {C:Addr} (F:aS K "matches" "matches" El f fd) (T:Txt mg) (ur:aC P w K mg base "parts_of" ["chain"] 1 (Gd K)) (y7:aC P w K mg base "shared_part" ["order","one","other"] 1 (Gi K C)) :
  aO P w K mg base aX 2 f fd ["order","one","other"] (FK K C):=by
 refine F.ok Qn (λvs H Q E h=>?_) (λcdv A outer s H vs Q E hr h=>?_)
 ·obtain⟨p,t,u,n,R,J,N,cs,ds,rfl,_⟩:=h
  rfl
 ·obtain⟨p,t,u,n,R,J,N,cs,ds,rfl,hO,M,hT,hU,hc,hd,hcl,hdl,kk⟩:=h
  have nd:=Qn.nd;refine⟨_,(ax (aP (i:=3) nd rfl (Or.inl rfl) (bV ah))
   (ax (cH cF rfl (Dp (K:=K) true rfl rfl T.enumerate (ae (aL ur hr rfl (ae (pv 1) ah)) ah)) (lA (K:=K) (i:=4) (j:=5) rfl rfl nd rfl rfl rfl rfl)
   (aA (cH cF rfl (Dp (K:=K) true rfl rfl T.enumerate (ae (aL ur hr rfl (ae (pv 2) ah)) ah)) (lA (K:=K) (i:=6) (j:=7) rfl rfl nd rfl rfl rfl rfl)
   (ax (aP (i:=8) nd rfl (Or.inl rfl) (aL y7 hr rfl (ae (pv 0) (ae (pv 5) (ae (pv 7) ah (ao nofun)) (ao nofun)) (ao nofun))))
   (aA (bB (bu eU (aq (aK (K:=K) rfl) (pv 8) ak (λ_ _=>rfl)) (aq (aK (K:=K) rfl) (pv 8) ak (λ_ _=>rfl)) (a_ _)) (aA (dI (eV (K:=K) rfl eM jh jQ iT (pv 3) (ae (gJ (ae (pv 4) (ae (pv 6) (ae (aq (aK (K:=K) rfl) (pv 8) ak (λ_ _=>rfl)) (ae (aq (aK (K:=K) rfl) (pv 8) ak (λ_ _=>rfl)) ah (ao nofun)) (ao nofun)) (ao nofun)) (ao nofun))) ah)))) bD))))))
   (aA (aQ (pv 3))))),?_⟩
  refine⟨by show 0<=sizeLine;decide,λL BJ=>?_⟩;have sL:=Same.put BJ (o:=.lst ([]:List V));dsimp only[cK];show kC _ _ _ [some (.ref p),some (.ref t),some (.ref u),some (.ref L),none,none,none,none,none] _;refine⟨_,rfl,t,cs,rfl,sL.seq hT,by omega,λL1 jL H1 s1 hL1 g1 hp1=>⟨L1,jL,rfl,ag.of g1,?_⟩⟩;have VR:L1≠L:=λz=>by rw[z,av]at hL1;cases hL1
  have el1:jL.length=cs.length - 1:=by rw[<- dh hp1,sf]
  refine Bh (K:=K) (c:=true) (l:=L1) (xs:=jL) (λi σ H2=>∃(v4 v5 v6 v7 v8:Option V) (ws:List V),σ = [some (.ref p),some (.ref t),some (.ref u),some (.ref L),v4,v5,v6,v7,v8]/\Same H H2/\H2 L1=some (.lst jL)/\Paired (c5 H2) (iX cs) jL/\H2 L=some (.lst ws)/\ws.length<=100*i/\Paired (fH J N cs ds H2) ((List.range i).flatMap (jH J N cs ds)) ws)
   ⟨none,none,none,none,none,[],rfl,sL.trans s1,g1,hp1,s1 _ _ av,eD _,.nil⟩ (λi σ H2 hpq=>by obtain⟨_,_,_,_,_,_,_,_,g2,_⟩:=hpq;exact ag.of g2) ?_ ?_
  ·rintro i x σ H2 Tt hx V6 ⟨v4,v5,v6,v7,v8,ws,rfl,s2,g2,hp2,hL2,hwl,hm2⟩
   have hi:i<jL.length:=(bN.mp hx).1;obtain⟨q,hq,ta,rfl,qS⟩:=eJ hp2 hx;rw[r9 (by omega)]at hq;cases hq;have sT:=Same.put V6 (o:=.tup [V.int (i:Int),.ref ta]);refine⟨Tt,_,rfl,az.of av,rfl,_,_,rfl,_,_,rfl,rfl,?_⟩;dsimp only[cK];refine⟨_,rfl,u,ds,rfl,(s2.trans sT).seq hU,by omega,λL2 kD H3 s3 hL2' g3 hp3=>⟨L2,kD,rfl,ag.of g3,?_⟩⟩;have pG:=sT.trans s3;have VN:L2≠L:=λz=>by rw[z,sT _ _ hL2]at hL2';cases hL2'
   have el2:kD.length=ds.length - 1:=by rw[<- dh hp3,sf]
   refine Bh (K:=K) (c:=true) (l:=L2) (xs:=kD) (λj σ H4=>∃(v6 v7 v8:Option V) (ws:List V),σ = [some (.ref p),some (.ref t),some (.ref u),some (.ref L),some (.int (i:Int)),some (.ref ta),v6,v7,v8]/\Same H H4/\H4 L1=some (.lst jL)/\Paired (c5 H4) (iX cs) jL/\H4 L2=some (.lst kD)/\Paired (c5 H4) (iX ds) kD/\H4 ta=some (.tup [nV (cs.getD i 0),nV (cs.getD (i+1) 0)])/\H4 L=some (.lst ws)/\ws.length<=100*i+j /\
    Paired (fH J N cs ds H4) ((List.range i).flatMap (jH J N cs ds)++((List.range j).filter λq=>eI J N cs ds (i,q)).map λq=>(i,q)) ws)
    ⟨v6,v7,v8,ws,rfl,s2.trans pG,pG _ _ g2,eK.same pG hp2,g3,hp3,pG _ _ qS,pG _ _ hL2,by omega,by rw[List.range_zero,List.filter_nil,tM,h_];exact fH.same pG hm2⟩ (λj σ H4 hpq=>by obtain⟨_,_,_,_,_,_,_,_,g4,_⟩:=hpq;exact ag.of g4) ?_ ?_
   ·rintro j y σ H4 Tu hy V7 ⟨v6,v7,v8,ws,rfl,s4,Bo,Ca,Ks,Cb,uH,j8,W6,rq⟩
    have hj:j<kD.length:=(bN.mp hy).1;obtain⟨q,hq,tb,rfl,uI⟩:=eJ Cb hy;rw[r9 (by omega)]at hq;cases hq;have sU:=Same.put V7 (o:=.tup [V.int (j:Int),.ref tb]);refine⟨Tu,_,rfl,az.of av,rfl,_,_,rfl,_,_,rfl,rfl,?_⟩;dsimp only[cK];refine⟨_,rfl,_,rfl,_,rfl,p,ta,tb,n,cs.getD i 0,cs.getD (i+1) 0,ds.getD j 0,ds.getD (j+1) 0,R,J,N,rfl,hO.iY (s4.trans sU),M,sU _ _ uH,sU _ _ uI,hc _ (qO (by omega)),hc _ (qO (by omega)),hd _ (qO (by omega)),hd _ (qO (by omega)),λb H5 s5 gb=>?_⟩;have bG:=sU.trans s5;have keep:∀(ws':List V) (H6:Hp),(∀b o,b≠L->H5 b=some o->H6 b=some o)->H6 L=some (.lst ws')->ws'.length<=100*i+(j+1)->Paired (fH J N cs ds H6) ((List.range i).flatMap (jH J N cs ds)++((List.range (j+1)).filter λq=>eI J N cs ds (i,q)).map λq=>(i,q)) ws' ->
      ∃(v6 v7 v8:Option V) (ws:List V),[some (V.ref p),some (.ref t),some (.ref u),some (.ref L),some (.int (i:Int)),some (.ref ta),some (.int (j:Int)),some (.ref tb),some (.ref b)] = [some (.ref p),some (.ref t),some (.ref u),some (.ref L),some (.int (i:Int)),some (.ref ta),v6,v7,v8]/\Same H H6/\H6 L1=some (.lst jL)/\Paired (c5 H6) (iX cs) jL/\H6 L2=some (.lst kD)/\Paired (c5 H6) (iX ds) kD/\H6 ta=some (.tup [nV (cs.getD i 0),nV (cs.getD (i+1) 0)])/\H6 L=some (.lst ws)/\ws.length<=100*i+(j+1) /\
       Paired (fH J N cs ds H6) ((List.range i).flatMap (jH J N cs ds)++((List.range (j+1)).filter λq=>eI J N cs ds (i,q)).map λq=>(i,q)) ws:=by
     intro ws' H6 k6 VP uQ Ww;have pk:∀{l:List (Nat × Nat)} {us:List V},Paired (c5 H4) l us->Paired (c5 H6) l us:=λh=>Paired.d_ h λ_ _ hpq=>by obtain⟨t,e,q⟩:=hpq;exact⟨t,e,k6 _ _ (gi (bG _ _ q) (bG _ _ j8) (by intro z;cases z)) (bG _ _ q)⟩
     refine⟨_,_,_,ws',rfl,λb o e=>k6 b o (dg e BJ) (bG _ _ (s4 _ _ e)),k6 _ _ VR (bG _ _ Bo),pk Ca,k6 _ _ VN (bG _ _ Ks),pk Cb,k6 _ _ (gi (bG _ _ uH) (bG _ _ j8) (by intro z;cases z)) (bG _ _ uH),VP,uQ,Ww⟩
    have er:(List.range (j+1)).filter (λq=>eI J N cs ds (i,q))=(List.range j).filter (λq=>eI J N cs ds (i,q))++if eI J N cs ds (i,j)=true then[j]else[]:=by
     rw[jg,pU]
     congr 1
     cases e:eI J N cs ds (i,j)with
     |true=>simp[e]
     |false=>simp[e]
    refine⟨_,rfl,b,_,0,nV (cw J N cs ds (i,j)),rfl,rfl,az.of gb,aI (j:=0) rfl,_,rfl,b,_,1,nV (bS N cs ds (i,j)),rfl,rfl,az.of gb,aI (j:=1) rfl,rfl,_,rfl,bq (λh=>?_) (λh=>?_)⟩
    ·have ne:eI J N cs ds (i,j)=true:=by
      unfold eI;rw[fP,f6];intro e;rw[e]at h;simp at h
     rw[if_pos ne]at er;refine⟨_,rfl,.inl ⟨rfl,_,ag.of (bG _ _ j8)⟩,_,rfl,_,rfl,_,rfl,b,_,0,nV (cw J N cs ds (i,j)),rfl,rfl,az.of gb,aI (j:=0) rfl,_,rfl,b,_,1,nV (bS N cs ds (i,j)),rfl,rfl,az.of gb,aI (j:=1) rfl,by show 4<=sizeLine;decide,λq hq=>?_⟩;have sq:=Same.put hq (o:=.tup [V.int (i:Int),.int (j:Int),nV (cw J N cs ds (i,j)),nV (bS N cs ds (i,j))]);have oN:q≠L:=λz=>by rw[z,bG _ _ j8]at hq;cases hq
     refine⟨L,_,.ref q,rfl,rfl,sq _ _ (bG _ _ j8),c7 (by omega),?_⟩;refine keep (ws++[.ref q]) _ (λb o hb e=>by rw[aG hb];exact sq _ _ e) av (by rw[cA,p7];omega) ?_;rw[er,gx,<- je];refine Paired.ab1 (Paired.d_ rq λ_ _ ⟨t,e,g⟩=>⟨t,e,?_⟩) ⟨q,rfl,by rw[aG oN,av]⟩;rw[aG (gi (bG _ _ g) (bG _ _ j8) (by intro z;cases z))];exact sq _ _ (bG _ _ g)
    ·have ne:eI J N cs ds (i,j)=false:=by
      unfold eI;rw[G6,cJ];apply xg
      intro z;apply h
      rw[fP,f6];intro w;injection w with w
      exact z (by omega)
     rw[if_neg (by rw[ne];decide),h_]at er;refine keep ws _ (λb o _ e=>e) (bG _ _ j8) (by omega) ?_;rw[er];exact fH.same bG rq
   ·rintro σ H4 ⟨v6,v7,v8,ws,rfl,s4,Bo,Ca,Ks,Cb,uH,j8,W6,rq⟩
    refine⟨_,_,_,_,_,ws,rfl,s4,Bo,Ca,j8,by omega,?_⟩;rw[jg,xv,tI,Hh,h_];rw[el2]at rq;exact rq
  ·rintro σ H2 ⟨v4,v5,v6,v7,v8,ws,rfl,s2,g2,hp2,hL2,hwl,hm2⟩
   rw[el1]at hm2;exact⟨_,rfl,kk L ws H2 s2 BJ hL2 hm2⟩
abbrev Ek:Stmt:=top 57
theorem Ql:bh ["_law_found"] ["_law_found"] (aB Ek):=⟨rfl,rfl,rfl,by decide +kernel,rfl,by decide +kernel,by decide +kernel⟩
def wH:Sp:=λvs H Q _=>∃v,vs = [v]/\((∃i,v = .int i)\/∃l xs,v = .ref l/\H l=some (.lst xs))/\((∃i,v = .int i)->Q (.bl true) H)/\((∃l,v = .ref l)->Q (.bl false) H)
theorem aai (F:aS K "_law_whole" "_law_whole" Ek f fd) (T:Txt mg):aO P w K mg base aX 1 f fd ["_law_found"] wH:=by
 refine F.ok Ql (λvs H Q E h=>?_) (λcdv A outer s H vs Q E hr h=>?_)
 ·obtain⟨v,rfl,_⟩:=h
  rfl
 ·obtain⟨v,rfl,hv,k1,k2⟩:=h
  have nd:=Ql.nd;refine⟨_,(aA (aQ (kx (aY (k_ (K:=K) "int" rfl) rfl T.isinstance du (ae (pv 0) (ae (ky (v:=.ty "int") rfl T.int uh rfl) ah))) (jC (Oi (aY (k_ (K:=K) "bool" rfl) rfl T.isinstance du (ae (pv 0) (ae (ky (v:=.ty "bool") rfl T.bool Jk rfl) ah)))))))),?_⟩
  rcases hv with⟨i,rfl⟩|⟨l,xs,rfl,g⟩
  ·refine⟨_,rfl,_,_,_,rfl,.int i,rfl,true,rfl,eR ?_⟩
   exact⟨_,rfl,_,_,_,rfl,.int i,rfl,false,rfl,k1 ⟨i,rfl⟩⟩
  ·exact⟨_,rfl,_,_,_,rfl,.lst g,rfl,false,rfl,bA (k2 ⟨l,rfl⟩)⟩
end
end My
namespace L2
open PySem PySem.Spec PyProof.Rows
def OJ(K:W.Frag)(n:Nat):R2:=λx y H Q=>Dv K true false n x y H Q\/∃a b xs ys,x = .ref a/\y = .ref b/\ag K H a xs/\ag K H b ys/\xs.length≠ys.length/\Q (.bl false) H
theorem N4{X:Cx}{K:W.Frag}(n:Nat)(h:X.K=K)(hu:X.A.units+1+n<cLine):bY X (compareOp .Eq) (OJ K n):=by
 intro pins s σ H x y v u Q I rx ry hh
 rcases hh with hh|hh
 ·exact rX true n h hu pins s σ H x y v u Q I rx ry hh
 ·subst h
  obtain⟨a,b,xs,ys,rfl,rfl,ha,hb,hl,q⟩:=hh;cases rx;cases ry;obtain⟨its,r,t1,_⟩:=I.list ha;obtain⟨its2,r',t2,_⟩:=I.list hb;have:(its.toArray.size != its2.toArray.size)=true:=by
   have:its.length≠its2.length:=by rw[<- r.length,<- r'.length];exact hl
   simpa using this
  have hh:=SeqAt.RcAt.lists_lengths (A:=X.A) (s:=s) t1.isList t2.isList this (by omega);exact hh _ _ _ _ ⟨.bl false,H,I,rfl,q⟩
end L2
namespace My
open PySem PySem.Spec PyProof.Rows L2
structure i_ (n:Nat) (R:Nat->Nat->Bool) (cs:List Nat):Prop where
 ne:cs.length≠0
 lt:∀x∈cs,x<n
 st:∀i,i+1<cs.length->fq n R (cs.getD i 0) (cs.getD (i+1) 0)=true
theorem i_.one{n:Nat}{R:Nat->Nat->Bool}{a:Nat}(h:a<n):i_ n R [a]:=⟨by simp,λx hx=>by simp at hx;omega,λi hi=>by simp at hi⟩
theorem Bt{cs:List Nat}{d:Nat}{i:Nat}(h:i<cs.length):(cs++[d]).getD i 0=cs.getD i 0:=by
 rw[aN,aN,jf h]
theorem KH{cs:List Nat}{d:Nat}:(cs++[d]).getD cs.length 0=d:=by
 rw[aN,iE (aW _),HB];rfl
theorem i_.snoc{n:Nat}{R:Nat->Nat->Bool}{cs:List Nat}{z d:Nat}(h:i_ n R (cs++[z]))(hd:d<n)(hs:fq n R z d=true):i_ n R ((cs++[z])++[d]):=by
 refine⟨by simp,λx hx=>?_,λi hi=>?_⟩
 ·rcases gy.mp hx with hx|hx
  ·exact h.lt x hx
  ·simp at hx;omega
 ·have hl:(cs++[z]).length=cs.length+1:=by simp
  rw[cA,hl]at hi
  by_cases e:i+1<(cs++[z]).length
  ·rw[Bt (by omega),Bt e]
   exact h.st i e
  ·have e2:i=cs.length:=by simp at hi;omega
   subst e2;rw[Bt (by omega),KH];have:(cs++[z]++[d]).getD (cs.length+1) 0=d:=by rw[<- hl];exact KH
   rw[this];exact hs
theorem TB{M:List Nat}(L:Ev.bL M){z b:Nat}(hz:z<M.length):∀(k c:Nat),M.getD c 0<=k->c<M.length->cZ (Ev.aF M) z c=true->Ev.aF M c b=true->∃d,d<M.length/\fq M.length (Ev.aF M) z d=true/\Ev.aF M d b=true:=by
 intro k
 induction k with
 |zero =>
  intro c hk hc h1 h2;refine⟨c,hc,?_,h2⟩;unfold fq;rw[h1,gO,fP,List.any_eq_false];intro t ht;have htl:t<M.length:=by simpa using ht
  rw[bJ];rintro⟨g1,g2⟩;unfold cZ at g2;rw[bJ,fP,f6]at g2;have:=(Ev.dF.mp g2.2).le;exact g2.1 (Ev.getD_inj L.nd htl hc (by omega))
 |succ k ih =>
  intro c hk hc h1 h2;cases hs:fq M.length (Ev.aF M) z c with
  |true=>exact⟨c,hc,hs,h2⟩
  |false =>
   unfold fq at hs;rw[h1,gO,G6,xo]at hs;obtain⟨t,ht,g⟩:=hs;have htl:t<M.length:=by simpa using ht
   rw[bJ]at g;obtain⟨g1,g2⟩:=g;unfold cZ at g2;rw[bJ,fP,f6]at g2;have hle:=(Ev.dF.mp g2.2).le;have hne:M.getD t 0≠M.getD c 0:=λe=>g2.1 (Ev.getD_inj L.nd htl hc e);exact ih t (by omega) htl g1 (Ev.M6 g2.2 h2)
section
variable {n:Nat} {R:Nat->Nat->Bool}
end
theorem rL{M:List Nat}(hM:Ev.bL M):Good M.length (Ev.aF M):=
 ⟨λa ha=>Ev.jx _ _,λa b ha hb h1 h2=>Ev.u5 hM.nd ha hb h1 h2,λa b ha hb=>hM.oX ha hb,λa b ha hb=>let⟨c,hc,_,h⟩:=hM.o7 ha hb;⟨c,hc,λx _=>h x⟩⟩
theorem ac3{n:Nat}{R:Nat->Nat->Bool}(G:Good n R){a:Nat}(ha:a<n):0<fN n R a:=by
 rw[mY];exact List.countP_pos_iff.mpr ⟨a,fw.mpr ha,G.refl a ha⟩
theorem Mm{n:Nat}{R:Nat->Nat->Bool}(G:Good n R):∀{c:List Nat} {a b:Nat},Cl.nh (gA n R) b a c->a<n->c.length<=fN n R a
 | [],a,b,h,_=>by cases h.hd
 | [x],a,b,h,ha=>by
  have:=ac3 G ha;show 1<=_;omega
 |x::y::r,a,b,h,ha=>by
  have e:=h.hd;cases e;obtain⟨h1,h2⟩:=Cl.Xs h;have:=Mm G h1 (vb.mp h2).2.1;have hu:=Rr G _ _ h2;rw[jO];omega
theorem Nu{n:Nat}:∀{zs:List Int},inB n zs=true->∃cs:List Nat,zs=cs.map (λx:Nat=>(x:Int))/\∀x∈cs,x<n
 | [],_=>⟨[],rfl,λx hx=>nomatch hx⟩
 |z::zs,h=>by
  unfold inB at h;rw[He,bJ,cJ]at h;obtain⟨cs,e,q⟩:=Nu (zs:=zs) h.2;refine⟨z.toNat::cs,by rw[cX,<- e,Int.toNat_of_nonneg h.1.1],λx hx=>?_⟩
  rcases bx.mp hx with rfl|hx
  ·omega
  ·exact q x hx
theorem Iv{c d:List Nat}(hl:c.length=d.length):(List.range c.length).all (λj=>decide (c.getD j 0=d.getD j 0))=decide (c=d):=by
 rw[dm,fX,cJ]
 constructor
 ·intro h
  refine jN hl λi h1 h2=>?_;have:=rW (h i (fw.mpr h1));rw[aN,aN,ay h1,ay h2]at this;exact this
 ·intro h i _
  rw[h];exact cy rfl
theorem Ck{K:W.Frag}{H:Hp}{c d:List Nat}(hl:c.length=d.length)(n:Nat):jd K H n (c.map nV) (d.map nV) λj=>decide (c.getD j 0=d.getD j 0):=by
 refine⟨by rw[au,au];exact hl,λj x y hx hy=>?_⟩;have h1:j<c.length:=by have:=(bN.mp hx).1;rwa [au]at this
 rw[eT h1]at hx;rw[eT (by omega)]at hy;cases hx;cases hy;have:=bK.int (K:=K) (H:=H) n ((c.getD j 0:Nat):Int) ((d.getD j 0:Nat):Int);have e:(((c.getD j 0:Nat):Int)==((d.getD j 0:Nat):Int))=decide (c.getD j 0=d.getD j 0):=by
  rw[dm,gR,cJ];omega
 rw[e]at this;exact this
theorem JX{K:W.Frag}{H:Hp}{a b:Addr}{c d:List Nat}{Q:VK}(h1:ag K H a (c.map nV))(h2:ag K H b (d.map nV))(q:Q (.bl (decide (c=d))) H):OJ K 0 (.ref a) (.ref b) H Q:=by
 by_cases hl:c.length=d.length
 ·refine .inl ⟨a,b,_,_,_,rfl,rfl,h1,h2,Ck hl 0,?_⟩
  rw[au,Iv hl];simpa using q
 ·refine .inr ⟨a,b,_,_,rfl,rfl,h1,h2,by rw[au,au];exact hl,?_⟩
  rw[cx (λe=>hl (by rw[e]))]at q;exact q
theorem Ur{K:W.Frag}{H:Hp}{a b:Addr}{c d:List Nat}(h1:ag K H a (c.map nV))(h2:ag K H b (d.map nV)):bK K H 1 (.ref a) (.ref b) (decide (c=d)):=by
 by_cases hl:c.length=d.length
 ·have:=bK.lst 0 a b _ _ _ h1 h2 (Ck (K:=K) (H:=H) hl 0).1 (Ck hl 0).2
  rw[au,Iv hl]at this;exact this
 ·have:=bK.lens (K:=K) (H:=H) 0 a b _ _ h1 h2 (by rw[au,au];exact hl)
  rw[cx (λe=>hl (by rw[e]))];exact this
end My
namespace L2
open PySem PySem.Spec PyProof.Rows
theorem S4:bootBuiltins "sorted" = some (.builtin "sorted"):=by decide +kernel
theorem ab5 {h:Heap} {a:Addr} {vs:List Value} {out:Array Value} {n:Nat} (e:h.get? a=some (seqObj "list" vs.toArray n)):(∃c,(sortedHeap h a vs out).get? a=some (seqObj "list" out c))/\∀b o,b≠a->h.get? b=some o->(sortedHeap h a vs out).get? b=some o:=by
 unfold sortedHeap;obtain⟨e1,h1⟩:∃e1,(h.update a (Obj.mapSeq λ_=>(#[]:Array Value))).get? a=some (seqObj "list" #[] e1):=⟨_,xO e λ_=>#[]⟩;refine⟨⟨_,xO (aU _ (aU _ h1)) λ_=>out⟩,λb o hb q=>?_⟩;rw[lV _ _ _ _ hb];refine aU _ (aU _ ?_);rw[lV _ _ _ _ hb];exact q
def abA(K:W.Frag):List V->Hp->VK->Prop:=λxs H Q=>∃(l:Addr) (ns:List Int),xs = [.ref l]/\ag K H l (ns.map V.int)/\ns.length<64/\∀(p:Addr) (ms:List Int),H p=none->ms.length=ns.length->(ns.length<64->ms.Perm ns/\ms.Pairwise (·<=·))->Q (.ref p) (upd H p (.lst (ms.map V.int)))
theorem Ti {X:Cx} {K:W.Frag} (h:X.K=K) (hr:bR 0 X.A):dD X (.builtin "sorted") (abA K):=by
 subst h;intro pins s σ H vs us Q I rv h;obtain⟨l,ns,rfl,hl,hz,q⟩:=h;obtain⟨u,rfl,ru⟩:=rv.one;refine call_function_entry_kw kind_sorted plain_sorted entry_sorted (args_sorted1 u) ?_;unfold Builtin.«sorted»;refine ai (m:=checkCount "sorted" 1 1 _) (aH (ai (Jw (A:=X.A.in1) hr.hd I ru (.inr ⟨l,rfl,hl⟩) (by rw[au];omega) λits s1 rt I1=>ai (yf ?_ ?_))))
 ·have hI:=Mj rt
  have ea:(s1.heap.push {cls:=.type "list", data:=.seq its.toArray}).get? s1.heap.objs.size=some (seqObj "list" its.toArray 0):=cn _ rfl;refine ai (fB (wpAny_call_entry_kw slot_list_sort ⟨_,ea,rfl⟩ entry_list_sort ?_ (args_list_sort _)));show wpAny (model X.prog X.w) X.A.in1.in1 (Builtin.«list.sort» ⟨[.ref s1.heap.objs.size],[]⟩) _ _ _;have hvl:its.length<64:=by rw[hI.length];exact hz
  refine list_sort_tree (s:={s1 with heap:=s1.heap.push {cls:=.type "list", data:=.seq its.toArray}}) (vs:=its) (n:=0) ea hI hvl λout ns' hI' hp' hs'=>?_;obtain⟨⟨c,g1⟩,g2⟩:=ab5 (out:=out) ea;have hol:out.toList.length<=sizeLine:=by rw[hI'.length,hp'.length_eq,<- hI.length];exact eB (cY hvl (by decide))
  have I5:Inv X pins σ (upd H s1.heap.objs.size (.lst (ns'.map V.int))) {s1 with heap:=sortedHeap (s1.heap.push {cls:=.type "list", data:=.seq its.toArray}) s1.heap.objs.size its out,toks:=s1.toks}:=by
   refine I1.laid (t':=s1.toks) (λb o e=>?_) (aW _) ⟨by rw[au,<- hI'.length];exact hol,out.toList,c,GR hI',by simpa using g1⟩;exact g2 b o (bE (aR e)) (aU _ e)
  exact⟨_,rfl,aH ⟨_,rfl,.ref s1.heap.objs.size,_,I5,rfl,q _ ns' I1.fresh hp'.length_eq λ_=>⟨hp',hs'⟩⟩⟩
 ·rw[<- rt.length,au]
  exact eB (cY hz (by decide))
def abp:List V->Hp->VK->Prop:=λxs H Q=>∃(r:Addr) (n:Nat),xs = [.ref r]/\H r=some (.rng 0 (n:Int))/\n<=100000/\∀l,H l=none->Q (.ref l) (upd H l (.lst ((List.range n).map λ(i:Nat)=>V.int i)))
theorem Tb {X:Cx} (hr:bR 0 X.A):dD X (.type "list") abp:=by
 intro pins s σ H xs us Q I r h;obtain⟨p,n,rfl,hp,hn,q⟩:=h;obtain⟨u,rfl,rx⟩:=vals1 r;cases rx;have oP:(100000:Nat)<=sizeLine:=by decide +kernel
 obtain⟨t,t',t'',ea⟩:=(show bC X.prog X.w H s.heap p (.rng 0 (n:Int))from I.hok p _ hp);refine call_list_range (n:=n) hr.hd ea (small_one (by omega) (by omega) (by omega) (by omega)) (by rw[rangeSize_one];split<;>omega) (by omega) λh' tk acc c' hk hS hacc=>?_;have hv:=Rv hacc;refine⟨.ref s.heap.objs.size,_,I.laid (t':=tk) hk (aW _) (show bC X.prog X.w _ h' _ (.lst ((List.range n).map λ(i:Nat)=>V.int i))from⟨by simp;omega,acc.toList,c',hv,by simpa using hS⟩),rfl,q _ (I.hok.fresh (aW _))⟩
end L2
namespace My
open PySem PySem.Spec PyProof.Rows L2
section
variable {P:Program} {w:World} {K:W.Frag} {mg:Str->Option Value} {base:Heap} {f:Addr} {fd:FuncData}
end
noncomputable def Un(n:Nat)(R:Nat->Nat->Bool)(a b c:Nat):Prop:=R a c=true/\∃m x j y,bO n R b c m/\bH n R a m x/\bH n R a b j/\bO n R j c y/\x≠y
def Lex(a b c a' b' c':Nat):Prop:=a<a'\/(a=a'/\(b<b'\/(b=b'/\c<c')))
structure First (n:Nat) (U:Nat->Nat->Nat->Prop) (a b c:Nat):Prop where
 la:a<n
 lb:b<n
 lc:c<n
 is:U a b c
 no:∀a' b' c',a'<n->b'<n->c'<n->Lex a' b' c' a b c->¬ U a' b' c'
def Ip(n:Nat)(U:Nat->Nat->Nat->Prop)(v:V)(H:Hp):Prop:=(v = .non/\∀a b c,a<n->b<n->c<n->¬ U a b c)\/∃t a b c:Nat,v = .ref t/\H t=some (.tup [.int a,.int b,.int c])/\First n U a b c
theorem bH.congr{n:Nat}{R R':Nat->Nat->Bool}(hR:∀a b,a<n->b<n->R a b=R' a b){a b c:Nat}(ha:a<n)(hb:b<n)(h:bH n R a b c):bH n R' a b c:=
 ⟨h.1,λx hx=>by rw[<- hR c x h.1 hx,<- hR a x ha hx,<- hR b x hb hx];exact h.2 x hx⟩
theorem bO.congr{n:Nat}{R R':Nat->Nat->Bool}(hR:∀a b,a<n->b<n->R a b=R' a b){a b c:Nat}(ha:a<n)(hb:b<n)(h:bO n R a b c):bO n R' a b c:=
 ⟨h.1,λx hx=>by rw[<- hR x c hx h.1,<- hR x a hx ha,<- hR x b hx hb];exact h.2 x hx⟩
theorem Un.congr{n:Nat}{R R':Nat->Nat->Bool}(hR:∀a b,a<n->b<n->R a b=R' a b){a b c:Nat}(ha:a<n)(hb:b<n)(hc:c<n)(h:Un n R a b c):Un n R' a b c:=by
 obtain⟨h0,m,x,j,y,h1,h2,h3,h4,ne⟩:=h;exact⟨by rw[<- hR a c ha hc];exact h0,m,x,j,y,h1.congr hR hb hc,h2.congr hR ha h1.1,h3.congr hR ha hb,h4.congr hR h3.1 hc,ne⟩
section
variable {P:Program} {w:World} {K:W.Frag} {mg:Str->Option Value} {base:Heap} {f:Addr} {fd:FuncData}
abbrev DY:Stmt:=top 42
theorem Px:bh ["order","a","b","c"] ["order","a","b","c"] (aB DY):=⟨rfl,rfl,rfl,by decide +kernel,rfl,by decide +kernel,by decide +kernel⟩
def wB(C:Addr):Sp:=λvs H Q _=>∃(p n a b c m x:Nat) (R:Nat->Nat->Bool),vs = [.ref p,.int a,.int b,.int c]/\fQ C H p n R/\Good n R/\a<n/\b<n/\c<n/\bO n R b c m/\bH n R a m x/\Q (.int x) H
theorem ZL {C:Addr} (F:aS K "join_of_meet" "join_of_meet" DY f fd) (T:Txt mg) (TC:gP K C):aO P w K mg base aX 1 f fd ["order","a","b","c"] (wB C):=by
 refine F.ok Px (λvs H Q E h=>?_) (λcdv A outer s H vs Q E hr h=>?_)
 ·obtain⟨p,n,a,b,c,m,x,R,rfl,_⟩:=h
  rfl
 ·obtain⟨p,n,a,b,c,m,x,R,rfl,hO,G,ha,hb,hc,hm,hx,kk⟩:=h
  have nd:=Px.nd;obtain⟨dx,vp,vr,vj,vm,o1,_,_,oj,om⟩:=hO;obtain⟨ra,us,rb,rfl,q1,q2,q3⟩:=oj.get ha;obtain⟨sa,ws,sb,rfl,p1,p2,p3⟩:=om.get hb;have em:f7 n (λa b=>R b a) b c = .int m:=iM G.mq hm.1 hm.2;have ex:f7 n R a m = .int x:=iM G.dis hx.1 hx.2;refine⟨_,(aA (aQ (aq (aK (K:=K) rfl) (aq (aK (K:=K) rfl) (fe (K:=K) rfl (pv 0) rfl) (pv 1) (λ_ _=>rfl)) (aq (aK (K:=K) rfl) (aq (aK (K:=K) rfl) (fe (K:=K) rfl (pv 0) rfl) (pv 2) (λ_ _=>rfl)) (pv 3) (λ_ _=>rfl)) (λ_ _=>rfl)))),?_⟩;exact⟨_,rfl,p,C,dx,_,_,rfl,o1,TC.cl,TC.nJ,oC _ _ _ _ _,_,rfl,ra,us,_,.ref rb,rfl,rfl,az.of q1,aI q2,_,rfl,p,C,dx,_,_,rfl,o1,TC.cl,TC.nM,oE _ _ _ _ _,_,rfl,sa,ws,_,.ref sb,rfl,rfl,az.of p1,aI p2,_,rfl,sb,_,_,.int m,rfl,rfl,az.of p3,aI (by rw[eG hc,em]),rb,_,_,.int x,rfl,rfl,az.of q3,aI (by rw[eG hm.1,ex]),kk⟩
abbrev Em:Stmt:=top 43
theorem Qo:bh ["order","a","b","c"] ["order","a","b","c"] (aB Em):=⟨rfl,rfl,rfl,by decide +kernel,rfl,by decide +kernel,by decide +kernel⟩
def wD(C:Addr):Sp:=λvs H Q _=>∃(p n a b c j y:Nat) (R:Nat->Nat->Bool),vs = [.ref p,.int a,.int b,.int c]/\fQ C H p n R/\Good n R/\a<n/\b<n/\c<n/\bH n R a b j/\bO n R j c y/\Q (.int y) H
theorem ZT {C:Addr} (F:aS K "meet_of_join" "meet_of_join" Em f fd) (T:Txt mg) (TC:gP K C):aO P w K mg base aX 1 f fd ["order","a","b","c"] (wD C):=by
 refine F.ok Qo (λvs H Q E h=>?_) (λcdv A outer s H vs Q E hr h=>?_)
 ·obtain⟨p,n,a,b,c,m,x,R,rfl,_⟩:=h
  rfl
 ·obtain⟨p,n,a,b,c,j,y,R,rfl,hO,G,ha,hb,hc,hj,hy,kk⟩:=h
  have nd:=Qo.nd;obtain⟨dx,vp,vr,vj,vm,o1,_,_,oj,om⟩:=hO;obtain⟨ra,us,rb,rfl,q1,q2,q3⟩:=oj.get ha;obtain⟨sa,ws,sb,rfl,p1,p2,p3⟩:=om.get hj.1;have ej:f7 n R a b = .int j:=iM G.dis hj.1 hj.2;have ey:f7 n (λa b=>R b a) j c = .int y:=iM G.mq hy.1 hy.2;refine⟨_,(aA (aQ (aq (aK (K:=K) rfl) (aq (aK (K:=K) rfl) (fe (K:=K) rfl (pv 0) rfl) (aq (aK (K:=K) rfl) (aq (aK (K:=K) rfl) (fe (K:=K) rfl (pv 0) rfl) (pv 1) (λ_ _=>rfl)) (pv 2) (λ_ _=>rfl)) (λ_ _=>rfl)) (pv 3) (λ_ _=>rfl)))),?_⟩;exact⟨_,rfl,p,C,dx,_,_,rfl,o1,TC.cl,TC.nM,oE _ _ _ _ _,_,rfl,p,C,dx,_,_,rfl,o1,TC.cl,TC.nJ,oC _ _ _ _ _,_,rfl,ra,us,_,.ref rb,rfl,rfl,az.of q1,aI q2,_,rfl,rb,_,_,.int j,rfl,rfl,az.of q3,aI (by rw[eG hb,ej]),sa,ws,_,.ref sb,rfl,rfl,az.of p1,aI p2,_,rfl,sb,_,_,.int y,rfl,rfl,az.of p3,aI (by rw[eG hc,ey]),kk⟩
abbrev EY:Stmt:=top 44
theorem QG:bh ["order","a","b","c"] ["order"] (aB EY):=⟨rfl,rfl,rfl,by decide +kernel,rfl,by decide +kernel,by decide +kernel⟩
def Gn(C:Addr):Sp:=λvs H Q _=>∃(p n:Nat) (R:Nat->Nat->Bool),vs = [.ref p]/\fQ C H p n R/\Good n R/\n<=24/\∀v H',Same H H'->Ip n (Un n R) v H'->Q v H'
theorem aae {C:Addr} (F:aS K "uneven" "uneven" EY f fd) (T:Txt mg) (TC:gP K C) (oq:aC P w K mg base "join_of_meet" ["order","a","b","c"] 1 (wB C)) (oy:aC P w K mg base "meet_of_join" ["order","a","b","c"] 1 (wD C)) :
  aO P w K mg base aX 2 f fd ["order"] (Gn C):=by
 refine F.ok QG (λvs H Q E h=>?_) (λcdv A outer s H vs Q E hr h=>?_)
 ·obtain⟨p,n,R,rfl,_⟩:=h
  rfl
 ·obtain⟨p,n,R,rfl,hO,G,hn,kk⟩:=h
  have nd:=QG.nd;have en:((n:Int)).toNat=n:=dW n;obtain⟨dx,vp,vr,vj,vm,o1,_,o3,_,_⟩:=id hO;refine⟨_,(ax (cH cF rfl (cM rfl T.range (ae (fe (K:=K) rfl (pv 0) rfl) ah)) (bf (i:=1) nd rfl (Or.inl rfl))
   (aA (cH cF rfl (cM rfl T.range (ae (fe (K:=K) rfl (pv 0) rfl) ah)) (bf (i:=2) nd rfl (Or.inl rfl))
   (aA (cH cF rfl (cM rfl T.range (ae (fe (K:=K) rfl (pv 0) rfl) ah)) (bf (i:=3) nd rfl (Or.inl rfl))
   (aA (bB (PW.pt (mJ (cg (aq (aK (K:=K) rfl) (aq (aK (K:=K) rfl) (fe (K:=K) rfl (pv 0) rfl) (pv 1) (λ_ _=>rfl)) (pv 3) (λ_ _=>rfl))) (mK (bu eU (aL oq hr rfl (ae (pv 0) (ae (pv 1) (ae (pv 2) (ae (pv 3) ah (ao nofun)) (ao nofun)) (ao nofun)) (ao nofun))) (aL oy hr rfl (ae (pv 0) (ae (pv 1) (ae (pv 2) (ae (pv 3) ah (ao nofun)) (ao nofun)) (ao nofun)) (ao nofun))) (a_ _))))) (aA (aQ (gJ (ae (pv 1) (ae (pv 2) (ae (pv 3) ah (ao nofun)) (ao nofun)) (ao nofun))))) bD)))))))
   (aA (aQ jB))),?_⟩
  refine⟨_,rfl,p,C,dx,_,_,rfl,o1,TC.cl,TC.nC,uA _ _ _ _ _,_,rfl,(bF (by omega)).1,(bF (by omega)).2,fb (lo:=0) (n:=((n:Int)).toNat) (λi σ H2=>∃(v1 v2 v3:Option V),σ = [some (.ref p),v1,v2,v3]/\Same H H2/\∀a b c,a<i->b<n->c<n->¬ Un n R a b c)
   ⟨none,none,none,rfl,Same.refl _,λa b c h=>by omega⟩ ?_ ?_⟩
  ·rintro i σ H2 hi ⟨v1,v2,v3,rfl,s2,iU⟩
   rw[en]at hi;refine⟨_,rfl,p,C,dx,_,_,rfl,s2 _ _ o1,TC.cl,TC.nC,uA _ _ _ _ _,_,rfl,(bF (by omega)).1,(bF (by omega)).2,fb (lo:=0) (n:=((n:Int)).toNat) (λj σ H3=>∃(v2 v3:Option V),σ = [some (.ref p),some (.int (0+(i:Int))),v2,v3]/\Same H H3/\∀b c,b<j->c<n->¬ Un n R i b c)
    ⟨v2,v3,rfl,s2,λb c h=>by omega⟩ ?_ ?_⟩
   ·rintro j σ H3 hj ⟨v2,v3,rfl,s3,iV⟩
    rw[en]at hj;refine⟨_,rfl,p,C,dx,_,_,rfl,s3 _ _ o1,TC.cl,TC.nC,uA _ _ _ _ _,_,rfl,(bF (by omega)).1,(bF (by omega)).2,fb (lo:=0) (n:=((n:Int)).toNat) (λk σ H4=>∃(v3:Option V),σ = [some (.ref p),some (.int (0+(i:Int))),some (.int (0+(j:Int))),v3]/\Same H H4/\∀c,c<k->¬ Un n R i j c)
     ⟨v3,rfl,s3,λc h=>by omega⟩ ?_ ?_⟩
    ·rintro k σ H4 hk ⟨v3,rfl,s4,iW⟩
     rw[en]at hk;obtain⟨ra,us,rb,rfl,q1,q2,q3⟩:=(o3.same s4).get hi;obtain⟨m,hm,hm'⟩:=G.meet j k hj hk;obtain⟨x,hx,hx'⟩:=G.join i m hi hm;obtain⟨jj,uP,BV⟩:=G.join i j hi hj;obtain⟨y,hy,hy'⟩:=G.meet jj k uP hk;have next:¬ Un n R i j k->∀c,c<k+1->¬ Un n R i j c:=λh c hc=>by
      by_cases e:c=k
      ·subst e;exact h
      ·exact iW c (by omega)
     refine⟨_,rfl,p,C,dx,_,_,rfl,s4 _ _ o1,TC.cl,TC.nR,Kj _ _ _ _ _,_,rfl,ra,us,_,.ref rb,rfl,rfl,az.of q1,at0 q2,_,rfl,rb,_,_,.bl (R i k),rfl,rfl,az.of q3,at0 (eG hk),_,rfl,?_⟩;refine bq (λh=>?_) (λh=>?_)
     ·refine⟨_,rfl,_,rfl,_,rfl,_,rfl,p,n,i,j,k,m,x,R,by simp,hO.iY s4,G,hi,hj,hk,⟨hm,hm'⟩,⟨hx,hx'⟩,?_⟩
      refine⟨_,rfl,_,rfl,_,rfl,_,rfl,p,n,i,j,k,jj,y,R,by simp,hO.iY s4,G,hi,hj,hk,⟨uP,BV⟩,⟨hy,hy'⟩,rfl,_,rfl,?_⟩;refine bq (λh2=>?_) (λh2=>?_)
      ·have ne:x≠y:=λz=>by subst z;simp at h2
       refine⟨_,rfl,_,rfl,_,rfl,by show 3<=sizeLine;decide,λt ht=>kk _ _ (s4.trans (Same.put ht)) (.inr ⟨t,i,j,k,rfl,by rw[av,ft,ft,ft],hi,hj,hk,⟨h,m,x,jj,y,⟨hm,hm'⟩,⟨hx,hx'⟩,⟨uP,BV⟩,⟨hy,hy'⟩,ne⟩,λa' b' c' ha hb hc l=>?_⟩)⟩
       rcases l with l|⟨rfl,l|⟨rfl,l⟩⟩
       ·exact iU a' b' c' l hb hc
       ·exact iV b' c' l hc
       ·exact iW c' l
      ·have e:x=y:=by
        by_cases z:x=y
        ·exact z
        ·exact absurd (by rw[cx (λq=>by injection q with q;omega)];rfl) h2
       refine⟨_,rfl,s4,next λz=>?_⟩;obtain⟨_,m',x',j',y',k1,k2,k3,k4,ne⟩:=z;obtain rfl:=k1.uniq G ⟨hm,hm'⟩;obtain rfl:=k3.uniq G ⟨uP,BV⟩;exact ne ((k2.uniq G ⟨hx,hx'⟩).trans (e.trans (k4.uniq G ⟨hy,hy'⟩).symm))
     ·refine bA ⟨_,rfl,s4,next λz=>h z.1⟩
    ·rintro σ H4 ⟨v3,rfl,s4,iW⟩
     rw[en]at iW;refine⟨_,_,rfl,s4,λb c hb hc=>?_⟩
     by_cases e:b=j
     ·subst e;exact iW c hc
     ·exact iV b c (by omega) hc
   ·rintro σ H3 ⟨v2,v3,rfl,s3,iV⟩
    rw[en]at iV;refine⟨_,_,_,rfl,s3,λa b c ha hb hc=>?_⟩
    by_cases e:a=i
    ·subst e;exact iV b c hb hc
    ·exact iU a b c (by omega) hb hc
  ·rintro σ H2 ⟨v1,v2,v3,rfl,s2,iU⟩
   rw[en]at iU;exact kk _ _ s2 (.inl ⟨rfl,iU⟩)
end
end My
namespace L2
open PySem PySem.Spec PyProof.Rows
section
variable {X:Cx} {tg:Expr}
end
end L2
namespace My
open PySem PySem.Spec PyProof.Rows L2
section
variable {P:Program} {w:World} {K:W.Frag} {mg:Str->Option Value} {base:Heap} {f:Addr} {fd:FuncData}
end
section
variable {n:Nat} {R:Nat->Nat->Bool}
theorem Yr(G:Good n R)(no:∀a b c,a<n->b<n->c<n->¬ Un n R a b c):∃J N,Md n R J N:=by
 have hJ:∃J:Nat->Nat->Nat,∀a b,a<n->b<n->bH n R a b (J a b):=⟨λa b=>if h:a<n/\b<n then Classical.choose (G.join a b h.1 h.2)else 0,λa b ha hb=>by
  have h:=w9 (G.join a b ha hb);simp only[ha,hb,and_self,zm];exact h⟩
 have hN:∃N:Nat->Nat->Nat,∀a b,a<n->b<n->bO n R a b (N a b):=⟨λa b=>if h:a<n/\b<n then Classical.choose (G.meet a b h.1 h.2)else 0,λa b ha hb=>by
  have h:=w9 (G.meet a b ha hb);simp only[ha,hb,and_self,zm];exact h⟩
 obtain⟨J,hJ⟩:=hJ;obtain⟨N,hN⟩:=hN;refine⟨J,N,G,hJ,hN,λa b c ha hb hc hac=>?_⟩;apply xg
 intro ne;have h1:=hN b c hb hc;have h3:=hJ a b ha hb;exact no a b c ha hb hc ⟨hac,_,_,_,_,h1,hJ a _ ha h1.1,h3,hN _ c h3.1 hc,ne⟩
end
def Five(n:Nat)(R:Nat->Nat->Bool)(fs:List Int):Prop:=∃b l s h t:Nat,fs = [(b:Int),(l:Int),(s:Int),(h:Int),(t:Int)]/\(b<n/\l<n/\s<n/\h<n/\t<n) /\
 l≠h/\R l h=true/\R s h=false/\R l s=false/\bO n R l s b/\bO n R h s b/\bH n R l s t/\bH n R h s t
theorem Five.len{n:Nat}{R:Nat->Nat->Bool}{fs:List Int}(h:Five n R fs):fs.length=5:=by
 obtain⟨b,l,s,h,t,rfl,_⟩:=h;rfl
theorem Five.rng{n:Nat}{R:Nat->Nat->Bool}{fs:List Int}(h:Five n R fs):∀z∈fs,0<=z/\z<(n:Int):=by
 obtain⟨b,l,s,h,t,rfl,⟨h0,h1,h2,h3,h4⟩,_⟩:=h;intro z hz;simp only[bx,fz,fK]at hz;omega
theorem Kg{n:Nat}{R:Nat->Nat->Bool}{b l s h t:Nat}(hb:b<n)(hl:l<n)(hs:s<n)(hh:h<n)(ht:t<n):Five n R [(b:Int),(l:Int),(s:Int),(h:Int),(t:Int)] ↔
  (l≠h/\R l h=true/\R s h=false/\R l s=false/\bO n R l s b/\bO n R h s b/\bH n R l s t/\bH n R h s t):=by
 constructor
 ·rintro⟨b',l',s',h',t',e,_,k⟩
  simp only[tG,Int.natCast_inj,and_true]at e;obtain⟨rfl,rfl,rfl,rfl,rfl⟩:=e;exact k
 ·intro k
  exact⟨b,l,s,h,t,rfl,⟨hb,hl,hs,hh,ht⟩,k⟩
theorem bH.iff_eq{n:Nat}{R:Nat->Nat->Bool}{a b x e:Nat}(G:Good n R)(h:bH n R a b x):bH n R a b e ↔ x=e:=⟨λh'=>h.uniq G h',λq=>q▸h⟩
theorem bO.iff_eq{n:Nat}{R:Nat->Nat->Bool}{a b x e:Nat}(G:Good n R)(h:bO n R a b x):bO n R a b e ↔ x=e:=⟨λh'=>h.uniq G h',λq=>q▸h⟩
theorem T3{a b:Nat}:decide (V.int (a:Int)=V.int (b:Int))=decide (a=b):=by
 apply lg.mpr
 constructor
 ·intro h;injection h with h;omega
 ·intro h;rw[h]
theorem Xm{fs:List Int}(h:fs.length=5):∃a b c d e,fs = [a,b,c,d,e]:=by
 match fs,h with
 | [a,b,c,d,e],_=>exact⟨a,b,c,d,e,rfl⟩
section
variable {P:Program} {w:World} {K:W.Frag} {mg:Str->Option Value} {base:Heap} {f:Addr} {fd:FuncData}
end
section
variable {n:Nat} {R:Nat->Nat->Bool} {a b c l s t m x j y:Nat}
theorem Mp(G:Good n R)(hl:l<n)(hs:s<n)(ht:t<n)(h1:R l t=true)(h2:R s t=true)(h3:∀z,z<n->R l z=true->R s z=true->R t z=true):bH n R l s t:=
 ⟨ht,λz hz=>by rw[dm,bJ];exact⟨λq=>⟨G.trans hl ht hz h1 q,G.trans hs ht hz h2 q⟩,λq=>h3 z hz q.1 q.2⟩⟩
theorem Mq(G:Good n R)(hl:l<n)(hs:s<n)(ht:t<n)(h1:R t l=true)(h2:R t s=true)(h3:∀z,z<n->R z l=true->R z s=true->R z t=true):bO n R l s t:=
 ⟨ht,λz hz=>by rw[dm,bJ];exact⟨λq=>⟨G.trans hz ht hl q h1,G.trans hz ht hs q h2⟩,λq=>h3 z hz q.1 q.2⟩⟩
theorem mB(h:bH n R a b c){z:Nat}(hz:z<n)(h1:R a z=true)(h2:R b z=true):R c z=true:=by rw[h.2 z hz,h1,h2];rfl
theorem oV(h:bO n R a b c){z:Nat}(hz:z<n)(h1:R z a=true)(h2:R z b=true):R z c=true:=by rw[h.2 z hz,h1,h2];rfl
theorem U6(G:Good n R)(ha:a<n)(hb:b<n)(hc:c<n)(hac:R a c=true)(hm:bO n R b c m)(hx:bH n R a m x)(hj:bH n R a b j)(hy:bO n R j c y)(ne:x≠y):Five n R [(m:Int),(x:Int),(b:Int),(y:Int),(j:Int)]:=by
 have lm:=hm.1;have lx:=hx.1;have lj:=hj.1;have ly:=hy.1;obtain⟨m1,m2⟩:=hm.dn G hb hc;obtain⟨x1,x2⟩:=hx.up G ha lm;obtain⟨j1,j2⟩:=hj.up G ha hb;obtain⟨y1,y2⟩:=hy.dn G lj hc;have aj:R a y=true:=oV hy ha j1 hac;have my:R m y=true:=oV hy lm (G.trans lm hb lj m1 j2) m2;have xy:R x y=true:=mB hx ly aj my;have xj:R x j=true:=mB hx lj j1 (G.trans lm hb lj m1 j2);have J1:bH n R x b j:=Mp G lx hb lj xj j2 λz hz q1 q2=>mB hj hz (G.trans ha lx hz x1 q1) q2;have J2:bH n R y b j:=Mp G ly hb lj y1 j2 λz hz q1 q2=>mB hj hz (G.trans ha ly hz aj q1) q2;have M2:bO n R y b m:=Mq G ly hb lm my m1 λz hz q1 q2=>oV hm hz q2 (G.trans hz ly hc q1 y2);have M1:bO n R x b m:=Mq G lx hb lm x2 m1 λz hz q1 q2=>oV M2 hz (G.trans hz lx ly q1 xy) q2;refine(Kg lm lx hb ly lj).mpr ⟨ne,xy,?_,?_,M1,M2,J1,J2⟩
 ·cases e:R b y with
  |false=>rfl
  |true =>
   have hjy:R j y=true:=mB J2 ly (G.refl y ly) e;have hbm:R b m=true:=oV M2 hb e (G.refl b hb);have hjx:R j x=true:=mB hj lx x1 (G.trans hb lm lx hbm x2);exact absurd (G.anti _ _ lx ly xy (G.trans ly lj lx y1 hjx)) ne
 ·cases e:R x b with
  |false=>rfl
  |true =>
   have Wo:R j b=true:=mB J1 hb e (G.refl b hb);have W7:R y b=true:=G.trans ly lj hb y1 Wo;have W8:R y m=true:=oV M2 ly (G.refl y ly) W7;exact absurd (G.anti _ _ lx ly xy (G.trans ly lm lx W8 x2)) ne
end
section
variable {P:Program} {w:World} {K:W.Frag} {mg:Str->Option Value} {base:Heap} {f:Addr} {fd:FuncData}
abbrev DS:Stmt:=top 45
theorem Pn:bh ["order","triple","a","b","c","low","high"] ["order","triple"] (aB DS):=⟨rfl,rfl,rfl,by decide +kernel,rfl,by decide +kernel,by decide +kernel⟩
def Ft(K:W.Frag)(C:Addr):Sp:=λvs H Q _=>∃(p t n a b c:Nat) (R:Nat->Nat->Bool),vs = [.ref p,.ref t]/\fQ C H p n R/\Good n R/\az K H t [.int a,.int b,.int c]/\a<n/\b<n/\c<n/\Un n R a b c /\
 ∀u fs H',Same H H'->H' u=some (.tup (fs.map V.int))->Five n R fs->Q (.ref u) H'
theorem Zx {C:Addr} (F:aS K "five_of" "five_of" DS f fd) (T:Txt mg) (TC:gP K C) (oq:aC P w K mg base "join_of_meet" ["order","a","b","c"] 1 (wB C)) (oy:aC P w K mg base "meet_of_join" ["order","a","b","c"] 1 (wD C)) :
  aO P w K mg base aX 2 f fd ["order","triple"] (Ft K C):=by
 refine F.ok Pn (λvs H Q E h=>?_) (λcdv A outer s H vs Q E hr h=>?_)
 ·obtain⟨p,t,n,a,b,c,R,rfl,_⟩:=h
  rfl
 ·obtain⟨p,t,n,a,b,c,R,rfl,hO,G,hT,ha,hb,hc,⟨hac,m,x,j,y,hm,hx,hj,hy,ne⟩,kk⟩:=h
  have nd:=Pn.nd;obtain⟨dx,vp,vr,vj,vm,o1,_,_,oj,om⟩:=id hO;have em:f7 n (λa b=>R b a) b c = .int m:=iM G.mq hm.1 hm.2;have ej:f7 n R a b = .int j:=iM G.dis hj.1 hj.2;obtain⟨ra,us,rb,rfl,q1,q2,q3⟩:=oj.get ha;obtain⟨sa,us',sb,rfl,p1,p2,p3⟩:=om.get hb;refine⟨_,(ax (aP (i:=2) nd rfl (Or.inl rfl) (aq (aK (K:=K) rfl) (pv 1) ak (λ_ _=>rfl)))
   (ax (aP (i:=3) nd rfl (Or.inl rfl) (aq (aK (K:=K) rfl) (pv 1) ak (λ_ _=>rfl)))
   (ax (aP (i:=4) nd rfl (Or.inl rfl) (aq (aK (K:=K) rfl) (pv 1) ak (λ_ _=>rfl)))
   (ax (aP (i:=5) nd rfl (Or.inl rfl) (aL oq hr rfl (ae (pv 0) (ae (pv 2) (ae (pv 3) (ae (pv 4) ah (ao nofun)) (ao nofun)) (ao nofun)) (ao nofun))))
   (ax (aP (i:=6) nd rfl (Or.inl rfl) (aL oy hr rfl (ae (pv 0) (ae (pv 2) (ae (pv 3) (ae (pv 4) ah (ao nofun)) (ao nofun)) (ao nofun)) (ao nofun))))
   (aA (aQ (gJ (ae (aq (aK (K:=K) rfl) (aq (aK (K:=K) rfl) (fe (K:=K) rfl (pv 0) rfl) (pv 3) (λ_ _=>rfl)) (pv 4) (λ_ _=>rfl)) (ae (pv 5) (ae (pv 3) (ae (pv 6) (ae (aq (aK (K:=K) rfl) (aq (aK (K:=K) rfl) (fe (K:=K) rfl (pv 0) rfl) (pv 2) (λ_ _=>rfl)) (pv 3) (λ_ _=>rfl)) ah (ao nofun)) (ao nofun)) (ao nofun)) (ao nofun)) (ao nofun)))))))))),?_⟩
  refine⟨_,rfl,t,_,0,.int (a:Int),rfl,rfl,hT,aI (j:=0) rfl,?_⟩;refine⟨_,rfl,t,_,1,.int (b:Int),rfl,rfl,hT,aI (j:=1) rfl,?_⟩;refine⟨_,rfl,t,_,2,.int (c:Int),rfl,rfl,hT,aI (j:=2) rfl,?_⟩;refine⟨_,rfl,_,rfl,_,rfl,_,rfl,p,n,a,b,c,m,x,R,rfl,hO,G,ha,hb,hc,hm,hx,?_⟩;refine⟨_,rfl,_,rfl,_,rfl,_,rfl,p,n,a,b,c,j,y,R,rfl,hO,G,ha,hb,hc,hj,hy,?_⟩;refine⟨_,rfl,p,C,dx,_,_,rfl,o1,TC.cl,TC.nM,oE _ _ _ _ _,_,rfl,sa,us',_,.ref sb,rfl,rfl,az.of p1,aI p2,_,rfl,sb,_,_,.int (m:Int),rfl,rfl,az.of p3,aI (by rw[eG hc,em]),_,rfl,_,rfl,_,rfl,
   _,rfl,p,C,dx,_,_,rfl,o1,TC.cl,TC.nJ,oC _ _ _ _ _,_,rfl,ra,us,_,.ref rb,rfl,rfl,az.of q1,aI q2,_,rfl,rb,_,_,.int (j:Int),rfl,rfl,az.of q3,aI (by rw[eG hb,ej]),by show 5<=sizeLine;decide,λu hu=>?_⟩
  exact kk u [(m:Int),(x:Int),(b:Int),(y:Int),(j:Int)] _ (Same.put hu) av (U6 G ha hb hc hac hm hx hj hy ne)
end
end My
namespace L2
open PySem PySem.Spec PyProof.Rows
structure Moved (fs ch:List Addr) (h h':Heap):Prop where
 keep:∀b o,h.get? b=some o->b ∉ fs->b ∉ ch->h'.get? b=some o
 slot:∀b o,h.get? b=some o->b∈fs->b ∉ ch->∃sl,h'.get? b=some {o with slots:=sl}
 there:∀b o,h.get? b=some o->∃o',h'.get? b=some o'
 size:h.objs.size<=h'.objs.size
theorem Moved.any{fs ch:List Addr}{h h':Heap}(m:Moved fs ch h h'){b:Addr}{o:Obj}(e:h.get? b=some o)(n:b ∉ ch):∃sl,h'.get? b=some {o with slots:=sl}:=by
 by_cases hb:b∈fs
 ·exact m.slot b o e hb n
 ·exact⟨o.slots,m.keep b o e hb n⟩
theorem Moved.trans{fs ch:List Addr}{h h1 h2:Heap}(a:Moved fs ch h h1)(b:Moved fs ch h1 h2):Moved fs ch h h2 where
 keep:=λc o e n1 n2=>b.keep c o (a.keep c o e n1 n2) n1 n2
 slot:=λc o e n1 n2=>by
  obtain⟨sl,e1⟩:=a.slot c o e n1 n2;obtain⟨sl',e2⟩:=b.slot c _ e1 n1 n2;exact⟨sl',e2⟩
 there:=λc o e=>by
  obtain⟨o',e1⟩:=a.there c o e;exact b.there c o' e1
 size:=b_ a.size b.size
theorem Moved.mono{fs fs' ch Jr:List Addr}{h h':Heap}(a:Moved fs ch h h')(h1:∀b∈fs,b∈fs')(h2:∀b∈ch,b∈Jr):Moved fs' Jr h h' where
 keep:=λc o e n1 n2=>a.keep c o e (λz=>n1 (h1 c z)) λz=>n2 (h2 c z)
 slot:=λc o e _ n2=>a.any e λz=>n2 (h2 c z)
 there:=a.there
 size:=a.size
structure gQ (h:Heap) (e:Addr) (cls:Value) (dx:Option Addr) (T:Addr) (fl:Value):Prop where
 ex:∃oe vs,h.get? e=some oe/\oe.cls=cls/\oe.dict=dx/\oe.data = .fields vs/\vs[1]?=some (.ref T)
 ne:T≠e
 tb:∃oT ts,h.get? T=some oT/\oT.data = .fields ts/\ts[3]?=some fl
section
variable {M:Model} {A:Around} {E:Value->Shared->Prop} {s:Shared} {base:Heap} {env:Env} {outer:List Env} {L e T:Addr} {oe:Obj} {vs:Array Value} {cls head fl:Value} {dx:Option Addr} {Q:Unit->Shared->Prop}
theorem Bj{h:Heap}{l:List Env}(hl:h.FunFrames base l)(he:h.get? e=some oe)(hd:oe.data = .fields vs):e ∉ frs l:=λhm=>by
 obtain⟨_,o,ho,hnf⟩:=hl.mem hm;rw[he]at ho;cases ho;exact hnf vs hd
theorem Yz(o:Obj)(f:Array Value->Array Value):(o.mapFields f).dict=o.dict:=by
 obtain⟨c,d,dt,sl⟩:=o;cases dt<;>rfl
theorem JW{hadNext:Bool}(hfr:A.frames=some (env::outer))(hl:s.heap.FunFrames base (env::outer))(hf:env.frame=some L)(he:s.heap.get? e=some oe)(hd:oe.data = .fields vs)(hsz:1<vs.size)
  (h:∀h' T,Moved (frs (env::outer)) [e] s.heap h'->s.heap.objs.size<=T->gQ h' e oe.cls oe.dict T (rawInt L)->Q () {s with heap:=h'}) :
  wpAny M A (do let a <- frameOf env;let pl <- entryPlaceOf L hadNext;let b <- EntryCells.newEntry head a .none (rawInt L) .none pl;setField (.ref e) 1 b) Q E s:=by
 have hene:=Bj hl he hd;refine ai (wpAny_frameOf_fun hfr hl hf λh₁ hs₁=>?_);refine ai (wpAny_entryPlaceOf λpl hpl=>?_);unfold EntryCells.newEntry newFields;refine ai (kR ?_ (hpl.sizeOk5 _ _ _ _ _));have he₁:h₁.get? e=some oe:=(hs₁.2.1 e hene).trans he;generalize hob:({cls:=.type "traceback", dict:=none,data:=.fields ([head,.ref L,.none,rawInt L,.none]++(if pl.isEmpty then List.replicate 6 Value.none else pl)).toArray}:Obj)=ob;have he₂:=aU (h:=h₁) ob he₁;refine ub he₂ hd hsz (h _ h₁.objs.size ?_ (by rw[hs₁.1];exact aW _) ?_)
 ·have keep:∀b o,b≠e->h₁.get? b=some o->((h₁.push ob).update e (Obj.mapFields (·.setIfInBounds 1 (Value.ref h₁.objs.size)))).get? b=some o:=λb o hbe hb=>by
   rw[ik _ _ (bQ hbe)];exact aU _ hb
  have hd₃:=nL hd (·.setIfInBounds 1 (Value.ref h₁.objs.size));refine⟨λb o hb n1 n2=>keep b o (λz=>n2 (by simp[z])) ((hs₁.2.1 b n1).trans hb),λb o hb n1 n2=>?_,λb o hb=>?_,by rw[xX,eE,hs₁.1];exact qc _⟩
  ·obtain⟨sl,hs⟩:=hs₁.2.2 b o hb
   exact⟨sl,keep b _ (λz=>n2 (by simp[z])) hs⟩
  ·by_cases hbe:b=e
   ·subst hbe
    exact⟨_,il (Obj.mapFields (·.setIfInBounds 1 (Value.ref h₁.objs.size))) he₂ (tV hd₃)⟩
   ·obtain⟨sl,hs⟩:=hs₁.2.2 b o hb
    exact⟨_,keep b _ hbe hs⟩
 ·have hTe:h₁.objs.size≠e:=dO (aR he₁)
  have hd₃:=nL hd (·.setIfInBounds 1 (Value.ref h₁.objs.size));have he₃:=il (Obj.mapFields (·.setIfInBounds 1 (Value.ref h₁.objs.size))) he₂ (tV hd₃);have hT₃:=(ik (h₁.push ob) (Obj.mapFields (·.setIfInBounds 1 (Value.ref h₁.objs.size))) (bQ hTe)).trans (cn h₁ (by rw[<- hob];rfl));refine⟨⟨_,_,he₃,Obj.cls_mapFields _ _,Yz _ _,hd₃,by simp[hsz]⟩,hTe,⟨_,_,hT₃,by rw[<- hob],?_⟩⟩
  first | (simp;done) | (rcases hpl with rfl|⟨_,_,_,_,_,_,_,rfl⟩<;>simp)
theorem Y6(hfr:A.frames=some (env::outer))(hl:s.heap.FunFrames base (env::outer))(hf:env.frame=some L)(he:s.heap.get? e=some oe)(hd:oe.data = .fields vs)(h1:vs[1]?=some .none)
  (h:∀h' T,Moved (frs (env::outer)) [e] s.heap h'->s.heap.objs.size<=T->gQ h' e oe.cls oe.dict T (rawInt L)->Q () {s with heap:=h'}):wpAny M A (noteFrame (.ref e) env) Q E s:=by
 unfold noteFrame;simp only[hf];refine ai (dw he hd h1 ?_);rw[if_neg (by decide)];exact JW hfr hl hf he hd (lN.mp h1).1 h
theorem uD{h h':Heap}:∀{l:List Env},(∀b∈frs l,∀o,h.get? b=some o->∃sl,h'.get? b=some {o with slots:=sl})->h.FunFrames base l->h'.FunFrames base l
 | [],_,_=>trivial
 |env::r,k,⟨hk,⟨L,o,hf,hn,ho,hd⟩,hr⟩=>by
  have hL:L∈frs (env::r):=by unfold frs;rw[tH,hf];exact b9
  obtain⟨sl,e⟩:=k L hL o ho;exact⟨hk,⟨L,_,hf,hn,e,hd⟩,uD (λb hb=>k b (by unfold frs;rw[tH,hf];exact ck _ hb)) hr⟩
theorem Moved.d9{fs ch:List Addr}{h h':Heap}{l:List Env}(m:Moved fs ch h h')(hn:∀b∈frs l,b ∉ ch)(hl:h.FunFrames base l):h'.FunFrames base l:=
 uD (λb hb o e=>m.any e (hn b hb)) hl
theorem NR(hfr:A.frames=some (env::outer))(hl:s.heap.FunFrames base (env::outer))(hf:env.frame=some L)(xr:gQ s.heap e cls dx T .none)
  (h:∀h' T',Moved (frs (env::outer)) [e,T] s.heap h'->s.heap.objs.size<=T'->gQ h' e cls dx T' (rawInt L)->Q () {s with heap:=h'}):wpAny M A (noteFrame (.ref e) env) Q E s:=by
 obtain⟨⟨oe,vs,he,hc,hdx,hd,h1⟩,hTe,oT,ts,hT,hdT,h3⟩:=xr;subst hc hdx;unfold noteFrame;simp only[hf];refine ai (dw he hd h1 ?_);rw[if_pos (show(Value.ref T != Value.none)=true from by simp)];refine ai (dw hT hdT h3 ?_);rw[if_neg (show ¬ ((Value.none==rawInt L)=true)from by simp[rawInt])];refine ai (ub hT hdT (lN.mp h3).1 ?_);have mv:Moved (frs (env::outer)) [e,T] s.heap (s.heap.update T (Obj.mapFields (·.setIfInBounds 3 Value.none))):=by
  have other:∀b,b≠T->(s.heap.update T (Obj.mapFields (·.setIfInBounds 3 Value.none))).get? b=s.heap.get? b:=λb hb=>ik _ _ (bQ hb);refine⟨λb o hb _ n=>(other b (λz=>n (by simp[z]))).trans hb,λb o hb _ n=>⟨o.slots,(other b (λz=>n (by simp[z]))).trans hb⟩,λb o hb=>?_,by rw[xX];exact aW _⟩
  by_cases hbT:b=T
  ·subst hbT
   exact⟨_,il _ hT (tV (nL hdT _))⟩
  ·exact⟨o,(other b hbT).trans hb⟩
 have hn1:=Bj hl he hd;have hn2:=Bj hl hT hdT;refine JW (oe:=oe) (vs:=vs) hfr (mv.d9 (λb hb z=>?_) hl) hf ((ik _ _ hTe).trans he) hd (lN.mp h1).1 λh' T' m hT' x=>?_
 ·rcases bx.mp z with z|z
  ·exact hn1 (z▸hb)
  ·exact hn2 ((ig.mp z)▸hb)
 ·exact h h' T' (mv.trans (m.mono (λ_ z=>z) λb z=>by simp at z;simp[z])) (by rw[xX]at hT';exact hT') x
theorem uC(xr:gQ s.heap e cls dx T fl)(h:∀h',Moved [] [T] s.heap h'->gQ h' e cls dx T .none->Q () {s with heap:=h'}):wpAny M A (setFlight (.ref e) none) Q E s:=by
 obtain⟨⟨oe,vs,he,hc,hdx,hd,h1⟩,hTe,oT,ts,hT,hdT,h3⟩:=xr;have hsz3:3<ts.size:=(lN.mp h3).1;unfold setFlight;refine ai (dw he hd h1 ?_);rw[if_pos (show(Value.ref T != Value.none)=true from by simp)];refine ub hT hdT hsz3 ?_;have other:∀b,b≠T->(s.heap.update T (Obj.mapFields (·.setIfInBounds 3 ((none:Option Addr).elim Value.none λf=>rawInt f)))).get? b=s.heap.get? b:=λb hb=>ik _ _ (bQ hb);have hT':=il (Obj.mapFields (·.setIfInBounds 3 ((none:Option Addr).elim Value.none λf=>rawInt f))) hT (tV (nL hdT _));refine h _ ⟨λb o hb _ n=>(other b (λz=>n (by simp[z]))).trans hb,λb o hb _ n=>⟨o.slots,(other b (λz=>n (by simp[z]))).trans hb⟩,λb o hb=>?_,by rw[xX];exact aW _⟩ ?_
 ·by_cases hbT:b=T
  ·subst hbT;exact⟨_,hT'⟩
  ·exact⟨o,(other b hbT).trans hb⟩
 ·exact⟨⟨oe,vs,(other e (bQ hTe)).trans he,hc,hdx,hd,h1⟩,hTe,_,_,hT',nL hdT _,by simp[hsz3]⟩
theorem Moved.fresh{fs ch:List Addr}{h h1 h2:Heap}(m:Moved fs ch h h1)(m2:Moved [] [T] h1 h2)(hT:h.objs.size<=T):Moved fs ch h h2:=by
 have ne:∀b o,h.get? b=some o->b ∉ [T]:=λb o e z=>by
  have:=aR e;rw[ig.mp z]at this;exact absurd (cY this hT) (dM _)
 refine⟨λb o hb n1 n2=>m2.keep b o (m.keep b o hb n1 n2) (λz=>nomatch z) (ne b o hb),λb o hb n1 n2=>?_,λb o hb=>?_,b_ m.size m2.size⟩
 ·obtain⟨sl,e1⟩:=m.slot b o hb n1 n2
  exact⟨sl,m2.keep b _ e1 (λz=>nomatch z) (ne b o hb)⟩
 ·obtain⟨o',e1⟩:=m.there b o hb
  exact m2.there b o' e1
theorem Ye(hfr:A.frames=some (env::outer))(hl:s.heap.FunFrames base (env::outer))(hf:env.frame=some L)(he:s.heap.get? e=some oe)(hd:oe.data = .fields vs)(h1:vs[1]?=some .none)
  (h:∀h' T,Moved (frs (env::outer)) [e] s.heap h'->s.heap.objs.size<=T->gQ h' e oe.cls oe.dict T .none->Q () {s with heap:=h'}):wpAny M A (leaving env (.ref e)) Q E s:=by
 unfold leaving;exact ai (Y6 hfr hl hf he hd h1 λh1 T m hT x=>uC x λh2 m2 x2=>h h2 T (m.fresh m2 hT) hT x2)
theorem Yf(hfr:A.frames=some (env::outer))(hl:s.heap.FunFrames base (env::outer))(hf:env.frame=some L)(xr:gQ s.heap e cls dx T .none)
  (h:∀h' T',Moved (frs (env::outer)) [e,T] s.heap h'->s.heap.objs.size<=T'->gQ h' e cls dx T' .none->Q () {s with heap:=h'}):wpAny M A (leaving env (.ref e)) Q E s:=by
 unfold leaving;exact ai (NR hfr hl hf xr λh1 T m hT x=>uC x λh2 m2 x2=>h h2 T (m.fresh m2 hT) hT x2)
end
def bW(P:Program)(w:World):gw:=λouter H s E e s'=>∃ea C dx T H',e = .ref ea/\s'.os=s.os/\AllBare s'.gens/\Un (frs outer) [] H H' s.heap s'.heap/\bM P w H' s'.heap/\gQ s'.heap ea (.ref C) dx T .none /\
 H' ea=none/\H' T=none/\s.heap.get? ea=none/\s.heap.get? T=none/\E (.ref C) dx H'
theorem uS{P:Program}{w:World}{H:Hp}{h h':Heap}{fs ch:List Addr}(x:bM P w H h)(m:Moved fs ch h h')(nf:∀b∈fs,H b=none)(nc:∀b∈ch,H b=none):bM P w H h':=λb o e=>by
 have no:∀c u,H c=some u->c ∉ fs/\c ∉ ch:=λc u q=>⟨(λz=>by rw[nf c z]at q;cases q),(λz=>by rw[nc c z]at q;cases q)⟩;refine(x b o e).stay (λc u hc q=>?_) (λ_ q=>q) (λ_ _ q=>q) λ_ _ _ q=>q
 rcases hc with z|z
 ·subst z;exact m.keep c u q (no c _ e).1 (no c _ e).2
 ·exact m.keep c u q (no c _ z).1 (no c _ z).2
section
variable {P:Program} {w:World} {K:W.Frag} {mg:Str->Option Value} {base:Heap} {N:List Str} {qual:Str} {scope:Scope} {f:Addr} {cd:Value} {A:Around} {outer:List Env} {s:Shared} {H:Hp} {E:XK}
theorem acZ{pins:List (Addr × Obj)}{σ:St}{H1 H2:Hp}{s1:Shared}{h2 h3:Heap}{ch:List Addr}(I:Inv (cG (bW P w) P w K mg base N qual scope f cd A outer s H E) pins σ H1 s1)(un:Un (frs (cG (bW P w) P w K mg base N qual scope f cd A outer s H E).stack) [] H1 H2 s1.heap h2)(m:Moved (frs (cG (bW P w) P w K mg base N qual scope f cd A outer s H E).stack) ch h2 h3)(hc:∀b∈ch,s1.heap.get? b=none):Un (frs outer) [] H H2 s.heap h3:=by
 have jn:Un (frs outer) [] H H1 s.heap s1.heap:=I.base;have sub:∀b o,s.heap.get? b=some o->b ∉ frs outer->b ∉ frs (cG (bW P w) P w K mg base N qual scope f cd A outer s H E).stack:=λb o e n z=>by
  rcases bx.mp (I.pL b z)with q|q
  ·have h1:s.heap.objs.size<=(cG (bW P w) P w K mg base N qual scope f cd A outer s H E).env.locals:=I.ok.above
   have h2:=aR e;rw[q]at h2;exact absurd (cY h2 h1) (dM _)
  ·exact n q
 have gI:∀b o,s1.heap.get? b=some o->b ∉ ch:=λb o e z=>by rw[hc b z]at e;cases e
 have nx:∀b:Addr,b ∉ ([]:List Addr):=λb z=>nomatch z;refine⟨λb o q n hb hx=>?_,λb o q n hb hx=>?_,λb o q n hx=>?_,λb o q hx=>?_,λb xs q=>un.tups b xs (jn.tups b xs q),λb o u q=>un.fU b o u (jn.fU b o u q),λb ps q=>?_⟩
 ·have e1:=jn.keep b o q n hb hx
  exact m.keep b o (un.keep b o e1 (jn.free b o q n hx) (sub b o q hb) (nx b)) (sub b o q hb) (gI b o e1)
 ·obtain⟨sl,e1⟩:=jn.slot b o q n hb hx
  obtain⟨sl2,e2⟩:=un.any e1 (jn.free b o q n hx) (nx b);obtain⟨sI,e3⟩:=m.any e2 (gI b _ e1);exact⟨sI,e3⟩
 ·obtain⟨o',e1⟩:=jn.there b o q hx
  exact un.free b o' e1 (jn.free b o q n hx) (nx b)
 ·obtain⟨o',e1⟩:=jn.there b o q hx
  obtain⟨o2,e2⟩:=un.there b o' e1 (nx b);exact m.there b o2 e2
 ·obtain⟨m1,e1⟩:=jn.gk b ps q
  obtain⟨m2,e2⟩:=un.gk b _ e1;exact⟨m1++m2,by rw[e2,Array.append_assoc]⟩
theorem Dd{pins:List (Addr × Obj)}{σ:St}{H1:Hp}{s1:Shared}{b:Addr}(I:Inv (cG (bW P w) P w K mg base N qual scope f cd A outer s H E) pins σ H1 s1)(e:s1.heap.get? b=none):s.heap.get? b=none:=by
 cases q:s.heap.get? b with
 |none=>rfl
 |some o =>
  obtain⟨o',e1⟩:=I.base.there b o q (λz=>nomatch z);rw[e]at e1;cases e1
theorem NK{fs:List Addr}{H1 H2:Hp}{h1 h2:Heap}{b:Addr}(un:Un fs [] H1 H2 h1 h2)(e:h2.objs.size<=b):h1.get? b=none:=by
 cases q:h1.get? b with
 |none=>rfl
 |some o =>
  obtain⟨o',e1⟩:=un.there b o q (λz=>nomatch z);exact absurd (cY (aR e1) e) (dM _)
theorem ace{pins:List (Addr × Obj)}{σ:St}{H1 H2:Hp}{s1:Shared}{h2:Heap}(I:Inv (cG (bW P w) P w K mg base N qual scope f cd A outer s H E) pins σ H1 s1)(un:Un (frs (cG (bW P w) P w K mg base N qual scope f cd A outer s H E).stack) [] H1 H2 s1.heap h2):h2.FunFrames base (cG (bW P w) P w K mg base N qual scope f cd A outer s H E).stack:=
 uD (λb hb o e=>un.any e (I.mU b hb) λz=>nomatch z) I.stack
theorem QV{pins:List (Addr × Obj)}{σ:St}{H1 H2:Hp}{s1:Shared}{h2:Heap}(I:Inv (cG (bW P w) P w K mg base N qual scope f cd A outer s H E) pins σ H1 s1)(un:Un (frs (cG (bW P w) P w K mg base N qual scope f cd A outer s H E).stack) [] H1 H2 s1.heap h2):∀b∈frs (cG (bW P w) P w K mg base N qual scope f cd A outer s H E).stack,H2 b=none:=λb hb=>by
 obtain⟨_,o,ho,_⟩:=I.stack.mem hb;exact un.free b o ho (I.mU b hb) λz=>nomatch z
theorem Dl:Passes (bW P w) (cG (bW P w) P w K mg base N qual scope f cd A outer s H E) E:=by
 intro pins σ H1 s1 e s2 I h;obtain⟨ea,C,dx,T,H2,rfl,os,bare,un,hok,xr,n1,n2,f1,f2,hE⟩:=h;refine Yf (base:=base) (A:=(cG (bW P w) P w K mg base N qual scope f cd A outer s H E).A) I.ok.frames (ace I un) rfl xr λh3 T' m hT x=>?_;have hc:∀b∈[ea,T],s1.heap.get? b=none:=λb z=>by
  rcases bx.mp z with z|z
  ·rw[z];exact f1
  ·rw[ig.mp z];exact f2
 refine⟨ea,C,dx,T',H2,rfl,os.trans I.os,bare,acZ I un m hc,uS hok m (QV I un) (λb z=>?_),x,n1,hok.fresh hT,Dd I f1,Dd I (NK un hT),hE⟩
 rcases bx.mp z with z|z
 ·rw[z];exact n1
 ·rw[ig.mp z];exact n2
def Raises(X:Cx)(E:XK):Prop:=∀(pins:List (Addr × Obj)) (σ:St) (H:Hp) (s:Shared) (ea C:Addr) (oe:Obj) (vs:Array Value),Inv X pins σ H s->s.heap.get? ea=some oe->oe.cls = .ref C->oe.data = .fields vs->vs[1]?=some .none ->
 H ea=none->X.s₀.heap.get? ea=none->E (.ref C) oe.dict H->X.xe (.ref ea) s
theorem Dw:Raises (cG (bW P w) P w K mg base N qual scope f cd A outer s H E) E:=by
 intro pins σ H1 s1 ea C oe vs I he hc hd h1 hH h0 hE;have un:Un (frs (cG (bW P w) P w K mg base N qual scope f cd A outer s H E).stack) [] H1 H1 s1.heap s1.heap:=Un.refl;refine Ye (base:=base) (A:=(cG (bW P w) P w K mg base N qual scope f cd A outer s H E).A) I.ok.frames I.stack rfl he hd h1 λh3 T' m hT x=>?_;rw[hc]at x;have base':Un (frs outer) [] H H1 s.heap s1.heap:=I.base;refine⟨ea,C,oe.dict,T',H1,rfl,I.os,I.bare,?_,uS I.hok m (QV I un) (λb z=>by rw[ig.mp z];exact hH),x,hH,I.hok.fresh hT,h0,Dd I (xW hT),hE⟩;have sub:∀b o,s.heap.get? b=some o->b ∉ frs outer->b ∉ frs (cG (bW P w) P w K mg base N qual scope f cd A outer s H E).stack:=λb o e n z=>by
  rcases bx.mp (I.pL b z)with q|q
  ·have h1:s.heap.objs.size<=(cG (bW P w) P w K mg base N qual scope f cd A outer s H E).env.locals:=I.ok.above
   have h2:=aR e;rw[q]at h2;exact absurd (cY h2 h1) (dM _)
  ·exact n q
 have gI:∀b o,s.heap.get? b=some o->b ∉ [ea]:=λb o e z=>by rw[ig.mp z]at e;have h0':s.heap.get? ea=none:=h0;rw[h0']at e;cases e
 refine⟨λb o q n hb hx=>m.keep b o (base'.keep b o q n hb hx) (sub b o q hb) (gI b o q),λb o q n hb hx=>?_,base'.free,λb o q hx=>?_,base'.tups,base'.fU,base'.gk⟩
 ·obtain⟨sl,e1⟩:=base'.slot b o q n hb hx
  obtain⟨sI,e3⟩:=m.any e1 (gI b _ q);exact⟨sI,e3⟩
 ·obtain⟨o',e1⟩:=base'.there b o q hx
  exact m.there b o' e1
end
end L2
namespace L2
open PySem PySem.Spec PyProof.Rows PySem.W
section
variable {prog:Program} {w:World} {A:Around} {E:Value->Shared->Prop} {h:Heap} {g:Array GenState} {d:Drawn} {t:Nat} {os:OsState} {K:Frag} {e D:Addr} {oe:Obj} {od:Option Obj} {name:Str} {g0 a0:Value}
theorem adb{tk:Tok}{Q:Fin->Shared->Prop}(X:K.In h)(I:InstAt h e oe D od)(hf:findObj K D od name=some (.bind g0 a0))(hk:wpAny (model prog w) A (call g0 [a0,.ref e,.ref D]) (λv s'=>Q (.done (.ret v)) s') E ⟨h,g,d,t,os⟩):wpAny (model prog w) A (Builtin.«object.__getattribute__» ⟨[.ref e,.str name tk],[]⟩) Q E ⟨h,g,d,t,os⟩:=by
 have L0:=I.type (M:=model prog w);have L1:=looks_find (M:=model prog w) X I hf;unfold Builtin.«object.__getattribute__»;refine ai (aH (ai (aH (ai (L0.at (ai (L1.at ?_)))))));show wpAny _ _ (holding [a0] (call g0 [a0,.ref e,.ref D])>>=ret) _ _ _;exact ai (fB (d8 hk (λv s' z=>aH z) λ_ _ z=>z))
theorem ade{v:Value}{tk:Tok}{Q:Fin->Shared->Prop}(X:K.In h)(I:InstAt h e oe D od)(hf:findObj K D od name=some (.value v))(hk:Q (.done (.ret v)) ⟨h,g,d,t,os⟩):wpAny (model prog w) A (Builtin.«object.__getattribute__» ⟨[.ref e,.str name tk],[]⟩) Q E ⟨h,g,d,t,os⟩:=by
 have L0:=I.type (M:=model prog w);have L1:=looks_find (M:=model prog w) X I hf;unfold Builtin.«object.__getattribute__»;exact ai (aH (ai (aH (ai (L0.at (ai (L1.at (aH hk))))))))
theorem ada {M:Model} {nameV:Value} {Q:Unit->Shared->Prop} (X:K.In h) (I:InstAt h e oe D od) (hb:mroIn K D (.type "BaseException")=some true) (hq:Q () ⟨h,g,d,t,os⟩) :
  wpAny M A (checkBuiltinCall "BaseException.__getattribute__" ⟨[.ref e,nameV],[]⟩) Q E ⟨h,g,d,t,os⟩:=by
 have hk:builtinKind "BaseException.__getattribute__" = some .slot:=by decide +kernel
 have hsplit:splitId "BaseException.__getattribute__" = some ("BaseException","__getattribute__"):=by decide +kernel
 have ha:=F.args_bexc_ga (.ref e) nameV;have L0:=I.type (M:=M);have L1:=looks_mroIn (M:=M) X hb;simp only[checkBuiltinCall,hk,hsplit];refine ai ?_;unfold isInstance;refine ai (L0.at (L1.at ?_))
 repeat (first|wp_step)
 exact hq
theorem Ry {v:Value} {tk:Tok} {fill expr:Bool} {Q:Value->Shared->Prop} (X:K.In h) (I:InstAt h e oe D od) (hga:findIn K (.ref D) "__getattribute__" = some (some (.builtin "BaseException.__getattribute__")))
  (hgt:findIn K (.ref D) "__getattr__" = some none) (hb:mroIn K D (.type "BaseException")=some true)
  (hk:∀A':Around,wpAny (model prog w) A' (Builtin.«object.__getattribute__» ⟨[.ref e,.str name tk],[]⟩) (λfin s'=>match fin with | .done (.ret v)=>wpAny (model prog w) A (handedOut v) Q E s'|_=>False) (λ_ _=>False) ⟨h,g,d,t,os⟩) :
  wpAny (model prog w) A (getAttrBy (.ref e) (.str name tk) fill expr) Q E ⟨h,g,d,t,os⟩:=by
 have L0:=I.type (M:=model prog w);have L1:=looks_findIn (M:=model prog w) X hga;have L2:=looks_findIn (M:=model prog w) X hgt;have f3:=F.attrBase_ValueError.ga.bind (.ref e);have hx0:(expr&&onTheHeap (Value.builtin "BaseException.__getattribute__"))=false:=by cases expr<;>rfl
 have hx2:(Value.builtin "BaseException.__getattribute__" == Value.builtin "object.__getattribute__")=false:=by decide +kernel
 have hx1:(onTheHeap (Value.ref D)&&Value.builtin "BaseException.__getattribute__" == Value.builtin "object.__getattribute__")=false:=by rw[hx2];rfl
 unfold getAttrBy;refine fB (ai (L0.at (ai (L1.at ?_))));dsimp only;rw[if_neg (by rw[hx1];exact Bool.false_ne_true)];unfold getAttrByItsOwn hookBefore;rw[if_pos (show onTheHeap (Value.ref D)=true from rfl)];refine ai (L2.at ?_);refine ai (nO (fB ?_));unfold callGetattribute;rw[if_neg (by rw[hx0];exact Bool.false_ne_true)];unfold boundAndCalled;refine ai (wpAny_of_eq f3 ?_);dsimp only;refine kQ (Ie F.attrBase_ValueError.ga.plain F.entry_bexc_ga (ada X I hb (d8 (hk _) (λfin s' z=>?_) λ_ _ z=>z.elim)))
 rcases fin with(_|_|_|_)|_<;>first|exact z|exact z.elim
theorem ac_ {s:Shared} {Q:Option Value->Shared->Prop} (X:K.In s.heap) (I:InstAt s.heap e oe D od) (hga:findIn K (.ref D) "__getattribute__" = some (some (.builtin "BaseException.__getattribute__")))
  (hgt:findIn K (.ref D) "__getattr__" = some none) (hb:mroIn K D (.type "BaseException")=some true) (hf:findObj K D od "__class__" = some (.bind (.builtin "getset_descriptor.__get__") (.builtin "object.__class__"))) (hm:mroIn K D (.type "object")=some true)
  (hq:Q (some (.ref D)) {s with toks:=s.toks+1}):wpAny (model prog w) A (getAttr? (.ref e) "__class__") Q E s:=by
 obtain⟨h,g,d,t,os⟩:=s;unfold getAttr? getAttrBy?;refine ai (wpAny_mkText (ai (nO ?_)));refine Ry (v:=.none) X I hga hgt hb λA'=>adb X I hf ?_;exact kQ (class_get X I hm (handed_on rfl (aH hq)))
end
noncomputable def jb(e C:Addr)(dx:Option Addr):HO:=.ext λh=>∃oe vs,h.get? e=some oe/\oe.cls = .ref C/\oe.dict=dx/\oe.data = .fields vs
theorem UL{P:Program}{w:World}{H:Hp}{h:Heap}{e C:Addr}{dx:Option Addr}{oe:Obj}{vs:Array Value}(h1:h.get? e=some oe)(h2:oe.cls = .ref C)(h3:oe.dict=dx)(h4:oe.data = .fields vs):bC P w H h e (jb e C dx):=
 ⟨⟨oe,vs,h1,h2,h3,h4⟩,⟨oe,h1⟩,λg1 g2 ⟨o,vs,a,b⟩ k=>⟨o,vs,k o a,b⟩⟩
theorem J8{P:Program}{w:World}{H:Hp}{h:Heap}{e C:Addr}{dx:Option Addr}(ok:bM P w H h)(z:H e=some (jb e C dx)):∃oe vs,h.get? e=some oe/\oe.cls = .ref C/\oe.dict=dx/\oe.data = .fields vs:=
 (show bC P w H h e (jb e C dx)from ok e _ z).1
theorem Zb{P:Program}{w:World}{H:Hp}{h:Heap}{a:Addr}{o:HO}(x:bC P w H h a o):∃ob,h.get? a=some ob:=by
 cases o with
 |lst xs=>obtain⟨_,_,_,_,e⟩:=x;exact⟨_,e⟩
 |tup xs=>obtain⟨_,_,_,⟨ob,e,_⟩,_⟩:=x;exact⟨_,e⟩
 |dK kvs=>obtain⟨_,_,_,_,o,_,_,e,_⟩:=x;exact⟨_,e⟩
 |dT kvs=>obtain⟨_,_,_,_,o,_,_,e,_⟩:=x;exact⟨_,e⟩
 |set S n=>obtain⟨o,_,_,_,e,_⟩:=x;exact⟨_,e⟩
 |ins C dx fs=>obtain⟨_,_,_,e,_⟩:=x;exact⟨_,e⟩
 |own y=>obtain⟨_,e⟩:=x;exact⟨_,e⟩
 |xd fs=>obtain⟨_,⟨_,_,_,e,_⟩,_⟩:=x;exact⟨_,e⟩
 |rng lo hi=>obtain⟨_,_,_,e⟩:=x;exact⟨_,e⟩
 |dz ob u=>obtain⟨e,_⟩:=x;exact⟨_,e⟩
 |lJ ps=>exact⟨_,(show h.get? a=some _ from x)⟩
 |lam pos qual=>obtain⟨_,e,_⟩:=x;exact⟨_,e⟩
 |met f y=>exact⟨_,(show h.get? a=some _ from x)⟩
 |ext φ=>obtain⟨_,⟨_,e⟩,_⟩:=x;exact⟨_,e⟩
theorem NP{P:Program}{w:World}{H:Hp}{h:Heap}{a:Addr}(ok:bM P w H h)(e:h.get? a=none):H a=none:=by
 cases q:H a with
 |none=>rfl
 |some o =>
  obtain⟨ob,z⟩:=Zb (ok a o q);rw[e]at z;cases z
structure jV (K:W.Frag) (C:Addr):Prop where
 ga:W.findIn K (.ref C) "__getattribute__" = some (some (.builtin "BaseException.__getattribute__"))
 gt:W.findIn K (.ref C) "__getattr__" = some none
 be:W.mroIn K C (.type "BaseException")=some true
 ob:W.mroIn K C (.type "object")=some true
 kl:W.findIn K (.ref C) "__class__" = some (some (.builtin "object.__class__"))
 gs:W.specialIn K (.builtin "object.__class__") "__get__" = some (some (.builtin "getset_descriptor.__get__"))
 tk:W.takesIn K (.builtin "object.__class__")=some true
theorem jV.Cj{K:W.Frag}{C:Addr}(x:jV K C):∃cd,W.clsIn K C=some cd:=by
 obtain⟨cd,a,_⟩:=Option.bind_eq_some_iff.mp x.ob;exact⟨cd,a⟩
theorem jV.find {K:W.Frag} {C:Addr} (x:jV K C) (od:Option Obj):W.findObj K C od "__class__" = some (.bind (.builtin "getset_descriptor.__get__") (.builtin "object.__class__")):=by
 obtain⟨cd,hc⟩:=x.Cj;unfold W.findObj;rw[hc,qe,x.kl,qe];simp[x.gs,x.tk]
theorem X2{K:W.Frag}{e C:Addr}(cl:jV K C):W.KitX K (.ref e) (.ref C) (λh=>∃oe od,W.InstAt h e oe C od) where
 ty:=λ_ _ _ hpq=>by obtain⟨_,_,I⟩:=hpq;exact I.type
 it:=λ_ _ X _=>by
  obtain⟨cdD,hcD⟩:=cl.Cj;unfold W.clsIn at hcD
  split at hcD
  ·rename_i c' d' cd' sl' ho
   intro A' Q' E' s' k q;unfold isType loadHead;exact ai (wpAny_loadPart (k _ _ (X _ _ ho)) (aH q))
  ·cases hcD
 ne:=λh tp dd its n sl X htp=>by
  obtain⟨cdD,hcD⟩:=cl.Cj;refine Bool.eq_false_iff.mpr λq=>?_;have e:C=tp:=Value.ref.inj (gR.mp q);subst e;unfold W.clsIn at hcD
  split at hcD
  ·rename_i c' d' cd' sl' ho
   have z:=(X _ _ ho).symm.trans htp;cases z
  ·cases hcD
 ca:=λX ⟨_,od,I⟩ k=>ac_ X I cl.ga cl.gt cl.be (cl.find od) cl.ob k
noncomputable def n_(H:Hp)(e C:Addr):Prop:=∃dx,H e=some (jb e C dx)/\∀a,dx=some a->∃fs,H a=some (.xd fs)
theorem ac9{P:Program}{w:World}{H:Hp}{h:Heap}{e C:Addr}(ok:bM P w H h)(x:n_ H e C):∃oe od,W.InstAt h e oe C od:=by
 obtain⟨dx,z,k⟩:=x;obtain⟨oe,vs,h1,h2,h3,h4⟩:=J8 ok z;have nc:W.notCls oe=true:=by unfold W.notCls;rw[h4]
 cases dx with
 |none=>exact⟨oe,none,h1,h2,nc,by rw[h3];trivial⟩
 |some a =>
  obtain⟨fs,q⟩:=k a rfl;obtain⟨_,⟨od,_,_,e1,_⟩,_⟩:=(show bC P w H h a (.xd fs)from ok a _ q);exact⟨oe,some od,h1,h2,nc,by rw[h3];exact e1⟩
def abl(K:W.Frag)(cv:V)(c:Value):List V->Hp->VK->Prop:=λxs H Q=>∃e C b,xs = [.ref e,cv]/\n_ H e C/\jV K C/\W.kitOne K (.ref C) c=some b/\Q (.bl b) H
theorem fC {X:Cx} {K:W.Frag} (cv:V) (c:Value) (rc:∀u,RelV cv u->u=c) (hK:X.K=K):dD X (.builtin "isinstance") (abl K cv c):=by
 subst hK;intro pins s σ H xs us Q I r h;obtain⟨e,C,b,rfl,x,cl,k,q⟩:=h;obtain⟨u,v,rfl,ru,rv⟩:=Vals.two r;cases(show u=Value.ref e from ru);cases rc v rv;exact W.kia_one (X2 cl) I.cu (ac9 I.hok x) k (λz=>nomatch z) λtk=>⟨.bl b,H,I.tok _,rfl,q⟩
abbrev iC:List Value:=[.type "ValueError", .type "Exception", .type "BaseException", .type "object"]
theorem Oa{K:W.Frag}{h:Heap}{mg:Str->Option Value}{x:Str}{C:Addr}{bmB:List Value}{newId:String}(X:K.In h)(e:mg x=some (.ref C))(q:W.excIn K C bmB newId=true):OwnCls x C bmB newId mg h:=by
 refine⟨e,?_⟩;unfold W.excIn at q
 split at q
 ·rename_i dd cd sl ho
  split at q
  ·rename_i C' bm k0 k1 k2 k3 n k5 hm hs
   simp only[bJ,gR,fP]at q;obtain⟨⟨⟨⟨⟨rfl,rfl⟩,hdel⟩,ht⟩,hok⟩,hni⟩:=q;obtain⟨nm,bs,mro,ns,qn,hd,sn,sub,ab,col,del⟩:=cd;dsimp only at hm hdel hok hni;subst hm hdel;have hsl:sl = #[k0,k1,k2,k3,some (.builtin n),k5]:=by
    obtain⟨l⟩:=sl;simp only at hs;rw[hs]
   subst hsl;exact⟨bm,ns,nm,qn,bs,hd,sn,sub,ab,col,dd,k0,k1,k2,k3,k5,_,X _ _ ho,.of_isNs (W.isNs_of_in X hok),W.nsMap_none_of_in X hok hni,W.tail_of_in X ht⟩
  ·cases q
 ·cases q
def acD(C:Addr)(E:XK)(ta:TA):TS:=λ_ σ H=>ta σ H λvs H1=>vs.length<=sizeLine/\E (.ref C) none H1
section
variable {X:Cx} {E:XK} {x:Str} {C:Addr} {bmB:List Value} {B newId initId:String} {np cpos pos:Pos} {e0:Expr} {es:List Expr} {ta:TA}
theorem Ou(R:Raises X E)(hm:X.mg x=some (.ref C))(q:W.excIn X.K C bmB newId=true)(FB:ExcBaseFacts B newId initId bmB)(calm:X.calm=true)(hex:X.ex = [])(hg:Gl X x)(ha:PA X (e0::es) ta)
  (he:starEach (e0::es) X.env=(false,eval e0 X.env)::starEach es X.env:=by rfl) (hplain:(backTo cpos (starEach es X.env)).any (·.1)=false:=by rfl) (hd:(x==("__debug__" : Str))=false:=by decide) :
  PS X (.Raise (some (.Call (.Name x np) (e0::es) [] cpos)) none pos) (acD C E ta):=by
 intro pins s σ H D I h;have O:OwnCls x C bmB newId X.mg X.base:=Oa I.mod.iR hm q;obtain⟨tl,N,nm,q,bs,hdct,sn,sub,ab,col,dd,k0,k1,k2,k3,k5,mN,hC,hN,hni,T⟩:=O.obj;refine wpAny_Raise_call_subT (C:=C) (nm:=nm) (q:=q) (N:=N) (bs:=bs) (bm:=tl) (hdct:=hdct) (sn:=sn) (sub:=sub) (ab:=ab) (col:=col) (dd:=dd) (k0:=k0) (k1:=k1) (k2:=k2) (k3:=k3) (k5:=k5)
  FB (mN:=mN) (T.hasType FB.hasBase) (I.ok.hd calm) (by rw[he];show(false||(backTo cpos (starEach es X.env)).any (·.1))=false;rw[hplain];rfl) hni (kg I hg O.bound ⟨rfl,?_⟩ hd)
 have h':=ha cpos pins s σ H _ I h;rw[he]at h' ⊢;refine tT (d8 h' (λus s2 ⟨vs,H2,I2,r,hl,q2⟩=>?_) λ_ _ y=>y);refine⟨rfl,by rw[<- r.length];exact hl,I2.bk _ _ hC,hN.keeps I2.bk,T.keeps I2.bk,λh3 e hm=>?_⟩;obtain⟨t,ht,_,_⟩:=hm.there;have I3:Inv X pins σ H2 {s2 with heap:=h3}:=I2.kept (t':=s2.toks) hm.keeps;refine R pins σ H2 _ e C _ _ I3 ht rfl rfl rfl (NP I2.hok hm.new) ?_ q2;cases z:X.s₀.heap.get? e with
 |none=>rfl
 |some o =>
  obtain⟨o',z'⟩:=I2.base.there e o z (by rw[hex];exact λz=>nomatch z);rw[hm.new]at z';cases z'
end
section
variable {X:Cx} {pins lB:List (Addr × Obj)} {σ:St} {H H1 H2:Hp} {s:Shared} {XE:XK}
abbrev Cx.pA (X:Cx) (pins:List (Addr × Obj)):Cx:={X with pn:=X.pn++pins}
theorem Inv.pA(I:Inv X pins σ H s):Inv (X.pA pins) [] σ H s:=
 ⟨⟨I.ok.mod,I.ok.kind,I.ok.glob,I.ok.blt,I.ok.above,I.ok.inj,I.ok.has,I.ok.cab,I.ok.hd,I.ok.frames,I.ok.stk,I.ok.j4,I.ok.bs,I.ok.eP,I.ok.iz,I.ok.iN,I.ok.d9,I.ok.gG⟩,
  I.os,I.bare,I.base,I.loc,I.cell,I.free,I.dQ,λp hp=>I.pin p (by simpa using hp),I.hok,I.len⟩
theorem Inv.sM(I:Inv (X.pA pins) lB σ H s):Inv X pins σ H s:=
 ⟨⟨I.ok.mod,I.ok.kind,I.ok.glob,I.ok.blt,I.ok.above,I.ok.inj,I.ok.has,I.ok.cab,I.ok.hd,I.ok.frames,I.ok.stk,I.ok.j4,I.ok.bs,I.ok.eP,I.ok.iz,I.ok.iN,I.ok.d9,I.ok.gG⟩,
  I.os,I.bare,I.base,I.loc,I.cell,I.free,I.dQ,λp hp=>I.pin p (kL _ hp),I.hok,I.len⟩
abbrev Cx.marked (X:Cx) (e:Addr):Cx:={X with A:=X.A.mark (some (.ref e)),calm:=false,xe:=λ_ _=>False}
theorem Inv.marked{e:Addr}(I:Inv X pins σ H s):Inv (X.marked e) pins σ H s:=
 ⟨⟨I.ok.mod,I.ok.kind,I.ok.glob,I.ok.blt,I.ok.above,I.ok.inj,I.ok.has,I.ok.cab,(λz=>nomatch z),I.ok.frames,I.ok.stk,I.ok.j4,I.ok.bs,I.ok.eP,I.ok.iz,I.ok.iN,I.ok.d9,I.ok.gG⟩,
  I.os,I.bare,I.base,I.loc,I.cell,I.free,I.dQ,I.pin,I.hok,I.len⟩
theorem Inv.unmarked{e:Addr}(ok:X.Ok)(I:Inv (X.marked e) pins σ H s):Inv X pins σ H s:=
 ⟨ok,I.os,I.bare,I.base,I.loc,I.cell,I.free,I.dQ,I.pin,I.hok,I.len⟩
theorem Rp{fs ch:List Addr}{h1 h2 h3:Heap}(un:Un fs [] H1 H2 h1 h2)(m:Moved fs ch h2 h3)(hc:∀b∈ch,h1.get? b=none):Un fs [] H1 H2 h1 h3:=by
 have gI:∀b o,h1.get? b=some o->b ∉ ch:=λb o e z=>by rw[hc b z]at e;cases e
 have nx:∀b:Addr,b ∉ ([]:List Addr):=λb z=>nomatch z;refine⟨λb o q n hb hx=>m.keep b o (un.keep b o q n hb hx) hb (gI b o q),λb o q n hb hx=>?_,un.free,λb o q hx=>?_,un.tups,un.fU,un.gk⟩
 ·obtain⟨sl,e1⟩:=un.slot b o q n hb hx
  obtain⟨sI,e3⟩:=m.any e1 (gI b _ q);exact⟨sI,e3⟩
 ·obtain⟨o2,e2⟩:=un.there b o q hx
  exact m.there b o2 e2
theorem Inv.track{ea:Addr}{oe:Obj}{vs:Array Value}{o:HO}(I:Inv X pins σ H s)(he:s.heap.get? ea=some oe)(hd:oe.data = .fields vs)(hn:H ea=none)(h0:X.s₀.heap.get? ea=none)(hp:∀p∈X.pn++pins,p.1≠ea)(new:bC X.prog X.w (upd H ea o) s.heap ea o):Inv X pins σ (upd H ea o) s:=by
 have ne0:∀b ob,X.s₀.heap.get? b=some ob->b≠ea:=λb ob e z=>by rw[z,h0]at e;cases e
 have neT:∀b u,H b=some u->b≠ea:=λb u e z=>by rw[z,hn]at e;cases e
 refine⟨I.ok,I.os,I.bare,⟨I.base.keep,I.base.slot,λb ob e n hx=>?_,I.base.there,λb xs e=>?_,λb u xs e=>?_,λb ps e=>?_⟩,I.loc,I.cell,?_,λx c e=>?_,λp hpp=>?_,λb u e=>?_,I.len⟩
 ·rw[aG (ne0 b ob e)];exact I.base.free b ob e n hx
 ·have q:=I.base.tups b xs e
  rw[aG (neT b _ q)];exact q
 ·have q:=I.base.fU b u xs e
  rw[aG (neT b _ q)];exact q
 ·obtain⟨more,q⟩:=I.base.gk b ps e
  exact⟨more,by rw[aG (neT b _ q)];exact q⟩
 ·have ne:X.env.locals≠ea:=λz=>by
   obtain⟨m,⟨oL,es,ep,hL,hdL,_⟩,_⟩:=I.loc;rw[z,he]at hL;cases hL;rw[hd]at hdL;cases hdL
  rw[aG ne];exact I.free
 ·have ne:c≠ea:=λz=>by
   obtain⟨v,oc,hc,hdc⟩:=I.cell x c e;rw[z,he]at hc;cases hc;rw[hd]at hdc;cases hdc
  rw[aG ne];exact I.dQ x c e
 ·obtain⟨a,b,c⟩:=I.pin p hpp
  exact⟨a,by rw[aG (hp p hpp)];exact b,c⟩
 ·by_cases z:b=ea
  ·subst z
   rw[av]at e;cases e;exact new
  ·rw[aG z]at e
   exact(I.hok b u e).stay (λc v _ q=>q) (λc q=>by rw[aG (neT c _ q)];exact q) (λc xs q=>by rw[aG (neT c _ q)];exact q) λc ob u q=>by rw[aG (neT c _ q)];exact q
theorem Inv.gone{i:Nat}{n:Str}{h':Heap}{m':Str->Option Value}(I:Inv X pins σ H s)(hN:X.N.Nodup)(hi:X.N[i]?=some n)(hloc:X.env.scope.names.lookup n=some .local){m:Str->Option Value}(hm:s.heap.Ns X.env.locals m)
  (hn:h'.Ns X.env.locals m') (hm':∀x,x≠n->m' x=m x) (hs:Heap.SameBut X.env.locals s.heap h'):Inv X pins (σ.set i none) H {s with heap:=h',toks:=s.toks+1}:=by
 obtain⟨m0,hn0,hl⟩:=id I.loc;have em:m0=m:=by
  funext x
  obtain⟨o,es,ep,h1,h2,_,h3⟩:=hn0;obtain⟨o',es',ep',h1',h2',_,h3'⟩:=hm;rw[h1]at h1';cases h1';rw[h2]at h2';cases h2';rw[<- h3,<- h3']
 subst em;have hiσ:i<σ.length:=by rw[I.len];exact(bN.mp hi).1
 have iK:=I.iK;have o8:∀b o,X.s₀.heap.get? b=some o->b≠X.env.locals:=λb o e=>bE (cY (aR e) I.ok.above);refine⟨I.ok,I.os,I.bare,⟨λb o e n hb hx=>?_,λb o e n hb hx=>?_,I.base.free,λb o e hx=>?_,I.base.tups,I.base.fU,I.base.gk⟩,⟨_,hn,λj y v' e1 e2 e3=>?_⟩,λy c e=>?_,I.free,I.dQ,λp hp=>?_,λb ob e=>?_,by simpa using I.len⟩
 ·exact(hs.2 b (o8 b o e)).trans (I.base.keep b o e n hb hx)
 ·obtain⟨sl,e1⟩:=I.base.slot b o e n hb hx
  exact⟨sl,(hs.2 b (o8 b o e)).trans e1⟩
 ·obtain⟨o',e1⟩:=I.base.there b o e hx
  exact⟨o',(hs.2 b (o8 b o e)).trans e1⟩
 ·by_cases hj:j=i
  ·subst hj
   rw[xC hiσ]at e2;cases e2
  ·rw[tK (bQ hj)]at e2
   obtain⟨u',r',q⟩:=hl j y v' e1 e2 e3;refine⟨u',r',?_⟩
   rcases q with⟨k,e⟩|⟨k,c,e,z⟩
   ·refine .inl ⟨k,?_⟩
    have:y≠n:=λe=>hj (C_ hN e1 (e▸hi));rw[hm' y this];exact e
   ·exact .inr ⟨k,c,e,z.sameBut hs (iK y c e)⟩
 ·obtain⟨w',z⟩:=I.cell y c e
  exact⟨w',z.sameBut hs (iK y c e)⟩
 ·obtain⟨e,n,ne,nf,d⟩:=I.pin p hp
  exact⟨(hs.2 p.1 ne).trans e,n,ne,nf,d⟩
 ·have hfree:=I.free
  refine(I.hok b ob e).stay (λc w' hc q=>(hs.2 c ?_).trans q) (λ_ q=>q) (λ_ _ q=>q) λ_ _ _ q=>q;rintro rfl
  rcases hc with rfl|hc
  ·rw[hfree]at e;cases e
  ·rw[hfree]at hc;cases hc
end
section
variable {X:Cx} {XE:XK} {body suite:List Stmt} {b0:Stmt} {c n:Str} {np hpos pos:Pos} {i:Nat} {Dc:Addr} {tb ts:TS}
end
structure h7 (P:Program) (w:World) (K:W.Frag) (mg:Str->Option Value) (base:Heap) (x:Str) (ps:List Str) (k:Nat) (sp:Sp):Prop where
 ex:∃(f:Addr) (fd:FuncData),aO P w K mg base (bW P w) k f fd ps sp/\mg x=some (.ref f)/\W.keepIn K (.ref f)=true/\Binds K fd ps []
section
variable {X:Cx} {x:Str} {ps:List Str} {k k':Nat} {sp:Sp} {e:Expr} {es:List Expr} {t:TA} {p pos:Pos} {E:XK}
theorem vD (c:h7 X.prog X.w X.K X.mg X.base x ps k sp) (px:Passes (bW X.prog X.w) X E) (hr:bR k' X.A) (hg:Gl X x) (ha:PA X (e::es) t) (hk:k<=k':=by decide) (hdb:(x==("__debug__" : Str))=false:=by decide)
  (he:starEach (e::es) X.env=(false,eval e X.env)::starEach es X.env:=by rfl) (hpl:(backTo pos (starEach es X.env)).any (·.1)=false:=by rfl):PE X (.Call (.Name x p) (e::es) [] pos) (pM sp [] E t):=by
 obtain⟨f,fd,F,hm,kp,b⟩:=c.ex;exact Oh F (hr.mono hk) hg hm kp b .nil px ha hdb he hpl
end
theorem aS.Df{P:Program}{w:World}{K:W.Frag}{mg:Str->Option Value}{base:Heap}{x qual:Str}{st:Stmt}{f:Addr}{fd:FuncData}{N ps:List Str}{k:Nat}{sp:Sp}(F:aS K x qual st f fd)(S:bh N ps (aB st))(len:∀vs H Q E,sp vs H Q E->vs.length=ps.length)(hbody:∀(cdv:Value) (A:Around) (outer:List Env) (s:Shared) (H:Hp) (vs:List V) (Q:VK) (E:XK),bR k (A.deeper (envOfC qual (aB st) s.heap.objs.size f cdv))->sp vs H Q E->∃t,fA (cG (bW P w) P w K mg base N qual (aB st) f cdv A outer s H E) (gE st) t/\t {nx:=λ_ H'=>Q .non H',rt:=Q} (start N vs) H):aO P w K mg base (bW P w) (k+1) f fd ps sp:=by
 obtain⟨oc,od,kV,doc,pm,an,cdv,ct,osl,rfl,lk,hcd⟩:=F.ex;exact Bf lk hcd S len λA outer s H vs Q E hr hsp=>hbody cdv A outer s H vs Q E hr hsp
noncomputable def u0:Value->Bool
 |.bool b=>b
 |_=>false
theorem Jj:∀{bs:List Bool} {us:List Value},Vals (bs.map V.bl) us->us=bs.map Value.bool
 | [],_,h=>by cases h;rfl
 |b::bs,_,h=>by
  cases h with
  |cons h t=>rw[show _=Value.bool b from h,Jj t];rfl
def abi(K:W.Frag):V->List V->Hp->VK->Prop:=λx vs H Q=>∃(l:Addr) (bs:List Bool),x = .ref l/\vs = [.bl true]/\ag K H l (bs.map V.bl)/\true∈bs/\Q (.int (bs.idxOf true:Nat)) H
theorem YH {X:Cx} {K:W.Frag} (hK:X.K=K):lT X "list.index" (abi K):=by
 subst hK;intro pins s σ H x vs v us Q I rx rv h;obtain⟨l,bs,rfl,rfl,hq,hk,q⟩:=h;cases rx;obtain⟨u,rfl,ru⟩:=rv.one;cases(show u=Value.bool true from ru);obtain⟨its,r,⟨⟨cls,dd,data,sl⟩,n,ho,hc,hdd,hd⟩,hz⟩:=I.list hq;simp only at hc hdd hd;subst hc hdd hd;have hi:=Jj r;subst hi;have hj:bs.idxOf true<bs.length:=nr.mpr hk;have hb:sizeLine<2 ^ 62:=by decide
 rw[au]at hz;refine kP kO ⟨_,ho,rfl⟩ HW (HR _ _)
  (Ib l (bs.map Value.bool).toArray n none sl (.bool true) u0 (bs.idxOf true) (by simpa using hj) (by omega) ?_ ?_) ⟨ho,λy hy=>?_,?_⟩
 ·show u0 ((bs.map Value.bool)[bs.idxOf true]'(by simpa using hj))=true
  rw[iF,nj hj];rfl
 ·intro j hjs hlt
  have hj2:j<bs.length:=by simpa using hjs
  show u0 ((bs.map Value.bool)[j]'(by simpa using hj2))=false;rw[iF];show bs[j]=false;have:=R3 (p:=(· == true)) (xs:=bs) (i:=j) hlt;simpa using this
 ·obtain⟨b,_,rfl⟩:=cS.mp (show y∈bs.map Value.bool by simpa using hy)
  have e:u0 (.bool b)=(b==true):=by cases b<;>rfl
  rw[e];exact xZ b true
 ·exact⟨.int (bs.idxOf true:Nat),H,I.tok _,⟨_,rfl⟩,q⟩
noncomputable def strOf:Expr->Option Str
 |.Constant (.str i) _ _=>some i
 |_=>none
noncomputable def strsOf:List Expr->Option (List Str)
 | []=>some []
 |e::r=>(strOf e).bind λi=>(strsOf r).map (i::·)
theorem acf{e:Expr}{i:Str}(h:strOf e=some i):∃k p,e = .Constant (.str i) k p:=by
 cases e with
 |Constant c k p =>
  cases c with
  |str j=>cases h;exact⟨k,p,rfl⟩
  |_=>cases h
 |_=>cases h
theorem Ob{X:Cx}:∀{es:List Expr} (is:List Str),strsOf es=some is->PA X es (λ_ H Q=>Q (is.map V.str) H):=by
 intro es
 induction es with
 |nil =>
  intro is h;cases h;exact ah
 |cons e r ih =>
  intro is h;have h':(strOf e).bind (λi=>(strsOf r).map (i::·))=some is:=h;cases q1:strOf e with
  |none=>rw[q1]at h';cases h'
  |some i =>
   obtain⟨k,p,rfl⟩:=acf q1;rw[q1]at h';cases q:strsOf r with
   |none=>rw[qe,q]at h';cases h'
   |some l =>
    rw[qe,q]at h';cases h';exact ae rZ (ih l q)
theorem S5:bootBuiltins "ValueError" = some (.type "ValueError"):=by decide +kernel
structure m9 (mg:Str->Option Value) (a0 a1 a2 a3 a4 a5 a6 a7 a8 a9 a10 a11 a12 a13 a14 aE:Addr):Prop where
 NoChain:mg "NoChain" = some (.ref a0)
 NoClimb:mg "NoClimb" = some (.ref a1)
 NoCount:mg "NoCount" = some (.ref a2)
 NoEnds:mg "NoEnds" = some (.ref a3)
 NoExchange:mg "NoExchange" = some (.ref a4)
 NoJoin:mg "NoJoin" = some (.ref a5)
 NoLine:mg "NoLine" = some (.ref a6)
 NoName:mg "NoName" = some (.ref a7)
 NoNumber:mg "NoNumber" = some (.ref a8)
 NoOrder:mg "NoOrder" = some (.ref a9)
 NoPart:mg "NoPart" = some (.ref a10)
 NoText:mg "NoText" = some (.ref a11)
 NoThing:mg "NoThing" = some (.ref a12)
 NoWord:mg "NoWord" = some (.ref a13)
 NotEven:mg "NotEven" = some (.ref a14)
 ClimbError:mg "ClimbError" = some (.ref aE)
 ve:mg "ValueError" = none
structure sY (K:W.Frag) (a0 a1 a2 a3 a4 a5 a6 a7 a8 a9 a10 a11 a12 a13 a14 aE:Addr):Prop where
 NoChain:W.nsIn K mainGlobals "NoChain" = some (some (.ref a0))
 NoClimb:W.nsIn K mainGlobals "NoClimb" = some (some (.ref a1))
 NoCount:W.nsIn K mainGlobals "NoCount" = some (some (.ref a2))
 NoEnds:W.nsIn K mainGlobals "NoEnds" = some (some (.ref a3))
 NoExchange:W.nsIn K mainGlobals "NoExchange" = some (some (.ref a4))
 NoJoin:W.nsIn K mainGlobals "NoJoin" = some (some (.ref a5))
 NoLine:W.nsIn K mainGlobals "NoLine" = some (some (.ref a6))
 NoName:W.nsIn K mainGlobals "NoName" = some (some (.ref a7))
 NoNumber:W.nsIn K mainGlobals "NoNumber" = some (some (.ref a8))
 NoOrder:W.nsIn K mainGlobals "NoOrder" = some (some (.ref a9))
 NoPart:W.nsIn K mainGlobals "NoPart" = some (some (.ref a10))
 NoText:W.nsIn K mainGlobals "NoText" = some (some (.ref a11))
 NoThing:W.nsIn K mainGlobals "NoThing" = some (some (.ref a12))
 NoWord:W.nsIn K mainGlobals "NoWord" = some (some (.ref a13))
 NotEven:W.nsIn K mainGlobals "NotEven" = some (some (.ref a14))
 ClimbError:W.nsIn K mainGlobals "ClimbError" = some (some (.ref aE))
 ve:W.nsIn K mainGlobals "ValueError" = some none
theorem sY.errs{K:W.Frag}{mg:Str->Option Value}{h:Heap}{a0 a1 a2 a3 a4 a5 a6 a7 a8 a9 a10 a11 a12 a13 a14 aE:Addr}(A:sY K a0 a1 a2 a3 a4 a5 a6 a7 a8 a9 a10 a11 a12 a13 a14 aE)(X:K.In h)(G:h.Ns mainGlobals mg):m9 mg a0 a1 a2 a3 a4 a5 a6 a7 a8 a9 a10 a11 a12 a13 a14 aE:=
 ⟨W.mg_of X G A.NoChain,W.mg_of X G A.NoClimb,W.mg_of X G A.NoCount,W.mg_of X G A.NoEnds,W.mg_of X G A.NoExchange,W.mg_of X G A.NoJoin,W.mg_of X G A.NoLine,W.mg_of X G A.NoName,W.mg_of X G A.NoNumber,W.mg_of X G A.NoOrder,W.mg_of X G A.NoPart,W.mg_of X G A.NoText,W.mg_of X G A.NoThing,W.mg_of X G A.NoWord,W.mg_of X G A.NotEven,W.mg_of X G A.ClimbError,W.mg_none_of X G A.ve⟩
structure nX (K:W.Frag) (a0 a1 a2 a3 a4 a5 a6 a7 a8 a9 a10 a11 a12 a13 a14 aE C:Addr) (j:Nat):Prop where
 xc:jV K C
 UT:W.exmOne K (.ref C) (.ref aE)=some true
 ke:W.kitOne K (.ref C) (.ref aE)=some true
 kv:W.kitOne K (.ref C) (.type "ValueError")=some true
 k0:W.kitOne K (.ref C) (.ref a0)=some (decide (0=j))
 k1:W.kitOne K (.ref C) (.ref a1)=some (decide (1=j))
 k2:W.kitOne K (.ref C) (.ref a2)=some (decide (2=j))
 k3:W.kitOne K (.ref C) (.ref a3)=some (decide (3=j))
 k4:W.kitOne K (.ref C) (.ref a4)=some (decide (4=j))
 k5:W.kitOne K (.ref C) (.ref a5)=some (decide (5=j))
 k6:W.kitOne K (.ref C) (.ref a6)=some (decide (6=j))
 k7:W.kitOne K (.ref C) (.ref a7)=some (decide (7=j))
 k8:W.kitOne K (.ref C) (.ref a8)=some (decide (8=j))
 k9:W.kitOne K (.ref C) (.ref a9)=some (decide (9=j))
 k10:W.kitOne K (.ref C) (.ref a10)=some (decide (10=j))
 k11:W.kitOne K (.ref C) (.ref a11)=some (decide (11=j))
 k12:W.kitOne K (.ref C) (.ref a12)=some (decide (12=j))
 k13:W.kitOne K (.ref C) (.ref a13)=some (decide (13=j))
 k14:W.kitOne K (.ref C) (.ref a14)=some (decide (14=j))
theorem n_.same{H H':Hp}{e C:Addr}(x:n_ H e C)(s:∀b o,H b=some o->H' b=some o):n_ H' e C:=by
 obtain⟨dx,h1,h2⟩:=x;exact⟨dx,s _ _ h1,λa q=>let⟨fs,z⟩:=h2 a q;⟨fs,s _ _ z⟩⟩
end L2
namespace My
open PySem PySem.Spec PyProof.Rows L2
theorem aD.y9{P:Program}{w:World}{K:W.Frag}{mg:Str->Option Value}{base h:Heap}{x:Str}{st:Stmt}{ps:List Str}{k:Nat}{sp:Sp}(A:aD K x st)(X:K.In h)(G:h.Ns mainGlobals mg)(hb:w6 x st ps)(ok:∀{f:Addr} {fd:FuncData},aS K x x st f fd->aO P w K mg base (bW P w) k f fd ps sp):h7 P w K mg base x ps k sp:=by
 obtain⟨f,fd,a,F⟩:=A.ex;exact⟨f,fd,ok F,W.mg_of X G a,F.kp,F.binds hb⟩
end My
namespace L2
open PySem PySem.Spec PyProof.Rows
section
variable {prog:Program} {w:World} {A:Around} {E:Value->Shared->Prop} {h:Heap} {g:Array GenState} {d:Drawn} {t:Nat} {os:OsState}
variable {nm q:Str} {C N:Addr} {bs bm bmB:List Value} {hdct:Bool} {sn:List Str} {sub:List Value} {ab:Bool} {col:Option Bool} {dd:Option Addr} {k0 k1 k2 k3 k5:Option Value} {B newId initId:String}
theorem adi(F:ExcBaseFacts B newId initId bmB)(T:OwnTail h bmB bm){mN:Str->Option Value}{rest:List Value}{fI:Addr}{oI:Obj}{Q:Fin->Shared->Prop}
  (hC:h.get? C=some (excClassObj nm q C N bs bm hdct sn sub ab col dd k0 k1 k2 k3 k5 newId)) (hn:h.Ns N mN) (hi:mN "__init__" = some (.ref fI)) (hfI:h.get? fI=some oI) (hfc:oI.cls = .type "function")
  (hq:∀h' e,Heap.MadeExcOf h h' e (.ref C) rest->wpAny (model prog w) A (call (.ref fI) (.ref e::rest)) (λr s'=>r = .none/\Q (.done (.ret (.ref e))) s') E ⟨h',g,d,t,os⟩) (hrest:rest.length<=sizeLine:=by size_fits) :
  wpAny (model prog w) A (Builtin.«type.__call__» ⟨.ref C::rest,[]⟩) Q E ⟨h,g,d,t,os⟩:=by
 repeat (first|with_reducible refine ua hC ?_|with_reducible refine wpAny_madeBy_exc hC ?_|wp_step)
 refine codeAny_call_builtin_code (HQ _ F.quiet) (wpAny_check_new_subT F T hC ?_);refine codeAny_exc_new_subT F T hC ?_ hrest;show wpAny _ _ _ _ _ _;generalize hob:({cls:=.type "tuple", data:=.seq rest.toArray}:Obj)=ob;generalize hoe:({cls:=.ref C,data:=.fields #[.ref h.objs.size,.none,.none,.none,.bool false,.none]}:Obj)=oe;have up:∀b o,h.get? b=some o->((h.push ob).push oe).get? b=some o:=λb o z=>aU _ (aU _ z);have hC₁:=up _ _ hC;have hfI₁:=up _ _ hfI;have hn₁:((h.push ob).push oe).Ns N mN:=let⟨o,es,ep,z,r⟩:=hn;⟨o,es,ep,up _ _ z,r⟩
 have hget:((h.push ob).push oe).get? (h.objs.size+1)=some oe:=H_ (by simp only[eE]) (by rw[<- hoe];rfl);have hgt:((h.push ob).push oe).get? h.objs.size=some ob:=aU _ (H_ rfl (by rw[<- hob];rfl));have hcC:(Value.ref C::bm).contains (.ref C)=true:=by simp
 have T₁:=T.keeps up;have hcl:oe.cls = .ref C:=by rw[<- hoe]
 unfold isInstance
 repeat (first | (with_reducible refine ua hget ?_;rw[hcl]) | (with_reducible refine wpAny_isSubtype_exc hC₁ ?_;rw[hcC])|wp_step)
 show wpAny _ _ (typeLookup (.ref C) _) _ _ _;refine wpAny_typeLookup_tail hC₁ hn₁ T₁ F.mroIs F.init.lookup ?_;rw[hi];refine fB (ai ?_);unfold bindSpecial;refine ai (wpAny_typeOf (T:= "function") ⟨_,hfI₁,hfc⟩ ?_);rw[if_pos (by decide)];refine aH (ai (d8 (hq _ (h.objs.size+1) ⟨up,xW (qc _),h.objs.size,hget.trans (by rw[hoe]),xW (aW _),hgt.trans (by rw[hob])⟩) (λr s' hr=>?_) λ_ _ x=>x));obtain⟨rfl,hQ⟩:=hr
 wp_walk
 exact hQ
theorem adf(F:ExcBaseFacts B newId initId bmB)(T:OwnTail h bmB bm){mN:Str->Option Value}{rest:List Value}{fI:Addr}{oI:Obj}{Q:Value->Shared->Prop}
  (hC:h.get? C=some (excClassObj nm q C N bs bm hdct sn sub ab col dd k0 k1 k2 k3 k5 newId)) (hn:h.Ns N mN) (hi:mN "__init__" = some (.ref fI)) (hfI:h.get? fI=some oI) (hfc:oI.cls = .type "function")
  (hq:∀h' e,Heap.MadeExcOf h h' e (.ref C) rest->wpAny (model prog w) (A.under (.builtin "type.__call__" ⟨.ref C::rest,[]⟩)) (call (.ref fI) (.ref e::rest)) (λr s'=>r = .none/\Q (.ref e) s') E ⟨h',g,d,t,os⟩) (hrest:rest.length<=sizeLine:=by size_fits) :
  wpAny (model prog w) A (call (.ref C) rest) Q E ⟨h,g,d,t,os⟩:=by
 have f1:=tc_lookup;have f2:=tc_bind (.ref C);have hT:(⟨h,g,d,t,os⟩:Shared).TypeIs (.ref C) "type" :=⟨_,hC,rfl⟩;refine kQ (codeAny_of_tree ?_);show wpAny _ _ (callAny (.ref C) _) _ _ _
 repeat (any_goals (first|assumption|with_reducible refine ua hC ?_|wp_step))
 refine⟨rfl,codeAny_call_builtin_at (HQ _ (by decide +kernel)) entry_typeCall (wpAny_check_type_call_sub hC (adi (hrest:=hrest) F T hC hn hi hfI hfc λh' e hm=>?_))⟩;exact hq h' e hm
end
section
variable {M:Model} {A:Around} {E:Value->Shared->Prop} {env:Env}
variable {nm q:Str} {C N:Addr} {bs bm:List Value} {hdct:Bool} {sn:List Str} {sub:List Value} {ab:Bool} {col:Option Bool} {dd:Option Addr} {k0 k1 k2 k3 k5:Option Value} {newId:String}
theorem adh {s:Shared} {x:Sem Value} {Q:Flow->Shared->Prop} (hbase:bm.contains (.type "BaseException")=true) (hh:A.handled=none)
  (h:wpAny M A x (λv s₁=>∃e de sl vs,v = .ref e/\s₁.heap.get? C=some (excClassObj nm q C N bs bm hdct sn sub ab col dd k0 k1 k2 k3 k5 newId) /\
   s₁.heap.get? e=some {cls:=.ref C,dict:=de,data:=.fields vs,slots:=sl}/\vs[1]?=some .none/\E (.ref e) s₁) E s) :
  wpAny M A (raiseStmt env (some x) none) Q E s:=by
 have hcB:(Value.ref C::bm).contains (.type "BaseException")=true:=by rw[List.contains_cons,hbase,Bool.or_true]
 unfold raiseStmt;refine ai (d8 h (λv s₁ h₁=>?_) λ_ _ x=>x);obtain⟨e,de,sl,vs,rfl,hC,he,h1,hE⟩:=h₁;obtain⟨hp,g,d,tk,os⟩:=s₁
 repeat (first|with_reducible refine dw he rfl h1 ?_|with_reducible refine ua he ?_|with_reducible refine ua hC ?_ | (with_reducible refine wpAny_isSubtype_exc hC ?_;rw[hcB])|wp_step)
 exact wpAny_raiseNew_none hh hE
end
section
variable {prog:Program} {w:World} {A:Around} {E:Value->Shared->Prop} {h:Heap} {g:Array GenState} {d:Drawn} {t:Nat} {os:OsState}
variable {nm q:Str} {C N:Addr} {bs bm bmB:List Value} {hdct:Bool} {sn:List Str} {sub:List Value} {ab:Bool} {col:Option Bool} {dd:Option Addr} {k0 k1 k2 k3 k5:Option Value} {B newId initId:String}
theorem adg(F:ExcBaseFacts B newId initId bmB)(T:OwnTail h bmB bm){e:Addr}{de:Option Addr}{sl:Array (Option Value)}{vs:Array Value}{v:Value}{Q:Value->Shared->Prop}(hC:h.get? C=some (excClassObj nm q C N bs bm hdct sn sub ab col dd k0 k1 k2 k3 k5 newId))(he:h.get? e=some {cls:=.ref C,dict:=de,data:=.fields vs,slots:=sl}){t0:Addr}(h0:vs[0]?=some (.ref t0))
  (hq:∀h' tu,(∀b o,b≠e->h.get? b=some o->h'.get? b=some o)->h'.get? e=some {cls:=.ref C,dict:=de,data:=.fields (vs.setIfInBounds 0 (.ref tu)),slots:=sl}->Q .none ⟨h',g,d,t,os⟩) :
  wpAny (model prog w) A (call (.builtin initId) [.ref e,v]) Q E ⟨h,g,d,t,os⟩:=by
 refine kQ (Ie F.init.plain F.initEntry (wpAny_check_init_subT F T hC he rfl ?_));have hsz:0<vs.size:=(lN.mp h0).1
 wp_walk
 rw[h0]
 wp_walk
 have Wd:=aU {cls:=.type "tuple", data:=.seq #[v]} he;refine hq _ h.objs.size (λb o hb z=>?_) ?_
 ·rw[ik _ _ (bQ hb)]
  exact aU _ z
 ·exact il (Obj.mapFields (·.setIfInBounds 0 (.ref h.objs.size))) Wd rfl
end
end L2
namespace L2
open PySem PySem.Spec PyProof.Rows PySem.W
open Builtin Builtin.ObjectAttr
section
variable {prog:Program} {w:World} {A:Around} {E:Value->Shared->Prop} {h:Heap} {g:Array GenState} {d:Drawn} {t:Nat} {os:OsState} {K:Frag} {e C D:Addr} {cd:ClassData} {sl:Array (Option Value)} {vs:Array Value} {name:Str} {v:Value}
theorem adk{Q:Option Addr->Shared->Prop}(X:K.In h)(hcd:clsIn K C=some cd)(hhd:cd.hasDict=true)(he:h.get? e=some {cls:=.ref C,dict:=none,data:=.fields vs,slots:=sl})
  (hq:Q (some h.objs.size) ⟨(h.push {cls:=.type "dict", data:=.dict #[]}).update e λo=>{o with dict:=some h.objs.size},g,d,t,os⟩):wpAny (model prog w) A (instanceDict e true) Q E ⟨h,g,d,t,os⟩:=by
 have LC:=looks_clsIn (M:=model prog w) X hcd;have he₁:(h.push {cls:=.type "dict", data:=.dict #[]}).get? e=some {cls:=.ref C,dict:=none,data:=.fields vs,slots:=sl}:=aU _ he;unfold instanceDict;refine ai (wpAny_loadPart he ?_);dsimp only;refine ai (LC.at ?_);rw[hhd];refine ai (wpAny_alloc' ?_);refine ai (wpAny_update' he₁ ?_);exact aH hq
theorem adl {Q:Unit->Shared->Prop} (X:K.In h) (hcd:clsIn K C=some cd) (hmro:cd.mro = .ref C::.ref D::iC) (hhd:cd.hasDict=true) (hsa:findIn K (.ref C) "__setattr__" = some (some (.builtin "object.__setattr__")))
  (ht:findIn K (.ref C) name=some none) (hob:mroIn K C (.type "object")=some true) (he:h.get? e=some {cls:=.ref C,dict:=none,data:=.fields vs,slots:=sl})
  (hq:∀h' dx tk',(∀b o,b≠e->h.get? b=some o->h'.get? b=some o)->h'.get? e=some {cls:=.ref C,dict:=some dx,data:=.fields vs,slots:=sl}->h.objs.size<=dx->h'.Ns1 dx (λy=>if y=name then some v else none)->Q () ⟨h',g,d,tk',os⟩) :
  wpAny (model prog w) A (setAttr (.ref e) name v) Q E ⟨h,g,d,t,os⟩:=by
 have SF:=PySem.F.store_object;have I:InstAt h e {cls:=.ref C,dict:=none,data:=.fields vs,slots:=sl} C none:=⟨he,rfl,rfl,trivial⟩;have L0:=I.type (M:=model prog w);have L1:=looks_findIn (M:=model prog w) X hsa;have L2:=looks_findIn (M:=model prog w) X ht;have LS:Looks (model prog w) h (isInstance (.ref e) (.type "object")) true:=I.type.andThen (looks_mroIn X hob);have LM:Looks (model prog w) h (mroOf (.ref C)) cd.mro:=(looks_clsIn X hcd).andThen .now;have LC:=looks_clsIn (M:=model prog w) X hcd;have f3:=SF.slot.bind (.ref e);unfold setAttr callSpecial? specialOf
 repeat (any_goals (first|assumption|with_reducible refine L0.at ?_|with_reducible refine L1.at ?_|wp_step))
 refine Ie SF.slot.plain SF.entry (@check_slot (model prog w) _ _ _ "object.__setattr__" "object" "__setattr__" (.ref e) [.str name t,v] [] _ SF.kind SF.split LS (SF.args (.ref e) (.str name t) v) ?_);show wpAny _ _ (Builtin.«object.__setattr__» ⟨[.ref e,.str name t,v],[]⟩) _ _ _;rw[osa_eq,refuse_eq];refine ai (ai (L0.at (ai (LM.at ?_))));rw[hmro,refuseLoop_ref,refuseLoop_ref,PySem.F.store_ValueError.passes];refine aH (ai (L0.at (ai (L2.at (ai (aH ?_))))));show wpAny _ _ (storeInOwnDict (.ref e) (.ref C) (.str name t) name v false) _ _ _;unfold storeInOwnDict;refine ai (aH ?_);rw[if_neg (by simp)];refine ai (adk X hcd hhd he ?_);have he₁:(h.push {cls:=.type "dict", data:=.dict #[]}).get? e=some {cls:=.ref C,dict:=none,data:=.fields vs,slots:=sl}:=aU _ he;have hes:e≠h.objs.size:=bE (aR he);have hgd:((h.push {cls:=.type "dict", data:=.dict #[]}).update e λo=>{o with dict:=some h.objs.size}).get? h.objs.size=some {cls:=.type "dict", data:=.dict #[]}:=
  (lV _ _ _ _ hes.symm).trans (H_ rfl rfl)
 have hnd:((h.push {cls:=.type "dict", data:=.dict #[]}).update e λo=>{o with dict:=some h.objs.size}).Ns h.objs.size (λ_=>none):=⟨_,#[],_,hgd,rfl,λx hx=>absurd hx (by simp),λ_=>rfl⟩;show wpAny _ _ (storeInDict h.objs.size (.str name t) name v) _ _ _;unfold storeInDict newKeyGuard;refine ai (aH (ai (wpAny_nsSet1 (Heap.Ns1.of_empty hnd) λh' hn' hs=>?_)));obtain⟨oD,esD,epD,hoD,hdD,hcD⟩:=hn'.count (Within.cons name v Within.nil);refine ai (wpAny_lookBehind hoD (by rw[hdD];exact pastItsLine_dict (b_ hcD (by rw[jO,Hk,ye];omega))) ?_)
 wp_walk
 refine hq h' h.objs.size _ (λb o hb z=>?_) ?_ (aW _) ?_
 ·exact(hs.2 b (bE (aR z))).trans ((lV _ _ _ _ hb).trans (aU _ z))
 ·exact(hs.2 e hes).trans (il _ he₁ rfl)
 ·exact hn'
end
noncomputable def eX(e C:Addr)(dx:Option Addr):HO:=.ext λh=>∃t0 sl vs,h.get? e=some {cls:=.ref C,dict:=dx,data:=.fields vs,slots:=sl}/\vs[0]?=some (.ref t0)/\vs[1]?=some .none
theorem zx{P:Program}{w:World}{H:Hp}{h:Heap}{e C t0:Addr}{dx:Option Addr}{sl:Array (Option Value)}{vs:Array Value}(h1:h.get? e=some {cls:=.ref C,dict:=dx,data:=.fields vs,slots:=sl})(h2:vs[0]?=some (.ref t0))(h3:vs[1]?=some .none):
  bC P w H h e (eX e C dx):=⟨⟨t0,sl,vs,h1,h2,h3⟩,⟨_,h1⟩,λg1 g2 ⟨t0,sl,vs,a,b⟩ k=>⟨t0,sl,vs,k _ a,b⟩⟩
theorem zv{P:Program}{w:World}{H:Hp}{h:Heap}{e C:Addr}{dx:Option Addr}(ok:bM P w H h)(z:H e=some (eX e C dx)):∃t0 sl vs,h.get? e=some {cls:=.ref C,dict:=dx,data:=.fields vs,slots:=sl}/\vs[0]?=some (.ref t0)/\vs[1]?=some .none:=(show bC P w H h e (eX e C dx)from ok e _ z).1
noncomputable def jq(H:Hp)(e:Addr):Hp:=λb=>if b=e then none else H b
theorem zp{H:Hp}{e:Addr}:jq H e e=none:=by unfold jq;rw[if_pos rfl]
theorem qH{H:Hp}{e b:Addr}(h:b≠e):jq H e b=H b:=by unfold jq;rw[if_neg h]
section
variable {X:Cx} {pins:List (Addr × Obj)} {σ:St} {H:Hp} {s:Shared}
theorem Inv.ac1{e C:Addr}{dx:Option Addr}(I:Inv X pins σ H s)(z:H e=some (eX e C dx))(h0:X.s₀.heap.get? e=none):Inv X pins σ (jq H e) s:=by
 have no:∀{b:Addr},H b=none->jq H e b=none:=λ{b} n=>by
  by_cases hb:b=e
  ·rw[hb];exact zp
  ·rw[qH hb];exact n
 have nt:∀{b:Addr} {u:HO},H b=some u->(∀φ,u≠.ext φ)->jq H e b=some u:=λ{b u} q nx=>by
  rw[qH]
  ·exact q
  ·intro hb
   rw[hb,z]at q;exact nx _ (df q).symm
 refine⟨I.ok,I.os,I.bare,⟨I.base.keep,I.base.slot,λb o q n hx=>no (I.base.free b o q n hx),I.base.there,λb xs q=>nt (I.base.tups b xs q) (λφ w=>by cases w),λb o u q=>nt (I.base.fU b o u q) (λφ w=>by cases w),λb ps q=>?_⟩,
  I.loc,I.cell,no I.free,λx c q=>no (I.dQ x c q),λp hp=>?_,λb o q=>?_,I.len⟩
 ·obtain⟨more,q1⟩:=I.base.gk b ps q
  exact⟨more,nt q1 (λφ w=>by cases w)⟩
 ·obtain⟨a,b,c⟩:=I.pin p hp
  exact⟨a,no b,c⟩
 ·have hb:b≠e:=λw=>by rw[w,zp]at q;cases q
  rw[qH hb]at q;exact(I.hok b o q).stay (λc v _ r=>r) (λc r=>nt r (λφ w=>by cases w)) (λc xs r=>nt r (λφ w=>by cases w)) λc ob u r=>nt r (λφ w=>by cases w)
end
def lP (K:W.Frag) (C fI:Addr):Prop:=∀h:Heap,K.In h->(∃bm N nm q bs hdct sn sub ab col dd k0 k1 k2 k3 k5 mN,h.get? C=some (excClassObj nm q C N bs bm hdct sn sub ab col dd k0 k1 k2 k3 k5 "ValueError.__new__")/\h.Ns N mN/\mN "__init__" = some (.ref fI)/\OwnTail h iC bm) /\
 ∃oI,h.get? fI=some oI/\oI.cls = .type "function"
def Rc(C:Addr)(sp:Sp)(E:XK)(ta:TA):TS:=λ_ σ H=>ta σ H λvs H1=>vs.length<=sizeLine/\∀e,H1 e=none->sp (.ref e::vs) (upd H1 e (eX e C none)) (λv H2=>v = .non/\∃dx,H2 e=some (eX e C dx)/\E (.ref C) dx (jq H2 e)) E0
section
variable {X:Cx} {E:XK} {x:Str} {C fI:Addr} {fd:FuncData} {ps:List Str} {k:Nat} {sp:Sp} {np cpos pos:Pos} {e0:Expr} {es:List Expr} {ta:TA}
theorem aa5(R:Raises X E)(hm:X.mg x=some (.ref C))(ic:lP X.K C fI)(F:aO X.prog X.w X.K X.mg X.base aX k fI fd ps sp)(hr:bR (k+1) X.A)(hb:Binds X.K fd ps [])(calm:X.calm=true)(hex:X.ex = [])(hg:Gl X x)(ha:PA X (e0::es) ta)
  (he:starEach (e0::es) X.env=(false,eval e0 X.env)::starEach es X.env:=by rfl) (hplain:(backTo cpos (starEach es X.env)).any (·.1)=false:=by rfl) (hd:(x==("__debug__" : Str))=false:=by decide) :
  PS X (.Raise (some (.Call (.Name x np) (e0::es) [] cpos)) none pos) (Rc C sp E ta):=by
 intro pins s σ H D I h;have FB:=xT;obtain⟨⟨bm,N,nm,q,bs,hdct,sn,sub,ab,col,dd,k0,k1,k2,k3,k5,mN,hC,hN,hi,T⟩,oI,hfI,hfc⟩:=ic X.base I.mod.iR;have hbase:bm.contains (.type "BaseException")=true:=T.hasType FB.hasBase;have hpl:(backTo cpos (starEach (e0::es) X.env)).any (·.1)=false:=by rw[he];show(false||(backTo cpos (starEach es X.env)).any (·.1))=false;rw[hplain];rfl
 have h':=ha cpos pins s σ H _ I h;rw[arm_exec_Raise];simp only[evalOpt,Option.map];refine ai (nW (adh (C:=C) (nm:=nm) (q:=q) (N:=N) (bs:=bs) (bm:=bm) (hdct:=hdct) (sn:=sn) (sub:=sub) (ab:=ab) (col:=col) (dd:=dd) (k0:=k0) (k1:=k1) (k2:=k2) (k3:=k3) (k5:=k5) (newId:= "ValueError.__new__") hbase (I.ok.hd calm) ?_));refine ai (d8 (wpAny_Call_ofName (kg I hg hm ?_ hd)) (λv s₃ h₃=>ai (nW (aH h₃))) λ_ _ x=>x);unfold callWith;rw[he]at h' hpl ⊢;refine ai (fB (tT (d8 h' (λus s2 ⟨vs,H2,I2,r,hl,q2⟩=>ai (nW ?_)) λ_ _ y=>y)));simp only[hpl];obtain⟨hp,g,d,tk,os⟩:=s2;have uK:hp.get? C=_:=I2.bk _ _ hC;have V1:hp.Ns N mN:=hN.keeps I2.bk;have T2:OwnTail hp iC bm:=T.keeps I2.bk;have Wh:hp.get? fI=some oI:=I2.bk _ _ hfI;refine ai (wpAny_keeperOf_exc uK ?_);rw[List.nil_append];refine ai (adf (hrest:=by rw[<- r.length];exact hl) FB T2 uK V1 hi Wh hfc λh3 e hx=>?_);obtain⟨t0,Lv,_,_⟩:=hx.there;have n2:H2 e=none:=NP I2.hok hx.new;have h0:X.s₀.heap.get? e=none:=by
  cases z:X.s₀.heap.get? e with
  |none=>rfl
  |some o =>
   obtain⟨o',z'⟩:=I2.base.there e o z (by rw[hex];exact λz=>nomatch z);rw[hx.new]at z';cases z'
 have I3:Inv X pins σ H2 ⟨h3,g,d,tk,os⟩:=I2.kept (t':=tk) hx.keeps;have hpn:∀p∈X.pn++pins,p.1≠e:=λp hp z=>by
  have:=(I2.pin p hp).1;rw[z,hx.new]at this;cases this
 have I4:Inv X pins σ (upd H2 e (eX e C none)) ⟨h3,g,d,tk,os⟩:=I3.track Lv rfl n2 h0 hpn (zx Lv rfl rfl);have hq:=q2 e n2;have r2:Vals (V.ref e::vs) (Value.ref e::us):=.cons rfl r;have hl2:(Value.ref e::us++[]).length=ps.length:=by rw[h_,<- r2.length];exact F.len _ _ _ _ hq
 have hb':=hb ⟨h3,g,d,tk,os⟩ (Value.ref e::us) I4.cu hl2;rw[h_]at hb';refine kQ (jR (F.run _ X.stack _ _ ⟨Value.ref e::us,[]⟩ (Value.ref e::us) _ _ E0 (hr.make C us []) (I4.env0.make C us []) hb' r2 hq) λr s' hq'=>?_);cases r with
 |error e'=>exact False.elim hq'
 |ok fl =>
  cases fl with
  |ret u =>
   obtain⟨v,H',I5,rv,ev,dx,hz,hE⟩:=I4.after hq';subst ev;obtain⟨t1,sl,vs',g1,g2,g3⟩:=zv I5.hok hz;exact⟨rv,ai (fB (wpAny_point (aH ⟨e,dx,sl,vs',rfl,I5.bk _ _ hC,g1,g3,R pins σ (jq H' e) s' e C _ vs' (I5.ac1 hz h0) g1 rfl rfl g3 zp h0 hE⟩)))⟩
  |next=>exact False.elim hq'
  |brk=>exact False.elim hq'
  |cont=>exact False.elim hq'
end
structure Iq (K:W.Frag) (C:Addr) (f:Str):Prop where
 ex:∃D cd,W.clsIn K C=some cd/\cd.mro = .ref C::.ref D::iC/\cd.hasDict=true
 sa:W.findIn K (.ref C) "__setattr__" = some (some (.builtin "object.__setattr__"))
 no:W.findIn K (.ref C) f=some none
 ob:W.mroIn K C (.type "object")=some true
def sXF(K:W.Frag)(ta tv:TE)(f:Str):TS:=λD σ H=>tv σ H λy H1=>ta σ H1 λx H2=>∃e C,x = .ref e/\H2 e=some (eX e C none)/\Iq K C f/\∀dx,H2 dx=none->D.nx σ (upd (upd H2 dx (.xd [(f,y)])) e (eX e C (some dx)))
section
variable {X:Cx} {o value:Expr} {ta tv:TE} {f:Str} {pos pos':Pos}
theorem aa8(ha:PE X o ta)(hv:PE X value tv)(hs:swapsWith value (some (.Attribute o f pos')) pos.line X.env=pure false):PS X (.Assign [.Attribute o f pos'] value pos) (sXF X.K ta tv f):=by
 intro pins s σ H D I h;refine Se (aM (hv pins s σ H _ I h) λu s1 ⟨y,H1,I1,ry,q⟩=>aM (ha pins s1 σ H1 _ I1 q) λov s2 ⟨x,H2,I2,rx,e,C,ex,ee,xs,q2⟩=>?_) hs;subst ex;obtain rfl:ov=Value.ref e:=rx;obtain⟨h,g,d,t,os⟩:=s2;obtain⟨D',cd,hcd,hmro,hhd⟩:=xs.ex;obtain⟨t0,sl,vs,he,v0,v1⟩:=zv I2.hok ee;refine adl I2.cu hcd hmro hhd xs.sa xs.no xs.ob he λh' dx tk' keep he' hdx hns=>?_;have hn:H2 dx=none:=I2.hok.fresh hdx;have hed:e≠dx:=λz=>by rw[z,hn]at ee;cases ee
 have oth:∀{b:Addr} {u:HO},H2 b=some u->b≠e->upd (upd H2 dx (.xd [(f,y)])) e (eX e C (some dx)) b=some u:=λ{b u} z hb=>by
  rw[aG hb,aG (dg z hn)];exact z
 have ext:∀{b:Addr} {u:HO},H2 b=some u->(∀φ,u≠.ext φ)->b≠e:=λ{b u} z nx hb=>by
  rw[hb,ee]at z;exact nx _ (df z).symm
 have I3:Inv X pins σ (upd (upd H2 dx (.xd [(f,y)])) e (eX e C (some dx))) ⟨h',g,d,tk',os⟩:=by
  refine I2.un (s:=⟨h,g,d,t,os⟩) (h':=h') (t':=tk') ⟨λb ob z n _ _=>keep b ob (λw=>by rw[w,ee]at n;cases n) z,λb ob z n _ _=>⟨ob.slots,keep b ob (λw=>by rw[w,ee]at n;cases n) z⟩,λb ob z n _=>?_,λb ob z _=>?_,
   λb xs z=>oth z (ext z λφ w=>by cases w),λb ob u z=>oth z (ext z λφ w=>by cases w),λb ps z=>⟨#[],by rw[oth z (ext z λφ w=>by cases w)];simp⟩⟩ λb ob z=>?_
  ·rw[aG (λw=>by rw[w,ee]at n;cases n),aG (bE (cY (aR z) hdx))]
   exact n
  ·by_cases hb:b=e
   ·rw[hb];exact⟨_,he'⟩
   ·exact⟨ob,keep b ob hb z⟩
  ·by_cases hb:b=e
   ·subst hb
    rw[av]at z;cases z;exact zx he' v0 v1
   ·rw[aG hb]at z
    by_cases hb2:b=dx
    ·subst hb2
     rw[av]at z;cases z;refine⟨_,hns,λk=>?_⟩
     by_cases hk:k=f
     ·subst hk
      simp[List.lookup,fZ,ry]
     ·have hk':(k==f)=false:=jm.mpr hk
      simp[List.lookup,hk,hk',fZ]
    ·rw[aG hb2]at z
     refine(I2.hok b ob z).stay (λc v hc q=>keep c v ?_ q) (λc q=>oth q (ext q λφ w=>by cases w)) (λc xs q=>oth q (ext q λφ w=>by cases w)) λc ob u q=>oth q (ext q λφ w=>by cases w)
     rcases hc with w|w
     ·rw[w];exact hb
     ·exact ext w λφ w=>by cases w
 exact⟨σ,_,I3,q2 dx hn⟩
end
section
variable {X:Cx} {e:Expr} {te:TE} {a:Str} {j} {p1 p2 pos:Pos}
end
noncomputable def tBI(K:W.Frag)(ta:TA):TE:=λσ H Q=>ta σ H λvs H1=>∃e C fI v,vs = [.ref e,v]/\H1 e=some (eX e C none)/\lP K C fI/\Q .non (upd H1 e (eX e C none))
section
variable {X:Cx} {c:Str} {C0:Addr} {np apos pos:Pos} {e0:Expr} {es:List Expr} {ta:TA}
theorem aaz (hg:Gl X c) (hm:X.mg c=some (.ref C0)) (hr:W.readsIn X.K C0 (.type "type")=true) (hsp:W.specialIn X.K (.ref C0) "__getattribute__" = some (some (.builtin "type.__getattribute__")))
  (hf:W.findCls X.K (.ref C0) (.type "type") "__init__" = some (.val (.builtin "ValueError.__init__"))) (ha:PA X (e0::es) ta) {pl:Sem Bool}
  (ht:eval (.Call (.Attribute (.Name c np) "__init__" apos) (e0::es) [] pos) X.env=(do
   let ov <- eval (.Name c np) X.env
   standAt apos.atName
   let(f,first) <- holding [ov] (getMethod ov "__init__" pl)
   callWith pos f first (backTo pos (starEach (e0::es) X.env)) (backToKw pos (keywordEach [] X.env))):=by rfl)
  (he:starEach (e0::es) X.env=(false,eval e0 X.env)::starEach es X.env:=by rfl) (hpl:(backTo pos (starEach es X.env)).any (·.1)=false:=by rfl) (hd:(c==("__debug__" : Str))=false:=by decide) :
  PE X (.Call (.Attribute (.Name c np) "__init__" apos) (e0::es) [] pos) (tBI X.K ta):=by
 intro pins s σ H Q I h;have FB:=xT;refine W.methodCall_KW (pl:=pl) (kg I hg hm (W.method_cls I.cu hsp (W.cls_value I.cu hr hf (by decide +kernel) ?_)) hd) ht;have I1:=I.tok (s.toks+1);have h':=ha pos pins _ σ H _ I1 h;rw[he]at h' ⊢;refine xQ (by show(false||(backTo pos (starEach es X.env)).any (·.1))=false;rw[hpl];rfl) (tT (d8 h' (λus s2 ⟨vs,H2,I2,r,e,C,fI,v,ev,ee,ic,q2⟩=>?_) λ_ _ y=>y));subst ev;obtain⟨u,v',rfl,ru,rv⟩:=Vals.two r;cases(show u=Value.ref e from ru);obtain⟨⟨bm,N,nm,q,bs,hdct,sn,sub,ab,col,dd,k0,k1,k2,k3,k5,mN,hC,hN,hi,T⟩,_⟩:=ic s2.heap I2.cu;obtain⟨t0,sl,ws,hee,v0,v1⟩:=zv I2.hok ee;obtain⟨hp,g,d,tk,os⟩:=s2;refine adg FB T hC hee v0 λh3 tu keep Le=>?_;have hz:0<ws.size:=(lN.mp v0).1;have I3:Inv X pins σ (upd H2 e (eX e C none)) ⟨h3,g,d,tk,os⟩:=I2.write (x:=e) (e:=e) (t':=tk) (h':=h3) (by rw[ee];trivial) (.inl rfl) keep ⟨_,Le⟩ (zx (t0:=tu) Le (by simp[hz]) (by rw[Array.getElem?_setIfInBounds_ne (by decide)];exact v1));exact⟨.non,_,I3,rfl,q2⟩
end
def tXG(K:W.Frag)(te:TE)(f:Str):TE:=λσ H Q=>te σ H λx H1=>∃e C dx fs v,x = .ref e/\H1 e=some (jb e C (some dx))/\H1 dx=some (.xd fs)/\jV K C/\W.hasDictIn K C=true/\W.findIn K (.ref C) f=some none/\W.noGet K none=true/\fs.lookup f=some v/\Q v H1
section
variable {X:Cx} {o:Expr} {te:TE} {f:Str} {pos:Pos}
theorem aaR(he:PE X o te)(hb:attributeBase o f X.env (eval o X.env)=eval o X.env:=by rfl):PE X (.Attribute o f pos) (tXG X.K te f):=by
 intro pins s σ H Q I h;refine Ja hb (aM (he pins s σ H _ I h) λu s1 ⟨x,H1,I1,rx,e,C,dx,fs,v,ex,ee,ed,cl,hd,hf,hn,hl,q⟩=>?_);subst ex;obtain rfl:u=Value.ref e:=rx;obtain⟨oe,vs,e1,e2,e3,e4⟩:=J8 I1.hok ee;obtain⟨mA,ns,rel⟩:=(show bC X.prog X.w H1 s1.heap dx (.xd fs)from I1.hok dx _ ed);obtain⟨od,es,ep,o1,o2,o3⟩:=id ns;obtain⟨w,hw,rw⟩:∃w,mA f=some w/\RelV v w:=by
  have:=rel f;rw[hl]at this;cases z:mA f with
  |none=>rw[z]at this;exact this.elim
  |some w=>rw[z]at this;exact⟨w,rfl,this⟩
 obtain⟨od',ho,hlk⟩:=Nh ns;have nc:W.notCls oe=true:=by unfold W.notCls;rw[e4]
 have J:W.InstAt s1.heap e oe C (some od'):=⟨e1,e2,nc,by rw[e3];exact ho⟩;have hfo:W.findObj X.K C (some od') f=some (.value w):=W.findObj_own hd hf hn (by rw[hlk,hw]);have iR:=I1.cu;obtain⟨hp,g,d,tk,os⟩:=s1;unfold getAttr;refine ai (wpAny_mkText ?_);refine Ry (v:=.none) iR J cl.ga cl.gt cl.be λA'=>ade iR J hfo ?_;exact W.handed_on (Lc rw) ⟨v,H1,I1.tok _,rw,q⟩
end
theorem Y8{K:W.Frag}{h:Heap}{N:Addr}{x:Str}{v:Value}(X:K.In h)(e:W.nsIn K N x=some (some v)):h.nsMap N x=some v:=by
 unfold W.nsIn at e
 split at e
 ·rename_i c d es ep sl ho
  unfold Heap.nsMap;rw[X _ _ ho];dsimp only;unfold nsFind findBy;rw[<- Array.find?_toList]
  split at e
  ·rename_i y hy
   rw[hy];exact df e
  ·split at e<;>cases e
 ·cases e
noncomputable def Mz(e:DictEntry):Bool:=match e.key with
 |.str _ _=>true
 |_=>false
theorem Y9{K:W.Frag}{N:Addr}{cN:Value}{dN:Option Addr}{es:Array DictEntry}{ep:Nat}{Fd:Array (Option Value)}(n:List.lookup N K=some ⟨cN,dN,.dict es ep,Fd⟩)(k:es.toList.all Mz=true):W.nsOkIn K N=true:=by
 unfold W.nsOkIn;rw[n];rw[Array.all_toList]at k;exact k
theorem Xj{K:W.Frag}{C N fI aE:Addr}{nm q:Str}{bs:List Value}{hdct:Bool}{sn:List Str}{sub:List Value}{ab:Bool}{col:Option Bool}{dd:Option Addr}{k0 k1 k2 k3 k5:Option Value}
  (l:List.lookup C K=some (excClassObj nm q C N bs (.ref aE::iC) hdct sn sub ab col dd k0 k1 k2 k3 k5 "ValueError.__new__")) (ok:W.nsOkIn K N=true) (i:W.nsIn K N "__init__" = some (some (.ref fI)))
  (x:W.excIn K aE iC "ValueError.__new__" = true) (f:W.isFn K (.ref fI)=true):lP K C fI:=by
 intro h X;refine⟨⟨_,N,nm,q,bs,hdct,sn,sub,ab,col,dd,k0,k1,k2,k3,k5,h.nsMap N,X _ _ l,.of_isNs (W.isNs_of_in X ok),Y8 X i,?_⟩,?_⟩
 ·obtain⟨_,tl,N',nm',q',bs',hd',sn',sub',ab',col',qG,j0,j1,j2,j3,j5,mN,hC,hN,hni,T⟩:=Oa (x:=Str.empty) (mg:=λ_=>some (.ref aE)) X rfl x
  exact .own hC hN hni .base
 ·unfold W.isFn W.typeIn at f
  have f:Option.map (λx=>x.cls) (List.lookup fI K)=some (Value.type "function"):=gR.mp f;cases z:List.lookup fI K with
  |none=>rw[z]at f;cases f
  |some o=>rw[z]at f;exact⟨o,X _ _ z,df f⟩
structure sV (P:Program) (w:World) (K:W.Frag) (mg:Str->Option Value) (base:Heap) (C:Addr) (x:Str) (ps:List Str) (k:Nat) (sp:Sp):Prop where
 ex:∃(f:Addr) (fd:FuncData),aO P w K mg base aX k f fd ps sp/\lP K C f/\mg x=some (.ref C)/\Binds K fd ps []
section
variable {X:Cx} {E:XK} {x:Str} {C:Addr} {ps:List Str} {k k':Nat} {sp:Sp} {np cpos pos:Pos} {e0:Expr} {es:List Expr} {ta:TA}
theorem aa4(c:sV X.prog X.w X.K X.mg X.base C x ps k sp)(R:Raises X E)(hr:bR k' X.A)(calm:X.calm=true)(hex:X.ex = [])(hg:Gl X x)(ha:PA X (e0::es) ta)(hk:k+1<=k':=by decide)
  (he:starEach (e0::es) X.env=(false,eval e0 X.env)::starEach es X.env:=by rfl) (hplain:(backTo cpos (starEach es X.env)).any (·.1)=false:=by rfl) (hd:(x==("__debug__" : Str))=false:=by decide) :
  PS X (.Raise (some (.Call (.Name x np) (e0::es) [] cpos)) none pos) (Rc C sp E ta):=by
 obtain⟨f,fd,F,ic,hm,b⟩:=c.ex;exact aa5 R hm ic F (hr.mono hk) b calm hex hg ha he hplain hd
end
structure xh (K:W.Frag) (C:Addr) (fld:Str):Prop where
 xs:Iq K C fld
 hd:W.hasDictIn K C=true
 ng:W.noGet K none=true
structure w5 (K:W.Frag) (aE:Addr):Prop where
 rd:W.readsIn K aE (.type "type")=true
 sp:W.specialIn K (.ref aE) "__getattribute__" = some (some (.builtin "type.__getattribute__"))
 fc:W.findCls K (.ref aE) (.type "type") "__init__" = some (.val (.builtin "ValueError.__init__"))
def wt(C:Addr)(fld:Str)(ok:V->Hp->Prop):Sp:=λvs H Q _=>∃(e:Addr) (v:V),vs = [.ref e,v]/\H e=some (eX e C none)/\ok v H /\
 ∀dx H',H dx=none->H' e=some (eX e C (some dx))->H' dx=some (.xd [(fld,v)])->(∀b,b≠e->b≠dx->H' b=H b)->Q .non H'
theorem abC{C:Addr}{fld:Str}{ok:V->Hp->Prop}{E:XK}{H:Hp}{v:V}{e:Addr}(hv:∀H',(∀b o,H b=some o->H' b=some o)->ok v H')(he:H e=none)(k:∀dx H',(∀b o,H b=some o->H' b=some o)->H' dx=some (.xd [(fld,v)])->E (.ref C) (some dx) H'):wt C fld ok [.ref e,v] (upd H e (eX e C none)) (λu H2=>u = .non/\∃dx,H2 e=some (eX e C dx)/\E (.ref C) dx (jq H2 e)) E0:=by
 refine⟨e,v,rfl,av,hv _ λb o q=>by rw[aG (dg q he)];exact q,λdx H' h1 h2 h3 h4=>⟨rfl,some dx,h2,k dx _ (λb o q=>?_) ?_⟩⟩
 ·have hb:b≠e:=dg q he
  have hb2:b≠dx:=λz=>by rw[z]at hb q;rw[aG hb,q]at h1;cases h1
  rw[qH hb,h4 b hb hb2,aG hb];exact q
 ·have hne:dx≠e:=λz=>by rw[z,av]at h1;cases h1
  rw[qH hne];exact h3
end L2
namespace My
open PySem PySem.Spec PyProof.Rows L2
structure m8 (K:W.Frag) (qual fld:Str) (st:Stmt) (C:Addr):Prop where
 ex:∃(f:Addr) (fd:FuncData),aS K "__init__" qual st f fd/\lP K C f
 fl:xh K C fld
theorem m8.mk'{cN:Value}{dN:Option Addr}{es:Array DictEntry}{ep:Nat}{Fd:Array (Option Value)}{K:W.Frag}{qual fld:Str}{st:Stmt}{C N f aE:Addr}{nm q:Str}{bs:List Value}{sn:List Str}{sub:List Value}{ab:Bool}{col:Option Bool}{dd:Option Addr}{oc:Value}{od an:Option Addr}{osl:Array (Option Value)}{kV doc pm cdv ct:Value}{j0 j1 j2 j3 j5:Option Value}
  (l:List.lookup C K=some (excClassObj nm q C N bs (.ref aE::iC) true sn sub ab col dd j0 j1 j2 j3 j5 "ValueError.__new__")) (ns:List.lookup N K=some ⟨cN,dN,.dict es ep,Fd⟩) (sk:es.toList.all Mz=true) (i:W.nsIn K N "__init__" = some (some (.ref f))) (x:W.excIn K aE iC "ValueError.__new__" = true) (fn:W.isFn K (.ref f)=true)
  (lf:List.lookup f K=some ⟨oc,od,.func (W.fnOf "__init__" qual (iL st) (gE st) (aB st) .none kV doc pm an cdv ct),osl⟩) (c:W.codeIn K cdv qual=true) (k:W.keepIn K (.ref f)=true)
  (sa:W.findIn K (.ref C) "__setattr__" = some (some (.builtin "object.__setattr__"))) (no:W.findIn K (.ref C) fld=some none) (ob:W.mroIn K C (.type "object")=some true) (hd:W.hasDictIn K C=true) (ng:W.noGet K none=true):m8 K qual fld st C:=
 ⟨⟨f,_,Bk lf c k,Xj l (Y9 ns sk) i x fn⟩,⟨⟨⟨aE,_,by unfold W.clsIn;rw[l],rfl,rfl⟩,sa,no,ob⟩,hd,ng⟩⟩
theorem m8.cal{P:Program}{w:World}{K:W.Frag}{mg:Str->Option Value}{base:Heap}{x qual fld:Str}{st:Stmt}{C:Addr}{ps:List Str}{k:Nat}{sp:Sp}(A:m8 K qual fld st C)(hm:mg x=some (.ref C))
  (hb:∀(kV doc pm:Value) (an:Option Addr) (cdv ct:Value) (us:List Value),us.length=ps.length->bindArgs (W.fnOf "__init__" qual (iL st) (gE st) (aB st) .none kV doc pm an cdv ct) ⟨us,[]⟩=pure (ps.zip us))
  (ok:∀{f:Addr} {fd:FuncData},aS K "__init__" qual st f fd->lP K C f->aO P w K mg base aX k f fd ps sp):sV P w K mg base C x ps k sp:=by
 obtain⟨f,fd,F,ic⟩:=A.ex;exact⟨f,fd,ok F ic,ic,hm,F.binds hb⟩
noncomputable def mr:List Str:=["NoChain","NoClimb","NoCount","NoEnds","NoExchange","NoJoin","NoLine","NoName","NoNumber","NoOrder","NoPart","NoText","NoThing","NoWord","NotEven"]
noncomputable def eF(j:Nat):List Bool:=[decide (0=j),decide (1=j),decide (2=j),decide (3=j),decide (4=j),decide (5=j),decide (6=j),decide (7=j),decide (8=j),decide (9=j),decide (10=j),decide (11=j),decide (12=j),decide (13=j),decide (14=j)]
theorem U7:∀j<15,((eF j).filter id).length=1/\(eF j).idxOf true=j/\true∈eF j:=by decide
section
variable {P:Program} {w:World} {K:W.Frag} {mg:Str->Option Value} {base:Heap} {f:Addr} {fd:FuncData} {a0 a1 a2 a3 a4 a5 a6 a7 a8 a9 a10 a11 a12 a13 a14 aE:Addr}
def Fj (Rz:Addr->Nat->Prop):Sp:=λvs H Q _=>∃(e C:Addr) (j:Nat),vs = [.ref e]/\n_ H e C/\Rz C j/\j<15/\∀H',Same H H'->Q (.str (mr.getD j "")) H'
abbrev dU:Stmt:=top 58
theorem PL:bh ["_law_e","_law_found","_law_words"] ["_law_e"] (aB dU):=⟨rfl,rfl,rfl,by decide +kernel,rfl,by decide +kernel,by decide +kernel⟩
theorem Vi:(aB dU).names.lookup ("ClimbError" : Str)=some .globalImplicit:=by decide +kernel
theorem Vj:(aB dU).names.lookup ("NoChain" : Str)=some .globalImplicit:=by decide +kernel
theorem Vk:(aB dU).names.lookup ("NoClimb" : Str)=some .globalImplicit:=by decide +kernel
theorem Vl:(aB dU).names.lookup ("NoCount" : Str)=some .globalImplicit:=by decide +kernel
theorem Vm:(aB dU).names.lookup ("NoEnds" : Str)=some .globalImplicit:=by decide +kernel
theorem Vn:(aB dU).names.lookup ("NoExchange" : Str)=some .globalImplicit:=by decide +kernel
theorem Vo:(aB dU).names.lookup ("NoJoin" : Str)=some .globalImplicit:=by decide +kernel
theorem Vp:(aB dU).names.lookup ("NoLine" : Str)=some .globalImplicit:=by decide +kernel
theorem Vq:(aB dU).names.lookup ("NoName" : Str)=some .globalImplicit:=by decide +kernel
theorem Vr:(aB dU).names.lookup ("NoNumber" : Str)=some .globalImplicit:=by decide +kernel
theorem Vs:(aB dU).names.lookup ("NoOrder" : Str)=some .globalImplicit:=by decide +kernel
theorem Vt:(aB dU).names.lookup ("NoPart" : Str)=some .globalImplicit:=by decide +kernel
theorem Vu:(aB dU).names.lookup ("NoText" : Str)=some .globalImplicit:=by decide +kernel
theorem Vv:(aB dU).names.lookup ("NoThing" : Str)=some .globalImplicit:=by decide +kernel
theorem Vw:(aB dU).names.lookup ("NoWord" : Str)=some .globalImplicit:=by decide +kernel
theorem Vx:(aB dU).names.lookup ("NotEven" : Str)=some .globalImplicit:=by decide +kernel
theorem Vy:(aB dU).names.lookup ("ValueError" : Str)=some .globalImplicit:=by decide +kernel
theorem fD:(aB dU).names.lookup ("isinstance" : Str)=some .globalImplicit:=by decide +kernel
theorem Zm (F:aS K "_law_class" "_law_class" dU f fd) (T:Txt mg) (Er:m9 mg a0 a1 a2 a3 a4 a5 a6 a7 a8 a9 a10 a11 a12 a13 a14 aE) :
  aO P w K mg base aX 1 f fd ["_law_e"] (Fj λC j=>nX K a0 a1 a2 a3 a4 a5 a6 a7 a8 a9 a10 a11 a12 a13 a14 aE C j):=by
 refine F.ok PL (λvs H Q E h=>?_) (λcdv A outer s H vs Q E hr h=>?_)
 ·obtain⟨e,C,j,rfl,_⟩:=h
  rfl
 ·obtain⟨e,C,j,rfl,hx,hR,hj,kk⟩:=h
  have nd:=PL.nd;refine⟨_,(ax (aP (i:=1) nd rfl (Or.inl rfl) (bV (ae (aY (fC (K:=K) (.ref a0) (.ref a0) (λ_ z=>z) rfl) fD T.isinstance du (ae (pv 0) (ae (fM (v:=.ref a0) Vj Er.NoChain rfl) ah))) (ae (aY (fC (K:=K) (.ref a1) (.ref a1) (λ_ z=>z) rfl) fD T.isinstance du (ae (pv 0) (ae (fM (v:=.ref a1) Vk Er.NoClimb rfl) ah))) (ae (aY (fC (K:=K) (.ref a2) (.ref a2) (λ_ z=>z) rfl) fD T.isinstance du (ae (pv 0) (ae (fM (v:=.ref a2) Vl Er.NoCount rfl) ah))) (ae (aY (fC (K:=K) (.ref a3) (.ref a3) (λ_ z=>z) rfl) fD T.isinstance du (ae (pv 0) (ae (fM (v:=.ref a3) Vm Er.NoEnds rfl) ah))) ah (ao nofun)) (ao nofun)) (ao nofun)) (ao nofun))))
   (ax (aP (i:=1) nd rfl (Or.inl rfl) (aJ fJ (pv 1) (bV (ae (aY (fC (K:=K) (.ref a4) (.ref a4) (λ_ z=>z) rfl) fD T.isinstance du (ae (pv 0) (ae (fM (v:=.ref a4) Vn Er.NoExchange rfl) ah))) (ae (aY (fC (K:=K) (.ref a5) (.ref a5) (λ_ z=>z) rfl) fD T.isinstance du (ae (pv 0) (ae (fM (v:=.ref a5) Vo Er.NoJoin rfl) ah))) (ae (aY (fC (K:=K) (.ref a6) (.ref a6) (λ_ z=>z) rfl) fD T.isinstance du (ae (pv 0) (ae (fM (v:=.ref a6) Vp Er.NoLine rfl) ah))) (ae (aY (fC (K:=K) (.ref a7) (.ref a7) (λ_ z=>z) rfl) fD T.isinstance du (ae (pv 0) (ae (fM (v:=.ref a7) Vq Er.NoName rfl) ah))) ah (ao nofun)) (ao nofun)) (ao nofun)) (ao nofun)))))
   (ax (aP (i:=1) nd rfl (Or.inl rfl) (aJ fJ (pv 1) (bV (ae (aY (fC (K:=K) (.ref a8) (.ref a8) (λ_ z=>z) rfl) fD T.isinstance du (ae (pv 0) (ae (fM (v:=.ref a8) Vr Er.NoNumber rfl) ah))) (ae (aY (fC (K:=K) (.ref a9) (.ref a9) (λ_ z=>z) rfl) fD T.isinstance du (ae (pv 0) (ae (fM (v:=.ref a9) Vs Er.NoOrder rfl) ah))) (ae (aY (fC (K:=K) (.ref a10) (.ref a10) (λ_ z=>z) rfl) fD T.isinstance du (ae (pv 0) (ae (fM (v:=.ref a10) Vt Er.NoPart rfl) ah))) (ae (aY (fC (K:=K) (.ref a11) (.ref a11) (λ_ z=>z) rfl) fD T.isinstance du (ae (pv 0) (ae (fM (v:=.ref a11) Vu Er.NoText rfl) ah))) ah (ao nofun)) (ao nofun)) (ao nofun)) (ao nofun)))))
   (ax (aP (i:=1) nd rfl (Or.inl rfl) (aJ fJ (pv 1) (bV (ae (aY (fC (K:=K) (.ref a12) (.ref a12) (λ_ z=>z) rfl) fD T.isinstance du (ae (pv 0) (ae (fM (v:=.ref a12) Vv Er.NoThing rfl) ah))) (ae (aY (fC (K:=K) (.ref a13) (.ref a13) (λ_ z=>z) rfl) fD T.isinstance du (ae (pv 0) (ae (fM (v:=.ref a13) Vw Er.NoWord rfl) ah))) (ae (aY (fC (K:=K) (.ref a14) (.ref a14) (λ_ z=>z) rfl) fD T.isinstance du (ae (pv 0) (ae (fM (v:=.ref a14) Vx Er.NotEven rfl) ah))) ah (ao nofun)) (ao nofun)) (ao nofun)))))
   (ax (bB (PW.pt (dJ (dA (cg (aY (fC (K:=K) (.ty "ValueError") (.type "ValueError") (λ_ z=>z) rfl) fD T.isinstance du (ae (pv 0) (ae (ky (v:=.ty "ValueError") Vy Er.ve S5 rfl) ah))))) (dJ (dA (cg (aY (fC (K:=K) (.ref aE) (.ref aE) (λ_ z=>z) rfl) fD T.isinstance du (ae (pv 0) (ae (fM (v:=.ref aE) Vi Er.ClimbError rfl) ah))))) (fj (bu eU (aY (cI (K:=K) rfl) rfl T.len cT (ae (c6 (own:=["_law_one"]) (fr:=[]) rfl (cp (aB dU) ["_law_e","_law_found","_law_words"] rfl rfl (by decide +kernel)) (dk (K:=K) rfl (pv 1)) (λ_ _ _ _=>⟨(bf (i:=0) (by decide +kernel:(["_law_one"]:List Str).Nodup) rfl (Or.inl rfl)),(kA (cg (pv 0))),(pv 0)⟩)) ah)) ak (a_ _)))))) (aA (aQ rZ)) bD)
   (ax (aP (i:=2) nd rfl (Or.inl rfl) (bV (Ob ["NoChain","NoClimb","NoCount","NoEnds","NoExchange","NoJoin","NoLine","NoName","NoNumber"] rfl)))
   (aA (aQ (aq (aV (K:=K) rfl) (aJ fJ (pv 2) (bV (Ob ["NoOrder","NoPart","NoText","NoThing","NoWord","NotEven"] rfl))) (eV (K:=K) rfl eM kO qh (YH (K:=K) rfl) (pv 1) (ae dj ah)) (λ_ _=>rfl)))))))))),?_⟩
  refine⟨_,rfl,e,C,_,rfl,hx,hR.xc,hR.k0,_,rfl,e,C,_,rfl,hx,hR.xc,hR.k1,_,rfl,e,C,_,rfl,hx,hR.xc,hR.k2,_,rfl,e,C,_,rfl,hx,hR.xc,hR.k3,by show 4<=sizeLine;decide,λl1 hl1=>?_⟩;have s1:Same H (upd H l1 (.lst [.bl (decide (0=j)),.bl (decide (1=j)),.bl (decide (2=j)),.bl (decide (3=j))])):=Same.put hl1;have q1:(upd H l1 (.lst [.bl (decide (0=j)),.bl (decide (1=j)),.bl (decide (2=j)),.bl (decide (3=j))])) l1=some (.lst [.bl (decide (0=j)),.bl (decide (1=j)),.bl (decide (2=j)),.bl (decide (3=j))]):=av;generalize upd H l1 (.lst [.bl (decide (0=j)),.bl (decide (1=j)),.bl (decide (2=j)),.bl (decide (3=j))])=H1 at s1 q1 ⊢;have hx1:=hx.same s1;refine⟨_,rfl,_,rfl,e,C,_,rfl,hx1,hR.xc,hR.k4,_,rfl,e,C,_,rfl,hx1,hR.xc,hR.k5,_,rfl,e,C,_,rfl,hx1,hR.xc,hR.k6,_,rfl,e,C,_,rfl,hx1,hR.xc,hR.k7,by show 4<=sizeLine;decide,λl2 hl2=>⟨l1,l2,_,_,rfl,rfl,Same.put hl2 _ _ q1,av,by show 8<=sizeLine;decide,λl3 hl3=>?_⟩⟩;obtain⟨H3,s3,q3,e3⟩:∃H3:Hp,Same H1 H3/\H3 l3=some (.lst (((eF j).take 8).map V.bl))/\H3=upd (upd H1 l2 (.lst [.bl (decide (4=j)),.bl (decide (5=j)),.bl (decide (6=j)),.bl (decide (7=j))])) l3 (.lst (((eF j).take 8).map V.bl)):=⟨_,(Same.put hl2).trans (Same.put hl3),av,rfl⟩;show kC _ _ _ [some (.ref e),some (.ref l3),none] (upd (upd H1 l2 (.lst [.bl (decide (4=j)),.bl (decide (5=j)),.bl (decide (6=j)),.bl (decide (7=j))])) l3 (.lst (((eF j).take 8).map V.bl)));rw[<- e3];have rC:=hx1.same s3;refine⟨_,rfl,_,rfl,e,C,_,rfl,rC,hR.xc,hR.k8,_,rfl,e,C,_,rfl,rC,hR.xc,hR.k9,_,rfl,e,C,_,rfl,rC,hR.xc,hR.k10,_,rfl,e,C,_,rfl,rC,hR.xc,hR.k11,by show 4<=sizeLine;decide,λl4 cL=>⟨l3,l4,_,_,rfl,rfl,Same.put cL _ _ q3,av,by show 12<=sizeLine;decide,λl5 fE=>?_⟩⟩;obtain⟨H5,s5,q5,e5⟩:∃H5:Hp,Same H3 H5/\H5 l5=some (.lst (((eF j).take 12).map V.bl))/\H5=upd (upd H3 l4 (.lst [.bl (decide (8=j)),.bl (decide (9=j)),.bl (decide (10=j)),.bl (decide (11=j))])) l5 (.lst (((eF j).take 12).map V.bl)):=⟨_,(Same.put cL).trans (Same.put fE),av,rfl⟩;show kC _ _ _ [some (.ref e),some (.ref l5),none] (upd (upd H3 l4 (.lst [.bl (decide (8=j)),.bl (decide (9=j)),.bl (decide (10=j)),.bl (decide (11=j))])) l5 (.lst (((eF j).take 12).map V.bl)));rw[<- e5];have uW:=rC.same s5;refine⟨_,rfl,_,rfl,e,C,_,rfl,uW,hR.xc,hR.k12,_,rfl,e,C,_,rfl,uW,hR.xc,hR.k13,_,rfl,e,C,_,rfl,uW,hR.xc,hR.k14,by show 3<=sizeLine;decide,λl6 uQ=>⟨l5,l6,_,_,rfl,rfl,Same.put uQ _ _ q5,av,by show 15<=sizeLine;decide,λl7 rj=>?_⟩⟩;obtain⟨H7,s7,q7,e7⟩:∃H7:Hp,Same H5 H7/\H7 l7=some (.lst ((eF j).map V.bl))/\H7=upd (upd H5 l6 (.lst [.bl (decide (12=j)),.bl (decide (13=j)),.bl (decide (14=j))])) l7 (.lst ((eF j).map V.bl)):=⟨_,(Same.put uQ).trans (Same.put rj),av,rfl⟩;show kC _ _ _ [some (.ref e),some (.ref l7),none] (upd (upd H5 l6 (.lst [.bl (decide (12=j)),.bl (decide (13=j)),.bl (decide (14=j))])) l7 (.lst ((eF j).map V.bl)));rw[<- e7];have L8:=uW.same s7;obtain⟨f1,f2,f3⟩:=U7 j hj;refine⟨_,rfl,e,C,_,rfl,L8,hR.xc,hR.kv,_,rfl,bA ⟨_,rfl,e,C,_,rfl,L8,hR.xc,hR.ke,_,rfl,bA ?_⟩⟩;refine⟨_,rfl,l7,rfl,⟨_,ag.of q7⟩,λD hD=>jY (λi=>(eF j).getD i false) (λi=>.bl true) (src_list (ag.of q7)) hD (by show 15<sizeLine;decide) (λi H8 Kt Kf hi hs hkt hkf=>?_) (λH8 s8 Wt=>?_)⟩
  ·have hi':i<15:=hi
   have eg:((eF j).map V.bl).getD i .non = .bl ((eF j).getD i false):=by
    rw[aN,aN,bX,ay (show i<(eF j).length from hi')];rfl
   refine⟨_,rfl,_,by rw[eg],bq (λh=>?_) (λh=>?_)⟩
   ·refine⟨_,rfl,?_⟩
    rw[eg,h];exact hkt _ h (Same.refl _)
   ·exact hkf _ (by simpa using h) (Same.refl _)
  ·have hlen:(((List.range 15).filter λi=>(eF j).getD i false).map λ_=>V.bl true).length=1:=by
    rw[au];exact(show ∀j<15,((List.range 15).filter λi=>(eF j).getD i false).length=1 by decide) j hj
   refine⟨D,_,rfl,.inl (ag.of Wt),rfl,_,rfl,?_⟩;rw[show((eF j).map V.bl).length=15 from rfl,hlen];refine bA ?_;refine⟨by show 9<=sizeLine;decide,λw1 hw1=>?_⟩;refine⟨_,rfl,by show 6<=sizeLine;decide,λw2 hw2=>⟨w1,w2,_,_,rfl,rfl,Same.put hw2 _ _ av,av,by show 15<=sizeLine;decide,λw3 W5=>?_⟩⟩;have s9:=((Same.put (o:=.lst ((mr.take 9).map V.str)) hw1).trans (Same.put (o:=.lst ((mr.drop 9).map V.str)) hw2)).trans (Same.put (o:=.lst (mr.map V.str)) W5);have q9:=s9 _ _ (s8 _ _ q7);refine⟨_,rfl,.inl ⟨rfl,_,ag.of q9⟩,l7,eF j,rfl,rfl,ag.of q9,f3,?_⟩;rw[f2];refine⟨w3,_,_,.str (mr.getD j ""),rfl,rfl,ag.of av,aI ?_,kk _ ((((s1.trans s3).trans s5).trans s7).trans (s8.trans s9))⟩;show(mr.map V.str)[j]?=_;rw[bX,aN,ay (show j<mr.length from hj)];rfl
end
end My
namespace L2
open PySem PySem.Spec PyProof.Rows
def Sg(h:Heap)(ea C:Addr)(dx:Option Addr)(T L:Addr):Prop:=(∃oe vs,h.get? ea=some oe/\oe.cls = .ref C/\oe.dict=dx/\oe.data = .fields vs/\vs[1]?=some .none)\/gQ h ea (.ref C) dx T .none\/gQ h ea (.ref C) dx T (rawInt L)
section
variable {P:Program} {w:World} {K:W.Frag} {mg:Str->Option Value} {base:Heap} {N:List Str} {qual:Str} {scope:Scope} {f:Addr} {cd:Value} {A:Around} {outer:List Env} {s:Shared} {H:Hp} {E:XK}
def XS(P:Program)(w:World)(base:Heap)(Ar:Around)(env:Env)(outer:List Env)(s:Shared)(H:Hp)(E:XK):Value->Shared->Prop:=λex s'=>∃ea C dx T H',Ar.frames=some (env::outer)/\ex = .ref ea/\s'.os=s.os/\AllBare s'.gens/\Un (frs outer) [] H H' s.heap s'.heap/\bM P w H' s'.heap/\s'.heap.FunFrames base (env::outer) /\
 (∀b∈frs (env::outer),H' b=none)/\Sg s'.heap ea C dx T s.heap.objs.size/\H' ea=none/\H' T=none/\s.heap.get? ea=none/\s.heap.get? T=none/\E (.ref C) dx H'
abbrev Cx.own (P:Program) (w:World) (K:W.Frag) (mg:Str->Option Value) (base:Heap) (N:List Str) (qual:Str) (scope:Scope) (f:Addr) (cd:Value) (A:Around) (outer:List Env) (s:Shared) (H:Hp) (E:XK):Cx:=
 (cG (bW P w) P w K mg base N qual scope f cd A outer s H E).wish (XS P w base (cG (bW P w) P w K mg base N qual scope f cd A outer s H E).A (cG (bW P w) P w K mg base N qual scope f cd A outer s H E).env outer s H E)
end
section
variable {X:Cx} {e:Expr} {te:TE} {a:Str} {j} {p1 p2 pos:Pos}
end
end L2
namespace My
open PySem PySem.Spec PyProof.Rows L2
theorem ab0{n:Nat}(h:n<24):((n:Int)).natAbs.log2<1920:=by
 rw[Int.natAbs_natCast]
 by_cases h0:n=0
 ·rw[h0];decide
 ·exact(Nat.log2_lt h0).mpr (cY h (b_ (by decide:24<=2 ^ 5) (Nat.pow_le_pow_right (by decide) (by decide))))
section
variable {P:Program} {w:World} {K:W.Frag} {mg:Str->Option Value} {base:Heap} {f:Addr} {fd:FuncData} {a0 a1 a2 a3 a4 a5 a6 a7 a8 a9 a10 a11 a12 a13 a14 aE:Addr}
end
end My
namespace L2
open PySem PySem.Spec PyProof.Rows
def acq(te:TE):TE:=λσ H Q=>te σ H λx H1=>∃(t:Addr) (fs:List Int),x = .ref t/\H1 t=some (.tup (fs.map V.int))/\fs.length=5/\(∀z∈fs,z.natAbs.log2<1920)/\∀y:Str,Q (.str y) H1
theorem acQ{a b c d e:Int}(h:∀z∈[a,b,c,d,e],z.natAbs.log2<1920):(tupleText [(toString a:Str),(toString b:Str),(toString c:Str),(toString d:Str),(toString e:Str)]).length<=10000:=by
 have h0:=tupleText_len_le [(toString a:Str),(toString b:Str),(toString c:Str),(toString d:Str),(toString e:Str)];have e1:=tY (by decide) (h a (by simp));have e2:=tY (by decide) (h b (by simp));have e3:=tY (by decide) (h c (by simp));have e4:=tY (by decide) (h d (by simp));have e5:=tY (by decide) (h e (by simp));simp only[cX,tM,List.sum_cons,List.sum_nil,jO,Hk,PySem.ofString_length]at h0;omega
section
variable {X:Cx} {e:Expr} {te:TE} {a:Str} {j} {p1 p2 pos:Pos}
theorem aaK(he:PE X e te)(hgd:X.A.guards=some [])(hu:X.A.units<cLine)(h0:(Str.empty++a).length<=10000:=by decide):PE X (.JoinedStr [.Constant (.str a) j p1,.FormattedValue e 114 none p2] pos) (acq te):=by
 intro pins s σ H Q I h;refine wpAny_JoinedStr ?_;show wpAny _ _ (eval (.Constant (.str a) j p1) X.env) _ _ _;have hs0:(Str.empty++a).length<=sizeLine:=b_ h0 (by decide);refine Calls.Constant_str ⟨a,_,rfl,hs0,?_⟩;show wpAny _ _ (eval (.FormattedValue e 114 none p2) X.env) _ _ _;refine wpAny_FormattedValue_repr (aM (he pins _ σ H _ (I.tok _) h) λv s1 ⟨x,H1,I1,rx,t,fs,ex,ht,h5,hf,q⟩=>?_);subst ex;obtain rfl:v=Value.ref t:=rx
 match fs,h5 with
 | [z1,z2,z3,z4,z5],_ =>
 obtain⟨its,r,tp,hz⟩:=I1.tuple (az.of ht);cases r with
 |cons r1 r =>
 cases r with
 |cons r2 r =>
 cases r with
 |cons r3 r =>
 cases r with
 |cons r4 r =>
 cases r with
 |cons r5 r =>
 cases r;obtain⟨t1,rfl⟩:=r1;obtain⟨t2,rfl⟩:=r2;obtain⟨t3,rfl⟩:=r3;obtain⟨t4,rfl⟩:=r4;obtain⟨t5,rfl⟩:=r5;have hl:=acQ hf;have hl1:=b_ hl (show 10000<=sizeLine by decide);have hl2:(Str.empty++a++tupleText [(toString z1:Str),(toString z2:Str),(toString z3:Str),(toString z4:Str),(toString z5:Str)]).length<=sizeLine:=by
  rw[Str.length_append,ye];omega
 obtain⟨o,g1,g2,n,g3⟩:=(show s1.heap.IsTuple t _ from tp);refine wpAny_pyReprObj_tuple (ts:=[(toString z1:Str),(toString z2:Str),(toString z3:Str),(toString z4:Str),(toString z5:Str)]) ?_ hgd (λc hc=>nomatch hc) hu g1 g3
  (.cons (tW t1 (hf z1 (by simp))) (.cons (tW t2 (hf z2 (by simp))) (.cons (tW t3 (hf z3 (by simp))) (.cons (tW t4 (hf z4 (by simp))) (.cons (tW t5 (hf z5 (by simp))) .nil))))) (λu tk=>?_) hl1
 ·exact⟨o,g1,g2⟩
 ·refine wpAny_formatField_str ?_ ?_ hl1
  ·exact⟨_,_,rfl,hl2,hl2,.str _,H1,(I1.tok _).tok _,⟨_,rfl⟩,q _⟩
  ·exact⟨_,_,rfl,hl2,hl2,.str _,H1,((I1.tok _).tok _).tok _,⟨_,rfl⟩,q _⟩
end
theorem aay{X:Cx}:Passes (bW X.prog X.w) X (λ_ _ _=>False):=λ_ _ _ _ _ _ _ h=>by
 obtain⟨_,_,_,_,_,_,_,_,_,_,_,_,_,_,_,hE⟩:=h;exact hE.elim
end L2
namespace My
open PySem PySem.Spec PyProof.Rows L2
def De(v:V)(H:Hp):Prop:=∃(t:Addr) (fs:List Int),v = .ref t/\H t=some (.tup (fs.map V.int))/\fs.length=5/\∀z∈fs,z.natAbs.log2<1920
theorem U5{n:Nat}{R:Nat->Nat->Bool}{fs:List Int}(hn:n<=24)(h:Five n R fs):∀z∈fs,z.natAbs.log2<1920:=λz hz=>by
 obtain⟨h1,h2⟩:=h.rng z hz;obtain⟨k,rfl⟩:∃k:Nat,z=(k:Int):=⟨z.toNat,by omega⟩;exact ab0 (by omega)
section
variable {P:Program} {w:World} {K:W.Frag} {mg:Str->Option Value} {base:Heap} {f:Addr} {fd:FuncData} {a0 a1 a2 a3 a4 a5 a6 a7 a8 a9 a10 a11 a12 a13 a14 aE:Addr}
abbrev DR:Stmt:=inClass (top 12) 0
theorem Pb:bh ["self","five"] ["self","five"] (aB DR):=⟨rfl,rfl,rfl,by decide +kernel,rfl,by decide +kernel,by decide +kernel⟩
theorem Zf {fI:Addr} (F:aS K "__init__" "NotEven.__init__" DR f fd) (Er:m9 mg a0 a1 a2 a3 a4 a5 a6 a7 a8 a9 a10 a11 a12 a13 a14 aE) (BI:w5 K aE) (ic:lP K a14 fI) (lL:xh K a14 "five"):aO P w K mg base aX 1 f fd ["self","five"] (wt a14 "five" De):=by
 refine F.ok Pb (λvs H Q E h=>?_) (λcdv A outer s H vs Q E hr h=>?_)
 ·obtain⟨e,v,rfl,_⟩:=h
  rfl
 ·obtain⟨e,v,rfl,he,⟨t,fs,rfl,ht,h5,hf⟩,kk⟩:=h
  have nd:=Pb.nd;refine⟨_,(ax (dI (aaz rfl Er.ClimbError BI.rd BI.sp BI.fc (ae (pv 0) (ae (aaK (pv 1) hr.gd hr.ac0) ah))))
   (aA (aa8 (pv 0) (pv 1) rfl))),?_⟩
  refine⟨_,rfl,_,rfl,t,fs,rfl,ht,h5,hf,λy=>⟨e,a14,fI,_,rfl,he,ic,?_⟩⟩;refine⟨_,rfl,_,rfl,e,a14,rfl,av,lL.xs,λdx hdx=>?_⟩;have hne:dx≠e:=λz=>by rw[z,av]at hdx;cases hdx
  refine kk dx _ (by rw[aG hne]at hdx;exact hdx) av (by rw[aG hne,av]) λb h1 h2=>?_;rw[aG h1,aG h2,aG h1]
abbrev Ep:Stmt:=top 46
theorem Qr:bh ["order","triple"] ["order"] (aB Ep):=⟨rfl,rfl,rfl,by decide +kernel,rfl,by decide +kernel,by decide +kernel⟩
def FT(C cN:Addr):Sp:=λvs H Q E=>∃(p n:Nat) (R:Nat->Nat->Bool),vs = [.ref p]/\fQ C H p n R/\Good n R/\n<=24 /\
 (∀(J N:Nat->Nat->Nat) (M:Md n R J N) H',Same H H'->(∀a b c,a<n->b<n->c<n->¬ Un n R a b c)->Q .non H') /\
 (∀dx u fs a b c H',Same H H'->First n (Un n R) a b c->H' dx=some (.xd [("five", .ref u)])->H' u=some (.tup (fs.map V.int))->Five n R fs->E (.ref cN) (some dx) H')
theorem aak {C:Addr} (F:aS K "need_even" "need_even" Ep f fd) (T:Txt mg) (y8:aC P w K mg base "uneven" ["order"] 2 (Gn C)) (yD:aC P w K mg base "five_of" ["order","triple"] 2 (Ft K C)) (yx:sV P w K mg base a14 "NotEven" ["self","five"] 1 (wt a14 "five" De)) :
  aO P w K mg base (bW P w) 3 f fd ["order"] (FT C a14):=by
 refine F.Df Qr (λvs H Q E h=>?_) (λcdv A outer s H vs Q E hr h=>?_)
 ·obtain⟨p,n,R,rfl,_⟩:=h
  rfl
 ·obtain⟨p,n,R,rfl,hO,G,hn,k1,k2⟩:=h
  have nd:=Qr.nd;refine⟨_,(ax (aP (i:=1) nd rfl (Or.inl rfl) (aL y8 hr rfl (ae (pv 0) ah)))
   (aA (bB (bu N7 (pv 1) jB (a_ _)) (aA (aa4 yx Dw hr rfl rfl rfl (ae (aL yD hr rfl (ae (pv 0) (ae (pv 1) ah))) ah))) bD))),?_⟩
  refine⟨_,rfl,p,n,R,rfl,hO,G,hn,λv H1 s1 hv=>?_⟩
  rcases hv with⟨rfl,no⟩|⟨t,a,b,c,rfl,g,fst⟩
  ·obtain⟨J,N,M⟩:=Yr G no
   exact⟨_,rfl,rfl,_,rfl,bA (k1 J N M _ s1 no)⟩
  ·refine⟨_,rfl,rfl,_,rfl,eR ?_⟩
   refine⟨_,rfl,_,rfl,p,t,n,a,b,c,R,rfl,hO.iY s1,G,az.of g,fst.la,fst.lb,fst.lc,fst.is,λu fs H2 s2 gu hf=>⟨by show 1<=sizeLine;decide,λe he=>?_⟩⟩;exact abC (λH3 s3=>⟨u,fs,rfl,s3 _ _ gu,hf.len,U5 hn hf⟩) he λdx H3 s3 hx=>k2 dx u fs a b c _ (s1.trans (s2.trans s3)) fst hx (s3 _ _ gu) hf
end
section
variable {P:Program} {w:World} {K:W.Frag} {mg:Str->Option Value} {base:Heap} {f:Addr} {fd:FuncData}
end
section
variable {P:Program} {w:World} {K:W.Frag} {mg:Str->Option Value} {base:Heap} {f:Addr} {fd:FuncData} {a0 a1 a2 a3 a4 a5 a6 a7 a8 a9 a10 a11 a12 a13 a14 aE:Addr}
end
noncomputable def gW(zs ws:List Int):Bool:=decide (zs.getD 0 0=ws.getD 0 0)&&decide (zs.getD (zs.length - 1) 0=ws.getD (ws.length - 1) 0)
theorem CP{zs:List Int}(h:zs≠[]):eN (zs.map V.int) (-1)=some (.int (zs.getD (zs.length - 1) 0)):=by
 obtain⟨pre,x,rfl⟩:∃pre x,zs=pre++[x]:=⟨zs.dropLast,zs.getLast h,(Hf h).symm⟩;rw[gx];have:=IW (pre.map V.int) (.int x);rw[aN];simpa using this
theorem Ke{zs:List Int}(h:zs≠[]):eN (zs.map V.int) 0=some (.int (zs.getD 0 0)):=by
 cases zs with
 |nil=>exact absurd rfl h
 |cons x r=>exact aI (j:=0) rfl
theorem gY(cs:List Nat)(i:Nat):(cs.map λx:Nat=>(x:Int)).getD i 0=((cs.getD i 0:Nat):Int):=by
 rw[aN,aN,bX];cases cs[i]?<;>simp
theorem Xr{g:Nat->List Nat}{b a:Nat}{c:List Nat}(h:Cl.nh g b a c):c.getD 0 0=a/\c.getD (c.length - 1) 0=b:=by
 have h1:=h.hd;have h2:=h.last
 constructor
 ·cases c with
  |nil=>cases h1
  |cons x r=>cases h1;rfl
 ·rw[List.getLast?_eq_getElem?]at h2
  rw[aN,h2];rfl
theorem toNat_cast(cs:List Nat):(cs.map λx:Nat=>(x:Int)).map Int.toNat=cs:=by
 rw[dY];exact Hn cs
section
variable {P:Program} {w:World} {K:W.Frag} {mg:Str->Option Value} {base:Heap} {f:Addr} {fd:FuncData} {a0 a1 a2 a3 a4 a5 a6 a7 a8 a9 a10 a11 a12 a13 a14 aE:Addr}
abbrev Es:Stmt:=top 40
theorem Qs:bh ["one","other"] ["one","other"] (aB Es):=⟨rfl,rfl,rfl,by decide +kernel,rfl,by decide +kernel,by decide +kernel⟩
def FH(K:W.Frag)(cE:Addr):Sp:=λvs H Q E=>∃(t u:Nat) (zs ws:List Int),vs = [.ref t,.ref u]/\ag K H t (zs.map V.int)/\ag K H u (ws.map V.int)/\zs≠[]/\ws≠[]/\(gW zs ws=true->∀H',Same H H'->Q .non H')/\(gW zs ws=false->∀H',Same H H'->E (.ref cE) none H')
theorem aal (F:aS K "need_like_ends" "need_like_ends" Es f fd) (T:Txt mg) (Er:m9 mg a0 a1 a2 a3 a4 a5 a6 a7 a8 a9 a10 a11 a12 a13 a14 aE) (sQ:W.excIn K a3 iC "ValueError.__new__" = true) :
  aO P w K mg base (bW P w) 1 f fd ["one","other"] (FH K a3):=by
 refine F.Df Qs (λvs H Q E h=>?_) (λcdv A outer s H vs Q E hr h=>?_)
 ·obtain⟨t,u,zs,ws,rfl,_⟩:=h
  rfl
 ·obtain⟨t,u,zs,ws,rfl,hT,hU,n1,n2,k1,k2⟩:=h
  have nd:=Qs.nd;refine⟨_,(aA (bB (PW.pt (dJ (bu eU (aq (aV (K:=K) rfl) (pv 0) ak (λ_ _=>rfl)) (aq (aV (K:=K) rfl) (pv 1) ak (λ_ _=>rfl)) (a_ _)) (fj (bu eU (aq (aV (K:=K) rfl) (pv 0) (jD jK ak) (λ_ _=>rfl)) (aq (aV (K:=K) rfl) (pv 1) (jD jK ak) (λ_ _=>rfl)) (a_ _))))) (aA (Ou Dw Er.NoEnds sQ xT rfl rfl rfl (ae rZ ah))) bD)),?_⟩;refine⟨_,rfl,t,_,0,.int (zs.getD 0 0),rfl,rfl,hT,Ke n1,_,rfl,u,_,0,.int (ws.getD 0 0),rfl,rfl,hU,Ke n2,rfl,_,rfl,bq (λh=>?_) (λh=>?_)⟩
  ·have hne:¬ zs.getD 0 0=ws.getD 0 0:=λe=>by rw[e]at h;simp at h
   exact⟨by show 1<=sizeLine;decide,k2 (by unfold gW;rw[cx hne];rfl) _ (Same.refl _)⟩
  ·have heq:zs.getD 0 0=ws.getD 0 0:=by
    apply xg
    intro z;apply h
    simp only[fP,f6];intro w;injection w with w
    exact z w
   refine⟨_,rfl,1,rfl,t,_,_,.int (zs.getD (zs.length - 1) 0),rfl,rfl,hT,CP n1,_,rfl,1,rfl,u,_,_,.int (ws.getD (ws.length - 1) 0),rfl,rfl,hU,CP n2,rfl,_,rfl,bq (λh=>?_) (λh=>?_)⟩
   ·have hne:¬ zs.getD (zs.length - 1) 0=ws.getD (ws.length - 1) 0:=λe=>by rw[e]at h;simp at h
    exact⟨by show 1<=sizeLine;decide,k2 (by unfold gW;rw[cx hne,G4]) _ (Same.refl _)⟩
   ·have hle:zs.getD (zs.length - 1) 0=ws.getD (ws.length - 1) 0:=by
     apply xg
     intro z;apply h
     simp only[fP,f6];intro w;injection w with w
     exact z w
    exact k1 (by unfold gW;rw[cy heq,cy hle];rfl) _ (Same.refl _)
end
end My
namespace L2
open PySem PySem.Spec PyProof.Rows
section
variable {X:Cx} {pins:List (Addr × Obj)} {σ:St} {H:Hp} {s:Shared}
end
section
variable {X:Cx} {x:Str} {k k' m:Nat} {p:Addr} {sp:Sp} {i:Nat} {e:Expr} {es:List Expr} {t:TA} {p0 pos:Pos}
end
section
variable {X:Cx} {x qual:Str} {k k' kl m:Nat} {spO:Addr->Sp->Sp} {ps qs:List Str} {params:Arguments} {body:Expr} {scope:Scope} {fr:List (Str × Nat)} {tb:TE} {e:Expr} {es:List Expr} {t:TA} {p0 pos:Pos}
end
theorem aS.Ze{P:Program}{w:World}{K:W.Frag}{mg:Str->Option Value}{base:Heap}{x qual:Str}{st:Stmt}{f c:Addr}{fd:FuncData}{N ps:List Str}{k:Nat}{sp:Sp}(F:aS K x qual st f fd)(hc:fd.code = .ref c)(S:bh N ps (aB st))(len:∀vs H Q E,sp vs H Q E->vs.length=ps.length)(hbody:∀(A:Around) (outer:List Env) (s:Shared) (H:Hp) (vs:List V) (Q:VK) (E:XK),bR k (A.deeper (envOfC qual (aB st) s.heap.objs.size f (.ref c)))->sp vs H Q E->∃t,fA (cG (bW P w) P w K mg base N qual (aB st) f (.ref c) A outer s H E) (gE st) t/\t {nx:=λ_ H'=>Q .non H',rt:=Q} (start N vs) H):aO P w K mg base (bW P w) (k+1) f fd ps sp:=by
 obtain⟨oc,od,kV,doc,pm,an,cdv,ct,osl,rfl,lk,hcd⟩:=F.ex;obtain rfl:cdv = .ref c:=hc;exact Bf lk hcd S len λA outer s H vs Q E hr hsp=>hbody A outer s H vs Q E hr hsp
def abj(K:W.Frag)(n:Nat):V->List V->Hp->VK->Prop:=λx vs H Q=>∃(l:Addr) (xs:List V) (y:V) (e:V->Bool) (j:Nat),x = .ref l/\vs = [y]/\ag K H l xs/\(∀z∈xs,∃a,z = .ref a)/\(∀z∈xs,bK K H n z y (e z))/\(∃z,xs[j]?=some z/\e z=true)/\(∀(m:Nat) z,m<j->xs[m]?=some z->e z=false)/\Q (.int (j:Nat)) H
theorem J3{e:V->Bool}{xs:List V}{us:List Value}(r:Vals xs us)(f:∀z∈xs,∃a,z = .ref a){i:Nat}{z:V}(h:xs[i]?=some z)(hi:i<us.length):qJ e us[i]=e z:=by
 obtain⟨u,h1,h2⟩:=r.get h;rw[ay hi]at h1;cases h1;obtain⟨a,rfl⟩:=f z (dr h);rw[show us[i]=Value.ref a from h2];rfl
theorem YJ {X:Cx} {K:W.Frag} (n:Nat) (hK:X.K=K) (hu:X.A.units+1+n<cLine):lT X "list.index" (abj K n):=by
 subst hK;intro pins s σ H x vs v us Q I rx rv h;obtain⟨l,xs,y,e,j,rfl,rfl,hq,hr,he,⟨z,hz1,hz2⟩,hno,q⟩:=h;cases rx;obtain⟨u,rfl,ru⟩:=rv.one;obtain⟨its,r,⟨⟨cls,dd,data,sl⟩,n',ho,hc,hdd,hd⟩,hz⟩:=I.list hq;simp only at hc hdd hd;subst hc hdd hd;have hlen:=r.length;have hj:j<its.length:=by have:=(bN.mp hz1).1;omega
 have hb:sizeLine<2 ^ 62:=by decide
 refine kP kO ⟨_,ho,rfl⟩ HW (HR _ _)
  (Ib l its.toArray n' none sl u (qJ e) j (by simpa using hj) (by omega) ?_ ?_) ⟨ho,λw hw=>Nk I (n:=n) (by show X.A.units+1+n<cLine;exact hu) ru r hr he w (by simpa using hw),?_⟩
 ·show qJ e its[j]=true
  rw[J3 r hr hz1 hj];exact hz2
 ·intro m hm hlt
  have hm':m<its.length:=by simpa using hm
  show qJ e its[m]=false;have hmx:xs[m]?=some xs[m]:=ay (by omega);rw[J3 r hr hmx hm'];exact hno m _ hlt hmx
 ·exact⟨.int (j:Nat),H,I.tok _,⟨_,rfl⟩,q⟩
section
variable {prog:Program} {w:World} {A:Around} {E:Value->Shared->Prop} {s:Shared} {κ:SortKind} {g:Keyed->Prop} {N:Nat} {pd:Array (Nat × Nat × Nat)}
end
end L2
namespace L2
open PySem PySem.Spec PyProof.Rows PySem.Builtin PySem.Builtin.Str
abbrev tuples' (b:Bool):SortKind:=(sortPriv% PySem.Builtin.KeyKind.tuples) b
section
variable {prog:Program} {w:World} {A:Around} {E:Value->Shared->Prop} {s:Shared}
theorem N2{b:Bool}{i j:Int}{t u:Tok}{Q:Bool->Shared->Prop}(h:Q (decide (i<j)) s):wpAny (model prog w) A (oneLt' b (.int i t) (.int j u)) Q E s:=by
 cases b with
 |true=>exact oneLt_int h
 |false =>
  rw[oneLt'_eq];simp only[iZ,g9];refine ai ?_;exact PyProof.Rows.lt_int (jS h)
noncomputable def vB(x y:Int × Int):Bool:=decide (x.1<y.1)||(decide (x.1=y.1)&&decide (x.2<y.2))
theorem XT{b:Bool}{x y:Addr}{n m:Nat}{o1 o2:Obj}{p q:Int × Int}{t1 t2 u1 u2:Tok}(hx:s.heap.get? x=some o1)(dx:o1.data = .seq #[.int p.1 t1,.int p.2 t2] n)(hy:s.heap.get? y=some o2)(dy:o2.data = .seq #[.int q.1 u1,.int q.2 u2] m){Q:Bool->Shared->Prop}(h:Q (vB p q) s):wpAny (model prog w) A (keyLt' (tuples' b) (.ref x) (.ref y)) Q E s:=by
 show wpAny _ _ (do
  let xs <- Builtin.List.listItems (.ref x);let ys <- Builtin.List.listItems (.ref y)
  for ((p,q),i) in (xs.toList.zip ys.toList).zipIdx do
   if !(<- eqBool p q)then return <- oneLt' (b&&i==0) p q
  return xs.size<ys.size) _ _ _
 refine ai (tS hx dx (ai (tS hy dy ?_)));simp only[xF,List.zip_nil_right,Hr,Hs,pW,pX];obtain⟨p1,p2⟩:=p;obtain⟨q1,q2⟩:=q;unfold vB at h;refine ai ?_;refine ai (ai (Ii ?_))
 by_cases e1:p1=q1
 ·rw[show(p1==q1)=true from gR.mpr e1]
  simp only[Bool.not_true,iZ,g9];refine aH ?_;dsimp only;refine ai (ai (Ii ?_));have n1:¬ p1<q1:=by omega
  by_cases e2:p2=q2
  ·rw[show(p2==q2)=true from gR.mpr e2]
   simp only[Bool.not_true,iZ,g9];refine aH (aH ?_);dsimp only;have n2:¬ p2<q2:=by omega
   rw[cx n1,cx n2,G4,w8]at h;exact aH h
  ·rw[show(p2==q2)=false from jm.mpr e2]
   simp only[G7,iP];refine ai (N2 (aH (aH ?_)));dsimp only;rw[cx n1,cy e1,gO,Bool.false_or]at h;exact aH h
 ·rw[show(p1==q1)=false from jm.mpr e1]
  simp only[G7,iP];refine ai (N2 (aH (aH ?_)));dsimp only;rw[cx e1,lO,w8]at h;exact aH h
end
end L2
namespace L2
open PySem PySem.W PyProof.Rows
section
variable {α β:Type} {n:Nat} {rk:Nat->Int}
noncomputable def cV(n:Nat)(rk:Nat->Int):KasT α->(α->Prop)->Prop
 |.ret a,Q=>Q a
 |.ask i j k,Q=>i<n/\j<n/\cV n rk (k (decide (rk i<rk j))) Q
theorem cV.mono{Q Q':α->Prop}:∀{t:KasT α},cV n rk t Q->(∀a,Q a->Q' a)->cV n rk t Q'
 |.ret a,h,q=>q a h
 |.ask i j k,⟨h1,h2,h3⟩,q=>⟨h1,h2,cV.mono h3 q⟩
theorem cV.bind{f:α->KasT β}{Q:β->Prop}:∀{t:KasT α},cV n rk t (λa=>cV n rk (f a) Q)->cV n rk (t.bind f) Q
 |.ret a,h=>h
 |.ask i j k,⟨h1,h2,h3⟩=>⟨h1,h2,cV.bind h3⟩
theorem cV.wp{cmp:Nat->Nat->(Bool->Shared->Prop)->Shared->Prop}{s:Shared}{Q:α->Prop}(hc:∀i j C,i<n->j<n->C (decide (rk i<rk j)) s->cmp i j C s):∀{t:KasT α},cV n rk t Q->t.kasWp cmp (λa s'=>s'=s/\Q a) s
 |.ret a,h=>⟨rfl,h⟩
 |.ask i j k,⟨h1,h2,h3⟩=>hc i j _ h1 h2 (cV.wp hc h3)
end
def Pm(n:Nat)(p:Array Nat):Prop:=p.Perm (List.range n).toArray
theorem Pm.size{n:Nat}{p:Array Nat}(h:Pm n p):p.size=n:=by
 have:=h.size_eq;simpa using this
theorem Pm.lt{n i:Nat}{p:Array Nat}(h:Pm n p)(hi:i<n):p.getD i 0<n:=by
 have hs:=h.size;have hi':i<p.size:=by omega
 have e:p.getD i 0=p[i]:=by simp[Array.getD,hi']
 have hm:p[i]∈(List.range n).toArray:=h.mem_iff.mp (Array.getElem_mem hi');rw[e];simpa using hm
theorem Pm.vh{n i j d:Nat}{p:Array Nat}(h:Pm n p):Pm n (mirror p i j d):=(mirror_perm p i j d).trans h
theorem Pm.S6{n i j:Nat}{p:Array Nat}(h:Pm n p):Pm n (bubble p i j):=(bubble_perm p i j).trans h
theorem mz(p:Array Nat)(i:Nat):p.getD i 0=p[i]?.getD 0:=by
 by_cases h:i<p.size
 ·simp[Array.getD,h]
 ·simp[Array.getD,h]
theorem Bv{p:Array Nat}{i j:Nat}(hj:j<=p.size)(k:Nat):(kas_rev p i j).getD k 0=if i<=k/\k<j then p.getD (i+j - 1 - k) 0 else p.getD k 0:=by
 unfold kas_rev;rw[mz,getElem?_mirror_all hj,mz,mz]
 split<;>rfl
theorem KJ{p:Array Nat}{k l:Nat}(hk:k<p.size)(hl:l<=k)(i:Nat):(bubble p k (k - l)).getD i 0=if i=l then p.getD k 0 else if l<i/\i<=k then p.getD (i - 1) 0 else p.getD i 0:=by
 rw[mz,getElem?_bubble hk _ (Nat.sub_le _ _),mz,mz,mz];have e:k - (k - l)=l:=by omega
 rw[e]
 repeat' split
 all_goals rfl
section
variable {n:Nat} {rk:Nat->Int} {p:Array Nat}
def Up(rk:Nat->Int)(p:Array Nat)(m:Nat):Prop:=∀i j,i<=j->j<m->rk (p.getD i 0)<=rk (p.getD j 0)
def Dn(rk:Nat->Int)(p:Array Nat)(m:Nat):Prop:=∀i j,i<=j->j<m->rk (p.getD j 0)<=rk (p.getD i 0)
theorem Up.rev{m:Nat}(hm:m<=p.size)(h:Dn rk p m):Up rk (kas_rev p 0 m) m:=λi j h1 h2=>by
 rw[Bv hm,Bv hm,if_pos ⟨eD _,by omega⟩,if_pos ⟨eD _,h2⟩];exact h _ _ (by omega) (by omega)
theorem Dy{i j:Nat}(hj:j<=p.size)(heq:∀k,i<=k->k<j->rk (p.getD k 0)=rk (p.getD (j - 1) 0))(k:Nat):rk ((kas_rev p i j).getD k 0)=rk (p.getD k 0):=by
 rw[Bv hj]
 split
 ·rw[heq (i+j - 1 - k) (by omega) (by omega),heq k (by omega) (by omega)]
 ·rfl
theorem yr(P:Pm n p):∀(f a:Nat),1<=a->a+f<=n->Up rk p a->cV n rk (kas_asc p f a) λm=>a<=m/\m<=a+f/\Up rk p m/\(m<a+f->rk (p.getD m 0)<rk (p.getD (m - 1) 0))
 |0,a,h1,h2,h3=>⟨aW _,aW _,h3,λz=>absurd z (dM _)⟩
 |f+1,a,h1,h2,h3=>by
  refine⟨P.lt (by omega),P.lt (by omega),?_⟩
  by_cases c:rk (p.getD a 0)<rk (p.getD (a - 1) 0)
  ·rw[cy c];dsimp only;rw[if_pos rfl]
   exact⟨aW _,by omega,h3,λ_=>c⟩
  ·rw[cx c];dsimp only;rw[if_neg Bool.false_ne_true]
   refine(yr P f (a+1) (by omega) (by omega) λi j hij hj=>?_).mono λm hpq=>by obtain⟨z1,z2,z3,z4⟩:=hpq;exact⟨by omega,by omega,z3,λz=>z4 (by omega)⟩
   by_cases hj2:j=a
   ·subst hj2
    by_cases hi:i=j
    ·rw[hi];exact lQ _
    ·exact pR (h3 i (j - 1) (by omega) (by omega)) (tm.mp c)
   ·exact h3 i j hij (by omega)
theorem yt:∀(f:Nat) (p:Array Nat) (a q:Nat),Pm n p->q+1<=a->a+f<=n->Dn rk p a->(∀k,a - (q+1)<=k->k<a->rk (p.getD k 0)=rk (p.getD (a - 1) 0))->cV n rk (kas_desc f p a q) λr=>Pm n r.1/\a<=r.2.1/\r.2.1<=a+f/\r.2.2+1<=r.2.1/\Dn rk r.1 r.2.1/\∀k,r.2.1 - (r.2.2+1)<=k->k<r.2.1->rk (r.1.getD k 0)=rk (r.1.getD (r.2.1 - 1) 0)
 |0,p,a,q,P,h1,h2,h3,h4=>⟨P,aW _,aW _,h1,h3,h4⟩
 |f+1,p,a,q,P,h1,h2,h3,h4=>by
  have hs:=P.size;refine⟨P.lt (by omega),P.lt (by omega),?_⟩
  by_cases c:rk (p.getD a 0)<rk (p.getD (a - 1) 0)
  ·rw[cy c];dsimp only;rw[if_pos rfl]
   have go:∀p':Array Nat,Pm n p'->(∀k,rk (p'.getD k 0)=rk (p.getD k 0))->cV n rk (kas_desc f p' (a+1) 0) λr=>Pm n r.1/\a<=r.2.1/\r.2.1<=a+(f+1)/\r.2.2+1<=r.2.1/\Dn rk r.1 r.2.1/\∀k,r.2.1 - (r.2.2+1)<=k->k<r.2.1->rk (r.1.getD k 0)=rk (r.1.getD (r.2.1 - 1) 0):=by
    intro p' P' e;refine(yt f p' (a+1) 0 P' (by omega) (by omega) (λi j hij hj=>?_) λk k1 k2=>?_).mono λr hpq=>by obtain⟨z1,z2,z3,z4⟩:=hpq;exact⟨z1,by omega,by omega,z4⟩
    ·rw[e,e]
     by_cases hj2:j=a
     ·subst hj2
      by_cases hi:i=j
      ·rw[hi];exact lQ _
      ·exact pR (xl c) (h3 i (j - 1) (by omega) (by omega))
     ·exact h3 i j hij (by omega)
    ·obtain rfl:k=a+1 - 1:=by omega
     rfl
   split
   ·exact go _ P.vh λk=>Dy (by omega) (λk k1 k2=>h4 k k1 k2) k
   ·exact go p P λ_=>rfl
  ·rw[cx c];dsimp only;rw[if_neg Bool.false_ne_true]
   refine⟨P.lt (by omega),P.lt (by omega),?_⟩
   by_cases d:rk (p.getD (a - 1) 0)<rk (p.getD a 0)
   ·rw[cy d];dsimp only;rw[if_pos rfl]
    exact⟨P,aW _,by show a<=a+(f+1);omega,h1,h3,h4⟩
   ·rw[cx d];dsimp only;rw[if_neg Bool.false_ne_true]
    have e:rk (p.getD a 0)=rk (p.getD (a - 1) 0):=Int.le_antisymm (tm.mp d) (tm.mp c);refine(yt f p (a+1) (q+1) P (by omega) (by omega) (λi j hij hj=>?_) λk k1 k2=>?_).mono λr hpq=>by obtain⟨z1,z2,z3,z4⟩:=hpq;exact⟨z1,by omega,by omega,z4⟩
    ·by_cases hj2:j=a
     ·subst hj2
      by_cases hi:i=j
      ·rw[hi];exact lQ _
      ·rw[e];exact h3 i (j - 1) (by omega) (by omega)
     ·exact h3 i j hij (by omega)
    ·rw[show a+1 - 1=a from rfl]
     by_cases hk:k=a
     ·rw[hk]
     ·rw[e];exact h4 k (by omega) (by omega)
def w_(n:Nat)(rk:Nat->Int)(nrem:Nat)(r:Nat × Array Nat):Prop:=Pm n r.2/\1<=r.1/\r.1<=nrem/\Up rk r.2 r.1
theorem IK{a nrem:Nat}(P:Pm n p)(h1:1<=a)(h2:a<=nrem)(h3:nrem<=n)(h4:Dn rk p a):cV n rk (kas_tail3 a nrem p) (w_ n rk nrem):=by
 have hs:=P.size;have P':Pm n (kas_rev p 0 a):=P.vh;exact cV.bind ((yr P' (nrem - a) a h1 (by omega) (Up.rev (by omega) h4)).mono λm hpq=>by obtain⟨z1,z2,z3,_⟩:=hpq;exact⟨P',by omega,by show m<=nrem;omega,z3⟩)
theorem Iz{a nrem:Nat}(P:Pm n p)(h1:a+1<=nrem)(h3:nrem<=n)(h4:Dn rk p (a+1)):cV n rk (kas_descPart a nrem p) (w_ n rk nrem):=by
 refine cV.bind ((yt (nrem - (a+1)) p (a+1) 0 P (by omega) (by omega) h4 λk k1 k2=>?_).mono λr ⟨z1,z2,z3,z4,z5,z6⟩=>?_)
 ·obtain rfl:k=a+1 - 1:=by omega
  rfl
 ·have hs:=z1.size
  split
  ·refine IK z1.vh (by omega) (by omega) h3 λi j hij hj=>?_
   have q:=Dy (rk:=rk) (p:=r.1) (i:=r.2.1 - (r.2.2+1)) (j:=r.2.1) (by omega) z6;rw[q,q];exact z5 i j hij hj
  ·exact IK z1 (by omega) (by omega) h3 z5
theorem Sv{nrem:Nat}(P:Pm n p)(h1:1<=nrem)(h3:nrem<=n):cV n rk (kas_count nrem p) (w_ n rk nrem):=by
 have hs:=P.size;refine cV.bind ((yr P (nrem - 1) 1 (aW _) (by omega) λi j hij hj=>?_).mono λm ⟨z1,z2,z3,z4⟩=>?_)
 ·obtain rfl:i=j:=by omega
  exact lQ _
 ·split
  ·exact⟨P,z1,by show m<=nrem;omega,z3⟩
  ·rename_i ne
   have hm:m<nrem:=by
    have:m≠nrem:=λe=>ne (by simp[e]);omega
   have lt:=z4 (by omega)
   split
   ·refine⟨P.lt (by omega),P.lt (by omega),?_⟩
    by_cases c:rk (p.getD 0 0)<rk (p.getD (m - 1) 0)
    ·rw[cy c];dsimp only;rw[if_pos rfl]
     exact⟨P,z1,by show m<=nrem;omega,z3⟩
    ·rw[cx c];dsimp only;rw[if_neg Bool.false_ne_true]
     have all:∀k,k<m->rk (p.getD k 0)=rk (p.getD (m - 1) 0):=λk hk=>Int.le_antisymm (z3 k (m - 1) (by omega) (by omega)) (pR (tm.mp c) (z3 0 k (by omega) hk));have q:=Dy (rk:=rk) (p:=p) (i:=0) (j:=m) (by omega) λk _ hk=>all k hk;refine Iz P.vh (by omega) h3 λi j hij hj=>?_;rw[q,q]
     by_cases hj2:j=m
     ·subst hj2
      by_cases hi:i=j
      ·rw[hi];exact lQ _
      ·rw[all i (by omega)];exact xl lt
     ·rw[all i (by omega),all j (by omega)];exact lQ _
   ·obtain rfl:m=1:=by omega
    refine Iz P (by omega) h3 λi j hij hj=>?_
    by_cases hj2:i=j
    ·rw[hj2];exact lQ _
    ·obtain rfl:i=0:=by omega
     obtain rfl:j=1:=by omega
     exact xl lt
theorem yu{k:Nat}(P:Pm n p)(hk:k<n)(hU:Up rk p k):∀(f l r:Nat),l<=r->r<=k->r - l<=f->(∀i,i<l->rk (p.getD i 0)<=rk (p.getD k 0))->(∀i,r<=i->i<k->rk (p.getD k 0)<=rk (p.getD i 0))->cV n rk (kas_place p k f l r) λm=>m<=k/\(∀i,i<m->rk (p.getD i 0)<=rk (p.getD k 0))/\∀i,m<=i->i<k->rk (p.getD k 0)<=rk (p.getD i 0)
 |0,l,r,h1,h2,h3,h4,h5=>by
  obtain rfl:l=r:=by omega
  exact⟨h2,h4,h5⟩
 |f+1,l,r,h1,h2,h3,h4,h5=>by
  unfold kas_place
  split
  ·obtain rfl:l=r:=by omega
   exact⟨h2,h4,h5⟩
  ·rename_i g
   refine⟨P.lt hk,P.lt (by omega),?_⟩
   by_cases c:rk (p.getD k 0)<rk (p.getD ((l+r) / 2) 0)
   ·rw[cy c];dsimp only;rw[if_pos rfl]
    refine yu P hk hU f l ((l+r) / 2) (by omega) (by omega) (by omega) h4 λi i1 i2=>?_;exact pR (xl c) (hU _ _ i1 i2)
   ·rw[cx c];dsimp only;rw[if_neg Bool.false_ne_true]
    refine yu P hk hU f ((l+r) / 2+1) r (by omega) h2 (by omega) (λi i1=>?_) h5;exact pR (hU i ((l+r) / 2) (by omega) (by omega)) (tm.mp c)
theorem Iy:∀(f:Nat) (p:Array Nat) (k:Nat),Pm n p->k+f<=n->Up rk p k->cV n rk (kas_bin f p k) λr=>Pm n r/\Up rk r (k+f)
 |0,p,k,P,h1,h2=>⟨P,h2⟩
 |f+1,p,k,P,h1,h2=>by
  have hs:=P.size;refine cV.bind ((yu P (by omega) h2 k 0 k (eD _) (aW _) (by omega) (λi hi=>by omega) (λi i1 i2=>by omega)).mono λl ⟨z1,z2,z3⟩=>?_);refine(Iy f (bubble p k (k - l)) (k+1) P.S6 (by omega) λi j hij hj=>?_).mono λr hpq=>by obtain⟨y1,y2⟩:=hpq;exact⟨y1,by rw[show k+(f+1)=k+1+f by omega];exact y2⟩
  ·rw[KJ (by omega) z1,KJ (by omega) z1]
   repeat' split
   all_goals first|exact lQ _ | (exfalso;omega)|exact h2 _ _ (by omega) (by omega)|exact z3 _ (by omega) (by omega)|exact z2 _ (by omega)
theorem Sw(h1:1<=n):cV n rk (kas_sort n) λr=>Pm n r/\Up rk r n:=by
 refine cV.bind ((Sv (nrem:=n) (Array.Perm.refl _) h1 (aW _)).mono λr ⟨z1,z2,z3,z4⟩=>?_)
 split
 ·have e:max r.1 1=r.1:=by omega
  rw[e];exact(Iy (n - r.1) r.2 r.1 z1 (by omega) z4).mono λq hpq=>by obtain⟨y1,y2⟩:=hpq;exact⟨y1,by rw[show r.1+(n - r.1)=n by omega]at y2;exact y2⟩
 ·obtain e:r.1=n:=by omega
  rw[e]at z4;exact⟨z1,z4⟩
end
end L2
namespace L2
open PySem PySem.Spec PyProof.Rows PySem.W
section
variable {prog:Program} {w:World} {A:Around} {E:Value->Shared->Prop} {s:Shared} {M:Model}
theorem mapM_some{α β:Type}{f:α->Sem β}{P:β->Prop}:∀(l:List α) {Q:List β->Shared->Prop},(∀v∈l,∃r,P r/\∀Q':β->Shared->Prop,Q' r s->wpAny M A (f v) Q' E s)->(∀rs:List β,rs.length=l.length->(∀r∈rs,P r)->Q rs s)->wpAny M A (l.mapM f) Q E s
 | [],Q,_,h=>by rw[List.mapM_nil];exact aH (h [] rfl λr z=>nomatch z)
 |x::l,Q,hf,h=>by
  rw[List.mapM_cons];obtain⟨r,pr,hr⟩:=hf x (.head _);refine ai (hr _ (ai (mapM_some (P:=P) l (λv hv=>hf v (.tail _ hv)) λrs hl hp=>aH (h (r::rs) (by simp[hl]) λq hq=>?_))))
  rcases bx.mp hq with rfl|hq
  ·exact pr
  ·exact hp q hq
theorem Ml:∀(rs:List (Option Value)),(∀r∈rs,∃a t,r=some (Value.int a t))->∃ns,IntsAre (rs.filterMap id) ns/\ns.length=rs.length
 | [],_=>⟨[],.nil,rfl⟩
 |r::rs,h=>by
  obtain⟨a,t,rfl⟩:=h r (.head _);obtain⟨ns,h1,h2⟩:=Ml rs λq hq=>h q (.tail _ hq);exact⟨a::ns,.cons a t h1,by simp[h2]⟩
theorem aan {vs:List Value} {ns:List Int} (h:IntsAre vs ns) (hn:ns≠[]):oneTypeOnly' vs.toArray=pure (some (Value.type "int")):=by
 rw[oneTypeOnly'_eq,List.mapM_toArray,mapM_typeOf_ints h];simp only[map_pure,pure_bind];cases h with
 |nil=>exact absurd rfl hn
 |cons n t h=>simp
theorem X1 {keys:List Value} (h2:keys≠[]) (hk:∀v∈keys,∃(x:Addr) (o:Obj) (n:Nat) (its:Array Value) (a:Int) (t:Tok),v = .ref x/\s.heap.get? x=some o/\o.cls = .type "tuple" /\ o.data = .seq its n/\its[0]?=some (.int a t)) {Q:SortKind->Shared->Prop} (h:Q (tuples' true) s) :
  wpAny M A (keyKind' keys.toArray) Q E s:=by
 rw[keyKind'_eq,List.mapM_toArray,map_eq_pure_bind];refine ai (ai (mapM_some (P:=λr=>∃a t,r=some (Value.int a t)) _ (λv hv=>?_) λrs hl hr=>aH ?_))
 ·obtain⟨x,o,n,its,a,t,rfl,ho,hc,hd,hi⟩:=hk v hv
  refine⟨_,⟨a,t,rfl⟩,λQ' hq=>?_⟩;rw[kas_first_eq];refine ai (wpAny_typeOf_ref ho ?_);rw[hc,if_neg (by decide)];refine ai (tS ho hd (aH ?_));rw[hi];exact hq
 ·obtain⟨ns,hI,hn⟩:=Ml rs hr
  have all:(rs.toArray.all λx=>x.isSome)=true:=by
   rw[List.all_toArray,fX];intro r h;obtain⟨a,t,rfl⟩:=hr r h;rfl
  rw[if_pos all];refine ai (qj ?_);have e:(rs.toArray.filterMap id)=(rs.filterMap id).toArray:=by simp
  rw[e,aan hI (λz=>h2 (by rw[z]at hn;exact List.length_eq_zero_iff.mp (by simpa[hl]using hn.symm)))];exact ai (aH (aH h))
section
variable {a kS:Addr} {e1:Nat} {keys its:List Value} {kz:List Int} {κ:SortKind}
theorem item_at(hl:keys.length=its.length){i:Nat}(hi:i<its.length):kas_item (keys.toArray.zip its.toArray) i=(keys.getD i Value.none,its.getD i Value.none):=by
 unfold kas_item;have h1:i<keys.length:=by omega
 have h2:i<min keys.length its.length:=by omega
 simp[Array.getD,h1,hi,h2]
theorem ab2{R:PySem.Fin->Shared->Prop}(hl:keys.length=its.length)(hz:kz.length=its.length)(h64:its.length<64)(hkind:2<=its.length->∀Q:SortKind->Shared->Prop,Q κ s->wpAny (model prog w) A (keyKind' keys.toArray) Q E s)(hcmp:∀i j,i<its.length->j<its.length->∀Q:Bool->Shared->Prop,Q (decide (kz.getD i 0<kz.getD j 0)) s->wpAny (model prog w) A (keyLt' κ (keys.getD i Value.none) (keys.getD j Value.none)) Q (λ_ _=>False) s)(h:∀st:SortSt,failedOf st=none->KskOut false kz its ((arrOf st).map (·.2)).toList->((arrOf st).map (·.2)).toList.length=its.length->wpAny (model prog w) A (ksk_tail a false e1 (.ref kS) st) R E s):wpAny (model prog w) A (ksk_end a false its.toArray e1 (.ref kS) keys.toArray) R E s:=by
 have zs:(keys.toArray.zip its.toArray).size=its.length:=by simp[hl]
 unfold ksk_end;simp only[iZ,g9]
 by_cases few:its.toArray.size<2
 ·simp only[if_pos few]
  refine ai (aH ?_);rw[StateT.run_pure];rw[bU]at few;have e:((keys.toArray.zip its.toArray).map (·.2)).toList=its:=by
   rw[Array.toList_map,ksk_zip];exact List.map_snd_zip (by simp[hl])
  refine ai (aH (h _ rfl ?_ ?_))
  ·show KskOut false kz its ((keys.toArray.zip its.toArray).map (·.2)).toList
   rw[e];refine⟨kz.zip its,.refl _,(List.map_snd_zip (by omega)).symm,?_⟩;have:(kz.zip its).length<=1:=by simp;omega
   match kz.zip its,this with
   | [],_=>exact .nil
   | [x],_=>exact List.pairwise_singleton _ _
  ·show((keys.toArray.zip its.toArray).map (·.2)).toList.length=its.length
   rw[e]
 ·simp only[if_neg few]
  rw[bU]at few;refine ai (hkind (by omega) _ ?_);have est:SortSt.mk' κ (keys.toArray.zip its.toArray) #[] 7 none=kas_st κ (keys.toArray.zip its.toArray) (List.toArray (List.range its.length)):=by
   have e:=kas_range (keys.toArray.zip its.toArray);rw[zs]at e;show SortSt.mk' κ (keys.toArray.zip its.toArray) #[] 7 none=SortSt.mk' κ ((List.toArray (List.range its.length)).map (kas_item (keys.toArray.zip its.toArray))) #[] 7 none;rw[e]
  have run:=kas_runs (prog:=prog) (w:=w) (A:=A) (E:=E) (κ:=κ) (it:=keys.toArray.zip its.toArray) (n:=its.length)
   (Q:=λ_ st' s'=>s'=s/\∃p:Array Nat,Pm its.length p/\Up (λi=>kz.getD i 0) p its.length/\arrOf st'=p.map (kas_item (keys.toArray.zip its.toArray))/\failedOf st'=none)
   (G:=λp s'=>s'=s/\Pm its.length p/\Up (λi=>kz.getD i 0) p its.length) (s:=s) (by omega) h64
   (λp' st' s' _ a2 a3 a4=>⟨a4.1,p',a4.2.1,a4.2.2,a2,a3⟩)
   (cV.wp (λi j C hi hj hC=>by
    unfold kas_cmp;rw[item_at hl hi,item_at hl hj];exact hcmp i j hi hj C hC) (Sw (by omega)))
  rw[<- est]at run;refine ai (d8 run ?_ λ_ _ z=>z);rintro⟨⟨⟩,st⟩ s' ⟨rfl,p,hp,hu,ha,hf⟩;have ps:=hp.size;have lt:∀i∈p.toList,i<its.length:=λi hi=>by
   have:=hp.mem_iff.mp (Array.mem_toList_iff.mp hi);simpa using this
  have eo:((arrOf st).map (·.2)).toList=p.toList.map λi=>its.getD i Value.none:=by
   rw[ha,Array.map_map,Array.toList_map];refine nu λi hi=>?_;show(kas_item (keys.toArray.zip its.toArray) i).2=_;rw[item_at hl (lt i hi)]
  refine h st hf ?_ ?_
  ·rw[eo]
   refine⟨p.toList.map λi=>(kz.getD i 0,its.getD i Value.none),?_,?_,?_⟩
   ·have e1:p.toList.Perm (List.range its.length):=by simpa using Array.perm_iff_toList_perm.mp hp
    refine(e1.map _).trans (.of_eq ?_);refine jN (by simp[hz]) λi h1 h2=>?_;have hi:i<its.length:=by simpa using h1
    have hi':i<kz.length:=by omega
    simp[hi,hi']
   ·rw[dY]
    rfl
   ·rw[nz,lS]
    intro i j hi hj hij;have hj':j<p.size:=by simpa using hj
    have:=hu i j (eB hij) (by omega);have g:∀k (hk:k<p.size),p.getD k 0=p.toList[k]:=λk hk=>by simp[Array.getD,hk]
    rw[g i (by omega),g j hj']at this;exact this
  ·rw[eo,au,fO,ps]
end
end
section
variable {X:Cx} {pins:List (Addr × Obj)} {σ:St} {H:Hp} {s:Shared} {qual x:Str} {params:Arguments} {body:Expr} {scope:Scope} {fr:List (Str × Nat)} {tb:TE} {p:Addr} {v:V} {u:Value} {xs:List V} {kz:List Int} {kw:List (List V)} {Q:VK} {E:Value->Shared->Prop}
structure kU (X:Cx) (H:Hp) (kw:List (List V)) (kz:List Int):Prop where
 head:∀ws∈kw,∃a:Int,ws[0]?=some (.int a)
 cmp:∀(i j:Nat) (H3:Hp) (A:Around) (s:Shared) (E:Value->Shared->Prop) (pins:List (Addr × Obj)) (σ:St) (r q:Addr) (ws vs:List V),Same H H3->Inv X pins σ H3 s->kw[i]?=some ws->kw[j]?=some vs->H3 r=some (.tup ws)->H3 q=some (.tup vs) ->
  ∀Q:Bool->Shared->Prop,Q (decide (kz.getD i 0<kz.getD j 0)) s->wpAny (model X.prog X.w) A (keyLt' (tuples' true) (.ref r) (.ref q)) Q E s
theorem ab4{A:Around}{a:Addr}{its:List Value}{R:PySem.Fin->Shared->Prop}(hA:A.frames=X.A.frames)(hd:A.handled=none)(hr:A.depth<recursionLimit)(qU:A.guards=X.A.guards/\A.units<=X.A.units+2/\A.depth=X.A.depth)(KL:tE X qual x params body scope fr tb)
  (I:Inv X pins σ H s) (fa:cW X pins H a) (ea:s.heap.get? a=some (seqObj "list" its.toArray 0)) (rv:Vals xs its) (L:h9 H p qual params body scope (cq X.env.cells scope.names [])) (hl:kz.length=xs.length) (hw:kw.length=xs.length) (h64:xs.length<64)
  (TK:kU X H kw kz)
  (turn:∀(i:Nat) y ws,xs[i]?=some y->kw[i]?=some ws->∀H3,Same H H3->tb (some y::lamσ fr σ) H3 λz H4=>(∃r,z = .ref r/\H4 r=some (.tup ws))/\Same H3 H4)
  (q:∀ys H3 s',Same H H3->H3 a=some (.lst ys)->nY kz xs ys->Inv X pins σ H3 s'->R (.done (.ret .none)) s') :
  wpAny (model X.prog X.w) A (ksk_tree a (.ref p) false) R E s:=by
 have big:(64:Nat)<=sizeLine:=by decide +kernel
 have l1:=rv.length;have al:a<s.heap.objs.size:=aR ea;unfold ksk_tree;refine ai (tS ea rfl (ai (listUpdate_at ea rfl ?_ (by show(its.toArray).size<=sizeLine;rw[bU];omega) (eD _))));obtain⟨e1,oB⟩:∃e1,(s.heap.update a (Obj.mapSeq λ_=>(#[]:Array Value))).get? a=some (seqObj "list" #[] e1):=⟨_,xO ea λ_=>#[]⟩;have I1:Inv X pins σ H {s with heap:=s.heap.update a (Obj.mapSeq λ_=>(#[]:Array Value)),toks:=s.toks}:=
  I.turned (λb o hb e=>by rw[lV _ _ _ _ hb];exact e) fa.1 fa.2.1 fa.2.2.2.1 fa.2.2.2.2.1 fa.2.2.2.2.2
 refine ai (seqEpoch_at oB rfl (ai (wpAny_newTuple (ai (yf (fB ?_) (eD _))) (by show its.length<=sizeLine;omega))));have I2:Inv X pins σ H {s with heap:=(s.heap.update a (Obj.mapSeq λ_=>(#[]:Array Value))).push {cls:=.type "tuple", data:=.seq its.toArray},toks:=s.toks}:=I1.kept λb o e=>aU _ e;have I3:=I2.rM (its:=[]) (ys:=[]) (t':=s.toks) .nil (eD _);have JQ:((s.heap.update a (Obj.mapSeq λ_=>(#[]:Array Value))).push {cls:=.type "tuple", data:=.seq its.toArray}).get? a=some (seqObj "list" #[] e1):=aU _ oB;have nH:H ((s.heap.update a (Obj.mapSeq λ_=>(#[]:Array Value))).push {cls:=.type "tuple", data:=.seq its.toArray}).objs.size=none:=I2.fresh;have nk:a≠((s.heap.update a (Obj.mapSeq λ_=>(#[]:Array Value))).push {cls:=.type "tuple", data:=.seq its.toArray}).objs.size:=bE (aR JQ);generalize hkS:((s.heap.update a (Obj.mapSeq λ_=>(#[]:Array Value))).push {cls:=.type "tuple", data:=.seq its.toArray}).objs.size=kS at I3 nH nk;have U3:cW X pins (upd H kS (.lst [])) a:=⟨by rw[aG nk];exact fa.1,fa.2⟩;have I4:Inv X ((a,seqObj "list" #[] e1)::pins) σ (upd H kS (.lst [])) _:=I3.vF λq hq=>by
  rcases bx.mp hq with rfl|hq
  ·exact⟨aU _ JQ,U3.1,fa.2.1,fa.2.2.1,λv z=>by cases z⟩
  ·exact I3.pin q (gB _ hq)
 have sm:Same H (upd H kS (.lst [])):=Same.put nH;refine sort_keys (Kp:=λi z G=>∀ws,kw[i]?=some ws->∃r,z = .ref r/\r≠kS/\G r=some (.tup ws)) hA hd hr qU KL (by omega) I4 av (L.same sm) rv (λi z G G' hz sx ws e=>?_) (λi y hy H3 s3 hk3=>?_) (λkv G s' keys n hkv hK J hG sX ek rk=>?_)
 ·obtain⟨r,h1,h2,h3⟩:=hz ws e
  exact⟨r,h1,h2,sx r _ h2 h3⟩
 ·have hi:i<kw.length:=by rw[hw];exact(bN.mp hy).1
  have:=turn i y _ hy (ay hi) H3 (dE.of nH λb o hb e=>s3 b o hb (sm b o e));have e:(λ(z:V) (H4:Hp)=>(∃r,z = .ref r/\H4 r=some (.tup kw[i]))/\Same H3 H4)=λz H4=>(∀ws,kw[i]?=some ws->∃r,z = .ref r/\r≠kS/\H4 r=some (.tup ws))/\Same H3 H4:=by
   obtain⟨kv,hk3⟩:=hk3
   funext z H4
   refine propext ⟨λ⟨⟨r,h1,h2⟩,h3⟩=>⟨λws ek=>?_,h3⟩,λ⟨h1,h2⟩=>⟨?_,h2⟩⟩
   ·rw[ay hi]at ek;cases ek
    exact⟨r,h1,gi h2 (h3 _ _ hk3) (by intro z;cases z),h2⟩
   ·obtain⟨r,z1,_,z3⟩:=h1 _ (ay hi)
    exact⟨r,z1,z3⟩
  rw[e]at this;exact this
 ·have QR:Same H G:=λb o e=>sX b o (dg e nH) (sm b o e)
  have hkl:keys.length=its.length:=by rw[<- rk.length];omega
  have key:∀i,i<its.length->∃(r:Addr) (ws:List V),kw[i]?=some ws/\keys.getD i Value.none = .ref r/\G r=some (.tup ws):=λi hi=>by
   have hi1:i<kw.length:=by omega
   have hi2:i<kv.length:=by omega
   obtain⟨r,h1,_,h3⟩:=hK i _ (ay hi2) _ (ay hi1);obtain⟨u,e1,e2⟩:=rk.get (ay hi2);rw[h1]at e2;exact⟨r,_,ay hi1,by rw[aN,e1];exact e2,h3⟩
  refine ab2 (κ:=tuples' true) (kz:=kz) hkl (by omega) (by omega) (λh2 Q hq=>X1 (λz=>by rw[z]at hkl;simp at hkl;omega) (λv hv=>?_) hq) (λi j hi hj Q hq=>?_) λst z1 z2 z3=>?_
  ·obtain⟨i,hi,rfl⟩:=ie hv
   obtain⟨r,ws,e1,e2,e3⟩:=key i (by omega);obtain⟨b,e4⟩:=TK.head ws (dr e1);obtain⟨_,its',rv',⟨o,ho,hc,m,hd'⟩,_⟩:=(show bC X.prog X.w G s'.heap r (.tup ws)from J.hok r _ e3);obtain⟨u,e5,t,rfl⟩:=rv'.get e4;rw[aN,ay hi]at e2;exact⟨r,o,m,its'.toArray,b,t,e2,ho,hc,hd',by simpa using e5⟩
  ·obtain⟨r,ws,e1,e2,e3⟩:=key i hi
   obtain⟨r',ws',e1',e2',e3'⟩:=key j hj;rw[e2,e2'];exact TK.cmp i j G A s' _ _ _ r r' ws ws' QR J e1 e1' e3 e3' Q hq
  ·obtain⟨ys,hv,hs⟩:=ab6 rv z2
   have fG:cW X pins G a:=⟨(J.pin (a,seqObj "list" #[] e1) (gB _ (b9 ..))).2.1,fa.2⟩;refine ab3 J hG ek (by omega) fG z1 rfl hv (by omega) λs2 J2=>q ys _ s2 (λb o e=>?_) av hs J2;have b1:b≠kS:=dg e nH;have b2:b≠a:=dg e fa.1;rw[aG b2,aG b1];exact QR b o e
theorem kU.same{H H':Hp}(h:kU X H kw kz)(s:Same H H'):kU X H' kw kz:=
 ⟨h.head,λi j H3 A sh E pins σ r q ws vs sm=>h.cmp i j H3 A sh E pins σ r q ws vs (s.trans sm)⟩
theorem Tj(hr:bR 0 X.A)(KL:tE X qual x params body scope fr tb)(I:Inv X pins σ H s)(r:RelV v u)(src:lZ X.K H v xs)(L:h9 H p qual params body scope (cq X.env.cells scope.names []))(hl:kz.length=xs.length)(hw:kw.length=xs.length)(h64:xs.length<64)(TK:kU X H kw kz)(turn:∀(i:Nat) y ws,xs[i]?=some y->kw[i]?=some ws->∀H3,Same H H3->tb (some y::lamσ fr σ) H3 λz H4=>(∃r,z = .ref r/\H4 r=some (.tup ws))/\Same H3 H4)(q:∀ys r H3,Same H H3->H r=none->H3 r=some (.lst ys)->nY kz xs ys->Q (.ref r) H3):
  wpAny (model X.prog X.w) X.A (call (.builtin "sorted") [u] [(Str.ofString "key", .ref p)]) (EP X pins σ Q) E s:=by
 have big:(64:Nat)<=sizeLine:=by decide +kernel
 refine call_function_entry_kw kind_sorted plain_sorted entry_sorted (ksk_s1 u (.ref p)) ?_;unfold Builtin.«sorted»;refine ai (m:=checkCount "sorted" 1 1 _) (aH (ai (Jw (A:=X.A.in1) hr.hd I r src (by omega) λits s1 rv I1=>ai (yf ?_ (by rw[<- rv.length];omega)))));have I2:Inv X pins σ H {s1 with heap:=s1.heap.push {cls:=.type "list", data:=.seq its.toArray},toks:=s1.toks}:=I1.kept λb o e=>aU _ e;have fa:cW X pins H s1.heap.objs.size:=I1.oF (aW _) I1.fresh;have ea:(s1.heap.push {cls:=.type "list", data:=.seq its.toArray}).get? s1.heap.objs.size=some (seqObj "list" its.toArray 0):=cn _ rfl;refine ai (fB (wpAny_call_entry_kw slot_list_sort ⟨_,ea,rfl⟩ entry_list_sort ?_ (ksk_l1 _ _)));show wpAny (model X.prog X.w) X.A.in1.in1 (Builtin.«list.sort» ⟨[.ref s1.heap.objs.size],[(Str.ofString "key", .ref p)]⟩) _ _ _;rw[ksk_t1];refine ab4 (s:={s1 with heap:=s1.heap.push {cls:=.type "list", data:=.seq its.toArray},toks:=s1.toks}) rfl hr.hd hr.depth ⟨rfl,aW _,rfl⟩ KL I2 fa ea rv L hl hw h64 TK turn λys H3 s3 sm g3 so I3=>⟨_,rfl,aH ⟨_,rfl,.ref s1.heap.objs.size,H3,I3,rfl,q ys _ H3 sm fa.1 g3 so⟩⟩
end
section
variable {X:Cx} {x:Str} {params:Arguments} {body e:Expr} {scope:Scope} {fr:List (Str × Nat)} {tb ti:TE} {c P:Addr} {p0 rO kpos pos:Pos}
def acF(X:Cx)(ti:TE)(P:Addr)(pos:Pos)(qual:Str)(fr:List (Str × Nat))(tb:TE):TE:=λσ H Q=>ti σ H λv H1=>H1 P=some (.lam pos qual)/\∃(xs:List V) (kz:List Int) (kw:List (List V)),lZ X.K H1 v xs/\kz.length=xs.length/\kw.length=xs.length/\xs.length<64/\kU X H1 kw kz /\
 (∀(i:Nat) y ws,xs[i]?=some y->kw[i]?=some ws->∀H3,Same H1 H3->tb (some y::lamσ fr σ) H3 λz H4=>(∃r,z = .ref r/\H4 r=some (.tup ws))/\Same H3 H4) /\
 ∀ys r H3,Same H1 H3->H1 r=none->H3 r=some (.lst ys)->nY kz xs ys->Q (.ref r) H3
theorem aaP (hg:Gl X "sorted") (hm:X.mg "sorted" = none) (T:TabAt X.base X.mg c P) (hcode:X.env.code = .ref c) (hr:bR 0 X.A) (KL:tE X (X.env.qual ++ "<lambda>") x params body scope fr tb) (hi:PE X e ti)
  (hdef:defaultsOf params X.env=([],[]):=by rfl) (he:starEach [e] X.env = [(false,eval e X.env)]:=by rfl) :
  PE X (.Call (.Name "sorted" p0) [e] [⟨some "key", .Lambda params body scope rO,kpos⟩] pos) (acF X ti P rO (X.env.qual ++ "<lambda>") fr tb):=by
 intro pins s σ H Q I h;refine lX (jw I hg hm boot_sorted ?_ (by decide) (by decide));refine callWith_kw (kws:=[⟨some "key", .Lambda params body scope rO,kpos⟩]) (aM (ae hi ah he pos pins s σ H (vt λv H1=>H1 P=some (.lam rO (X.env.qual ++ "<lambda>"))/\∃(xs:List V) (kz:List Int) (kw:List (List V)),lZ X.K H1 v xs/\kz.length=xs.length/\kw.length=xs.length/\xs.length<64/\kU X H1 kw kz /\
  (∀(i:Nat) y ws,xs[i]?=some y->kw[i]?=some ws->∀H3,Same H1 H3->tb (some y::lamσ fr σ) H3 λz H4=>(∃r,z = .ref r/\H4 r=some (.tup ws))/\Same H3 H4)/\∀ys r H3,Same H1 H3->H1 r=none->H3 r=some (.lst ys)->nY kz xs ys->Q (.ref r) H3) I h) λus s1 hq=>?_) (by rw[he];rfl) (by rw[he];rfl) (by rfl) (by rfl)
 ·obtain⟨vs,H1,I1,r1,hq⟩:=hq
  obtain⟨v,rfl,hP,xs,kz,kw,src,hl,hw,h64,TK,turn,q⟩:=hq.get;obtain⟨u,rfl,ru⟩:=r1.one;refine kws_cons (aM (aaL T hcode (λok y hy hk=>ok.has _ (KL.blk.free y hy hk)) hdef pins s1 σ H1 (λf H2=>∃p,f = .ref p/\Same H1 H2/\h9 H2 p (X.env.qual ++ "<lambda>") params body scope (cq X.env.cells scope.names [])) I1 ⟨hP,λp H2 s2 _ L=>⟨p,rfl,s2,L⟩⟩) λfv s2 ⟨f,H2,I2,rf,p,ef,sm,L⟩=>kws_nil ?_);subst ef;obtain rfl:fv = .ref p:=rf;exact Tj hr KL I2 ru (src.same sm) L hl hw h64 (TK.same sm) (λi y k h1 h2 H3 s3=>turn i y k h1 h2 H3 (sm.trans s3)) λys r H3 s3 n3 g3 so=>q ys r H3 (sm.trans s3) (sm.free n3) g3 so
end
theorem acP{X:Cx}{H:Hp}{ks:List (Int × Int)}(hb:∀k∈ks,0<=k.2/\k.2<1000):kU X H (ks.map λk=>[.int k.1,.int k.2]) (ks.map λk=>k.1*1000+k.2) where
 head:=λws h=>by
  obtain⟨k,_,rfl⟩:=cS.mp h;exact⟨k.1,rfl⟩
 cmp:=λi j H3 A s E pins σ r q ws vs _ I e1 e2 h1 h2 Q hq=>by
  rw[bX]at e1 e2;cases z1:ks[i]? with
  |none=>rw[z1]at e1;cases e1
  |some a =>
   cases z2:ks[j]? with
   |none=>rw[z2]at e2;cases e2
   |some b =>
    rw[z1]at e1;rw[z2]at e2;obtain rfl:[V.int a.1,V.int a.2]=ws:=by simpa using e1
    obtain rfl:[V.int b.1,V.int b.2]=vs:=by simpa using e2
    obtain⟨_,its,rv,⟨o,ho,_,n,hd⟩,_⟩:=(show bC X.prog X.w H3 s.heap r _ from I.hok r _ h1);obtain⟨_,its',rv',⟨o',ho',_,n',hd'⟩,_⟩:=(show bC X.prog X.w H3 s.heap q _ from I.hok q _ h2);cases rv with
    |cons r1 rv =>
     cases rv with
     |cons r2 rv =>
      cases rv;cases rv' with
      |cons r1' rv' =>
       cases rv' with
       |cons r2' rv' =>
        cases rv';obtain⟨t1,rfl⟩:=r1;obtain⟨t2,rfl⟩:=r2;obtain⟨u1,rfl⟩:=r1';obtain⟨u2,rfl⟩:=r2';refine XT (p:=a) (q:=b) ho hd ho' hd' ?_;have b1:=hb a (dr z1);have b2:=hb b (dr z2);have g:∀(k:Nat) (c:Int × Int),ks[k]?=some c->(ks.map λk=>k.1*1000+k.2).getD k 0=c.1*1000+c.2:=λk c e=>by
         rw[aN,bX,e];rfl
        rw[g i a z1,g j b z2]at hq;have:vB a b=decide (a.1*1000+a.2<b.1*1000+b.2):=by
         unfold vB
         by_cases c1:a.1<b.1
         ·rw[cy c1,cy (show a.1*1000+a.2<b.1*1000+b.2 by omega)];rfl
         ·by_cases c2:a.1=b.1
          ·by_cases c3:a.2<b.2
           ·rw[cy c2,cy c3,cy (show a.1*1000+a.2<b.1*1000+b.2 by omega),cx c1];rfl
           ·rw[cy c2,cx c3,cx (show ¬ a.1*1000+a.2<b.1*1000+b.2 by omega),cx c1];rfl
          ·rw[cx c2,cx (show ¬ a.1*1000+a.2<b.1*1000+b.2 by omega),cx c1];rfl
        rw[this];exact hq
end L2
namespace My
open PySem PySem.Spec PyProof.Rows L2
theorem Jt{n:Nat}{R:Nat->Nat->Bool}{zs:List Int}(h:di n R zs=true):zs≠[]:=λe=>by
 rw[e]at h;cases h
theorem Js{n:Nat}{R:Nat->Nat->Bool}{zs:List Int}(h:di n R zs=true):∃cs:List Nat,zs=(cs.map λx:Nat=>(x:Int))/\cz n R cs:=by
 have h0:=h;unfold di at h;simp only[bJ,fP,f6]at h;obtain⟨h1,h2,h3⟩:=h;obtain⟨cs,rfl,hlt⟩:=Nu h2;rw[au]at h1;refine⟨cs,rfl,⟨by omega,hlt,λi hi=>?_⟩⟩;unfold uf at h3;rw[fX]at h3;have:=h3 i (by rw[au];exact fw.mpr (by omega));rw[gY,gY,dW,dW]at this;unfold cZ at this;rw[bJ,fP,f6]at this;exact this
theorem acW{n:Nat}{R:Nat->Nat->Bool}{J N:Nat->Nat->Nat}{cs ds:List Nat}(M:Md n R J N)(hc:cz n R cs)(hd:cz n R ds)(e:gW (cs.map λx:Nat=>(x:Int)) (ds.map λx:Nat=>(x:Int))=true):Two n R J N cs ds:=by
 unfold gW at e;rw[bJ,cJ,cJ,au,au,gY,gY,gY,gY]at e;exact⟨M,hc,hd,by omega,by omega⟩
theorem va{α β:Type}(l:List α)(d:α)(g:α->β):(List.range l.length).map (λj=>g (l.getD j d))=l.map g:=by
 refine jN (by simp) λi h1 h2=>?_;have hi:i<l.length:=by simpa using h1
 rw[iF,nq,iF,aN,ay hi];rfl
theorem Md.other{n:Nat}{R:Nat->Nat->Bool}{J N J' N':Nat->Nat->Nat}(M:Md n R J N)(hj:∀a b,a<n->b<n->bH n R a b (J' a b))(hm:∀a b,a<n->b<n->bO n R a b (N' a b)):Md n R J' N':=by
 have ej:∀a b,a<n->b<n->J' a b=J a b:=λa b ha hb=>(hj a b ha hb).uniq M.G (M.j a b ha hb);have em:∀a b,a<n->b<n->N' a b=N a b:=λa b ha hb=>(hm a b ha hb).uniq M.G (M.m a b ha hb);refine⟨M.G,hj,hm,λa b c ha hb hc h=>?_⟩;rw[em b c hb hc,ej a b ha hb,ej a _ ha (M.mlt hb hc),em _ c (M.fF ha hb) hc];exact M.md a b c ha hb hc h
theorem ab7{H:Hp}{F:Nat × Nat->V->Prop}{fs:List (Nat × Nat)}{us ys:List V}(hp:Paired F fs us)(h:nY (fs.map gK) us ys):∃tn:List (Nat × Nat),tn.Perm fs/\tn.Pairwise (λx y=>gK x<=gK y)/\Paired F tn ys:=by
 obtain⟨ps,h1,rfl,h3⟩:=h;have e:(fs.map gK).zip us=(fs.zip us).map λq=>(gK q.1,q.2):=by
  have:=List.zip_map_left (f:=gK) (l₁:=fs) (l₂:=us);rw[this];rfl
 rw[e]at h1;obtain⟨l,rfl,hl⟩:=aaS h1;refine⟨l.map Prod.fst,?_,?_,?_⟩
 ·have:=hl.map Prod.fst
  rwa [List.map_fst_zip (Hv (dh hp))]at this
 ·rw[nz]at h3 ⊢
  exact h3
 ·rw[dY]
  have all:∀q∈l,F q.1 q.2:=λq hq=>by
   have hq:=hl.mem_iff.mp hq;obtain⟨i,hi,e⟩:=ie hq;have hi1:i<fs.length:=by have:=hi;rw[List.length_zip]at this;omega
   have hi2:i<us.length:=by have:=hi;rw[List.length_zip]at this;omega
   rw[List.getElem_zip]at e;obtain⟨x,hx,hF⟩:=eJ hp (ay hi2);rw[ay hi1]at hx;cases hx;rw[<- e];exact hF
  clear hl h1 h3 e hp
  induction l with
  |nil=>exact .nil
  |cons q l ih=>exact .cons (all q b9) (ih λz hz=>all z (ck _ hz))
noncomputable def pC(H:Hp)(q:List V):V->Bool
 |.ref t=>match H t with
  |some (.tup ws)=>decide (ws=q)
  |_=>false
 |_=>false
theorem Xn{K:W.Frag}{H:Hp}{t u:Addr}{a b c d a' b' c' d':Nat}(h1:H t=some (.tup [nV a,nV b,nV c,nV d]))(h2:H u=some (.tup [nV a',nV b',nV c',nV d'])):bK K H 1 (.ref t) (.ref u) (pC H [nV a',nV b',nV c',nV d'] (.ref t)):=by
 have:=bK.tup (K:=K) (H:=H) 0 t u _ _ (λj=>match j with|0=>(a:Int)==(a':Int)|1=>(b:Int)==(b':Int)|2=>(c:Int)==(c':Int)|_=>(d:Int)==(d':Int)) (az.of h1) (az.of h2) rfl λj x y hx hy=>by
  match j with
  |0=>cases hx;cases hy;exact bK.int 0 _ _
  |1=>cases hx;cases hy;exact bK.int 0 _ _
  |2=>cases hx;cases hy;exact bK.int 0 _ _
  |3=>cases hx;cases hy;exact bK.int 0 _ _
  |j+4=>simp at hx
 have e:pC H [nV a',nV b',nV c',nV d'] (.ref t)=(List.range [nV a,nV b,nV c,nV d].length).all (λj=>match j with|0=>(a:Int)==(a':Int)|1=>(b:Int)==(b':Int)|2=>(c:Int)==(c':Int)|_=>(d:Int)==(d':Int)):=by
  unfold pC;simp only[h1];rw[dm,cJ];show _ ↔ (List.range 4).all _=true;simp[jg,nV]
 rw[e];exact this
theorem Yp{J N:Nat->Nat->Nat}{cs ds:List Nat}{H:Hp}{K:W.Frag}{tn:List (Nat × Nat)}{ys:List V}{r:Nat × Nat}{y:V}(hp:Paired (fH J N cs ds H) tn ys)(hr:r∈tn)(hy:fH J N cs ds H r y):∃e:V->Bool,(∀z∈ys,∃a,z = .ref a)/\(∀z∈ys,bK K H 1 z y (e z))/\(∃z,ys[tn.idxOf r]?=some z/\e z=true)/\∀(m:Nat) z,m<tn.idxOf r->ys[m]?=some z->e z=false:=by
 obtain⟨u,rfl,hu⟩:=hy;have hi:=nr.mpr hr;refine⟨pC H [nV r.1,nV r.2,nV (cw J N cs ds r),nV (bS N cs ds r)],λz hz=>?_,λz hz=>?_,?_,λm z hm hz=>?_⟩
 ·obtain⟨i,hi,e⟩:=ie hz
  obtain⟨q,_,t,e2,_⟩:=eJ hp (show ys[i]?=some z by rw[ay hi,e]);exact⟨t,e2⟩
 ·obtain⟨i,hi,e⟩:=ie hz
  obtain⟨q,_,t,rfl,ht⟩:=eJ hp (show ys[i]?=some z by rw[ay hi,e]);exact Xn ht hu
 ·obtain⟨z,hz,t,rfl,ht⟩:=ku hp (show tn[tn.idxOf r]?=some r by rw[ay hi,nj hi])
  refine⟨_,hz,?_⟩;unfold pC;simp only[ht,decide_true]
 ·obtain⟨q,hq,t,rfl,ht⟩:=eJ hp hz
  have hm':m<tn.length:=by omega
  have ne:q≠r:=λe=>by
   rw[ay hm']at hq;have h2:tn[m]=r:=by rw[<- e];exact df hq
   have h3:=R3 (p:=λz=>z==r) (xs:=tn) (i:=m) hm;rw[h2]at h3;simp at h3
  unfold pC;simp only[ht,f6];intro e;simp only[tG,nV,V.int.injEq,Int.natCast_inj]at e;exact ne (Prod.ext e.1 e.2.1)
def outV(J N:Nat->Nat->Nat)(cs ds:List Nat)(H:Hp)(r:Nat × Nat)(v:V):Prop:=∃t,v = .ref t/\H t=some (.tup [nV ((bp J N cs ds).idxOf r),nV (cw J N cs ds r),nV (bS N cs ds r)])
theorem outV.same{J N:Nat->Nat->Nat}{cs ds:List Nat}{H H':Hp}(s:Same H H'){l:List (Nat × Nat)}{us:List V}(h:Paired (outV J N cs ds H) l us):Paired (outV J N cs ds H') l us:=Paired.d_ h λ_ _ hpq=>by obtain⟨t,e,q⟩:=hpq;exact⟨t,e,s _ _ q⟩
section
variable {P:Program} {w:World} {K:W.Frag} {mg:Str->Option Value} {base:Heap} {f:Addr} {fd:FuncData} {a0 a1 a2 a3 a4 a5 a6 a7 a8 a9 a10 a11 a12 a13 a14 aE:Addr}
abbrev Ex:Stmt:=top 51
theorem Qw:bh ["order","one","other"] ["order","one","other"] (aB Ex):=⟨rfl,rfl,rfl,by decide +kernel,rfl,by decide +kernel,by decide +kernel⟩
def Gm(K:W.Frag)(C cC cE:Addr):Sp:=λvs H Q E=>∃(p t u n:Nat) (R:Nat->Nat->Bool) (zs ws:List Int),vs = [.ref p,.ref t,.ref u]/\fQ C H p n R/\n<=24/\ag K H t (zs.map V.int)/\ag K H u (ws.map V.int)/\zs.length<=1000/\ws.length<=1000 /\
 (di n R zs=true->di n R ws=true->gW zs ws=true->∀H',Same H H'->Q .non H')/\(¬ (di n R zs=true/\di n R ws=true)->∀H',Same H H'->E (.ref cC) none H')/\(di n R zs=true->di n R ws=true->gW zs ws=false->∀H',Same H H'->E (.ref cE) none H')
theorem aam {C:Addr} (F:aS K "need_two_chains" "need_two_chains" Ex f fd) (T:Txt mg) (TC:gP K C) (Er:m9 mg a0 a1 a2 a3 a4 a5 a6 a7 a8 a9 a10 a11 a12 a13 a14 aE) (sP:W.excIn K a0 iC "ValueError.__new__" = true) (uj:aC P w K mg base "is_chain" ["order","things"] 3 (Fz K C)) (zi:h7 P w K mg base "need_like_ends" ["one","other"] 1 (FH K a3)) :
  aO P w K mg base (bW P w) 6 f fd ["order","one","other"] (Gm K C a0 a3):=by
 refine F.Df Qw (λvs H Q E h=>?_) (λcdv A outer s H vs Q E hr h=>?_)
 ·obtain⟨p,t,u,n,R,zs,ws,rfl,_⟩:=h
  rfl
 ·obtain⟨p,t,u,n,R,zs,ws,rfl,hO,hn,hT,hU,oP,hwl,k1,k2,k3⟩:=h
  have nd:=Qw.nd;refine⟨_,(ax (bB (PW.pt (dJ (dA (cg (aL uj hr rfl (ae (pv 0) (ae (pv 1) ah))))) (fj (dA (cg (aL uj hr rfl (ae (pv 0) (ae (pv 2) ah)))))))) (aA (Ou Dw Er.NoChain sP xT rfl rfl rfl (ae rZ ah))) bD)
   (aA (dI (vD zi Dl hr rfl (ae (pv 1) (ae (pv 2) ah)))))),?_⟩
  refine⟨_,rfl,_,rfl,p,t,n,R,zs,rfl,hO,hn,hT,oP,λH1 s1=>⟨_,rfl,?_⟩⟩;cases c1:di n R zs with
  |false=>exact eR ⟨by show 1<=sizeLine;decide,k2 (λz=>by rw[z.1]at c1;cases c1) _ s1⟩
  |true =>
   refine bA ⟨_,rfl,_,rfl,p,u,n,R,ws,rfl,hO.iY s1,hn,s1.seq hU,hwl,λH2 s2=>⟨_,rfl,?_⟩⟩;cases c2:di n R ws with
   |false=>exact eR ⟨by show 1<=sizeLine;decide,k2 (λz=>by rw[z.2]at c2;cases c2) _ (s1.trans s2)⟩
   |true =>
    refine bA ?_;have s12:=s1.trans s2;exact⟨_,rfl,_,rfl,t,u,zs,ws,rfl,s12.seq hT,s12.seq hU,Jt c1,Jt c2,λe H3 s3=>k1 c1 c2 e _ (s12.trans s3),λe H3 s3=>k3 c1 c2 e _ (s12.trans s3)⟩
abbrev kB:Stmt:=top 52
theorem Qm:bh ["order","one","other","found","turned","longer_one","longer_other"] ["order","one","other"] (aB kB):=⟨rfl,rfl,rfl,by decide +kernel,rfl,by decide +kernel,by decide +kernel⟩
abbrev mC:Pos:=⟨205,31,205,59⟩
abbrev mD:Str:=("longer" : Str) ++ ".<locals>." ++ "<lambda>"
def FJ(K:W.Frag)(C cC cE cN Pt:Addr):Sp:=λvs H Q E=>∃(p t u n:Nat) (R:Nat->Nat->Bool) (J N:Nat->Nat->Nat) (zs ws:List Int),vs = [.ref p,.ref t,.ref u]/\fQ C H p n R/\Good n R/\n<=24/\(∀a b,a<n->b<n->bH n R a b (J a b))/\(∀a b,a<n->b<n->bO n R a b (N a b))/\H Pt=some (.lam mC mD)/\ag K H t (zs.map V.int)/\ag K H u (ws.map V.int)/\zs.length<=1000/\ws.length<=1000 /\
 (¬ (di n R zs=true/\di n R ws=true)->∀H',Same H H'->E (.ref cC) none H')/\(di n R zs=true->di n R ws=true->gW zs ws=false->∀H',Same H H'->E (.ref cE) none H') /\
 (di n R zs=true->di n R ws=true->gW zs ws=true->∀dx u fs a b c H',Same H H'->First n (Un n R) a b c->H' dx=some (.xd [("five", .ref u)])->H' u=some (.tup (fs.map V.int))->Five n R fs->E (.ref cN) (some dx) H') /\
 (∀(cs ds:List Nat) (_:Two n R J N cs ds) (tt L1 L2 L3:Addr) us H',zs=(cs.map λx:Nat=>(x:Int))->ws=(ds.map λx:Nat=>(x:Int))->Same H H'->(∀a b c,a<n->b<n->c<n->¬ Un n R a b c)->H' tt=some (.tup [.ref L1,.ref L2,.ref L3])->(H L1=none/\H L2=none/\H L3=none/\L1≠L2/\L1≠L3/\L2≠L3) ->
  H' L1=some (.lst ((bZ J N cs ds).map nV))->H' L2=some (.lst ((bZ J N ds cs).map nV))->H' L3=some (.lst us)->Paired (outV J N cs ds H') (aZ J N cs ds) us->(bp J N cs ds).Perm (aZ J N cs ds)->Q (.ref tt) H')
theorem aaj {C c Pt:Addr} (F:aS K "longer" "longer" kB f fd) (hc:fd.code = .ref c) (tb:TabAt base mg c Pt) (T:Txt mg) (TC:gP K C) (zj:h7 P w K mg base "need_two_chains" ["order","one","other"] 6 (Gm K C a0 a3)) (zh:h7 P w K mg base "need_even" ["order"] 3 (FT C a14)) (yS:aC P w K mg base "matches" ["order","one","other"] 2 (FK K C)) :
  aO P w K mg base (bW P w) 7 f fd ["order","one","other"] (FJ K C a0 a3 a14 Pt):=by
 refine F.Ze hc Qm (λvs H Q E h=>?_) (λA outer s H vs Q E hr h=>?_)
 ·obtain⟨p,t,u,n,R,J,N,zs,ws,rfl,_⟩:=h
  rfl
 ·obtain⟨p,t,u,n,R,J,N,zs,ws,rfl,hO,G,hn,hj,hmm,hP,hT,hU,oP,hwl,k1,k2,k3,k4⟩:=h
  have nd:=Qm.nd;have hu0:=hr.units;have hu1:(A.deeper (envOfC "longer" (aB kB) s.heap.objs.size f (.ref c))).units+1+1<cLine:=by omega
  refine⟨_,(ax (dI (vD zj Dl hr rfl (ae (pv 0) (ae (pv 1) (ae (pv 2) ah (ao nofun)) (ao nofun)) (ao nofun))))
   (ax (dI (vD zh Dl hr rfl (ae (pv 0) ah)))
   (ax (aP (i:=3) nd rfl (Or.inl rfl) (aL yS hr rfl (ae (pv 0) (ae (pv 1) (ae (pv 2) ah (ao nofun)) (ao nofun)) (ao nofun))))
   (ax (aP (i:=4) nd rfl (Or.inr rfl) (aaP (x:= "row") (fr:=[]) rfl T.sorted tb rfl (hr.mono (eD _)) ⟨cp (aB kB) ["order","one","other","found","turned","longer_one","longer_other"] rfl rfl (by decide +kernel),⟨rfl,rfl,rfl,by decide +kernel,by decide +kernel,by decide +kernel,by decide +kernel⟩,λ_ _ _ _ us hl=>match us,hl with | [_],_=>rfl,λ_ _ _ _ _ _ _ _=>gJ (ae (aq (aK (K:=K) rfl) (pv 0) ak (λ_ _=>rfl)) (ae (aq (aK (K:=K) rfl) (pv 0) ak (λ_ _=>rfl)) ah))⟩ (pv 3)))
   (ax (aP (i:=5) nd rfl (Or.inl rfl) (aJ fJ (bV (ae (aq (aV (K:=K) rfl) (pv 1) ak (λ_ _=>rfl)) ah)) (c6 (own:=["row"]) (fr:=[("order", 0),("one", 1)]) rfl (cp (aB kB) ["order","one","other","found","turned","longer_one","longer_other"] rfl rfl (by decide +kernel)) (dk (K:=K) rfl (pv 3)) (λ_ _ _ _=>⟨(bf (i:=0) (by decide +kernel:(["row","order","one"]:List Str).Nodup) rfl (Or.inl rfl)),c9,(aq (aK (K:=K) rfl) (aq (aK (K:=K) rfl) (fe (K:=K) rfl (pv 1) rfl) (aq (aV (K:=K) rfl) (pv 2) (aq (aK (K:=K) rfl) (pv 0) ak (λ_ _=>rfl)) (λ_ _=>rfl)) (λ_ _=>rfl)) (aq (aK (K:=K) rfl) (pv 0) ak (λ_ _=>rfl)) (λ_ _=>rfl))⟩))))
   (ax (aP (i:=6) nd rfl (Or.inl rfl) (aJ fJ (bV (ae (aq (aV (K:=K) rfl) (pv 2) ak (λ_ _=>rfl)) ah)) (c6 (own:=["row"]) (fr:=[("order", 0),("other", 2)]) rfl (cp (aB kB) ["order","one","other","found","turned","longer_one","longer_other"] rfl rfl (by decide +kernel)) (dk (K:=K) rfl (pv 4)) (λ_ _ _ _=>⟨(bf (i:=0) (by decide +kernel:(["row","order","other"]:List Str).Nodup) rfl (Or.inl rfl)),c9,(aq (aK (K:=K) rfl) (aq (aK (K:=K) rfl) (fe (K:=K) rfl (pv 1) rfl) (aq (aV (K:=K) rfl) (pv 2) (aq (aK (K:=K) rfl) (pv 0) ak (λ_ _=>rfl)) (λ_ _=>rfl)) (λ_ _=>rfl)) (aq (aK (K:=K) rfl) (pv 0) ak (λ_ _=>rfl)) (λ_ _=>rfl))⟩))))
   (aA (aQ (gJ (ae (pv 5) (ae (pv 6) (ae (c6 (own:=["row"]) (fr:=[("turned", 4)]) rfl (cp (aB kB) ["order","one","other","found","turned","longer_one","longer_other"] rfl rfl (by decide +kernel)) (dk (K:=K) rfl (pv 3)) (λ_ _ _ _=>⟨(bf (i:=0) (by decide +kernel:(["row","turned"]:List Str).Nodup) rfl (Or.inl rfl)),c9,(gJ (ae (eV (K:=K) rfl eM kO qh (YJ (K:=K) 1 rfl hu1) (pv 1) (ae (pv 0) ah)) (ae (aq (aK (K:=K) rfl) (pv 0) ak (λ_ _=>rfl)) (ae (aq (aK (K:=K) rfl) (pv 0) ak (λ_ _=>rfl)) ah (ao nofun)) (ao nofun)) (ao nofun)))⟩)) ah (ao nofun)) (ao nofun)) (ao nofun))))))))))),?_⟩
  refine⟨_,rfl,_,rfl,_,rfl,p,t,u,n,R,zs,ws,rfl,hO,hn,hT,hU,oP,hwl,λc1 c2 e H1 s1=>?_,λz H1 s1=>k1 z _ s1,λc1 c2 e H1 s1=>k2 c1 c2 e _ s1⟩;refine⟨_,rfl,p,n,R,rfl,hO.iY s1,G,hn,λJ0 N0 M0 H2 s2 no=>?_,λdx u' fs a b c' H2 s2 f1 f2 f3 f4=>k3 c1 c2 e dx u' fs a b c' H2 (s1.trans s2) f1 f2 f3 f4⟩;have M:=M0.other hj hmm;obtain⟨cs,rfl,hcs⟩:=Js c1;obtain⟨ds,rfl,hds⟩:=Js c2;have TW:=acW M hcs hds e;have kk:=λtt L1 L2 L3 us H'=>k4 cs ds TW tt L1 L2 L3 us H' rfl rfl;clear k1 k2 k3 k4;rw[rG]at hT hU;have da:=s1.trans s2;have hcl:=hcs.len G;have hdl:=hds.len G;refine⟨_,rfl,_,rfl,_,rfl,p,t,u,n,R,J,N,cs,ds,rfl,hO.iY da,M,da.seq hT,da.seq hU,hcs.lt,hds.lt,by omega,by omega,λL us H3 s3 hL gL hm=>?_⟩;have lE:=da.trans s3;have hfl:(aZ J N cs ds).length=us.length:=dh hm;have Wg:=TW.Km;have hget:∀(H':Hp),Same H3 H'->∀i,i<us.length->∃ti,us[i]?=some (.ref ti)/\(aZ J N cs ds)[i]?=some ((aZ J N cs ds).getD i (0,0))/\H' ti=some (.tup [nV ((aZ J N cs ds).getD i (0,0)).1,nV ((aZ J N cs ds).getD i (0,0)).2,nV (cw J N cs ds ((aZ J N cs ds).getD i (0,0))),nV (bS N cs ds ((aZ J N cs ds).getD i (0,0)))]):=λH' s' i hi=>by
   obtain⟨r,hr,ti,e1,e2⟩:=eJ (fH.same s' hm) (ay hi);have er:(aZ J N cs ds).getD i (0,0)=r:=by rw[aN,hr];rfl
   rw[er];exact⟨ti,by rw[ay hi,e1],hr,e2⟩
  refine⟨_,rfl,lE _ _ hP,us,(aZ J N cs ds).map gK,(aZ J N cs ds).map λr=>[nV r.2,nV r.1],.inr ⟨L,rfl,ag.of gL⟩,by rw[au];exact hfl,by rw[au];exact hfl,by omega,?_,λi y wv hy hw H4 s4=>?_,λys D H4 s4 hD gD so=>?_⟩
  ·have:=acP (X:=cG (bW P w) P w K mg base ["order","one","other","found","turned","longer_one","longer_other"] "longer" (aB kB) f (.ref c) A outer s H E) (H:=H3) (ks:=(aZ J N cs ds).map λr=>((r.2:Int),(r.1:Int))) (λk hk=>by
    obtain⟨r,hr,rfl⟩:=cS.mp hk;have:=(iS.mp hr).1
    constructor
    ·show(0:Int)<=(r.1:Int)
     omega
    ·show(r.1:Int)<1000
     omega)
   rw[dY,dY]at this;exact this
  ·have hi:i<us.length:=(bN.mp hy).1
   obtain⟨ti,e1,e2,e3⟩:=hget H4 s4 i hi;rw[hy]at e1;cases e1;rw[bX,e2]at hw;cases hw;exact⟨_,rfl,ti,_,1,_,rfl,rfl,az.of e3,aI (j:=1) rfl,_,rfl,ti,_,0,_,rfl,rfl,az.of e3,aI (j:=0) rfl,by show 2<=sizeLine;decide,λq hq=>⟨⟨q,rfl,av⟩,Same.put hq⟩⟩
  ·obtain⟨tn,hpm,hsr,BZ⟩:=ab7 (H:=H4) (F:=fH J N cs ds H4) (fH.same s4 hm) so
   obtain rfl:=aca (by omega) hpm hsr;have t4:=lE.trans s4;obtain⟨dx,vp,vr,vj,vm,o1,_,_,oj,om⟩:=id hO;have ej:∀a b,a<n->b<n->f7 n R a b = .int (J a b:Nat):=λa b ha hb=>iM M.G.dis (M.j a b ha hb).1 (M.j a b ha hb).2;have hyl:(bp J N cs ds).length=ys.length:=dh BZ;have hfy:=hpm.length_eq;have JR:∀(H':Hp),Same H3 H'->∀i,i<us.length->∃ti,us.getD i .non = .ref ti/\(aZ J N cs ds).getD i (0,0)∈aZ J N cs ds/\H' ti=some (.tup [nV ((aZ J N cs ds).getD i (0,0)).1,nV ((aZ J N cs ds).getD i (0,0)).2,nV (cw J N cs ds ((aZ J N cs ds).getD i (0,0))),nV (bS N cs ds ((aZ J N cs ds).getD i (0,0)))]):=λH' s' i hi=>by
    obtain⟨ti,e1,e2,e3⟩:=hget H' s' i hi;exact⟨ti,by rw[aN,e1];rfl,dr e2,e3⟩
   have Ul:∀(H':Hp),Same H4 H'->∀i,i<ys.length->∃ti,ys.getD i .non = .ref ti/\(bp J N cs ds).getD i (0,0)∈aZ J N cs ds/\H' ti=some (.tup [nV ((bp J N cs ds).getD i (0,0)).1,nV ((bp J N cs ds).getD i (0,0)).2,nV (cw J N cs ds ((bp J N cs ds).getD i (0,0))),nV (bS N cs ds ((bp J N cs ds).getD i (0,0)))]):=λH' s' i hi=>by
    obtain⟨r,hr,ti,e1,e2⟩:=eJ (fH.same s' BZ) (ay hi);have er:(bp J N cs ds).getD i (0,0)=r:=by rw[aN,hr];rfl
    rw[er];exact⟨ti,by rw[aN,ay hi,e1];rfl,vg.mp (dr hr),e2⟩
   have Br:=s4 _ _ gL;refine⟨_,rfl,t,_,0,nV (cs.getD 0 0),rfl,rfl,t4.seq hT,aI (j:=0) (eT hcs.pos),by show 1<=sizeLine;decide,λp1 hp1=>?_⟩;have gM:=Same.put (o:=.lst [nV (cs.getD 0 0)]) hp1;refine⟨_,rfl,L,rfl,⟨_,ag.of (gM _ _ Br)⟩,λD1 hD1=>eQ (λj=>nV (dR J N cs ds ((aZ J N cs ds).getD j (0,0)))) (src_list (ag.of (gM _ _ Br))) hD1 (c7 (by omega)) (λj H5 Kt hj hs hk=>?_) (λH5 hs fE=>?_)⟩
   ·have bG:=gM.trans hs
    obtain⟨ti,eg,hm',e3⟩:=JR H5 (s4.trans bG) j hj;generalize (aZ J N cs ds).getD j (0,0)=r at hm' e3 hk ⊢;have h1:=(iS.mp hm').1;have hx:=hcs.at (i:=r.1) (by omega);have hh:=(TW.row hm').lh;obtain⟨ra,wv,rb,rfl,q1,q2,q3⟩:=(oj.same (t4.trans bG)).get hx;refine⟨_,rfl,p,C,dx,_,_,rfl,(t4.trans bG) _ _ o1,TC.cl,TC.nJ,oC _ _ _ _ _,_,rfl,_,rfl,ti,_,0,nV r.1,eg,rfl,az.of e3,aI (j:=0) rfl,t,_,_,nV (cs.getD r.1 0),rfl,rfl,(t4.trans bG).seq hT,aI (eT (by omega)),ra,wv,_,.ref rb,rfl,rfl,az.of q1,aI q2,_,rfl,ti,_,3,nV (bS N cs ds r),eg,rfl,az.of e3,aI (j:=3) rfl,rb,_,_,.int (J (cs.getD r.1 0) (bS N cs ds r):Nat),rfl,rfl,az.of q3,aI (by rw[eG hh,ej _ _ hx hh]),?_⟩;exact hk _ (Same.refl _)
   ·have bG:=gM.trans hs
    rw[<- hfl,va (aZ J N cs ds) (0,0) (λr=>nV (dR J N cs ds r))]at fE;refine⟨p1,D1,_,_,rfl,rfl,hs _ _ av,fE,by rw[au];show 1+_<=_;exact eB (c7 (by omega)),λl1 hl1=>?_⟩;have QL:=Same.put (o:=.lst ([nV (cs.getD 0 0)]++(aZ J N cs ds).map λr=>nV (dR J N cs ds r))) hl1;have g1:(upd H5 l1 (.lst ([nV (cs.getD 0 0)]++(aZ J N cs ds).map λr=>nV (dR J N cs ds r)))) l1=some (.lst ((bZ J N cs ds).map nV)):=by
     rw[av];unfold bZ;rw[cX,dY];rfl
    have jI:=bG.trans QL;have n1:H4 l1=none:=bG.free hl1;generalize upd H5 l1 (.lst ([nV (cs.getD 0 0)]++(aZ J N cs ds).map λr=>nV (dR J N cs ds r)))=H6 at g1 jI ⊢;clear fE hs QL bG hp1 gM hD1 hl1;dsimp only[cK];show kC _ _ _ [some (.ref p),some (.ref t),some (.ref u),some (.ref L),some (.ref D),some (.ref l1),none] H6;have t6:=t4.trans jI;have Bp:=jI _ _ gD;refine⟨_,rfl,u,_,0,nV (ds.getD 0 0),rfl,rfl,t6.seq hU,aI (j:=0) (eT hds.pos),by show 1<=sizeLine;decide,λp1 hp1=>?_⟩;have gM:=Same.put (o:=.lst [nV (ds.getD 0 0)]) hp1;refine⟨_,rfl,D,rfl,⟨_,ag.of (gM _ _ Bp)⟩,λD1 hD1=>eQ (λj=>nV (dR J N ds cs ((bp J N cs ds).getD j (0,0)).swap)) (src_list (ag.of (gM _ _ Bp))) hD1 (c7 (by omega)) (λj H7 Kt hj hs hk=>?_) (λH7 hs rj=>?_)⟩
    ·have iA:=gM.trans hs
     obtain⟨ti,eg,hm',e3⟩:=Ul H7 (jI.trans iA) j hj;generalize (bp J N cs ds).getD j (0,0)=r at hm' e3 hk ⊢;have h1:=(iS.mp hm').2.1;have hx:=hds.at (i:=r.2) (by omega);have hh:=(TW.row hm').lh;obtain⟨ra,wv,rb,rfl,q1,q2,q3⟩:=(oj.same (t6.trans iA)).get hx;refine⟨_,rfl,p,C,dx,_,_,rfl,(t6.trans iA) _ _ o1,TC.cl,TC.nJ,oC _ _ _ _ _,_,rfl,_,rfl,ti,_,1,nV r.2,eg,rfl,az.of e3,aI (j:=1) rfl,u,_,_,nV (ds.getD r.2 0),rfl,rfl,(t6.trans iA).seq hU,aI (eT (by omega)),ra,wv,_,.ref rb,rfl,rfl,az.of q1,aI q2,_,rfl,ti,_,3,nV (bS N cs ds r),eg,rfl,az.of e3,aI (j:=3) rfl,rb,_,_,.int (J (ds.getD r.2 0) (bS N cs ds r):Nat),rfl,rfl,az.of q3,aI (by rw[eG hh,ej _ _ hx hh]),?_⟩;rw[TW.aat hm']at hk;exact hk _ (Same.refl _)
    ·have iA:=gM.trans hs
     rw[<- hyl,va (bp J N cs ds) (0,0) (λr=>nV (dR J N ds cs r.swap))]at rj;refine⟨p1,D1,_,_,rfl,rfl,hs _ _ av,rj,by rw[au];show 1+_<=_;exact eB (c7 (by omega)),λl2 hl2=>?_⟩;have sl2:=Same.put (o:=.lst ([nV (ds.getD 0 0)]++(bp J N cs ds).map λr=>nV (dR J N ds cs r.swap))) hl2;have g2:(upd H7 l2 (.lst ([nV (ds.getD 0 0)]++(bp J N cs ds).map λr=>nV (dR J N ds cs r.swap)))) l2=some (.lst ((bZ J N ds cs).map nV)):=by
      rw[av];unfold bZ;rw[cX,dY,GD TW,dY];rfl
     have lI:=iA.trans sl2;have n2:H6 l2=none:=iA.free hl2;generalize upd H7 l2 (.lst ([nV (ds.getD 0 0)]++(bp J N cs ds).map λr=>nV (dR J N ds cs r.swap)))=H8 at g2 lI ⊢;clear rj hs sl2 iA hp1 gM hD1 hl2;dsimp only[cK];have t8:=t6.trans lI;have Kz:=lI _ _ (jI _ _ Br);have Ku:=lI _ _ Bp;have YM:l1≠l2:=λz=>by rw[<- z,g1]at n2;cases n2
     refine⟨_,rfl,_,rfl,_,rfl,L,rfl,⟨_,ag.of Kz⟩,λD3 lr=>qC (λj v H=>∃tq,v = .ref tq/\tq≠D3/\H tq=some (.tup [nV ((bp J N cs ds).idxOf ((aZ J N cs ds).getD j (0,0))),nV (cw J N cs ds ((aZ J N cs ds).getD j (0,0))),nV (bS N cs ds ((aZ J N cs ds).getD j (0,0)))])) (src_list (ag.of Kz)) lr (c7 (by omega)) (λj v Ha Hb sx hpq=>by obtain⟨b,e1,e2,e3⟩:=hpq;exact⟨b,e1,e2,sx _ _ e2 e3⟩) (λj H9 Kt hj hs ⟨yy,W9⟩ hk=>?_) (λH9 us9 hs hl9 hp9=>?_)⟩
     ·obtain⟨ti,eg,hm',e3⟩:=JR H9 (s4.trans (jI.trans (lI.trans hs))) j hj
      generalize (aZ J N cs ds).getD j (0,0)=r at hm' e3 hk ⊢;obtain⟨e,x1,x2,x3,x4⟩:=Yp (K:=K) (y:=us.getD j .non) (fH.same (jI.trans (lI.trans hs)) BZ) (vg.mpr hm') ⟨ti,eg,e3⟩;refine⟨_,rfl,.inl ⟨rfl,_,ag.of (hs _ _ Ku)⟩,_,rfl,D,ys,_,e,(bp J N cs ds).idxOf r,rfl,rfl,ag.of (hs _ _ Ku),x1,x2,x3,x4,_,rfl,ti,_,2,nV (cw J N cs ds r),eg,rfl,az.of e3,aI (j:=2) rfl,_,rfl,ti,_,3,nV (bS N cs ds r),eg,rfl,az.of e3,aI (j:=3) rfl,by show 3<=sizeLine;decide,λq hq=>?_⟩;exact hk _ _ (Same.put hq) ⟨q,rfl,(λz=>by rw[z,W9]at hq;cases hq),av⟩
     ·have YQ:l1≠D3:=λz=>by rw[<- z,lI _ _ g1]at lr;cases lr
      have YS:l2≠D3:=λz=>by rw[<- z,g2]at lr;cases lr
      refine⟨by show 3<=sizeLine;decide,λtt htt=>?_⟩;have st:=Same.put (o:=.tup [.ref l1,.ref l2,.ref D3]) htt;have DQ:=hs.trans st;refine kk tt l1 l2 D3 us9 _ (t8.trans DQ) no av ⟨t4.free n1,t6.free n2,t8.free lr,YM,YQ,YS⟩ (DQ _ _ (lI _ _ g1)) (DQ _ _ g2) (st _ _ hl9) ?_ hpm;refine Dj (by rw[hfl,<- dh hp9,kJ]) λi r v hr hv=>?_;obtain⟨j,hj,b,e1,_,e3⟩:=eJ hp9 hv;have hi:i<us.length:=by have:=(bN.mp hr).1;omega
      rw[pZ hi]at hj;cases hj;have er:(aZ J N cs ds).getD i (0,0)=r:=by rw[aN,hr];rfl
      rw[er]at e3;exact⟨b,e1,st _ _ e3⟩
end
theorem KY{M:List Nat}(hM:Ev.bL M):Good M.length (Ev.aF M):=by
 refine⟨λa ha=>Ev.jx _ _,λa b ha hb h1 h2=>Ev.u5 hM.nd ha hb h1 h2,λa b ha hb=>?_,λa b ha hb=>?_⟩
 ·obtain⟨c,hc,h⟩:=hM.oX ha hb
  exact⟨c,hc,h⟩
 ·obtain⟨c,hc,_,h⟩:=hM.o7 ha hb
  exact⟨c,hc,λx _=>h x⟩
theorem XD{M:List Nat}(L:Ev.bL M):∃J:Nat->Nat->Nat,∀a b,a<M.length->b<M.length->bH M.length (Ev.aF M) a b (J a b):=
 ⟨λa b=>if h:a<M.length/\b<M.length then Classical.choose (L.oX h.1 h.2)else 0,λa b ha hb=>by
  have h:=w9 (L.oX ha hb);simp only[ha,hb,and_self,zm];exact⟨h.1,h.2⟩⟩
theorem Ys{M:List Nat}(L:Ev.bL M):∃J:Nat->Nat->Nat,∀a b,a<M.length->b<M.length->bO M.length (Ev.aF M) a b (J a b):=
 ⟨λa b=>if h:a<M.length/\b<M.length then Classical.choose (L.o7 h.1 h.2)else 0,λa b ha hb=>by
  have h:=w9 (L.o7 ha hb);simp only[ha,hb,and_self,zm];exact⟨h.1,λx _=>h.2.2 x⟩⟩
theorem acY{n:Nat}{R:Nat->Nat->Bool}{J N:Nat->Nat->Nat}(G:Good n R)(hJ:∀a b,a<n->b<n->bH n R a b (J a b))(hN:∀a b,a<n->b<n->bO n R a b (N a b)){a b c:Nat}(ha:a<n)(hb:b<n)(hc:c<n):
  Un n R a b c ↔ R a c=true/\J a (N b c)≠N (J a b) c:=by
 have h1:=hN b c hb hc;have h2:=hJ a _ ha h1.1;have h3:=hJ a b ha hb;have h4:=hN _ c h3.1 hc
 constructor
 ·rintro⟨h,m,x,j,y,k1,k2,k3,k4,ne⟩
  refine⟨h,?_⟩;obtain rfl:=k1.uniq G h1;obtain rfl:=k3.uniq G h3;rw[h2.uniq G k2,h4.uniq G k4];exact ne
 ·rintro⟨h,ne⟩
  exact⟨h,_,_,_,_,h1,h2,h3,h4,ne⟩
def l0(H:Hp)(D:Addr)(n:Nat)(g:Nat->Nat->V):Prop:=∃as:List Addr,H D=some (.lst (as.map V.ref))/\as.length=n/\∀(i:Nat) a,as[i]?=some a->H a=some (.lst ((List.range n).map (g i)))
theorem l0.same{H H':Hp}{D:Addr}{n:Nat}{g:Nat->Nat->V}(s:Same H H')(h:l0 H D n g):l0 H' D n g:=by
 obtain⟨as,e,l,q⟩:=h;exact⟨as,s _ _ e,l,λi a ha=>s _ _ (q i a ha)⟩
theorem l0.get{H:Hp}{D:Addr}{n:Nat}{g:Nat->Nat->V}(h:l0 H D n g){i:Nat}(hi:i<n):∃vs b,H D=some (.lst vs)/\vs[i]?=some (.ref b)/\H b=some (.lst ((List.range n).map (g i))):=by
 obtain⟨as,e,l,q⟩:=h;have ha:as[i]?=some as[i]:=ay (by omega);exact⟨_,as[i],e,by rw[bX,ha];rfl,q _ _ ha⟩
section
variable {P:Program} {w:World} {K:W.Frag} {mg:Str->Option Value} {base:Heap} {f:Addr} {fd:FuncData}
abbrev sG:Stmt:=top 71
theorem Qi:bh ["_law_masks","_law_count","_law_joins","_law_meets","_law_a","_law_b","_law_c","_law_low"] ["_law_masks"] (aB sG):=⟨rfl,rfl,rfl,by decide +kernel,rfl,by decide +kernel,by decide +kernel⟩
noncomputable def Gp(K:W.Frag):Sp:=λvs H Q _=>∃(m:Nat) (M:List Nat),vs = [.ref m]/\ag K H m (M.map nV)/\Ev.bL M/\∀v H',Same H H'->Ip M.length (Un M.length (Ev.aF M)) v H'->Q v H'
theorem aaf (F:aS K "_law_uneven" "_law_uneven" sG f fd) (T:Txt mg) (jo:aC P w K mg base "_law_join" ["_law_masks","_law_a","_law_b"] 1 (sJ K)) (gT:aC P w K mg base "_law_meet" ["_law_masks","_law_a","_law_b"] 1 (pK K)) :
  aO P w K mg base aX 2 f fd ["_law_masks"] (Gp K):=by
 refine F.ok Qi (λvs H Q E h=>?_) (λcdv A outer s H vs Q E hr h=>?_)
 ·obtain⟨m,M,rfl,_⟩:=h
  rfl
 ·obtain⟨m,M,rfl,hm,L,kk⟩:=h
  have nd:=Qi.nd;have en:(((M.map nV).length:Int)).toNat=M.length:=by rw[dW,au]
  have hn:=L.len;have G:=KY L;obtain⟨J,hJ⟩:=XD L;obtain⟨N,hN⟩:=Ys L;refine⟨_,(ax (aP (i:=1) nd rfl (Or.inr rfl) (aY (cI (K:=K) rfl) rfl T.len cT (ae (pv 0) ah)))
   (ax (Ov (i:=2) nd rfl rfl (own:=["_law_a"]) (fr:=[("_law_count", 1),("_law_masks", 0)]) rfl (Jh (v:= "_law_a") (aB sG) ["_law_masks","_law_count","_law_joins","_law_meets","_law_a","_law_b","_law_c","_law_low"] rfl rfl (by decide +kernel) (λ_ _=>rfl) (λ_=>rfl)) (cM rfl T.range (ae (pv 1) ah)) (λ_ _ _ _=>⟨(bf (i:=0) (by decide +kernel:(["_law_a","_law_count","_law_masks"]:List Str).Nodup) rfl (Or.inr rfl)),c9,(c6 (own:=["_law_b"]) (fr:=[("_law_masks", 2),("_law_a", 0)]) rfl (Ji ["_law_a","_law_count","_law_masks"] rfl rfl (by decide +kernel)) (cM rfl T.range (ae (pv 1) ah)) (λ_ _ _ _=>⟨(bf (i:=0) (by decide +kernel:(["_law_b","_law_masks","_law_a"]:List Str).Nodup) rfl (Or.inl rfl)),c9,(aL jo hr rfl (ae (pv 1) (ae (pv 2) (ae (pv 0) ah (ao nofun)) (ao nofun)) (ao nofun)))⟩))⟩))
   (ax (Ov (i:=3) nd rfl rfl (own:=["_law_a"]) (fr:=[("_law_count", 1),("_law_masks", 0)]) rfl (Jh (v:= "_law_a") (aB sG) ["_law_masks","_law_count","_law_joins","_law_meets","_law_a","_law_b","_law_c","_law_low"] rfl rfl (by decide +kernel) (λ_ _=>rfl) (λ_=>rfl)) (cM rfl T.range (ae (pv 1) ah)) (λ_ _ _ _=>⟨(bf (i:=0) (by decide +kernel:(["_law_a","_law_count","_law_masks"]:List Str).Nodup) rfl (Or.inr rfl)),c9,(c6 (own:=["_law_b"]) (fr:=[("_law_masks", 2),("_law_a", 0)]) rfl (Ji ["_law_a","_law_count","_law_masks"] rfl rfl (by decide +kernel)) (cM rfl T.range (ae (pv 1) ah)) (λ_ _ _ _=>⟨(bf (i:=0) (by decide +kernel:(["_law_b","_law_masks","_law_a"]:List Str).Nodup) rfl (Or.inl rfl)),c9,(aL gT hr rfl (ae (pv 1) (ae (pv 2) (ae (pv 0) ah (ao nofun)) (ao nofun)) (ao nofun)))⟩))⟩))
   (ax (cH cF rfl (cM rfl T.range (ae (pv 1) ah)) (bf (i:=4) nd rfl (Or.inl rfl))
   (aA (cH cF rfl (cM rfl T.range (ae (pv 1) ah)) (bf (i:=5) nd rfl (Or.inl rfl))
   (aA (cH cF rfl (cM rfl T.range (ae (pv 1) ah)) (bf (i:=6) nd rfl (Or.inl rfl))
   (ax (aP (i:=7) nd rfl (Or.inl rfl) (aq (aV (K:=K) rfl) (aq (aV (K:=K) rfl) (pv 2) (pv 4) (λ_ _=>rfl)) (aq (aV (K:=K) rfl) (aq (aV (K:=K) rfl) (pv 3) (pv 5) (λ_ _=>rfl)) (pv 6) (λ_ _=>rfl)) (λ_ _=>rfl)))
   (aA (bB (PW.pt (mJ (bu dH (aq (aV (K:=K) rfl) (aq (aV (K:=K) rfl) (pv 2) (pv 4) (λ_ _=>rfl)) (pv 6) (λ_ _=>rfl)) (pv 6) (a_ _)) (mK (bu eU (pv 7) (aq (aV (K:=K) rfl) (aq (aV (K:=K) rfl) (pv 3) (aq (aV (K:=K) rfl) (aq (aV (K:=K) rfl) (pv 2) (pv 4) (λ_ _=>rfl)) (pv 5) (λ_ _=>rfl)) (λ_ _=>rfl)) (pv 6) (λ_ _=>rfl)) (a_ _))))) (aA (aQ (gJ (ae (pv 4) (ae (pv 5) (ae (pv 6) ah (ao nofun)) (ao nofun)) (ao nofun))))) bD))))))))
   (aA (aQ jB)))))),?_⟩
  refine⟨_,rfl,m,_,rfl,.inl hm,?_⟩;refine⟨_,rfl,_,rfl,by rw[au];exact(bF (by omega)).1,by rw[au];exact(bF (by omega)).2,λD hD=>za (λa=>(List.range M.length).map λb=>nV (J a b)) src_range hD (by rw[en];exact dB hn) (λi H2 Kt hi hs hk=>?_) (λH2 as hs2 hl hla _ _ hc=>?_)⟩
  ·rw[en]at hi
   refine⟨_,rfl,_,rfl,by rw[au];exact(bF (by omega)).1,by rw[au];exact(bF (by omega)).2,λD2 hD2=>eQ (λb=>nV (J i b)) src_range hD2 (by rw[en];exact dB hn) (λb H3 RW hb hs3 hk3=>?_) (λH3 hs3 hl3=>hk D2 H3 hs3 hD2 (by rw[en]at hl3;exact hl3))⟩;rw[en]at hb;refine⟨_,rfl,_,rfl,_,rfl,m,i,b,M,by simp,hs3.seq (hs.seq hm),L,hi,hb,λc H4 s4 hc hcp=>?_⟩;have e:c=J i b:=bH.uniq G ⟨hc,hcp⟩ (hJ i b hi hb);subst e;exact hk3 _ s4
  rw[en]at hla;have tJ:l0 H2 D M.length λa b=>nV (J a b):=⟨as,hl,hla,hc⟩;refine⟨_,rfl,_,rfl,by rw[au];exact(bF (by omega)).1,by rw[au];exact(bF (by omega)).2,λE hE=>za (λa=>(List.range M.length).map λb=>nV (N a b)) src_range hE (by rw[en];exact dB hn) (λi H3 Kt hi hs hk=>?_) (λH3 as' hs3 hl' hla' _ _ hc'=>?_)⟩
  ·rw[en]at hi
   refine⟨_,rfl,_,rfl,by rw[au];exact(bF (by omega)).1,by rw[au];exact(bF (by omega)).2,λD2 hD2=>eQ (λb=>nV (N i b)) src_range hD2 (by rw[en];exact dB hn) (λb H4 RW hb gH Wq=>?_) (λH4 gH cL=>hk D2 H4 gH hD2 (by rw[en]at cL;exact cL))⟩;rw[en]at hb;refine⟨_,rfl,_,rfl,_,rfl,m,i,b,M,by simp,gH.seq (hs.seq (hs2.seq hm)),L,hi,hb,λc H5 s5 hc hcp=>?_⟩;have e:c=N i b:=bO.uniq G ⟨hc,λx _=>hcp x⟩ (hN i b hi hb);subst e;exact Wq _ s5
  rw[en]at hla';have tN:l0 H3 E M.length λa b=>nV (N a b):=⟨as',hl',hla',hc'⟩;have tJ3:=tJ.same hs3;have lE:=hs2.trans hs3;refine⟨_,rfl,_,rfl,by rw[au];exact(bF (by omega)).1,by rw[au];exact(bF (by omega)).2,fb (lo:=0) (n:=(((M.map nV).length:Int)).toNat) (λi σ H4=>∃(v4 v5 v6 v7:Option V),σ = [some (.ref m),some (.int (M.map nV).length),some (.ref D),some (.ref E),v4,v5,v6,v7]/\Same H3 H4/\∀a b c,a<i->b<M.length->c<M.length->¬ Un M.length (Ev.aF M) a b c)
   ⟨none,none,none,none,rfl,Same.refl _,λa b c h=>by omega⟩ ?_ ?_⟩
  ·rintro i σ H4 hi ⟨v4,v5,v6,v7,rfl,s4,iU⟩
   rw[en]at hi;refine⟨_,rfl,_,rfl,by rw[au];exact(bF (by omega)).1,by rw[au];exact(bF (by omega)).2,fb (lo:=0) (n:=(((M.map nV).length:Int)).toNat) (λj σ H5=>∃(v5 v6 v7:Option V),σ = [some (.ref m),some (.int (M.map nV).length),some (.ref D),some (.ref E),some (.int (0+(i:Int))),v5,v6,v7]/\Same H3 H5/\∀b c,b<j->c<M.length->¬ Un M.length (Ev.aF M) i b c)
    ⟨v5,v6,v7,rfl,s4,λb c h=>by omega⟩ ?_ ?_⟩
   ·rintro j σ H5 hj ⟨v5,v6,v7,rfl,s5,iV⟩
    rw[en]at hj;refine⟨_,rfl,_,rfl,by rw[au];exact(bF (by omega)).1,by rw[au];exact(bF (by omega)).2,fb (lo:=0) (n:=(((M.map nV).length:Int)).toNat) (λk σ H6=>∃(v6 v7:Option V),σ = [some (.ref m),some (.int (M.map nV).length),some (.ref D),some (.ref E),some (.int (0+(i:Int))),some (.int (0+(j:Int))),v6,v7]/\Same H3 H6/\∀c,c<k->¬ Un M.length (Ev.aF M) i j c)
     ⟨v6,v7,rfl,s5,λc h=>by omega⟩ ?_ ?_⟩
    ·rintro k σ H6 hk ⟨v6,v7,rfl,s6,iW⟩
     rw[en]at hk;have next:¬ Un M.length (Ev.aF M) i j k->∀c,c<k+1->¬ Un M.length (Ev.aF M) i j c:=λh c hc=>by
      by_cases e:c=k
      ·subst e;exact h
      ·exact iW c (by omega)
     have u:=acY G hJ hN hi hj hk;have hm1:=(hN j k hj hk).1;have hj1:=(hJ i j hi hj).1;obtain⟨xs,rb,x1,x2,x3⟩:=(tJ3.same s6).get hi;obtain⟨ys,sb,y1,y2,y3⟩:=(tN.same s6).get hj;obtain⟨zs,tb,z1,z2,z3⟩:=(tN.same s6).get hj1;refine⟨_,rfl,_,rfl,D,_,_,.ref rb,rfl,rfl,ag.of x1,at0 x2,_,rfl,_,rfl,E,_,_,.ref sb,rfl,rfl,ag.of y1,at0 y2,_,rfl,sb,_,_,.int (N j k),rfl,rfl,ag.of y3,at0 (eG hk),rb,_,_,.int (J i (N j k)),rfl,rfl,ag.of x3,aI (eG hm1),?_⟩;refine⟨_,rfl,_,rfl,D,_,_,.ref rb,rfl,rfl,ag.of x1,at0 x2,_,rfl,rb,_,_,.int (J i k),rfl,rfl,ag.of x3,at0 (eG hk),_,rfl,rfl,_,rfl,?_⟩;have ed:decide (V.int (J i k:Int)=V.int (0+(k:Int)))=Ev.aF M i k:=by
      rw[ft];exact(hJ i k hi hk).eq_iff G hi hk
     rw[ed];refine bq (λh=>?_) (λh=>?_)
     ·refine⟨_,rfl,_,rfl,_,rfl,_,rfl,D,_,_,.ref rb,rfl,rfl,ag.of x1,at0 x2,_,rfl,rb,_,_,.int (J i j),rfl,rfl,ag.of x3,at0 (eG hj),E,_,_,.ref tb,rfl,rfl,ag.of z1,aI z2,_,rfl,tb,_,_,.int (N (J i j) k),rfl,rfl,ag.of z3,at0 (eG hk),rfl,_,rfl,?_⟩
      refine bq (λh2=>?_) (λh2=>?_)
      ·have ne:J i (N j k)≠N (J i j) k:=λz=>by rw[z]at h2;simp at h2
       refine⟨_,rfl,_,rfl,_,rfl,by show 3<=sizeLine;decide,λt ht=>kk _ _ (lE.trans (s6.trans (Same.put ht))) (.inr ⟨t,i,j,k,rfl,by rw[av,ft,ft,ft],hi,hj,hk,u.mpr ⟨h,ne⟩,λa' b' c' ha hb hc l=>?_⟩)⟩
       rcases l with l|⟨rfl,l|⟨rfl,l⟩⟩
       ·exact iU a' b' c' l hb hc
       ·exact iV b' c' l hc
       ·exact iW c' l
      ·refine⟨_,_,rfl,s6,next λz=>?_⟩
       have ne:=(u.mp z).2;exact absurd (by rw[cx (λq=>by injection q with q;omega)];rfl) h2
     ·exact bA ⟨_,_,rfl,s6,next λz=>h z.1⟩
    ·rintro σ H6 ⟨v6,v7,rfl,s6,iW⟩
     rw[en]at iW;refine⟨_,_,_,rfl,s6,λb c hb hc=>?_⟩
     by_cases e:b=j
     ·subst e;exact iW c hc
     ·exact iV b c (by omega) hc
   ·rintro σ H5 ⟨v5,v6,v7,rfl,s5,iV⟩
    rw[en]at iV;refine⟨_,_,_,_,rfl,s5,λa b c ha hb hc=>?_⟩
    by_cases e:a=i
    ·subst e;exact iV b c hb hc
    ·exact iU a b c (by omega) hb hc
  ·rintro σ H4 ⟨v4,v5,v6,v7,rfl,s4,iU⟩
   rw[en]at iU;exact kk _ _ (lE.trans s4) (.inl ⟨rfl,iU⟩)
end
theorem Rm{K:W.Frag}{H:Hp}(a b c d:Nat):jd K H 0 [.int (a:Int),.int (b:Int)] [.int (c:Int),.int (d:Int)] (λj=>if j=0 then decide (a=c)else decide (b=d)):=by
 refine⟨rfl,λj x y hx hy=>?_⟩;have e:∀p q:Nat,((p:Int)==(q:Int))=decide (p=q):=λp q=>by
  rw[dm,gR,cJ];omega
 match j,hx,hy with
 |0,hx,hy =>
  cases hx;cases hy;have:=bK.int (K:=K) (H:=H) 0 (a:Int) (c:Int);rw[e]at this;exact this
 |1,hx,hy =>
  cases hx;cases hy;have:=bK.int (K:=K) (H:=H) 0 (b:Int) (d:Int);rw[e]at this;exact this
section
variable {P:Program} {w:World} {K:W.Frag} {mg:Str->Option Value} {base:Heap} {f:Addr} {fd:FuncData}
abbrev wc:Stmt:=top 72
theorem P7:bh ["_law_masks","_law_five","_law_joins","_law_meets","_law_bottom","_law_low","_law_side","_law_high","_law_top"] ["_law_masks","_law_five"] (aB wc):=⟨rfl,rfl,rfl,by decide +kernel,rfl,by decide +kernel,by decide +kernel⟩
def Fs(K:W.Frag):Sp:=λvs H Q _=>∃(m t:Nat) (M:List Nat) (fs:List Int),vs = [.ref m,.ref t]/\ag K H m (M.map nV)/\Ev.bL M/\az K H t (fs.map V.int)/\fs.length<=1000/\∀c H',Same H H'->(c=true ↔ Five M.length (Ev.aF M) fs)->Q (.bl c) H'
theorem Zw (F:aS K "_law_is_five" "_law_is_five" wc f fd) (T:Txt mg) (eZ:aC P w K mg base "_law_at_most" ["_law_masks","_law_a","_law_b"] 1 (mP K))
  (gT:aC P w K mg base "_law_meet" ["_law_masks","_law_a","_law_b"] 1 (pK K)) (jo:aC P w K mg base "_law_join" ["_law_masks","_law_a","_law_b"] 1 (sJ K)) :
  aO P w K mg base aX 2 f fd ["_law_masks","_law_five"] (Fs K):=by
 refine F.ok P7 (λvs H Q E h=>?_) (λcdv A outer s H vs Q E hr h=>?_)
 ·obtain⟨m,t,M,fs,rfl,_⟩:=h
  rfl
 ·obtain⟨m,t,M,fs,rfl,hm,hM,hT,hfl,kk⟩:=h
  have nd:=P7.nd;have hu0:=hr.units;have hu1:(A.deeper (envOfC "_law_is_five" (aB wc) s.heap.objs.size f cdv)).units+1+0<cLine:=by omega
  have G:=KY hM;refine⟨_,(ax (bB (PW.pt (dJ (bu eU (aY (cI (K:=K) rfl) rfl T.len cT (ae (pv 1) ah)) ak (a_ _)) (dJ (bu pe (aY (Tf (K:=K) rfl rfl) rfl T.min boot_min (ae (pv 1) ah)) ak (a_ _)) (fj (bu vx (aY (Te (K:=K) rfl rfl) rfl T.max boot_max (ae (pv 1) ah)) (aY (cI (K:=K) rfl) rfl T.len cT (ae (pv 0) ah)) (a_ _)))))) (aA (aQ dj)) bD)
   (ax (Ds (pv 1) (aaT (K:=K) rfl rfl (mI (bf (i:=4) nd rfl (Or.inl rfl)) (mI (bf (i:=5) nd rfl (Or.inl rfl)) (mI (bf (i:=6) nd rfl (Or.inl rfl)) (mI (bf (i:=7) nd rfl (Or.inl rfl)) (mI (bf (i:=8) nd rfl (Or.inl rfl)) Om)))))))
   (ax (bB (PW.pt (dJ (bu dH (pv 5) (pv 7) (a_ _)) (fj (dA (cg (aL eZ hr rfl (ae (pv 0) (ae (pv 5) (ae (pv 7) ah (ao nofun)) (ao nofun)) (ao nofun)))))))) (aA (aQ dj)) bD)
   (ax (bB (PW.pt (dJ (cg (aL eZ hr rfl (ae (pv 0) (ae (pv 6) (ae (pv 7) ah (ao nofun)) (ao nofun)) (ao nofun)))) (fj (cg (aL eZ hr rfl (ae (pv 0) (ae (pv 5) (ae (pv 6) ah (ao nofun)) (ao nofun)) (ao nofun))))))) (aA (aQ dj)) bD)
   (ax (aP (i:=2) nd rfl (Or.inl rfl) (bV (ae (aL jo hr rfl (ae (pv 0) (ae (pv 5) (ae (pv 6) ah (ao nofun)) (ao nofun)) (ao nofun))) (ae (aL jo hr rfl (ae (pv 0) (ae (pv 7) (ae (pv 6) ah (ao nofun)) (ao nofun)) (ao nofun))) ah))))
   (ax (aP (i:=3) nd rfl (Or.inl rfl) (bV (ae (aL gT hr rfl (ae (pv 0) (ae (pv 5) (ae (pv 6) ah (ao nofun)) (ao nofun)) (ao nofun))) (ae (aL gT hr rfl (ae (pv 0) (ae (pv 7) (ae (pv 6) ah (ao nofun)) (ao nofun)) (ao nofun))) ah))))
   (aA (aQ (kx (gj (rX (K:=K) true 0 rfl hu1) (pv 2) (bV (ae (pv 8) (ae (pv 8) ah))) (a_ _)) (jC (gj (rX (K:=K) true 0 rfl hu1) (pv 3) (bV (ae (pv 4) (ae (pv 4) ah))) (a_ _)))))))))))),?_⟩
  refine⟨_,rfl,t,_,rfl,.inr hT,rfl,_,rfl,?_⟩;rw[au];refine bq (λh5=>?_) (λh5=>?_)
  ·refine eR (kk false _ (Same.refl _) ⟨λz=>(nomatch z),λz=>?_⟩)
   rw[z.len]at h5;exact absurd h5 (by decide)
  ·have fE:fs.length=5:=by
    have:¬ (!decide (V.int (fs.length:Int)=V.int 5))=true:=h5;have h6:V.int (fs.length:Int)=V.int 5:=by simpa using this
    injection h6 with h6
    omega
   refine⟨_,rfl,t,fs,rfl,hT,by omega,λmi hmi hmin=>⟨_,_,rfl,rfl,_,rfl,?_⟩⟩;refine bq (λh0=>?_) (λh0=>?_)
   ·refine eR (kk false _ (Same.refl _) ⟨λz=>(nomatch z),λz=>?_⟩)
    have h1:=(z.rng mi hmi).1;rw[cJ]at h0;omega
   ·rw[cJ]at h0
    refine⟨_,rfl,t,fs,rfl,hT,by omega,λma hma rA=>⟨_,rfl,m,_,rfl,.inl hm,_,_,rfl,rfl,_,rfl,?_⟩⟩;rw[au];refine bq (λhb=>?_) (λhb=>?_)
    ·refine kk false _ (Same.refl _) ⟨λz=>(nomatch z),λz=>?_⟩
     have h1:=(z.rng ma hma).2;rw[cJ]at hb;omega
    ·rw[cJ]at hb
     obtain⟨z0,z1,z2,z3,z4,rfl⟩:=Xm fE;have rg:∀z∈([z0,z1,z2,z3,z4]:List Int),0<=z/\z<(M.length:Int):=λz hz=>by
      have k1:=hmin z hz;have k2:=rA z hz;omega
     obtain⟨a0,b0⟩:=rg z0 (by simp);obtain⟨a1,b1⟩:=rg z1 (by simp);obtain⟨a2,b2⟩:=rg z2 (by simp);obtain⟨a3,b3⟩:=rg z3 (by simp);obtain⟨a4,b4⟩:=rg z4 (by simp);clear rg hmin rA hmi hma h0 hb;obtain⟨b,rfl⟩:=tj a0;obtain⟨l,rfl⟩:=tj a1;obtain⟨sd,rfl⟩:=tj a2;obtain⟨h,rfl⟩:=tj a3;obtain⟨tp,rfl⟩:=tj a4;have hb:b<M.length:=by omega
     have hll:l<M.length:=by omega
     have hsd:sd<M.length:=by omega
     have hh:h<M.length:=by omega
     have htp:tp<M.length:=by omega
     have key:=Kg (R:=Ev.aF M) hb hll hsd hh htp;refine⟨_,rfl,t,_,rfl,hT,rfl,_,_,rfl,_,_,rfl,_,_,rfl,_,_,rfl,_,_,rfl,rfl,?_⟩;refine⟨_,rfl,_,rfl,rfl,_,rfl,?_⟩;rw[T3];refine bq (λe0=>?_) (λe0=>?_)
     ·refine eR (kk false _ (Same.refl _) ⟨λz=>(nomatch z),λz=>?_⟩)
      rw[cJ]at e0;exact absurd e0 (key.mp z).1
     ·rw[cJ]at e0
      refine⟨_,rfl,_,rfl,_,rfl,m,l,h,M,rfl,hm,hll,hh,λH1 s1=>⟨_,rfl,?_⟩⟩;cases e1:Ev.aF M l h with
      |false =>
       refine eR (kk false _ s1 ⟨λz=>(nomatch z),λz=>?_⟩);rw[(key.mp z).2.1]at e1;cases e1
      |true =>
       refine bA ⟨_,rfl,_,rfl,_,rfl,m,sd,h,M,rfl,s1.seq hm,hsd,hh,λH2 s2=>⟨_,rfl,?_⟩⟩;have t2:=s1.trans s2;cases e2:Ev.aF M sd h with
       |true =>
        refine eR (eR (kk false _ t2 ⟨λz=>(nomatch z),λz=>?_⟩));rw[(key.mp z).2.2.1]at e2;cases e2
       |false =>
        refine bA ⟨_,rfl,_,rfl,_,rfl,m,l,sd,M,rfl,t2.seq hm,hll,hsd,λH3 s3=>⟨_,rfl,?_⟩⟩;have t3:=t2.trans s3;cases e3:Ev.aF M l sd with
        |true =>
         refine eR (kk false _ t3 ⟨λz=>(nomatch z),λz=>?_⟩);rw[(key.mp z).2.2.2.1]at e3;cases e3
        |false =>
         refine bA ⟨_,rfl,_,rfl,_,rfl,m,l,sd,M,rfl,t3.seq hm,hM,hll,hsd,λj1 H4 s4 hj1 hj1'=>?_⟩;have t4:=t3.trans s4;refine⟨_,rfl,_,rfl,_,rfl,m,h,sd,M,rfl,t4.seq hm,hM,hh,hsd,λj2 H5 s5 hj2 hj2'=>⟨by show 2<=sizeLine;decide,λp1 hp1=>?_⟩⟩;have t5:=(t4.trans s5).trans (Same.put (o:=.lst [.int (j1:Int),.int (j2:Int)]) hp1);refine⟨_,rfl,_,rfl,_,rfl,m,l,sd,M,rfl,t5.seq hm,hM,hll,hsd,λm1 H6 s6 hm1 Wv=>?_⟩;have t6:=t5.trans s6;refine⟨_,rfl,_,rfl,_,rfl,m,h,sd,M,rfl,t6.seq hm,hM,hh,hsd,λm2 H7 s7 hm2 hm2'=>⟨by show 2<=sizeLine;decide,λp2 hp2=>?_⟩⟩;have t7:=(t6.trans s7).trans (Same.put (o:=.lst [.int (m1:Int),.int (m2:Int)]) hp2);have uT:(upd H7 p2 (.lst [.int (m1:Int),.int (m2:Int)])) p1=some (.lst [.int (j1:Int),.int (j2:Int)]):=((s6.trans s7).trans (Same.put hp2)) _ _ av;have k1:=bO.iff_eq (e:=b) G (⟨hm1,λx _=>Wv x⟩:bO M.length (Ev.aF M) l sd m1);have k2:=bO.iff_eq (e:=b) G (⟨hm2,λx _=>hm2' x⟩:bO M.length (Ev.aF M) h sd m2);have k3:=bH.iff_eq (e:=tp) G (⟨hj1,hj1'⟩:bH M.length (Ev.aF M) l sd j1);have k4:=bH.iff_eq (e:=tp) G (⟨hj2,hj2'⟩:bH M.length (Ev.aF M) h sd j2);rw[k1,k2,k3,k4]at key;refine⟨_,rfl,_,rfl,_,rfl,by show 2<=sizeLine;decide,λp3 hp3=>?_⟩;refine⟨p1,p3,_,_,_,rfl,rfl,ag.of (Same.put hp3 _ _ uT),ag.of av,Rm j1 j2 tp tp,_,rfl,?_⟩;refine bq (λk=>?_) (λk=>?_)
         ·refine⟨_,rfl,_,rfl,_,rfl,by show 2<=sizeLine;decide,λp4 cD=>?_⟩
          refine⟨p2,p4,_,_,_,rfl,rfl,ag.of (Same.put cD _ _ (Same.put hp3 _ _ av)),ag.of av,Rm m1 m2 b b,kk _ _ ((t7.trans (Same.put hp3)).trans (Same.put cD)) ?_⟩;rw[key];simp[jg]at k ⊢;exact⟨λz=>⟨e0,e1,e2,e3,z.1,z.2,k.1,k.2⟩,λz=>⟨z.2.2.2.2.1,z.2.2.2.2.2.1⟩⟩
         ·refine kk _ _ (t7.trans (Same.put hp3)) ⟨λz=>(nomatch z),λz=>?_⟩
          have:=key.mp z;refine absurd ?_ k;simp[jg,this.2.2.2.2.2.2.1,this.2.2.2.2.2.2.2]
end
section
variable {n:Nat} {R R':Nat->Nat->Bool} {J N:Nat->Nat->Nat} {cs ds:List Nat}
theorem Five.zf(hR:∀a b,a<n->b<n->R a b=R' a b){fs:List Int}(h:Five n R fs):Five n R' fs:=by
 obtain⟨b,l,s,h,t,e,⟨h0,h1,h2,h3,h4⟩,k1,k2,k3,k4,k5,k6,k7,k8⟩:=h;exact⟨b,l,s,h,t,e,⟨h0,h1,h2,h3,h4⟩,k1,by rw[<- hR _ _ h1 h3];exact k2,by rw[<- hR _ _ h2 h3];exact k3,by rw[<- hR _ _ h1 h2];exact k4,k5.congr hR h1 h2,k6.congr hR h3 h2,k7.congr hR h1 h2,k8.congr hR h3 h2⟩
theorem cz.congr(hR:∀a b,a<n->b<n->R a b=R' a b)(h:cz n R cs):cz n R' cs:=
 ⟨h.pos,h.lt,λi hi=>⟨(h.adj i hi).1,by rw[<- hR _ _ (h.at (by omega)) (h.at hi)];exact(h.adj i hi).2⟩⟩
theorem Md.zf(hR:∀a b,a<n->b<n->R a b=R' a b)(G':Good n R')(M:Md n R J N):Md n R' J N:=
 ⟨G',λa b ha hb=>(M.j a b ha hb).congr hR ha hb,λa b ha hb=>(M.m a b ha hb).congr hR ha hb,λa b c ha hb hc h=>M.md a b c ha hb hc (by rw[hR a c ha hc];exact h)⟩
theorem Two.congr(hR:∀a b,a<n->b<n->R a b=R' a b)(G':Good n R')(T:Two n R J N cs ds):Two n R' J N cs ds:=
 ⟨T.M.zf hR G',T.c.congr hR,T.d.congr hR,T.first,T.last⟩
theorem cz.di(h:cz n R cs):di n R (cs.map λx:Nat=>(x:Int))=true:=by
 unfold My.di;simp only[bJ,fP,f6];refine⟨by rw[au];have:=h.pos;omega,?_,?_⟩
 ·unfold inB
  rw[fX];intro z hz;obtain⟨x,hx,rfl⟩:=cS.mp hz;have:=h.lt x hx;rw[cJ];omega
 ·unfold uf
  rw[fX];intro i hi;rw[au]at hi;have hi:=fw.mp hi;rw[gY,gY,dW,dW];unfold cZ;have:=h.adj i (by omega);rw[bJ,fP,f6];exact this
theorem Uo(h0:cs.getD 0 0=ds.getD 0 0)(h1:cs.getD (cs.length - 1) 0=ds.getD (ds.length - 1) 0):gW (cs.map λx:Nat=>(x:Int)) (ds.map λx:Nat=>(x:Int))=true:=by
 unfold gW;rw[au,au,gY,gY,gY,gY,h0,h1];simp
theorem Vz(G:Good n R):∃J:Nat->Nat->Nat,∀a b,a<n->b<n->bH n R a b (J a b):=by
 refine⟨λa b=>if h:a<n/\b<n then(G.join a b h.1 h.2).choose else 0,λa b ha hb=>?_⟩;dsimp only;rw[dif_pos ⟨ha,hb⟩];exact(G.join a b ha hb).choose_spec
theorem VB(G:Good n R):∃J:Nat->Nat->Nat,∀a b,a<n->b<n->bO n R a b (J a b):=by
 refine⟨λa b=>if h:a<n/\b<n then(G.meet a b h.1 h.2).choose else 0,λa b ha hb=>?_⟩;dsimp only;rw[dif_pos ⟨ha,hb⟩];exact(G.meet a b ha hb).choose_spec
end
theorem Cm{K:W.Frag}{H:Hp}{h1 h2 t u:Addr}{c d:List Nat}(a1:H h1=some (.lst (c.map nV)))(a2:H h2=some (.lst (d.map nV)))(b1:H t=some (.lst (c.map nV)))(b2:H u=some (.lst (d.map nV))):jd K H 1 [.ref h1,.ref h2] [.ref t,.ref u] λ_=>true:=by
 refine⟨rfl,λj x y hx hy=>?_⟩;have self:∀{a b:Addr} {c:List Nat},H a=some (.lst (c.map nV))->H b=some (.lst (c.map nV))->bK K H 1 (.ref a) (.ref b) true:=λ{a b c} q1 q2=>by
  have:=Ur (K:=K) (ag.of q1) (ag.of q2);rw[cy rfl]at this;exact this
 match j,hx,hy with
 |0,hx,hy=>cases hx;cases hy;exact self a1 b1
 |1,hx,hy=>cases hx;cases hy;exact self a2 b2
theorem yp(n:Nat):(List.range n).all (λ_=>true)=true:=by simp
theorem jF{H:Hp}{a:Addr}{o:HO}(_:H a=none):upd H a o a=some o:=av
theorem ab8{ms:List Int}{n:Nat}(hp:ms.Perm ((List.range n).map λi:Nat=>(i:Int)))(hs:ms.Pairwise (·<=·)):ms=(List.range n).map λi:Nat=>(i:Int):=by
 have pr:((List.range n).map λi:Nat=>(i:Int)).Pairwise (λx y=>x<y):=by
  rw[nz];exact tO.imp λ{x y} h=>by omega
 have nd:ms.Nodup:=hp.nodup_iff.mpr (pr.imp λ{x y} h=>by omega);refine wq (rk:=λx:Int=>x) ?_ pr λx=>hp.mem_iff;rw[lS]at hs ⊢;intro i j hi hj hij;have h1:=hs i j hi hj hij;have h2:=(lS.mp nd) i j hi hj hij;omega
theorem Xg{l l':List (Nat × Nat)}(hp:l.Perm l')(nd:l.Nodup):(l'.map λr=>((l.idxOf r:Nat):Int)).Perm ((List.range l.length).map λi:Nat=>(i:Int)):=by
 have e:(l.map λr=>((l.idxOf r:Nat):Int))=(List.range l.length).map λi:Nat=>(i:Int):=by
  refine jN (by simp) λi h1 h2=>?_;have hi:i<l.length:=by simpa using h1
  rw[iF,iF,nq];have h3:=nr.mpr (fu hi);have h4:=nj h3;rw[(tL nd).mp h4]
 rw[<- e];exact(hp.map _).symm
theorem Tw{n:Nat}{R:Nat->Nat->Bool}{a b:Nat}(ha:a<n)(hb:b<n)(ne:a≠b)(h:R a b=true):cz n R [a,b]:=
 ⟨by simp,λx hx=>by
  rcases bx.mp hx with rfl|hx
  ·exact ha
  ·rw[ig.mp hx];exact hb,λi hi=>by
  have:i=0:=by simp at hi;omega
  subst this;exact⟨ne,h⟩⟩
section
variable {n:Nat} {R:Nat->Nat->Bool} {J N:Nat->Nat->Nat} {cs ds:List Nat} {r:Nat × Nat}
theorem Two.Rq(T:Two n R J N cs ds){lo hi x y:Nat}(h:yj n R J N lo hi x y):yn n R lo hi x y:=by
 refine⟨?_,?_⟩
 ·have:=T.M.j hi x h.lh h.li
  rwa [h.up]at this
 ·have:=T.M.m hi x h.lh h.li
  rwa [h.dn]at this
theorem acN(hp:(bp J N cs ds).Perm (aZ J N cs ds)):(bp J N cs ds).Nodup:=hp.nodup_iff.mpr Kl
theorem Two.others(T:Two n R J N cs ds)(h:r∈aZ J N cs ds):(bp J N cs ds).idxOf r+1<(bZ J N ds cs).length/\(bZ J N ds cs).getD ((bp J N cs ds).idxOf r) 0=j_ J N ds cs r.swap/\(bZ J N ds cs).getD ((bp J N cs ds).idxOf r+1) 0=dR J N ds cs r.swap:=by
 have hm:=vg.mpr h;have hi:=nr.mpr hm;have e:(bp J N cs ds)[(bp J N cs ds).idxOf r]?=some r:=by rw[ay hi,nj hi]
 generalize (bp J N cs ds).idxOf r=i at hi e;rw[GD T]at e hi;rw[au]at hi;rw[bX,ay hi]at e;have e2:(aZ J N ds cs)[i]?=some r.swap:=by
  rw[ay hi];have:=df e;rw[<- this,Prod.swap_swap]
 exact⟨by rw[mE];omega,T.swap.CQ e2,CT e2⟩
end
section
variable {P:Program} {w:World} {K:W.Frag} {mg:Str->Option Value} {base:Heap} {f:Addr} {fd:FuncData}
abbrev sC:Stmt:=top 75
theorem P6:bh ["_law_masks","_law_things"] ["_law_masks","_law_things"] (aB sC):=⟨rfl,rfl,rfl,by decide +kernel,rfl,by decide +kernel,by decide +kernel⟩
def wx(K:W.Frag):Sp:=λvs H Q _=>∃(m t:Nat) (M:List Nat) (cs:List Nat),vs = [.ref m,.ref t]/\ag K H m (M.map nV)/\Ev.bL M/\H t=some (.lst (cs.map nV))/\cz M.length (Ev.aF M) cs/\cs.length<=100/\∀H',Same H H'->Q (.bl true) H'
theorem Zk (F:aS K "_law_is_chain" "_law_is_chain" sC f fd) (T:Txt mg) (ox:aC P w K mg base "_law_whole" ["_law_found"] 1 wH) (eZ:aC P w K mg base "_law_at_most" ["_law_masks","_law_a","_law_b"] 1 (mP K)):aO P w K mg base aX 2 f fd ["_law_masks","_law_things"] (wx K):=by
 refine F.ok P6 (λvs H Q E h=>?_) (λcdv A outer s H vs Q E hr h=>?_)
 ·obtain⟨m,t,M,cs,rfl,_⟩:=h
  rfl
 ·obtain⟨m,t,M,cs,rfl,hm,hM,hT,hC,hcl,kk⟩:=h
  have nd:=P6.nd;have hpos:=hC.pos;have hTi:=hT;rw[<- rG]at hTi;refine⟨_,(ax (bB (PW.pt (dJ (dA (cg (aY (k_ (K:=K) "list" rfl) rfl T.isinstance du (ae (pv 1) (ae (ky (v:=.ty "list") rfl T.list jW rfl) ah))))) (fj (bu dH (aY (cI (K:=K) rfl) rfl T.len cT (ae (pv 1) ah)) ak (a_ _))))) (aA (aQ dj)) bD)
   (ax (bB (dA (cg (aY (qA (K:=K) rfl rfl) rfl T.all boot_all (ae (c6 (own:=["_law_thing"]) (fr:=[]) rfl (cp (aB sC) ["_law_masks","_law_things"] rfl rfl (by decide +kernel)) (dk (K:=K) rfl (pv 1)) (λ_ _ _ _=>⟨(bf (i:=0) (by decide +kernel:(["_law_thing"]:List Str).Nodup) rfl (Or.inl rfl)),c9,(aL ox hr rfl (ae (pv 0) ah))⟩)) ah)))) (aA (aQ dj)) bD)
   (ax (bB (PW.pt (dJ (bu pe (aY (Jo (K:=K) rfl rfl) rfl T.min boot_min (ae (pv 1) ah)) ak (a_ _)) (fj (bu vx (aY (Jn (K:=K) rfl rfl) rfl T.max boot_max (ae (pv 1) ah)) (aY (cI (K:=K) rfl) rfl T.len cT (ae (pv 0) ah)) (a_ _))))) (aA (aQ dj)) bD)
   (aA (aQ (aY (qA (K:=K) rfl rfl) rfl T.all boot_all (ae (c6 (own:=["_law_a","_law_b"]) (fr:=[("_law_masks", 0)]) rfl (cp (aB sC) ["_law_masks","_law_things"] rfl rfl (by decide +kernel)) (vE (K:=K) true true rfl rfl T.zip (ae (pv 1) (ae (eL (fk (K:=K) rfl) (pv 1) (dS ak) fh) ah))) (λ_ _ _ _=>⟨(lA (K:=K) (i:=0) (j:=1) rfl rfl (by decide +kernel:(["_law_a","_law_b","_law_masks"]:List Str).Nodup) rfl rfl rfl rfl),c9,(kx (gj eU (pv 0) (pv 1) (a_ _)) (jC (aL eZ hr rfl (ae (pv 2) (ae (pv 0) (ae (pv 1) ah (ao nofun)) (ao nofun)) (ao nofun)))))⟩)) ah))))))),?_⟩
  refine⟨_,rfl,_,_,_,rfl,.lst hT,rfl,_,rfl,bA ?_⟩;refine⟨_,rfl,t,_,rfl,.inl (ag.of hT),rfl,_,rfl,bq (λh=>?_) (λ_=>?_)⟩
  ·have h1:=rW h
   injection h1 with h1
   rw[au]at h1;omega
  refine⟨_,rfl,t,rfl,⟨_,ag.of hT⟩,λD hD=>eQ (λ_=>.bl true) (src_list (ag.of hT)) hD (c7 (by rw[au];omega)) (λj H1 Kt hj hs hk=>?_) (λH1 hs hl=>?_)⟩
  ·have hj':j<cs.length:=by rwa [au]at hj
   refine⟨_,rfl,_,rfl,.inl ⟨_,lq hj'⟩,λ_=>hk _ (Same.refl _),λ⟨l,e⟩=>?_⟩;have e:(cs.map nV).getD j .non = .ref l:=e;rw[lq hj']at e;cases e
  ·have hl':H1 D=some (.lst (((List.range (cs.map nV).length).map λ_=>true).map V.bl)):=by rw[hl,dY];rfl
   refine⟨D,_,rfl,ag.of hl',_,rfl,?_⟩;have ea:(((List.range (cs.map nV).length).map λ_=>true).all id)=true:=by simp
   rw[ea];refine bA ?_;have hT1:=hs.seq (ag.of (K:=K) hTi);refine⟨_,rfl,t,_,rfl,hT1,by rw[au];exact hpos,λmi hmi hmin=>⟨_,_,rfl,rfl,_,rfl,bq (λh=>?_) (λ_=>?_)⟩⟩
   ·obtain⟨x,_,rfl⟩:=cS.mp hmi
    rw[cJ]at h;omega
   refine⟨_,rfl,t,_,rfl,hT1,by rw[au];exact hpos,λma hma rA=>⟨_,rfl,m,_,rfl,.inl (hs.seq hm),_,_,rfl,rfl,_,rfl,bq (λh=>?_) (λ_=>?_)⟩⟩
   ·obtain⟨x,hx,rfl⟩:=cS.mp hma
    have:=hC.lt x hx;rw[cJ,au]at h;omega
   refine⟨_,rfl,_,rfl,_,rfl,t,_,rfl,hs.seq (ag.of hT),λq hq=>?_⟩;have ec:bP (cs.map nV) (some 1) none=(cs.drop 1).map nV:=by rw[show(1:Int)=((1:Nat):Int)from rfl,qD,ny]
   rw[ec];have sq:=Same.put (o:=.lst ((cs.drop 1).map nV)) hq;refine⟨t,q,cs.map nV,(cs.drop 1).map nV,rfl,sq.seq (hs.seq (ag.of hT)),ag.of av,λD2 hD2=>eQ (λ_=>.bl true) (wI (n:=cs.length - 1) (c1:=true) (c2:=true) (sq.seq (hs.seq (ag.of hT))) (ag.of av) (by simp)) hD2 (c7 (by omega)) (λj H4 Kt hj gH hk=>?_) (λH4 gH cL=>?_)⟩
   ·have e1:(cs.map nV).getD j .non=nV (cs.getD j 0):=lq (by omega)
    have e2:((cs.drop 1).map nV).getD j .non=nV (cs.getD (j+1) 0):=by rw[lq (by rw[jP];omega),KN]
    obtain⟨ne,hle⟩:=hC.adj j (by omega);refine⟨_,rfl,_,rfl,by rw[e1,e2];rfl,_,rfl,?_⟩;rw[e1,e2];have ed:(!decide (nV (cs.getD j 0)=nV (cs.getD (j+1) 0)))=true:=by
     rw[fP,f6];intro z;injection z with z
     exact ne (by omega)
    rw[ed];refine eR ⟨_,rfl,_,rfl,_,rfl,m,cs.getD j 0,cs.getD (j+1) 0,M,rfl,(hs.trans (sq.trans gH)).seq hm,hC.at (by omega),hC.at (by omega),λH5 s5=>?_⟩;rw[hle];exact hk _ s5
   ·have fE:H4 D2=some (.lst (((List.range (cs.length - 1)).map λ_=>true).map V.bl)):=by rw[cL,dY];rfl
    refine⟨D2,_,rfl,ag.of fE,?_⟩;have ea:(((List.range (cs.length - 1)).map λ_=>true).all id)=true:=by simp
    rw[ea];exact kk _ (hs.trans (sq.trans gH))
abbrev sA:Stmt:=top 76
theorem P4:bh ["_law_masks","_law_chain_here","_law_told"] ["_law_masks","_law_chain_here","_law_told"] (aB sA):=⟨rfl,rfl,rfl,by decide +kernel,rfl,by decide +kernel,by decide +kernel⟩
def Fv(K:W.Frag):Sp:=λvs H Q _=>∃(m t u:Nat) (M cs ls:List Nat),vs = [.ref m,.ref t,.ref u]/\ag K H m (M.map nV)/\Ev.bL M/\H t=some (.lst (cs.map nV))/\H u=some (.lst (ls.map nV))/\0<cs.length/\cz M.length (Ev.aF M) ls/\ls.length<=100/\ls.getD 0 0=cs.getD 0 0/\ls.getD (ls.length - 1) 0=cs.getD (cs.length - 1) 0/\ls.filter (λx=>decide (x∈cs))=cs/\∀H',Same H H'->Q (.bl true) H'
theorem Zz (F:aS K "_law_grown" "_law_grown" sA f fd) (T:Txt mg) (ou:aC P w K mg base "_law_is_chain" ["_law_masks","_law_things"] 2 (wx K)):aO P w K mg base aX 3 f fd ["_law_masks","_law_chain_here","_law_told"] (Fv K):=by
 refine F.ok P4 (λvs H Q E h=>?_) (λcdv A outer s H vs Q E hr h=>?_)
 ·obtain⟨m,t,u,M,cs,ls,rfl,_⟩:=h
  rfl
 ·obtain⟨m,t,u,M,cs,ls,rfl,hm,hM,hT,hU,hcp,hC,hll,h0,h1,hf,kk⟩:=h
  have nd:=P4.nd;have hu0:=hr.units;have hu1:(A.deeper (envOfC "_law_grown" (aB sA) s.heap.objs.size f cdv)).units+1+0<cLine:=by omega
  have hlp:=hC.pos;have last:∀l:List Nat,0<l.length->eN (l.map nV) (-1)=some (nV (l.getD (l.length - 1) 0)):=λl hl=>by
   have:=CP (zs:=l.map λx:Nat=>(x:Int)) (λz=>by rw[List.map_eq_nil_iff]at z;rw[z]at hl;simp at hl);rw[rG,au,gY]at this;exact this
  refine⟨_,(ax (bB (PW.pt (dJ (dA (cg (aL ou hr rfl (ae (pv 0) (ae (pv 2) ah))))) (dJ (bu eU (aq (aV (K:=K) rfl) (pv 2) ak (λ_ _=>rfl)) (aq (aV (K:=K) rfl) (pv 1) ak (λ_ _=>rfl)) (a_ _)) (fj (bu eU (aq (aV (K:=K) rfl) (pv 2) (jD jK ak) (λ_ _=>rfl)) (aq (aV (K:=K) rfl) (pv 1) (jD jK ak) (λ_ _=>rfl)) (a_ _)))))) (aA (aQ dj)) bD)
   (aA (aQ (gj (N4 (K:=K) 0 rfl hu1) (c6 (own:=["_law_thing"]) (fr:=[("_law_chain_here", 1)]) rfl (cp (aB sA) ["_law_masks","_law_chain_here","_law_told"] rfl rfl (by decide +kernel)) (dk (K:=K) rfl (pv 2)) (λ_ _ _ _=>⟨(bf (i:=0) (by decide +kernel:(["_law_thing","_law_chain_here"]:List Str).Nodup) rfl (Or.inl rfl)),(kA (bu (N5 (K:=K) rfl) (pv 0) (pv 1) (by with_unfolding_all rfl))),(pv 0)⟩)) (pv 1) (a_ _))))),?_⟩
  refine⟨_,rfl,_,rfl,m,u,M,ls,rfl,hm,hM,hU,hC,hll,λH1 s1=>⟨_,rfl,bA ?_⟩⟩;refine⟨_,rfl,u,_,0,nV (ls.getD 0 0),rfl,rfl,s1.seq (ag.of hU),aI (j:=0) (eT hlp),_,rfl,t,_,0,nV (cs.getD 0 0),rfl,rfl,s1.seq (ag.of hT),aI (j:=0) (eT hcp),rfl,_,rfl,?_⟩;rw[h0,cy rfl];refine bA ⟨_,rfl,1,rfl,u,_,_,nV (ls.getD (ls.length - 1) 0),rfl,rfl,s1.seq (ag.of hU),last ls hlp,_,rfl,1,rfl,t,_,_,nV (cs.getD (cs.length - 1) 0),rfl,rfl,s1.seq (ag.of hT),last cs hcp,rfl,_,rfl,?_⟩;rw[h1,cy rfl];refine bA ⟨_,rfl,u,rfl,⟨_,s1.seq (ag.of hU)⟩,λD hD=>jY (λj=>decide (ls.getD j 0∈cs)) (λj=>nV (ls.getD j 0)) (src_list (s1.seq (ag.of hU))) hD (c7 (by rw[au];omega)) (λj H2 Kt Kf hj hs hkt hkf=>?_) (λH2 hs hl2=>?_)⟩
  ·have hj':j<ls.length:=by rwa [au]at hj
   have eg:=lq hj';refine⟨_,rfl,_,rfl,t,_,rfl,.inl ((s1.trans hs).seq (ag.of hT)),by rw[eg];rfl,Ki _,_,rfl,?_⟩;rw[eg,if_neg Bool.false_ne_true,uZ];exact bq (λh=>⟨_,rfl,by first|exact hkt _ h (Same.refl _) | (rw[eg];exact hkt _ h (Same.refl _))⟩) (λh=>hkf _ (by simpa using h) (Same.refl _))
  ·have e:((List.range (ls.map nV).length).filter λj=>decide (ls.getD j 0∈cs)).map (λj=>nV (ls.getD j 0))=cs.map nV:=by
    rw[au];have q:∀l:List Nat,((List.range l.length).filter λj=>decide (l.getD j 0∈cs)).map (λj=>nV (l.getD j 0))=(l.filter λx=>decide (x∈cs)).map nV:=λl=>by
     have e1:=va l 0 (λx=>x);rw[Hn]at e1
     conv=>rhs;rw[<- e1]
     rw[xu,dY];rfl
    rw[q,hf]
   rw[e]at hl2;refine⟨_,rfl,JX (ag.of hl2) ((s1.trans hs).seq (ag.of hT)) ?_⟩;rw[cy rfl];exact kk _ (s1.trans hs)
abbrev sE:Stmt:=top 77
theorem Qe:bh ["_law_masks","_law_one","_law_other","_law_rows_here","_law_ones","_law_others","_law_numbers","_law_k","_law_row"] ["_law_masks","_law_one","_law_other","_law_rows_here"] (aB sE):=⟨rfl,rfl,rfl,by decide +kernel,rfl,by decide +kernel,by decide +kernel⟩
def Gg(K:W.Frag):Sp:=λvs H Q _=>∃(m l1 l2 l3:Nat) (M cs ds:List Nat) (J N:Nat->Nat->Nat) (us:List V),vs = [.ref m,.ref l1,.ref l2,.ref l3]/\ag K H m (M.map nV)/\Ev.bL M/\Two M.length (Ev.aF M) J N cs ds/\H l1=some (.lst ((bZ J N cs ds).map nV))/\H l2=some (.lst ((bZ J N ds cs).map nV))/\H l3=some (.lst us)/\Paired (outV J N cs ds H) (aZ J N cs ds) us/\(bp J N cs ds).Perm (aZ J N cs ds)/\∀H',Same H H'->Q (.bl true) H'
theorem Z7 (F:aS K "_law_rows" "_law_rows" sE f fd) (T:Txt mg) (ox:aC P w K mg base "_law_whole" ["_law_found"] 1 wH) (ou:aC P w K mg base "_law_is_chain" ["_law_masks","_law_things"] 2 (wx K)) (uo:aC P w K mg base "_law_up" ["_law_masks","_law_one","_law_other"] 2 (Gq K)) :
  aO P w K mg base aX 3 f fd ["_law_masks","_law_one","_law_other","_law_rows_here"] (Gg K):=by
 refine F.ok Qe (λvs H Q E h=>?_) (λcdv A outer s H vs Q E hr h=>?_)
 ·obtain⟨m,l1,l2,l3,M,cs,ds,J,N,us,rfl,_⟩:=h
  rfl
 ·obtain⟨m,l1,l2,l3,M,cs,ds,J,N,us,rfl,hm,hM,TW,g1,g2,g3,hp,hpm,kk⟩:=h
  have nd:=Qe.nd;have hu0:=hr.units;have hr0:=hr.mono (eD 2);have hu1:(A.deeper (envOfC "_law_rows" (aB sE) s.heap.objs.size f cdv)).units+1+0<cLine:=by omega
  have rn:=hM.len;have Wg:=TW.Km;have hfl:(aZ J N cs ds).length=us.length:=dh hp;have Yg:(bZ J N cs ds).length=us.length+1:=by rw[mE,hfl]
  have hsw:(aZ J N ds cs).length=us.length:=by
   have:=hpm.length_eq;rw[GD TW,au]at this;rw[this,hfl]
  have Yh:(bZ J N ds cs).length=us.length+1:=by rw[mE,hsw]
  have htl:(bp J N cs ds).length=us.length:=by rw[hpm.length_eq,hfl]
  have ec:∀l:List Nat,bP (l.map nV) (some 1) none=(l.drop 1).map nV:=λl=>by rw[show(1:Int)=((1:Nat):Int)from rfl,qD,ny]
  refine⟨_,(ax (aP (i:=4) nd rfl (Or.inl rfl) (Dm (K:=K) true true rfl rfl rfl T.list rfl T.zip (ae (pv 1) (ae (eL (fk (K:=K) rfl) (pv 1) (dS ak) fh) ah))))
   (ax (aP (i:=5) nd rfl (Or.inl rfl) (Dm (K:=K) true true rfl rfl rfl T.list rfl T.zip (ae (pv 2) (ae (eL (fk (K:=K) rfl) (pv 2) (dS ak) fh) ah))))
   (ax (bB (PW.pt (dJ (dA (cg (aY (k_ (K:=K) "list" rfl) rfl T.isinstance du (ae (pv 3) (ae (ky (v:=.ty "list") rfl T.list jW rfl) ah))))) (dJ (bu eU (aY (cI (K:=K) rfl) rfl T.len cT (ae (pv 3) ah)) (aY (cI (K:=K) rfl) rfl T.len cT (ae (pv 4) ah)) (a_ _)) (fj (bu eU (aY (cI (K:=K) rfl) rfl T.len cT (ae (pv 4) ah)) (aY (cI (K:=K) rfl) rfl T.len cT (ae (pv 5) ah)) (a_ _)))))) (aA (aQ dj)) bD)
   (ax (aP (i:=6) nd rfl (Or.inl rfl) (bV ah))
   (ax (cH cF rfl (cM rfl T.range (ae (aY (cI (K:=K) rfl) rfl T.len cT (ae (pv 3) ah)) ah)) (bf (i:=7) nd rfl (Or.inl rfl))
   (ax (aP (i:=8) nd rfl (Or.inl rfl) (aq (aV (K:=K) rfl) (pv 3) (pv 7) (λ_ _=>rfl)))
   (ax (bB (PW.pt (dJ (dA (cg (aY (k_ (K:=K) "tuple" rfl) rfl T.isinstance du (ae (pv 8) (ae (ky (v:=.ty "tuple") rfl T.tuple jX rfl) ah))))) (fj (bu eU (aY (cI (K:=K) rfl) rfl T.len cT (ae (pv 8) ah)) ak (a_ _))))) (aA (aQ dj)) bD)
   (ax (bB (dA (cg (aY (qA (K:=K) rfl rfl) rfl T.all boot_all (ae (c6 (own:=["_law_number"]) (fr:=[]) rfl (cp (aB sE) ["_law_masks","_law_one","_law_other","_law_rows_here","_law_ones","_law_others","_law_numbers","_law_k","_law_row"] rfl rfl (by decide +kernel)) (Dr (K:=K) rfl (pv 8)) (λ_ _ _ _=>⟨(bf (i:=0) (by decide +kernel:(["_law_number"]:List Str).Nodup) rfl (Or.inl rfl)),c9,(aL ox hr rfl (ae (pv 0) ah))⟩)) ah)))) (aA (aQ dj)) bD)
   (ax (bB (PW.pt (dJ (bu pe (aq (aK (K:=K) rfl) (pv 8) ak (λ_ _=>rfl)) ak (a_ _)) (dJ (bu vx (aq (aK (K:=K) rfl) (pv 8) ak (λ_ _=>rfl)) (aY (cI (K:=K) rfl) rfl T.len cT (ae (pv 5) ah)) (a_ _)) (fj (dA (cg (aL ou hr rfl (ae (pv 0) (ae (bV (ae (aq (aK (K:=K) rfl) (pv 8) ak (λ_ _=>rfl)) (ae (aq (aK (K:=K) rfl) (pv 8) ak (λ_ _=>rfl)) ah))) ah))))))))) (aA (aQ dj)) bD)
   (ax (bB (dA (cg (aL uo hr rfl (ae (pv 0) (ae (eL (QM (K:=K) rfl) (pv 8) (dS ak) fh) (ae (aq (aV (K:=K) rfl) (pv 4) (pv 7) (λ_ _=>rfl)) ah (ao nofun)) (ao nofun)) (ao nofun))))) (aA (aQ dj)) bD)
   (ax (bB (dA (cg (aL uo hr rfl (ae (pv 0) (ae (eL (QM (K:=K) rfl) (pv 8) (dS ak) fh) (ae (aq (aV (K:=K) rfl) (pv 5) (aq (aK (K:=K) rfl) (pv 8) ak (λ_ _=>rfl)) (λ_ _=>rfl)) ah (ao nofun)) (ao nofun)) (ao nofun))))) (aA (aQ dj)) bD)
   (aA (dI (eV (K:=K) rfl eM jh jQ iT (pv 6) (ae (aq (aK (K:=K) rfl) (pv 8) ak (λ_ _=>rfl)) ah)))))))))))
   (aA (aQ (gj (N4 (K:=K) 0 rfl hu1) (aY (Ti (K:=K) rfl hr0) rfl T.sorted S4 (ae (pv 6) ah)) (fL (Tb hr0) rfl T.list jW (ae (fL Tg (by rfl) T.range boot_range (ae (aY (cI (K:=K) rfl) rfl T.len cT (ae (pv 5) ah)) ah)) ah)) (a_ _))))))))),?_⟩
  refine⟨_,rfl,_,rfl,_,rfl,l1,_,rfl,ag.of g1,λq hq=>?_⟩;rw[ec];have sq:=Same.put (o:=.lst (((bZ J N cs ds).drop 1).map nV)) hq;refine⟨l1,q,_,_,rfl,sq.seq (ag.of g1),ag.of av,by rw[au,au];omega,λL1 ts1 H1 s1 hL1 Lx LQ Ky=>?_⟩;have hp1:=GX Lx LQ;have pF:=sq.trans s1;clear Lx LQ hL1 s1 sq hq;dsimp only[cK];refine⟨_,rfl,_,rfl,_,rfl,l2,_,rfl,pF.seq (ag.of g2),λq hq=>?_⟩;rw[ec];have sq:=Same.put (o:=.lst (((bZ J N ds cs).drop 1).map nV)) hq;refine⟨l2,q,_,_,rfl,sq.seq (pF.seq (ag.of g2)),ag.of av,by rw[au,au];omega,λL2 mV H2 s2 hL2 Ly LR mx=>?_⟩;have hp2:=GX Ly LR;have s12:=sq.trans s2;have da:=pF.trans s12;have Bq:=s12 _ _ Ky;have uT:=eK.same s12 hp1;clear Ly LR hL2 s2 sq hq Ky hp1;have e1:(ts1.map V.ref).length=us.length:=by rw[<- dh uT,sf,Yg];omega
  have e2:(mV.map V.ref).length=us.length:=by rw[<- dh hp2,sf,Yh];omega
  dsimp only[cK];show kC _ _ _ [some (.ref m),some (.ref l1),some (.ref l2),some (.ref l3),some (.ref L1),some (.ref L2),none,none,none] _;refine⟨_,rfl,_,_,_,rfl,.lst (da _ _ g3),rfl,_,rfl,bA ?_⟩;refine⟨_,rfl,l3,_,rfl,.inl (ag.of (da _ _ g3)),_,rfl,L1,_,rfl,.inl (ag.of Bq),rfl,_,rfl,?_⟩;rw[e1,cy rfl];refine bA ⟨_,rfl,L1,_,rfl,.inl (ag.of Bq),_,rfl,L2,_,rfl,.inl (ag.of mx),rfl,_,rfl,?_⟩;rw[e1,e2,cy rfl];refine bA ⟨by show 0<=sizeLine;decide,λNL K8=>?_⟩;have sN:=Same.put (o:=.lst ([]:List V)) K8;have en:((us.length:Int)).toNat=us.length:=dW _;dsimp only[cK];refine⟨_,rfl,l3,us,rfl,.inl (ag.of (sN _ _ (da _ _ g3))),_,rfl,by omega,by omega,fb (lo:=0) (n:=((us.length:Int)).toNat) (λi σ H3=>∃(v7 v8:Option V),σ = [some (.ref m),some (.ref l1),some (.ref l2),some (.ref l3),some (.ref L1),some (.ref L2),some (.ref NL),v7,v8]/\Same H2 H3/\H3 NL=some (.lst (((aZ J N cs ds).take i).map λr=>nV ((bp J N cs ds).idxOf r))))
   ⟨none,none,rfl,sN,by rw[av,List.take_zero];rfl⟩ ?_ ?_⟩
  ·rintro i σ H3 hi ⟨v7,v8,rfl,s3,gN⟩
   rw[en]at hi;have t3:=da.trans s3;obtain⟨r,hr',t,e3,ht⟩:=eJ (outV.same t3 hp) (ay hi);have hmem:=dr hr';have ROW:=TW.row hmem;have ROT:=TW.abH hmem;obtain⟨o1,o2,o3⟩:=TW.others hmem;have hx:us[i]?=some (.ref t):=by rw[ay hi,e3]
   refine⟨_,rfl,_,rfl,l3,us,_,.ref t,rfl,rfl,ag.of (t3 _ _ g3),at0 hx,?_⟩;refine⟨_,rfl,_,_,_,rfl,.tup ht,rfl,_,rfl,bA ?_⟩;refine⟨_,rfl,t,_,rfl,.inr (az.of ht),rfl,_,rfl,bA ?_⟩;refine⟨_,rfl,t,rfl,⟨_,az.of ht⟩,λD hD=>eQ (λ_=>.bl true) (Gv (az.of ht)) hD (by show 3<sizeLine;decide) (λj H4 Kt hj hs hk=>?_) (λH4 hs hl=>?_)⟩
   ·obtain⟨z,ez⟩:∃z:Int,[nV ((bp J N cs ds).idxOf r),nV (cw J N cs ds r),nV (bS N cs ds r)].getD j .non = .int z:=by
     have:j<3:=hj
     match j,this with
     |0,_=>exact⟨_,rfl⟩
     |1,_=>exact⟨_,rfl⟩
     |2,_=>exact⟨_,rfl⟩
    refine⟨_,rfl,_,rfl,.inl ⟨z,ez⟩,λ_=>hk _ (Same.refl _),λ⟨l,e⟩=>?_⟩;have e:[nV ((bp J N cs ds).idxOf r),nV (cw J N cs ds r),nV (bS N cs ds r)].getD j .non = .ref l:=e;rw[ez]at e;cases e
   refine⟨D,[true,true,true],rfl,ag.of hl,_,rfl,bA ?_⟩;have s4:=s3.trans hs;have t4:=da.trans s4;have rB:=hs _ _ ht;have Va:=hs _ _ gN;refine⟨_,rfl,t,_,0,nV ((bp J N cs ds).idxOf r),rfl,rfl,az.of rB,aI (j:=0) rfl,_,_,rfl,rfl,_,rfl,bq (λh=>?_) (λ_=>?_)⟩
   ·rw[cJ]at h
    omega
   refine⟨_,rfl,t,_,0,nV ((bp J N cs ds).idxOf r),rfl,rfl,az.of rB,aI (j:=0) rfl,_,rfl,L2,_,rfl,.inl (ag.of (s4 _ _ mx)),_,_,rfl,rfl,_,rfl,bq (λh=>?_) (λ_=>?_)⟩
   ·rw[cJ,e2]at h
    omega
   refine⟨_,rfl,_,rfl,t,_,1,nV (cw J N cs ds r),rfl,rfl,az.of rB,aI (j:=1) rfl,_,rfl,t,_,2,nV (bS N cs ds r),rfl,rfl,az.of rB,aI (j:=2) rfl,by show 2<=sizeLine;decide,λq hq=>?_⟩;have sq:=Same.put (o:=.lst [nV (cw J N cs ds r),nV (bS N cs ds r)]) hq;refine⟨m,q,M,[cw J N cs ds r,bS N cs ds r],rfl,sq.seq (t4.seq hm),hM,av,Tw ROW.ll ROW.lh ROW.ne' ROW.r',by show 2<=100;decide,λH5 s5=>⟨_,rfl,bA ?_⟩⟩;have bG:=sq.trans s5;have mO:=s4.trans bG;have t5:=da.trans mO;have Ls:=bG _ _ rB;have Vb:=bG _ _ Va;clear s5 sq hq;have cut:bP [nV ((bp J N cs ds).idxOf r),nV (cw J N cs ds r),nV (bS N cs ds r)] (some 1) none = [nV (cw J N cs ds r),nV (bS N cs ds r)]:=rfl;have NT:¬ (HT.bj [nV ((bp J N cs ds).idxOf r),nV (cw J N cs ds r),nV (bS N cs ds r)].length 0 (some 1)=0/\HT.bj [nV ((bp J N cs ds).idxOf r),nV (cw J N cs ds r),nV (bS N cs ds r)].length [nV ((bp J N cs ds).idxOf r),nV (cw J N cs ds r),nV (bS N cs ds r)].length none = [nV ((bp J N cs ds).idxOf r),nV (cw J N cs ds r),nV (bS N cs ds r)].length):=λz=>absurd (show HT.bj 3 0 (some 1)=0 from z.1) (by decide);obtain⟨y1,hy1,ta,rfl,qS⟩:=ku (eK.same mO uT) (r9 (cs:=bZ J N cs ds) (i:=i) (by omega));rw[TW.CQ hr',CT hr']at qS;refine⟨_,rfl,_,rfl,_,rfl,t,_,rfl,az.of Ls,NT,λq hq=>?_⟩;rw[cut];have sq:=Same.put (o:=.tup [nV (cw J N cs ds r),nV (bS N cs ds r)]) hq;refine⟨_,rfl,_,rfl,L1,_,_,.ref ta,rfl,rfl,ag.of (sq _ _ (mO _ _ Bq)),at0 hy1,m,q,ta,cw J N cs ds r,bS N cs ds r,j_ J N cs ds r,dR J N cs ds r,M,rfl,sq.seq (t5.seq hm),hM,az.of av,az.of (sq _ _ qS),ROW.ll,ROW.lh,ROW.li,ROW.CV,λc H6 s6 hc=>?_⟩;obtain rfl:c=true:=hc.mpr (TW.Rq ROW);refine⟨_,rfl,bA ?_⟩;have DP:=sq.trans s6;have vP:=mO.trans DP;have t6:=da.trans vP;have oO:=DP _ _ Ls;have Vc:=DP _ _ Vb;clear s6 sq hq hc qS hy1;obtain⟨y2,hy2,tb,rfl,uI⟩:=ku (eK.same vP hp2) (r9 (cs:=bZ J N ds cs) (i:=(bp J N cs ds).idxOf r) o1);rw[o2,o3]at uI;refine⟨_,rfl,_,rfl,_,rfl,t,_,rfl,az.of oO,NT,λq hq=>?_⟩;rw[cut];have sq:=Same.put (o:=.tup [nV (cw J N cs ds r),nV (bS N cs ds r)]) hq;refine⟨_,rfl,_,rfl,t,_,0,nV ((bp J N cs ds).idxOf r),rfl,rfl,az.of (sq _ _ oO),aI (j:=0) rfl,L2,_,_,.ref tb,rfl,rfl,ag.of (sq _ _ (vP _ _ mx)),aI hy2,m,q,tb,cw J N cs ds r,bS N cs ds r,j_ J N ds cs r.swap,dR J N ds cs r.swap,M,rfl,sq.seq (t6.seq hm),hM,az.of av,az.of (sq _ _ uI),ROT.ll,ROT.lh,ROT.li,ROT.CV,λc H7 s7 hc=>?_⟩;obtain rfl:c=true:=hc.mpr (TW.Rq ROT);refine⟨_,rfl,bA ?_⟩;have iA:=sq.trans s7;have s7':=vP.trans iA;have WW:=iA _ _ oO;have KC:=iA _ _ Vc;refine⟨_,rfl,.inl ⟨rfl,_,ag.of KC⟩,_,rfl,t,_,0,nV ((bp J N cs ds).idxOf r),rfl,rfl,az.of WW,aI (j:=0) rfl,NL,_,nV ((bp J N cs ds).idxOf r),rfl,rfl,KC,c7 (by rw[au,kK];omega),?_⟩;refine⟨_,_,rfl,λb o e=>by rw[aG (dg e K8)];exact s7' _ _ e,?_⟩;rw[av];have hif:i<(aZ J N cs ds).length:=by omega
   rw[List.take_succ,hr',gx];rfl
  ·rintro σ H3 ⟨v7,v8,rfl,s3,gN⟩
   rw[en,<- hfl,nA]at gN;have t3:=da.trans s3;have Vd:H3 NL=some (.lst (((aZ J N cs ds).map λr=>(((bp J N cs ds).idxOf r:Nat):Int)).map V.int)):=by rw[gN,dY];rfl
   refine⟨_,rfl,NL,_,rfl,ag.of Vd,by rw[au];omega,λp ms hp' hml hsr=>?_⟩;obtain⟨q1,q2⟩:=hsr (by rw[au];omega);have zt:=ab8 (q1.trans (Xg hpm (acN hpm))) q2;subst zt;have sp:=Same.put (o:=.lst (((List.range (bp J N cs ds).length).map λi:Nat=>(i:Int)).map V.int)) hp';refine⟨_,rfl,L2,_,rfl,.inl (ag.of (sp _ _ (s3 _ _ mx))),_,rfl,λrg WR=>?_⟩;have QT:=Same.put (o:=.rng 0 (((mV.map V.ref).length:Nat):Int)) WR;refine⟨rg,(mV.map V.ref).length,rfl,av,by omega,λl hl=>?_⟩;have sl:=Same.put (o:=.lst ((List.range (mV.map V.ref).length).map λ(i:Nat)=>V.int i)) hl;have gp:=sl _ _ (QT _ _ (jF (o:=.lst (((List.range (bp J N cs ds).length).map λi:Nat=>(i:Int)).map V.int)) hp'));have gl:=jF (o:=.lst ((List.range (mV.map V.ref).length).map λ(i:Nat)=>V.int i)) hl;have VF:=gp.trans (show some (HO.lst (((List.range (bp J N cs ds).length).map λi:Nat=>(i:Int)).map V.int))=some (.lst ((List.range (bp J N cs ds).length).map nV))by rw[dY];rfl);refine JX (c:=List.range (bp J N cs ds).length) (d:=List.range (mV.map V.ref).length) (ag.of VF) (ag.of gl) ?_;have ed:decide (List.range (bp J N cs ds).length=List.range (mV.map V.ref).length)=true:=by rw[htl,e2];exact cy rfl
   rw[ed];exact kk _ (t3.trans (sp.trans (QT.trans sl)))
abbrev Ej:Stmt:=top 78
theorem Qk:bh ["_law_masks","_law_one","_law_other","_law_told"] ["_law_masks","_law_one","_law_other","_law_told"] (aB Ej):=⟨rfl,rfl,rfl,by decide +kernel,rfl,by decide +kernel,by decide +kernel⟩
def Gr(K:W.Frag):Sp:=λvs H Q _=>∃(m t u tt l1 l2 l3:Nat) (M cs ds:List Nat) (J N:Nat->Nat->Nat) (us:List V),vs = [.ref m,.ref t,.ref u,.ref tt]/\ag K H m (M.map nV)/\Ev.bL M/\Two M.length (Ev.aF M) J N cs ds/\H t=some (.lst (cs.map nV))/\H u=some (.lst (ds.map nV))/\H tt=some (.tup [.ref l1,.ref l2,.ref l3])/\H l1=some (.lst ((bZ J N cs ds).map nV))/\H l2=some (.lst ((bZ J N ds cs).map nV))/\H l3=some (.lst us)/\Paired (outV J N cs ds H) (aZ J N cs ds) us/\(bp J N cs ds).Perm (aZ J N cs ds)/\∀H',Same H H'->Q (.bl true) H'
theorem aah (F:aS K "_law_well" "_law_well" Ej f fd) (T:Txt mg) (um:aC P w K mg base "_law_grown" ["_law_masks","_law_chain_here","_law_told"] 3 (Fv K)) (yO:aC P w K mg base "_law_rows" ["_law_masks","_law_one","_law_other","_law_rows_here"] 3 (Gg K)) :
  aO P w K mg base aX 4 f fd ["_law_masks","_law_one","_law_other","_law_told"] (Gr K):=by
 refine F.ok Qk (λvs H Q E h=>?_) (λcdv A outer s H vs Q E hr h=>?_)
 ·obtain⟨m,t,u,tt,l1,l2,l3,M,cs,ds,J,N,us,rfl,_⟩:=h
  rfl
 ·obtain⟨m,t,u,tt,l1,l2,l3,M,cs,ds,J,N,us,rfl,hm,hM,TW,hT,hU,htt,g1,g2,g3,hp,hpm,kk⟩:=h
  have nd:=Qk.nd;have rn:=hM.len;have b1:=TW.oZ.len TW.M.G;have b2:=TW.swap.oZ.len TW.M.G;refine⟨_,(ax (bB (PW.pt (dJ (dA (cg (aY (k_ (K:=K) "tuple" rfl) rfl T.isinstance du (ae (pv 3) (ae (ky (v:=.ty "tuple") rfl T.tuple jX rfl) ah))))) (fj (bu eU (aY (cI (K:=K) rfl) rfl T.len cT (ae (pv 3) ah)) ak (a_ _))))) (aA (aQ dj)) bD)
   (ax (bB (PW.pt (dJ (dA (cg (aL um hr rfl (ae (pv 0) (ae (pv 1) (ae (aq (aK (K:=K) rfl) (pv 3) ak (λ_ _=>rfl)) ah (ao nofun)) (ao nofun)) (ao nofun))))) (fj (dA (cg (aL um hr rfl (ae (pv 0) (ae (pv 2) (ae (aq (aK (K:=K) rfl) (pv 3) ak (λ_ _=>rfl)) ah (ao nofun)) (ao nofun)) (ao nofun)))))))) (aA (aQ dj)) bD)
   (aA (aQ (aL yO hr rfl (ae (pv 0) (ae (aq (aK (K:=K) rfl) (pv 3) ak (λ_ _=>rfl)) (ae (aq (aK (K:=K) rfl) (pv 3) ak (λ_ _=>rfl)) (ae (aq (aK (K:=K) rfl) (pv 3) ak (λ_ _=>rfl)) ah (ao nofun)) (ao nofun)) (ao nofun)) (ao nofun))))))),?_⟩
  refine⟨_,rfl,_,_,_,rfl,.tup htt,rfl,_,rfl,bA ?_⟩;refine⟨_,rfl,tt,_,rfl,.inr (az.of htt),rfl,_,rfl,bA ?_⟩;refine⟨_,rfl,_,rfl,_,rfl,tt,_,0,.ref l1,rfl,rfl,az.of htt,aI (j:=0) rfl,m,t,l1,M,cs,_,rfl,hm,hM,hT,g1,TW.c.pos,TW.oZ,by omega,rfl,TW.Nb,TW.grown,λH1 s1=>⟨_,rfl,bA ?_⟩⟩;refine⟨_,rfl,_,rfl,_,rfl,tt,_,1,.ref l2,rfl,rfl,az.of (s1 _ _ htt),aI (j:=1) rfl,m,u,l2,M,ds,_,rfl,s1.seq hm,hM,s1 _ _ hU,s1 _ _ g2,TW.d.pos,TW.swap.oZ,by omega,rfl,TW.swap.Nb,TW.swap.grown,λH2 s2=>⟨_,rfl,bA ?_⟩⟩;have s12:=s1.trans s2;exact⟨_,rfl,_,rfl,tt,_,0,.ref l1,rfl,rfl,az.of (s12 _ _ htt),aI (j:=0) rfl,_,rfl,tt,_,1,.ref l2,rfl,rfl,az.of (s12 _ _ htt),aI (j:=1) rfl,_,rfl,tt,_,2,.ref l3,rfl,rfl,az.of (s12 _ _ htt),aI (j:=2) rfl,m,l1,l2,l3,M,cs,ds,J,N,us,rfl,s12.seq hm,hM,TW,s12 _ _ g1,s12 _ _ g2,s12 _ _ g3,outV.same s12 hp,hpm,λH3 s3=>kk _ (s12.trans s3)⟩
end
end My
namespace L2
open PySem PySem.Spec PyProof.Rows
def Sf(X:Cx)(XE:XK)(σ0:St):Value->Shared->Prop:=λex s'=>∃pins H1 s1,Inv X pins σ0 H1 s1/\bW X.prog X.w X.stack H1 s1 XE ex s'
abbrev Cx.jJ (X:Cx) (pins:List (Addr × Obj)) (XE:XK) (σ0:St):Cx:=(X.pA pins).wish (Sf (X.pA pins) XE σ0)
def acj(σ0:St)(sp:Sp)(E:XK)(t:TA):TE:=λσ H Q=>σ=σ0/\pM sp [] E t σ H Q
section
variable {X:Cx} {pins:List (Addr × Obj)} {XE:XK} {σ0:St} {x:Str} {ps:List Str} {k k':Nat} {sp:Sp} {e:Expr} {es:List Expr} {t:TA} {p pos:Pos}
theorem abL{CX:gw}{f:Addr}{fd:FuncData}{dP:List V}{ds:List Value}{E:XK}{pins:List (Addr × Obj)}{σ:St}{H:Hp}{s:Shared}{Q:VK}{us:List Value}{vs:List V}(F:aO X.prog X.w X.K X.mg X.base CX k f fd ps sp)(hr:bR k X.A)(hb:Binds X.K fd ps ds)(hd:Vals dP ds)(hx:∀e s',CX X.stack H s E e s'->X.xe e s')(I:Inv X pins σ H s)(r:Vals vs us)(h:sp (vs++dP) H Q E):wpAny (model X.prog X.w) X.A (call (.ref f) us) (EP X pins σ Q) X.xe s:=by
 have r2:Vals (vs++dP) (us++ds):=r.append hd;have hl:(us++ds).length=ps.length:=by rw[<- r2.length];exact F.len _ _ _ _ h
 refine kQ (jR (F.run X.A X.stack s H ⟨us,[]⟩ (us++ds) (vs++dP) Q E hr I.env0 (hb s us I.cu hl) r2 h) λr s' hq=>?_);cases r with
 |error e=>exact hx e s' hq
 |ok fl =>
  cases fl with
  |ret u=>exact I.after hq
  |next=>exact False.elim hq
  |brk=>exact False.elim hq
  |cont=>exact False.elim hq
theorem aaF (c:h7 X.prog X.w X.K X.mg X.base x ps k sp) (hr:bR k' X.A) (hg:Gl (X.jJ pins XE σ0) x) (ha:PA (X.jJ pins XE σ0) (e::es) t) (hk:k<=k':=by decide) (hdb:(x==("__debug__" : Str))=false:=by decide)
  (he:starEach (e::es) (X.jJ pins XE σ0).env=(false,eval e (X.jJ pins XE σ0).env)::starEach es (X.jJ pins XE σ0).env:=by rfl) (hpl:(backTo pos (starEach es (X.jJ pins XE σ0).env)).any (·.1)=false:=by rfl):PE (X.jJ pins XE σ0) (.Call (.Name x p) (e::es) [] pos) (acj σ0 sp XE t):=by
 obtain⟨f,fd,F,hm,kp,b⟩:=c.ex;intro lB s σ H Q I h;obtain⟨rfl,h⟩:=h;refine lX (kg I hg hm ?_ hdb);refine W.callWith_K (h₀:=X.base) I.ok.mod.iR kp (aM (ha pos lB s σ H _ I h) λus s1 ⟨vs,H1,I1,r,q⟩=>⟨I1.cu,?_⟩) he hpl;exact abL (X:=X.jJ pins XE σ) F (hr.mono hk) b .nil (λe s' hcx=>⟨lB,H1,s1,I1.hZ,hcx⟩) I1 r q
end
def acG(K:W.Frag)(Dc:Addr)(i:Nat)(tb:XK->St->TS)(ts:TS):TS:=λD σ H=>∃XE:XK,tb XE σ D σ H/\∀cls dx H',XE cls dx H'->∃C,cls = .ref C/\W.exmOne K (.ref C) (.ref Dc)=some true /\
 ∀e,H' e=none->ts {nx:=λσ' RP=>D.nx (σ'.set i none) RP,rt:=λ_ _=>False} (σ.set i (some (.ref e))) (upd H' e (jb e C dx))
section
variable {X:Cx} {body suite:List Stmt} {b0:Stmt} {c n:Str} {np hpos pos:Pos} {i:Nat} {Dc:Addr} {tb:XK->St->TS} {ts:TS}
theorem SP.wR{XE:XK}{σ0:St}{pins:List (Addr × Obj)}{D:Ends}{f:Flow}{s':Shared}(h:SP (X.jJ pins XE σ0) [] D f s'):SP X pins D f s':=by
 cases f with
 |next=>obtain⟨σ',H',I,q⟩:=h;exact⟨σ',H',I.hZ.sM,q⟩
 |brk=>obtain⟨σ',H',I,q⟩:=h;exact⟨σ',H',I.hZ.sM,q⟩
 |cont=>obtain⟨σ',H',I,q⟩:=h;exact⟨σ',H',I.hZ.sM,q⟩
 |ret u=>obtain⟨v,σ',H',I,r,q⟩:=h;exact⟨v,σ',H',I.hZ.sM,r,q⟩
theorem aa6(hN:X.N.Nodup)(hi:X.N[i]?=some n)(hloc:X.env.scope.names.lookup n=some .local)(hg:Gl X c)(hm:X.mg c=some (.ref Dc))(hst:X.stack=X.env::X.outer)(hf:X.env.frame=some X.env.locals)(Wf:X.ex = [])
  (hb:∀XE pins σ0,fA (X.jJ pins XE σ0) body (tb XE σ0)) (hs:∀e,fA (X.marked e) (b0::suite) ts) (hd:(c==("__debug__" : Str))=false:=by decide) :
  PS X (.Try body [.ExceptHandler (some (.Name c np)) (some n) (b0::suite) hpos] [] [] pos) (acG X.K Dc i tb ts):=by
 intro pins s σ H D I h;obtain⟨XE,h⟩:=h;refine wpAny_Try_except (d8 (hb XE pins σ [] s σ H D (I.pA.wish _) h.1) (λf s1 q=>?_) λex s2 hx=>?_)
 ·cases f with
  |next=>exact tZ q.wR
  |brk=>exact q.wR
  |cont=>exact q.wR
  |ret u=>exact q.wR
 obtain⟨lB,H1,s1,I1,ea,C,dx,T,H2,rfl,os,bare,un,hok,xr,n1,n2,f1,f2,hE⟩:=hx;obtain⟨C',hC',hex,hs'⟩:=h.2 _ _ _ hE;cases hC';have hfr:X.A.frames=some (X.env::X.outer):=by rw[<- hst];exact I1.ok.frames
 have nx:∀b:Addr,b ∉ ([]:List Addr):=λb z=>nomatch z;have hl:s2.heap.FunFrames X.base (X.env::X.outer):=by
  rw[<- hst];exact uD (λb hb o e=>un.any e (I1.mU b hb) (nx b)) I1.stack
 have nf:∀b∈frs X.stack,H2 b=none:=λb hb=>by
  obtain⟨_,o,ho,_⟩:=I1.stack.mem hb;exact un.free b o ho (I1.mU b hb) (nx b)
 have hc:∀b∈[ea,T],s1.heap.get? b=none:=λb z=>by
  rcases bx.mp z with z|z
  ·rw[z];exact f1
  ·rw[ig.mp z];exact f2
 have nc:∀b∈[ea,T],H2 b=none:=λb z=>by
  rcases bx.mp z with z|z
  ·rw[z];exact n1
  ·rw[ig.mp z];exact n2
 have h0:X.s₀.heap.get? ea=none:=by
  cases z:X.s₀.heap.get? ea with
  |none=>rfl
  |some o =>
   obtain⟨o',z'⟩:=I1.base.there ea o z (by show ea ∉ X.ex;rw[Wf];exact nx ea);rw[f1]at z';cases z'
 have hpn:∀p∈X.pn++pins,p.1≠ea:=λp hp z=>by
  have:=(I1.pin p (kL _ hp)).1;rw[z,f1]at this;cases this
 have at_:∀{h5:Heap} {T5:Addr} {fl:Value},Un (frs X.stack) [] H1 H2 s1.heap h5->bM X.prog X.w H2 h5->gQ h5 ea (.ref C) dx T5 fl->Inv X pins σ (upd H2 ea (jb ea C dx)) {s2 with heap:=h5}:=by
  intro h5 T5 fl un5 WL x5;obtain⟨hh,gg,dd,tt,oo⟩:=s2;obtain rfl:oo=s1.os:=os;have J:Inv X pins σ H2 {s1 with heap:=h5,gens:=gg,drawn:=dd,toks:=tt}:=(I1.call (h':=h5) (g':=gg) (d':=dd) (t':=tt) (ch:=[]) un5 WL bare (λb z=>absurd z (nx b))).sM;obtain⟨oe,vs,e1,e2,e3,e4,_⟩:=x5.ex;exact J.track e1 e4 n1 h0 hpn (UL e1 e2 e3 e4)
 refine NR hfr hl hf xr λh3 T' m hT x=>?_;refine uC x λh4 m4 x4=>?_;have M4:Moved (frs X.stack) [ea,T] s2.heap h4:=by rw[hst];exact m.fresh m4 hT
 have Ro:=Rp un M4 hc;have Ln:=uS hok M4 nf nc;have J4:=at_ Ro Ln x4;obtain⟨oe,vs,e1,e2,e3,e4,_⟩:=x4.ex;refine wpAny_handleBy_cons (codeAny_handlers_test (kg (X:=X.marked ea) J4.marked hg hm ?_ hd)) (by intro q;cases q);have LT:W.Looks (model X.prog X.w) h4 (typeOf (.ref ea)) (.ref C):=e2▸(W.Looks.ld e1).andThen .now;refine W.exm_one (K:=X.K) J4.cu LT hex _ _ _ _ (λ_ _ z=>z) ?_;refine codeAny_handlers_suite_as (uC x4 λh5 m5 x5=>?_);have M5:Moved (frs X.stack) [T'] h4 h5:=m5.mono (λ_ z=>nomatch z) λ_ z=>z;have fT:∀b∈[T'],s1.heap.get? b=none:=λb z=>by rw[ig.mp z];exact NK un hT
 have J5:=at_ (Rp Ro M5 fT) (uS Ln M5 nf λb z=>by rw[ig.mp z];exact hok.fresh hT) x5;refine wJ J5 hN hi (.inl hloc) (show RelV (.ref ea) (Value.ref ea)from rfl) (λs6 I6 _=>?_) (.inr hloc);refine d8 (hs ea pins s6 _ _ _ I6.marked (hs' ea n1)) (λf s7 q7=>?_) λ_ _ z=>False.elim z;cases f with
 |next =>
  obtain⟨σ7,H7,I7,q⟩:=q7;have I7:=I7.unmarked I.ok;obtain⟨m7,Lj,_⟩:=id I7.loc;refine wpAny_nameGoes_keeps hloc Lj (by rw[I7.ok.kind];rfl) λh8 v Wz WT=>?_;exact⟨_,_,I7.gone hN hi hloc Lj Wz (λx hx=>if_neg hx) WT,q⟩
 |brk=>obtain⟨_,_,_,q⟩:=q7;exact False.elim q
 |cont=>obtain⟨_,_,_,q⟩:=q7;exact False.elim q
 |ret u=>obtain⟨_,_,_,_,_,q⟩:=q7;exact False.elim q
end
end L2
namespace My
open PySem PySem.Spec PyProof.Rows L2
theorem abF{K:W.Frag}{H:Hp}{us:List V}(h:∀z∈us,∃a,z = .ref a):jd K H 1 us us λ_=>true:=by
 refine⟨rfl,λj x y hx hy=>?_⟩;rw[hx]at hy;cases hy;obtain⟨a,rfl⟩:=h x (dr hx);exact bK.same 1 a
theorem vk{K:W.Frag}{H:Hp}{c:List Nat}:jd K H 1 (c.map nV) (c.map nV) λ_=>true:=by
 refine⟨rfl,λj x y hx hy=>?_⟩;rw[hx]at hy;cases hy;rw[bX]at hx;cases e:c[j]? with
 |none=>rw[e]at hx;cases hx
 |some z =>
  rw[e]at hx;cases hx;have:=bK.int (K:=K) (H:=H) 1 (z:Int) (z:Int);rw[qw]at this;exact this
theorem aav{J N:Nat->Nat->Nat}{cs ds:List Nat}{H:Hp}{l:List (Nat × Nat)}{us:List V}(h:Paired (outV J N cs ds H) l us):∀z∈us,∃a,z = .ref a:=λz hz=>by
 obtain⟨i,hi,e⟩:=ie hz;obtain⟨q,_,t,e2,_⟩:=eJ h (show us[i]?=some z by rw[ay hi,e]);exact⟨t,e2⟩
theorem aau{J N:Nat->Nat->Nat}{cs ds:List Nat}{K:W.Frag}{H:Hp}{l:List (Nat × Nat)}{us ws:List V}(h1:Paired (outV J N cs ds H) l us)(h2:Paired (outV J N cs ds H) l ws):jd K H 1 us ws λ_=>true:=by
 refine⟨by rw[<- dh h1,<- dh h2],λj x y hx hy=>?_⟩;obtain⟨q,e1,t,rfl,e3⟩:=eJ h1 hx;obtain⟨q',e1',u,rfl,e3'⟩:=eJ h2 hy;rw[e1]at e1';cases e1';have:=bK.tup (K:=K) (H:=H) 0 t u _ _ (λ_=>true) (az.of e3) (az.of e3') rfl λk x y hx hy=>by
  rw[hx]at hy;cases hy;have self:∀z:Int,bK K H 0 (.int z) (.int z) true:=λz=>by
   have:=bK.int (K:=K) (H:=H) 0 z z;rw[qw]at this;exact this
  match k,hx with
  |0,hx=>cases hx;exact self _
  |1,hx=>cases hx;exact self _
  |2,hx=>cases hx;exact self _
  |k+3,hx=>simp at hx
 exact this
theorem acK{K:W.Frag}{H:Hp}{a1 a2 a3 b1 b2 b3:Addr}{J N:Nat->Nat->Nat}{cs ds c d:List Nat}{l:List (Nat × Nat)}{us ws:List V}(x1:H a1=some (.lst (c.map nV)))(x2:H a2=some (.lst (d.map nV)))(x3:H a3=some (.lst us))(y1:H b1=some (.lst (c.map nV)))(y2:H b2=some (.lst (d.map nV)))(y3:H b3=some (.lst ws))(h1:Paired (outV J N cs ds H) l us)(h2:Paired (outV J N cs ds H) l ws):jd K H 2 [.ref a1,.ref a2,.ref a3] [.ref b1,.ref b2,.ref b3] λ_=>true:=by
 refine⟨rfl,λj x y hx hy=>?_⟩;have lists:∀{a b:Addr} {xs ys:List V},H a=some (.lst xs)->H b=some (.lst ys)->jd K H 1 xs ys (λ_=>true)->bK K H 2 (.ref a) (.ref b) true:=λ{a b xs ys} p q i=>by
  have:=bK.lst (K:=K) (H:=H) 1 a b _ _ _ (ag.of p) (ag.of q) i.1 i.2;rw[yp]at this;exact this
 match j,hx,hy with
 |0,hx,hy=>cases hx;cases hy;exact lists x1 y1 vk
 |1,hx,hy=>cases hx;cases hy;exact lists x2 y2 vk
 |2,hx,hy=>cases hx;cases hy;exact lists x3 y3 (aau h1 h2)
section
variable {P:Program} {w:World} {K:W.Frag} {mg:Str->Option Value} {base:Heap} {f:Addr} {fd:FuncData} {a0 a1 a2 a3 a4 a5 a6 a7 a8 a9 a10 a11 a12 a13 a14 aE:Addr}
abbrev sD:Stmt:=top 79
theorem Qc:bh ["_law_order_here","_law_masks","_law_one","_law_other","_law_even","_law_handed_here","_law_kept","_law_told","_law_first","_law_k","_law_e"] ["_law_order_here","_law_masks","_law_one","_law_other","_law_even"] (aB sD):=⟨rfl,rfl,rfl,by decide +kernel,rfl,by decide +kernel,by decide +kernel⟩
def Gf(K:W.Frag)(C Pt:Addr):Sp:=λvs H Q _=>∃(p m t u:Nat) (M cs ds:List Nat) (R:Nat->Nat->Bool) (ev:Bool),vs = [.ref p,.ref m,.ref t,.ref u,.bl ev]/\fQ C H p M.length R/\Good M.length R/\(∀a b,a<M.length->b<M.length->R a b=Ev.aF M a b)/\Ev.bL M/\ag K H m (M.map nV)/\H Pt=some (.lam mC mD)/\H t=some (.lst (cs.map nV))/\H u=some (.lst (ds.map nV))/\cz M.length (Ev.aF M) cs/\cz M.length (Ev.aF M) ds/\cs.getD 0 0=ds.getD 0 0/\cs.getD (cs.length - 1) 0=ds.getD (ds.length - 1) 0 /\
 (ev=true->∀a b c,a<M.length->b<M.length->c<M.length->¬ Un M.length (Ev.aF M) a b c)/\(ev=false->∃a b c,a<M.length/\b<M.length/\c<M.length/\Un M.length (Ev.aF M) a b c)/\∀H',Same H H'->Q (.bl true) H'
theorem Z6 {C Pt:Addr} (F:aS K "_law_right" "_law_right" sD f fd) (T:Txt mg) (TC:gP K C) (Er:m9 mg a0 a1 a2 a3 a4 a5 a6 a7 a8 a9 a10 a11 a12 a13 a14 aE) (mL:nX K a0 a1 a2 a3 a4 a5 a6 a7 a8 a9 a10 a11 a12 a13 a14 aE a14 14) (lL:xh K a14 "five")
  (uy:h7 P w K mg base "longer" ["order","one","other"] 7 (FJ K C a0 a3 a14 Pt)) (yF:aC P w K mg base "_law_class" ["_law_e"] 1 (Fj λC j=>nX K a0 a1 a2 a3 a4 a5 a6 a7 a8 a9 a10 a11 a12 a13 a14 aE C j))
  (yJ:aC P w K mg base "_law_is_five" ["_law_masks","_law_five"] 2 (Fs K)) (yR:aC P w K mg base "_law_well" ["_law_masks","_law_one","_law_other","_law_told"] 4 (Gr K)) :
  aO P w K mg base aX 8 f fd ["_law_order_here","_law_masks","_law_one","_law_other","_law_even"] (Gf K C Pt):=by
 refine F.ok Qc (λvs H Q E h=>?_) (λcdv A outer s H vs Q E hr h=>?_)
 ·obtain⟨p,m,t,u,M,cs,ds,R,ev,rfl,_⟩:=h
  rfl
 ·obtain⟨p,m,t,u,M,cs,ds,R,ev,rfl,hO,G,hR,hM,hm,hP,hT,hU,hC,hD,h0,h1,hev,uR,kk⟩:=h
  have nd:=Qc.nd;have hu0:=hr.units;have hu2:(A.deeper (envOfC "_law_right" (aB sD) s.heap.objs.size f cdv)).units+1+1<cLine:=by omega
  have W3:(A.deeper (envOfC "_law_right" (aB sD) s.heap.objs.size f cdv)).units+1+2<cLine:=by omega
  have rn:=hM.len;have hR':∀a b,a<M.length->b<M.length->Ev.aF M a b=R a b:=λa b ha hb=>(hR a b ha hb).symm;have c1:=(hC.congr hR').di;have c2:=(hD.congr hR').di;have ce:=Uo h0 h1;have lc:=hC.len (rL hM);have ld:=hD.len (rL hM);obtain⟨J,hJ⟩:=Vz G;obtain⟨N,hN⟩:=VB G;have hTi:=hT;have Lb:=hU;rw[<- rG]at hTi Lb;refine⟨_,(ax (aP (i:=5) nd rfl (Or.inl rfl) (bV (ae (fL (oA (K:=K) rfl) rfl T.list jW (ae (pv 2) ah)) (ae (fL (oA (K:=K) rfl) rfl T.list jW (ae (pv 3) ah)) ah))))
   (ax (aP (i:=6) nd rfl (Or.inl rfl) jB)
   (ax (aP (i:=7) nd rfl (Or.inl rfl) jB)
   (ax (aa6 (i:=10) nd rfl rfl rfl Er.ClimbError rfl rfl rfl (λXE pins σ0=>(aA (aP (i:=7) nd rfl (Or.inl rfl) (aaF uy hr rfl (ae (pv 0) (ae (aq (aV (K:=K) rfl) (pv 5) ak (λ_ _=>rfl)) (ae (aq (aV (K:=K) rfl) (pv 5) ak (λ_ _=>rfl)) ah (ao nofun)) (ao nofun)) (ao nofun)))))) (λe=>(aA (aP (i:=6) nd rfl (Or.inl rfl) (pv 10)))))
   (ax (bB (bu (N6 (K:=K) true 1 rfl hu2) (pv 5) (bV (ae (pv 2) (ae (pv 3) ah))) (a_ _)) (aA (aQ dj)) bD)
   (ax (bB (dA (cg (pv 4))) (ax (bB (PW.pt (dJ (bu vy (pv 6) jB (a_ _)) (fj (bu eU (aL yF hr rfl (ae (pv 6) ah)) rZ (a_ _))))) (aA (aQ dj)) bD)
   (aA (aQ (aL yJ hr rfl (ae (pv 1) (ae (aaR (pv 6)) ah)))))) bD)
   (ax (bB (PW.pt (dJ (bu N7 (pv 6) jB (a_ _)) (fj (dA (cg (aL yR hr rfl (ae (pv 1) (ae (pv 2) (ae (pv 3) (ae (pv 7) ah (ao nofun)) (ao nofun)) (ao nofun)) (ao nofun)))))))) (aA (aQ dj)) bD)
   (ax (aP (i:=8) nd rfl (Or.inl rfl) (gJ (ae (fL (oA (K:=K) rfl) rfl T.list jW (ae (aq (aK (K:=K) rfl) (pv 7) ak (λ_ _=>rfl)) ah)) (ae (fL (oA (K:=K) rfl) rfl T.list jW (ae (aq (aK (K:=K) rfl) (pv 7) ak (λ_ _=>rfl)) ah)) (ae (fL (oA (K:=K) rfl) rfl T.list jW (ae (aq (aK (K:=K) rfl) (pv 7) ak (λ_ _=>rfl)) ah)) ah (ao nofun)) (ao nofun)) (ao nofun))))
   (ax (cH cF rfl (cM rfl T.range (ae ak ah)) (bf (i:=9) nd rfl (Or.inl rfl))
   (ax (bB (bu (N6 (K:=K) true 1 rfl hu2) (aq (aK (K:=K) rfl) (pv 7) (pv 9) (λ_ _=>rfl)) (aq (aK (K:=K) rfl) (pv 8) (pv 9) (λ_ _=>rfl)) (a_ _)) (aA (aQ dj)) bD)
   (aA (dI (aaC (K:=K) rfl eM PySem.F.slot_list_clear PySem.F.type_list_clear YG (aq (aK (K:=K) rfl) (pv 7) (pv 9) (λ_ _=>rfl)))))))
   (aA (aQ (kx (gj (rX (K:=K) true 1 rfl hu2) (pv 5) (bV (ae (pv 2) (ae (pv 3) ah))) (a_ _)) (jC (gj (rX (K:=K) false 2 rfl W3) (vD uy aay hr rfl (ae (pv 0) (ae (pv 2) (ae (pv 3) ah (ao nofun)) (ao nofun)) (ao nofun))) (pv 8) (a_ _))))))))))))))),?_⟩
  refine⟨_,rfl,t,_,rfl,.inl (ag.of hT),λh1 hh1=>⟨_,rfl,u,_,rfl,.inl (ag.of (Same.put hh1 _ _ hU)),λh2 BP=>⟨by show 2<=sizeLine;decide,λhl BR=>?_⟩⟩⟩;have QJ:=Same.put (o:=.lst (cs.map nV)) hh1;have Fc:=Same.put (o:=.lst (ds.map nV)) BP;have shl:=Same.put (o:=.lst [.ref h1,.ref h2]) BR;have s1:=(QJ.trans Fc).trans shl;have qQ:=shl _ _ (Fc _ _ (jF (o:=.lst (cs.map nV)) hh1));have qR:=shl _ _ (jF (o:=.lst (ds.map nV)) BP);have oH:=jF (o:=.lst [.ref h1,.ref h2]) BR;dsimp only[cK];generalize upd (upd (upd H h1 _) h2 _) hl _=H1 at s1 qQ qR oH ⊢;clear shl QJ Fc BR BP hh1;have KR:=qQ;have KS:=qR;rw[<- rG]at KR KS;have uw:∀l:List Nat,l.length<=M.length->(l.map λx:Nat=>(x:Int)).length<=1000:=λl hl=>by rw[au];omega
  refine⟨λcls dx H'=>cls = .ref a14/\∃d v fs a b c,dx=some d/\Same H1 H'/\First M.length (Un M.length R) a b c/\H' d=some (.xd [("five", .ref v)])/\H' v=some (.tup (fs.map V.int))/\Five M.length R fs,?_,λcls dx H' hx=>?_⟩
  ·refine⟨rfl,_,rfl,_,rfl,hl,_,0,.ref h1,rfl,rfl,ag.of oH,aI (j:=0) rfl,_,rfl,hl,_,1,.ref h2,rfl,rfl,ag.of oH,aI (j:=1) rfl,p,h1,h2,M.length,R,J,N,_,_,rfl,hO.iY s1,G,rn,hJ,hN,s1 _ _ hP,ag.of KR,ag.of KS,uw _ lc,uw _ ld,λz=>absurd ⟨c1,c2⟩ z,λ_ _ z=>(by rw[ce]at z;cases z),λ_ _ _ dx v fs a b c H2 s2 f1 f2 f3 f4=>⟨rfl,dx,v,fs,a,b,c,rfl,s2,f1,f2,f3,f4⟩,λcs' ds' TW tt L1 L2 L3 us H2 s2' s2'' s2 no K0 hfr g1 g2 g3 hp hpm=>?_⟩
   obtain rfl:cs'=cs:=by
    have:=congrArg (List.map Int.toNat) s2';rw[toNat_cast,toNat_cast]at this;exact this.symm
   obtain rfl:ds'=ds:=by
    have:=congrArg (List.map Int.toNat) s2'';rw[toNat_cast,toNat_cast]at this;exact this.symm
   have TM:=TW.congr hR (rL hM);have t2:=s1.trans s2;dsimp only[cK];refine⟨_,rfl,_,rfl,_,rfl,by show 2<=sizeLine;decide,λl2 hl2=>?_⟩;have sl2:=Same.put (o:=.lst [.ref t,.ref u]) hl2;have s3:=s2.trans sl2;have t3:=s1.trans s3;refine⟨hl,l2,_,_,_,rfl,rfl,ag.of (s3 _ _ oH),ag.of av,Cm (s3 _ _ qQ) (s3 _ _ qR) (t3 _ _ hT) (t3 _ _ hU),_,rfl,bA ?_⟩;have UJ:ev=true:=by
    cases ev with
    |true=>rfl
    |false =>
     obtain⟨a,b,c,ha,hb,hc,hun⟩:=uR rfl;exact absurd (hun.congr hR' ha hb hc) (no a b c ha hb hc)
   subst UJ;refine⟨_,rfl,true,rfl,bA ?_⟩;refine⟨_,rfl,rfl,_,rfl,bA ?_⟩;refine⟨_,rfl,_,rfl,_,rfl,_,rfl,m,t,u,tt,L1,L2,L3,M,_,_,J,N,us,rfl,t3.seq hm,hM,TM,t3 _ _ hT,t3 _ _ hU,sl2 _ _ K0,sl2 _ _ g1,sl2 _ _ g2,sl2 _ _ g3,outV.same sl2 hp,hpm,λH4 s4=>⟨_,rfl,bA ?_⟩⟩;have pH:=sl2.trans s4;have lG:=s3.trans s4;have uJ:=pH _ _ K0;have Bl:=pH _ _ g1;have Bm:=pH _ _ g2;have Bn:=pH _ _ g3;have cD:=outV.same pH hp;clear s4 sl2 hl2;refine⟨_,rfl,tt,_,0,.ref L1,rfl,rfl,az.of uJ,aI (j:=0) rfl,L1,_,rfl,.inl (ag.of Bl),λF1 qW=>?_⟩;have f1:=Same.put (o:=.lst ((bZ J N cs' ds').map nV)) qW;refine⟨_,rfl,tt,_,1,.ref L2,rfl,rfl,az.of (f1 _ _ uJ),aI (j:=1) rfl,L2,_,rfl,.inl (ag.of (f1 _ _ Bm)),λF2 qX=>?_⟩;have f2:=Same.put (o:=.lst ((bZ J N ds' cs').map nV)) qX;refine⟨_,rfl,tt,_,2,.ref L3,rfl,rfl,az.of (f2 _ _ (f1 _ _ uJ)),aI (j:=2) rfl,L3,_,rfl,.inl (ag.of (f2 _ _ (f1 _ _ Bn))),λF3 qY=>?_⟩;have f3:=Same.put (o:=.lst us) qY;refine⟨by show 3<=sizeLine;decide,λff hff=>?_⟩;have f4:=Same.put (o:=.tup [.ref F1,.ref F2,.ref F3]) hff;have bG:=((f1.trans f2).trans f3).trans f4;have lH:=lG.trans bG;have Kv:=f4 _ _ (f3 _ _ (f2 _ _ (jF (o:=.lst ((bZ J N cs' ds').map nV)) qW)));have Kw:=f4 _ _ (f3 _ _ (jF (o:=.lst ((bZ J N ds' cs').map nV)) qX));have Kx:=f4 _ _ (jF (o:=.lst us) qY);have KQ:=jF (o:=.tup [.ref F1,.ref F2,.ref F3]) hff;have K4:=bG _ _ uJ;have Ko:=bG _ _ Bl;have Kq:=bG _ _ Bm;have Kr:=bG _ _ Bn;have gZ:=outV.same bG cD;have nF:∀L Fk:Addr,(L=L1\/L=L2\/L=L3)->(Fk=F1\/Fk=F2\/Fk=F3)->Fk≠L:=λL Fk hL hF z=>by
    have a0:∃o,H4 L=some o:=by
     rcases hL with rfl|rfl|rfl
     ·exact⟨_,Bl⟩
     ·exact⟨_,Bm⟩
     ·exact⟨_,Bn⟩
    obtain⟨o,a0⟩:=a0
    rcases hF with rfl|rfl|rfl
    ·rw[z,a0]at qW;cases qW
    ·rw[z,f1 _ _ a0]at qX;cases qX
    ·rw[z,f2 _ _ (f1 _ _ a0)]at qY;cases qY
   dsimp only[cK];generalize upd (upd (upd (upd H4 F1 _) F2 _) F3 _) ff _=H5 at bG lH Kv Kw Kx KQ K4 Ko Kq Kr gZ ⊢;clear f1 f2 f3 f4 qW qX qY hff bG pH;obtain⟨n1,n2,n3,n12,n13,n23⟩:=hfr;obtain⟨Lf,hLf⟩:∃Lf:Nat->Addr,Lf=λj=>match j with|0=>L1|1=>L2|_=>L3:=⟨_,rfl⟩
   obtain⟨Ff,uL⟩:∃Ff:Nat->Addr,Ff=λj=>match j with|0=>F1|1=>F2|_=>F3:=⟨_,rfl⟩
   obtain⟨Xf,hXf⟩:∃Xf:Nat->List V,Xf=λj=>match j with|0=>(bZ J N cs' ds').map nV|1=>(bZ J N ds' cs').map nV|_=>us:=⟨_,rfl⟩
   have three:∀{P:Nat->Prop},P 0->P 1->P 2->∀j,j<3->P j:=λ{P} a b c j hj=>match j,hj with
    |0,_=>a
    |1,_=>b
    |2,_=>c
   have I_:∀j,j<3->[V.ref L1,.ref L2,.ref L3][j]?=some (.ref (Lf j)):=by rw[hLf];exact three rfl rfl rfl
   have Sx:∀j,j<3->[V.ref F1,.ref F2,.ref F3][j]?=some (.ref (Ff j)):=by rw[uL];exact three rfl rfl rfl
   have L0:∀j,j<3->H1 (Lf j)=none:=by rw[hLf];exact three n1 n2 n3
   have Xi:∀j,j<3->(Lf j=L1\/Lf j=L2\/Lf j=L3):=by rw[hLf];exact three (.inl rfl) (.inr (.inl rfl)) (.inr (.inr rfl))
   have inF:∀j,j<3->(Ff j=F1\/Ff j=F2\/Ff j=F3):=by rw[uL];exact three (.inl rfl) (.inr (.inl rfl)) (.inr (.inr rfl))
   have abR:∀j,j<3->∀H':Hp,jd K H' 1 (Xf j) (Xf j) λ_=>true:=by rw[hXf];exact three (λ_=>vk) (λ_=>vk) (λH'=>abF (aav gZ))
   have g5:∀j,j<3->H5 (Lf j)=some (.lst (Xf j)):=by rw[hLf,hXf];exact three Ko Kq Kr
   have gF:∀j,j<3->H5 (Ff j)=some (.lst (Xf j)):=by rw[uL,hXf];exact three Kv Kw Kx
   have Xk:∀i j,i<3->j<3->i≠j->Lf j≠Lf i:=by
    rw[hLf];intro i j hi hj ne
    match i,j,hi,hj,ne with
    |0,0,_,_,ne=>exact absurd rfl ne
    |0,1,_,_,_=>exact λz=>n12 z.symm
    |0,2,_,_,_=>exact λz=>n13 z.symm
    |1,0,_,_,_=>exact n12
    |1,1,_,_,ne=>exact absurd rfl ne
    |1,2,_,_,_=>exact λz=>n23 z.symm
    |2,0,_,_,_=>exact n13
    |2,1,_,_,_=>exact n23
    |2,2,_,_,ne=>exact absurd rfl ne
   refine⟨3,rfl,by decide,by decide,fb (lo:=0) (n:=(3:Int).toNat) (λi σ H6=>∃(v9:Option V),σ = [some (.ref p),some (.ref m),some (.ref t),some (.ref u),some (.bl true),some (.ref hl),some .non,some (.ref tt),some (.ref ff),v9,none]/\Same H1 H6/\H6 tt=some (.tup [.ref L1,.ref L2,.ref L3])/\H6 ff=some (.tup [.ref F1,.ref F2,.ref F3])/\(∀j,j<3->H6 (Ff j)=some (.lst (Xf j)))/\(∀j,i<=j->j<3->H6 (Lf j)=some (.lst (Xf j)))/\Paired (outV J N cs' ds' H6) (aZ J N cs' ds') us)
    ⟨none,rfl,lH,K4,KQ,gF,λj _=>g5 j,gZ⟩ ?_ ?_⟩
   ·rintro i σ H6 hi ⟨v9,rfl,s6,qT,qP,oG,g6,oM⟩
    have hi:i<3:=hi;have gL:=g6 i (aW _) hi;refine⟨_,rfl,_,rfl,tt,_,_,.ref (Lf i),rfl,rfl,az.of qT,at0 (I_ i hi),_,rfl,_,rfl,ff,_,_,.ref (Ff i),rfl,rfl,az.of qP,at0 (Sx i hi),Lf i,Ff i,_,_,_,rfl,rfl,ag.of gL,ag.of (oG i hi),abR i hi H6,?_⟩;rw[yp];refine⟨_,rfl,bA ?_⟩;refine⟨_,rfl,_,rfl,tt,_,_,.ref (Lf i),rfl,rfl,az.of qT,at0 (I_ i hi),.inl ⟨rfl,_,ag.of gL⟩,Lf i,_,rfl,rfl,gL,?_⟩;refine⟨_,rfl,λb o e=>by rw[aG (dg e (L0 i hi))];exact s6 _ _ e,?_,?_,λj hj=>?_,λj h1 h2=>?_,Paired.d_ oM λ_ _ ⟨t,e,g⟩=>⟨t,e,?_⟩⟩
    ·rw[aG (gi qT gL (by intro z;cases z))];exact qT
    ·rw[aG (gi qP gL (by intro z;cases z))];exact qP
    ·rw[aG (nF _ _ (Xi i hi) (inF j hj))];exact oG j hj
    ·rw[aG (Xk i j hi h2 (by omega))];exact g6 j (by omega) h2
    ·rw[aG (gi g gL (by intro z;cases z))];exact g
   ·rintro σ H6 ⟨v9,rfl,s6,qT,qP,oG,g6,oM⟩
    refine⟨_,rfl,_,rfl,_,rfl,by show 2<=sizeLine;decide,λl4 cL=>?_⟩;have s8:=Same.put (o:=.lst [.ref t,.ref u]) cL;have vM:=s6.trans s8;have t8:=s1.trans vM;refine⟨hl,l4,_,_,_,rfl,rfl,ag.of (vM _ _ oH),ag.of av,Cm (vM _ _ qQ) (vM _ _ qR) (t8 _ _ hT) (t8 _ _ hU),true,rfl,eR ?_⟩;refine⟨_,rfl,_,rfl,_,rfl,p,t,u,M.length,R,J,N,_,_,rfl,hO.iY t8,G,rn,hJ,hN,t8 _ _ hP,ag.of (t8 _ _ hTi),ag.of (t8 _ _ Lb),uw _ lc,uw _ ld,λz=>absurd ⟨c1,c2⟩ z,λ_ _ z=>(by rw[ce]at z;cases z),λ_ _ _ dx v fs a b c H2 s2 f1 f2 f3 f4=>absurd f1.is (no a b c f1.la f1.lb f1.lc),λTF uz TW2 tt2 K1 K2 K3 kD H9 e2 e3 s9 _ VG _ k1 k2 k3 hp9 _=>?_⟩;obtain rfl:TF=cs':=by
     have:=congrArg (List.map Int.toNat) e2;rw[toNat_cast,toNat_cast]at this;exact this.symm
    obtain rfl:uz=ds':=by
     have:=congrArg (List.map Int.toNat) e3;rw[toNat_cast,toNat_cast]at this;exact this.symm
    have sv:=s8.trans s9;have q1:=oG 0 (by decide);have q2:=oG 1 (by decide);have q3:=oG 2 (by decide);rw[uL,hXf]at q1 q2 q3;refine⟨_,rfl,tt2,ff,_,_,_,rfl,rfl,az.of VG,az.of (sv _ _ qP),acK k1 k2 k3 (sv _ _ q1) (sv _ _ q2) (sv _ _ q3) hp9 (outV.same sv oM),?_⟩;rw[yp];exact kk _ (t8.trans s9)
  ·obtain⟨rfl,d,v,fs,a,b,c,rfl,s2,fst,gd,gv,five⟩:=hx
   refine⟨a14,rfl,mL.UT,λe he=>⟨_,rfl,?_⟩⟩;have hde:d≠e:=λz=>by rw[z,he]at gd;cases gd
   have se:=Same.put (o:=jb e a14 (some d)) he;have he2:=jF (o:=jb e a14 (some d)) he;have s3:=s2.trans se;have Bs:=se _ _ gd;have K5:=se _ _ gv;dsimp only[cK];generalize upd H' e (jb e a14 (some d))=H3 at se he2 s3 Bs K5 ⊢;clear se hde;have t3:=s1.trans s3;refine⟨_,rfl,_,rfl,_,rfl,by show 2<=sizeLine;decide,λl2 hl2=>?_⟩;have s4:=Same.put (o:=.lst [.ref t,.ref u]) hl2;have vN:=s3.trans s4;have t4:=s1.trans vN;refine⟨hl,l2,_,_,_,rfl,rfl,ag.of (vN _ _ oH),ag.of av,Cm (vN _ _ qQ) (vN _ _ qR) (t4 _ _ hT) (t4 _ _ hU),_,rfl,bA ?_⟩;have UG:ev=false:=by
    cases ev with
    |false=>rfl
    |true=>exact absurd (fst.is.congr hR fst.la fst.lb fst.lc) (hev rfl a b c fst.la fst.lb fst.lc)
   subst UG;refine⟨_,rfl,false,rfl,eR ?_⟩;refine⟨_,rfl,rfl,_,rfl,bA ?_⟩;refine⟨_,rfl,e,a14,14,rfl,⟨some d,s4 _ _ he2,λa q=>by cases q;exact⟨_,s4 _ _ Bs⟩⟩,mL,by decide,λH5 s5=>?_⟩;refine⟨rfl,_,rfl,bA ?_⟩;have bG:=s4.trans s5;have t5:=t4.trans s5;refine⟨_,rfl,_,rfl,e,a14,d,_,_,rfl,bG _ _ he2,bG _ _ Bs,mL.xc,lL.hd,lL.xs.no,lL.ng,rfl,?_⟩;refine⟨m,v,M,fs,rfl,t5.seq hm,hM,az.of (bG _ _ K5),by rw[five.len];decide,λc H6 s6 hc=>?_⟩;obtain rfl:c=true:=hc.mpr (five.zf hR);exact kk _ (t5.trans s6)
end
section
variable {P:Program} {w:World} {K:W.Frag} {mg:Str->Option Value} {base:Heap} {f:Addr} {fd:FuncData}
abbrev vZ:Stmt:=top 73
theorem PN:bh ["_law_known","_law_masks","_law_a","_law_b","_law_draws_here","_law_found","_law_k","_law_some"] ["_law_known","_law_masks","_law_a","_law_b","_law_draws_here"] (aB vZ):=⟨rfl,rfl,rfl,by decide +kernel,rfl,by decide +kernel,by decide +kernel⟩
def Fl(K:W.Frag):Sp:=λvs H Q _=>∃(kn m a b d:Nat) (M:List Nat) (us:List V) (ds:List Int),vs = [.ref kn,.ref m,.int a,.int b,.ref d]/\ag K H kn us/\Paired (c5 H) (cQ M) us/\us.length<=576/\ag K H m (M.map nV)/\Ev.bL M/\a<M.length/\b<M.length/\Ev.aF M a b=true/\ag K H d (ds.map V.int)/\6<=ds.length /\
 ∀L cs H',Same H H'->H L=none->H' L=some (.lst (cs.map nV))->cs.length<=25->i_ M.length (Ev.aF M) cs->Cl.nh (gA M.length (Ev.aF M)) b a cs->Q (.ref L) H'
theorem Zn (F:aS K "_law_climb" "_law_climb" vZ f fd) (T:Txt mg) (eZ:aC P w K mg base "_law_at_most" ["_law_masks","_law_a","_law_b"] 1 (mP K)) :
  aO P w K mg base aX 2 f fd ["_law_known","_law_masks","_law_a","_law_b","_law_draws_here"] (Fl K):=by
 refine F.ok PN (λvs H Q E h=>?_) (λcdv A outer s H vs Q E hr h=>?_)
 ·obtain⟨kn,m,a,b,d,M,us,ds,rfl,_⟩:=h
  rfl
 ·obtain⟨kn,m,a,b,d,M,us,ds,rfl,hkn,hkp,jv,hm,hM,ha,hb,hab,hd,hdl,kk⟩:=h
  have nd:=PN.nd;have hpl:us.length=(cQ M).length:=(dh hkp).symm;refine⟨_,(ax (aP (i:=5) nd rfl (Or.inr rfl) (bV (ae (pv 2) ah)))
   (ax (cH cF rfl (cM rfl T.range (ae ak ah)) (bf (i:=6) nd rfl (Or.inl rfl))
   (ax (pB (i:=7) nd rfl rfl (own:=["_law_c","_law_d"]) (fr:=[("_law_found", 5),("_law_masks", 1),("_law_b", 3)]) rfl (cp (aB vZ) ["_law_known","_law_masks","_law_a","_law_b","_law_draws_here","_law_found","_law_k","_law_some"] rfl rfl (by decide +kernel)) (dk (K:=K) rfl (pv 0)) (λ_ _ _ _=>⟨(lA (K:=K) (i:=0) (j:=1) rfl rfl (by decide +kernel:(["_law_c","_law_d","_law_found","_law_masks","_law_b"]:List Str).Nodup) rfl rfl rfl rfl),(kA (PW.pt (mJ (bu dH (pv 0) (aq (aV (K:=K) rfl) (pv 2) (jD jK ak) (λ_ _=>rfl)) (a_ _)) (mK (cg (aL eZ hr rfl (ae (pv 3) (ae (pv 1) (ae (pv 4) ah (ao nofun)) (ao nofun)) (ao nofun)))))))),(pv 1)⟩))
   (aA (bB (bu eU (aq (aV (K:=K) rfl) (pv 5) (jD jK ak) (λ_ _=>rfl)) (pv 3) (a_ _)) (aA (dI (eV (K:=K) rfl eM jh jQ iT (pv 5) (ae (aq (aV (K:=K) rfl) (pv 7) (aJ cU (aJ dG (aJ rY (aq (aV (K:=K) rfl) (pv 4) (aJ cU (pv 6) ak) (λ_ _=>rfl)) (aJ dG (pv 6) ak)) (pv 6)) (aY (cI (K:=K) rfl) rfl T.len cT (ae (pv 7) ah))) (λ_ _=>rfl)) ah)))) bD))))
   (aA (aQ (pv 5))))),?_⟩
  refine⟨_,rfl,by show 1<=sizeLine;decide,λL hL=>?_⟩;refine⟨24,rfl,by decide,by decide,fb (lo:=0) (n:=(24:Int).toNat) (λi σ H2=>∃(v6 v7:Option V) (cs:List Nat) (z:Nat),σ = [some (.ref kn),some (.ref m),some (.int (a:Int)),some (.int (b:Int)),some (.ref d),some (.ref L),v6,v7]/\Same H H2/\H2 L=some (.lst ((cs++[z]).map nV))/\cs.length<=i/\i_ M.length (Ev.aF M) (cs++[z])/\Ev.aF M z b=true/\(cs++[z]).head? = some a/\(z=b\/cs.length=i))
   ⟨none,none,[],a,rfl,Same.put hL,av,aW _,i_.one ha,hab,rfl,.inr rfl⟩ ?_ ?_⟩
  ·rintro i σ H2 hi ⟨v6,v7,cs,z,rfl,s2,hl,hcl,hC,Cg,hhd,rE⟩
   have adC:i<24:=hi;have hz:z<M.length:=hC.lt z (by simp);have JT:eN ((cs++[z]).map nV) (-1)=some (nV z):=by
    rw[I0 (by simp)];simp
   have Ws:=eK.same s2 hkp;have hpq:∀j,j<us.length->∃t,us[j]?=some (.ref t)/\H2 t=some (.tup [.int (((cQ M).getD j (0,0)).1:Int),.int (((cQ M).getD j (0,0)).2:Int)]):=λj hj=>by
    obtain⟨q,hq,t,e1,e2⟩:=eJ Ws (show us[j]?=some us[j]from ay hj);exact⟨t,by rw[ay hj,e1],by rw[aN,hq];exact e2⟩
   refine⟨_,rfl,kn,rfl,⟨_,s2.seq hkn⟩,λD hD=>jY (λj=>decide (((cQ M).getD j (0,0)).1=z)&&Ev.aF M ((cQ M).getD j (0,0)).2 b) (λj=>nV ((cQ M).getD j (0,0)).2) (ab9 (s2.seq hkn) hpq) hD (QS (by omega)) (λj H3 Kt Kf hj hs hkt hkf=>?_) (λH3 hs hl3=>?_)⟩
   ·have WM:=vf (p:=(cQ M).getD j (0,0)) (by rw[aN,ay (by omega)];exact fu _)
    refine⟨_,rfl,_,rfl,_,rfl,L,_,_,_,rfl,rfl,ag.of (hs _ _ hl),JT,rfl,_,rfl,?_⟩;have ed:decide (V.int (((cQ M).getD j (0,0)).1:Int)=nV z)=decide (((cQ M).getD j (0,0)).1=z):=by
     apply lg.mpr
     constructor
     ·intro h;injection h with h;omega
     ·intro h;rw[h]
    rw[ed];refine bq (λh1=>?_) (λh1=>?_)
    ·refine⟨_,rfl,_,rfl,_,rfl,m,((cQ M).getD j (0,0)).2,b,M,rfl,(s2.trans hs).seq hm,WM.2.1,hb,λH4 s4=>⟨_,rfl,?_⟩⟩
     refine bq (λh2=>?_) (λh2=>?_)
     ·exact⟨_,rfl,hkt _ (by rw[h1,h2];rfl) s4⟩
     ·exact hkf _ (by rw[h1,gO];simpa using h2) s4
    ·refine bA (hkf _ ?_ (Same.refl _))
     have h2:decide (((cQ M).getD j (0,0)).1=z)=false:=by simpa using h1
     rw[h2,lO]
   ·have hl':=hs _ _ hl
    have t3:=s2.trans hs;have eS:((List.range us.length).filter λj=>decide (((cQ M).getD j (0,0)).1=z)&&Ev.aF M ((cQ M).getD j (0,0)).2 b).map (λj=>nV ((cQ M).getD j (0,0)).2)=(((cQ M).filter λq=>decide (q.1=z)&&Ev.aF M q.2 b).map Prod.snd).map nV:=by
     rw[hpl,<- abE (λq:Nat × Nat=>decide (q.1=z)&&Ev.aF M q.2 b) (0,0) (cQ M),dY,dY];rfl
    rw[eS]at hl3;generalize hS:((cQ M).filter λq=>decide (q.1=z)&&Ev.aF M q.2 b).map Prod.snd=S at hl3;have Yv:∀x∈S,x<M.length/\fq M.length (Ev.aF M) z x=true/\Ev.aF M x b=true:=λx hx=>by
     rw[<- hS]at hx;obtain⟨q,hq,rfl⟩:=cS.mp hx;obtain⟨h1,h2⟩:=cR.mp hq;rw[bJ,cJ]at h2;obtain⟨q1,q2⟩:=q;obtain⟨h2,h3⟩:=h2;subst h2;have:=(Np hM).mp h1;exact⟨this.2.1,this.2.2,h3⟩
    have adF:S.length<=576:=by
     rw[<- hS,au];have:=p6 (λq:Nat × Nat=>decide (q.1=z)&&Ev.aF M q.2 b) (cQ M);omega
    refine⟨_,rfl,_,rfl,L,_,_,_,rfl,rfl,ag.of hl',JT,_,rfl,rfl,_,rfl,?_⟩;have ed:(!decide (nV z=V.int (b:Int))) = !decide (z=b):=by
     congr 1
     apply lg.mpr
     constructor
     ·intro h;injection h with h;omega
     ·intro h;rw[h]
    rw[ed];refine bq (λh1=>?_) (λh1=>?_)
    ·have hne:z≠b:=by simpa using h1
     have hS0:0<S.length:=by
      obtain⟨dd,hdd,hst,hdb⟩:=TB hM (b:=b) hz (M.getD b 0) b (aW _) hb (by unfold cZ;rw[Cg];simp[hne]) (Ev.jx _ _);have:dd∈S:=by
       rw[<- hS];exact cS.mpr ⟨(z,dd),cR.mpr ⟨(Np hM).mpr ⟨hz,hdd,hst⟩,by simp[hdb]⟩,rfl⟩
      exact R0 this
     refine⟨_,rfl,.inl ⟨rfl,_,ag.of hl'⟩,?_⟩;obtain⟨r6,h6,e6⟩:=gU (0+(i:Int)) 6 (by decide);have e6:(0+(i:Int)) % 6=(r6:Int):=e6;obtain⟨dv,Uk⟩:∃dv:Int,(ds.map V.int)[r6]?=some (.int dv):=⟨ds[r6]'(by omega),by rw[bX,ay (by omega)];rfl⟩;refine⟨_,rfl,_,rfl,_,rfl,_,_,rfl,rfl,by show(0:Int)<6;decide,d,_,_,.int dv,rfl,rfl,t3.seq hd,by show eN _ ((0+(i:Int)) % 6)=_;rw[e6];exact aI Uk,_,rfl,_,_,rfl,rfl,_,_,rfl,rfl,⟨by show(0:Int)<0+(i:Int)+1;omega,by show 0+(i:Int)+1<1073741824;omega⟩,_,rfl,_,_,rfl,rfl,?_⟩;refine⟨_,rfl,D,_,rfl,.inl (ag.of hl3),_,_,rfl,rfl,by show(0:Int)<((S.map nV).length:Int);rw[au];omega,?_⟩;obtain⟨rs,hrs,Uw⟩:=gU (dv / (0+(i:Int)+1)+(0+(i:Int))) S.length hS0;have hx:(S.map nV)[rs]?=some (nV (S.getD rs 0)):=eT hrs;refine⟨D,_,_,nV (S.getD rs 0),rfl,rfl,ag.of hl3,by show eN _ ((dv / (0+(i:Int)+1)+(0+(i:Int))) % ((S.map nV).length:Int))=_;rw[au,Uw];exact aI hx,?_⟩;obtain⟨m1,m2,m3⟩:=Yv (S.getD rs 0) (CZ hrs);refine⟨L,_,nV (S.getD rs 0),rfl,rfl,hl',QS (by rw[au,cA];show cs.length+1<=1000;omega),?_⟩;refine⟨_,_,cs++[z],S.getD rs 0,rfl,λb o e=>?_,by rw[av];simp,by rw[cA];show cs.length+1<=i+1;omega,hC.snoc m1 m2,m3,by rw[List.head?_append,hhd];rfl,.inr (by rw[cA,rE.resolve_left hne];rfl)⟩;rw[aG (λz=>by rw[z,hL]at e;cases e)];exact t3 _ _ e
    ·exact⟨_,_,cs,z,rfl,t3,hl',by omega,hC,Cg,hhd,.inl (by simpa using h1)⟩
  ·rintro σ H2 ⟨v6,v7,cs,z,rfl,s2,hl,hcl,hC,Cg,hhd,rE⟩
   have hcl:cs.length<=24:=hcl;have hz:Cl.nh (gA M.length (Ev.aF M)) z a (cs++[z]):=⟨hhd,by simp,λi hi=>vb.mpr ⟨hC.lt _ (CZ (by omega)),hC.lt _ (CZ hi),hC.st i hi⟩⟩;have Xa:z=b:=by
    rcases rE with h|h
    ·exact h
    ·have h:cs.length=24:=h
     have h1:=Mm (rL hM) hz ha;have h2:=GL M.length (Ev.aF M) a;have h3:=hM.len;rw[cA,h]at h1;have h1:24+1<=_:=h1;omega
   rw[Xa]at hz hl hC;exact⟨_,rfl,kk L (cs++[b]) H2 s2 hL hl (by rw[cA];show cs.length+1<=25;omega) hC hz⟩
end
theorem TV(ns:List Int)(lo hi:Option Int):∃ms:List Int,bP (ns.map V.int) lo hi=ms.map V.int/\ms.length<=ns.length:=by
 unfold bP;refine⟨_,by rw[<- ny,<- List.map_take],?_⟩;rw[kK,jP];omega
theorem YB{M:List Nat}(L:Ev.bL M){x:Nat}(hx:x∈M)(hmin:∀y∈M,x<=y):∀y∈M,Ev.Sub x y:=λy hy=>by
 have h1:=L.meet x hx y hy;have h2:=hmin _ h1;have h3:=(Ev.Sub.and_left x y).le;have e:x&&& y=x:=by omega
 exact e
theorem TQ{ds:List Int}{k:Nat}(h:k<=ds.length):bP (ds.map V.int) (some (k:Int)) none=(ds.drop k).map V.int:=by rw[qD,ny]
theorem abS{ι:Type}{t u:TS}{D:Ends}{σ:L2.St}{H:Hp}(C:ι->Hp->Prop)(sg:ι->L2.St)(main:∀D':Ends,D'.rt=D.rt->(∀i H',C i H'->D'.nx (sg i) H')->t D' σ H)(rest:∀i H',C i H'->u D (sg i) H'):kC t u D σ H:=
 main {D with nx:=u D} rfl rest
theorem i_.Tr{n:Nat}{R:Nat->Nat->Bool}{cs:List Nat}(h:i_ n R cs):cz n R cs:=
 ⟨by have:=h.ne;omega,h.lt,λi hi=>by
  have:=Gw (h.st i hi);unfold cZ at this;rw[bJ,fP,f6]at this;exact this⟩
theorem Tv{n:Nat}{R:Nat->Nat->Bool}{cs:List Nat}(G:Good n R)(h:cz n R cs):cs.Pairwise (λx y=>x≠y/\R x y=true):=by
 rw[lS];intro i j hi hj hij;have h1:=h.up G hij hj;have h2:=h.le G (eB hij) hj;rw[aN,aN,ay hi,ay hj]at h1 h2;simp only[xK]at h1 h2;exact⟨λe=>by rw[e]at h1;omega,h2⟩
theorem Ts{n:Nat}{R:Nat->Nat->Bool}{cs:List Nat}(hp:0<cs.length)(hl:∀x∈cs,x<n)(h:cs.Pairwise (λx y=>x≠y/\R x y=true)):cz n R cs:=
 ⟨hp,hl,λi hi=>by
  have:=(lS.mp h) i (i+1) (by omega) hi (nD i);rw[aN,aN,ay (by omega),ay hi];exact this⟩
section
variable {P:Program} {w:World} {K:W.Frag} {mg:Str->Option Value} {base:Heap} {f:Addr} {fd:FuncData}
theorem J6(g:Nat->V):∀(l:List Nat) (k:Nat),(l.map g).eraseIdx k=(l.eraseIdx k).map g
 | [],_=>rfl
 |_::_,0=>rfl
 |x::l,k+1=>by rw[cX,RX,RX,cX,J6 g l k]
theorem J7:∀(l:List Nat) (k:Nat) (h:k<l.length),(l[k]::l.eraseIdx k).Perm l
 |x::l,0,_=>List.Perm.refl _
 |x::l,k+1,h=>(List.Perm.swap x (l[k]'(R5 h)) (l.eraseIdx k)).trans (List.Perm.cons x (J7 l k (R5 h)))
abbrev Eg:Stmt:=top 65
theorem Qb:bh ["_law_script","_law_at","_law_draws_here","_law_family","_law_left","_law_found","_law_k"] ["_law_script","_law_at"] (aB Eg):=⟨rfl,rfl,rfl,by decide +kernel,rfl,by decide +kernel,by decide +kernel⟩
def FZ(K:W.Frag):Sp:=λvs H Q _=>∃(a:Nat) (ns:List Int) (k:Nat),vs = [.ref a,.int k]/\ag K H a (ns.map V.int)/\∀l M H',Same H H'->H l=none->H' l=some (.lst (M.map nV))->Ev.bL M->Q (.ref l) H'
theorem Z1 (F:aS K "_law_order" "_law_order" Eg f fd) (T:Txt mg) (mh:aC P w K mg base "_law_cell_at" ["_law_script","_law_k"] 1 (wu K)) (kZ:aC P w K mg base "_law_draws" ["_law_cell","_law_many"] 2 wy)
  (yK:aC P w K mg base "_law_kind" ["_law_draws_here","_law_family"] 2 (FG K)):aO P w K mg base aX 3 f fd ["_law_script","_law_at"] (FZ K):=by
 refine F.ok Qb (λvs H Q E h=>?_) (λcdv A outer s H vs Q E hr h=>?_)
 ·obtain⟨a,ns,k,rfl,_⟩:=h
  rfl
 ·obtain⟨a,NZ,k,rfl,hS,kk⟩:=h
  have nd:=Qb.nd;refine⟨_,(ax (aP (i:=2) nd rfl (Or.inl rfl) (aL kZ hr rfl (ae (aL mh hr rfl (ae (pv 0) (ae (pv 1) ah))) (ae ak ah))))
   (ax (aP (i:=3) nd rfl (Or.inl rfl) (aq (aV (K:=K) rfl) (aL kZ hr rfl (ae (aL mh hr rfl (ae (pv 0) (ae (aJ dG (pv 1) ak) ah))) (ae ak ah))) ak (λ_ _=>rfl)))
   (ax (bB (bu dH (aJ cU (aq (aV (K:=K) rfl) (pv 2) ak (λ_ _=>rfl)) ak) ak (a_ _)) (aA (aP (i:=3) nd rfl (Or.inl rfl) (aJ jz (pv 3) (aq (aV (K:=K) rfl) (pv 2) ak (λ_ _=>rfl))))) bD)
   (ax (aP (i:=4) nd rfl (Or.inl rfl) (aL yK hr rfl (ae (pv 2) (ae (pv 3) ah))))
   (ax (aP (i:=5) nd rfl (Or.inl rfl) (bV ah))
   (ax (cH cF rfl (cM rfl T.range (ae (aY (cI (K:=K) rfl) rfl T.len cT (ae (pv 4) ah)) ah)) (bf (i:=6) nd rfl (Or.inl rfl))
   (aA (dI (eV (K:=K) rfl eM jh jQ iT (pv 5) (ae (eV (K:=K) rfl eM PySem.F.slot_list_pop PySem.F.type_list_pop YK (pv 4) (ae (aJ cU (aJ dG (aJ rY (aq (aV (K:=K) rfl) (pv 2) ak (λ_ _=>rfl)) ak) (aJ ph (pv 6) (aq (aV (K:=K) rfl) (pv 2) ak (λ_ _=>rfl)))) (aY (cI (K:=K) rfl) rfl T.len cT (ae (pv 4) ah))) ah)) ah)))))
   (aA (aQ (pv 5))))))))),?_⟩
  refine⟨_,rfl,_,rfl,a,k,NZ,rfl,hS,λc1 H1 s1=>⟨c1,8,rfl,by decide,λd ds H2 s2 hd q2 hlen hsm=>?_⟩⟩;have da:=s1.trans s2;refine⟨_,rfl,_,rfl,_,_,rfl,rfl,a,k+1,NZ,by simp,da.seq hS,λc2 H3 s3=>⟨c2,1,rfl,by decide,λe uz H4 s4 he q4 hlen2 adE=>?_⟩⟩;obtain⟨f0,rfl⟩:∃f0,uz = [f0]:=by
   match uz,hlen2 with
   | [f0],_=>exact⟨f0,rfl⟩
  refine⟨e,_,0,_,rfl,rfl,ag.of q4,rfl,?_⟩;obtain⟨d0,d1',d2',d3,d4,d5,d6,d7,rfl⟩:∃d0 d1 d2 d3 d4 d5 d6 d7,ds = [d0,d1,d2,d3,d4,d5,d6,d7]:=by
   match ds,hlen with
   | [d0,d1,d2,d3,d4,d5,d6,d7],_=>exact⟨_,_,_,_,_,_,_,_,rfl⟩
  have hX:=(da.trans s3).trans s4;have qd:=s4 _ _ (s3 _ _ q2);have hdH:H d=none:=s1.free hd;refine⟨_,rfl,d,_,4,_,rfl,rfl,ag.of qd,rfl,_,_,rfl,rfl,(by show(0:Int)<2;decide),rfl,_,rfl,bq (λ_=>⟨_,rfl,_,rfl,d,_,5,_,rfl,rfl,ag.of qd,rfl,_,_,rfl,rfl,?_⟩) (λ_=>?_)⟩
  all_goals
   refine⟨_,rfl,_,rfl,d,_,_,rfl,qd,rfl,λL1 M H5 s5 hL1 q5 hM=>?_⟩;refine⟨by show 0<=sizeLine;decide,λL2 hL2=>?_⟩;have ln:=hM.len;have en:(((M.map nV).length:Int)).toNat=M.length:=by rw[dW,au]
   have VM:H L1=none:=hX.free hL1;have BG:H L2=none:=(hX.trans s5).free hL2;have d1:d≠L1:=λz=>by rw[z,hL1]at qd;cases qd
   have d2:d≠L2:=λz=>by rw[<- z,s5 _ _ qd]at hL2;cases hL2
   have qF:L1≠L2:=λz=>by rw[<- z,q5]at hL2;cases hL2
   have sk:∀{H3:Hp} {l:Addr} {o:HO},H l=none->Same H H3->Same H (upd H3 l o):=λhl s3 b o e=>by
    rw[aG (λz=>by rw[z,hl]at e;cases e)];exact s3 _ _ e
   refine⟨_,rfl,L1,_,rfl,.inl (ag.of (Same.put hL2 _ _ q5)),_,rfl,by rw[au];exact(bF (by omega)).1,by rw[au];exact(bF (by omega)).2,fb (lo:=0) (n:=(((M.map nV).length:Int)).toNat)
    (λi σ H6=>∃(v3 v6:Option V) (M1 M2:List Nat),σ = [some (.ref a),some (.int k),some (.ref d),v3,some (.ref L1),some (.ref L2),v6]/\Same H H6/\H6 d=some (.lst (([d0,d1',d2',d3,d4,d5,d6,d7]:List Int).map V.int))/\H6 L1=some (.lst (M1.map nV))/\H6 L2=some (.lst (M2.map nV))/\M2.length=i/\(M2++M1).Perm M)
    ⟨_,none,M,[],rfl,sk BG (hX.trans s5),by rw[aG d2];exact s5 _ _ qd,by rw[aG qF];exact q5,av,rfl,List.Perm.refl _⟩ ?_ ?_⟩
   ·rintro i σ H6 hi ⟨v3,v6,M1,M2,rfl,s6,vI,q1,q2,hl2,hp⟩
    rw[en]at hi;have hlen:M2.length+M1.length=M.length:=by rw[<- hp.length_eq,cA]
    obtain⟨r,hr,er⟩:=gU (d6 / 7+(0+(i:Int))*d7) M1.length (by omega);have zu:(d6 / 7+(0+(i:Int))*d7) % ((M1.map nV).length:Int)=(r:Int):=by rw[au];exact er
    have q2u:(upd H6 L1 (.lst ((M1.eraseIdx r).map nV))) L2=some (.lst (M2.map nV)):=by rw[aG qF.symm];exact q2
    refine⟨_,rfl,.inl ⟨rfl,_,ag.of q2⟩,_,rfl,.inl ⟨rfl,_,ag.of q1⟩,_,rfl,d,_,6,_,rfl,rfl,ag.of vI,rfl,_,_,rfl,rfl,⟨by decide,by decide⟩,_,rfl,_,rfl,d,_,7,_,rfl,rfl,ag.of vI,rfl,_,_,rfl,rfl,.inl ⟨by omega,by omega⟩,_,_,rfl,rfl,_,rfl,L1,_,rfl,.inl (ag.of q1),_,_,rfl,rfl,by rw[au];omega,?_⟩;refine⟨L1,_,_,r,nV M1[r],rfl,rfl,q1,?_,?_,?_,by rw[bX,ay hr];rfl,?_⟩
    ·rw[zu];omega
    ·rw[zu];omega
    ·rw[zu,yd (by omega) (by rw[au];omega)];simp
    rw[J6];refine⟨L2,_,_,rfl,rfl,q2u,by rw[au];exact dB (by omega),?_⟩;refine⟨_,_,M1.eraseIdx r,M2++[M1[r]],rfl,sk BG (sk VM s6),by rw[aG d2,aG d1];exact vI,by rw[aG qF,av],by rw[av,gx];rfl,by rw[cA,hl2];rfl,?_⟩;rw[je];exact(List.Perm.append_left M2 (J7 M1 r hr)).trans hp
   ·rintro σ H6 ⟨v3,v6,M1,M2,rfl,s6,vI,q1,q2,hl2,hp⟩
    rw[en]at hl2;have hlen:M2.length+M1.length=M.length:=by rw[<- hp.length_eq,cA]
    have e0:M1 = []:=List.eq_nil_of_length_eq_zero (by omega);rw[e0,h_]at hp;exact⟨_,rfl,kk L2 M2 H6 s6 BG q2 (hM.perm hp.symm)⟩
end
end My
namespace L2
open PySem PySem.Spec PyProof.Rows
abbrev Tab:=Addr × Addr × Pos × Str
noncomputable def iB(tabs:List Tab)(b:Addr):Option HO:=(tabs.find? λt=>decide (t.2.1=b)).map λt=>.lam t.2.2.1 t.2.2.2
def qo(tabs:List Tab)(H:Hp):Prop:=∀b o,iB tabs b=some o->H b=some o
theorem Rh{tabs:List Tab}{b:Addr}{o:HO}(h:iB tabs b=some o):∃t∈tabs,t.2.1=b/\o = .lam t.2.2.1 t.2.2.2:=by
 unfold iB at h;cases e:tabs.find? λt=>decide (t.2.1=b)with
 |none=>rw[e]at h;cases h
 |some t =>
  rw[e]at h;cases h;exact⟨t,List.mem_of_find?_eq_some e,rW (List.find?_some (p:=λt:Tab=>decide (t.2.1=b)) e),rfl⟩
theorem Yd{P:Program}{w:World}{K:W.Frag}{mg mb:Str->Option Value}{CX:gw}{k:Nat}{fa a:Addr}{fd:FuncData}{x:Str}{sp:Sp}{s₁:Shared}{vs:List Value}{ns:List Int}{tabs:List Tab}
  (KX:K.In s₁.heap) (hns:s₁.heap.Ns mainGlobals mg) (hb:s₁.heap.Ns builtinsNs mb) (hbb:∀x:Str,x ≠ "__name__" -> mb x=bootBuiltins x) (hlim:s₁.heap.NoLimit) (hg:s₁.gens = #[])
  (hbm:∃bm ob,mg "__builtins__" = some (.ref bm)/\bm≠builtinsNs/\s₁.heap.get? bm=some ob/\ob.cls = .type "module" /\ ob.dict=some builtinsNs/\ob.data = .plain)
  (hT:∀t∈tabs,W.CodeHd s₁.heap t.1 t.2.1/\s₁.heap.get? t.2.1=some (W.tabObj #[])) (VL:W.noTabs K=true)
  (ha:s₁.heap.get? a=some {cls:=.type "list", data:=.seq vs.toArray}) (hi:IntsAre vs ns) (hl:ns.length<=sizeLine) (hr:bR k callerA)
  (F:∀base:Heap,K.In base->base.Ns mainGlobals mg->(∀t∈tabs,TabAt base mg t.1 t.2.1)->aO P w K mg base CX k fa fd [x] sp) (hbind:∀(s:Shared) (u:Value),BindsTo s fd ⟨[u],[]⟩ [(x,u)])
  (hsp:∀H:Hp,ag K H a (ns.map V.int)->qo tabs H->sp [.ref a] H (λv H'=>v = .bl true/\qo tabs H') λ_ _ _=>False)
  (By:∀H e s',CX [] H s₁ (λ_ _ _=>False) e s'->False) :
  codeAny (model P w) callerA (.call (.ref fa) ⟨[.ref a],[]⟩) (λr s'=>r = .ok (.ret (.bool true))/\OldK s₁.heap s'.heap/\s'.os=s₁.os/\AllBare s'.gens) s₁:=by
 have rv:=GR hi;have lenV:=hi.length;have pO:∀{b:Addr} {o:HO},iB tabs b=some o->∃t∈tabs,t.2.1=b/\o = .lam t.2.2.1 t.2.2.2/\s₁.heap.get? b=some (W.tabObj #[]):=λ{b o} e=>by
  obtain⟨t,h1,h2,h3⟩:=Rh e;exact⟨t,h1,h2,h3,by rw[<- h2];exact(hT t h1).2⟩
 have aT:iB tabs a=none:=by
  cases e:iB tabs a with
  |none=>rfl
  |some o =>
   obtain⟨_,_,_,_,q⟩:=pO e;rw[ha]at q;cases q
 have KT:∀b o,iB tabs b=some o->K.lookup b=none:=λb o e=>by
  obtain⟨_,_,_,_,q⟩:=pO e;cases hk:K.lookup b with
  |none=>rfl
  |some ob =>
   have e2:=KX b ob hk;rw[q]at e2;cases e2;have h2:=fX.mp VL (b,_) (W.mem_of_lookupK hk);exact absurd (show false=true from h2) Bool.false_ne_true
 have core:∀H:Hp,(∀b o,H b=some o->iB tabs b=some o\/(b=a/\∃o' xs,o = .dz o' (.lst xs)))->qo tabs H->ag K H a (ns.map V.int)->bM P w H s₁.heap->(H a≠none->K.lookup a=none) ->
   codeAny (model P w) callerA (.call (.ref fa) ⟨[.ref a],[]⟩) (λr s'=>r = .ok (.ret (.bool true))/\OldK s₁.heap s'.heap/\s'.os=s₁.os/\AllBare s'.gens) s₁:=by
  intro H hO qZ hS hok hK;have free:∀{b:Addr} {o:Obj},s₁.heap.get? b=some o->o.cls≠.none->o.cls≠.type "list" -> H b=none:=λ{b o} e c1 c2=>by
   cases q:H b with
   |none=>rfl
   |some u =>
    rcases hO b u q with z|⟨z,_⟩
    ·obtain⟨_,_,_,_,z2⟩:=pO z
     rw[e]at z2;cases z2;exact absurd rfl c1
    ·rw[z,ha]at e;cases e
     exact absurd rfl c2
  have ug:∀{b:Addr} {o:Obj},s₁.heap.get? b=some o->H b=none->(jt s₁.heap H).get? b=some o:=λe n=>Wj e n;have ko:∀{b:Addr} {o:Obj} {es:Array DictEntry} {ep:Nat},s₁.heap.get? b=some o->o.data = .dict es ep->H b=none:=λ{b o es ep} e d=>by
   cases q:H b with
   |none=>rfl
   |some u =>
    rcases hO b u q with z|⟨z,_⟩
    ·obtain⟨_,_,_,_,z2⟩:=pO z
     rw[e]at z2;cases z2;cases d
    ·rw[z,ha]at e;cases e
     cases d
  have vq:∀{b:Addr} {m:Str->Option Value},s₁.heap.Ns b m->(jt s₁.heap H).Ns b m:=λ{b m} ⟨o,es,ep,e,d,r⟩=>⟨o,es,ep,ug e (ko e d),d,r⟩;have K6:K.In (jt s₁.heap H):=λb o e=>ug (KX b o e) (by
   cases q:H b with
   |none=>rfl
   |some u =>
    rcases hO b u q with z|⟨z,_⟩
    ·rw[KT b u z]at e;cases e
    ·subst z
     rw[hK (by rw[q];simp)]at e;cases e)
  have hM:Mod K mg (jt s₁.heap H):=⟨K6,vq hns,⟨mb,vq hb,hbb⟩,let⟨mc,h1,h2⟩:=hlim;⟨mc,vq h1,h2⟩⟩;have e0:ja P w K mg (jt s₁.heap H) callerA [] s₁ H:=⟨rfl,hM,λb o e=>Zc e,Hv (Wm _ _),trivial,λb hb=>absurd (show b∈([]:List Addr)from hb) (by simp),hok,.of_eq hg⟩;have V5:∀t∈tabs,TabAt (jt s₁.heap H) mg t.1 t.2.1:=λt ht=>by
   refine⟨?_,?_⟩
   ·obtain⟨o,vs,file,tf,flags,tg,inF,text,tt,q1,q2,r⟩:=(hT t ht).1
    exact⟨o,vs,file,tf,flags,tg,inF,text,tt,ug q1 (free q1 (by rw[q2];intro z;cases z) (by rw[q2];decide)),q2,r⟩
   ·obtain⟨bm,ob,q1,q2,q3,q4,r⟩:=hbm
    exact⟨bm,ob,q1,q2,ug q3 (free q3 (by rw[q4];intro z;cases z) (by rw[q4];decide)),q4,r⟩
  refine jR ((F _ K6 (vq hns) V5).run callerA [] s₁ H ⟨[.ref a],[]⟩ [.ref a] [.ref a] _ _ hr e0 (hbind s₁ (.ref a)) (.cons rfl .nil) (hsp H hS qZ)) λr s' h=>?_;cases r with
  |error e=>exact(By H e s' h).elim
  |ok fl =>
   cases fl with
   |next=>exact False.elim h
   |brk=>exact False.elim h
   |cont=>exact False.elim h
   |ret u =>
    obtain⟨v,H',os,bare,un,hok',r',q,hT'⟩:=h;have q':v = .bl true:=q;subst q';obtain rfl:u=Value.bool true:=r';have key:∀b o,s₁.heap.get? b=some o->s'.heap.get? b=some o\/(isCodeTable s₁.heap b/\o=W.tabObj #[]/\∃ps,s'.heap.get? b=some (W.tabObj ps)):=λb o e=>by
     cases q:H b with
     |none=>exact .inl (un.keep b o e q (by intro z;exact absurd (show b∈([]:List Addr)from z) (by simp)) (by simp))
     |some u =>
      rcases hO b u q with z|⟨rfl,ob,xs,rfl⟩
      ·obtain⟨t,t1,t2,t3,z2⟩:=pO z
       rw[e]at z2;cases z2;subst t3;obtain⟨ps,p1,_⟩:=(show bC P w H' s'.heap b (.lam t.2.2.1 t.2.2.2)from hok' b _ (hT' b _ z));refine .inr ⟨?_,rfl,ps,p1⟩;have:=((hT t t1).1.tab (hT t t1).2).isCodeTable;rw[t2]at this;exact this
      ·have z2:=un.fU b ob _ q
       obtain⟨e1,_⟩:=hok b _ q;obtain⟨e2,_⟩:=hok' b _ z2;rw[e]at e1;cases e1;exact .inl e2
    refine⟨rfl,⟨λb o e=>?_,λb o e=>?_⟩,os,bare⟩
    ·rcases key b o e with z|⟨z1,rfl,ps,z2⟩
     ·exact .inl z
     ·exact .inr (.inl ⟨z1,rfl,#[],ps,rfl,by rw[Array.empty_append];exact z2⟩)
    ·rcases key b o e with z|⟨_,_,ps,z2⟩
     ·exact⟨o,z⟩
     ·exact⟨_,z2⟩
 have Rb:∀(H:Hp) b o,iB tabs b=some o->bC P w H s₁.heap b o:=λH b o e=>by
  obtain⟨t,_,_,rfl,q⟩:=pO e;exact⟨#[],q,trivial,λcv z=>by cases z⟩
 cases hk:K.lookup a with
 |some o =>
  have e:=KX a o hk;rw[ha]at e;cases e;exact core (iB tabs) (λb o e=>.inl e) (λb o e=>e) (.inr ⟨_,vs.toArray,_,hk,rfl,rfl,rfl,by rw[bU,lenV];exact hl,by simpa using rv⟩) (λb u z=>Rb _ b u z) λz=>absurd aT z
 |none =>
  refine core (λb=>if b=a then some (.dz {cls:=.type "list", data:=.seq vs.toArray} (.lst (ns.map V.int)))else iB tabs b) (λb o e=>?_) (λb o e=>?_) (.inl (.inr ⟨{cls:=.type "list", data:=.seq vs.toArray},if_pos rfl⟩)) (λb u z=>?_) λ_=>hk
  ·by_cases hb:b=a
   ·have z':=(if_pos hb).symm.trans e
    cases z';exact .inr ⟨hb,_,_,rfl⟩
   ·exact .inl ((if_neg hb).symm.trans e)
  ·have hb:b≠a:=λz=>by rw[z,aT]at e;cases e
   exact(if_neg hb).trans e
  ·by_cases hb:b=a
   ·have z':=(if_pos hb).symm.trans z
    cases z';subst hb;exact⟨ha,by rw[au];exact hl,vs,_,rv,ha⟩
   ·exact Rb _ b u ((if_neg hb).symm.trans z)
theorem ac6{l:W.OpenLaw}{n k:Nat}{q:Program}{loose:List Str}{XP:(Str->Option Value)->Heap->Prop}{YP:World->Heap->Prop}{d:DefRec}{K:Params->W.Frag}{CX:World->gw}{sp:World->Sp}{x:Str}{tabs:List Tab}(hn:l.most=some n)(hn2:n<=sizeLine)(hdf:d.params.defaults = [])(hr:bR k callerA)(hY:∀(w:World) (h:Heap),YP w h->(K w.params).In h)(hT:∀(w:World) (h:Heap),YP w h->(∀t∈tabs,W.codeHdIn (K w.params) t.1 t.2.1=true/\h.get? t.2.1=some (W.tabObj #[]))/\W.noTabs (K w.params)=true)(F:∀(w:World) (mg:Str->Option Value) (fa:Addr) (h:Heap),(K w.params).In h->h.Ns mainGlobals mg->mg d.name=some (.ref fa)->∃fd:FuncData,(∀(s:Shared) (u:Value),BindsTo s fd ⟨[u],[]⟩ [(x,u)])/\∀base:Heap,(K w.params).In base->base.Ns mainGlobals mg->(∀t∈tabs,TabAt base mg t.1 t.2.1)->aO l.prog w (K w.params) mg base (CX w) k fa fd [x] (sp w))(hsp:∀(w:World) (H:Hp) (a:Addr) (ns:List Int),ns.length<=n->ag (K w.params) H a (ns.map V.int)->qo tabs H->sp w [.ref a] H (λv H'=>v = .bl true/\qo tabs H') λ_ _ _=>False)(By:∀(w:World) (H:Hp) (s:Shared) (e:Value) (s':Shared),CX w [] H s (λ_ _ _=>False) e s'->False):W.WalkO q loose XP YP l.row.toRowW d [] (λf vs=>PySem.call f vs):=by
 refine G3.Sy hn hdf λw s₀ s₁ mg mb fa o pm cd doc a vs ns G Y ho hd hcd hmg hobj hints hlen hg=>?_;have KX:=hY w _ Y;obtain⟨fd,hb,hF⟩:=F w mg fa _ KX G.T.g hmg;obtain⟨t1,t2⟩:=hT w _ Y;exact Yd KX G.T.g G.T.b G.T.builtins G.T.nolimit hg G.T.bmain (λt ht=>⟨W.codeHd_of_K KX (t1 t ht).1,(t1 t ht).2⟩) t2 hobj hints (b_ hlen hn2) hr hF hb (λH hS qZ=>hsp w H a ns hlen hS qZ) λH e s'=>By w H s₁ e s'
end L2
namespace My
open PySem PySem.Spec PyProof.Rows L2
def wC(K:W.Frag)(Pt:Addr):Sp:=λvs H Q _=>∃(a:Nat) (ns:List Int),vs = [.ref a]/\ag K H a (ns.map V.int)/\ns.length<=63/\H Pt=some (.lam mC mD)/\∀H',H' Pt=some (.lam mC mD)->Q (.bl true) H'
theorem ac5{l:W.OpenLaw}{q:Program}{loose:List Str}{XP:(Str->Option Value)->Heap->Prop}{YP:World->Heap->Prop}{d:DefRec}{K:Params->W.Frag}{c Pt:Addr}(hn:l.most=some 63)(hdf:d.params.defaults = [])(hY:∀(w:World) (h:Heap),YP w h->(K w.params).In h/\h.get? Pt=some (W.tabObj #[]))(hT:∀w:World,W.codeHdIn (K w.params) c Pt=true)(hno:∀w:World,W.noTabs (K w.params)=true)(F:∀(w:World) (mg:Str->Option Value) (fa:Addr) (h:Heap),(K w.params).In h->h.Ns mainGlobals mg->mg d.name=some (.ref fa) ->
   ∃fd:FuncData,(∀(s:Shared) (u:Value),BindsTo s fd ⟨[u],[]⟩ [("_law_script", u)])/\∀base:Heap,(K w.params).In base->base.Ns mainGlobals mg->TabAt base mg c Pt->aO l.prog w (K w.params) mg base aX 40 fa fd ["_law_script"] (wC (K w.params) Pt)) :
  W.WalkO q loose XP YP l.row.toRowW d [] (λf vs=>PySem.call f vs):=
 L2.ac6 (n:=63) (k:=40) (x:= "_law_script") (CX:=λ_=>aX) (sp:=λw=>wC (K w.params) Pt) (tabs:=[(c,Pt,mC,mD)]) hn (by decide) hdf ⟨rfl,by decide,by decide,rfl⟩ (λw h Y=>(hY w h Y).1)
  (λw h Y=>⟨λt ht=>by
   obtain rfl:t=(c,Pt,mC,mD):=by simpa using ht
   exact⟨hT w,(hY w h Y).2⟩,hno w⟩)
  (λw mg fa h KX G hmg=>by
   obtain⟨fd,h1,h2⟩:=F w mg fa h KX G hmg;exact⟨fd,h1,λbase kb nb tb=>h2 base kb nb (tb _ (ig.mpr rfl))⟩)
  (λw H a ns hl hS qZ=>⟨a,ns,rfl,hS,hl,qZ Pt _ (by unfold iB;simp),λH' hP=>⟨rfl,λb o e=>by
   obtain⟨t,t1,t2,t3⟩:=Rh e;obtain rfl:t=(c,Pt,mC,mD):=by simpa using t1
   rw[<- t2,t3];exact hP⟩⟩) λ_ _ _ _ _ z=>z
theorem Tx{K:W.Frag}{x:Str}{c Pt f:Addr}{st:Stmt}{fd:FuncData}(ht:W.tabIn K x=some (c,Pt))(a:W.nsIn K mainGlobals x=some (some (.ref f)))(F:aS K x x st f fd):fd.code = .ref c:=by
 obtain⟨oc,od,kV,doc,pm,an,cdv,ct,osl,rfl,lk,hcd⟩:=F.ex;unfold W.tabIn at ht;rw[a]at ht;simp only[lk]at ht;show cdv = .ref c;cases cdv with
 |ref c2 =>
  dsimp only at ht
  split at ht
  ·split at ht
   ·cases ht;rfl
   ·cases ht
  ·cases ht
 |_=>cases ht
theorem acJ{K:W.Frag}{x:Str}{f c P:Addr}{oc co:Value}{od cd':Option Addr}{fd:FuncData}{osl sl:Array (Option Value)}{vs:Array Value}(a:W.nsIn K mainGlobals x=some (some (.ref f)))(l:K.lookup f=some ⟨oc,od,.func fd,osl⟩)(hc:fd.code = .ref c)(l2:K.lookup c=some ⟨co,cd',.fields vs,sl⟩)(hv:(vs[11]?:Option Value)=some (.ref P)):W.tabIn K x=some (c,P):=by
 unfold W.tabIn;rw[a];simp only[l,hc,l2,hv]
theorem aD.S8{P:Program}{w:World}{K:W.Frag}{mg:Str->Option Value}{base h:Heap}{x:Str}{st:Stmt}{ps:List Str}{k:Nat}{sp:Sp}{c Pt:Addr}(A:aD K x st)(X:K.In h)(G:h.Ns mainGlobals mg)(hb:w6 x st ps)(ht:W.tabIn K x=some (c,Pt))(ok:∀{f:Addr} {fd:FuncData},aS K x x st f fd->fd.code = .ref c->aO P w K mg base (bW P w) k f fd ps sp):h7 P w K mg base x ps k sp:=by
 obtain⟨f,fd,a,F⟩:=A.ex;exact⟨f,fd,ok F (Tx ht a F),W.mg_of X G a,F.kp,F.binds hb⟩
theorem TL(x y:Nat)(mid:List Nat):bP ((x::(mid++[y])).map nV) (some 1) (some (-1))=mid.map nV/\bP ((x::(mid++[y])).map nV) none (some 1) = [nV x]/\bP ((x::(mid++[y])).map nV) (some 1) none=(mid++[y]).map nV/\bP ((mid++[y]).map nV) (some (-1)) none = [nV y]:=by
 have l1:((x::(mid++[y])).map nV).length=mid.length+2:=by simp
 have l2:((mid++[y]).map nV).length=mid.length+1:=by simp
 have i1:HT.bj (mid.length+2) 0 (some 1)=1:=by
  show(if(1:Int)<0 then((1:Int)+((mid.length+2:Nat):Int)).toNat else min (1:Int).toNat (mid.length+2))=1;rw[if_neg (by decide)];show min 1 (mid.length+2)=1;omega
 have Xb:HT.bj (mid.length+2) (mid.length+2) (some 1)=1:=i1;have i2:HT.bj (mid.length+2) (mid.length+2) (some (-1))=mid.length+1:=by
  show(if(-1:Int)<0 then((-1:Int)+((mid.length+2:Nat):Int)).toNat else min (-1:Int).toNat (mid.length+2))=mid.length+1;rw[if_pos (by decide)];omega
 have i3:HT.bj (mid.length+1) 0 (some (-1))=mid.length:=by
  show(if(-1:Int)<0 then((-1:Int)+((mid.length+1:Nat):Int)).toNat else min (-1:Int).toNat (mid.length+1))=mid.length;rw[if_pos (by decide)];omega
 refine⟨?_,?_,?_,?_⟩
 ·unfold bP
  rw[l1,i1,i2,cX,List.drop_succ_cons,xq,gx];have e:mid.length+1 - 1=(mid.map nV).length:=by rw[au];omega
  rw[e,List.take_left]
 ·unfold bP
  rw[l1,Xb];show((x::(mid++[y])).map nV).take 1 = [nV x];rfl
 ·unfold bP
  rw[l1,i1];show(((x::(mid++[y])).map nV).drop 1).take (mid.length+2 - 1)=_;rw[cX,List.drop_succ_cons,xq];exact p9 (by rw[l2];omega)
 ·unfold bP
  rw[l2,i3];show(((mid++[y]).map nV).drop mid.length).take (mid.length+1 - mid.length)=_;rw[gx];have e:mid.length=(mid.map nV).length:=by rw[au]
  conv=>lhs;rw[show mid.length+1 - mid.length=1 by omega,e]
  rw[List.drop_left];rfl
theorem TX(x:Nat):bP ([x].map nV) (some 1) (some (-1))=([]:List Nat).map nV/\bP ([x].map nV) none (some 1) = [nV x]/\bP ([x].map nV) (some 1) none=([]:List Nat).map nV/\bP (([]:List Nat).map nV) (some (-1)) none = []:=⟨rfl,rfl,rfl,rfl⟩
section
variable {P:Program} {w:World} {K:W.Frag} {mg:Str->Option Value} {base:Heap} {f:Addr} {fd:FuncData}
abbrev vY:Stmt:=top 80
theorem PK:bh ["_law_known","_law_masks","_law_a","_law_b","_law_draws_here","_law_climb_here","_law_some"] ["_law_known","_law_masks","_law_a","_law_b","_law_draws_here"] (aB vY):=⟨rfl,rfl,rfl,by decide +kernel,rfl,by decide +kernel,by decide +kernel⟩
noncomputable def Fi(K:W.Frag):Sp:=λvs H Q _=>∃(kn m a b d:Nat) (M:List Nat) (us:List V) (ds:List Int),vs = [.ref kn,.ref m,.int a,.int b,.ref d]/\ag K H kn us/\Paired (c5 H) (cQ M) us/\us.length<=576/\ag K H m (M.map nV)/\Ev.bL M/\a<M.length/\b<M.length/\Ev.aF M a b=true/\ag K H d (ds.map V.int)/\7<=ds.length /\
 ∀L cs H',Same H H'->H L=none->H' L=some (.lst (cs.map nV))->cz M.length (Ev.aF M) cs->cs.getD 0 0=a->cs.getD (cs.length - 1) 0=b->Q (.ref L) H'
theorem Zj (F:aS K "_law_chain" "_law_chain" vY f fd) (T:Txt mg) (yG:aC P w K mg base "_law_climb" ["_law_known","_law_masks","_law_a","_law_b","_law_draws_here"] 2 (Fl K)) :
  aO P w K mg base aX 3 f fd ["_law_known","_law_masks","_law_a","_law_b","_law_draws_here"] (Fi K):=by
 refine F.ok PK (λvs H Q E h=>?_) (λcdv A outer s H vs Q E hr h=>?_)
 ·obtain⟨kn,m,a,b,d,M,us,ds,rfl,_⟩:=h
  rfl
 ·obtain⟨kn,m,a,b,d,M,us,ds,rfl,hkn,hkp,jv,hm,hM,ha,hb,hab,hd,hdl,kk⟩:=h
  have nd:=PK.nd;refine⟨_,(ax (aP (i:=5) nd rfl (Or.inl rfl) (aL yG hr rfl (ae (pv 0) (ae (pv 1) (ae (pv 2) (ae (pv 3) (ae (pv 4) ah (ao nofun)) (ao nofun)) (ao nofun)) (ao nofun)) (ao nofun))))
   (ax (pB (i:=6) nd rfl rfl (own:=["_law_thing"]) (fr:=[("_law_draws_here", 4)]) rfl (cp (aB vY) ["_law_known","_law_masks","_law_a","_law_b","_law_draws_here","_law_climb_here","_law_some"] rfl rfl (by decide +kernel)) (dk (K:=K) rfl (eL (fk (K:=K) rfl) (pv 5) (dS ak) (dS (jD jK ak)))) (λ_ _ _ _=>⟨(bf (i:=0) (by decide +kernel:(["_law_thing","_law_draws_here"]:List Str).Nodup) rfl (Or.inl rfl)),(kA (bu dH (aJ jz (aJ N9 (aq (aV (K:=K) rfl) (pv 1) ak (λ_ _=>rfl)) (pv 0)) ak) ak (a_ _))),(pv 0)⟩))
   (aA (aQ (aJ fJ (aJ fJ (eL (fk (K:=K) rfl) (pv 5) fh (dS ak)) (pv 6)) (eL (fk (K:=K) rfl) (eL (fk (K:=K) rfl) (pv 5) (dS ak) fh) (dS (jD jK ak)) fh)))))),?_⟩
  refine⟨_,rfl,_,rfl,_,rfl,_,rfl,_,rfl,kn,m,a,b,d,M,us,ds,rfl,hkn,hkp,jv,hm,hM,ha,hb,hab,hd,by omega,λL cs H1 s1 hL gL hcl Bx hC=>?_⟩;obtain⟨d6,Wc⟩:∃z:Int,(ds.map V.int)[6]?=some (.int z):=⟨ds[6]'(by omega),by rw[bX,ay (by omega)];rfl⟩;obtain⟨e1,e2⟩:=Xr hC;have G:=rL hM;obtain⟨mid,hd1,tl,c1,c2,c3,c4,Uy,eh,el⟩:∃(mid:List Nat) (hd1:List Nat) (tl:List Nat),bP (cs.map nV) (some 1) (some (-1))=mid.map nV/\bP (cs.map nV) none (some 1)=hd1.map nV/\(∃r:List Nat,bP (cs.map nV) (some 1) none=r.map nV/\bP (r.map nV) (some (-1)) none=tl.map nV)/\mid.length+hd1.length+tl.length<=100/\(∀sel:List Nat,sel.Sublist mid->(hd1++sel++tl).Sublist cs)/\(∀sel:List Nat,(hd1++sel++tl).getD 0 0=cs.getD 0 0/\0<(hd1++sel++tl).length)/\∀sel:List Nat,sel.Sublist mid->(hd1++sel++tl).getD ((hd1++sel++tl).length - 1) 0=cs.getD (cs.length - 1) 0:=by
   match cs,Bx.ne,hcl with
   | [x],_,_ =>
    obtain⟨q1,q2,q3,q4⟩:=TX x;refine⟨[],[x],[],q1,q2,⟨[],q3,q4⟩,by simp,λsel hs=>?_,λsel=>⟨rfl,by simp⟩,λsel hs=>?_⟩
    ·rw[List.sublist_nil.mp hs];simp
    ·rw[List.sublist_nil.mp hs];rfl
   |x::y::r,_,hcl =>
    obtain⟨mid,z,hz⟩:∃mid z,y::r=mid++[z]:=⟨(y::r).dropLast,(y::r).getLast (by simp),(Hf (by simp)).symm⟩;rw[hz]at hcl ⊢;obtain⟨q1,q2,q3,q4⟩:=TL x z mid;refine⟨mid,[x],[z],q1,q2,⟨_,q3,q4⟩,by simp at hcl ⊢;omega,λsel hs=>?_,λsel=>⟨rfl,by simp⟩,λsel hs=>?_⟩
    ·exact(hs.append (List.Sublist.refl [z])).cons_cons x
    ·have lst:∀(q:List Nat),(q++[z]).getD ((q++[z]).length - 1) 0=z:=λq=>by
      rw[cA,p7,Nat.add_sub_cancel,aN,iE (aW _),HB];rfl
     have q1:=lst ([x]++sel);have q2:=lst (x::mid);rw[q1];exact q2.symm
  obtain⟨rr,c3,S7⟩:=c3;refine⟨_,rfl,_,rfl,1,rfl,_,rfl,L,_,rfl,ag.of gL,λq hq=>?_⟩;rw[c1];have sq:=Same.put (o:=.lst (mid.map nV)) hq;refine⟨q,rfl,⟨_,ag.of av⟩,λD hD=>jY (λj=>decide (V.int (Builtin.bitAnd (d6 / 2 ^ (((mid.getD j 0:Nat):Int)).toNat) 1)=V.int 1)) (λj=>nV (mid.getD j 0)) (src_list (ag.of av)) hD (c7 (by rw[au];omega)) (λj H2 Kt Kf hj hs hkt hkf=>?_) (λH2 hs hl2=>?_)⟩
  ·have hj':j<mid.length:=by rwa [au]at hj
   have eg:(mid.map nV).getD j .non = .int ((mid.getD j 0:Nat):Int):=lq hj';refine⟨_,rfl,d,_,6,.int d6,rfl,rfl,(s1.trans (sq.trans hs)).seq hd,aI (j:=6) Wc,_,rfl,_,_,rfl,eg,by omega,_,_,rfl,rfl,rfl,_,rfl,bq (λh=>?_) (λh=>hkf _ (by simpa using h) (Same.refl _))⟩;exact⟨_,rfl,by rw[eg];exact hkt _ h (Same.refl _)⟩
  ·have s2:=sq.trans hs
   obtain⟨sel,Ux,Cd⟩:∃sel:List Nat,((List.range (mid.map nV).length).filter λj=>decide (V.int (Builtin.bitAnd (d6 / 2 ^ (((mid.getD j 0:Nat):Int)).toNat) 1)=V.int 1)).map (λj=>nV (mid.getD j 0))=sel.map nV/\sel.Sublist mid:=by
    have e0:=va mid 0 (λx=>x);rw[Hn]at e0;refine⟨((List.range mid.length).filter λj=>decide (V.int (Builtin.bitAnd (d6 / 2 ^ (((mid.getD j 0:Nat):Int)).toNat) 1)=V.int 1)).map (λj=>mid.getD j 0),by rw[au,dY];rfl,?_⟩
    conv=>rhs;rw[<- e0]
    exact List.filter_sublist.map _
   rw[Ux]at hl2;have ssl:=Cd.length_le;have mx:=s2 _ _ gL;dsimp only[cK];refine⟨_,rfl,_,rfl,L,_,rfl,ag.of mx,λp1 hp1=>?_⟩;rw[c2];have gM:=Same.put (o:=.lst (hd1.map nV)) hp1;refine⟨_,rfl,p1,D,_,_,rfl,rfl,av,gM _ _ hl2,by rw[au,au];exact eB (c7 (by omega)),λp2 hp2=>?_⟩;have sp2:=Same.put (o:=.lst (hd1.map nV++sel.map nV)) hp2;have s12:=gM.trans sp2;refine⟨_,rfl,_,rfl,L,_,rfl,ag.of (s12 _ _ mx),λp3 hp3=>?_⟩;rw[c3];have Fe:=Same.put (o:=.lst (rr.map nV)) hp3;refine⟨1,rfl,_,rfl,p3,_,rfl,ag.of av,λp4 cD=>?_⟩;rw[S7];have Fg:=Same.put (o:=.lst (tl.map nV)) cD;refine⟨p2,p4,_,_,rfl,rfl,Fg _ _ (Fe _ _ av),av,by rw[cA,au,au,au];exact eB (c7 (by omega)),λp5 gZ=>?_⟩;have s25:=(s12.trans (Fe.trans Fg)).trans (Same.put (o:=.lst (hd1.map nV++sel.map nV++tl.map nV)) gZ);have lH:=s2.trans s25;refine kk p5 (hd1++sel++tl) _ (s1.trans lH) ((s1.trans (s2.trans (s12.trans (Fe.trans Fg)))).free gZ) (by rw[av,gx,gx]) ?_ (by rw[(eh sel).1,e1]) (by rw[el sel Cd,e2]);have sub:=Uy sel Cd;exact Ts (eh sel).2 (λx hx=>Bx.lt x (sub.subset hx)) ((Tv G Bx.Tr).sublist sub)
abbrev pI:Stmt:=top 81
theorem Py:bh ["_law_script","_law_masks","_law_known","_law_pairs","_law_order_here","_law_even","_law_cell","_law_draws_here","_law_a","_law_b","_law_one","_law_other"] ["_law_script"] (aB pI):=⟨rfl,rfl,rfl,by decide +kernel,rfl,by decide +kernel,by decide +kernel⟩
theorem ZP {C Pt:Addr} (F:aS K "law" "law" pI f fd) (T:Txt mg) (TC:gP K C) (yM:aC P w K mg base "_law_order" ["_law_script","_law_at"] 3 (FZ K)) (mh:aC P w K mg base "_law_cell_at" ["_law_script","_law_k"] 1 (wu K))
  (kZ:aC P w K mg base "_law_draws" ["_law_cell","_law_many"] 2 wy) (yI:aC P w K mg base "_law_handed" ["_law_masks","_law_draws_here"] 3 (Fw K)) (ow:aC P w K mg base "_law_steps" ["_law_masks"] 2 (wF K)) (yQ:aC P w K mg base "_law_uneven" ["_law_masks"] 2 (Gp K))
  (gT:aC P w K mg base "_law_meet" ["_law_masks","_law_a","_law_b"] 1 (pK K)) (uk:aC P w K mg base "_law_chain" ["_law_known","_law_masks","_law_a","_law_b","_law_draws_here"] 3 (Fi K)) (yN:aC P w K mg base "_law_right" ["_law_order_here","_law_masks","_law_one","_law_other","_law_even"] 8 (Gf K C Pt))
  (yz:sW P w K mg base C "Order" ["self","count","pairs"] 5 (Fx K C)):aO P w K mg base aX 9 f fd ["_law_script"] (wC K Pt):=by
 refine F.ok Py (λvs H Q E h=>?_) (λcdv A outer s H vs Q E hr h=>?_)
 ·obtain⟨a,ns,rfl,_⟩:=h
  rfl
 ·obtain⟨a,ns,rfl,hS,hns,hP,kk⟩:=h
  have nd:=Py.nd;refine⟨_,(ax (aP (i:=1) nd rfl (Or.inl rfl) (aL yM hr rfl (ae (pv 0) (ae ak ah))))
   (ax (aP (i:=2) nd rfl (Or.inl rfl) (aL ow hr rfl (ae (pv 1) ah)))
   (ax (aP (i:=3) nd rfl (Or.inl rfl) (aL yI hr rfl (ae (pv 1) (ae (aL kZ hr rfl (ae (aL mh hr rfl (ae (pv 0) (ae ak ah))) (ae ak ah))) ah))))
   (ax (aP (i:=4) nd rfl (Or.inl rfl) (aaN yz hr rfl (ae (aY (cI (K:=K) rfl) rfl T.len cT (ae (pv 1) ah)) (ae (pv 3) ah))))
   (ax (aP (i:=5) nd rfl (Or.inl rfl) (gj vy (aL yQ hr rfl (ae (pv 1) ah)) jB (a_ _)))
   (ax (cH cF rfl (dk (K:=K) rfl (aJ fJ (bV (ae ak (ae ak ah))) (eL (fk (K:=K) rfl) (pv 0) (dS ak) (dS ak)))) (bf (i:=6) nd rfl (Or.inl rfl))
   (ax (aP (i:=7) nd rfl (Or.inl rfl) (aL kZ hr rfl (ae (pv 6) (ae ak ah))))
   (ax (aP (i:=8) nd rfl (Or.inl rfl) (eV (K:=K) rfl eM kO qh (vi (K:=K) rfl) (pv 1) (ae (aY (Jo (K:=K) rfl rfl) rfl T.min boot_min (ae (pv 1) ah)) ah)))
   (ax (aP (i:=9) nd rfl (Or.inl rfl) (eV (K:=K) rfl eM kO qh (vi (K:=K) rfl) (pv 1) (ae (aY (Jn (K:=K) rfl rfl) rfl T.max boot_max (ae (pv 1) ah)) ah)))
   (ax (bB (bu dH (aJ cU (aq (aV (K:=K) rfl) (pv 7) ak (λ_ _=>rfl)) ak) ak (a_ _)) (ax (aP (i:=9) nd rfl (Or.inl rfl) (aJ cU (aq (aV (K:=K) rfl) (pv 7) ak (λ_ _=>rfl)) (aY (cI (K:=K) rfl) rfl T.len cT (ae (pv 1) ah))))
   (aA (aP (i:=8) nd rfl (Or.inl rfl) (aL gT hr rfl (ae (pv 1) (ae (pv 9) (ae (aJ cU (aq (aV (K:=K) rfl) (pv 7) ak (λ_ _=>rfl)) (aY (cI (K:=K) rfl) rfl T.len cT (ae (pv 1) ah))) ah (ao nofun)) (ao nofun)) (ao nofun)))))) bD)
   (ax (aP (i:=10) nd rfl (Or.inl rfl) (aL uk hr rfl (ae (pv 2) (ae (pv 1) (ae (pv 8) (ae (pv 9) (ae (pv 7) ah (ao nofun)) (ao nofun)) (ao nofun)) (ao nofun)) (ao nofun))))
   (ax (aP (i:=11) nd rfl (Or.inl rfl) (aL uk hr rfl (ae (pv 2) (ae (pv 1) (ae (pv 8) (ae (pv 9) (ae (eL (fk (K:=K) rfl) (pv 7) (dS ak) fh) ah (ao nofun)) (ao nofun)) (ao nofun)) (ao nofun)) (ao nofun))))
   (aA (bB (dA (cg (aL yN hr rfl (ae (pv 4) (ae (pv 1) (ae (pv 10) (ae (pv 11) (ae (pv 5) ah (ao nofun)) (ao nofun)) (ao nofun)) (ao nofun)) (ao nofun))))) (aA (aQ dj)) bD)))))))))
   (aA (aQ dj)))))))),?_⟩
  refine⟨_,rfl,a,ns,0,rfl,hS,λm M H0 s0 hm0 Oy hM=>?_⟩;refine⟨_,rfl,m,M,rfl,ag.of Oy,hM.len,λkn Rt H1 s1 hkn qk0 L5 Wr=>?_⟩;have pF:=s0.trans s1;have qm:=s1 _ _ Oy;refine⟨_,rfl,_,rfl,a,2,ns,rfl,pF.seq hS,λc H2 s2=>⟨c,8,rfl,by decide,λd ds H3 s3 hd q3 hdl hsm=>?_⟩⟩;have vL:=s2.trans s3;refine⟨m,d,M,ds,rfl,ag.of (vL _ _ qm),ag.of q3,hdl,hM.pos,hM.len,λL us ps H4 s4 hL q4 jv hpp hand=>?_⟩;have lG:=vL.trans s4;have Oz:=lG _ _ qm;refine⟨_,rfl,m,_,rfl,.inl (ag.of Oz),_,rfl,λx dx hx hdx hne=>?_⟩;rw[au];have bG:Same H4 (upd (upd H4 dx (.own x)) x (.ins C dx [])):=λb o e=>by
   rw[aG (dg e hx),aG (dg e hdx)];exact e
  refine⟨x,dx,M.length,L,ps,rfl,av,⟨us,ag.of (bG _ _ q4),eK.same bG hpp⟩,hM.pos,hM.len,hand.lt,KZ hM hand,λH5 R fr hC hO=>⟨rfl,?_⟩⟩;have jI:Same H4 H5:=λb o e=>fr b o (bG _ _ e) (dg e hx);have hR:=Jv hM hand hC;have G:=KZ hM hand R hC;have lH:=lG.trans jI;have DG:Same H H5:=pF.trans lH;have sj:=jI _ _ Oz;have Ox:=lH _ _ qk0;have Lh:=eK.same lH Wr;refine⟨_,rfl,m,M,rfl,ag.of sj,hM,λve RT mO L7=>⟨rfl,?_⟩⟩;have hev:decide (ve=V.non)=true->∀a b c,a<M.length->b<M.length->c<M.length->¬ Un M.length (Ev.aF M) a b c:=λh=>by
   have h:=rW h;subst h
   rcases L7 with⟨_,no⟩|⟨_,_,_,_,e,_⟩
   ·exact no
   ·cases e
  have uR:decide (ve=V.non)=false->∃a b c,a<M.length/\b<M.length/\c<M.length/\Un M.length (Ev.aF M) a b c:=λh=>by
   have h:=of_decide_eq_false h
   rcases L7 with⟨e,_⟩|⟨_,a,b,c,_,_,fst⟩
   ·exact absurd e h
   ·exact⟨a,b,c,fst.la,fst.lb,fst.lc,fst.is⟩
  generalize decide (ve=V.non)=ev at hev uR ⊢;have abN:=DG.trans mO;refine⟨by show 2<=sizeLine;decide,λp1 hp1=>⟨_,rfl,_,rfl,_,rfl,a,_,rfl,(abN.trans (Same.put hp1)).seq hS,λp2 hp2=>?_⟩⟩;obtain⟨ms,zt,hms⟩:=TV ns (some 3) (some 11);rw[zt];refine⟨p1,p2,_,_,rfl,rfl,Same.put hp2 _ _ av,av,by rw[au];show 2+ms.length<=sizeLine;exact eB (c7 (by omega)),λp3 hp3=>?_⟩;generalize hB:upd (upd (upd RT p1 _) p2 _) p3 _=B;have sB:Same H5 B:=by rw[<- hB];exact mO.trans (((Same.put hp1).trans (Same.put hp2)).trans (Same.put hp3))
  have hl3:B p3=some (.lst (([0,7]++ms).map V.int)):=by rw[<- hB,av,gx];rfl
  clear hB;refine⟨p3,rfl,⟨_,ag.of hl3⟩,jr (K:=K) (a:=p3) (xs:=([0,7]++ms).map V.int) (λi σ H6=>∃(v7 v8 v9 v10 v11 sO:Option V),σ = [some (.ref a),some (.ref m),some (.ref kn),some (.ref L),some (.ref x),some (.bl ev),v7,v8,v9,v10,v11,sO]/\Same B H6)
   ⟨none,none,none,none,none,none,rfl,Same.refl _⟩ (λi σ H6 _ hpq=>by obtain⟨_,_,_,_,_,_,_,s6⟩:=hpq;exact ag.of (s6 _ _ hl3)) ?_ ?_⟩
  ·rintro i y σ H6 hy ⟨v7,v8,v9,v10,v11,sO,rfl,s6⟩
   obtain⟨zc,rfl⟩:∃z,y=V.int z:=by
    rw[bX]at hy;cases e:([0,7]++ms)[i]? with
    |none=>rw[e]at hy;cases hy
    |some z=>rw[e]at hy;exact⟨z,(df hy).symm⟩
   have t6:=sB.trans s6;have rn:=hM.len;have hpos:=hM.pos;refine⟨_,rfl,zc,18,rfl,by decide,λd ds H7 s7 hd q7 hdl hsm=>?_⟩;have t7:=t6.trans s7;have oK:ag K H7 m (M.map nV):=ag.of (t7 _ _ sj);have rS:=CW oK;have Oo:0<(M.map λx:Nat=>(x:Int)).length:=by rw[au];exact hM.pos
   refine⟨_,rfl,.inl ⟨rfl,_,oK⟩,_,rfl,m,_,rfl,rS,Oo,λmi hmi hmin=>⟨m,_,mi,rfl,rfl,rS,hmi,?_⟩⟩;refine⟨_,rfl,.inl ⟨rfl,_,oK⟩,_,rfl,m,_,rfl,rS,Oo,λma hma rA=>⟨m,_,ma,rfl,rfl,rS,hma,?_⟩⟩;obtain⟨x0,hx0,rfl⟩:=cS.mp hmi;obtain⟨x1,hx1,rfl⟩:=cS.mp hma;obtain⟨ia,ga⟩:=uY hx0;obtain⟨ib,gb⟩:=uY hx1;have V_:Ev.Sub x0 x1:=YB hM hx0 (λy hy=>by have:=hmin (y:Int) (cS.mpr ⟨y,hy,rfl⟩);omega) x1 hx1;generalize (M.map λx:Nat=>(x:Int)).idxOf (x0:Int)=A0 at ia ga ⊢;generalize (M.map λx:Nat=>(x:Int)).idxOf (x1:Int)=B0 at ib gb ⊢;have hAB:Ev.aF M A0 B0=true:=by rw[Ev.dF,ga,gb];exact V_
   clear hmi hma hmin rA rS;have zl:∀j,j<18->∃z:Int,(ds.map V.int)[j]?=some (.int z):=λj hj=>⟨ds[j]'(by omega),by rw[bX,ay (by omega)];rfl⟩;obtain⟨qF,V'⟩:=zl 14 (by decide);obtain⟨JC,Wa⟩:=zl 15 (by decide);obtain⟨JD,Wb⟩:=zl 16 (by decide);dsimp only[cK];show kC _ _ _ [some (.ref a),some (.ref m),some (.ref kn),some (.ref L),some (.ref x),some (.bl ev),some (.int zc),some (.ref d),some (.int (A0:Int)),some (.int (B0:Int)),v11,sO] _;refine abS (ι:=Nat × Nat) (λq H'=>q.1<M.length/\q.2<M.length/\Ev.aF M q.1 q.2=true/\Same H7 H') (λq=>[some (.ref a),some (.ref m),some (.ref kn),some (.ref L),some (.ref x),some (.bl ev),some (.int zc),some (.ref d),some (.int (q.1:Int)),some (.int (q.2:Int)),v11,sO]) (λD' hrt hD'=>?_) ?_
   ·refine⟨_,rfl,d,_,14,.int qF,rfl,rfl,ag.of q7,aI (j:=14) V',_,_,rfl,rfl,by show(0:Int)<3;decide,rfl,_,rfl,?_⟩
    refine bq (λh1=>?_) (λh1=>?_)
    ·obtain⟨rb,hrb,Uu⟩:=gU JC M.length hM.pos
     obtain⟨rc,WQ,Uv⟩:=gU JD M.length hM.pos;have posM:(0:Int)<((M.map nV).length:Int):=by rw[au];omega
     refine⟨_,rfl,d,_,15,.int JC,rfl,rfl,ag.of q7,aI (j:=15) Wa,_,rfl,m,_,rfl,.inl oK,_,_,rfl,rfl,posM,?_⟩;refine⟨_,rfl,_,rfl,_,rfl,d,_,16,.int JD,rfl,rfl,ag.of q7,aI (j:=16) Wb,_,rfl,m,_,rfl,.inl oK,_,_,rfl,rfl,posM,?_⟩;rw[au];dsimp only;rw[Uu,Uv];refine⟨m,rb,rc,M,rfl,oK,hM,hrb,WQ,λmt H8 s8 hmt Wy=>?_⟩;have e1:=Wy mt;rw[Ev.jx]at e1;have e2:Ev.aF M mt rb=true:=by
      have:=e1.symm;rw[bJ]at this;exact this.1
     exact hD' (mt,rb) H8 ⟨hmt,hrb,e2,s8⟩
    ·exact hD' (A0,B0) H7 ⟨ia,ib,hAB,Same.refl _⟩
   rintro⟨a',b'⟩ H8 ⟨ha',hb',hab',s8⟩;have t8:=t7.trans s8;have q8:=s8 _ _ q7;refine⟨_,rfl,_,rfl,_,rfl,_,rfl,_,rfl,kn,m,a',b',d,M,Rt,ds,rfl,ag.of (t8 _ _ Ox),eK.same t8 Lh,L5,ag.of (t8 _ _ sj),hM,ha',hb',hab',ag.of q8,by omega,λt cs H9 s9 ht q9 VJ Ug Uh=>?_⟩;have t9:=t8.trans s9;have q9d:=s9 _ _ q8;refine⟨_,rfl,_,rfl,_,rfl,_,rfl,_,rfl,_,rfl,d,_,rfl,ag.of q9d,λp4 cD=>?_⟩;have e6:bP (ds.map V.int) (some 7) none=(ds.drop 7).map V.int:=TQ (k:=7) (by omega);rw[e6];have DK:=Same.put (o:=.lst ((ds.drop 7).map V.int)) cD;have t10:=t9.trans DK;refine⟨kn,m,a',b',p4,M,Rt,ds.drop 7,rfl,ag.of (t10 _ _ Ox),eK.same t10 Lh,L5,ag.of (t10 _ _ sj),hM,ha',hb',hab',ag.of av,by rw[jP];omega,λu dd RQ DN hu' q11 uK Ui Uj=>?_⟩;have t11:=t10.trans DN;have abb:=DN _ _ (DK _ _ q9);have Jb:Same B RQ:=s6.trans (s7.trans (s8.trans (s9.trans (DK.trans DN))));exact⟨_,rfl,_,rfl,_,rfl,_,rfl,_,rfl,x,m,t,u,M,cs,dd,R,ev,rfl,hO.iY t11,G,hR,hM,ag.of (t11 _ _ sj),Jb _ _ (sB _ _ (DG _ _ hP)),abb,q11,VJ,uK,by rw[Ug,Ui],by rw[Uh,Uj],hev,uR,λH13 vL=>⟨_,rfl,bA ⟨_,_,_,_,_,_,rfl,Jb.trans vL⟩⟩⟩
  ·rintro σ H6 ⟨v7,v8,v9,v10,v11,sO,rfl,s6⟩
   exact kk _ (s6 _ _ (sB _ _ (DG _ _ hP)))
end
end My
noncomputable def PySem.W.Fast.tw1701962648809756636 : PySem.Program := PySem.Challenge.pw_evenclimb_k45_chains_made_longer
theorem PySem.W.Fast.te1701962648809756636 : PySem.Challenge.pw_evenclimb_k45_chains_made_longer = PySem.W.Fast.tw1701962648809756636 := rfl
structure PySem.W.Fast:Prop where (te12225593195953670127 tw8092302933060757511 tw5191362319095212721 tw13298699628241436008 tw10885305370803381924 tw18238533449220589544 tw15304855640957133687 tw8378754683295726981 tw11957694303827410207 tw4578347139712842632 tw2570256811432847256 tw315680504956858678 tw2835797493248587493 tw11918143835013044708 tw4242050930311613275 tw15184196062123026342 tw11541081056122117336 tw6972328851480193949 tw1107653887703173989 tw16210752444425667386 tw8567949983473256848 tw16190026041359907708 tw872474550402317475 tw5424935603213288306 tw16624211581627462607 tw13817567867973367406 tw5826064209929908586 tw5518958396149956123 tw12676644900063392748 tw17250444180123607502 tw14390834941334556946 tw18361195067188473707 tw5419262926755673417 tw12837267625092731694 tw13050996189572913025 tw10118823258208078424 tw8852351388667479605 tw11148354270316868996 tw7883370515363631661 tw14078725669811752912 tw10007066427745652852 tw808776095284979285 tw17880329747618676880 tw1648708563383902597 tw7794864517313540216 tw17603147302592277517 tw13053926929930593892 tw6191796055386152409 tw1091498609089754972 tw4832262546379953996 tw10939753249879652468 tw2285721706601871325 tw18184284592939474365 tw6243312261642255556 tw8939341582120833779 tw13808968569401941287 tw1456194891699105599 tw16484786478540422677 tw7933266697770447830 tw11845104479166034025 tw12775322824641488849 tw15802203870173591807 tw13905207841155093752 tw3597138344893193540 tw1377820925380814641 tw15251659013112359326 tw14084874647136138752 tw2326767140286396632 tw12248614093444029190 tw6146012642706358325 tw11181562093823427987 tw6897066021420332669 tw1785624841060359724 tw17827480017638328628 tw1170021261935894326 tw9122379930907259767 tw643625441459160394 tw16423778367494669136 tw17832920524167887392 tw17314451677913926217 tw9759691026788480135 tw1495347698513644143 tw12713325295441956799 tw724183174989084168 tw5238213041327409306 tw11526572055691823631 tw14254966447945814285 tw7025976663199038802 tw15966102484849393286 tw3646300603323457987 tw4862533468929917050 tw16818523805368596732 tw670242509228023638 tw12205785912049756871 tw6626094339110098650 tw6110256204406371629 tw2871915152183667933 tw8745338566989452747 tw13067461023572197375 tw9730226856502084588 tw1436621400571594061 tw3740225821086297732 tw15525349041599014098 tw664627261796048775 tw4130375441129437162 tw2577011498804142062 tw13961745510195326002 tw17853229320514118279 tw6314414032057150714 tw8760298357627526061 tw17545376513426339164 tw12892701708819774001 tw15527376313414279346 tw17317409736540251523 tw14496067023883562042 tw16129721319869814425 tw15319120797924018918 tw835015436102565030 tw7549000813420656798 tw13002754592969274754 tw1971369052866581325 tw11886070341232621262 tw6883614213650797784 tw12906924098781716274 tw8829586605104947427 tw2403007433647327066 tw5238712992971198678 tw17106981434120069693 tw12105518492945581193 tw2522554577710976284 tw2650511960943528993 tw17743407394838445431 tw4231968165851440131 tw5723131906446311024 tw17685370543194299944 tw17906298336228931699 tw2063976583304900455 tw2507601768016789265 tw15747176637901533543 tw2277687519234247645 tw8568063966812311371 tw13850186320076988643 tw10788344545236715157 tw13523314898511433851 tw17401598787169841013 tw9406720580709680327 tw13544345477986540194 tw17499197315831323 tw1553777390237084028 tw10751296083534501 tw3571008086849344412 tw13964585089606932246 tw2757653846179280558 tw12518084563991511449 tw8757537227258871825 tw18393792769319279144 tw7069513156974713141 tw1555750104522521866 tw17685691358147287862 tw12024631674832242386 tw11614739391009075665 tw3789337874007102155 tw1814928441321290906 tw12798889899308257004 tw4524635020081257686 tw5008156973988685239 tw17618091474615944299 tw14141223312729809377 tw8381530741058738008 tw15426449200924666034 tw16792793171418246781 tw14122520950027238903 tw13784837893821355176 tw6385786685742322996 tw13903904816162630044 tw8711953097120769362 tw6994192768940891331 tw16283257079219107709 tw10595454689731287237 tw8061260912941381091 tw6903649022354400403 tw6267522638641628591 tw6987426032153753658 tw15776592383644909947 tw2767539542625123935 tw985282688425912400 tw285122623241676366 tw2184306397827752377 tw14952254978816952143 tw17087422425927979373 tw9215006743795736872 tw14369839293634295291 tw7850795137300002067 tw702707336767181674 tw4219751235933702135 tw7693446380360226753 tw14514145118489067817 tw13870522381680631730 tw13657136502281258868 tw10643566084643063267 tw8517911324040747 tw11931680604368771945 tw6517793940412293493 tw10190065606878211684 tw10463410583016072526 tw5227757510308636751 tw17767070022993662772 tw302451791811277249 tw10618163871813799785 tw11398579246686116022 tw17520801319917548083 tw5909299031967644084 tw2284430586113353095 tw13657389173623042830 tw4849501218394581415 tw8666267080639593833 tw4981522464233409884 tw5503238200931523547 tw2809848881893282419 tw11874511520232055039 tw18437135280445767747 tw11668927589259890883 tw8653772032182720822 tw10543584233039402907 tw939655144090570467 tw5850010167925617029 tw18209021858909382806 tw1782770321968676410 tw1613977892730209390 tw15263290395733026498 tw12951937876423779699 tw1148343773555732107 tw10843015082603127532 tw1512462319469464388 tw13109628578168608961 tw7178954207155175259 tw5097085011519411655 tw9872458055438204502 tw7442016867300387327 tw4488574362609197382 tw623091035993443372 tw4526876665017278196 tw3014861333275997450 tw17937911112117023869 tw17814151701881712974 tw13831292254850366046 tw12045805766118158105 tw11299126621262254318 tw6638982058106565644 tw2576716443229942382 tw9071300857511171445 tw14254430079101979725 tw8744332645003384238 tw6928978580000970486 tw14579512377238477772 tw16470619972093307693 tw11206387511498900407 tw5317023953102795167 tw12206889058577402715 tw4334761652537709594 tw14904576544386090396 tw9525566166799245796 tw14349625657358992487 tw4112937701383693691 tw18304918752429259053 tw15420250849334573919 tw16367023478164811452 tw295406728989126939 tw16880048423505198517 tw4584934145652093860 tw4508517052762862147 tw2992985903346424793 tw13770421611651824137 tw11829494599377370414 tw7816677507281256302 tw17729717435685453697 tw15206632603647402873 tw12411362394323866376 tw14351526991204992055 tw1697316924409641149 tw9272216396944463857 tw1476836961410194064 tw14027533094725551861 tw5820308787948754899 tw3389635850428410479 tw17447406847803509777 tw10049233735721638877 tw9914687594050545114 tw16013348825240969690 tw8412042027859510164 tw7036541888406884082 tw4522584877439156821 tw120105940168823665 tw5793618117979105434 tw10886731915209930411 tw3304142951283208073 tw9215536270140135546 tw16835180813106553320 tw10067103964626356940 tw10757299776521565270 tw7849367823621292259 tw12870822063008679869 tw18245674293865598379 tw17037001513508737062 tw2601659981307874890 tw14734448780784138603 tw13647487484530811817 tw10652096447198245186 tw2399787217559197672 tw11510084618736826637 tw17473851690144949946 tw7361470928803997640 tw8954969515671276510 tw3373723571300857798 tw15115682527951687278 tw9721368517772590483 tw11871391228866375844 tw669180488462785882 tw15443570565915353987 tw16167279071050557062 tw9699098399728715905 tw4511640368714562316 tw17448792819039822165 tw17301213980795955028 tw13332146361836300927 tw13304003327454405738 tw8980594903402437765 tw3805921558186247799 tw3394935990553279956 tw13226889166854185725 tw8188518028164755999 tw5569123171573936881 tw17943694459202974918 tw14534171274745352808 tw5291764253410123381 tw6186009086356065190 tw4672209845095181675 tw12890575993968457034 tw7615735645209064463 tw6993362407101782196 tw3522195859046353015 tw3310866587202721549 tw2463820425440153788 tw16024460177783728569 tw1449764806821698229 tw762839482839820667 tw10237410525772991328 tw7926604863137966824 tw6941249275237326512 tw6658866063617477719 tw497659047667865032 tw2771828044616277636 tw14131915452170541769 tw10086804843900355107 tw8864684312184866897 tw6244890575699051223 tw3473349848643718938 tw2715466013507977640 tw261488754214391548 tw17556662528646460164 tw13512128349392556890 tw11462665810780038677 tw11133028820376387218 tw10172845518615409104 tw9590690415524365104 tw3467939644173911682 tw17978818286845751540 tw16923485969196728904 tw9766849002554420422 tw6425051383120457687 tw4394971516960365259 tw279108807770924043 tw17146003358372563832 tw16877707656152330112 tw16823737383555202308 tw16596338511153123897 tw16182055822229592435 tw16173997296273700904 tw14312141311903346445 tw13706495245127161448 tw135651036882891313 tw12128170198842581440 tw11062407135951768846 tw1085938037903788669 tw1027531461139266110 tw10129505995795899426 tw6953496900530800856 tw3490373368911208073 tw9896531662072119156 tw17551656627307304904 tw7793290232921827090 tw18200257279032688535 tw12975255868004301074 tw9877654377991661039 tw8372577135299324152 tw5518633379117454379 tw13830534288757729908 tw6375485864614298979 tw5142487998952875246 tw15728198274860138106 tw15359533231098523301 tw12160295174384334852 tw4571985863102804289 tw8254291739018749476 tw2945196247725739555 tw18138840831920668993 tw588782328337987590 tw13334268672247378969 tw11272912465903620855 tw13856501360989036097 tw14066564469977840111 tw4400512322080861570 tw17134829690622612002 tw3345750439916105667 tw13729918964331276816 tw14207886767579341282 tw12531277226237485744 tw10505843188054753758 tw5815534570952422410 tw4594345335400672543 tw3618481994719653986 tw352758890767461084 tw1871022626324822311 tw16695922141226394495 tw16193435715710360666 tw14044054533846130659 tw12741784459110885415 tw8100971307977890191 tw18379668539631160175 tw11863370892392811110 tw964901064129115925 tw9493737974452453243 tw8260649614353067905 tw8204344053848190890 tw7740841692846836133 tw3426282239211275860 tw18215220462096366942 tw17654414364214173979 tw17462537129692597610 tw17024204343564981254 tw15613946464952768847 tw15121900817346815598 tw13964738954250092378 tw1239055548217729252 tw10347841780337645657 tw6842946210223405342 tw5285190935453125419 tw5027421392256305204 tw3092767894567622497 tw3005287303518499413 tw2418326290809720203 tw17390020830031761707 tw14875603834154445825 tw13585729858431695129 tw12684486112887740121 tw12350581493956225421 tw108073258101149786 tw8313066404233491953 tw16252369984372223778 tw865650474640280977 tw3444047093873127643 tw5578880224909258931 tw5521814212836513495 tw5378367752744004309 tw4036003784594580017 tw2870269574698844703 tw17559794762001593021:True)
namespace My
open PySem PySem.Spec PyProof.Rows L2
theorem us0 {C:List Value->Prop} (h:C []):∀us:List Value,us.length=0->C us
 |[],_=>h 
theorem us1 {C:List Value->Prop} (h:∀a0,C [a0]):∀us:List Value,us.length=1->C us
 |[a0],_=>h a0
theorem us2 {C:List Value->Prop} (h:∀a0 a1,C [a0,a1]):∀us:List Value,us.length=2->C us
 |[a0,a1],_=>h a0 a1
theorem us3 {C:List Value->Prop} (h:∀a0 a1 a2,C [a0,a1,a2]):∀us:List Value,us.length=3->C us
 |[a0,a1,a2],_=>h a0 a1 a2
theorem us4 {C:List Value->Prop} (h:∀a0 a1 a2 a3,C [a0,a1,a2,a3]):∀us:List Value,us.length=4->C us
 |[a0,a1,a2,a3],_=>h a0 a1 a2 a3
theorem us5 {C:List Value->Prop} (h:∀a0 a1 a2 a3 a4,C [a0,a1,a2,a3,a4]):∀us:List Value,us.length=5->C us
 |[a0,a1,a2,a3,a4],_=>h a0 a1 a2 a3 a4
set_option maxHeartbeats 0 in
theorem all_mk {l:W.OpenLaw} {w:World} {K:W.Frag} {h:Heap} {mg:Str->Option Value} {fa C a0 a1 a2 a3 a4 a5 a6 a7 a8 a9 a10 a11 a12 a13 a14 aE c0 P0:Addr} (X:K.In h) (G:h.Ns mainGlobals mg) (hfa:mg "law" = some (.ref fa)) (tx:nZ K)
  (cO:ClsAt K "Order" "Order.__init__" vS C) (nC:W.findIn K (.ref C) "count" = some none) (nP:W.findIn K (.ref C) "pairs" = some none) (nR:W.findIn K (.ref C) "reach" = some none) (nJ:W.findIn K (.ref C) "joins" = some none) (nM:W.findIn K (.ref C) "meets" = some none)
  (ht:W.tabIn K "longer" = some (c0,P0))
  (er:sY K a0 a1 a2 a3 a4 a5 a6 a7 a8 a9 a10 a11 a12 a13 a14 aE)
  (BI:w5 K aE)
  (mL:nX K a0 a1 a2 a3 a4 a5 a6 a7 a8 a9 a10 a11 a12 a13 a14 aE a14 14)
  (sP:W.excIn K a0 iC "ValueError.__new__" = true)
  (sQ:W.excIn K a3 iC "ValueError.__new__" = true)
  (zI:aD K "is_whole" DX)
  (zH:aD K "is_thing" DW)
  (Aw:aD K "need_thing" Ew)
  (Ao:aD K "need_count" En)
  (Av:aD K "need_pairs" Eu)
  (Ay:aD K "own_row" wj)
  (zB:aD K "either" vU)
  (Bb:aD K "shared" wm)
  (zA:aD K "column" vT)
  (Ba:aD K "reach_of" sH)
  (Bd:aD K "twos" wo)
  (Au:aD K "need_one_way" Et)
  (zD:aD K "ends_with" vW)
  (zC:aD K "ends_of" vV)
  (Ap:aD K "need_ends" Eo)
  (Az:aD K "pairs_of" wk)
  (zN:aD K "_law_cell_at" Ea)
  (z_:aD K "_law_mixed" Ef)
  (zR:aD K "_law_draws" Eb)
  (zU:aD K "_law_flower" wa)
  (Ae:aD K "_law_stack" wg)
  (zM:aD K "_law_beside" vX)
  (zL:aD K "_law_at_most" D_)
  (Af:aD K "_law_steps" sF)
  (z9:aD K "_law_meet" Ee)
  (zZ:aD K "_law_join" Ed)
  (zT:aD K "_law_fields" pJ)
  (Ad:aD K "_law_shut" Eh)
  (z7:aD K "_law_kind" wd)
  (zW:aD K "_law_handed" Ec)
  (Ah:aD K "_law_up" Ei)
  (zF:aD K "is_below" DT)
  (zG:aD K "is_chain" sy)
  (A_:aD K "parts_of" Ey)
  (Bc:aD K "shared_part" Ez)
  (Al:aD K "matches" El)
  (Aj:aD K "_law_whole" Ek)
  (zJ:aD K "join_of_meet" DY)
  (Am:aD K "meet_of_join" Em)
  (Be:aD K "uneven" EY)
  (zE:aD K "five_of" DS)
  (zP:aD K "_law_class" dU)
  (uX:m8 K "NotEven.__init__" "five" DR a14)
  (Aq:aD K "need_even" Ep)
  (As:aD K "need_like_ends" Es)
  (Ax:aD K "need_two_chains" Ex)
  (Ak:aD K "longer" kB)
  (Ag:aD K "_law_uneven" sG)
  (zY:aD K "_law_is_five" wc)
  (zX:aD K "_law_is_chain" sC)
  (zV:aD K "_law_grown" sA)
  (Ac:aD K "_law_rows" sE)
  (Ai:aD K "_law_well" Ej)
  (Ab:aD K "_law_right" sD)
  (zQ:aD K "_law_climb" vZ)
  (Aa:aD K "_law_order" Eg)
  (zO:aD K "_law_chain" vY)
  (zK:aD K "law" pI) :
  ∃fd:FuncData,(∀(s:Shared) (v:Value),BindsTo s fd ⟨[v],[]⟩ [("_law_script", v)])/\∀base:Heap,K.In base->base.Ns mainGlobals mg->TabAt base mg c0 P0->aO l.prog w K mg base aX 40 fa fd ["_law_script"] (wC K P0):=by
 have T:=tx.txt X G;have TC:gP K C:=⟨cO.cl,nC,nP,nR,nJ,nM⟩;obtain⟨f,fd,a,F⟩:=zK.ex;have e:=hfa.symm.trans (W.mg_of X G a);cases e;obtain⟨oc,od,kV,doc,pm,an,cdv,ct,osl,rfl,lk,hcd⟩:=id F.ex;refine⟨W.fnOf "law" "law" (iL pI) (gE pI) (aB pI) .none kV doc pm an cdv ct,λs v=>.of_eq rfl,λbase _ _ tb=>?_⟩;have Er:=er.errs X G;have oh:aC l.prog w K mg base "is_whole" ["value"] 1 wA:=zI.cal X G (λ_ _ _ _ _ _=>us1 λ_=>rfl) (λF=>ZK F T);have og:aC l.prog w K mg base "is_thing" ["count","number"] 2 wz:=zH.cal X G (λ_ _ _ _ _ _=>us2 λ_ _=>rfl) (λF=>ZJ F T oh);have uq:aC l.prog w K mg base "need_thing" ["count","number"] 3 FX:=Aw.cal X G (λ_ _ _ _ _ _=>us2 λ_ _=>rfl) (λF=>Z0 F T og);have yT:aC l.prog w K mg base "need_count" ["count"] 2 FP:=Ao.cal X G (λ_ _ _ _ _ _=>us1 λ_=>rfl) (λF=>ZV F T oh);have yW:aC l.prog w K mg base "need_pairs" ["count","pairs"] 4 (FW K):=Av.cal X G (λ_ _ _ _ _ _=>us2 λ_ _=>rfl) (λF=>ZZ F T uq);have yX:aC l.prog w K mg base "own_row" ["count","thing"] 1 Ga:=Ay.cal X G (λ_ _ _ _ _ _=>us2 λ_ _=>rfl) (λF=>Z2 F T);have yB:aC l.prog w K mg base "either" ["one","other"] 1 Fn:=zB.cal X G (λ_ _ _ _ _ _=>us2 λ_ _=>rfl) (λF=>Zr F T);have y6:aC l.prog w K mg base "shared" ["one","other"] 1 Gh:=Bb.cal X G (λ_ _ _ _ _ _=>us2 λ_ _=>rfl) (λF=>Z8 F T);have yA:aC l.prog w K mg base "column" ["rows","place"] 1 Fm:=zA.cal X G (λ_ _ _ _ _ _=>us2 λ_ _=>rfl) (λF=>Zo F T);have y4:aC l.prog w K mg base "reach_of" ["count","pairs"] 2 (Ge K):=Ba.cal X G (λ_ _ _ _ _ _=>us2 λ_ _=>rfl) (λF=>Z5 F T yX yB);have oz:aC l.prog w K mg base "twos" ["count"] 1 wG:=Bd.cal X G (λ_ _ _ _ _ _=>us1 λ_=>rfl) (λF=>aad F T);have yV:aC l.prog w K mg base "need_one_way" ["count","reach"] 2 FV:=Au.cal X G (λ_ _ _ _ _ _=>us2 λ_ _=>rfl) (λF=>ZX F T oz);have yC:aC l.prog w K mg base "ends_with" ["rows","things","thing"] 2 (Fp K):=zD.cal X G (λ_ _ _ _ _ _=>us3 λ_ _ _=>rfl) (λF=>Zu F T y6);have ui:aC l.prog w K mg base "ends_of" ["rows"] 3 (Fo K):=zC.cal X G (λ_ _ _ _ _ _=>us1 λ_=>rfl) (λF=>Zt F T yC);have yU:aC l.prog w K mg base "need_ends" ["count","joins","meets"] 2 FQ:=Ap.cal X G (λ_ _ _ _ _ _=>us3 λ_ _ _=>rfl) (λF=>ZW F T oz);have yZ:aC l.prog w K mg base "pairs_of" ["count","reach"] 1 Gb:=Az.cal X G (λ_ _ _ _ _ _=>us2 λ_ _=>rfl) (λF=>Z3 F T);have yz:sW l.prog w K mg base C "Order" ["self","count","pairs"] 5 (Fx K C):=cO.cal X G (λ_ _ _ _ _ _=>us3 λ_ _ _=>rfl) (λF=>ZD F T TC yT yW y4 yV ui yA yU yZ);have mh:aC l.prog w K mg base "_law_cell_at" ["_law_script","_law_k"] 1 (wu K):=zN.cal X G (λ_ _ _ _ _ _=>us2 λ_ _=>rfl) (λF=>Zi F T);have yL:aC l.prog w K mg base "_law_mixed" ["_law_cell","_law_place"] 1 FN:=z_.cal X G (λ_ _ _ _ _ _=>us2 λ_ _=>rfl) (λF=>ZS F T);have kZ:aC l.prog w K mg base "_law_draws" ["_law_cell","_law_many"] 2 wy:=zR.cal X G (λ_ _ _ _ _ _=>us2 λ_ _=>rfl) (λF=>Zq F T yL);have ot:aC l.prog w K mg base "_law_flower" ["_law_many"] 1 Fu:=zU.cal X G (λ_ _ _ _ _ _=>us1 λ_=>rfl) (λF=>Zy F T);have qz:aC l.prog w K mg base "_law_stack" ["_law_one","_law_other","_law_places"] 1 (Gk K):=Ae.cal X G (λ_ _ _ _ _ _=>us3 λ_ _ _=>rfl) (λF=>Z' F T);have qy:aC l.prog w K mg base "_law_beside" ["_law_one","_law_other"] 1 (Fh K):=zM.cal X G (λ_ _ _ _ _ _=>us2 λ_ _=>rfl) (λF=>Zh F T);have eZ:aC l.prog w K mg base "_law_at_most" ["_law_masks","_law_a","_law_b"] 1 (mP K):=zL.cal X G (λ_ _ _ _ _ _=>us3 λ_ _ _=>rfl) (λF=>Zg F T);have ow:aC l.prog w K mg base "_law_steps" ["_law_masks"] 2 (wF K):=Af.cal X G (λ_ _ _ _ _ _=>us1 λ_=>rfl) (λF=>aac F T eZ);have gT:aC l.prog w K mg base "_law_meet" ["_law_masks","_law_a","_law_b"] 1 (pK K):=z9.cal X G (λ_ _ _ _ _ _=>us3 λ_ _ _=>rfl) (λF=>ZR F T);have jo:aC l.prog w K mg base "_law_join" ["_law_masks","_law_a","_law_b"] 1 (sJ K):=zZ.cal X G (λ_ _ _ _ _ _=>us3 λ_ _ _=>rfl) (λF=>ZM F T);have yH:aC l.prog w K mg base "_law_fields" [] 1 Fq:=zT.cal X G (λ_ _ _ _ _ _=>us0 rfl) (λF=>Zv F T);have yP:aC l.prog w K mg base "_law_shut" ["_law_masks","_law_both"] 1 (Gj K):=Ad.cal X G (λ_ _ _ _ _ _=>us2 λ_ _=>rfl) (λF=>Z_ F T);have yK:aC l.prog w K mg base "_law_kind" ["_law_draws_here","_law_family"] 2 (FG K):=z7.cal X G (λ_ _ _ _ _ _=>us2 λ_ _=>rfl) (λF=>ZN F T ot qz yH qy yP);have yI:aC l.prog w K mg base "_law_handed" ["_law_masks","_law_draws_here"] 3 (Fw K):=zW.cal X G (λ_ _ _ _ _ _=>us2 λ_ _=>rfl) (λF=>ZC F T ow eZ);have uo:aC l.prog w K mg base "_law_up" ["_law_masks","_law_one","_law_other"] 2 (Gq K):=Ah.cal X G (λ_ _ _ _ _ _=>us3 λ_ _ _=>rfl) (λF=>aag F T gT jo);have yE:aC l.prog w K mg base "is_below" ["order","a","b"] 1 (Fy C):=zF.cal X G (λ_ _ _ _ _ _=>us3 λ_ _ _=>rfl) (λF=>ZF F T TC);have uj:aC l.prog w K mg base "is_chain" ["order","things"] 3 (Fz K C):=zG.cal X G (λ_ _ _ _ _ _=>us2 λ_ _=>rfl) (λF=>ZG F T TC og yE);have ur:aC l.prog w K mg base "parts_of" ["chain"] 1 (Gd K):=A_.cal X G (λ_ _ _ _ _ _=>us1 λ_=>rfl) (λF=>Z4 F T);have y7:aC l.prog w K mg base "shared_part" ["order","one","other"] 1 (Gi K C):=Bc.cal X G (λ_ _ _ _ _ _=>us3 λ_ _ _=>rfl) (λF=>Z9 F T TC);have yS:aC l.prog w K mg base "matches" ["order","one","other"] 2 (FK K C):=Al.cal X G (λ_ _ _ _ _ _=>us3 λ_ _ _=>rfl) (λF=>ZQ F T ur y7);have ox:aC l.prog w K mg base "_law_whole" ["_law_found"] 1 wH:=Aj.cal X G (λ_ _ _ _ _ _=>us1 λ_=>rfl) (λF=>aai F T);have oq:aC l.prog w K mg base "join_of_meet" ["order","a","b","c"] 1 (wB C):=zJ.cal X G (λ_ _ _ _ _ _=>us4 λ_ _ _ _=>rfl) (λF=>ZL F T TC);have oy:aC l.prog w K mg base "meet_of_join" ["order","a","b","c"] 1 (wD C):=Am.cal X G (λ_ _ _ _ _ _=>us4 λ_ _ _ _=>rfl) (λF=>ZT F T TC);have y8:aC l.prog w K mg base "uneven" ["order"] 2 (Gn C):=Be.cal X G (λ_ _ _ _ _ _=>us1 λ_=>rfl) (λF=>aae F T TC oq oy);have yD:aC l.prog w K mg base "five_of" ["order","triple"] 2 (Ft K C):=zE.cal X G (λ_ _ _ _ _ _=>us2 λ_ _=>rfl) (λF=>Zx F T TC oq oy);have yF:aC l.prog w K mg base "_law_class" ["_law_e"] 1 (Fj λC j=>nX K a0 a1 a2 a3 a4 a5 a6 a7 a8 a9 a10 a11 a12 a13 a14 aE C j):=zP.cal X G (λ_ _ _ _ _ _=>us1 λ_=>rfl) (λF=>Zm F T Er);have lL:=uX.fl;have yx:sV l.prog w K mg base a14 "NotEven" ["self","five"] 1 (wt a14 "five" De):=uX.cal Er.NotEven (λ_ _ _ _ _ _=>us2 λ_ _=>rfl) (λF ic=>Zf F Er BI ic lL);have zh:h7 l.prog w K mg base "need_even" ["order"] 3 (FT C a14):=Aq.y9 X G (λ_ _ _ _ _ _=>us1 λ_=>rfl) (λF=>aak F T y8 yD yx);have zi:h7 l.prog w K mg base "need_like_ends" ["one","other"] 1 (FH K a3):=As.y9 X G (λ_ _ _ _ _ _=>us2 λ_ _=>rfl) (λF=>aal F T Er sQ);have zj:h7 l.prog w K mg base "need_two_chains" ["order","one","other"] 6 (Gm K C a0 a3):=Ax.y9 X G (λ_ _ _ _ _ _=>us3 λ_ _ _=>rfl) (λF=>aam F T TC Er sP uj zi);have uy:h7 l.prog w K mg base "longer" ["order","one","other"] 7 (FJ K C a0 a3 a14 P0):=Ak.S8 X G (λ_ _ _ _ _ _=>us3 λ_ _ _=>rfl) ht (λF hc=>aaj F hc tb T TC zj zh yS);have yQ:aC l.prog w K mg base "_law_uneven" ["_law_masks"] 2 (Gp K):=Ag.cal X G (λ_ _ _ _ _ _=>us1 λ_=>rfl) (λF=>aaf F T jo gT);have yJ:aC l.prog w K mg base "_law_is_five" ["_law_masks","_law_five"] 2 (Fs K):=zY.cal X G (λ_ _ _ _ _ _=>us2 λ_ _=>rfl) (λF=>Zw F T eZ gT jo);have ou:aC l.prog w K mg base "_law_is_chain" ["_law_masks","_law_things"] 2 (wx K):=zX.cal X G (λ_ _ _ _ _ _=>us2 λ_ _=>rfl) (λF=>Zk F T ox eZ);have um:aC l.prog w K mg base "_law_grown" ["_law_masks","_law_chain_here","_law_told"] 3 (Fv K):=zV.cal X G (λ_ _ _ _ _ _=>us3 λ_ _ _=>rfl) (λF=>Zz F T ou);have yO:aC l.prog w K mg base "_law_rows" ["_law_masks","_law_one","_law_other","_law_rows_here"] 3 (Gg K):=Ac.cal X G (λ_ _ _ _ _ _=>us4 λ_ _ _ _=>rfl) (λF=>Z7 F T ox ou uo);have yR:aC l.prog w K mg base "_law_well" ["_law_masks","_law_one","_law_other","_law_told"] 4 (Gr K):=Ai.cal X G (λ_ _ _ _ _ _=>us4 λ_ _ _ _=>rfl) (λF=>aah F T um yO);have yN:aC l.prog w K mg base "_law_right" ["_law_order_here","_law_masks","_law_one","_law_other","_law_even"] 8 (Gf K C P0):=Ab.cal X G (λ_ _ _ _ _ _=>us5 λ_ _ _ _ _=>rfl) (λF=>Z6 F T TC Er mL lL uy yF yJ yR);have yG:aC l.prog w K mg base "_law_climb" ["_law_known","_law_masks","_law_a","_law_b","_law_draws_here"] 2 (Fl K):=zQ.cal X G (λ_ _ _ _ _ _=>us5 λ_ _ _ _ _=>rfl) (λF=>Zn F T eZ);have yM:aC l.prog w K mg base "_law_order" ["_law_script","_law_at"] 3 (FZ K):=Aa.cal X G (λ_ _ _ _ _ _=>us2 λ_ _=>rfl) (λF=>Z1 F T mh kZ yK);have uk:aC l.prog w K mg base "_law_chain" ["_law_known","_law_masks","_law_a","_law_b","_law_draws_here"] 3 (Fi K):=zO.cal X G (λ_ _ _ _ _ _=>us5 λ_ _ _ _ _=>rfl) (λF=>Zj F T yG);exact(ZP F T TC yM mh kZ yI ow yQ gT uk yN yz).mono (by decide)
end My
open PySem PySem.W PyProof.Rows
set_option maxRecDepth 100000 in
set_option maxHeartbeats 0 in
theorem PySem.Challenge.cw_evenclimb_k45_chains_made_longer_holds : PySem.Challenge.rw_evenclimb_k45_chains_made_longer.Holds := by
 w_on;o_law;k_head;(case hw=>w_witness2)
 k_fill
 refine' My.ac5 (l:=PySem.Challenge.rw_evenclimb_k45_chains_made_longer) rfl rfl (λw h Y=>⟨PySem.W.km_in_of Y,PySem.W.km_tabs_of Y _ (List.Mem.head _)⟩) ?hT ?Y1 ?F
 case F =>
  intro w mg fa h KX G hmg
  refine' My.all_mk KX G hmg ?tx ?cO ?nC ?nP ?nR ?nJ ?nM ?ht ?er ?BI ?mL ?sP ?sQ ?zI ?zH ?Aw ?Ao ?Av ?Ay ?zB ?Bb ?zA ?Ba ?Bd ?Au ?zD ?zC ?Ap ?Az ?zN ?z_ ?zR ?zU ?Ae ?zM ?zL ?Af ?z9 ?zZ ?zT ?Ad ?z7 ?zW ?Ah ?zF ?zG ?A_ ?Bc ?Al ?Aj ?zJ ?Am ?Be ?zE ?zP ?uX ?Aq ?As ?Ax ?Ak ?Ag ?zY ?zX ?zV ?Ac ?Ai ?Ab ?zQ ?Aa ?zO ?zK
  (case tx=>(refine' My.nZ.mk' ?l1 ?l2 ?l3 ?l4 ?l5 ?l6 ?l7 ?l8 ?l9 ?l10 ?Cy ?Cz ?CG ?CJ ?CK ?CN ?m);(case l1=>k_is);(case l2=>k_is);(case l3=>k_is);(case l4=>k_is);(case l5=>k_is);(case l6=>k_is);(case l7=>k_is);(case l8=>k_is);(case l9=>k_is);(case l10=>k_is);(case Cy=>k_is);(case Cz=>k_is);(case CG=>k_is);(case CJ=>k_is);(case CK=>k_is);(case CN=>k_is);(case m=>k_is);skip)
  (case cO=>(refine' My.ClsAt.mk' ?ns ?pg ?hd ?po ?sa ?mk ?kc ?a ?i ?l ?c ?k);(case ns=>k_is);(case pg=>k_is);(case hd=>k_is);(case po=>k_is);(case sa=>k_is);(case mk=>k_is);(case kc=>k_is);(case a=>k_is);(case i=>k_is);(case l=>k_is);(case c=>k_is);(case k=>k_is))
  (case nC|nP|nR|nJ|nM=>k_is)
  (case ht=>((refine' My.acJ ?a ?l ?c ?l2 ?v);(case a=>k_is);(case l=>k_is);(case c=>exact rfl);(case l2=>k_is);(case v=>exact rfl)))
  (case er=>(refine' L2.sY.mk ?e0 ?e1 ?e2 ?e3 ?e4 ?e5 ?e6 ?e7 ?e8 ?e9 ?e10 ?T9 ?T_ ?Ua ?Ub ?Uc ?Ud);(case e0=>k_is);(case e1=>k_is);(case e2=>k_is);(case e3=>k_is);(case e4=>k_is);(case e5=>k_is);(case e6=>k_is);(case e7=>k_is);(case e8=>k_is);(case e9=>k_is);(case e10=>k_is);(case T9=>k_is);(case T_=>k_is);(case Ua=>k_is);(case Ub=>k_is);(case Uc=>k_is);(case Ud=>k_is))
  (case BI=>(refine' L2.w5.mk ?a ?b ?c);(case a=>k_is);(case b=>k_is);(case c=>k_is))
  (case mL=>(refine' L2.nX.mk (L2.jV.mk ?x1 ?x2 ?x3 ?x4 ?x5 ?x6 ?x7) ?x8 ?x9 ?x10 ?k0 ?k1 ?k2 ?k3 ?k4 ?k5 ?k6 ?k7 ?k8 ?k9 ?k10 ?k11 ?k12 ?k13 ?k14);(case x1=>k_is);(case x2=>k_is);(case x3=>k_is);(case x4=>k_is);(case x5=>k_is);(case x6=>k_is);(case x7=>k_is);(case x8=>kts_exm);(case x9=>kit_is);(case x10=>kit_is);(case k0=>kit_is);(case k1=>kit_is);(case k2=>kit_is);(case k3=>kit_is);(case k4=>kit_is);(case k5=>kit_is);(case k6=>kit_is);(case k7=>kit_is);(case k8=>kit_is);(case k9=>kit_is);(case k10=>kit_is);(case k11=>kit_is);(case k12=>kit_is);(case k13=>kit_is);(case k14=>kit_is))
  (case sP|sQ=>k_exc)
  (case zI|zH|Aw|Ao|Av|Ay|zB|Bb|zA|Ba|Bd|Au|zD|zC|Ap|Az|zN|z_|zR|zU|Ae|zM|zL|Af|z9|zZ|zT|Ad|z7|zW|Ah|zF|zG|A_|Bc|Al|Aj|zJ|Am|Be|zE|zP=>(refine' My.aD.mk' ?a ?l ?c ?k);(case a=>k_is);(case l=>k_is);(case c=>k_is);(case k=>k_is))
  (case uX=>(refine' My.m8.mk' ?l ?ns ?sk ?i ?x ?fn ?lf ?c ?k ?sa ?no ?ob ?hd ?ng);(case l=>k_is);(case ns=>k_is);(case sk=>(first|rfl|decide +kernel));(case i=>k_is);(case x=>k_exc);(case fn=>k_is);(case lf=>k_is);(case c=>k_is);(case k=>k_is);(case sa=>k_is);(case no=>k_is);(case ob=>k_is);(case hd=>k_is);(case ng=>k_is))
  (case Aq|As|Ax|Ak|Ag|zY|zX|zV|Ac|Ai|Ab|zQ|Aa|zO|zK=>(refine' My.aD.mk' ?a ?l ?c ?k);(case a=>k_is);(case l=>k_is);(case c=>k_is);(case k=>k_is))
 case hT=>(intro w;kernel_rfl)
 case Y1=>(intro w;kernel_rfl)
