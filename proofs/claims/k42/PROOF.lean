import PyProof.Rows.All
import KE.KNest
import KE.KRevSl
import KE.KSortAsk
import KE.KTryMore
import KE.RegKIsAll
import KE.RegKTryMore
import Lean
import OpenK.AllK
import PyProof.Dict
import PyProof.EqAt
import PyProof.EqKinds
import PyProof.ExcAttrAll.ValueError
import PyProof.ExcBaseAll.ValueError
import PyProof.ExcInit
import PyProof.FString
import PyProof.InstStoreFacts
import PyProof.ListRange
import PyProof.NeKinds
import PyProof.NsDelKeeps
import PyProof.ReprHeadsTuple
import PyProof.ReprNest
import PyProof.TupleCall
import Wide.All
import Wide.FinOn
import PySem.Challenge.RW_evenclimb_k42_steps_paired
set_option Elab.async false
set_option linter.all false
set_option maxRecDepth 100000
set_option maxHeartbeats 8000000
def ai:=@PySem.wpAny_bind
def az:=@List.length_map
def aA:=@List.getElem?_eq_getElem
def aJ:=@PySem.wpAny_pure
def aQ:=@List.getD_eq_getElem?_getD
def aS:=@PySem.Heap.lt_size
def aV:=@PySem.Heap.get?_push_of_some
def aY:=@Nat.le_refl
def bp:=@List.mem_cons
def bB:=@Nat.ne_of_lt
def bF:=@Bool.and_eq_true
def bJ:=@List.getElem?_eq_some_iff
def bP:=@Ne.symm
def bV:=@List.size_toArray
def bW:=@List.getElem?_map
def bX:=@List.mem_cons_self
def b_:=@List.mem_cons_of_mem
def cg:=@decide_eq_false
def ck:=@Nat.le_trans
def cn:=@PySem.Heap.get?_push_size
def cp:=@PySem.Paired.length
def cq:=@PySem.PassesOwn.never
def cz:=@List.length_append
def cB:=@decide_eq_true
def cL:=@decide_eq_true_iff
def cR:=@PySem.boot_len
def cX:=@List.mem_filter
def cZ:=@Nat.lt_of_lt_of_le
def dc:=@List.mem_map
def df:=@List.mem_of_getElem?
def dg:=@Option.some.inj
def dk:=@Bool.eq_iff_iff
def dq:=@Int.toNat_natCast
def dr:=@List.map_cons
def dF:=@List.lookup_cons
def dG:=@PyProof.Rows.boot_isinstance
def dO:=@List.mem_range
def dP:=@Nat.zero_le
def dY:=@Nat.lt_irrefl
def dZ:=@Nat.ne_of_gt
def eB:=@List.map_map
def eE:=@PySem.F.plainAttrs_list
def eF:=@PySem.W.mg_of
def eG:=@PySem.wpAny_field
def eI:=@PySem.wpAny_mono
def eK:=@PySem.Heap.size_push
def eY:=@Bool.not_eq_true'
def fe:=@List.not_mem_nil
def fq:=@or_false
def fz:=@Bool.true_and
def fA:=@Int.zero_add
def fB:=@List.all_eq_true
def fC:=@List.getElem_mem
def fD:=@Nat.le_of_lt
def fQ:=@PySem.W.mg_none_of
def fS:=@PySem.wpAny_holding
def fU:=@decide_eq_false_iff_not
def gf:=@Array.length_toList
def gi:=@List.mem_singleton
def gO:=@List.mem_append
def gP:=@List.mem_append_right
def gR:=@beq_iff_eq
def h9:=@if_false
def iA:=@List.append_nil
def iB:=@PySem.Heap.get?_update_other
def iC:=@PySem.Heap.get?_update_self
def iD:=@PySem.mem_of_lookup
def iR:=@List.getElem?_append_right
def iS:=@List.getElem_of_mem
def iT:=@List.nodup_cons
def iU:=@List.range_succ
def iW:=@PySem.F.slot_list_append
def iX:=@PySem.W.kia_one
def jo:=@Bool.false_and
def jq:=@Bool.false_eq_true
def jv:=@List.append_assoc
def jw:=@List.getElem?_append_left
def jx:=@List.length_range
def jy:=@List.map_append
def jz:=@PySem.F.type_list_append
def jA:=@PySem.wpAny_seqItems
def jB:=@PySem.wpAny_truthy_bool
def jD:=@beq_eq_false_iff_ne
def jL:=@if_true
def jY:=@List.getElem_map
def jZ:=@List.length_cons
def j4:=@PySem.codeAny_mono
def kP:=@List.ext_getElem
def kQ:=@List.length_drop
def kR:=@List.mem_append_left
def kT:=@List.mem_flatMap
def kY:=@PySem.F.slot_list_index
def kZ:=@PySem.call_meets
def k_:=@PySem.wpAny_call
def lD:=@decide_eq_decide
def mj:=@Array.getElem?_eq_some_iff
def mq:=@Int.le_refl
def mx:=@List.getElem?_range
def mz:=@List.getElem_range
def mB:=@List.length_singleton
def mC:=@List.length_take
def mE:=@PySem.F.slot_zip_next
def mF:=@PySem.Heap.get?_update_ne
def mG:=@PySem.numAt_eq
def mH:=@PySem.wpAny_Call_Name_kw
def nT:=@Decidable.byContradiction
def nW:=@Int.emod_nonneg
def n_:=@List.map_congr_left
def oa:=@List.map_drop
def og:=@List.pairwise_map
def oh:=@List.take_length
def oq:=@Nat.le_of_not_lt
def ot:=@Nat.lt_of_le_of_lt
def ox:=@PyProof.Rows.callWith_type1
def oy:=@PySem.Obj.data_mapFields
def oz:=@PySem.wpAny_attempt
def oA:=@PySem.wpAny_call_entry
def oB:=@PySem.wpAny_passesOwn
def oC:=@PySem.wpAny_setField_rec
def oE:=@PySem.wpAny_standAt
def pI:=@of_decide_eq_true
def qk:=@Int.le_trans
def qp:=@List.any_cons
def qt:=@List.any_eq_true
def qu:=@List.filter_append
def qv:=@List.find?_cons
def qw:=@List.flatMap_cons
def qx:=@List.forIn_cons
def qy:=@List.forIn_nil
def qz:=@List.getElem_idxOf
def qA:=@List.idxOf_lt_length_iff
def qB:=@List.length_filter_le
def qC:=@List.take_add_one
def qE:=@Nat.le_succ
def qF:=@Nat.lt_succ_self
def qG:=@Option.bind_some
def qH:=@Option.map_some
def qJ:=@PySem.F.plain_extend_loop
def qK:=@PySem.F.type_list_index
def qL:=@PySem.intItems_at
def qM:=@PySem.wpAny_callSpecial?_slot
def qN:=@PySem.wpAny_rule
def qT:=@beq_self_eq_true
def tP:=@Int.emod_lt_of_pos
def tQ:=@Int.eq_ofNat_of_zero_le
def tR:=@Int.not_lt
def tU:=@List.cons.injEq
def tV:=@List.filterMap_cons
def tW:=@List.getElem?_set_ne
def tX:=@List.map_nil
def tY:=@List.pairwise_iff_getElem
def tZ:=@List.pairwise_lt_range
def t_:=@List.replicate_succ
def ua:=@List.take_of_length_le
def uc:=@Nat.and_assoc
def ud:=@PyProof.Rows.listItems_at
def uf:=@PySem.Calls.evalArgs_plain
def ug:=@PySem.F.excBase_ValueError
def uh:=@PySem.Heap.size_update
def ui:=@PySem.Obj.isFreed_of_fields
def uj:=@PySem.ReprIs.int
def uk:=@PySem.codeAny_builtin
def um:=@PySem.int_text_length_le
def uo:=@PySem.wpAny_execs_nil
def uq:=@PySem.wpAny_letGo
def ur:=@PySem.wpAny_loadPart_at
def uv:=@PySem.wpAny_newObj_type
def uw:=@PySem.wpAny_pyIter_list
def ux:=@PySem.wpAny_setField
def uy:=@PySem.wpAny_updateSeq
def xG:=@Bool.and_true
def xH:=@Bool.or_false
def xI:=@Classical.choose_spec
def xO:=@Int.le_of_lt
def xQ:=@List.all_cons
def xR:=@List.filter_cons
def xS:=@List.flatMap_append
def xT:=@List.flatMap_def
def xU:=@List.flatten_cons
def xV:=@List.getElem?_set_self
def xW:=@List.getElem_inj
def xX:=@List.nodup_nil
def xY:=@List.of_mem_zip
def xZ:=@List.zip_cons_cons
def yb:=@Nat.add_comm
def yc:=@Nat.and_comm
def yd:=@Nat.and_self
def ye:=@Nat.lt_succ_of_lt
def yf:=@Nat.not_lt_zero
def yg:=@Option.some.injEq
def yh:=@PyProof.Rows.get?_update_seq
def yi:=@PySem.Calls.callWith_builtin
def yj:=@PySem.F.args_zip_next_1
def yl:=@PySem.F.entry_zip_next
def ym:=@PySem.F.slot_bool_hash
def yn:=@PySem.F.slot_tuple_iterator_next
def yo:=@PySem.Heap.get?_none_of_le
def yp:=@PySem.Heap.size_after_update
def yq:=@PySem.Paired.snoc
def yr:=@PySem.SeqAt.EqAt.bool_bool
def yt:=@PySem.SeqAt.EqAt.same
def yu:=@PySem.nums_intItems
def yv:=@PySem.seqIndex_of
def yw:=@PySem.sizeLine_eq
def yx:=@PySem.wpAny_newList
def yz:=@PySem.wpAny_onRaise
def yA:=@PySem.wpAny_specialOf
def zL:=@dite_true
def Hn:=@Array.forIn_toList
def Hq:=@Bool.and_false
def Hr:=@Bool.not_eq_false'
def Hs:=@Bool.not_false
def Ht:=@Bool.or_eq_true
def Hv:=@Classical.axiomOfChoice
def Hw:=@Classical.byContradiction
def Hz:=@List.any_eq_false
def HB:=@List.cons_append
def HD:=@List.dropLast_concat_getLast
def HF:=@List.filter_congr
def HJ:=@List.filter_map
def HN:=@List.flatMap_nil
def HQ:=@List.foldl_cons
def HR:=@List.getElem?_drop
def HS:=@List.getElem?_replicate
def HW:=@List.length_nil
def HX:=@List.length_replicate
def HY:=@List.length_set
def H_:=@List.nil_append
def Ia:=@List.nodup_append
def Ib:=@List.nodup_range
def Ic:=@List.zipIdx_cons
def Ie:=@List.zipIdx_nil
def Ig:=@Nat.le_add_right
def Ih:=@Nat.le_of_eq
def Ii:=@Nat.lt_trans
def Ij:=@Nat.min_eq_left
def Ik:=@Nat.min_eq_right
def Il:=@Nat.min_self
def Im:=@Nat.sub_self
def Io:=@Option.getD_some
def Iq:=@PySem.Around.under_plainId
def Ir:=@PySem.Calls.spliced_cons
def Iu:=@PySem.Calls.spliced_nil
def Iv:=@PySem.Code.quiet_builtin
def Iw:=@PySem.F.args_list_index_2
def Iy:=@PySem.F.entry_extend_loop
def Iz:=@PySem.F.entry_list_index
def IK:=@PySem.F.slot_dict_get
def IV:=@PySem.F.slot_list_clear
def IW:=@PySem.F.slot_list_extend
def I0:=@PySem.Heap.get?_push_at
def I_:=@PySem.SeqAt.EqAt.of_refs
def Ja:=@PySem.SeqAt.list_indexAt
def Jb:=@PySem.W.callWith_K
def Jc:=@PySem.codeAny_call_builtin
def Jd:=@PySem.wpAny_assign_Name
def Je:=@PySem.wpAny_comprehension_free
def Jf:=@PySem.wpAny_eqBool_int
def Jg:=@PySem.wpAny_pyIter_tuple
def Jh:=@PySem.wpAny_pyIter_zip
def Ji:=@PySem.wpAny_updateSeq_pair
def SJ:=@Int.fdiv_eq_ediv_of_nonneg
def SQ:=@List.eraseIdx_cons_succ
def SX:=@List.getElem?_take_of_lt
def S0:=@List.length_eq_zero_iff
def S1:=@List.length_pos_of_mem
def S2:=@List.mem_or_eq_of_mem_set
def S3:=@List.not_of_lt_findIdx
def S4:=@List.pairwise_flatMap
def S5:=@Nat.lt_of_succ_lt_succ
def S7:=@PySem.F.args_dict_get_2
def S8:=@PySem.F.args_tuple_iterator_next_1
def S9:=@PySem.F.entry_dict_get
def S_:=@PySem.F.entry_tuple_iterator_next
def S':=@PySem.F.type_list_clear
def Ta:=@PySem.F.type_list_extend
def Tb:=@PySem.W.cellsFrom_some
def Tc:=@PySem.plainObj_wpAny_Assign_Attribute
set_option bootstrap.genMatcherCode false
noncomputable section
section
local macro_rules|`(tactic|trivial)=>`(tactic|first|decide +kernel|exact ⟨rfl,rfl,rfl,by decide +kernel,rfl,by decide +kernel,by decide +kernel⟩)
set_option genSizeOf false
namespace _L
open PySem PySem.Spec PyProof.Rows
abbrev Key:=Sum Int Str
noncomputable def pz:Int->Value->Bool
 |k,.bool b=>k==(if b then 1 else 0)
 |_,_=>false
noncomputable def lH:Key->Value->Bool
 |.inl k,v=>Value.isInt k v||pz k v
 |.inr x,v=>Value.isStrOf x v
noncomputable def Yf (w:World):Key->Int
 |.inl k=>hashInt k
 |.inr x=>hashStr w x
theorem X1{k:Int}{v:Value}(h:pz k v=true):∃b:Bool,k=(if b then 1 else 0)/\v=Value.bool b:=by
 cases v with
 |bool b=>exact⟨b,by simpa[pz]using h,rfl⟩
 |_=>simp[pz]at h
theorem je:∀{k:Key} {v:Value},lH k v=true->(∃i t,k=Sum.inl i/\v=Value.int i t)\/(∃x t,k=Sum.inr x/\v=Value.str x t)\/(∃b:Bool,k=Sum.inl (if b then 1 else 0)/\v=Value.bool b)
 |.inl i,v,h=>by
  rcases(Ht _ _).mp (show(Value.isInt i v||pz i v)=true from h)with h|h
  ·obtain⟨t,e⟩:=Value.isInt_shape (k:=i) (v:=v) h
   exact .inl ⟨i,t,rfl,e⟩
  ·obtain⟨b,e,e'⟩:=X1 h
   exact .inr (.inr ⟨b,by rw[e],e'⟩)
 |.inr x,v,h=>by
  obtain⟨t,e⟩:=Value.isStrOf_shape (x:=x) (v:=v) h;exact .inr (.inl ⟨x,t,rfl,e⟩)
theorem Yh(i:Int)(t:Tok):lH (.inl i) (.int i t)=true:=by simp[lH,Value.isInt]
theorem Yi(x:Str)(t:Tok):lH (.inr x) (.str x t)=true:=by simp[lH,Value.isStrOf]
theorem Yg(b:Bool):lH (.inl (if b then 1 else 0)) (.bool b)=true:=by cases b<;>simp[lH,pz]
theorem WL{prog:Program}{w:World}{A:Around}{E:Value->Shared->Prop}{s:Shared}{b:Bool}{Q:Int->Shared->Prop}(h:Q (hashInt (if b then 1 else 0)) {s with toks:=s.toks+1}):
  wpAny (model prog w) A (pyHash (.bool b)) Q E s:=by
 have hr:=rawHash_range (if b then 1 else 0);have hT:s.TypeIs (.bool b) "bool" :=rfl;unfold pyHash;have hv:[Value.bool b].any Value.onHeap=false:=rfl;refine ai ?_;rw[cRoomFor,if_neg (by rw[hv];exact Bool.false_ne_true)];refine aJ ?_;refine ai (yA hT ym.lookup ?_);show wpAny _ _ (if(some (Value.builtin "int.__hash__")==some Value.none)=true then _ else _) Q E s;rw[if_neg (by rw[beq_builtin_none];exact Bool.false_ne_true)];refine ai (yA hT ym.lookup ?_);show wpAny _ _ (callSpecialIfBoundUnlessNone? (.bool b) "__hash__" _>>=_) Q E s;refine ai (wpAny_callSpecialIfBoundUnlessNone?_slot hT ym
  (oA ym hT entry_int_hash
   (show wpAny _ _ (do ret (<- mkInt (rawHash (if b then 1 else 0)))) _ _ s from wpAny_ret_mkInt ?_) (args_int_hash _)))
 show wpAny _ _ (if(decide (-(2:Int) ^ 63<=rawHash (if b then 1 else 0))&&decide (rawHash (if b then 1 else 0)<2 ^ 63))=true then _ else _) Q E _;rw[if_pos (by rw[cB hr.1,cB hr.2];rfl)];exact aJ h
theorem vt(a b:Int):decide ((Sum.inl a:Key)=Sum.inl b)=(a==b):=by
 by_cases e:a=b
 ·subst e;simp
 ·have h:¬ (Sum.inl a:Key)=Sum.inl b:=λq=>e (Sum.inl.inj q)
  rw[cg h];exact(jD.mpr e).symm
theorem Yl(a b:Str):decide ((Sum.inr a:Key)=Sum.inr b)=decide (a=b):=by
 by_cases e:a=b
 ·subst e;simp
 ·have h:¬ (Sum.inr a:Key)=Sum.inr b:=λq=>e (Sum.inr.inj q)
  rw[cg h,cg e]
theorem Nu(a:Int)(b:Str):decide ((Sum.inl a:Key)=Sum.inr b)=false:=cg (λq=>nomatch q)
theorem Nv(a:Str)(b:Int):decide ((Sum.inr a:Key)=Sum.inl b)=false:=cg (λq=>nomatch q)
noncomputable def fX (prog:Program) (w:World):PySem.KeyKind prog w Key where
 is:=lH
 hash:=Yf w
 inj:=λv a b ha hb=>by
  rcases je ha with⟨i,t,rfl,rfl⟩|⟨x,t,rfl,rfl⟩|⟨x,rfl,rfl⟩
  ·rcases je hb with⟨j,u,rfl,e⟩|⟨y,u,rfl,e⟩|⟨y,rfl,e⟩
   ·injection e with e1 _;rw[e1]
   ·exact nomatch e
   ·exact nomatch e
  ·rcases je hb with⟨j,u,rfl,e⟩|⟨y,u,rfl,e⟩|⟨y,rfl,e⟩
   ·exact nomatch e
   ·injection e with e1 _;rw[e1]
   ·exact nomatch e
  ·rcases je hb with⟨j,u,rfl,e⟩|⟨y,u,rfl,e⟩|⟨y,rfl,e⟩
   ·exact nomatch e
   ·exact nomatch e
   ·injection e with e1;rw[e1]
 byValue:=λk v h=>by
  rcases je h with⟨i,t,rfl,rfl⟩|⟨x,t,rfl,rfl⟩|⟨x,rfl,rfl⟩<;>rfl
 pyHash:=λhv h=>by
  rcases je hv with⟨i,t,rfl,rfl⟩|⟨x,t,rfl,rfl⟩|⟨x,rfl,rfl⟩
  ·exact wpAny_pyHash_int h
  ·exact wpAny_pyHash_str h
  ·exact WL h
 eqBool:=λhu hv h=>by
  rcases je hu with⟨i,t,rfl,rfl⟩|⟨x,t,rfl,rfl⟩|⟨x,rfl,rfl⟩
  ·rcases je hv with⟨j,u,rfl,rfl⟩|⟨y,u,rfl,rfl⟩|⟨y,rfl,rfl⟩
   ·rw[vt]at h;exact Jf h
   ·rw[Nu]at h;exact SeqAt.EqAt.int_str i t y u _ _ _ _ h
   ·rw[vt]at h;exact SeqAt.EqAt.int_bool i t y _ _ _ _ h
  ·rcases je hv with⟨j,u,rfl,rfl⟩|⟨y,u,rfl,rfl⟩|⟨y,rfl,rfl⟩
   ·rw[Nv]at h;exact SeqAt.EqAt.str_int x t j u _ _ _ _ h
   ·rw[Yl]at h;exact wpAny_eqBool_str h
   ·rw[Nv]at h;exact SeqAt.EqAt.str_bool x t y _ _ _ _ h
  ·rcases je hv with⟨j,u,rfl,rfl⟩|⟨y,u,rfl,rfl⟩|⟨y,rfl,rfl⟩
   ·rw[vt]at h;exact SeqAt.EqAt.bool_int x j u _ _ _ _ h
   ·rw[Nu]at h;exact SeqAt.EqAt.bool_str x y u _ _ _ _ h
   ·rw[vt]at h
    have e:((if x then(1:Int)else 0)==(if y then(1:Int)else 0))=(x==y):=by cases x<;>cases y<;>rfl
    rw[e]at h;exact yr x y _ _ _ _ h
 «strs»:=λk x t v h=>by
  rcases je h with⟨i,u,rfl,e⟩|⟨y,u,rfl,e⟩|⟨y,rfl,e⟩
  ·exact nomatch e
  ·injection e with e1 _
   subst e1;cases v<;>rfl
  ·exact nomatch e
theorem Y_(prog:Program)(w:World)(i:Int)(t:Tok):(fX prog w).is (.inl i) (.int i t)=true:=Yh i t
theorem Za(prog:Program)(w:World)(x:Str)(t:Tok):(fX prog w).is (.inr x) (.str x t)=true:=Yi x t
inductive V where
 |non|bl (b:Bool)|int (i:Int)|str (x:Str)|iE (b:Array UInt8)|flt (b:UInt64)|ref (a:Addr)|ty (n:String)
 deriving DecidableEq
noncomputable def RelV:V->Value->Prop
 |.non,u=>u=Value.none
 |.bl b,u=>u=Value.bool b
 |.int i,u=>∃t,u=Value.int i t
 |.str x,u=>∃t,u=Value.str x t
 |.iE b,u=>∃t,u=Value.bytes b t
 |.flt b,u=>∃t,u=Value.float b t
 |.ref a,u=>u=Value.ref a
 |.ty n,u=>u=Value.type n
abbrev Vals:List V->List Value->Prop:=Paired RelV
theorem Vals.length{xs:List V}{us:List Value}(r:Vals xs us):xs.length=us.length:=cp r
theorem Vals.get:∀{xs:List V} {us:List Value} {i:Nat} {x:V},Vals xs us->xs[i]?=some x->∃u,us[i]?=some u/\RelV x u
 |_,_,_,_,.nil,e=>by simp at e
 |_,_,0,_,.cons r _,e=>by simp at e;subst e;exact⟨_,rfl,r⟩
 |_,_,i+1,x,.cons _ t,e=>by
  obtain⟨u,h1,h2⟩:=Vals.get (i:=i) (x:=x) t (by simpa using e);exact⟨u,by simpa using h1,h2⟩
theorem Vals.set{x:V}{u:Value}(r:RelV x u):∀{xs:List V} {us:List Value} (i:Nat),Vals xs us->Vals (xs.set i x) (us.set i u)
 |_,_,_,.nil=>.nil
 |_,_,0,.cons _ t=>.cons r t
 |_,_,i+1,.cons q t=>.cons q (Vals.set r i t)
theorem Vals.append:∀{xs ys:List V} {us ws:List Value},Vals xs us->Vals ys ws->Vals (xs++ys) (us++ws)
 |_,_,_,_,.nil,s=>s
 |_,_,_,_,.cons r t,s=>.cons r (Vals.append t s)
theorem Vals.take:∀{xs:List V} {us:List Value} (n:Nat),Vals xs us->Vals (xs.take n) (us.take n)
 |_,_,0,_=>.nil
 |_,_,_+1,.nil=>.nil
 |_,_,n+1,.cons r t=>.cons r (Vals.take n t)
theorem Vals.drop:∀{xs:List V} {us:List Value} (n:Nat),Vals xs us->Vals (xs.drop n) (us.drop n)
 |_,_,0,r=>r
 |_,_,_+1,.nil=>.nil
 |_,_,n+1,.cons _ t=>Vals.drop n t
noncomputable def gj:Option V->Option Value->Prop
 |some v,some u=>RelV v u
 |none,none=>True
 |_,_=>False
def KV{κ:Type}:List (κ × V)->List (κ × Value)->Prop:=Paired λ(p:κ × V) (q:κ × Value)=>p.1=q.1/\RelV p.2 q.2
noncomputable def kV:Key->V
 |.inl i=>.int i
 |.inr x=>.str x
inductive HO where
 |lst (xs:List V)
 |tup (xs:List V)
 |dK (kvs:List (Key × V))|dT (kvs:List (List Key × V))
 |set (S:Int->Bool) (n:Nat)
 |ins (C dx:Addr) (fs:List (Str × V))
 |own (x:Addr)
 |xd (fs:List (Str × V))
 |met (f x:Addr)
 |rng (lo hi:Int)
 |dH (o:Obj) (u:HO)
 |lX (ps:Array Value)
 |lam (pos:Pos) (qual:Str)
 |ext (φ:Heap->Prop)
def Nq(k:Key)(v:V):Prop:=v=kV k\/∃b:Bool,v = .bl b/\k = .inl (if b then 1 else 0)
abbrev De:List Key->List V->Prop:=Paired Nq
def j6(H:Addr->Option HO)(b:Addr)(ks:List Key):Prop:=∃ws,De ks ws/\H b=some (.tup ws)
abbrev Hp:=Addr->Option HO
noncomputable def upd (H:Hp) (a:Addr) (o:HO):Hp:=λb=>if b=a then some o else H b
theorem au{H:Hp}{a:Addr}{o:HO}:upd H a o a=some o:=by unfold upd;rw[if_pos rfl]
theorem aF{H:Hp}{a b:Addr}{o:HO}(h:b≠a):upd H a o b=H b:=by unfold upd;rw[if_neg h]
theorem Hi{H:Hp}{a:Addr}{o u:HO}:upd (upd H a o) a u=upd H a u:=by
 funext b;unfold upd;split<;>rfl
theorem fZ{H:Hp}{a b:Addr}{o u:HO}(h:H a=some o)(h':H b=some u)(d:o≠u):a≠b:=by
 intro e;subst e;rw[h]at h';exact d (dg h')
theorem c6{H:Hp}{a b:Addr}{o:HO}(h:H a=some o)(h':H b=none):a≠b:=by
 intro e;subst e;rw[h]at h';cases h'
section
variable (P:Program) (w:World)
noncomputable def bE (H:Hp) (h:Heap) (a:Addr):HO->Prop
 |.lst xs=>xs.length<=sizeLine/\∃(its:List Value) (n:Nat),Vals xs its/\h.get? a=some {cls:=.type "list", data:=.seq its.toArray n}
 |.tup xs=>xs.length<=sizeLine/\∃its:List Value,Vals xs its/\IsTup h a its.toArray/\∃o,h.get? a=some o/\o.dict=none
 |.dK kvs=>kvs.length<=sizeLine/\(a==sysModules)=false/\∃vs,KV kvs vs/\h.DictOf (fX P w) a vs
 |.dT kvs=>kvs.length<=sizeLine/\(a==sysModules)=false/\∃xs:List (List Key × Addr × Value),
   Paired (λ(p:List Key × V) (q:List Key × Addr × Value)=>p.1=q.1/\j6 H q.2.1 p.1/\RelV p.2 q.2.2) kvs xs /\
   ∃o es ep,h.get? a=some o/\o.ExactDict/\o.data = .dict es ep/\es.toList=xs.map (entryOfKey (tupleKind (fX P w)))/\(xs.map (·.1)).Nodup
 |.set S n=>h.SetOf (intKind P w) a S n
 |.ins C dx fs=>H dx=some (.own a)/\fs.length<=1000/\dx≠a/\h.get? a=some (W.instObj C dx) /\
   ∃mA,h.Ns1 dx mA/\(∀f,gj (fs.lookup f) (mA f))/\PySem.Within mA (fs.map (·.1))
 |.own _=>∃o,h.get? a=some o
 |.xd fs=>∃mA,h.Ns1 a mA/\∀f,gj (fs.lookup f) (mA f)
 |.rng lo hi=>∃t u v,h.get? a=some {cls:=.type "range", data:=.fields #[.int lo t,.int hi u,.int 1 v]}
 |.dH o u=>h.get? a=some o/\bE H h a u
 |.lX ps=>h.get? a=some {cls:=.none,data:=.fields ps}
 |.lam pos qual=>∃ps,h.get? a=some {cls:=.none,data:=.fields ps}/\TriplesOk ps.toList/\∀cv,codeAmong pos ps.toList=some cv->∃c o u vs t,cv = .ref c/\H c=some (.dH o u)/\o.data = .fields vs/\vs[1]?=some (.str qual t)
 |.met f x=>h.get? a=some (W.methodObj (.ref f) (.ref x))
 |.ext φ=>φ h/\(∃o,h.get? a=some o)/\∀h1 h2:Heap,φ h1->(∀o,h1.get? a=some o->h2.get? a=some o)->φ h2
def bL(H:Hp)(h:Heap):Prop:=∀a o,H a=some o->bE P w H h a o
end
section
variable {P:Program} {w:World} {H H':Hp} {h h':Heap} {a:Addr} {o:HO}
theorem bE.lt(x:bE P w H h a o):a<h.objs.size:=by
 cases o with
 |lst xs=>obtain⟨_,_,_,_,e⟩:=x;exact aS e
 |tup xs=>obtain⟨_,_,_,p,_⟩:=x;exact p.lt
 |dK kvs=>obtain⟨_,_,_,_,o,_,_,e,_⟩:=x;exact aS e
 |dT kvs=>obtain⟨_,_,_,_,o,_,_,e,_⟩:=x;exact aS e
 |set S n=>obtain⟨o,_,_,_,e,_⟩:=x;exact aS e
 |ins C dx fs=>obtain⟨_,_,_,e,_⟩:=x;exact aS e
 |own y=>obtain⟨_,e⟩:=x;exact aS e
 |xd fs=>obtain⟨_,⟨_,_,_,e,_⟩,_⟩:=x;exact aS e
 |rng lo hi=>obtain⟨_,_,_,e⟩:=x;exact aS e
 |dH ob u=>obtain⟨e,_⟩:=x;exact aS e
 |lX ps=>exact aS (show h.get? a=some _ from x)
 |lam pos qual=>obtain⟨_,e,_⟩:=x;exact aS e
 |met f y=>exact aS (show h.get? a=some _ from x)
 |ext φ=>obtain⟨_,⟨_,e⟩,_⟩:=x;exact aS e
theorem Paired.di{α β:Type}{F G:α->β->Prop}:∀{l₁:List α} {l₂:List β},Paired F l₁ l₂->(∀a b,F a b->G a b)->Paired G l₁ l₂
 |_,_,.nil,_=>.nil
 |_,_,.cons r t,f=>.cons (f _ _ r) (Paired.di t f)
theorem bE.stay(x:bE P w H h a o)(k:∀b u,(b=a\/H b=some (.own a))->h.get? b=some u->h'.get? b=some u)(ho:∀b,H b=some (.own a)->H' b=some (.own a))(ht:∀b xs,H b=some (.tup xs)->H' b=some (.tup xs))(hz:∀b ob u,H b=some (.dH ob u)->H' b=some (.dH ob u)):bE P w H' h' a o:=by
 induction o with
 |lst xs=>obtain⟨z,its,n,r,e⟩:=x;exact⟨z,its,n,r,k _ _ (.inl rfl) e⟩
 |tup xs=>obtain⟨z,its,r,⟨ob,e,c⟩,od,e2,d⟩:=x;exact⟨z,its,r,⟨ob,k _ _ (.inl rfl) e,c⟩,od,k _ _ (.inl rfl) e2,d⟩
 |dK kvs=>obtain⟨z,y,vs,r,ob,es,ep,e,c⟩:=x;exact⟨z,y,vs,r,ob,es,ep,k _ _ (.inl rfl) e,c⟩
 |dT kvs =>
  obtain⟨z,y,xs,r,ob,es,ep,e,c⟩:=x;exact⟨z,y,xs,Paired.di r λp q z=>⟨z.1,(let⟨ws,k1,k2⟩:=z.2.1;⟨ws,k1,ht _ _ k2⟩),z.2.2⟩,ob,es,ep,k _ _ (.inl rfl) e,c⟩
 |set S n=>obtain⟨ob,es,ep,t,e,c⟩:=x;exact⟨ob,es,ep,t,k _ _ (.inl rfl) e,c⟩
 |ins C dx fs =>
  obtain⟨d,z,ne,e,mA,⟨od,es,ep,e2,c⟩,r⟩:=x;exact⟨ho _ d,z,ne,k _ _ (.inl rfl) e,mA,⟨od,es,ep,k _ _ (.inr d) e2,c⟩,r⟩
 |own y=>obtain⟨ob,e⟩:=x;exact⟨ob,k _ _ (.inl rfl) e⟩
 |xd fs=>obtain⟨mA,⟨od,es,ep,e,c⟩,r⟩:=x;exact⟨mA,⟨od,es,ep,k _ _ (.inl rfl) e,c⟩,r⟩
 |rng lo hi=>obtain⟨t,u,v,e⟩:=x;exact⟨t,u,v,k _ _ (.inl rfl) e⟩
 |dH ob u ih=>obtain⟨e,q⟩:=x;exact⟨k _ _ (.inl rfl) e,ih q⟩
 |lX ps =>
  have e:h.get? a=some {cls:=.none,data:=.fields ps}:=x;show h'.get? a=some {cls:=.none,data:=.fields ps};exact k a _ (.inl rfl) e
 |lam pos qual=>obtain⟨ps,e,t,q⟩:=x;exact⟨ps,k _ _ (.inl rfl) e,t,λcv z=>let⟨c,o,u,vs,t,q1,q2,q3⟩:=q cv z;⟨c,o,u,vs,t,q1,hz _ _ _ q2,q3⟩⟩
 |met f y =>
  have e:h.get? a=some (W.methodObj (.ref f) (.ref y)):=x;show h'.get? a=some (W.methodObj (.ref f) (.ref y));exact k a _ (.inl rfl) e
 |ext φ=>obtain⟨p,⟨o,e⟩,st⟩:=x;exact⟨st _ _ p λo q=>k _ _ (.inl rfl) q,⟨o,k _ _ (.inl rfl) e⟩,st⟩
theorem bL.lt(x:bL P w H h)(e:H a=some o):a<h.objs.size:=(x a o e).lt
theorem bL.fresh(x:bL P w H h)(e:h.objs.size<=a):H a=none:=by
 cases q:H a with
 |none=>rfl
 |some u=>exact absurd (cZ (x.lt q) e) (dY _)
theorem bL.kept(x:bL P w H h)(k:∀b u,h.get? b=some u->h'.get? b=some u):bL P w H h':=λa o e =>
 (x a o e).stay (λb u _ q=>k b u q) (λ_ q=>q) (λ_ _ q=>q) λ_ _ _ q=>q
theorem bL.laid(x:bL P w H h)(k:∀b u,h.get? b=some u->h'.get? b=some u)(hp:h.objs.size<=a)(new:bE P w (upd H a o) h' a o):bL P w (upd H a o) h':=λb u e=>by
 have hn:=x.fresh hp
 by_cases hb:b=a
 ·subst hb;rw[au]at e;cases e;exact new
 ·rw[aF hb]at e
  exact(x b u e).stay (λc v _ q=>k c v q) (λc q=>by rw[aF (c6 q hn)];exact q) (λc xs q=>by rw[aF (c6 q hn)];exact q) λc ob u q=>by rw[aF (c6 q hn)];exact q
end
def Rd(H:Hp)(a:Addr)(u:HO):Prop:=H a=some u\/∃o,H a=some (.dH o u)
theorem Rd.ok{P:Program}{w:World}{H:Hp}{h:Heap}{a:Addr}{u:HO}(r:Rd H a u)(x:bL P w H h):bE P w H h a u:=by
 rcases r with r|⟨o,r⟩
 ·exact x a u r
 ·obtain⟨_,q⟩:=x a _ r
  exact q
noncomputable def qD:Option HO->Prop
 |some (.lst _)=>True
 |some (.dK _)=>True
 |some (.dT _)=>True
 |some (.set _ _)=>True
 |some (.ins _ _ _)=>True
 |some (.ext _)=>True
 |some (.lam _ _)=>True
 |_=>False
section
variable {P:Program} {w:World} {H:Hp} {h h':Heap} {x e:Addr} {o':HO}
theorem bL.write(ok:bL P w H h)(mu:qD (H x))(he:e=x\/H e=some (.own x))(k:∀b u,b≠e->h.get? b=some u->h'.get? b=some u)(heo:∃u,h'.get? e=some u)
  (new:bE P w (upd H x o') h' x o'):bL P w (upd H x o') h':=λb u q=>by
 have Ow:∀c y,H c=some (.own y)->c≠x:=λc y r z=>by subst z;rw[r]at mu;exact mu
 have ZG:∀c xs,H c=some (.tup xs)->c≠x:=λc xs r z=>by subst z;rw[r]at mu;exact mu
 have Zt:∀c ob u,H c=some (.dH ob u)->c≠x:=λc ob u r z=>by subst z;rw[r]at mu;exact mu
 by_cases hb:b=x
 ·subst hb;rw[au]at q;cases q;exact new
 ·rw[aF hb]at q
  by_cases hbe:b=e
  ·have q':H b=some (.own x):=by
    rcases he with z|z
    ·exact absurd (hbe.trans z) hb
    ·rw[hbe];exact z
   rw[q]at q';cases q';obtain⟨v,hv⟩:=heo;exact⟨v,by rw[hbe];exact hv⟩
  ·refine(ok b u q).stay (λc v hc r=>k c v ?_ r) (λc r=>by rw[aF (Ow c b r)];exact r) (λc xs r=>by rw[aF (ZG c xs r)];exact r) λc ob u r=>by rw[aF (Zt c ob u r)];exact r
   rcases hc with rfl|hc
   ·exact hbe
   ·rintro rfl
    rcases he with z|z
    ·exact Ow c b hc z
    ·rw[hc]at z;cases z;exact hb rfl
end
structure Un (fs ex:List Addr) (H H':Hp) (h h':Heap):Prop where
 keep:∀b o,h.get? b=some o->H b=none->b ∉ fs->b ∉ ex->h'.get? b=some o
 slot:∀b o,h.get? b=some o->H b=none->b∈fs->b ∉ ex->∃sl,h'.get? b=some {o with slots:=sl}
 free:∀b o,h.get? b=some o->H b=none->b ∉ ex->H' b=none
 there:∀b o,h.get? b=some o->b ∉ ex->∃o',h'.get? b=some o'
 tups:∀b xs,H b=some (.tup xs)->H' b=some (.tup xs)
 fV:∀b o u,H b=some (.dH o u)->H' b=some (.dH o u)
 gI:∀b ps,H b=some (.lX ps)->∃more,H' b=some (.lX (ps++more))
section
variable {fs fs' ex ex':List Addr} {H H1 H2:Hp} {h h1 h2 h':Heap} {a x e:Addr} {o:HO}
theorem Un.any(u:Un fs ex H H1 h h1){b:Addr}{ob:Obj}(q:h.get? b=some ob)(n:H b=none)(hx:b ∉ ex):∃sl,h1.get? b=some {ob with slots:=sl}:=by
 by_cases hb:b∈fs
 ·exact u.slot b ob q n hb hx
 ·exact⟨ob.slots,u.keep b ob q n hb hx⟩
theorem Un.kept(k:∀b u,h.get? b=some u->h'.get? b=some u):Un fs ex H H h h':=
 ⟨λb ob q _ _ _=>k b ob q,λb ob q _ _ _=>⟨ob.slots,k b ob q⟩,λ_ _ _ n _=>n,λb ob q _=>⟨ob,k b ob q⟩,λ_ _ q=>q,λ_ _ _ q=>q,λ_ ps q=>⟨#[],by rw[q];simp⟩⟩
theorem Un.refl:Un fs ex H H h h:=Un.kept λ_ _ q=>q
theorem Un.laid(k:∀b u,h.get? b=some u->h'.get? b=some u)(hp:h.objs.size<=a)(hn:H a=none):Un fs ex H (upd H a o) h h' where
 keep:=λb u q _ _ _=>k b u q
 slot:=λb u q _ _ _=>⟨u.slots,k b u q⟩
 free:=λb u q n _=>by rw[aF (bB (cZ (aS q) hp))];exact n
 there:=λb u q _=>⟨u,k b u q⟩
 tups:=λb xs q=>by rw[aF (c6 q hn)];exact q
 fV:=λb u xs q=>by rw[aF (c6 q hn)];exact q
 gI:=λb ps q=>⟨#[],by rw[aF (c6 q hn),q];simp⟩
theorem Un.write(mu:qD (H x))(he:e=x\/H e=some (.own x))(k:∀b u,b≠e->h.get? b=some u->h'.get? b=some u)(heo:∃u,h'.get? e=some u):Un fs ex H (upd H x o) h h':=by
 have hx:∀b,H b=none->b≠x:=λb n z=>by subst z;rw[n]at mu;exact mu
 have hb:∀b,H b=none->b≠e:=λb n z=>by
  subst z
  rcases he with r|r
  ·exact hx b n r
  ·rw[n]at r;cases r
 have hm:∀b u,H b=some u->¬ qD (some u)->b≠x:=λb u q nm z=>by subst z;rw[q]at mu;exact nm mu
 refine⟨λb u q n _ _=>k b u (hb b n) q,λb u q n _ _=>⟨u.slots,k b u (hb b n) q⟩,λb u q n _=>by rw[aF (hx b n)];exact n,λb u q _=>?_,
  λb xs q=>by rw[aF (hm b _ q λz=>z)];exact q,λb u xs q=>by rw[aF (hm b _ q λz=>z)];exact q,λb ps q=>⟨#[],by rw[aF (hm b _ q λz=>z),q];simp⟩⟩
 by_cases hbe:b=e
 ·subst hbe;exact heo
 ·exact⟨u,k b u hbe q⟩
end
noncomputable def xm (h:Heap) (H:Hp):List Addr:=(List.range h.objs.size).filter λa=>(H a).isSome
noncomputable def jI (h:Heap) (H:Hp):Heap:=W.hideAll h (xm h H)
theorem W6(h:Heap)(H:Hp):(jI h H).objs.size=h.objs.size:=W.hideAll_size _ _
theorem W5{h:Heap}{H:Hp}{b:Addr}{o:Obj}(e:h.get? b=some o)(n:H b=none):(jI h H).get? b=some o:=
 W.hideAll_get _ e λhm=>by
  have q:(H b).isSome=true:=(cX.mp hm).2;rw[n]at q;simp at q
theorem ZL{h:Heap}{H:Hp}{b:Addr}{o:Obj}(e:(jI h H).get? b=some o):h.get? b=some o/\H b=none:=by
 have e':h.get? b=some o:=W.of_hideAll (xm h H) e;refine⟨e',?_⟩;cases q:H b with
 |none=>rfl
 |some x =>
  have hm:b∈xm h H:=cX.mpr ⟨dO.mpr (aS e'),by simp[q]⟩;have z:(jI h H).get? b=none:=W.hideAll_none (xm h H) hm;rw[z]at e;cases e
noncomputable def Ti (g h:Heap) (L:Addr):List (Addr × Obj):=(List.range h.objs.size).filterMap λa=>if a=L\/(g.get? a).isSome=true then none else(h.get? a).map λo=>(a,o)
noncomputable def rest (g h:Heap) (L d:Addr):List (Addr × Obj):=(Ti g h L).filter λp=>decide (p.1≠d)
structure Mod (K:W.Frag) (mg:Str->Option Value) (base:Heap):Prop where
 jf:K.In base
 glob:base.Ns mainGlobals mg
 blt:∃mb,base.Ns builtinsNs mb/\∀x:Str,x ≠ "__name__" -> mb x=bootBuiltins x
 nolimit:base.NoLimit
structure Cx where
 prog:Program
 w:World
 K:W.Frag
 mg:Str->Option Value
 base:Heap
 A:Around
 N:List Str
 s₀:Shared
 H₀:Hp
 env:Env
 outer:List Env
 stack:List Env
 ex:List Addr
 fn:Str->Bool
 calm:Bool
 pn:List (Addr × Obj)
 xe:Value->Shared->Prop
noncomputable def frs (l:List Env):List Addr:=l.filterMap (·.frame)
abbrev Cx.fs (X:Cx):List Addr:=frs X.outer
def qP(sc:Scope)(x:Str):Prop:=sc.names.lookup x=some .local\/sc.names.lookup x=some .cell\/sc.names.lookup x=some .free
def Loc(sc:Scope)(x:Str):Prop:=sc.names.lookup x=some .local\/sc.names.lookup x=some .cell
def Look(env:Env)(h:Heap)(m:Str->Option Value)(x:Str)(u:Value):Prop:=
 (env.kindOf x=some .local/\m x=some u)\/((env.kindOf x=some .cell\/env.kindOf x=some .free)/\∃c,env.cells.lookup x=some c/\h.IsCell c (some u))
structure Cx.Ok (X:Cx):Prop where
 mod:Mod X.K X.mg X.base
 kind:X.env.scope.kind = .function
 glob:X.env.globals=mainGlobals
 blt:X.env.builtins=builtinsNs
 above:X.s₀.heap.objs.size<=X.env.locals
 inj:∀x y c,X.env.cells.lookup x=some c->X.env.cells.lookup y=some c->x=y
 has:∀x,(X.env.kindOf x=some .cell\/X.env.kindOf x=some .free)->∃c,X.env.cells.lookup x=some c
 cab:∀x c,X.fn x=true->X.env.cells.lookup x=some c->X.s₀.heap.objs.size<=c
 hd:X.calm=true->X.A.handled=none
 frames:X.A.frames=some X.stack
 stk:X.stack=X.outer\/(X.stack=X.env::X.outer/\X.env.frame=some X.env.locals)
 kf:∀b∈X.ex,b≠X.env.locals/\∀x c,X.env.cells.lookup x=some c->c≠b
 bs:∀b o,X.base.get? b=some o->X.s₀.heap.get? b=some o/\X.H₀ b=none
 eU:X.base.objs.size<=X.s₀.heap.objs.size
 iL:∀b o,X.base.get? b=some o->b ∉ X.ex
 jb:∀b∈X.ex,b ∉ X.fs
 eJ:X.s₀.heap.FunFrames X.base X.outer
 gU:∀b∈X.fs,X.H₀ b=none
structure Inv (X:Cx) (pins:List (Addr × Obj)) (σ:List (Option V)) (H:Hp) (s:Shared):Prop where
 ok:X.Ok
 os:s.os=X.s₀.os
 bare:AllBare s.gens
 base:Un X.fs X.ex X.H₀ H X.s₀.heap s.heap
 loc:∃m,s.heap.Ns X.env.locals m/\∀(i:Nat) (x:Str) (v:V),X.N[i]?=some x->σ[i]?=some (some v)->qP X.env.scope x->∃u,RelV v u/\Look X.env s.heap m x u
 cell:∀x c,X.env.cells.lookup x=some c->∃v,s.heap.IsCell c v
 free:H X.env.locals=none
 d_:∀x c,X.env.cells.lookup x=some c->H c=none
 pin:∀p∈X.pn++pins,s.heap.get? p.1=some p.2/\H p.1=none/\p.1≠X.env.locals/\p.1 ∉ X.fs/\∀v,p.2.data≠.cell v
 hok:bL X.prog X.w H s.heap
 len:σ.length=X.N.length
section
variable {X:Cx} {pins:List (Addr × Obj)} {σ:List (Option V)} {H H':Hp} {s:Shared} {h':Heap}
theorem Cx.Ok.Zw(ok:X.Ok){b:Addr}{o:Obj}(e:X.base.get? b=some o):b ∉ X.fs:=λhb=>by
 have:=(ok.eJ.mem hb).1;rw[e]at this;cases this
theorem Inv.bs(I:Inv X pins σ H s):∀b o,X.base.get? b=some o->s.heap.get? b=some o/\H b=none:=λb o e =>
 ⟨I.base.keep b o (I.ok.bs b o e).1 (I.ok.bs b o e).2 (I.ok.Zw e) (I.ok.iL b o e),I.base.free b o (I.ok.bs b o e).1 (I.ok.bs b o e).2 (I.ok.iL b o e)⟩
theorem Inv.bk(I:Inv X pins σ H s):∀b o,X.base.get? b=some o->s.heap.get? b=some o:=λb o e=>(I.bs b o e).1
theorem Inv.mod(I:Inv X pins σ H s):Mod X.K X.mg X.base:=I.ok.mod
theorem Inv.cw(I:Inv X pins σ H s):X.K.In s.heap:=I.ok.mod.jf.keeps I.bk
theorem Inv.lt(I:Inv X pins σ H s):X.env.locals<s.heap.objs.size:=let⟨_,hn,_⟩:=I.loc;hn.lt
theorem Inv.sz(I:Inv X pins σ H s):X.s₀.heap.objs.size<=s.heap.objs.size:=ck I.ok.above (fD I.lt)
theorem Inv.Zy(I:Inv X pins σ H s){a:Addr}(h:s.heap.objs.size<=a):a ∉ X.fs:=λhb=>by
 obtain⟨_,o,ho,_⟩:=I.ok.eJ.mem hb;exact absurd (cZ (aS ho) (ck I.sz h)) (dY _)
theorem Inv.iZ(I:Inv X pins σ H s):∀x c,X.env.cells.lookup x=some c->c≠X.env.locals:=λx c e z=>by
 obtain⟨v,o,ho,hd⟩:=I.cell x c e;obtain⟨m,⟨o',es,ep,ho',hd',_⟩,_⟩:=I.loc;rw[z,ho']at ho;cases ho;rw[hd']at hd;cases hd
theorem Inv.eJ(I:Inv X pins σ H s):s.heap.FunFrames X.base X.outer:=by
 have all:∀(l:List Env),(∀b∈frs l,b∈X.fs)->X.s₀.heap.FunFrames X.base l->s.heap.FunFrames X.base l:=by
  intro l
  induction l with
  |nil=>intro _ _;exact trivial
  |cons env r ih =>
   intro hs hl;obtain⟨hk,⟨L,o,hf,hn,ho,hd⟩,hr⟩:=hl;have hL:L∈X.fs:=hs L (by unfold frs;rw[tV,hf];exact bX);obtain⟨sl,e⟩:=I.base.slot L o ho (I.ok.gU L hL) hL λz=>I.ok.jb L z hL;exact⟨hk,⟨L,_,hf,hn,e,hd⟩,ih (λb hb=>hs b (by unfold frs;rw[tV,hf];exact b_ _ hb)) hr⟩
 exact all X.outer (λ_ hb=>hb) I.ok.eJ
theorem Inv.stack(I:Inv X pins σ H s):s.heap.FunFrames X.base X.stack:=by
 rcases I.ok.stk with e|⟨e,hf⟩
 ·rw[e];exact I.eJ
 ·rw[e]
  obtain⟨m,hn,_⟩:=I.loc;refine .cons (by rw[I.ok.kind];decide) hf hn ?_ I.eJ;exact yo (ck I.ok.eU I.ok.above)
theorem Inv.qe(I:Inv X pins σ H s):∀b∈frs X.stack,b∈X.env.locals::X.fs:=λb hb=>by
 rcases I.ok.stk with e|⟨e,hf⟩
 ·rw[e]at hb;exact b_ _ hb
 ·rw[e]at hb
  unfold frs at hb;rw[tV,hf]at hb;exact hb
theorem Inv.nF(I:Inv X pins σ H s):∀b∈frs X.stack,H b=none:=λb hb=>by
 rcases bp.mp (I.qe b hb)with e|hb
 ·rw[e];exact I.free
 ·obtain⟨_,o,ho,_⟩:=I.ok.eJ.mem hb
  exact I.base.free b o ho (I.ok.gU b hb) λz=>I.ok.jb b z hb
theorem Inv.step{g':Array GenState}{t':Nat}{d':Drawn}{ch:List Addr}(I:Inv X pins σ H s)(hch:∀b∈ch,(b∈X.ex\/X.s₀.heap.objs.size<=b)/\b≠X.env.locals/\(∀x c,X.env.cells.lookup x=some c->c≠b)/\∀p∈X.pn++pins,p.1≠b)(keep:∀b o,b≠X.env.locals->b ∉ X.fs->b ∉ ch->s.heap.get? b=some o->H b=none->h'.get? b=some o)
  (slot:∀b o,b≠X.env.locals->b∈X.fs->b ∉ ch->s.heap.get? b=some o->H b=none->∃sl,h'.get? b=some {o with slots:=sl}) (free:∀b o,b ∉ ch->s.heap.get? b=some o->H b=none->H' b=none)
  (there:∀b o,b ∉ ch->s.heap.get? b=some o->∃o',h'.get? b=some o')
  (tups:∀b xs,H b=some (.tup xs)->H' b=some (.tup xs)) (fV:∀b o u,H b=some (.dH o u)->H' b=some (.dH o u)) (gI:∀b ps,H b=some (.lX ps)->∃more,H' b=some (.lX (ps++more)))
  (ns:∀m,s.heap.Ns X.env.locals m->h'.Ns X.env.locals m) (hok:bL X.prog X.w H' h') (hg:AllBare g') :
  Inv X pins σ H' {s with heap:=h',gens:=g',drawn:=d',toks:=t'}:=by
 have pG:∀b o,X.s₀.heap.get? b=some o->b≠X.env.locals:=λb o e=>bB (cZ (aS e) I.ok.above);have vI:∀b o,X.s₀.heap.get? b=some o->b ∉ X.ex->b ∉ ch:=λb o e hx hb=>by
  rcases(hch b hb).1 with z|z
  ·exact hx z
  ·exact absurd (cZ (aS e) z) (dY _)
 have cellK:∀x c,X.env.cells.lookup x=some c->∀v,s.heap.IsCell c v->h'.IsCell c v:=λx c e v ⟨o,ho,hd⟩=>by
  have gX:c ∉ ch:=λz=>(hch c z).2.2.1 x c e rfl
  by_cases hc:c∈X.fs
  ·obtain⟨sl,q⟩:=slot c o (I.iZ x c e) hc gX ho (I.d_ x c e)
   exact⟨_,q,hd⟩
  ·exact⟨o,keep c o (I.iZ x c e) hc gX ho (I.d_ x c e),hd⟩
 refine⟨I.ok,I.os,hg,⟨λb o e n hb hx=>?_,λb o e n hb hx=>?_,λb o e n hx=>?_,λb o e hx=>?_,λb xs e=>tups b xs (I.base.tups b xs e),λb o xs e=>fV b o xs (I.base.fV b o xs e),λb ps e=>?_⟩,?_,λx c e=>?_,?_,λx c e=>?_,λp hp=>?_,hok,I.len⟩
 ·exact keep b o (pG b o e) hb (vI b o e hx) (I.base.keep b o e n hb hx) (I.base.free b o e n hx)
 ·obtain⟨sl,e1⟩:=I.base.slot b o e n hb hx
  obtain⟨sl',e2⟩:=slot b _ (pG b o e) hb (vI b o e hx) e1 (I.base.free b o e n hx);exact⟨sl',e2⟩
 ·obtain⟨o',e1⟩:=I.base.there b o e hx
  exact free b o' (vI b o e hx) e1 (I.base.free b o e n hx)
 ·obtain⟨o',e1⟩:=I.base.there b o e hx
  exact there b o' (vI b o e hx) e1
 ·obtain⟨m1,e1⟩:=I.base.gI b ps e
  obtain⟨m2,e2⟩:=gI b _ e1;exact⟨m1++m2,by rw[e2,Array.append_assoc]⟩
 ·obtain⟨m,hn,hl⟩:=I.loc
  refine⟨m,ns m hn,λi x v e1 e2 e3=>?_⟩;obtain⟨u,r,l⟩:=hl i x v e1 e2 e3;refine⟨u,r,?_⟩
  rcases l with l|⟨k,c,e,z⟩
  ·exact .inl l
  ·exact .inr ⟨k,c,e,cellK x c e _ z⟩
 ·obtain⟨v,z⟩:=I.cell x c e
  exact⟨v,cellK x c e v z⟩
 ·obtain⟨m,⟨o,_,_,ho,_⟩,_⟩:=I.loc
  exact free _ o (λz=>(hch _ z).2.1 rfl) ho I.free
 ·obtain⟨v,o,ho,hd⟩:=I.cell x c e
  exact free c o (λz=>(hch c z).2.2.1 x c e rfl) ho (I.d_ x c e)
 ·obtain⟨e,n,ne,nf,d⟩:=I.pin p hp
  have gX:p.1 ∉ ch:=λz=>(hch p.1 z).2.2.2 p hp rfl;exact⟨keep p.1 p.2 ne nf gX e n,free p.1 p.2 gX e n,ne,nf,d⟩
theorem Inv.un{t':Nat}(I:Inv X pins σ H s)(u:Un X.fs [] H H' s.heap h')(hok:bL X.prog X.w H' h'):Inv X pins σ H' {s with heap:=h',toks:=t'}:=by
 obtain⟨m,⟨o,es,ep,ho,r⟩,_⟩:=id I.loc;obtain⟨sl,hL⟩:=u.any ho I.free (by simp);exact I.step (g':=s.gens) (d':=s.drawn) (ch:=[]) (λ_ z=>nomatch z) (λb o _ hb _ e n=>u.keep b o e n hb (by simp)) (λb o _ hb _ e n=>u.slot b o e n hb (by simp)) (λb o _ e n=>u.free b o e n (by simp)) (λb o _ e=>u.there b o e (by simp)) u.tups u.fV u.gI (λm' hm=>by
  obtain⟨o',es',ep',ho',r'⟩:=hm;rw[ho]at ho';cases ho';exact⟨_,es',ep',hL,r'⟩) hok I.bare
theorem Inv.call{g':Array GenState}{t':Nat}{d':Drawn}{ch:List Addr}(I:Inv X pins σ H s)(u:Un (frs X.stack) ch H H' s.heap h')(hok:bL X.prog X.w H' h')(hg:AllBare g')(hch:∀b∈ch,(b∈X.ex\/X.s₀.heap.objs.size<=b)/\b≠X.env.locals/\(∀x c,X.env.cells.lookup x=some c->c≠b)/\∀p∈X.pn++pins,p.1≠b):
  Inv X pins σ H' {s with heap:=h',gens:=g',drawn:=d',toks:=t'}:=by
 obtain⟨m,⟨o,es,ep,ho,r⟩,_⟩:=id I.loc;obtain⟨sl,hL⟩:=u.any ho I.free λz=>(hch _ z).2.1 rfl;exact I.step (ch:=ch) hch (λb o hL hb hc e n=>u.keep b o e n (λz=>(bp.mp (I.qe b z)).elim hL hb) hc) (λb o _ _ hc e n=>u.any e n hc) (λb o hc e n=>u.free b o e n hc) (λb o hc e=>u.there b o e hc) u.tups u.fV u.gI (λm' hm=>by
  obtain⟨o',es',ep',ho',r'⟩:=hm;rw[ho]at ho';cases ho';exact⟨_,es',ep',hL,r'⟩) hok hg
theorem Inv.turned{t':Nat}{it:Addr}(I:Inv X pins σ H s)(k:∀b o,b≠it->s.heap.get? b=some o->h'.get? b=some o)(hn:H it=none)(hL:it≠X.env.locals)
  (h1:it∈X.ex\/X.s₀.heap.objs.size<=it) (h2:∀x c,X.env.cells.lookup x=some c->c≠it) (h3:∀p∈X.pn++pins,p.1≠it):Inv X pins σ H {s with heap:=h',toks:=t'}:=by
 have Oj:∀b u,H b=some u->b≠it:=λb u e z=>by rw[z,hn]at e;cases e
 refine I.step (g':=s.gens) (d':=s.drawn) (ch:=[it]) (λb hb=>?_) (λb o _ _ hc e _=>k b o (λz=>hc (by simp[z])) e) (λb o _ _ hc e _=>⟨o.slots,k b o (λz=>hc (by simp[z])) e⟩) (λ_ _ _ _ n=>n)
  (λb o hc e=>⟨o,k b o (λz=>hc (by simp[z])) e⟩) (λ_ _ e=>e) (λ_ _ _ e=>e) (λb ps e=>⟨#[],by rw[e];simp⟩) (λm hm=>?_) (λb u e=>?_) I.bare
 ·have e:b=it:=by simpa using hb
  subst e;exact⟨h1,hL,h2,h3⟩
 ·obtain⟨o,es,ep,ho,r⟩:=hm
  exact⟨o,es,ep,k _ o (bP hL) ho,r⟩
 ·refine(I.hok b u e).stay (λc v hc q=>k c v ?_ q) (λ_ q=>q) (λ_ _ q=>q) λ_ _ _ q=>q
  rcases hc with z|z
  ·rw[z];exact Oj b u e
  ·exact Oj c _ z
theorem Inv.tok(I:Inv X pins σ H s)(t:Nat):Inv X pins σ H {s with toks:=t}:=I.un (h':=s.heap) (t':=t) Un.refl I.hok
theorem Inv.kept{t':Nat}(I:Inv X pins σ H s)(k:∀b u,s.heap.get? b=some u->h'.get? b=some u):Inv X pins σ H {s with heap:=h',toks:=t'}:=I.un (Un.kept k) (I.hok.kept k)
theorem Inv.laid{a:Addr}{o:HO}{t':Nat}(I:Inv X pins σ H s)(k:∀b u,s.heap.get? b=some u->h'.get? b=some u)(hp:s.heap.objs.size<=a)(new:bE X.prog X.w (upd H a o) h' a o):
  Inv X pins σ (upd H a o) {s with heap:=h',toks:=t'}:=I.un (Un.laid k hp (I.hok.fresh hp)) (I.hok.laid k hp new)
theorem Inv.write{x e:Addr}{o:HO}{t':Nat}(I:Inv X pins σ H s)(mu:qD (H x))(he:e=x\/H e=some (.own x))(k:∀b u,b≠e->s.heap.get? b=some u->h'.get? b=some u)(heo:∃u,h'.get? e=some u)
  (new:bE X.prog X.w (upd H x o) h' x o):Inv X pins σ (upd H x o) {s with heap:=h',toks:=t'}:=I.un (Un.write mu he k heo) (I.hok.write mu he k heo new)
theorem Inv.weak{σ':List (Option V)}(I:Inv X pins σ H s)(hl:σ'.length=σ.length)(w:∀(i:Nat) v,σ'[i]?=some (some v)->σ[i]?=some (some v)):Inv X pins σ' H s:=
 ⟨I.ok,I.os,I.bare,I.base,let⟨m,hn,hl'⟩:=I.loc;⟨m,hn,λi x v e1 e2 e3=>hl' i x v e1 (w i v e2) e3⟩,I.cell,I.free,I.d_,I.pin,I.hok,hl.trans I.len⟩
theorem Inv.vV{lM:List (Addr × Obj)}(I:Inv X pins σ H s)(h:∀p∈lM,s.heap.get? p.1=some p.2/\H p.1=none/\p.1≠X.env.locals/\p.1 ∉ X.fs/\∀v,p.2.data≠.cell v):Inv X lM σ H s:=
 ⟨I.ok,I.os,I.bare,I.base,I.loc,I.cell,I.free,I.d_,λp hp=>(gO.mp hp).elim (λz=>I.pin p (kR _ z)) (h p),I.hok,I.len⟩
theorem Dv{N:List Str}(hN:N.Nodup){i j:Nat}{x:Str}(a:N[i]?=some x)(b:N[j]?=some x):i=j:=by
 obtain⟨h1,e1⟩:=bJ.mp a;obtain⟨h2,e2⟩:=bJ.mp b;exact(xW hN).mp (e1.trans e2.symm)
theorem xg{M:Model}{A:Around}{E:Value->Shared->Prop}{i:Nat}{x:Str}{v:V}{u:Value}{Q:Unit->Shared->Prop}(I:Inv X pins σ H s)(hN:X.N.Nodup)(hi:X.N[i]?=some x)(hx:Loc X.env.scope x)(r:RelV v u)(h:∀s',Inv X pins (σ.set i (some v)) H s'->(∃a,Heap.SameBut a s.heap s'.heap/\(a=X.env.locals\/X.env.cells.lookup x=some a))->Q () s')(hf:X.fn x=true\/X.env.scope.names.lookup x=some .local:=by first|exact .inl rfl|exact .inr rfl|assumption):wpAny M A (storeName X.env x u) Q E s:=by
 obtain⟨m,hn,hl⟩:=id I.loc;have hcls:(X.env.scope.kind==.class||(X.env.scope.kind==.module&&X.env.locals != X.env.globals))=false:=by rw[I.ok.kind];rfl
 have hiσ:i<σ.length:=by rw[I.len];exact(bJ.mp hi).1
 have iZ:=I.iZ;have tracked:∀{a:Addr} {h':Heap},(∃o,s.heap.get? a=some o/\H a=none)->Heap.SameBut a s.heap h'->bL X.prog X.w H h':=λ{a h'} ha hs b ob e=>by
  obtain⟨_,_,hfree⟩:=ha;refine(I.hok b ob e).stay (λc w' hc q=>(hs.2 c ?_).trans q) (λ_ q=>q) (λ_ _ q=>q) λ_ _ _ q=>q;rintro rfl
  rcases hc with rfl|hc
  ·rw[hfree]at e;cases e
  ·rw[hfree]at hc;cases hc
 rcases hx with hk|hk
 ·refine wpAny_storeName_local hk hn (λh' hn' hs=>?_) hcls
  obtain⟨oL,_,_,hoL,_⟩:=id hn;refine h _ ⟨I.ok,I.os,I.bare,⟨λb o e n hb hx=>?_,λb o e n hb hx=>?_,I.base.free,λb o e hx=>?_,I.base.tups,I.base.fV,I.base.gI⟩,⟨_,hn',λj y v' e1 e2 e3=>?_⟩,λy c e=>?_,I.free,I.d_,λp hp=>?_,tracked ⟨oL,hoL,I.free⟩ hs,by simpa using I.len⟩ ⟨_,hs,.inl rfl⟩
  ·exact(hs.2 b (bB (cZ (aS e) I.ok.above))).trans (I.base.keep b o e n hb hx)
  ·obtain⟨sl,e1⟩:=I.base.slot b o e n hb hx
   exact⟨sl,(hs.2 b (bB (cZ (aS e) I.ok.above))).trans e1⟩
  ·obtain⟨o',e1⟩:=I.base.there b o e hx
   exact⟨o',(hs.2 b (bB (cZ (aS e) I.ok.above))).trans e1⟩
  ·by_cases hj:j=i
   ·subst hj
    rw[hi]at e1;cases e1;rw[xV hiσ]at e2;cases e2;exact⟨u,r,.inl ⟨hk,by simp⟩⟩
   ·rw[tW (bP hj)]at e2
    obtain⟨u',r',q⟩:=hl j y v' e1 e2 e3;refine⟨u',r',?_⟩
    rcases q with⟨k,e⟩|⟨k,c,e,z⟩
    ·refine .inl ⟨k,?_⟩
     have:y≠x:=λe=>hj (Dv hN e1 (e▸hi));simp[this,e]
    ·exact .inr ⟨k,c,e,z.sameBut hs (iZ y c e)⟩
  ·obtain⟨w',z⟩:=I.cell y c e
   exact⟨w',z.sameBut hs (iZ y c e)⟩
  ·obtain⟨e,n,ne,nf,d⟩:=I.pin p hp
   exact⟨(hs.2 p.1 ne).trans e,n,ne,nf,d⟩
 ·have hfn:X.fn x=true:=by
   rcases hf with z|z
   ·exact z
   ·rw[z]at hk;cases hk
  obtain⟨c,hc⟩:=I.ok.has x (.inl hk);obtain⟨w',z⟩:=I.cell x c hc;refine wpAny_storeName_cell I.ok.kind hk hc z (λh' hc' hs=>?_);obtain⟨oc,hoc,Xi⟩:=id z;refine h {s with heap:=h'} ⟨I.ok,I.os,I.bare,⟨λb o e n hb hx=>?_,λb o e n hb hx=>?_,I.base.free,λb o e hx=>?_,I.base.tups,I.base.fV,I.base.gI⟩,⟨m,hn.sameBut hs (bP (iZ x c hc)),λj y v' e1 e2 e3=>?_⟩,λy c' e=>?_,I.free,I.d_,λp hp=>?_,tracked ⟨oc,hoc,I.d_ x c hc⟩ hs,by simpa using I.len⟩ ⟨c,hs,.inr hc⟩
  ·exact(hs.2 b (bB (cZ (aS e) (I.ok.cab x c hfn hc)))).trans (I.base.keep b o e n hb hx)
  ·obtain⟨sl,e1⟩:=I.base.slot b o e n hb hx
   exact⟨sl,(hs.2 b (bB (cZ (aS e) (I.ok.cab x c hfn hc)))).trans e1⟩
  ·obtain⟨o',e1⟩:=I.base.there b o e hx
   exact⟨o',(hs.2 b (bB (cZ (aS e) (I.ok.cab x c hfn hc)))).trans e1⟩
  ·by_cases hj:j=i
   ·subst hj
    rw[hi]at e1;cases e1;rw[xV hiσ]at e2;cases e2;exact⟨u,r,.inr ⟨.inl hk,c,hc,hc'⟩⟩
   ·rw[tW (bP hj)]at e2
    obtain⟨u',r',q⟩:=hl j y v' e1 e2 e3;refine⟨u',r',?_⟩
    rcases q with q|⟨k,c',e,z'⟩
    ·exact .inl q
    ·refine .inr ⟨k,c',e,z'.sameBut hs ?_⟩
     rintro rfl;exact hj (Dv hN e1 (I.ok.inj _ _ _ e hc▸hi))
  ·by_cases hcc:c'=c
   ·subst hcc;exact⟨_,hc'⟩
   ·obtain⟨w2,z2⟩:=I.cell y c' e
    exact⟨w2,z2.sameBut hs hcc⟩
  ·obtain⟨e,n,ne,nf,d⟩:=I.pin p hp
   refine⟨(hs.2 p.1 ?_).trans e,n,ne,nf,d⟩;intro q;rw[q,hoc]at e;have q':oc=p.2:=dg e;exact d w' (by rw[<- q'];exact Xi)
theorem RB{M:Model}{A:Around}{E:Value->Shared->Prop}{i:Nat}{x:Str}{v:V}{u:Value}{Q:Unit->Shared->Prop}(I:Inv X pins σ H s)(hN:X.N.Nodup)(hi:X.N[i]?=some x)(hx:Loc X.env.scope x)(r:RelV v u)(h:∀s',Inv X pins (σ.set i (some v)) H s'->Q () s')(hf:X.fn x=true\/X.env.scope.names.lookup x=some .local:=by first|exact .inl rfl|exact .inr rfl|assumption):wpAny M A (storeName X.env x u) Q E s:=
 xg I hN hi hx r (λs' I' _=>h s' I') hf
theorem Inv.call'{s':Shared}{ch:List Addr}(I:Inv X pins σ H s)(ho:s'.os=s.os)(u:Un (frs X.stack) ch H H' s.heap s'.heap)(hok:bL X.prog X.w H' s'.heap)(hg:AllBare s'.gens)(hch:∀b∈ch,(b∈X.ex\/X.s₀.heap.objs.size<=b)/\b≠X.env.locals/\(∀x c,X.env.cells.lookup x=some c->c≠b)/\∀p∈X.pn++pins,p.1≠b):Inv X pins σ H' s':=by
 obtain⟨h',g',d',t',o'⟩:=s';have e:o'=s.os:=ho;subst e;exact I.call (g':=g') (t':=t') (d':=d') u hok hg hch
end
abbrev XK:=Value->Option Addr->Hp->Prop
abbrev St:=List (Option V)
abbrev VK:=V->Hp->Prop
abbrev TE:=St->Hp->VK->Prop
abbrev TT:=St->Hp->(Bool->Hp->Prop)->Prop
abbrev TA:=St->Hp->(List V->Hp->Prop)->Prop
structure Ends where
 nx:St->Hp->Prop
 rt:VK
 bk:St->Hp->Prop:=λ_ _=>False
 ct:St->Hp->Prop:=λ_ _=>False
abbrev TS:=Ends->St->Hp->Prop
def EP(X:Cx)(pins:List (Addr × Obj))(σ:St)(Q:VK)(u:Value)(s':Shared):Prop:=∃v H',Inv X pins σ H' s'/\RelV v u/\Q v H'
def TP(X:Cx)(pins:List (Addr × Obj))(σ:St)(Q:Bool->Hp->Prop)(b:Bool)(s':Shared):Prop:=∃H',Inv X pins σ H' s'/\Q b H'
def AP(X:Cx)(pins:List (Addr × Obj))(σ:St)(Q:List V->Hp->Prop)(us:List Value)(s':Shared):Prop:=∃vs H',Inv X pins σ H' s'/\Vals vs us/\Q vs H'
noncomputable def SP (X:Cx) (pins:List (Addr × Obj)) (D:Ends) (f:Flow) (s':Shared):Prop:=
 match f with
 |.next=>∃σ' H',Inv X pins σ' H' s'/\D.nx σ' H'
 |.brk=>∃σ' H',Inv X pins σ' H' s'/\D.bk σ' H'
 |.cont=>∃σ' H',Inv X pins σ' H' s'/\D.ct σ' H'
 |.ret u=>∃v σ' H',Inv X pins σ' H' s'/\RelV v u/\D.rt v H'
noncomputable def PE (X:Cx) (e:Expr) (t:TE):Prop:=
 ∀(pins:List (Addr × Obj)) (s:Shared) (σ:St) (H:Hp) (Q:VK),Inv X pins σ H s->t σ H Q->wpAny (model X.prog X.w) X.A (eval e X.env) (EP X pins σ Q) X.xe s
noncomputable def PT (X:Cx) (e:Expr) (t:TT):Prop:=
 ∀(pins:List (Addr × Obj)) (s:Shared) (σ:St) (H:Hp) (Q:Bool->Hp->Prop),Inv X pins σ H s->t σ H Q->wpAny (model X.prog X.w) X.A (isTrue e X.env (eval e X.env)) (TP X pins σ Q) X.xe s
def PW(X:Cx)(e:Expr)(t:TT):Prop:=
 ∀(whole:Sem Value) (pins:List (Addr × Obj)) (s:Shared) (σ:St) (H:Hp) (Q:Bool->Hp->Prop),Inv X pins σ H s->t σ H Q->wpAny (model X.prog X.w) X.A (isTrue e X.env whole) (TP X pins σ Q) X.xe s
theorem PW.pt{X:Cx}{e:Expr}{t:TT}(h:PW X e t):PT X e t:=h _
def PA(X:Cx)(es:List Expr)(t:TA):Prop:=
 ∀(pos:Pos) (pins:List (Addr × Obj)) (s:Shared) (σ:St) (H:Hp) (Q:List V->Hp->Prop),Inv X pins σ H s->t σ H Q->wpAny (model X.prog X.w) X.A (spliced (backTo pos (starEach es X.env))) (AP X pins σ Q) X.xe s
def PS(X:Cx)(st:Stmt)(t:TS):Prop:=
 ∀(pins:List (Addr × Obj)) (s:Shared) (σ:St) (H:Hp) (D:Ends),Inv X pins σ H s->t D σ H->wpAny (model X.prog X.w) X.A (exec st X.env) (SP X pins D) X.xe s
def fE(X:Cx)(st:List Stmt)(t:TS):Prop:=
 ∀(pins:List (Addr × Obj)) (s:Shared) (σ:St) (H:Hp) (D:Ends),Inv X pins σ H s->t D σ H->wpAny (model X.prog X.w) X.A (execs st X.env) (SP X pins D) X.xe s
theorem aM{α:Type}{t:Sem α}{Q Q':α->Shared->Prop}{M:Model}{A:Around}{E:Value->Shared->Prop}{s:Shared}(h:wpAny M A t Q E s)(hQ:∀a s,Q a s->Q' a s):wpAny M A t Q' E s:=eI h hQ λ_ _ x=>x
section
variable {X:Cx}
def RX(i:Nat):TE:=λσ H Q=>∃v,σ[i]?=some (some v)/\Q v H
def tC(v:V):TE:=λ_ H Q=>Q v H
theorem abn {i:Nat} {x:Str} {pos:Pos} (hN:X.N[i]?=some x) (hv:qP X.env.scope x) (hd:(x==("__debug__" : Str))=false:=by decide) (hcd:(x==("__classdict__" : Str))=false:=by decide):PE X (.Name x pos) (RX i):=by
 intro pins s σ H Q I h;obtain⟨v,e,h⟩:=h;obtain⟨m,hn,hl⟩:=I.loc;obtain⟨u,r,l⟩:=hl i x v hN e hv;have fin:EP X pins σ Q u s:=⟨v,H,I,r,h⟩
 rcases l with⟨hk,hm⟩|⟨hk,c,hc,hcell⟩
 ·exact wpAny_Name (wpAny_loadName_local I.ok.kind hk hn hm fin) hd
 ·rcases hk with hk|hk
  ·exact wpAny_Name (wpAny_loadName_cell I.ok.kind hk hc hcell fin) hd
  ·exact wpAny_Name (wpAny_loadName_free I.ok.kind hk hc hcell fin hcd) hd
theorem ak{i j pos}:PE X (.Constant (.int i) j pos) (tC (.int i)):=λ_ _ _ H _ I h=>wpAny_Constant_int ⟨.int i,H,I.tok _,⟨_,rfl⟩,h⟩
theorem dB{b j pos}:PE X (.Constant (.bool b) j pos) (tC (.bl b)):=λ_ _ _ H _ I h=>Constant_bool ⟨.bl b,H,I,rfl,h⟩
theorem jR{j pos}:PE X (.Constant .none j pos) (tC .non):=λ_ _ _ H _ I h=>Constant_none ⟨.non,H,I,rfl,h⟩
theorem pQ{x j pos}:PE X (.Constant (.str x) j pos) (tC (.str x)):=λ_ _ _ H _ I h=>Calls.Constant_str ⟨.str x,H,I.tok _,⟨_,rfl⟩,h⟩
def Gl(X:Cx)(x:Str):Prop:=X.env.kindOf x=some .globalImplicit
theorem ku{E:Value->Shared->Prop}{pins:List (Addr × Obj)}{s:Shared}{σ:St}{H:Hp}{x:Str}{u:Value}{pos:Pos}{Q:Value->Shared->Prop}(I:Inv X pins σ H s)(hg:Gl X x)(hm:X.mg x=some u)(h:Q u s)
  (hd:(x==("__debug__" : Str))=false:=by decide):wpAny (model X.prog X.w) X.A (eval (.Name x pos) X.env) Q E s:=
 Calls.Name_function_global I.ok.kind hg (Calls.loadGlobal_global (by rw[I.ok.glob];exact I.mod.glob.keeps I.bk) hm h) hd
theorem jN{E:Value->Shared->Prop}{pins:List (Addr × Obj)}{s:Shared}{σ:St}{H:Hp}{x:Str}{u:Value}{pos:Pos}{Q:Value->Shared->Prop}(I:Inv X pins σ H s)(hg:Gl X x)(hm:X.mg x=none)(hv:bootBuiltins x=some u)(h:Q u s)
  (hn:x ≠ "__name__" :=by decide) (hd:(x==("__debug__" : Str))=false:=by decide):wpAny (model X.prog X.w) X.A (eval (.Name x pos) X.env) Q E s:=by
 obtain⟨mb,h1,h2⟩:=I.mod.blt;exact Calls.Name_function_global I.ok.kind hg (Calls.loadGlobal_builtin (by rw[I.ok.glob];exact I.mod.glob.keeps I.bk) hm (by rw[I.ok.blt];exact h1.keeps I.bk) ((h2 x hn).trans hv) h) hd
theorem fO {x:Str} {v:V} {u:Value} {pos:Pos} (hg:Gl X x) (hm:X.mg x=some u) (r:RelV v u) (hd:(x==("__debug__" : Str))=false:=by decide):PE X (.Name x pos) (tC v):=
 λ_ _ _ H _ I h=>ku I hg hm ⟨v,H,I,r,h⟩ hd
theorem kE {x:Str} {v:V} {u:Value} {pos:Pos} (hg:Gl X x) (hm:X.mg x=none) (hv:bootBuiltins x=some u) (r:RelV v u) (hn:x ≠ "__name__" :=by decide) (hd:(x==("__debug__" : Str))=false:=by decide):PE X (.Name x pos) (tC v):=
 λ_ _ _ H _ I h=>jN I hg hm hv ⟨v,H,I,r,h⟩ hn hd
variable {a b:Expr} {ta tb:TE} {pos:Pos}
def tB(t:TE):TT:=λσ H Q=>t σ H λx H1=>∃c,x = .bl c/\Q c H1
theorem bZ{e:Expr}{t:TE}(h:PE X e t)(he:∀whole,isTrue e X.env whole=(do let v <- whole;standAt e.pos;holding [v] (truthy v)):=by intro _;rfl):PT X e (tB t):=by
 intro pins s σ H Q I hw;refine isTrue_plain (aM (h pins s σ H _ I hw) λv s1 ⟨x,H1,I1,r1,q1⟩=>?_) (he _);obtain⟨d,rfl,q⟩:=q1;cases r1;exact jB ⟨H1,I1,q⟩
variable {tA xk:TT} {rest:List Expr}
noncomputable def acK (t u:TT):TT:=λσ H Q=>t σ H λc H1=>if c=true then u σ H1 Q else Q false H1
def tOr(t u:TT):TT:=λσ H Q=>t σ H λc H1=>if c=true then Q true H1 else u σ H1 Q
def ac0(t:TT):TT:=λσ H Q=>t σ H λc H1=>Q (!c) H1
theorem lO(ha:PT X a tA):PW X (.BoolOp .And [a] pos) tA:=by
 intro wh pins s σ H Q I h;refine isTrue_and (aM (ha pins s σ H Q I h) λc s1 e=>?_);cases c with
 |true=>exact isTrue_and_nil e
 |false=>exact e
theorem ft(ha:PT X a tA):PW X (.BoolOp .Or [a] pos) tA:=by
 intro wh pins s σ H Q I h;refine isTrue_or (aM (ha pins s σ H Q I h) λc s1 e=>?_);cases c with
 |false=>exact isTrue_or_nil e
 |true=>exact e
theorem lN(ha:PT X a tA)(hb:PW X (.BoolOp .And (b::rest) pos) xk):PW X (.BoolOp .And (a::b::rest) pos) (acK tA xk):=by
 intro wh pins s σ H Q I h;refine isTrue_and (aM (ha pins s σ H _ I h) λc s1 aW=>?_);obtain⟨H1,I1,q1⟩:=aW;cases c with
 |true=>exact hb wh pins s1 σ H1 Q I1 q1
 |false=>exact⟨H1,I1,q1⟩
theorem dI(ha:PT X a tA)(hb:PW X (.BoolOp .Or (b::rest) pos) xk):PW X (.BoolOp .Or (a::b::rest) pos) (tOr tA xk):=by
 intro wh pins s σ H Q I h;refine isTrue_or (aM (ha pins s σ H _ I h) λc s1 aW=>?_);obtain⟨H1,I1,q1⟩:=aW;cases c with
 |true=>exact⟨H1,I1,q1⟩
 |false=>exact hb wh pins s1 σ H1 Q I1 q1
theorem du(ha:PT X a tA):PT X (.UnaryOp .Not a pos) (ac0 tA):=by
 intro pins s σ H Q I h;exact isTrue_not (ha pins s σ H (λc H1=>Q (!c) H1) I h)
def acL(ta tb:TE):TE:=λσ H Q=>ta σ H λx H1=>∃c,x = .bl c/\if c=true then tb σ H1 Q else Q (.bl false) H1
def ac2(ta tb:TE):TE:=λσ H Q=>ta σ H λx H1=>∃c,x = .bl c/\if c=true then Q (.bl true) H1 else tb σ H1 Q
def ac1(ta:TE):TE:=λσ H Q=>ta σ H λx H1=>∃c,x = .bl c/\Q (.bl (!c)) H1
theorem jS{op}{t:TE}(h:PE X a t):PE X (.BoolOp op [a] pos) t:=λpins s σ H Q I hw=>BoolOp_one (h pins s σ H Q I hw)
theorem kD(ha:PE X a ta)(hb:PE X (.BoolOp .And (b::rest) pos) tb):PE X (.BoolOp .And (a::b::rest) pos) (acL ta tb):=by
 intro pins s σ H Q I h;refine BoolOp_and (aM (ha pins s σ H _ I h) λv s1 aW=>?_);obtain⟨x,H1,I1,r1,q1⟩:=aW;obtain⟨c,rfl,q1⟩:=q1;cases r1;refine jB ?_;cases c with
 |true=>exact hb pins s1 σ H1 Q I1 q1
 |false=>exact⟨.bl false,H1,I1,rfl,q1⟩
theorem abl(ha:PE X a ta)(hb:PE X (.BoolOp .Or (b::rest) pos) tb):PE X (.BoolOp .Or (a::b::rest) pos) (ac2 ta tb):=by
 intro pins s σ H Q I h;refine BoolOp_or (aM (ha pins s σ H _ I h) λv s1 aW=>?_);obtain⟨x,H1,I1,r1,q1⟩:=aW;obtain⟨c,rfl,q1⟩:=q1;cases r1;refine jB ?_;cases c with
 |false=>exact hb pins s1 σ H1 Q I1 q1
 |true=>exact⟨.bl true,H1,I1,rfl,q1⟩
theorem DR(ha:PE X a ta):PE X (.UnaryOp .Not a pos) (ac1 ta):=by
 intro pins s σ H Q I h;refine UnaryOp_ (aM (ha pins s σ H _ I h) λv s1 aW=>?_);obtain⟨x,H1,I1,r1,q1⟩:=aW;obtain⟨c,rfl,q1⟩:=q1;cases r1;exact not_of (jB ⟨.bl (!c),H1,I1,rfl,q1⟩)
end
def ah(K:W.Frag)(H:Hp)(a:Addr)(xs:List V):Prop:=
 Rd H a (.lst xs) \/
  ∃(o:Obj) (its:Array Value) (n:Nat),K.lookup a=some o/\o.cls = .type "list" /\ o.dict=none/\o.data = .seq its n/\its.size<=sizeLine/\Vals xs its.toList
def ax(K:W.Frag)(H:Hp)(a:Addr)(xs:List V):Prop:=
 Rd H a (.tup xs) \/
  ∃(o:Obj) (its:Array Value) (n:Nat),K.lookup a=some o/\o.cls = .type "tuple" /\ o.data = .seq its n/\its.size<=sizeLine/\Vals xs its.toList
noncomputable def Tf:Value->Option V
 |.none=>some .non
 |.bool b=>some (.bl b)
 |.int i _=>some (.int i)
 |.str x _=>some (.str x)
 |.bytes b _=>some (.iE b)
 |.float b _=>some (.flt b)
 |.ref a=>some (.ref a)
 |.type n=>some (.ty n)
 |_=>none
theorem RelV.abs{x:V}{u:Value}(r:RelV x u):Tf u=some x:=by
 cases x with
 |non=>cases r;rfl
 |bl _=>cases r;rfl
 |int _=>obtain⟨t,rfl⟩:=r;rfl
 |str _=>obtain⟨t,rfl⟩:=r;rfl
 |iE _=>obtain⟨t,rfl⟩:=r;rfl
 |flt _=>obtain⟨t,rfl⟩:=r;rfl
 |ref _=>cases r;rfl
 |ty _=>cases r;rfl
theorem RelV.inj{x y:V}{u:Value}(r:RelV x u)(q:RelV y u):x=y:=dg (r.abs.symm.trans q.abs)
theorem Vals.inj:∀{xs ys:List V} {us:List Value},Vals xs us->Vals ys us->xs=ys
 |_,_,_,.nil,.nil=>rfl
 |_,_,_,.cons r t,.cons r' t'=>by rw[r.inj r',Vals.inj t t']
section
variable {X:Cx} {pins:List (Addr × Obj)} {σ:St} {H:Hp} {s:Shared} {a:Addr} {xs ys:List V}
theorem ah.of{K:W.Frag}(h:H a=some (.lst xs)):ah K H a xs:=.inl (.inl h)
theorem ax.of{K:W.Frag}(h:H a=some (.tup xs)):ax K H a xs:=.inl (.inl h)
theorem Inv.list(I:Inv X pins σ H s)(h:ah X.K H a xs):∃its:List Value,Vals xs its/\PlainL s.heap a its.toArray/\xs.length<=sizeLine:=by
 rcases h with h|⟨o,its,n,hk,hc,hd,hs,hz,r⟩
 ·obtain⟨z,its,n,r,e⟩:=h.ok I.hok
  exact⟨its,r,⟨_,n,e,rfl,rfl,rfl⟩,z⟩
 ·refine⟨its.toList,r,⟨o,n,I.cw a o hk,hc,hd,by simpa using hs⟩,?_⟩
  have e:=r.length;simp only[gf]at e;omega
theorem Inv.tuple(I:Inv X pins σ H s)(h:ax X.K H a xs):∃its:List Value,Vals xs its/\IsTup s.heap a its.toArray/\xs.length<=sizeLine:=by
 rcases h with h|⟨o,its,n,hk,hc,hs,hz,r⟩
 ·obtain⟨z,its,r,p,_⟩:=h.ok I.hok
  exact⟨its,r,p,z⟩
 ·refine⟨its.toList,r,⟨o,I.cw a o hk,hc,n,by simpa using hs⟩,?_⟩
  have e:=r.length;simp only[gf]at e;omega
theorem Inv.NT(I:Inv X pins σ H s)(h:ah X.K H a xs)(h':ah X.K H a ys):xs=ys:=by
 obtain⟨its,r,⟨o,n,e,_,_,d⟩,_⟩:=I.list h;obtain⟨its',r',⟨o',n',e',_,_,d'⟩,_⟩:=I.list h';rw[e]at e';cases e';rw[d]at d';injection d' with d1 _
 have:its=its':=by simpa using congrArg Array.toList d1
 subst this;exact r.inj r'
theorem Inv.He(I:Inv X pins σ H s)(h:ax X.K H a xs)(h':ax X.K H a ys):xs=ys:=by
 obtain⟨its,r,⟨o,e,_,n,d⟩,_⟩:=I.tuple h;obtain⟨its',r',⟨o',e',_,n',d'⟩,_⟩:=I.tuple h';rw[e]at e';cases e';rw[d]at d';injection d' with d1 _
 have:its=its':=by simpa using congrArg Array.toList d1
 subst this;exact r.inj r'
end
abbrev Cx.wish (X:Cx) (E:Value->Shared->Prop):Cx:={X with xe:=E}
abbrev Cx.vJ (X:Cx):Cx:=X.wish λ_ _=>False
theorem Cx.Ok.wish{X:Cx}(ok:X.Ok)(E:Value->Shared->Prop):(X.wish E).Ok:=
 ⟨ok.mod,ok.kind,ok.glob,ok.blt,ok.above,ok.inj,ok.has,ok.cab,ok.hd,ok.frames,ok.stk,ok.kf,ok.bs,ok.eU,ok.iL,ok.jb,ok.eJ,ok.gU⟩
theorem Cx.Ok.iy{X:Cx}{E:Value->Shared->Prop}(ok:(X.wish E).Ok):X.Ok:=
 ⟨ok.mod,ok.kind,ok.glob,ok.blt,ok.above,ok.inj,ok.has,ok.cab,ok.hd,ok.frames,ok.stk,ok.kf,ok.bs,ok.eU,ok.iL,ok.jb,ok.eJ,ok.gU⟩
section
variable {X:Cx} {pins:List (Addr × Obj)} {σ:St} {H:Hp} {s:Shared} {E:Value->Shared->Prop}
theorem Inv.wish(I:Inv X pins σ H s)(E:Value->Shared->Prop):Inv (X.wish E) pins σ H s:=⟨I.ok.wish E,I.os,I.bare,I.base,I.loc,I.cell,I.free,I.d_,I.pin,I.hok,I.len⟩
theorem Inv.iy(I:Inv (X.wish E) pins σ H s):Inv X pins σ H s:=⟨I.ok.iy,I.os,I.bare,I.base,I.loc,I.cell,I.free,I.d_,I.pin,I.hok,I.len⟩
theorem SP.iy{D:Ends}{f:Flow}{s':Shared}(h:SP (X.wish E) pins D f s'):SP X pins D f s':=by
 cases f with
 |next=>obtain⟨σ',H',I,q⟩:=h;exact⟨σ',H',I.iy,q⟩
 |brk=>obtain⟨σ',H',I,q⟩:=h;exact⟨σ',H',I.iy,q⟩
 |cont=>obtain⟨σ',H',I,q⟩:=h;exact⟨σ',H',I.iy,q⟩
 |ret u=>obtain⟨v,σ',H',I,r,q⟩:=h;exact⟨v,σ',H',I.iy,r,q⟩
theorem fE.vJ{st:List Stmt}{t:TS}(h:fE X.vJ st t):fE X st t:=λpins s σ H D I hw =>
 eI (h pins s σ H D (I.wish _) hw) (λ_ _ q=>q.iy) λ_ _ z=>False.elim z
end
section
variable {X:Cx} {st:Stmt} {rest:List Stmt} {t u:TS} {e:Expr} {te:TE} {pos:Pos}
def acY:TS:=λD σ H=>D.nx σ H
def kH(t u:TS):TS:=λD σ H=>t {D with nx:=u D} σ H
theorem bD:fE X [] acY:=λ_ _ σ H _ I h=>uo ⟨σ,H,I,h⟩
theorem av(h1:PS X st t)(h2:fE X rest u):fE X (st::rest) (kH t u):=by
 intro pins s σ H D I h;refine wpAny_execs_cons (aM (h1 pins s σ H {D with nx:=u D} I h) λf s1 q=>?_);cases f with
 |next =>
  obtain⟨σ',H',I',q⟩:=q;exact h2 pins s1 σ' H' D I' q
 |ret v=>exact q
 |brk=>exact q
 |cont=>exact q
theorem ay(h1:PS X st t):fE X [st] t:=by
 intro pins s σ H D I h;refine wpAny_execs_cons (aM (h1 pins s σ H D I h) λf s1 q=>?_);cases f with
 |next=>exact uo q
 |ret v=>exact q
 |brk=>exact q
 |cont=>exact q
theorem Inv.quiet{pins:List (Addr × Obj)}{σ:St}{H:Hp}{s:Shared}(I:Inv X pins σ H s):interactive X.env=false:=by simp[interactive,I.ok.kind]
def acQ(te:TE):TS:=λD σ H=>te σ H λ_ H1=>D.nx σ H1
theorem cT(he:PE X e te)(hs:swapsWith e none pos.line X.env=pure false:=by rfl):PS X (.Expr e pos) (acQ te):=by
 intro pins s σ H D I h;exact wpAny_Expr_any (aM (he pins s σ H _ I h) λv s1 ⟨x,H1,I1,r1,q1⟩=>⟨σ,H1,I1,q1⟩) I.quiet hs
def ac5(te:TE):TS:=λD σ H=>te σ H D.rt
theorem aR(he:PE X e te):PS X (.Return (some e) pos) (ac5 te):=by
 intro pins s σ H D I h;exact wpAny_Return_some (aM (he pins s σ H _ I h) λv s1 ⟨x,H1,I1,r1,q1⟩=>⟨x,σ,H1,I1,r1,q1⟩)
def acT(c:TT)(t u:TS):TS:=λD σ H=>c σ H λb H1=>if b=true then t D σ H1 else u D σ H1
theorem bA{c:Expr}{a b:List Stmt}{tc:TT}(hc:PT X c tc)(ha:fE X a t)(hb:fE X b u):PS X (.If c a b pos) (acT tc t u):=by
 intro pins s σ H D I h;refine wpAny_If (aM (hc pins s σ H _ I h) λd s1 aW=>?_);obtain⟨H1,I1,q1⟩:=aW;cases d with
 |true=>exact ha pins s1 σ H1 D I1 q1
 |false=>exact hb pins s1 σ H1 D I1 q1
def acX:TS:=λ_ _ _=>False
theorem vW:PS X st acX:=λ_ _ _ _ _ _ h=>h.elim
end
abbrev TG:=V->St->Hp->(St->Hp->Prop)->Prop
abbrev lg:=List V->St->Hp->(St->Hp->Prop)->Prop
def PG(X:Cx)(target:Expr)(t:TG):Prop:=
 ∀(pins:List (Addr × Obj)) (s:Shared) (σ:St) (H:Hp) (v:V) (u:Value) (Q:St->Hp->Prop),Inv X pins σ H s->RelV v u->t v σ H Q ->
  wpAny (model X.prog X.w) X.A (assign target X.env u) (λ_ s'=>∃σ' H',Inv X pins σ' H' s'/\Q σ' H') X.xe s
def qI(X:Cx)(ts:List Expr)(t:lg):Prop:=
 ∀(pins:List (Addr × Obj)) (s:Shared) (σ:St) (H:Hp) (vs:List V) (us:List Value) (Q:St->Hp->Prop),Inv X pins σ H s->Vals vs us->t vs σ H Q ->
  wpAny (model X.prog X.w) X.A (assignInOrder ((assignEach ts X.env).map (·.2)) us) (λ_ s'=>∃σ' H',Inv X pins σ' H' s'/\Q σ' H') X.xe s
abbrev yF:=V->V->V->Hp->(Hp->Prop)->Prop
noncomputable def Ip (X:Cx) (t:yF):Prop:=
 ∀(pins:List (Addr × Obj)) (s:Shared) (σ:St) (H:Hp) (o i v:V) (ov iv u:Value) (Q:Hp->Prop),Inv X pins σ H s->RelV o ov->RelV i iv->RelV v u->t o i v H Q ->
  wpAny (model X.prog X.w) X.A (setItem ov iv u) (λ_ s'=>∃H',Inv X pins σ H' s'/\Q H') X.xe s
section
variable {X:Cx} {pos:Pos}
def cD(i:Nat):TG:=λv σ H Q=>Q (σ.set i (some v)) H
theorem bj{i:Nat}{x:Str}(hN:X.N.Nodup)(hi:X.N[i]?=some x)(hx:Loc X.env.scope x)(hf:X.fn x=true\/X.env.scope.names.lookup x=some .local:=by first|exact .inl rfl|exact .inr rfl|assumption):PG X (.Name x pos) (cD i):=by
 intro pins s σ H v u Q I r h;exact Jd (RB I hN hi hx r (λs' I'=>⟨_,H,I',h⟩) hf)
def uV:lg:=λvs σ H Q=>vs = []/\Q σ H
def mX(t:TG)(u:lg):lg:=λvs σ H Q=>∃v r,vs=v::r/\t v σ H λσ' H'=>u r σ' H' Q
theorem Ph:qI X [] uV:=by
 intro pins s σ H vs us Q I r h;obtain⟨e,h⟩:=h;subst e;cases r;exact assignInOrder_nil ⟨σ,H,I,h⟩
theorem nj{e:Expr}{es:List Expr}{t:TG}{u:lg}(h1:PG X e t)(h2:qI X es u)(hs:(assignEach (e::es) X.env).map (·.2)=assign e X.env::(assignEach es X.env).map (·.2):=by rfl):qI X (e::es) (mX t u):=by
 intro pins s σ H vs us Q I r h;obtain⟨v,vr,e1,h⟩:=h;subst e1;cases r with
 |cons r rr =>
  rw[hs];refine assignInOrder_cons (aM (h1 pins s σ H _ _ _ I r h) λ_ s1 aW=>?_);obtain⟨σ1,H1,I1,q1⟩:=aW;exact h2 pins s1 σ1 H1 _ _ Q I1 rr q1
def rF(K:W.Frag)(n:Nat)(t:lg):TG:=λv σ H Q=>∃a xs,v = .ref a/\ax K H a xs/\xs.length=n/\t xs σ H Q
theorem Pg{es:List Expr}{k:Nat}{t:lg}{n:Nat}(hc:X.calm=true)(h:qI X es t)(hn:(assignEach es X.env).length=n:=by rfl)(hst:(assignEach es X.env).findIdx? (·.1)=none:=by rfl):PG X (.Tuple es k pos) (rF X.K n t):=by
 intro pins s σ H v u Q I r hw;obtain⟨a,xs,e1,hq,hl,hw⟩:=hw;subst e1;cases r;obtain⟨its,rv,ht,hz⟩:=I.tuple hq;refine assign_Tuple_tuple (I.ok.hd hc) ht (by simp[hn,<- hl,rv.length]) hst λh' hx=>?_;have I1:Inv X pins σ H {s with heap:=h'}:=I.kept (t':=s.toks) λb o e=>hx b o (bB (aS e)) e;exact h pins _ σ H xs _ Q I1 (by simpa using rv) hw
def VJ(to ti:TE)(t:yF):TG:=λv σ H Q=>to σ H λo H1=>ti σ H1 λi H2=>t o i v H2 λH3=>Q σ H3
theorem Pb{o i:Expr}{to ti:TE}{t:yF}(ho:PE X o to)(hi:PE X i ti)(hs:Ip X t)
  (ha:∀v,assign (.Subscript o i pos) X.env v=(do
   let ov <- holding [v] (eval o X.env)
   let iv <- holding [v,ov] (eval i X.env)
   standAt pos
   holding [v,ov,iv] (setItem ov iv v)
   release [v,ov,iv] []):=by intro _;rfl):PG X (.Subscript o i pos) (VJ to ti t):=by
 intro pins s σ H v u Q I r h;rw[ha];refine ai (fS (aM (ho pins s σ H _ I h) λov s1 aW=>?_));obtain⟨x,H1,I1,r1,q1⟩:=aW;refine ai (fS (aM (hi pins s1 σ H1 _ I1 q1) λiv s2 aW=>?_));obtain⟨y,H2,I2,r2,q2⟩:=aW;refine ai (oE (ai (fS (aM (hs pins s2 σ H2 x y v ov iv u _ I2 r1 r2 r q2) λ_ s3 aW=>?_))));obtain⟨H3,I3,q3⟩:=aW;exact wpAny_release ⟨σ,H3,I3,q3⟩
def xi(te:TE)(g:TG):TS:=λD σ H=>te σ H λx H1=>g x σ H1 D.nx
theorem DY{tg e:Expr}{te:TE}{g:TG}(he:PE X e te)(hg:PG X tg g)(hs:swapsWithSole [tg] e pos.line X.env=pure false:=by rfl)(hw:swappedStores [tg] e X.env=pure none:=by rfl)
  (h1:(assignEach [tg] X.env).map (·.2) = [assign tg X.env]:=by rfl):PS X (.Assign [tg] e pos) (xi te g):=by
 intro pins s σ H D I h;refine wpAny_Assign_stores (aM (he pins s σ H _ I h) λv s1 ⟨x,H1,I1,r1,q1⟩=>?_) hs hw;rw[h1];exact aM (hg pins s1 σ H1 x v _ I1 r1 q1) λ_ s2 q=>q
theorem aP{i:Nat}{x:Str}{e:Expr}{te:TE}{pos':Pos}(hN:X.N.Nodup)(hi:X.N[i]?=some x)(hx:Loc X.env.scope x)(he:PE X e te)(hs:swapsWith e (some (.Name x pos')) pos.line X.env=pure false:=by rfl)(hf:X.fn x=true\/X.env.scope.names.lookup x=some .local:=by first|exact .inl rfl|exact .inr rfl|assumption):
  PS X (.Assign [.Name x pos'] e pos) (xi te (cD i)):=by
 intro pins s σ H D I h;refine wpAny_Assign_Name (aM (he pins s σ H _ I h) λv s1 ⟨y,H1,I1,r1,q1⟩=>?_) hs;exact RB I1 hN hi hx r1 (λs2 I2=>⟨_,H1,I2,q1⟩) hf
def ac9(c:TT)(tb:TS):TS:=λD σ H=>∃W:Nat->St->Hp->Prop,(∃m,W m σ H)/\∀m σ H,W m σ H ->
 c σ H λb H1=>if b=true then ∃N:St->Hp->Prop,(∀σ' H',N σ' H'->∃m',m'<m/\W m' σ' H')/\tb {D with nx:=N,ct:=N,bk:=D.nx} σ H1 else D.nx σ H1
theorem abE{c:Expr}{body:List Stmt}{tc:TT}{tb:TS}(hp:PassesOwn (model X.prog X.w) X.A X.env X.xe)(hc:PT X c tc)(hb:fE X body tb):PS X (.While c body [] pos) (ac9 tc tb):=by
 intro pins s σ H D I h;obtain⟨W,⟨m0,w0⟩,turn⟩:=h;refine wpAny_While (codeAny_whileLoop (λn s'=>∃σ' H',Inv X pins σ' H' s'/\W n σ' H') ?_ m0 ⟨σ,H,I,w0⟩);rintro n s1 ⟨σ1,H1,I1,w1⟩;refine oB hp (aM (hc pins s1 σ1 H1 _ I1 (turn n σ1 H1 w1)) λb s2 aW=>?_);obtain⟨H2,I2,q2⟩:=aW;cases b with
 |true =>
  obtain⟨N,hN,q2⟩:=q2;rw[if_pos rfl];refine oB hp (aM (hb pins s2 σ1 H2 _ I2 q2) λf s3 q3=>?_);cases f with
  |next =>
   obtain⟨σ3,H3,I3,n3⟩:=q3;obtain⟨m',hm,w3⟩:=hN σ3 H3 n3;exact⟨m',hm,σ3,H3,I3,w3⟩
  |cont =>
   obtain⟨σ3,H3,I3,n3⟩:=q3;obtain⟨m',hm,w3⟩:=hN σ3 H3 n3;exact⟨m',hm,σ3,H3,I3,w3⟩
  |brk=>exact q3
  |ret v=>exact q3
 |false =>
  rw[if_neg Bool.false_ne_true];exact uo ⟨σ1,H2,I2,q2⟩
end
structure It where
 go:Nat->Hp->Prop
 kK:Nat->Hp->V->Hp->Prop
 stop:Nat->Hp->Prop
def cW(X:Cx)(pins:List (Addr × Obj))(H:Hp)(b:Addr):Prop:=
 H b=none/\b≠X.env.locals/\b ∉ X.fs/\(b∈X.ex\/X.s₀.heap.objs.size<=b)/\(∀x c,X.env.cells.lookup x=some c->c≠b)/\∀p∈X.pn++pins,p.1≠b
theorem Inv.oZ{X:Cx}{pins:List (Addr × Obj)}{σ:St}{H H':Hp}{s:Shared}{b:Addr}(I:Inv X pins σ H s)(hb:s.heap.objs.size<=b)(hn:H' b=none):cW X pins H' b:=by
 refine⟨hn,dZ (cZ I.lt hb),I.Zy hb,.inr (ck I.sz hb),λx c e z=>?_,λp hp z=>?_⟩
 ·obtain⟨v,q⟩:=I.cell x c e
  exact absurd (cZ q.lt (by rw[z];exact hb)) (dY _)
 ·exact absurd (cZ (aS (I.pin p hp).1) (by rw[z];exact hb)) (dY _)
structure Turn (P:Program) (w:World) (K:W.Frag) (tg:Expr) (J:It) (fp:List Addr) (it:Addr) (tn:Nat->Heap->Prop):Prop where
 mem:it∈fp
 obj:∀i h,tn i h->∀b∈fp,∃o,h.get? b=some o/\∀v,o.data≠.cell v
 keep:∀i h h',tn i h->(∀b∈fp,∀o,h.get? b=some o->h'.get? b=some o)->tn i h'
 item:∀(X:Cx),X.prog=P->X.w=w->X.K=K->X.calm=true->∀(i:Nat) (pins:List (Addr × Obj)) (s:Shared) (σ:St) (H:Hp) (E:Value->Shared->Prop),Inv X pins σ H s->(∀b∈fp,cW X pins H b)->tn i s.heap->J.go i H ->
  wpAny (model P w) X.A (pyNext (.ref it)) (λr s1=>∃u,r=some u /\
   wpAny (model P w) X.A (letOwnedTupleGo tg (.ref it) u) (λ_ s2=>∃x H',Inv X pins σ H' s2/\RelV x u/\J.kK i H x H'/\tn (i+1) s2.heap/\∀b∈fp,H' b=none) E s1) E s
 done:∀(X:Cx),X.prog=P->X.w=w->X.K=K->X.calm=true->∀(i:Nat) (pins:List (Addr × Obj)) (s:Shared) (σ:St) (H:Hp) (E:Value->Shared->Prop),Inv X pins σ H s->(∀b∈fp,cW X pins H b)->tn i s.heap->J.stop i H ->
  wpAny (model P w) X.A (pyNext (.ref it)) (λr s1=>r=none/\Inv X pins σ H s1) E s
 self:∀(A:Around) (i:Nat) (s:Shared) (Q:Value->Shared->Prop) (E:Value->Shared->Prop),tn i s.heap->Q (.ref it) s->wpAny (model P w) A (pyIter (.ref it)) Q E s
abbrev TI:=St->Hp->(It->Hp->Prop)->Prop
def PIE(X:Cx)(pins:List (Addr × Obj))(σ:St)(tg:Expr)(R:It->Hp->Prop)(itv:Value)(s2:Shared):Prop:=
 ∃(it:Addr) (fp:List Addr) (tn:Nat->Heap->Prop) (J:It) (H':Hp),itv = .ref it/\Inv X pins σ H' s2/\Turn X.prog X.w X.K tg J fp it tn/\tn 0 s2.heap/\(∀b∈fp,cW X pins H' b)/\R J H'
def PI(X:Cx)(tg iter:Expr)(wi:TI):Prop:=
 ∀(pins:List (Addr × Obj)) (s:Shared) (σ:St) (H:Hp) (R:It->Hp->Prop),Inv X pins σ H s->wi σ H R ->
  wpAny (model X.prog X.w) X.A (eval iter X.env) (λv s1=>wpAny (model X.prog X.w) X.A (pyIter v) (PIE X pins σ tg R) X.xe s1) X.xe s
theorem Cg{M:Model}{A:Around}{E:Value->Shared->Prop}{s:Shared}{tg:Expr}{it:Addr}{u:Value}{o:Obj}{n:String}{vs:Array Value}{Q:Unit->Shared->Prop}(ho:s.heap.get? it=some o)(hc:o.cls = .type n)(hd:o.data = .fields vs)
  (hn:["enumerate","zip","dict_itemiterator","dict_reverseitemiterator","odict_iterator","itertools.zip_longest","itertools.pairwise"].contains n=false) (hQ:Q () s):wpAny M A (letOwnedTupleGo tg (.ref it) u) Q E s:=by
 unfold letOwnedTupleGo;cases tg<;>first
  |exact aJ hQ
  | (cases u<;>first
    |exact aJ hQ
    | (refine ai (wpAny_load ho ?_);rw[hc,hd];show wpAny M A (if(["enumerate","zip","dict_itemiterator","dict_reverseitemiterator","odict_iterator","itertools.zip_longest","itertools.pairwise"].contains n&&vs[0]?==some (rawInt _))=true then _ else _) Q E s;rw[if_neg (by intro h;rw[hn,jo]at h;cases h)];exact aJ hQ))
noncomputable def kN (K:W.Frag) (a:Addr):It:=
 ⟨λi H=>∃xs x,ah K H a xs/\xs[i]?=some x,λi H x H'=>H'=H/\∀xs,ah K H a xs->xs[i]?=some x,λi H=>∃xs,ah K H a xs/\xs.length<=i⟩
noncomputable def mw (K:W.Frag) (a:Addr):It:=
 ⟨λi H=>∃xs x,ax K H a xs/\xs[i]?=some x,λi H x H'=>H'=H/\∀xs,ax K H a xs->xs[i]?=some x,λi H=>∃xs,ax K H a xs/\xs.length<=i⟩
noncomputable def kO (lo:Int) (n:Nat):It:=⟨λi _=>i<n,λi H x H'=>H'=H/\x = .int (lo+i),λi _=>n<=i⟩
theorem adi{P:Program}{w:World}{K:W.Frag}{tg:Expr}(a it:Addr):Turn P w K tg (kN K a) [it] it (λi h=>h.IsListIter it a i) where
 mem:=by simp
 obj:=λi h st b hb=>by
  have e:b=it:=by simpa using hb
  subst e;obtain⟨o,e,c,d⟩:=st;exact⟨o,e,λv z=>by rw[d]at z;cases z⟩
 keep:=λi h h' st k=>st.at λo e=>k it (by simp) o e
 item:=by
  intro X hP hw hK hc i pins s σ H E I hf st hg;subst hP hw hK;obtain⟨xs,x,hq,hx⟩:=hg;obtain⟨its,rv,p,hz⟩:=I.list hq;obtain⟨u,hu,ru⟩:=rv.get hx;obtain⟨f0,f1,f2,f3,f4,f5⟩:=hf it (by simp);refine wpAny_pyNext_list_item st p.isList (x:=u) (by simpa using hu) λh' st' sb=>?_;have I1:Inv X pins σ H {s with heap:=h'}:=I.turned (t':=s.toks) (λb o hb e=>(sb.2 b hb).trans e) f0 f1 f3 f4 f5;obtain⟨o,e,c,d⟩:=id st';exact⟨u,rfl,Cg (s:={s with heap:=h'}) e c d (by decide) ⟨x,H,I1,ru,⟨rfl,λys hy=>by rw[I.NT hy hq];exact hx⟩,st',λb hb=>(hf b hb).1⟩⟩
 done:=by
  intro X hP hw hK hc i pins s σ H E I hf st hg;subst hP hw hK;obtain⟨xs,hq,hx⟩:=hg;obtain⟨its,rv,p,hz⟩:=I.list hq;obtain⟨f0,f1,f2,f3,f4,f5⟩:=hf it (by simp);have hl:=rv.length;exact wpAny_pyNext_list_end (I.ok.hd hc) st p.isList (by simp;omega) λh' eb=>⟨rfl,I.turned (t':=s.toks) (λb o hb e=>eb b o hb e) f0 f1 f3 f4 f5⟩
 self:=λ_ _ _ _ _ st h=>wpAny_pyIter_listiter st h
theorem adl{P:Program}{w:World}{K:W.Frag}{tg:Expr}(a it:Addr):Turn P w K tg (mw K a) [it] it (λi h=>h.IsTupleIter it a i) where
 mem:=by simp
 obj:=λi h st b hb=>by
  have e:b=it:=by simpa using hb
  subst e;obtain⟨o,e,c,d⟩:=st;exact⟨o,e,λv z=>by rw[d]at z;cases z⟩
 keep:=λi h h' st k=>st.at λo e=>k it (by simp) o e
 item:=by
  intro X hP hw hK hc i pins s σ H E I hf st hg;subst hP hw hK;obtain⟨xs,x,hq,hx⟩:=hg;obtain⟨its,rv,p,hz⟩:=I.tuple hq;obtain⟨u,hu,ru⟩:=rv.get hx;obtain⟨f0,f1,f2,f3,f4,f5⟩:=hf it (by simp);refine wpAny_pyNext_tuple_item st (show s.heap.IsTuple a its.toArray from p) (x:=u) (by simpa using hu) λh' st' sb=>?_;have I1:Inv X pins σ H {s with heap:=h'}:=I.turned (t':=s.toks) (λb o hb e=>(sb.2 b hb).trans e) f0 f1 f3 f4 f5;obtain⟨o,e,c,d⟩:=id st';exact⟨u,rfl,Cg (s:={s with heap:=h'}) e c d (by decide) ⟨x,H,I1,ru,⟨rfl,λys hy=>by rw[I.He hy hq];exact hx⟩,st',λb hb=>(hf b hb).1⟩⟩
 done:=by
  intro X hP hw hK hc i pins s σ H E I hf st hg;subst hP hw hK;obtain⟨xs,hq,hx⟩:=hg;obtain⟨its,rv,p,hz⟩:=I.tuple hq;obtain⟨f0,f1,f2,f3,f4,f5⟩:=hf it (by simp);have hl:=rv.length;exact wpAny_pyNext_tuple_end (I.ok.hd hc) st (show s.heap.IsTuple a its.toArray from p) (by simp;omega) λh' eb=>⟨rfl,I.turned (t':=s.toks) (λb o hb e=>eb b o hb e) f0 f1 f3 f4 f5⟩
 self:=λ_ _ _ _ _ st h=>wpAny_pyIter_tupleiter st h
theorem adk{P:Program}{w:World}{K:PySem.W.Frag}{tg:Expr}(it:Addr)(lo:Int)(n:Nat):Turn P w K tg (kO lo n) [it] it (λi h=>IsRangeIter h it (lo+(i:Nat)*1) ((n:Int) - (i:Nat)) 1) where
 mem:=by simp
 obj:=λi h st b hb=>by
  have e:b=it:=by simpa using hb
  subst e;exact⟨_,st,λv z=>by
   have z':Data.fields _=Data.cell v:=z;cases z'⟩
 keep:=λi h h' st k=>k it (by simp) _ st
 item:=by
  intro X hP hw hK hc i pins s σ H E I hf st hg;subst hP hw hK;obtain⟨f0,f1,f2,f3,f4,f5⟩:=hf it (by simp);have W:=Walks.range (prog:=X.prog) (w:=X.w) (I.ok.hd hc) it lo 1 n;refine W.item i s _ _ hg st λv h' tk hv st' kk=>?_;obtain⟨t,rfl⟩:=hv;have I1:Inv X pins σ H {s with heap:=h',toks:=tk}:=I.turned (λb o hb e=>kk b o (by simpa using hb) e) f0 f1 f3 f4 f5;refine⟨_,rfl,Cg (s:={s with heap:=h',toks:=tk}) (n:= "range_iterator") st' rfl rfl (by decide) ⟨.int (lo+i),H,I1,⟨t,?_⟩,⟨rfl,rfl⟩,st',λb hb=>(hf b hb).1⟩⟩;rw[Int.mul_one]
 done:=by
  intro X hP hw hK hc i pins s σ H E I hf st hg;subst hP hw hK;obtain⟨f0,f1,f2,f3,f4,f5⟩:=hf it (by simp);exact wpAny_pyNext_range_end (I.ok.hd hc) st (by have:n<=i:=hg;omega) λh' eb=>⟨rfl,I.turned (t':=s.toks) (λb o hb e=>eb b o hb e) f0 f1 f3 f4 f5⟩
 self:=λ_ _ _ _ _ st h=>wpAny_pyIter_rangeiter st h
section
variable {X:Cx} {tg:Expr}
def M7(K:W.Frag)(tl:TE):TI:=λσ H R=>tl σ H λx H1=>∃a,x = .ref a/\(∃xs,ah K H1 a xs)/\R (kN K a) H1
def M8(K:W.Frag)(tl:TE):TI:=λσ H R=>tl σ H λx H1=>∃a,x = .ref a/\(∃xs,ax K H1 a xs)/\R (mw K a) H1
theorem abt{l:Expr}{tl:TE}(hl:PE X l tl):PI X tg l (M7 X.K tl):=by
 intro pins s σ H R I h;refine aM (hl pins s σ H _ I h) λv s1 aW=>?_;obtain⟨x,H1,I1,r1,q1⟩:=aW;obtain⟨a,e,⟨xs,hq⟩,q⟩:=q1;subst e;cases r1;obtain⟨its,rv,p,hz⟩:=I1.list hq;refine uw p.isList ?_;refine⟨s1.heap.objs.size,[s1.heap.objs.size],_,_,H1,rfl,I1.kept (t':=s1.toks) λb o e=>aV _ e,adi a _,⟨_,cn _ rfl,rfl,rfl⟩,λb hb=>?_,q⟩;have e:b=s1.heap.objs.size:=by simpa using hb
 subst e;exact I1.oZ (aY _) (I1.hok.fresh (aY _))
theorem abw{l:Expr}{tl:TE}(hl:PE X l tl):PI X tg l (M8 X.K tl):=by
 intro pins s σ H R I h;refine aM (hl pins s σ H _ I h) λv s1 aW=>?_;obtain⟨x,H1,I1,r1,q1⟩:=aW;obtain⟨a,e,⟨xs,hq⟩,q⟩:=q1;subst e;cases r1;obtain⟨its,rv,p,hz⟩:=I1.tuple hq;refine Jg (show s1.heap.IsTuple a its.toArray from p) ?_;refine⟨s1.heap.objs.size,[s1.heap.objs.size],_,_,H1,rfl,I1.kept (t':=s1.toks) λb o e=>aV _ e,adl a _,⟨_,cn _ rfl,rfl,rfl⟩,λb hb=>?_,q⟩;have e:b=s1.heap.objs.size:=by simpa using hb
 subst e;exact I1.oZ (aY _) (I1.hok.fresh (aY _))
theorem PN{pins:List (Addr × Obj)}{σ:St}{H:Hp}{s:Shared}{R:It->Hp->Prop}{E:Value->Shared->Prop}{lo hi:Int}{t u v:Tok}{tk:Nat}(I:Inv X pins σ H s)(h1:-(2 ^ 62)<=lo)(h2:lo<2 ^ 62)(h3:-(2 ^ 62)<=hi)(h4:hi<2 ^ 62)
  (q:R (kO lo (hi - lo).toNat) H):wpAny (model X.prog X.w) X.A (pyIter (.ref s.heap.objs.size)) (PIE X pins σ tg R) E {s with heap:=s.heap.push {cls:=.type "range", data:=.fields #[.int lo t,.int hi u,.int 1 v]},toks:=tk}:=by
 refine wpAny_pyIter_range (IsRange.new ..) (small_one h1 h2 h3 h4) ?_;have I1:Inv X pins σ H {s with heap:=s.heap.push {cls:=.type "range", data:=.fields #[.int lo t,.int hi u,.int 1 v]},toks:=tk}:=I.kept λb o e=>aV _ e;refine⟨(s.heap.push {cls:=.type "range", data:=.fields #[.int lo t,.int hi u,.int 1 v]}).objs.size,[(s.heap.push {cls:=.type "range", data:=.fields #[.int lo t,.int hi u,.int 1 v]}).objs.size],_,_,H,rfl,
  I1.kept (t':=tk) λb o e=>aV _ e,adk _ lo (hi - lo).toNat,?_,λb hb=>?_,q⟩
 ·have e1:lo+((0:Nat):Int)*1=lo:=by simp
  have e2:(((hi - lo).toNat:Nat):Int) - ((0:Nat):Int)=Builtin.Range.rangeSize lo hi 1:=by rw[rangeSize_one];split<;>omega
  show IsRangeIter _ _ (lo+((0:Nat):Int)*1) ((((hi - lo).toNat:Nat):Int) - ((0:Nat):Int)) 1;rw[e1,e2];exact cn _ rfl
 ·have e:b=(s.heap.push {cls:=.type "range", data:=.fields #[.int lo t,.int hi u,.int 1 v]}).objs.size:=by simpa using hb
  subst e;exact I1.oZ (aY _) (I1.hok.fresh (aY _))
def XD(ta:TA):TI:=λσ H R=>ta σ H λvs H1=>∃j:Int,vs = [.int j]/\-(2 ^ 62)<=j/\j<2 ^ 62/\R (kO 0 j.toNat) H1
def XF(ta:TA):TI:=λσ H R=>ta σ H λvs H1=>∃i j:Int,vs = [.int i,.int j]/\(-(2 ^ 62)<=i/\i<2 ^ 62/\-(2 ^ 62)<=j/\j<2 ^ 62)/\R (kO i (j - i).toNat) H1
theorem cQ {a:Expr} {ta:TA} {p pos:Pos} (hg:Gl X "range") (hm:X.mg "range" = none) (ha:PA X [a] ta) (hs:starEach [a] X.env = [(false,eval a X.env)]:=by rfl):PI X tg (.Call (.Name "range" p) [a] [] pos) (XD ta):=by
 intro pins s σ H R I h;refine Call_ (jN I hg hm boot_range (ox (aM (ha pos pins s σ H _ I h) λus s1 ⟨vs,H1,I1,r1,q1⟩=>?_) hs rfl));obtain⟨j,e,q1,q2,q⟩:=q1;subst e;cases r1 with
 |cons r rr =>
  cases rr;obtain⟨t,rfl⟩:=r;exact call_range_1 (PN I1 (by omega) (by omega) q1 q2 (by simpa using q))
theorem DT {a b:Expr} {ta:TA} {p pos:Pos} (hg:Gl X "range") (hm:X.mg "range" = none) (ha:PA X [a,b] ta) (hs:starEach [a,b] X.env = [(false,eval a X.env),(false,eval b X.env)]:=by rfl) (hs2:starEach [b] X.env = [(false,eval b X.env)]:=by rfl) :
  PI X tg (.Call (.Name "range" p) [a,b] [] pos) (XF ta):=by
 intro pins s σ H R I h;refine Call_ (jN I hg hm boot_range (ox (aM (ha pos pins s σ H _ I h) λus s1 ⟨vs,H1,I1,r1,q1⟩=>?_) (by rw[hs,hs2]) (by rw[hs2];rfl)));obtain⟨i,j,e,⟨q1,q2,q3,q4⟩,q⟩:=q1;subst e;cases r1 with
 |cons r rr =>
  cases rr with
  |cons r' rr =>
   cases rr;obtain⟨t,rfl⟩:=r;obtain⟨t',rfl⟩:=r';exact call_range_2 (PN I1 q1 q2 q3 q4 q)
def acR(wi:TI)(g:TG)(tb:TS):TS:=λD σ H=>wi σ H λJ H1=>∃W:Nat->Nat->St->Hp->Prop,(∃m,W 0 m σ H1)/\∀i m σ H,W i m σ H ->
 (J.stop i H/\D.nx σ H)\/(J.go i H/\∃N:St->Hp->Prop,(∀σ' H',N σ' H'->∃m',m'<m/\W (i+1) m' σ' H')/\∀x H',J.kK i H x H'->g x σ H' λσ2 H2=>tb {D with nx:=N,ct:=N,bk:=D.nx} σ2 H2)
noncomputable def sH (fp:List Addr) (h:Heap):List (Addr × Obj):=fp.filterMap λb=>(h.get? b).map λo=>(b,o)
theorem vD{fp:List Addr}{h:Heap}{b:Addr}{o:Obj}(hb:b∈fp)(e:h.get? b=some o):(b,o)∈sH fp h:=List.mem_filterMap.mpr ⟨b,hb,by rw[e];rfl⟩
theorem ZM{fp:List Addr}{h:Heap}{p:Addr × Obj}(hp:p∈sH fp h):p.1∈fp/\h.get? p.1=some p.2:=by
 obtain⟨b,hb,e⟩:=List.mem_filterMap.mp hp;cases q:h.get? b with
 |none=>rw[q]at e;cases e
 |some o =>
  rw[q]at e;have e':(b,o)=p:=dg e;subst e';exact⟨hb,q⟩
theorem Inv.pinned{pins:List (Addr × Obj)}{σ:St}{H:Hp}{s:Shared}{fp:List Addr}(I:Inv X pins σ H s)(hf:∀b∈fp,cW X pins H b)(ho:∀b∈fp,∃o,s.heap.get? b=some o/\∀v,o.data≠.cell v):Inv X (pins++sH fp s.heap) σ H s:=
 I.vV λp hp=>(gO.mp hp).elim (λz=>I.pin p (gP _ z)) λz=>by
  obtain⟨hb,e⟩:=ZM z;obtain⟨f0,f1,f2,_⟩:=hf p.1 hb;obtain⟨o,e',d⟩:=ho p.1 hb;rw[e]at e';cases e';exact⟨e,f0,f1,f2,d⟩
theorem Inv.xn{pins pl:List (Addr × Obj)}{σ:St}{H:Hp}{s:Shared}(I:Inv X (pins++pl) σ H s):Inv X pins σ H s:=I.vV λp hp=>I.pin p (gP _ (kR _ hp))
theorem cx{iter:Expr}{body:List Stmt}{wi:TI}{g:TG}{tb:TS}{pos:Pos}(hp:PassesOwn (model X.prog X.w) X.A X.env X.xe)(hc:X.calm=true)(hi:PI X tg iter wi)(hg:PG X tg g)(hb:fE X body tb)(hs:∀x,foldedSetIterable iter X.env x=pure x:=by intro _;rfl):PS X (.For tg iter body [] pos) (acR wi g tb):=by
 intro pins s σ H D I h;refine wpAny_For (aM (hi pins s σ H _ I h) λv s1 h1=>aM h1 λitv s2 h2=>?_) hs;obtain⟨it,fp,tn,J,H2,e,I2,T,st2,f2,W,⟨m0,w0⟩,turn⟩:=h2;subst e;have stat:∀{H':Hp},(∀b∈fp,H' b=none)->∀b∈fp,cW X pins H' b:=λhn b hb=>⟨hn b hb,(f2 b hb).2⟩;refine codeAny_forLoop_any (λn s'=>∃i σ' H',Inv X pins σ' H' s'/\tn i s'.heap/\(∀b∈fp,H' b=none)/\W i n σ' H') ?_ m0 ⟨0,σ,H2,I2,st2,λb hb=>(f2 b hb).1,w0⟩;rintro n s3 ⟨i,σ3,H3,I3,st3,rD,w3⟩
 rcases turn i n σ3 H3 w3 with⟨stop,qn⟩|⟨go,N,hN,step⟩
 ·refine oB hp (aM (T.done X rfl rfl rfl hc i pins s3 σ3 H3 X.xe I3 (stat rD) st3 stop) λr s4 aW=>?_)
  obtain⟨hr,I4⟩:=aW;subst hr;exact uo ⟨σ3,H3,I4,qn⟩
 ·refine oB hp (aM (T.item X rfl rfl rfl hc i pins s3 σ3 H3 X.xe I3 (stat rD) st3 go) λr s4 aW=>?_)
  obtain⟨u,hr,h4⟩:=aW;subst hr;refine oB hp (aM h4 λ_ s5 aW=>?_);obtain⟨x,H5,I5,r5,y5,nD,BV⟩:=aW;have xN:=I5.pinned (stat BV) (T.obj _ _ nD);refine oB hp (aM (hg _ s5 σ3 H5 x u _ xN r5 (step x H5 y5)) λ_ s6 aW=>?_);obtain⟨σ6,H6,I6,q6⟩:=aW;refine oB hp (aM (hb _ s6 σ6 H6 _ I6 q6) λf s7 q7=>?_);have again:∀{σ7:St} {H7:Hp},Inv X (pins++sH fp s5.heap) σ7 H7 s7->N σ7 H7->∃m,m<n/\∃i σ' H',Inv X pins σ' H' s7/\tn i s7.heap/\(∀b∈fp,H' b=none)/\W i m σ' H':=λ{σ7 H7} I7 n7=>by
   obtain⟨m',hm,w7⟩:=hN σ7 H7 n7;refine⟨m',hm,i+1,σ7,H7,I7.xn,T.keep _ _ _ nD λb hb o e=>(I7.pin (b,o) (gP _ (gP _ (vD hb e)))).1,λb hb=>?_,w7⟩;obtain⟨o,e,d⟩:=T.obj _ _ nD b hb;exact(I7.pin (b,o) (gP _ (gP _ (vD hb e)))).2.1
  cases f with
  |next=>obtain⟨σ7,H7,I7,n7⟩:=q7;exact again I7 n7
  |cont=>obtain⟨σ7,H7,I7,n7⟩:=q7;exact again I7 n7
  |brk=>obtain⟨σ7,H7,I7,q7⟩:=q7;exact⟨σ7,H7,I7.xn,q7⟩
  |ret v=>obtain⟨x7,σ7,H7,I7,r7,q7⟩:=q7;exact⟨x7,σ7,H7,I7.xn,r7,q7⟩
end
theorem iF{K:PySem.W.Frag}{a:Addr}{xs:List V}{g:TG}{tb:TS}{D:Ends}{σ:St}{H:Hp}(Pv:Nat->St->Hp->Prop)(h0:Pv 0 σ H)(hl:∀i σ H,i<=xs.length->Pv i σ H->ah K H a xs)
  (hs:∀i x σ H,xs[i]?=some x->Pv i σ H->g x σ H λσ2 H2=>tb {D with nx:=Pv (i+1),ct:=Pv (i+1),bk:=D.nx} σ2 H2) (hd:∀σ H,Pv xs.length σ H->D.nx σ H) :
  ∃W:Nat->Nat->St->Hp->Prop,(∃m,W 0 m σ H)/\∀i m σ H,W i m σ H ->
   ((kN K a).stop i H/\D.nx σ H)\/((kN K a).go i H/\∃N:St->Hp->Prop,(∀σ' H',N σ' H'->∃m',m'<m/\W (i+1) m' σ' H')/\∀x H',(kN K a).kK i H x H'->g x σ H' λσ2 H2=>tb {D with nx:=N,ct:=N,bk:=D.nx} σ2 H2):=by
 refine⟨λi m σ H=>m=xs.length - i/\i<=xs.length/\Pv i σ H,⟨xs.length,by simp,dP _,h0⟩,?_⟩;rintro i m σ H ⟨rfl,hi,p⟩;have q:=hl i σ H hi p
 by_cases hlt:i<xs.length
 ·refine .inr ⟨⟨xs,xs[i],q,by simp[hlt]⟩,Pv (i+1),λσ' H' p'=>⟨xs.length - (i+1),by omega,rfl,hlt,p'⟩,λx H' y=>?_⟩
  obtain⟨e,y⟩:=y;subst e;exact hs i x σ _ (y xs q) p
 ·have e:i=xs.length:=by omega
  subst e;exact .inl ⟨⟨xs,q,aY _⟩,hd σ H p⟩
theorem Vy{K:PySem.W.Frag}{a:Addr}{xs:List V}{g:TG}{tb:TS}{D:Ends}{σ:St}{H:Hp}(Pv:Nat->St->Hp->Prop)(h0:Pv 0 σ H)(hl:∀i σ H,i<=xs.length->Pv i σ H->ax K H a xs)
  (hs:∀i x σ H,xs[i]?=some x->Pv i σ H->g x σ H λσ2 H2=>tb {D with nx:=Pv (i+1),ct:=Pv (i+1),bk:=D.nx} σ2 H2) (hd:∀σ H,Pv xs.length σ H->D.nx σ H) :
  ∃W:Nat->Nat->St->Hp->Prop,(∃m,W 0 m σ H)/\∀i m σ H,W i m σ H ->
   ((mw K a).stop i H/\D.nx σ H)\/((mw K a).go i H/\∃N:St->Hp->Prop,(∀σ' H',N σ' H'->∃m',m'<m/\W (i+1) m' σ' H')/\∀x H',(mw K a).kK i H x H'->g x σ H' λσ2 H2=>tb {D with nx:=N,ct:=N,bk:=D.nx} σ2 H2):=by
 refine⟨λi m σ H=>m=xs.length - i/\i<=xs.length/\Pv i σ H,⟨xs.length,by simp,dP _,h0⟩,?_⟩;rintro i m σ H ⟨rfl,hi,p⟩;have q:=hl i σ H hi p
 by_cases hlt:i<xs.length
 ·refine .inr ⟨⟨xs,xs[i],q,by simp[hlt]⟩,Pv (i+1),λσ' H' p'=>⟨xs.length - (i+1),by omega,rfl,hlt,p'⟩,λx H' y=>?_⟩
  obtain⟨e,y⟩:=y;subst e;exact hs i x σ _ (y xs q) p
 ·have e:i=xs.length:=by omega
  subst e;exact .inl ⟨⟨xs,q,aY _⟩,hd σ H p⟩
theorem fJ{lo:Int}{n:Nat}{g:TG}{tb:TS}{D:Ends}{σ:St}{H:Hp}(Pv:Nat->St->Hp->Prop)(h0:Pv 0 σ H)
  (hs:∀i σ H,i<n->Pv i σ H->g (.int (lo+i)) σ H λσ2 H2=>tb {D with nx:=Pv (i+1),ct:=Pv (i+1),bk:=D.nx} σ2 H2) (hd:∀σ H,Pv n σ H->D.nx σ H) :
  ∃W:Nat->Nat->St->Hp->Prop,(∃m,W 0 m σ H)/\∀i m σ H,W i m σ H ->
   ((kO lo n).stop i H/\D.nx σ H)\/((kO lo n).go i H/\∃N:St->Hp->Prop,(∀σ' H',N σ' H'->∃m',m'<m/\W (i+1) m' σ' H')/\∀x H',(kO lo n).kK i H x H'->g x σ H' λσ2 H2=>tb {D with nx:=N,ct:=N,bk:=D.nx} σ2 H2):=by
 refine⟨λi m σ H=>m=n - i/\i<=n/\Pv i σ H,⟨n,by simp,dP _,h0⟩,?_⟩;rintro i m σ H ⟨rfl,hi,p⟩
 by_cases hlt:i<n
 ·refine .inr ⟨hlt,Pv (i+1),λσ' H' p'=>⟨n - (i+1),by omega,rfl,hlt,p'⟩,λx H' y=>?_⟩
  obtain⟨e,y⟩:=y;subst e y;exact hs i σ _ hlt p
 ·have e:i=n:=by omega
  subst e;exact .inl ⟨aY _,hd σ H p⟩
abbrev R2:=V->V->Hp->VK->Prop
def bY(X:Cx)(f:Value->Value->Sem Value)(r:R2):Prop:=
 ∀(pins:List (Addr × Obj)) (s:Shared) (σ:St) (H:Hp) (x y:V) (v u:Value) (Q:VK),Inv X pins σ H s->RelV x v->RelV y u->r x y H Q ->
  wpAny (model X.prog X.w) X.A (f v u) (EP X pins σ Q) X.xe s
def yG(X:Cx)(f:Value->Sem Value)(r:V->Hp->VK->Prop):Prop:=
 ∀(pins:List (Addr × Obj)) (s:Shared) (σ:St) (H:Hp) (x:V) (v:Value) (Q:VK),Inv X pins σ H s->RelV x v->r x H Q ->
  wpAny (model X.prog X.w) X.A (f v) (EP X pins σ Q) X.xe s
def dz(X:Cx)(f:Value)(r:List V->Hp->VK->Prop):Prop:=
 ∀(pins:List (Addr × Obj)) (s:Shared) (σ:St) (H:Hp) (xs:List V) (us:List Value) (Q:VK),Inv X pins σ H s->Vals xs us->r xs H Q ->
  wpAny (model X.prog X.w) X.A (call f us) (EP X pins σ Q) X.xe s
def xl(r:R2)(ta tb:TE):TE:=λσ H Q=>ta σ H λx H1=>tb σ H1 λy H2=>r x y H2 Q
def tUn(r:V->Hp->VK->Prop)(ta:TE):TE:=λσ H Q=>ta σ H λx H1=>r x H1 Q
def rI(C:Int->Int->Prop)(g:Int->Int->V):R2:=λx y H Q=>∃i j,x = .int i/\y = .int j/\C i j/\Q (g i j) H
def jU(g:Int->Int->V):R2:=λx y H Q=>∃i j,x = .int i/\y = .int j/\Q (g i j) H
def rU(g:Int->V):V->Hp->VK->Prop:=λx H Q=>∃i,x = .int i/\Q (g i) H
section
variable {X:Cx} {a b c:Expr} {ta tb tc:TE} {pos:Pos}
theorem yN(ha:PE X a ta)(hb:PE X b tb){pins:List (Addr × Obj)}{s:Shared}{σ:St}{H:Hp}{R:V->V->Hp->Prop}(I:Inv X pins σ H s)(h:ta σ H λx H1=>tb σ H1 λy H2=>R x y H2){Q:Value->Shared->Prop}{f:Value->Value->Sem Value}(hf:∀v u s2 x y H2,Inv X pins σ H2 s2->RelV x v->RelV y u->R x y H2->wpAny (model X.prog X.w) X.A (f v u) Q X.xe s2):wpAny (model X.prog X.w) X.A (eval a X.env) (λv s₁=>wpAny (model X.prog X.w) X.A (eval b X.env) (λu s₂=>wpAny (model X.prog X.w) X.A (f v u) Q X.xe s₂) X.xe s₁) X.xe s:=by
 refine aM (ha pins s σ H _ I h) λv s1 aW=>?_;obtain⟨x,H1,I1,r1,q1⟩:=aW;refine aM (hb pins s1 σ H1 _ I1 q1) λu s2 aW=>?_;obtain⟨y,H2,I2,r2,q2⟩:=aW;exact hf v u s2 x y H2 I2 r1 r2 q2
theorem aI{op:Operator}{r:R2}(ho:bY X (binaryOp op) r)(ha:PE X a ta)(hb:PE X b tb):PE X (.BinOp a op b pos) (xl r ta tb):=by
 intro pins s σ H Q I h;exact wpAny_BinOp (yN ha hb I h λv u s2 x y H2 I2 rx ry q=>ho pins s2 σ H2 x y v u Q I2 rx ry q)
theorem lL{op:UnaryOp}{r:V->Hp->VK->Prop}(ho:yG X (unaryOp op) r)(ha:PE X a ta):PE X (.UnaryOp op a pos) (tUn r ta):=by
 intro pins s σ H Q I h;exact UnaryOp_ (aM (ha pins s σ H _ I h) λv s1 ⟨x,H1,I1,r1,q1⟩=>ho pins s1 σ H1 x v Q I1 r1 q1)
theorem pK{f:Value->Value->Sem Value}{C:Int->Int->Prop}{g:Int->Int->Int}
  (rule:∀(i j:Int) (t u:Tok) (s:Shared) (Q:Value->Shared->Prop) (E:Value->Shared->Prop),C i j->Q (.int (g i j) s.toks) {s with toks:=s.toks+1}->wpAny (model X.prog X.w) X.A (f (.int i t) (.int j u)) Q E s) :
  bY X f (rI C λi j=>.int (g i j)):=by
 intro pins s σ H x y v u Q I rx ry h;obtain⟨i,j,rfl,rfl,hc,q⟩:=h;obtain⟨t,rfl⟩:=rx;obtain⟨t',rfl⟩:=ry;exact rule i j t t' s _ _ hc ⟨.int (g i j),H,I.tok _,⟨_,rfl⟩,q⟩
theorem vN{f:Value->Value->Sem Value}{g:Int->Int->Int}
  (rule:∀(i j:Int) (t u:Tok) (s:Shared) (Q:Value->Shared->Prop) (E:Value->Shared->Prop),Q (.int (g i j) s.toks) {s with toks:=s.toks+1}->wpAny (model X.prog X.w) X.A (f (.int i t) (.int j u)) Q E s) :
  bY X f (jU λi j=>.int (g i j)):=by
 intro pins s σ H x y v u Q I rx ry h;obtain⟨i,j,rfl,rfl,q⟩:=h;obtain⟨t,rfl⟩:=rx;obtain⟨t',rfl⟩:=ry;exact rule i j t t' s _ _ ⟨.int (g i j),H,I.tok _,⟨_,rfl⟩,q⟩
theorem vM{f:Value->Value->Sem Value}{g:Int->Int->Bool}(rule:∀(i j:Int) (t u:Tok) (s:Shared) (Q:Value->Shared->Prop) (E:Value->Shared->Prop),Q (.bool (g i j)) s->wpAny (model X.prog X.w) X.A (f (.int i t) (.int j u)) Q E s):bY X f (jU λi j=>.bl (g i j)):=by
 intro pins s σ H x y v u Q I rx ry h;obtain⟨i,j,rfl,rfl,q⟩:=h;obtain⟨t,rfl⟩:=rx;obtain⟨t',rfl⟩:=ry;exact rule i j t t' s _ _ ⟨.bl (g i j),H,I,rfl,q⟩
def Sv(i j:Int):Prop:=0<j/\j<1073741824
def Hu(i j:Int):Prop:=0<=j/\j<=1000000/\i.natAbs<2 ^ 64
def tK(i j:Int):Prop:=(-(2 ^ 64)<i/\i<2 ^ 64)\/(-(2 ^ 64)<j/\j<2 ^ 64)
theorem tK.ok{i j:Int}(h:tK i j):IntMulOk i j:=by
 rcases h with⟨h1,h2⟩|⟨h1,h2⟩
 ·exact .of_left (intBits_le_64 h1 h2)
 ·exact .of_right (intBits_le_64 h1 h2)
theorem adp(k:Nat):(0:Int)<=2 ^ k:=by
 rw[two_pow_cast];exact Int.natCast_nonneg _
theorem dU:bY X (binaryOp .Add) (jU λi j=>.int (i+j)):=vN λ_ _ _ _ _ _ _ q=>add_int q
theorem O2:bY X (binaryOp .Sub) (jU λi j=>.int (i - j)):=vN λ_ _ _ _ _ _ _ q=>sub_int q
theorem pM:bY X (binaryOp .Mult) (rI tK λi j=>.int (i*j)):=pK λ_ _ _ _ _ _ _ hc q=>mul_int q hc.ok
theorem sF:bY X (binaryOp .FloorDiv) (rI Sv λi j=>.int (i / j)):=pK λi j _ _ _ _ _ hc q=>by
 have h1:(0:Int)<j:=hc.1;have h2:j<1073741824:=hc.2;exact floordiv_int (by omega) (by rw[SJ i (by omega)];exact q) (.inl (PyProof.noPylong_small (by omega)))
theorem cS:bY X (binaryOp .Mod) (rI (λ_ j=>0<j) λi j=>.int (i % j)):=pK λi j _ _ _ _ _ hc q=>by
 have h1:(0:Int)<j:=hc;exact mod_int' (by omega) (by rw[Int.fmod_eq_emod_of_nonneg i (by omega)];exact q)
theorem aaY:bY X (binaryOp .Pow) (rI Hu λi j=>.int (i ^ j.toNat)):=pK λ_ _ _ _ _ _ _ hc q=>pow_int_small hc.1 hc.2.1 hc.2.2 q
theorem pN:bY X (binaryOp .LShift) (rI Hu λi j=>.int (i*2 ^ j.toNat)):=pK λ_ _ _ _ _ _ _ hc q=>lshift_int_small hc.1 hc.2.1 hc.2.2 q
theorem aaZ:bY X (binaryOp .RShift) (rI (λ_ j=>0<=j) λi j=>.int (i / 2 ^ j.toNat)):=pK λi j _ _ _ _ _ hc q =>
 rshift_int hc (by rw[SJ i (adp _)];exact q)
theorem kA:bY X (binaryOp .BitAnd) (jU λi j=>.int (Builtin.bitAnd i j)):=vN λ_ _ _ _ _ _ _ q=>and_int q
theorem vR:bY X (binaryOp .BitOr) (jU λi j=>.int (Builtin.bitOr i j)):=vN λ_ _ _ _ _ _ _ q=>or_int q
theorem unI{f:Value->Sem Value}{g:Int->Int}
  (rule:∀(i:Int) (t:Tok) (s:Shared) (Q:Value->Shared->Prop) (E:Value->Shared->Prop),Q (.int (g i) s.toks) {s with toks:=s.toks+1}->wpAny (model X.prog X.w) X.A (f (.int i t)) Q E s) :
  yG X f (rU λi=>.int (g i)):=by
 intro pins s σ H x v Q I rx h;obtain⟨i,rfl,q⟩:=h;obtain⟨t,rfl⟩:=rx;exact rule i t s _ _ ⟨.int (g i),H,I.tok _,⟨_,rfl⟩,q⟩
theorem lY:yG X (unaryOp .USub) (rU λi=>.int (-i)):=unI λ_ _ _ _ _ q=>neg_int q
end
noncomputable def Rm:V->V->Bool
 |.non,.non=>true | .non,.int _=>true | .int _,.non=>true | .non,.bl _=>true | .bl _,.non=>true | .non,.str _=>true | .str _,.non=>true
 |.int _,.int _=>true | .bl _,.bl _=>true | .str _,.str _=>true | .iE _,.iE _=>true
 |.int _,.str _=>true | .str _,.int _=>true | .bl _,.str _=>true | .str _,.bl _=>true
 |_,_=>false
def rEq:R2:=λx y H Q=>Rm x y=true/\Q (.bl (decide (x=y))) H
def rNe:R2:=λx y H Q=>Rm x y=true/\Q (.bl (!decide (x=y))) H
theorem Km{i j:Int}:decide (V.int i=V.int j)=(i==j):=by
 rw[dk];simp
theorem Kj{i j:Bool}:decide (V.bl i=V.bl j)=(i==j):=by
 rw[dk];simp
theorem Kn{i j:Str}:decide (V.str i=V.str j)=(i==j):=by
 rw[dk];simp
theorem Kl{i j:Array UInt8}:decide (V.iE i=V.iE j)=(i.toList==j.toList):=by
 rw[dk];cases i;cases j;simp
section
variable {X:Cx} {a b c:Expr} {ta tb tc:TE} {pos:Pos}
theorem cG{pins:List (Addr × Obj)}{σ:St}{H:Hp}{s:Shared}{Q:VK}{k k':Bool}(I:Inv X pins σ H s)(q:Q (.bl k) H)(e:k=k'):EP X pins σ Q (.bool k') s:=by
 subst e;exact⟨.bl k,H,I,rfl,q⟩
theorem dW:bY X (compareOp .Eq) rEq:=by
 intro pins s σ H x y v u Q I rx ry h;obtain⟨hs,q⟩:=h;cases x with
 |non =>
  cases rx;cases y with
  |non=>cases ry;exact PySem.EqNone.eq_none_none (cG I q (by simp))
  |bl j=>cases ry;exact PySem.EqNone.eq_none_bool (cG I q (by simp))
  |int j=>obtain⟨t',rfl⟩:=ry;exact PySem.EqNone.eq_none_int (cG I q (by simp))
  |str j=>obtain⟨t',rfl⟩:=ry;exact PySem.EqNone.eq_none_str (cG I q (by simp))
  |_=>exact absurd (show false=true from hs) Bool.false_ne_true
 |bl i =>
  cases rx;cases y with
  |non=>cases ry;exact PySem.EqNone.eq_bool_none (cG I q (by simp))
  |bl j=>cases ry;exact eq_bool (cG I q Kj)
  |str j=>obtain⟨t',rfl⟩:=ry;exact PySem.EqMixed.eq_bool_str (cG I q (by simp))
  |_=>exact absurd (show false=true from hs) Bool.false_ne_true
 |int i =>
  obtain⟨t,rfl⟩:=rx;cases y with
  |non=>cases ry;exact PySem.EqNone.eq_int_none (cG I q (by simp))
  |int j=>obtain⟨t',rfl⟩:=ry;exact eq_int (cG I q Km)
  |str j=>obtain⟨t',rfl⟩:=ry;exact PySem.EqMixed.eq_int_str (cG I q (by simp))
  |_=>exact absurd (show false=true from hs) Bool.false_ne_true
 |str i =>
  obtain⟨t,rfl⟩:=rx;cases y with
  |non=>cases ry;exact PySem.EqNone.eq_str_none (cG I q (by simp))
  |bl j=>cases ry;exact PySem.EqMixed.eq_str_bool (cG I q (by simp))
  |int j=>obtain⟨t',rfl⟩:=ry;exact PySem.EqMixed.eq_str_int (cG I q (by simp))
  |str j=>obtain⟨t',rfl⟩:=ry;exact eq_str (cG I q Kn)
  |_=>exact absurd (show false=true from hs) Bool.false_ne_true
 |iE i =>
  obtain⟨t,rfl⟩:=rx;cases y with
  |iE j=>obtain⟨t',rfl⟩:=ry;exact W.eq_bytes (cG I q Kl)
  |_=>exact absurd (show false=true from hs) Bool.false_ne_true
 |_=>cases y<;>exact absurd (show false=true from hs) Bool.false_ne_true
theorem f6:bY X (compareOp .NotEq) rNe:=by
 intro pins s σ H x y v u Q I rx ry h;obtain⟨hs,q⟩:=h;cases x with
 |non =>
  cases rx;cases y with
  |non=>cases ry;exact PySem.EqNone.ne_none_none (cG I q (by simp))
  |bl j=>cases ry;exact PySem.EqNone.ne_none_bool (cG I q (by simp))
  |int j=>obtain⟨t',rfl⟩:=ry;exact PySem.EqNone.ne_none_int (cG I q (by simp))
  |str j=>obtain⟨t',rfl⟩:=ry;exact PySem.EqNone.ne_none_str (cG I q (by simp))
  |_=>exact absurd (show false=true from hs) Bool.false_ne_true
 |bl i =>
  cases rx;cases y with
  |non=>cases ry;exact PySem.EqNone.ne_bool_none (cG I q (by simp))
  |bl j=>cases ry;exact ne_bool (cG I q (congrArg not Kj))
  |str j=>obtain⟨t',rfl⟩:=ry;exact PySem.EqMixed.ne_bool_str (cG I q (by simp))
  |_=>exact absurd (show false=true from hs) Bool.false_ne_true
 |int i =>
  obtain⟨t,rfl⟩:=rx;cases y with
  |non=>cases ry;exact PySem.EqNone.ne_int_none (cG I q (by simp))
  |int j=>obtain⟨t',rfl⟩:=ry;exact ne_int (cG I q (congrArg not Km))
  |str j=>obtain⟨t',rfl⟩:=ry;exact PySem.EqMixed.ne_int_str (cG I q (by simp))
  |_=>exact absurd (show false=true from hs) Bool.false_ne_true
 |str i =>
  obtain⟨t,rfl⟩:=rx;cases y with
  |non=>cases ry;exact PySem.EqNone.ne_str_none (cG I q (by simp))
  |bl j=>cases ry;exact PySem.EqMixed.ne_str_bool (cG I q (by simp))
  |int j=>obtain⟨t',rfl⟩:=ry;exact PySem.EqMixed.ne_str_int (cG I q (by simp))
  |str j=>obtain⟨t',rfl⟩:=ry;exact ne_str (cG I q (congrArg not Kn))
  |_=>exact absurd (show false=true from hs) Bool.false_ne_true
 |iE i =>
  obtain⟨t,rfl⟩:=rx;cases y with
  |iE j=>obtain⟨t',rfl⟩:=ry;exact W.ne_bytes (cG I q (congrArg not Kl))
  |_=>exact absurd (show false=true from hs) Bool.false_ne_true
 |_=>cases y<;>exact absurd (show false=true from hs) Bool.false_ne_true
theorem pL:bY X (compareOp .Lt) (jU λi j=>.bl (decide (i<j))):=vM λ_ _ _ _ _ _ _ q=>lt_int q
theorem Dy:bY X (compareOp .LtE) (jU λi j=>.bl (decide (i<=j))):=vM λ_ _ _ _ _ _ _ q=>le_int q
theorem aaT:bY X (compareOp .Gt) (jU λi j=>.bl (decide (j<i))):=vM λ_ _ _ _ _ _ _ q=>gt_int q
theorem vO:bY X (compareOp .GtE) (jU λi j=>.bl (decide (j<=i))):=vM λ_ _ _ _ _ _ _ q=>ge_int q
theorem vP:bY X (compareOp .Is) (λx y H Q=>y = .non/\Q (.bl (decide (x = .non))) H):=by
 intro pins s σ H x y v u Q I rx ry h;obtain⟨rfl,q⟩:=h;cases ry;refine is_none_gen (cG I q ?_);cases x<;>first
  | (cases rx;rfl)
  | (obtain⟨t,rfl⟩:=rx;rfl)
theorem OJ:bY X (compareOp .IsNot) (λx y H Q=>y = .non/\Q (.bl (!decide (x = .non))) H):=by
 intro pins s σ H x y v u Q I rx ry h;obtain⟨rfl,q⟩:=h;cases ry;refine isnot_none_gen (cG I q ?_);cases x<;>first
  | (cases rx;rfl)
  | (obtain⟨t,rfl⟩:=rx;rfl)
theorem bh(b:Expr){op:CmpOp}(h:op≠.In:=by decide)(h2:op≠.NotIn:=by decide):behindInMarks op b=false:=by
 have e1:(op==CmpOp.In)=false:=by cases op<;>first|rfl|exact absurd rfl h
 have e2:(op==CmpOp.NotIn)=false:=by cases op<;>first|rfl|exact absurd rfl h2
 cases b<;>simp[behindInMarks,e1,e2]
theorem iq{op:CmpOp}{r:R2}(ho:bY X (compareOp op) r)(ha:PE X a ta)(hb:PE X b tb)(hm:behindInMarks op b=false):PE X (.Compare a [op] [b] pos) (xl r ta tb):=by
 intro pins s σ H Q I h;exact wpAny_Compare1 (yN ha hb I h λv u s2 x y H2 I2 rx ry q=>ho pins s2 σ H2 x y v u Q I2 rx ry q) hm
def RW(t:TE):TT:=λσ H Q=>t σ H λx H'=>∃k,x = .bl k/\Q k H'
theorem bw{op:CmpOp}{r:R2}(ho:bY X (compareOp op) r)(ha:PE X a ta)(hb:PE X b tb)(hm:behindInMarks op b=false):PT X (.Compare a [op] [b] pos) (RW (xl r ta tb)):=by
 intro pins s σ H Q I h;refine wpAny_isTrue_Compare1 (aM (ha pins s σ H _ I h) λv s1 ⟨x,H1,I1,r1,q1⟩=>aM (hb pins s1 σ H1 _ I1 q1) λu s2 ⟨y,H2,I2,r2,q2⟩ =>
  aM (ho pins s2 σ H2 x y v u _ I2 r1 r2 q2) λc s3 ⟨z,H3,I3,r3,k,e,q3⟩=>?_) hm
 subst e;cases r3;exact jB ⟨H3,I3,q3⟩
def RN(r r':R2)(ta tb tc:TE):TE:=λσ H Q=>ta σ H λx H1=>tb σ H1 λy H2=>r x y H2 λz H3=>∃k,z = .bl k /\
 (if k=true then tc σ H3 λw' H4=>r' y w' H4 Q else Q (.bl false) H3)
theorem abd{op op':CmpOp}{r r':R2}(ho:bY X (compareOp op) r)(ho':bY X (compareOp op') r')(ha:PE X a ta)(hb:PE X b tb)(hc:PE X c tc)(hm:lastMarks [op,op'] [b,c]=false:=by with_unfolding_all rfl):PE X (.Compare a [op,op'] [b,c] pos) (RN r r' ta tb tc):=by
 intro pins s σ H Q I h;refine Compare_chain (aM (ha pins s σ H _ I h) λv s1 ⟨x,H1,I1,r1,q1⟩=>chain_link (aM (hb pins s1 σ H1 _ I1 q1) λu s2 ⟨y,H2,I2,r2,q2⟩ =>
  aM (ho pins s2 σ H2 x y v u _ I2 r1 r2 q2) λd s3 ⟨z,H3,I3,r3,k,e,q3⟩=>?_)) hm
 subst e;cases r3;refine jB ?_;cases k with
 |false=>exact ite_ff ⟨.bl false,H3,I3,rfl,q3⟩
 |true=>exact ite_tt (chain_last (aM (hc pins s3 σ H3 _ I3 q3) λw' s4 ⟨z',H4,I4,r4,q4⟩=>ho' pins s4 σ H4 y z' u w' Q I4 r2 r4 q4))
theorem abG{op op':CmpOp}{r r':R2}(ho:bY X (compareOp op) r)(ho':bY X (compareOp op') r')(ha:PE X a ta)(hb:PE X b tb)(hc:PE X c tc)(hm:lastMarks [op,op'] [b,c]=false:=by with_unfolding_all rfl):PT X (.Compare a [op,op'] [b,c] pos) (RW (RN r r' ta tb tc)):=by
 intro pins s σ H Q I h;refine isTrue_chain (aM (ha pins s σ H _ I h) λv s1 ⟨x,H1,I1,r1,q1⟩=>test_link (aM (hb pins s1 σ H1 _ I1 q1) λu s2 ⟨y,H2,I2,r2,q2⟩ =>
  aM (ho pins s2 σ H2 x y v u _ I2 r1 r2 q2) λd s3 ⟨z,H3,I3,r3,k,e,q3⟩=>?_)) hm
 subst e;cases r3;refine jB ?_;cases k with
 |false =>
  obtain⟨k',e',q'⟩:=q3;cases e';exact ite_ff ⟨H3,I3,q'⟩
 |true =>
  refine ite_tt (test_last (aM (hc pins s3 σ H3 _ I3 q3) λw' s4 ⟨z',H4,I4,r4,q4⟩=>aM (ho' pins s4 σ H4 y z' u w' _ I4 r2 r4 q4) λd' s5 aW=>?_));obtain⟨z2,H5,I5,r5,k2,e2,q5⟩:=aW;subst e2;cases r5;exact jB ⟨H5,I5,q5⟩
theorem vx:(sizeLine:Nat)<2 ^ 63:=by rw[yw];decide
theorem vals1{x:V}{us:List Value}(r:Vals [x] us):∃u,us = [u]/\RelV x u:=by
 cases r with
 |cons r1 r2=>cases r2;exact⟨_,rfl,r1⟩
theorem JN:dz X (.type "int") (λxs H Q=>(∃i,xs = [.int i]/\Q (.int i) H)\/∃k,xs = [.bl k]/\Q (.int (if k then 1 else 0)) H):=by
 intro pins s σ H xs us Q I r h
 rcases h with⟨i,rfl,q⟩|⟨k,rfl,q⟩
 ·obtain⟨u,rfl,t,rfl⟩:=vals1 r
  exact call_int_int ⟨.int i,H,I,⟨_,rfl⟩,q⟩
 ·obtain⟨u,rfl,r1⟩:=vals1 r
  cases r1;exact call_int_bool ⟨.int (if k then 1 else 0),H,I.tok _,⟨_,rfl⟩,q⟩
end
structure ou (h:Heap) (x dx C:Addr) (mA:Str->Option Value):Prop where
 obj:h.get? x=some (W.instObj C dx)
 ns:h.Ns1 dx mA
 ne:dx≠x
theorem N1{h:Heap}{dx:Addr}{mA:Str->Option Value}(n:h.Ns1 dx mA):∃od,h.get? dx=some od/\∀name,W.lookIn name od=some (mA name):=by
 obtain⟨o,es,ep,ho,hd,hk,_,hm⟩:=n;refine⟨o,ho,λname=>?_⟩;have e:=hm name;unfold nsFind findBy at e;rw[<- Array.find?_toList]at e;unfold W.lookIn;rw[hd];dsimp only
 split
 ·rename_i y q
  rw[q]at e;exact congrArg some e
 ·rename_i q
  rw[q]at e;have a:es.toList.any (·.refKey)=false:=by
   rw[Hz];intro y hy;obtain⟨z,t,hkey⟩:=hk y (Array.mem_toList_iff.mp hy);simp[DictEntry.refKey,hkey]
  have a':¬ es.toList.any (·.refKey)=true:=by rw[a];exact Bool.false_ne_true
  rw[if_neg a'];exact congrArg some e
theorem ou.look{h:Heap}{x dx C:Addr}{mA:Str->Option Value}(I:ou h x dx C mA):∃od,W.InstAt h x (W.instObj C dx) C (some od)/\∀name,W.lookIn name od=some (mA name):=
 let⟨od,ho,hl⟩:=N1 I.ns
 ⟨od,⟨I.obj,rfl,rfl,ho⟩,hl⟩
section
variable {prog:Program} {w:World} {A:Around} {E:Value->Shared->Prop} {s:Shared} {K:W.Frag} {x dx C f:Addr} {mA:Str->Option Value} {name:Str} {v:Value}
theorem get_map{expr:Bool}{Q:Value->Shared->Prop}(X:K.In s.heap)(I:ou s.heap x dx C mA)(hg:W.plainGet K C name=true)(hh:W.hasDictIn K C=true)
  (ha:W.findIn K (.ref C) name=some none) (hv:mA name=some v) (hv':W.handedIn v=true) (h:Q v {s with toks:=s.toks+1}) :
  wpAny (model prog w) A (getAttr (.ref x) name expr) Q E s:=by
 obtain⟨od,J,hl⟩:=I.look;exact W.get_value X J (W.plainGet_of hg).1 (W.findObj_own hh ha rfl (by rw[hl,hv])) hv' h
theorem aco{ns:List Str}{Q:Unit->Shared->Prop}(X:K.In s.heap)(I:ou s.heap x dx C mA)
  (hs:W.findIn K (.ref C) "__setattr__" = some (some (.builtin "object.__setattr__"))) (hp:W.plainOver K C=true) (ht:W.takerIn K C name=some none) (hh:W.hasDictIn K C=true)
  (hw:PySem.Within mA ns) (hsz:ns.length<=sizeLine)
  (h:∀h',ou h' x dx C (λy=>if y=name then some v else mA y)->Heap.SameBut dx s.heap h'->Q () {s with heap:=h',toks:=s.toks+2}) :
  wpAny (model prog w) A (setAttr (.ref x) name v) Q E s:=by
 obtain⟨od,J,hl⟩:=I.look;refine W.set_plain X J hs (W.osa_open (s:={s with toks:=s.toks+1}) (r:=none) X J hp ht λb=>?_);obtain⟨cd,hc,hd'⟩:=W.any_some hh;have hx:s.heap.get? x=some ⟨.ref C,some dx,.plain,#[]⟩:=I.obj;refine ai (aJ (ai (ai (wpAny_loadPart hx (ai (W.Looks.here (s:={s with toks:=s.toks+1}) (W.looks_clsIn X hc) ?_))))));rw[hd'];refine aJ (a:=some dx) (ai (aJ (ai ?_)));refine wpAny_nsSet1 (s:={s with toks:=s.toks+1}) I.ns λh' hn2 hs2=>?_;obtain⟨oD,esD,epD,hoD,hdD,hcD⟩:=hn2.count (PySem.Within.cons name v hw);refine ai (wpAny_lookBehind hoD (by rw[hdD];exact pastItsLine_dict (ck hcD (by rw[jZ];omega))) ?_);exact aJ (h _ ⟨(hs2.2 _ (bP I.ne)).trans I.obj,hn2,I.ne⟩ hs2)
theorem YS{R:Result->Shared->Prop}{vs:List Value}{kw:List (Str × Value)}(X:K.In s.heap)(hm:W.makesIn K C=true)
  (hi:W.findIn K (.ref C) "__init__" = some (some (.ref f))) (hf:W.typeIn K (.ref f)=some (.type "function"))
  (h:codeAny (model prog w) (A.under (.builtin "type.__call__" ⟨.ref C::vs,kw⟩)) (.call (.ref f) ⟨.ref (s.heap.objs.size+1)::vs,kw⟩) (W.InitBack (s.heap.objs.size+1) R)
   {s with heap:=(s.heap.push W.emptyDict).push (W.instObj C s.heap.objs.size)}) :
  codeAny (model prog w) A (.call (.ref C) ⟨vs,kw⟩) R s:=by
 obtain⟨hh,g,d,t,os⟩:=s;exact W.make_core (W.makes_of X hm) (W.looks_findIn X hi) (λself=>W.bind_fn X self hf) (.inl rfl) h
end
noncomputable def cj (f:Str) (v:V):List (Str × V)->List (Str × V)
 | []=>[(f,v)]
 | (g,x)::r=>if g=f then(g,v)::r else(g,x)::cj f v r
theorem ig(f g:Str)(v:V):∀fs:List (Str × V),(cj f v fs).lookup g=if g=f then some v else fs.lookup g
 | []=>by
  show List.lookup g [(f,v)]=_
  by_cases h:g=f
  ·have hb:(g==f)=true:=gR.mpr h
   simp only[List.lookup,hb,if_pos h]
  ·have hb:(g==f)=false:=jD.mpr h
   simp only[List.lookup,hb,if_neg h]
 | (k,x)::r=>by
  have ih:=ig f g v r;rw[show cj f v ((k,x)::r)=(if k=f then(k,v)::r else(k,x)::cj f v r)from rfl]
  by_cases hk:k=f
  ·rw[if_pos hk]
   by_cases h:g=k
   ·have hb:(g==k)=true:=gR.mpr h
    simp only[List.lookup,hb,if_pos (h.trans hk)]
   ·have hb:(g==k)=false:=jD.mpr h
    simp only[List.lookup,hb,if_neg (λe:g=f=>h (e.trans hk.symm))]
  ·rw[if_neg hk]
   by_cases h:g=k
   ·have hb:(g==k)=true:=gR.mpr h
    simp only[List.lookup,hb,if_neg (λe:g=f=>hk (h.symm.trans e))]
   ·have hb:(g==k)=false:=jD.mpr h
    simp only[List.lookup,hb];exact ih
theorem Dh(f:Str)(v:V):∀fs:List (Str × V),f∈(cj f v fs).map (·.1)/\∀g,g∈fs.map (·.1)->g∈(cj f v fs).map (·.1)
 | []=>⟨by simp[cj],λg h=>by simp at h⟩
 | (k,x)::r=>by
  obtain⟨i1,i2⟩:=Dh f v r;rw[show cj f v ((k,x)::r)=(if k=f then(k,v)::r else(k,x)::cj f v r)from rfl]
  by_cases hk:k=f
  ·rw[if_pos hk]
   subst hk;exact⟨by simp,λg h=>by simpa using h⟩
  ·rw[if_neg hk]
   refine⟨?_,λg h=>?_⟩
   ·rw[dr]
    exact b_ _ i1
   ·rw[dr]at h ⊢
    rcases bp.mp h with e|e
    ·exact bp.mpr (.inl e)
    ·exact b_ _ (i2 g e)
theorem pD(f:Str)(v:V):∀fs:List (Str × V),(cj f v fs).length<=fs.length+1
 | []=>by simp[cj]
 | (k,x)::r=>by
  have ih:=pD f v r;rw[show cj f v ((k,x)::r)=(if k=f then(k,v)::r else(k,x)::cj f v r)from rfl]
  by_cases hk:k=f
  ·rw[if_pos hk,jZ,jZ];omega
  ·rw[if_neg hk,jZ,jZ];omega
theorem gj.some_of{v:V}{o:Option Value}(r:gj (some v) o):∃u,o=some u/\RelV v u:=by
 cases o with
 |none=>exact(show False from r).elim
 |some u=>exact⟨u,rfl,r⟩
theorem L7{v:V}{u:Value}(r:RelV v u):W.handedIn u=true:=by
 cases v with
 |non=>cases(show u=Value.none from r);rfl
 |bl b=>cases(show u=Value.bool b from r);rfl
 |int i=>obtain⟨t,e⟩:=(show ∃t,u=Value.int i t from r);cases e;rfl
 |str x=>obtain⟨t,e⟩:=(show ∃t,u=Value.str x t from r);cases e;rfl
 |iE b=>obtain⟨t,e⟩:=(show ∃t,u=Value.bytes b t from r);cases e;rfl
 |flt b=>obtain⟨t,e⟩:=(show ∃t,u=Value.float b t from r);cases e;rfl
 |ref a=>cases(show u=Value.ref a from r);rfl
 |ty n=>cases(show u=Value.type n from r);rfl
section
variable {P:Program} {w:World} {H H':Hp} {h h':Heap} {a C dx:Addr} {fs fs':List (Str × V)}
theorem CT(hok:bL P w H h)(e:H a=some (.ins C dx fs)):∃mA,ou h a dx C mA/\(∀f,gj (fs.lookup f) (mA f))/\PySem.Within mA (fs.map (·.1))/\fs.length<=1000/\H dx=some (.own a):=by
 obtain⟨d,z,ne,ob,mA,n,r,q⟩:=(show bE P w H h a (.ins C dx fs)from hok a _ e);exact⟨mA,⟨ob,n,ne⟩,r,q,z,d⟩
end
structure Cls (K:W.Frag) (C:Addr):Prop where
 pg:W.plainGet K C Str.empty=true
 hd:W.hasDictIn K C=true
 po:W.plainOver K C=true
 sa:W.findIn K (.ref C) "__setattr__" = some (some (.builtin "object.__setattr__"))
theorem Cls.get{K:W.Frag}{C:Addr}(c:Cls K C)(f:Str):W.plainGet K C f=true:=c.pg
def iV(K:W.Frag)(C:Addr)(f:Str):Prop:=W.findIn K (.ref C) f=some none
theorem iV.taker{K:W.Frag}{C:Addr}{f:Str}(n:iV K C f):W.takerIn K C f=some none:=by
 unfold W.takerIn;rw[show W.findIn K (.ref C) f=some none from n];rfl
section
variable {X:Cx} {pins:List (Addr × Obj)} {σ:St} {H:Hp} {s:Shared} {a C dx:Addr} {fs:List (Str × V)} {f:Str} {v:V} {A:Around} {E:Value->Shared->Prop}
theorem VM{b:Bool}{Q:Value->Shared->Prop}(I:Inv X pins σ H s)(e:H a=some (.ins C dx fs))(c:Cls X.K C)(n:iV X.K C f)(l:fs.lookup f=some v)(h:∀u s',Inv X pins σ H s'->RelV v u->Q u s'):wpAny (model X.prog X.w) A (getAttr (.ref a) f b) Q E s:=by
 obtain⟨mA,O,r,_,_,_⟩:=CT I.hok e;obtain⟨u,hu,ru⟩:=gj.some_of (v:=v) (o:=mA f) (by rw[<- l];exact r f);exact get_map I.cw O (c.get f) c.hd n hu (L7 ru) (h u _ (I.tok _) ru)
theorem acp{y:V}{u:Value}{Q:Unit->Shared->Prop}(I:Inv X pins σ H s)(e:H a=some (.ins C dx fs))(c:Cls X.K C)(n:iV X.K C f)(hl:fs.length<1000)(ry:RelV y u)(h:∀s',Inv X pins σ (upd H a (.ins C dx (cj f y fs))) s'->Q () s'):wpAny (model X.prog X.w) A (setAttr (.ref a) f u) Q E s:=by
 obtain⟨mA,O,r,wi,_,ho⟩:=CT I.hok e;have hz:(fs.map (·.1)).length<=sizeLine:=by rw[az,yw];omega
 refine aco I.cw O c.sa c.po n.taker c.hd wi hz λh' O' sb=>h _ ?_;have hd:∃o,h'.get? dx=some o:=let⟨o,_,_,e',_⟩:=O'.ns;⟨o,e'⟩
 refine I.write (x:=a) (e:=dx) (by rw[e];exact True.intro) (.inr ho) (λb q hb z=>(sb.2 b hb).trans z) hd ?_;refine⟨by rw[aF O.ne];exact ho,?_,O.ne,O'.obj,_,O'.ns,λg=>?_,λg hg=>?_⟩
 ·have:=pD f y fs;omega
 ·show gj ((cj f y fs).lookup g) (if g=f then some u else mA g)
  rw[ig]
  by_cases q:g=f
  ·rw[if_pos q,if_pos q];exact ry
  ·rw[if_neg q,if_neg q];exact r g
 ·by_cases q:g=f
  ·rw[q];exact(Dh f y fs).1
  ·refine(Dh f y fs).2 g (wi g λz=>hg ?_)
   show(if g=f then some u else mA g)=none;rw[if_neg q];exact z
theorem Inv.made(I:Inv X pins σ H s):Inv X pins σ (upd (upd H s.heap.objs.size (.own (s.heap.objs.size+1))) (s.heap.objs.size+1) (.ins C s.heap.objs.size []))
  {s with heap:=(s.heap.push W.emptyDict).push (W.instObj C s.heap.objs.size)}:=by
 have e1:(s.heap.push W.emptyDict).get? s.heap.objs.size=some W.emptyDict:=cn s.heap rfl;have e2:((s.heap.push W.emptyDict).push (W.instObj C s.heap.objs.size)).get? (s.heap.objs.size+1)=some (W.instObj C s.heap.objs.size):=by
  have:=cn (s.heap.push W.emptyDict) (o:=W.instObj C s.heap.objs.size) rfl
  rwa [eK]at this
 have e3:(s.heap.push W.emptyDict).Ns s.heap.objs.size (λ_=>none):=⟨W.emptyDict,#[],_,e1,rfl,(λe he=>absurd he (by simp)),λ_=>rfl⟩;have I1:=I.laid (a:=s.heap.objs.size) (o:=.own (s.heap.objs.size+1)) (h':=s.heap.push W.emptyDict) (t':=s.toks) (λb u q=>aV _ q) (aY _) ⟨_,e1⟩;refine I1.laid (a:=s.heap.objs.size+1) (o:=.ins C s.heap.objs.size []) (t':=s.toks) (λb u q=>aV _ q) (Ih (eK _ _)) ?_;have ne:s.heap.objs.size≠s.heap.objs.size+1:=bB (qF _);refine⟨by rw[aF ne,au],dP _,ne,e2,λ_=>none,(Heap.Ns1.of_empty e3).at λo q=>aV _ q,λ_=>True.intro,λy hy=>absurd rfl hy⟩
theorem Jw{prog:Program}{w:World}{env:Env}{e:Expr}{f:Str}{pos:Pos}{s:Shared}{Q:Value->Shared->Prop}(hb:attributeBase e f env (eval e env)=eval e env)(h:wpAny (model prog w) A (eval e env) (λo s₁=>wpAny (model prog w) A (getAttr o f true) Q E s₁) E s):wpAny (model prog w) A (eval (.Attribute e f pos) env) Q E s:=
 Attribute_any_ h (by rw[arm_eval_Attribute,hb])
end
def RP(K:W.Frag)(ta:TE)(f:Str):TE:=λσ H Q=>ta σ H λx H1=>∃a C dx fs v,x = .ref a/\H1 a=some (.ins C dx fs)/\Cls K C/\iV K C f/\fs.lookup f=some v/\Q v H1
def P7(K:W.Frag)(ta tv:TE)(f:Str):TS:=λD σ H=>tv σ H λy H1=>ta σ H1 λx H2=>∃a C dx fs,x = .ref a/\H2 a=some (.ins C dx fs)/\Cls K C/\iV K C f/\fs.length<1000 /\
 D.nx σ (upd H2 a (.ins C dx (cj f y fs)))
section
variable {X:Cx} {o e value:Expr} {f:Str} {pos pos' tpos:Pos} {ta tv:TE}
theorem abg(he:PE X e ta)(hb:attributeBase e f X.env (eval e X.env)=eval e X.env):PE X (.Attribute e f pos) (RP X.K ta f):=by
 intro pins s σ H Q I h;refine Jw hb (aM (he pins s σ H _ I h) λu s1 aW=>?_);obtain⟨x,H1,I1,rx,a,C,dx,fs,v,ex,ea,c,n,l,q⟩:=aW;subst ex;obtain rfl:u=Value.ref a:=rx;exact VM I1 ea c n l λu' s2 I2 ru=>⟨v,H1,I2,ru,q⟩
theorem abA(ha:PE X o ta)(hv:PE X value tv)(hs:swapsWith value (some (.Attribute o f pos')) pos.line X.env=pure false):PS X (.Assign [.Attribute o f pos'] value pos) (P7 X.K ta tv f):=by
 intro pins s σ H D I h;refine Tc (aM (hv pins s σ H _ I h) λu s1 ⟨y,H1,I1,ry,q⟩=>aM (ha pins s1 σ H1 _ I1 q) λov s2 ⟨x,H2,I2,rx,a,C,dx,fs,ex,ea,c,n,l,q2⟩=>?_) hs;subst ex;obtain rfl:ov=Value.ref a:=rx;exact acp I2 ea c n l ry λs3 I3=>⟨σ,_,I3,q2⟩
end
section
variable {X:Cx} {pins:List (Addr × Obj)} {σ:St} {H:Hp} {s:Shared} {A:Around} {E:Value->Shared->Prop} {Q:Value->Shared->Prop} {c:Value} {b:Bool}
inductive gQ (K:W.Frag) (H:Hp):V->Value->Prop where
 |non:gQ K H .non (.type "NoneType")
 |bl (x:Bool):gQ K H (.bl x) (.type "bool")
 |int (i:Int):gQ K H (.int i) (.type "int")
 |str (x:Str):gQ K H (.str x) (.type "str")
 |flt (x:UInt64):gQ K H (.flt x) (.type "float")
 |lst {a:Addr} {xs:List V} (e:H a=some (.lst xs)):gQ K H (.ref a) (.type "list")
 |dH {a:Addr} {o:Obj} {xs:List V} (e:H a=some (.dH o (.lst xs))):gQ K H (.ref a) (.type "list")
 |tup {a:Addr} {xs:List V} (e:H a=some (.tup xs)):gQ K H (.ref a) (.type "tuple")
 |dK {a:Addr} {kvs:List (Key × V)} (e:H a=some (.dK kvs)):gQ K H (.ref a) (.type "dict")
 |dT {a:Addr} {kvs:List (List Key × V)} (e:H a=some (.dT kvs)):gQ K H (.ref a) (.type "dict")
 |ins {a C dx:Addr} {fs:List (Str × V)} (e:H a=some (.ins C dx fs)) (cl:Cls K C) (ha:W.findIn K (.ref C) "__class__" = some (some (.builtin "object.__class__")))
   (hn:W.specialIn K (.builtin "object.__class__") "__get__" = some (some (.builtin "getset_descriptor.__get__"))) (htk:W.takesIn K (.builtin "object.__class__")=some true)
   (hm:W.mroIn K C (.type "object")=some true):gQ K H (.ref a) (.ref C)
theorem X7{x:V}{u t:Value}(I:Inv X pins σ H s)(rx:RelV x u)(ty:gQ X.K H x t)(e:W.kitOne X.K t c=some b)(h:∀tk,Q (.bool b) {s with toks:=tk}):
  wpAny (model X.prog X.w) A (call (.builtin "isinstance") [u,c]) Q E s:=by
 cases ty with
 |non=>cases(show u=Value.none from rx);exact W.kia_one W.kitx_none I.cw True.intro e (λz=>nomatch z) h
 |bl y=>cases(show u=Value.bool y from rx);exact W.kia_one W.kitx_bool I.cw True.intro e (λz=>nomatch z) h
 |int i=>obtain⟨t,q⟩:=(show ∃t,u=Value.int i t from rx);cases q;exact W.kia_one W.kitx_int I.cw True.intro e (λz=>nomatch z) h
 |str y=>obtain⟨t,q⟩:=(show ∃t,u=Value.str y t from rx);cases q;exact W.kia_one W.kitx_str I.cw True.intro e (λz=>nomatch z) h
 |flt y=>obtain⟨t,q⟩:=(show ∃t,u=Value.float y t from rx);cases q;exact W.kia_one W.kitx_float I.cw True.intro e (λz=>nomatch z) h
 | @lst a xs ea =>
  cases(show u=Value.ref a from rx);obtain⟨_,_,n,_,h1⟩:=(show bE X.prog X.w H s.heap a (.lst xs)from I.hok a _ ea);exact W.kia_one W.kitx_list I.cw ⟨_,h1,rfl⟩ e (λz=>nomatch z) h
 | @dH a ob xs ea =>
  cases(show u=Value.ref a from rx);obtain⟨_,_,_,n,_,h1⟩:=(show bE X.prog X.w H s.heap a (.dH ob (.lst xs))from I.hok a _ ea);exact W.kia_one W.kitx_list I.cw ⟨_,h1,rfl⟩ e (λz=>nomatch z) h
 | @tup a xs ea =>
  cases(show u=Value.ref a from rx);obtain⟨_,_,_,p,_⟩:=(show bE X.prog X.w H s.heap a (.tup xs)from I.hok a _ ea);obtain⟨o,h1,h2,_⟩:=p;exact W.kia_one W.kitx_tuple I.cw ⟨o,h1,h2⟩ e (λz=>nomatch z) h
 | @dK a kvs ea =>
  cases(show u=Value.ref a from rx);obtain⟨_,_,vs,_,p⟩:=(show bE X.prog X.w H s.heap a (.dK kvs)from I.hok a _ ea);obtain⟨o,es,ep,h1,h2,_⟩:=p;exact W.kia_one W.kitx_dict I.cw ⟨o,h1,h2.1⟩ e (λz=>nomatch z) h
 | @dT a kvs ea =>
  cases(show u=Value.ref a from rx);obtain⟨_,_,xs,_,o,es,ep,h1,h2,_⟩:=(show bE X.prog X.w H s.heap a (.dT kvs)from I.hok a _ ea);exact W.kia_one W.kitx_dict I.cw ⟨o,h1,h2.1⟩ e (λz=>nomatch z) h
 | @ins a C dx fs ea cl ha hn htk hm =>
  cases(show u=Value.ref a from rx);obtain⟨mA,O,_⟩:=CT I.hok ea;obtain⟨od,J,_⟩:=O.look;exact W.kia_one (W.kitx_own (cl.get _) cl.hd ha hn htk hm) I.cw J e (λz=>nomatch z) h
end
structure bQ (k:Nat) (A:Around):Prop where
 hd:A.handled=none
 dp:A.depth+3*k+5<recursionLimit
 un:A.units+16*k+200<cLine
 gd:A.guards=some []
theorem bQ.mono{j k:Nat}{A:Around}(r:bQ k A)(h:j<=k):bQ j A:=⟨r.hd,by have:=r.dp;omega,by have:=r.un;omega,r.gd⟩
theorem bQ.deeper{k:Nat}{A:Around}(r:bQ (k+1) A)(env:Env):bQ k (A.deeper env):=
 ⟨r.hd,by have:=r.dp;show A.depth+1+3*k+5<_;omega,by have:=r.un;show A.units+3+16*k+200<_;omega,r.gd⟩
theorem YM {A:Around} {C:Addr} {us:List Value} {kw:List (Str × Value)}:(A.under (.builtin "type.__call__" ⟨.ref C::us,kw⟩)).depth=A.depth+1:=by
 first|rfl|simp[Around.under,Code.weight,Code.isCreation,Code.isGuard,Code.isCaller,Code.frames,Code.isFrame,guardIds]
theorem YT {A:Around} {C:Addr} {us:List Value} {kw:List (Str × Value)}:(A.under (.builtin "type.__call__" ⟨.ref C::us,kw⟩)).units=A.units+1:=by
 first|rfl|simp[Around.under,Code.cUnits,Code.frames,Code.isFrame]
theorem YQ {A:Around} {C:Addr} {us:List Value} {kw:List (Str × Value)}:(A.under (.builtin "type.__call__" ⟨.ref C::us,kw⟩)).guards=A.guards:=by
 first|rfl | (cases h:A.guards<;>simp[Around.under,Code.guards,pushGuards,Code.isGuard,guardIds,h])
theorem bQ.make {k:Nat} {A:Around} (r:bQ (k+1) A) (C:Addr) (us:List Value) (kw:List (Str × Value)):bQ k (A.under (.builtin "type.__call__" ⟨.ref C::us,kw⟩)):=
 ⟨r.hd,by have:=r.dp;rw[YM];omega,by have:=r.un;rw[YT];omega,by rw[YQ];exact r.gd⟩
theorem bQ.depth{k:Nat}{A:Around}(r:bQ k A):A.depth<recursionLimit:=by have:=r.dp;omega
theorem bQ.units{k:Nat}{A:Around}(r:bQ k A):A.units+64<cLine:=by have:=r.un;omega
theorem bQ.adt{k:Nat}{A:Around}(r:bQ k A):A.units<cLine:=by have:=r.un;omega
def Hc:TA:=λ_ H Q=>Q [] H
def acN(ta:TE)(tr:TA):TA:=λσ H Q=>ta σ H λx H1=>tr σ H1 λxs H2=>Q (x::xs) H2
section
variable {X:Cx} {e:Expr} {es:List Expr} {te:TE} {t:TA} {pos:Pos}
theorem ag:PA X [] Hc:=λ_ _ _ _ H Q I h=>Iu ⟨[],H,I,.nil,h⟩
theorem ae(ha:PE X e te)(hr:PA X es t)(hs:starEach (e::es) X.env=(false,eval e X.env)::starEach es X.env:=by rfl):PA X (e::es) (acN te t):=by
 intro pos pins s σ H Q I h;rw[hs];show wpAny _ _ (spliced ((false,eval e X.env)::backTo pos (starEach es X.env))) _ _ s;refine Ir (aM (ha pins s σ H _ I h) λu s1 aW=>?_);obtain⟨x,H1,I1,r1,q1⟩:=aW;exact aM (hr pos pins s1 σ H1 _ I1 q1) λus s2 ⟨xs,H2,I2,r2,q2⟩=>⟨x::xs,H2,I2,.cons r1 r2,q2⟩
def ac8(t:TA):TE:=λσ H Q=>t σ H λxs H1=>xs.length<=sizeLine/\∀p,H1 p=none->Q (.ref p) (upd H1 p (.tup xs))
def acW(t:TA):TE:=λσ H Q=>t σ H λxs H1=>xs.length<=sizeLine/\∀p,H1 p=none->Q (.ref p) (upd H1 p (.lst xs))
theorem fP{x1}(h:PA X es t):PE X (.Tuple es x1 pos) (ac8 t):=by
 intro pins s σ H Q I hq;refine wpAny_Tuple_spliced (aM (h pos pins s σ H _ I hq) λus s1 ⟨xs,H1,I1,r,z,q⟩=>⟨by rw[<- r.length];exact z,?_⟩);have hf:H1 s1.heap.objs.size=none:=I1.hok.fresh (aY _);refine⟨.ref s1.heap.objs.size,upd H1 s1.heap.objs.size (.tup xs),I1.laid (t':=s1.toks) (λb u e=>aV _ e) (aY _) ?_,rfl,q _ hf⟩;exact⟨z,us,r,⟨_,cn _ rfl,rfl,_,rfl⟩,_,cn _ rfl,rfl⟩
theorem bU(h:PA X es t):PE X (.List es pos) (acW t):=by
 intro pins s σ H Q I hq;refine wpAny_List_spliced (aM (h pos pins s σ H _ I hq) λus s1 ⟨xs,H1,I1,r,z,q⟩=>⟨by rw[<- r.length];exact z,?_⟩);have hf:H1 s1.heap.objs.size=none:=I1.hok.fresh (aY _);refine⟨.ref s1.heap.objs.size,upd H1 s1.heap.objs.size (.lst xs),I1.laid (t':=s1.toks) (λb u e=>aV _ e) (aY _) ?_,rfl,q _ hf⟩;exact⟨z,us,0,r,cn _ rfl⟩
end
abbrev Sp:=List V->Hp->VK->XK->Prop
abbrev gM:=List Env->Hp->Shared->XK->Value->Shared->Prop
structure jt (P:Program) (w:World) (K:W.Frag) (mg:Str->Option Value) (base:Heap) (A:Around) (outer:List Env) (s:Shared) (H:Hp):Prop where
 frames:A.frames=some outer
 mod:Mod K mg base
 bs:∀b o,base.get? b=some o->s.heap.get? b=some o/\H b=none
 eU:base.objs.size<=s.heap.objs.size
 eJ:s.heap.FunFrames base outer
 gU:∀b∈frs outer,H b=none
 hok:bL P w H s.heap
 bare:AllBare s.gens
def CE(outer:List Env)(P:Program)(w:World)(H:Hp)(s:Shared)(Q:VK)(u:Value)(s':Shared):Prop:=
 ∃v H',s'.os=s.os/\AllBare s'.gens/\Un (frs outer) [] H H' s.heap s'.heap/\bL P w H' s'.heap/\RelV v u/\Q v H'
noncomputable def CR (CX:gM) (outer:List Env) (P:Program) (w:World) (H:Hp) (s:Shared) (Q:VK) (E:XK) (r:Result) (s':Shared):Prop:=
 match r with
 |.ok (.ret u)=>CE outer P w H s Q u s'
 |.ok _=>False
 |.error e=>CX outer H s E e s'
structure aN (P:Program) (w:World) (K:W.Frag) (mg:Str->Option Value) (base:Heap) (CX:gM) (k:Nat) (f:Addr) (fd:FuncData) (ps:List Str) (sp:Sp):Prop where
 len:∀vs H Q E,sp vs H Q E->vs.length=ps.length
 run:∀(A:Around) (outer:List Env) (s:Shared) (H:Hp) (args:Args) (us:List Value) (vs:List V) (Q:VK) (E:XK),bQ k A->jt P w K mg base A outer s H->BindsTo s fd args (ps.zip us)->Vals vs us->sp vs H Q E ->
  codeAny (model P w) A (.call (.ref f) args) (CR CX outer P w H s Q E) s
theorem aN.mono{P:Program}{w:World}{K:W.Frag}{mg:Str->Option Value}{base:Heap}{CX:gM}{j k:Nat}{f:Addr}{fd:FuncData}{ps:List Str}{sp:Sp}(F:aN P w K mg base CX j f fd ps sp)(h:j<=k):aN P w K mg base CX k f fd ps sp:=⟨F.len,λA outer s H args us vs Q E hr=>F.run A outer s H args us vs Q E (hr.mono h)⟩
theorem jt.make{P:Program}{w:World}{K:W.Frag}{mg:Str->Option Value}{base:Heap}{A:Around}{outer:List Env}{s:Shared}{H:Hp}(e:jt P w K mg base A outer s H)(C:Addr)(us:List Value)(kw:List (Str × Value)):
  jt P w K mg base (A.under (.builtin "type.__call__" ⟨.ref C::us,kw⟩)) outer s H:=⟨by first|exact e.frames | (simpa[Around.under,Code.envs,Code.isFrame,pushEnvs]using e.frames),e.mod,e.bs,e.eU,e.eJ,e.gU,e.hok,e.bare⟩
section
variable {X:Cx} {pins:List (Addr × Obj)} {σ:St} {H:Hp} {s s':Shared}
theorem Inv.env0(I:Inv X pins σ H s):jt X.prog X.w X.K X.mg X.base X.A X.stack s H:=
 ⟨I.ok.frames,I.ok.mod,I.bs,ck I.ok.eU I.sz,I.stack,I.nF,I.hok,I.bare⟩
theorem Inv.after{Q:VK}{u:Value}(I:Inv X pins σ H s)(h:CE X.stack X.prog X.w H s Q u s'):EP X pins σ Q u s':=by
 obtain⟨v,H',os,bare,un,hok,r,q⟩:=h;obtain⟨hh,g,d,t,os'⟩:=s';obtain rfl:os'=s.os:=os;exact⟨v,H',I.call (h':=hh) (g':=g) (d':=d) (t':=t) (ch:=[]) un hok bare (λb z=>absurd z (by simp)),r,q⟩
end
def qf(sp:Sp)(d9:List V)(E:XK)(t:TA):TE:=λσ H Q=>t σ H λvs H1=>sp (vs++d9) H1 Q E
def RQ(C:Addr)(sp:Sp)(d9:List V)(E:XK)(t:TA):TE:=λσ H Q=>t σ H λvs H1=>∀x dx,H1 x=none->H1 dx=none->dx≠x ->
 sp (.ref x::(vs++d9)) (upd (upd H1 dx (.own x)) x (.ins C dx [])) (λv H2=>v = .non/\Q (.ref x) H2) E
def Binds(K:W.Frag)(fd:FuncData)(ps:List Str)(ds:List Value):Prop:=
 ∀(s:Shared) (us:List Value),K.In s.heap->(us++ds).length=ps.length->BindsTo s fd ⟨us,[]⟩ (ps.zip (us++ds))
theorem Binds.all{K:W.Frag}{fd:FuncData}{ps:List Str}(h:∀us:List Value,us.length=ps.length->bindArgs fd ⟨us,[]⟩=pure (ps.zip us)):Binds K fd ps []:=λs us _ hl=>by
 rw[iA]at hl ⊢;exact .of_eq (h us hl)
def Passes(CX:gM)(X:Cx)(E:XK):Prop:=∀(pins:List (Addr × Obj)) (σ:St) (H:Hp) (s:Shared) (e:Value) (s':Shared),Inv X pins σ H s->CX X.stack H s E e s'->X.xe e s'
section
variable {X:Cx} {CX:gM} {k:Nat} {f C:Addr} {fd:FuncData} {ps:List Str} {sp:Sp} {d9:List V} {ds:List Value} {E:XK} {x m:Str} {p pos apos:Pos} {e o:Expr} {es:List Expr} {ta:TE} {t:TA}
theorem PX{pins:List (Addr × Obj)}{σ:St}{H:Hp}{s:Shared}{Q:VK}{us:List Value}{vs:List V}(F:aN X.prog X.w X.K X.mg X.base CX k f fd ps sp)(hr:bQ k X.A)(hb:Binds X.K fd ps ds)(hd:Vals d9 ds)(hx:Passes CX X E)(I:Inv X pins σ H s)(r:Vals vs us)(h:sp (vs++d9) H Q E):wpAny (model X.prog X.w) X.A (call (.ref f) us) (EP X pins σ Q) X.xe s:=by
 have r2:Vals (vs++d9) (us++ds):=r.append hd;have hl:(us++ds).length=ps.length:=by rw[<- r2.length];exact F.len _ _ _ _ h
 refine k_ (j4 (F.run X.A X.stack s H ⟨us,[]⟩ (us++ds) (vs++d9) Q E hr I.env0 (hb s us I.cw hl) r2 h) λr s' hq=>?_);cases r with
 |error e=>exact hx pins σ H s e s' I hq
 |ok fl =>
  cases fl with
  |ret u=>exact I.after hq
  |next=>exact False.elim hq
  |brk=>exact False.elim hq
  |cont=>exact False.elim hq
theorem Pa(F:aN X.prog X.w X.K X.mg X.base CX k f fd ps sp)(hr:bQ k X.A)(hg:Gl X x)(hm:X.mg x=some (.ref f))(hk:W.keepIn X.K (.ref f)=true)(hb:Binds X.K fd ps ds)(hd:Vals d9 ds)(hx:Passes CX X E)
  (ha:PA X (e::es) t) (hdb:(x==("__debug__" : Str))=false:=by decide) (he:starEach (e::es) X.env=(false,eval e X.env)::starEach es X.env:=by rfl) (hpl:(backTo pos (starEach es X.env)).any (·.1)=false:=by rfl) :
  PE X (.Call (.Name x p) (e::es) [] pos) (qf sp d9 E t):=by
 intro pins s σ H Q I h;refine mH (ku I hg hm ?_ hdb);refine W.callWith_K (h₀:=X.base) I.ok.mod.jf hk (aM (ha pos pins s σ H _ I h) λus s1 ⟨vs,H1,I1,r,q⟩=>⟨I1.cw,?_⟩) he hpl;exact PX F hr hb hd hx I1 r q
theorem aa9(F:aN X.prog X.w X.K X.mg X.base CX k f fd ps sp)(hr:bQ k X.A)(hg:Gl X x)(hm:X.mg x=some (.ref f))(hk:W.keepIn X.K (.ref f)=true)(hb:Binds X.K fd ps ds)(hd:Vals d9 ds)(hx:Passes CX X E)
  (hdb:(x==("__debug__" : Str))=false:=by decide):PE X (.Call (.Name x p) [] [] pos) (qf sp d9 E Hc):=by
 intro pins s σ H Q I h;refine mH (ku I hg hm ?_ hdb);exact W.callWith_K0 I.cw hk (PX (us:=[]) F hr hb hd hx I .nil h)
structure Mk (K:W.Frag) (C f:Addr):Prop where
 makes:W.makesIn K C=true
 init:W.findIn K (.ref C) "__init__" = some (some (.ref f))
 fn:W.isFn K (.ref f)=true
 kp:W.keepIn K (.ref C)=true
theorem aci{pins:List (Addr × Obj)}{σ:St}{H:Hp}{s:Shared}{Q:VK}{us:List Value}{vs:List V}(M:Mk X.K C f)(F:aN X.prog X.w X.K X.mg X.base CX k f fd ps sp)(hr:bQ (k+1) X.A)(hb:Binds X.K fd ps ds)(hd:Vals d9 ds)(hx:Passes CX X E)(I:Inv X pins σ H s)(r:Vals vs us)(h:∀x dx,H x=none->H dx=none->dx≠x->sp (.ref x::(vs++d9)) (upd (upd H dx (.own x)) x (.ins C dx [])) (λv H2=>v = .non/\Q (.ref x) H2) E):wpAny (model X.prog X.w) X.A (call (.ref C) us) (EP X pins σ Q) X.xe s:=by
 have hq:=h (s.heap.objs.size+1) s.heap.objs.size (I.hok.fresh (qE _)) (I.hok.fresh (aY _)) (bB (qF _));have I2:=Inv.made (C:=C) I;have r2:Vals (V.ref (s.heap.objs.size+1)::(vs++d9)) (Value.ref (s.heap.objs.size+1)::(us++ds)):=.cons rfl (r.append hd);have hl:(Value.ref (s.heap.objs.size+1)::us++ds).length=ps.length:=by
  have e:=r2.length;rw[F.len _ _ _ _ hq]at e;exact e.symm
 refine k_ (YS (f:=f) I.cw M.makes M.init (gR.mp M.fn) (j4 (F.run _ X.stack _ _ ⟨Value.ref (s.heap.objs.size+1)::us,[]⟩ (Value.ref (s.heap.objs.size+1)::(us++ds)) _ _ E (hr.make C us [])
  (I2.env0.make C us []) (hb _ (Value.ref (s.heap.objs.size+1)::us) I2.cw hl) r2 hq) λr s' hq'=>?_))
 cases r with
 |error e=>exact hx pins σ _ _ e s' I2 hq'
 |ok fl =>
  cases fl with
  |ret u =>
   obtain⟨v,H',I3,rv,ev,q3⟩:=I2.after hq';subst ev;exact⟨rv,⟨V.ref (s.heap.objs.size+1),H',I3,rfl,q3⟩⟩
  |next=>exact False.elim hq'
  |brk=>exact False.elim hq'
  |cont=>exact False.elim hq'
theorem abj(M:Mk X.K C f)(F:aN X.prog X.w X.K X.mg X.base CX k f fd ps sp)(hr:bQ (k+1) X.A)(hg:Gl X x)(hm:X.mg x=some (.ref C))(hb:Binds X.K fd ps ds)(hd:Vals d9 ds)(hx:Passes CX X E)
  (ha:PA X (e::es) t) (hdb:(x==("__debug__" : Str))=false:=by decide) (he:starEach (e::es) X.env=(false,eval e X.env)::starEach es X.env:=by rfl) (hpl:(backTo pos (starEach es X.env)).any (·.1)=false:=by rfl) :
  PE X (.Call (.Name x p) (e::es) [] pos) (RQ C sp d9 E t):=by
 intro pins s σ H Q I h;refine mH (ku I hg hm ?_ hdb);refine W.callWith_K (h₀:=X.base) I.ok.mod.jf M.kp (aM (ha pos pins s σ H _ I h) λus s1 ⟨vs,H1,I1,r,q⟩=>⟨I1.cw,?_⟩) he hpl;exact aci M F hr hb hd hx I1 r q
end
section
variable {X:Cx} {CX:gM} {k:Nat} {f C:Addr} {fd:FuncData} {ps ks:List Str} {sp:Sp} {E:XK} {x m:Str} {p pos apos kpos:Pos} {e o:Expr} {es:List Expr} {kws:List Keyword} {te ta:TE} {t tk:TA} {nm:Option Str}
variable {g:List Value->List Value->List Value} {gV:List V->List V->List V}
end
structure a_ (N P:List Str) (sc:Scope):Prop where
 kind:sc.kind = .function
 co:sc.isCoroutine=false
 gen:sc.isGenerator=false
 nd:N.Nodup
 pre:N.take P.length=P
 par:∀x∈P,sc.names.lookup x=some .local\/sc.names.lookup x=some .cell
 Zx:∀y∈sc.names,y.2≠.free
theorem JC{kindOf:Str->Option NameKind}{x:Str}:∀{binds:List (Str × Value)} {m:Str->Option Value},(∀v,(x,v) ∉ binds)->bindL kindOf binds m x=m x
 | [],_,_=>rfl
 | (n,v)::r,m,h=>by
  unfold bindL;rw[JC λw hw=>h w (b_ _ hw)]
  split
  ·have:x≠n:=by rintro rfl;exact h v bX
   simp[this]
  ·rfl
theorem Jz{kindOf:Str->Option NameKind}{x:Str}:∀{binds:List (Str × Value)} {m:Str->Option Value},(∀v,(x,v) ∉ binds)->bindC kindOf binds m x=m x
 | [],_,_=>rfl
 | (n,v)::r,m,h=>by
  unfold bindC;rw[Jz λw hw=>h w (b_ _ hw)]
  split
  ·rfl
  ·have:x≠n:=by rintro rfl;exact h v bX
   simp[this]
theorem JB{kindOf:Str->Option NameKind}{x:Str}{v:Value}:∀{P:List Str} {vs:List Value} {i:Nat} {m:Str->Option Value},P.Nodup->P[i]?=some x->vs[i]?=some v->kindOf x=some .local->bindL kindOf (P.zip vs) m x=some v
 | [],_,_,_,_,h,_,_=>by simp at h
 |_::_,[],_,_,_,_,h,_=>by simp at h
 |p::P,w::vs,0,m,nd,h1,h2,hk=>by
  simp at h1 h2;subst h1;subst h2;show bindL kindOf ((p,w)::P.zip vs) m p=_;unfold bindL;rw[JC λv hv=>(iT.mp nd).1 (xY hv).1,if_pos hk];simp
 |p::P,w::vs,i+1,m,nd,h1,h2,hk=>by
  show bindL kindOf ((p,w)::P.zip vs) m x=_;unfold bindL;exact JB (i:=i) (iT.mp nd).2 (by simpa using h1) (by simpa using h2) hk
theorem Jy{kindOf:Str->Option NameKind}{x:Str}{v:Value}:∀{P:List Str} {vs:List Value} {i:Nat} {m:Str->Option Value},P.Nodup->P[i]?=some x->vs[i]?=some v->kindOf x≠some .local->bindC kindOf (P.zip vs) m x=some v
 | [],_,_,_,_,h,_,_=>by simp at h
 |_::_,[],_,_,_,_,h,_=>by simp at h
 |p::P,w::vs,0,m,nd,h1,h2,hk=>by
  simp at h1 h2;subst h1;subst h2;show bindC kindOf ((p,w)::P.zip vs) m p=_;unfold bindC;rw[Jz λv hv=>(iT.mp nd).1 (xY hv).1,if_neg hk];simp
 |p::P,w::vs,i+1,m,nd,h1,h2,hk=>by
  show bindC kindOf ((p,w)::P.zip vs) m x=_;unfold bindC;exact Jy (i:=i) (iT.mp nd).2 (by simpa using h1) (by simpa using h2) hk
noncomputable def start (N:List Str) (vs:List V):St:=vs.map some++List.replicate (N.length - vs.length) none
noncomputable def cI (CX:gM) (P:Program) (w:World) (K:W.Frag) (mg:Str->Option Value) (base:Heap) (N:List Str) (qual:Str) (scope:Scope) (f:Addr) (cd:Value) (A:Around) (outer:List Env) (s:Shared) (H:Hp) (E:XK):Cx where
 prog:=P
 w:=w
 K:=K
 mg:=mg
 base:=base
 A:=A.deeper (envOfC qual scope s.heap.objs.size f cd)
 N:=N
 s₀:=s
 H₀:=H
 env:=envOfC qual scope s.heap.objs.size f cd
 outer:=outer
 stack:=envOfC qual scope s.heap.objs.size f cd::outer
 ex:=[]
 calm:=true
 fn:=λ_=>true
 pn:=[]
 xe:=λe s'=>wpAny (model P w) (A.deeper (envOfC qual scope s.heap.objs.size f cd)) (leaving (envOfC qual scope s.heap.objs.size f cd) e) (λ_ s''=>CX outer H s E e s'') (λe' s''=>CX outer H s E e' s'') s'
theorem JT{sc:Scope}{n:Nat}{x:Str}(h:sc.names.lookup x=some .cell):∃c,(cellsFrom n sc.names []).lookup x=some c:=by
 have q:=W.cellsFrom_some sc.names n [] (.inl h);exact Option.isSome_iff_exists.mp q
theorem XZ{CX:gM}{P:Program}{w:World}{K:W.Frag}{mg:Str->Option Value}{base:Heap}{N ps:List Str}{qual:Str}{scope:Scope}{f:Addr}{cd:Value}{A:Around}{outer:List Env}{s s1:Shared}{H:Hp}{E:XK}{us:List Value}{vs:List V}(S:a_ N ps scope)(hd:A.handled=none)(e0:jt P w K mg base A outer s H)(hl:vs.length=ps.length)(r:Vals vs us)(x:InCallC s s.heap.objs.size (bindL (envOfC qual scope s.heap.objs.size f cd).kindOf (ps.zip us) λ_=>none) (cellsFrom (s.heap.objs.size+1) scope.names []) (bindC (envOfC qual scope s.heap.objs.size f cd).kindOf (ps.zip us) λ_=>none) s1):Inv (cI CX P w K mg base N qual scope f cd A outer s H E) [] (start N vs) H s1:=by
 have hpl:ps.length<=N.length:=by have:=congrArg List.length S.pre;rw[mC]at this;omega
 obtain⟨h1,tk,rfl,hk⟩:=x.done;have ky:∀b:Addr,b ∉ (cI CX P w K mg base N qual scope f cd A outer s H E).ex:=λb z=>absurd (show b∈([]:List Addr)from z) (by simp);refine⟨⟨e0.mod,S.kind,rfl,rfl,aY _,λy z c h1 h2=>?_,λy hy=>?_,λy c _ h=>?_,λ_=>hd,Around.frames_deeper e0.frames,.inr ⟨rfl,rfl⟩,λb z=>absurd z (ky b),e0.bs,e0.eU,λb _ _=>ky b,λb z=>absurd z (ky b),e0.eJ,e0.gU⟩,
  rfl,e0.bare,Un.kept hk,⟨_,x.toInCall.ns,λi y v h1 h2 h3=>?_⟩,λy c h=>⟨_,x.cell y c h⟩,e0.hok.fresh (aY _),λy c h=>?_,λp hp=>absurd (show p∈([]:List (Addr × Obj))from hp) (by simp),e0.hok.kept hk,?_⟩
 ·exact name_of_addr x.apart (iD h1) (iD h2)
 ·have hy:scope.names.lookup y=some .cell\/scope.names.lookup y=some .free:=hy
  rcases hy with hy|hy
  ·exact JT hy
  ·exact absurd rfl (S.Zx _ (iD hy))
 ·exact fD (x.above y c (iD h))
 ·have hi:i<vs.length:=by
   unfold start at h2
   by_cases hi:i<vs.length
   ·exact hi
   ·rw[iR (by simpa using hi)]at h2
    rw[HS]at h2
    split at h2<;>cases h2
  have ha:vs[i]?=some v:=by
   unfold start at h2;rw[jw (by simpa using hi),bW]at h2;cases e:vs[i]? with
   |none=>rw[e]at h2;cases h2
   |some a=>rw[e]at h2;cases h2;rfl
  obtain⟨u,hu,rv⟩:=r.get ha;have hp:ps[i]?=some y:=by
   rw[<- S.pre,SX (by omega)];exact h1
  have Og:ps.Nodup:=by rw[<- S.pre];exact S.nd.sublist (List.take_sublist _ _)
  refine⟨u,rv,?_⟩
  rcases S.par y (df hp)with k|k
  ·exact .inl ⟨k,JB Og hp hu k⟩
  ·obtain⟨c,e⟩:=JT (n:=s.heap.objs.size+1) k
   refine .inr ⟨.inl k,c,e,?_⟩;have q:=x.cell y c e;rw[Jy Og hp hu (by show scope.names.lookup y≠_;rw[k];decide)]at q;exact q
 ·exact e0.hok.fresh (fD (x.above y c (iD h)))
 ·unfold start
  show _=N.length;rw[cz,az,HX];omega
theorem BL{CX:gM}{P:Program}{w:World}{K:W.Frag}{mg:Str->Option Value}{base:Heap}{k:Nat}{f:Addr}{name qual:Str}{params:Arguments}{body:List Stmt}{scope:Scope}{dV kV doc pm cdv ct oc:Value}{an od:Option Addr}
  {osl:Array (Option Value)} {N ps:List Str} {sp:Sp} (lk:K.lookup f=some ⟨oc,od,.func (W.fnOf name qual params body scope dV kV doc pm an cdv ct),osl⟩) (hcd:W.codeIn K cdv qual=true) (S:a_ N ps scope)
  (len:∀vs H Q E,sp vs H Q E->vs.length=ps.length)
  (hbody:∀(A:Around) (outer:List Env) (s:Shared) (H:Hp) (vs:List V) (Q:VK) (E:XK),bQ k (A.deeper (envOfC qual scope s.heap.objs.size f cdv))->sp vs H Q E ->
   ∃t,fE (cI CX P w K mg base N qual scope f cdv A outer s H E) body t/\t {nx:=λ_ H'=>Q .non H',rt:=Q} (start N vs) H) :
  aN P w K mg base CX (k+1) f (W.fnOf name qual params body scope dV kV doc pm an cdv ct) ps sp:=by
 refine⟨len,λA outer s H args us vs Q E hr e0 hb r hsp=>?_⟩;have hl:=len _ _ _ _ hsp;have KX:K.In s.heap:=e0.mod.jf.keeps λb o e=>(e0.bs b o e).1;have lim:s.heap.NoLimit:=e0.mod.nolimit.keeps λb o e=>(e0.bs b o e).1;have hkind:∀y∈ps.zip us,scope.names.lookup y.1=some .local\/(scope.names.lookup y.1=some .cell/\((cellsFrom (s.heap.objs.size+1) scope.names []).lookup y.1).isSome=true):=λ⟨n,v⟩ hy=>by
  rcases S.par n (xY hy).1 with q|q
  ·exact .inl q
  ·exact .inr ⟨q,W.cellsFrom_some _ _ _ (.inl q)⟩
 refine codeAny_call_function hr.depth (KX _ _ lk) rfl S.co S.gen rfl (W.codeRec_of KX hcd) (hb _ _ _ _ ?_);refine wpAny_newFunctionEnv_cells S.kind hkind λenv he s1 x=>?_;subst he;refine⟨lim.keeps x.toInCall.keep,codeAny_func ?_⟩;obtain⟨t,ht,hq⟩:=hbody A outer s H vs Q E (hr.deeper _) hsp;have I:Inv (cI CX P w K mg base N qual scope f cdv A outer s H E) [] (start N vs) H s1:=XZ S hr.hd e0 hl r x;refine eI (ht [] s1 (start N vs) H _ I hq) (λfl s' hs=>?_) λe s' hs=>hs;have fin:∀{σ':St} {H':Hp} {v:V} {u:Value},Inv (cI CX P w K mg base N qual scope f cdv A outer s H E) [] σ' H' s'->RelV v u->Q v H'->CE outer P w H s Q u s':=
  λ{σ' H' v u} J rv q=>⟨v,H',J.os,J.bare,J.base,J.hok,rv,q⟩
 cases fl with
 |ret u =>
  obtain⟨v,σ',H',J,rv,q⟩:=hs;exact fin J rv q
 |next =>
  obtain⟨σ',H',J,q⟩:=hs;exact fin (v:=V.non) (u:=Value.none) J rfl q
 |brk =>
  obtain⟨_,_,_,q⟩:=hs;exact False.elim q
 |cont =>
  obtain⟨_,_,_,q⟩:=hs;exact False.elim q
section
variable {X:Cx} {x:Str} {p pos:Pos} {e:Expr} {es:List Expr} {t:TA} {id T:String} {r:List V->Hp->VK->Prop}
def RM(r:List V->Hp->VK->Prop)(t:TA):TE:=λσ H Q=>t σ H λvs H1=>r vs H1 Q
theorem bf (hc:dz X (.builtin id) r) (hg:Gl X x) (hm:X.mg x=none) (hv:bootBuiltins x=some (.builtin id)) (ha:PA X (e::es) t) (hn:x ≠ "__name__" :=by decide) (hdb:(x==("__debug__" : Str))=false:=by decide)
  (he:starEach (e::es) X.env=(false,eval e X.env)::starEach es X.env:=by rfl) (hpl:(backTo pos (starEach es X.env)).any (·.1)=false:=by rfl):PE X (.Call (.Name x p) (e::es) [] pos) (RM r t):=by
 intro pins s σ H Q I h;refine mH (jN I hg hm hv ?_ hn hdb);exact PyProof.Rows.callWith_builtin1 (aM (ha pos pins s σ H _ I h) λus s1 ⟨vs,H1,I1,r1,q1⟩=>hc pins s1 σ H1 vs us Q I1 r1 q1) he hpl
theorem gE (hc:dz X (.type T) r) (hg:Gl X x) (hm:X.mg x=none) (hv:bootBuiltins x=some (.type T)) (ha:PA X (e::es) t) (hn:x ≠ "__name__" :=by decide) (hdb:(x==("__debug__" : Str))=false:=by decide)
  (he:starEach (e::es) X.env=(false,eval e X.env)::starEach es X.env:=by rfl) (hpl:(backTo pos (starEach es X.env)).any (·.1)=false:=by rfl):PE X (.Call (.Name x p) (e::es) [] pos) (RM r t):=by
 intro pins s σ H Q I h;refine mH (jN I hg hm hv ?_ hn hdb);exact ox (aM (ha pos pins s σ H _ I h) λus s1 ⟨vs,H1,I1,r1,q1⟩=>hc pins s1 σ H1 vs us Q I1 r1 q1) he hpl
end
end _L
namespace HT
open PySem PyProof.Rows
section
open PySem.SeqAt
open PySem.AutoSeq1 (wpAny_loadPart')
open PySem.MeetsSeq PySem.MeetsSeq2 PySem.MeetsSeq3
end
section
variable {prog:Program} {w:World} {A:Around} {E:Value->Shared->Prop} {s:Shared}
noncomputable def fu (n d:Nat):Option Int->Nat
 |none=>d
 |some v=>if v<0 then(v+(n:Int)).toNat else min v.toNat n
theorem wk(n d:Nat):fu n d none=d:=rfl
theorem wj(n d k:Nat):fu n d (some (k:Int))=min k n:=by
 show(if(k:Int)<0 then((k:Int)+(n:Int)).toNat else min (k:Int).toNat n)=min k n;rw[if_neg (by omega),dq]
end
end HT
namespace _L
open PySem PySem.Spec PyProof.Rows
abbrev TO:=St->Hp->(Option Int->Hp->Prop)->Prop
def PO(X:Cx)(e:Option Expr)(t:TO):Prop:=
 ∀(pins:List (Addr × Obj)) (s:Shared) (σ:St) (H:Hp) (Q:Option Int->Hp->Prop),Inv X pins σ H s->t σ H Q ->
  wpAny (model X.prog X.w) X.A (evalPart e X.env) (λu s'=>∃o H',Inv X pins σ H' s'/\IsPart u o/\Q o H') X.xe s
def acZ:TO:=λ_ H Q=>Q none H
def ac3(t:TE):TO:=λσ H Q=>t σ H λx H1=>∃i,x = .int i/\Q (some i) H1
section
variable {X:Cx} {e:Expr} {te:TE} {lo hi:Option Expr} {tl th:TO} {pos p2:Pos}
theorem gY:PO X none acZ:=by
 intro pins s σ H Q I h;rw[evalPart_none];exact aJ ⟨none,H,I,.none,h⟩
theorem f9(h:PE X e te):PO X (some e) (ac3 te):=by
 intro pins s σ H Q I hw;rw[evalPart_some];refine aM (h pins s σ H _ I hw) λu s1 aW=>?_;obtain⟨x,H1,I1,r1,q1⟩:=aW;obtain⟨i,rfl,q⟩:=q1;obtain⟨t,rfl⟩:=r1;exact⟨some i,H1,I1,.int i t,q⟩
def yD(X:Cx)(r:V->Option Int->Option Int->Hp->VK->Prop):Prop:=
 ∀(pins:List (Addr × Obj)) (s:Shared) (σ:St) (H:Hp) (x:V) (v vl vu:Value) (lo hi:Option Int) (sl:Addr) (Q:VK),Inv X pins σ H s->RelV x v->s.heap.IsSliceOf sl vl vu .none->IsPart vl lo->IsPart vu hi->r x lo hi H Q ->
  ∃T id,typeLookup (.type T) "__getitem__" = pure (some (.builtin id))/\s.TypeIs v T/\wpAny (model X.prog X.w) X.A (getItem v (.ref sl)) (EP X pins σ Q) X.xe s
def tSl(r:V->Option Int->Option Int->Hp->VK->Prop)(te:TE)(tl th:TO):TE:=λσ H Q=>te σ H λx H1=>tl σ H1 λl H2=>th σ H2 λu H3=>r x l u H3 Q
theorem gF{r:V->Option Int->Option Int->Hp->VK->Prop}(hr:yD X r)(he:PE X e te)(hl:PO X lo tl)(hu:PO X hi th):PE X (.Subscript e (.Slice lo hi none p2) pos) (tSl r te tl th):=by
 intro pins s σ H Q I h;refine Subscript_ (aM (he pins s σ H _ I h) λv s1 aW=>?_);obtain⟨x,H1,I1,r1,q1⟩:=aW;refine wpAny_Slice (aM (hl pins s1 σ H1 _ I1 q1) λvl s2 ⟨l,H2,I2,pl,q2⟩=>aM (hu pins s2 σ H2 _ I2 q2) λvu s3 aW=>?_);obtain⟨u,H3,I3,pu,q3⟩:=aW;rw[evalPart_none];refine aJ ?_;have I4:Inv X pins σ H3 {s3 with heap:=s3.heap.push {cls:=.type "slice", data:=.fields #[vl,vu,.none]}}:=I3.kept (t':=s3.toks) λb ob q=>aV _ q;obtain⟨T,id,hT,ht,hg⟩:=hr pins {s3 with heap:=s3.heap.push {cls:=.type "slice", data:=.fields #[vl,vu,.none]}} σ H3 x v vl vu l u s3.heap.objs.size Q I4 r1 (Heap.IsSliceOf.new ..) pl pu q3;show wpAny (model X.prog X.w) X.A (subscriptTail e (.Slice lo hi none p2) v (.ref s3.heap.objs.size)) (EP X pins σ Q) X.xe {s3 with heap:=s3.heap.push {cls:=.type "slice", data:=.fields #[vl,vu,.none]}};exact tail_any (ops:=[.ref s3.heap.objs.size,v]) ht hT hg (by with_unfolding_all rfl)
noncomputable def d8 (xs:List V) (lo hi:Option Int):List V:=(xs.drop (HT.fu xs.length 0 lo)).take (HT.fu xs.length xs.length hi - HT.fu xs.length 0 lo)
theorem Ur(xs:List V)(lo hi:Option Int):(d8 xs lo hi).length<=xs.length:=by
 unfold d8;rw[mC,kQ];omega
end
noncomputable def iJ (n:Nat) (i:Int):Option Nat:=if 0<=i then(if i<n then some i.toNat else none)else if -(n:Int)<=i then some (i+n).toNat else none
noncomputable def eT {α:Type} (xs:List α) (i:Int):Option α:=(iJ xs.length i).bind λj=>xs[j]?
theorem Nn{n:Nat}{i:Int}{j:Nat}(h:iJ n i=some j):seqIndex? i n=some j/\j<n/\-(n:Int)<=i/\i<n:=by
 unfold iJ at h
 by_cases h0:0<=i
 ·rw[if_pos h0]at h
  by_cases h1:i<n
  ·rw[if_pos h1]at h
   have e:i.toNat=j:=dg h;exact⟨by rw[yv h0 h1,e],by omega,by omega,h1⟩
  ·rw[if_neg h1]at h;cases h
 ·rw[if_neg h0]at h
  by_cases h1:-(n:Int)<=i
  ·rw[if_pos h1]at h
   have e:(i+n).toNat=j:=dg h;exact⟨by rw[seqIndex_neg (by omega) h1,e],by omega,h1,by omega⟩
  ·rw[if_neg h1]at h;cases h
theorem Ju{α:Type}{xs:List α}{i:Int}{v:α}(h:eT xs i=some v):∃j,seqIndex? i xs.length=some j/\xs[j]?=some v/\j<xs.length/\-(xs.length:Int)<=i/\i<xs.length:=by
 unfold eT at h;cases e:iJ xs.length i with
 |none=>rw[e]at h;cases h
 |some j =>
  rw[e]at h;obtain⟨h1,h2,h3,h4⟩:=Nn e;exact⟨j,h1,h,h2,h3,h4⟩
theorem aH{α:Type}{xs:List α}{j:Nat}{v:α}(h:xs[j]?=some v):eT xs (j:Int)=some v:=by
 have hj:j<xs.length:=(bJ.mp h).1;have e:iJ xs.length (j:Int)=some j:=by
  unfold iJ;rw[if_pos (by omega),if_pos (by omega)];simp
 unfold eT;rw[e];exact h
theorem uC{α:Type}(xs:List α)(v:α):eT (xs++[v]) (-1)=some v:=by
 have hl:(xs++[v]).length=xs.length+1:=by simp
 have e:iJ (xs++[v]).length (-1)=some xs.length:=by
  unfold iJ;rw[hl,if_neg (by decide),if_pos (by omega)]
  congr 1
  omega
 unfold eT;rw[e];show(xs++[v])[xs.length]?=some v;simp
def S6(b:Expr):Prop:=∀o i,subscripted b false o i=operate [o,i] (getItem o i)
def nZ(X:Cx)(r:R2):Prop:=
 ∀(value slice:Expr) (pins:List (Addr × Obj)) (s:Shared) (σ:St) (H:Hp) (x y:V) (v u:Value) (Q:VK),Inv X pins σ H s->RelV x v->RelV y u->r x y H Q ->
  subscripted slice false v u=operate [v,u] (getItem v u)->wpAny (model X.prog X.w) X.A (subscriptTail value slice v u) (EP X pins σ Q) X.xe s
def mD(X:Cx)(id:String)(r:V->List V->Hp->VK->Prop):Prop:=
 ∀(pins:List (Addr × Obj)) (s:Shared) (σ:St) (H:Hp) (x:V) (xs:List V) (v:Value) (us:List Value) (Q:VK),Inv X pins σ H s->RelV x v->Vals xs us->r x xs H Q ->
  wpAny (model X.prog X.w) X.A (call (.builtin id) (v::us)) (EP X pins σ Q) X.xe s
section
variable {X:Cx} {a b:Expr} {ta tb:TE} {pos:Pos}
theorem aq{r:R2}(hr:nZ X r)(ha:PE X a ta)(hb:PE X b tb)(hs:S6 b):PE X (.Subscript a b pos) (xl r ta tb):=by
 intro pins s σ H Q I h;exact Subscript_ (yN ha hb I h λv u s2 x y H2 I2 rx ry q=>hr a b pins s2 σ H2 x y v u Q I2 rx ry q (hs _ _))
def PB(K:W.Frag):R2:=λx y H Q=>∃p xs i v,x = .ref p/\y = .int i/\ah K H p xs/\eT xs i=some v/\Q v H
def PJ(K:W.Frag):R2:=λx y H Q=>∃p xs i v,x = .ref p/\y = .int i/\ax K H p xs/\eT xs i=some v/\Q v H
theorem X9:nZ X (PB X.K):=by
 intro value slice pins s σ H x y v u Q I rx ry h hs;obtain⟨p,xs,i,z,rfl,rfl,hq,he,q⟩:=h;cases rx;obtain⟨t,rfl⟩:=ry;obtain⟨its,r,pl,hz⟩:=I.list hq;obtain⟨j,h1,h2,h3,h4,h5⟩:=Ju he;obtain⟨w,ew,nz⟩:=r.get h2;have hl:=r.length;have hn:=vx;have fin:EP X pins σ Q w s:=⟨z,H,I,nz,q⟩
 by_cases h0:0<=i
 ·have hj:i.toNat=j:=by
   rw[yv h0 h5]at h1;exact dg h1
  exact item_listR pl.isList h0 (by omega) (by rw[hj];simpa using ew) fin hs
 ·have hj:(i+(its.toArray.size:Int)).toNat=j:=by
   rw[seqIndex_neg (by omega) h4]at h1;rw[bV,<- hl];exact dg h1
  exact subscriptTail_builtinR (x:=w) pl.isList.typeIs slot_list_getitem.lookup
   (wpAny_getItem_list_neg (Q:=λr s'=>r=w/\EP X pins σ Q r s') pl.isList (by omega) (by rw[bV]<;>omega) (by omega) (by rw[hj];simpa using ew) ⟨rfl,fin⟩) hs
theorem Ya:nZ X (PJ X.K):=by
 intro value slice pins s σ H x y v u Q I rx ry h hs;obtain⟨p,xs,i,z,rfl,rfl,hq,he,q⟩:=h;cases rx;obtain⟨t,rfl⟩:=ry;obtain⟨its,r,pl,hz⟩:=I.tuple hq;obtain⟨j,h1,h2,h3,h4,h5⟩:=Ju he;obtain⟨w,ew,nz⟩:=r.get h2;have hl:=r.length;have hn:=vx;have fin:EP X pins σ Q w s:=⟨z,H,I,nz,q⟩;exact subscriptTail_builtinR (x:=w) pl.typeIs slot_tuple_getitem.lookup
  (getItem_tuple (j:=j) (Q:=λr s'=>r=w/\EP X pins σ Q r s') pl (by omega) (by omega) (by rw[bV,<- hl];exact h1) (by simpa using ew) ⟨rfl,fin⟩) hs
theorem YW (its:List Value) (n j:Nat) (u:Value):Obj.mapSeq (·.setIfInBounds j u) {cls:=.type "list", data:=.seq its.toArray n} = {cls:=.type "list", data:=.seq (its.set j u).toArray n}:=by
 simp[Obj.mapSeq]
theorem Inv.lst{pins:List (Addr × Obj)}{σ:St}{H:Hp}{s:Shared}{p:Addr}{xs:List V}(I:Inv X pins σ H s)(h:H p=some (.lst xs)):
  ∃(its:List Value) (n:Nat),Vals xs its/\s.heap.get? p=some {cls:=.type "list", data:=.seq its.toArray n}/\xs.length<=sizeLine:=by
 obtain⟨z,its,n,r,e⟩:=I.hok p _ h;exact⟨its,n,r,e,z⟩
theorem Inv.YL{pins:List (Addr × Obj)}{σ:St}{H:Hp}{s:Shared}{p:Addr}{xs ys:List V}{its its':List Value}{n n':Nat}{f:Obj->Obj}(I:Inv X pins σ H s)(h:H p=some (.lst xs))
  (ho:s.heap.get? p=some {cls:=.type "list", data:=.seq its.toArray n}) (hf:f {cls:=.type "list", data:=.seq its.toArray n} = {cls:=.type "list", data:=.seq its'.toArray n'}) (r:Vals ys its') (hz:ys.length<=sizeLine) (t:Nat) :
  Inv X pins σ (upd H p (.lst ys)) {s with heap:=s.heap.update p f,toks:=t}:=by
 have e:(s.heap.update p f).get? p=some {cls:=.type "list", data:=.seq its'.toArray n'}:=by
  rw[iC f ho (by rw[hf]<;>rfl),hf]
 refine I.write (x:=p) (e:=p) (by rw[h];exact trivial) (.inl rfl) (λb u hb q=>(iB _ _ (bP hb)).trans q) ⟨_,e⟩ ?_;exact⟨hz,its',n',r,e⟩
def ab3:V->V->V->Hp->(Hp->Prop)->Prop:=λo i v H Q=>∃p xs k j,o = .ref p/\i = .int k/\H p=some (.lst xs)/\iJ xs.length k=some j/\Q (upd H p (.lst (xs.set j v)))
theorem set_list:Ip X ab3:=by
 intro pins s σ H o i v ov iv u Q I ro ri rv h;obtain⟨p,xs,k,j,rfl,rfl,hp,hj,q⟩:=h;cases ro;obtain⟨t,rfl⟩:=ri;obtain⟨its,n,r,ho,hz⟩:=I.lst hp;obtain⟨h1,h2,h3,h4⟩:=Nn hj;have hl:=r.length;have hn:=vx;have I':Inv X pins σ (upd H p (.lst (xs.set j v))) {s with heap:=s.heap.update p (Obj.mapSeq (·.setIfInBounds j u))}:=
  I.YL hp ho (YW its n j u) (r.set rv j) (by rw[HY];exact hz) s.toks
 by_cases h0:0<=k
 ·have hk:k.toNat=j:=by
   rw[yv h0 h4]at h1;exact dg h1
  exact W.ki_setAt ho h0 (by omega) (by rw[bV,<- hl];exact h4) (by rw[hk];exact⟨_,I',q⟩)
 ·have hk:(k+(its.toArray.size:Int)).toNat=j:=by
   rw[seqIndex_neg (by omega) h3]at h1;rw[bV,<- hl];exact dg h1
  exact W.ki_setBack ho (by omega) (by rw[bV,<- hl];exact h3) (by omega) (by rw[hk];exact⟨_,I',q⟩)
theorem acs(lo hi:Option Int)(n:Nat):(sliceBounds lo hi none n).1=((HT.fu n 0 lo:Nat):Int)/\(sliceBounds lo hi none n).2.1=((HT.fu n n hi:Nat):Int)/\(sliceBounds lo hi none n).2.2=1:=by
 refine⟨?_,?_,rfl⟩
 ·cases lo with
  |none=>simp[sliceBounds,HT.fu]
  |some i =>
   simp only[sliceBounds,HT.fu,Option.getD_none,show(1:Int) > 0 by decide,jL]
   by_cases h:i<0
   ·simp only[h,jL]<;>omega
   ·simp only[h,h9]<;>omega
 ·cases hi with
  |none=>simp[sliceBounds,HT.fu]
  |some i =>
   simp only[sliceBounds,HT.fu,Option.getD_none,show(1:Int) > 0 by decide,jL]
   by_cases h:i<0
   ·simp only[h,jL]<;>omega
   ·simp only[h,h9]<;>omega
theorem acr(its:List Value)(lo hi:Option Int):slicePick its.toArray lo hi none=((its.drop (HT.fu its.length 0 lo)).take (HT.fu its.length its.length hi - HT.fu its.length 0 lo)).toArray:=by
 obtain⟨h1,h2,h3⟩:=acs lo hi its.toArray.size;unfold slicePick;rw[h1,h2,h3];simp only[sliceRange_one,pick_run,bV]<;>rfl
def PK(K:W.Frag):V->Option Int->Option Int->Hp->VK->Prop:=λx lo hi H Q=>∃a xs,x = .ref a/\ah K H a xs/\∀p,H p=none->Q (.ref p) (upd H p (.lst (d8 xs lo hi)))
theorem acq:yD X (PK X.K):=by
 intro pins s σ H x v vl vu lo hi sl Q I rx hs pl pu h;obtain⟨a,xs,rfl,hx,q⟩:=h;cases rx;obtain⟨its,r,ht,hz⟩:=I.list hx;have hlen:=r.length;refine⟨"list", _,slot_list_getitem.lookup,ht.isList.typeIs,?_⟩;refine wpAny_getItem_list_slice ht.isList hs pl pu .none (by simp) ?_ (by rw[bV]<;>omega);rw[acr,<- hlen];refine⟨.ref s.heap.objs.size,_,I.laid (t':=s.toks) (o:=.lst (d8 xs lo hi)) (λb ob q=>aV _ q) (aY _) ?_,rfl,q _ (I.hok.fresh (aY _))⟩;exact⟨ck (Ur xs lo hi) hz,_,0,(r.drop (HT.fu xs.length 0 lo)).take (HT.fu xs.length xs.length hi - HT.fu xs.length 0 lo),cn _ rfl⟩
noncomputable def kg:V->Bool
 |.non=>true
 |.bl _=>true
 |.int _=>true
 |.str _=>true
 |_=>false
noncomputable def j_:V->V->Bool
 |.non,.non=>true
 |.bl a,.bl b=>a==b
 |.bl a,.int b=>(if a then 1 else 0)==b
 |.int a,.bl b=>a==(if b then 1 else 0)
 |.int a,.int b=>a==b
 |.str a,.str b=>a==b
 |_,_=>false
theorem Vc{A:Around}{s:Shared}{y x:V}{u v:Value}(ry:RelV y u)(rx:RelV x v)(fy:kg y=true)(fx:kg x=true):SeqAt.EqAt A s u v (j_ y x):=by
 cases y with
 |non =>
  cases ry;cases x with
  |non=>cases rx;exact yt _
  |bl b=>cases rx;exact SeqAt.EqAt.none_bool b
  |int b=>obtain⟨t,rfl⟩:=rx;exact SeqAt.EqAt.none_int b t
  |str b=>obtain⟨t,rfl⟩:=rx;exact SeqAt.EqAt.none_str b t
  |_=>exact absurd (show false=true from fx) Bool.false_ne_true
 |bl a =>
  cases ry;cases x with
  |non=>cases rx;exact SeqAt.EqAt.bool_none a
  |bl b=>cases rx;exact yr a b
  |int b=>obtain⟨t,rfl⟩:=rx;exact SeqAt.EqAt.bool_int a b t
  |str b=>obtain⟨t,rfl⟩:=rx;exact SeqAt.EqAt.bool_str a b t
  |_=>exact absurd (show false=true from fx) Bool.false_ne_true
 |int a =>
  obtain⟨t',rfl⟩:=ry;cases x with
  |non=>cases rx;exact SeqAt.EqAt.int_none a t'
  |bl b=>cases rx;exact SeqAt.EqAt.int_bool a t' b
  |int b=>obtain⟨t,rfl⟩:=rx;exact SeqAt.EqAt.int_int a t' b t
  |str b=>obtain⟨t,rfl⟩:=rx;exact SeqAt.EqAt.int_str a t' b t
  |_=>exact absurd (show false=true from fx) Bool.false_ne_true
 |str a =>
  obtain⟨t',rfl⟩:=ry;cases x with
  |non=>cases rx;exact SeqAt.EqAt.str_none a t'
  |bl b=>cases rx;exact SeqAt.EqAt.str_bool a t' b
  |int b=>obtain⟨t,rfl⟩:=rx;exact SeqAt.EqAt.str_int a t' b t
  |str b=>obtain⟨t,rfl⟩:=rx;exact SeqAt.EqAt.str_str a t' b t
  |_=>exact absurd (show false=true from fx) Bool.false_ne_true
 |_=>exact absurd (show false=true from fy) Bool.false_ne_true
noncomputable def gx (x:V) (u:Value):Bool:=match u with
 |.none=>j_ .non x
 |.bool b=>j_ (.bl b) x
 |.int i _=>j_ (.int i) x
 |.str z _=>j_ (.str z) x
 |_=>false
theorem Kv{x y:V}{u:Value}(r:RelV y u)(f:kg y=true):gx x u=j_ y x:=by
 cases y with
 |non=>cases r;rfl
 |bl b=>cases r;rfl
 |int i=>obtain⟨t,rfl⟩:=r;rfl
 |str z=>obtain⟨t,rfl⟩:=r;rfl
 |_=>exact absurd (show false=true from f) Bool.false_ne_true
theorem qQ{x:V}:∀{xs:List V} {us:List Value},Vals xs us->xs.all kg=true->us.any (gx x)=xs.any λy=>j_ y x
 |_,_,.nil,_=>rfl
 |y::xs,u::us,.cons r t,f=>by
  rw[xQ,bF]at f;rw[qp,qp,Kv r f.1,qQ t f.2]
theorem sy{A:Around}{s:Shared}{x:V}{v:Value}(rx:RelV x v)(fx:kg x=true):∀{xs:List V} {us:List Value},Vals xs us->xs.all kg=true->∀u∈us,SeqAt.EqAt A s u v (gx x u)
 |_,_,.nil,_=>λu hu=>by cases hu
 |y::xs,u::us,.cons r t,f=>λu' hu=>by
  rw[xQ,bF]at f
  rcases bp.mp hu with rfl|hu
  ·rw[Kv r f.1];exact Vc r rx f.1 fx
  ·exact sy rx fx t f.2 u' hu
noncomputable def inV (x:V) (xs:List V):Bool:=xs.any λy=>j_ y x
def vZ(K:W.Frag)(neg:Bool):R2:=λx y H Q=>∃p xs,y = .ref p/\(ah K H p xs\/ax K H p xs)/\kg x=true/\xs.all kg=true/\Q (.bl (if neg then !inV x xs else inV x xs)) H
theorem aaV:bY X (compareOp .In) (vZ X.K false):=by
 intro pins s σ H x y v u Q I rx ry h;obtain⟨p,xs,rfl,hq,fx,fs,q⟩:=h;cases ry
 rcases hq with hq|hq
 ·obtain⟨its,r,pl,hz⟩:=I.list hq
  refine SeqAt.in_listAt (gx x) pl.isList (λw hw=>sy rx fx r fs w (by simpa using hw)) ⟨.bl _,H,I,rfl,?_⟩;rw[show its.toArray.any (gx x)=its.any (gx x)by simp,qQ r fs];exact q
 ·obtain⟨its,r,pl,hz⟩:=I.tuple hq
  refine SeqAt.in_tupleAt (gx x) pl (λw hw=>sy rx fx r fs w (by simpa using hw)) ⟨.bl _,H,I,rfl,?_⟩;rw[show its.toArray.any (gx x)=its.any (gx x)by simp,qQ r fs];exact q
theorem aaX:bY X (compareOp .NotIn) (vZ X.K true):=by
 intro pins s σ H x y v u Q I rx ry h;obtain⟨p,xs,rfl,hq,fx,fs,q⟩:=h;cases ry
 rcases hq with hq|hq
 ·obtain⟨its,r,pl,hz⟩:=I.list hq
  refine SeqAt.notIn_listAt (gx x) pl.isList (λw hw=>sy rx fx r fs w (by simpa using hw)) ⟨.bl _,H,I,rfl,?_⟩;rw[show its.toArray.any (gx x)=its.any (gx x)by simp,qQ r fs];exact q
 ·obtain⟨its,r,pl,hz⟩:=I.tuple hq
  refine SeqAt.notIn_tupleAt (gx x) pl (λw hw=>sy rx fx r fs w (by simpa using hw)) ⟨.bl _,H,I,rfl,?_⟩;rw[show its.toArray.any (gx x)=its.any (gx x)by simp,qQ r fs];exact q
theorem T8:dz X (.builtin "len") (λxs H Q=>∃p ys,xs = [.ref p]/\(ah X.K H p ys\/ax X.K H p ys)/\Q (.int ys.length) H):=by
 intro pins s σ H xs us Q I r h;obtain⟨p,ys,rfl,hq,q⟩:=h;obtain⟨u,rfl,rx⟩:=vals1 r;cases rx;have hn:=vx
 rcases hq with hq|hq
 ·obtain⟨its,r',pl,hz⟩:=I.list hq
  have hlen:=r'.length;exact Calls.call_len_list pl.isList (by simp only[bV]<;>omega) ⟨.int ys.length,H,I.tok _,⟨s.toks+1,by rw[bV,hlen]⟩,q⟩
 ·obtain⟨its,r',pl,hz⟩:=I.tuple hq
  have hlen:=r'.length;exact len_tuple pl (by simp only[bV]<;>omega) ⟨.int ys.length,H,I.tok _,⟨s.toks+1,by rw[bV,hlen]⟩,q⟩
theorem T_:dz X (.type "list") (λxs H Q=>∃p ys,xs = [.ref p]/\(ah X.K H p ys\/ax X.K H p ys)/\∀l,H l=none->Q (.ref l) (upd H l (.lst ys))):=by
 intro pins s σ H xs us Q I r h;obtain⟨p,ys,rfl,hq,q⟩:=h;obtain⟨u,rfl,rx⟩:=vals1 r;cases rx;have fin:∀(its:List Value),Vals ys its->ys.length<=sizeLine->∀(h':Heap) (c':Nat),(∀b o',s.heap.get? b=some o'->h'.get? b=some o') ->
   h'.get? s.heap.objs.size=some {cls:=.type "list", dict:=none,data:=.seq its.toArray c',slots:=#[]}->EP X pins σ Q (.ref s.heap.objs.size) {s with heap:=h'}:=λits r' hz h' c' kp e =>
  ⟨.ref s.heap.objs.size,_,I.laid (t':=s.toks) kp (aY _) (show bE X.prog X.w _ h' _ (.lst ys)from⟨hz,its,c',r',e⟩),rfl,q _ (I.hok.fresh (aY _))⟩
 rcases hq with hq|hq
 ·obtain⟨its,r',pl,hz⟩:=I.list hq
  have hlen:=r'.length;obtain⟨o,ho,hc,n,hd⟩:=pl.isList;exact call_list_seq p (.inl rfl) ho hc hd (λh' c' kp e=>fin its r' hz h' c' kp e) (by simp only[bV]<;>omega)
 ·obtain⟨its,r',pl,hz⟩:=I.tuple hq
  have hlen:=r'.length;obtain⟨o,ho,hc,n,hd⟩:=pl;exact call_list_seq p (.inr rfl) ho hc hd (λh' c' kp e=>fin its r' hz h' c' kp e) (by simp only[bV]<;>omega)
theorem Uj:dz X (.type "tuple") (λxs H Q=>∃p ys,xs = [.ref p]/\((ah X.K H p ys/\∀l,H l=none->Q (.ref l) (upd H l (.tup ys)))\/(ax X.K H p ys/\Q (.ref p) H))):=by
 intro pins s σ H xs us Q I r h;obtain⟨p,ys,rfl,h⟩:=h;obtain⟨u,rfl,rx⟩:=vals1 r;cases rx
 rcases h with⟨hq,q⟩|⟨hq,q⟩
 ·obtain⟨its,r',pl,hz⟩:=I.list hq
  have hlen:=r'.length;refine call_tuple_list pl.isList (λh' kp=>?_) (by simp only[bV]<;>omega);have I1:Inv X pins σ H {s with heap:=h'}:=I.kept (t':=s.toks) kp;have I2:Inv X pins σ (upd H h'.objs.size (.tup ys)) {s with heap:=h'.push {cls:=.type "tuple", data:=.seq its.toArray}}:=
   I1.laid (t':=s.toks) (λb o e=>aV _ e) (aY _) (show bE X.prog X.w _ _ _ (.tup ys)from⟨hz,its,r',IsTup.new _ _,_,cn _ rfl,rfl⟩)
  exact⟨.ref h'.objs.size,_,I2,rfl,q _ (I1.hok.fresh (aY _))⟩
 ·obtain⟨its,r',pl,hz⟩:=I.tuple hq
  exact call_tuple_same pl ⟨.ref p,H,I,rfl,q⟩
noncomputable def Hg (K:W.Frag) (T:String) (x:V) (H:Hp):Prop:=match x with
 |.str _=>T = "str"
 |.int _=>T = "int"
 |.ref p=>(T = "list" /\ ∃xs,ah K H p xs)\/(T = "tuple" /\ ∃o,K.lookup p=some o/\o.cls = .type "tuple" /\ o.dict=none) \/
   (T = "dict" /\ ((∃kvs,H p=some (.dK kvs))\/∃kvs,H p=some (.dT kvs)))\/(T = "set" /\ ∃S n,H p=some (.set S n))\/(T = "tuple" /\ ∃xs,H p=some (.tup xs))
 |_=>False
theorem R5{pins:List (Addr × Obj)}{σ:St}{H:Hp}{s:Shared}{T:String}{x:V}{v:Value}(I:Inv X pins σ H s)(r:RelV x v)(ty:Hg X.K T x H):s.TypeIs v T/\∀a,v = .ref a->∃ob,s.heap.get? a=some ob/\ob.dict=none:=by
 cases x with
 |str z =>
  obtain⟨t,rfl⟩:=r;cases(show T = "str" from ty);exact⟨typeIs_str s z t,λ_ e=>nomatch e⟩
 |int i =>
  obtain⟨t,rfl⟩:=r;cases(show T = "int" from ty);exact⟨typeIs_int s i t,λ_ e=>nomatch e⟩
 |ref p =>
  cases r
  rcases ty with⟨rfl,xs,hq⟩|⟨rfl,o,hk,hc,hd⟩|⟨rfl,hk⟩|⟨rfl,S,n,hk⟩|⟨rfl,zs,hk⟩
  ·obtain⟨its,_,pl,_⟩:=I.list hq
   refine⟨pl.isList.typeIs,λa e=>?_⟩;cases e;obtain⟨o,n,e,c,hd,_⟩:=pl;exact⟨o,e,hd⟩
  ·refine⟨⟨o,I.cw p o hk,hc⟩,λa e=>?_⟩
   cases e;exact⟨o,I.cw _ o hk,hd⟩
  ·have z:∃o,s.heap.get? p=some o/\o.ExactDict:=by
    rcases hk with⟨kvs,hk⟩|⟨kvs,hk⟩
    ·obtain⟨_,_,_,_,o,_,_,e,ex,_⟩:=I.hok p _ hk
     exact⟨o,e,ex⟩
    ·obtain⟨_,_,_,_,o,_,_,e,ex,_⟩:=I.hok p _ hk
     exact⟨o,e,ex⟩
   obtain⟨o,e,ex⟩:=z;refine⟨⟨o,e,ex.1⟩,λa e2=>?_⟩;cases e2;exact⟨o,e,ex.2.1⟩
  ·obtain⟨o,_,_,_,e,ex,_⟩:=I.hok p _ hk
   refine⟨⟨o,e,ex.1⟩,λa e2=>?_⟩;cases e2;exact⟨o,e,ex.2.1⟩
  ·obtain⟨_,_,_,⟨o2,e2,c2,_⟩,o,e,hd⟩:=(show bE X.prog X.w H s.heap p (.tup zs)from I.hok p _ hk)
   refine⟨⟨o2,e2,c2⟩,λa e3=>?_⟩;cases e3;exact⟨o,e,hd⟩
 |_=>exact False.elim ty
def RL(K:W.Frag)(T:String)(r:V->List V->Hp->VK->Prop)(to:TE):TE:=λσ H Q=>to σ H λx H1=>Hg K T x H1/\r x [] H1 Q
def RK(K:W.Frag)(T:String)(r:V->List V->Hp->VK->Prop)(to:TE)(t:TA):TE:=λσ H Q=>to σ H λx H1=>Hg K T x H1/\t σ H1 λxs H2=>r x xs H2 Q
variable {o e:Expr} {es:List Expr} {to:TE} {t:TA} {name:Str} {apos cpos:Pos} {T id:String} {r:V->List V->Hp->VK->Prop}
theorem aa8 (pa:PlainAttrs T) (slot:Slot T name id) (hty:typeOf (.builtin id)=pure (.type "method_descriptor")) (hm:mD X id r) (ho:PE X o to)
  (hbase:attributeBase o name X.env (eval o X.env)=eval o X.env:=by rfl) (hline:(apos.endLine==cpos.line)=true:=by rfl):PE X (.Call (.Attribute o name apos) [] [] cpos) (RL X.K T r to):=by
 intro pins s σ H Q I h;refine wpAny_Call_method0_late hbase hline (aM (ho pins s σ H _ I h) λv s1 aW=>?_);obtain⟨x,H1,I1,r1,ty,q1⟩:=aW;obtain⟨h1,h2⟩:=R5 I1 r1 ty;exact⟨T,id,pa,slot,hty,h1,h2,yi rfl (PySem.evalArgs_none (hm pins s1 σ H1 x [] v [] Q I1 r1 .nil q1))⟩
theorem aa7 (pa:PlainAttrs T) (slot:Slot T name id) (hty:typeOf (.builtin id)=pure (.type "method_descriptor")) (hm:mD X id r) (ho:PE X o to) (ha:PA X (e::es) t)
  (hbase:attributeBase o name X.env (eval o X.env)=eval o X.env:=by rfl)
  (hfew:((backTo cpos (starEach (e::es) X.env)).all (λx=>!x.1)&&(backToKw cpos (keywordEach [] X.env)).all (λx=>x.1.isSome)
   && decide ((e::es).length+([]:List Keyword).length+(if([]:List Keyword).isEmpty then 0 else 1)<30))=true:=by rfl)
  (hline:(apos.endLine==cpos.line)=true:=by rfl) (hs:starEach (e::es) X.env=(false,eval e X.env)::starEach es X.env:=by rfl) (hplain:(backTo cpos (starEach es X.env)).any (·.1)=false:=by rfl) :
  PE X (.Call (.Attribute o name apos) (e::es) [] cpos) (RK X.K T r to t):=by
 intro pins s σ H Q I h;refine wpAny_Call_method_late hbase hfew hline rfl (aM (ho pins s σ H _ I h) λv s1 aW=>?_);obtain⟨x,H1,I1,r1,ty,q1⟩:=aW;obtain⟨h1,h2⟩:=R5 I1 r1 ty;refine⟨T,id,pa,slot,hty,h1,h2,?_⟩;have hA:=ha cpos pins s1 σ H1 _ I1 q1;rw[hs]at hA ⊢;refine yi (by show(false||(backTo cpos (starEach es X.env)).any (·.1))=false;rw[hplain]<;>rfl) (uf ?_);exact aM hA λus s2 ⟨vs,H2,I2,r2,q2⟩=>hm pins s2 σ H2 x vs v us Q I2 r1 r2 q2
end
def ub(X:Cx)(id:String)(r:V->List V->Hp->VK->Prop):Prop:=
 ∀(pins:List (Addr × Obj)) (s:Shared) (σ:St) (H:Hp) (x:V) (xs:List V) (v:Value) (us:List Value) (Q:VK),Inv X pins σ H s->RelV x v->Vals xs us->r x xs H Q ->
  wpAny (model X.prog X.w) X.A (call (.builtin id) (v::us)) (EP X pins σ Q) X.xe s
theorem Vals.one{x:V}{us:List Value}(h:Vals [x] us):∃u,us = [u]/\RelV x u:=by
 cases h with
 |cons r t=>cases t;exact⟨_,rfl,r⟩
theorem Vals.two{x y:V}{us:List Value}(h:Vals [x,y] us):∃u v,us = [u,v]/\RelV x u/\RelV y v:=by
 cases h with
 |cons r t =>
  obtain⟨v,rfl,q⟩:=Vals.one t;exact⟨_,_,rfl,r,q⟩
theorem Vals.zero:∀{us:List Value},Vals [] us->us = []
 |_,.nil=>rfl
theorem Vals.eraseIdx:∀{xs:List V} {us:List Value} (i:Nat),Vals xs us->Vals (xs.eraseIdx i) (us.eraseIdx i)
 |_,_,_,.nil=>.nil
 |_,_,0,.cons _ t=>t
 |_,_,i+1,.cons r t=>.cons r (Vals.eraseIdx i t)
theorem Vals.rep{xs:List V}{us:List Value}(h:Vals xs us):∀k:Nat,Vals (List.replicate k xs).flatten (List.replicate k us).flatten
 |0=>.nil
 |k+1=>by
  rw[t_,t_,xU,xU];exact Vals.append h (Vals.rep h k)
theorem NP{α:Type}:∀(l:List α) (i:Nat),(l.eraseIdx i).length<=l.length
 | [],_=>aY _
 |_::_,0=>qE _
 |_::r,i+1=>Nat.succ_le_succ (NP r i)
theorem foldl_rep(its:List Value):∀(k:Nat) (acc:List Value),List.foldl (λx1 x2=>x1++x2) acc.toArray (List.replicate k its.toArray)=(acc++(List.replicate k its).flatten).toArray
 |0,acc=>by simp
 |k+1,acc=>by
  have e:acc.toArray++its.toArray=(acc++its).toArray:=by simp
  have e2:(acc++its)++(List.replicate k its).flatten=acc++(List.replicate (k+1) its).flatten:=by
   rw[t_,xU,jv]
  rw[<- e2,<- foldl_rep its k (acc++its),<- e,t_,HQ]
section
variable {X:Cx} {pins:List (Addr × Obj)} {σ:St} {H:Hp} {s:Shared} {l b:Addr} {xs ys zs:List V}
theorem Inv.pE{its its':List Value}{n:Nat}{f:Array Value->Array Value}{t':Nat}(I:Inv X pins σ H s)(hH:H l=some (.lst xs))
  (e:s.heap.get? l=some {cls:=.type "list", data:=.seq its.toArray n}) (hf:f its.toArray=its'.toArray) (hv:Vals ys its') (hz:ys.length<=sizeLine) :
  Inv X pins σ (upd H l (.lst ys)) {s with heap:=s.heap.update l (Obj.mapSeq f),toks:=t'}:=by
 have q:=PySem.IsL.update e f;rw[hf]at q;refine I.write (x:=l) (e:=l) (by rw[hH];exact trivial) (.inl rfl) (λb' u hb hu=>(iB s.heap (Obj.mapSeq f) (bP hb)).trans hu) ⟨_,q⟩ ?_;exact⟨hz,its',_,hv,q⟩
theorem Inv.si{its:List Value}{t':Nat}(I:Inv X pins σ H s)(hv:Vals ys its)(hz:ys.length<=sizeLine):
  Inv X pins σ (upd H s.heap.objs.size (.lst ys)) {s with heap:=s.heap.push {cls:=.type "list", data:=.seq its.toArray},toks:=t'}:=
 I.laid (λ_ _ q=>aV _ q) (aY _) ⟨hz,its,0,hv,cn _ rfl⟩
theorem Inv.fresh(I:Inv X pins σ H s):H s.heap.objs.size=none:=I.hok.fresh (aY _)
theorem Inv.jP (I:Inv X pins σ H s) (hH:H l=some (.lst xs)):xs.length<=sizeLine/\∃(its:List Value) (n:Nat),Vals xs its/\xs.length=its.length/\s.heap.get? l=some {cls:=.type "list", data:=.seq its.toArray n}:=by
 obtain⟨z,its,n,r,e⟩:=I.hok l _ hH;exact⟨z,its,n,r,r.length,e⟩
theorem Ou{n:Nat}(h:n<=sizeLine):Builtin.List.listTooLong n=false:=by
 unfold Builtin.List.listTooLong;exact cg (by omega)
end
section
variable {X:Cx}
def abJ:V->List V->Hp->VK->Prop:=λx vs H Q=>∃l xs y,x = .ref l/\vs = [y]/\H l=some (.lst xs)/\xs.length<sizeLine/\Q .non (upd H l (.lst (xs++[y])))
theorem iK:ub X "list.append" abJ:=by
 intro pins s σ H x vs v us Q I rx rv h;obtain⟨l,xs,y,rfl,rfl,hH,hz,q⟩:=h;cases rx;obtain⟨u,rfl,ru⟩:=rv.one;obtain⟨z,its,n,r,hl,e⟩:=I.jP hH;refine kZ iW ⟨_,e,rfl⟩ F.entry_list_append (F.args_list_append_2 _ _) (PySem.list_append l its.toArray n u (by rw[bV];omega)) ⟨e,?_⟩;refine⟨.non,_,I.pE (its':=its++[u]) hH e (by simp) (r.append (.cons ru .nil)) ?_,rfl,q⟩;rw[cz,mB];omega
def abM:V->List V->Hp->VK->Prop:=λx vs H Q=>∃l b xs zs,x = .ref l/\vs = [.ref b]/\H l=some (.lst xs)/\H b=some (.lst zs)/\xs.length+zs.length<=sizeLine/\Q .non (upd H l (.lst (xs++zs)))
theorem Od:ub X "list.extend" abM:=by
 intro pins s σ H x vs v us Q I rx rv h;obtain⟨l,b,xs,zs,rfl,rfl,hH,hB,hz,q⟩:=h;cases rx;obtain⟨u,rfl,ru⟩:=rv.one;cases ru;obtain⟨z,its,n,r,hl,e⟩:=I.jP hH;obtain⟨z2,its2,n2,r2,hl2,e2⟩:=I.jP hB;have hsz:its.toArray.size+its2.toArray.size<=sizeLine:=by rw[bV,bV];omega
 have Cy:¬ (!its.toArray.isEmpty&&Builtin.List.listTooLong (its.toArray.size+its2.toArray.size))=true:=by
  rw[Ou hsz,Hq];exact Bool.false_ne_true
 refine kZ IW ⟨_,e,rfl⟩ F.entry_list_extend (F.args_list_extend_2 _ _)
  (AutoSeq1.list_extend_list_list_0 l its.toArray n b its2.toArray n2 Cy (by rw[bV];omega) (by omega)) ⟨e,e2,?_⟩
 refine⟨.non,_,I.pE (its':=its++its2) hH e (by simp) (r.append r2) ?_,rfl,q⟩;rw[cz];omega
def ab0:V->List V->Hp->VK->Prop:=λx vs H Q=>∃l xs i k y,x = .ref l/\vs = [.int i]/\H l=some (.lst xs)/\-(2 ^ 63)<=i/\i<2 ^ 63/\seqIndex? i xs.length=some k/\xs[k]?=some y/\Q y (upd H l (.lst (xs.eraseIdx k)))
theorem Zd:ub X "list.pop" ab0:=by
 intro pins s σ H x vs v us Q I rx rv h;obtain⟨l,xs,i,k,y,rfl,rfl,hH,h1,h2,hk,hy,q⟩:=h;cases rx;obtain⟨u,rfl,ru⟩:=rv.one;obtain⟨t,rfl⟩:=ru;obtain⟨z,its,n,r,hl,e⟩:=I.jP hH;obtain⟨w,hw,nz⟩:=r.get hy;refine kZ F.slot_list_pop ⟨_,e,rfl⟩ F.entry_list_pop (F.args_list_pop_2 _ _)
  (MeetsSeq.list_pop_at l its.toArray n i t k w (fitsIndex_both h1 h2) (by rw[bV,<- hl];exact hk) (by rw[<- Array.getElem?_toList];exact hw) (by rw[bV];omega)) ⟨e,?_⟩
 refine⟨y,_,I.pE (its':=its.eraseIdx k) hH e ?_ (r.eraseIdx k) ?_,nz,q⟩
 ·show its.toArray.eraseIdxIfInBounds k=(its.eraseIdx k).toArray
  rw[List.eraseIdxIfInBounds_toArray]
 ·have:=NP xs k
  omega
def abL:V->List V->Hp->VK->Prop:=λx vs H Q=>∃l xs,x = .ref l/\vs = []/\H l=some (.lst xs)/\Q .non (upd H l (.lst []))
theorem Oc:ub X "list.clear" abL:=by
 intro pins s σ H x vs v us Q I rx rv h;obtain⟨l,xs,rfl,rfl,hH,q⟩:=h;cases rx;have hus:=rv.zero;subst hus;obtain⟨z,its,n,r,hl,e⟩:=I.jP hH;refine kZ IV ⟨_,e,rfl⟩ F.entry_list_clear (F.args_list_clear_1 _) (AutoSeq1.list_clear_list_0 l its.toArray n (by rw[bV];omega)) ⟨e,?_⟩;exact⟨.non,_,I.pE (its':=[]) (ys:=[]) hH e rfl .nil (dP _),rfl,q⟩
def abK:R2:=λx y H Q=>∃l b xs zs,x = .ref l/\y = .ref b/\H l=some (.lst xs)/\H b=some (.lst zs)/\xs.length+zs.length<=sizeLine/\∀p,H p=none->Q (.ref p) (upd H p (.lst (xs++zs)))
theorem gC:bY X (binaryOp .Add) abK:=by
 intro pins s σ H x y v u Q I rx ry h;obtain⟨l,b,xs,zs,rfl,rfl,hH,hB,hz,q⟩:=h;cases rx;cases ry;obtain⟨z,its,n,r,hl,e⟩:=I.jP hH;obtain⟨z2,its2,n2,r2,hl2,e2⟩:=I.jP hB;refine PySem.P.add_list e e2 ?_ (by rw[bV,bV];omega);have ea:its.toArray++its2.toArray=(its++its2).toArray:=by simp
 rw[ea];exact⟨.ref _,_,I.si (t':=s.toks) (r.append r2) (by rw[cz];omega),rfl,q _ I.fresh⟩
def ab1:R2:=λx y H Q=>∃l k xs,x = .ref l/\y = .int k/\H l=some (.lst xs)/\-(2 ^ 63)<=k/\k<2 ^ 63/\xs.length*k.toNat<=sizeLine /\
 ∀p,H p=none->Q (.ref p) (upd H p (.lst (List.replicate k.toNat xs).flatten))
theorem len_rep{α:Type}(xs:List α)(k:Nat):(List.replicate k xs).flatten.length=k*xs.length:=by
 induction k with
 |zero=>simp
 |succ k ih=>rw[t_,xU,cz,ih,Nat.succ_mul,yb]
theorem O1:bY X (binaryOp .Mult) ab1:=by
 intro pins s σ H x y v u Q I rx ry h;obtain⟨l,k,xs,rfl,rfl,hH,h1,h2,hz,q⟩:=h;cases rx;obtain⟨t,rfl⟩:=ry;obtain⟨z,its,n,r,hl,e⟩:=I.jP hH;have hlen:its.toArray.size*k.toNat<=sizeLine:=by rw[bV,<- hl];exact hz
 have hcap:¬ its.toArray.size*k.toNat > (2 ^ 63 - 1) / 8:=by
  have:(sizeLine:Nat)<=(2 ^ 63 - 1) / 8:=by decide
  omega
 have hfit:¬ (!Builtin.List.listFitsIndex k)=true:=by
  rw[fitsIndex_both h1 h2];exact Bool.false_ne_true
 have Cy:¬ Builtin.List.listTooLong (its.toArray.size*k.toNat)=true:=by
  rw[Ou hlen];exact Bool.false_ne_true
 have hnew:List.foldl (λx1 x2=>x1++x2) #[] (List.replicate (if its.toArray.isEmpty=true then 0 else k.toNat) its.toArray)=(List.replicate k.toNat its).flatten.toArray:=by
  have f0:∀m:Nat,List.foldl (λx1 x2=>x1++x2) #[] (List.replicate m its.toArray)=(List.replicate m its).flatten.toArray:=λm=>by
   have:=foldl_rep its m [];rw[H_]at this;exact this
  rw[f0];cases its with
  |nil=>simp
  |cons a r'=>rw[if_neg (by simp)]
 refine wpAny_binaryOp_repeat_ref (T:= "list") (U:= "int") (by decide) ⟨_,e,rfl⟩ (λs'=>typeIs_int s' k t) noFill_list_mul F.fills_int_mul F.slot_int_rmul repeat_list F.slot_int_index.lookup
  (kZ F.slot_int_rmul (typeIs_int s k t) F.entry_int_rmul (F.args_int_rmul_2 _ _) (int___rmul___int_list k t l its.toArray n)
   ⟨e,rfl,⟨_,e,rfl⟩,kZ F.slot_list_mul ⟨_,e,rfl⟩ F.entry_list_mul (F.args_list_mul_2 _ _) (AutoListH.list___mul___list_int_3 l its.toArray n k t hfit hcap Cy) ⟨e,?_⟩⟩)
 rw[hnew];exact⟨.ref _,_,I.si (t':=s.toks) (r.rep k.toNat) (by rw[len_rep,Nat.mul_comm];exact hz),rfl,q _ I.fresh⟩
end
section
variable {prog:Program} {w:World} {A:Around} {E:Value->Shared->Prop} {s:Shared}
end
section
variable {X:Cx}
end
section
variable {κ:Type} [DecidableEq κ]
noncomputable def dM (kvs:List (κ × V)) (k:κ):Option V:=(kvs.find? λkv=>decide (kv.1=k)).map (·.2)
noncomputable def putK (kvs:List (κ × V)) (k:κ) (v:V):List (κ × V):=
 if(kvs.any λkv=>decide (kv.1=k))=true then kvs.map (λkv=>if kv.1=k then(kv.1,v)else kv)else kvs++[(k,v)]
theorem lZ{p:κ × V}{r:List (κ × V)}{k:κ}(e:p.1=k):dM (p::r) k=some p.2:=by simp[dM,qv,e]
theorem kI{p:κ × V}{r:List (κ × V)}{k:κ}(e:¬ p.1=k):dM (p::r) k=dM r k:=by simp[dM,qv,e]
theorem Hk(k:κ):∀kvs:List (κ × V),(kvs.any λkv=>decide (kv.1=k))=(dM kvs k).isSome
 | []=>rfl
 |p::r=>by
  rw[qp]
  by_cases e:p.1=k
  ·simp only[lZ e,cB e,Bool.true_or,Option.isSome_some]
  ·rw[kI e,cg e,Bool.false_or];exact Hk k r
theorem Sb(k j:κ)(y:V):∀kvs:List (κ × V),dM kvs k=none->dM (kvs++[(k,y)]) j=if j=k then some y else dM kvs j
 | [],_=>by
  by_cases e:k=j
  ·rw[if_pos e.symm];exact lZ (p:=(k,y)) e
  ·rw[if_neg (λz=>e z.symm)];exact kI (p:=(k,y)) e
 |p::r,hn=>by
  rw[HB];have hk:¬ p.1=k:=λz=>by rw[lZ z]at hn;cases hn
  rw[kI hk]at hn;have ih:=Sb k j y r hn
  by_cases e:p.1=j
  ·rw[lZ e,lZ e,if_neg (λz=>hk (e.trans z))]
  ·rw[kI e,kI e,ih]
theorem NQ(kvs:List (κ × V))(k:κ)(v:V):(putK kvs k v).length<=kvs.length+1:=by
 unfold putK
 split
 ·rw[az];omega
 ·rw[cz,jZ,HW];omega
theorem abH{kvs:List (κ × V)}{k:κ}(v:V)(h:dM kvs k=none):putK kvs k v=kvs++[(k,v)]:=by
 unfold putK;rw[Hk,h];exact if_neg (by decide)
theorem gj.X6{o:Option V}{u:Option Value}(r:gj o u):o.isSome=u.isSome:=by
 cases o with
 |none=>cases u with
  |none=>rfl
  |some _=>exact(show False from r).elim
 |some _=>cases u with
  |none=>exact(show False from r).elim
  |some _=>rfl
theorem gj.getD{o:Option V}{u:Option Value}{d:V}{d':Value}(r:gj o u)(rd:RelV d d'):RelV (o.getD d) (u.getD d'):=by
 cases o with
 |none=>cases u with
  |none=>exact rd
  |some _=>exact(show False from r).elim
 |some _=>cases u with
  |none=>exact(show False from r).elim
  |some _=>exact r
theorem KV.val{kvs:List (κ × V)}{vs:List (κ × Value)}(r:KV kvs vs)(k:κ):gj (dM kvs k) (valueAt vs k):=by
 unfold KV at r
 induction r with
 |nil=>exact True.intro
 | @cons p q ps qs h t ih =>
  obtain⟨h1,h2⟩:=h
  by_cases e:p.1=k
  ·have e':q.1=k:=h1.symm.trans e
   have b:valueAt (q::qs) k=some q.2:=by simp[valueAt,qv,e']
   rw[lZ e,b];exact h2
  ·have e':¬ q.1=k:=λz=>e (h1.trans z)
   have b:valueAt (q::qs) k=valueAt qs k:=by simp[valueAt,qv,e']
   rw[kI e,b];exact ih
theorem KV.any{kvs:List (κ × V)}{vs:List (κ × Value)}(r:KV kvs vs)(k:κ):(kvs.any λkv=>decide (kv.1=k))=vs.any λkv=>decide (kv.1=k):=by
 unfold KV at r
 induction r with
 |nil=>rfl
 |cons h t ih=>rw[qp,qp,ih,h.1]
theorem KV.repl{kvs:List (κ × V)}{vs:List (κ × Value)}(r:KV kvs vs)(k:κ){y:V}{u:Value}(ry:RelV y u):
  KV (kvs.map λkv=>if kv.1=k then(kv.1,y)else kv) (vs.map λkv=>if kv.1=k then(kv.1,u)else kv):=by
 unfold KV at r ⊢
 induction r with
 |nil=>exact .nil
 | @cons p q ps qs h t ih =>
  rw[dr,dr];refine .cons ?_ ih;obtain⟨h1,h2⟩:=h
  by_cases e:p.1=k
  ·rw[if_pos e,if_pos (h1.symm.trans e)];exact⟨h1,ry⟩
  ·rw[if_neg e,if_neg (λz=>e (h1.trans z))];exact⟨h1,h2⟩
theorem KV.put{kvs:List (κ × V)}{vs:List (κ × Value)}(r:KV kvs vs)(k:κ){y:V}{u:Value}(ry:RelV y u):KV (putK kvs k y) (stored vs k u):=by
 unfold putK stored;rw[r.any k]
 by_cases e:(vs.any λkv=>decide (kv.1=k))=true
 ·rw[if_pos e,if_pos e];exact r.repl k ry
 ·rw[if_neg e,if_neg e];exact yq r ⟨rfl,ry⟩
theorem KV.length{kvs:List (κ × V)}{vs:List (κ × Value)}(r:KV kvs vs):kvs.length=vs.length:=cp r
end
theorem Dd{P:Program}{w:World}{k:Key}{u:Value}(r:RelV (kV k) u):(fX P w).is k u=true:=by
 cases k with
 |inl i=>obtain⟨t,e⟩:=(show ∃t,u=Value.int i t from r);subst e;exact Y_ P w i t
 |inr x=>obtain⟨t,e⟩:=(show ∃t,u=Value.str x t from r);subst e;exact Za P w x t
theorem Yd{P:Program}{w:World}{k:Key}{v:V}{u:Value}(q:Nq k v)(r:RelV v u):(fX P w).is k u=true:=by
 rcases q with e|⟨b,e,ek⟩
 ·subst e;exact Dd r
 ·subst e;subst ek;cases(show u=Value.bool b from r);exact Yg b
theorem Nj{P:Program}{w:World}:∀{ks:List Key} {ws:List V} {us:List Value},De ks ws->Vals ws us->ItemsAre (fX P w) ks us
 |_,_,_,.nil,.nil=>.nil
 |_,_,_,.cons q t,.cons h t'=>.cons (Yd q h) (Nj t t')
abbrev KT (H:Hp):List (List Key × V)->List (List Key × Addr × Value)->Prop:=Paired λp q=>p.1=q.1/\j6 H q.2.1 p.1/\RelV p.2 q.2.2
theorem KT.val{H:Hp}{kvs:List (List Key × V)}{xs:List (List Key × Addr × Value)}(r:KT H kvs xs)(k:List Key):gj (dM kvs k) ((atKey xs k).map (·.2)):=by
 induction r with
 |nil=>exact True.intro
 | @cons p q ps qs h t ih =>
  obtain⟨h1,_,h2⟩:=h
  by_cases e:p.1=k
  ·have e':q.1=k:=h1.symm.trans e
   have b:atKey (q::qs) k=some q.2:=by simp[atKey,qv,e']
   rw[lZ e,b];exact h2
  ·have e':¬ q.1=k:=λz=>e (h1.trans z)
   have b:atKey (q::qs) k=atKey qs k:=by simp[atKey,qv,e']
   rw[kI e,b];exact ih
theorem KT.repl{H:Hp}{kvs:List (List Key × V)}{xs:List (List Key × Addr × Value)}(r:KT H kvs xs)(k:List Key){y:V}{u:Value}(ry:RelV y u):
  KT H (kvs.map λkv=>if kv.1=k then(kv.1,y)else kv) (xs.map (putAt k u)):=by
 induction r with
 |nil=>exact .nil
 | @cons p q ps qs h t ih =>
  rw[dr,dr];refine .cons ?_ ih;obtain⟨h1,h2,h3⟩:=h;unfold putAt
  by_cases e:p.1=k
  ·rw[if_pos e,if_pos (h1.symm.trans e)];exact⟨h1,h2,ry⟩
  ·rw[if_neg e,if_neg (λz=>e (h1.trans z))];exact⟨h1,h2,h3⟩
theorem KT.put{H:Hp}{kvs:List (List Key × V)}{xs:List (List Key × Addr × Value)}(r:KT H kvs xs)(k:List Key){b:Addr}{y:V}{u:Value}(hb:j6 H b k)(ry:RelV y u):KT H (putK kvs k y) (storedH xs k b u):=by
 have e:(kvs.any λkv=>decide (kv.1=k))=(atKey xs k).isSome:=by
  rw[Hk,(r.val k).X6,Option.isSome_map]
 unfold putK storedH;rw[e]
 by_cases q:(atKey xs k).isSome=true
 ·rw[if_pos q,if_pos q];exact r.repl k ry
 ·rw[if_neg q,if_neg q];exact yq r ⟨rfl,hb,ry⟩
theorem KT.keeps{H H':Hp}{kvs:List (List Key × V)}{xs:List (List Key × Addr × Value)}(r:KT H kvs xs)(ht:∀b ys,H b=some (.tup ys)->H' b=some (.tup ys)):KT H' kvs xs:=
 Paired.di r λ_ _ z=>⟨z.1,(let⟨ws,k1,k2⟩:=z.2.1;⟨ws,k1,ht _ _ k2⟩),z.2.2⟩
section
variable {P:Program} {w:World} {H:Hp} {h:Heap} {a:Addr}
theorem PQ{u:HO}(ok:bL P w H h)(e:Rd H a u):bE P w H h a u:=e.ok ok
theorem zM{kvs:List (Key × V)}(ok:bL P w H h)(e:Rd H a (.dK kvs)):kvs.length<=sizeLine/\(a==sysModules)=false/\∃vs,KV kvs vs/\h.DictOf (fX P w) a vs:=
 show bE P w H h a (.dK kvs)from PQ ok e
theorem Uy{kvs:List (Key × V)}(ok:bL P w H h)(e:H a=some (.dK kvs)):kvs.length<=sizeLine/\(a==sysModules)=false/\∃vs,KV kvs vs/\h.DictOf (fX P w) a vs:=zM ok (.inl e)
theorem Dg{ks:List Key}(ok:bL P w H h)(e:j6 H a ks):(tupleKind (fX P w)).is h ks a:=by
 obtain⟨ws,q,e⟩:=e;obtain⟨_,its,r,⟨o,h1,h2,n,h3⟩,_⟩:=(show bE P w H h a (.tup ws)from ok a _ e);exact⟨o,its.toArray,n,h1,h2,h3,by simpa using Nj q r⟩
theorem zO{kvs:List (List Key × V)}(ok:bL P w H h)(e:Rd H a (.dT kvs)):kvs.length<=sizeLine/\(a==sysModules)=false/\∃xs,KT H kvs xs/\h.DictOfH (tupleKind (fX P w)) a xs:=by
 obtain⟨z,y,xs,r,o,es,ep,h1,h2,h3,h4,h5⟩:=(show bE P w H h a (.dT kvs)from PQ ok e);refine⟨z,y,xs,r,o,es,ep,h1,h2,h3,h4,λx hx=>?_,h5⟩;have all:∀{l:List (List Key × V)} {m:List (List Key × Addr × Value)},KT H l m->∀x∈m,(tupleKind (fX P w)).is h x.1 x.2.1:=by
  intro l m q
  induction q with
  |nil=>intro x hx;exact nomatch hx
  | @cons p q ps qs hq t ih =>
   intro x hx
   rcases bp.mp hx with e|hx
   ·subst e
    exact Dg ok (by rw[<- hq.1];exact hq.2.1)
   ·exact ih x hx
 exact all r x hx
theorem UG{kvs:List (List Key × V)}(ok:bL P w H h)(e:H a=some (.dT kvs)):kvs.length<=sizeLine/\(a==sysModules)=false/\∃xs,KT H kvs xs/\h.DictOfH (tupleKind (fX P w)) a xs:=zO ok (.inl e)
end
def qi(H:Hp)(a:Addr)(y:V)(r:Option V):Prop:=
 (∃kvs k,Rd H a (.dK kvs)/\y=kV k/\r=dM kvs k)\/∃kvs k b,Rd H a (.dT kvs)/\y = .ref b/\j6 H b k/\r=dM kvs k
def qj(H:Hp)(a:Addr)(y v:V)(H':Hp):Prop:=
 (∃kvs k,H a=some (.dK kvs)/\y=kV k/\kvs.length<sizeLine/\H'=upd H a (.dK (putK kvs k v))) \/
 ∃kvs k b,H a=some (.dT kvs)/\y = .ref b/\j6 H b k/\kvs.length<sizeLine/\H'=upd H a (.dT (putK kvs k v))
theorem qi.t{H:Hp}{a b:Addr}{kvs:List (List Key × V)}{k:List Key}(e:H a=some (.dT kvs))(eb:j6 H b k):qi H a (.ref b) (dM kvs k):=.inr ⟨kvs,k,b,.inl e,rfl,eb,rfl⟩
theorem qj.t{H:Hp}{a b:Addr}{kvs:List (List Key × V)}{k:List Key}{v:V}(e:H a=some (.dT kvs))(eb:j6 H b k)(hl:kvs.length<sizeLine):qj H a (.ref b) v (upd H a (.dT (putK kvs k v))):=.inr ⟨kvs,k,b,e,rfl,eb,hl,rfl⟩
section
variable {X:Cx} {pins:List (Addr × Obj)} {σ:St} {H:Hp} {s:Shared} {a:Addr} {y v:V} {u r:Value} {o:Option V} {A:Around} {E:Value->Shared->Prop}
theorem Inv.big(I:Inv X pins σ H s):sysModules<s.heap.objs.size:=by
 have h:mainGlobals<s.heap.objs.size:=(I.mod.glob.keeps I.bk).lt;exact Ii (by decide) h
theorem Kh{h':Heap}{t':Nat}{ob:HO}(I:Inv X pins σ H s)(mu:qD (H a))(hs:Heap.SameBut a s.heap h')(he:∃q,h'.get? a=some q)(new:bE X.prog X.w (upd H a ob) h' a ob):
  Inv X pins σ (upd H a ob) {s with heap:=h',toks:=t'}:=
 I.write (x:=a) (e:=a) mu (.inl rfl) (λb q hb z=>(hs.2 b hb).trans z) he new
theorem Ux{P:Program}{w:World}{H':Hp}{h':Heap}{kvs:List (Key × V)}{vs:List (Key × Value)}(z:kvs.length<=sizeLine)(hd:(a==sysModules)=false)(rel:KV kvs vs)(dd:h'.DictOf (fX P w) a vs):bE P w H' h' a (.dK kvs):=⟨z,hd,vs,rel,dd⟩
theorem Uv{H':Hp}{Q:Unit->Shared->Prop}(hu:A.units+1<cLine)(I:Inv X pins σ H s)(g:qj H a y v H')(ry:RelV y u)(rv:RelV v r)(h:∀s',Inv X pins σ H' s'->Q () s'):wpAny (model X.prog X.w) A (setItem (.ref a) u r) Q E s:=by
 rcases g with⟨kvs,k,e,ey,l,eH⟩|⟨kvs,k,b,e,ey,eb,l,eH⟩
 ·subst ey eH
  obtain⟨z,hd,vs,rel,dd⟩:=Uy I.hok e;have hz:vs.length<=sizeLine:=by rw[<- rel.length];exact z
  have hl:(putK kvs k v).length<=sizeLine:=by have:=NQ kvs k v;omega
  refine wpAny_setItem_pairs (hsz:=hz) (Dd ry) dd λh' rh hs=>h _ ?_;have he:∃q,h'.get? a=some q:=let⟨q,_,_,hq,_⟩:=rh;⟨q,hq⟩
  exact Kh I (by rw[e];exact True.intro) hs he (Ux hl hd (rel.put k rv) rh)
 ·subst ey eH
  cases(show u=Value.ref b from ry);obtain⟨z,hd,xs,rel,dd⟩:=UG I.hok e;have hz:xs.length<=sizeLine:=by rw[<- cp rel];exact z
  have hl:(putK kvs k v).length<=sizeLine:=by have:=NQ kvs k v;omega
  refine wpAny_setItem_heap (hsz:=hz) (tupleKind_room_in1 hu) (Dg I.hok eb) dd λh' rh hs=>h _ ?_;obtain⟨q,es,ep,hq,h2,h3,h4,_,h5⟩:=rh;refine Kh I (by rw[e];exact True.intro) hs ⟨q,hq⟩ ⟨hl,hd,_,(rel.put k eb rv).keeps λc ys ec=>?_,q,es,ep,hq,h2,h3,h4,h5⟩;rw[aF (fZ ec e (λz=>nomatch z))];exact ec
end
section
variable {X:Cx} {pins:List (Addr × Obj)} {σ:St} {H:Hp} {s:Shared} {a:Addr} {kvs:List (Key × V)} {k:Key} {u:Value} {A:Around} {E:Value->Shared->Prop}
end
def ack(td ty tv:TE):TS:=λD σ H=>tv σ H λv H1=>td σ H1 λx H2=>ty σ H2 λy H3=>∃a H4,x = .ref a/\qj H3 a y v H4/\D.nx σ H4
section
variable {X:Cx} {o i e value:Expr} {pos pos' tpos:Pos} {td ty tv:TE}
theorem abz(hu:X.A.units+1<cLine)(ho:PE X o td)(hi:PE X i ty)(hv:PE X value tv)(hs:swapsWith value (some (.Subscript o i pos')) pos.line X.env=pure false):PS X (.Assign [.Subscript o i pos'] value pos) (ack td ty tv):=by
 intro pins s σ H D I h;refine wpAny_Assign_Subscript (aM (hv pins s σ H _ I h) λr s1 ⟨v,H1,I1,rv,q1⟩=>aM (ho pins s1 σ H1 _ I1 q1) λu s2 ⟨x,H2,I2,rx,q2⟩=>aM (hi pins s2 σ H2 _ I2 q2) λiv s3 ⟨y,H3,I3,ry,a,H4,ex,g,q3⟩=>?_) hs;subst ex;obtain rfl:u=Value.ref a:=rx;exact Uv hu I3 g ry rv λs4 I4=>⟨σ,H4,I4,q3⟩
end
theorem Uz {P:Program} {w:World} {H:Hp} (h:Heap) (hb:sysModules<h.objs.size):bE P w H (h.push {cls:=.type "dict", data:=.dict #[]}) h.objs.size (.dT []):=
 ⟨dP _,jD.mpr (bP (bB hb)),[],.nil,_,#[],0,cn _ rfl,⟨rfl,rfl,rfl⟩,rfl,rfl,xX⟩
def acP:TE:=λ_ H Q=>∀p,H p=none->Q (.ref p) (upd H p (.dT []))
section
variable {X:Cx} {pos:Pos}
theorem abf:PE X (.Dict [] [] pos) acP:=λpins s σ H Q I h =>
 wpAny_Dict_empty ⟨.ref s.heap.objs.size,_,I.laid (a:=s.heap.objs.size) (o:=.dT []) (t':=s.toks) (λ_ _ q=>aV _ q) (aY _) (Uz s.heap I.big),rfl,h _ (I.hok.fresh (aY _))⟩
end
structure M1 (X:Cx) (o:Expr) (m:Str) (apos:Pos) (e:Expr) (cpos:Pos):Prop where
 base:attributeBase o m X.env (eval o X.env)=eval o X.env
 few:((backTo cpos (starEach [e] X.env)).all (λx=>!x.1)&&(backToKw cpos (keywordEach [] X.env)).all (λx=>x.1.isSome)
  && decide (([e]:List Expr).length+([]:List Keyword).length+(if([]:List Keyword).isEmpty then 0 else 1)<30))=true
 line:(apos.endLine==cpos.line)=true
 trees:backTo cpos (starEach [e] X.env) = [(false,eval e X.env)]
structure M2 (X:Cx) (o:Expr) (m:Str) (apos:Pos) (e f:Expr) (cpos:Pos):Prop where
 base:attributeBase o m X.env (eval o X.env)=eval o X.env
 few:((backTo cpos (starEach [e,f] X.env)).all (λx=>!x.1)&&(backToKw cpos (keywordEach [] X.env)).all (λx=>x.1.isSome)
  && decide (([e,f]:List Expr).length+([]:List Keyword).length+(if([]:List Keyword).isEmpty then 0 else 1)<30))=true
 line:(apos.endLine==cpos.line)=true
 trees:backTo cpos (starEach [e,f] X.env) = [(false,eval e X.env),(false,eval f X.env)]
def Hy(H:Hp)(a:Addr):Prop:=(∃kvs,Rd H a (.dK kvs))\/∃kvs,Rd H a (.dT kvs)
theorem X3{X:Cx}{pins:List (Addr × Obj)}{σ:St}{H:Hp}{s:Shared}{a:Addr}(I:Inv X pins σ H s)(d:Hy H a):
  s.TypeIs (.ref a) "dict" /\ (∀b,Value.ref a = .ref b->∃ob,s.heap.get? b=some ob/\ob.dict=none)/\(a==sysModules)=false:=by
 rcases d with⟨kvs,e⟩|⟨kvs,e⟩
 ·obtain⟨_,hd,vs,_,dd⟩:=zM I.hok e
  refine⟨dd.typeIs,λb q=>?_,hd⟩;cases q;obtain⟨ob,_,_,h1,h2,_⟩:=dd;exact⟨ob,h1,h2.2.1⟩
 ·obtain⟨_,hd,xs,_,dd⟩:=zO I.hok e
  refine⟨dd.typeIs,λb q=>?_,hd⟩;cases q;obtain⟨ob,_,_,h1,h2,_⟩:=dd;exact⟨ob,h1,h2.2.1⟩
section
variable {X:Cx} {pins:List (Addr × Obj)} {σ:St} {H:Hp} {s:Shared} {a:Addr} {y d:V} {u r:Value} {o:Option V} {A:Around} {E:Value->Shared->Prop}
theorem Uu{Q:Value->Shared->Prop}(hu:A.units+1<cLine)(I:Inv X pins σ H s)(g:qi H a y o)(ry:RelV y u)(h:∀w' s',Inv X pins σ H s'->RelV (o.getD .non) w'->Q w' s'):
  wpAny (model X.prog X.w) A (call (.builtin "dict.get") [.ref a,u]) Q E s:=by
 rcases g with⟨kvs,k,e,ey,l⟩|⟨kvs,k,b,e,ey,eb,l⟩
 ·subst ey
  obtain⟨z,hd,vs,rel,dd⟩:=zM I.hok e;refine call_meetsIn IK dd.typeIs S9 (S7 _ _) (meets_dict_get (fX X.prog X.w) a (Dd ry) hd) ⟨_,dd.mapOf,h _ _ (I.tok _) ?_⟩;rw[l];exact(rel.val k).getD rfl
 ·subst ey
  cases(show u=Value.ref b from ry);obtain⟨z,hd,xs,rel,dd⟩:=zO I.hok e;refine call_meetsIn IK dd.typeIs S9 (S7 _ _) (meetsH_dict_get (tupleKind (fX X.prog X.w)) a b hd) ⟨tupleKind_room_in1 hu,k,xs,Dg I.hok eb,dd,h _ _ (I.tok _) ?_⟩;rw[l];exact(rel.val k).getD rfl
end
def acO(td ty:TE):TE:=λσ H Q=>td σ H λx H1=>∃a,x = .ref a/\Hy H1 a/\ty σ H1 λy H2=>∃o,qi H2 a y o/\Q (o.getD .non) H2
section
variable {X:Cx} {o e f:Expr} {apos cpos:Pos} {td ty tx:TE}
theorem abe (hu:X.A.units+1<cLine) (ho:PE X o td) (he:PE X e ty) (m:M1 X o "get" apos e cpos):PE X (.Call (.Attribute o "get" apos) [e] [] cpos) (acO td ty):=by
 intro pins s σ H Q I h;refine wpAny_Call_method m.base m.few m.line PySem.F.plainAttrs_dict IK PySem.F.type_dict_get (aM (ho pins s σ H _ I h) λu s1 aW=>?_);obtain⟨x,H1,I1,rx,a,ex,d,q1⟩:=aW;subst ex;obtain rfl:u=Value.ref a:=rx;obtain⟨t1,t2,_⟩:=X3 I1 d;refine⟨t1,t2,?_⟩;rw[m.trees];refine yi rfl (uf (Ir (aM (he pins s1 σ H1 _ I1 q1) λiv s2 ⟨y,H2,I2,ry,ov,g,q2⟩=>Iu ?_)));exact Uu hu I2 g ry λw' s3 I3 nz=>⟨_,H2,I3,nz,q2⟩
end
section
variable {X:Cx} {pins:List (Addr × Obj)} {σ:St} {H:Hp} {s:Shared} {a:Addr} {kvs:List (Key × V)} {A:Around} {E:Value->Shared->Prop}
end
section
variable {X:Cx} {pins:List (Addr × Obj)} {σ:St} {H:Hp} {s:Shared} {a:Addr} {y:V} {u:Value} {A:Around} {E:Value->Shared->Prop}
end
end _L
namespace Ho
open PySem PySem.W PySem.Calls PyProof.Rows
theorem XX{P:Params}{h:Heap}:∀(ns:List Int) (vs:List Value),WellAll P h vs (ns.map WData.int)->IntsAre vs ns:=by
 intro ns
 induction ns with
 |nil =>
  intro vs w;rw[tX]at w;cases w;exact .nil
 |cons n ns ih =>
  intro vs w;rw[dr]at w;cases w with
  |cons a b =>
   cases a;exact .cons _ _ (ih _ b)
theorem acm{l:OpenLaw}{n:Nat}(hn:l.most=some n){P:Params}{h:Heap}{args:List WData}{vals:List Value}(hpre:l.row.toRowW.claim.pre args=true)(hwl:WellAll P h vals args):
  ∃a vs ns,vals = [Value.ref a]/\args = [WData.list (ns.map WData.int)]/\h.get? a=some {cls:=.type "list", data:=.seq vs.toArray}/\IntsAre vs ns/\ns.length<=n:=by
 have hsh:WShape.hasAll [] args [.list .int]=true:=(pre_splitW hpre).1;have hc:l.pre.holds [] {args:=args}=true:=(pre_splitW hpre).2;obtain⟨d,r,rfl,h1,h2⟩:=hasAllW_cons hsh;obtain rfl:=hasAllW_nil h2;obtain⟨xs,rfl,h3⟩:=hasW_list h1;obtain⟨ns,rfl⟩:=items_int h3;have hlen:ns.length<=n:=by
  unfold OpenLaw.pre at hc;have h4:(WTm.not (.lt (.lit (.int (n:Int))) (.len (.arg 0)))).holds [] {args:=[.list (ns.map .int)]}=true:=by
   have h4:=(holds_andW hc).1;rw[hn]at h4;exact h4
  have h5:=condW_of h4 (w_not (w_lt w_lit (w_len_list (w_arg rfl))));rw[az]at h5;refine oq λq=>?_;have q':(n:Int)<((ns.length:Nat):Int):=by omega
  first
   | (rw[cB q']at h5;exact absurd h5 (by decide))
   | (simp at h5;omega)
 cases hwl with
 |cons w1 w2 =>
  cases w2;cases w1 with
  |list ho hall=>exact⟨_,_,ns,rfl,rfl,ho,XX ns _ hall,hlen⟩
theorem aby(l:OpenLaw)(args:List WData):l.row.toRowW.claim.post args (.bool true) args=true:=
 postW_of (r:=l.row.toRowW) (X:=(true==true))
  (show WShape.has [] (.bool true) .bool=true by first|rfl|decide|simp[WShape.has,WShape.arms,WShape.armsAll])
  (show(WTm.eq .res (.lit (.bool true))).value [] {args:=args,res:=some (.bool true),after:=args}=some (.bool (true==true))from w_eq_bool (w_res rfl) w_lit) rfl
theorem Ts{l:OpenLaw}{n:Nat}{q:Program}{loose:List Str}{XP:(Str->Option Value)->Heap->Prop}{YP:World->Heap->Prop}{d:DefRec}(hn:l.most=some n)(hdf:d.params.defaults = [])
  (call:∀(w:World) (s₀ s₁:Shared) (mg mb:Str->Option Value) (fa:Addr) (o:Obj) (pm cd doc:Value) (a:Addr) (vs:List Value) (ns:List Int),
   Ground q loose [] XP w s₀ mg mb s₁.heap->YP w s₁.heap ->
   s₁.heap.get? fa=some o->o.data = .func (docDef d.name d.params d.body d.scope pm cd doc)->s₁.heap.CodeRec cd d.name->mg d.name=some (.ref fa) ->
   s₁.heap.get? a=some {cls:=.type "list", data:=.seq vs.toArray}->IntsAre vs ns->ns.length<=n->s₁.gens = #[] ->
   codeAny (model l.prog w) callerA (.call (.ref fa) ⟨[.ref a],[]⟩) (λr s'=>r = .ok (.ret (.bool true))/\OldK s₁.heap s'.heap/\s'.os=s₁.os/\AllBare s'.gens) s₁) :
  WalkO q loose XP YP l.row.toRowW d [] (λf vs=>PySem.call f vs):=by
 intro w s₀ s₁ mg mb G Y fa o pm cd doc dV kV ho hd hcd hD hmg hg args vals as hpre hlay hrd hwl hlo;obtain rfl:dV = .none:=Dflts.none hD hdf;obtain rfl:kV = .none:=Dflts.noKw hD;obtain⟨a,vs,ns,rfl,rfl,hobj,hints,hlen⟩:=acm hn hpre hwl;refine enter_call (j4 (call w s₀ s₁ mg mb fa o pm cd doc a vs ns G Y ho (fd_plain hd) hcd hmg hobj hints hlen hg) λr s' hq=>?_);obtain⟨rfl,h2,h3,h4⟩:=hq;exact⟨.inl ⟨.bool true,.bool true,[],rfl,λ_=>rfl,.bool true,aby l _,λ_=>⟨List.Pairwise.nil,λ_ hm=>(nomatch hm)⟩⟩,h2,h3,h4⟩
section
variable {prog:Program} {w:World} {A:Around} {E:Value->Shared->Prop} {s:Shared} {K:Frag}
end
end Ho
namespace _L
open PySem PySem.Spec PyProof.Rows
theorem Hl:∀{vs:List Value} {ns:List Int},IntsAre vs ns->Vals (ns.map V.int) vs
 |_,_,.nil=>.nil
 |_,_,.cons n t h=>.cons ⟨t,rfl⟩ (Hl h)
noncomputable def inClass (s:Stmt) (j:Nat):Stmt:=match s with
 |.ClassDef _ _ _ body _ _ _ _ _ _ _=>body.getD j (.Pass ⟨0,0,0,0⟩)
 |_=>.Pass ⟨0,0,0,0⟩
noncomputable def i_ (s:Stmt):Arguments:=match s with
 |.FunctionDef _ a _ _ _ _ _ _ _ _=>a
 |_=>{posonlyargs:=[],args:=[],vararg:=none,kwonlyargs:=[],kw_defaults:=[],kwarg:=none,defaults:=[]}
noncomputable def gS (s:Stmt):List Stmt:=match s with
 |.FunctionDef _ _ b _ _ _ _ _ _ _=>b
 |_=>[]
noncomputable def aB (s:Stmt):Scope:=match s with
 |.FunctionDef _ _ _ _ _ _ sc _ _ _=>sc
 |_=>{kind:=.function,names:=[],isGenerator:=false,isCoroutine:=false}
abbrev aZ:gM:=λ_ _ _ _ _ _=>False
abbrev E0:XK:=λ_ _ _=>False
theorem DP{X:Cx}:Passes aZ X E0:=λ_ _ _ _ _ _ _ h=>h.elim
structure aU (K:W.Frag) (x qual:Str) (st:Stmt) (f:Addr) (fd:FuncData):Prop where
 ex:∃(oc:Value) (od:Option Addr) (kV doc pm:Value) (an:Option Addr) (cdv ct:Value) (osl:Array (Option Value)),
  fd=W.fnOf x qual (i_ st) (gS st) (aB st) .none kV doc pm an cdv ct/\K.lookup f=some ⟨oc,od,.func fd,osl⟩/\W.codeIn K cdv qual=true
 kp:W.keepIn K (.ref f)=true
section
variable {P:Program} {w:World} {K:W.Frag} {mg:Str->Option Value} {base:Heap}
theorem aU.ok{x qual:Str}{st:Stmt}{f:Addr}{fd:FuncData}{N ps:List Str}{k:Nat}{sp:Sp}(F:aU K x qual st f fd)(S:a_ N ps (aB st))(len:∀vs H Q E,sp vs H Q E->vs.length=ps.length)(hbody:∀(cdv:Value) (A:Around) (outer:List Env) (s:Shared) (H:Hp) (vs:List V) (Q:VK) (E:XK),bQ k (A.deeper (envOfC qual (aB st) s.heap.objs.size f cdv))->sp vs H Q E->∃t,fE (cI aZ P w K mg base N qual (aB st) f cdv A outer s H E).vJ (gS st) t/\t {nx:=λ_ H'=>Q .non H',rt:=Q} (start N vs) H):aN P w K mg base aZ (k+1) f fd ps sp:=by
 obtain⟨oc,od,kV,doc,pm,an,cdv,ct,osl,rfl,lk,hcd⟩:=F.ex;refine BL lk hcd S len λA outer s H vs Q E hr hsp=>?_;obtain⟨t,h,q⟩:=hbody cdv A outer s H vs Q E hr hsp;exact⟨t,h.vJ,q⟩
theorem aU.binds{x qual:Str}{st:Stmt}{f:Addr}{fd:FuncData}{ps:List Str}(F:aU K x qual st f fd)
  (h:∀(kV doc pm:Value) (an:Option Addr) (cdv ct:Value) (us:List Value),us.length=ps.length->bindArgs (W.fnOf x qual (i_ st) (gS st) (aB st) .none kV doc pm an cdv ct) ⟨us,[]⟩=pure (ps.zip us)):Binds K fd ps []:=by
 obtain⟨oc,od,kV,doc,pm,an,cdv,ct,osl,rfl,lk,hcd⟩:=F.ex;exact .all (h kV doc pm an cdv ct)
theorem BX{x qual:Str}{st:Stmt}{f:Addr}{oc:Value}{od an:Option Addr}{osl:Array (Option Value)}{kV doc pm cdv ct:Value}(l:K.lookup f=some ⟨oc,od,.func (W.fnOf x qual (i_ st) (gS st) (aB st) .none kV doc pm an cdv ct),osl⟩)
  (c:W.codeIn K cdv qual=true) (k:W.keepIn K (.ref f)=true):aU K x qual st f (W.fnOf x qual (i_ st) (gS st) (aB st) .none kV doc pm an cdv ct):=⟨⟨oc,od,kV,doc,pm,an,cdv,ct,osl,rfl,l,c⟩,k⟩
end
theorem MJ{A:Around}{k:Nat}(hr:bQ k A):A.units+1<cLine:=ot (Nat.add_le_add_left (by decide:1<=64) _) hr.units
theorem Rr{n:Nat}(h:n<=1000):n<sizeLine:=ot h (by decide)
section
variable {X:Cx}
theorem pv (i:Nat) {x:Str} {pos:Pos} (hN:X.N[i]?=some x:=by rfl) (hv:qP X.env.scope x:=by first|exact Or.inl rfl|exact Or.inr (Or.inl rfl)|exact Or.inr (Or.inr rfl)) (hd:(x==("__debug__" : Str))=false:=by decide)
  (hcd:(x==("__classdict__" : Str))=false:=by decide):PE X (.Name x pos) (RX i):=abn hN hv hd hcd
end
theorem bx{A B:Prop}(h:B):if false=true then A else B:=by
 rw[if_neg Bool.false_ne_true];exact h
theorem dR{A B:Prop}(h:A):if true=true then A else B:=by
 rw[if_pos rfl];exact h
theorem bq{c A B:Prop}[Decidable c](h1:c->A)(h2:¬ c->B):if c then A else B:=by
 by_cases h:c
 ·rw[if_pos h]
  exact h1 h
 ·rw[if_neg h]
  exact h2 h
def Same(H H':Hp):Prop:=∀b o,H b=some o->H' b=some o
theorem Same.refl(H:Hp):Same H H:=λ_ _ h=>h
theorem Same.trans{H H1 H2:Hp}(a:Same H H1)(b:Same H1 H2):Same H H2:=λc o h=>b c o (a c o h)
theorem Same.free{H H':Hp}(e:Same H H'){l:Addr}(h:H' l=Option.none):H l=Option.none:=by
 cases q:H l with
 |none=>rfl
 |some o =>
  rw[e l o q]at h;cases h
theorem Same.seq{K:W.Frag}{H H':Hp}{a:Addr}{xs:List V}(e:Same H H')(h:ah K H a xs):ah K H' a xs:=by
 rcases h with(h|⟨o,h⟩)|h
 ·exact .inl (.inl (e _ _ h))
 ·exact .inl (.inr ⟨o,e _ _ h⟩)
 ·exact .inr h
section
variable {κ:Type} [DecidableEq κ]
end
noncomputable def cu (cells:List (Str × Addr)):List (Str × NameKind)->List (Str × Addr)->List (Str × Addr)
 | [],acc=>acc
 | (n,k)::r,acc=>cu cells r (if(k==NameKind.free)=true then(n,(cells.lookup n).getD 0)::acc else acc)
theorem zz{cells:List (Str × Addr)}{x:Str}{c:Addr}:∀{names:List (Str × NameKind)} {acc:List (Str × Addr)},(cu cells names acc).lookup x=some c->acc.lookup x=some c\/((x,NameKind.free)∈names/\c=(cells.lookup x).getD 0)
 | [],acc,h=>.inl h
 | (n,k)::r,acc,h=>by
  unfold cu at h
  rcases zz h with h1|⟨h1,e⟩
  ·clear h
   split at h1
   ·rename_i hk
    rw[dF]at h1;cases hx:x==n with
    |true =>
     rw[hx]at h1;have hx':x=n:=by simpa using hx
     have hk':k = .free:=by simpa using hk
     subst hx' hk';exact .inr ⟨bX,(dg h1).symm⟩
    |false =>
     rw[hx]at h1;exact .inl h1
   ·exact .inl h1
  ·exact .inr ⟨b_ _ h1,e⟩
theorem uK{cells:List (Str × Addr)}{x:Str}:∀{names:List (Str × NameKind)} {acc:List (Str × Addr)} {c:Addr},acc.lookup x=some c->∃c',(cu cells names acc).lookup x=some c'
 | [],_,c,h=>⟨c,h⟩
 | (n,k)::r,acc,c,h=>by
  unfold cu
  split
  ·cases hx:x==n with
   |true=>exact uK (c:=(cells.lookup n).getD 0) (by rw[dF,hx])
   |false=>exact uK (c:=c) (by rw[dF,hx];exact h)
  ·exact uK h
theorem mR{cells:List (Str × Addr)}{x:Str}:∀{names:List (Str × NameKind)} {acc:List (Str × Addr)},(x,NameKind.free)∈names->∃c,(cu cells names acc).lookup x=some c
 | [],_,h=>nomatch h
 | (n,k)::r,acc,h=>by
  unfold cu
  rcases bp.mp h with e|h
  ·injection e with e1 e2
   subst e1;subst e2;exact uK (c:=(cells.lookup x).getD 0) (by simp)
  ·exact mR h
theorem qX{scope:Scope}{env:Env}(h:∀x∈scope.names,x.2 = .free->∃c,env.cells.lookup x.1=some c):closureFor scope env=pure (cu env.cells scope.names []):=by
 have go:∀(names:List (Str × NameKind)) (acc:List (Str × Addr)),(∀x∈names,x.2 = .free->∃c,env.cells.lookup x.1=some c) ->
   (forIn names acc λx cs=>if(x.2==NameKind.free)=true then do let c <- cellOf env x.1;pure (ForInStep.yield ((x.1,c)::cs))else pure (ForInStep.yield cs):Sem (List (Str × Addr)))=pure (cu env.cells names acc):=by
  intro names
  induction names with
  |nil=>intro acc _;rfl
  |cons x r ih =>
   intro acc hx;obtain⟨n,k⟩:=x;rw[qx];unfold cu;cases hk:k==NameKind.free with
   |true =>
    obtain⟨c,hc⟩:=hx (n,k) bX (by simpa using hk);simp only[hk,jL,cellOf,hc,pure_bind,Io];exact ih _ λy hy=>hx y (b_ _ hy)
   |false =>
    simp only[hk,jq,h9,pure_bind];exact ih _ λy hy=>hx y (b_ _ hy)
 have e:=go scope.names [] h;have e2:closureFor scope env=(forIn scope.names [] λx cs=>if(x.2==NameKind.free)=true then do let c <- cellOf env x.1;pure (ForInStep.yield ((x.1,c)::cs))else pure (ForInStep.yield cs):Sem (List (Str × Addr)))>>=λcs=>pure cs:=by
  rfl
 rw[e2,e];rfl
theorem vy{env:Env}:∀{names:List (Str × NameKind)} {x:Str},names.lookup x=some .free ->
  (names.map λ(n,k)=>if(k==NameKind.free&&env.scope.kind==.function&&env.kindOf n==some .cell)then(n,NameKind.cell)else(n,k)).lookup x=some .cell \/
  (names.map λ(n,k)=>if(k==NameKind.free&&env.scope.kind==.function&&env.kindOf n==some .cell)then(n,NameKind.cell)else(n,k)).lookup x=some .free
 | [],_,h=>by simp at h
 | (n,k)::r,x,h=>by
  have ih:=@vy env r x;show List.lookup x ((if(k==NameKind.free&&env.scope.kind==.function&&env.kindOf n==some .cell)=true then(n,NameKind.cell)else(n,k))::_)=_\/List.lookup x ((if(k==NameKind.free&&env.scope.kind==.function&&env.kindOf n==some .cell)=true then(n,NameKind.cell)else(n,k))::_)=_;cases hx:x==n with
  |true =>
   simp only[dF,hx]at h;cases h
   by_cases hc:(NameKind.free==NameKind.free&&env.scope.kind==.function&&env.kindOf n==some .cell)=true
   ·rw[if_pos hc];simp[dF,hx]
   ·rw[if_neg hc];simp[dF,hx]
  |false =>
   simp only[dF,hx]at h
   by_cases hc:(k==NameKind.free&&env.scope.kind==.function&&env.kindOf n==some .cell)=true
   ·rw[if_pos hc];simp only[dF,hx];exact ih h
   ·rw[if_neg hc];simp only[dF,hx];exact ih h
theorem N7{env:Env}:∀{names:List (Str × NameKind)} {x:Str},(∀y∈names,y.2≠.cell) ->
  ((names.map λ(n,k)=>if(k==NameKind.free&&env.scope.kind==.function&&env.kindOf n==some .cell)then(n,NameKind.cell)else(n,k)).lookup x=some .cell \/
  (names.map λ(n,k)=>if(k==NameKind.free&&env.scope.kind==.function&&env.kindOf n==some .cell)then(n,NameKind.cell)else(n,k)).lookup x=some .free)->(x,NameKind.free)∈names
 | [],_,_,h=>by simp at h
 | (n,k)::r,x,hn,h=>by
  have ih:=@N7 env r x λy hy=>hn y (b_ _ hy)
  change List.lookup x ((if(k==NameKind.free&&env.scope.kind==.function&&env.kindOf n==some .cell)=true then(n,NameKind.cell)else(n,k))::_)=_\/List.lookup x ((if(k==NameKind.free&&env.scope.kind==.function&&env.kindOf n==some .cell)=true then(n,NameKind.cell)else(n,k))::_)=_ at h
  cases hx:x==n with
  |true =>
   have e:x=n:=by simpa using hx
   subst e
   by_cases hc:(k==NameKind.free&&env.scope.kind==.function&&env.kindOf x==some .cell)=true
   ·have hk:k = .free:=by
     have:=(bF _ _▸hc:_/\_).1;have:=(bF _ _▸this:_/\_).1;simpa using this
    subst hk;exact bX
   ·rw[if_neg hc]at h
    simp only[dF,hx]at h
    rcases h with h|h
    ·cases h;exact absurd rfl (hn _ bX)
    ·cases h;exact bX
  |false =>
   by_cases hc:(k==NameKind.free&&env.scope.kind==.function&&env.kindOf n==some .cell)=true
   ·rw[if_pos hc]at h;simp only[dF,hx]at h;exact b_ _ (ih h)
   ·rw[if_neg hc]at h;simp only[dF,hx]at h;exact b_ _ (ih h)
noncomputable def blk (X:Cx) (scope:Scope) (N':List Str) (C:Addr) (s₀:Shared) (H₀:Hp) (fp:List Addr):Cx:=
 {X with N:=N',s₀:=s₀,H₀:=H₀,env:=compEnvC scope (cu X.env.cells scope.names []) C X.env,outer:=X.stack,stack:=X.stack,ex:=fp,fn:=λ_=>false,pn:=[],xe:=λ_ _=>False}
structure gJ (X:Cx) (scope:Scope) (fr:List (Str × Nat)):Prop where
 kind:scope.kind = .function
 pH:∀y∈scope.names,y.2≠.cell
 names:∀y∈scope.names,y.2 = .local->scope.names.lookup y.1=some .local
 free:∀y∈scope.names,y.2 = .free->X.env.scope.names.lookup y.1=some .cell\/X.env.scope.names.lookup y.1=some .free
 ix:∀p∈fr,X.N[p.2]?=some p.1/\scope.names.lookup p.1=some .free
noncomputable def blkσ (no:Nat) (fr:List (Str × Nat)) (σ:St):St:=List.replicate no none++fr.map λp=>σ.getD p.2 none
def Wk(σ σ':St):Prop:=σ.length=σ'.length/\∀(i:Nat) v,σ[i]?=some (some v)->σ'[i]?=some (some v)
theorem Wk.refl(σ:St):Wk σ σ:=⟨rfl,λ_ _ h=>h⟩
theorem Wk.set{σ σ':St}{i:Nat}{x:Option V}(h:Wk σ σ')(hi:σ[i]?=some none):Wk σ (σ'.set i x):=by
 refine⟨by rw[HY];exact h.1,λj v e=>?_⟩;have hj:j≠i:=by rintro rfl;rw[hi]at e;cases e
 rw[tW (bP hj)];exact h.2 j v e
section
variable {X:Cx} {pins:List (Addr × Obj)} {σ:St} {H:Hp} {s:Shared} {scope:Scope} {fr:List (Str × Nat)} {own:List Str} {fp:List Addr}
theorem gJ.cell(B:gJ X scope fr)(ok:X.Ok):∀x∈scope.names,x.2 = .free->∃c,X.env.cells.lookup x.1=some c:=λx hx hk=>ok.has x.1 (B.free x hx hk)
theorem gJ.sub(B:gJ X scope fr)(ok:X.Ok){x:Str}{c:Addr}(h:(cu X.env.cells scope.names []).lookup x=some c):X.env.cells.lookup x=some c:=by
 rcases zz h with h|⟨hm,e⟩
 ·simp at h
 ·obtain⟨c',hc⟩:=B.cell ok _ hm rfl
  rw[e,hc];rfl
theorem TJ(B:gJ X scope fr)(I:Inv X pins σ H s)(hf:∀b∈fp,cW X pins H b)(hfs:∀b∈fp,b<s.heap.objs.size){N':List Str}:(blk X scope N' s.heap.objs.size s H fp).Ok where
 mod:=I.ok.mod
 kind:=B.kind
 glob:=I.ok.glob
 blt:=I.ok.blt
 above:=aY _
 inj:=λx y c h1 h2=>I.ok.inj x y c (B.sub I.ok h1) (B.sub I.ok h2)
 has:=λx h=>mR (N7 B.pH h)
 cab:=λx c h=>by cases h
 hd:=I.ok.hd
 frames:=I.ok.frames
 stk:=.inl rfl
 kf:=λb hb=>⟨bB (hfs b hb),λx c h=>(hf b hb).2.2.2.2.1 x c (B.sub I.ok h)⟩
 bs:=I.bs
 eU:=ck I.ok.eU I.sz
 iL:=λb o e hb=>by
  rcases(hf b hb).2.2.2.1 with h|h
  ·exact I.ok.iL b o e h
  ·exact absurd (cZ (aS e) (ck I.ok.eU h)) (dY _)
 jb:=λb hb h=>by
  rcases bp.mp (I.qe b h)with e|h
  ·exact(hf b hb).2.1 e
  ·exact(hf b hb).2.2.1 h
 eJ:=I.stack
 gU:=I.nF
theorem TL(B:gJ X scope fr)(I:Inv X pins σ H s)(hf:∀b∈fp,cW X pins H b)(hfs:∀b∈fp,b<s.heap.objs.size){h1:Heap}{m:Str->Option Value}{tk:Nat}(hn:h1.Ns s.heap.objs.size m)
  (hk:∀b o,s.heap.get? b=some o->h1.get? b=some o):Inv (blk X scope (own++fr.map (·.1)) s.heap.objs.size s H fp) [] (blkσ own.length fr σ) H {s with heap:=h1,toks:=tk} where
 ok:=TJ B I hf hfs
 os:=rfl
 bare:=I.bare
 base:=Un.kept hk
 loc:=by
  refine⟨m,hn,λi x v e1 e2 e3=>?_⟩
  change (own++fr.map (·.1))[i]?=some x at e1
  unfold blkσ at e2
  by_cases hi:i<own.length
  ·rw[jw (by simpa using hi),HS]at e2
   split at e2<;>cases e2
  ·rw[iR (by simpa using oq hi),bW]at e1
   rw[iR (by simpa using oq hi),bW,HX]at e2;cases hp:fr[i - own.length]? with
   |none=>rw[hp]at e1;cases e1
   |some p =>
    rw[hp]at e1 e2;simp only[qH,yg]at e1 e2;obtain⟨i1,i2⟩:=B.ix p (df hp);subst e1;have e2':σ[p.2]?=some (some v):=by
     rw[aQ]at e2;cases q:σ[p.2]? with
     |none=>rw[q]at e2;cases e2
     |some z=>rw[q]at e2;exact congrArg some e2
    have kX:X.env.kindOf p.1=some .cell\/X.env.kindOf p.1=some .free:=B.free (p.1,.free) (iD i2) rfl;obtain⟨m',hn',hl'⟩:=I.loc;have vis:qP X.env.scope p.1:=.inr kX;obtain⟨u,r,l⟩:=hl' p.2 p.1 v i1 e2' vis;refine⟨u,r,.inr ⟨vy i2,?_⟩⟩
    rcases l with⟨k,_⟩|⟨_,c,hc,z⟩
    ·rcases kX with q|q<;>(rw[k]at q;cases q)
    ·obtain⟨c',hc'⟩:=mR (cells:=X.env.cells) (acc:=[]) (iD i2)
     have:=B.sub I.ok hc';rw[hc]at this;cases this;exact⟨c,hc',z.keeps hk⟩
 cell:=λx c h=>by
  obtain⟨v,z⟩:=I.cell x c (B.sub I.ok h);exact⟨v,z.keeps hk⟩
 free:=I.hok.fresh (aY _)
 d_:=λx c h=>I.d_ x c (B.sub I.ok h)
 pin:=λp hp=>absurd (show p∈([]:List (Addr × Obj))from hp) (by simp)
 hok:=I.hok.kept hk
 len:=by
  unfold blkσ;show _=(own++fr.map (·.1)).length;simp
theorem TF{s':Shared}{H':Hp}{σ':St}{pY:List (Addr × Obj)}{N':List Str}(I:Inv X pins σ H s)(hf:∀b∈fp,cW X pins H b)(J:Inv (blk X scope N' s.heap.objs.size s H fp) pY σ' H' s'):Inv X pins σ H' s':=
 I.call' J.os J.base J.hok J.bare λb hb=>⟨(hf b hb).2.2.2.1,(hf b hb).2.1,(hf b hb).2.2.2.2.1,(hf b hb).2.2.2.2.2⟩
end
def kU(Y:Cx)(ifs:List Expr)(t:TT):Prop:=
 ∀(pins:List (Addr × Obj)) (s:Shared) (σ:St) (H:Hp) (Q:Bool->Hp->Prop),Inv Y pins σ H s->t σ H Q ->
  wpAny (model Y.prog Y.w) Y.A (forIn ifs true λc r=>if r=true then do let ok <- isTrue c Y.env (eval c Y.env);pure (ForInStep.yield ok)else pure (ForInStep.yield r)) (TP Y pins σ Q) Y.xe s
def qg:TT:=λ_ H Q=>Q true H
theorem da{Y:Cx}:kU Y [] qg:=λ_ _ _ H _ I h=>wpAny_tests_nil ⟨H,I,h⟩
theorem nq{Y:Cx}{c:Expr}{t:TT}(h:PT Y c t):kU Y [c] t:=λpins s σ H Q I hq=>wpAny_tests_one (h pins s σ H Q I hq)
def jX(J:It)(g:TG)(tc:TT)(te:TE)(σ₀:St)(D:Addr)(Q:Hp->Prop)(H:Hp):Prop:=
 ∃W:Nat->Nat->List V->Hp->Prop,(∃m,W 0 m [] H)/\∀i m ys H,W i m ys H ->
  (J.stop i H/\Q H)\/(J.go i H/\∃N:List V->Hp->Prop,(∀ys' H',N ys' H'->∃m',m'<m/\W (i+1) m' ys' H')/\∀x H',J.kK i H x H'->g x σ₀ H' λσ2 H2=>Wk σ₀ σ2 /\
   tc σ2 H2 λb H3=>if b=true then te σ2 H3 λy H4=>H4 D=some (.lst ys)/\ys.length<sizeLine/\N (ys++[y]) (upd H4 D (.lst (ys++[y])))else N ys H3)
theorem Inv.adA{X:Cx}{pins:List (Addr × Obj)}{σ σ':St}{H:Hp}{s:Shared}(I:Inv X pins σ' H s)(h:Wk σ σ'):Inv X pins σ H s:=I.weak h.1 h.2
theorem Kd{Y:Cx}{elt tg iter:Expr}{ifs:List Expr}{scope:Scope}{pos:Pos}{it D:Addr}{fp:List Addr}{tn:Nat->Heap->Prop}{J:It}{g:TG}{tc:TT}{te:TE}{σ₀:St}{H:Hp}{s:Shared}{Q:Hp->Prop}
  (hc:Y.calm=true) (T:Turn Y.prog Y.w Y.K tg J fp it tn) (hg:PG Y tg g) (hif:kU Y ifs tc) (he:PE Y elt te)
  (I:Inv Y [] σ₀ H s) (st:tn 0 s.heap) (hf:∀b∈fp,cW Y [] H b) (hw:jX J g tc te σ₀ D Q H) (hx:Y.xe=λ_ _=>False) :
  codeAny (model Y.prog Y.w) Y.A (.compLoop (.ListComp elt [⟨tg,iter,ifs,0⟩] scope pos) 0 (.ref it) (.ref D) Y.env) (λr s'=>∃H',r = .ok .next/\Inv Y [] σ₀ H' s'/\Q H') s:=by
 obtain⟨W,⟨m0,w0⟩,turn⟩:=hw;have stat:∀{H':Hp},(∀b∈fp,H' b=none)->∀b∈fp,cW Y [] H' b:=λhn b hb=>⟨hn b hb,(hf b hb).2⟩;refine codeAny_loop rfl (λn s'=>∃i ys H',Inv Y [] σ₀ H' s'/\tn i s'.heap/\(∀b∈fp,H' b=none)/\W i n ys H') ?_ m0 ⟨0,[],H,I,st,λb hb=>(hf b hb).1,w0⟩;rintro n s3 ⟨i,ys,H3,I3,st3,rD,w3⟩;show wpAny _ Y.A ((compTurn (.ListComp elt [⟨tg,iter,ifs,0⟩] scope pos) 0 (.ref it) (.ref D) Y.env).onRaise (λx=>do noteFrame x Y.env;theTreesLotGoes x)) _ _ s3;refine wpAny_noted ?_;rw[compTurn_list];refine ai (oE (ai ?_));have toE:∀{α:Type} {t:Sem α} {P:α->Shared->Prop} {E:Value->Shared->Prop} {s:Shared},wpAny (model Y.prog Y.w) Y.A t P Y.xe s->wpAny (model Y.prog Y.w) Y.A t P E s:=λ{α t P E s} h=>by
  rw[hx]at h;exact eI h (λ_ _ q=>q) λ_ _ q=>q.elim
 rcases turn i n ys H3 w3 with⟨stop,qn⟩|⟨go,N,hN,step⟩
 ·refine aM (T.done Y rfl rfl rfl hc i [] s3 σ₀ H3 _ I3 (stat rD) st3 stop) λr s4 aW=>?_
  obtain⟨hr,I4⟩:=aW;subst hr;exact aJ ⟨H3,rfl,I4,qn⟩
 ·refine aM (T.item Y rfl rfl rfl hc i [] s3 σ₀ H3 _ I3 (stat rD) st3 go) λr s4 aW=>?_
  obtain⟨u,hr,h4⟩:=aW;subst hr;refine ai (aM h4 λ_ s5 aW=>?_);obtain⟨x,H5,I5,r5,y5,nD,BV⟩:=aW;have xN:=I5.pinned (stat BV) (T.obj _ _ nD);refine ai (toE (aM (hg _ s5 σ₀ H5 x u _ xN r5 (step x H5 y5)) λ_ s6 aW=>?_));obtain⟨σ6,H6,I6,Sf,q6⟩:=aW;have again:∀{s7:Shared} {σ7:St} {xv:List V} {H7:Hp},Inv Y ([]++sH fp s5.heap) σ7 H7 s7->Wk σ₀ σ7->N xv H7->∃m,m<n/\∃i ys H',Inv Y [] σ₀ H' s7/\tn i s7.heap/\(∀b∈fp,H' b=none)/\W i m ys H':=λ{s7 σ7 xv H7} I7 wk7 n7=>by
   obtain⟨m',hm,w7⟩:=hN xv H7 n7;refine⟨m',hm,i+1,xv,H7,(I7.xn).adA wk7,T.keep _ _ _ nD λb hb o e=>(I7.pin (b,o) (gP _ (gP _ (vD hb e)))).1,λb hb=>?_,w7⟩;obtain⟨o,e,d⟩:=T.obj _ _ nD b hb;exact(I7.pin (b,o) (gP _ (gP _ (vD hb e)))).2.1
  refine ai (eI (hif _ s6 σ6 H6 _ I6 q6) (λok s7 ⟨H7,I7,q7⟩=>?_) λ_ _ q=>by rw[hx]at q;exact q.elim);cases ok with
  |false=>exact aJ ⟨rfl,again I7 Sf q7⟩
  |true =>
   refine ai (ai (eI (he _ s7 σ6 H7 _ I7 q7) (λv s8 ⟨y,H8,I8,r8,hD,hz,n8⟩=>?_) λ_ _ q=>by rw[hx]at q;exact q.elim));refine ai (eI (iK _ s8 σ6 H8 (.ref D) [y] (.ref D) [v] (λ_ H9=>N (ys++[y]) H9) I8 rfl (.cons r8 .nil) ⟨D,ys,y,rfl,rfl,hD,hz,n8⟩) (λz s9 ⟨_,H9,I9,_,n9⟩=>?_) λ_ _ q=>by rw[hx]at q;exact q.elim);exact aJ (aJ ⟨rfl,again I9 Sf n9⟩)
def G_(wi:TI)(no:Nat)(fr:List (Str × Nat))(g:TG)(tc:TT)(te:TE):TE:=λσ H Q=>wi σ H λJ H1=>∀D,H1 D=none->jX J g tc te (blkσ no fr σ) D (λH'=>Q (.ref D) H') (upd H1 D (.lst []))
section
variable {X:Cx} {elt tg iter:Expr} {ifs:List Expr} {scope:Scope} {pos:Pos} {own:List Str} {fr:List (Str × Nat)} {wi:TI} {g:TG} {tc:TT} {te:TE}
theorem Kc{pins:List (Addr × Obj)}{σ:St}{H2:Hp}{s2:Shared}{it:Addr}{fp:List Addr}{tn:Nat->Heap->Prop}{J:It}{Qd:V->Hp->Prop}{RR:Value->Addr->Result->Shared->Prop}{E:Value->Shared->Prop}(hc:X.calm=true)(B:gJ X scope fr)
  (hb:∀(C:Addr) (s₀:Shared) (H₀:Hp) (fp:List Addr),PG (blk X scope (own++fr.map (·.1)) C s₀ H₀ fp) tg g/\kU (blk X scope (own++fr.map (·.1)) C s₀ H₀ fp) ifs tc/\PE (blk X scope (own++fr.map (·.1)) C s₀ H₀ fp) elt te)
  (I2:Inv X pins σ H2 s2) (T:Turn X.prog X.w X.K tg J fp it tn) (st2:tn 0 s2.heap) (f2:∀b∈fp,cW X pins H2 b)
  (hw:∀D,H2 D=none->jX J g tc te (blkσ own.length fr σ) D (λH'=>Qd (.ref D) H') (upd H2 D (.lst [])))
  (hR:∀(D C:Addr) (s':Shared) (H':Hp) (m:Str->Option Value),Inv X pins σ H' s'->s'.heap.Ns C m->H' C=none->C≠X.env.locals->X.s₀.heap.objs.size<=C->(∀x c,X.env.cells.lookup x=some c->c≠C)->(∀p∈X.pn++pins,p.1≠C) ->
   Qd (.ref D) H'->RR (.ref D) C (.ok .next) s') :
  wpAny (model X.prog X.w) X.A (newList []) (λacc s₃=>wpAny (model X.prog X.w) X.A (newFunctionEnv scope X.env.globals (cu X.env.cells scope.names []) [] X.env.qual none .none (some X.env)) (λcenv s₄ =>
   codeAny (model X.prog X.w) X.A (.compStart (.ListComp elt [⟨tg,iter,ifs,0⟩] scope pos) 0 (.ref it) acc {cenv with scope:=relabel scope X.env}) (RR acc cenv.locals) s₄) E s₃) E s2:=by
 refine uv (wpAny_newFunctionEnv B.pH (by intro y hy;simp at hy) (λh₁ hns₁ hsb₁=>?_) B.kind);dsimp only at hns₁ hsb₁ ⊢;have hD:H2 s2.heap.objs.size=none:=I2.fresh;have I3:Inv X pins σ (upd H2 s2.heap.objs.size (.lst [])) {s2 with heap:=s2.heap.push {cls:=.type "list", data:=.seq ([]:List Value).toArray},toks:=s2.toks}:=I2.si .nil (by simp);have su:∀b∈fp,b<s2.heap.objs.size:=λb hb=>by obtain⟨o,e,_⟩:=T.obj _ _ st2 b hb;exact aS e
 have f3:∀b∈fp,cW X pins (upd H2 s2.heap.objs.size (.lst [])) b:=λb hb=>⟨by rw[aF (bB (su b hb))];exact(f2 b hb).1,(f2 b hb).2⟩;generalize hs3:({s2 with heap:=s2.heap.push {cls:=.type "list", data:=.seq ([]:List Value).toArray},toks:=s2.toks}:Shared)=s3 at I3;have e3:s3.heap=s2.heap.push {cls:=.type "list", data:=.seq ([]:List Value).toArray}:=by rw[<- hs3]
 have sv:∀b∈fp,b<s3.heap.objs.size:=λb hb=>by rw[e3,eK];exact ye (su b hb)
 have eC:(s2.heap.push {cls:=.type "list", dict:=none,data:=.seq ([]:List Value).toArray}).objs.size=s3.heap.objs.size:=by rw[e3]
 have old:∀b o,s3.heap.get? b=some o->h₁.get? b=some o:=λb o e=>by
  have hb:b<s3.heap.objs.size:=aS e;rw[e3]at e;exact hsb₁.extBut b o (by rw[eC];exact bB hb) (aV _ e)
 rw[eC]at hns₁ ⊢;have IY:Inv (blk X scope (own++fr.map (·.1)) s3.heap.objs.size s3 (upd H2 s2.heap.objs.size (.lst [])) fp) [] (blkσ own.length fr σ) (upd H2 s2.heap.objs.size (.lst [])) {s3 with heap:=h₁,toks:=s2.toks+([]:List (Str × Value)).length}:=
  TL (own:=own) B I3 f3 sv hns₁ old
 have st3:tn 0 h₁:=T.keep _ _ _ st2 λb hb o e=>old b o (by rw[e3];exact aV _ e);have fY:∀b∈fp,cW (blk X scope (own++fr.map (·.1)) s3.heap.objs.size s3 (upd H2 s2.heap.objs.size (.lst [])) fp) [] (upd H2 s2.heap.objs.size (.lst [])) b:=λb hb =>
  ⟨(f3 b hb).1,bB (sv b hb),(IY.ok.jb b hb),.inl hb,(IY.ok.kf b hb).2,λp hp=>absurd (show p∈([]:List (Addr × Obj))from hp) (by simp)⟩
 obtain⟨b1,b2,b3⟩:=hb s3.heap.objs.size s3 (upd H2 s2.heap.objs.size (.lst [])) fp;have loop:=Kd (Y:=blk X scope (own++fr.map (·.1)) s3.heap.objs.size s3 (upd H2 s2.heap.objs.size (.lst [])) fp) (iter:=iter) (scope:=scope) (pos:=pos) hc T b1 b2 b3 IY st3 fY (hw _ hD) rfl;have sj:codeAny (model X.prog X.w) X.A (.compLoop (.ListComp elt [⟨tg,iter,ifs,0⟩] scope pos) 0 (.ref it) (.ref s2.heap.objs.size) (compEnvC scope (cu X.env.cells scope.names []) s3.heap.objs.size X.env)) (RR (.ref s2.heap.objs.size) s3.heap.objs.size) {s3 with heap:=h₁,toks:=s2.toks+([]:List (Str × Value)).length}:=by
  refine j4 loop λr s' aW=>?_;obtain⟨H',hr,J',q⟩:=aW;subst hr;obtain⟨m',hn',_⟩:=id J'.loc;refine hR s2.heap.objs.size s3.heap.objs.size s' H' m' (TF I3 f3 J') hn' J'.free (dZ I3.lt) I3.sz (λx c e=>?_) (λp hp z=>?_) q
  ·obtain⟨v,z⟩:=I3.cell x c e
   exact bB z.lt
  ·exact absurd (aS (I3.pin p hp).1) (by rw[z];exact dY _)
 have es:({s2 with heap:=h₁,toks:=s2.toks+([]:List (Str × Value)).length}:Shared) = {s3 with heap:=h₁,toks:=s2.toks+([]:List (Str × Value)).length}:=by rw[<- hs3]
 rw[es];exact codeAny_compStart_list sj (T.self X.A 0 _ _ _ st3 sj)
theorem dj(hc:X.calm=true)(B:gJ X scope fr)(hi:PI X tg iter wi)
  (hb:∀(C:Addr) (s₀:Shared) (H₀:Hp) (fp:List Addr),PG (blk X scope (own++fr.map (·.1)) C s₀ H₀ fp) tg g/\kU (blk X scope (own++fr.map (·.1)) C s₀ H₀ fp) ifs tc/\PE (blk X scope (own++fr.map (·.1)) C s₀ H₀ fp) elt te)
  (hs:∀x,foldedSetIterable iter X.env x=pure x:=by intro _;rfl):PE X (.ListComp elt [⟨tg,iter,ifs,0⟩] scope pos) (G_ wi own.length fr g tc te):=by
 intro pins s σ H Q I h;rw[eval_ListComp];refine Je (use:=none) rfl hs (qX (B.cell I.ok)) B.kind B.names (aM (hi pins s σ H _ I h) λv s1 h1=>aM h1 λitv s2 h2=>?_);obtain⟨it,fp,tn,J,H2,e,I2,T,st2,f2,hD⟩:=h2;subst e;refine Kc (own:=own) (Qd:=Q) (RR:=λacc C=>compPost (model X.prog X.w) X.A X.xe none (EP X pins σ Q) acc C) hc B hb I2 T st2 f2 hD ?_;intro D C s' H' m I' hn hC c1 c2 c3 c4 q;exact⟨m,hn,λh' sb=>⟨.ref D,H',I'.turned (t':=s'.toks) (λb o hb e=>sb.extBut b o hb e) hC (bP c1).symm (.inr c2) c3 c4,rfl,q⟩⟩
theorem pU{i:Nat}{x:Str}{py spos:Pos}(hN:X.N.Nodup)(hx:X.N[i]?=some x)(hl:X.env.scope.names.lookup x=some .local)(hc:X.calm=true)(B:gJ X scope fr)(hi:PI X tg iter wi)
  (hb:∀(C:Addr) (s₀:Shared) (H₀:Hp) (fp:List Addr),PG (blk X scope (own++fr.map (·.1)) C s₀ H₀ fp) tg g/\kU (blk X scope (own++fr.map (·.1)) C s₀ H₀ fp) ifs tc/\PE (blk X scope (own++fr.map (·.1)) C s₀ H₀ fp) elt te)
  (hsw:swapsWith (.ListComp elt [⟨tg,iter,ifs,0⟩] scope pos) (some (.Name x py)) spos.line X.env=pure true:=by rfl)
  (hs:∀x,foldedSetIterable iter X.env x=pure x:=by intro _;rfl):PS X (.Assign [.Name x py] (.ListComp elt [⟨tg,iter,ifs,0⟩] scope pos) spos) (xi (G_ wi own.length fr g tc te) (cD i)):=by
 intro pins s σ H D0 I h;rw[exec_Assign_Name_used _ _ _ _ hsw];refine ai (oE (ai ?_));show wpAny _ X.A (do let _ <- comprehension (.ListComp elt [⟨tg,iter,ifs,0⟩] scope pos) scope X.env _ (newList []) false (eval iter X.env) (some (assign (.Name x py) X.env))) _ _ s;refine ai (eI (Je (use:=some (assign (.Name x py) X.env)) (Q:=λ_ s'=>SP X pins D0 .next s') rfl hs (qX (B.cell I.ok)) B.kind B.names
  (aM (hi pins s σ H _ I h) λv s1 h1=>aM h1 λitv s2 h2=>?_)) (λ_ s' hq=>aJ (aJ hq)) λ_ _ e=>e)
 obtain⟨it,fp,tn,J,H2,e,I2,T,st2,f2,hD⟩:=h2;subst e;refine Kc (own:=own) (Qd:=λv H'=>cD i v σ H' D0.nx) (RR:=λacc C=>compPost (model X.prog X.w) X.A X.xe (some (assign (.Name x py) X.env)) (λ_ s'=>SP X pins D0 .next s') acc C) hc B hb I2 T st2 f2 hD ?_;intro D C s' H' m I' hn hC c1 c2 c3 c4 q;show wpAny _ X.A (assign (.Name x py) X.env (.ref D)) _ _ _;refine Jd (xg I' hN hx (.inl hl) (v:=.ref D) rfl (λs'' xM ⟨a,sb,ha⟩=>?_) (.inr hl));have Ck:C≠a:=by
  rcases ha with rfl|ha
  ·exact c1
  ·exact λe=>c3 x a ha e.symm
 refine⟨m,hn.sameBut sb Ck,λh' Fy=>?_⟩;exact⟨_,H',xM.turned (t':=s''.toks) (λb o hb e=>Fy.extBut b o hb e) hC c1 (.inr c2) c3 c4,q⟩
end
noncomputable def bu (b:Bool) (h:Heap) (it a:Addr) (i:Nat):Prop:=match b with
 |true=>h.IsListIter it a i
 |false=>h.IsTupleIter it a i
def bI(b:Bool)(h:Heap)(a:Addr)(items:Array Value):Prop:=match b with
 |true=>h.IsList a items
 |false=>h.IsTuple a items
theorem bu.at{b:Bool}{h h':Heap}{it a:Addr}{i:Nat}(x:bu b h it a i)(k:∀o,h.get? it=some o->h'.get? it=some o):bu b h' it a i:=by
 cases b with
 |true=>exact Heap.IsListIter.at x k
 |false=>exact Heap.IsTupleIter.at x k
theorem bI.at{b:Bool}{h h':Heap}{a:Addr}{items:Array Value}(x:bI b h a items)(k:∀o,h.get? a=some o->h'.get? a=some o):bI b h' a items:=by
 cases b with
 |true=>exact Heap.IsList.at x k
 |false=>obtain⟨o,e,r⟩:=x;exact⟨o,k o e,r⟩
theorem bu.obj{b:Bool}{h:Heap}{it a:Addr}{i:Nat}(x:bu b h it a i):∃o,h.get? it=some o/\∀v,o.data≠.cell v:=by
 cases b with
 |true=>obtain⟨o,e,c,d⟩:=x;exact⟨o,e,λv z=>by rw[d]at z;cases z⟩
 |false=>obtain⟨o,e,c,d⟩:=x;exact⟨o,e,λv z=>by rw[d]at z;cases z⟩
theorem bI.lt{b:Bool}{h:Heap}{a:Addr}{items:Array Value}(x:bI b h a items):a<h.objs.size:=by
 cases b with
 |true=>obtain⟨o,e,_⟩:=x;exact aS e
 |false=>obtain⟨o,e,_⟩:=x;exact aS e
section
variable {prog:Program} {w:World} {A:Around} {E:Value->Shared->Prop} {s:Shared}
theorem Zq{it l:Addr}{i:Nat}{items:Array Value}{x:Value}{Q:Value->Shared->Prop}(hit:s.heap.IsTupleIter it l i)(hl:s.heap.IsTuple l items)(hx:items[i]?=some x)
  (hQ:∀h',h'.IsTupleIter it l (i+1)->Heap.SameBut it s.heap h'->Q x {s with heap:=h'}):wpAny (model prog w) A (Builtin.SmallTypes.nextOf (.ref it)) Q E s:=by
 obtain⟨o,ho,hc,hd⟩:=id hit;obtain⟨ol,hol,_,nl,hdl⟩:=hl;unfold Builtin.SmallTypes.nextOf;refine ai (qM (name:=Str.ofString "__next__") hit.typeIs yn (oA yn hit.typeIs S_ ?_ (S8 _)));show wpAny _ _ (field (.ref it) 0>>=_) _ _ s;refine ai (eG ho hd (x:=.ref l) rfl ?_);show wpAny _ _ (if(Value.ref l==Value.none)=true then _ else _) _ _ s;rw[if_neg (show ¬ ((Value.ref l==Value.none)=true)from Bool.false_ne_true)];show wpAny _ _ (field (.ref it) 1>>=_) _ _ s;refine ai (eG ho hd (x:=.int i 0) rfl ?_);show wpAny _ _ (seqItems? (.ref l)>>=_) _ _ s;refine ai (jA hol hdl ?_);simp only[dq,hx];refine ai (ux ho hd (by simp) (aJ ⟨x,rfl,aJ (hQ _ ?_ (Heap.SameBut.update ..))⟩));exact⟨_,iC _ ho (ui (oy hd _)),(Obj.cls_mapFields ..).trans hc,by rw[oy hd];simp[rawInt]⟩
theorem Zr{it l:Addr}{i:Nat}{items:Array Value}{Q:Value->Shared->Prop}(hh:A.handled=none)(hit:s.heap.IsTupleIter it l i)(hl:s.heap.IsTuple l items)(hx:items[i]?=none)
  (hE:∀h' e,Heap.ExtBut it s.heap h'->(∃o,h'.get? e=some o/\o.cls = .type "StopIteration")->E (.ref e) {s with heap:=h'}):wpAny (model prog w) A (Builtin.SmallTypes.nextOf (.ref it)) Q E s:=by
 obtain⟨o,ho,hc,hd⟩:=id hit;obtain⟨ol,hol,_,nl,hdl⟩:=hl;unfold Builtin.SmallTypes.nextOf;refine ai (qM (name:=Str.ofString "__next__") hit.typeIs yn (oA yn hit.typeIs S_ ?_ (S8 _)));show wpAny _ _ (field (.ref it) 0>>=_) _ _ s;refine ai (eG ho hd (x:=.ref l) rfl ?_);show wpAny _ _ (if(Value.ref l==Value.none)=true then _ else _) _ _ s;rw[if_neg (show ¬ ((Value.ref l==Value.none)=true)from Bool.false_ne_true)];show wpAny _ _ (field (.ref it) 1>>=_) _ _ s;refine ai (eG ho hd (x:=.int i 0) rfl ?_);show wpAny _ _ (seqItems? (.ref l)>>=_) _ _ s;refine ai (jA hol hdl ?_);simp only[dq,hx];refine ai (qN (ai (ux ho hd (by simp) ?_)));show wpAny _ _ (newExc (.type "StopIteration") []>>=_) _ _ _;refine ai ?_;simp only[newExc,newTuple];refine ai (uv ?_ (by size_fits));refine ai (m:=firstArgMember _ _) (wpAny_of_eq (a:=Value.none) (by first|rfl | (simp only[firstArgMember];rfl)) ?_);refine uv ?_ (by size_fits);simp only[raiseNew];refine ai (wpAny_handled ?_)
 first|rw[show A.in1.handled=none from hh] | rw[hh]
 refine ai (aJ (wpAny_throw ?_));exact hE _ _ (((Heap.SameBut.update ..).extBut.push _).push _) ⟨_,cn _ rfl,rfl⟩
theorem ni{b:Bool}{it l:Addr}{i:Nat}{items:Array Value}{x:Value}{Q:Value->Shared->Prop}(hit:bu b s.heap it l i)(hl:bI b s.heap l items)(hx:items[i]?=some x)
  (hQ:∀h',bu b h' it l (i+1)->Heap.SameBut it s.heap h'->Q x {s with heap:=h'}):wpAny (model prog w) A (Builtin.SmallTypes.nextOf (.ref it)) Q E s:=by
 cases b with
 |true=>exact wpAny_nextOf_list_item hit hl hx hQ
 |false=>exact Zq hit hl hx hQ
theorem sC{b:Bool}{it l:Addr}{i:Nat}{items:Array Value}{Q:Value->Shared->Prop}(hh:A.handled=none)(hit:bu b s.heap it l i)(hl:bI b s.heap l items)(hx:items[i]?=none)
  (hE:∀h' e,Heap.ExtBut it s.heap h'->(∃o,h'.get? e=some o/\o.cls = .type "StopIteration")->E (.ref e) {s with heap:=h'}):wpAny (model prog w) A (Builtin.SmallTypes.nextOf (.ref it)) Q E s:=by
 cases b with
 |true=>exact wpAny_nextOf_list_end hh hit hl hx hE
 |false=>exact Zr hh hit hl hx hE
end
abbrev ez (h:Heap) (z TI TO:Addr) (f0:Value) (b:Bool):Prop:=
 h.get? z=some {cls:=.type "zip", dict:=none,data:=.fields #[f0,.bool b,.bool false,.ref TI,.ref TO],slots:=#[]}
section
variable {prog:Program} {w:World} {A:Around} {E:Value->Shared->Prop} {s:Shared} {c1 c2:Bool} {z TI TO i1 i2 l1 l2:Addr} {k1 k2:Nat} {xs ys:Array Value} {x y a b:Value}
theorem adR{f0:Value}{bb:Bool}{Q:Value->Shared->Prop}(D:ZipApart z TI TO i1 i2 l1 l2)(hz:ez s.heap z TI TO f0 bb)(hfree:∀{A':Around} {E':Value->Shared->Prop} {Q':Bool->Shared->Prop},Q' true s->wpAny (model prog w) A' (Builtin.SmallTypes.ownedTupleIsFree (.ref z)) Q' E' s)(hTI:IsPair s.heap TI (.ref i1) (.ref i2))(hTO:IsPair s.heap TO a b)(h1:bu c1 s.heap i1 l1 k1)(h2:bu c2 s.heap i2 l2 k2)(hl1:bI c1 s.heap l1 xs)(hl2:bI c2 s.heap l2 ys)(hx:xs[k1]?=some x)(hy:ys[k2]?=some y)(hQ:∀h',IsZip h' z TI TO (rawInt s.heap.objs.size)->IsPair h' TO x y->bu c1 h' i1 l1 (k1+1)->bu c2 h' i2 l2 (k2+1)->IsPair h' s.heap.objs.size x y->h'.objs.size=s.heap.objs.size+1 ->
   (∀c o,c≠z->c≠TO->c≠i1->c≠i2->s.heap.get? c=some o->h'.get? c=some o)->Q (.ref s.heap.objs.size) {s with heap:=h'}) :
  wpAny (model prog w) A (Builtin.«zip.__next__» ⟨[.ref z],[]⟩) (λfin s'=>∃v,fin = .done (.ret v)/\Q v s') E s:=by
 show wpAny _ _ (field (.ref z) 2>>=_) _ _ _;refine ai (eG hz rfl (x:=.bool false) rfl ?_);show wpAny _ _ (field (.ref z) 3>>=_) _ _ _;refine ai (eG hz rfl (x:=.ref TI) rfl ?_);refine ai (jA hTI rfl ?_);show wpAny _ _ (Builtin.SmallTypes.ownedTupleIsFree (.ref z)>>=_) _ _ _;refine ai (hfree ?_);simp only[jL];refine ai (qN ?_);refine ai (eG hz rfl (x:=.ref TO) rfl ?_);refine ai (oC hz (by simp) λg1 hz1 e1=>?_)
 replace hz1:ez g1 z TI TO .ellipsis bb:=hz1
 refine ai ?_;simp only[Ic,Ie,qx,qy];refine ai (ai (yz ?_));show wpAny _ _ (Builtin.SmallTypes.nextOf (.ref i1)>>=_) _ _ _;refine ai (ni (h1.at λo q=>e1.extBut _ o D.i1z q) (hl1.at λo q=>e1.extBut _ o D.l1z q) hx λg2 h1' e2=>aJ ?_);have rP:IsPair g2 TO a b:=e2.extBut _ _ D.TOi1 (e1.extBut _ _ D.TOz hTO);refine ai (jA rP rfl ?_);refine ai (Ji rP λg3 u3 e3=>?_)
 replace u3:IsPair g3 TO x b:=u3
 refine ai (uq (aJ ?_));refine ai (ai (yz ?_));show wpAny _ _ (Builtin.SmallTypes.nextOf (.ref i2)>>=_) _ _ _;have nI:∀o,s.heap.get? i2=some o->g3.get? i2=some o:=λo q=>e3.extBut _ o D.TOi2.symm (e2.extBut _ o D.i12.symm (e1.extBut _ o D.i2z q));have nL:∀o,s.heap.get? l2=some o->g3.get? l2=some o:=λo q=>e3.extBut _ o D.l2TO (e2.extBut _ o D.l2i1 (e1.extBut _ o D.l2z q));refine ai (ni (h2.at nI) (hl2.at nL) hy λg4 h2' e4=>aJ ?_);have LR:IsPair g4 TO x b:=e4.extBut _ _ D.TOi2 u3;refine ai (jA LR rfl ?_);refine ai (Ji LR λg5 u5 e5=>?_)
 replace u5:IsPair g5 TO x y:=u5
 refine ai (uq (aJ (aJ ?_)));refine ai (jA u5 rfl ?_);refine ai (wpAny_newTuple ?_);have sz:g5.objs.size=s.heap.objs.size:=by rw[e5.1,e4.1,e3.1,e2.1,e1.1]
 have M3:ez g5 z TI TO .ellipsis bb:=e5.extBut _ _ D.TOz.symm (e4.extBut _ _ D.i2z.symm (e3.extBut _ _ D.TOz.symm (e2.extBut _ _ D.i1z.symm hz1)));have k5:∀c o,c≠z->c≠TO->c≠i1->c≠i2->s.heap.get? c=some o->g5.get? c=some o:=λc o q1 q2 q3 q4 q =>
  e5.extBut _ _ q2 (e4.extBut _ _ q4 (e3.extBut _ _ q2 (e2.extBut _ _ q3 (e1.extBut _ _ q1 q))))
 have h15:bu c1 g5 i1 l1 (k1+1):=h1'.at λo q=>e5.extBut _ o D.TOi1.symm (e4.extBut _ o D.i12 (e3.extBut _ o D.TOi1.symm q));have Wo:bu c2 g5 i2 l2 (k2+1):=h2'.at λo q=>e5.extBut _ o D.TOi2.symm q;have mh:z<g5.objs.size:=aS M3;show wpAny _ _ (Builtin.SmallTypes.ownedTupleHandOut (.ref z) (.ref g5.objs.size)>>=_) _ _ _;refine ai ?_;unfold Builtin.SmallTypes.ownedTupleHandOut;have XB:ez (g5.push {cls:=.type "tuple", data:=.seq #[x,y]}) z TI TO .ellipsis bb:=aV _ M3;refine ai (oC XB (by simp) λg7 CN e7=>?_)
 replace CN:ez g7 z TI TO (rawInt g5.objs.size) bb:=CN
 refine oC CN (by simp) λg8 hz8 e8=>?_
 replace hz8:IsZip g8 z TI TO (rawInt g5.objs.size):=hz8
 have up:∀c o,c≠z->g5.get? c=some o->g8.get? c=some o:=λc o q1 q=>e8.extBut _ _ q1 (e7.extBut _ _ q1 (aV _ q));have hT8:IsPair g8 g5.objs.size x y:=e8.extBut _ _ (dZ mh) (e7.extBut _ _ (dZ mh) (cn _ rfl));have z8:g8.objs.size=g5.objs.size+1:=by rw[e8.1,e7.1,eK]
 rw[sz]at hz8 hT8 z8;refine aJ ⟨_,rfl,?_⟩;show Q (.ref g5.objs.size) _;rw[sz];exact hQ g8 hz8 (up _ _ D.TOz u5) (h15.at λo q=>up _ o D.i1z q) (Wo.at λo q=>up _ o D.i2z q) hT8 z8 λc o q1 q2 q3 q4 q=>up c o q1 (k5 c o q1 q2 q3 q4 q)
theorem adX{f0:Value}{bb:Bool}{Q:Fin->Shared->Prop}(hh:A.handled=none)(D:ZipApart z TI TO i1 i2 l1 l2)(hz:ez s.heap z TI TO f0 bb)(hfree:∀{A':Around} {E':Value->Shared->Prop} {Q':Bool->Shared->Prop},Q' true s->wpAny (model prog w) A' (Builtin.SmallTypes.ownedTupleIsFree (.ref z)) Q' E' s)(hTI:IsPair s.heap TI (.ref i1) (.ref i2))(hTO:IsPair s.heap TO a b)(h1:bu c1 s.heap i1 l1 k1)(h2:bu c2 s.heap i2 l2 k2)(hl1:bI c1 s.heap l1 xs)(hl2:bI c2 s.heap l2 ys)(hend:xs[k1]?=none\/ys[k2]?=none)
  (hE:∀h' e,(∀c o,c≠z->c≠TO->c≠i1->c≠i2->s.heap.get? c=some o->h'.get? c=some o)->(∃o,h'.get? e=some o/\o.cls = .type "StopIteration")->E (.ref e) {s with heap:=h'}) :
  wpAny (model prog w) A (Builtin.«zip.__next__» ⟨[.ref z],[]⟩) Q E s:=by
 show wpAny _ _ (field (.ref z) 2>>=_) _ _ _;refine ai (eG hz rfl (x:=.bool false) rfl ?_);show wpAny _ _ (field (.ref z) 3>>=_) _ _ _;refine ai (eG hz rfl (x:=.ref TI) rfl ?_);refine ai (jA hTI rfl ?_);show wpAny _ _ (Builtin.SmallTypes.ownedTupleIsFree (.ref z)>>=_) _ _ _;refine ai (hfree ?_);simp only[jL];refine ai (qN ?_);refine ai (eG hz rfl (x:=.ref TO) rfl ?_);refine ai (oC hz (by simp) λg1 hz1 e1=>?_)
 replace hz1:ez g1 z TI TO .ellipsis bb:=hz1
 refine ai ?_;simp only[Ic,Ie,qx,qy];refine ai (ai (yz ?_));show wpAny _ _ (Builtin.SmallTypes.nextOf (.ref i1)>>=_) _ _ _;have u1:∀o,s.heap.get? i1=some o->g1.get? i1=some o:=λo q=>e1.extBut _ o D.i1z q;have u2:∀o,s.heap.get? l1=some o->g1.get? l1=some o:=λo q=>e1.extBut _ o D.l1z q;cases hx:xs[k1]? with
 |none =>
  refine ai (sC hh (h1.at u1) (hl1.at u2) hx λg2 e e2 he=>?_);obtain⟨oe,hoe,hce⟩:=he;have hz2:ez g2 z TI TO .ellipsis bb:=e2 _ _ D.i1z.symm hz1;have hez:e≠z:=λq=>by subst q;rw[hz2]at hoe;cases hoe;simp at hce
  exact oC hz2 (by simp) λg3 _ e3=>hE g3 e (λc o q1 _ q3 _ q=>e3.extBut _ _ q1 (e2 _ _ q3 (e1.extBut _ _ q1 q))) ⟨oe,e3.extBut _ _ hez hoe,hce⟩
 |some x =>
  have hy:ys[k2]?=none:=by rcases hend with h|h;rw[hx]at h;cases h;exact h
  refine ai (ni (h1.at u1) (hl1.at u2) hx λg2 h1' e2=>aJ ?_);have rP:IsPair g2 TO a b:=e2.extBut _ _ D.TOi1 (e1.extBut _ _ D.TOz hTO);refine ai (jA rP rfl ?_);refine ai (Ji rP λg3 u3 e3=>?_);refine ai (uq (aJ ?_));refine ai (ai (yz ?_));show wpAny _ _ (Builtin.SmallTypes.nextOf (.ref i2)>>=_) _ _ _;have nI:∀o,s.heap.get? i2=some o->g3.get? i2=some o:=λo q=>e3.extBut _ o D.TOi2.symm (e2.extBut _ o D.i12.symm (e1.extBut _ o D.i2z q));have nL:∀o,s.heap.get? l2=some o->g3.get? l2=some o:=λo q=>e3.extBut _ o D.l2TO (e2.extBut _ o D.l2i1 (e1.extBut _ o D.l2z q));refine ai (sC hh (h2.at nI) (hl2.at nL) hy λg4 e e4 he=>?_);obtain⟨oe,hoe,hce⟩:=he;have MT:ez g4 z TI TO .ellipsis bb:=e4 _ _ D.i2z.symm (e3.extBut _ _ D.TOz.symm (e2.extBut _ _ D.i1z.symm hz1));have hez:e≠z:=λq=>by subst q;rw[MT]at hoe;cases hoe;simp at hce
  exact oC MT (by simp) λg5 _ e5=>hE g5 e (λc o q1 q2 q3 q4 q=>e5.extBut _ _ q1 (e4 _ _ q4 (e3.extBut _ _ q2 (e2.extBut _ _ q3 (e1.extBut _ _ q1 q))))) ⟨oe,e5.extBut _ _ hez hoe,hce⟩
theorem adV{f0:Value}{bb:Bool}{Q:Option Value->Shared->Prop}(D:ZipApart z TI TO i1 i2 l1 l2)(hz:ez s.heap z TI TO f0 bb)(hfree:∀{A':Around} {E':Value->Shared->Prop} {Q':Bool->Shared->Prop},Q' true s->wpAny (model prog w) A' (Builtin.SmallTypes.ownedTupleIsFree (.ref z)) Q' E' s)(hTI:IsPair s.heap TI (.ref i1) (.ref i2))(hTO:IsPair s.heap TO a b)(h1:bu c1 s.heap i1 l1 k1)(h2:bu c2 s.heap i2 l2 k2)(hl1:bI c1 s.heap l1 xs)(hl2:bI c2 s.heap l2 ys)(hx:xs[k1]?=some x)(hy:ys[k2]?=some y)(hQ:∀h',IsZip h' z TI TO (rawInt s.heap.objs.size)->IsPair h' TO x y->bu c1 h' i1 l1 (k1+1)->bu c2 h' i2 l2 (k2+1)->IsPair h' s.heap.objs.size x y->h'.objs.size=s.heap.objs.size+1 ->
   (∀c o,c≠z->c≠TO->c≠i1->c≠i2->s.heap.get? c=some o->h'.get? c=some o)->Q (some (.ref s.heap.objs.size)) {s with heap:=h'}) :
  wpAny (model prog w) A (pyNext (.ref z)) Q E s:=by
 have hT:s.TypeIs (.ref z) "zip" :=⟨_,hz,rfl⟩;unfold pyNext;exact ai (oz (qM (name:=Str.ofString "__next__") hT mE (oA mE hT yl
  (adR D hz hfree hTI hTO h1 h2 hl1 hl2 hx hy λh' a1 a2 a3 a4 a5 a6 a7=>aJ (hQ h' a1 a2 a3 a4 a5 a6 a7)) (yj _))))
theorem adP{f0:Value}{bb:Bool}{Q:Option Value->Shared->Prop}(hh:A.handled=none)(D:ZipApart z TI TO i1 i2 l1 l2)(hz:ez s.heap z TI TO f0 bb)(hfree:∀{A':Around} {E':Value->Shared->Prop} {Q':Bool->Shared->Prop},Q' true s->wpAny (model prog w) A' (Builtin.SmallTypes.ownedTupleIsFree (.ref z)) Q' E' s)(hTI:IsPair s.heap TI (.ref i1) (.ref i2))(hTO:IsPair s.heap TO a b)(h1:bu c1 s.heap i1 l1 k1)(h2:bu c2 s.heap i2 l2 k2)(hl1:bI c1 s.heap l1 xs)(hl2:bI c2 s.heap l2 ys)(hend:xs[k1]?=none\/ys[k2]?=none)
  (hQ:∀h',(∀c o,c≠z->c≠TO->c≠i1->c≠i2->s.heap.get? c=some o->h'.get? c=some o)->Q none {s with heap:=h'}):wpAny (model prog w) A (pyNext (.ref z)) Q E s:=by
 have hT:s.TypeIs (.ref z) "zip" :=⟨_,hz,rfl⟩;unfold pyNext;refine ai (oz (qM (name:=Str.ofString "__next__") hT mE (oA mE hT yl (adX hh D hz hfree hTI hTO h1 h2 hl1 hl2 hend λh' e hk he=>?_) (yj _))));obtain⟨o,ho,hc⟩:=he;refine ai (wpAny_isInstance (T:= "StopIteration") (b:=true) ⟨o,ho,hc⟩ isSubtype_stop ?_);exact aJ (hQ _ hk)
theorem K3(hz:IsZip s.heap z TI TO .none){A':Around}{E':Value->Shared->Prop}{Q':Bool->Shared->Prop}(h:Q' true s):wpAny (model prog w) A' (Builtin.SmallTypes.ownedTupleIsFree (.ref z)) Q' E' s:=by
 unfold Builtin.SmallTypes.ownedTupleIsFree;exact ai (eG hz rfl (x:=.none) rfl (aJ h))
theorem Sn{Q:Option Value->Shared->Prop}(D:ZipApart z TI TO i1 i2 l1 l2)(hz:IsZip s.heap z TI TO .none)(hTI:IsPair s.heap TI (.ref i1) (.ref i2))(hTO:IsPair s.heap TO a b)(h1:bu c1 s.heap i1 l1 k1)(h2:bu c2 s.heap i2 l2 k2)(hl1:bI c1 s.heap l1 xs)(hl2:bI c2 s.heap l2 ys)(hx:xs[k1]?=some x)(hy:ys[k2]?=some y)(hQ:∀h',IsZip h' z TI TO (rawInt s.heap.objs.size)->IsPair h' TO x y->bu c1 h' i1 l1 (k1+1)->bu c2 h' i2 l2 (k2+1)->IsPair h' s.heap.objs.size x y->h'.objs.size=s.heap.objs.size+1 ->
   (∀c o,c≠z->c≠TO->c≠i1->c≠i2->s.heap.get? c=some o->h'.get? c=some o)->Q (some (.ref s.heap.objs.size)) {s with heap:=h'}) :
  wpAny (model prog w) A (pyNext (.ref z)) Q E s:=adV D hz (K3 hz) hTI hTO h1 h2 hl1 hl2 hx hy hQ
theorem Sl{Q:Option Value->Shared->Prop}(hh:A.handled=none)(D:ZipApart z TI TO i1 i2 l1 l2)(hz:IsZip s.heap z TI TO .none)(hTI:IsPair s.heap TI (.ref i1) (.ref i2))(hTO:IsPair s.heap TO a b)(h1:bu c1 s.heap i1 l1 k1)(h2:bu c2 s.heap i2 l2 k2)(hl1:bI c1 s.heap l1 xs)(hl2:bI c2 s.heap l2 ys)(hend:xs[k1]?=none\/ys[k2]?=none)
  (hQ:∀h',(∀c o,c≠z->c≠TO->c≠i1->c≠i2->s.heap.get? c=some o->h'.get? c=some o)->Q none {s with heap:=h'}):wpAny (model prog w) A (pyNext (.ref z)) Q E s:=adP hh D hz (K3 hz) hTI hTO h1 h2 hl1 hl2 hend hQ
end
noncomputable def Sq (b:Bool) (K:W.Frag) (H:Hp) (a:Addr) (xs:List V):Prop:=match b with
 |true=>ah K H a xs
 |false=>ax K H a xs
section
variable {X:Cx} {pins:List (Addr × Obj)} {σ:St} {H:Hp} {s:Shared} {a:Addr} {xs ys:List V} {c:Bool}
theorem Inv.sq(I:Inv X pins σ H s)(h:Sq c X.K H a xs):∃its:List Value,Vals xs its/\bI c s.heap a its.toArray/\xs.length<=sizeLine:=by
 cases c with
 |true=>obtain⟨its,r,p,z⟩:=I.list h;exact⟨its,r,p.isList,z⟩
 |false=>obtain⟨its,r,p,z⟩:=I.tuple h;exact⟨its,r,p,z⟩
theorem Inv.G5(I:Inv X pins σ H s)(h:Sq c X.K H a xs)(h':Sq c X.K H a ys):xs=ys:=by
 cases c with
 |true=>exact I.NT h h'
 |false=>exact I.He h h'
theorem Inv.eX(I:Inv X pins σ H s)(h:Sq c X.K H a xs){b:Addr}(f:cW X pins H b):a≠b:=by
 intro e;subst e;have base:∀o,X.K.lookup a=some o->False:=λo q=>by
  have e1:=I.ok.mod.jf a o q
  rcases f.2.2.2.1 with z|z
  ·exact I.ok.iL a o e1 z
  ·exact absurd (cZ (aS e1) (ck I.ok.eU z)) (dY _)
 cases c with
 |true =>
  rcases h with(h|⟨o,h⟩)|⟨o,_,_,h,_⟩
  ·rw[f.1]at h;cases h
  ·rw[f.1]at h;cases h
  ·exact base o h
 |false =>
  rcases h with(h|⟨o,h⟩)|⟨o,_,_,h,_⟩
  ·rw[f.1]at h;cases h
  ·rw[f.1]at h;cases h
  ·exact base o h
theorem Inv.R3{h':Heap}{t':Nat}{ch:List Addr}{T:Addr}{o:HO}(I:Inv X pins σ H s)(hch:∀b∈ch,cW X pins H b)
  (k:∀b u,b ∉ ch->s.heap.get? b=some u->h'.get? b=some u) (hT:s.heap.objs.size<=T) (new:bE X.prog X.w (upd H T o) h' T o):Inv X pins σ (upd H T o) {s with heap:=h',toks:=t'}:=by
 have o9:H T=none:=I.hok.fresh hT;have sD:∀b u,H b=some u->b ∉ ch:=λb u e z=>by rw[(hch b z).1]at e;cases e
 have hb:∀b u,s.heap.get? b=some u->b≠T:=λb u e=>bB (cZ (aS e) hT);refine I.step (g':=s.gens) (d':=s.drawn) (ch:=ch) (λb hb=>⟨(hch b hb).2.2.2.1,(hch b hb).2.1,(hch b hb).2.2.2.2.1,(hch b hb).2.2.2.2.2⟩) (λb u _ _ hc e _=>k b u hc e) (λb u _ _ hc e _=>⟨u.slots,k b u hc e⟩)
  (λb u _ e n=>by rw[aF (hb b u e)];exact n) (λb u hc e=>⟨u,k b u hc e⟩) (λb ys e=>by rw[aF (c6 e o9)];exact e) (λb u ys e=>by rw[aF (c6 e o9)];exact e)
  (λb ps e=>⟨#[],by rw[aF (c6 e o9),e];simp⟩) (λm hm=>?_) (λb u e=>?_) I.bare
 ·obtain⟨o',es,ep,ho,r⟩:=hm
  exact⟨o',es,ep,k _ o' (λz=>(hch _ z).2.1 rfl) ho,r⟩
 ·by_cases hbT:b=T
  ·subst hbT;rw[au]at e;cases e;exact new
  ·rw[aF hbT]at e
   refine(I.hok b u e).stay (λc v hc q=>k c v ?_ q) (λc q=>by rw[aF (c6 q o9)];exact q) (λc ys q=>by rw[aF (c6 q o9)];exact q) λc ob u q=>by rw[aF (c6 q o9)];exact q
   rcases hc with z|z
   ·rw[z];exact sD b u e
   ·exact sD c _ z
theorem Inv.R1{h':Heap}{t':Nat}{ch:List Addr}(I:Inv X pins σ H s)(hch:∀b∈ch,cW X pins H b)
  (k:∀b u,b ∉ ch->s.heap.get? b=some u->h'.get? b=some u):Inv X pins σ H {s with heap:=h',toks:=t'}:=by
 have sD:∀b u,H b=some u->b ∉ ch:=λb u e z=>by rw[(hch b z).1]at e;cases e
 refine I.step (g':=s.gens) (d':=s.drawn) (ch:=ch) (λb hb=>⟨(hch b hb).2.2.2.1,(hch b hb).2.1,(hch b hb).2.2.2.2.1,(hch b hb).2.2.2.2.2⟩) (λb u _ _ hc e _=>k b u hc e) (λb u _ _ hc e _=>⟨u.slots,k b u hc e⟩)
  (λb u _ e n=>n) (λb u hc e=>⟨u,k b u hc e⟩) (λb ys e=>e) (λb u ys e=>e) (λb ps e=>⟨#[],by rw[e];simp⟩) (λm hm=>?_) (λb u e=>?_) I.bare
 ·obtain⟨o',es,ep,ho,r⟩:=hm
  exact⟨o',es,ep,k _ o' (λz=>(hch _ z).2.1 rfl) ho,r⟩
 ·refine(I.hok b u e).stay (λc v hc q=>k c v ?_ q) (λc q=>q) (λc ys q=>q) λc ob u q=>q
  rcases hc with z|z
  ·rw[z];exact sD b u e
  ·exact sD c _ z
end
noncomputable def nY (K:W.Frag) (c1 c2:Bool) (l1 l2:Addr):It:=
 ⟨λi H=>∃xs ys x y,Sq c1 K H l1 xs/\Sq c2 K H l2 ys/\xs[i]?=some x/\ys[i]?=some y,
   λi H v H'=>∃T x y,v = .ref T/\H T=none/\H'=upd H T (.tup [x,y])/\(∀xs,Sq c1 K H l1 xs->xs[i]?=some x)/\∀ys,Sq c2 K H l2 ys->ys[i]?=some y,
   λi H=>∃xs ys,Sq c1 K H l1 xs/\Sq c2 K H l2 ys/\(xs.length<=i\/ys.length<=i)⟩
structure Jn (c1 c2:Bool) (z TI TO i1 i2 l1 l2:Addr) (i:Nat) (h:Heap):Prop where
 hz:IsZip h z TI TO .none
 ti:IsPair h TI (.ref i1) (.ref i2)
 to:∃a b,IsPair h TO a b
 h1:bu c1 h i1 l1 i
 h2:bu c2 h i2 l2 i
theorem DK{P:Program}{w:World}{H:Hp}{h:Heap}{T:Addr}{x y:V}{u v:Value}(e:IsPair h T u v)(r1:RelV x u)(r2:RelV y v):bE P w H h T (.tup [x,y]):=
 ⟨by show 2<=sizeLine;decide,[u,v],.cons r1 (.cons r2 .nil),⟨_,e,rfl,_,rfl⟩,_,e,rfl⟩
theorem adn{P:Program}{w:World}{K:W.Frag}{elts:List Expr}{k:Nat}{pos:Pos}{c1 c2:Bool}{z TI TO i1 i2:Addr}(l1 l2:Addr)(nd:TI≠z/\TO≠z/\i1≠z/\i2≠z/\TI≠TO/\TI≠i1/\TI≠i2/\TO≠i1/\TO≠i2/\i1≠i2):Turn P w K (.Tuple elts k pos) (nY K c1 c2 l1 l2) [z,TI,TO,i1,i2] z (Jn c1 c2 z TI TO i1 i2 l1 l2) where
 mem:=by simp
 obj:=λi h st b hb=>by
  have fld:∀{a:Addr} {o:Obj},h.get? a=some o->(∀v,o.data≠.cell v)->∃o,h.get? a=some o/\∀v,o.data≠.cell v:=λe d=>⟨_,e,d⟩;simp only[bp,fe,fq]at hb
  rcases hb with rfl|rfl|rfl|rfl|rfl
  ·exact⟨_,st.hz,λv q=>by cases(show Data.fields _=Data.cell v from q)⟩
  ·exact⟨_,st.ti,λv q=>by cases(show Data.seq _ _=Data.cell v from q)⟩
  ·obtain⟨_,_,e⟩:=st.to
   exact⟨_,e,λv q=>by cases(show Data.seq _ _=Data.cell v from q)⟩
  ·exact st.h1.obj
  ·exact st.h2.obj
 keep:=λi h h' st kk=>⟨kk z (by simp) _ st.hz,kk TI (by simp) _ st.ti,let⟨a,b,e⟩:=st.to;⟨a,b,kk TO (by simp) _ e⟩,st.h1.at λo e=>kk i1 (by simp) o e,st.h2.at λo e=>kk i2 (by simp) o e⟩
 item:=by
  intro X hP hw hK hc i pins s σ H E I hf st hg;subst hP hw hK;obtain⟨xs,ys,x,y,q1,q2,hx,hy⟩:=hg;obtain⟨r0,pX,p1,z1⟩:=I.sq q1;obtain⟨r9,pZ,p2,z2⟩:=I.sq q2;obtain⟨u,hu,ru⟩:=pX.get hx;obtain⟨v,hv,rv⟩:=pZ.get hy;obtain⟨a,b,hTO⟩:=st.to;obtain⟨n1,n2,n3,n4,n5,n6,n7,n8,n9,n10⟩:=nd;have D:ZipApart z TI TO i1 i2 l1 l2:=⟨n1,n2,n3,n4,n5,n6,n7,n8,n9,n10,I.eX q1 (hf z (by simp)),I.eX q1 (hf TO (by simp)),I.eX q1 (hf i1 (by simp)),I.eX q1 (hf i2 (by simp)),
   I.eX q2 (hf z (by simp)),I.eX q2 (hf TO (by simp)),I.eX q2 (hf i1 (by simp)),I.eX q2 (hf i2 (by simp))⟩
  refine Sn D st.hz st.ti hTO st.h1 st.h2 p1 p2 (by simpa using hu) (by simpa using hv) λh' a1 a2 a3 a4 a5 a6 a7=>?_;refine⟨_,rfl,wpAny_letOwnedTupleGo_zip a1 λh2 b1 b2=>?_⟩;have hzlt:z<s.heap.objs.size:=aS st.hz;have Wz:IsPair h2 TI (.ref i1) (.ref i2):=b2.extBut _ _ n1 (a7 _ _ n1 n5 n6 n7 st.ti);have keep:∀b u,b ∉ [z,TO,i1,i2]->s.heap.get? b=some u->h2.get? b=some u:=λb u hb e=>by
   simp only[bp,fe,fq,not_or]at hb;exact b2.extBut _ _ hb.1 (a7 b u hb.1 hb.2.1 hb.2.2.1 hb.2.2.2 e)
  have hT2:IsPair h2 s.heap.objs.size u v:=b2.extBut _ _ (dZ hzlt) a5;have G9:∀b∈[z,TO,i1,i2],b∈[z,TI,TO,i1,i2]:=λb hb=>by
   simp only[bp,fe,fq]at hb ⊢
   rcases hb with h|h|h|h<;>simp[h]
  have I2:Inv X pins σ (upd H s.heap.objs.size (.tup [x,y])) {s with heap:=h2,toks:=s.toks}:=
   I.R3 (λb hb=>hf b (G9 b hb)) keep (aY _) (DK hT2 ru rv)
  refine⟨.ref s.heap.objs.size,_,I2,rfl,⟨_,x,y,rfl,I.fresh,rfl,λzs hz=>by rw[I.G5 hz q1];exact hx,λzs hz=>by rw[I.G5 hz q2];exact hy⟩,
   ⟨b1,Wz,⟨u,v,b2.extBut _ _ n2 a2⟩,a3.at λo e=>b2.extBut _ o n3 e,a4.at λo e=>b2.extBut _ o n4 e⟩,λb hb=>?_⟩
  have hlt:b<s.heap.objs.size:=by
   have live:∀b∈[z,TI,TO,i1,i2],b<s.heap.objs.size:=λb hb=>by
    simp only[bp,fe,fq]at hb
    rcases hb with rfl|rfl|rfl|rfl|rfl
    ·exact hzlt
    ·exact aS st.ti
    ·exact aS hTO
    ·obtain⟨o,e,_⟩:=st.h1.obj;exact aS e
    ·obtain⟨o,e,_⟩:=st.h2.obj;exact aS e
   exact live b hb
  rw[aF (bB hlt)];exact(hf b hb).1
 done:=by
  intro X hP hw hK hc i pins s σ H E I hf st hg;subst hP hw hK;obtain⟨xs,ys,q1,q2,hend⟩:=hg;obtain⟨r0,pX,p1,z1⟩:=I.sq q1;obtain⟨r9,pZ,p2,z2⟩:=I.sq q2;obtain⟨a,b,hTO⟩:=st.to;obtain⟨n1,n2,n3,n4,n5,n6,n7,n8,n9,n10⟩:=nd;have D:ZipApart z TI TO i1 i2 l1 l2:=⟨n1,n2,n3,n4,n5,n6,n7,n8,n9,n10,I.eX q1 (hf z (by simp)),I.eX q1 (hf TO (by simp)),I.eX q1 (hf i1 (by simp)),I.eX q1 (hf i2 (by simp)),
   I.eX q2 (hf z (by simp)),I.eX q2 (hf TO (by simp)),I.eX q2 (hf i1 (by simp)),I.eX q2 (hf i2 (by simp))⟩
  have e1:=pX.length;have e2:=pZ.length;have hend':r0.toArray[i]?=none\/r9.toArray[i]?=none:=by
   rcases hend with h|h
   ·exact .inl (by simp;omega)
   ·exact .inr (by simp;omega)
  refine Sl (I.ok.hd hc) D st.hz st.ti hTO st.h1 st.h2 p1 p2 hend' λh' kk=>⟨rfl,?_⟩;have G9:∀b∈[z,TO,i1,i2],b∈[z,TI,TO,i1,i2]:=λb hb=>by
   simp only[bp,fe,fq]at hb ⊢
   rcases hb with h|h|h|h<;>simp[h]
  exact I.R1 (t':=s.toks) (ch:=[z,TO,i1,i2]) (λb hb=>hf b (G9 b hb)) λb u hb e=>by
   simp only[bp,fe,fq,not_or]at hb;exact kk b u hb.1 hb.2.1 hb.2.2.1 hb.2.2.2 e
 self:=λ_ _ _ _ _ st h=>Jh st.hz h
noncomputable def iI (c:Bool) (l:Addr):Obj:={cls:=.type (match c with|true => "list_iterator" |false => "tuple_iterator"),data:=.fields #[.ref l,.int 0 0]}
theorem G4{c:Bool}{h:Heap}{it l:Addr}(e:h.get? it=some (iI c l)):bu c h it l 0:=by
 cases c with
 |true=>exact⟨_,e,rfl,rfl⟩
 |false=>exact⟨_,e,rfl,rfl⟩
section
variable {prog:Program} {w:World} {A:Around} {E:Value->Shared->Prop} {s:Shared}
theorem sf{c:Bool}{l:Addr}{items:Array Value}{Q:Value->Shared->Prop}(hl:bI c s.heap l items)
  (hQ:Q (.ref s.heap.objs.size) {s with heap:=s.heap.push (iI c l)}):wpAny (model prog w) A (pyIter (.ref l)) Q E s:=by
 cases c with
 |true=>exact uw hl hQ
 |false=>exact Jg hl hQ
end
abbrev xA (c1:Bool) (h:Heap) (l1:Addr):Heap:=h.push (iI c1 l1)
abbrev xB (c1 c2:Bool) (h:Heap) (l1 l2:Addr):Heap:=(xA c1 h l1).push (iI c2 l2)
abbrev xC (c1 c2:Bool) (h:Heap) (l1 l2:Addr):Heap:=(xB c1 c2 h l1 l2).push {cls:=.type "tuple", data:=.seq #[.ref h.objs.size,.ref (xA c1 h l1).objs.size]}
abbrev xD (c1 c2:Bool) (h:Heap) (l1 l2:Addr):Heap:=(xC c1 c2 h l1 l2).push {cls:=.type "tuple", data:=.seq #[.none,.none]}
abbrev nQ (c1 c2:Bool) (h:Heap) (l1 l2:Addr):Heap:=(xD c1 c2 h l1 l2).push {cls:=.type "zip", data:=.fields #[.none,.bool false,.bool false,.ref (xB c1 c2 h l1 l2).objs.size,.ref (xC c1 c2 h l1 l2).objs.size]}
theorem Y3(c1 c2:Bool)(l1 l2:Addr)(xs ys:Array Value):
  Meets (Builtin.«zip.__new__» ⟨[.type "zip", .ref l1,.ref l2],[]⟩) (λ_ R s=>bI c1 s.heap l1 xs/\bI c2 s.heap l2 ys /\
   R (.ok (.ret (.ref (xD c1 c2 s.heap l1 l2).objs.size))) {s with heap:=nQ c1 c2 s.heap l1 l2}):=
 .of_wp λprog w A R s h=>by
  obtain⟨hp,g,d,tk,os⟩:=s;obtain⟨hl1,hl2,h⟩:=h;have hsub:=sub_zip;have hL1:bI c1 (Shared.heap ⟨hp,g,d,tk,os⟩) l1 xs:=hl1;have hL2:bI c2 (Shared.heap ⟨hp.push (iI c1 l1),g,d,tk,os⟩) l2 ys:=hl2.at λo e=>aV _ e
  wp_walk using sf hL1,sf hL2
  exact⟨_,rfl,h⟩
section
variable {prog:Program} {w:World} {A:Around} {E:Value->Shared->Prop} {s:Shared}
theorem JM{c1 c2:Bool}{l1 l2:Addr}{xs ys:Array Value}{Q:Value->Shared->Prop}(hl1:bI c1 s.heap l1 xs)(hl2:bI c2 s.heap l2 ys)(h:∀h',Jn c1 c2 (s.heap.objs.size+4) (s.heap.objs.size+2) (s.heap.objs.size+3) s.heap.objs.size (s.heap.objs.size+1) l1 l2 0 h'->h'.objs.size=s.heap.objs.size+5 ->
   (∀c o,s.heap.get? c=some o->h'.get? c=some o)->Q (.ref (s.heap.objs.size+4)) {s with heap:=h'}) :
  wpAny (model prog w) A (call (.type "zip") [.ref l1,.ref l2]) Q E s:=by
 refine callType_new F.called_zip (by decide) (F.typeCall_zip_2 _ _) (F.newCall_zip_2 _ _) (λobj=>F.args_object_init_3 obj _ _) F.entry_zip_new (Y3 c1 c2 l1 l2 xs ys) ⟨hl1,hl2,?_⟩;have z1:(xA c1 s.heap l1).objs.size=s.heap.objs.size+1:=eK ..;have z2:(xB c1 c2 s.heap l1 l2).objs.size=s.heap.objs.size+2:=by rw[eK,z1]
 have z3:(xC c1 c2 s.heap l1 l2).objs.size=s.heap.objs.size+3:=by rw[eK,z2]
 have z4:(xD c1 c2 s.heap l1 l2).objs.size=s.heap.objs.size+4:=by rw[eK,z3]
 have z5:(nQ c1 c2 s.heap l1 l2).objs.size=s.heap.objs.size+5:=by rw[eK,z4]
 have g5:(nQ c1 c2 s.heap l1 l2).get? (xD c1 c2 s.heap l1 l2).objs.size=some _:=cn _ rfl;have g4:(nQ c1 c2 s.heap l1 l2).get? (xC c1 c2 s.heap l1 l2).objs.size=some _:=aV _ (cn _ rfl);have g3:(nQ c1 c2 s.heap l1 l2).get? (xB c1 c2 s.heap l1 l2).objs.size=some _:=aV _ (aV _ (cn _ rfl));have g2:(nQ c1 c2 s.heap l1 l2).get? (xA c1 s.heap l1).objs.size=some _:=aV _ (aV _ (aV _ (cn _ rfl)));have g1:(nQ c1 c2 s.heap l1 l2).get? s.heap.objs.size=some _:=aV _ (aV _ (aV _ (aV _ (cn _ rfl))));show _/\_;rw[z2,z3,z4]at g5;rw[z1,z2]at g3;rw[z3]at g4;rw[z1]at g2;rw[z4];exact⟨⟨_,g5,rfl⟩,h _ ⟨g5,g3,⟨_,_,g4⟩,G4 g1,G4 g2⟩ z5 λc o x =>
  aV _ (aV _ (aV _ (aV _ (aV _ x))))⟩
end
section
variable {X:Cx} {elts:List Expr} {k:Nat} {tpos:Pos}
def M9(K:W.Frag)(c1 c2:Bool)(ta:TA):TI:=λσ H R=>ta σ H λvs H1=>∃l1 l2 xs ys,vs = [.ref l1,.ref l2]/\Sq c1 K H1 l1 xs/\Sq c2 K H1 l2 ys/\R (nY K c1 c2 l1 l2) H1
theorem abx (c1 c2:Bool) {a b:Expr} {ta:TA} {p pos:Pos} (hg:Gl X "zip") (hm:X.mg "zip" = none) (ha:PA X [a,b] ta) (hs:starEach [a,b] X.env = [(false,eval a X.env),(false,eval b X.env)]:=by rfl) (hs2:starEach [b] X.env = [(false,eval b X.env)]:=by rfl) :
  PI X (.Tuple elts k tpos) (.Call (.Name "zip" p) [a,b] [] pos) (M9 X.K c1 c2 ta):=by
 intro pins s σ H R I h;refine Call_ (jN I hg hm (show bootBuiltins "zip" = some (.type "zip")by trivial) (ox (aM (ha pos pins s σ H _ I h) λus s1 ⟨vs,H1,I1,r1,q1⟩=>?_) (by rw[hs,hs2]) (by rw[hs2];rfl)));obtain⟨l1,l2,xs,ys,e,q1,q2,q⟩:=q1;subst e;obtain⟨u,v,rfl,ru,rv⟩:=Vals.two r1;cases ru;cases rv;obtain⟨r0,_,p1,_⟩:=I1.sq q1;obtain⟨r9,_,p2,_⟩:=I1.sq q2;refine JM p1 p2 λh' zr hz hk=>Jh zr.hz ?_;have I2:Inv X pins σ H1 {s1 with heap:=h',toks:=s1.toks}:=I1.kept hk;have nd:∀n:Nat,n+2≠n+4/\n+3≠n+4/\n≠n+4/\n+1≠n+4/\n+2≠n+3/\n+2≠n/\n+2≠n+1/\n+3≠n/\n+3≠n+1/\n≠n+1:=λn=>by omega
 refine⟨_,_,_,_,H1,rfl,I2,adn l1 l2 (nd s1.heap.objs.size),zr,λb hb=>?_,q⟩;simp only[bp,fe,fq]at hb;have ge:s1.heap.objs.size<=b:=by rcases hb with rfl|rfl|rfl|rfl|rfl<;>omega
 exact I1.oZ ge (I1.hok.fresh ge)
end
theorem Ko{prog:Program}{w:World}{A:Around}(hh:A.handled=none)(c:Bool)(it l:Addr)(hne:l≠it)(items:Array Value):Draws prog w A it [it,l] items.size (λi v=>items[i]?=some v) (λi h=>bu c h it l i/\bI c h l items) where
 live:=λ_ _ st=>let⟨o,ho,_⟩:=st.1.obj;⟨o,ho⟩
 frame:=λ_ _ _ st hk=>⟨st.1.at λo e=>hk it (by simp) o e,st.2.at λo e=>hk l (by simp) o e⟩
 item:=λi s Q E hi st hQ=>ni st.1 st.2 (x:=items[i]) (by simp[hi]) λh' hit' hs'=>hQ _ h' s.toks (by simp[hi]) ⟨hit',st.2.at λo e=>hs'.extBut _ o hne e⟩ hs'
 done:=λs Q E st hE=>sC hh st.1 st.2 (by simp) hE
theorem Y2(c:Bool)(l:Addr)(items:Array Value):
  Meets (Builtin.«enumerate.__new__» ⟨[.type "enumerate", .ref l],[]⟩) (λ_ R s=>bI c s.heap l items /\
   R (.ok (.ret (.ref (s.heap.push (iI c l)).objs.size))) {s with heap:=(s.heap.push (iI c l)).push {cls:=.type "enumerate", data:=.fields #[.none,.bool false,.ref s.heap.objs.size,rawInt 0,.none,.none]}}):=
 .of_wp λprog w A R s h=>by
  obtain⟨hp,g,d,tk,os⟩:=s;obtain⟨hl,h⟩:=h;have hsub:=sub_enumerate;have hL:bI c (Shared.heap ⟨hp,g,d,tk,os⟩) l items:=hl
  wp_walk
  refine wpAny_stack_any λst=>aJ ?_
  split
  ·rename_i cc _ _ _ _ _
   cases(cc==Value.type "enumerate")
   ·wp_walk using sf hL
    exact⟨_,rfl,h⟩
   ·wp_walk using sf hL
    exact⟨_,rfl,h⟩
  ·wp_walk using sf hL
   exact⟨_,rfl,h⟩
structure Hx (c:Bool) (e it l:Addr) (i:Nat) (h:Heap):Prop where
 he:∃old,IsEnum h e it i old
 h1:bu c h it l i
theorem T1{prog:Program}{w:World}{A:Around}{E:Value->Shared->Prop}{s:Shared}{c:Bool}{l:Addr}{items:Array Value}{Q:Value->Shared->Prop}(hl:bI c s.heap l items)
  (h:∀h',Hx c (s.heap.objs.size+1) s.heap.objs.size l 0 h'->h'.objs.size=s.heap.objs.size+2->(∀b o,s.heap.get? b=some o->h'.get? b=some o)->Q (.ref (s.heap.objs.size+1)) {s with heap:=h'}) :
  wpAny (model prog w) A (call (.type "enumerate") [.ref l]) Q E s:=by
 refine callType_new F.called_enumerate (by decide) (F.typeCall_enumerate_1 _) (F.newCall_enumerate_1 _) (λobj=>F.args_object_init_2 obj _) F.entry_enumerate_new (Y2 c l items) ⟨hl,?_⟩;have hz:(s.heap.push (iI c l)).objs.size=s.heap.objs.size+1:=eK ..;have g2:((s.heap.push (iI c l)).push {cls:=.type "enumerate", data:=.fields #[.none,.bool false,.ref s.heap.objs.size,rawInt 0,.none,.none]}).get? (s.heap.push (iI c l)).objs.size=some _:=cn _ rfl;have g1:((s.heap.push (iI c l)).push {cls:=.type "enumerate", data:=.fields #[.none,.bool false,.ref s.heap.objs.size,rawInt 0,.none,.none]}).get? s.heap.objs.size=some (iI c l):=aV _ (cn _ rfl);show _/\_;rw[hz]at g2 ⊢;exact⟨⟨_,g2,rfl⟩,h _ ⟨⟨.none,g2⟩,G4 g1⟩ (by rw[eK,hz]) λb o e=>aV _ (aV _ e)⟩
noncomputable def Ite (K:W.Frag) (c:Bool) (l:Addr):It:=
 ⟨λi H=>∃xs x,Sq c K H l xs/\xs[i]?=some x,
   λi H v H'=>∃T x,v = .ref T/\H T=none/\H'=upd H T (.tup [.int i,x])/\∀xs,Sq c K H l xs->xs[i]?=some x,
   λi H=>∃xs,Sq c K H l xs/\xs.length=i⟩
theorem adh{P:Program}{w:World}{K:W.Frag}{elts:List Expr}{k:Nat}{pos:Pos}{c:Bool}{e it:Addr}(l:Addr)(ne:e≠it):Turn P w K (.Tuple elts k pos) (Ite K c l) [e,it] e (Hx c e it l) where
 mem:=by simp
 obj:=λi h st b hb=>by
  simp only[bp,fe,fq]at hb
  rcases hb with rfl|rfl
  ·obtain⟨old,q⟩:=st.he
   exact⟨_,q,λv q=>by cases(show Data.fields _=Data.cell v from q)⟩
  ·exact st.h1.obj
 keep:=λi h h' st kk=>⟨let⟨old,q⟩:=st.he;⟨old,kk e (by simp) _ q⟩,st.h1.at λo q=>kk it (by simp) o q⟩
 item:=by
  intro X hP hw hK hc i pins s σ H E I hf st hg;subst hP hw hK;obtain⟨xs,x,q1,hx⟩:=hg;obtain⟨its,rv,p,z⟩:=I.sq q1;obtain⟨u,hu,ru⟩:=rv.get hx;obtain⟨old,he⟩:=st.he;have n1:l≠e:=I.eX q1 (hf e (by simp));have n2:l≠it:=I.eX q1 (hf it (by simp));have hil:i<its.length:=by rw[<- rv.length];exact(bJ.mp hx).1
  have hh:X.A.in1.handled=none:=I.ok.hd hc;refine wpAny_pyNext_enum_itemD (Ko hh c it l n2 its.toArray) he ⟨st.h1,p⟩ (by simpa using hil) ne (by simp[ne,bP n1]) λx' h' tk hP ho hs' hT hsz hk=>?_;have ex:x'=u:=by
   have hu':its.toArray[i]?=some u:=by simpa using hu
   rw[hu']at hP;exact(dg hP).symm
  subst ex;refine⟨_,rfl,wpAny_letOwnedTupleGo_enum ho λh2 b1 b2=>?_⟩;have elt:e<s.heap.objs.size:=aS he;obtain⟨oi,ei,_⟩:=st.h1.obj;have XJ:it<s.heap.objs.size:=aS ei;have keep:∀b u,b ∉ [e,it]->s.heap.get? b=some u->h2.get? b=some u:=λb u hb q=>by
   simp only[bp,fe,fq,not_or]at hb;exact b2.extBut _ _ hb.1 (hk b u hb.1 hb.2 q)
  have hT2:IsPair h2 s.heap.objs.size (.int i tk) x':=b2.extBut _ _ (dZ elt) hT;have I2:Inv X pins σ (upd H s.heap.objs.size (.tup [.int i,x])) {s with heap:=h2,toks:=tk+1}:=I.R3 hf keep (aY _) (DK hT2 ⟨tk,rfl⟩ ru);refine⟨.ref s.heap.objs.size,_,I2,rfl,⟨_,x,rfl,I.fresh,rfl,λzs hz=>by rw[I.G5 hz q1];exact hx⟩,⟨⟨x',by simpa using b1⟩,hs'.1.at λo q=>b2.extBut _ o (bP ne) q⟩,λb hb=>?_⟩;have hlt:b<s.heap.objs.size:=by
   simp only[bp,fe,fq]at hb
   rcases hb with rfl|rfl
   ·exact elt
   ·exact XJ
  rw[aF (bB hlt)];exact(hf b hb).1
 done:=by
  intro X hP hw hK hc i pins s σ H E I hf st hg;subst hP hw hK;obtain⟨xs,q1,hend⟩:=hg;obtain⟨its,rv,p,z⟩:=I.sq q1;obtain⟨old,he⟩:=st.he;have n2:l≠it:=I.eX q1 (hf it (by simp));have el:i=its.toArray.size:=by rw[<- hend,rv.length];simp
  have hh:X.A.in1.handled=none:=I.ok.hd hc;refine wpAny_pyNext_enum_endD (Ko hh c it l n2 its.toArray) he (by rw[<- el];exact⟨st.h1,p⟩) λh' hx=>⟨rfl,?_⟩;exact I.R1 (t':=s.toks) (ch:=[e,it]) hf λb u hb q=>by
   simp only[bp,fe,fq,not_or]at hb;exact hx b u hb.2 q
 self:=λ_ _ _ _ _ st h=>let⟨_,he⟩:=st.he;wpAny_pyIter_enum he h
section
variable {X:Cx} {elts:List Expr} {k:Nat} {tpos:Pos}
def M6(K:W.Frag)(c:Bool)(ta:TA):TI:=λσ H R=>ta σ H λvs H1=>∃l xs,vs = [.ref l]/\Sq c K H1 l xs/\R (Ite K c l) H1
theorem abr (c:Bool) {a:Expr} {ta:TA} {p pos:Pos} (hg:Gl X "enumerate") (hm:X.mg "enumerate" = none) (ha:PA X [a] ta) (hs:starEach [a] X.env = [(false,eval a X.env)]:=by rfl) :
  PI X (.Tuple elts k tpos) (.Call (.Name "enumerate" p) [a] [] pos) (M6 X.K c ta):=by
 intro pins s σ H R I h;refine Call_ (jN I hg hm (show bootBuiltins "enumerate" = some (.type "enumerate")by trivial) (ox (aM (ha pos pins s σ H _ I h) λus s1 ⟨vs,H1,I1,r1,q1⟩=>?_) hs rfl));obtain⟨l,xs,e,q1,q⟩:=q1;subst e;obtain⟨u,rfl,ru⟩:=Vals.one r1;cases ru;obtain⟨its,_,p1,_⟩:=I1.sq q1;refine T1 p1 λh' er hz hk=>let⟨_,he⟩:=er.he;wpAny_pyIter_enum he ?_
 have I2:Inv X pins σ H1 {s1 with heap:=h',toks:=s1.toks}:=I1.kept hk;refine⟨_,_,_,_,H1,rfl,I2,adh l (show s1.heap.objs.size+1≠s1.heap.objs.size by omega),er,λb hb=>?_,q⟩;simp only[bp,fe,fq]at hb;have ge:s1.heap.objs.size<=b:=by rcases hb with rfl|rfl<;>omega
 exact I1.oZ ge (I1.hok.fresh ge)
end
theorem Same.put{H:Hp}{a:Addr}{o:HO}(h:H a=none):Same H (upd H a o):=λb u e=>by rw[aF (c6 e h)];exact e
def dQ(D:Addr)(H H':Hp):Prop:=∀b o,b≠D->H b=some o->H' b=some o
theorem Same.x{H H':Hp}(s:Same H H')(D:Addr):dQ D H H':=λb o _ e=>s b o e
theorem dQ.put{D:Addr}{H:Hp}{o:HO}:dQ D H (upd H D o):=λb u hb e=>by rw[aF hb];exact e
theorem dQ.trans{D:Addr}{H H1 H2:Hp}(a:dQ D H H1)(b:dQ D H1 H2):dQ D H H2:=λc o hc e=>b c o hc (a c o hc e)
theorem dQ.of{D:Addr}{H H':Hp}(h:H D=none)(s:dQ D H H'):Same H H':=λb o e=>s b o (c6 e h) e
theorem Same.sq{K:W.Frag}{H H':Hp}{a:Addr}{xs:List V}{c:Bool}(e:Same H H')(h:Sq c K H a xs):Sq c K H' a xs:=by
 cases c with
 |true=>exact e.seq h
 |false =>
  rcases h with(h|⟨o,h⟩)|h
  ·exact .inl (.inl (e _ _ h))
  ·exact .inl (.inr ⟨o,e _ _ h⟩)
  ·exact .inr h
theorem Same.nB{K:W.Frag}{H H':Hp}{a:Addr}{xs:List V}(e:Same H H')(h:ax K H a xs):ax K H' a xs:=e.sq (c:=false) h
structure iY (J:It) (g:TG) (σ₀:St) (H1:Hp) (n:Nat) (sl:Nat->St):Prop where
 go:∀i H,i<n->Same H1 H->J.go i H
 stop:∀H,Same H1 H->J.stop n H
 step:∀i H x H' (K:St->Hp->Prop),i<n->Same H1 H->J.kK i H x H'->(∀H2,Same H H2->K (sl i) H2)->g x σ₀ H' λσ2 H2=>Wk σ₀ σ2/\K σ2 H2
theorem src_range{lo:Int}{n:Nat}{ρ:St}{H1:Hp}:iY (kO lo n) (cD 0) (none::ρ) H1 n (λi=>some (.int (lo+i))::ρ) where
 go:=λi H hi _=>hi
 stop:=λH _=>aY n
 step:=λi H x H' K hi hs hy hk=>by
  obtain⟨rfl,rfl⟩:=hy;exact⟨Wk.set (Wk.refl _) rfl,hk _ (Same.refl _)⟩
theorem src_list{K:W.Frag}{a:Addr}{xs:List V}{ρ:St}{H1:Hp}(h:ah K H1 a xs):iY (kN K a) (cD 0) (none::ρ) H1 xs.length (λi=>some (xs.getD i .non)::ρ) where
 go:=λi H hi hs=>⟨xs,xs[i],hs.seq h,aA hi⟩
 stop:=λH hs=>⟨xs,hs.seq h,aY _⟩
 step:=λi H x H' K hi hs hy hk=>by
  obtain⟨rfl,hx⟩:=hy;have e:=hx xs (hs.seq h);have e2:xs.getD i .non=x:=by rw[aQ,e];rfl
  refine⟨Wk.set (Wk.refl _) rfl,?_⟩;have:=hk _ (Same.refl _);rw[e2]at this;exact this
theorem Rv{K:W.Frag}{a:Addr}{xs:List V}{ρ:St}{H1:Hp}(h:ax K H1 a xs):iY (mw K a) (cD 0) (none::ρ) H1 xs.length (λi=>some (xs.getD i .non)::ρ) where
 go:=λi H hi hs=>⟨xs,xs[i],hs.nB h,aA hi⟩
 stop:=λH hs=>⟨xs,hs.nB h,aY _⟩
 step:=λi H x H' K hi hs hy hk=>by
  obtain⟨rfl,hx⟩:=hy;have e:=hx xs (hs.nB h);have e2:xs.getD i .non=x:=by rw[aQ,e];rfl
  refine⟨Wk.set (Wk.refl _) rfl,?_⟩;have:=hk _ (Same.refl _);rw[e2]at this;exact this
theorem tj{K:W.Frag}{c1 c2:Bool}{a b:Addr}{xs ys:List V}{n:Nat}{ρ:St}{H1:Hp}(h1:Sq c1 K H1 a xs)(h2:Sq c2 K H1 b ys)(hn:n=min xs.length ys.length):iY (nY K c1 c2 a b) (rF K 2 (mX (cD 0) (mX (cD 1) uV))) (none::none::ρ) H1 n (λi=>some (xs.getD i .non)::some (ys.getD i .non)::ρ) where
 go:=λi H hi hs=>⟨xs,ys,xs[i]'(by omega),ys[i]'(by omega),hs.sq h1,hs.sq h2,aA (by omega),aA (by omega)⟩
 stop:=λH hs=>⟨xs,ys,hs.sq h1,hs.sq h2,by omega⟩
 step:=λi H v H' Kk hi hs hy hk=>by
  obtain⟨T,x,y,rfl,hT,rfl,hx,hy⟩:=hy;have e1:=hx xs (hs.sq h1);have e2:=hy ys (hs.sq h2);have e3:xs.getD i .non=x:=by rw[aQ,e1];rfl
  have e4:ys.getD i .non=y:=by rw[aQ,e2];rfl
  refine⟨T,[x,y],rfl,.inl (.inl au),rfl,x,[y],rfl,y,[],rfl,rfl,?_⟩;have:=hk (upd H T (.tup [x,y])) (Same.put hT);rw[e3,e4]at this;exact⟨Wk.set (Wk.set (Wk.refl _) rfl) rfl,this⟩
theorem Paired.Rt{α β:Type}{F:α->β->Prop}{l₁:List α}{l₂:List β}{a:α}{b:β}(r:Paired F l₁ l₂)(h:F a b):Paired F (l₁++[a]) (l₂++[b]):=yq r h
theorem zB{J:It}{g:TG}{tc:TT}{te:TE}{σ₀:St}{D:Addr}{Q:Hp->Prop}{H1:Hp}{n:Nat}{sl:Nat->St}(keep:Nat->Bool)(Rl:Nat->V->Hp->Prop)(S:iY J g σ₀ H1 n sl)(hD:H1 D=none)(hn:n<sizeLine)(mono:∀i v H H',dQ D H H'->Rl i v H->Rl i v H')(step:∀i H (Kt:V->Hp->Prop) (Kf:Hp->Prop),i<n->Same H1 H->(∃ys,H D=some (.lst ys))->(∀v H',keep i=true->Same H H'->Rl i v H'->Kt v H')->(∀H',keep i=false->Same H H'->Kf H') ->
   tc (sl i) H λb H3=>if b=true then te (sl i) H3 Kt else Kf H3)
  (fin:∀H' ys,Same H1 H'->H' D=some (.lst ys)->Paired (λi v=>Rl i v H') ((List.range n).filter keep) ys->Q H'):jX J g tc te σ₀ D Q (upd H1 D (.lst [])):=by
 refine⟨λi m ys H=>m=n - i/\i<=n/\Same H1 H/\H D=some (.lst ys)/\Paired (λi v=>Rl i v H) ((List.range i).filter keep) ys,⟨n,by omega,by omega,Same.put hD,au,.nil⟩,?_⟩;rintro i m ys H ⟨hm,hi,hs,hl,hp⟩;have hlen:ys.length<=i:=by
  have:=cp hp;rw[<- this];exact ck (qB _ _) (by simp)
 by_cases e:i=n
 ·subst e
  exact .inl ⟨S.stop H hs,fin H ys hs hl hp⟩
 ·have hin:i<n:=by omega
  refine .inr ⟨S.go i H hin hs,λys' H'=>i+1<=n/\Same H1 H'/\H' D=some (.lst ys')/\Paired (λi v=>Rl i v H') ((List.range (i+1)).filter keep) ys',λys' H' h=>⟨n - (i+1),by omega,rfl,h⟩,λx H' hy=>?_⟩;refine S.step i H x H' (λσ2 H2=>tc σ2 H2 λb H3=>if b=true then te σ2 H3 λy H4=>H4 D=some (.lst ys)/\ys.length<sizeLine/\_ else _) hin hs hy λH2 s2=>?_;have up:∀{H':Hp},Same H2 H'->Paired (λi v=>Rl i v H') ((List.range i).filter keep) ys:=λ{H'} s'=>Paired.di hp λa b r=>mono a b _ _ ((s2.trans s').x D) r;refine step i H2 _ _ hin (hs.trans s2) ⟨ys,s2 _ _ hl⟩ (λv H4 hk s4 r=>?_) λH4 hk s4=>?_
  ·have cM:H4 D=some (.lst ys):=s4 _ _ (s2 _ _ hl)
   refine⟨cM,by omega,hin,?_,au,?_⟩
   ·exact dQ.of hD (((hs.trans (s2.trans s4)).x D).trans dQ.put)
   ·rw[iU,qu]
    have e1:[i].filter keep = [i]:=by simp[hk]
    rw[e1];exact yq (Paired.di (up s4) λa b q=>mono a b _ _ dQ.put q) (mono _ _ _ _ dQ.put r)
  ·refine⟨hin,hs.trans (s2.trans s4),s4 _ _ (s2 _ _ hl),?_⟩
   rw[iU,qu];have e1:[i].filter keep = []:=by simp[hk]
   rw[e1,iA];exact up s4
theorem O7{α:Type}{f:α->V}:∀{l:List α} {ys:List V},Paired (λi v=>v=f i) l ys->ys=l.map f
 |_,_,.nil=>rfl
 |_,_,.cons h t=>by rw[h,O7 t];rfl
theorem mU{J:It}{g:TG}{tc:TT}{te:TE}{σ₀:St}{D:Addr}{Q:Hp->Prop}{H1:Hp}{n:Nat}{sl:Nat->St}(keep:Nat->Bool)(f:Nat->V)(S:iY J g σ₀ H1 n sl)(hD:H1 D=none)(hn:n<sizeLine)(step:∀i H (Kt:V->Hp->Prop) (Kf:Hp->Prop),i<n->Same H1 H->(∀H',keep i=true->Same H H'->Kt (f i) H')->(∀H',keep i=false->Same H H'->Kf H') ->
   tc (sl i) H λb H3=>if b=true then te (sl i) H3 Kt else Kf H3)
  (fin:∀H',Same H1 H'->H' D=some (.lst (((List.range n).filter keep).map f))->Q H'):jX J g tc te σ₀ D Q (upd H1 D (.lst [])):=
 zB keep (λi v _=>v=f i) S hD hn (λ_ _ _ _ _ h=>h) (λi H Kt Kf hi hs _ h1 h2=>step i H Kt Kf hi hs (λH' hk s'=>h1 _ H' hk s' rfl) h2)
  λH' ys hs hl hp=>fin H' hs (by rw[hl,O7 hp])
theorem filter_true{α:Type}(l:List α):l.filter (λ_=>true)=l:=List.filter_eq_self.mpr λ_ _=>rfl
theorem fk{J:It}{g:TG}{te:TE}{σ₀:St}{D:Addr}{Q:Hp->Prop}{H1:Hp}{n:Nat}{sl:Nat->St}(f:Nat->V)(S:iY J g σ₀ H1 n sl)(hD:H1 D=none)(hn:n<sizeLine)(step:∀i H (Kt:V->Hp->Prop),i<n->Same H1 H->(∀H',Same H H'->Kt (f i) H')->te (sl i) H Kt)(fin:∀H',Same H1 H'->H' D=some (.lst ((List.range n).map f))->Q H'):jX J g qg te σ₀ D Q (upd H1 D (.lst [])):=
 mU (λ_=>true) f S hD hn (λi H Kt Kf hi hs h1 _=>dR (A:=te (sl i) H Kt) (B:=Kf H) (step i H Kt hi hs λH' s'=>h1 H' rfl s')) λH' hs hl=>fin H' hs (by rw[hl,filter_true])
theorem mS{J:It}{g:TG}{te:TE}{σ₀:St}{D:Addr}{Q:Hp->Prop}{H1:Hp}{n:Nat}{sl:Nat->St}(Rl:Nat->V->Hp->Prop)(S:iY J g σ₀ H1 n sl)(hD:H1 D=none)(hn:n<sizeLine)(mono:∀i v H H',dQ D H H'->Rl i v H->Rl i v H')(step:∀i H (Kt:V->Hp->Prop),i<n->Same H1 H->(∃ys,H D=some (.lst ys))->(∀v H',Same H H'->Rl i v H'->Kt v H')->te (sl i) H Kt)(fin:∀H' ys,Same H1 H'->H' D=some (.lst ys)->Paired (λi v=>Rl i v H') (List.range n) ys->Q H'):jX J g qg te σ₀ D Q (upd H1 D (.lst [])):=
 zB (λ_=>true) Rl S hD hn mono (λi H Kt Kf hi hs hy h1 _=>dR (A:=te (sl i) H Kt) (B:=Kf H) (step i H Kt hi hs hy λv H' s' r=>h1 v H' rfl s' r)) λH' ys hs hl hp=>fin H' ys hs hl (by rw[filter_true]at hp;exact hp)
theorem zA{J:It}{g:TG}{te:TE}{σ₀:St}{D:Addr}{Q:Hp->Prop}{H1:Hp}{n:Nat}{sl:Nat->St}(c:Nat->List V)(S:iY J g σ₀ H1 n sl)(hD:H1 D=none)(hn:n<sizeLine)(step:∀i H (Kt:V->Hp->Prop),i<n->Same H1 H->(∀a H',Same H H'->H a=none->H' a=some (.lst (c i))->Kt (.ref a) H')->te (sl i) H Kt)(fin:∀H' (as:List Addr),Same H1 H'->H' D=some (.lst (as.map V.ref))->as.length=n->as.Nodup->(∀a∈as,H1 a=none/\a≠D)->(∀(i:Nat) a,as[i]?=some a->H' a=some (.lst (c i)))->Q H'):jX J g qg te σ₀ D Q (upd H1 D (.lst [])):=by
 refine⟨λi m ys H=>m=n - i/\i<=n/\Same H1 H/\H D=some (.lst ys)/\∃as:List Addr,ys=as.map V.ref/\as.length=i/\as.Nodup/\(∀a∈as,H1 a=none/\a≠D)/\∀(j:Nat) a,as[j]?=some a->H a=some (.lst (c j)),
  ⟨n,by omega,by omega,Same.put hD,au,[],rfl,rfl,xX,λ_ h=>(nomatch h),λj a h=>by simp at h⟩,?_⟩
 rintro i m ys H ⟨hm,hi,hs,hl,as,rfl,h1,h2,h3,h4⟩
 by_cases e:i=n
 ·subst e
  exact .inl ⟨S.stop H hs,fin H as hs hl h1 h2 h3 h4⟩
 ·have hin:i<n:=by omega
  refine .inr ⟨S.go i H hin hs,λys' H'=>i+1<=n/\Same H1 H'/\H' D=some (.lst ys')/\∃as:List Addr,ys'=as.map V.ref/\as.length=i+1/\as.Nodup/\(∀a∈as,H1 a=none/\a≠D)/\∀(j:Nat) a,as[j]?=some a->H' a=some (.lst (c j)),
   λys' H' h=>⟨n - (i+1),by omega,rfl,h⟩,λx H' hy=>?_⟩
  refine S.step i H x H' (λσ2 H2=>qg σ2 H2 λb H3=>if b=true then te σ2 H3 λy H4=>H4 D=some (.lst (as.map V.ref))/\(as.map V.ref).length<sizeLine/\_ else _) hin hs hy λH2 s2=>?_;dsimp only[qg];rw[if_pos rfl];refine step i H2 _ hin (hs.trans s2) λa H4 s4 ha hc=>?_;have cM:H4 D=some (.lst (as.map V.ref)):=s4 _ _ (s2 _ _ hl);have haD:a≠D:=λe=>by rw[e,s2 _ _ hl]at ha;cases ha
  have Tp:a ∉ as:=λhm=>by
   obtain⟨j,hj,e⟩:=iS hm;have:=s2 _ _ (h4 j a (by rw[aA hj,e]));rw[ha]at this;cases this
  refine⟨cM,by simp;omega,hin,dQ.of hD (((hs.trans (s2.trans s4)).x D).trans dQ.put),au,as++[a],by simp,by simp[h1],?_,?_,?_⟩
  ·exact Ia.mpr ⟨h2,by simp,λx hx y hy=>by simp at hy;subst hy;exact λe=>Tp (e▸hx)⟩
  ·intro b hb
   rcases gO.mp hb with hb|hb
   ·exact h3 b hb
   ·simp at hb
    subst hb;exact⟨(hs.trans s2).free ha,haD⟩
  ·intro j b hj
   by_cases hjl:j<as.length
   ·rw[jw hjl]at hj
    have q:=h4 j b hj;have hbD:b≠D:=(h3 b (df hj)).2;rw[aF hbD];exact s4 _ _ (s2 _ _ q)
   ·have hj2:(as++[a])[j]?=some b:=hj
    rw[iR (by omega)]at hj2;have e0:j=as.length:=by
     by_cases z:j - as.length=0
     ·omega
     ·rw[List.getElem?_eq_none (by simp;omega)]at hj2;cases hj2
    subst e0;simp at hj2;subst hj2;rw[aF haD,h1];exact hc
def Pu(pre:List V->Hp->Prop)(post:List V->Hp->V->Hp->Prop):Sp:=λvs H Q _=>pre vs H/\∀v H',Same H H'->post vs H v H'->Q v H'
noncomputable def yO (sc f7:Scope) (N:List Str) (fr:List (Str × Nat)):Bool:=
 sc.kind==.function&&sc.names.all (λy=>y.2 != .cell&&(y.2 != .local||sc.names.lookup y.1==some .local)&&(y.2 != .free||f7.names.lookup y.1==some .cell||f7.names.lookup y.1==some .free)) &&
 fr.all λp=>N[p.2]?==some p.1&&sc.names.lookup p.1==some .free
theorem cA{X:Cx}{scope:Scope}{fr:List (Str × Nat)}(f7:Scope)(N:List Str)(h1:X.env.scope=f7)(h2:X.N=N)(h:yO scope f7 N fr=true):gJ X scope fr:=by
 unfold yO at h;rw[bF,bF]at h;obtain⟨⟨a,b⟩,c⟩:=h;rw[fB]at b c;subst h1 h2;refine⟨by simpa using a,λy hy e=>?_,λy hy e=>?_,λy hy e=>?_,λp hp=>?_⟩
 ·have:=b y hy
  rw[e]at this;simp at this
 ·have:=b y hy
  rw[e]at this;simpa using this
 ·have:=b y hy
  rw[e]at this;simpa using this
 ·have:=c p hp
  simpa using this
structure aC (P:Program) (w:World) (K:W.Frag) (mg:Str->Option Value) (base:Heap) (x:Str) (ps:List Str) (k:Nat) (sp:Sp):Prop where
 ex:∃(f:Addr) (fd:FuncData),aN P w K mg base aZ k f fd ps sp/\mg x=some (.ref f)/\W.keepIn K (.ref f)=true/\Binds K fd ps []
section
variable {X:Cx} {x:Str} {ps:List Str} {k k':Nat} {sp:Sp} {e:Expr} {es:List Expr} {t:TA} {p pos:Pos}
theorem aL (c:aC X.prog X.w X.K X.mg X.base x ps k sp) (hr:bQ k' X.A) (hg:Gl X x) (ha:PA X (e::es) t) (hk:k<=k':=by decide) (hdb:(x==("__debug__" : Str))=false:=by decide)
  (he:starEach (e::es) X.env=(false,eval e X.env)::starEach es X.env:=by rfl) (hpl:(backTo pos (starEach es X.env)).any (·.1)=false:=by rfl):PE X (.Call (.Name x p) (e::es) [] pos) (qf sp [] E0 t):=by
 obtain⟨f,fd,F,hm,kp,b⟩:=c.ex;exact Pa F (hr.mono hk) hg hm kp b .nil DP ha hdb he hpl
theorem aa_ (c:aC X.prog X.w X.K X.mg X.base x ps k sp) (hr:bQ k' X.A) (hg:Gl X x) (hk:k<=k':=by decide) (hdb:(x==("__debug__" : Str))=false:=by decide):PE X (.Call (.Name x p) [] [] pos) (qf sp [] E0 Hc):=by
 obtain⟨f,fd,F,hm,kp,b⟩:=c.ex;exact aa9 F (hr.mono hk) hg hm kp b .nil DP hdb
end
theorem T7 {X:Cx} (T:String):dz X (.builtin "isinstance") (λxs H Q=>∃x t b,xs = [x,.ty T]/\gQ X.K H x t/\W.kitOne X.K t (.type T)=some b/\Q (.bl b) H):=by
 intro pins s σ H xs us Q I r h;obtain⟨x,t,b,rfl,ty,e,q⟩:=h;obtain⟨u,v,rfl,ru,rv⟩:=Vals.two r;cases rv;exact X7 I ru ty e λtk=>⟨.bl b,H,I.tok _,rfl,q⟩
theorem JL:bootBuiltins "bool" = some (.type "bool"):=by trivial
theorem uE:bootBuiltins "int" = some (.type "int"):=by trivial
theorem mL:bootBuiltins "list" = some (.type "list"):=by trivial
theorem j9:bootBuiltins "tuple" = some (.type "tuple"):=by trivial
section
variable {X:Cx} {K:W.Frag}
theorem aX(h:X.K=K):nZ X (PB K):=h▸X9
theorem aK(h:X.K=K):nZ X (PJ K):=h▸Ya
theorem gH(h:X.K=K):yD X (PK K):=h▸acq
theorem aaU(h:X.K=K):bY X (compareOp .In) (vZ K false):=h▸aaV
theorem aaW(h:X.K=K):bY X (compareOp .NotIn) (vZ K true):=h▸aaX
def abT(K:W.Frag):List V->Hp->VK->Prop:=λxs H Q=>∃p ys,xs = [.ref p]/\(ah K H p ys\/ax K H p ys)/\Q (.int ys.length) H
theorem cK (h:X.K=K):dz X (.builtin "len") (abT K):=h▸T8
def abU(K:W.Frag):List V->Hp->VK->Prop:=λxs H Q=>∃p ys,xs = [.ref p]/\(ah K H p ys\/ax K H p ys)/\∀l,H l=none->Q (.ref l) (upd H l (.lst ys))
theorem uJ (h:X.K=K):dz X (.type "list") (abU K):=h▸T_
def ab5(K:W.Frag):List V->Hp->VK->Prop:=λxs H Q=>∃p ys,xs = [.ref p]/\((ah K H p ys/\∀l,H l=none->Q (.ref l) (upd H l (.tup ys)))\/(ax K H p ys/\Q (.ref p) H))
theorem mQ (h:X.K=K):dz X (.type "tuple") (ab5 K):=h▸Uj
def abQ(K:W.Frag)(T:String):List V->Hp->VK->Prop:=λxs H Q=>∃x t b,xs = [x,.ty T]/\gQ K H x t/\W.kitOne K t (.type T)=some b/\Q (.bl b) H
theorem lC (T:String) (h:X.K=K):dz X (.builtin "isinstance") (abQ K T):=h▸T7 T
variable {tg:Expr} {l:Expr} {tl:TE} {elts:List Expr} {k:Nat} {tpos pos p apos cpos:Pos} {a b o e:Expr} {es:List Expr} {ta:TA} {te tv to:TE} {f:Str}
theorem dC(h:X.K=K)(hl:PE X l tl):PI X tg l (M7 K tl):=h▸abt hl
theorem DW(h:X.K=K)(hl:PE X l tl):PI X tg l (M8 K tl):=h▸abw hl
theorem pR (c1 c2:Bool) (h:X.K=K) (hg:Gl X "zip") (hm:X.mg "zip" = none) (ha:PA X [a,b] ta) (hs:starEach [a,b] X.env = [(false,eval a X.env),(false,eval b X.env)]:=by rfl) (hs2:starEach [b] X.env = [(false,eval b X.env)]:=by rfl) :
  PI X (.Tuple elts k tpos) (.Call (.Name "zip" p) [a,b] [] pos) (M9 K c1 c2 ta):=h▸abx c1 c2 hg hm ha hs hs2
theorem DS (c:Bool) (h:X.K=K) (hg:Gl X "enumerate") (hm:X.mg "enumerate" = none) (ha:PA X [a] ta) (hs:starEach [a] X.env = [(false,eval a X.env)]:=by rfl) :
  PI X (.Tuple elts k tpos) (.Call (.Name "enumerate" p) [a] [] pos) (M6 K c ta):=h▸abr c hg hm ha hs
theorem eW(h:X.K=K)(he:PE X e te)(hb:attributeBase e f X.env (eval e X.env)=eval e X.env):PE X (.Attribute e f pos) (RP K te f):=h▸abg he hb
theorem sI{value:Expr}{pos':Pos}(h:X.K=K)(ha:PE X o te)(hv:PE X value tv)(hs:swapsWith value (some (.Attribute o f pos')) pos.line X.env=pure false):PS X (.Assign [.Attribute o f pos'] value pos) (P7 K te tv f):=h▸abA ha hv hs
variable {name:Str} {T id:String} {r:V->List V->Hp->VK->Prop} {t:TA}
theorem O_ (h:X.K=K) (pa:PlainAttrs T) (slot:Slot T name id) (hty:typeOf (.builtin id)=pure (.type "method_descriptor")) (hm:mD X id r) (ho:PE X o to)
  (hbase:attributeBase o name X.env (eval o X.env)=eval o X.env:=by rfl) (hline:(apos.endLine==cpos.line)=true:=by rfl):PE X (.Call (.Attribute o name apos) [] [] cpos) (RL K T r to):=h▸aa8 pa slot hty hm ho hbase hline
theorem eP (h:X.K=K) (pa:PlainAttrs T) (slot:Slot T name id) (hty:typeOf (.builtin id)=pure (.type "method_descriptor")) (hm:mD X id r) (ho:PE X o to) (ha:PA X (e::es) t)
  (h1:attributeBase o name X.env (eval o X.env)=eval o X.env:=by rfl)
  (h2:((backTo cpos (starEach (e::es) X.env)).all (λx=>!x.1)&&(backToKw cpos (keywordEach [] X.env)).all (λx=>x.1.isSome)&&decide ((e::es).length+([]:List Keyword).length+(if([]:List Keyword).isEmpty then 0 else 1)<30))=true:=by rfl)
  (h3:(apos.endLine==cpos.line)=true:=by rfl) (h4:starEach (e::es) X.env=(false,eval e X.env)::starEach es X.env:=by rfl) (h5:(backTo cpos (starEach es X.env)).any (·.1)=false:=by rfl) :
  PE X (.Call (.Attribute o name apos) (e::es) [] cpos) (RK K T r to t):=h▸aa7 pa slot hty hm ho ha h1 h2 h3 h4 h5
theorem iM{x y:Str}{i j:Nat}{p1 p2:Pos}(h:X.K=K)(hc:X.calm=true)(hN:X.N.Nodup)(hi:X.N[i]?=some x)(hj:X.N[j]?=some y)(hx:X.env.scope.names.lookup x=some .local)(hy:X.env.scope.names.lookup y=some .local):PG X (.Tuple [.Name x p1,.Name y p2] k tpos) (rF K 2 (mX (cD i) (mX (cD j) uV))):=
 h▸Pg hc (nj (bj hN hi (Or.inl hx) (Or.inr hx)) (nj (bj hN hj (Or.inl hy) (Or.inr hy)) Ph))
end
noncomputable def Its (c:Bool) (K:W.Frag) (a:Addr):It:=match c with
 |true=>kN K a
 |false=>mw K a
def XH(K:W.Frag)(c:Bool)(tl:TE):TI:=λσ H R=>tl σ H λx H1=>∃a,x = .ref a/\(∃xs,Sq c K H1 a xs)/\R (Its c K a) H1
def abS(K:W.Frag)(c:Bool):R2:=λx y H Q=>∃p xs i v,x = .ref p/\y = .int i/\Sq c K H p xs/\eT xs i=some v/\Q v H
section
variable {X:Cx} {K:W.Frag} {tg l:Expr} {tl:TE}
theorem abu(c:Bool)(h:X.K=K)(hl:PE X l tl):PI X tg l (XH K c tl):=by
 cases c with
 |true=>exact dC h hl
 |false=>exact DW h hl
theorem X_(c:Bool)(h:X.K=K):nZ X (abS K c):=by
 cases c with
 |true=>exact aX h
 |false=>exact aK h
theorem acD{c:Bool}{a:Addr}{xs:List V}{ρ:St}{H1:Hp}(h:Sq c K H1 a xs):iY (Its c K a) (cD 0) (none::ρ) H1 xs.length (λi=>some (xs.getD i .non)::ρ):=by
 cases c with
 |true=>exact src_list h
 |false=>exact Rv h
end
section
variable {K:W.Frag} {g:TG} {tb:TS} {D:Ends} {σ:St} {H:Hp}
theorem BR{c:Bool}{l:Addr}{xs:List V}(Pv:Nat->St->Hp->Prop)(h0:Pv 0 σ H)(hl:∀i σ H,Pv i σ H->Sq c K H l xs)
  (hs:∀i x σ H T,xs[i]?=some x->H T=none->Pv i σ H->g (.ref T) σ (upd H T (.tup [.int i,x])) λσ2 H2=>tb {D with nx:=Pv (i+1),ct:=Pv (i+1),bk:=D.nx} σ2 H2) (hd:∀σ H,Pv xs.length σ H->D.nx σ H) :
  ∃W:Nat->Nat->St->Hp->Prop,(∃m,W 0 m σ H)/\∀i m σ H,W i m σ H ->
   ((Ite K c l).stop i H/\D.nx σ H)\/((Ite K c l).go i H/\∃N:St->Hp->Prop,(∀σ' H',N σ' H'->∃m',m'<m/\W (i+1) m' σ' H')/\∀x H',(Ite K c l).kK i H x H'->g x σ H' λσ2 H2=>tb {D with nx:=N,ct:=N,bk:=D.nx} σ2 H2):=by
 refine⟨λi m σ H=>m=xs.length - i/\i<=xs.length/\Pv i σ H,⟨xs.length,by simp,dP _,h0⟩,?_⟩;rintro i m σ H ⟨rfl,hi,p⟩;have q:=hl i σ H p
 by_cases hlt:i<xs.length
 ·refine .inr ⟨⟨xs,xs[i],q,by simp[hlt]⟩,Pv (i+1),λσ' H' p'=>⟨xs.length - (i+1),by omega,rfl,hlt,p'⟩,λx H' y=>?_⟩
  obtain⟨T,x,rfl,hT,rfl,hx⟩:=y;exact hs i x σ H T (hx xs q) hT p
 ·have e:i=xs.length:=by omega
  subst e;exact .inl ⟨⟨xs,q,rfl⟩,hd σ H p⟩
theorem Vz{c1 c2:Bool}{l1 l2:Addr}{xs ys:List V}(Pv:Nat->St->Hp->Prop)(h0:Pv 0 σ H)(hl:∀i σ H,Pv i σ H->Sq c1 K H l1 xs/\Sq c2 K H l2 ys)
  (hs:∀i x y σ H T,xs[i]?=some x->ys[i]?=some y->H T=none->Pv i σ H->g (.ref T) σ (upd H T (.tup [x,y])) λσ2 H2=>tb {D with nx:=Pv (i+1),ct:=Pv (i+1),bk:=D.nx} σ2 H2) (hd:∀σ H,Pv (min xs.length ys.length) σ H->D.nx σ H) :
  ∃W:Nat->Nat->St->Hp->Prop,(∃m,W 0 m σ H)/\∀i m σ H,W i m σ H ->
   ((nY K c1 c2 l1 l2).stop i H/\D.nx σ H)\/((nY K c1 c2 l1 l2).go i H/\∃N:St->Hp->Prop,(∀σ' H',N σ' H'->∃m',m'<m/\W (i+1) m' σ' H')/\∀x H',(nY K c1 c2 l1 l2).kK i H x H'->g x σ H' λσ2 H2=>tb {D with nx:=N,ct:=N,bk:=D.nx} σ2 H2):=by
 refine⟨λi m σ H=>m=min xs.length ys.length - i/\i<=min xs.length ys.length/\Pv i σ H,⟨min xs.length ys.length,by simp,dP _,h0⟩,?_⟩;rintro i m σ H ⟨rfl,hi,p⟩;obtain⟨q1,q2⟩:=hl i σ H p
 by_cases hlt:i<min xs.length ys.length
 ·refine .inr ⟨⟨xs,ys,xs[i]'(by omega),ys[i]'(by omega),q1,q2,aA (by omega),aA (by omega)⟩,Pv (i+1),λσ' H' p'=>⟨min xs.length ys.length - (i+1),by omega,rfl,by omega,p'⟩,λx H' y=>?_⟩
  obtain⟨T,x,y,rfl,hT,rfl,hx,hy⟩:=y;exact hs i x y σ H T (hx xs q1) (hy ys q2) hT p
 ·have e:i=min xs.length ys.length:=by omega
  subst e;exact .inl ⟨⟨xs,ys,q1,q2,by omega⟩,hd σ H p⟩
end
theorem ao{e:Expr}{es:List Expr}{env:Env}(h:∀v p,e≠.Starred v p):starEach (e::es) env=(false,eval e env)::starEach es env:=by
 cases e<;>first|rfl|exact absurd rfl (h _ _)
noncomputable def intOf:Expr->Option Int
 |.Constant (.int i) _ _=>some i
 |_=>none
noncomputable def intsOf:List Expr->Option (List Int)
 | []=>some []
 |e::r=>(intOf e).bind λi=>(intsOf r).map (i::·)
theorem XQ{e:Expr}{i:Int}(h:intOf e=some i):∃k p,e = .Constant (.int i) k p:=by
 cases e with
 |Constant c k p =>
  cases c with
  |int j=>cases h;exact⟨k,p,rfl⟩
  |_=>cases h
 |_=>cases h
theorem pO{X:Cx}:∀{es:List Expr} (is:List Int),intsOf es=some is->PA X es (λ_ H Q=>Q (is.map V.int) H):=by
 intro es
 induction es with
 |nil =>
  intro is h;cases h;exact ag
 |cons e r ih =>
  intro is h;have h':(intOf e).bind (λi=>(intsOf r).map (i::·))=some is:=h;cases q1:intOf e with
  |none=>rw[q1]at h';cases h'
  |some i =>
   obtain⟨k,p,rfl⟩:=XQ q1;rw[q1]at h';cases q:intsOf r with
   |none=>rw[qG,q]at h';cases h'
   |some js =>
    rw[qG,q]at h';cases h';exact ae ak (ih js q)
theorem Pk{g:Nat->Int}(h:∀i,0<=g i/\g i<=1099511627776):∀n,0<=preSum g n/\preSum g n<=1099511627776*n
 |0=>by simp[preSum]
 |n+1=>by
  have ih:=Pk h n;have hn:=h n;simp only[preSum]
  push_cast
  omega
theorem Pl(ns:List Int):∀n,n<=ns.length->preSum (λi=>ns.getD i 0) n=(ns.take n).sum
 |0,_=>by simp[preSum]
 |n+1,h=>by
  have ih:=Pl ns n (by omega);have hn:n<ns.length:=by omega
  simp only[preSum];rw[ih];have e1:ns.getD n 0=ns[n]:=by rw[aQ,aA hn];rfl
  have e2:ns.take (n+1)=ns.take n++[ns[n]]:=by rw[qC,aA hn];rfl
  rw[e1,e2,List.sum_append];simp
def PL(K:W.Frag):List V->Hp->VK->Prop:=λxs H Q=>∃(p:Addr) (ns:List Int),xs = [.ref p]/\ah K H p (ns.map V.int)/\ns.length<=1000/\(∀x∈ns,0<=x/\x<=1099511627776)/\Q (.int ns.sum) H
theorem Uh {X:Cx} (hc:X.calm=true):dz X (.builtin "sum") (PL X.K):=by
 intro pins s σ H xs us Q I r h;obtain⟨p,ns,rfl,hq,hl,hb,q⟩:=h;obtain⟨u,rfl,ru⟩:=Vals.one r;cases ru;obtain⟨its,rv,pl,hz⟩:=I.list hq;have hlen:its.length=ns.length:=by rw[<- rv.length,az]
 have hp:p<s.heap.objs.size:=by obtain⟨o,_,e,_⟩:=pl;exact aS e
 refine call_sum_walk (uw pl.isList ?_);have hh:X.A.in1.handled=none:=I.ok.hd hc;refine⟨s.heap.objs.size,_,_,_,_,_,λi=>ns.getD i 0,rfl,Walks.list hh s.heap.objs.size p (bB hp) its.toArray,⟨⟨_,cn _ rfl,rfl,rfl⟩,pl.isList.at λo e=>aV _ e⟩,λb hb=>?_,λi v hv=>?_,λj hj=>?_,λh' tk t' hk=>?_⟩
 ·simp only[bp,fe,fq]at hb
  rcases hb with rfl|rfl
  ·simp[eK]
  ·exact Ii hp (by simp[eK])
 ·have hv':its[i]?=some v:=by simpa using hv
  have hi:i<ns.length:=by rw[<- hlen];exact(bJ.mp hv').1
  obtain⟨w',h1,h2⟩:=rv.get (i:=i) (x:=.int ns[i]) (by simp[hi]);rw[hv']at h1;cases h1;obtain⟨t,e⟩:=h2;refine⟨t,?_⟩;show v=Value.int (ns.getD i 0) t;rw[e,aQ,aA hi];rfl
 ·have gb:∀i,0<=ns.getD i 0/\ns.getD i 0<=1099511627776:=λi=>by
   rw[aQ];cases e:ns[i]? with
   |none=>simp
   |some x=>exact hb x (df e)
  have hj':j<ns.length:=by rw[<- hlen];simpa using hj
  have h1:=gb j;have h2:=Pk gb (j+1)
  constructor
  ·show InLong (ns.getD j 0)
   unfold InLong;omega
  ·unfold InLong;push_cast at h2;omega
 ·have e:preSum (λi=>ns.getD i 0) its.toArray.size=ns.sum:=by
   rw[show its.toArray.size=ns.length by simp[hlen],Pl ns _ (aY _),oh]
  rw[e];have I1:Inv X pins σ H {s with heap:=s.heap.push {cls:=.type "list_iterator", data:=.fields #[.ref p,.int 0 0]},toks:=s.toks}:=I.kept λb o e=>aV _ e;have I2:Inv X pins σ H {s with heap:=h',toks:=tk}:=by
   refine I.kept λb o e=>hk b o ?_ (aV _ e);simp only[bp,fe,fq];exact bB (aS e)
  exact⟨.int ns.sum,H,I2,⟨t',rfl⟩,q⟩
theorem Ui {X:Cx} {K:W.Frag} (h:X.K=K) (hc:X.calm=true):dz X (.builtin "sum") (PL K):=h▸Uh hc
theorem ab7(bs:List Bool):((List.range bs.length).all λi=>(bs[i]?).getD true)=bs.all id:=by
 rw[dk,fB,fB]
 constructor
 ·intro h b hb
  obtain⟨i,hi,e⟩:=iS hb;have:=h i (by simpa using hi);rw[aA hi,e]at this;exact this
 ·intro h i hi
  have hi':i<bs.length:=by simpa using hi
  rw[aA hi'];exact h _ (fC hi')
theorem ab8(bs:List Bool):((List.range bs.length).any λi=>(bs[i]?).getD false)=bs.any id:=by
 rw[dk,qt,qt]
 constructor
 ·rintro⟨i,hi,e⟩
  have hi':i<bs.length:=by simpa using hi
  rw[aA hi']at e;exact⟨_,fC hi',e⟩
 ·rintro⟨b,hb,e⟩
  obtain⟨i,hi,e'⟩:=iS hb;exact⟨i,by simpa using hi,by rw[aA hi,e'];exact e⟩
def Px(K:W.Frag):List V->Hp->VK->Prop:=λxs H Q=>∃(p:Addr) (bs:List Bool),xs = [.ref p]/\ah K H p (bs.map V.bl)/\Q (.bl (bs.all id)) H
def Py(K:W.Frag):List V->Hp->VK->Prop:=λxs H Q=>∃(p:Addr) (bs:List Bool),xs = [.ref p]/\ah K H p (bs.map V.bl)/\Q (.bl (bs.any id)) H
theorem JK{bs:List Bool}{its:List Value}(rv:Vals (bs.map V.bl) its){i:Nat}{v:Value}(h:its[i]?=some v):∃b,bs[i]?=some b/\v = .bool b:=by
 have hi:i<its.length:=(bJ.mp h).1;have hlen:its.length=bs.length:=by rw[<- rv.length,az]
 obtain⟨w',h1,h2⟩:=rv.get (i:=i) (x:=.bl (bs[i]'(by omega))) (by simp[show i<bs.length by omega]);rw[h]at h1;cases h1;exact⟨_,aA (by omega),h2⟩
theorem T3 {X:Cx} (hc:X.calm=true):dz X (.builtin "all") (Px X.K):=by
 intro pins s σ H xs us Q I r h;obtain⟨p,bs,rfl,hq,q⟩:=h;obtain⟨u,rfl,ru⟩:=Vals.one r;cases ru;obtain⟨its,rv,pl,hz⟩:=I.list hq;have hlen:its.length=bs.length:=by rw[<- rv.length,az]
 have hp:p<s.heap.objs.size:=by obtain⟨o,_,e,_⟩:=pl;exact aS e
 refine call_all_walk (uw pl.isList ?_);have hh:X.A.in1.handled=none:=I.ok.hd hc;refine⟨s.heap.objs.size,_,_,_,_,_,λi=>(bs[i]?).getD true,rfl,Walks.list hh s.heap.objs.size p (bB hp) its.toArray,⟨⟨_,cn _ rfl,rfl,rfl⟩,pl.isList.at λo e=>aV _ e⟩,λi v s' Q' E' hP hQ=>?_,λh' tk hk=>?_⟩
 ·obtain⟨b,e,rfl⟩:=JK rv (by simpa using hP)
  simp only[e,Io]at hQ;exact jB hQ
 ·have e:((List.range its.toArray.size).all λi=>(bs[i]?).getD true)=bs.all id:=by
   rw[bV,hlen];exact ab7 bs
  rw[e];have I2:Inv X pins σ H {s with heap:=h',toks:=tk}:=by
   refine I.kept λb o e=>hk b o ?_ (aV _ e);simp only[bp,fe,fq];exact bB (aS e)
  exact⟨.bl (bs.all id),H,I2,rfl,q⟩
theorem T4 {X:Cx} (hc:X.calm=true):dz X (.builtin "any") (Py X.K):=by
 intro pins s σ H xs us Q I r h;obtain⟨p,bs,rfl,hq,q⟩:=h;obtain⟨u,rfl,ru⟩:=Vals.one r;cases ru;obtain⟨its,rv,pl,hz⟩:=I.list hq;have hlen:its.length=bs.length:=by rw[<- rv.length,az]
 have hp:p<s.heap.objs.size:=by obtain⟨o,_,e,_⟩:=pl;exact aS e
 refine call_any_walk (uw pl.isList ?_);have hh:X.A.in1.handled=none:=I.ok.hd hc;refine⟨s.heap.objs.size,_,_,_,_,_,λi=>(bs[i]?).getD false,rfl,Walks.list hh s.heap.objs.size p (bB hp) its.toArray,⟨⟨_,cn _ rfl,rfl,rfl⟩,pl.isList.at λo e=>aV _ e⟩,λi v s' Q' E' hP hQ=>?_,λh' tk hk=>?_⟩
 ·obtain⟨b,e,rfl⟩:=JK rv (by simpa using hP)
  simp only[e,Io]at hQ;exact jB hQ
 ·have e:((List.range its.toArray.size).any λi=>(bs[i]?).getD false)=bs.any id:=by
   rw[bV,hlen];exact ab8 bs
  rw[e];have I2:Inv X pins σ H {s with heap:=h',toks:=tk}:=by
   refine I.kept λb o e=>hk b o ?_ (aV _ e);simp only[bp,fe,fq];exact bB (aS e)
  exact⟨.bl (bs.any id),H,I2,rfl,q⟩
theorem zy {X:Cx} {K:W.Frag} (h:X.K=K) (hc:X.calm=true):dz X (.builtin "all") (Px K):=h▸T3 hc
theorem T6 {X:Cx} {K:W.Frag} (h:X.K=K) (hc:X.calm=true):dz X (.builtin "any") (Py K):=h▸T4 hc
inductive bK (K:W.Frag) (H:Hp):Nat->V->V->Bool->Prop
 |int (n:Nat) (i j:Int):bK K H n (.int i) (.int j) (i==j)
 |bl (n:Nat) (i j:Bool):bK K H n (.bl i) (.bl j) (i==j)
 |same (n:Nat) (a:Addr):bK K H n (.ref a) (.ref a) true
 |tup (n:Nat) (a b:Addr) (xs ys:List V) (e:Nat->Bool):ax K H a xs->ax K H b ys->xs.length=ys.length->(∀(j:Nat) x y,xs[j]?=some x->ys[j]?=some y->bK K H n x y (e j))->bK K H (n+1) (.ref a) (.ref b) ((List.range xs.length).all e)
 |lst (n:Nat) (a b:Addr) (xs ys:List V) (e:Nat->Bool):ah K H a xs->ah K H b ys->xs.length=ys.length->(∀(j:Nat) x y,xs[j]?=some x->ys[j]?=some y->bK K H n x y (e j))->bK K H (n+1) (.ref a) (.ref b) ((List.range xs.length).all e)
 |lens (n:Nat) (a b:Addr) (xs ys:List V):ah K H a xs->ah K H b ys->xs.length≠ys.length->bK K H (n+1) (.ref a) (.ref b) false
section
variable {X:Cx} {pins:List (Addr × Obj)} {σ:St} {H:Hp} {s:Shared}
theorem Inv.NR(I:Inv X pins σ H s){a:Addr}{xs ys:List V}(h:ah X.K H a xs)(h':ah X.K H a ys):∃its,Vals xs its/\Vals ys its:=by
 obtain⟨its,r,⟨o,n,e,d1,d2,d3⟩,_⟩:=I.list h;obtain⟨its',r',⟨o',n',e',f1,f2,f3⟩,_⟩:=I.list h';rw[e]at e';cases e';rw[d3]at f3;injection f3 with q1 q2
 have:its=its':=by simpa using q1
 subst this;exact⟨its,r,r'⟩
theorem bK.Fx(I:Inv X pins σ H s){n:Nat}{x y:V}{b:Bool}(h:bK X.K H n x y b):∀{v:Value},RelV x v->RelV y v->b=true:=by
 induction h with
 |int n i j =>
  rintro v ⟨t,rfl⟩ ⟨u,e⟩;cases e;simp
 |bl n i j =>
  intro v h1 h2;cases h1;cases h2;simp
 |same n a=>intros;rfl
 |tup n a b xs ys e h1 h2 hl hi ih =>
  intro v r1 r2;cases r1;cases r2;have:=I.He h1 h2;subst this;obtain⟨its,r,_,_⟩:=I.tuple h1;rw[fB];intro j hj;have hj':j<xs.length:=by simpa using hj
  obtain⟨w',_,q⟩:=r.get (aA hj');exact ih j _ _ (aA hj') (aA hj') q q
 |lst n a b xs ys e h1 h2 hl hi ih =>
  intro v r1 r2;cases r1;cases r2;obtain⟨its,r,r'⟩:=I.NR h1 h2;rw[fB];intro j hj;have hj':j<xs.length:=by simpa using hj
  obtain⟨w',z1,q⟩:=r.get (aA hj');obtain⟨w'',z2,q'⟩:=r'.get (aA (show j<ys.length by omega));rw[z1]at z2;cases z2;exact ih j _ _ (aA hj') (aA _) q q'
 |lens n a b xs ys h1 h2 hl =>
  intro v r1 r2;cases r1;cases r2;obtain⟨its,r,r'⟩:=I.NR h1 h2;exact absurd (r.length.trans r'.length.symm) hl
theorem bK.at(I:Inv X pins σ H s){n:Nat}{x y:V}{b:Bool}(h:bK X.K H n x y b):∀{A:Around} {v u:Value},A.units+n<cLine->RelV x v->RelV y u->SeqAt.EqAt A s v u b:=by
 induction h with
 |int n i j =>
  rintro A v u hu ⟨t,rfl⟩ ⟨t',rfl⟩;exact SeqAt.EqAt.int_int i t j t'
 |bl n i j =>
  intro A v u hu h1 h2;cases h1;cases h2;exact yr i j
 |same n a =>
  intro A v u hu h1 h2;cases h1;cases h2;exact yt _
 |tup n a b xs ys e h1 h2 hl hi ih =>
  intro A v u hu r1 r2
  by_cases hab:v=u
  ·have:=bK.Fx I (.tup n a b xs ys e h1 h2 hl hi) r1 (hab▸r2)
   rw[this,hab];exact yt _
  ·cases r1
   cases r2;obtain⟨its,r,t1,_⟩:=I.tuple h1;obtain⟨its2,r',t2,_⟩:=I.tuple h2;refine I_ (λz=>hab (by rw[z])) ?_;have hh:=SeqAt.RcAt.tuples (A:=A) (s:=s) (e:=e) t1 t2 (by omega) λj g1 g2=>?_
   ·have el:its.toArray.size=its2.toArray.size:=by simp;rw[<- r.length,<- r'.length];exact hl
    have e2:((List.range (min its.toArray.size its2.toArray.size)).all e&&its.toArray.size==its2.toArray.size)=(List.range xs.length).all e:=by
     rw[<- el,Il,qT,xG]
     congr 2
     simp[<- r.length]
    rw[e2]at hh;exact hh
   ·have j1:j<xs.length:=by rw[r.length];simpa using g1
    have j2:j<ys.length:=by omega
    obtain⟨w',z1,q⟩:=r.get (aA j1);obtain⟨w'',z2,q'⟩:=r'.get (aA j2);have e1:its.toArray[j]=w':=by have:=(bJ.mp z1).2;simpa using this
    have e2:its2.toArray[j]=w'':=by have:=(bJ.mp z2).2;simpa using this
    rw[e1,e2];exact ih j _ _ (aA j1) (aA j2) (by show A.units+1+n<cLine;omega) q q'
 |lst n a b xs ys e h1 h2 hl hi ih =>
  intro A v u hu r1 r2
  by_cases hab:v=u
  ·have:=bK.Fx I (.lst n a b xs ys e h1 h2 hl hi) r1 (hab▸r2)
   rw[this,hab];exact yt _
  ·cases r1
   cases r2;obtain⟨its,r,t1,_⟩:=I.list h1;obtain⟨its2,r',t2,_⟩:=I.list h2;refine I_ (λz=>hab (by rw[z])) ?_;have el:its.toArray.size=its2.toArray.size:=by simp;rw[<- r.length,<- r'.length];exact hl
   have hh:=SeqAt.RcAt.lists (A:=A) (s:=s) (e:=e) t1.isList t2.isList el (by omega) λj g1 g2=>?_
   ·have e2:(List.range its.toArray.size).all e=(List.range xs.length).all e:=by
     congr 2
     simp[<- r.length]
    rw[e2]at hh;exact hh
   ·have j1:j<xs.length:=by rw[r.length];simpa using g1
    have j2:j<ys.length:=by omega
    obtain⟨w',z1,q⟩:=r.get (aA j1);obtain⟨w'',z2,q'⟩:=r'.get (aA j2);have e1:its.toArray[j]=w':=by have:=(bJ.mp z1).2;simpa using this
    have e2:its2.toArray[j]=w'':=by have:=(bJ.mp z2).2;simpa using this
    rw[e1,e2];exact ih j _ _ (aA j1) (aA j2) (by show A.units+1+n<cLine;omega) q q'
 |lens n a b xs ys h1 h2 hl =>
  intro A v u hu r1 r2
  by_cases hab:v=u
  ·have:=bK.Fx I (.lens n a b xs ys h1 h2 hl) r1 (hab▸r2)
   cases this
  ·cases r1
   cases r2;obtain⟨its,r,t1,_⟩:=I.list h1;obtain⟨its2,r',t2,_⟩:=I.list h2;refine I_ (λz=>hab (by rw[z])) (SeqAt.RcAt.lists_lengths t1.isList t2.isList ?_ (by omega));have:its.length≠its2.length:=by rw[<- r.length,<- r'.length];exact hl
   simpa using this
end
def mr(K:W.Frag)(H:Hp)(n:Nat)(xs ys:List V)(e:Nat->Bool):Prop:=xs.length=ys.length/\∀(j:Nat) x y,xs[j]?=some x->ys[j]?=some y->bK K H n x y (e j)
def Ec(K:W.Frag)(c ne:Bool)(n:Nat):R2:=λx y H Q=>∃a b xs ys e,x = .ref a/\y = .ref b/\Sq c K H a xs/\Sq c K H b ys/\mr K H n xs ys e/\Q (.bl (ne != (List.range xs.length).all e)) H
theorem sE{X:Cx}{K:W.Frag}(c:Bool)(n:Nat)(h:X.K=K)(hu:X.A.units+1+n<cLine):bY X (compareOp .Eq) (Ec K c false n):=by
 subst h;intro pins s σ H x y v u Q I rx ry h;obtain⟨a,b,xs,ys,e,rfl,rfl,ha,hb,⟨hl,hi⟩,q⟩:=h;cases rx;cases ry;cases c with
 |true =>
  obtain⟨its,r,t1,_⟩:=I.list ha;obtain⟨its2,r',t2,_⟩:=I.list hb;have el:its.toArray.size=its2.toArray.size:=by simp;rw[<- r.length,<- r'.length];exact hl
  have hh:=SeqAt.RcAt.lists (A:=X.A) (s:=s) (e:=e) t1.isList t2.isList el (by omega) λj g1 g2=>?_
  ·have e2:(List.range its.toArray.size).all e=(List.range xs.length).all e:=by
    congr 2
    simp[<- r.length]
   rw[e2]at hh;exact hh _ _ _ _ ⟨.bl ((List.range xs.length).all e),H,I,rfl,by simpa using q⟩
  ·have j1:j<xs.length:=by rw[r.length];simpa using g1
   have j2:j<ys.length:=by omega
   obtain⟨w',z1,q⟩:=r.get (aA j1);obtain⟨w'',z2,q'⟩:=r'.get (aA j2);have e1:its.toArray[j]=w':=by have:=(bJ.mp z1).2;simpa using this
   have e2:its2.toArray[j]=w'':=by have:=(bJ.mp z2).2;simpa using this
   rw[e1,e2];exact bK.at I (hi j _ _ (aA j1) (aA j2)) (by show X.A.units+1+n<cLine;omega) q q'
 |false =>
  obtain⟨its,r,t1,_⟩:=I.tuple ha;obtain⟨its2,r',t2,_⟩:=I.tuple hb;have el:its.toArray.size=its2.toArray.size:=by simp;rw[<- r.length,<- r'.length];exact hl
  have hh:=SeqAt.RcAt.tuples (A:=X.A) (s:=s) (e:=e) t1 t2 (by omega) λj g1 g2=>?_
  ·have e2:((List.range (min its.toArray.size its2.toArray.size)).all e&&its.toArray.size==its2.toArray.size)=(List.range xs.length).all e:=by
    rw[<- el,Il,qT,xG]
    congr 2
    simp[<- r.length]
   rw[e2]at hh;exact hh _ _ _ _ ⟨.bl ((List.range xs.length).all e),H,I,rfl,by simpa using q⟩
  ·have j1:j<xs.length:=by rw[r.length];simpa using g1
   have j2:j<ys.length:=by omega
   obtain⟨w',z1,q⟩:=r.get (aA j1);obtain⟨w'',z2,q'⟩:=r'.get (aA j2);have e1:its.toArray[j]=w':=by have:=(bJ.mp z1).2;simpa using this
   have e2:its2.toArray[j]=w'':=by have:=(bJ.mp z2).2;simpa using this
   rw[e1,e2];exact bK.at I (hi j _ _ (aA j1) (aA j2)) (by show X.A.units+1+n<cLine;omega) q q'
theorem vQ{X:Cx}{K:W.Frag}(c:Bool)(n:Nat)(h:X.K=K)(hu:X.A.units+1+n<cLine):bY X (compareOp .NotEq) (Ec K c true n):=by
 subst h;intro pins s σ H x y v u Q I rx ry h;obtain⟨a,b,xs,ys,e,rfl,rfl,ha,hb,⟨hl,hi⟩,q⟩:=h;cases rx;cases ry;cases c with
 |true =>
  obtain⟨its,r,t1,_⟩:=I.list ha;obtain⟨its2,r',t2,_⟩:=I.list hb;have el:its.toArray.size=its2.toArray.size:=by simp;rw[<- r.length,<- r'.length];exact hl
  have hh:=SeqAt.RcNeAt.lists (A:=X.A) (s:=s) (e:=e) t1.isList t2.isList el (by omega) λj g1 g2=>?_
  ·have e2:(List.range its.toArray.size).all e=(List.range xs.length).all e:=by
    congr 2
    simp[<- r.length]
   rw[e2]at hh;exact hh _ _ _ _ ⟨.bl (!(List.range xs.length).all e),H,I,rfl,by simpa using q⟩
  ·have j1:j<xs.length:=by rw[r.length];simpa using g1
   have j2:j<ys.length:=by omega
   obtain⟨w',z1,q⟩:=r.get (aA j1);obtain⟨w'',z2,q'⟩:=r'.get (aA j2);have e1:its.toArray[j]=w':=by have:=(bJ.mp z1).2;simpa using this
   have e2:its2.toArray[j]=w'':=by have:=(bJ.mp z2).2;simpa using this
   rw[e1,e2];exact bK.at I (hi j _ _ (aA j1) (aA j2)) (by show X.A.units+1+n<cLine;omega) q q'
 |false =>
  obtain⟨its,r,t1,_⟩:=I.tuple ha;obtain⟨its2,r',t2,_⟩:=I.tuple hb;have el:its.toArray.size=its2.toArray.size:=by simp;rw[<- r.length,<- r'.length];exact hl
  have hh:=SeqAt.RcNeAt.tuples (A:=X.A) (s:=s) (e:=e) t1 t2 (by omega) λj g1 g2=>?_
  ·have e2:((List.range (min its.toArray.size its2.toArray.size)).all e&&its.toArray.size==its2.toArray.size)=(List.range xs.length).all e:=by
    rw[<- el,Il,qT,xG]
    congr 2
    simp[<- r.length]
   rw[e2]at hh;exact hh _ _ _ _ ⟨.bl (!(List.range xs.length).all e),H,I,rfl,by simpa using q⟩
  ·have j1:j<xs.length:=by rw[r.length];simpa using g1
   have j2:j<ys.length:=by omega
   obtain⟨w',z1,q⟩:=r.get (aA j1);obtain⟨w'',z2,q'⟩:=r'.get (aA j2);have e1:its.toArray[j]=w':=by have:=(bJ.mp z1).2;simpa using this
   have e2:its2.toArray[j]=w'':=by have:=(bJ.mp z2).2;simpa using this
   rw[e1,e2];exact bK.at I (hi j _ _ (aA j1) (aA j2)) (by show X.A.units+1+n<cLine;omega) q q'
section
variable {prog:Program} {w:World} {A:Around} {E:Value->Shared->Prop}
variable {s:Shared}
end
end _L
namespace Ev
def Sub(x y:Nat):Prop:=x&&& y=x
instance (x y:Nat):Decidable (Sub x y):=inferInstanceAs (Decidable (_=_))
theorem Sub.rfl'(x:Nat):Sub x x:=yd x
theorem Sub.trans{x y z:Nat}(a:Sub x y)(b:Sub y z):Sub x z:=by
 unfold Sub at *;rw[<- a,uc,b]
theorem Sub.antisymm{x y:Nat}(a:Sub x y)(b:Sub y x):x=y:=by
 unfold Sub at *;rw[<- a,yc,b]
theorem Sub.le{x y:Nat}(a:Sub x y):x<=y:=by
 unfold Sub at a;rw[<- a];exact Nat.and_le_right
theorem Sub.and_left(x y:Nat):Sub (x&&& y) x:=by
 unfold Sub;rw[uc,yc y x,<- uc,yd]
theorem Sub.and_right(x y:Nat):Sub (x&&& y) y:=by
 unfold Sub;rw[uc,yd]
theorem Sub.yJ{x a b:Nat}:Sub x (a&&& b) ↔ Sub x a/\Sub x b:=by
 constructor
 ·intro h
  exact⟨h.trans (Sub.and_left a b),h.trans (Sub.and_right a b)⟩
 ·rintro⟨h1,h2⟩
  unfold Sub at *;rw[<- uc,h1,h2]
structure bO (M:List Nat):Prop where
 nd:M.Nodup
 len:M.length<=24
 meet:∀x∈M,∀y∈M,x&&& y∈M
 top:∃t∈M,∀x∈M,Sub x t
theorem bO.pos{M:List Nat}(L:bO M):0<M.length:=by
 obtain⟨t,ht,_⟩:=L.top;exact S1 ht
theorem bO.perm{M M':List Nat}(L:bO M)(p:M.Perm M'):bO M' where
 nd:=p.nodup_iff.mp L.nd
 len:=by rw[<- p.length_eq];exact L.len
 meet:=λx hx y hy=>p.mem_iff.mp (L.meet x (p.mem_iff.mpr hx) y (p.mem_iff.mpr hy))
 top:=by
  obtain⟨t,ht,h⟩:=L.top;exact⟨t,p.mem_iff.mp ht,λx hx=>h x (p.mem_iff.mpr hx)⟩
noncomputable def aG (M:List Nat) (i j:Nat):Bool:=decide (Sub (M.getD i 0) (M.getD j 0))
theorem dS{M:List Nat}{i j:Nat}:aG M i j=true ↔ Sub (M.getD i 0) (M.getD j 0):=by simp[aG]
theorem jO(M:List Nat)(i:Nat):aG M i i=true:=dS.mpr (Sub.rfl' _)
theorem NK{M:List Nat}{i j k:Nat}(a:aG M i j=true)(b:aG M j k=true):aG M i k=true:=dS.mpr ((dS.mp a).trans (dS.mp b))
theorem getD_mem{M:List Nat}{i:Nat}(h:i<M.length):M.getD i 0∈M:=by
 rw[aQ,aA h];exact fC h
theorem uX{M:List Nat}{x:Nat}(h:x∈M):∃i,i<M.length/\M.getD i 0=x:=by
 obtain⟨i,hi,e⟩:=iS h;exact⟨i,hi,by rw[aQ,aA hi];exact e⟩
theorem getD_inj{M:List Nat}(nd:M.Nodup){i j:Nat}(hi:i<M.length)(hj:j<M.length)(e:M.getD i 0=M.getD j 0):i=j:=by
 rw[aQ,aQ,aA hi,aA hj]at e;exact(xW nd).mp e
theorem vw{M:List Nat}(nd:M.Nodup){i j:Nat}(hi:i<M.length)(hj:j<M.length)(a:aG M i j=true)(b:aG M j i=true):i=j:=
 getD_inj nd hi hj ((dS.mp a).antisymm (dS.mp b))
theorem bO.pF{M:List Nat}(L:bO M){a b:Nat}(ha:a<M.length)(hb:b<M.length):∃c,c<M.length/\M.getD c 0=M.getD a 0&&& M.getD b 0/\∀x,aG M x c=(aG M x a&&aG M x b):=by
 obtain⟨c,hc,e⟩:=uX (L.meet _ (getD_mem ha) _ (getD_mem hb));refine⟨c,hc,e,λx=>?_⟩;rw[dk,bF,dS,dS,dS,e];exact Sub.yJ
theorem BP{M:List Nat}(hm:∀x∈M,∀y∈M,x&&& y∈M):∀(S:List Nat) (t:Nat),(∀x∈S,x∈M)->t∈M->S.foldl (·&&& ·) t∈M/\Sub (S.foldl (·&&& ·) t) t/\(∀x∈S,Sub (S.foldl (·&&& ·) t) x)/\∀y,Sub y t->(∀x∈S,Sub y x)->Sub y (S.foldl (·&&& ·) t)
 | [],t,_,ht=>⟨ht,Sub.rfl' t,λ_ h=>(nomatch h),λ_ h _=>h⟩
 |s::S,t,hS,ht=>by
  have hs:s∈M:=hS s bX;obtain⟨h1,h2,h3,h4⟩:=BP hm S (t&&& s) (λx hx=>hS x (b_ _ hx)) (hm t ht s hs);rw[HQ];refine⟨h1,h2.trans (Sub.and_left t s),λx hx=>?_,λy hy hx=>h4 y (Sub.yJ.mpr ⟨hy,hx s bX⟩) λx h=>hx x (b_ _ h)⟩
  rcases bp.mp hx with rfl|hx
  ·exact h2.trans (Sub.and_right t x)
  ·exact h3 x hx
theorem bO.pC{M:List Nat}(L:bO M){a b:Nat}(ha:a<M.length)(hb:b<M.length):∃c,c<M.length/\∀x,x<M.length->aG M c x=(aG M a x&&aG M b x):=by
 obtain⟨t,ht,htop⟩:=L.top
 let S:=M.filter λx=>decide (Sub (M.getD a 0) x)&&decide (Sub (M.getD b 0) x)
 obtain⟨h1,h2,h3,h4⟩:=BP L.meet S t (λx hx=>(cX.mp hx).1) ht;obtain⟨c,hc,e⟩:=uX h1;refine⟨c,hc,λx hx=>?_⟩;have M_:∀y∈S,Sub (M.getD a 0) y/\Sub (M.getD b 0) y:=λy hy=>by
  have:=(cX.mp hy).2;simpa[bF]using this
 have ka:Sub (M.getD a 0) (S.foldl (·&&& ·) t):=h4 _ (htop _ (getD_mem ha)) λy hy=>(M_ y hy).1;have kb:Sub (M.getD b 0) (S.foldl (·&&& ·) t):=h4 _ (htop _ (getD_mem hb)) λy hy=>(M_ y hy).2;rw[dk,bF,dS,dS,dS,e]
 constructor
 ·intro h
  exact⟨ka.trans h,kb.trans h⟩
 ·rintro⟨h,h'⟩
  exact h3 _ (cX.mpr ⟨getD_mem hx,by rw[bF];exact⟨cB h,cB h'⟩⟩)
structure kL (n:Nat) (ps:List (Nat × Nat)) (R:Nat->Nat->Bool):Prop where
 refl:∀a,a<n->R a a=true
 has:∀p∈ps,R p.1 p.2=true
 trans:∀a b c,a<n->b<n->c<n->R a b=true->R b c=true->R a c=true
 least:∀T:Nat->Nat->Bool,(∀a,a<n->T a a=true)->(∀p∈ps,T p.1 p.2=true)->(∀a b c,a<n->b<n->c<n->T a b=true->T b c=true->T a c=true) ->
  ∀a b,a<n->b<n->R a b=true->T a b=true
structure j7 (n:Nat) (ps:List (Nat × Nat)) (m:Nat) (R:Nat->Nat->Bool):Prop where
 refl:∀a,a<n->R a a=true
 has:∀p∈ps,R p.1 p.2=true
 tr:∀k,k<m->∀a b,a<n->b<n->R a k=true->R k b=true->R a b=true
 least:∀T:Nat->Nat->Bool,(∀a,a<n->T a a=true)->(∀p∈ps,T p.1 p.2=true)->(∀a b c,a<n->b<n->c<n->T a b=true->T b c=true->T a c=true) ->
  ∀a b,a<n->b<n->R a b=true->T a b=true
noncomputable def kJ (R:Nat->Nat->Bool) (m:Nat):Nat->Nat->Bool:=λa b=>R a b||(R a m&&R m b)
theorem xu{R:Nat->Nat->Bool}{m a b:Nat}:kJ R m a b=true ↔ R a b=true\/(R a m=true/\R m b=true):=by simp[kJ]
theorem j7.step{n m:Nat}{ps:List (Nat × Nat)}{R:Nat->Nat->Bool}(W:j7 n ps m R)(hm:m<n):j7 n ps (m+1) (kJ R m) where
 refl:=λa ha=>xu.mpr (.inl (W.refl a ha))
 has:=λp hp=>xu.mpr (.inl (W.has p hp))
 tr:=λk hk a b ha hb h1 h2=>by
  rw[xu]at *
  by_cases e:k=m
  ·subst e
   have h1':R a k=true:=h1.elim id (·.1);have h2':R k b=true:=h2.elim id (·.2);exact .inr ⟨h1',h2'⟩
  ·have hk':k<m:=by omega
   rcases h1 with h1|⟨h1,h1'⟩
   ·rcases h2 with h2|⟨h2,h2'⟩
    ·exact .inl (W.tr k hk' a b ha hb h1 h2)
    ·exact .inr ⟨W.tr k hk' a m ha hm h1 h2,h2'⟩
   ·rcases h2 with h2|⟨h2,h2'⟩
    ·exact .inr ⟨h1,W.tr k hk' m b hm hb h1' h2⟩
    ·exact .inr ⟨h1,h2'⟩
 least:=λT t1 t2 t3 a b ha hb h=>by
  rcases xu.mp h with h|⟨h,h'⟩
  ·exact W.least T t1 t2 t3 a b ha hb h
  ·exact t3 a m b ha hm hb (W.least T t1 t2 t3 a m ha hm h) (W.least T t1 t2 t3 m b hm hb h')
theorem j7.done{n:Nat}{ps:List (Nat × Nat)}{R:Nat->Nat->Bool}(W:j7 n ps n R):kL n ps R:=
 ⟨W.refl,W.has,λa b c ha hb hc h1 h2=>W.tr b hb a c ha hc h1 h2,W.least⟩
noncomputable def base (ps:List (Nat × Nat)):Nat->Nat->Bool:=λa b=>a==b||ps.any λp=>p.1==a&&p.2==b
theorem oK{ps:List (Nat × Nat)}{a b:Nat}:base ps a b=true ↔ a=b\/(a,b)∈ps:=by
 simp only[base,Ht,gR,qt,bF]
 constructor
 ·rintro(h|⟨⟨x,y⟩,hp,rfl,rfl⟩)
  ·exact .inl h
  ·exact .inr hp
 ·rintro(h|h)
  ·exact .inl h
  ·exact .inr ⟨(a,b),h,rfl,rfl⟩
theorem j7.start{n:Nat}{ps:List (Nat × Nat)}(hp:∀p∈ps,p.1<n/\p.2<n):j7 n ps 0 (base ps) where
 refl:=λa _=>oK.mpr (.inl rfl)
 has:=λp hp=>oK.mpr (.inr hp)
 tr:=λk hk=>by omega
 least:=λT t1 t2 _ a b ha _ h=>by
  rcases oK.mp h with rfl|h
  ·exact t1 a ha
  ·exact t2 _ h
def stepM(M:List Nat)(a b:Nat):Prop:=a≠b/\aG M a b=true/\∀c,c<M.length->aG M a c=true->aG M c b=true->c=a\/c=b
theorem kL.Vf{M:List Nat}{ps:List (Nat × Nat)}{R:Nat->Nat->Bool}(nd:M.Nodup)(C:kL M.length ps R)(h1:∀p∈ps,aG M p.1 p.2=true)(h2:∀a b,a<M.length->b<M.length->stepM M a b->(a,b)∈ps):∀a b,a<M.length->b<M.length->R a b=aG M a b:=by
 have go:∀(d a b:Nat),a<M.length->b<M.length->M.getD b 0 - M.getD a 0=d->aG M a b=true->R a b=true:=by
  intro d
  induction d using Nat.strongRecOn with
  |_ d ih =>
   intro a b ha hb hd hl
   by_cases e:a=b
   ·subst e;exact C.refl a ha
   ·by_cases hs:stepM M a b
    ·exact C.has _ (h2 a b ha hb hs)
    ·have hc:∃c,c<M.length/\aG M a c=true/\aG M c b=true/\c≠a/\c≠b:=by
      apply Hw
      intro hn;refine hs ⟨e,hl,λc hc h1 h2=>?_⟩;apply Hw
      intro hcc;exact hn ⟨c,hc,h1,h2,λz=>hcc (.inl z),λz=>hcc (.inr z)⟩
     obtain⟨c,hc,l1,l2,n1,n2⟩:=hc;have i1:=(dS.mp l1).le;have i2:=(dS.mp l2).le;have j1:M.getD a 0≠M.getD c 0:=λz=>n1 (getD_inj nd hc ha z.symm);have j2:M.getD c 0≠M.getD b 0:=λz=>n2 (getD_inj nd hc hb z);exact C.trans a c b ha hc hb (ih _ (by omega) a c ha hc rfl l1) (ih _ (by omega) c b hc hb rfl l2)
 intro a b ha hb;rw[dk];exact⟨λh=>C.least (aG M) (λa _=>jO M a) h1 (λa b c _ _ _=>NK) a b ha hb h,λh=>go _ a b ha hb rfl h⟩
instance (M:List Nat):Decidable (bO M):=
 decidable_of_iff (M.Nodup/\M.length<=24/\(∀x∈M,∀y∈M,x&&& y∈M)/\∃t∈M,∀x∈M,Sub x t)
  ⟨λhpq=>by obtain⟨a,b,c,d⟩:=hpq;exact⟨a,b,c,d⟩,λhpq=>by obtain⟨a,b,c,d⟩:=hpq;exact⟨a,b,c,d⟩⟩
noncomputable def h7 (k:Nat):List Nat:=[0]++(if 1<k then(List.range k).map (λi=>2 ^ i)else[])++[2 ^ k - 1]
noncomputable def nE (one other:List Nat) (p:Nat):List Nat:=one++(other.drop 1).map λm=>one.getLastD 0 ||| (m*2 ^ p)
noncomputable def lu (one other:List Nat):List Nat:=one.flatMap λm=>other.map λx=>m ||| (x*2 ^ 10)
noncomputable def iu (k:Nat):List Nat:=([0,1,3,7,15,31]:List Nat).take k
noncomputable def lP:Nat->List Nat
 |0=>[0,1,2,6,7]
 |_=>[0,1,3,4,12,15]
noncomputable def KN:List Nat:=[1,255]++((List.range 7).map λi=>1 ||| 2 ^ (1+i)) ++
 (List.range 7).map λk=>(((List.range 8).filter λr=>([0,1,1,0,1,0,0,1]:List Nat).getD (r&&& (1+k)) 0==0).map λr=>2 ^ r).sum
theorem Yu:∀a,a<5->∀b,b<5->∀c,c<4->bO (nE (nE (h7 (1+a)) (h7 (1+b)) 10) (h7 (1+c)) 20):=by trivial
theorem Yv:bO KN:=by trivial
theorem Yw:∀a,a<4->∀b,b<6->bO (lu (iu (1+a)) (iu (1+b))):=by trivial
theorem Yx:∀a,a<4->∀b,b<4->bO (lu (iu (1+a)) (h7 (1+b))):=by trivial
theorem Yy:∀a,a<4->∀b,b<2->bO (lu (iu (1+a)) (lP b)):=by trivial
theorem Yz:∀a,a<5->∀b,b<2->bO (nE (lP b) (h7 (1+a)) 10):=by trivial
theorem Om:∀(n:Nat) (l:List Nat),l.Nodup->(∀x∈l,x<n)->l.length<=n
 |0,l,_,h=>by
  cases l with
  |nil=>exact aY _
  |cons a r=>exact absurd (h a bX) (yf _)
 |n+1,l,nd,h=>by
  have ih:=Om n (l.erase n) (nd.erase n) λx hx=>by
   have h1:=h x (List.mem_of_mem_erase hx);have h2:x≠n:=λe=>by subst e;exact nd.not_mem_erase hx
   omega
  have h3:l.length<=(l.erase n).length+1:=by rw[List.length_erase];split<;>omega
  omega
end Ev
namespace _M
open PySem PySem.Spec PyProof.Rows _L
noncomputable def top (i:Nat):Stmt:=PySem.Challenge.pw_evenclimb_k42_steps_paired.main.body.getD i (.Pass ⟨0,0,0,0⟩)
structure Txt (mg:Str->Option Value):Prop where
 len:mg "len" = none
 range:mg "range" = none
 zip:mg "zip" = none
 enumerate:mg "enumerate" = none
 tuple:mg "tuple" = none
 list:mg "list" = none
 int:mg "int" = none
 bool:mg "bool" = none
 str:mg "str" = none
 isinstance:mg "isinstance" = none
 sum:mg "sum" = none
 any:mg "any" = none
 all:mg "all" = none
 sorted:mg "sorted" = none
 min:mg "min" = none
 max:mg "max" = none
 most:∃t,mg "MOST_THINGS" = some (.int 24 t)
section
variable {P:Program} {w:World} {K:W.Frag} {mg:Str->Option Value} {base:Heap} {f:Addr} {fd:FuncData}
abbrev Es:Stmt:=top 20
theorem Qk:a_ ["value"] ["value"] (aB Es):=by trivial
def wW:Sp:=Pu (λvs _=>∃i,vs = [.int i]) λ_ _ v _=>v = .bl true
theorem aad (F:aU K "is_whole" "is_whole" Es f fd) (T:Txt mg):aN P w K mg base aZ 1 f fd ["value"] wW:=by
 refine F.ok Qk (λvs H Q E h=>?_) (λcdv A outer s H vs Q E hr h=>?_)
 ·obtain⟨⟨i,rfl⟩,_⟩:=h
  rfl
 ·obtain⟨⟨i,rfl⟩,k⟩:=h
  have nd:=Qk.nd;refine⟨_,(ay (aR (kD (bf (lC (K:=K) "int" rfl) rfl T.isinstance dG (ae (pv 0) (ae (kE (v:=.ty "int") rfl T.int uE rfl) ag))) (jS (DR (bf (lC (K:=K) "bool" rfl) rfl T.isinstance dG (ae (pv 0) (ae (kE (v:=.ty "bool") rfl T.bool JL rfl) ag)))))))),?_⟩;refine⟨_,rfl,_,_,_,rfl,.int i,rfl,true,rfl,dR ?_⟩;exact⟨_,rfl,_,_,_,rfl,.int i,rfl,false,rfl,k _ _ (Same.refl _) rfl⟩
abbrev Ep:Stmt:=top 21
theorem Qj:a_ ["count","number"] ["count","number"] (aB Ep):=by trivial
def wV:Sp:=Pu (λvs _=>∃n i,vs = [.int n,.int i]) λvs _ v _=>∀n i,vs = [.int n,.int i]->v = .bl (decide (0<=i/\i<n))
theorem aac (F:aU K "is_thing" "is_thing" Ep f fd) (T:Txt mg) (oN:aC P w K mg base "is_whole" ["value"] 1 wW):aN P w K mg base aZ 2 f fd ["count","number"] wV:=by
 refine F.ok Qj (λvs H Q E h=>?_) (λcdv A outer s H vs Q E hr h=>?_)
 ·obtain⟨⟨n,i,rfl⟩,_⟩:=h
  rfl
 ·obtain⟨⟨n,i,rfl⟩,k⟩:=h
  have nd:=Qj.nd;refine⟨_,(ay (aR (kD (aL oN hr rfl (ae (pv 1) ag)) (jS (abd Dy pL ak (pv 1) (pv 0)))))),?_⟩;refine⟨_,rfl,⟨i,rfl⟩,λv H1 s1 hv=>?_⟩;subst hv;refine⟨true,rfl,dR ?_⟩;refine⟨_,rfl,_,_,rfl,rfl,_,rfl,bq (λh1=>?_) (λh1=>?_)⟩
  ·refine⟨_,rfl,_,_,rfl,rfl,k _ _ s1 ?_⟩
   intro n' i' e;cases e;rw[show decide (0<=i/\i<n)=decide (i<n)from by
    rw[cL]at h1;exact lD.mpr ⟨λh=>h.2,λh=>⟨h1,h⟩⟩]
  ·refine k _ _ s1 ?_
   intro n' i' e;cases e;rw[cg (λh=>h1 (cB h.1))]
abbrev Fq:Stmt:=top 22
theorem Q7:a_ ["count","number"] ["count","number"] (aB Fq):=by trivial
def Gs:Sp:=Pu (λvs _=>∃n i:Int,vs = [.int n,.int i]/\0<=i/\i<n) λ_ _ v _=>v = .non
theorem aaq (F:aU K "need_thing" "need_thing" Fq f fd) (T:Txt mg) (oM:aC P w K mg base "is_thing" ["count","number"] 2 wV):aN P w K mg base aZ 3 f fd ["count","number"] Gs:=by
 refine F.ok Q7 (λvs H Q E h=>?_) (λcdv A outer s H vs Q E hr h=>?_)
 ·obtain⟨⟨n,i,rfl,_⟩,_⟩:=h
  rfl
 ·obtain⟨⟨n,i,rfl,h0,h1⟩,k⟩:=h
  have nd:=Q7.nd;refine⟨_,(ay (bA (du (bZ (aL oM hr rfl (ae (pv 0) (ae (pv 1) ag))))) (ay vW) bD)),?_⟩;refine⟨_,rfl,_,rfl,⟨n,i,rfl⟩,λv H1 s1 hv=>?_⟩;rw[hv n i rfl,cB (show 0<=i/\i<n from⟨h0,h1⟩)];exact⟨true,rfl,bx (k _ _ s1 rfl)⟩
abbrev Fj:Stmt:=top 23
theorem QW:a_ ["count"] ["count"] (aB Fj):=by trivial
def Gm:Sp:=Pu (λvs _=>∃n:Int,vs = [.int n]/\1<=n/\n<=24) λ_ _ v _=>v = .non
theorem aam (F:aU K "need_count" "need_count" Fj f fd) (T:Txt mg) (oN:aC P w K mg base "is_whole" ["value"] 1 wW):aN P w K mg base aZ 2 f fd ["count"] Gm:=by
 refine F.ok QW (λvs H Q E h=>?_) (λcdv A outer s H vs Q E hr h=>?_)
 ·obtain⟨⟨n,rfl,_⟩,_⟩:=h
  rfl
 ·obtain⟨⟨n,rfl,h0,h1⟩,k⟩:=h
  have nd:=QW.nd;obtain⟨t24,U3⟩:=T.most;refine⟨_,(ay (bA (PW.pt (dI (du (bZ (aL oN hr rfl (ae (pv 0) ag)))) (ft (du (abG Dy Dy ak (pv 0) (fO (v:=.int 24) rfl U3 ⟨_,rfl⟩)))))) (ay vW) bD)),?_⟩;refine⟨_,rfl,⟨n,rfl⟩,λv H1 s1 hv=>?_⟩;subst hv;refine⟨true,rfl,bx ?_⟩;refine⟨_,rfl,_,_,rfl,rfl,_,rfl,?_⟩;rw[if_pos (cB h0)];refine⟨_,_,rfl,rfl,_,rfl,?_⟩;rw[cB h1];exact bx (k _ _ s1 rfl)
end
noncomputable def bT (H:Hp) (p:Nat × Nat) (v:V):Prop:=∃t,v = .ref t/\H t=some (.tup [.int p.1,.int p.2])
noncomputable def ow (K:W.Frag) (H:Hp) (a:Addr) (ps:List (Nat × Nat)):Prop:=∃vs,ah K H a vs/\Paired (bT H) ps vs
noncomputable def TT (H:Hp) (v:V) (n:Nat) (g:Nat->Nat->V):Prop:=∃a vs,v = .ref a/\H a=some (.tup vs)/\Paired (λi u=>∃b,u = .ref b/\H b=some (.tup ((List.range n).map (g i)))) (List.range n) vs
theorem bT.same{H H':Hp}(s:Same H H'){p:Nat × Nat}{v:V}(h:bT H p v):bT H' p v:=let⟨t,e,q⟩:=h;⟨t,e,s _ _ q⟩
theorem c9.same{H H':Hp}(s:Same H H'){ps:List (Nat × Nat)}{vs:List V}(h:Paired (bT H) ps vs):Paired (bT H') ps vs:=Paired.di h λ_ _ q=>q.same s
theorem ow.same{K:W.Frag}{H H':Hp}{a:Addr}{ps:List (Nat × Nat)}(s:Same H H')(h:ow K H a ps):ow K H' a ps:=let⟨vs,e,q⟩:=h;⟨vs,s.seq e,c9.same s q⟩
theorem TT.same{H H':Hp}(s:Same H H'){v:V}{n:Nat}{g:Nat->Nat->V}(h:TT H v n g):TT H' v n g:=
 let⟨a,vs,e,q,r⟩:=h;⟨a,vs,e,s _ _ q,Paired.di r λ_ _ hpq=>by obtain⟨b,e,q⟩:=hpq;exact⟨b,e,s _ _ q⟩⟩
theorem c7{α β:Type}{F:α->β->Prop}:∀{l:List α} {m:List β} {i:Nat} {y:β},Paired F l m->m[i]?=some y->∃x,l[i]?=some x/\F x y
 |_,_,_,_,.nil,h=>by simp at h
 |_,_,0,_,.cons r _,h=>by simp at h;subst h;exact⟨_,rfl,r⟩
 |_,_,i+1,y,.cons _ t,h=>by
  obtain⟨x,h1,h2⟩:=c7 (i:=i) (y:=y) t (by simpa using h);exact⟨x,by simpa using h1,h2⟩
theorem il{α β:Type}{F:α->β->Prop}:∀{l:List α} {m:List β} {i:Nat} {x:α},Paired F l m->l[i]?=some x->∃y,m[i]?=some y/\F x y
 |_,_,_,_,.nil,h=>by simp at h
 |_,_,0,_,.cons r _,h=>by simp at h;subst h;exact⟨_,rfl,r⟩
 |_,_,i+1,y,.cons _ t,h=>by
  obtain⟨x,h1,h2⟩:=il (i:=i) (x:=y) t (by simpa using h);exact⟨x,by simpa using h1,h2⟩
theorem TT.row{H:Hp}{v:V}{n:Nat}{g:Nat->Nat->V}(h:TT H v n g){i:Nat}(hi:i<n):∃a vs b,v = .ref a/\H a=some (.tup vs)/\vs.length=n/\vs[i]?=some (.ref b)/\H b=some (.tup ((List.range n).map (g i))):=by
 obtain⟨a,vs,e,q,r⟩:=h;obtain⟨y,h1,b,rfl,h2⟩:=il (i:=i) (x:=i) r (by simp[hi]);exact⟨a,vs,b,e,q,by simpa using(cp r).symm,h1,h2⟩
theorem qR{n:Nat}{g:Nat->V}{j:Nat}(hj:j<n):eT ((List.range n).map g) (j:Int)=some (g j):=aH (by simp[hj])
theorem dE{n:Nat}(h:n<=24):n<sizeLine:=ot h (by decide)
theorem dw{n:Nat}(h:n<=100000):n<sizeLine:=ot h (by decide)
theorem bC{n:Nat}(h:n<=100000):-(2 ^ 62)<=(n:Int)/\(n:Int)<2 ^ 62:=by omega
theorem zJ{t i:Nat}:decide (V.int (t:Int)=V.int (0+(i:Int)))=decide (t=i):=by
 apply lD.mpr
 constructor
 ·intro h;injection h with h;omega
 ·intro h;subst h;simp
section
variable {P:Program} {w:World} {K:W.Frag} {mg:Str->Option Value} {base:Heap} {f:Addr} {fd:FuncData}
abbrev Fp:Stmt:=top 24
theorem Q6:a_ ["count","pairs","pair"] ["count","pairs"] (aB Fp):=by trivial
def Gr(K:W.Frag):Sp:=Pu (λvs H=>∃(n a:Nat) (ps:List (Nat × Nat)),vs = [.int n,.ref a]/\ow K H a ps/\∀p∈ps,p.1<n/\p.2<n) λ_ _ v _=>v = .non
theorem aap (F:aU K "need_pairs" "need_pairs" Fp f fd) (T:Txt mg) (uI:aC P w K mg base "need_thing" ["count","number"] 3 Gs):aN P w K mg base aZ 4 f fd ["count","pairs"] (Gr K):=by
 refine F.ok Q6 (λvs H Q E h=>?_) (λcdv A outer s H vs Q E hr h=>?_)
 ·obtain⟨⟨n,a,ps,rfl,_⟩,_⟩:=h
  rfl
 ·obtain⟨⟨n,a,ps,rfl,⟨vs,hl,hp⟩,hb⟩,k⟩:=h
  have nd:=Q6.nd;refine⟨_,(ay (cx cq rfl (dC (K:=K) rfl (pv 1)) (bj (i:=2) nd rfl (Or.inl rfl))
   (av (cT (aL uI hr rfl (ae (pv 0) (ae (aq (aK (K:=K) rfl) (pv 2) ak (λ_ _=>rfl)) ag))))
   (ay (cT (aL uI hr rfl (ae (pv 0) (ae (aq (aK (K:=K) rfl) (pv 2) ak (λ_ _=>rfl)) ag)))))))),?_⟩
  refine⟨_,rfl,a,rfl,⟨_,hl⟩,iF (K:=K) (a:=a) (xs:=vs) (λi σ H2=>∃v,σ = [some (.int n),some (.ref a),v]/\Same H H2) ⟨none,rfl,Same.refl _⟩ (λi σ H2 _ hpq=>by obtain⟨_,_,s2⟩:=hpq;exact s2.seq hl) ?_ ?_⟩
  ·rintro i y σ H2 hi ⟨v,rfl,s2⟩
   obtain⟨p,hp1,t,rfl,ht⟩:=c7 hp hi;obtain⟨b1,b2⟩:=hb p (df hp1);refine⟨_,rfl,_,rfl,t,_,0,_,rfl,rfl,.inl (.inl (s2 _ _ ht)),rfl,⟨n,_,rfl,by omega,by omega⟩,λv3 H3 s3 _=>?_⟩;refine⟨_,rfl,_,rfl,t,_,1,_,rfl,rfl,.inl (.inl ((s2.trans s3) _ _ ht)),rfl,⟨n,_,rfl,by omega,by omega⟩,λv4 H4 s4 _=>?_⟩;exact⟨_,rfl,(s2.trans s3).trans s4⟩
  ·rintro σ H2 ⟨v,rfl,s2⟩
   exact k _ _ s2 rfl
abbrev wH:Stmt:=top 25
theorem Q_:a_ ["count","thing"] ["count","thing"] (aB wH):=by trivial
noncomputable def bR (n:Nat) (p:Nat->Bool):List V:=(List.range n).map λb=>V.bl (p b)
def Gv:Sp:=Pu (λvs H=>∃n t:Nat,vs = [.int n,.int t]/\n<=24) λvs H v H'=>∀n t:Nat,vs = [.int n,.int t]->∃a,v = .ref a/\H a=none/\H' a=some (.lst (bR n λb=>decide (t=b)))
theorem aas (F:aU K "own_row" "own_row" wH f fd) (T:Txt mg):aN P w K mg base aZ 1 f fd ["count","thing"] Gv:=by
 refine F.ok Q_ (λvs H Q E h=>?_) (λcdv A outer s H vs Q E hr h=>?_)
 ·obtain⟨⟨n,t,rfl,_⟩,_⟩:=h
  rfl
 ·obtain⟨⟨n,t,rfl,hn⟩,k⟩:=h
  have nd:=Q_.nd;refine⟨_,(ay (aR (dj (own:=["other"]) (fr:=[("thing", 1)]) rfl (cA (aB wH) ["count","thing"] rfl rfl (by trivial)) (cQ rfl T.range (ae (pv 0) ag)) (λ_ _ _ _=>⟨(bj (i:=0) (by trivial:(["other","thing"]:List Str).Nodup) rfl (Or.inl rfl)),da,(iq dW (pv 1) (pv 0) (bh _))⟩)))),?_⟩;refine⟨_,rfl,n,rfl,(bC (by omega)).1,(bC (by omega)).2,λD hD=>fk (λi=>.bl (decide (t=i))) src_range hD (dE (by simpa using hn)) (λi H2 Kt hi hs hk=>?_) (λH' hs hl=>?_)⟩
  ·refine⟨_,rfl,_,rfl,rfl,?_⟩
   rw[zJ];exact hk _ (Same.refl _)
  ·refine k _ _ hs ?_
   intro n' t' e;cases e;exact⟨D,rfl,hD,by rw[hl];simp[bR]⟩
end
theorem sO(n:Nat)(p:Nat->Bool):(bR n p).length=n:=by simp[bR]
theorem sM{n:Nat}{p:Nat->Bool}{i:Nat}(h:i<n):(bR n p).getD i .non = .bl (p i):=by simp[bR,h]
theorem acf{n:Nat}{p:Nat->Bool}{j:Nat}:(bR n p).set j (.bl true)=bR n λb=>if b=j then true else p b:=by
 apply kP
 ·simp[bR]
 ·intro i h1 h2
  simp only[bR,List.getElem_set,jY,mz]
  by_cases e:j=i
  ·simp[e]
  ·have:¬ i=j:=λz=>e z.symm
   simp[e,this]
theorem lQ{n:Nat}{p q:Nat->Bool}(h:∀b,b<n->p b=q b):bR n p=bR n q:=by
 unfold bR;apply n_
 intro b hb;rw[h b (by simpa using hb)]
section
variable {P:Program} {w:World} {K:W.Frag} {mg:Str->Option Value} {base:Heap} {f:Addr} {fd:FuncData}
abbrev wq:Stmt:=top 26
theorem Qa:a_ ["one","other"] ["one","other"] (aB wq):=by trivial
def FQ:Sp:=Pu (λvs H=>∃(x y n:Nat) (p q:Nat->Bool),vs = [.ref x,.ref y]/\H x=some (.lst (bR n p))/\H y=some (.lst (bR n q))/\n<=24)
 λvs H v H'=>∀(x y n:Nat) (p q:Nat->Bool),vs = [.ref x,.ref y]->H x=some (.lst (bR n p))->H y=some (.lst (bR n q))->∃a,v = .ref a/\H a=none/\H' a=some (.lst (bR n λb=>p b||q b))
theorem wc{n m:Nat}{p q:Nat->Bool}(h:bR n p=bR m q):n=m/\∀b,b<n->p b=q b:=by
 have e:n=m:=by have:=congrArg List.length h;rwa [sO,sO]at this
 subst e;refine⟨rfl,λb hb=>?_⟩;have:=congrArg (λl=>l.getD b V.non) h;simp only[sM hb]at this;injection this
theorem ZZ (F:aU K "either" "either" wq f fd) (T:Txt mg):aN P w K mg base aZ 1 f fd ["one","other"] FQ:=by
 refine F.ok Qa (λvs H Q E h=>?_) (λcdv A outer s H vs Q E hr h=>?_)
 ·obtain⟨⟨x,y,n,p,q,rfl,_⟩,_⟩:=h
  rfl
 ·obtain⟨⟨x,y,n,p,q,rfl,hx,hy,hn⟩,k⟩:=h
  have nd:=Qa.nd;refine⟨_,(ay (aR (dj (own:=["a","b"]) (fr:=[]) rfl (cA (aB wq) ["one","other"] rfl rfl (by trivial)) (pR (K:=K) true true rfl rfl T.zip (ae (pv 0) (ae (pv 1) ag))) (λ_ _ _ _=>⟨(iM (K:=K) (i:=0) (j:=1) rfl rfl (by trivial:(["a","b"]:List Str).Nodup) rfl rfl rfl rfl),da,(abl (pv 0) (jS (pv 1)))⟩)))),?_⟩;refine⟨_,rfl,_,rfl,x,y,_,_,rfl,ah.of hx,ah.of hy,λD hD=>fk (λi=>.bl (p i||q i)) (tj (c1:=true) (c2:=true) (ah.of hx) (ah.of hy) (n:=n) (by simp[sO])) hD (dE hn) (λi H2 Kt hi hs hk=>?_) (λH' hs hl=>?_)⟩
  ·refine⟨_,rfl,p i,sM hi,bq (λh=>?_) (λh=>?_)⟩
   ·have:=hk _ (Same.refl _)
    simpa[h]using this
   ·refine⟨_,rfl,?_⟩
    have:=hk _ (Same.refl _);rw[sM hi];simpa[h]using this
  ·refine k _ _ hs ?_
   intro x' y' n' p' q' e h1 h2;cases e;rw[hx]at h1;rw[hy]at h2;injection h1 with h1
   injection h1 with h1
   injection h2 with h2
   injection h2 with h2
   obtain⟨rfl,e1⟩:=wc h1;obtain⟨_,e2⟩:=wc h2;refine⟨D,rfl,hD,?_⟩;rw[hl];show some (HO.lst (bR n λi=>p i||q i))=_;rw[lQ λb hb=>by rw[e1 b hb,e2 b hb]]
abbrev wL:Stmt:=top 27
theorem Rh:a_ ["one","other"] ["one","other"] (aB wL):=by trivial
def GJ:Sp:=Pu (λvs H=>∃(x y n:Nat) (p q:Nat->Bool),vs = [.ref x,.ref y]/\H x=some (.tup (bR n p))/\H y=some (.tup (bR n q))/\n<=24)
 λvs H v H'=>∀(x y n:Nat) (p q:Nat->Bool),vs = [.ref x,.ref y]->H x=some (.tup (bR n p))->H y=some (.tup (bR n q))->∃a,v = .ref a/\H a=none/\H' a=some (.tup (bR n λb=>p b&&q b))
theorem aaA (F:aU K "shared" "shared" wL f fd) (T:Txt mg):aN P w K mg base aZ 1 f fd ["one","other"] GJ:=by
 refine F.ok Rh (λvs H Q E h=>?_) (λcdv A outer s H vs Q E hr h=>?_)
 ·obtain⟨⟨x,y,n,p,q,rfl,_⟩,_⟩:=h
  rfl
 ·obtain⟨⟨x,y,n,p,q,rfl,hx,hy,hn⟩,k⟩:=h
  have nd:=Rh.nd;refine⟨_,(ay (aR (gE (mQ (K:=K) rfl) rfl T.tuple j9 (ae (dj (own:=["a","b"]) (fr:=[]) rfl (cA (aB wL) ["one","other"] rfl rfl (by trivial)) (pR (K:=K) false false rfl rfl T.zip (ae (pv 0) (ae (pv 1) ag))) (λ_ _ _ _=>⟨(iM (K:=K) (i:=0) (j:=1) rfl rfl (by trivial:(["a","b"]:List Str).Nodup) rfl rfl rfl rfl),da,(kD (pv 0) (jS (pv 1)))⟩)) ag)))),?_⟩;refine⟨_,rfl,_,rfl,x,y,_,_,rfl,ax.of hx,ax.of hy,λD hD=>fk (λi=>.bl (p i&&q i)) (tj (c1:=false) (c2:=false) (ax.of hx) (ax.of hy) (n:=n) (by simp[sO])) hD (dE hn) (λi H2 Kt hi hs hk=>?_) (λH' hs hl=>?_)⟩
  ·refine⟨_,rfl,p i,sM hi,bq (λh=>?_) (λh=>?_)⟩
   ·refine⟨_,rfl,?_⟩
    have:=hk _ (Same.refl _);rw[sM hi];simpa[h]using this
   ·have:=hk _ (Same.refl _)
    simpa[h]using this
  ·refine⟨D,_,rfl,.inl ⟨ah.of hl,λl hl'=>?_⟩⟩
   have hlH:H l=none:=hs.free hl';refine k _ _ (hs.trans (Same.put hl')) ?_;intro x' y' n' p' q' e h1 h2;cases e;rw[hx]at h1;rw[hy]at h2;injection h1 with h1
   injection h1 with h1
   injection h2 with h2
   injection h2 with h2
   obtain⟨rfl,e1⟩:=wc h1;obtain⟨_,e2⟩:=wc h2;refine⟨l,rfl,hlH,?_⟩;rw[au];show some (HO.tup (bR n λi=>p i&&q i))=_;rw[lQ λb hb=>by rw[e1 b hb,e2 b hb]]
abbrev wo:Stmt:=top 28
theorem P_:a_ ["rows","place"] ["rows","place"] (aB wo):=by trivial
def FP:Sp:=Pu (λvs H=>∃(v:V) (n j:Nat) (g:Nat->Nat->V),vs = [v,.int j]/\TT H v n g/\j<n/\n<=24)
 λvs H v H'=>∀(u:V) (n j:Nat) (g:Nat->Nat->V),vs = [u,.int j]->TT H u n g->j<n->∃a,v = .ref a/\H a=none/\H' a=some (.tup ((List.range n).map λi=>g i j))
theorem TT.inj{H:Hp}{v:V}{n m:Nat}{g g':Nat->Nat->V}(h:TT H v n g)(h':TT H v m g'):n=m/\∀i j,i<n->j<n->g i j=g' i j:=by
 obtain⟨a,vs,e,q,r⟩:=id h;obtain⟨a',vs',e',q',r'⟩:=id h';rw[e]at e';injection e' with e'
 subst e';rw[q]at q';injection q' with q'
 injection q' with q'
 subst q';have en:n=m:=by
  have h1:=cp r;have h2:=cp r';simp at h1 h2;omega
 subst en;refine⟨rfl,λi j hi hj=>?_⟩;obtain⟨y,h1,b,rfl,h2⟩:=il (i:=i) (x:=i) r (by simp[hi]);obtain⟨y',h1',b',rfl,h2'⟩:=il (i:=i) (x:=i) r' (by simp[hi]);rw[h1]at h1';injection h1' with h1'
 injection h1' with h1'
 subst h1';rw[h2]at h2';injection h2' with h2'
 injection h2' with h2'
 have:=congrArg (λl=>l.getD j V.non) h2';simpa[hj]using this
theorem ZW (F:aU K "column" "column" wo f fd) (T:Txt mg):aN P w K mg base aZ 1 f fd ["rows","place"] FP:=by
 refine F.ok P_ (λvs H Q E h=>?_) (λcdv A outer s H vs Q E hr h=>?_)
 ·obtain⟨⟨v,n,j,g,rfl,_⟩,_⟩:=h
  rfl
 ·obtain⟨⟨v,n,j,g,rfl,ht,hj,hn⟩,k⟩:=h
  have nd:=P_.nd;obtain⟨a,us,rfl,hq,hr'⟩:=id ht;have hlen:us.length=n:=by simpa using(cp hr').symm
  refine⟨_,(ay (aR (gE (mQ (K:=K) rfl) rfl T.tuple j9 (ae (dj (own:=["row"]) (fr:=[("place", 1)]) rfl (cA (aB wo) ["rows","place"] rfl rfl (by trivial)) (DW (K:=K) rfl (pv 0)) (λ_ _ _ _=>⟨(bj (i:=0) (by trivial:(["row","place"]:List Str).Nodup) rfl (Or.inl rfl)),da,(aq (aK (K:=K) rfl) (pv 0) (pv 1) (λ_ _=>rfl))⟩)) ag)))),?_⟩;refine⟨_,rfl,a,rfl,⟨_,ax.of hq⟩,λD hD=>fk (λi=>g i j) (Rv (ax.of hq)) hD (dE (by omega)) (λi H2 Kt hi hs hk=>?_) (λH' hs hl=>?_)⟩
  ·obtain⟨y,h1,b,rfl,h2⟩:=il (i:=i) (x:=i) hr' (mx (by omega))
   refine⟨_,rfl,_,rfl,b,_,j,_,(by rw[aQ,h1];rfl),rfl,ax.of (hs _ _ h2),qR hj,hk _ (Same.refl _)⟩
  ·refine⟨D,_,rfl,.inl ⟨ah.of hl,λl hl'=>?_⟩⟩
   refine k _ _ (hs.trans (Same.put hl')) ?_;intro u' n' j' g' e h1 h2;injection e with e1 e2
   injection e2 with e2 _
   injection e2 with e2
   have ej:j=j':=by omega
   subst ej;rw[<- e1]at h1;obtain⟨rfl,eg⟩:=ht.inj h1;refine⟨l,rfl,hs.free hl',?_⟩;rw[au,hlen]
   congr 2
   exact n_ λi hi=>eg i j (by simpa using hi) hj
end
theorem Zv{N:List Addr}(hN:N.Nodup){i j:Nat}{x:Addr}(a:N[i]?=some x)(b:N[j]?=some x):i=j:=by
 obtain⟨h1,e1⟩:=bJ.mp a;obtain⟨h2,e2⟩:=bJ.mp b;exact(xW hN).mp (e1.trans e2.symm)
theorem Oo:∀{as:List Addr} {t b:Nat},as.Nodup->b ∉ as->(as.set t b).Nodup
 | [],_,_,_,_=>by simp
 |a::r,0,b,nd,hb=>iT.mpr ⟨λh=>hb (b_ _ h),(iT.mp nd).2⟩
 |a::r,t+1,b,nd,hb=>by
  rw[List.set_cons_succ];refine iT.mpr ⟨λh=>?_,Oo (iT.mp nd).2 λh=>hb (b_ _ h)⟩
  rcases S2 h with h|h
  ·exact(iT.mp nd).1 h
  ·subst h;exact hb bX
structure fh (H0 H:Hp) (r n:Nat) (as:List Addr) (R:Nat->Nat->Bool):Prop where
 same:Same H0 H
 lst:H r=some (.lst (as.map V.ref))
 len:as.length=n
 nd:as.Nodup
 Oi:H0 r=none
 new:∀a∈as,H0 a=none/\a≠r
 row:∀(i:Nat) a,as[i]?=some a->H a=some (.lst (bR n (R i)))
theorem fh.congr{H0 H:Hp}{r n:Nat}{as:List Addr}{R R':Nat->Nat->Bool}(W:fh H0 H r n as R)(h:∀a b,a<n->b<n->R a b=R' a b):fh H0 H r n as R':=
 {W with row:=λi a e=>(W.row i a e).trans (by rw[lQ λb hb=>h i b (by rw[<- W.len];exact(bJ.mp e).1) hb])}
theorem fh.get{H0 H:Hp}{r n:Nat}{as:List Addr}{R:Nat->Nat->Bool}(W:fh H0 H r n as R){i:Nat}(hi:i<n):∃a,as[i]?=some a/\(as.map V.ref)[i]?=some (.ref a)/\a∈as/\H a=some (.lst (bR n (R i))):=by
 have h:i<as.length:=by rw[W.len];exact hi
 exact⟨as[i],aA h,by simp[h],fC h,W.row i _ (aA h)⟩
theorem fh.grow{H0 H H':Hp}{r n:Nat}{as:List Addr}{R:Nat->Nat->Bool}(W:fh H0 H r n as R)(s:Same H H'):fh H0 H' r n as R:=
 {W with same:=W.same.trans s,lst:=s _ _ W.lst,row:=λi a e=>s _ _ (W.row i a e)}
theorem fh.put{H0 H:Hp}{r n:Nat}{as:List Addr}{R:Nat->Nat->Bool}(W:fh H0 H r n as R){i j a:Nat}(ha:as[i]?=some a):
  fh H0 (upd H a (.lst ((bR n (R i)).set j (.bl true)))) r n as (λx y=>if x=i/\y=j then true else R x y):=by
 have am:a∈as:=df ha;refine{W with same:=λb o e=>?_,lst:=?_,row:=λk b e=>?_}
 ·rw[aF (λz=>by rw[z,(W.new a am).1]at e;cases e)]
  exact W.same _ _ e
 ·rw[aF (bP (W.new a am).2)]
  exact W.lst
 ·by_cases hk:k=i
  ·subst hk
   rw[ha]at e;cases e;rw[au,acf]
   congr 2
   apply lQ
   intro b hb;simp
  ·have hba:b≠a:=by
    rintro rfl;exact hk (Zv W.nd e ha)
   rw[aF hba,W.row k b e]
   congr 2
   apply lQ
   intro c hc;rw[if_neg (λz=>hk z.1)]
theorem fh.swap{H0 H:Hp}{r n:Nat}{as:List Addr}{R:Nat->Nat->Bool}(W:fh H0 H r n as R){t b:Nat}{p:Nat->Bool}(ht:t<n)(hb:H0 b=none)(hbr:b≠r)(hba:b ∉ as)(hp:H b=some (.lst (bR n p))):
  fh H0 (upd H r (.lst ((as.map V.ref).set t (.ref b)))) r n (as.set t b) (λx y=>if x=t then p y else R x y):=by
 refine⟨λc o e=>?_,?_,by rw[HY];exact W.len,?_,W.Oi,λc hc=>?_,λk c e=>?_⟩
 ·rw[aF (λz=>by rw[z,W.Oi]at e;cases e)]
  exact W.same _ _ e
 ·rw[au,List.map_set]
 ·exact Oo W.nd hba
 ·rcases S2 hc with h|h
  ·exact W.new c h
  ·subst h;exact⟨hb,hbr⟩
 ·by_cases hk:t=k
  ·subst hk
   have hlt:t<as.length:=by rw[W.len];exact ht
   rw[xV hlt]at e;cases e;rw[aF hbr,hp]
   congr 2
   apply lQ
   intro y _;rw[if_pos rfl]
  ·rw[tW hk]at e
   rw[aF (W.new c (df e)).2,W.row k c e]
   congr 2
   apply lQ
   intro y _;rw[if_neg (λz=>hk z.symm)]
theorem Tv(a b:Nat):Ev.base [] a b=decide (a=b):=by rw[dk,Ev.oK];simp
theorem Tw(ps:List (Nat × Nat))(p:Nat × Nat)(a b:Nat):Ev.base (ps++[p]) a b=if a=p.1/\b=p.2 then true else Ev.base ps a b:=by
 rw[dk,Ev.oK]
 by_cases h:a=p.1/\b=p.2
 ·rw[if_pos h]
  obtain⟨rfl,rfl⟩:=h;simp
 ·rw[if_neg h,Ev.oK]
  simp only[gO,gi]
  constructor
  ·rintro(h1|h1|h1)
   ·exact .inl h1
   ·exact .inr h1
   ·subst h1;exact absurd ⟨rfl,rfl⟩ h
  ·rintro(h1|h1)
   ·exact .inl h1
   ·exact .inr (.inl h1)
section
variable {P:Program} {w:World} {K:W.Frag} {mg:Str->Option Value} {base:Heap} {f:Addr} {fd:FuncData}
theorem Nm{n j:Nat}(h:j<n):iJ n (j:Int)=some j:=by
 unfold iJ;rw[if_pos (by omega),if_pos (by omega)];simp
abbrev qU (R:Nat->Nat->Bool):Nat->Nat->V:=λa b=>.bl (R a b)
abbrev sW:Stmt:=top 29
theorem Rf:a_ ["count","pairs","rows","pair","middle","thing"] ["count","pairs"] (aB sW):=by trivial
def Gz(K:W.Frag):Sp:=λvs H Q _=>∃(n a:Nat) (ps:List (Nat × Nat)),vs = [.int n,.ref a]/\ow K H a ps/\n<=24/\(∀p∈ps,p.1<n/\p.2<n) /\
 ∀v H' R,Same H H'->Ev.kL n ps R->TT H' v n (qU R)->Q v H'
theorem at0{α:Type}{xs:List α}{j:Nat}{v:α}(h:xs[j]?=some v):eT xs (0+(j:Int))=some v:=by rw[fA];exact aH h
theorem X8{n j:Nat}(h:j<n):iJ n (0+(j:Int))=some j:=by rw[fA];exact Nm h
theorem ace{n:Nat}{p:Nat->Bool}{j:Nat}(h:j<n):(bR n p)[j]?=some (.bl (p j)):=by simp[bR,h]
theorem aaw (F:aU K "reach_of" "reach_of" sW f fd) (T:Txt mg) (zo:aC P w K mg base "own_row" ["count","thing"] 1 Gv) (yS:aC P w K mg base "either" ["one","other"] 1 FQ) :
  aN P w K mg base aZ 2 f fd ["count","pairs"] (Gz K):=by
 refine F.ok Rf (λvs H Q E h=>?_) (λcdv A outer s H vs Q E hr h=>?_)
 ·obtain⟨n,a,ps,rfl,_⟩:=h
  rfl
 ·obtain⟨n,a,ps,rfl,⟨us,jK,hup⟩,hn,hb,k⟩:=h
  have nd:=Rf.nd;have en:((n:Int)).toNat=n:=dq n;refine⟨_,(av (pU (i:=2) nd rfl rfl (own:=["thing"]) (fr:=[("count", 0)]) rfl (cA (aB sW) ["count","pairs","rows","pair","middle","thing"] rfl rfl (by trivial)) (cQ rfl T.range (ae (pv 0) ag)) (λ_ _ _ _=>⟨(bj (i:=0) (by trivial:(["thing","count"]:List Str).Nodup) rfl (Or.inl rfl)),da,(aL zo hr rfl (ae (pv 1) (ae (pv 0) ag)))⟩))
   (av (cx cq rfl (dC (K:=K) rfl (pv 1)) (bj (i:=3) nd rfl (Or.inl rfl))
   (ay (DY dB (Pb (aq (aX (K:=K) rfl) (pv 2) (aq (aK (K:=K) rfl) (pv 3) ak (λ_ _=>rfl)) (λ_ _=>rfl)) (aq (aK (K:=K) rfl) (pv 3) ak (λ_ _=>rfl)) set_list))))
   (av (cx cq rfl (cQ rfl T.range (ae (pv 0) ag)) (bj (i:=4) nd rfl (Or.inl rfl))
   (ay (cx cq rfl (cQ rfl T.range (ae (pv 0) ag)) (bj (i:=5) nd rfl (Or.inl rfl))
   (ay (bA (bZ (aq (aX (K:=K) rfl) (aq (aX (K:=K) rfl) (pv 2) (pv 5) (λ_ _=>rfl)) (pv 4) (λ_ _=>rfl))) (ay (DY (aL yS hr rfl (ae (aq (aX (K:=K) rfl) (pv 2) (pv 5) (λ_ _=>rfl)) (ae (aq (aX (K:=K) rfl) (pv 2) (pv 4) (λ_ _=>rfl)) ag))) (Pb (pv 2) (pv 5) set_list))) bD)))))
   (ay (aR (gE (mQ (K:=K) rfl) rfl T.tuple j9 (ae (dj (own:=["row"]) (fr:=[]) rfl (cA (aB sW) ["count","pairs","rows","pair","middle","thing"] rfl rfl (by trivial)) (dC (K:=K) rfl (pv 2)) (λ_ _ _ _=>⟨(bj (i:=0) (by trivial:(["row"]:List Str).Nodup) rfl (Or.inl rfl)),da,(gE (mQ (K:=K) rfl) rfl T.tuple j9 (ae (pv 0) ag))⟩)) ag))))))),?_⟩
  refine⟨_,rfl,n,rfl,(bC (by omega)).1,(bC (by omega)).2,λD hD=>zA (λi=>bR n λb=>decide (i=b)) src_range hD (dE (by simpa using hn)) (λi H2 Kt hi hs hk=>?_) (λH1 as hs hl h1 h2 h3 h4=>?_)⟩
  ·refine⟨_,rfl,_,rfl,⟨n,i,by simp,hn⟩,λv H3 s3 hv=>?_⟩
   obtain⟨b,rfl,hb1,hb2⟩:=hv n i (by simp);exact hk b H3 s3 hb1 hb2
  have W0:fh H H1 D n as (Ev.base []):=⟨hs,hl,h1.trans en,h2,hD,h3,λi b e=>(h4 i b e).trans (by rw[lQ λc hc=>(Tv i c).symm])⟩;refine⟨_,rfl,a,rfl,⟨_,hs.seq jK⟩,iF (K:=K) (a:=a) (xs:=us) (λi σ H2=>∃v3,σ = [some (.int n),some (.ref a),some (.ref D),v3,none,none]/\fh H H2 D n as (Ev.base (ps.take i)))
   ⟨none,rfl,by simpa using W0⟩ (λi σ H2 _ hpq=>by obtain⟨_,_,W⟩:=hpq;exact W.same.seq jK) ?_ ?_⟩
  ·rintro i y σ H2 hi ⟨v3,rfl,W⟩
   obtain⟨p,hp1,t,rfl,ht⟩:=c7 hup hi;obtain⟨b1,b2⟩:=hb p (df hp1);obtain⟨r,r1,r2,r3,r4⟩:=W.get b1;refine⟨_,rfl,_,rfl,t,_,0,_,rfl,rfl,ax.of (W.same _ _ ht),rfl,D,_,_,_,rfl,rfl,ah.of W.lst,aH r2,_,rfl,t,_,1,_,rfl,rfl,ax.of (W.same _ _ ht),rfl,r,_,_,p.2,rfl,rfl,r4,?_,?_⟩
   ·rw[sO];exact Nm b2
   ·refine⟨_,rfl,(W.put r1).congr λx y _ _=>?_⟩
    have et:ps.take (i+1)=ps.take i++[p]:=by rw[qC,hp1];rfl
    rw[et,Tw]
  ·rintro σ H2 ⟨v3,rfl,W⟩
   have el:us.length=ps.length:=(cp hup).symm;rw[el,oh]at W;have hlen:us.length=ps.length:=(cp hup).symm;refine⟨_,rfl,n,rfl,(bC (by omega)).1,(bC (by omega)).2,fJ (lo:=0) (n:=((n:Int)).toNat) (λm σ H2=>∃v3 v4 v5 as R,σ = [some (.int n),some (.ref a),some (.ref D),v3,v4,v5]/\fh H H2 D n as R/\Ev.j7 n ps m R)
    ⟨v3,none,none,as,_,rfl,W,Ev.j7.start hb⟩ ?_ ?_⟩
   ·rintro m σ H2 hm ⟨v3,v4,v5,as,R,rfl,W,WI⟩
    have hmn:m<n:=by omega
    refine⟨_,rfl,n,rfl,(bC (by omega)).1,(bC (by omega)).2,fJ (lo:=0) (n:=((n:Int)).toNat) (λt σ H2=>∃v5 as,σ = [some (.int n),some (.ref a),some (.ref D),v3,some (.int (0+m)),v5] /\
     fh H H2 D n as (λx y=>if x<t then Ev.kJ R m x y else R x y)) ⟨v5,as,rfl,W.congr λx y _ _=>by rw[if_neg (yf x)]⟩ ?_ ?_⟩
    ·rintro t σ H3 ht ⟨v5,as,rfl,W⟩
     have htn:t<n:=by omega
     obtain⟨rt,t1,t2,t3,t4⟩:=W.get htn;obtain⟨rm,m1,m2,m3,m4⟩:=W.get hmn;refine⟨_,rfl,_,rfl,D,_,_,_,rfl,rfl,ah.of W.lst,at0 t2,_,rfl,rt,_,_,_,rfl,rfl,ah.of t4,at0 (ace hmn),_,rfl,bq (λh=>?_) (λh=>?_)⟩
     ·rw[if_neg (dY t)]at h
      refine⟨_,rfl,_,rfl,D,_,_,_,rfl,rfl,ah.of W.lst,at0 t2,_,rfl,_,rfl,D,_,_,_,rfl,rfl,ah.of W.lst,at0 m2,⟨rt,rm,n,_,_,rfl,t4,m4,hn⟩,λv H4 s4 hv=>?_⟩;obtain⟨b,rfl,q1,q2⟩:=hv rt rm n _ _ rfl t4 m4;have W4:=W.grow s4;have hbD:b≠D:=λe=>by rw[e,W.lst]at q1;cases q1
      have hba:b ∉ as:=λhm=>by
       obtain⟨j,hj,e⟩:=iS hm;have:=W.row j b (by rw[aA hj,e]);rw[q1]at this;cases this
      refine⟨_,rfl,_,rfl,D,_,_,t,rfl,rfl,W4.lst,?_,?_⟩
      ·rw[az,W4.len];exact X8 htn
      ·refine⟨_,_,rfl,(W4.swap htn (W.same.free q1) hbD hba q2).congr λx y hx hy=>?_⟩
       by_cases e:x=t
       ·subst e
        rw[if_pos rfl,if_neg (dY x),if_pos (qF x)];have em:(if m<x then Ev.kJ R m m y else R m y)=R m y:=by
         split
         ·unfold Ev.kJ
          cases R m y<;>simp
         ·rfl
        rw[em];unfold Ev.kJ;rw[h,fz]
       ·rw[if_neg e]
        by_cases rX:x<t
        ·rw[if_pos rX,if_pos (by omega)]
        ·rw[if_neg rX,if_neg (by omega)]
     ·rw[if_neg (dY t)]at h
      refine⟨_,as,rfl,W.congr λx y hx hy=>?_⟩
      by_cases e:x=t
      ·subst e
       rw[if_neg (dY x),if_pos (qF x)];unfold Ev.kJ;have h':R x m=false:=by simpa using h
       rw[h',jo,xH]
      ·by_cases rX:x<t
       ·rw[if_pos rX,if_pos (by omega)]
       ·rw[if_neg rX,if_neg (by omega)]
    ·rintro σ H3 ⟨v5,as,rfl,W⟩
     exact⟨_,_,_,as,Ev.kJ R m,rfl,W.congr λx y hx _=>by rw[if_pos (by omega)],WI.step hmn⟩
   ·rintro σ H2 ⟨v3,v4,v5,as,R,rfl,W,WI⟩
    rw[en]at WI;refine⟨_,rfl,D,rfl,⟨_,ah.of W.lst⟩,λD2 hD2=>mS (λi v H=>∃b,v = .ref b/\b≠D2/\H b=some (.tup (bR n (R i)))) (src_list (ah.of W.lst)) hD2 (dE (by rw[az,W.len];exact hn))
     (λi v H H' s hpq=>by obtain⟨b,e,hb,q⟩:=hpq;exact⟨b,e,hb,s _ _ hb q⟩) (λi H3 Kt hi hs hy hk=>?_) (λH3 ys hs hl hp=>?_)⟩
    ·rw[az,W.len]at hi
     obtain⟨r,r1,r2,r3,r4⟩:=W.get hi;obtain⟨zs,hz⟩:=hy;refine⟨_,rfl,r,_,by rw[aQ,r2];rfl,.inl ⟨ah.of (hs _ _ r4),λl hl'=>?_⟩⟩;exact hk _ _ (Same.put hl') ⟨l,rfl,(λe=>by rw[e,hz]at hl';cases hl'),au⟩
    ·refine⟨D2,_,rfl,.inl ⟨ah.of hl,λl hl'=>?_⟩⟩
     have Va:(as.map V.ref).length=n:=by rw[az,W.len]
     rw[Va]at hp;refine k _ _ R ((W.same.trans hs).trans (Same.put hl')) WI.done ⟨l,ys,rfl,au,Paired.di hp λi u hpq=>by obtain⟨b,e,_,q⟩:=hpq;exact⟨b,e,Same.put hl' _ _ q⟩⟩
end
theorem vU{H:Hp}{L:Addr}{xs ys:List V}(hL:H L=some (.lst xs)){ps:List (Nat × Nat)}{us:List V}(h:Paired (bT H) ps us):Paired (bT (upd H L (.lst ys))) ps us:=
 Paired.di h λ_ _ hpq=>by obtain⟨t,e,q⟩:=hpq;exact⟨t,e,by rw[aF (fZ q hL (λz=>nomatch z))];exact q⟩
theorem pP{α β:Type}{F:α->β->Prop}:∀{a b:List α} {c d:List β},Paired F a c->Paired F b d->Paired F (a++b) (c++d)
 |_,_,_,_,.nil,h=>h
 |_,_,_,_,.cons r t,h=>.cons r (pP t h)
theorem DN{α β γ:Type}{F:γ->β->Prop}{g:α->γ}:∀{a:List α} {c:List β},Paired (λx y=>F (g x) y) a c->Paired F (a.map g) c
 |_,_,.nil=>.nil
 |_,_,.cons r t=>.cons r (DN t)
theorem Ed{α:Type}(i:Nat)(h:Nat->List α):(List.range (i+1)).flatMap h=(List.range i).flatMap h++h i:=by
 rw[iU,xS];simp
noncomputable def Hf (n:Nat):List (Nat × Nat):=(List.range n).flatMap λl=>(List.range (n - (l+1))).map λj=>(l,l+1+j)
theorem Oa{n:Nat}{p:Nat × Nat}(h:p∈Hf n):p.1<p.2/\p.2<n:=by
 unfold Hf at h;rw[kT]at h;obtain⟨l,hl,h⟩:=h;rw[dc]at h;obtain⟨j,hj,rfl⟩:=h;simp at hl hj ⊢;omega
noncomputable def jQ (n:Nat) (R:Nat->Nat->Bool):List (Nat × Nat):=(List.range n).flatMap λl=>((List.range n).filter λh=>!decide (l=h)&&R l h).map λh=>(l,h)
section
variable {P:Program} {w:World} {K:W.Frag} {mg:Str->Option Value} {base:Heap} {f:Addr} {fd:FuncData}
abbrev wM:Stmt:=top 30
theorem Rj:a_ ["count","told","low"] ["count"] (aB wM):=by trivial
def w9:Sp:=λvs H Q _=>∃n:Nat,vs = [.int n]/\n<=24/\∀l us H',Same H H'->H' l=some (.lst us)->Paired (bT H') (Hf n) us->Q (.ref l) H'
theorem aaF (F:aU K "twos" "twos" wM f fd) (T:Txt mg):aN P w K mg base aZ 1 f fd ["count"] w9:=by
 refine F.ok Rj (λvs H Q E h=>?_) (λcdv A outer s H vs Q E hr h=>?_)
 ·obtain⟨n,rfl,_⟩:=h
  rfl
 ·obtain⟨n,rfl,hn,k⟩:=h
  have nd:=Rj.nd;have en:((n:Int)).toNat=n:=dq n;refine⟨_,(av (aP (i:=1) nd rfl (Or.inl rfl) (bU ag))
   (av (cx cq rfl (cQ rfl T.range (ae (pv 0) ag)) (bj (i:=2) nd rfl (Or.inr rfl))
   (ay (cT (eP (K:=K) rfl eE IW Ta Od (pv 1) (ae (dj (own:=["high"]) (fr:=[("low", 2)]) rfl (cA (aB wM) ["count","told","low"] rfl rfl (by trivial)) (DT rfl T.range (ae (aI dU (pv 2) ak) (ae (pv 0) ag))) (λ_ _ _ _=>⟨(bj (i:=0) (by trivial:(["high","low"]:List Str).Nodup) rfl (Or.inl rfl)),da,(fP (ae (pv 1) (ae (pv 0) ag)))⟩)) ag)))))
   (ay (aR (pv 1))))),?_⟩
  refine⟨by show 0<=sizeLine;decide,λL hL=>?_⟩;refine⟨_,rfl,n,rfl,(bC (by omega)).1,(bC (by omega)).2,fJ (lo:=0) (n:=((n:Int)).toNat) (λi σ H2=>∃v2 us,σ = [some (.int n),some (.ref L),v2]/\Same H H2/\H2 L=some (.lst us)/\us.length<=24*i /\
   Paired (bT H2) ((List.range i).flatMap λl=>(List.range (n - (l+1))).map λj=>(l,l+1+j)) us) ⟨none,[],rfl,Same.put hL,au,by simp,.nil⟩ ?_ ?_⟩
  ·rintro i σ H2 hi ⟨v2,us,rfl,s2,hl,hlen,hp⟩
   have hin:i<n:=by omega
   refine⟨_,rfl,.inl ⟨rfl,_,ah.of hl⟩,?_⟩;refine⟨_,rfl,_,_,rfl,rfl,_,rfl,(0+(i:Int)+1),n,rfl,⟨by omega,by omega,by omega,by omega⟩,λD hD=>?_⟩;refine mS (λj v H=>∃t,v = .ref t/\t≠D/\H t=some (.tup [.int i,.int ((i+1+j:Nat):Int)])) src_range hD (dE (by omega)) (λj v H H' s hpq=>by obtain⟨b,e,hb,q⟩:=hpq;exact⟨b,e,hb,s _ _ hb q⟩) (λj H3 Kt hj hs hy hk=>?_) (λH3 ys hs hl3 hp3=>?_)
   ·obtain⟨zs,hz⟩:=hy
    refine⟨_,rfl,_,rfl,by show 2<=sizeLine;decide,λt ht=>?_⟩;refine hk _ _ (Same.put ht) ⟨t,rfl,(λe=>by rw[e,hz]at ht;cases ht),?_⟩;rw[au]
    congr 4
    ·omega
    ·congr 1
     push_cast
     omega
   ·have hDL:D≠L:=λe=>by rw[e,hl]at hD;cases hD
    have Xb:ys.length=n - (i+1):=by
     have:=cp hp3;simp at this;omega
    refine⟨L,D,us,ys,rfl,rfl,hs _ _ hl,hl3,by have:=@dw 100000 (by omega);omega,?_⟩;refine⟨_,us++ys,rfl,?_,au,by rw[cz];omega,?_⟩
    ·intro b o e
     rw[aF (λz=>by rw[z,hL]at e;cases e)];exact hs _ _ (s2 _ _ e)
    ·rw[Ed]
     refine vU (hs _ _ hl) (pP (c9.same hs hp) (DN ?_));have ec:((n:Int) - (0+(i:Int)+1)).toNat=n - (i+1):=by omega
     rw[ec]at hp3;exact Paired.di hp3 λj v hpq=>by obtain⟨t,e,_,q⟩:=hpq;exact⟨t,e,q⟩
  ·rintro σ H2 ⟨v2,us,rfl,s2,hl,hlen,hp⟩
   rw[en]at hp;exact⟨_,rfl,k L us H2 s2 hl hp⟩
abbrev Fo:Stmt:=top 31
theorem Q5:a_ ["count","reach","two"] ["count","reach"] (aB Fo):=by trivial
def Gq:Sp:=λvs H Q _=>∃(n:Nat) (v:V) (R:Nat->Nat->Bool),vs = [.int n,v]/\TT H v n (qU R)/\n<=24/\(∀a b,a<b->b<n->¬ (R a b=true/\R b a=true))/\∀H',Same H H'->Q .non H'
theorem aao (F:aU K "need_one_way" "need_one_way" Fo f fd) (T:Txt mg) (oS:aC P w K mg base "twos" ["count"] 1 w9):aN P w K mg base aZ 2 f fd ["count","reach"] Gq:=by
 refine F.ok Q5 (λvs H Q E h=>?_) (λcdv A outer s H vs Q E hr h=>?_)
 ·obtain⟨n,v,R,rfl,_⟩:=h
  rfl
 ·obtain⟨n,v,R,rfl,ht,hn,ha,k⟩:=h
  have nd:=Q5.nd;refine⟨_,(ay (cx cq rfl (dC (K:=K) rfl (aL oS hr rfl (ae (pv 0) ag))) (bj (i:=2) nd rfl (Or.inl rfl))
   (ay (bA (PW.pt (lN (bZ (aq (aK (K:=K) rfl) (aq (aK (K:=K) rfl) (pv 1) (aq (aK (K:=K) rfl) (pv 2) ak (λ_ _=>rfl)) (λ_ _=>rfl)) (aq (aK (K:=K) rfl) (pv 2) ak (λ_ _=>rfl)) (λ_ _=>rfl))) (lO (bZ (aq (aK (K:=K) rfl) (aq (aK (K:=K) rfl) (pv 1) (aq (aK (K:=K) rfl) (pv 2) ak (λ_ _=>rfl)) (λ_ _=>rfl)) (aq (aK (K:=K) rfl) (pv 2) ak (λ_ _=>rfl)) (λ_ _=>rfl)))))) (ay vW) bD)))),?_⟩
  refine⟨_,rfl,n,rfl,hn,λl us H1 s1 hl hp=>⟨l,rfl,⟨_,ah.of hl⟩,iF (K:=K) (a:=l) (xs:=us) (λi σ H2=>∃v2,σ = [some (.int n),some v,v2]/\Same H1 H2) ⟨none,rfl,Same.refl _⟩ (λi σ H2 _ hpq=>by obtain⟨_,_,s2⟩:=hpq;exact ah.of (s2 _ _ hl)) ?_ ?_⟩⟩
  ·rintro i y σ H2 hi ⟨v2,rfl,s2⟩
   obtain⟨p,hp1,t,rfl,htt⟩:=c7 hp hi;obtain⟨b1,b2⟩:=Oa (df hp1);obtain⟨a,vs,r1,rfl,q1,q2,q3,q4⟩:=(ht.same (s1.trans s2)).row (show p.1<n by omega);obtain⟨a',vs',r2,e',vX,q2',Ea,Eb⟩:=(ht.same (s1.trans s2)).row b2;cases e';rw[q1]at vX;cases vX;have ko:=s2 _ _ htt;refine⟨_,rfl,_,rfl,t,_,0,_,rfl,rfl,ax.of ko,rfl,a,_,_,_,rfl,rfl,ax.of q1,aH q3,_,rfl,t,_,1,_,rfl,rfl,ax.of ko,rfl,r1,_,_,_,rfl,rfl,ax.of q4,qR b2,_,rfl,bq (λh=>?_) (λh=>?_)⟩
   ·refine⟨_,rfl,_,rfl,t,_,1,_,rfl,rfl,ax.of ko,rfl,a,_,_,_,rfl,rfl,ax.of q1,aH Ea,_,rfl,t,_,0,_,rfl,rfl,ax.of ko,rfl,r2,_,_,_,rfl,rfl,ax.of Eb,qR (show p.1<n by omega),_,rfl,bq (λh'=>?_) (λh'=>?_)⟩
    ·exact absurd ⟨h,h'⟩ (ha _ _ b1 b2)
    ·exact⟨_,rfl,s2⟩
   ·refine bx ?_
    exact⟨_,rfl,s2⟩
  ·rintro σ H2 ⟨v2,rfl,s2⟩
   exact k _ (s1.trans s2)
end
noncomputable def gB (n:Nat) (p:Nat->Bool):List Key:=(List.range n).map λb=>Sum.inl (if p b then 1 else 0)
theorem Df{n:Nat}{p q:Nat->Bool}(h:gB n p=gB n q):∀b,b<n->p b=q b:=by
 intro b hb;have:=congrArg (λl=>l[b]?) h;simp only[gB,bW,mx hb,qH,yg,Sum.inl.injEq]at this;cases hp:p b<;>cases hq:q b<;>simp[hp,hq]at this ⊢
theorem Yk{n:Nat}{p q:Nat->Bool}(h:∀b,b<n->p b=q b):gB n p=gB n q:=by
 unfold gB;apply n_
 intro b hb;rw[h b (by simpa using hb)]
theorem Nr(p:Nat->Bool):∀l:List Nat,De (l.map λb=>(Sum.inl (if p b then 1 else 0):Key)) (l.map λb=>V.bl (p b))
 | []=>.nil
 |b::r=>.cons (.inr ⟨p b,rfl,rfl⟩) (Nr p r)
theorem R0{H:Hp}{b:Addr}{n:Nat}{p:Nat->Bool}(h:H b=some (.tup (bR n p))):j6 H b (gB n p):=⟨_,Nr p _,h⟩
noncomputable def h_ (n:Nat) (R:Nat->Nat->Bool):Nat->List (List Key × V)
 |0=>[]
 |i+1=>h_ n R i++[(gB n (R i),.int i)]
theorem Nw(n:Nat)(R:Nat->Nat->Bool):∀i,(h_ n R i).length=i
 |0=>rfl
 |i+1=>by rw[h_,cz,Nw n R i];rfl
theorem Y5(l:List (List Key × V)){k k':List Key}{v:V}(e:¬ k'=k)(h:dM l k=none):dM (l++[(k',v)]) k=none:=by
 induction l with
 |nil=>exact kI (p:=(k',v)) e
 |cons p r ih =>
  rw[HB]
  by_cases q:p.1=k
  ·rw[lZ q]at h;cases h
  ·rw[kI q]at h ⊢;exact ih h
theorem Di{n:Nat}{R:Nat->Nat->Bool}{k:List Key}:∀{i:Nat},(∀c,c<i->gB n (R c)≠k)->dM (h_ n R i) k=none
 |0,_=>rfl
 |i+1,h=>by
  have ih:=Di (n:=n) (R:=R) (k:=k) (i:=i) λc hc=>h c (by omega);have hk:dM (h_ n R i) k=none:=ih;rw[h_];have e:¬ gB n (R i)=k:=h i (by omega);exact Y5 (h_ n R i) e hk
theorem Nx{n:Nat}{R:Nat->Nat->Bool}(dis:∀i j,i<n->j<n->(∀b,b<n->R i b=R j b)->i=j){c:Nat}(hc:c<n):∀{i:Nat},i<=n->c<i->dM (h_ n R i) (gB n (R c))=some (.int c)
 |0,_,h=>by omega
 |i+1,hi,h=>by
  rw[h_,Sb _ _ _ _ (Di λd hd e=>by have:=dis d i (by omega) (by omega) (Df e);omega)]
  by_cases e:c=i
  ·subst e;rw[if_pos rfl]
  ·rw[if_neg (λz=>e (dis c i hc (by omega) (Df z)))]
   exact Nx dis hc (by omega) (by omega)
noncomputable def gw (n:Nat) (R:Nat->Nat->Bool) (a b:Nat):V:=(dM (h_ n R n) (gB n λx=>R a x&&R b x)).getD .non
theorem ja{n:Nat}{R:Nat->Nat->Bool}(dis:∀i j,i<n->j<n->(∀b,b<n->R i b=R j b)->i=j){a b c:Nat}(hc:c<n)(h:∀x,x<n->R c x=(R a x&&R b x)):gw n R a b = .int c:=by
 unfold gw;rw[<- Yk h,Nx dis hc (aY _) hc];rfl
section
variable {P:Program} {w:World} {K:W.Frag} {mg:Str->Option Value} {base:Heap} {f:Addr} {fd:FuncData}
noncomputable def jC (H:Hp) (n:Nat) (R:Nat->Nat->Bool) (us:List V):Prop:=Paired (λi u=>∃b,u = .ref b/\H b=some (.tup (bR n (R i)))) (List.range n) us
theorem jC.same{H H':Hp}{n:Nat}{R:Nat->Nat->Bool}{us:List V}(s:Same H H')(h:jC H n R us):jC H' n R us:=Paired.di h λ_ _ hpq=>by obtain⟨b,e,q⟩:=hpq;exact⟨b,e,s _ _ q⟩
theorem jC.len{H:Hp}{n:Nat}{R:Nat->Nat->Bool}{us:List V}(h:jC H n R us):us.length=n:=by simpa using(cp h).symm
theorem jC.get{H:Hp}{n:Nat}{R:Nat->Nat->Bool}{us:List V}(h:jC H n R us){i:Nat}(hi:i<n):∃b,us[i]?=some (.ref b)/\H b=some (.tup (bR n (R i))):=by
 obtain⟨y,h1,b,rfl,h2⟩:=il (i:=i) (x:=i) h (mx hi);exact⟨b,h1,h2⟩
abbrev wu:Stmt:=top 32
theorem Qc:a_ ["rows","things","thing"] ["rows","things","thing"] (aB wu):=by trivial
def FV(K:W.Frag):Sp:=λvs H Q _=>∃(c:Bool) (a d t n:Nat) (us:List V) (R:Nat->Nat->Bool) (kvs:List (List Key × V)),vs = [.ref a,.ref d,.int t]/\Sq c K H a us/\jC H n R us/\H d=some (.dT kvs)/\t<n/\n<=24 /\
 ∀l H',Same H H'->H l=none->H' l=some (.tup ((List.range n).map λj=>(dM kvs (gB n λb=>R t b&&R j b)).getD .non))->Q (.ref l) H'
theorem Z1 (F:aU K "ends_with" "ends_with" wu f fd) (T:Txt mg) (zu:aC P w K mg base "shared" ["one","other"] 1 GJ):aN P w K mg base aZ 2 f fd ["rows","things","thing"] (FV K):=by
 refine F.ok Qc (λvs H Q E h=>?_) (λcdv A outer s H vs Q E hr h=>?_)
 ·obtain⟨c,a,d,t,n,us,R,kvs,rfl,_⟩:=h
  rfl
 ·obtain⟨c,a,d,t,n,us,R,kvs,rfl,hq,hrow,hd,ht,hn,k⟩:=h
  have nd:=Qc.nd;have hu:=MJ hr;refine⟨_,(ay (aR (gE (mQ (K:=K) rfl) rfl T.tuple j9 (ae (dj (own:=["row"]) (fr:=[("things", 1),("rows", 0),("thing", 2)]) rfl (cA (aB wu) ["rows","things","thing"] rfl rfl (by trivial)) (abu (K:=K) c rfl (pv 0)) (λ_ _ _ _=>⟨(bj (i:=0) (by trivial:(["row","things","rows","thing"]:List Str).Nodup) rfl (Or.inl rfl)),da,(abe hu (pv 1) (aL zu hr rfl (ae (aq (X_ (K:=K) c rfl) (pv 2) (pv 3) (λ_ _=>rfl)) (ae (pv 0) ag))) ⟨rfl,rfl,rfl,rfl⟩)⟩)) ag)))),?_⟩;refine⟨_,rfl,a,rfl,⟨_,hq⟩,λD hD=>fk (λj=>(dM kvs (gB n λb=>R t b&&R j b)).getD .non) (acD hq) hD (dE (by rw[hrow.len];exact hn)) (λi H2 Kt hi hs hk=>?_) (λH' hs hl=>?_)⟩
  ·rw[hrow.len]at hi
   obtain⟨bt,t1,t2⟩:=hrow.get ht;obtain⟨bi,i1,i2⟩:=hrow.get hi;refine⟨_,rfl,d,rfl,.inr ⟨kvs,.inl (hs _ _ hd)⟩,?_⟩;refine⟨_,rfl,_,rfl,a,us,_,_,rfl,rfl,hs.sq hq,aH t1,_,rfl,⟨bt,bi,n,R t,R i,by rw[aQ,i1];rfl,hs _ _ t2,hs _ _ i2,hn⟩,λv H3 s3 hv=>?_⟩;obtain⟨b,rfl,q1,q2⟩:=hv bt bi n (R t) (R i) (by rw[aQ,i1];rfl) (hs _ _ t2) (hs _ _ i2);exact⟨_,qi.t (s3 _ _ (hs _ _ hd)) (R0 q2),hk _ s3⟩
  ·refine⟨D,_,rfl,.inl ⟨ah.of hl,λl hl'=>?_⟩⟩
   rw[hrow.len];exact k l _ (hs.trans (Same.put hl')) (hs.free hl') au
abbrev wt:Stmt:=top 33
theorem Qb:a_ ["rows","things","thing","row"] ["rows"] (aB wt):=by trivial
def FT(K:W.Frag):Sp:=λvs H Q _=>∃(c:Bool) (a n:Nat) (us:List V) (R:Nat->Nat->Bool),vs = [.ref a]/\Sq c K H a us/\jC H n R us/\n<=24/\(∀i j,i<n->j<n->(∀b,b<n->R i b=R j b)->i=j) /\
 ∀v H',Same H H'->TT H' v n (gw n R)->Q v H'
theorem Z0 (F:aU K "ends_of" "ends_of" wt f fd) (T:Txt mg) (yT:aC P w K mg base "ends_with" ["rows","things","thing"] 2 (FV K)):aN P w K mg base aZ 3 f fd ["rows"] (FT K):=by
 refine F.ok Qb (λvs H Q E h=>?_) (λcdv A outer s H vs Q E hr h=>?_)
 ·obtain⟨c,a,n,us,R,rfl,_⟩:=h
  rfl
 ·obtain⟨c,a,n,us,R,rfl,hq,hrow,hn,dis,k⟩:=h
  have nd:=Qb.nd;have hu:=MJ hr;have hlen:=hrow.len;refine⟨_,(av (aP (i:=1) nd rfl (Or.inr rfl) abf)
   (av (cx cq rfl (DS (K:=K) c rfl rfl T.enumerate (ae (pv 0) ag)) (iM (K:=K) (i:=2) (j:=3) rfl rfl nd rfl rfl rfl rfl)
   (ay (abz hu (pv 1) (pv 3) (pv 2) rfl)))
   (ay (aR (gE (mQ (K:=K) rfl) rfl T.tuple j9 (ae (dj (own:=["thing"]) (fr:=[("rows", 0),("things", 1)]) rfl (cA (aB wt) ["rows","things","thing","row"] rfl rfl (by trivial)) (cQ rfl T.range (ae (bf (cK (K:=K) rfl) rfl T.len cR (ae (pv 0) ag)) ag)) (λ_ _ _ _=>⟨(bj (i:=0) (by trivial:(["thing","rows","things"]:List Str).Nodup) rfl (Or.inl rfl)),da,(aL yT hr rfl (ae (pv 1) (ae (pv 2) (ae (pv 0) ag (ao nofun)) (ao nofun)) (ao nofun)))⟩)) ag)))))),?_⟩
  intro d hd;refine⟨_,rfl,a,us,rfl,(Same.put hd).sq hq,BR (K:=K) (c:=c) (l:=a) (xs:=us) (λi σ H2=>∃v2 v3,σ = [some (.ref a),some (.ref d),v2,v3]/\Same H H2/\H2 d=some (.dT (h_ n R i))/\i<=n)
   ⟨none,none,rfl,Same.put hd,au,dP _⟩ (λi σ H2 hpq=>by obtain⟨_,_,_,s2,_⟩:=hpq;exact s2.sq hq) ?_ ?_⟩
  ·rintro i x σ H2 t hx ht ⟨v2,v3,rfl,s2,h2,hi⟩
   have hin:i<n:=by rw[<- hlen];exact(bJ.mp hx).1
   obtain⟨bi,i1,i2⟩:=hrow.get hin;rw[i1]at hx;cases hx;refine⟨t,_,rfl,ax.of au,rfl,_,_,rfl,_,_,rfl,rfl,?_⟩;have hdt:d≠t:=λe=>by rw[<- e,h2]at ht;cases ht
   have h2':(upd H2 t (.tup [.int i,.ref bi])) d=some (.dT (h_ n R i)):=by rw[aF hdt];exact h2
   have i3:(upd H2 t (.tup [.int i,.ref bi])) bi=some (.tup (bR n (R i))):=Same.put ht _ _ (s2 _ _ i2);have hnone:dM (h_ n R i) (gB n (R i))=none:=Di λc' hc' e=>by have:=dis c' i (by omega) hin (Df e);omega
   refine⟨_,rfl,_,rfl,_,rfl,d,_,rfl,qj.t h2' (R0 i3) (by rw[Nw];exact dE (by omega)),?_⟩;refine⟨_,_,rfl,?_,?_,hin⟩
   ·intro b o e
    rw[aF (λz=>by rw[z,hd]at e;cases e)];exact Same.put ht _ _ (s2 _ _ e)
   ·rw[au,abH _ hnone]
    rfl
  ·rintro σ H2 ⟨v2,v3,rfl,s2,h2,hi⟩
   rw[hlen]at h2;have hq2:ah K H2 a us\/ax K H2 a us:=by
    have:=s2.sq hq;cases c with
    |true=>exact .inl this
    |false=>exact .inr this
   refine⟨_,rfl,a,us,rfl,hq2,us.length,rfl,(bC (by omega)).1,(bC (by omega)).2,λD hD=>?_⟩;rw[hlen];refine mS (λi v H=>∃b,v = .ref b/\b≠D/\H b=some (.tup ((List.range n).map (gw n R i)))) src_range hD (dE (by simpa using hn)) (λi v H H' s hpq=>by obtain⟨b,e,hb,q⟩:=hpq;exact⟨b,e,hb,s _ _ hb q⟩) (λi H3 Kt hi hs hy hk=>?_) (λH3 ys hs hl hp=>?_)
   ·have hin:i<n:=by simpa using hi
    obtain⟨zs,hz⟩:=hy;refine⟨_,rfl,_,rfl,_,rfl,c,a,d,i,n,us,R,_,by simp,hs.sq (s2.sq hq),(hrow.same s2).same hs,hs _ _ h2,hin,hn,λl H4 s4 h4 q4=>?_⟩;exact hk _ H4 s4 ⟨l,rfl,(λe=>by rw[e,hz]at h4;cases h4),q4⟩
   ·refine⟨D,_,rfl,.inl ⟨ah.of hl,λl hl'=>?_⟩⟩
    have en:((n:Int)).toNat=n:=dq n;rw[en]at hp;exact k _ _ ((s2.trans hs).trans (Same.put hl')) ⟨l,ys,rfl,au,Paired.di hp λi u hpq=>by obtain⟨b,e,_,q⟩:=hpq;exact⟨b,e,Same.put hl' _ _ q⟩⟩
end
theorem eM{α:Type}{n:Nat}{g:Nat->α}{j:Nat}(h:j<n):((List.range n).map g)[j]?=some (g j):=by simp[h]
section
variable {P:Program} {w:World} {K:W.Frag} {mg:Str->Option Value} {base:Heap} {f:Addr} {fd:FuncData}
abbrev Fl:Stmt:=top 34
theorem QX:a_ ["count","joins","meets","two"] ["count","joins","meets"] (aB Fl):=by trivial
def Gn:Sp:=λvs H Q _=>∃(n:Nat) (v u:V) (g g':Nat->Nat->V),vs = [.int n,v,u]/\TT H v n g/\TT H u n g'/\n<=24/\(∀a b,a<n->b<n->g a b≠.non/\g' a b≠.non)/\∀H',Same H H'->Q .non H'
theorem aan (F:aU K "need_ends" "need_ends" Fl f fd) (T:Txt mg) (oS:aC P w K mg base "twos" ["count"] 1 w9):aN P w K mg base aZ 2 f fd ["count","joins","meets"] Gn:=by
 refine F.ok QX (λvs H Q E h=>?_) (λcdv A outer s H vs Q E hr h=>?_)
 ·obtain⟨n,v,u,g,g',rfl,_⟩:=h
  rfl
 ·obtain⟨n,v,u,g,g',rfl,ht,ht',hn,ha,k⟩:=h
  have nd:=QX.nd;refine⟨_,(ay (cx cq rfl (dC (K:=K) rfl (aL oS hr rfl (ae (pv 0) ag))) (bj (i:=3) nd rfl (Or.inl rfl))
   (ay (bA (PW.pt (dI (bw vP (aq (aK (K:=K) rfl) (aq (aK (K:=K) rfl) (pv 1) (aq (aK (K:=K) rfl) (pv 3) ak (λ_ _=>rfl)) (λ_ _=>rfl)) (aq (aK (K:=K) rfl) (pv 3) ak (λ_ _=>rfl)) (λ_ _=>rfl)) jR (bh _)) (ft (bw vP (aq (aK (K:=K) rfl) (aq (aK (K:=K) rfl) (pv 2) (aq (aK (K:=K) rfl) (pv 3) ak (λ_ _=>rfl)) (λ_ _=>rfl)) (aq (aK (K:=K) rfl) (pv 3) ak (λ_ _=>rfl)) (λ_ _=>rfl)) jR (bh _))))) (ay vW) bD)))),?_⟩
  refine⟨_,rfl,n,rfl,hn,λl us H1 s1 hl hp=>⟨l,rfl,⟨_,ah.of hl⟩,iF (K:=K) (a:=l) (xs:=us) (λi σ H2=>∃v2,σ = [some (.int n),some v,some u,v2]/\Same H1 H2) ⟨none,rfl,Same.refl _⟩ (λi σ H2 _ hpq=>by obtain⟨_,_,s2⟩:=hpq;exact ah.of (s2 _ _ hl)) ?_ ?_⟩⟩
  ·rintro i y σ H2 hi ⟨v2,rfl,s2⟩
   obtain⟨p,hp1,t,rfl,htt⟩:=c7 hp hi;obtain⟨b1,b2⟩:=Oa (df hp1);have hp0:p.1<n:=by omega
   obtain⟨a,vs,r1,rfl,q1,q2,q3,q4⟩:=(ht.same (s1.trans s2)).row hp0;obtain⟨a',vs',r2,rfl,vX,q2',Ea,Eb⟩:=(ht'.same (s1.trans s2)).row hp0;have ko:=s2 _ _ htt;obtain⟨n1,n2⟩:=ha _ _ hp0 b2;refine⟨_,rfl,_,rfl,t,_,0,_,rfl,rfl,ax.of ko,rfl,a,_,_,_,rfl,rfl,ax.of q1,aH q3,_,rfl,t,_,1,_,rfl,rfl,ax.of ko,rfl,r1,_,_,_,rfl,rfl,ax.of q4,qR b2,rfl,_,rfl,?_⟩;rw[cg n1];refine bx ?_;refine⟨_,rfl,_,rfl,t,_,0,_,rfl,rfl,ax.of ko,rfl,a',_,_,_,rfl,rfl,ax.of vX,aH Ea,_,rfl,t,_,1,_,rfl,rfl,ax.of ko,rfl,r2,_,_,_,rfl,rfl,ax.of Eb,qR b2,rfl,_,rfl,?_⟩;rw[cg n2];refine bx ?_;exact⟨_,rfl,s2⟩
  ·rintro σ H2 ⟨v2,rfl,s2⟩
   exact k _ (s1.trans s2)
abbrev wJ:Stmt:=top 35
theorem Rb:a_ ["count","reach","told","low"] ["count","reach"] (aB wJ):=by trivial
noncomputable def kW (H:Hp) (v:V) (ps:List (Nat × Nat)):Prop:=∃a us,v = .ref a/\H a=some (.tup us)/\Paired (bT H) ps us
theorem kW.same{H H':Hp}{v:V}{ps:List (Nat × Nat)}(s:Same H H')(h:kW H v ps):kW H' v ps:=let⟨a,us,e,q,r⟩:=h;⟨a,us,e,s _ _ q,c9.same s r⟩
def Gy:Sp:=λvs H Q _=>∃(n:Nat) (v:V) (R:Nat->Nat->Bool),vs = [.int n,v]/\TT H v n (qU R)/\n<=24/\∀u H',Same H H'->kW H' u (jQ n R)->Q u H'
theorem aau (F:aU K "pairs_of" "pairs_of" wJ f fd) (T:Txt mg):aN P w K mg base aZ 1 f fd ["count","reach"] Gy:=by
 refine F.ok Rb (λvs H Q E h=>?_) (λcdv A outer s H vs Q E hr h=>?_)
 ·obtain⟨n,v,R,rfl,_⟩:=h
  rfl
 ·obtain⟨n,v,R,rfl,ht,hn,k⟩:=h
  have nd:=Rb.nd;have en:((n:Int)).toNat=n:=dq n;refine⟨_,(av (aP (i:=2) nd rfl (Or.inl rfl) (bU ag))
   (av (cx cq rfl (cQ rfl T.range (ae (pv 0) ag)) (bj (i:=3) nd rfl (Or.inr rfl))
   (ay (cT (eP (K:=K) rfl eE IW Ta Od (pv 2) (ae (dj (own:=["high"]) (fr:=[("low", 3),("reach", 1)]) rfl (cA (aB wJ) ["count","reach","told","low"] rfl rfl (by trivial)) (cQ rfl T.range (ae (pv 0) ag)) (λ_ _ _ _=>⟨(bj (i:=0) (by trivial:(["high","low","reach"]:List Str).Nodup) rfl (Or.inl rfl)),(nq (PW.pt (lN (bw f6 (pv 1) (pv 0) (bh _)) (lO (bZ (aq (aK (K:=K) rfl) (aq (aK (K:=K) rfl) (pv 2) (pv 1) (λ_ _=>rfl)) (pv 0) (λ_ _=>rfl))))))),(fP (ae (pv 1) (ae (pv 0) ag)))⟩)) ag)))))
   (ay (aR (gE (mQ (K:=K) rfl) rfl T.tuple j9 (ae (pv 2) ag)))))),?_⟩
  refine⟨by show 0<=sizeLine;decide,λL hL=>?_⟩;refine⟨_,rfl,n,rfl,(bC (by omega)).1,(bC (by omega)).2,fJ (lo:=0) (n:=((n:Int)).toNat) (λi σ H2=>∃v3 us,σ = [some (.int n),some v,some (.ref L),v3]/\Same H H2/\H2 L=some (.lst us)/\us.length<=24*i /\
   Paired (bT H2) ((List.range i).flatMap λl=>((List.range n).filter λh=>!decide (l=h)&&R l h).map λh=>(l,h)) us) ⟨none,[],rfl,Same.put hL,au,by simp,.nil⟩ ?_ ?_⟩
  ·rintro i σ H2 hi ⟨v3,us,rfl,s2,hl,hlen,hp⟩
   have hin:i<n:=by omega
   refine⟨_,rfl,.inl ⟨rfl,_,ah.of hl⟩,?_⟩;refine⟨_,rfl,n,rfl,(bC (by omega)).1,(bC (by omega)).2,λD hD=>?_⟩;refine zB (λj=>!decide (i=j)&&R i j) (λj v H=>∃t,v = .ref t/\t≠D/\H t=some (.tup [.int i,.int (j:Int)])) src_range hD (dE (by omega)) (λj v H H' s hpq=>by obtain⟨b,e,hb,q⟩:=hpq;exact⟨b,e,hb,s _ _ hb q⟩) (λj H3 Kt Kf hj hs hy hkt hkf=>?_) (λH3 ys hs hl3 hp3=>?_)
   ·have hjn:j<n:=by omega
    obtain⟨zs,hz⟩:=hy;obtain⟨a,vs,r1,rfl,q1,q2,q3,q4⟩:=(ht.same (s2.trans hs)).row hin;refine⟨_,rfl,_,rfl,rfl,_,rfl,?_⟩;have ed:(!decide (V.int (0+(i:Int))=V.int (0+(j:Int)))) = !decide (i=j):=by
     congr 1
     rw[fA];exact zJ
    rw[ed];refine bq (λh=>?_) (λh=>?_)
    ·refine⟨_,rfl,_,rfl,a,_,_,_,rfl,rfl,ax.of q1,at0 q3,_,rfl,r1,_,_,_,rfl,rfl,ax.of q4,at0 (eM hjn),_,rfl,bq (λh'=>?_) (λh'=>?_)⟩
     ·refine⟨_,rfl,_,rfl,by show 2<=sizeLine;decide,λt ht=>?_⟩
      refine hkt _ _ (by rw[h,h',fz]) (Same.put ht) ⟨t,rfl,(λe=>by rw[e,hz]at ht;cases ht),?_⟩;rw[au,fA,fA]
     ·exact hkf _ (by rw[h,fz];simpa using h') (Same.refl _)
    ·refine bx ?_
     have h2:(!decide (i=j))=false:=by simpa using h
     exact hkf _ (by rw[h2,jo]) (Same.refl _)
   ·have hDL:D≠L:=λe=>by rw[e,hl]at hD;cases hD
    rw[en]at hp3;have Xb:ys.length<=n:=by
     have h1:=cp hp3;have h2:=qB (λj=>!decide (i=j)&&R i j) (List.range n);rw[jx]at h2;omega
    refine⟨L,D,us,ys,rfl,rfl,hs _ _ hl,hl3,by have:=@dw 100000 (by omega);omega,?_⟩;refine⟨_,us++ys,rfl,?_,au,by rw[cz];omega,?_⟩
    ·intro b o e
     rw[aF (λz=>by rw[z,hL]at e;cases e)];exact hs _ _ (s2 _ _ e)
    ·rw[Ed]
     refine vU (hs _ _ hl) (pP (c9.same hs hp) (DN ?_));exact Paired.di hp3 λj v hpq=>by obtain⟨t,e,_,q⟩:=hpq;exact⟨t,e,q⟩
  ·rintro σ H2 ⟨v2,us,rfl,s2,hl,hlen,hp⟩
   rw[en]at hp;refine⟨_,rfl,L,us,rfl,.inl ⟨ah.of hl,λl hl'=>?_⟩⟩;exact k _ _ (s2.trans (Same.put hl')) ⟨l,us,rfl,au,c9.same (Same.put hl') hp⟩
end
structure Good (n:Nat) (R:Nat->Nat->Bool):Prop where
 refl:∀a,a<n->R a a=true
 anti:∀a b,a<n->b<n->R a b=true->R b a=true->a=b
 join:∀a b,a<n->b<n->∃c,c<n/\∀x,x<n->R c x=(R a x&&R b x)
 meet:∀a b,a<n->b<n->∃c,c<n/\∀x,x<n->R x c=(R x a&&R x b)
theorem Good.dis{n:Nat}{R:Nat->Nat->Bool}(G:Good n R):∀i j,i<n->j<n->(∀b,b<n->R i b=R j b)->i=j:=λi j hi hj h =>
 G.anti i j hi hj (by rw[h j hj];exact G.refl j hj) (by rw[<- h i hi];exact G.refl i hi)
theorem Good.mV{n:Nat}{R:Nat->Nat->Bool}(G:Good n R):∀i j,i<n->j<n->(∀b,b<n->R b i=R b j)->i=j:=λi j hi hj h =>
 G.anti i j hi hj (by rw[<- h i hi];exact G.refl i hi) (by rw[h j hj];exact G.refl j hj)
noncomputable def ki (n:Nat) (vp vr vj vm:V):List (Str × V):=cj "meets" vm (cj "joins" vj (cj "reach" vr (cj "pairs" vp (cj "count" (.int n) []))))
noncomputable def eD (C:Addr) (H:Hp) (p n:Nat) (R:Nat->Nat->Bool):Prop:=∃dx vp vr vj vm,H p=some (.ins C dx (ki n vp vr vj vm))/\kW H vp (jQ n R)/\TT H vr n (qU R)/\TT H vj n (gw n R)/\TT H vm n (gw n λa b=>R b a)
structure eZ (K:W.Frag) (C:Addr):Prop where
 cl:Cls K C
 nC:iV K C "count"
 nP:iV K C "pairs"
 nR:iV K C "reach"
 nJ:iV K C "joins"
 nM:iV K C "meets"
theorem TT.ins{H:Hp}{p C dx:Addr}{fs:List (Str × V)}{o:HO}(hp:H p=some (.ins C dx fs)){v:V}{n:Nat}{g:Nat->Nat->V}(h:TT H v n g):TT (upd H p o) v n g:=
 let⟨a,vs,e,q,r⟩:=h
 ⟨a,vs,e,by rw[aF (fZ q hp (λz=>nomatch z))];exact q,Paired.di r λ_ _ hpq=>by obtain⟨b,e,q⟩:=hpq;exact⟨b,e,by rw[aF (fZ q hp (λz=>nomatch z))];exact q⟩⟩
theorem kW.ins{H:Hp}{p C dx:Addr}{fs:List (Str × V)}{o:HO}(hp:H p=some (.ins C dx fs)){v:V}{ps:List (Nat × Nat)}(h:kW H v ps):kW (upd H p o) v ps:=
 let⟨a,vs,e,q,r⟩:=h
 ⟨a,vs,e,by rw[aF (fZ q hp (λz=>nomatch z))];exact q,Paired.di r λ_ _ hpq=>by obtain⟨b,e,q⟩:=hpq;exact⟨b,e,by rw[aF (fZ q hp (λz=>nomatch z))];exact q⟩⟩
section
variable {P:Program} {w:World} {K:W.Frag} {mg:Str->Option Value} {base:Heap} {f:Addr} {fd:FuncData}
abbrev wm:Stmt:=inClass (top 36) 0
theorem P9:a_ ["self","count","pairs","reach","joins","meets"] ["self","count","pairs"] (aB wm):=by trivial
def Gd(K:W.Frag)(C:Addr):Sp:=λvs H Q _=>∃(p dx n a:Nat) (ps:List (Nat × Nat)),vs = [.ref p,.int n,.ref a]/\H p=some (.ins C dx [])/\ow K H a ps/\1<=n/\n<=24/\(∀p∈ps,p.1<n/\p.2<n)/\(∀R,Ev.kL n ps R->Good n R) /\
 ∀H' R,(∀b o,H b=some o->b≠p->H' b=some o)->Ev.kL n ps R->eD C H' p n R->Q .non H'
theorem Z7 {C:Addr} (F:aU K "__init__" "Order.__init__" wm f fd) (T:Txt mg) (TC:eZ K C)
  (zj:aC P w K mg base "need_count" ["count"] 2 Gm) (zm:aC P w K mg base "need_pairs" ["count","pairs"] 4 (Gr K)) (zq:aC P w K mg base "reach_of" ["count","pairs"] 2 (Gz K))
  (zl:aC P w K mg base "need_one_way" ["count","reach"] 2 Gq) (uF:aC P w K mg base "ends_of" ["rows"] 3 (FT K)) (yR:aC P w K mg base "column" ["rows","place"] 1 FP)
  (zk:aC P w K mg base "need_ends" ["count","joins","meets"] 2 Gn) (zp:aC P w K mg base "pairs_of" ["count","reach"] 1 Gy):aN P w K mg base aZ 5 f fd ["self","count","pairs"] (Gd K C):=by
 refine F.ok P9 (λvs H Q E h=>?_) (λcdv A outer s H vs Q E hr h=>?_)
 ·obtain⟨p,dx,n,a,ps,rfl,_⟩:=h
  rfl
 ·obtain⟨p,dx,n,a,ps,rfl,hp,hps,h1,hn,hb,hg,k⟩:=h
  have nd:=P9.nd;have en:((n:Int)).toNat=n:=dq n;refine⟨_,(av (cT (aL zj hr rfl (ae (pv 1) ag)))
   (av (cT (aL zm hr rfl (ae (pv 1) (ae (pv 2) ag))))
   (av (aP (i:=3) nd rfl (Or.inr rfl) (aL zq hr rfl (ae (pv 1) (ae (pv 2) ag))))
   (av (cT (aL zl hr rfl (ae (pv 1) (ae (pv 3) ag))))
   (av (aP (i:=4) nd rfl (Or.inl rfl) (aL uF hr rfl (ae (pv 3) ag)))
   (av (aP (i:=5) nd rfl (Or.inl rfl) (aL uF hr rfl (ae (dj (own:=["thing"]) (fr:=[("reach", 3)]) rfl (cA (aB wm) ["self","count","pairs","reach","joins","meets"] rfl rfl (by trivial)) (cQ rfl T.range (ae (pv 1) ag)) (λ_ _ _ _=>⟨(bj (i:=0) (by trivial:(["thing","reach"]:List Str).Nodup) rfl (Or.inl rfl)),da,(aL yR hr rfl (ae (pv 1) (ae (pv 0) ag)))⟩)) ag)))
   (av (cT (aL zk hr rfl (ae (pv 1) (ae (pv 4) (ae (pv 5) ag (ao nofun)) (ao nofun)) (ao nofun))))
   (av (sI (K:=K) rfl (pv 0) (pv 1) rfl)
   (av (sI (K:=K) rfl (pv 0) (aL zp hr rfl (ae (pv 1) (ae (pv 3) ag))) rfl)
   (av (sI (K:=K) rfl (pv 0) (pv 3) rfl)
   (av (sI (K:=K) rfl (pv 0) (pv 4) rfl)
   (ay (sI (K:=K) rfl (pv 0) (pv 5) rfl))))))))))))),?_⟩
  refine⟨_,rfl,⟨n,rfl,by omega,by omega⟩,λv1 H1 s1 _=>?_⟩;refine⟨_,rfl,_,rfl,⟨n,a,ps,rfl,hps.same s1,hb⟩,λv2 H2 s2 _=>?_⟩;have dD:=s1.trans s2;refine⟨_,rfl,_,rfl,n,a,ps,rfl,hps.same dD,hn,hb,λvr H3 R s3 hC ht=>?_⟩;have G:=hg R hC;refine⟨_,rfl,_,rfl,n,vr,R,rfl,ht,hn,λx y hx hy hpq=>by obtain⟨h1,h2⟩:=hpq;exact absurd (G.anti x y (by omega) hy h1 h2) (by omega),λH4 s4=>?_⟩;obtain⟨ra,us,rfl,q1,q2⟩:=id (ht.same s4);refine⟨_,rfl,false,ra,n,us,R,rfl,ax.of q1,q2,hn,G.dis,λvj H5 s5 htj=>?_⟩;refine⟨_,rfl,n,rfl,(bC (by omega)).1,(bC (by omega)).2,λD hD=>?_⟩;refine mS (λi v H=>∃b,v = .ref b/\b≠D/\H b=some (.tup (bR n λj=>R j i))) src_range hD (dE (by omega)) (λi v H H' s hpq=>by obtain⟨b,e,hb,q⟩:=hpq;exact⟨b,e,hb,s _ _ hb q⟩) (λi H6 Kt hi hs hy hk=>?_) (λH6 ys hs hl Ml=>?_)
  ·obtain⟨zs,hz⟩:=hy
   have hin:i<n:=by omega
   have Ms:=((ht.same s4).same s5).same hs;refine⟨_,rfl,_,rfl,⟨_,n,i,_,by simp,Ms,hin,hn⟩,λv H7 s7 hv=>?_⟩;obtain⟨b,rfl,b1,b2⟩:=hv _ n i _ (by simp) Ms hin;exact hk _ H7 s7 ⟨b,rfl,(λe=>by rw[e,hz]at b1;cases b1),b2⟩
  rw[en]at Ml;have acg:jC H6 n (λa b=>R b a) ys:=Paired.di Ml λi u hpq=>by obtain⟨b,e,_,q⟩:=hpq;exact⟨b,e,q⟩
  refine⟨true,D,n,ys,_,rfl,ah.of hl,acg,hn,G.mV,λvm H7 s7 vg=>?_⟩;have Mu:=(htj.same hs).same s7;have s07:Same H H7:=((((dD.trans s3).trans s4).trans s5).trans hs).trans s7;refine⟨_,rfl,_,rfl,_,rfl,n,vj,vm,_,_,rfl,Mu,vg,hn,λx y hx hy=>?_,λH8 s8=>?_⟩
  ·obtain⟨c,hc,hj⟩:=G.join x y hx hy
   obtain⟨d,hd,hm⟩:=G.meet x y hx hy;rw[ja G.dis hc hj,ja G.mV hd hm];exact⟨(λz=>nomatch z),(λz=>nomatch z)⟩
  have P1:=s07.trans s8;have hp8:H8 p=some (.ins C dx []):=P1 _ _ hp;have Mx:TT H8 (.ref ra) n (qU R):=((((ht.same s4).same s5).same hs).same s7).same s8;refine⟨_,rfl,_,rfl,p,C,dx,[],rfl,hp8,TC.cl,TC.nC,by show 0<1000;decide,?_⟩;refine⟨_,rfl,_,rfl,n,_,R,rfl,Mx.ins hp8,hn,λvp H9 s9 hpp=>?_⟩;have hp9:=s9 _ _ (au (H:=H8) (a:=p) (o:=.ins C dx (cj "count" (.int n) [])));have Xr:=(Mx.ins hp8 (o:=.ins C dx (cj "count" (.int n) []))).same s9;have Xp:=((Mu.same s8).ins hp8 (o:=.ins C dx (cj "count" (.int n) []))).same s9;have Xq:=((vg.same s8).ins hp8 (o:=.ins C dx (cj "count" (.int n) []))).same s9;have l1:(cj "count" (V.int n) []).length<=1:=pD _ _ _;have l2:(cj "pairs" vp (cj "count" (V.int n) [])).length<=2:=ck (pD _ _ _) (by omega);have l3:(cj "reach" (V.ref ra) (cj "pairs" vp (cj "count" (V.int n) []))).length<=3:=ck (pD _ _ _) (by omega);have l4:(cj "joins" vj (cj "reach" (V.ref ra) (cj "pairs" vp (cj "count" (V.int n) [])))).length<=4:=ck (pD _ _ _) (by omega);refine⟨_,rfl,p,C,dx,_,rfl,hp9,TC.cl,TC.nP,by omega,?_⟩;refine⟨_,rfl,_,rfl,p,C,dx,_,rfl,au,TC.cl,TC.nR,by omega,?_⟩;refine⟨_,rfl,_,rfl,p,C,dx,_,rfl,au,TC.cl,TC.nJ,by omega,?_⟩;refine⟨_,rfl,_,rfl,p,C,dx,_,rfl,au,TC.cl,TC.nM,by omega,?_⟩;rw[Hi,Hi,Hi];refine k _ R (λb o e L8=>?_) hC ⟨dx,vp,_,vj,vm,au,hpp.ins hp9,Xr.ins hp9,Xp.ins hp9,Xq.ins hp9⟩;rw[aF L8];refine s9 _ _ ?_;rw[aF L8];exact P1 _ _ e
end
structure tM (P:Program) (w:World) (K:W.Frag) (mg:Str->Option Value) (base:Heap) (C:Addr) (x:Str) (ps:List Str) (k:Nat) (sp:Sp):Prop where
 ex:∃(f:Addr) (fd:FuncData),aN P w K mg base aZ k f fd ps sp/\Mk K C f/\mg x=some (.ref C)/\Binds K fd ps []
section
variable {X:Cx} {C:Addr} {x:Str} {ps:List Str} {k k':Nat} {sp:Sp} {e:Expr} {es:List Expr} {t:TA} {p pos:Pos}
theorem abk (c:tM X.prog X.w X.K X.mg X.base C x ps k sp) (hr:bQ k' X.A) (hg:Gl X x) (ha:PA X (e::es) t) (hk:k+1<=k':=by decide) (hdb:(x==("__debug__" : Str))=false:=by decide)
  (he:starEach (e::es) X.env=(false,eval e X.env)::starEach es X.env:=by rfl) (hpl:(backTo pos (starEach es X.env)).any (·.1)=false:=by rfl):PE X (.Call (.Name x p) (e::es) [] pos) (RQ C sp [] E0 t):=by
 obtain⟨f,fd,F,M,hm,b⟩:=c.ex;exact abj M F (hr.mono hk) hg hm b .nil DP ha hdb he hpl
end
structure aD (K:W.Frag) (x:Str) (st:Stmt):Prop where
 ex:∃(f:Addr) (fd:FuncData),W.nsIn K mainGlobals x=some (some (.ref f))/\aU K x x st f fd
theorem aD.mk'{K:W.Frag}{x:Str}{st:Stmt}{f:Addr}{oc:Value}{od an:Option Addr}{osl:Array (Option Value)}{kV doc pm cdv ct:Value}(a:W.nsIn K mainGlobals x=some (some (.ref f)))
  (l:K.lookup f=some ⟨oc,od,.func (W.fnOf x x (i_ st) (gS st) (aB st) .none kV doc pm an cdv ct),osl⟩) (c:W.codeIn K cdv x=true) (k:W.keepIn K (.ref f)=true):aD K x st:=⟨f,_,a,BX l c k⟩
abbrev xF (x:Str) (st:Stmt) (ps:List Str):Prop:=∀(kV doc pm:Value) (an:Option Addr) (cdv ct:Value) (us:List Value),us.length=ps.length->bindArgs (W.fnOf x x (i_ st) (gS st) (aB st) .none kV doc pm an cdv ct) ⟨us,[]⟩=pure (ps.zip us)
theorem aD.cal{P:Program}{w:World}{K:W.Frag}{mg:Str->Option Value}{base h:Heap}{x:Str}{st:Stmt}{ps:List Str}{k:Nat}{sp:Sp}(A:aD K x st)(X:K.In h)(G:h.Ns mainGlobals mg)(hb:xF x st ps)(ok:∀{f:Addr} {fd:FuncData},aU K x x st f fd->aN P w K mg base aZ k f fd ps sp):aC P w K mg base x ps k sp:=by
 obtain⟨f,fd,a,F⟩:=A.ex;exact⟨f,fd,ok F,W.mg_of X G a,F.kp,F.binds hb⟩
structure ClsAt (K:W.Frag) (x qual:Str) (st:Stmt) (C:Addr):Prop where
 ns:W.nsIn K mainGlobals x=some (some (.ref C))
 cl:Cls K C
 ex:∃(f:Addr) (fd:FuncData),aU K "__init__" qual st f fd/\Mk K C f
theorem ClsAt.mk'{K:W.Frag}{x qual:Str}{st:Stmt}{C f:Addr}{oc:Value}{od an:Option Addr}{osl:Array (Option Value)}{kV doc pm cdv ct:Value}(ns:W.nsIn K mainGlobals x=some (some (.ref C)))
  (pg:W.plainGet K C Str.empty=true) (hd:W.hasDictIn K C=true) (po:W.plainOver K C=true) (sa:W.findIn K (.ref C) "__setattr__" = some (some (.builtin "object.__setattr__"))) (mk:W.makesIn K C=true) (kc:W.keepIn K (.ref C)=true)
  (a:W.findIn K (.ref C) "__init__" = some (some (.ref f))) (i:W.isFn K (.ref f)=true)
  (l:K.lookup f=some ⟨oc,od,.func (W.fnOf "__init__" qual (i_ st) (gS st) (aB st) .none kV doc pm an cdv ct),osl⟩) (c:W.codeIn K cdv qual=true) (k:W.keepIn K (.ref f)=true):ClsAt K x qual st C:=
 ⟨ns,⟨pg,hd,po,sa⟩,f,_,BX l c k,⟨mk,a,i,kc⟩⟩
theorem ClsAt.cal{P:Program}{w:World}{K:W.Frag}{mg:Str->Option Value}{base h:Heap}{x qual:Str}{st:Stmt}{C:Addr}{ps:List Str}{k:Nat}{sp:Sp}(A:ClsAt K x qual st C)(X:K.In h)(G:h.Ns mainGlobals mg)
  (hb:∀(kV doc pm:Value) (an:Option Addr) (cdv ct:Value) (us:List Value),us.length=ps.length->bindArgs (W.fnOf "__init__" qual (i_ st) (gS st) (aB st) .none kV doc pm an cdv ct) ⟨us,[]⟩=pure (ps.zip us))
  (ok:∀{f:Addr} {fd:FuncData},aU K "__init__" qual st f fd->aN P w K mg base aZ k f fd ps sp):tM P w K mg base C x ps k sp:=by
 obtain⟨f,fd,F,M⟩:=A.ex;exact⟨f,fd,ok F,M,W.mg_of X G A.ns,F.binds hb⟩
structure oH (K:W.Frag):Prop where
 len:W.nsIn K mainGlobals "len" = some none
 range:W.nsIn K mainGlobals "range" = some none
 zip:W.nsIn K mainGlobals "zip" = some none
 enumerate:W.nsIn K mainGlobals "enumerate" = some none
 tuple:W.nsIn K mainGlobals "tuple" = some none
 list:W.nsIn K mainGlobals "list" = some none
 int:W.nsIn K mainGlobals "int" = some none
 bool:W.nsIn K mainGlobals "bool" = some none
 str:W.nsIn K mainGlobals "str" = some none
 isinstance:W.nsIn K mainGlobals "isinstance" = some none
 sum:W.nsIn K mainGlobals "sum" = some none
 any:W.nsIn K mainGlobals "any" = some none
 all:W.nsIn K mainGlobals "all" = some none
 sorted:W.nsIn K mainGlobals "sorted" = some none
 min:W.nsIn K mainGlobals "min" = some none
 max:W.nsIn K mainGlobals "max" = some none
 most:∃t,W.nsIn K mainGlobals "MOST_THINGS" = some (some (.int 24 t))
theorem oH.txt{K:W.Frag}{mg:Str->Option Value}{h:Heap}(A:oH K)(X:K.In h)(G:h.Ns mainGlobals mg):Txt mg:=
 ⟨W.mg_none_of X G A.len,W.mg_none_of X G A.range,W.mg_none_of X G A.zip,W.mg_none_of X G A.enumerate,W.mg_none_of X G A.tuple,W.mg_none_of X G A.list,W.mg_none_of X G A.int,W.mg_none_of X G A.bool,W.mg_none_of X G A.str,
  W.mg_none_of X G A.isinstance,W.mg_none_of X G A.sum,W.mg_none_of X G A.any,W.mg_none_of X G A.all,W.mg_none_of X G A.sorted,W.mg_none_of X G A.min,W.mg_none_of X G A.max,let⟨t,e⟩:=A.most;⟨t,W.mg_of X G e⟩⟩
theorem oH.mk' {K:W.Frag} {t:Tok} (l1:W.nsIn K mainGlobals "len" = some none) (l2:W.nsIn K mainGlobals "range" = some none) (l3:W.nsIn K mainGlobals "zip" = some none) (l4:W.nsIn K mainGlobals "enumerate" = some none)
  (l5:W.nsIn K mainGlobals "tuple" = some none) (l6:W.nsIn K mainGlobals "list" = some none) (l7:W.nsIn K mainGlobals "int" = some none) (l8:W.nsIn K mainGlobals "bool" = some none) (l9:W.nsIn K mainGlobals "str" = some none)
  (l10:W.nsIn K mainGlobals "isinstance" = some none) (Dj:W.nsIn K mainGlobals "sum" = some none) (Dk:W.nsIn K mainGlobals "any" = some none) (Dl:W.nsIn K mainGlobals "all" = some none) (Dm:W.nsIn K mainGlobals "sorted" = some none) (Dp:W.nsIn K mainGlobals "min" = some none) (Dq:W.nsIn K mainGlobals "max" = some none) (m:W.nsIn K mainGlobals "MOST_THINGS" = some (some (.int 24 t))):oH K:=⟨l1,l2,l3,l4,l5,l6,l7,l8,l9,l10,Dj,Dk,Dl,Dm,Dp,Dq,t,m⟩
end _M
namespace _L
open PySem PySem.Spec PyProof.Rows
structure iQ (X:Cx) (scope:Scope) (v:Str) (fr:List (Str × Nat)):Prop where
 kind:scope.kind = .function
 one:∀y∈scope.names,y.2 = .cell->y.1=v
 vis:scope.names.lookup v=some .cell
 names:∀y∈scope.names,y.2 = .local->scope.names.lookup y.1=some .local
 free:∀y∈scope.names,y.2 = .free->y.1≠v/\(X.env.scope.names.lookup y.1=some .cell\/X.env.scope.names.lookup y.1=some .free)
 ix:∀p∈fr,X.N[p.2]?=some p.1/\scope.names.lookup p.1=some .free
 lay:∀L acc,cellsFrom L scope.names acc=(v,L)::acc
 push:∀h,pushCells h scope.names=h.push {cls:=.type "cell", data:=.cell none}
noncomputable def hW (X:Cx) (scope:Scope) (v:Str) (N':List Str) (C:Addr) (s₀:Shared) (H₀:Hp) (fp:List Addr):Cx:=
 {X with N:=N',s₀:=s₀,H₀:=H₀,env:=compEnvC scope ((v,C+1)::cu X.env.cells scope.names []) C X.env,outer:=X.stack,stack:=X.stack,ex:=fp,fn:=λx=>x==v,pn:=[],xe:=λ_ _=>False}
theorem N3{env:Env}:∀{names:List (Str × NameKind)} {x:Str},names.lookup x=some .cell ->
  (names.map λ(n,k)=>if(k==NameKind.free&&env.scope.kind==.function&&env.kindOf n==some .cell)then(n,NameKind.cell)else(n,k)).lookup x=some .cell
 | [],_,h=>by simp at h
 | (n,k)::r,x,h=>by
  have ih:=@N3 env r x;show List.lookup x ((if(k==NameKind.free&&env.scope.kind==.function&&env.kindOf n==some .cell)=true then(n,NameKind.cell)else(n,k))::_)=_;cases hx:x==n with
  |true =>
   simp only[dF,hx]at h;cases h;rw[if_neg (by simp)];simp[dF,hx]
  |false =>
   simp only[dF,hx]at h
   by_cases hc:(k==NameKind.free&&env.scope.kind==.function&&env.kindOf n==some .cell)=true
   ·rw[if_pos hc];simp only[dF,hx];exact ih h
   ·rw[if_neg hc];simp only[dF,hx];exact ih h
theorem N8{env:Env}{v:Str}:∀{names:List (Str × NameKind)} {x:Str},(∀y∈names,y.2 = .cell->y.1=v)->x≠v ->
  ((names.map λ(n,k)=>if(k==NameKind.free&&env.scope.kind==.function&&env.kindOf n==some .cell)then(n,NameKind.cell)else(n,k)).lookup x=some .cell \/
  (names.map λ(n,k)=>if(k==NameKind.free&&env.scope.kind==.function&&env.kindOf n==some .cell)then(n,NameKind.cell)else(n,k)).lookup x=some .free)->(x,NameKind.free)∈names
 | [],_,_,_,h=>by simp at h
 | (n,k)::r,x,hn,hv,h=>by
  have ih:=@N8 env v r x (λy hy=>hn y (b_ _ hy)) hv
  change List.lookup x ((if(k==NameKind.free&&env.scope.kind==.function&&env.kindOf n==some .cell)=true then(n,NameKind.cell)else(n,k))::_)=_\/List.lookup x ((if(k==NameKind.free&&env.scope.kind==.function&&env.kindOf n==some .cell)=true then(n,NameKind.cell)else(n,k))::_)=_ at h
  cases hx:x==n with
  |true =>
   have e:x=n:=by simpa using hx
   subst e
   by_cases hc:(k==NameKind.free&&env.scope.kind==.function&&env.kindOf x==some .cell)=true
   ·have hk:k = .free:=by
     have:=(bF _ _▸hc:_/\_).1;have:=(bF _ _▸this:_/\_).1;simpa using this
    subst hk;exact bX
   ·rw[if_neg hc]at h
    simp only[dF,hx]at h
    rcases h with h|h
    ·cases h;exact absurd (hn _ bX rfl) hv
    ·cases h;exact bX
  |false =>
   by_cases hc:(k==NameKind.free&&env.scope.kind==.function&&env.kindOf n==some .cell)=true
   ·rw[if_pos hc]at h;simp only[dF,hx]at h;exact b_ _ (ih h)
   ·rw[if_neg hc]at h;simp only[dF,hx]at h;exact b_ _ (ih h)
theorem Zn{M:Model}{A:Around}{E:Value->Shared->Prop}{s:Shared}{scope:Scope}{globals:Addr}{cl:List (Str × Addr)}{qual:Str}{func:Option Addr}{code:Value}{around:Env}{v:Str}{Q:Env->Shared->Prop}
  (lay:∀L acc,cellsFrom L scope.names acc=(v,L)::acc) (push:∀h,pushCells h scope.names=h.push {cls:=.type "cell", data:=.cell none})
  (hQ:Q (newEnv scope s.heap.objs.size globals ((v,s.heap.objs.size+1)::cl) qual func code (some around) builtinsNs) {s with heap:=(s.heap.push {cls:=.type "dict", data:=.dict #[]}).push {cls:=.type "cell", data:=.cell none}}) :
  wpAny M A (newFunctionEnv scope globals cl [] qual func code (some around) builtinsNs) Q E s:=by
 simp only[newFunctionEnv,Option.isSome_some,jL];refine ai (wpAny_alloc ?_);refine ai (wpAny_layCells _ (λname kind cells=>by cases hkc:kind==NameKind.cell<;>simp[hkc]) _ _ _ _ ?_);rw[lay,push];refine ai ?_;rw[qy];refine aJ (aJ ?_);rw[show({s with heap:=s.heap.push {cls:=.type "dict", data:=.dict #[]}}:Shared).heap.objs.size=s.heap.objs.size+1 from eK ..];exact hQ
section
variable {X:Cx} {pins:List (Addr × Obj)} {σ:St} {H:Hp} {s:Shared} {scope:Scope} {v:Str} {fr:List (Str × Nat)} {own:List Str} {fp:List Addr}
theorem iQ.cell(B:iQ X scope v fr)(ok:X.Ok):∀x∈scope.names,x.2 = .free->∃c,X.env.cells.lookup x.1=some c:=λx hx hk=>ok.has x.1 (B.free x hx hk).2
theorem iQ.sub(B:iQ X scope v fr)(ok:X.Ok){x:Str}{c:Addr}(h:(cu X.env.cells scope.names []).lookup x=some c):X.env.cells.lookup x=some c:=by
 rcases zz h with h|⟨hm,e⟩
 ·simp at h
 ·obtain⟨c',hc⟩:=B.cell ok _ hm rfl
  rw[e,hc];rfl
theorem iQ.two(B:iQ X scope v fr)(ok:X.Ok){C:Addr}{x:Str}{c:Addr}(h:List.lookup x ((v,C)::cu X.env.cells scope.names [])=some c):(x=v/\c=C)\/(x≠v/\(cu X.env.cells scope.names []).lookup x=some c/\X.env.cells.lookup x=some c):=by
 rw[dF]at h;cases hx:x==v with
 |true=>rw[hx]at h;exact .inl ⟨by simpa using hx,(dg h).symm⟩
 |false=>rw[hx]at h;exact .inr ⟨by simpa using hx,h,B.sub ok h⟩
theorem JV(I:Inv X pins σ H s){x:Str}{c:Addr}(h:X.env.cells.lookup x=some c):c<s.heap.objs.size:=by
 obtain⟨u,z⟩:=I.cell x c h;exact z.lt
theorem Tz(B:iQ X scope v fr)(I:Inv X pins σ H s)(hf:∀b∈fp,cW X pins H b)(hfs:∀b∈fp,b<s.heap.objs.size){N':List Str}:(hW X scope v N' s.heap.objs.size s H fp).Ok where
 mod:=I.ok.mod
 kind:=B.kind
 glob:=I.ok.glob
 blt:=I.ok.blt
 above:=aY _
 inj:=λx y c h1 h2=>by
  rcases B.two I.ok h1 with⟨e1,e2⟩|⟨_,_,e2⟩<;>rcases B.two I.ok h2 with⟨e3,e4⟩|⟨_,_,e4⟩
  ·rw[e1,e3]
  ·have h:=JV I e4
   rw[e2]at h;exact absurd (Nat.lt_of_succ_lt h) (dY _)
  ·have h:=JV I e2
   rw[e4]at h;exact absurd (Nat.lt_of_succ_lt h) (dY _)
  ·exact I.ok.inj x y c e2 e4
 has:=λx h=>by
  by_cases hx:x=v
  ·subst hx;exact⟨_,by show List.lookup _ (_::_)=_;rw[dF,qT]⟩
  ·obtain⟨c,hc⟩:=mR (cells:=X.env.cells) (acc:=[]) (N8 B.one hx h)
   refine⟨c,?_⟩;show List.lookup _ (_::_)=_;rw[dF,jD.mpr hx];exact hc
 cab:=λx c hx h=>by
  have e:x=v:=by simpa[hW]using hx
  rcases B.two I.ok h with⟨_,e2⟩|⟨e2,_⟩
  ·rw[e2];exact qE _
  ·exact absurd e e2
 hd:=I.ok.hd
 frames:=I.ok.frames
 stk:=.inl rfl
 kf:=λb hb=>⟨bB (hfs b hb),λx c h=>by
  rcases B.two I.ok h with⟨_,e2⟩|⟨_,_,e2⟩
  ·rw[e2];exact dZ (ye (hfs b hb))
  ·exact(hf b hb).2.2.2.2.1 x c e2⟩
 bs:=I.bs
 eU:=ck I.ok.eU I.sz
 iL:=λb o e hb=>by
  rcases(hf b hb).2.2.2.1 with h|h
  ·exact I.ok.iL b o e h
  ·exact absurd (cZ (aS e) (ck I.ok.eU h)) (dY _)
 jb:=λb hb h=>by
  rcases bp.mp (I.qe b h)with e|h
  ·exact(hf b hb).2.1 e
  ·exact(hf b hb).2.2.1 h
 eJ:=I.stack
 gU:=I.nF
theorem TB(B:iQ X scope v fr)(I:Inv X pins σ H s)(hf:∀b∈fp,cW X pins H b)(hfs:∀b∈fp,b<s.heap.objs.size){h1:Heap}{m:Str->Option Value}{tk:Nat}(hn:h1.Ns s.heap.objs.size m)(hcl:h1.IsCell (s.heap.objs.size+1) none)
  (hk:∀b o,s.heap.get? b=some o->h1.get? b=some o):Inv (hW X scope v (own++fr.map (·.1)) s.heap.objs.size s H fp) [] (blkσ own.length fr σ) H {s with heap:=h1,toks:=tk} where
 ok:=Tz B I hf hfs
 os:=rfl
 bare:=I.bare
 base:=Un.kept hk
 loc:=by
  refine⟨m,hn,λi x z e1 e2 e3=>?_⟩
  change (own++fr.map (·.1))[i]?=some x at e1
  unfold blkσ at e2
  by_cases hi:i<own.length
  ·rw[jw (by simpa using hi),HS]at e2
   split at e2<;>cases e2
  ·rw[iR (by simpa using oq hi),bW]at e1
   rw[iR (by simpa using oq hi),bW,HX]at e2;cases hp:fr[i - own.length]? with
   |none=>rw[hp]at e1;cases e1
   |some p =>
    rw[hp]at e1 e2;simp only[qH,yg]at e1 e2;obtain⟨i1,i2⟩:=B.ix p (df hp);subst e1;have e2':σ[p.2]?=some (some z):=by
     rw[aQ]at e2;cases q:σ[p.2]? with
     |none=>rw[q]at e2;cases e2
     |some z=>rw[q]at e2;exact congrArg some e2
    obtain⟨nv,kX⟩:=B.free (p.1,.free) (iD i2) rfl;have kX:X.env.kindOf p.1=some .cell\/X.env.kindOf p.1=some .free:=kX;obtain⟨m',hn',hl'⟩:=I.loc;have vis:qP X.env.scope p.1:=.inr kX;obtain⟨u,r,l⟩:=hl' p.2 p.1 z i1 e2' vis;refine⟨u,r,.inr ⟨vy i2,?_⟩⟩
    rcases l with⟨k,_⟩|⟨_,c,hc,z⟩
    ·rcases kX with q|q<;>(rw[k]at q;cases q)
    ·obtain⟨c',hc'⟩:=mR (cells:=X.env.cells) (acc:=[]) (iD i2)
     have:=B.sub I.ok hc';rw[hc]at this;cases this;refine⟨c,?_,z.keeps hk⟩;show List.lookup _ (_::_)=_;rw[dF,jD.mpr nv];exact hc'
 cell:=λx c h=>by
  rcases B.two I.ok h with⟨_,e2⟩|⟨_,_,e2⟩
  ·rw[e2];exact⟨_,hcl⟩
  ·obtain⟨u,z⟩:=I.cell x c e2
   exact⟨u,z.keeps hk⟩
 free:=I.hok.fresh (aY _)
 d_:=λx c h=>by
  rcases B.two I.ok h with⟨_,e2⟩|⟨_,_,e2⟩
  ·rw[e2];exact I.hok.fresh (qE _)
  ·exact I.d_ x c e2
 pin:=λp hp=>absurd (show p∈([]:List (Addr × Obj))from hp) (by simp)
 hok:=I.hok.kept hk
 len:=by
  unfold blkσ;show _=(own++fr.map (·.1)).length;simp
theorem Tx{s':Shared}{H':Hp}{σ':St}{pY:List (Addr × Obj)}{N':List Str}(I:Inv X pins σ H s)(hf:∀b∈fp,cW X pins H b)(J:Inv (hW X scope v N' s.heap.objs.size s H fp) pY σ' H' s'):Inv X pins σ H' s':=
 I.call' J.os J.base J.hok J.bare λb hb=>⟨(hf b hb).2.2.2.1,(hf b hb).2.1,(hf b hb).2.2.2.2.1,(hf b hb).2.2.2.2.2⟩
end
section
variable {X:Cx} {elt tg iter:Expr} {ifs:List Expr} {scope:Scope} {pos:Pos} {v:Str} {own:List Str} {fr:List (Str × Nat)} {wi:TI} {g:TG} {tc:TT} {te:TE}
theorem Ul{pins:List (Addr × Obj)}{σ:St}{H2:Hp}{s2:Shared}{it:Addr}{fp:List Addr}{tn:Nat->Heap->Prop}{J:It}{Qd:V->Hp->Prop}{RR:Value->Addr->Result->Shared->Prop}{E:Value->Shared->Prop}(hc:X.calm=true)(B:iQ X scope v fr)
  (hb:∀(C:Addr) (s₀:Shared) (H₀:Hp) (fp:List Addr),PG (hW X scope v (own++fr.map (·.1)) C s₀ H₀ fp) tg g/\kU (hW X scope v (own++fr.map (·.1)) C s₀ H₀ fp) ifs tc/\PE (hW X scope v (own++fr.map (·.1)) C s₀ H₀ fp) elt te)
  (I2:Inv X pins σ H2 s2) (T:Turn X.prog X.w X.K tg J fp it tn) (st2:tn 0 s2.heap) (f2:∀b∈fp,cW X pins H2 b)
  (hw:∀D,H2 D=none->jX J g tc te (blkσ own.length fr σ) D (λH'=>Qd (.ref D) H') (upd H2 D (.lst [])))
  (hR:∀(D C:Addr) (s':Shared) (H':Hp) (m:Str->Option Value),Inv X pins σ H' s'->s'.heap.Ns C m->H' C=none->C≠X.env.locals->X.s₀.heap.objs.size<=C->(∀x c,X.env.cells.lookup x=some c->c≠C)->(∀p∈X.pn++pins,p.1≠C) ->
   Qd (.ref D) H'->RR (.ref D) C (.ok .next) s') :
  wpAny (model X.prog X.w) X.A (newList []) (λacc s₃=>wpAny (model X.prog X.w) X.A (newFunctionEnv scope X.env.globals (cu X.env.cells scope.names []) [] X.env.qual none .none (some X.env)) (λcenv s₄ =>
   codeAny (model X.prog X.w) X.A (.compStart (.ListComp elt [⟨tg,iter,ifs,0⟩] scope pos) 0 (.ref it) acc {cenv with scope:=relabel scope X.env}) (RR acc cenv.locals) s₄) E s₃) E s2:=by
 refine uv (Zn (v:=v) B.lay B.push ?_);have hD:H2 s2.heap.objs.size=none:=I2.fresh;have I3:Inv X pins σ (upd H2 s2.heap.objs.size (.lst [])) {s2 with heap:=s2.heap.push {cls:=.type "list", data:=.seq ([]:List Value).toArray},toks:=s2.toks}:=I2.si .nil (by simp);have su:∀b∈fp,b<s2.heap.objs.size:=λb hb=>by obtain⟨o,e,_⟩:=T.obj _ _ st2 b hb;exact aS e
 have f3:∀b∈fp,cW X pins (upd H2 s2.heap.objs.size (.lst [])) b:=λb hb=>⟨by rw[aF (bB (su b hb))];exact(f2 b hb).1,(f2 b hb).2⟩;generalize hs3:({s2 with heap:=s2.heap.push {cls:=.type "list", data:=.seq ([]:List Value).toArray},toks:=s2.toks}:Shared)=s3 at I3;have e3:s3.heap=s2.heap.push {cls:=.type "list", data:=.seq ([]:List Value).toArray}:=by rw[<- hs3]
 have sv:∀b∈fp,b<s3.heap.objs.size:=λb hb=>by rw[e3,eK];exact ye (su b hb)
 generalize hh1:(s3.heap.push {cls:=.type "dict", data:=.dict #[]}).push {cls:=.type "cell", data:=.cell none}=h₁;have old:∀b o,s3.heap.get? b=some o->h₁.get? b=some o:=λb o e=>by
  rw[<- hh1];exact aV _ (aV _ e)
 have hns₁:h₁.Ns s3.heap.objs.size (λ_=>none):=by
  rw[<- hh1];exact(Heap.Ns.new s3.heap (.type "dict")).keeps λb o e=>aV _ e
 have hcl₁:h₁.IsCell (s3.heap.objs.size+1) none:=by
  rw[<- hh1];have q:=cn (s3.heap.push {cls:=.type "dict", data:=.dict #[]}) (o:={cls:=.type "cell", data:=.cell none}) rfl;rw[eK]at q;exact⟨_,q,rfl⟩
 have IY:Inv (hW X scope v (own++fr.map (·.1)) s3.heap.objs.size s3 (upd H2 s2.heap.objs.size (.lst [])) fp) [] (blkσ own.length fr σ) (upd H2 s2.heap.objs.size (.lst [])) {s3 with heap:=h₁}:=
  TB (own:=own) B I3 f3 sv hns₁ hcl₁ old
 have st3:tn 0 h₁:=T.keep _ _ _ st2 λb hb o e=>old b o (by rw[e3];exact aV _ e);have fY:∀b∈fp,cW (hW X scope v (own++fr.map (·.1)) s3.heap.objs.size s3 (upd H2 s2.heap.objs.size (.lst [])) fp) [] (upd H2 s2.heap.objs.size (.lst [])) b:=λb hb =>
  ⟨(f3 b hb).1,bB (sv b hb),(IY.ok.jb b hb),.inl hb,(IY.ok.kf b hb).2,λp hp=>absurd (show p∈([]:List (Addr × Obj))from hp) (by simp)⟩
 obtain⟨b1,b2,b3⟩:=hb s3.heap.objs.size s3 (upd H2 s2.heap.objs.size (.lst [])) fp;have loop:=Kd (Y:=hW X scope v (own++fr.map (·.1)) s3.heap.objs.size s3 (upd H2 s2.heap.objs.size (.lst [])) fp) (iter:=iter) (scope:=scope) (pos:=pos) hc T b1 b2 b3 IY st3 fY (hw _ hD) rfl;have sj:codeAny (model X.prog X.w) X.A (.compLoop (.ListComp elt [⟨tg,iter,ifs,0⟩] scope pos) 0 (.ref it) (.ref s2.heap.objs.size) (compEnvC scope ((v,s3.heap.objs.size+1)::cu X.env.cells scope.names []) s3.heap.objs.size X.env)) (RR (.ref s2.heap.objs.size) s3.heap.objs.size) {s3 with heap:=h₁}:=by
  refine j4 loop λr s' aW=>?_;obtain⟨H',hr,J',q⟩:=aW;subst hr;obtain⟨m',hn',_⟩:=id J'.loc;refine hR s2.heap.objs.size s3.heap.objs.size s' H' m' (Tx I3 f3 J') hn' J'.free (dZ I3.lt) I3.sz (λx c e=>?_) (λp hp z=>?_) q
  ·obtain⟨u,z⟩:=I3.cell x c e
   exact bB z.lt
  ·exact absurd (aS (I3.pin p hp).1) (by rw[z];exact dY _)
 exact codeAny_compStart_list sj (T.self X.A 0 _ _ _ st3 sj)
theorem Pn{i:Nat}{x:Str}{py spos:Pos}(hN:X.N.Nodup)(hx:X.N[i]?=some x)(hl:X.env.scope.names.lookup x=some .local)(hc:X.calm=true)(B:iQ X scope v fr)(hi:PI X tg iter wi)
  (hb:∀(C:Addr) (s₀:Shared) (H₀:Hp) (fp:List Addr),PG (hW X scope v (own++fr.map (·.1)) C s₀ H₀ fp) tg g/\kU (hW X scope v (own++fr.map (·.1)) C s₀ H₀ fp) ifs tc/\PE (hW X scope v (own++fr.map (·.1)) C s₀ H₀ fp) elt te)
  (hsw:swapsWith (.ListComp elt [⟨tg,iter,ifs,0⟩] scope pos) (some (.Name x py)) spos.line X.env=pure true:=by rfl)
  (hs:∀x,foldedSetIterable iter X.env x=pure x:=by intro _;rfl):PS X (.Assign [.Name x py] (.ListComp elt [⟨tg,iter,ifs,0⟩] scope pos) spos) (xi (G_ wi own.length fr g tc te) (cD i)):=by
 intro pins s σ H D0 I h;rw[exec_Assign_Name_used _ _ _ _ hsw];refine ai (oE (ai ?_));show wpAny _ X.A (do let _ <- comprehension (.ListComp elt [⟨tg,iter,ifs,0⟩] scope pos) scope X.env _ (newList []) false (eval iter X.env) (some (assign (.Name x py) X.env))) _ _ s;refine ai (eI (Je (use:=some (assign (.Name x py) X.env)) (Q:=λ_ s'=>SP X pins D0 .next s') rfl hs (qX (B.cell I.ok)) B.kind B.names
  (aM (hi pins s σ H _ I h) λv s1 h1=>aM h1 λitv s2 h2=>?_)) (λ_ s' hq=>aJ (aJ hq)) λ_ _ e=>e)
 obtain⟨it,fp,tn,J,H2,e,I2,T,st2,f2,hD⟩:=h2;subst e;refine Ul (own:=own) (Qd:=λv H'=>cD i v σ H' D0.nx) (RR:=λacc C=>compPost (model X.prog X.w) X.A X.xe (some (assign (.Name x py) X.env)) (λ_ s'=>SP X pins D0 .next s') acc C) hc B hb I2 T st2 f2 hD ?_;intro D C s' H' m I' hn hC c1 c2 c3 c4 q;show wpAny _ X.A (assign (.Name x py) X.env (.ref D)) _ _ _;refine Jd (xg I' hN hx (.inl hl) (v:=.ref D) rfl (λs'' xM ⟨a,sb,ha⟩=>?_) (.inr hl));have Ck:C≠a:=by
  rcases ha with rfl|ha
  ·exact c1
  ·exact λe=>c3 x a ha e.symm
 refine⟨m,hn.sameBut sb Ck,λh' Fy=>?_⟩;exact⟨_,H',xM.turned (t':=s''.toks) (λb o hb e=>Fy.extBut b o hb e) hC c1 (.inr c2) c3 c4,q⟩
end
noncomputable def JD (sc f7:Scope) (v:Str) (N:List Str) (fr:List (Str × Nat)):Bool:=
 sc.kind==.function&&sc.names.lookup v==some .cell&&sc.names.all (λy=>(y.2 != .cell||y.1==v)&&(y.2 != .local||sc.names.lookup y.1==some .local)&&(y.2 != .free||(y.1 != v&&(f7.names.lookup y.1==some .cell||f7.names.lookup y.1==some .free)))) &&
 fr.all λp=>N[p.2]?==some p.1&&sc.names.lookup p.1==some .free
theorem JF {X:Cx} {scope:Scope} {v:Str} {fr:List (Str × Nat)} (f7:Scope) (N:List Str) (h1:X.env.scope=f7) (h2:X.N=N) (h:JD scope f7 v N fr=true) (lay:∀L acc,cellsFrom L scope.names acc=(v,L)::acc) (push:∀h,pushCells h scope.names=h.push {cls:=.type "cell", data:=.cell none}):iQ X scope v fr:=by
 unfold JD at h;rw[bF,bF,bF]at h;obtain⟨⟨⟨a,a2⟩,b⟩,c⟩:=h;rw[fB]at b c;subst h1 h2;refine⟨by simpa using a,λy hy e=>?_,by simpa using a2,λy hy e=>?_,λy hy e=>?_,λp hp=>?_,lay,push⟩
 ·have:=b y hy
  rw[e]at this;simpa using this
 ·have:=b y hy
  rw[e]at this;simpa using this
 ·have:=b y hy
  rw[e]at this;simpa using this
 ·have:=c p hp
  simpa using this
theorem JG{X:Cx}{scope f7:Scope}{env:Env}{fr:List (Str × Nat)}(N:List Str)(h1:X.env.scope=relabel f7 env)(h2:X.N=N)(h:yO scope f7 N fr=true):gJ X scope fr:=by
 have q:=cA (X:={X with env:={X.env with scope:=f7}}) (scope:=scope) (fr:=fr) f7 N rfl h2 h;refine⟨q.kind,q.pH,q.names,λy hy e=>?_,q.ix⟩;rw[h1]
 rcases q.free y hy e with z|z
 ·exact .inl (N3 z)
 ·exact vy z
theorem pw:∀{ns:List Int} {us:List Value},Vals (ns.map V.int) us->IntsAre us ns
 | [],_,h=>by cases h;exact .nil
 |n::ns,_,h=>by
  cases h with
  |cons h t =>
   obtain⟨k,rfl⟩:=h;exact .cons n k (pw t)
def abN(K:W.Frag):V->List V->Hp->VK->Prop:=λx vs H Q=>∃(l:Addr) (ns:List Int) (k:Int),x = .ref l/\vs = [.int k]/\ah K H l (ns.map V.int)/\k∈ns/\Q (.int (ns.idxOf k:Nat)) H
theorem vH {X:Cx} {K:W.Frag} (hK:X.K=K):mD X "list.index" (abN K):=by
 subst hK;intro pins s σ H x vs v us Q I rx rv h;obtain⟨l,ns,k,rfl,rfl,hq,hk,q⟩:=h;cases rx;obtain⟨u,rfl,ru⟩:=rv.one;obtain⟨t,rfl⟩:=ru;obtain⟨its,r,⟨⟨cls,dd,data,sl⟩,n,ho,hc,hdd,hd⟩,hz⟩:=I.list hq;simp only at hc hdd hd;subst hc hdd hd;have hi:=pw r;have hlen:=hi.length;have hj:ns.idxOf k<ns.length:=qA.mpr hk;have hb:sizeLine<2 ^ 62:=by decide
 rw[az]at hz;refine kZ kY ⟨_,ho,rfl⟩ Iz (Iw _ _)
  (Ja l its.toArray n none sl (.int k t) (isInt k) (ns.idxOf k) (by simpa[hlen]using hj) (by omega) ?_ ?_) ⟨ho,λy hy=>(eq_isInt k t hi y (by simpa using hy)).at _ _,?_⟩
 ·show isInt k its[ns.idxOf k]=true
  rw[isInt_at k hi _ (by omega) hj];simpa using qz hj
 ·intro j hjs hlt
  show isInt k its[j]=false;rw[isInt_at k hi j (by simpa using hjs) (by omega)];exact ne_of_lt_idxOf hlt _
 ·exact⟨.int (ns.idxOf k:Nat),H,I.tok _,⟨_,rfl⟩,q⟩
end _L
namespace _M
open PySem PySem.Spec PyProof.Rows _L
theorem lr(x y:Nat):Builtin.bitAnd (x:Int) (y:Int)=((x&&& y:Nat):Int):=by rw[bitAnd_pp (by omega) (by omega)];simp
theorem vS(x y:Nat):Builtin.bitOr (x:Int) (y:Int)=((x ||| y:Nat):Int):=by
 rw[bitOr_and,lr];have:=nat_or_add_and x y;omega
abbrev nV (x:Nat):V:=.int (x:Int)
section
variable {P:Program} {w:World} {K:W.Frag} {mg:Str->Option Value} {base:Heap} {f:Addr} {fd:FuncData}
abbrev Ew:Stmt:=top 61
theorem Qp:a_ ["_law_script","_law_k"] ["_law_script","_law_k"] (aB Ew):=by trivial
def wO(K:W.Frag):Sp:=λvs H Q _=>∃(a k:Nat) (ns:List Int),vs = [.ref a,.int k]/\ah K H a (ns.map V.int)/\∀i H',Same H H'->Q (.int i) H'
theorem ZS (F:aU K "_law_cell_at" "_law_cell_at" Ew f fd) (T:Txt mg):aN P w K mg base aZ 1 f fd ["_law_script","_law_k"] (wO K):=by
 refine F.ok Qp (λvs H Q E h=>?_) (λcdv A outer s H vs Q E hr h=>?_)
 ·obtain⟨a,k,ns,rfl,_⟩:=h
  rfl
 ·obtain⟨a,k,ns,rfl,hS,kk⟩:=h
  have nd:=Qp.nd;refine⟨_,(av (bA (bw pL (pv 1) (bf (cK (K:=K) rfl) rfl T.len cR (ae (pv 0) ag)) (bh _)) (ay (aR (aq (aX (K:=K) rfl) (pv 0) (pv 1) (λ_ _=>rfl)))) bD)
   (ay (aR ak))),?_⟩
  refine⟨_,rfl,_,rfl,a,_,rfl,.inl hS,_,_,rfl,rfl,_,rfl,bq (λh=>?_) (λh=>?_)⟩
  ·rw[cL,az]at h
   have hk:k<ns.length:=by omega
   exact⟨_,rfl,_,rfl,a,_,k,.int ns[k],rfl,rfl,hS,aH (by simp[hk]),kk _ _ (Same.refl _)⟩
  ·exact kk _ _ (Same.refl _)
abbrev Fb:Stmt:=top 62
theorem QC:a_ ["_law_cell","_law_place","_law_number"] ["_law_cell","_law_place"] (aB Fb):=by trivial
def Gj:Sp:=λvs H Q _=>∃(c:Int) (p:Nat),vs = [.int c,.int p]/\p<=1000/\∀i H',0<=i->i<2147483648->Same H H'->Q (.int i) H'
theorem aak (F:aU K "_law_mixed" "_law_mixed" Fb f fd) (T:Txt mg):aN P w K mg base aZ 1 f fd ["_law_cell","_law_place"] Gj:=by
 refine F.ok QC (λvs H Q E h=>?_) (λcdv A outer s H vs Q E hr h=>?_)
 ·obtain⟨c,p,rfl,_⟩:=h
  rfl
 ·obtain⟨c,p,rfl,hp,kk⟩:=h
  have nd:=QC.nd;have m1:∀x:Int,0<=x % 2147483629/\x % 2147483629<2147483629:=λx=>⟨nW x (by decide),tP x (by decide)⟩;have m2:∀x:Int,0<=x % 2147483587/\x % 2147483587<2147483587:=λx=>⟨nW x (by decide),tP x (by decide)⟩;have cm:∀x y:Int,tK (x % 2147483629) y:=λx y=>.inl ⟨by have:=m1 x;omega,by have:=m1 x;omega⟩;refine⟨_,(av (aP (i:=2) nd rfl (Or.inl rfl) (aI cS (aI dU (aI dU (aI pM (aI cS (pv 0) ak) ak) (aI pM ak (pv 1))) ak) ak))
   (av (aP (i:=2) nd rfl (Or.inl rfl) (aI cS (aI dU (aI dU (aI pM (pv 2) (pv 2)) (aI pM ak (pv 1))) ak) ak))
   (ay (aR (aI cS (aI dU (aI pM (pv 2) (pv 2)) ak) ak))))),?_⟩
  refine⟨_,rfl,_,_,rfl,rfl,(by show(0:Int)<2147483629;decide),_,_,rfl,rfl,cm _ _,_,rfl,_,_,rfl,rfl,.inl ⟨by decide,by decide⟩,_,_,rfl,rfl,_,_,rfl,rfl,_,_,rfl,rfl,(by show(0:Int)<2147483629;decide),?_⟩;refine⟨_,rfl,_,rfl,_,_,rfl,rfl,cm _ _,_,rfl,_,_,rfl,rfl,.inl ⟨by decide,by decide⟩,_,_,rfl,rfl,_,_,rfl,rfl,_,_,rfl,rfl,(by show(0:Int)<2147483629;decide),?_⟩;refine⟨_,rfl,_,rfl,_,_,rfl,rfl,cm _ _,_,_,rfl,rfl,_,_,rfl,rfl,(by show(0:Int)<2147483587;decide),?_⟩;exact kk _ _ (m2 _).1 (by have:=(m2 ((((c % 2147483629*16807+69621*(p:Int)+11) % 2147483629*((c % 2147483629*16807+69621*(p:Int)+11) % 2147483629)+48271*(p:Int)+7) % 2147483629)*(((c % 2147483629*16807+69621*(p:Int)+11) % 2147483629*((c % 2147483629*16807+69621*(p:Int)+11) % 2147483629)+48271*(p:Int)+7) % 2147483629)+69621)).2;omega) (Same.refl _)
abbrev Ex:Stmt:=top 63
theorem Qs:a_ ["_law_cell","_law_many","_law_found","_law_left","_law_k"] ["_law_cell","_law_many"] (aB Ex):=by trivial
noncomputable def Small (ns:List Int):Prop:=∀x∈ns,0<=x/\x<2147483648
def wQ:Sp:=λvs H Q _=>∃(c:Int) (m:Nat),vs = [.int c,.int m]/\m<=1000/\∀l ns H',Same H H'->H l=none->H' l=some (.lst (ns.map V.int))->ns.length=m->Small ns->Q (.ref l) H'
theorem ZX (F:aU K "_law_draws" "_law_draws" Ex f fd) (T:Txt mg) (y_:aC P w K mg base "_law_mixed" ["_law_cell","_law_place"] 1 Gj):aN P w K mg base aZ 2 f fd ["_law_cell","_law_many"] wQ:=by
 refine F.ok Qs (λvs H Q E h=>?_) (λcdv A outer s H vs Q E hr h=>?_)
 ·obtain⟨c,m,rfl,_⟩:=h
  rfl
 ·obtain⟨c,m,rfl,hm,kk⟩:=h
  have nd:=Qs.nd;have em:((m:Int)).toNat=m:=dq m;refine⟨_,(av (aP (i:=2) nd rfl (Or.inl rfl) (bU ag))
   (av (aP (i:=3) nd rfl (Or.inl rfl) (aI O2 (pv 0) (aI aaY ak ak)))
   (av (cx cq rfl (cQ rfl T.range (ae (pv 1) ag)) (bj (i:=4) nd rfl (Or.inl rfl))
   (ay (bA (bw vO (pv 3) ak (bh _)) (av (cT (eP (K:=K) rfl eE iW jz iK (pv 2) (ae (aI cS (pv 3) ak) ag)))
   (ay (aP (i:=3) nd rfl (Or.inl rfl) (aI sF (pv 3) ak)))) (ay (cT (eP (K:=K) rfl eE iW jz iK (pv 2) (ae (aL y_ hr rfl (ae (pv 0) (ae (pv 4) ag))) ag)))))))
   (ay (aR (pv 2)))))),?_⟩
  refine⟨by show 0<=sizeLine;decide,λL hL=>?_⟩;refine⟨_,rfl,_,_,rfl,rfl,⟨by decide,by decide,by decide⟩,_,_,rfl,rfl,?_⟩;refine⟨_,rfl,m,rfl,(bC (by omega)).1,(bC (by omega)).2,fJ (lo:=0) (n:=((m:Int)).toNat) (λi σ H2=>∃(v4:Option V) (x:Int) (ns:List Int),σ = [some (.int c),some (.int m),some (.ref L),some (.int x),v4]/\Same H H2/\H2 L=some (.lst (ns.map V.int))/\ns.length=i/\Small ns)
   ⟨none,_,[],rfl,Same.put hL,au,rfl,λ_ h=>nomatch h⟩ ?_ ?_⟩
  ·rintro i σ H2 hi ⟨v4,x,ns,rfl,s2,hl,hlen,hsm⟩
   have sn:∀y:Int,0<=y->y<2147483648->Small (ns++[y]):=λy h0 h1 z hz=>by
    rcases gO.mp hz with hz|hz
    ·exact hsm z hz
    ·simp at hz;subst hz;exact⟨h0,h1⟩
   have sk:∀{H3:Hp} {o:HO},Same H2 H3->Same H (upd H3 L o):=λs3 b o e=>by
    rw[aF (λz=>by rw[z,hL]at e;cases e)];exact s3 _ _ (s2 _ _ e)
   have hz:(ns.map V.int).length<sizeLine:=by rw[az];exact dw (by omega)
   refine⟨_,rfl,_,_,rfl,rfl,_,rfl,bq (λh=>?_) (λh=>?_)⟩
   ·have q:=nW x (show(1000003:Int)≠0 by decide)
    have q':=tP x (show(0:Int)<1000003 by decide);refine⟨_,rfl,.inl ⟨rfl,_,ah.of hl⟩,_,rfl,_,_,rfl,rfl,(by show(0:Int)<1000003;decide),L,_,_,rfl,rfl,hl,hz,?_⟩;refine⟨_,rfl,_,_,rfl,rfl,⟨by decide,by decide⟩,?_⟩;exact⟨_,_,ns++[x % 1000003],rfl,sk (Same.refl _),by rw[au];simp,by simp[hlen],sn _ q (by omega)⟩
   ·refine⟨_,rfl,.inl ⟨rfl,_,ah.of hl⟩,_,rfl,_,rfl,c,i,by simp,by omega,λy H3 y0 y1 s3=>?_⟩
    exact⟨L,_,_,rfl,rfl,s3 _ _ hl,hz,_,x,ns++[y],rfl,sk s3,by rw[au];simp,by simp[hlen],sn _ y0 y1⟩
  ·rintro σ H2 ⟨v4,x,ns,rfl,s2,hl,hlen,hsm⟩
   exact⟨_,rfl,kk L ns H2 s2 hL hl (hlen.trans em) hsm⟩
end
theorem zE(xs:List V):d8 xs (some 1) none=xs.drop 1:=by
 unfold d8;rw[show(HT.fu xs.length 0 (some 1))=min 1 xs.length from HT.wj xs.length 0 1,HT.wk];cases xs with
 |nil=>rfl
 |cons a r=>simp
theorem Jv{xs:List V}(h:xs≠[]):eT xs (-1)=some (xs.getLast h):=by
 have:=uC xs.dropLast (xs.getLast h)
 rwa [HD]at this
theorem Ro(x p:Nat):(x:Int)*2 ^ ((p:Int)).toNat=((x*2 ^ p:Nat):Int):=by
 rw[dq];push_cast;rfl
section
variable {P:Program} {w:World} {K:W.Frag} {mg:Str->Option Value} {base:Heap} {f:Addr} {fd:FuncData}
abbrev wB:Stmt:=top 67
theorem Qu:a_ ["_law_many"] ["_law_many"] (aB wB):=by trivial
def Ga:Sp:=λvs H Q _=>∃m:Nat,vs = [.int m]/\1<=m/\m<=5/\∀l H',Same H H'->H l=none->H' l=some (.lst ((Ev.h7 m).map nV))->Q (.ref l) H'
theorem Z5 (F:aU K "_law_flower" "_law_flower" wB f fd) (T:Txt mg):aN P w K mg base aZ 1 f fd ["_law_many"] Ga:=by
 refine F.ok Qu (λvs H Q E h=>?_) (λcdv A outer s H vs Q E hr h=>?_)
 ·obtain⟨m,rfl,_⟩:=h
  rfl
 ·obtain⟨m,rfl,h1,h5,kk⟩:=h
  have nd:=Qu.nd;have em:((m:Int)).toNat=m:=dq m;refine⟨_,(ay (aR (aI gC (aI gC (bU (ae ak ag)) (aI O1 (dj (own:=["_law_k"]) (fr:=[]) rfl (cA (aB wB) ["_law_many"] rfl rfl (by trivial)) (cQ rfl T.range (ae (pv 0) ag)) (λ_ _ _ _=>⟨(bj (i:=0) (by trivial:(["_law_k"]:List Str).Nodup) rfl (Or.inl rfl)),da,(aI pN ak (pv 0))⟩)) (gE JN rfl T.int uE (ae (iq aaT (pv 0) ak (bh _)) ag)))) (bU (ae (aI O2 (aI pN ak (pv 0)) ak) ag))))),?_⟩;refine⟨by show 1<=sizeLine;decide,λp1 hp1=>?_⟩;refine⟨_,rfl,m,rfl,(bC (by omega)).1,(bC (by omega)).2,λD hD=>fk (λi=>.int (1*2 ^ (0+(i:Int)).toNat)) src_range hD (dE (by omega)) (λi H2 Kt hi hs hk=>?_) (λH2 hs hl=>?_)⟩
  ·exact⟨_,rfl,_,_,rfl,rfl,⟨by omega,by omega,by decide⟩,hk _ (Same.refl _)⟩
  refine⟨_,rfl,_,_,rfl,rfl,.inr ⟨_,rfl,?_⟩⟩;rw[em]at hl;have s1:Same H H2:=(Same.put hp1).trans hs;have hb:(if decide ((1:Int)<(m:Int))=true then(1:Int)else 0)=1\/(if decide ((1:Int)<(m:Int))=true then(1:Int)else 0)=0:=by split<;>simp
  refine⟨D,_,_,rfl,rfl,hl,by rcases hb with e|e<;>rw[e]<;>decide,by rcases hb with e|e<;>rw[e]<;>decide,?_,λp2 hp2=>?_⟩
  ·rw[az,jx]
   rcases hb with e|e<;>rw[e]<;>simp
   exact fD (dE (by omega))
  have h1':H2 p1=some (.lst [.int 0]):=hs _ _ au;refine⟨p1,p2,_,_,rfl,rfl,Same.put hp2 _ _ h1',au,?_,λp3 hp3=>?_⟩
  ·rw[len_rep,az,jx]
   rcases hb with e|e<;>rw[e]<;>simp
   ·exact ck (show 1+m<=24 by omega) (fD (dE (aY _)))
   ·decide
  refine⟨_,rfl,_,_,rfl,rfl,⟨by omega,by omega,by decide⟩,_,_,rfl,rfl,by show 1<=sizeLine;decide,λp4 cF=>?_⟩;refine⟨p3,p4,_,_,rfl,rfl,Same.put cF _ _ au,au,?_,λp5 iH=>?_⟩
  ·rw[cz,len_rep,az,jx]
   rcases hb with e|e<;>rw[e]<;>simp
   ·exact ck (show 1+m+1<=24 by omega) (fD (dE (aY _)))
   ·decide
  refine kk p5 _ ((((s1.trans (Same.put hp2)).trans (Same.put hp3)).trans (Same.put cF)).trans (Same.put iH)) (Same.free ?_ iH) ?_
  ·exact((s1.trans (Same.put hp2)).trans (Same.put hp3)).trans (Same.put cF)
  rw[au];have hm:m=1\/m=2\/m=3\/m=4\/m=5:=by omega
  rcases hm with rfl|rfl|rfl|rfl|rfl<;>rfl
abbrev wG:Stmt:=top 68
theorem QJ:a_ ["_law_one","_law_other","_law_places"] ["_law_one","_law_other","_law_places"] (aB wG):=by trivial
def GP(K:W.Frag):Sp:=λvs H Q _=>∃(a b p:Nat) (M1 M2:List Nat),vs = [.ref a,.ref b,.int p]/\H a=some (.lst (M1.map nV))/\H b=some (.lst (M2.map nV))/\M1≠[]/\M1.length<=100/\M2.length<=100/\(∀x∈M2,x<2 ^ 40)/\p<=100 /\
 ∀l H',Same H H'->H l=none->H' l=some (.lst ((Ev.nE M1 M2 p).map nV))->Q (.ref l) H'
theorem aaD (F:aU K "_law_stack" "_law_stack" wG f fd) (T:Txt mg):aN P w K mg base aZ 1 f fd ["_law_one","_law_other","_law_places"] (GP K):=by
 refine F.ok QJ (λvs H Q E h=>?_) (λcdv A outer s H vs Q E hr h=>?_)
 ·obtain⟨a,b,p,M1,M2,rfl,_⟩:=h
  rfl
 ·obtain⟨a,b,p,M1,M2,rfl,ha,hb,hne,hl1,hl2,hm,hp,kk⟩:=h
  have nd:=QJ.nd;refine⟨_,(ay (aR (aI gC (pv 0) (dj (own:=["_law_mask"]) (fr:=[("_law_one", 0),("_law_places", 2)]) rfl (cA (aB wG) ["_law_one","_law_other","_law_places"] rfl rfl (by trivial)) (dC (K:=K) rfl (gF (gH (K:=K) rfl) (pv 1) (f9 ak) gY)) (λ_ _ _ _=>⟨(bj (i:=0) (by trivial:(["_law_mask","_law_one","_law_places"]:List Str).Nodup) rfl (Or.inl rfl)),da,(aI vR (aq (aX (K:=K) rfl) (pv 1) (lL lY ak) (λ_ _=>rfl)) (aI pN (pv 0) (pv 2)))⟩))))),?_⟩;refine⟨_,rfl,_,rfl,1,rfl,b,_,rfl,ah.of hb,λq hq=>?_⟩;rw[zE,<- oa];refine⟨q,rfl,⟨_,ah.of au⟩,λD hD=>fk (λi=>nV (M1.getLastD 0 ||| ((M2.drop 1).getD i 0*2 ^ p))) (src_list (ah.of au)) hD (dw (by simp;omega)) (λi H2 Kt hi hs hk=>?_) (λH2 hs hl=>?_)⟩
  ·have hi':i<(M2.drop 1).length:=by simpa using hi
   have ha2:H2 a=some (.lst (M1.map nV)):=hs _ _ (Same.put hq _ _ ha);have hne':M1.map nV≠[]:=by simpa using hne
   have eg:((M2.drop 1).map nV).getD i .non=nV ((M2.drop 1).getD i 0):=by
    rw[aQ,aQ,bW,aA hi'];rfl
   have hx:(M2.drop 1).getD i 0<2 ^ 40:=by
    rw[aQ,aA hi'];exact hm _ (List.mem_of_mem_drop (fC hi'))
   refine⟨_,rfl,_,rfl,a,_,_,_,rfl,rfl,ah.of ha2,Jv hne',_,rfl,_,rfl,_,_,eg,rfl,⟨by omega,by omega,by omega⟩,_,_,by rw[List.getLast_map],rfl,?_⟩;have e2:M1.getLast hne=M1.getLastD 0:=by
    rw[List.getLastD_eq_getLast?,List.getLast?_eq_some_getLast hne];rfl
   dsimp only;rw[Ro,vS,e2];exact hk _ (Same.refl _)
  ·have s1:=(Same.put hq).trans hs
   refine⟨a,D,_,_,rfl,rfl,s1 _ _ ha,hl,?_,λl hl'=>?_⟩
   ·simp
    exact ck (show M1.length+(M2.length - 1)<=1000 by omega) (fD (dw (by omega)))
   ·refine kk l _ (s1.trans (Same.put hl')) (s1.free hl') ?_
    rw[au]
    congr 2
    unfold Ev.nE;rw[jy]
    congr 1
    apply kP
    ·simp
    ·intro i h1 h2
     have hi':i<(M2.drop 1).length:=by simpa using h1
     simp only[jY,mz];rw[aQ,aA hi'];rfl
abbrev wz:Stmt:=top 69
theorem Qo:a_ ["_law_one","_law_other","_law_found","_law_mask"] ["_law_one","_law_other"] (aB wz):=by trivial
def FJ(K:W.Frag):Sp:=λvs H Q _=>∃(a b:Nat) (M1 M2:List Nat),vs = [.ref a,.ref b]/\H a=some (.lst (M1.map nV))/\H b=some (.lst (M2.map nV))/\M1.length<=100/\M2.length<=100/\(∀x∈M2,x<2 ^ 40) /\
 ∀l H',Same H H'->H l=none->H' l=some (.lst ((Ev.lu M1 M2).map nV))->Q (.ref l) H'
theorem ZR (F:aU K "_law_beside" "_law_beside" wz f fd) (T:Txt mg):aN P w K mg base aZ 1 f fd ["_law_one","_law_other"] (FJ K):=by
 refine F.ok Qo (λvs H Q E h=>?_) (λcdv A outer s H vs Q E hr h=>?_)
 ·obtain⟨a,b,M1,M2,rfl,_⟩:=h
  rfl
 ·obtain⟨a,b,M1,M2,rfl,ha,hb,hl1,hl2,hm,kk⟩:=h
  have nd:=Qo.nd;refine⟨_,(av (aP (i:=2) nd rfl (Or.inl rfl) (bU ag))
   (av (cx cq rfl (dC (K:=K) rfl (pv 0)) (bj (i:=3) nd rfl (Or.inr rfl))
   (ay (aP (i:=2) nd rfl (Or.inl rfl) (aI gC (pv 2) (dj (own:=["_law_more"]) (fr:=[("_law_mask", 3)]) rfl (cA (aB wz) ["_law_one","_law_other","_law_found","_law_mask"] rfl rfl (by trivial)) (dC (K:=K) rfl (pv 1)) (λ_ _ _ _=>⟨(bj (i:=0) (by trivial:(["_law_more","_law_mask"]:List Str).Nodup) rfl (Or.inl rfl)),da,(aI vR (pv 1) (aI pN (pv 0) ak))⟩))))))
   (ay (aR (pv 2))))),?_⟩
  refine⟨by show 0<=sizeLine;decide,λL hL=>?_⟩;refine⟨_,rfl,a,rfl,⟨_,ah.of (Same.put hL _ _ ha)⟩,iF (K:=K) (a:=a) (xs:=M1.map nV) (λi σ H2=>∃v3 l,σ = [some (.ref a),some (.ref b),some (.ref l),v3]/\Same H H2/\H l=none/\H2 l=some (.lst ((Ev.lu (M1.take i) M2).map nV)))
   ⟨none,L,rfl,Same.put hL,hL,by rw[au];rfl⟩ (λi σ H2 _ hpq=>by obtain⟨_,_,_,s2,_⟩:=hpq;exact ah.of (s2 _ _ ha)) ?_ ?_⟩
  ·rintro i y σ H2 hi ⟨v3,l,rfl,s2,hl,hl2'⟩
   have hi1:i<M1.length:=by simpa using(bJ.mp hi).1
   have ey:y=nV M1[i]:=by
    rw[bW,aA hi1]at hi;exact(dg hi).symm
   subst ey;refine⟨_,rfl,_,rfl,b,rfl,⟨_,ah.of (s2 _ _ hb)⟩,λD hD=>fk (λj=>nV (M1[i] ||| (M2.getD j 0*2 ^ 10))) (src_list (ah.of (s2 _ _ hb))) hD (dw (by simp;omega)) (λj H3 Kt hj hs hk=>?_) (λH3 hs hl3=>?_)⟩
   ·have hj':j<M2.length:=by simpa using hj
    have eg:(M2.map nV).getD j .non=nV (M2.getD j 0):=by
     rw[aQ,aQ,bW,aA hj'];rfl
    have hx:M2.getD j 0<2 ^ 40:=by
     rw[aQ,aA hj'];exact hm _ (fC hj')
    refine⟨_,rfl,_,rfl,_,_,eg,rfl,⟨by decide,by decide,by omega⟩,_,_,rfl,rfl,?_⟩;have e3:((M2.getD j 0:Nat):Int)*2 ^ ((10:Int)).toNat=((M2.getD j 0*2 ^ 10:Nat):Int):=Ro _ 10;dsimp only;rw[e3,vS];exact hk _ (Same.refl _)
   ·have hlen:((Ev.lu (M1.take i) M2).map nV).length<=10000:=by
     rw[az];unfold Ev.lu;rw[List.length_flatMap];have:((M1.take i).map λm=>(M2.map λx=>m ||| x*2 ^ 10).length)=(M1.take i).map λ_=>M2.length:=by
      apply n_;intro x _;simp
     rw[this,List.map_const',List.sum_replicate_nat];have h1:(M1.take i).length<=100:=by simp;omega
     exact ck (Nat.mul_le_mul h1 hl2) (by decide)
    refine⟨l,D,_,_,rfl,rfl,hs _ _ hl2',hl3,?_,λq hq=>?_⟩
    ·rw[az (f:=λj=>nV (M1[i] ||| (M2.getD j 0*2 ^ 10)))]
     simp only[jx,az]at hlen ⊢;have:=@dw 100000 (by omega);omega
    ·have sq:=(s2.trans hs)
     refine⟨_,q,rfl,sq.trans (Same.put hq),sq.free hq,?_⟩;rw[au];have et:M1.take (i+1)=M1.take i++[M1[i]]:=by rw[qC,aA hi1];rfl
     rw[et];unfold Ev.lu;rw[xS,jy]
     congr 3
     apply kP
     ·simp
     ·intro j h1 h2
      have hj':j<M2.length:=by simpa using h1
      simp only[jY,mz,qw,HN,iA];rw[aQ,aA hj'];rfl
  ·rintro σ H2 ⟨v3,l,rfl,s2,hl,hl2'⟩
   rw[az,oh]at hl2';exact⟨_,rfl,kk l H2 s2 hl hl2'⟩
theorem fN{M:List Nat}{a:Nat}(h:a<M.length):(M.map nV)[a]?=some (nV (M.getD a 0)):=by
 rw[bW,aA h,aQ,aA h];rfl
abbrev Eu:Stmt:=top 73
theorem Qn:a_ ["_law_masks","_law_a","_law_b"] ["_law_masks","_law_a","_law_b"] (aB Eu):=by trivial
def nA(K:W.Frag):Sp:=λvs H Q _=>∃(m a b:Nat) (M:List Nat),vs = [.ref m,.int a,.int b]/\ah K H m (M.map nV)/\a<M.length/\b<M.length/\∀H',Same H H'->Q (.bl (Ev.aG M a b)) H'
theorem ZQ (F:aU K "_law_at_most" "_law_at_most" Eu f fd) (T:Txt mg):aN P w K mg base aZ 1 f fd ["_law_masks","_law_a","_law_b"] (nA K):=by
 refine F.ok Qn (λvs H Q E h=>?_) (λcdv A outer s H vs Q E hr h=>?_)
 ·obtain⟨m,a,b,M,rfl,_⟩:=h
  rfl
 ·obtain⟨m,a,b,M,rfl,hm,ha,hb,kk⟩:=h
  have nd:=Qn.nd;refine⟨_,(ay (aR (iq dW (aI kA (aq (aX (K:=K) rfl) (pv 0) (pv 1) (λ_ _=>rfl)) (aq (aX (K:=K) rfl) (pv 0) (pv 2) (λ_ _=>rfl))) (aq (aX (K:=K) rfl) (pv 0) (pv 1) (λ_ _=>rfl)) (bh _)))),?_⟩;refine⟨_,rfl,_,rfl,m,_,a,_,rfl,rfl,hm,aH (fN ha),_,rfl,_,rfl,m,_,b,_,rfl,rfl,hm,aH (fN hb),_,_,rfl,rfl,_,rfl,_,rfl,m,_,a,_,rfl,rfl,hm,aH (fN ha),rfl,?_⟩;have e:decide (V.int (Builtin.bitAnd (M.getD a 0:Nat) (M.getD b 0:Nat))=nV (M.getD a 0))=Ev.aG M a b:=by
   rw[lr];unfold Ev.aG;apply lD.mpr
   unfold Ev.Sub
   constructor
   ·intro h;injection h with h;omega
   ·intro h;rw[h]
  dsimp only;rw[e];exact kk _ (Same.refl _)
abbrev sS:Stmt:=top 76
theorem QK:a_ ["_law_masks","_law_count","_law_found","_law_a","_law_above","_law_b"] ["_law_masks"] (aB sS):=by trivial
noncomputable def bz (M:List Nat) (a:Nat):List Nat:=(List.range M.length).filter λb=>!decide (a=b)&&Ev.aG M a b
noncomputable def cU (M:List Nat):List (Nat × Nat):=(List.range M.length).flatMap λa=>((bz M a).filter λb=>((bz M a).filter λc=>Ev.aG M c b).length==1).map λb=>(a,b)
theorem kx{M:List Nat}{a b:Nat}:b∈bz M a ↔ b<M.length/\a≠b/\Ev.aG M a b=true:=by
 unfold bz;rw[cX];simp[and_assoc]
theorem vE{M:List Nat}{p:Nat × Nat}(h:p∈cU M):p.1<M.length/\p.2<M.length/\Ev.aG M p.1 p.2=true:=by
 unfold cU at h;rw[kT]at h;obtain⟨a,ha,h⟩:=h;obtain⟨b,hb,rfl⟩:=dc.mp h;have h1:=kx.mp (cX.mp hb).1;exact⟨by simpa using ha,h1.1,h1.2.2⟩
theorem OD{l:List Nat}{b:Nat}(nd:l.Nodup)(hb:b∈l)(h:∀c∈l,c=b):l.length=1:=by
 match l,nd,hb,h with
 | [x],_,_,_=>rfl
 |x::y::r,nd,_,h =>
  have h1:=h x bX;have h2:=h y (b_ _ bX);rw[iT]at nd;exact absurd (show x∈y::r by rw[h1,<- h2];exact bX) nd.1
theorem acF{M:List Nat}(nd:M.Nodup){a b:Nat}(ha:a<M.length)(hb:b<M.length)(h:Ev.stepM M a b):(a,b)∈cU M:=by
 unfold cU;rw[kT];refine⟨a,by simpa using ha,dc.mpr ⟨b,cX.mpr ⟨kx.mpr ⟨hb,h.1,h.2.1⟩,?_⟩,rfl⟩⟩;have e:((bz M a).filter λc=>Ev.aG M c b).length=1:=by
  apply OD (b:=b)
  ·exact(Ib.filter _).filter _
  ·exact cX.mpr ⟨kx.mpr ⟨hb,h.1,h.2.1⟩,Ev.jO M b⟩
  ·intro c hc
   obtain⟨h1,h2⟩:=cX.mp hc;obtain⟨h3,h4,h5⟩:=kx.mp h1
   rcases h.2.2 c h3 h5 h2 with z|z
   ·exact absurd z.symm h4
   ·exact z
 rw[e];rfl
theorem Vt(p:Nat->Bool)(l:List Nat):((List.range l.length).filter λj=>p (l.getD j 0)).length=(l.filter p).length:=by
 have e:l=(List.range l.length).map λj=>l.getD j 0:=by
  apply kP
  ·simp
  ·intro i h1 h2
   simp only[jY,mz];rw[aQ,aA h1];rfl
 have e2:(l.filter p).length=(((List.range l.length).map λj=>l.getD j 0).filter p).length:=by rw[<- e]
 rw[e2,HJ,az];rfl
def w8(K:W.Frag):Sp:=λvs H Q _=>∃(m:Nat) (M:List Nat),vs = [.ref m]/\ah K H m (M.map nV)/\M.length<=24/\∀l us H',Same H H'->H l=none->H' l=some (.lst us)->us.length<=576->Paired (bT H') (cU M) us->Q (.ref l) H'
theorem aaE (F:aU K "_law_steps" "_law_steps" sS f fd) (T:Txt mg) (fj:aC P w K mg base "_law_at_most" ["_law_masks","_law_a","_law_b"] 1 (nA K)):aN P w K mg base aZ 2 f fd ["_law_masks"] (w8 K):=by
 refine F.ok QK (λvs H Q E h=>?_) (λcdv A outer s H vs Q E hr h=>?_)
 ·obtain⟨m,M,rfl,_⟩:=h
  rfl
 ·obtain⟨m,M,rfl,hm,hn,kk⟩:=h
  have nd:=QK.nd;have en:(((M.map nV).length:Int)).toNat=M.length:=by rw[dq,az]
  refine⟨_,(av (aP (i:=1) nd rfl (Or.inl rfl) (bf (cK (K:=K) rfl) rfl T.len cR (ae (pv 0) ag)))
   (av (aP (i:=2) nd rfl (Or.inl rfl) (bU ag))
   (av (cx cq rfl (cQ rfl T.range (ae (pv 1) ag)) (bj (i:=3) nd rfl (Or.inr rfl))
   (av (pU (i:=4) nd rfl rfl (own:=["_law_b"]) (fr:=[("_law_a", 3),("_law_masks", 0)]) rfl (cA (aB sS) ["_law_masks","_law_count","_law_found","_law_a","_law_above","_law_b"] rfl rfl (by trivial)) (cQ rfl T.range (ae (pv 1) ag)) (λ_ _ _ _=>⟨(bj (i:=0) (by trivial:(["_law_b","_law_a","_law_masks"]:List Str).Nodup) rfl (Or.inl rfl)),(nq (PW.pt (lN (bw f6 (pv 1) (pv 0) (bh _)) (lO (bZ (aL fj hr rfl (ae (pv 2) (ae (pv 1) (ae (pv 0) ag (ao nofun)) (ao nofun)) (ao nofun)))))))),(pv 0)⟩))
   (ay (cx cq rfl (dC (K:=K) rfl (pv 4)) (bj (i:=5) nd rfl (Or.inr rfl))
   (ay (bA (bw dW (bf (cK (K:=K) rfl) rfl T.len cR (ae (dj (own:=["_law_c"]) (fr:=[("_law_masks", 0),("_law_b", 5)]) rfl (cA (aB sS) ["_law_masks","_law_count","_law_found","_law_a","_law_above","_law_b"] rfl rfl (by trivial)) (dC (K:=K) rfl (pv 4)) (λ_ _ _ _=>⟨(bj (i:=0) (by trivial:(["_law_c","_law_masks","_law_b"]:List Str).Nodup) rfl (Or.inl rfl)),(nq (bZ (aL fj hr rfl (ae (pv 1) (ae (pv 0) (ae (pv 2) ag (ao nofun)) (ao nofun)) (ao nofun))))),(pv 0)⟩)) ag)) ak (bh _)) (ay (cT (eP (K:=K) rfl eE iW jz iK (pv 2) (ae (fP (ae (pv 3) (ae (pv 5) ag))) ag)))) bD))))))
   (ay (aR (pv 2)))))),?_⟩
  refine⟨_,rfl,m,_,rfl,.inl hm,?_⟩;refine⟨by show 0<=sizeLine;decide,λL hL=>?_⟩;refine⟨_,rfl,_,rfl,by rw[az];exact(bC (by omega)).1,by rw[az];exact(bC (by omega)).2,fJ (lo:=0) (n:=(((M.map nV).length:Int)).toNat) (λi σ H2=>∃(v3 v4 v5:Option V) (us:List V),σ = [some (.ref m),some (.int (M.map nV).length),some (.ref L),v3,v4,v5]/\Same H H2/\H2 L=some (.lst us)/\us.length<=24*i /\
   Paired (bT H2) ((List.range i).flatMap λa=>((bz M a).filter λb=>((bz M a).filter λc=>Ev.aG M c b).length==1).map λb=>(a,b)) us) ⟨none,none,none,[],rfl,Same.put hL,au,by simp,.nil⟩ ?_ ?_⟩
  ·rintro i σ H2 hi ⟨v3,v4,v5,us,rfl,s2,hl,hlen,hp⟩
   rw[en]at hi;refine⟨_,rfl,_,rfl,by rw[az];exact(bC (by omega)).1,by rw[az];exact(bC (by omega)).2,λD hD=>mU (λb=>!decide (i=b)&&Ev.aG M i b) nV src_range hD (by rw[en];exact dE hn) (λj H3 Kt Kf hj hs hkt hkf=>?_) (λH3 hs3 hl3=>?_)⟩
   ·rw[en]at hj
    refine⟨_,rfl,_,rfl,rfl,_,rfl,?_⟩;have ed:(!decide (V.int (0+(i:Int))=V.int (0+(j:Int)))) = !decide (i=j):=by
     congr 1
     rw[fA];exact zJ
    rw[ed];refine bq (λh=>?_) (λh=>?_)
    ·refine⟨_,rfl,_,rfl,_,rfl,m,i,j,M,by simp,hs.seq (s2.seq hm),hi,hj,λH4 s4=>⟨_,rfl,bq (λh'=>?_) (λh'=>?_)⟩⟩
     ·refine⟨_,rfl,?_⟩
      rw[fA];exact hkt _ (by rw[h,h',fz]) s4
     ·exact hkf _ (by rw[h,fz];simpa using h') s4
    ·refine bx ?_
     have h2:(!decide (i=j))=false:=by simpa using h
     exact hkf _ (by rw[h2,jo]) (Same.refl _)
   rw[en]at hl3
   change H3 D=some (.lst ((bz M i).map nV))at hl3
   have hDL:D≠L:=λe=>by rw[e,hl]at hD;cases hD
   have hab:(bz M i).length<=24:=ck (qB _ _) (by rw[jx];exact hn);refine⟨_,rfl,D,rfl,⟨_,ah.of hl3⟩,iF (K:=K) (a:=D) (xs:=(bz M i).map nV) (λt σ H4=>∃(v5:Option V) (ws:List V),σ = [some (.ref m),some (.int (M.map nV).length),some (.ref L),some (.int (0+(i:Int))),some (.ref D),v5]/\Same H H4/\H4 D=some (.lst ((bz M i).map nV)) /\
    H4 L=some (.lst (us++ws))/\ws.length<=t/\Paired (bT H4) (((List.range i).flatMap λa=>((bz M a).filter λb=>((bz M a).filter λc=>Ev.aG M c b).length==1).map λb=>(a,b))++((((bz M i).take t).filter λb=>((bz M i).filter λc=>Ev.aG M c b).length==1).map λb=>(i,b))) (us++ws))
    ⟨v5,[],rfl,s2.trans hs3,hl3,by rw[iA];exact hs3 _ _ hl,aY _,by simpa using c9.same hs3 hp⟩ (λi σ H4 _ hpq=>by obtain⟨_,_,_,_,h4,_⟩:=hpq;exact ah.of h4) ?_ ?_⟩
   ·rintro t y σ H4 ht ⟨v5,ws,rfl,s4,rM,cM,hws,cF⟩
    have htl:t<(bz M i).length:=by simpa using(bJ.mp ht).1
    have ey:y=nV (bz M i)[t]:=by
     rw[bW,aA htl]at ht;exact(dg ht).symm
    subst ey;have WM:=(kx.mp (fC htl)).1;have et:(bz M i).take (t+1)=(bz M i).take t++[(bz M i)[t]]:=by rw[qC,aA htl];rfl
    refine⟨_,rfl,D,rfl,⟨_,ah.of rM⟩,λD2 hD2=>mU (λj=>Ev.aG M ((bz M i).getD j 0) (bz M i)[t]) (λj=>nV ((bz M i).getD j 0)) (src_list (ah.of rM)) hD2 (by rw[az];exact dE hab) (λj H5 Kt Kf hj hs hkt hkf=>?_) (λH5 jJ eV=>?_)⟩
    ·have hj':j<(bz M i).length:=by simpa using hj
     have hcl:(bz M i).getD j 0<M.length:=by
      rw[aQ,aA hj'];exact(kx.mp (fC hj')).1
     have eg:((bz M i).map nV).getD j .non=nV ((bz M i).getD j 0):=by
      rw[aQ,fN hj'];rfl
     refine⟨_,rfl,_,rfl,_,rfl,m,_,_,M,by rw[eg];rfl,hs.seq (s4.seq hm),hcl,WM,λH6 s6=>⟨_,rfl,bq (λh=>?_) (λh=>?_)⟩⟩
     ·refine⟨_,rfl,?_⟩
      rw[eg];exact hkt _ h s6
     ·exact hkf _ (by simpa using h) s6
    have ef:(((List.range ((bz M i).map nV).length).filter λj=>Ev.aG M ((bz M i).getD j 0) (bz M i)[t]).map λj=>nV ((bz M i).getD j 0)).length=((bz M i).filter λc=>Ev.aG M c (bz M i)[t]).length:=by
     rw[az,az];exact Vt (λc=>Ev.aG M c (bz M i)[t]) (bz M i)
    refine⟨D2,_,rfl,.inl (ah.of eV),rfl,_,rfl,?_⟩;rw[ef];have rQ:=jJ _ _ cM;have ed:decide (V.int ((((bz M i).filter λc=>Ev.aG M c (bz M i)[t]).length:Nat):Int)=V.int 1)=(((bz M i).filter λc=>Ev.aG M c (bz M i)[t]).length==1):=by
     rw[dk];simp only[cL,gR]
     constructor
     ·intro h;injection h with h;omega
     ·intro h;rw[h];rfl
    rw[ed];refine bq (λh=>?_) (λh=>?_)
    ·refine⟨_,rfl,.inl ⟨rfl,_,ah.of rQ⟩,_,rfl,_,rfl,by show 2<=sizeLine;decide,λq hq=>?_⟩
     refine⟨L,_,_,rfl,rfl,Same.put hq _ _ rQ,?_,?_⟩
     ·rw[cz];exact dw (by omega)
     ·have pe:L≠q:=λe=>by rw[<- e,rQ]at hq;cases hq
      refine⟨_,ws++[.ref q],rfl,?_,?_,?_,by rw[cz];exact Nat.succ_le_succ hws,?_⟩
      ·intro b o e
       rw[aF (λz=>by rw[z,hL]at e;cases e)];exact Same.put hq _ _ (jJ _ _ (s4 _ _ e))
      ·rw[aF hDL];exact Same.put hq _ _ (jJ _ _ rM)
      ·rw[au,jv]
      ·rw[et,qu,jy,<- jv,<- jv]
       have e1:([(bz M i)[t]].filter λb=>((bz M i).filter λc=>Ev.aG M c b).length==1) = [(bz M i)[t]]:=by rw[xR,if_pos h];rfl
       rw[e1];refine vU (Same.put hq _ _ rQ) (pP (c9.same (jJ.trans (Same.put hq)) cF) (.cons ⟨q,rfl,?_⟩ .nil));rw[au,fA]
    ·refine⟨_,ws,rfl,s4.trans jJ,jJ _ _ rM,rQ,Nat.le_succ_of_le hws,?_⟩
     rw[et,qu,jy];have e1:([(bz M i)[t]].filter λb=>((bz M i).filter λc=>Ev.aG M c b).length==1) = []:=by rw[xR,if_neg h];rfl
     rw[e1,tX,iA];exact c9.same jJ cF
   ·rintro σ H4 ⟨v5,ws,rfl,s4,rM,cM,hws,cF⟩
    rw[az,oh]at cF;rw[az]at hws;refine⟨_,_,_,us++ws,rfl,s4,cM,by rw[cz];omega,?_⟩;rw[Ed];exact cF
  ·rintro σ H2 ⟨v3,v4,v5,us,rfl,s2,hl,hlen,hp⟩
   rw[en]at hp hlen;exact⟨_,rfl,kk L us H2 s2 hL hl (by omega) hp⟩
end
theorem vk{M:List Nat}{x:Nat}(h:x∈M):(M.map λx:Nat=>(x:Int)).idxOf (x:Int)<M.length/\M.getD ((M.map λx:Nat=>(x:Int)).idxOf (x:Int)) 0=x:=by
 have hm:(x:Int)∈M.map λx:Nat=>(x:Int):=dc.mpr ⟨x,h,rfl⟩;have hj:=qA.mpr hm;have e:=qz hj;rw[jY]at e;have hj':(M.map λx:Nat=>(x:Int)).idxOf (x:Int)<M.length:=by simpa using hj
 refine⟨hj',?_⟩;rw[aQ,aA hj'];exact Int.ofNat.inj e
theorem Tn(m:Nat):Builtin.bitAnd (-1) (m:Int)=(m:Int):=by
 rw[bitAnd_np (by decide) (by omega)];have:(Builtin.bitNot (-1)).toNat=0:=by decide
 rw[this];simp
theorem acJ(x y:Nat):decide (V.int (Builtin.bitAnd (x:Int) (y:Int))=nV x)=decide (Ev.Sub x y):=by
 rw[lr];apply lD.mpr
 unfold Ev.Sub
 constructor
 ·intro h;injection h with h;omega
 ·intro h;rw[h]
theorem RC(x y:Nat):decide (V.int (Builtin.bitAnd (y:Int) (x:Int))=nV x)=decide (Ev.Sub x y):=by
 rw[bitAnd_comm];exact acJ x y
noncomputable def yH:Option Nat->V
 |none=>.int (-1)
 |some m=>nV m
noncomputable def kr (A B:Nat) (o:Option Nat) (m:Nat):Option Nat:=if decide (Ev.Sub A m)&&decide (Ev.Sub B m)then some (match o with|none=>m|some x=>x&&& m)else o
theorem Tg(o:Option Nat)(m:Nat):∃i:Int,yH o = .int i/\V.int (Builtin.bitAnd i (m:Int))=yH (some (match o with|none=>m|some x=>x&&& m)):=by
 cases o with
 |none=>exact⟨-1,rfl,by rw[Tn];rfl⟩
 |some x=>exact⟨x,rfl,by rw[lr];rfl⟩
theorem Np(A B:Nat):∀(l:List Nat) (o:Option Nat),l.foldl (kr A B) o=match o,l.filter (λm=>decide (Ev.Sub A m)&&decide (Ev.Sub B m))with
  |o,[]=>o
  |none,s::S=>some (S.foldl (·&&& ·) s)
  |some x,s::S=>some ((s::S).foldl (·&&& ·) x)
 | [],o=>by cases o<;>rfl
 |m::l,o=>by
  rw[HQ,Np A B l];unfold kr
  by_cases h:(decide (Ev.Sub A m)&&decide (Ev.Sub B m))=true
  ·rw[if_pos h,xR,if_pos h]
   cases o with
   |none=>cases l.filter (λm=>decide (Ev.Sub A m)&&decide (Ev.Sub B m))<;>rfl
   |some x=>cases l.filter (λm=>decide (Ev.Sub A m)&&decide (Ev.Sub B m))<;>rfl
  ·rw[if_neg h,xR,if_neg h]
theorem Yc{M:List Nat}(L:Ev.bO M){a b:Nat}(ha:a<M.length)(hb:b<M.length):∃j,M.foldl (kr (M.getD a 0) (M.getD b 0)) none=some j/\j∈M/\Ev.Sub (M.getD a 0) j/\Ev.Sub (M.getD b 0) j/\∀x∈M,Ev.Sub (M.getD a 0) x->Ev.Sub (M.getD b 0) x->Ev.Sub j x:=by
 rw[Np];have hin:∀x,x∈M.filter (λm=>decide (Ev.Sub (M.getD a 0) m)&&decide (Ev.Sub (M.getD b 0) m)) ↔ x∈M/\Ev.Sub (M.getD a 0) x/\Ev.Sub (M.getD b 0) x:=λx=>by
  rw[cX];simp
 cases e:M.filter (λm=>decide (Ev.Sub (M.getD a 0) m)&&decide (Ev.Sub (M.getD b 0) m))with
 |nil =>
  obtain⟨t,ht,htop⟩:=L.top;have:=(hin t).mpr ⟨ht,htop _ (Ev.getD_mem ha),htop _ (Ev.getD_mem hb)⟩;rw[e]at this;cases this
 |cons s S =>
  rw[e]at hin;have hs:=(hin s).mp bX;obtain⟨h1,h2,h3,h4⟩:=Ev.BP L.meet S s (λx hx=>((hin x).mp (b_ _ hx)).1) hs.1;refine⟨_,rfl,h1,h4 _ hs.2.1 λx hx=>((hin x).mp (b_ _ hx)).2.1,h4 _ hs.2.2 λx hx=>((hin x).mp (b_ _ hx)).2.2,λx hx k1 k2=>?_⟩
  rcases bp.mp ((hin x).mpr ⟨hx,k1,k2⟩)with z|z
  ·rw[z];exact h2
  ·exact h3 x z
section
variable {P:Program} {w:World} {K:W.Frag} {mg:Str->Option Value} {base:Heap} {f:Addr} {fd:FuncData}
theorem Dt{H:Hp}{m:Addr}{M:List Nat}(h:ah K H m (M.map nV)):ah K H m ((M.map λx:Nat=>(x:Int)).map V.int):=by
 rw[eB];exact h
abbrev E_:Stmt:=top 74
theorem QB:a_ ["_law_masks","_law_a","_law_b"] ["_law_masks","_law_a","_law_b"] (aB E_):=by trivial
def qc(K:W.Frag):Sp:=λvs H Q _=>∃(m a b:Nat) (M:List Nat),vs = [.ref m,.int a,.int b]/\ah K H m (M.map nV)/\Ev.bO M/\a<M.length/\b<M.length/\∀c H',Same H H'->c<M.length->(∀x,Ev.aG M x c=(Ev.aG M x a&&Ev.aG M x b))->Q (.int (c:Nat)) H'
theorem aaj (F:aU K "_law_meet" "_law_meet" E_ f fd) (T:Txt mg):aN P w K mg base aZ 1 f fd ["_law_masks","_law_a","_law_b"] (qc K):=by
 refine F.ok QB (λvs H Q E h=>?_) (λcdv A outer s H vs Q E hr h=>?_)
 ·obtain⟨m,a,b,M,rfl,_⟩:=h
  rfl
 ·obtain⟨m,a,b,M,rfl,hm,L,ha,hb,kk⟩:=h
  have nd:=QB.nd;refine⟨_,(ay (aR (eP (K:=K) rfl eE kY qK (vH (K:=K) rfl) (pv 0) (ae (aI kA (aq (aX (K:=K) rfl) (pv 0) (pv 1) (λ_ _=>rfl)) (aq (aX (K:=K) rfl) (pv 0) (pv 2) (λ_ _=>rfl))) ag)))),?_⟩;have hin:=L.meet _ (Ev.getD_mem ha) _ (Ev.getD_mem hb);obtain⟨h1,h2⟩:=vk hin;refine⟨_,rfl,.inl ⟨rfl,_,hm⟩,_,rfl,_,rfl,m,_,a,_,rfl,rfl,hm,aH (fN ha),_,rfl,_,rfl,m,_,b,_,rfl,rfl,hm,aH (fN hb),_,_,rfl,rfl,m,_,_,rfl,rfl,Dt hm,?_,?_⟩
  ·rw[lr];exact dc.mpr ⟨_,hin,rfl⟩
  ·rw[lr]
   refine kk _ _ (Same.refl _) h1 λx=>?_;rw[dk,bF,Ev.dS,Ev.dS,Ev.dS,h2];exact Ev.Sub.yJ
abbrev EY:Stmt:=top 75
theorem Qy:a_ ["_law_masks","_law_a","_law_b","_law_least","_law_mask"] ["_law_masks","_law_a","_law_b"] (aB EY):=by trivial
noncomputable def sZ (K:W.Frag):Sp:=λvs H Q _=>∃(m a b:Nat) (M:List Nat),vs = [.ref m,.int a,.int b]/\ah K H m (M.map nV)/\Ev.bO M/\a<M.length/\b<M.length/\∀c H',Same H H'->c<M.length->(∀x,x<M.length->Ev.aG M c x=(Ev.aG M a x&&Ev.aG M b x))->Q (.int (c:Nat)) H'
theorem aaf (F:aU K "_law_join" "_law_join" EY f fd) (T:Txt mg):aN P w K mg base aZ 1 f fd ["_law_masks","_law_a","_law_b"] (sZ K):=by
 refine F.ok Qy (λvs H Q E h=>?_) (λcdv A outer s H vs Q E hr h=>?_)
 ·obtain⟨m,a,b,M,rfl,_⟩:=h
  rfl
 ·obtain⟨m,a,b,M,rfl,hm,L,ha,hb,kk⟩:=h
  have nd:=Qy.nd;refine⟨_,(av (aP (i:=3) nd rfl (Or.inl rfl) (lL lY ak))
   (av (cx cq rfl (dC (K:=K) rfl (pv 0)) (bj (i:=4) nd rfl (Or.inl rfl))
   (ay (bA (PW.pt (lN (bw dW (aI kA (pv 4) (aq (aX (K:=K) rfl) (pv 0) (pv 1) (λ_ _=>rfl))) (aq (aX (K:=K) rfl) (pv 0) (pv 1) (λ_ _=>rfl)) (bh _)) (lO (bw dW (aI kA (pv 4) (aq (aX (K:=K) rfl) (pv 0) (pv 2) (λ_ _=>rfl))) (aq (aX (K:=K) rfl) (pv 0) (pv 2) (λ_ _=>rfl)) (bh _))))) (ay (aP (i:=3) nd rfl (Or.inl rfl) (aI kA (pv 3) (pv 4)))) bD)))
   (ay (aR (eP (K:=K) rfl eE kY qK (vH (K:=K) rfl) (pv 0) (ae (pv 3) ag)))))),?_⟩
  obtain⟨j,hj,h1,h2,h3,h4⟩:=Yc L ha hb;refine⟨1,rfl,?_⟩;refine⟨_,rfl,m,rfl,⟨_,hm⟩,iF (K:=K) (a:=m) (xs:=M.map nV) (λi σ H2=>∃(v4:Option V) (o:Option Nat),σ = [some (.ref m),some (.int a),some (.int b),some (yH o),v4]/\Same H H2/\o=(M.take i).foldl (kr (M.getD a 0) (M.getD b 0)) none)
   ⟨none,none,rfl,Same.refl _,rfl⟩ (λi σ H2 _ hpq=>by obtain⟨_,_,_,s2,_⟩:=hpq;exact s2.seq hm) ?_ ?_⟩
  ·rintro i y σ H2 hy ⟨v4,o,rfl,s2,ho⟩
   have hi:i<M.length:=by simpa using(bJ.mp hy).1
   have ey:y=nV M[i]:=by
    rw[bW,aA hi]at hy;exact(dg hy).symm
   subst ey;have hm2:=s2.seq hm;have et:(M.take (i+1)).foldl (kr (M.getD a 0) (M.getD b 0)) none=kr (M.getD a 0) (M.getD b 0) o M[i]:=by
    rw[qC,aA hi];show((M.take i)++[M[i]]).foldl _ _=_;rw[List.foldl_append,<- ho];rfl
   have fin:∀o',o'=kr (M.getD a 0) (M.getD b 0) o M[i]->o'=(M.take (i+1)).foldl (kr (M.getD a 0) (M.getD b 0)) none:=λo' h=>h.trans et.symm;unfold kr at fin;refine⟨_,rfl,_,rfl,_,rfl,m,_,a,_,rfl,rfl,hm2,aH (fN ha),_,_,rfl,rfl,_,rfl,_,rfl,m,_,a,_,rfl,rfl,hm2,aH (fN ha),rfl,_,rfl,?_⟩;rw[RC];refine bq (λh=>?_) (λh=>?_)
   ·refine⟨_,rfl,_,rfl,_,rfl,m,_,b,_,rfl,rfl,hm2,aH (fN hb),_,_,rfl,rfl,_,rfl,_,rfl,m,_,b,_,rfl,rfl,hm2,aH (fN hb),rfl,_,rfl,?_⟩
    rw[RC];refine bq (λh'=>?_) (λh'=>?_)
    ·obtain⟨z,e1,e2⟩:=Tg o M[i]
     rw[e1];refine⟨_,rfl,_,rfl,_,_,rfl,rfl,?_⟩;rw[h,h',fz,if_pos rfl]at fin;exact⟨some (nV M[i]),_,by rw[<- e2];rfl,s2,fin _ rfl⟩
    ·rw[h,fz,if_neg h']at fin
     exact⟨_,o,rfl,s2,fin _ rfl⟩
   ·refine bx ?_
    rw[if_neg (λz=>h ((bF _ _).mp z).1)]at fin;exact⟨_,o,rfl,s2,fin _ rfl⟩
  ·rintro σ H2 ⟨v4,o,rfl,s2,ho⟩
   rw[az,oh,hj]at ho;subst ho;have hm2:=s2.seq hm;obtain⟨k1,k2⟩:=vk h1;refine⟨_,rfl,.inl ⟨rfl,_,hm2⟩,_,rfl,m,_,_,rfl,rfl,Dt hm2,dc.mpr ⟨_,h1,rfl⟩,?_⟩;refine kk _ _ s2 k1 λx hx=>?_;rw[dk,bF,Ev.dS,Ev.dS,Ev.dS,k2];exact⟨λh=>⟨h2.trans h,h3.trans h⟩,λh=>h4 _ (Ev.getD_mem hx) h.1 h.2⟩
end
theorem RD:∀rs:List Nat,(rs.map λr=>((2 ^ r:Nat):Int)).sum=(((rs.map λr=>2 ^ r).sum:Nat):Int)
 | []=>rfl
 |r::rs=>by
  simp only[dr,List.sum_cons];rw[RD rs]
  push_cast
  rfl
theorem getD_map{α β:Type}{g:α->β}{l:List α}{i:Nat}{d:α}{e:β}(h:i<l.length):(l.map g).getD i e=g (l.getD i d):=by
 rw[aQ,aQ,bW,aA h];rfl
theorem range_getD{α β:Type}(g:α->β)(l:List α)(d:α):(List.range l.length).map (λi=>g (l.getD i d))=l.map g:=by
 apply kP
 ·simp
 ·intro i h1 h2
  have h:i<l.length:=by simpa using h1
  simp only[jY,mz];rw[aQ,aA h];rfl
abbrev bits:List Nat:=[0,1,1,0,1,0,0,1]
section
variable {P:Program} {w:World} {K:W.Frag} {mg:Str->Option Value} {base:Heap} {f:Addr} {fd:FuncData}
abbrev p_:Stmt:=top 70
theorem Qt:a_ ["_law_found","_law_k","_law_rows"] [] (aB p_):=by trivial
def FW:Sp:=λvs H Q _=>vs = []/\∀l H',Same H H'->H l=none->H' l=some (.lst (Ev.KN.map nV))->Q (.ref l) H'
noncomputable def F0:List Nat:=[1,255]++((List.range 7).map λi=>1 ||| 2 ^ (1+i))
set_option maxHeartbeats 1000000 in
theorem Z2 (F:aU K "_law_fields" "_law_fields" p_ f fd) (T:Txt mg):aN P w K mg base aZ 1 f fd [] FW:=by
 refine F.ok Qt (λvs H Q E h=>?_) (λcdv A outer s H vs Q E hr h=>?_)
 ·obtain⟨rfl,_⟩:=h
  rfl
 ·obtain⟨rfl,kk⟩:=h
  have nd:=Qt.nd;refine⟨_,(av (aP (i:=0) nd rfl (Or.inl rfl) (aI gC (bU (ae ak (ae ak ag))) (dj (own:=["_law_k"]) (fr:=[]) rfl (cA (aB p_) ["_law_found","_law_k","_law_rows"] rfl rfl (by trivial)) (DT rfl T.range (ae ak (ae ak ag))) (λ_ _ _ _=>⟨(bj (i:=0) (by trivial:(["_law_k"]:List Str).Nodup) rfl (Or.inl rfl)),da,(aI vR ak (aI pN ak (pv 0)))⟩))))
   (av (cx cq rfl (DT rfl T.range (ae ak (ae ak ag))) (bj (i:=1) nd rfl (Or.inr rfl))
   (av (pU (i:=2) nd rfl rfl (own:=["_law_row"]) (fr:=[("_law_k", 1)]) rfl (cA (aB p_) ["_law_found","_law_k","_law_rows"] rfl rfl (by trivial)) (cQ rfl T.range (ae ak ag)) (λ_ _ _ _=>⟨(bj (i:=0) (by trivial:(["_law_row","_law_k"]:List Str).Nodup) rfl (Or.inl rfl)),(nq (bw dW (aq (aX (K:=K) rfl) (bU (pO [0,1,1,0,1,0,0,1] rfl)) (aI kA (pv 0) (pv 1)) (λ_ _=>rfl)) ak (bh _))),(pv 0)⟩))
   (ay (cT (eP (K:=K) rfl eE iW jz iK (pv 0) (ae (bf (Ui (K:=K) rfl rfl) rfl T.sum boot_sum (ae (dj (own:=["_law_row"]) (fr:=[]) rfl (cA (aB p_) ["_law_found","_law_k","_law_rows"] rfl rfl (by trivial)) (dC (K:=K) rfl (pv 2)) (λ_ _ _ _=>⟨(bj (i:=0) (by trivial:(["_law_row"]:List Str).Nodup) rfl (Or.inl rfl)),da,(aI pN ak (pv 0))⟩)) ag)) ag))))))
   (ay (aR (pv 0))))),?_⟩
  refine⟨by show 2<=sizeLine;decide,λp1 hp1=>?_⟩;refine⟨1,8,rfl,⟨by decide,by decide,by decide,by decide⟩,λD hD=>fk (λi=>nV (1 ||| 2 ^ (1+i))) src_range hD (by show 7<sizeLine;decide) (λi H2 Kt hi hs hk=>?_) (λH2 hs hl=>?_)⟩
  ·refine⟨_,rfl,_,_,rfl,rfl,⟨by omega,by have:i<7:=hi;omega,by decide⟩,_,_,rfl,rfl,?_⟩
   have e:(1:Int)*2 ^ (1+(i:Int)).toNat=((2 ^ (1+i):Nat):Int):=by
    have e1:(1+(i:Int)).toNat=1+i:=by omega
    rw[e1];push_cast;omega
   dsimp only;rw[e];have e2:Builtin.bitOr (1:Int) ((2 ^ (1+i):Nat):Int)=((1 ||| 2 ^ (1+i):Nat):Int):=vS 1 _;rw[e2];exact hk _ (Same.refl _)
  have h1':H2 p1=some (.lst [.int 1,.int 255]):=hs _ _ au;have s1:Same H H2:=(Same.put hp1).trans hs;refine⟨p1,D,_,_,rfl,rfl,h1',hl,by show 9<=sizeLine;decide,λL hL=>?_⟩;have hL0:H L=none:=s1.free hL;refine⟨1,8,rfl,⟨by decide,by decide,by decide,by decide⟩,fJ (lo:=1) (n:=7) (λi σ H3=>∃v1 v2,σ = [some (.ref L),v1,v2]/\Same H H3 /\
   H3 L=some (.lst ((F0++(List.range i).map λk=>(((List.range 8).filter λr=>bits.getD (r&&& (1+k)) 0==0).map λr=>2 ^ r).sum).map nV))) ⟨none,none,rfl,s1.trans (Same.put hL),by rw[au];rfl⟩ ?_ ?_⟩
  ·rintro i σ H3 hi ⟨v1,v2,rfl,s3,hl3⟩
   refine⟨8,rfl,by decide,by decide,λD2 hD2=>mU (λr=>bits.getD (r&&& (1+i)) 0==0) nV src_range hD2 (by show 8<sizeLine;decide) (λj H4 Kt Kf hj hs hkt hkf=>?_) (λH4 gW cM=>?_)⟩
   ·have W7:j<8:=hj
    refine⟨by show 8<=sizeLine;decide,λq hq=>?_⟩;have eb:Builtin.bitAnd (0+(j:Int)) (1+(i:Int))=((j&&& (1+i):Nat):Int):=by
     rw[fA];exact lr j (1+i)
    have hx:j&&& (1+i)<bits.length:=ot Nat.and_le_left (by show j<8;exact W7);refine⟨_,rfl,_,rfl,_,_,rfl,rfl,q,bits.map nV,_,nV (bits.getD (j&&& (1+i)) 0),rfl,rfl,ah.of au,?_,rfl,_,rfl,?_⟩
    ·rw[eb]
     exact aH (by rw[bW,aA hx,aQ,aA hx];rfl)
    ·have ed:decide (nV (bits.getD (j&&& (1+i)) 0)=V.int 0)=(bits.getD (j&&& (1+i)) 0==0):=by
      rw[dk];simp only[cL,gR]
      constructor
      ·intro h;injection h with h;omega
      ·intro h;rw[h];rfl
     rw[ed];refine bq (λh=>?_) (λh=>?_)
     ·refine⟨_,rfl,?_⟩
      rw[fA];exact hkt _ h (Same.put hq)
     ·exact hkf _ (by simpa using h) (Same.put hq)
   ·have Mf:=gW _ _ hl3
    change H4 D2=some (.lst (((List.range 8).filter λr=>bits.getD (r&&& (1+i)) 0==0).map nV))at cM
    refine⟨_,rfl,.inl ⟨rfl,_,ah.of Mf⟩,?_⟩;refine⟨_,rfl,D2,rfl,⟨_,ah.of cM⟩,λD3 lE=>fk (λj=>.int ((2 ^ (((List.range 8).filter λr=>bits.getD (r&&& (1+i)) 0==0).getD j 0):Nat):Int)) (src_list (ah.of cM)) lE ?_ (λj H5 Kt hj hs hk=>?_) (λH5 jJ eV=>?_)⟩
    ·rw[az]
     exact ot (qB _ _) (by show 8<sizeLine;decide)
    ·have hj':j<((List.range 8).filter λr=>bits.getD (r&&& (1+i)) 0==0).length:=by simpa using hj
     have hr:((List.range 8).filter λr=>bits.getD (r&&& (1+i)) 0==0).getD j 0<8:=by
      rw[aQ,aA hj'];have:=(cX.mp (fC hj')).1;simpa using this
     refine⟨_,rfl,_,_,rfl,getD_map (d:=0) hj',⟨by omega,by omega,by decide⟩,?_⟩;have e:(1:Int)*2 ^ ((((List.range 8).filter λr=>bits.getD (r&&& (1+i)) 0==0).getD j 0:Nat):Int).toNat=((2 ^ (((List.range 8).filter λr=>bits.getD (r&&& (1+i)) 0==0).getD j 0):Nat):Int):=by
      rw[dq];push_cast;omega
     dsimp only;rw[e];exact hk _ (Same.refl _)
    ·have en:(((List.range 8).filter λr=>bits.getD (r&&& (1+i)) 0==0).map nV).length=((List.range 8).filter λr=>bits.getD (r&&& (1+i)) 0==0).length:=az _
     rw[en,range_getD (λr=>V.int ((2 ^ r:Nat):Int))]at eV;have el:((List.range 8).filter λr=>bits.getD (r&&& (1+i)) 0==0).map (λr=>V.int ((2 ^ r:Nat):Int))=(((List.range 8).filter λr=>bits.getD (r&&& (1+i)) 0==0).map λr=>((2 ^ r:Nat):Int)).map V.int:=by rw[eB];rfl
     rw[el]at eV;refine⟨D3,_,rfl,ah.of eV,?_,λx hx=>?_,?_⟩
     ·rw[az]
      exact ck (qB _ _) (by simp)
     ·obtain⟨r,hr,rfl⟩:=dc.mp hx
      have h8:r<8:=by simpa using(cX.mp hr).1
      have h2:2 ^ r<=2 ^ 8:=Nat.pow_le_pow_right (by decide) (by omega);exact⟨Int.natCast_nonneg _,qk (Int.ofNat_le.mpr h2) (by decide)⟩
     ·rw[RD]
      refine⟨L,_,_,rfl,rfl,jJ _ _ Mf,?_,?_⟩
      ·rw[az,cz,az,jx]
       have:F0.length=9:=rfl;exact dw (by omega)
      ·refine⟨_,_,rfl,?_,?_⟩
       ·intro b o e
        rw[aF (λz=>by rw[z,hL0]at e;cases e)];exact jJ _ _ (gW _ _ (s3 _ _ e))
       ·have er:List.range (i+1)=List.range i++[i]:=iU
        rw[au,er];simp only[jy,dr,tX,jv]
  ·rintro σ H3 ⟨v1,v2,rfl,s3,hl3⟩
   exact⟨_,rfl,kk L H3 s3 hL0 hl3⟩
end
theorem CQ(m:Nat):∀F:List Nat,inV (nV m) (F.map nV)=decide (m∈F)
 | []=>by simp[inV]
 |x::r=>by
  have ih:=CQ m r;unfold inV at ih ⊢;rw[dr,qp,ih];have e:j_ (nV x) (nV m)=decide (x=m):=by
   show((x:Int)==(m:Int))=decide (x=m);rw[dk];simp;omega
  rw[e];rw[dk];simp only[Ht,cL,bp]
  constructor
  ·rintro(h|h)
   ·exact .inl h.symm
   ·exact .inr h
  ·rintro(h|h)
   ·exact .inl h.symm
   ·exact .inr h
theorem Vw(F:List Nat):(F.map nV).all kg=true:=by
 rw[fB];intro x hx;obtain⟨y,_,rfl⟩:=dc.mp hx;rfl
structure Fam (F:List Nat):Prop where
 nd:F.Nodup
 lt:∀x∈F,x<16
theorem Fam.len{F:List Nat}(h:Fam F):F.length<=16:=Ev.Om 16 F h.nd h.lt
theorem Fam.snoc{F:List Nat}(h:Fam F){x:Nat}(hx:x<16)(hn:x ∉ F):Fam (F++[x]) where
 nd:=Ia.mpr ⟨h.nd,by simp,λa ha b hb=>by simp at hb;subst hb;exact λe=>hn (e▸ha)⟩
 lt:=λy hy=>by
  rcases gO.mp hy with hy|hy
  ·exact h.lt y hy
  ·simp at hy;subst hy;exact hx
theorem La{F G:List Nat}{i:Nat}(h:i<F.length):(F++G).getD i 0=F.getD i 0:=by
 rw[aQ,aQ,jw h]
theorem uM(xs:List V)(k:Nat):d8 xs none (some (k:Int))=xs.take k:=by
 unfold d8;rw[HT.wk,HT.wj,List.drop_zero,Nat.sub_zero]
 by_cases h:k<=xs.length
 ·rw[Ij h]
 ·rw[Ik (by omega),ua (by omega),ua (by omega)]
section
variable {P:Program} {w:World} {K:W.Frag} {mg:Str->Option Value} {base:Heap} {f:Addr} {fd:FuncData}
abbrev Fd:Stmt:=top 66
theorem QH:a_ ["_law_masks","_law_both","_law_found","_law_at","_law_here","_law_there","_law_some","_law_mask"] ["_law_masks","_law_both"] (aB Fd):=by trivial
def GL(K:W.Frag):Sp:=λvs H Q _=>∃(a:Nat) (M:List Nat) (c:Bool),vs = [.ref a,.bl c]/\H a=some (.lst (M.map nV))/\Fam M/\15∈M/\∀l M' H',Same H H'->H l=none->H' l=some (.lst (M'.map nV))->Ev.bO M'->Q (.ref l) H'
structure uz (M F:List Nat) (k:Nat):Prop where
 fam:Fam F
 sub:∀x∈M,x∈F
 cl:∀i j,i<j->j<k->F.getD i 0&&& F.getD j 0∈F
theorem uz.lat{M F:List Nat}(h:uz M F F.length)(h15:15∈M):Ev.bO F where
 nd:=h.fam.nd
 len:=ck h.fam.len (by decide)
 meet:=λx hx y hy=>by
  obtain⟨i,hi,rfl⟩:=Ev.uX hx;obtain⟨j,hj,rfl⟩:=Ev.uX hy
  rcases Nat.lt_trichotomy i j with q|q|q
  ·exact h.cl i j q hj
  ·subst q;rw[yd];exact hx
  ·rw[yc];exact h.cl j i q hi
 top:=⟨15,h.sub 15 h15,λx hx=>by
  have hlt:=h.fam.lt x hx;have:∀y:Nat,y<16->Ev.Sub y 15:=by decide
  exact this x hlt⟩
theorem aaC (F:aU K "_law_shut" "_law_shut" Fd f fd) (T:Txt mg):aN P w K mg base aZ 1 f fd ["_law_masks","_law_both"] (GL K):=by
 refine F.ok QH (λvs H Q E h=>?_) (λcdv A outer s H vs Q E hr h=>?_)
 ·obtain⟨a,M,c,rfl,_⟩:=h
  rfl
 ·obtain⟨a,M,c,rfl,ha,hM,h15,kk⟩:=h
  have nd:=QH.nd;refine⟨_,(av (aP (i:=2) nd rfl (Or.inl rfl) (gE (uJ (K:=K) rfl) rfl T.list mL (ae (pv 0) ag)))
   (av (aP (i:=3) nd rfl (Or.inl rfl) ak)
   (av (abE cq (bw pL (pv 3) (bf (cK (K:=K) rfl) rfl T.len cR (ae (pv 2) ag)) (bh _))
   (av (aP (i:=4) nd rfl (Or.inl rfl) (aq (aX (K:=K) rfl) (pv 2) (pv 3) (λ_ _=>rfl)))
   (av (cx cq rfl (dC (K:=K) rfl (gF (gH (K:=K) rfl) (pv 2) gY (f9 (pv 3)))) (bj (i:=5) nd rfl (Or.inl rfl))
   (av (aP (i:=6) nd rfl (Or.inl rfl) (aI gC (bU (ae (aI kA (pv 4) (pv 5)) ag)) (aI O1 (bU (ae (aI vR (pv 4) (pv 5)) ag)) (gE JN rfl T.int uE (ae (pv 1) ag)))))
   (ay (cx cq rfl (dC (K:=K) rfl (pv 6)) (bj (i:=7) nd rfl (Or.inl rfl))
   (ay (bA (bw (aaW (K:=K) rfl) (pv 7) (pv 2) (by with_unfolding_all rfl)) (ay (cT (eP (K:=K) rfl eE iW jz iK (pv 2) (ae (pv 7) ag)))) bD))))))
   (ay (aP (i:=3) nd rfl (Or.inl rfl) (aI dU (pv 3) ak))))))
   (ay (aR (pv 2)))))),?_⟩
  refine⟨_,rfl,a,_,rfl,.inl (ah.of ha),λL hL=>?_⟩;refine⟨λm σ H2=>∃(k:Nat) (G:List Nat) (v4 v5 v6 v7:Option V),m=17 - k/\k<=G.length/\σ = [some (.ref a),some (.bl c),some (.ref L),some (.int k),v4,v5,v6,v7]/\Same H H2/\H2 L=some (.lst (G.map nV))/\uz M G k,
   ⟨17,0,M,none,none,none,none,rfl,dP _,rfl,Same.put hL,au,hM,λx hx=>hx,λi j _ h=>absurd h (yf _)⟩,?_⟩
  rintro m σ H2 ⟨k,G,v4,v5,v6,v7,hm,hk,rfl,s2,hl,S⟩;have hG:=S.fam.len;refine⟨_,rfl,_,rfl,L,_,rfl,.inl (ah.of hl),_,_,rfl,rfl,_,rfl,bq (λh=>?_) (λh=>?_)⟩
  ·rw[cL,az]at h
   have Cw:k<G.length:=by omega
   refine⟨λσ' H'=>∃(G:List Nat) (v4 v5 v6 v7:Option V),k+1<=G.length/\σ' = [some (.ref a),some (.bl c),some (.ref L),some (.int ((k:Int)+1)),v4,v5,v6,v7]/\Same H H'/\H' L=some (.lst (G.map nV))/\uz M G (k+1),
    λσ' H' hpq=>by obtain⟨G,v4,v5,v6,v7,h1,h2,h3,h4,h5⟩:=hpq;exact⟨17 - (k+1),by omega,k+1,G,v4,v5,v6,v7,rfl,h1,by rw[h2];push_cast;rfl,h3,h4,h5⟩,?_⟩
   refine⟨_,rfl,_,rfl,L,_,k,nV (G.getD k 0),rfl,rfl,ah.of hl,aH (by rw[bW,aA Cw,aQ,aA Cw];rfl),?_⟩;refine⟨_,rfl,_,rfl,k,rfl,L,_,rfl,ah.of hl,λq hq=>?_⟩;rw[uM];have pe:q≠L:=λe=>by rw[e,hl]at hq;cases hq
   have W3:∀i,i<k->G.getD i 0<16:=λi hi=>S.fam.lt _ (Ev.getD_mem (by omega));have L_:G.getD k 0<16:=S.fam.lt _ (Ev.getD_mem Cw);refine⟨q,rfl,⟨_,ah.of au⟩,iF (K:=K) (a:=q) (xs:=(G.map nV).take k) (λt σ H3=>∃(X:List Nat) (v5 v6 v7:Option V),σ = [some (.ref a),some (.bl c),some (.ref L),some (.int k),some (nV (G.getD k 0)),v5,v6,v7] /\
    Same H H3/\H3 q=some (.lst ((G.map nV).take k))/\H3 L=some (.lst ((G++X).map nV))/\Fam (G++X)/\∀i,i<t->G.getD i 0&&& G.getD k 0∈G++X) ?_ ?_ ?_ ?_⟩
   ·refine⟨[],v5,v6,v7,rfl,s2.trans (Same.put hq),au,?_,by simpa using S.fam,λi h=>absurd h (yf _)⟩
    rw[aF (bP pe),iA];exact hl
   ·rintro i σ H3 _ ⟨X,v5,v6,v7,_,_,h3,_⟩
    exact ah.of h3
   ·rintro t y σ H3 hi ⟨X,v5,v6,v7,rfl,s3,Mp,hl3,fam,cl⟩
    have htk:t<k:=by
     have:=(bJ.mp hi).1;rw[mC,az]at this;omega
    have ey:y=nV (G.getD t 0):=by
     rw[SX htk,bW,aA (show t<G.length by omega)]at hi;rw[aQ,aA (show t<G.length by omega)];exact(dg hi).symm
    subst ey;have hlt:=W3 t htk;have a16:G.getD k 0&&& G.getD t 0<16:=ot Nat.and_le_left L_;have ZJ:G.getD k 0 ||| G.getD t 0<16:=Nat.or_lt_two_pow (n:=4) L_ hlt
    refine⟨_,rfl,_,rfl,_,_,rfl,rfl,by show 1<=sizeLine;decide,λp1 hp1=>?_⟩;refine⟨_,rfl,_,rfl,_,_,rfl,rfl,by show 1<=sizeLine;decide,λp2 hp2=>?_⟩;refine⟨_,rfl,.inr ⟨c,rfl,?_⟩⟩;have hb:(if c=true then(1:Int)else 0)=1\/(if c=true then(1:Int)else 0)=0:=by cases c<;>simp
    refine⟨p2,_,_,rfl,rfl,au,by rcases hb with e|e<;>rw[e]<;>decide,by rcases hb with e|e<;>rw[e]<;>decide,?_,λp3 hp3=>?_⟩
    ·rcases hb with e|e<;>rw[e]
     ·show 1*1<=sizeLine;decide
     ·show 1*0<=sizeLine;decide
    have eA:V.int (Builtin.bitAnd (G.getD k 0:Nat) (G.getD t 0:Nat))=nV (G.getD k 0&&& G.getD t 0):=by rw[lr]
    have eO:V.int (Builtin.bitOr (G.getD k 0:Nat) (G.getD t 0:Nat))=nV (G.getD k 0 ||| G.getD t 0):=by rw[vS]
    refine⟨p1,p3,_,_,rfl,rfl,Same.put hp3 _ _ (Same.put hp2 _ _ au),au,?_,λp4 cF=>?_⟩
    ·rcases hb with e|e<;>rw[e]
     ·show 1+1<=sizeLine;decide
     ·show 1+0<=sizeLine;decide
    have lT:Same H3 (upd (upd (upd H3 p1 (.lst [V.int (Builtin.bitAnd (G.getD k 0:Nat) (G.getD t 0:Nat))])) p2 (.lst [V.int (Builtin.bitOr (G.getD k 0:Nat) (G.getD t 0:Nat))])) p3 (.lst (List.replicate (if c=true then(1:Int)else 0).toNat [V.int (Builtin.bitOr (G.getD k 0:Nat) (G.getD t 0:Nat))]).flatten)):=
     ((Same.put hp1).trans (Same.put hp2)).trans (Same.put hp3)
    have s4:=lT.trans (Same.put cF (o:=.lst ([V.int (Builtin.bitAnd (G.getD k 0:Nat) (G.getD t 0:Nat))]++(List.replicate (if c=true then(1:Int)else 0).toNat [V.int (Builtin.bitOr (G.getD k 0:Nat) (G.getD t 0:Nat))]).flatten)));obtain⟨SM,Wy,hsub,hand⟩:∃SM:List Nat,[V.int (Builtin.bitAnd (G.getD k 0:Nat) (G.getD t 0:Nat))]++(List.replicate (if c=true then(1:Int)else 0).toNat [V.int (Builtin.bitOr (G.getD k 0:Nat) (G.getD t 0:Nat))]).flatten=SM.map nV /\
      (∀x∈SM,x<16)/\G.getD k 0&&& G.getD t 0∈SM:=by
     rw[eA,eO];have two:∀x∈[G.getD k 0&&& G.getD t 0,G.getD k 0 ||| G.getD t 0],x<16:=by
      intro x hx;simp only[bp,fe,fq]at hx
      rcases hx with rfl|rfl
      ·exact a16
      ·exact ZJ
     clear hb cF lT s4 hp3;cases c with
     |true=>exact⟨[G.getD k 0&&& G.getD t 0,G.getD k 0 ||| G.getD t 0],rfl,two,bX⟩
     |false=>exact⟨[G.getD k 0&&& G.getD t 0],rfl,(λx hx=>two x (by simp only[bp,fe,fq]at hx ⊢;exact .inl hx)),bX⟩
    generalize hB:upd _ p4 _=B at s4 ⊢;have Mj:B p4=some (.lst (SM.map nV)):=by rw[<- hB,au,Wy]
    have Ww:L≠p4:=λe=>by
     have:=lT _ _ hl3;rw[e]at this;rw[this]at cF;cases cF
    have ad5:q≠L:=pe;refine⟨_,rfl,p4,rfl,⟨_,ah.of Mj⟩,iF (K:=K) (a:=p4) (xs:=SM.map nV) (λu σ H4=>∃(Y:List Nat) (v7:Option V),σ = [some (.ref a),some (.bl c),some (.ref L),some (.int k),some (nV (G.getD k 0)),some (nV (G.getD t 0)),some (.ref p4),v7] /\
     Same H H4/\H4 q=some (.lst ((G.map nV).take k))/\H4 p4=some (.lst (SM.map nV))/\H4 L=some (.lst ((G++Y).map nV))/\Fam (G++Y)/\(∀x∈G++X,x∈G++Y)/\∀x∈SM.take u,x∈G++Y)
     ⟨X,v7,rfl,s3.trans s4,s4 _ _ Mp,Mj,s4 _ _ hl3,fam,λx hx=>hx,λx hx=>by simp at hx⟩ (λi σ H4 _ hpq=>by obtain⟨Y,v7,_,_,_,h4,_⟩:=hpq;exact ah.of h4) ?_ ?_⟩
    ·rintro u y σ H4 hu ⟨Y,v7,rfl,iO,vf,CG,cM,rB,xh,rZ⟩
     have jK:u<SM.length:=by simpa using(bJ.mp hu).1
     have ey:y=nV SM[u]:=by
      rw[bW,aA jK]at hu;exact(dg hu).symm
     subst ey;have et:SM.take (u+1)=SM.take u++[SM[u]]:=by rw[qC,aA jK];rfl
     refine⟨_,rfl,_,rfl,L,_,rfl,.inl (ah.of cM),rfl,Vw _,_,rfl,bq (λh=>?_) (λh=>?_)⟩
     ·rw[if_pos rfl,CQ]at h
      have hn:SM[u] ∉ G++Y:=by simpa using h
      refine⟨_,rfl,.inl ⟨rfl,_,ah.of cM⟩,_,rfl,L,_,_,rfl,rfl,cM,?_,?_⟩
      ·rw[az];exact dw (ck rB.len (by decide))
      ·have KH:=rB.snoc (hsub _ (fC jK)) hn
       rw[jv]at KH;refine⟨Y++[SM[u]],_,rfl,?_,?_,?_,?_,KH,λx hx=>?_,λx hx=>?_⟩
       ·intro b o e
        rw[aF (λz=>by rw[z,hL]at e;cases e)];exact iO _ _ e
       ·rw[aF pe];exact vf
       ·rw[aF (bP Ww)];exact CG
       ·rw[au,<- jv,jy (l₁:=G++Y)];rfl
       ·rw[<- jv];exact kR _ (xh x hx)
       ·rw[et]at hx
        rw[<- jv]
        rcases gO.mp hx with hx|hx
        ·exact kR _ (rZ x hx)
        ·exact gP _ hx
     ·rw[if_pos rfl,CQ]at h
      have hn:SM[u]∈G++Y:=by
       apply Hw
       intro z;exact h (by rw[cg z];rfl)
      refine⟨Y,_,rfl,iO,vf,CG,cM,rB,xh,λx hx=>?_⟩;rw[et]at hx
      rcases gO.mp hx with hx|hx
      ·exact rZ x hx
      ·simp at hx;subst hx;exact hn
    ·rintro σ H4 ⟨Y,v7,rfl,iO,vf,CG,cM,rB,xh,rZ⟩
     rw[az,oh]at rZ;refine⟨Y,_,_,_,rfl,iO,vf,cM,rB,λi hi=>?_⟩
     by_cases e:i=t
     ·subst e;rw[yc];exact rZ _ hand
     ·exact xh _ (cl i (by omega))
   ·rintro σ H3 ⟨X,v5,v6,v7,rfl,s3,Mp,hl3,fam,cl⟩
    have hlen:((G.map nV).take k).length=k:=by rw[mC,az];omega
    rw[hlen]at cl;refine⟨_,rfl,_,_,rfl,rfl,G++X,_,_,_,_,?_,rfl,s3,hl3,fam,λx hx=>kR _ (S.sub x hx),λi j hij hj=>?_⟩
    ·rw[cz];omega
    ·rw[La (show i<G.length by omega),La (show j<G.length by omega)]
     by_cases e:j=k
     ·subst e;exact cl i hij
     ·exact kR _ (S.cl i j hij (by omega))
  ·rw[cL,az]at h
   have ek:k=G.length:=by omega
   subst ek;exact⟨_,rfl,kk L G H2 s2 hL hl (S.lat h15)⟩
end
theorem hZ(x:Int)(k:Nat)(hk:0<k):∃r:Nat,r<k/\x % (k:Int)=(r:Int):=
 ⟨(x % (k:Int)).toNat,by have h1:=nW x (show(k:Int)≠0 by omega);have h2:=tP x (show(0:Int)<k by omega);omega,by have h1:=nW x (show(k:Int)≠0 by omega);omega⟩
theorem uQ:∀r,r<5->Ev.h7 (1+r)≠[]/\(Ev.h7 (1+r)).length<=100/\∀x∈Ev.h7 (1+r),x<2 ^ 40:=by trivial
theorem YK:∀a,a<5->∀b,b<5->Ev.nE (Ev.h7 (1+a)) (Ev.h7 (1+b)) 10≠[]/\(Ev.nE (Ev.h7 (1+a)) (Ev.h7 (1+b)) 10).length<=100:=by trivial
theorem Eh:∀r,r<6->(Ev.iu (1+r)).length<=100/\∀x∈Ev.iu (1+r),x<2 ^ 40:=by trivial
theorem ab_:∀r,r<2->Ev.lP r≠[]/\(Ev.lP r).length<=100/\∀x∈Ev.lP r,x<2 ^ 40:=by trivial
section
variable {P:Program} {w:World} {K:W.Frag} {mg:Str->Option Value} {base:Heap} {f:Addr} {fd:FuncData}
abbrev wD:Stmt:=top 71
theorem Qz:a_ ["_law_draws_here","_law_family","_law_way","_law_one","_law_other","_law_some","_law_lower","_law_row","_law_ring"] ["_law_draws_here","_law_family"] (aB wD):=by trivial
def Gg(K:W.Frag):Sp:=λvs H Q _=>∃(a:Nat) (ns:List Int) (fam:Int),vs = [.ref a,.int fam]/\H a=some (.lst (ns.map V.int))/\ns.length=8/\∀l M H',Same H H'->H l=none->H' l=some (.lst (M.map nV))->Ev.bO M->Q (.ref l) H'
set_option maxHeartbeats 0 in
theorem aag (F:aU K "_law_kind" "_law_kind" wD f fd) (T:Txt mg) (oP:aC P w K mg base "_law_flower" ["_law_many"] 1 Ga) (qW:aC P w K mg base "_law_stack" ["_law_one","_law_other","_law_places"] 1 (GP K))
  (yZ:aC P w K mg base "_law_fields" [] 1 FW) (qV:aC P w K mg base "_law_beside" ["_law_one","_law_other"] 1 (FJ K)) (zg:aC P w K mg base "_law_shut" ["_law_masks","_law_both"] 1 (GL K)) :
  aN P w K mg base aZ 2 f fd ["_law_draws_here","_law_family"] (Gg K):=by
 refine F.ok Qz (λvs H Q E h=>?_) (λcdv A outer s H vs Q E hr h=>?_)
 ·obtain⟨a,ns,fam,rfl,_⟩:=h
  rfl
 ·obtain⟨a,ns,fam,rfl,ha,hlen,kk⟩:=h
  have nd:=Qz.nd;obtain⟨d0,d1,d2,d3,d4,d5,d6,d7,rfl⟩:∃d0 d1 d2 d3 d4 d5 d6 d7,ns = [d0,d1,d2,d3,d4,d5,d6,d7]:=by
   match ns,hlen with
   | [d0,d1,d2,d3,d4,d5,d6,d7],_=>exact⟨_,_,_,_,_,_,_,_,rfl⟩
  obtain⟨r1,hr1,e1⟩:=hZ d1 5 (by decide);obtain⟨r2,hr2,e2⟩:=hZ d2 5 (by decide);obtain⟨Vp,Vq,f1c⟩:=uQ r1 hr1;obtain⟨f2a,KC,KD⟩:=uQ r2 hr2;refine⟨_,(av (aP (i:=2) nd rfl (Or.inl rfl) (aI cS (aq (aX (K:=K) rfl) (pv 0) ak (λ_ _=>rfl)) ak))
   (av (aP (i:=3) nd rfl (Or.inl rfl) (aL oP hr rfl (ae (aI dU ak (aI cS (aq (aX (K:=K) rfl) (pv 0) ak (λ_ _=>rfl)) ak)) ag)))
   (av (aP (i:=4) nd rfl (Or.inl rfl) (aL oP hr rfl (ae (aI dU ak (aI cS (aq (aX (K:=K) rfl) (pv 0) ak (λ_ _=>rfl)) ak)) ag)))
   (av (bA (bw dW (pv 2) ak (bh _)) (av (aP (i:=6) nd rfl (Or.inl rfl) (aL qW hr rfl (ae (pv 3) (ae (pv 4) (ae ak ag (ao nofun)) (ao nofun)) (ao nofun))))
   (ay (aR (aL qW hr rfl (ae (pv 6) (ae (aL oP hr rfl (ae (aI dU ak (aI cS (aq (aX (K:=K) rfl) (pv 0) ak (λ_ _=>rfl)) ak)) ag)) (ae ak ag (ao nofun)) (ao nofun)) (ao nofun)))))) bD)
   (av (bA (bw dW (pv 2) ak (bh _)) (ay (aR (aa_ yZ hr rfl))) bD)
   (av (bA (bw dW (pv 2) ak (bh _)) (av (aP (i:=7) nd rfl (Or.inl rfl) (gF (gH (K:=K) rfl) (bU (pO [0,1,3,7] rfl)) gY (f9 (aI dU ak (aI cS (aq (aX (K:=K) rfl) (pv 0) ak (λ_ _=>rfl)) ak)))))
   (av (bA (bw dW (aI cS (aq (aX (K:=K) rfl) (pv 0) ak (λ_ _=>rfl)) ak) ak (bh _)) (ay (aR (aL qV hr rfl (ae (pv 7) (ae (gF (gH (K:=K) rfl) (bU (pO [0,1,3,7,15,31] rfl)) gY (f9 (aI dU ak (aI cS (aq (aX (K:=K) rfl) (pv 0) ak (λ_ _=>rfl)) ak)))) ag))))) bD)
   (ay (aR (aL qV hr rfl (ae (pv 7) (ae (aL oP hr rfl (ae (aI dU ak (aI cS (aq (aX (K:=K) rfl) (pv 0) ak (λ_ _=>rfl)) ak)) ag)) ag))))))) bD)
   (av (bA (bw dW (pv 2) ak (bh _)) (av (aP (i:=8) nd rfl (Or.inl rfl) (aq (aX (K:=K) rfl) (bU (ae (bU (pO [0,1,2,6,7] rfl)) (ae (bU (pO [0,1,3,4,12,15] rfl)) ag))) (aI cS (aq (aX (K:=K) rfl) (pv 0) ak (λ_ _=>rfl)) ak) (λ_ _=>rfl)))
   (av (bA (bw dW (aI cS (aq (aX (K:=K) rfl) (pv 0) ak (λ_ _=>rfl)) ak) ak (bh _)) (ay (aR (aL qV hr rfl (ae (gF (gH (K:=K) rfl) (bU (pO [0,1,3,7] rfl)) gY (f9 (aI dU ak (aI cS (aq (aX (K:=K) rfl) (pv 0) ak (λ_ _=>rfl)) ak)))) (ae (pv 8) ag))))) bD)
   (ay (aR (aL qW hr rfl (ae (pv 8) (ae (pv 4) (ae ak ag (ao nofun)) (ao nofun)) (ao nofun))))))) bD)
   (av (pU (i:=5) nd rfl rfl (own:=["_law_k"]) (fr:=[("_law_family", 1)]) rfl (cA (aB wD) ["_law_draws_here","_law_family","_law_way","_law_one","_law_other","_law_some","_law_lower","_law_row","_law_ring"] rfl rfl (by trivial)) (cQ rfl T.range (ae ak ag)) (λ_ _ _ _=>⟨(bj (i:=0) (by trivial:(["_law_k","_law_family"]:List Str).Nodup) rfl (Or.inl rfl)),(nq (bw dW (aI kA (aI aaZ (pv 1) (pv 0)) ak) ak (bh _))),(pv 0)⟩))
   (ay (aR (aL zg hr rfl (ae (aI gC (bU (ae ak ag)) (pv 5)) (ae (iq (aaU (K:=K) rfl) (pv 2) (fP (ae ak (ae ak ag))) (by with_unfolding_all rfl)) ag))))))))))))),?_⟩
  refine⟨_,rfl,a,_,0,_,rfl,rfl,ah.of ha,rfl,_,_,rfl,rfl,(by show(0:Int)<8;decide),?_⟩;refine⟨_,rfl,a,_,1,_,rfl,rfl,ah.of ha,rfl,_,_,rfl,rfl,(by show(0:Int)<5;decide),_,_,rfl,rfl,1+r1,by rw[show d1 % 5=(r1:Int)from e1];simp,by omega,by omega,λo1 H1 s1 ho1 q1=>?_⟩;refine⟨_,rfl,a,_,2,_,rfl,rfl,ah.of (s1 _ _ ha),rfl,_,_,rfl,rfl,(by show(0:Int)<5;decide),_,_,rfl,rfl,1+r2,by rw[show d2 % 5=(r2:Int)from e2];simp,by omega,by omega,λo2 H2 s2 ho2 q2=>?_⟩;have dD:=s1.trans s2;have ha2:=dD _ _ ha;have q12:=s2 _ _ q1;refine⟨_,rfl,rfl,_,rfl,bq (λ_=>?_) (λ_=>?_)⟩
  ·obtain⟨r3,Xl,e3⟩:=hZ d3 4 (by decide)
   obtain⟨Vr,zU,zV⟩:=uQ r3 (by omega);obtain⟨l1,l2⟩:=YK r1 hr1 r2 hr2;refine⟨_,rfl,_,rfl,o1,o2,10,_,_,rfl,q12,q2,Vp,Vq,KC,KD,by decide,λo3 H3 s3 Mh q3=>?_⟩;refine⟨_,rfl,_,rfl,a,_,3,_,rfl,rfl,ah.of (s3 _ _ ha2),rfl,_,_,rfl,rfl,(by show(0:Int)<4;decide),_,_,rfl,rfl,1+r3,by rw[show d3 % 4=(r3:Int)from e3];simp,by omega,by omega,λo4 H4 s4 Xh q4=>?_⟩;refine⟨o3,o4,20,_,_,rfl,s4 _ _ q3,q4,l1,l2,zU,zV,by decide,λo5 H5 s5 jd q5=>?_⟩;have iw:=(dD.trans s3).trans s4;exact kk o5 _ H5 (iw.trans s5) (iw.free jd) q5 (Ev.Yu r1 hr1 r2 hr2 r3 Xl)
  refine⟨_,rfl,rfl,_,rfl,bq (λ_=>?_) (λ_=>?_)⟩
  ·exact⟨rfl,λo3 H3 s3 Mh q3=>kk o3 _ H3 (dD.trans s3) (dD.free Mh) q3 Ev.Yv⟩
  refine⟨_,rfl,rfl,_,rfl,bq (λ_=>?_) (λ_=>?_)⟩
  ·obtain⟨t1,ht1,g1⟩:=hZ d1 4 (by decide)
   have VF:1+d1 % 4=((1+t1:Nat):Int):=by rw[show d1 % 4=(t1:Int)from g1];push_cast;rfl
   obtain⟨w1,w2⟩:=Eh t1 (by omega);refine⟨by show 4<=sizeLine;decide,λp1 hp1=>?_⟩;refine⟨_,rfl,a,_,1,_,rfl,rfl,ah.of (Same.put hp1 _ _ ha2),rfl,_,_,rfl,rfl,(by show(0:Int)<4;decide),_,_,rfl,rfl,_,rfl,p1,_,rfl,ah.of au,λp2 hp2=>?_⟩;have er:d8 (([0,1,3,7]:List Int).map V.int) none (some (1+d1 % 4))=(Ev.iu (1+t1)).map nV:=by
    rw[VF,uM];have:∀t,t<4->(([0,1,3,7]:List Int).map V.int).take (1+t)=(Ev.iu (1+t)).map nV:=by decide
    exact this t1 ht1
   rw[er];generalize hB:upd _ p2 _=B;have sB:Same H2 B:=by rw[<- hB];exact(Same.put hp1).trans (Same.put hp2)
   have hrow:B p2=some (.lst ((Ev.iu (1+t1)).map nV)):=by rw[<- hB,au]
   have lS:=dD.trans sB;refine⟨_,rfl,a,_,3,_,rfl,rfl,ah.of (sB _ _ ha2),rfl,_,_,rfl,rfl,(by show(0:Int)<2;decide),rfl,_,rfl,bq (λ_=>?_) (λ_=>?_)⟩
   ·obtain⟨t2,lF,g2⟩:=hZ d2 6 (by decide)
    have rE:1+d2 % 6=((1+t2:Nat):Int):=by rw[show d2 % 6=(t2:Int)from g2];push_cast;rfl
    obtain⟨w3,w4⟩:=Eh t2 lF;refine⟨_,rfl,by show 6<=sizeLine;decide,λp3 hp3=>?_⟩;refine⟨_,rfl,a,_,2,_,rfl,rfl,ah.of (Same.put hp3 _ _ (sB _ _ ha2)),rfl,_,_,rfl,rfl,(by show(0:Int)<6;decide),_,_,rfl,rfl,_,rfl,p3,_,rfl,ah.of au,λp4 cF=>?_⟩;have Vg:d8 (([0,1,3,7,15,31]:List Int).map V.int) none (some (1+d2 % 6))=(Ev.iu (1+t2)).map nV:=by
     rw[rE,uM];have:∀t,t<6->(([0,1,3,7,15,31]:List Int).map V.int).take (1+t)=(Ev.iu (1+t)).map nV:=by decide
     exact this t2 lF
    rw[Vg];refine⟨p2,p4,_,_,rfl,Same.put cF _ _ (Same.put hp3 _ _ hrow),au,w1,w3,w4,λo5 H5 s5 jd q5=>?_⟩;have iw:=(lS.trans (Same.put hp3)).trans ((Same.put cF).trans s5);refine kk o5 _ H5 iw (Same.free ?_ jd) q5 (Ev.Yw t1 ht1 t2 lF);exact(lS.trans (Same.put hp3)).trans (Same.put cF)
   ·obtain⟨t2,lF,g2⟩:=hZ d2 4 (by decide)
    obtain⟨Vr,zU,zV⟩:=uQ t2 (by omega);refine⟨_,rfl,_,rfl,a,_,2,_,rfl,rfl,ah.of (sB _ _ ha2),rfl,_,_,rfl,rfl,(by show(0:Int)<4;decide),_,_,rfl,rfl,1+t2,by rw[show d2 % 4=(t2:Int)from g2];simp,by omega,by omega,λo4 H4 s4 Xh q4=>?_⟩;refine⟨p2,o4,_,_,rfl,s4 _ _ hrow,q4,w1,zU,zV,λo5 H5 s5 jd q5=>?_⟩;have iw:=lS.trans s4;exact kk o5 _ H5 (iw.trans s5) (iw.free jd) q5 (Ev.Yx t1 ht1 t2 lF)
  refine⟨_,rfl,rfl,_,rfl,bq (λ_=>?_) (λ_=>?_)⟩
  ·obtain⟨t1,ht1,g1⟩:=hZ d1 2 (by decide)
   obtain⟨y1,y2,y3⟩:=ab_ t1 ht1;refine⟨by show 5<=sizeLine;decide,λp1 hp1=>⟨by show 6<=sizeLine;decide,λp2 hp2=>⟨by show 2<=sizeLine;decide,λp3 hp3=>?_⟩⟩⟩;generalize hB:upd (upd (upd H2 p1 _) p2 _) p3 _=B;have sB:Same H2 B:=by rw[<- hB];exact((Same.put hp1).trans (Same.put hp2)).trans (Same.put hp3)
   have h3:B p3=some (.lst [.ref p1,.ref p2]):=by rw[<- hB,au]
   have h1:B p1=some (.lst ((Ev.lP 0).map nV)):=by rw[<- hB];exact Same.put hp3 _ _ (Same.put hp2 _ _ au)
   have h2:B p2=some (.lst ((Ev.lP 1).map nV)):=by rw[<- hB];exact Same.put hp3 _ _ au
   obtain⟨pr,hpr,Mq⟩:∃pr,eT [V.ref p1,V.ref p2] (t1:Int)=some (.ref pr)/\B pr=some (.lst ((Ev.lP t1).map nV)):=by
    match t1,ht1 with
    |0,_=>exact⟨p1,rfl,h1⟩
    |1,_=>exact⟨p2,rfl,h2⟩
   have lS:=dD.trans sB;refine⟨_,rfl,a,_,1,_,rfl,rfl,ah.of (sB _ _ ha2),rfl,_,_,rfl,rfl,(by show(0:Int)<2;decide),p3,_,_,.ref pr,rfl,rfl,ah.of h3,by rw[show d1 % 2=(t1:Int)from g1];exact hpr,?_⟩;refine⟨_,rfl,a,_,3,_,rfl,rfl,ah.of (sB _ _ ha2),rfl,_,_,rfl,rfl,(by show(0:Int)<2;decide),rfl,_,rfl,bq (λ_=>?_) (λ_=>?_)⟩
   ·obtain⟨t2,lF,g2⟩:=hZ d2 4 (by decide)
    have rE:1+d2 % 4=((1+t2:Nat):Int):=by rw[show d2 % 4=(t2:Int)from g2];push_cast;rfl
    obtain⟨w1,w2⟩:=Eh t2 (by omega);refine⟨by show 4<=sizeLine;decide,λp4 cF=>?_⟩;refine⟨_,rfl,a,_,2,_,rfl,rfl,ah.of (Same.put cF _ _ (sB _ _ ha2)),rfl,_,_,rfl,rfl,(by show(0:Int)<4;decide),_,_,rfl,rfl,_,rfl,p4,_,rfl,ah.of au,λp5 iH=>?_⟩;have er:d8 (([0,1,3,7]:List Int).map V.int) none (some (1+d2 % 4))=(Ev.iu (1+t2)).map nV:=by
     rw[rE,uM];have:∀t,t<4->(([0,1,3,7]:List Int).map V.int).take (1+t)=(Ev.iu (1+t)).map nV:=by decide
     exact this t2 lF
    rw[er];refine⟨_,rfl,p5,pr,_,_,rfl,au,Same.put iH _ _ (Same.put cF _ _ Mq),w1,y2,y3,λo5 H5 s5 jd q5=>?_⟩;have iw:=(lS.trans (Same.put cF)).trans ((Same.put iH).trans s5);refine kk o5 _ H5 iw (Same.free ?_ jd) q5 (Ev.Yy t2 lF t1 ht1);exact(lS.trans (Same.put cF)).trans (Same.put iH)
   ·refine⟨_,rfl,_,rfl,pr,o2,10,_,_,rfl,Mq,sB _ _ q2,y1,y2,KC,KD,by decide,λo5 H5 s5 jd q5=>?_⟩
    exact kk o5 _ H5 (lS.trans s5) (lS.free jd) q5 (Ev.Yz r2 hr2 t1 ht1)
  refine⟨15,rfl,by decide,by decide,λD hD=>mU (λj=>decide (V.int (Builtin.bitAnd (fam / 2 ^ (0+(j:Int)).toNat) 1)=V.int 1)) nV src_range hD (by show 15<sizeLine;decide) (λj H3 Kt Kf hj hs hkt hkf=>?_) (λH3 hs3 hl3=>?_)⟩
  ·refine⟨_,rfl,_,rfl,_,_,rfl,rfl,by omega,_,_,rfl,rfl,rfl,_,rfl,bq (λh=>?_) (λh=>?_)⟩
   ·refine⟨_,rfl,?_⟩
    rw[fA];exact hkt _ h (Same.refl _)
   ·exact hkf _ (by simpa using h) (Same.refl _)
  ·change H3 D=some (.lst (((List.range 15).filter λj:Nat=>decide (V.int (Builtin.bitAnd (fam / 2 ^ (0+(j:Int)).toNat) 1)=V.int 1)).map nV))at hl3
   generalize hS:(List.range 15).filter (λj:Nat=>decide (V.int (Builtin.bitAnd (fam / 2 ^ (0+(j:Int)).toNat) 1)=V.int 1))=SM at hl3;have KJ:Fam (15::SM):=by
    refine⟨iT.mpr ⟨λh=>?_,?_⟩,λx hx=>?_⟩
    ·rw[<- hS]at h
     have:=(cX.mp h).1;simp at this
    ·rw[<- hS];exact Ib.filter _
    ·rcases bp.mp hx with rfl|hx
     ·decide
     ·rw[<- hS]at hx
      have:=(cX.mp hx).1;simp at this;omega
   have hlS:SM.length<=15:=by have:=KJ.len;simp at this;omega
   refine⟨by show 1<=sizeLine;decide,λp1 hp1=>⟨_,rfl,p1,D,_,_,rfl,rfl,au,Same.put hp1 _ _ hl3,by rw[az];exact fD (dE (by show 1+SM.length<=24;omega)),λp2 hp2=>?_⟩⟩;refine⟨_,rfl,by show 2<=sizeLine;decide,λp3 hp3=>⟨p3,_,rfl,.inr (ax.of au),rfl,rfl,?_⟩⟩;have h4:(upd (upd (upd H3 p1 (.lst [V.int 15])) p2 (.lst ([V.int 15]++SM.map nV))) p3 (.tup [V.int 2,V.int 7])) p2=some (.lst ((15::SM).map nV)):=Same.put hp3 _ _ au;refine⟨p2,15::SM,_,rfl,h4,KJ,bX,λo5 M H5 s5 jd q5 hM=>?_⟩;have lR:=dD.trans hs3;have s06:=(((lR.trans (Same.put hp1)).trans (Same.put hp2)).trans (Same.put hp3)).trans s5;refine kk o5 M H5 s06 (Same.free ?_ jd) q5 hM;exact((lR.trans (Same.put hp1)).trans (Same.put hp2)).trans (Same.put hp3)
theorem qY(xs:List V)(k:Nat):d8 xs (some (k:Int)) none=xs.drop k:=by
 unfold d8;rw[HT.wk,HT.wj]
 by_cases h:k<=xs.length
 ·rw[Ij h,ua (by simp)]
 ·rw[Ik (by omega),List.drop_length,List.drop_of_length_le (by omega)];simp
theorem Uq(xs:List V)(k:Nat):d8 xs none (some (k:Int))=xs.take k:=by
 unfold d8;rw[HT.wk,HT.wj,List.drop_zero,Nat.sub_zero]
 by_cases h:k<=xs.length
 ·rw[Ij h]
 ·rw[Ik (by omega),ua (by omega),ua (by omega)]
theorem rq(x:Int)(k:Nat)(hk:0<k):∃r:Nat,r<k/\x % (k:Int)=(r:Int):=
 ⟨(x % (k:Int)).toNat,by have h1:=nW x (show(k:Int)≠0 by omega);have h2:=tP x (show(0:Int)<k by omega);omega,by have h1:=nW x (show(k:Int)≠0 by omega);omega⟩
theorem O6{α β:Type}{G:α->β->Prop}:∀{l:List α} {m:List β} (k:Nat),Paired G l m->Paired G (l.drop k) (m.drop k)
 |_,_,0,h=>h
 |_,_,_+1,.nil=>.nil
 |_,_,k+1,.cons _ t=>O6 k t
theorem O9{α β:Type}{G:α->β->Prop}:∀{l:List α} {m:List β} (k:Nat),Paired G l m->Paired G (l.take k) (m.take k)
 |_,_,0,_=>.nil
 |_,_,_+1,.nil=>.nil
 |_,_,k+1,.cons r t=>.cons r (O9 k t)
structure Hand (M:List Nat) (ps:List (Nat × Nat)):Prop where
 lt:∀p∈ps,p.1<M.length/\p.2<M.length
 le:∀p∈ps,Ev.aG M p.1 p.2=true
 all:∀p∈cU M,p∈ps
theorem uW{ns:List Int}{i:Nat}(h:i<ns.length):(ns.map V.int)[i]?=some (.int (ns.getD i 0)):=by
 rw[bW,aA h,aQ,aA h];rfl
abbrev Ey:Stmt:=top 77
theorem Qv:a_ ["_law_masks","_law_draws_here","_law_found","_law_k","_law_turn","_law_a","_law_b"] ["_law_masks","_law_draws_here"] (aB Ey):=by trivial
def Gb(K:W.Frag):Sp:=λvs H Q _=>∃(m d:Nat) (M:List Nat) (ns:List Int),vs = [.ref m,.ref d]/\ah K H m (M.map nV)/\ah K H d (ns.map V.int)/\ns.length=8/\0<M.length/\M.length<=24 /\
 ∀l us ps H',Same H H'->H l=none->H' l=some (.lst us)->us.length<=1000->Paired (bT H') ps us->Hand M ps->Q (.ref l) H'
theorem Z6 (F:aU K "_law_handed" "_law_handed" Ey f fd) (T:Txt mg) (oQ:aC P w K mg base "_law_steps" ["_law_masks"] 2 (w8 K)) (fj:aC P w K mg base "_law_at_most" ["_law_masks","_law_a","_law_b"] 1 (nA K)) :
  aN P w K mg base aZ 3 f fd ["_law_masks","_law_draws_here"] (Gb K):=by
 refine F.ok Qv (λvs H Q E h=>?_) (λcdv A outer s H vs Q E hr h=>?_)
 ·obtain⟨m,d,M,ns,rfl,_⟩:=h
  rfl
 ·obtain⟨m,d,M,ns,rfl,hm,hd,hns,hpos,hn,kk⟩:=h
  have nd:=Qv.nd;refine⟨_,(av (aP (i:=2) nd rfl (Or.inl rfl) (aL oQ hr rfl (ae (pv 0) ag)))
   (av (cx cq rfl (cQ rfl T.range (ae (aI cS (aq (aX (K:=K) rfl) (pv 1) ak (λ_ _=>rfl)) ak) ag)) (bj (i:=3) nd rfl (Or.inl rfl))
   (av (aP (i:=5) nd rfl (Or.inl rfl) (aI cS (aI sF (aq (aX (K:=K) rfl) (pv 1) (aI dU ak (aI cS (pv 3) ak)) (λ_ _=>rfl)) (aI dU (pv 3) ak)) (bf (cK (K:=K) rfl) rfl T.len cR (ae (pv 0) ag))))
   (av (aP (i:=6) nd rfl (Or.inl rfl) (aI cS (aI sF (aq (aX (K:=K) rfl) (pv 1) (aI dU ak (aI cS (pv 3) ak)) (λ_ _=>rfl)) (aI dU (pv 3) ak)) (bf (cK (K:=K) rfl) rfl T.len cR (ae (pv 0) ag))))
   (ay (bA (bZ (aL fj hr rfl (ae (pv 0) (ae (pv 5) (ae (pv 6) ag (ao nofun)) (ao nofun)) (ao nofun)))) (ay (cT (eP (K:=K) rfl eE iW jz iK (pv 2) (ae (fP (ae (pv 5) (ae (pv 6) ag))) ag)))) bD)))))
   (av (aP (i:=4) nd rfl (Or.inl rfl) (aI cS (aq (aX (K:=K) rfl) (pv 1) ak (λ_ _=>rfl)) (aI dU (bf (cK (K:=K) rfl) rfl T.len cR (ae (pv 2) ag)) ak)))
   (ay (aR (aI gC (gF (gH (K:=K) rfl) (pv 2) (f9 (pv 4)) gY) (gF (gH (K:=K) rfl) (pv 2) gY (f9 (pv 4))))))))),?_⟩
  refine⟨_,rfl,m,M,rfl,hm,hn,λL us H1 s1 hL hl hlen hp=>?_⟩;obtain⟨c0,hc0,e0⟩:=rq (ns.getD 0 0) 12 (by decide);refine⟨_,rfl,d,_,0,_,rfl,rfl,s1.seq hd,aH (uW (i:=0) (by omega)),_,_,rfl,rfl,(by show(0:Int)<12;decide),_,rfl,?_,?_,?_⟩
  ·show -(2 ^ 62)<=ns.getD 0 0 % 12
   rw[show ns.getD 0 0 % 12=(c0:Int)from e0];omega
  ·show ns.getD 0 0 % 12<2 ^ 62
   rw[show ns.getD 0 0 % 12=(c0:Int)from e0];omega
  have ec:(ns.getD 0 0 % 12).toNat=c0:=by rw[show ns.getD 0 0 % 12=(c0:Int)from e0];simp
  refine fJ (lo:=0) (n:=(ns.getD 0 0 % 12).toNat) (λi σ H2=>∃(v3 v4 v5 v6:Option V) (ws:List V) (qs:List (Nat × Nat)),σ = [some (.ref m),some (.ref d),some (.ref L),v3,v4,v5,v6]/\Same H H2/\H2 L=some (.lst ws)/\ws.length<=576+i/\Paired (bT H2) qs ws/\Hand M qs)
   ⟨none,none,none,none,us,cU M,rfl,s1,hl,by omega,hp,λp hp=>⟨(vE hp).1,(vE hp).2.1⟩,λp hp=>(vE hp).2.2,λp hp=>hp⟩ ?_ ?_
  ·rintro i σ H2 hi ⟨v3,v4,v5,v6,ws,qs,rfl,s2,hl2,hw,hpq,hand⟩
   rw[ec]at hi;have hm2:=s2.seq hm;have hd2:=s2.seq hd;obtain⟨t,ht,et⟩:=rq (0+(i:Int)) 3 (by decide);have i1:1+(0+(i:Int)) % 3=((1+t:Nat):Int):=by rw[show(0+(i:Int)) % 3=(t:Int)from et];push_cast;rfl
   have i4:4+(0+(i:Int)) % 3=((4+t:Nat):Int):=by rw[show(0+(i:Int)) % 3=(t:Int)from et];push_cast;rfl
   obtain⟨x,hx,ex⟩:=rq (ns.getD (1+t) 0 / (0+(i:Int)+1)) M.length hpos;obtain⟨y,hy,ey⟩:=rq (ns.getD (4+t) 0 / (0+(i:Int)+1)) M.length hpos;refine⟨_,rfl,_,rfl,_,_,rfl,rfl,(by show(0:Int)<3;decide),_,_,rfl,rfl,d,_,_,_,rfl,rfl,hd2,by rw[i1];exact aH (uW (by omega)),_,rfl,_,_,rfl,rfl,_,_,rfl,rfl,⟨by omega,by omega⟩,_,rfl,m,_,rfl,.inl hm2,_,_,rfl,rfl,by rw[az];omega,?_⟩;refine⟨_,rfl,_,rfl,_,_,rfl,rfl,(by show(0:Int)<3;decide),_,_,rfl,rfl,d,_,_,_,rfl,rfl,hd2,by rw[i4];exact aH (uW (by omega)),_,rfl,_,_,rfl,rfl,_,_,rfl,rfl,⟨by omega,by omega⟩,_,rfl,m,_,rfl,.inl hm2,_,_,rfl,rfl,by rw[az];omega,?_⟩;have ex':ns.getD (1+t) 0 / (0+(i:Int)+1) % ((M.map nV).length:Int)=(x:Int):=by rw[az];exact ex
   have ey':ns.getD (4+t) 0 / (0+(i:Int)+1) % ((M.map nV).length:Int)=(y:Int):=by rw[az];exact ey
   refine⟨_,rfl,_,rfl,_,rfl,m,x,y,M,by dsimp only;rw[ex',ey'];rfl,hm2,hx,hy,λH3 s3=>⟨_,rfl,bq (λh=>?_) (λh=>?_)⟩⟩
   ·have hl3:=s3 _ _ hl2
    refine⟨_,rfl,.inl ⟨rfl,_,ah.of hl3⟩,_,rfl,_,rfl,by show 2<=sizeLine;decide,λq hq=>?_⟩;refine⟨L,_,_,rfl,rfl,Same.put hq _ _ hl3,dw (by omega),?_⟩;refine⟨_,_,_,_,ws++[.ref q],qs++[(x,y)],rfl,?_,au,by rw[cz];simp;omega,?_,?_⟩
    ·intro b o e
     rw[aF (λz=>by rw[z,hL]at e;cases e)];exact Same.put hq _ _ (s3 _ _ (s2 _ _ e))
    ·refine vU (Same.put hq _ _ hl3) (pP (c9.same (s3.trans (Same.put hq)) hpq) (.cons ⟨q,rfl,?_⟩ .nil))
     rw[au];dsimp only;rw[ex',ey']
    ·refine⟨λp hp=>?_,λp hp=>?_,λp hp=>kR _ (hand.all p hp)⟩
     ·rcases gO.mp hp with hp|hp
      ·exact hand.lt p hp
      ·simp at hp;subst hp;exact⟨hx,hy⟩
     ·rcases gO.mp hp with hp|hp
      ·exact hand.le p hp
      ·simp at hp;subst hp;exact h
   ·exact⟨_,_,_,_,ws,qs,rfl,s2.trans s3,s3 _ _ hl2,by omega,c9.same s3 hpq,hand⟩
  ·rintro σ H2 ⟨v3,v4,v5,v6,ws,qs,rfl,s2,hl2,hw,hpq,hand⟩
   rw[ec]at hw;obtain⟨t,ht,et⟩:=rq (ns.getD 7 0) (ws.length+1) (by omega);refine⟨_,rfl,d,_,7,_,rfl,rfl,s2.seq hd,aH (uW (i:=7) (by omega)),_,rfl,L,_,rfl,.inl (ah.of hl2),_,_,rfl,rfl,_,_,rfl,rfl,by omega,?_⟩;have Vk:ns.getD 7 0 % ((ws.length:Int)+1)=(t:Int):=by rw[<- et];push_cast;rfl
   dsimp only;rw[Vk];refine⟨_,rfl,_,rfl,_,rfl,L,_,rfl,ah.of hl2,λp1 hp1=>?_⟩;rw[qY];have hL1:=Same.put hp1 (o:=.lst (ws.drop t)) _ _ hl2;refine⟨_,rfl,_,rfl,_,rfl,L,_,rfl,ah.of hL1,λp2 hp2=>?_⟩;rw[Uq];refine⟨p1,p2,_,_,rfl,rfl,Same.put hp2 _ _ au,au,?_,λp3 hp3=>?_⟩
   ·rw[kQ,mC];exact fD (dw (by omega))
   ·have s3:Same H2 _:=((Same.put hp1 (o:=.lst (ws.drop t))).trans (Same.put hp2 (o:=.lst (ws.take t)))).trans (Same.put hp3 (o:=.lst (ws.drop t++ws.take t)))
    refine kk p3 (ws.drop t++ws.take t) (qs.drop t++qs.take t) _ (s2.trans s3) (Same.free ?_ hp3) au ?_ (c9.same s3 (pP (O6 t hpq) (O9 t hpq))) ?_
    ·exact s2.trans ((Same.put hp1).trans (Same.put hp2))
    ·rw[cz,kQ,mC];omega
    ·have mem:∀p,p∈qs.drop t++qs.take t ↔ p∈qs:=λp=>by
      rw[gO]
      constructor
      ·rintro(h|h)
       ·exact List.mem_of_mem_drop h
       ·exact List.mem_of_mem_take h
      ·intro h
       rw[<- List.take_append_drop t qs]at h
       rcases gO.mp h with h|h
       ·exact .inr h
       ·exact .inl h
     exact⟨λp hp=>hand.lt p ((mem p).mp hp),λp hp=>hand.le p ((mem p).mp hp),λp hp=>(mem p).mpr (hand.all p hp)⟩
end
theorem J_{M:List Nat}(hM:Ev.bO M){ps:List (Nat × Nat)}(hand:Hand M ps){R:Nat->Nat->Bool}(hC:Ev.kL M.length ps R):∀a b,a<M.length->b<M.length->R a b=Ev.aG M a b:=
 hC.Vf hM.nd hand.le λa b ha hb h=>hand.all _ (acF hM.nd ha hb h)
theorem Lj{M:List Nat}(hM:Ev.bO M){ps:List (Nat × Nat)}(hand:Hand M ps)(R:Nat->Nat->Bool)(hC:Ev.kL M.length ps R):Good M.length R:=by
 have eq:=J_ hM hand hC;refine⟨λa ha=>by rw[eq a a ha ha];exact Ev.jO _ _,λa b ha hb h1 h2=>?_,λa b ha hb=>?_,λa b ha hb=>?_⟩
 ·rw[eq a b ha hb]at h1
  rw[eq b a hb ha]at h2;exact Ev.vw hM.nd ha hb h1 h2
 ·obtain⟨c,hc,h⟩:=hM.pC ha hb
  exact⟨c,hc,λx hx=>by rw[eq c x hc hx,eq a x ha hx,eq b x hb hx];exact h x hx⟩
 ·obtain⟨c,hc,_,h⟩:=hM.pF ha hb
  exact⟨c,hc,λx hx=>by rw[eq x c hx hc,eq x a hx ha,eq x b hx hb];exact h x⟩
theorem TT.get{H:Hp}{v:V}{n:Nat}{g:Nat->Nat->V}(h:TT H v n g){i:Nat}(hi:i<n):∃a vs b,v = .ref a/\H a=some (.tup vs)/\vs[i]?=some (.ref b)/\H b=some (.tup ((List.range n).map (g i))):=by
 obtain⟨a,vs,e,q,r⟩:=h;have hl:vs.length=n:=by have:=cp r;simpa using this.symm
 obtain⟨x,hx,b,eb,qb⟩:=c7 r (show vs[i]?=some vs[i]from aA (by omega));have:x=i:=by
  rw[mx hi]at hx;cases hx;rfl
 subst this;exact⟨a,vs,b,e,q,by rw[aA (by omega),eb],qb⟩
theorem KY (n:Nat) (vp vr vj vm:V):(ki n vp vr vj vm).lookup ("reach" : Str)=some vr:=by
 unfold ki;rw[ig,if_neg (by trivial),ig,if_neg (by trivial),ig,if_pos rfl]
theorem rC (n:Nat) (vp vr vj vm:V):(ki n vp vr vj vm).lookup ("count" : Str)=some (.int n):=by
 unfold ki;rw[ig,if_neg (by trivial),ig,if_neg (by trivial),ig,if_neg (by trivial),ig,if_neg (by trivial),ig,if_pos rfl]
theorem eD.eQ{C:Addr}{H H':Hp}{p n:Nat}{R:Nat->Nat->Bool}(s:Same H H')(h:eD C H p n R):eD C H' p n R:=by
 obtain⟨dx,vp,vr,vj,vm,a,b,c,d,e⟩:=h;exact⟨dx,vp,vr,vj,vm,s _ _ a,b.same s,c.same s,d.same s,e.same s⟩
noncomputable def bS (R:Nat->Nat->Bool) (a b:Nat):Bool:=!decide (a=b)&&R a b
noncomputable def bH (n:Nat) (R:Nat->Nat->Bool) (a b:Nat):Bool:=bS R a b&&!(List.range n).any λt=>bS R a t&&bS R t b
theorem Good.trans{n:Nat}{R:Nat->Nat->Bool}(G:Good n R){a b c:Nat}(ha:a<n)(hb:b<n)(hc:c<n)(h1:R a b=true)(h2:R b c=true):R a c=true:=by
 obtain⟨m,hm,h⟩:=G.meet b c hb hc;have e1:=h b hb;rw[G.refl b hb,h2]at e1;have e2:=h m hm;rw[G.refl m hm]at e2;have e3:R m b=true:=by
  cases e:R m b with
  |true=>rfl
  |false=>rw[e]at e2;cases e2
 have:b=m:=G.anti b m hb hm (by rw[e1];rfl) e3;subst this;have e4:=h a ha;rw[h1]at e4;simpa using e4.symm
noncomputable def bG (n:Nat) (R:Nat->Nat->Bool) (a b c:Nat):Prop:=c<n/\∀x,x<n->R c x=(R a x&&R b x)
def bM(n:Nat)(R:Nat->Nat->Bool)(a b c:Nat):Prop:=c<n/\∀x,x<n->R x c=(R x a&&R x b)
section
variable {n:Nat} {R:Nat->Nat->Bool} {a b c d:Nat}
theorem bG.uniq(G:Good n R)(h:bG n R a b c)(h':bG n R a b d):c=d:=G.dis c d h.1 h'.1 λx hx=>by rw[h.2 x hx,h'.2 x hx]
theorem bM.uniq(G:Good n R)(h:bM n R a b c)(h':bM n R a b d):c=d:=G.mV c d h.1 h'.1 λx hx=>by rw[h.2 x hx,h'.2 x hx]
theorem bG.up(G:Good n R)(ha:a<n)(hb:b<n)(h:bG n R a b c):R a c=true/\R b c=true:=by
 have:=h.2 c h.1;rw[G.refl c h.1]at this;simpa using this.symm
theorem bM.dn(G:Good n R)(ha:a<n)(hb:b<n)(h:bM n R a b c):R c a=true/\R c b=true:=by
 have:=h.2 c h.1;rw[G.refl c h.1]at this;simpa using this.symm
theorem bG.of_le(G:Good n R)(ha:a<n)(hb:b<n)(h:R a b=true):bG n R a b b:=⟨hb,λx hx=>by
 cases e:R b x with
 |false=>simp
 |true=>rw[G.trans ha hb hx h e];rfl⟩
theorem bG.eq_iff(G:Good n R)(ha:a<n)(hb:b<n)(h:bG n R a b c):decide (V.int (c:Int)=V.int (b:Int))=R a b:=by
 rw[dk,cL]
 constructor
 ·intro e
  have:c=b:=by injection e with e;omega
  subst this;exact(h.up G ha hb).1
 ·intro e
  rw[h.uniq G (bG.of_le G ha hb e)]
end
theorem oX (n:Nat) (vp vr vj vm:V):(ki n vp vr vj vm).lookup ("joins" : Str)=some vj:=by
 unfold ki;rw[ig,if_neg (by trivial),ig,if_pos rfl]
theorem oY (n:Nat) (vp vr vj vm:V):(ki n vp vr vj vm).lookup ("meets" : Str)=some vm:=by
 unfold ki;rw[ig,if_pos rfl]
def uA(n:Nat)(R:Nat->Nat->Bool)(a0 a1 b0 b1:Nat):Prop:=bG n R a1 b0 b1/\bM n R a1 b0 a0
theorem X4{n:Nat}{R:Nat->Nat->Bool}{a b x e:Nat}(G:Good n R)(h:bG n R a b x):bG n R a b e ↔ x=e:=⟨λh'=>h.uniq G h',λq=>q▸h⟩
theorem X5{n:Nat}{R:Nat->Nat->Bool}{a b x e:Nat}(G:Good n R)(h:bM n R a b x):bM n R a b e ↔ x=e:=⟨λh'=>h.uniq G h',λq=>q▸h⟩
theorem Ki{a b:Nat}:decide (V.int (a:Int)=V.int (b:Int))=decide (a=b):=by
 apply lD.mpr
 constructor
 ·intro h;injection h with h;omega
 ·intro h;rw[h]
section
variable {P:Program} {w:World} {K:W.Frag} {mg:Str->Option Value} {base:Heap} {f:Addr} {fd:FuncData}
abbrev Fe:Stmt:=top 81
theorem QM:a_ ["_law_masks","_law_one","_law_other","_law_join_here"] ["_law_masks","_law_one","_law_other"] (aB Fe):=by trivial
def G3(K:W.Frag):Sp:=λvs H Q _=>∃(m t1 t2 x0 x1 y0 y1:Nat) (M:List Nat),vs = [.ref m,.ref t1,.ref t2]/\ah K H m (M.map nV)/\Ev.bO M/\ax K H t1 [.int (x0:Int),.int (x1:Int)]/\ax K H t2 [.int (y0:Int),.int (y1:Int)]/\x0<M.length/\x1<M.length/\y0<M.length/\y1<M.length /\
 ∀c H',Same H H'->(c=true ↔ uA M.length (Ev.aG M) x0 x1 y0 y1)->Q (.bl c) H'
theorem Wf{M:List Nat}(hM:Ev.bO M):Good M.length (Ev.aG M):=by
 refine⟨λa ha=>Ev.jO _ _,λa b ha hb h1 h2=>Ev.vw hM.nd ha hb h1 h2,λa b ha hb=>?_,λa b ha hb=>?_⟩
 ·obtain⟨c,hc,h⟩:=hM.pC ha hb
  exact⟨c,hc,h⟩
 ·obtain⟨c,hc,_,h⟩:=hM.pF ha hb
  exact⟨c,hc,λx _=>h x⟩
theorem aaI (F:aU K "_law_up" "_law_up" Fe f fd) (T:Txt mg)
  (hX:aC P w K mg base "_law_meet" ["_law_masks","_law_a","_law_b"] 1 (qc K)) (jF:aC P w K mg base "_law_join" ["_law_masks","_law_a","_law_b"] 1 (sZ K)) :
  aN P w K mg base aZ 2 f fd ["_law_masks","_law_one","_law_other"] (G3 K):=by
 refine F.ok QM (λvs H Q E h=>?_) (λcdv A outer s H vs Q E hr h=>?_)
 ·obtain⟨m,t1,t2,x0,x1,y0,y1,M,rfl,_⟩:=h
  rfl
 ·obtain⟨m,t1,t2,x0,x1,y0,y1,M,rfl,hm,hM,h1,h2,hx0,hx1,hy0,hy1,kk⟩:=h
  have nd:=QM.nd;have G:=Wf hM;refine⟨_,(av (aP (i:=3) nd rfl (Or.inl rfl) (aL jF hr rfl (ae (pv 0) (ae (aq (aK (K:=K) rfl) (pv 1) ak (λ_ _=>rfl)) (ae (aq (aK (K:=K) rfl) (pv 2) ak (λ_ _=>rfl)) ag (ao nofun)) (ao nofun)) (ao nofun))))
   (ay (aR (kD (iq dW (pv 3) (aq (aK (K:=K) rfl) (pv 2) ak (λ_ _=>rfl)) (bh _)) (jS (iq dW (aL hX hr rfl (ae (pv 0) (ae (aq (aK (K:=K) rfl) (pv 1) ak (λ_ _=>rfl)) (ae (aq (aK (K:=K) rfl) (pv 2) ak (λ_ _=>rfl)) ag (ao nofun)) (ao nofun)) (ao nofun))) (aq (aK (K:=K) rfl) (pv 1) ak (λ_ _=>rfl)) (bh _))))))),?_⟩
  refine⟨_,rfl,_,rfl,t1,_,1,.int (x1:Int),rfl,rfl,h1,aH (j:=1) rfl,_,rfl,t2,_,0,.int (y0:Int),rfl,rfl,h2,aH (j:=0) rfl,m,x1,y0,M,rfl,hm,hM,hx1,hy0,λj H1 s1 hj hj'=>?_⟩;have kj:=X4 (e:=y1) G (⟨hj,λx hx=>hj' x hx⟩:bG M.length (Ev.aG M) x1 y0 j);refine⟨_,rfl,_,rfl,t2,_,1,.int (y1:Int),rfl,rfl,s1.nB h2,aH (j:=1) rfl,rfl,_,rfl,?_⟩;rw[Ki];refine bq (λk=>?_) (λk=>?_)
  ·refine⟨_,rfl,_,rfl,t1,_,1,.int (x1:Int),rfl,rfl,s1.nB h1,aH (j:=1) rfl,_,rfl,t2,_,0,.int (y0:Int),rfl,rfl,s1.nB h2,aH (j:=0) rfl,m,x1,y0,M,rfl,s1.seq hm,hM,hx1,hy0,λmm H2 s2 hmm Xe=>?_⟩
   have km:=X5 (e:=x0) G (⟨hmm,λx _=>Xe x⟩:bM M.length (Ev.aG M) x1 y0 mm);refine⟨_,rfl,t1,_,0,.int (x0:Int),rfl,rfl,(s1.trans s2).nB h1,aH (j:=0) rfl,rfl,?_⟩;rw[Ki];refine kk _ _ (s1.trans s2) ?_;unfold uA;rw[kj,km];rw[cL]at k ⊢;exact⟨λz=>⟨k,z⟩,λz=>z.2⟩
  ·refine kk _ _ s1 ⟨λz=>(nomatch z),λz=>?_⟩
   have:=kj.mp z.1;exact absurd (cB this) k
abbrev Eo:Stmt:=top 38
theorem Qf:a_ ["order","a","b"] ["order","a","b"] (aB Eo):=by trivial
def wR(C:Addr):Sp:=λvs H Q _=>∃(p n a b:Nat) (R:Nat->Nat->Bool),vs = [.ref p,.int a,.int b]/\eD C H p n R/\a<n/\b<n/\∀H',Same H H'->Q (.bl (bS R a b)) H'
theorem Z8 {C:Addr} (F:aU K "is_below" "is_below" Eo f fd) (T:Txt mg) (TC:eZ K C):aN P w K mg base aZ 1 f fd ["order","a","b"] (wR C):=by
 refine F.ok Qf (λvs H Q E h=>?_) (λcdv A outer s H vs Q E hr h=>?_)
 ·obtain⟨p,n,a,b,R,rfl,_⟩:=h
  rfl
 ·obtain⟨p,n,a,b,R,rfl,hO,ha,hb,kk⟩:=h
  have nd:=Qf.nd;refine⟨_,(ay (aR (kD (iq f6 (pv 1) (pv 2) (bh _)) (jS (aq (aK (K:=K) rfl) (aq (aK (K:=K) rfl) (eW (K:=K) rfl (pv 0) rfl) (pv 1) (λ_ _=>rfl)) (pv 2) (λ_ _=>rfl)))))),?_⟩;have ed:(!decide (V.int (a:Int)=V.int (b:Int))) = !decide (a=b):=by
   congr 1
   exact lD.mpr ⟨λh=>by injection h with h;omega,λh=>by rw[h]⟩
  refine⟨_,rfl,_,rfl,rfl,_,rfl,?_⟩;rw[ed];refine bq (λh=>?_) (λh=>?_)
  ·obtain⟨dx,vp,vr,vj,vm,o1,_,o3,_,_⟩:=hO
   obtain⟨ra,us,rb,rfl,q1,q2,q3⟩:=o3.get ha;refine⟨_,rfl,p,C,dx,_,_,rfl,o1,TC.cl,TC.nR,KY _ _ _ _ _,_,rfl,ra,us,_,.ref rb,rfl,rfl,ax.of q1,aH q2,_,rfl,rb,_,_,.bl (R a b),rfl,rfl,ax.of q3,aH (eM hb),?_⟩;have:=kk _ (Same.refl _);unfold bS at this;rw[h,fz]at this;exact this
  ·have h2:(!decide (a=b))=false:=by simpa using h
   have:=kk _ (Same.refl _);unfold bS at this;rw[h2,jo]at this;exact this
abbrev wy:Stmt:=top 39
theorem Qi:a_ ["order","a","b"] ["order","a","b"] (aB wy):=by trivial
def Gf(C:Addr):Sp:=λvs H Q _=>∃(p n a b:Nat) (R:Nat->Nat->Bool),vs = [.ref p,.int a,.int b]/\eD C H p n R/\n<=24/\a<n/\b<n/\∀H',Same H H'->Q (.bl (bH n R a b)) H'
theorem Z' {C:Addr} (F:aU K "is_step" "is_step" wy f fd) (T:Txt mg) (TC:eZ K C) (lz:aC P w K mg base "is_below" ["order","a","b"] 1 (wR C)):aN P w K mg base aZ 2 f fd ["order","a","b"] (Gf C):=by
 refine F.ok Qi (λvs H Q E h=>?_) (λcdv A outer s H vs Q E hr h=>?_)
 ·obtain⟨p,n,a,b,R,rfl,_⟩:=h
  rfl
 ·obtain⟨p,n,a,b,R,rfl,hO,hn,ha,hb,kk⟩:=h
  have nd:=Qi.nd;refine⟨_,(av (bA (du (bZ (aL lz hr rfl (ae (pv 0) (ae (pv 1) (ae (pv 2) ag (ao nofun)) (ao nofun)) (ao nofun))))) (ay (aR dB)) bD)
   (ay (aR (DR (bf (T6 (K:=K) rfl rfl) rfl T.any boot_any (ae (dj (own:=["thing"]) (fr:=[("order", 0),("a", 1),("b", 2)]) rfl (cA (aB wy) ["order","a","b"] rfl rfl (by trivial)) (cQ rfl T.range (ae (eW (K:=K) rfl (pv 0) rfl) ag)) (λ_ _ _ _=>⟨(bj (i:=0) (by trivial:(["thing","order","a","b"]:List Str).Nodup) rfl (Or.inl rfl)),da,(kD (aL lz hr rfl (ae (pv 1) (ae (pv 2) (ae (pv 0) ag (ao nofun)) (ao nofun)) (ao nofun))) (jS (aL lz hr rfl (ae (pv 1) (ae (pv 0) (ae (pv 3) ag (ao nofun)) (ao nofun)) (ao nofun)))))⟩)) ag)))))),?_⟩
  refine⟨_,rfl,_,rfl,_,rfl,p,n,a,b,R,rfl,hO,ha,hb,λH1 s1=>⟨_,rfl,?_⟩⟩;cases hab:bS R a b with
  |false =>
   refine dR ?_;have:=kk _ s1;unfold bH at this;rw[hab,jo]at this;exact this
  |true =>
   refine bx ?_;obtain⟨dx,vp,vr,vj,vm,o1,_,_,_,_⟩:=hO.eQ s1;have en:((n:Int)).toNat=n:=dq n;refine⟨_,rfl,p,C,dx,_,_,rfl,o1,TC.cl,TC.nC,rC _ _ _ _ _,_,rfl,(bC (by omega)).1,(bC (by omega)).2,λD hD=>?_⟩;refine fk (λj=>.bl (bS R a j&&bS R j b)) src_range hD (by rw[en];exact dE hn) (λj H3 Kt hj hs hk=>?_) (λH3 hs hl=>?_)
   ·rw[en]at hj
    refine⟨_,rfl,_,rfl,_,rfl,p,n,a,j,R,by simp,(hO.eQ s1).eQ hs,ha,hj,λH4 s4=>⟨_,rfl,?_⟩⟩;cases h1:bS R a j with
    |false =>
     refine bx ?_;have:=hk _ s4;rw[h1,jo]at this;exact this
    |true =>
     refine dR ⟨_,rfl,_,rfl,_,rfl,p,n,j,b,R,by simp,((hO.eQ s1).eQ hs).eQ s4,hj,hb,λH5 s5=>?_⟩;have:=hk _ (s4.trans s5);rw[h1,fz]at this;exact this
   ·rw[en]at hl
    refine⟨D,(List.range n).map (λj=>bS R a j&&bS R j b),rfl,ah.of (by rw[hl,eB];rfl),_,rfl,?_⟩;have:=kk _ (s1.trans hs);unfold bH at this;rw[hab,fz]at this;have e:((List.range n).map λj=>bS R a j&&bS R j b).any id=(List.range n).any λt=>bS R a t&&bS R t b:=by rw[List.any_map];rfl
    rw[e];exact this
end
theorem aa2{n:Nat}{R R':Nat->Nat->Bool}(h:∀a b,a<n->b<n->R a b=R' a b):jQ n R=jQ n R':=by
 unfold jQ;have:∀l∈List.range n,(((List.range n).filter λh=>!decide (l=h)&&R l h).map λh=>(l,h))=(((List.range n).filter λh=>!decide (l=h)&&R' l h).map λh=>(l,h)):=by
  intro l hl
  congr 1
  apply HF
  intro x hx;rw[h l x (by simpa using hl) (by simpa using hx)]
 rw[xT,xT,n_ this]
theorem ab9{α:Type}(k:α->Bool)(d:α)(l:List α):((List.range l.length).filter λi=>k (l.getD i d)).map (λi=>l.getD i d)=l.filter k:=by
 have e:l=(List.range l.length).map λi=>l.getD i d:=by
  apply kP
  ·simp
  ·intro i h1 h2
   simp[aQ,aA h1]
 conv=>rhs;rw[e]
 rw[HJ];rfl
noncomputable def G8 (n:Nat) (R:Nat->Nat->Bool):List (Nat × Nat):=(jQ n R).filter λq=>bH n R q.1 q.2
theorem Y6{n:Nat}{R:Nat->Nat->Bool}{q:Nat × Nat}(h:q∈jQ n R):q.1<n/\q.2<n/\q.1≠q.2/\R q.1 q.2=true:=by
 unfold jQ at h;rw[kT]at h;obtain⟨l,hl,hq⟩:=h;rw[dc]at hq;obtain⟨x,hx,rfl⟩:=hq;rw[cX]at hx;obtain⟨h1,h2⟩:=hx;simp at hl h1 h2;exact⟨hl,h1,h2.1,h2.2⟩
theorem acG{M:List Nat}(nd:M.Nodup){R:Nat->Nat->Bool}(hR:∀a b,a<M.length->b<M.length->R a b=Ev.aG M a b):G8 M.length R=cU M:=by
 unfold G8;rw[aa2 hR];unfold jQ cU;rw[List.filter_flatMap];have:∀a∈List.range M.length,((((List.range M.length).filter λh=>!decide (a=h)&&Ev.aG M a h).map λh=>(a,h)).filter λq=>bH M.length R q.1 q.2) =
   (((bz M a).filter λb=>((bz M a).filter λc=>Ev.aG M c b).length==1).map λb=>(a,b)):=by
  intro a ha;have ha':a<M.length:=by simpa using ha
  rw[HJ]
  congr 1
  apply HF
  intro b hb;obtain⟨hb1,hb2,hb3⟩:=kx.mp hb;have Zi:(bz M a).Nodup:=Ib.filter _;rw[dk];show bH M.length R a b=true ↔ _;have qS:∀x y,x<M.length->y<M.length->(bS R x y=true ↔ x≠y/\Ev.aG M x y=true):=λx y hx hy=>by
   unfold bS;rw[hR x y hx hy];simp
  constructor
  ·intro h
   unfold bH at h;rw[bF]at h;obtain⟨h1,h2⟩:=h;have no:∀t,t<M.length->bS R a t=true->bS R t b=true->False:=λt ht e1 e2=>by
    have:((List.range M.length).any λt=>bS R a t&&bS R t b)=true:=by
     rw[qt];exact⟨t,by simpa using ht,by rw[e1,e2];rfl⟩
    rw[this]at h2;cases h2
   have h3:=OD (l:=(bz M a).filter λc=>Ev.aG M c b) (b:=b) (Zi.filter _) (cX.mpr ⟨hb,Ev.jO _ _⟩) λc hc=>by
    obtain⟨c1,c2⟩:=cX.mp hc;obtain⟨d1,d2,d3⟩:=kx.mp c1
    by_cases e:c=b
    ·exact e
    ·exact(no c d1 ((qS a c ha' d1).mpr ⟨d2,d3⟩) ((qS c b d1 hb1).mpr ⟨e,c2⟩)).elim
   rw[h3];rfl
  ·intro h
   have h1:((bz M a).filter λc=>Ev.aG M c b).length=1:=by simpa using h
   unfold bH;rw[bF];refine⟨(qS a b ha' hb1).mpr ⟨hb2,hb3⟩,?_⟩;cases e:(List.range M.length).any λt=>bS R a t&&bS R t b with
   |false=>rfl
   |true =>
    rw[qt]at e;obtain⟨t,ht,e⟩:=e;have ht':t<M.length:=by simpa using ht
    rw[bF]at e;have t1:=(qS a t ha' ht').mp e.1;have t2:=(qS t b ht' hb1).mp e.2;obtain⟨x,hx⟩:=List.length_eq_one_iff.mp h1;have m1:t∈(bz M a).filter λc=>Ev.aG M c b:=cX.mpr ⟨kx.mpr ⟨ht',t1.1,t1.2⟩,t2.2⟩;have m2:b∈(bz M a).filter λc=>Ev.aG M c b:=cX.mpr ⟨hb,Ev.jO _ _⟩;rw[hx]at m1 m2;simp at m1 m2;exact absurd (m1.trans m2.symm) t2.1
 rw[xT,xT,n_ this]
section
variable {P:Program} {w:World} {K:W.Frag} {mg:Str->Option Value} {base:Heap} {f:Addr} {fd:FuncData}
end
end _M
namespace _L
open PySem PySem.Spec PyProof.Rows
def abY(K:W.Frag):List V->Hp->VK->Prop:=λxs H Q=>∃(p:Addr) (ns:List Int),xs = [.ref p]/\ah K H p (ns.map V.int)/\0<ns.length/\∀m∈ns,(∀a∈ns,m<=a)->Q (.int m) H
noncomputable def abW (K:W.Frag):List V->Hp->VK->Prop:=λxs H Q=>∃(p:Addr) (ns:List Int),xs = [.ref p]/\ah K H p (ns.map V.int)/\0<ns.length/\∀m∈ns,(∀a∈ns,a<=m)->Q (.int m) H
theorem Uc {X:Cx} {K:W.Frag} (hK:X.K=K) (hc:X.calm=true):dz X (.builtin "min") (abY K):=by
 subst hK;intro pins s σ H xs us Q I r h;obtain⟨p,ns,rfl,hq,hne,q⟩:=h;obtain⟨u,rfl,ru⟩:=Vals.one r;cases ru;obtain⟨its,rv,ht,hz⟩:=I.list hq;have hi:=pw rv;obtain⟨ys,e⟩:=hi.allInts.items;have hns:ns=ys.toList.map (·.1):=by rw[<- hi.numsOf,<- yu,<- e]
 have hsz:0<ys.size:=by
  have h3:=hne;rw[hns,az,gf]at h3;exact h3
 have hl:=ht.isList;rw[e]at hl;refine min_intList (I.ok.hd hc) hl hsz λv h' tk hv hk=>?_;obtain⟨t,rfl⟩:=qL hv;obtain⟨h1,h2⟩:=argBest_lt (numAt ys) (ys.size - 1);refine⟨.int _,H,I.kept (t':=tk) hk,⟨t,rfl⟩,q _ ?_ λa ha=>?_⟩
 ·rw[hns,mG];exact getD_mem (by rw[az,gf];omega)
 ·rw[hns]at ha
  obtain⟨j,hj,rfl⟩:=mem_getD ha;rw[az,gf]at hj;rw[<- mG];exact h2 j (by omega)
theorem Ub {X:Cx} {K:W.Frag} (hK:X.K=K) (hc:X.calm=true):dz X (.builtin "max") (abW K):=by
 subst hK;intro pins s σ H xs us Q I r h;obtain⟨p,ns,rfl,hq,hne,q⟩:=h;obtain⟨u,rfl,ru⟩:=Vals.one r;cases ru;obtain⟨its,rv,ht,hz⟩:=I.list hq;have hi:=pw rv;obtain⟨ys,e⟩:=hi.allInts.items;have hns:ns=ys.toList.map (·.1):=by rw[<- hi.numsOf,<- yu,<- e]
 have hsz:0<ys.size:=by
  have h3:=hne;rw[hns,az,gf]at h3;exact h3
 have hl:=ht.isList;rw[e]at hl;refine max_intList (I.ok.hd hc) hl hsz λv h' tk hv hk=>?_;obtain⟨t,rfl⟩:=qL hv;obtain⟨h1,h2⟩:=argBest_gt (numAt ys) (ys.size - 1);refine⟨.int _,H,I.kept (t':=tk) hk,⟨t,rfl⟩,q _ ?_ λa ha=>?_⟩
 ·rw[hns,mG];exact getD_mem (by rw[az,gf];omega)
 ·rw[hns]at ha
  obtain⟨j,hj,rfl⟩:=mem_getD ha;rw[az,gf]at hj;rw[<- mG];exact h2 j (by omega)
section
variable {prog:Program} {w:World} {A:Around} {E:Value->Shared->Prop} {s:Shared} {l:Addr} {xs:Array (Int × Tok)}
theorem Nk{Q:Value->Shared->Prop}(hl:s.heap.IsTuple l (intItems xs))
  (h:∀s₂:Shared,s₂ = {s with heap:=s.heap.push {cls:=.type "tuple_iterator", data:=.fields #[.ref l,.int 0 0]}} ->
   (s₂.heap.IsTupleIter s.heap.objs.size l 0/\s₂.heap.IsTuple l (intItems xs))->(∀b∈[s.heap.objs.size,l],b<s₂.heap.objs.size)->l≠s.heap.objs.size->Q (.ref s.heap.objs.size) s₂) :
  wpAny (model prog w) A (pyIter (.ref l)) Q E s:=by
 have hlt:l<s.heap.objs.size:=by obtain⟨_,e,_⟩:=hl;exact aS e
 refine Jg hl (h _ rfl ⟨⟨_,cn _ rfl,rfl,rfl⟩,hl.push _⟩ (λb hb=>?_) (bB hlt));show b<(s.heap.push _).objs.size;rw[eK]
 rcases bp.mp hb with rfl|hb
 ·exact qF _
 ·rcases bp.mp hb with rfl|hb
  ·exact ye hlt
  ·cases hb
theorem Oy {h':Heap} (hk:∀b o,b ∉ [s.heap.objs.size]->(s.heap.push {cls:=.type "tuple_iterator", data:=.fields #[.ref l,.int 0 0]}).get? b=some o->h'.get? b=some o) :
  ∀b o,s.heap.get? b=some o->h'.get? b=some o:=λb o e=>by
 refine hk b o (λhm=>?_) (aV _ e)
 rcases bp.mp hm with e1|hm
 ·exact absurd (e1▸aS e) (dY _)
 ·cases hm
theorem YZ{Q:Value->Shared->Prop}(hh:A.handled=none)(hl:s.heap.IsTuple l (intItems xs))(hne:0<xs.size)
  (h:∀v h' tk,(intItems xs)[argBest (λi j=>decide (numAt xs i > numAt xs j)) (xs.size - 1)]?=some v->(∀b o,s.heap.get? b=some o->h'.get? b=some o)->Q v {s with heap:=h',toks:=tk}) :
  wpAny (model prog w) A (call (.builtin "max") [.ref l]) Q E s:=by
 refine call_max_walk (Nk hl λs₂ e st hfp hlI=>?_);subst e;refine⟨_,_,_,_,_,_,_,rfl,Walks.tuple (A:=A.in1) hh _ l hlI (intItems xs),st,hfp,by simpa[intItems]using hne,CmpOf.ints_gt (numAt xs) (λ_ _=>qL),λv h' tk hP hk=>?_⟩;exact h v h' tk (by simpa[intItems]using hP) (Oy hk)
theorem Y9{Q:Value->Shared->Prop}(hh:A.handled=none)(hl:s.heap.IsTuple l (intItems xs))(hne:0<xs.size)
  (h:∀v h' tk,(intItems xs)[argBest (λi j=>decide (numAt xs i<numAt xs j)) (xs.size - 1)]?=some v->(∀b o,s.heap.get? b=some o->h'.get? b=some o)->Q v {s with heap:=h',toks:=tk}) :
  wpAny (model prog w) A (call (.builtin "min") [.ref l]) Q E s:=by
 refine call_min_walk (Nk hl λs₂ e st hfp hlI=>?_);subst e;refine⟨_,_,_,_,_,_,_,rfl,Walks.tuple (A:=A.in1) hh _ l hlI (intItems xs),st,hfp,by simpa[intItems]using hne,CmpOf.ints_lt (numAt xs) (λ_ _=>qL),λv h' tk hP hk=>?_⟩;exact h v h' tk (by simpa[intItems]using hP) (Oy hk)
end
def abZ(K:W.Frag):List V->Hp->VK->Prop:=λxs H Q=>∃(p:Addr) (ns:List Int),xs = [.ref p]/\ax K H p (ns.map V.int)/\0<ns.length/\∀m∈ns,(∀a∈ns,m<=a)->Q (.int m) H
def abX(K:W.Frag):List V->Hp->VK->Prop:=λxs H Q=>∃(p:Addr) (ns:List Int),xs = [.ref p]/\ax K H p (ns.map V.int)/\0<ns.length/\∀m∈ns,(∀a∈ns,a<=m)->Q (.int m) H
theorem JR {X:Cx} {K:W.Frag} (hK:X.K=K) (hc:X.calm=true):dz X (.builtin "min") (abZ K):=by
 subst hK;intro pins s σ H xs us Q I r h;obtain⟨p,ns,rfl,hq,hne,q⟩:=h;obtain⟨u,rfl,ru⟩:=Vals.one r;cases ru;obtain⟨its,rv,ht,hz⟩:=I.tuple hq;have hi:=pw rv;obtain⟨ys,e⟩:=hi.allInts.items;have hns:ns=ys.toList.map (·.1):=by rw[<- hi.numsOf,<- yu,<- e]
 have hsz:0<ys.size:=by
  have h3:=hne;rw[hns,az,gf]at h3;exact h3
 have hl:s.heap.IsTuple p its.toArray:=ht;rw[e]at hl;refine Y9 (I.ok.hd hc) hl hsz λv h' tk hv hk=>?_;obtain⟨t,rfl⟩:=qL hv;obtain⟨h1,h2⟩:=argBest_lt (numAt ys) (ys.size - 1);refine⟨.int _,H,I.kept (t':=tk) hk,⟨t,rfl⟩,q _ ?_ λa ha=>?_⟩
 ·rw[hns,mG];exact getD_mem (by rw[az,gf];omega)
 ·rw[hns]at ha
  obtain⟨j,hj,rfl⟩:=mem_getD ha;rw[az,gf]at hj;rw[<- mG];exact h2 j (by omega)
theorem JQ {X:Cx} {K:W.Frag} (hK:X.K=K) (hc:X.calm=true):dz X (.builtin "max") (abX K):=by
 subst hK;intro pins s σ H xs us Q I r h;obtain⟨p,ns,rfl,hq,hne,q⟩:=h;obtain⟨u,rfl,ru⟩:=Vals.one r;cases ru;obtain⟨its,rv,ht,hz⟩:=I.tuple hq;have hi:=pw rv;obtain⟨ys,e⟩:=hi.allInts.items;have hns:ns=ys.toList.map (·.1):=by rw[<- hi.numsOf,<- yu,<- e]
 have hsz:0<ys.size:=by
  have h3:=hne;rw[hns,az,gf]at h3;exact h3
 have hl:s.heap.IsTuple p its.toArray:=ht;rw[e]at hl;refine YZ (I.ok.hd hc) hl hsz λv h' tk hv hk=>?_;obtain⟨t,rfl⟩:=qL hv;obtain⟨h1,h2⟩:=argBest_gt (numAt ys) (ys.size - 1);refine⟨.int _,H,I.kept (t':=tk) hk,⟨t,rfl⟩,q _ ?_ λa ha=>?_⟩
 ·rw[hns,mG];exact getD_mem (by rw[az,gf];omega)
 ·rw[hns]at ha
  obtain⟨j,hj,rfl⟩:=mem_getD ha;rw[az,gf]at hj;rw[<- mG];exact h2 j (by omega)
theorem abq{X:Cx}{K:W.Frag}{es:List Expr}{k:Nat}{t:lg}{n:Nat}{pos:Pos}(hK:X.K=K)(hc:X.calm=true)(h:qI X es t)(hn:(assignEach es X.env).length=n:=by rfl)(hst:(assignEach es X.env).findIdx? (·.1)=none:=by rfl):PG X (.Tuple es k pos) (rF K n t):=hK▸Pg hc h hn hst
noncomputable def rA (e:V->Bool):Value->Bool
 |.ref a=>e (.ref a)
 |_=>false
theorem N6{X:Cx}{pins:List (Addr × Obj)}{σ:St}{H:Hp}{s:Shared}(I:Inv X pins σ H s){A:Around}{n:Nat}(hu:A.units+n<cLine){x:V}{v:Value}(rx:RelV x v){e:V->Bool}:∀{xs:List V} {us:List Value},Vals xs us->(∀z∈xs,∃a,z = .ref a)->(∀z∈xs,bK X.K H n z x (e z))->∀u∈us,SeqAt.EqAt A s u v (rA e u)
 |_,_,.nil,_,_=>λu hu=>by cases hu
 |y::xs,u::us,.cons r t,f,g=>λu' hu'=>by
  rcases bp.mp hu' with rfl|hu'
  ·obtain⟨a,rfl⟩:=f y bX
   have:=(g _ bX).at I hu r rx;cases r;exact this
  ·exact N6 I hu rx t (λz hz=>f z (b_ _ hz)) (λz hz=>g z (b_ _ hz)) u' hu'
theorem Ru{K:W.Frag}{a:Addr}{us:List V}{xs ys:Nat->V}{ρ:St}{H1:Hp}(h:ah K H1 a us)(hp:∀i,i<us.length->∃t,us[i]?=some (.ref t)/\H1 t=some (.tup [xs i,ys i])):iY (kN K a) (rF K 2 (mX (cD 0) (mX (cD 1) uV))) (none::none::ρ) H1 us.length (λi=>some (xs i)::some (ys i)::ρ) where
 go:=λi H hi hs=>⟨us,us[i],hs.seq h,aA hi⟩
 stop:=λH hs=>⟨us,hs.seq h,aY _⟩
 step:=λi H x H' Kk hi hs hy hk=>by
  obtain⟨rfl,hx⟩:=hy;have e:=hx us (hs.seq h);obtain⟨t,e1,e2⟩:=hp i hi;rw[e1]at e;cases e;refine⟨t,[xs i,ys i],rfl,.inl (.inl (hs _ _ e2)),rfl,xs i,[ys i],rfl,ys i,[],rfl,rfl,?_⟩;exact⟨Wk.set (Wk.set (Wk.refl _) rfl) rfl,hk _ (Same.refl _)⟩
end _L
namespace _M
open PySem PySem.Spec PyProof.Rows _L
theorem G6{n:Nat}{R:Nat->Nat->Bool}{a b:Nat}(h:bH n R a b=true):bS R a b=true:=by
 unfold bH at h;rw[bF]at h;exact h.1
theorem Du{cs:List Nat}{i:Nat}(h:i<cs.length):cs.getD i 0∈cs:=by
 rw[aQ,aA h];exact fC h
theorem vo(cs:List Nat):(cs.map λx:Nat=>(x:Int)).map V.int=cs.map nV:=by rw[eB];rfl
theorem N9{M:List Nat}(L:Ev.bO M){a b:Nat}:(a,b)∈cU M ↔ a<M.length/\b<M.length/\bH M.length (Ev.aG M) a b=true:=by
 rw[<- acG (R:=Ev.aG M) L.nd λ_ _ _ _=>rfl];unfold G8;rw[cX]
 constructor
 ·rintro⟨h1,h2⟩
  have:=Y6 h1;exact⟨this.1,this.2.1,h2⟩
 ·rintro⟨h1,h2,h3⟩
  refine⟨?_,h3⟩;unfold jQ;rw[kT];refine⟨a,by simpa using h1,?_⟩;rw[dc];refine⟨b,?_,rfl⟩;rw[cX];have:=G6 h3;unfold bS at this;exact⟨by simpa using h2,this⟩
noncomputable def Jo (n:Nat) (R:Nat->Nat->Bool) (i:Nat):List Nat:=(List.range n).filter (bH n R i)
section
variable {P:Program} {w:World} {K:W.Frag} {mg:Str->Option Value} {base:Heap} {f:Addr} {fd:FuncData}
end
end _M
namespace _L
open PySem PySem.Spec PyProof.Rows
theorem ada{x y:Int}{t u:Tok}{c:Value}:∀(l:List Value),TriplesOk l->TriplesOk (l++[.int x t,.int y u,c]):=by
 intro l h
 fun_induction TriplesOk l with
 |case1=>exact trivial
 |case2 a b d e f r ih=>exact ih h
 |case3 l h1 h2=>exact False.elim h
def Sw(o:Obj)(qual:Str):Prop:=∃vs t,o.data = .fields vs/\vs[1]?=some (.str qual t)
noncomputable def qo (p:Addr) (qual:Str) (params:Arguments) (body:Expr) (scope:Scope) (cl:List (Str × Addr)) (c:Addr):HO:=
 .ext λh=>∃pm ctv,h.get? p=some (W.kla_obj "<lambda>" qual params body scope cl pm c ctv)
structure iz (H:Hp) (p:Addr) (qual:Str) (params:Arguments) (body:Expr) (scope:Scope) (cl:List (Str × Addr)):Prop where
 ex:∃c o u,H c=some (.dH o u)/\Sw o qual/\H p=some (qo p qual params body scope cl c)
section
variable {P:Program} {w:World} {H H':Hp} {h:Heap} {p:Addr} {qual:Str} {params:Arguments} {body:Expr} {scope:Scope} {cl:List (Str × Addr)}
theorem NB {c:Addr} {pm ctv:Value} (e:h.get? p=some (W.kla_obj "<lambda>" qual params body scope cl pm c ctv)):bE P w H h p (qo p qual params body scope cl c):=
 ⟨⟨pm,ctv,e⟩,⟨_,e⟩,λ_ _ ⟨pm,ctv,e⟩ k=>⟨pm,ctv,k _ e⟩⟩
theorem iz.same(L:iz H p qual params body scope cl)(s:Same H H'):iz H' p qual params body scope cl:=
 let⟨c,o,u,h1,h2,h3⟩:=L.ex;⟨c,o,u,s _ _ h1,h2,s _ _ h3⟩
theorem iz.get (L:iz H p qual params body scope cl) (ok:bL P w H h):∃c pm ctv,h.get? p=some (W.kla_obj "<lambda>" qual params body scope cl pm c ctv)/\h.CodeRec (.ref c) qual:=by
 obtain⟨c,o,u,h1,⟨vs,t,d1,d2⟩,h3⟩:=L.ex;obtain⟨⟨pm,ctv,e⟩,_⟩:=(show bE P w H h p (qo p qual params body scope cl c)from ok p _ h3);obtain⟨e2,_⟩:=ok c _ h1;exact⟨c,pm,ctv,e,c,o,vs,t,rfl,e2,d1,d2⟩
end
structure TabAt (base:Heap) (mg:Str->Option Value) (c P:Addr):Prop where
 hd:W.CodeHd base c P
 bm:∃bm ob,mg "__builtins__" = some (.ref bm)/\bm≠builtinsNs/\base.get? bm=some ob/\ob.cls = .type "module" /\ ob.dict=some builtinsNs/\ob.data = .plain
def acU(P:Addr)(pos:Pos)(qual:Str)(params:Arguments)(body:Expr)(scope:Scope)(cl:List (Str × Addr)):TE:=λ_ H Q =>
 H P=some (.lam pos qual)/\∀p H1,Same H H1->H p=none->iz H1 p qual params body scope cl->Q (.ref p) H1
section
variable {X:Cx} {c P:Addr} {params:Arguments} {body:Expr} {scope:Scope} {pos:Pos}
theorem abi(T:TabAt X.base X.mg c P)(hcode:X.env.code = .ref c)(B:X.Ok->∀x∈scope.names,x.2 = .free->∃cc,X.env.cells.lookup x.1=some cc)(hdef:defaultsOf params X.env=([],[]):=by rfl):
  PE X (.Lambda params body scope pos) (acU P pos (X.env.qual ++ "<lambda>") params body scope (cu X.env.cells scope.names [])):=by
 intro pins s σ H Q I ⟨hP,q⟩;refine W.kla_eval hdef ?_;obtain⟨ps,LK,ht,hc⟩:=(show bE X.prog X.w H s.heap P (.lam pos (X.env.qual ++ "<lambda>"))from I.hok P _ hP);have hg:s.heap.Ns mainGlobals X.mg:=I.mod.glob.keeps I.bk;have C:=T.hd.keeps I.bk;obtain⟨bm,ob,b1,b2,b3,b4,b5,b6⟩:=T.bm;have Oh:∀b o,X.base.get? b=some o->b≠P:=λb o e z=>by
  have:=(I.bs b o e).2;rw[z,hP]at this;cases this
 have hgP:mainGlobals≠P:=by
  obtain⟨o,es,ep,e,_⟩:=I.mod.glob;exact Oh _ o e
 have hbG:bm≠mainGlobals:=λz=>by
  obtain⟨o,es,ep,e,hd,_⟩:=I.mod.glob;rw[z,e]at b3;cases b3;rw[hd]at b6;cases b6
 have hb:s.heap.BuiltinsAt X.mg P:=⟨bm,ob,b1,b2,hbG,Oh _ _ b3,I.bk _ _ b3,b4,b5,b6⟩;cases hf:codeAmong pos ps.toList with
 |some cv =>
  obtain⟨c',o,u,vs,t,rfl,hz,hd,hv⟩:=hc _ hf;refine W.kla_makeFunctionHit (qX (B I.ok)) I.ok.glob hg hcode C LK ht hf hb λctv h' tk hk hsz=>?_;have I1:Inv X pins σ (upd H h'.objs.size (qo h'.objs.size (X.env.qual ++ "<lambda>") params body scope (cu X.env.cells scope.names []) c')) _:=
   I.laid (t':=tk) (λb u e=>aV (W.kla_obj "<lambda>" (X.env.qual ++ "<lambda>") params body scope (cu X.env.cells scope.names []) ((X.mg "__name__").getD .none) c' ctv) (hk b u e)) hsz (NB (cn _ rfl))
  have hn:H h'.objs.size=none:=I.hok.fresh hsz;exact⟨.ref h'.objs.size,_,I1,rfl,q _ _ (Same.put hn) hn ⟨c',o,u,Same.put hn _ _ hz,⟨vs,t,hd,hv⟩,au⟩⟩
 |none =>
  refine W.kla_makeFunction (qX (B I.ok)) I.ok.glob hg hcode C LK ht hf hgP hb λc' ctv h' tk hx hge hlt hrec htb=>?_;obtain⟨c2,oc,vs,t,e2,hoc,hd,hv⟩:=hrec;cases e2;have hn:H c'=none:=I.hok.fresh hge;have cP:c'≠P:=λz=>by rw[z,hP]at hn;cases hn
  have nP:∀b,H b=none->b≠P:=λb e z=>by rw[z,hP]at e;cases e
  have sm:Same H (upd H c' (.dH oc (.own c'))):=Same.put hn;have I1:Inv X pins σ (upd H c' (.dH oc (.own c'))) {s with heap:=h',toks:=tk}:=by
   refine I.un ⟨λb o e n _ _=>hx b o (nP b n) e,λb o e n _ _=>⟨o.slots,hx b o (nP b n) e⟩,λb o e n _=>?_,λb o e _=>?_,λb xs e=>sm _ _ e,λb o u e=>sm _ _ e,λb ps e=>⟨#[],by rw[sm _ _ e];simp⟩⟩ ?_
   ·rw[aF (bB (cZ (aS e) hge))];exact n
   ·by_cases hb:b=P
    ·exact⟨_,by rw[hb];exact htb⟩
    ·exact⟨o,hx b o hb e⟩
   ·intro b u e
    by_cases hb:b=c'
    ·subst hb
     rw[au]at e;cases e;exact⟨hoc,oc,hoc⟩
    ·rw[aF hb]at e
     by_cases hb2:b=P
     ·subst hb2
      rw[hP]at e;cases e;have ea:(ps++#[rawInt pos.line,rawInt pos.col,.ref c']).toList=ps.toList++[rawInt pos.line,rawInt pos.col,.ref c']:=by simp
      refine⟨_,htb,?_,λcv z=>?_⟩
      ·rw[ea];exact ada _ ht
      ·rw[ea,codeAmong_snoc _ ht hf]at z
       cases z;exact⟨c',oc,.own c',vs,t,rfl,au,hd,hv⟩
     ·refine(I.hok b u e).stay (λd v hd' r=>hx d v ?_ r) (λd r=>sm _ _ r) (λd xs r=>sm _ _ r) λd ob' u' r=>sm _ _ r
      rcases hd' with rfl|hd'
      ·exact hb2
      ·intro z;rw[z,hP]at hd';cases hd'
  have hsz:({s with heap:=h',toks:=tk}:Shared).heap.objs.size<=h'.objs.size:=aY _;have I2:Inv X pins σ (upd (upd H c' (.dH oc (.own c'))) h'.objs.size (qo h'.objs.size (X.env.qual ++ "<lambda>") params body scope (cu X.env.cells scope.names []) c')) _:=
   I1.laid (t':=tk) (λb u e=>aV (W.kla_obj "<lambda>" (X.env.qual ++ "<lambda>") params body scope (cu X.env.cells scope.names []) ((X.mg "__name__").getD .none) c' ctv) e) hsz (NB (cn _ rfl))
  have hn2:upd H c' (.dH oc (.own c')) h'.objs.size=none:=I1.fresh;exact⟨.ref h'.objs.size,_,I2,rfl,q _ _ (sm.trans (Same.put hn2)) (sm.free hn2) ⟨c',oc,.own c',Same.put hn2 _ _ au,⟨vs,t,hd,hv⟩,au⟩⟩
end
theorem N2{α:Type}{x:Str}{u:α}:∀{l:List (Str × α)},(l.map (·.1)).Nodup->(x,u)∈l->l.lookup x=some u
 | [],_,h=>nomatch h
 | (y,v)::r,nd,h=>by
  rw[dr,iT]at nd;rw[dF]
  rcases bp.mp h with e|h2
  ·cases e;simp
  ·have:(x==y)=false:=by
    rw[jD];rintro rfl;exact nd.1 (dc.mpr ⟨_,h2,rfl⟩)
   rw[this];exact N2 nd.2 h2
theorem Sr{α β:Type}:∀(l:List α) (m:List β),((l.zip m).map (·.1)).Sublist l
 | [],_=>by simp
 |_::_,[]=>by simp
 |a::l,b::m=>by rw[xZ,dr];exact(Sr l m).cons_cons a
theorem ad0{ps:List Str}{us:List Value}{i:Nat}{x:Str}{u:Value}(nd:ps.Nodup)(h1:ps[i]?=some x)(h2:us[i]?=some u):(ps.zip us).reverse.lookup x=some u:=by
 refine N2 ?_ (List.mem_reverse.mpr (df (i:=i) ?_))
 ·rw[List.map_reverse]
  refine(List.reverse_perm _).nodup_iff.mpr (nd.sublist ?_);exact Sr _ _
 ·rw[List.getElem?_zip_eq_some];exact⟨h1,h2⟩
structure tT (ps fr:List Str) (sc:Scope):Prop where
 kind:sc.kind = .function
 co:sc.isCoroutine=false
 gen:sc.isGenerator=false
 nd:(ps++fr).Nodup
 pH:∀y∈sc.names,y.2≠.cell
 par:∀x∈ps,sc.names.lookup x=some .local
 VD:∀x∈fr,sc.names.lookup x=some .free
noncomputable def qZ (P:Program) (w:World) (K:W.Frag) (mg:Str->Option Value) (base:Heap) (N:List Str) (qual:Str) (scope:Scope) (p:Addr) (cd:Value) (cl:List (Str × Addr)) (A:Around) (outer:List Env) (s:Shared) (H:Hp):Cx where
 prog:=P
 w:=w
 K:=K
 mg:=mg
 base:=base
 A:=A.deeper (W.envX qual scope s.heap.objs.size p cd cl)
 N:=N
 s₀:=s
 H₀:=H
 env:=W.envX qual scope s.heap.objs.size p cd cl
 outer:=outer
 stack:=W.envX qual scope s.heap.objs.size p cd cl::outer
 ex:=[]
 calm:=true
 fn:=λ_=>false
 pn:=[]
 xe:=λ_ _=>False
section
variable {P:Program} {w:World} {K:W.Frag} {mg:Str->Option Value} {base:Heap} {A:Around} {outer:List Env} {s:Shared} {H:Hp} {p c:Addr} {qual:Str} {params:Arguments} {body:Expr} {scope:Scope} {cl:List (Str × Addr)}
 {ps fr:List Str} {vs:List V} {us:List Value} {zs:St} {pm ctv:Value} {Q:VK} {t:TE}
structure xP (h:Heap) (H:Hp) (scope:Scope) (cl:List (Str × Addr)) (fr:List Str) (zs:St):Prop where
 cell:∀x cc,cl.lookup x=some cc->(∃v,h.IsCell cc v)/\H cc=none
 inj:∀x y cc,cl.lookup x=some cc->cl.lookup y=some cc->x=y
 has:∀x,scope.names.lookup x=some .free->∃cc,cl.lookup x=some cc
 len:zs.length=fr.length
 val:∀(i:Nat) x v,fr[i]?=some x->zs[i]?=some (some v)->∃cc u,cl.lookup x=some cc/\h.IsCell cc (some u)/\RelV v u
theorem Ys(S:tT ps fr scope)(hd:A.handled=none)(e0:jt P w K mg base A outer s H)(hl:vs.length=ps.length)(r:Vals vs us)(L:xP s.heap H scope cl fr zs){cd:Value}{h₁:Heap}{tk:Nat}(hns:h₁.Ns s.heap.objs.size λx=>(ps.zip us).reverse.lookup x)(hk:∀b o,s.heap.get? b=some o->h₁.get? b=some o):
  Inv (qZ P w K mg base (ps++fr) qual scope p cd cl A outer s H) [] (vs.map some++zs) H {s with heap:=h₁,toks:=tk}:=by
 have ky:∀b:Addr,b ∉ (qZ P w K mg base (ps++fr) qual scope p cd cl A outer s H).ex:=λb z=>absurd (show b∈([]:List Addr)from z) (by simp);refine⟨⟨e0.mod,S.kind,rfl,rfl,aY _,L.inj,λy hy=>?_,λy c h=>(nomatch h),λ_=>hd,Around.frames_deeper e0.frames,.inr ⟨rfl,rfl⟩,λb z=>absurd z (ky b),e0.bs,e0.eU,λb _ _=>ky b,λb z=>absurd z (ky b),e0.eJ,e0.gU⟩,
  rfl,e0.bare,Un.kept hk,⟨_,hns,λi y v h1 h2 h3=>?_⟩,λy cc h=>?_,e0.hok.fresh (aY _),λy cc h=>(L.cell y cc h).2,λq hq=>absurd (show q∈([]:List (Addr × Obj))from hq) (by simp),e0.hok.kept hk,?_⟩
 ·have hy:scope.names.lookup y=some .cell\/scope.names.lookup y=some .free:=hy
  rcases hy with hy|hy
  ·exact absurd rfl (S.pH _ (iD hy))
  ·exact L.has y hy
 ·have h1:(ps++fr)[i]?=some y:=h1
  by_cases hi:i<vs.length
  ·rw[jw (by simpa using hi),bW]at h2
   rw[jw (by omega)]at h1;cases e:vs[i]? with
   |none=>rw[e]at h2;cases h2
   |some a =>
    rw[e]at h2;cases h2;obtain⟨u,hu,rv⟩:=r.get e;exact⟨u,rv,.inl ⟨S.par y (df h1),ad0 (S.nd.sublist (List.sublist_append_left _ _)) h1 hu⟩⟩
  ·rw[iR (by simpa using hi),az]at h2
   rw[iR (by omega)]at h1;rw[hl]at h2;obtain⟨cc,u,e1,e2,e3⟩:=L.val _ y v h1 h2;exact⟨u,e3,.inr ⟨.inr (S.VD y (df h1)),cc,e1,e2.keeps hk⟩⟩
 ·obtain⟨⟨v,z⟩,_⟩:=L.cell y cc h
  exact⟨v,z.keeps hk⟩
 ·show _=(ps++fr).length
  rw[cz,az,cz,L.len,hl]
theorem Yr (S:tT ps fr scope) (hr:A.depth<recursionLimit) (hd:A.handled=none) (e0:jt P w K mg base A outer s H) (ho:s.heap.get? p=some (W.kla_obj "<lambda>" qual params body scope cl pm c ctv)) (hcd:s.heap.CodeRec (.ref c) qual)
  (hb:bindArgs (W.kla_fn "<lambda>" qual params body scope cl pm (.ref c) ctv) ⟨us,[]⟩=pure (ps.zip us)) (hl:vs.length=ps.length) (r:Vals vs us) (L:xP s.heap H scope cl fr zs)
  (hbody:PE (qZ P w K mg base (ps++fr) qual scope p (.ref c) cl A outer s H) body t) (hq:t (vs.map some++zs) H Q) :
  codeAny (model P w) A (.call (.ref p) ⟨us,[]⟩) (λr s'=>∃u,r = .ok (.ret u)/\CE outer P w H s Q u s') s:=by
 have lim:s.heap.NoLimit:=e0.mod.nolimit.keeps λb o e=>(e0.bs b o e).1;refine W.kla_callFunE hr ho rfl S.co S.gen rfl hcd ?_;rw[hb];refine aJ (wpAny_newFunctionEnv S.pH (λx hx=>S.par _ (xY hx).1) (λh₁ hns hsb=>?_) S.kind);have hk:∀b o,s.heap.get? b=some o->h₁.get? b=some o:=λb o e=>hsb.extBut b o (bB (aS e)) (aV _ e);refine⟨lim.keeps hk,?_⟩;show codeAny _ _ (.expr body (W.envX qual scope s.heap.objs.size p (.ref c) cl)) _ _;have I:=Ys (qual:=qual) (p:=p) (cd:=.ref c) (tk:=s.toks+(ps.zip us).length) S hd e0 hl r L hns hk;refine W.kla_codeExpr (eI (hbody [] _ _ H Q I hq) (λv s' ⟨x,H',J,rv,q⟩=>?_) λ_ _ z=>False.elim z);exact⟨v,rfl,x,H',J.os,J.bare,J.base,J.hok,rv,q⟩
end
section
variable {X:Cx} {pins:List (Addr × Obj)} {σ:St} {H:Hp} {s:Shared} {p:Addr} {qual:Str} {params:Arguments} {body:Expr} {scope:Scope} {ps:List Str} {fr:List (Str × Nat)} {A:Around} {t:TE} {Q:VK} {vs:List V} {us:List Value} {E:Value->Shared->Prop}
noncomputable def lamσ (fr:List (Str × Nat)) (σ:St):St:=fr.map λq=>σ.getD q.2 none
theorem Yp(B:gJ X scope fr)(I:Inv X pins σ H s):xP s.heap H scope (cu X.env.cells scope.names []) (fr.map (·.1)) (lamσ fr σ) where
 cell:=λx cc h=>⟨I.cell x cc (B.sub I.ok h),I.d_ x cc (B.sub I.ok h)⟩
 inj:=λx y cc h1 h2=>I.ok.inj x y cc (B.sub I.ok h1) (B.sub I.ok h2)
 has:=λx h=>mR (iD h)
 len:=by unfold lamσ;simp
 val:=λi x v e1 e2=>by
  unfold lamσ at e2;rw[bW]at e1 e2;cases hp:fr[i]? with
  |none=>rw[hp]at e1;cases e1
  |some q =>
   rw[hp]at e1 e2;simp only[qH,yg]at e1 e2;obtain⟨i1,i2⟩:=B.ix q (df hp);subst e1;have e2':σ[q.2]?=some (some v):=by
    rw[aQ]at e2;cases z:σ[q.2]? with
    |none=>rw[z]at e2;cases e2
    |some y=>rw[z]at e2;exact congrArg some e2
   have kX:X.env.kindOf q.1=some .cell\/X.env.kindOf q.1=some .free:=B.free (q.1,.free) (iD i2) rfl;obtain⟨m',hn',hl'⟩:=I.loc;obtain⟨u,r,l⟩:=hl' q.2 q.1 v i1 e2' (.inr kX)
   rcases l with⟨k,_⟩|⟨_,cc,hc,z⟩
   ·rcases kX with w|w<;>(rw[k]at w;cases w)
   ·obtain⟨c',hc'⟩:=mR (cells:=X.env.cells) (acc:=[]) (iD i2)
    have:=B.sub I.ok hc';rw[hc]at this;cases this;exact⟨cc,u,hc',z,r⟩
theorem Yq(B:gJ X scope fr)(S:tT ps (fr.map (·.1)) scope)(I:Inv X pins σ H s)(L:iz H p qual params body scope (cu X.env.cells scope.names []))(hA:A.frames=X.A.frames)(hr:A.depth<recursionLimit)(hd:A.handled=none)
  (hb:∀(cl:List (Str × Addr)) (pm cd ctv:Value) (us:List Value),us.length=ps.length->bindArgs (W.kla_fn "<lambda>" qual params body scope cl pm cd ctv) ⟨us,[]⟩=pure (ps.zip us))
  (hbody:∀(c:Addr),PE (qZ X.prog X.w X.K X.mg X.base (ps++fr.map (·.1)) qual scope p (.ref c) (cu X.env.cells scope.names []) A X.stack s H) body t)
  (hl:vs.length=ps.length) (r:Vals vs us) (hq:t (vs.map some++lamσ fr σ) H Q):wpAny (model X.prog X.w) A (call (.ref p) us) (EP X pins σ Q) E s:=by
 obtain⟨c,pm,ctv,ho,hcd⟩:=L.get I.hok;have e0:=I.env0;have e1:jt X.prog X.w X.K X.mg X.base A X.stack s H:=⟨hA.trans e0.frames,e0.mod,e0.bs,e0.eU,e0.eJ,e0.gU,e0.hok,e0.bare⟩;refine k_ (j4 (Yr S hr hd e1 ho hcd (hb _ _ _ _ _ (by rw[<- r.length];exact hl)) hl r (Yp B I) (hbody c) hq) λr s' aW=>?_);obtain⟨u,e,hq⟩:=aW;subst e;exact I.after hq
end
theorem Nb:∀{ns:List Int} {vs:List Value},Vals (ns.map V.int) vs->IntsAre vs ns
 | [],_,.nil=>.nil
 |n::ns,_,.cons r t=>by
  obtain⟨k,rfl⟩:=r;exact .cons n k (Nb t)
theorem aa1{α β:Type}{R:α->β->Prop}{l' m':List β}(h:m'.Perm l'):∀{l:List α},Paired R l l'->∃m,m.Perm l/\Paired R m m':=by
 induction h with
 |nil=>intro l p;exact⟨l,.refl _,p⟩
 |cons x _ ih =>
  intro l p;cases p with
  |cons r t =>
   obtain⟨m,h1,h2⟩:=ih t;exact⟨_::m,h1.cons _,.cons r h2⟩
 |swap x y l =>
  intro l p;cases p with
  |cons r t =>
   cases t with
   |cons r' t'=>exact⟨_,.swap _ _ _,.cons r' (.cons r t')⟩
 |trans _ _ ih1 ih2 =>
  intro l p;obtain⟨m1,h1,h2⟩:=ih2 p;obtain⟨m2,h3,h4⟩:=ih1 h2;exact⟨m2,h3.trans h1,h4⟩
def oG(kz:List Int)(xs ys:List V):Prop:=∃ps:List (Int × V),ps.Perm (kz.zip xs)/\ys=ps.map Prod.snd/\ps.Pairwise λp q=>p.1<=q.1
theorem Ss:∀{kz:List Int} {xs:List V} {us:List Value},Vals xs us->Paired (λ(p:Int × V) (q:Int × Value)=>p.1=q.1/\RelV p.2 q.2) (kz.zip xs) (kz.zip us)
 | [],_,_,_=>by simp;exact .nil
 |_::_,_,_,.nil=>by simp;exact .nil
 |k::kz,_,_,.cons r t=>by rw[xZ,xZ];exact .cons ⟨rfl,r⟩ (Ss t)
theorem O8:∀{l:List (Int × V)} {m:List (Int × Value)},Paired (λ(p:Int × V) (q:Int × Value)=>p.1=q.1/\RelV p.2 q.2) l m->Vals (l.map Prod.snd) (m.map Prod.snd)/\l.map Prod.fst=m.map Prod.fst
 |_,_,.nil=>⟨.nil,rfl⟩
 |_,_,.cons r t=>by
  obtain⟨h1,h2⟩:=O8 t;exact⟨.cons r.2 h1,by rw[dr,dr,h2,r.1]⟩
theorem acA{kz:List Int}{xs:List V}{us out:List Value}(r:Vals xs us)(h:KskOut false kz us out):∃ys,Vals ys out/\oG kz xs ys:=by
 obtain⟨qs,h1,h2,h3⟩:=h;obtain⟨ps,g1,g2⟩:=aa1 h1 (Ss (kz:=kz) r);obtain⟨g3,g4⟩:=O8 g2;refine⟨ps.map Prod.snd,by rw[h2];exact g3,ps,g1,rfl,?_⟩;have h5:(qs.map Prod.fst).Pairwise (·<=·):=by
  rw[og];exact h3.imp λ{a b} z=>z
 rw[<- g4,og]at h5;exact h5
section
variable {prog:Program} {w:World} {A:Around} {E:Value->Shared->Prop} {s:Shared} {a kS:Addr} {e1:Nat} {keys:Array Value} {its:List Value} {kz:List Int}
end
def mI(K:W.Frag)(H:Hp)(v:V)(xs:List V):Prop:=
 (∃r n,v = .ref r/\H r=some (.rng 0 n)/\-(2 ^ 62)<=n/\n<2 ^ 62/\xs=(List.range n.toNat).map λ(i:Nat)=>V.int i)\/(∃r,v = .ref r/\ah K H r xs)
section
variable {X:Cx} {pins:List (Addr × Obj)} {σ:St} {H:Hp} {s:Shared} {A:Around} {E:Value->Shared->Prop}
theorem Sd{its:Array Value}{n:Nat}(h:ItemsOf (λi v=>∃t,v=Value.int (0+(i:Nat)*1) t) its n):Vals ((List.range n).map λ(i:Nat)=>V.int i) its.toList:=by
 have go:∀(us:List Value) (k:Nat),(∀(j:Nat) v,us[j]?=some v->∃t,v=Value.int ((k+j:Nat):Int) t)->Vals ((List.range' k us.length).map λ(i:Nat)=>V.int i) us:=by
  intro us
  induction us with
  |nil=>intro k _;exact .nil
  |cons u us ih =>
   intro k hu;rw[jZ,List.range'_succ,dr];refine .cons ?_ (ih (k+1) λj v e=>?_)
   ·obtain⟨t,e⟩:=hu 0 u rfl
    exact⟨t,by simpa using e⟩
   ·obtain⟨t,e⟩:=hu (j+1) v (by simpa using e)
    exact⟨t,by rw[e];congr 1;omega⟩
 have:=go its.toList 0 λj v e=>by
  obtain⟨t,q⟩:=h.2 j v (by simpa using e);exact⟨t,by rw[q];congr 1;simp⟩
 rw[gf,h.1]at this;rw[List.range_eq_range'];exact this
theorem Ka{v:V}{u:Value}{xs:List V}{R:List Value->Shared->Prop}(hh:A.handled=none)(I:Inv X pins σ H s)(r:RelV v u)(h:mI X.K H v xs)(hz:xs.length<=2 ^ 24)(q:∀its s',Vals xs its->Inv X pins σ H s'->R its s'):wpAny (model X.prog X.w) A (collect u) R E s:=by
 have gy:(2:Nat) ^ 24<=sizeLine:=by trivial
 rcases h with⟨a,n,rfl,ha,b1,b2,rfl⟩|⟨a,rfl,ha⟩
 ·obtain rfl:u = .ref a:=r
  obtain⟨t,t',t'',ea⟩:=(show bE X.prog X.w H s.heap a (.rng 0 n)from I.hok a _ ha);have sz:n.toNat<=2 ^ 24:=by simpa using hz
  unfold collect;refine ai (wpAny_runValue (uk entry_proto_collect' ?_));show wpAny _ _ (newList []>>=λl=>again (.builtin "list.__iadd__" ⟨[l,.ref a],[]⟩)) _ _ s;have old:∀b o,s.heap.get? b=some o->(s.heap.push (seqObj "list" #[] 0)).get? b=some o:=λb o e=>aV _ e;have add:codeAny (model X.prog X.w) A (.builtin "list.__iadd__" ⟨[.ref s.heap.objs.size,.ref a],[]⟩) (λr s'=>r = .ok (.ret (.ref s.heap.objs.size))/\∃h' tk acc c',s' = {s with heap:=h',toks:=tk}/\(∀b o,s.heap.get? b=some o->h'.get? b=some o) /\
    h'.get? s.heap.objs.size=some {cls:=.type "list", dict:=none,data:=.seq acc c',slots:=#[]}/\Vals ((List.range n.toNat).map λ(i:Nat)=>V.int i) acc.toList) {s with heap:=s.heap.push (seqObj "list" #[] 0)}:=by
   refine uk entry_list_iadd' ?_;show wpAny _ A.in1 (Builtin.List.listExtendWith (.ref s.heap.objs.size) (.ref a) (.ref s.heap.objs.size)) _ _ _;exact wpAny_extend_range (s:={s with heap:=s.heap.push (seqObj "list" #[] 0)}) (R:=λr s'=>r = .ok (.ret (.ref s.heap.objs.size))/\∃h' tk acc c',s' = {s with heap:=h',toks:=tk}/\(∀b o,s.heap.get? b=some o->h'.get? b=some o) /\
    h'.get? s.heap.objs.size=some {cls:=.type "list", dict:=none,data:=.seq acc c',slots:=#[]}/\Vals ((List.range n.toNat).map λ(i:Nat)=>V.int i) acc.toList)
    (n:=n.toNat) hh (old _ _ ea) (small_one (by omega) (by omega) b1 b2) (by rw[rangeSize_one];split<;>omega) sz s.heap.objs.size (.ref s.heap.objs.size) 0 (cn _ rfl) λh' tk acc c' hk hS hacc =>
     ⟨rfl,h',tk,acc,c',rfl,λb o e=>hk b o (bB (aS e)) (old b o e),hS,Sd hacc⟩
  refine ai (yx (aJ ⟨Iv _ (by trivial),j4 add λr s' hr=>?_⟩));obtain⟨rfl,h',tk,acc,c',rfl,hk,hS,hv⟩:=hr;show wpAny _ A (load s.heap.objs.size>>=λo=>match o.data with | .seq xs _=>pure xs.toList|_=>unsupported "internal:collect") _ _ _;refine ai (wpAny_load hS ?_);exact aJ (q _ _ hv (I.kept hk))
 ·obtain rfl:u = .ref a:=r
  obtain⟨its,hl,rv⟩:∃its:List Value,s.heap.IsList a its.toArray/\Vals xs its:=by
   rcases ha with ha|⟨o,its,n,e1,e2,e0,e3,e4,e6⟩
   ·obtain⟨_,its,n,rv,e⟩:=ha.ok I.hok
    exact⟨its,⟨_,e,rfl,n,rfl⟩,rv⟩
   ·exact⟨its.toList,⟨o,I.cw _ _ e1,e2,n,by simpa using e3⟩,e6⟩
  refine collect_list hl (q _ _ rv (I.kept λb o e=>?_)) (by rw[<- rv.length];omega);rw[mF _ _ _ _ (bB (aS e))];exact aV _ e
end
section
variable {X:Cx} {pins:List (Addr × Obj)} {σ:St} {G0:Hp} {s:Shared} {A:Around} {E:Value->Shared->Prop} {a kS p:Addr} {e1:Nat} {qual x:Str} {params:Arguments} {body:Expr} {scope:Scope} {fr:List (Str × Nat)} {tb:TE}
 {xs:List V} {its:List Value} {R:PySem.Fin->Shared->Prop} {Kp:Nat->V->Hp->Prop}
structure tS (X:Cx) (qual x:Str) (params:Arguments) (body:Expr) (scope:Scope) (fr:List (Str × Nat)) (tb:TE):Prop where
 blk:gJ X scope fr
 sc:tT [x] (fr.map (·.1)) scope
 bind:∀(cl:List (Str × Addr)) (pm cd ctv:Value) (us:List Value),us.length=1->bindArgs (W.kla_fn "<lambda>" qual params body scope cl pm cd ctv) ⟨us,[]⟩=pure ([x].zip us)
 run:∀(A:Around) (s:Shared) (H:Hp) (p c:Addr),A.guards=X.A.guards->A.units<=X.A.units+2->A.depth=X.A.depth->PE (qZ X.prog X.w X.K X.mg X.base ([x]++fr.map (·.1)) qual scope p (.ref c) (cu X.env.cells scope.names []) A X.stack s H) body tb
theorem sort_keys(hA:A.frames=X.A.frames)(hd:A.handled=none)(hr:A.depth<recursionLimit)(o8:A.guards=X.A.guards/\A.units<=X.A.units+2/\A.depth=X.A.depth)(KL:tS X qual x params body scope fr tb)(hlen:its.length<1000)
  (I:Inv X ((a,seqObj "list" #[] e1)::pins) σ G0 s) (hkS:G0 kS=some (.lst [])) (L:iz G0 p qual params body scope (cu X.env.cells scope.names [])) (rv:Vals xs its)
  (mono:∀i z H H',Kp i z H->dQ kS H H'->Kp i z H') (turn:∀(i:Nat) y,xs[i]?=some y->∀H3,dQ kS G0 H3->(∃kv,H3 kS=some (.lst kv))->tb (some y::lamσ fr σ) H3 λz H4=>Kp i z H4/\Same H3 H4)
  (fin:∀(kv:List V) (G:Hp) (s':Shared) (keys:List Value) (n:Nat),kv.length=xs.length->(∀(i:Nat) z,kv[i]?=some z->Kp i z G)->Inv X ((a,seqObj "list" #[] e1)::pins) σ G s'->G kS=some (.lst kv)->dQ kS G0 G ->
   s'.heap.get? kS=some (seqObj "list" keys.toArray n)->Vals kv keys->wpAny (model X.prog X.w) A (ksk_end a false its.toArray e1 (.ref kS) keys.toArray) R E s') :
  wpAny (model X.prog X.w) A (ksk_rest a (.ref p) false its.toArray e1 (.ref kS)) R E s:=by
 have big:(1000:Nat)<=sizeLine:=by trivial
 unfold ksk_rest;refine ai (qN (ai ?_))
 first
  |rw[List.forIn_toArray]
  |rw[<- Hn]
 refine ksk_fold (λi s'=>∃(kv:List V) (G:Hp),kv.length=i/\(∀(j:Nat) z,kv[j]?=some z->Kp j z G)/\Inv X ((a,seqObj "list" #[] e1)::pins) σ G s'/\G kS=some (.lst kv)/\dQ kS G0 G) its 0 s
  ⟨[],G0,rfl,λj z e=>by simp at e,I,hkS,λb o _ e=>e⟩ ?_ ?_
 ·rintro j v s' hv ⟨kv,G,hl,hK,J,hG,sm⟩
  rw[Nat.zero_add]at hl ⊢;obtain⟨y,hy,ry⟩:∃y,xs[j]?=some y/\RelV y v:=by
   have hj:j<xs.length:=by rw[rv.length];exact(bJ.mp hv).1
   obtain⟨u,e1,e2⟩:=rv.get (aA hj);rw[hv]at e1;cases e1;exact⟨_,aA hj,e2⟩
  have hj:j<its.length:=(bJ.mp hv).1;have LG:iz G p qual params body scope (cu X.env.cells scope.names []):=by
   obtain⟨c,o,u,h1,h2,h3⟩:=L.ex;exact⟨c,o,u,sm _ _ (fZ h1 hkS (by intro z;cases z)) h1,h2,sm _ _ (fZ h3 hkS (by intro z;cases z)) h3⟩
  refine ai (oz (eI (Yq (E:=λ_ _=>False) KL.blk KL.sc J LG hA hr hd KL.bind (λc=>KL.run A s' G p c o8.1 o8.2.1 o8.2.2) (vs:=[y]) (us:=[v]) rfl (.cons ry .nil) (turn j y hy G sm ⟨_,hG⟩)) (λk s2 ⟨z,H4,J4,rz,hz,s4⟩=>?_) λ_ _ z=>z.elim));have g4:=s4 _ _ hG;obtain⟨_,ks,n,rk,lk,ek⟩:=J4.jP g4;refine ai (listUpdate_at ek rfl ?_ (by show(ks.toArray).size<=sizeLine;rw[bV];omega) (by show(ks.toArray.push k).size<=sizeLine+1;rw[Array.size_push,bV];omega));have J5:=J4.pE (f:=(·.push k)) (its':=ks++[k]) (ys:=kv++[z]) (t':=s2.toks) g4 ek (by simp) (rk.append (.cons rz .nil)) (by rw[cz,mB];omega);have sx:dQ kS H4 (upd H4 kS (.lst (kv++[z]))):=λb o hb e=>by rw[aF hb];exact e
  refine aJ ⟨rfl,kv++[z],_,by rw[cz,mB,hl],λi q e=>?_,J5,au,λb o hb e=>sx b o hb (s4 b o (sm b o hb e))⟩
  by_cases hi:i<kv.length
  ·rw[jw hi]at e
   exact mono _ _ _ _ (mono _ _ _ _ (hK i q e) λb o _ e=>s4 b o e) sx
  ·rw[iR (oq hi)]at e
   have hi2:i - kv.length=0:=by
    have:=(bJ.mp e).1;rw[mB]at this;omega
   rw[hi2]at e;cases e;obtain rfl:i=j:=by omega
   exact mono _ _ _ _ hz sx
 ·rintro s' ⟨kv,G,hl,hK,J,hG,sm⟩
  obtain⟨_,ks,n,rk,lk,ek⟩:=J.jP hG;refine ai (ud ek rfl ?_);exact fin kv G s' ks n (by rw[hl,rv.length];omega) hK J hG sm ek rk
theorem acx {keys:List Value} {n:Nat} {G:Hp} {kv:List V} {st:SortSt} {ys:List V} {out:List Value} (I:Inv X ((a,seqObj "list" #[] e1)::pins) σ G s) (hkS:G kS=some (.lst kv)) (ek:s.heap.get? kS=some (seqObj "list" keys.toArray n))
  (hz:keys.length<=sizeLine) (fa:cW X pins G a) (hf:failedOf st=none) (ho:((arrOf st).map (·.2)).toList=out) (rv:Vals ys out) (rY:out.length<=sizeLine)
  (q:∀s',Inv X pins σ (upd (upd G kS (.lst [])) a (.lst ys)) s'->R (.done (.ret .none)) s'):wpAny (model X.prog X.w) A (ksk_tail a false e1 (.ref kS) st) R E s:=by
 have ea:=(I.pin (a,seqObj "list" #[] e1) (gP _ (bX ..))).1;have Ol:a≠kS:=λz=>by rw[<- z,fa.1]at hkS;cases hkS
 have ho':(arrOf st).map (·.2)=out.toArray:=by rw[<- ho]
 unfold ksk_tail;dsimp only;refine ai (listUpdate_at ek rfl ?_ (by show(keys.toArray).size<=sizeLine;rw[bV];exact hz) (dP _));have J1:=I.pE (f:=λ_=>#[]) (its':=[]) (ys:=[]) (t':=s.toks) hkS ek rfl .nil (dP _);have oW:(s.heap.update kS (Obj.mapSeq λ_=>(#[]:Array Value))).get? a=some (seqObj "list" #[] e1):=by rw[mF _ _ _ _ Ol];exact ea
 refine ai (uq (ai (seqEpoch_at oW rfl (ai (listUpdate_at oW rfl ?_ (dP _) (by show((arrOf st).map (·.2)).size<=sizeLine+1;rw[ho',bV];omega))))));rw[hf];simp only[bne_self_eq_false,jq,h9];refine aJ (q _ ?_);have K1:Inv X pins σ (upd G kS (.lst [])) {s with heap:=s.heap.update kS (Obj.mapSeq λ_=>(#[]:Array Value)),toks:=s.toks}:=J1.vV λp hp=>(J1.pin p (gP _ (b_ _ hp)));have gn:upd G kS (.lst []) a=none:=by rw[aF Ol];exact fa.1
 have keep:∀b o,b≠a->(s.heap.update kS (Obj.mapSeq λ_=>(#[]:Array Value))).get? b=some o->((s.heap.update kS (Obj.mapSeq λ_=>(#[]:Array Value))).update a (Obj.mapSeq λ_=>(arrOf st).map (·.2))).get? b=some o:=λb o hb e=>by
  rw[mF _ _ _ _ hb];exact e
 have hit:∃c,((s.heap.update kS (Obj.mapSeq λ_=>(#[]:Array Value))).update a (Obj.mapSeq λ_=>(arrOf st).map (·.2))).get? a=some (seqObj "list" out.toArray c):=by
  rw[ho'];exact⟨_,yh oW λ_=>out.toArray⟩
 obtain⟨c,hit⟩:=hit;have nh:∀b u,upd G kS (.lst []) b=some u->b≠a:=λb u e z=>by rw[z,gn]at e;cases e
 refine Inv.step (s:={s with heap:=s.heap.update kS (Obj.mapSeq λ_=>(#[]:Array Value)),toks:=s.toks}) (g':=s.gens) (d':=s.drawn) (t':=s.toks) (ch:=[a]) K1 (λb hb=>?_) (λb o _ _ hc e _=>keep b o (λz=>hc (by simp[z])) e) (λb o _ _ hc e _=>⟨o.slots,keep b o (λz=>hc (by simp[z])) e⟩) (λb o hc _ n=>?_) (λb o hc e=>⟨o,keep b o (λz=>hc (by simp[z])) e⟩)
  (λb zs e=>?_) (λb o u e=>?_) (λb ps e=>?_) (λm hm=>?_) (λb u e=>?_) K1.bare
 ·obtain rfl:b=a:=by simpa using hb
  exact⟨fa.2.2.2.1,fa.2.1,fa.2.2.2.2.1,fa.2.2.2.2.2⟩
 ·rw[aF (λz=>hc (by simp[z]))];exact n
 ·rw[aF (nh b _ e)];exact e
 ·rw[aF (nh b _ e)];exact e
 ·exact⟨#[],by rw[aF (nh b _ e),e];simp⟩
 ·obtain⟨o,es,ep,h1,h2⟩:=hm
  exact⟨o,es,ep,keep _ o fa.2.1.symm h1,h2⟩
 ·by_cases hb:b=a
  ·subst hb
   rw[au]at e;cases e;exact⟨by rw[rv.length];exact rY,out,c,rv,hit⟩
  ·rw[aF hb]at e
   refine(K1.hok b u e).stay (λd v hd' r=>keep d v ?_ r) (λd r=>by rw[aF (nh d _ r)];exact r) (λd xs r=>by rw[aF (nh d _ r)];exact r) λd ob u r=>by rw[aF (nh d _ r)];exact r
   rcases hd' with rfl|hd'
   ·exact hb
   ·exact nh d _ hd'
end
section
variable {X:Cx} {pins:List (Addr × Obj)} {σ:St} {H:Hp} {s:Shared} {qual x:Str} {params:Arguments} {body:Expr} {scope:Scope} {fr:List (Str × Nat)} {tb:TE} {p:Addr} {v:V} {u:Value} {xs:List V} {kz:List Int} {Q:VK} {E:Value->Shared->Prop}
end
section
variable {X:Cx} {x:Str} {params:Arguments} {body e:Expr} {scope:Scope} {fr:List (Str × Nat)} {tb ti:TE} {c P:Addr} {p0 sr kpos pos:Pos}
noncomputable def vL (B:V->Hp->Prop):List V->Hp->Prop:=λvs H=>match vs with
 | [v]=>B v H
 |_=>False
theorem vL.get{B:V->Hp->Prop}{vs:List V}{H:Hp}(h:vL B vs H):∃v,vs = [v]/\B v H:=by
 unfold vL at h
 split at h
 ·exact⟨_,rfl,h⟩
 ·exact h.elim
theorem mI.same{K:W.Frag}{H H':Hp}{v:V}{xs:List V}(h:mI K H v xs)(s:Same H H'):mI K H' v xs:=by
 rcases h with⟨r,n,h1,h2,h3⟩|⟨r,h1,h2⟩
 ·exact .inl ⟨r,n,h1,s _ _ h2,h3⟩
 ·exact .inr ⟨r,h1,s.seq h2⟩
end
def ab2:List V->Hp->VK->Prop:=λvs H Q=>∃j,vs = [.int j]/\∀p,H p=none->Q (.ref p) (upd H p (.rng 0 j))
theorem Ud {X:Cx}:dz X (.type "range") ab2:=by
 intro pins s σ H vs us Q I rv h;obtain⟨j,rfl,q⟩:=h;obtain⟨u,rfl,t,rfl⟩:=rv.one;refine call_range_1 ⟨.ref s.heap.objs.size,_,I.laid (o:=.rng 0 j) (λb u e=>aV _ e) (aY _) ⟨_,_,_,cn _ rfl⟩,rfl,q _ I.fresh⟩
section
variable {P:Program} {w:World} {K:W.Frag} {mg:Str->Option Value} {base:Heap}
end
end _L
namespace _M
open PySem PySem.Spec PyProof.Rows _L
noncomputable def g9 (n:Nat) (R:Nat->Nat->Bool) (a:Nat):Nat:=((List.range n).map (R a)).count true
theorem abp{α β:Type}{f:α->β}{l:List α}{m:List β}(h:m.Perm (l.map f)):∃l':List α,m=l'.map f/\l'.Perm l:=by
 generalize e:l.map f=k at h
 induction h generalizing l with
 |nil =>
  have:l = []:=by simpa using e
  subst this;exact⟨[],rfl,.nil⟩
 |cons x _ ih =>
  cases l with
  |nil=>cases e
  |cons a l =>
   rw[dr,tU]at e;obtain⟨l',h1,h2⟩:=ih e.2;exact⟨a::l',by rw[h1,dr,e.1],h2.cons a⟩
 |swap x y _ =>
  cases l with
  |nil=>cases e
  |cons a l =>
   cases l with
   |nil=>simp at e
   |cons c l =>
    rw[dr,dr,tU,tU]at e;refine⟨c::a::l,?_,.swap _ _ _⟩;rw[dr,dr,e.1,e.2.1,e.2.2]
 |trans _ _ ih1 ih2 =>
  obtain⟨l1,h1,h2⟩:=ih2 e;obtain⟨l2,h3,h4⟩:=ih1 h1.symm;exact⟨l2,h3,h4.trans h2⟩
section
variable {P:Program} {w:World} {K:W.Frag} {mg:Str->Option Value} {base:Heap} {f:Addr} {fd:FuncData}
end
end _M
namespace Cl
section
variable (g:Nat->List Nat) (b:Nat)
noncomputable def climbs:Nat->Nat->List (List Nat)
 |0,a=>if a=b then[[a]]else[]
 |k+1,a=>if a=b then[[a]]else(g a).flatMap λd=>(climbs k d).map (a::·)
end
section
variable {g:Nat->List Nat} {b:Nat} {u:Nat->Nat}
noncomputable def W (g:Nat->List Nat) (b N a:Nat):Nat:=(climbs g b N a).length
structure nX (g:Nat->List Nat) (b a:Nat) (c:List Nat):Prop where
 hd:c.head? = some a
 last:c.getLast? = some b
 go:∀i,i+1<c.length->c.getD (i+1) 0∈g (c.getD i 0)
theorem X2{a x:Nat}{c:List Nat}(h:nX g b a (a::x::c)):nX g b x (x::c)/\x∈g a:=by
 refine⟨⟨rfl,by rw[<- h.last,List.getLast?_cons_cons],λi hi=>?_⟩,?_⟩
 ·have:=h.go (i+1) (by simpa using hi)
  simpa using this
 ·have:=h.go 0 (by simp)
  simpa using this
end
end Cl
namespace _M
open PySem PySem.Spec PyProof.Rows _L
noncomputable def gA (n:Nat) (R:Nat->Nat->Bool) (a:Nat):List Nat:=if a<n then Jo n R a else[]
theorem vC{n:Nat}{R:Nat->Nat->Bool}{a d:Nat}:d∈gA n R a ↔ a<n/\d<n/\bH n R a d=true:=by
 unfold gA
 by_cases h:a<n
 ·rw[if_pos h]
  unfold Jo;rw[cX,dO];exact⟨λz=>⟨h,z⟩,λz=>z.2⟩
 ·rw[if_neg h]
  exact⟨λz=>(nomatch z),λz=>absurd z.1 h⟩
theorem zD{p q:Nat->Bool}{x:Nat}:∀{l:List Nat},x∈l->(∀y∈l,p y=true->q y=true)->p x=false->q x=true->l.countP p<l.countP q
 | [],h,_,_,_=>nomatch h
 |y::l,h,hpq,h1,h2=>by
  rw[List.countP_cons,List.countP_cons];have le:l.countP p<=l.countP q:=List.countP_mono_left λz hz=>hpq z (b_ _ hz)
  by_cases e:x=y
  ·subst e
   rw[h1,h2];simp;omega
  ·have hx:x∈l:=by
    rcases bp.mp h with z|z
    ·exact absurd z e
    ·exact z
   have:=zD hx (λz hz=>hpq z (b_ _ hz)) h1 h2;have hy:=hpq y bX;cases hp:p y with
   |false=>simp;omega
   |true=>rw[hy hp];simp;omega
theorem nO(n:Nat)(R:Nat->Nat->Bool)(a:Nat):g9 n R a=(List.range n).countP (R a):=by
 unfold g9;rw[List.count,List.countP_map];exact List.countP_congr λx _=>by simp
theorem Hh(n:Nat)(R:Nat->Nat->Bool)(a:Nat):g9 n R a<=n:=by
 rw[nO];have:=List.countP_le_length (p:=R a) (l:=List.range n);rw[jx]at this;exact this
theorem R9{n:Nat}{R:Nat->Nat->Bool}(G:Good n R):∀a d,d∈gA n R a->g9 n R d<g9 n R a:=λa d h=>by
 obtain⟨ha,hd,hs⟩:=vC.mp h;have hb:=G6 hs;unfold bS at hb;rw[bF,eY,fU]at hb;rw[nO,nO];refine zD (x:=a) (dO.mpr ha) (λy hy h=>G.trans ha hd (dO.mp hy) hb.2 h) ?_ (G.refl a ha);cases e:R d a with
 |false=>rfl
 |true=>exact absurd (G.anti a d ha hd hb.2 e) hb.1
section
variable {n:Nat} {R:Nat->Nat->Bool}
end
structure Md (n:Nat) (R:Nat->Nat->Bool) (J N:Nat->Nat->Nat):Prop where
 G:Good n R
 j:∀a b,a<n->b<n->bG n R a b (J a b)
 m:∀a b,a<n->b<n->bM n R a b (N a b)
 md:∀a b c,a<n->b<n->c<n->R a c=true->J a (N b c)=N (J a b) c
theorem G7{n:Nat}{R:Nat->Nat->Bool}{a b:Nat}:bH n R a b=true ↔ a≠b/\R a b=true/\∀t,t<n->R a t=true->R t b=true->t=a\/t=b:=by
 unfold bH bS;rw[bF,bF,eY,fU,eY,Hz]
 constructor
 ·rintro⟨⟨h1,h2⟩,h3⟩
  refine⟨h1,h2,λt ht q1 q2=>?_⟩;apply nT
  intro z;have z1:a≠t:=λe=>z (.inl e.symm);have z2:t≠b:=λe=>z (.inr e);exact h3 t (dO.mpr ht) (by rw[q1,q2,cg z1,cg z2];rfl)
 ·rintro⟨h1,h2,h3⟩
  refine⟨⟨h1,h2⟩,λt ht q=>?_⟩;simp only[bF,eY,fU]at q
  rcases h3 t (dO.mp ht) q.1.2 q.2.2 with e|e
  ·exact q.1.1 e.symm
  ·exact q.2.1 e
section
variable {n:Nat} {R:Nat->Nat->Bool} {J N:Nat->Nat->Nat} {a b c x y:Nat}
theorem Md.fL(M:Md n R J N)(ha:a<n)(hb:b<n):J a b<n:=(M.j a b ha hb).1
theorem Md.mlt(M:Md n R J N)(ha:a<n)(hb:b<n):N a b<n:=(M.m a b ha hb).1
theorem Md.jl(M:Md n R J N)(ha:a<n)(hb:b<n):R a (J a b)=true/\R b (J a b)=true:=by
 have h:=(M.j a b ha hb).2 _ (M.fL ha hb);rw[M.G.refl _ (M.fL ha hb)]at h;have h:=h.symm
 rwa [bF]at h
theorem Md.ml(M:Md n R J N)(ha:a<n)(hb:b<n):R (N a b) a=true/\R (N a b) b=true:=by
 have h:=(M.m a b ha hb).2 _ (M.mlt ha hb);rw[M.G.refl _ (M.mlt ha hb)]at h;have h:=h.symm
 rwa [bF]at h
theorem Md.pB(M:Md n R J N)(ha:a<n)(hb:b<n)(hc:c<n)(h1:R a c=true)(h2:R b c=true):R (J a b) c=true:=by
 rw[(M.j a b ha hb).2 c hc,h1,h2];rfl
theorem Md.m_(M:Md n R J N)(ha:a<n)(hb:b<n)(hc:c<n)(h1:R c a=true)(h2:R c b=true):R c (N a b)=true:=by
 rw[(M.m a b ha hb).2 c hc,h1,h2];rfl
theorem Md.jc(M:Md n R J N)(ha:a<n)(hb:b<n):J a b=J b a:=
 M.G.anti _ _ (M.fL ha hb) (M.fL hb ha) (M.pB ha hb (M.fL hb ha) (M.jl hb ha).2 (M.jl hb ha).1) (M.pB hb ha (M.fL ha hb) (M.jl ha hb).2 (M.jl ha hb).1)
theorem Md.mc(M:Md n R J N)(ha:a<n)(hb:b<n):N a b=N b a:=
 M.G.anti _ _ (M.mlt ha hb) (M.mlt hb ha) (M.m_ hb ha (M.mlt ha hb) (M.ml ha hb).2 (M.ml ha hb).1) (M.m_ ha hb (M.mlt hb ha) (M.ml hb ha).2 (M.ml hb ha).1)
theorem Md.C_(M:Md n R J N)(ha:a<n)(hb:b<n)(h:R a b=true):J a b=b:=M.G.anti _ _ (M.fL ha hb) hb (M.pB ha hb hb h (M.G.refl _ hb)) (M.jl ha hb).2
theorem Md.Ob(M:Md n R J N)(ha:a<n)(hb:b<n)(h:R a b=true):N a b=a:=M.G.anti _ _ (M.mlt ha hb) ha (M.ml ha hb).1 (M.m_ ha hb ha (M.G.refl _ ha) h)
open Classical in
noncomputable def rk (G:Good n R) (x:Nat):Nat:=if h:∃y,y<n/\x<n/\bH n R y x=true then rk G h.choose+1 else 0
termination_by n - g9 n R x
decreasing_by
 obtain⟨h1,h2,h3⟩:=h.choose_spec;have:=R9 G _ _ (vC.mpr ⟨h1,h2,h3⟩);have:=Hh n R h.choose;omega
end
noncomputable def cY {ρ:Type} (inn out:ρ->Nat):Nat->List ρ->Nat->Prop
 |s,[],e=>s=e
 |s,r::l,e=>inn r=s/\cY inn out (out r) l e
section
variable {ρ τ:Type} {inn out:ρ->Nat} {s e e':Nat} {l l':List ρ}
theorem cY.app:∀{s:Nat} {l:List ρ},cY inn out s l e->cY inn out e l' e'->cY inn out s (l++l') e'
 |s,[],h,h'=>by cases(show s=e from h);exact h'
 |s,r::l,h,h'=>⟨h.1,cY.app h.2 h'⟩
theorem cY.map{f:τ->ρ}:∀{s:Nat} {l:List τ},cY (λr=>inn (f r)) (λr=>out (f r)) s l e->cY inn out s (l.map f) e
 |s,[],h=>h
 |s,r::l,h=>⟨h.1,cY.map h.2⟩
theorem NZ{x:Nat->Nat}{p:Nat->Bool}:∀(m:Nat),(∀q,q<m->p q=false->x q=x (q+1))->cY x (λq=>x (q+1)) (x 0) ((List.range m).filter p) (x m)
 |0,_=>rfl
 |m+1,h=>by
  rw[iU,qu];refine cY.app (NZ m λq hq=>h q (by omega)) ?_;cases hp:p m with
  |true=>rw[List.filter_cons_of_pos hp];exact⟨rfl,rfl⟩
  |false=>rw[List.filter_cons_of_neg (by rw[hp];decide)];exact h m (qF _) hp
theorem cY.get:∀{s:Nat} {l:List ρ},cY inn out s l e->∀(k:Nat) (r:ρ),l[k]?=some r->(s::l.map out).getD k 0=inn r
 |s,[],_,k,r,h=>by simp at h
 |s,q::l,h,0,r,hr=>by
  obtain rfl:q=r:=by simpa using hr
  exact h.1.symm
 |s,q::l,h,k+1,r,hr=>by
  have:=cY.get h.2 k r (by simpa using hr);exact this
end
theorem FH{α:Type}{rk:α->Int}:∀{l l':List α},l.Pairwise (λx y=>rk x<rk y)->l'.Pairwise (λx y=>rk x<rk y)->(∀x,x∈l ↔ x∈l')->l=l'
 | [],[],_,_,_=>rfl
 | [],y::l',_,_,h=>absurd ((h y).mpr bX) (by simp)
 |x::l,[],_,_,h=>absurd ((h x).mp bX) (by simp)
 |x::l,y::l',h1,h2,h=>by
  rw[List.pairwise_cons]at h1 h2;have e:x=y:=by
   rcases bp.mp ((h x).mp bX)with z|z
   ·exact z
   ·rcases bp.mp ((h y).mpr bX)with w|w
    ·exact w.symm
    ·have q1:=h1.1 y w
     have q2:=h2.1 x z;omega
  subst e;rw[FH h1.2 h2.2 λz=>⟨λhz=>?_,λhz=>?_⟩]
  ·rcases bp.mp ((h z).mp (b_ _ hz))with w|w
   ·have:=h1.1 z hz
    rw[w]at this;omega
   ·exact w
  ·rcases bp.mp ((h z).mpr (b_ _ hz))with w|w
   ·have:=h2.1 z hz
    rw[w]at this;omega
   ·exact w
theorem KS{α β:Type}{f g:α->List β}:∀{l:List α},(∀x∈l,f x=g x)->l.flatMap f=l.flatMap g
 | [],_=>rfl
 |x::l,h=>by rw[qw,qw,h x bX,KS λy hy=>h y (b_ _ hy)]
structure dm (n:Nat) (R:Nat->Nat->Bool) (cs:List Nat):Prop where
 pos:0<cs.length
 lt:∀x∈cs,x<n
 adj:∀i,i+1<cs.length->cs.getD i 0≠cs.getD (i+1) 0/\R (cs.getD i 0) (cs.getD (i+1) 0)=true
theorem rH{cs:List Nat}{i:Nat}(h:i<cs.length):cs.getD i 0∈cs:=by
 rw[aQ,aA h];exact fC h
section
variable {n:Nat} {R:Nat->Nat->Bool} {J N:Nat->Nat->Nat} {a a' b b':Nat} {cs ds:List Nat} {r:Nat × Nat}
theorem dm.at(h:dm n R cs){i:Nat}(hi:i<cs.length):cs.getD i 0<n:=h.lt _ (rH hi)
theorem dm.le(G:Good n R)(h:dm n R cs){i:Nat}:∀{j:Nat},i<=j->j<cs.length->R (cs.getD i 0) (cs.getD j 0)=true
 |0,h1,h2=>by
  obtain rfl:i=0:=by omega
  exact G.refl _ (h.at h2)
 |j+1,h1,h2=>by
  by_cases e:i=j+1
  ·rw[e];exact G.refl _ (h.at h2)
  ·exact G.trans (h.at (by omega)) (h.at (by omega)) (h.at h2) (dm.le G h (by omega) (by omega)) (h.adj j h2).2
theorem adv(G:Good n R)(ha:a<n)(hb:b<n)(ne:a≠b)(h:R a b=true):g9 n R b<g9 n R a:=by
 rw[nO,nO];refine zD (dO.mpr ha) (λy hy q=>G.trans ha hb (dO.mp hy) h q) ?_ (G.refl a ha);cases e:R b a with
 |false=>rfl
 |true=>exact absurd (G.anti _ _ ha hb h e) ne
theorem adx(G:Good n R)(ha:a<n):0<g9 n R a:=by
 rw[nO];exact List.countP_pos_iff.mpr ⟨a,dO.mpr ha,G.refl a ha⟩
theorem dm.up(G:Good n R)(h:dm n R cs){i:Nat}:∀{j:Nat},i<j->j<cs.length->g9 n R (cs.getD j 0)<g9 n R (cs.getD i 0)
 |0,h1,_=>by omega
 |j+1,h1,h2=>by
  have q:=adv G (h.at (by omega)) (h.at h2) (h.adj j h2).1 (h.adj j h2).2
  by_cases e:i=j
  ·rw[e];exact q
  ·exact Ii q (dm.up G h (by omega) (by omega))
theorem dm.len(G:Good n R)(h:dm n R cs):cs.length<=n:=by
 have go:∀j,j<cs.length->j+g9 n R (cs.getD j 0)<=n:=by
  intro j
  induction j with
  |zero=>intro hj;have:=Hh n R (cs.getD 0 0);omega
  |succ j ih =>
   intro hj;have h1:=ih (by omega);have h2:=h.up G (i:=j) (j:=j+1) (by omega) hj;omega
 have:=go (cs.length - 1) (by have:=h.pos;omega);have:=adx G (h.at (i:=cs.length - 1) (by have:=h.pos;omega));have:=h.pos;omega
theorem Md.Sh(M:Md n R J N)(ha:a<n)(ha':a'<n)(hb:b<n)(hb':b'<n)(haa:R a a'=true)(hbb:R b b'=true):J (N a' b') (J a (N a' b))=J a (N a' b')/\N (N a' b') (J a (N a' b))=J (N a b') (N a' b)/\R (J a (N a' b)) (J a (N a' b'))=true/\R (N a' b) (N a' b')=true:=by
 have hh:=M.mlt ha' hb';have hk:=M.mlt ha' hb;have kh:R (N a' b) (N a' b')=true:=M.m_ ha' hb' hk (M.ml ha' hb).1 (M.G.trans hk hb hb' (M.ml ha' hb).2 hbb);have hx:=M.fL ha hk;have hx':=M.fL ha hh;have xx:R (J a (N a' b)) (J a (N a' b'))=true:=M.pB ha hk hx' (M.jl ha hh).1 (M.G.trans hk hh hx' kh (M.jl ha hh).2);refine⟨?_,?_,xx,kh⟩
 ·refine M.G.anti _ _ (M.fL hh hx) hx' (M.pB hh hx hx' (M.jl ha hh).2 xx) (M.pB ha hh (M.fL hh hx) ?_ (M.jl hh hx).1)
  exact M.G.trans ha hx (M.fL hh hx) (M.jl ha hk).1 (M.jl hh hx).2
 ·have md:=M.md (N a' b) a (N a' b') hk ha hh kh
  have e:N a (N a' b')=N a b':=by
   have q1:=M.mlt ha hh;have q2:=M.mlt ha hb';refine M.G.anti _ _ q1 q2 (M.m_ ha hb' q1 (M.ml ha hh).1 (M.G.trans q1 hh hb' (M.ml ha hh).2 (M.ml ha' hb').2)) (M.m_ ha hh q2 (M.ml ha hb').1 (M.m_ ha' hb' q2 (M.G.trans q2 ha ha' (M.ml ha hb').1 haa) (M.ml ha hb').2))
  rw[e]at md;rw[M.mc hh hx,M.jc ha hk,<- md,M.jc hk (M.mlt ha hb')]
theorem Md.Si(M:Md n R J N)(ha:a<n)(ha':a'<n)(hb:b<n)(hb':b'<n)(haa:R a a'=true)(hbb:R b b'=true):
  J (N a b') (N a' b)=N a' b' ↔ J a (N a' b)=J a (N a' b'):=by
 obtain⟨z1,z2,z3,z4⟩:=M.Sh ha ha' hb hb' haa hbb;have hh:=M.mlt ha' hb';have hx:=M.fL ha (M.mlt ha' hb)
 constructor
 ·intro e
  rw[e]at z2;have q:=(M.ml hh hx).2;rw[z2]at q;rw[<- z1];exact(M.C_ hh hx q).symm
 ·intro e
  rw[<- z2];refine M.Ob hh hx ?_;rw[e];exact(M.jl ha hh).2
noncomputable def dA (J N:Nat->Nat->Nat) (cs ds:List Nat) (r:Nat × Nat):Nat:=J (N (cs.getD r.1 0) (ds.getD (r.2+1) 0)) (N (cs.getD (r.1+1) 0) (ds.getD r.2 0))
noncomputable def cJ (N:Nat->Nat->Nat) (cs ds:List Nat) (r:Nat × Nat):Nat:=N (cs.getD (r.1+1) 0) (ds.getD (r.2+1) 0)
noncomputable def eN (J N:Nat->Nat->Nat) (cs ds:List Nat) (r:Nat × Nat):Bool:=!decide (dA J N cs ds r=cJ N cs ds r)
noncomputable def jM (J N:Nat->Nat->Nat) (cs ds:List Nat) (r:Nat × Nat):Nat:=J (cs.getD r.1 0) (N (cs.getD (r.1+1) 0) (ds.getD r.2 0))
noncomputable def dX (J N:Nat->Nat->Nat) (cs ds:List Nat) (r:Nat × Nat):Nat:=J (cs.getD r.1 0) (cJ N cs ds r)
noncomputable def gG (J N:Nat->Nat->Nat) (cs ds:List Nat) (p:Nat):List (Nat × Nat):=((List.range (ds.length - 1)).filter λq=>eN J N cs ds (p,q)).map λq=>(p,q)
noncomputable def aO (J N:Nat->Nat->Nat) (cs ds:List Nat):List (Nat × Nat):=(List.range (cs.length - 1)).flatMap (gG J N cs ds)
noncomputable def cH (J N:Nat->Nat->Nat) (cs ds:List Nat):List (Nat × Nat):=(List.range (ds.length - 1)).flatMap λq=>((List.range (cs.length - 1)).filter λp=>eN J N cs ds (p,q)).map λp=>(p,q)
theorem ik:r∈aO J N cs ds ↔ r.1+1<cs.length/\r.2+1<ds.length/\dA J N cs ds r≠cJ N cs ds r:=by
 unfold aO gG;simp only[kT,dc,cX,dO,eN,eY,fU]
 constructor
 ·rintro⟨p,h1,q,⟨h2,h3⟩,rfl⟩
  exact⟨by show p+1<_;omega,by show q+1<_;omega,h3⟩
 ·rintro⟨h1,h2,h3⟩
  exact⟨r.1,by omega,r.2,⟨by omega,h3⟩,rfl⟩
theorem vF:r∈cH J N cs ds ↔ r∈aO J N cs ds:=by
 rw[ik];unfold cH;simp only[kT,dc,cX,dO,eN,eY,fU]
 constructor
 ·rintro⟨q,h1,p,⟨h2,h3⟩,rfl⟩
  exact⟨by show p+1<_;omega,by show q+1<_;omega,h3⟩
 ·rintro⟨h1,h2,h3⟩
  exact⟨r.2,by omega,r.1,⟨by omega,h3⟩,rfl⟩
noncomputable def gZ (r:Nat × Nat):Int:=(r.2:Int)*1000+(r.1:Int)
theorem adb(h:cs.length<=1000):(cH J N cs ds).Pairwise (λx y=>gZ x<gZ y):=by
 unfold cH;rw[S4];refine⟨λq _=>?_,tZ.imp λ{p q} hpq x hx y hy=>?_⟩
 ·rw[og]
  refine(tZ.filter _).imp λ{x y} hxy=>?_;unfold gZ;dsimp only;omega
 ·obtain⟨x',hx',rfl⟩:=dc.mp hx
  obtain⟨y',hy',rfl⟩:=dc.mp hy;have:=dO.mp (cX.mp hx').1;have:=dO.mp (cX.mp hy').1;unfold gZ;dsimp only;omega
theorem Vx:(aO J N cs ds).Nodup:=by
 unfold aO gG List.Nodup;rw[S4];refine⟨λq _=>?_,tZ.imp λ{p q} hpq x hx y hy=>?_⟩
 ·rw[og]
  refine(tZ.filter _).imp λ{x y} hxy e=>?_;injection e with _ e
  omega
 ·obtain⟨x',_,rfl⟩:=dc.mp hx
  obtain⟨y',_,rfl⟩:=dc.mp hy;intro e;injection e with e _
  omega
theorem acE{tn:List (Nat × Nat)}(h:cs.length<=1000)(hp:tn.Perm (aO J N cs ds))(hs:tn.Pairwise (λx y=>gZ x<=gZ y)):tn=cH J N cs ds:=by
 have nd:tn.Nodup:=hp.nodup_iff.mpr Vx;refine FH ?_ (adb h) λx=>(hp.mem_iff).trans vF.symm;rw[tY]at hs ⊢;intro i j hi hj hij;have h1:=hs i j hi hj hij;have ne:tn[i]≠tn[j]:=(tY.mp nd) i j hi hj hij;have m1:=ik.mp (hp.mem_iff.mp (fC hi));have m2:=ik.mp (hp.mem_iff.mp (fC hj));generalize tn[i]=x at h1 ne m1;generalize tn[j]=y at h1 ne m2;obtain⟨x1,x2⟩:=x;obtain⟨y1,y2⟩:=y;unfold gZ at h1 ⊢;dsimp only at h1 m1 m2 ⊢;have:¬ (x1=y1/\x2=y2):=λz=>ne (by rw[z.1,z.2]);omega
structure Two (n:Nat) (R:Nat->Nat->Bool) (J N:Nat->Nat->Nat) (cs ds:List Nat):Prop where
 M:Md n R J N
 c:dm n R cs
 d:dm n R ds
 first:cs.getD 0 0=ds.getD 0 0
 last:cs.getD (cs.length - 1) 0=ds.getD (ds.length - 1) 0
theorem Two.swap(T:Two n R J N cs ds):Two n R J N ds cs:=⟨T.M,T.d,T.c,T.first.symm,T.last.symm⟩
theorem Two.sym(T:Two n R J N cs ds)(h1:r.1+1<cs.length)(h2:r.2+1<ds.length):dA J N ds cs r.swap=dA J N cs ds r/\cJ N ds cs r.swap=cJ N cs ds r:=by
 have p1:=T.c.at (i:=r.1) (by omega);have p2:=T.c.at h1;have q1:=T.d.at (i:=r.2) (by omega);have q2:=T.d.at h2;unfold dA cJ;dsimp only[Prod.swap];rw[T.M.mc q1 p2,T.M.mc q2 p1,T.M.mc q2 p2,T.M.jc (T.M.mlt p2 q1) (T.M.mlt p1 q2)];exact⟨rfl,rfl⟩
structure yC (n:Nat) (R:Nat->Nat->Bool) (J N:Nat->Nat->Nat) (lo hi inn out:Nat):Prop where
 ll:lo<n
 lh:hi<n
 li:inn<n
 vz:out<n
 ne:inn≠out
 r:R inn out=true
 ne':lo≠hi
 r':R lo hi=true
 up:J hi inn=out
 dn:N hi inn=lo
theorem Two.row(T:Two n R J N cs ds)(h:r∈aO J N cs ds):yC n R J N (dA J N cs ds r) (cJ N cs ds r) (jM J N cs ds r) (dX J N cs ds r):=by
 obtain⟨h1,h2,h3⟩:=ik.mp h;have p1:=T.c.at (i:=r.1) (by omega);have p2:=T.c.at h1;have q1:=T.d.at (i:=r.2) (by omega);have q2:=T.d.at h2;have pp:=(T.c.adj _ h1).2;have qq:=(T.d.adj _ h2).2;obtain⟨z1,z2,z3,z4⟩:=T.M.Sh p1 p2 q1 q2 pp qq;have z5:=T.M.Si p1 p2 q1 q2 pp qq;have hh:=T.M.mlt p2 q2;have hx:=T.M.fL p1 (T.M.mlt p2 q1);refine⟨T.M.fL (T.M.mlt p1 q2) (T.M.mlt p2 q1),hh,hx,T.M.fL p1 hh,λe=>h3 (z5.mpr e),z3,h3,?_,z1,z2⟩;have:=(T.M.ml hh hx).1;rw[z2]at this;exact this
theorem Two.NX(T:Two n R J N cs ds){p:Nat}(hp:p+1<cs.length):cY (jM J N cs ds) (dX J N cs ds) (cs.getD p 0) (gG J N cs ds p) (cs.getD (p+1) 0):=by
 have p1:=T.c.at (i:=p) (by omega);have p2:=T.c.at hp;have pp:=(T.c.adj _ hp).2;have hc:=T.c.pos;have hd:=T.d.pos;have q0:=T.d.at hd;have ql:=T.d.at (i:=ds.length - 1) (by omega);have G:=T.M.G;have L:=NZ (x:=λq=>J (cs.getD p 0) (N (cs.getD (p+1) 0) (ds.getD q 0))) (p:=λq=>eN J N cs ds (p,q)) (ds.length - 1) (λq hq hn=>by
  have q1:=T.d.at (i:=q) (by omega);have q2:=T.d.at (i:=q+1) (by omega);refine(T.M.Si p1 p2 q1 q2 pp (T.d.adj q (by omega)).2).mp ?_;show dA J N cs ds (p,q)=cJ N cs ds (p,q);exact pI (by simpa only[eN,Hr]using hn))
 have e0:J (cs.getD p 0) (N (cs.getD (p+1) 0) (ds.getD 0 0))=cs.getD p 0:=by
  rw[T.M.jc p1 (T.M.mlt p2 q0)];refine T.M.C_ (T.M.mlt p2 q0) p1 (G.trans (T.M.mlt p2 q0) q0 p1 (T.M.ml p2 q0).2 ?_);rw[<- T.first];exact T.c.le G (dP _) (by omega)
 have e1:J (cs.getD p 0) (N (cs.getD (p+1) 0) (ds.getD (ds.length - 1) 0))=cs.getD (p+1) 0:=by
  rw[T.M.Ob p2 ql (by rw[<- T.last];exact T.c.le G (by omega) (by omega))];exact T.M.C_ p1 p2 pp
 rw[e0,e1]at L;exact cY.map (f:=λq=>(p,q)) L
theorem Two.YJ(T:Two n R J N cs ds):cY (jM J N cs ds) (dX J N cs ds) (cs.getD 0 0) (aO J N cs ds) (cs.getD (cs.length - 1) 0):=by
 have go:∀m,m<=cs.length - 1->cY (jM J N cs ds) (dX J N cs ds) (cs.getD 0 0) ((List.range m).flatMap (gG J N cs ds)) (cs.getD m 0):=by
  intro m
  induction m with
  |zero=>intro _;exact rfl
  |succ m ih =>
   intro hm;rw[iU,xS];refine cY.app (ih (by omega)) ?_;rw[qw,HN,iA];exact T.NX (by omega)
 exact go _ (aY _)
theorem Hd(T:Two n R J N cs ds):cH J N cs ds=(aO J N ds cs).map Prod.swap:=by
 unfold cH aO gG;rw[List.map_flatMap];refine KS λq hq=>?_;rw[eB];have e:(List.range (cs.length - 1)).filter (λp=>eN J N cs ds (p,q))=(List.range (cs.length - 1)).filter (λp=>eN J N ds cs (q,p)):=by
  refine HF λp hp=>?_;have h:=T.sym (r:=(p,q)) (by have:=dO.mp hp;show p+1<_;omega) (by have:=dO.mp hq;show q+1<_;omega);unfold eN;rw[<- h.1,<- h.2];rfl
 rw[e];rfl
theorem N_(T:Two n R J N cs ds)(h:r∈aO J N cs ds):r.swap∈aO J N ds cs:=by
 obtain⟨h1,h2,h3⟩:=ik.mp h;obtain⟨s1,s2⟩:=T.sym h1 h2;exact ik.mpr ⟨h2,h1,by rw[s1,s2];exact h3⟩
theorem Two.acd(T:Two n R J N cs ds)(h:r∈aO J N cs ds):yC n R J N (dA J N cs ds r) (cJ N cs ds r) (jM J N ds cs r.swap) (dX J N ds cs r.swap):=by
 obtain⟨h1,h2,_⟩:=ik.mp h;obtain⟨s1,s2⟩:=T.sym h1 h2;have:=T.swap.row (N_ T h);rw[s1,s2]at this;exact this
theorem Two.aa0(T:Two n R J N cs ds)(h:r∈aO J N cs ds):dX J N ds cs r.swap=J (ds.getD r.2 0) (cJ N cs ds r):=by
 obtain⟨h1,h2,_⟩:=ik.mp h;obtain⟨s1,s2⟩:=T.sym h1 h2;unfold dX;rw[s2];rfl
noncomputable def ie (J N:Nat->Nat->Nat) (cs ds:List Nat):List Nat:=cs.getD 0 0::(aO J N cs ds).map (dX J N cs ds)
theorem Ds:(ie J N cs ds).length=(aO J N cs ds).length+1:=by unfold ie;simp
theorem YH{k:Nat}(h:(aO J N cs ds)[k]?=some r):(ie J N cs ds).getD (k+1) 0=dX J N cs ds r:=by
 unfold ie;rw[List.getD_cons_succ,aQ,bW,h];rfl
theorem Two.YG(T:Two n R J N cs ds){k:Nat}(h:(aO J N cs ds)[k]?=some r):(ie J N cs ds).getD k 0=jM J N cs ds r:=T.YJ.get k r h
theorem Two.YF(T:Two n R J N cs ds):dm n R (ie J N cs ds):=by
 refine⟨by rw[Ds];omega,λx hx=>?_,λi hi=>?_⟩
 ·unfold ie at hx
  rcases bp.mp hx with rfl|hx
  ·exact T.c.at T.c.pos
  ·obtain⟨r,hr,rfl⟩:=dc.mp hx
   exact(T.row hr).vz
 ·rw[Ds]at hi
  have e:(aO J N cs ds)[i]?=some (aO J N cs ds)[i]:=aA (by omega);rw[T.YG e,YH e];have:=T.row (fC (l:=aO J N cs ds) (n:=i) (by omega));exact⟨this.ne,this.r⟩
theorem Two.K0(T:Two n R J N cs ds):(aO J N cs ds).length+1<=n:=by
 have:=T.YF.len T.M.G
 rwa [Ds]at this
theorem cY.Dr(G:Good n R){ρ:Type}{inn out:ρ->Nat}{e:Nat}(he:e<n):∀{s:Nat} {l:List ρ},cY inn out s l e->s<n->(∀r∈l,out r<n/\R (inn r) (out r)=true)->R s e=true
 |s,[],h,hs,_=>by cases(show s=e from h);exact G.refl _ hs
 |s,q::l,h,hs,hr=>by
  obtain⟨h1,h2⟩:=hr q bX;rw[h.1]at h2;exact G.trans hs h1 he h2 (cY.Dr G he h.2 h1 λr hr'=>hr r (b_ _ hr'))
theorem cY.one(G:Good n R){ρ:Type}{inn out:ρ->Nat}{s e:Nat}{l:List ρ}(hs:s<n)(he:e<n)(st:bH n R s e=true)(h:cY inn out s l e)(hr:∀r∈l,out r<n/\R (inn r) (out r)=true/\inn r≠out r):∃r,l = [r]/\inn r=s/\out r=e:=by
 obtain⟨s1,s2,s3⟩:=G7.mp st
 match l,h with
 | [],h=>exact absurd h s1
 |q::l,h =>
  obtain⟨q1,q2,q3⟩:=hr q bX;have le:=cY.Dr G he h.2 q1 λr hr'=>⟨(hr r (b_ _ hr')).1,(hr r (b_ _ hr')).2.1⟩;rw[h.1]at q2 q3
  rcases s3 _ q1 q2 le with z|z
  ·exact absurd z.symm q3
  ·match l,h.2 with
   | [],_=>exact⟨q,rfl,h.1,z⟩
   |q'::l,h' =>
    obtain⟨p1,p2,p3⟩:=hr q' (by simp);rw[z]at h';have le':=cY.Dr G he h'.2 p1 λr hr'=>⟨(hr r (by simp[hr'])).1,(hr r (by simp[hr'])).2.1⟩;rw[h'.1]at p2 p3;exact absurd (G.anti _ _ he p1 p2 le') p3
theorem Two.rowOne(T:Two n R J N cs ds)(hc:∀i,i+1<cs.length->bH n R (cs.getD i 0) (cs.getD (i+1) 0)=true){p:Nat}(hp:p+1<cs.length):∃r,gG J N cs ds p = [r]/\r.1=p/\jM J N cs ds r=cs.getD p 0/\dX J N cs ds r=cs.getD (p+1) 0:=by
 have mem:∀r∈gG J N cs ds p,r∈aO J N cs ds:=λr hr=>kT.mpr ⟨p,dO.mpr (by omega),hr⟩;obtain⟨r,h1,h2,h3⟩:=cY.one T.M.G (T.c.at (by omega)) (T.c.at hp) (hc p hp) (T.NX hp) λr hr=>⟨(T.row (mem r hr)).vz,(T.row (mem r hr)).r,(T.row (mem r hr)).ne⟩;refine⟨r,h1,?_,h2,h3⟩;have hr:r∈gG J N cs ds p:=by rw[h1];exact bX
 unfold gG at hr;obtain⟨q,_,rfl⟩:=dc.mp hr;rfl
theorem Two.fst(T:Two n R J N cs ds)(hc:∀i,i+1<cs.length->bH n R (cs.getD i 0) (cs.getD (i+1) 0)=true):(aO J N cs ds).map Prod.fst=List.range (cs.length - 1):=by
 unfold aO;rw[List.map_flatMap];have go:∀l:List Nat,(∀p∈l,p+1<cs.length)->l.flatMap (λp=>(gG J N cs ds p).map Prod.fst)=l:=by
  intro l
  induction l with
  |nil=>intro _;rfl
  |cons p l ih =>
   intro h;obtain⟨r,h1,h2,_⟩:=T.rowOne hc (h p bX);rw[qw,h1,ih λq hq=>h q (b_ _ hq)];show[r.1]++l=p::l;rw[h2];rfl
 exact go _ λp hp=>by have:=dO.mp hp;omega
theorem Two.J8(T:Two n R J N cs ds)(hc:∀i,i+1<cs.length->bH n R (cs.getD i 0) (cs.getD (i+1) 0)=true)(h:r∈aO J N cs ds):jM J N cs ds r=cs.getD r.1 0/\dX J N cs ds r=cs.getD (r.1+1) 0:=by
 unfold aO at h;obtain⟨p,hp,hr⟩:=kT.mp h;obtain⟨r',h1,h2,h3,h4⟩:=T.rowOne hc (p:=p) (by have:=dO.mp hp;omega);rw[h1]at hr;obtain rfl:r=r':=by simpa using hr
 rw[h2];exact⟨h3,h4⟩
theorem Two.KZ(T:Two n R J N cs ds)(hc:∀i,i+1<cs.length->bH n R (cs.getD i 0) (cs.getD (i+1) 0)=true){k:Nat}(h:(aO J N cs ds)[k]?=some r):r.1=k:=by
 have e:=T.fst hc;have:=congrArg (λl=>l[k]?) e;simp only[bW,h,qH]at this;have hk:k<(List.range (cs.length - 1)).length:=by
  apply nT
  intro z;rw[List.getElem?_eq_none_iff.mpr (oq z)]at this;cases this
 rw[aA hk,mz]at this;exact dg this
theorem Two.BM(T:Two n R J N cs ds)(hc:∀i,i+1<cs.length->bH n R (cs.getD i 0) (cs.getD (i+1) 0)=true):(aO J N cs ds).length=cs.length - 1:=by
 have:=congrArg List.length (T.fst hc);simpa using this
theorem Two.snd(T:Two n R J N cs ds)(hd:∀i,i+1<ds.length->bH n R (ds.getD i 0) (ds.getD (i+1) 0)=true):(cH J N cs ds).map Prod.snd=List.range (ds.length - 1):=by
 rw[Hd T,eB,<- T.swap.fst hd];rfl
theorem Two.idx(T:Two n R J N cs ds)(hd:∀i,i+1<ds.length->bH n R (ds.getD i 0) (ds.getD (i+1) 0)=true)(h:r∈aO J N cs ds):(cH J N cs ds).idxOf r=r.2:=by
 have hm:=vF.mpr h;have hi:=qA.mpr hm;have e:=congrArg (λl=>l[(cH J N cs ds).idxOf r]?) (T.snd hd);simp only[bW,aA hi,qz hi,qH]at e;have hk:(cH J N cs ds).idxOf r<(List.range (ds.length - 1)).length:=by
  have:=congrArg List.length (T.snd hd);rw[az]at this;omega
 rw[aA hk,mz]at e;exact(dg e).symm
end
noncomputable def inB (n:Nat) (zs:List Int):Bool:=zs.all λz=>decide (0<=z/\z<(n:Int))
noncomputable def mK (p:Nat->Nat->Bool) (zs:List Int):Bool:=(List.range (zs.length - 1)).all λi=>p (zs.getD i 0).toNat (zs.getD (i+1) 0).toNat
noncomputable def c5 (n:Nat) (R:Nat->Nat->Bool) (zs:List Int):Bool:=!decide (zs.length=0)&&(inB n zs&&mK (bS R) zs)
noncomputable def dh (n:Nat) (R:Nat->Nat->Bool) (zs:List Int):Bool:=c5 n R zs&&mK (bH n R) zs
theorem rG{zs:List Int}{j:Nat}(h:j<zs.length):(zs.map V.int).getD j .non = .int (zs.getD j 0):=by
 rw[aQ,aQ,bW,aA h];rfl
theorem Ld{zs:List Int}{j:Nat}:(zs.drop 1).getD j 0=zs.getD (j+1) 0:=by
 rw[aQ,aQ,HR,yb]
theorem vn{n:Nat}{zs:List Int}(h:inB n zs=true){i:Nat}(hi:i<zs.length):∃k:Nat,zs.getD i 0=(k:Int)/\k<n:=by
 unfold inB at h;rw[fB]at h;have:=h (zs.getD i 0) (by rw[aQ,aA hi];exact fC hi);rw[cL]at this;exact⟨(zs.getD i 0).toNat,by omega,by omega⟩
theorem yI(n:Nat)(f:Nat->Bool):((List.range n).map f).all id=(List.range n).all f:=by
 rw[List.all_map];rfl
theorem Tj{α:Type}(d:α)(l:List α)(f:α->Bool):(List.range l.length).all (λi=>f (l.getD i d))=l.all f:=by
 rw[dk,fB,fB]
 constructor
 ·intro h x hx
  obtain⟨i,hi,e⟩:=iS hx;have:=h i (by simpa using hi);rw[aQ,aA hi]at this;rw[<- e];exact this
 ·intro h i hi
  have hi':i<l.length:=by simpa using hi
  rw[aQ,aA hi'];exact h _ (fC hi')
section
variable {P:Program} {w:World} {K:W.Frag} {mg:Str->Option Value} {base:Heap} {f:Addr} {fd:FuncData}
abbrev sQ:Stmt:=top 40
theorem Qg:a_ ["order","things"] ["order","things"] (aB sQ):=by trivial
def wU(K:W.Frag)(C:Addr):Sp:=λvs H Q _=>∃(p t n:Nat) (R:Nat->Nat->Bool) (zs:List Int),vs = [.ref p,.ref t]/\eD C H p n R/\n<=24/\ah K H t (zs.map V.int)/\zs.length<=1000/\∀H',Same H H'->Q (.bl (c5 n R zs)) H'
theorem Z9 {C:Addr} (F:aU K "is_chain" "is_chain" sQ f fd) (T:Txt mg) (TC:eZ K C) (oM:aC P w K mg base "is_thing" ["count","number"] 2 wV) (lz:aC P w K mg base "is_below" ["order","a","b"] 1 (wR C)) :
  aN P w K mg base aZ 3 f fd ["order","things"] (wU K C):=by
 refine F.ok Qg (λvs H Q E h=>?_) (λcdv A outer s H vs Q E hr h=>?_)
 ·obtain⟨p,t,n,R,zs,rfl,_⟩:=h
  rfl
 ·obtain⟨p,t,n,R,zs,rfl,hO,hn,hT,gy,kk⟩:=h
  have nd:=Qg.nd;obtain⟨dx,vp,vr,vj,vm,o1,_⟩:=id hO;refine⟨_,(av (bA (bw dW (bf (cK (K:=K) rfl) rfl T.len cR (ae (pv 1) ag)) ak (bh _)) (ay (aR dB)) bD)
   (av (bA (du (bZ (bf (zy (K:=K) rfl rfl) rfl T.all boot_all (ae (dj (own:=["thing"]) (fr:=[("order", 0)]) rfl (cA (aB sQ) ["order","things"] rfl rfl (by trivial)) (dC (K:=K) rfl (pv 1)) (λ_ _ _ _=>⟨(bj (i:=0) (by trivial:(["thing","order"]:List Str).Nodup) rfl (Or.inl rfl)),da,(aL oM hr rfl (ae (eW (K:=K) rfl (pv 1) rfl) (ae (pv 0) ag)))⟩)) ag)))) (ay (aR dB)) bD)
   (ay (aR (bf (zy (K:=K) rfl rfl) rfl T.all boot_all (ae (dj (own:=["a","b"]) (fr:=[("order", 0)]) rfl (cA (aB sQ) ["order","things"] rfl rfl (by trivial)) (pR (K:=K) true true rfl rfl T.zip (ae (pv 1) (ae (gF (gH (K:=K) rfl) (pv 1) (f9 ak) gY) ag))) (λ_ _ _ _=>⟨(iM (K:=K) (i:=0) (j:=1) rfl rfl (by trivial:(["a","b","order"]:List Str).Nodup) rfl rfl rfl rfl),da,(aL lz hr rfl (ae (pv 2) (ae (pv 0) (ae (pv 1) ag (ao nofun)) (ao nofun)) (ao nofun)))⟩)) ag)))))),?_⟩
  refine⟨_,rfl,t,_,rfl,.inl hT,rfl,_,rfl,?_⟩;rw[az];refine bq (λh0=>?_) (λh0=>?_)
  ·have:=kk _ (Same.refl _)
   unfold c5 at this;have e:zs.length=0:=by
    have h1:=pI h0;injection h1 with h1
    omega
   rw[e]at this;exact this
  ·have e0:decide (zs.length=0)=false:=by
    refine cg λz=>h0 ?_;rw[z];exact cB rfl
   have kk:∀H',Same H H'->Q (.bl (inB n zs&&mK (bS R) zs)) H':=λH' hs=>by
    have:=kk H' hs;unfold c5 at this;rw[e0,Hs,fz]at this;exact this
   refine⟨_,rfl,t,rfl,⟨_,hT⟩,λD hD=>fk (λj=>.bl (decide (0<=zs.getD j 0/\zs.getD j 0<(n:Int)))) (src_list hT) hD (by rw[az];exact dw (by omega)) (λj H3 Kt hj hs hk=>?_) (λH3 hs hl=>?_)⟩
   ·rw[az]at hj
    have eg:=rG hj;refine⟨_,rfl,p,C,dx,_,_,rfl,hs _ _ o1,TC.cl,TC.nC,rC _ _ _ _ _,_,rfl,⟨(n:Int),_,by rw[eg];rfl⟩,λv H4 s4 hv=>?_⟩;rw[hv (n:Int) _ (by rw[eg];rfl)];exact hk _ s4
   ·rw[az]at hl
    have hl3:H3 D=some (.lst (((List.range zs.length).map λj=>decide (0<=zs.getD j 0/\zs.getD j 0<(n:Int))).map V.bl)):=by rw[hl,eB];rfl
    refine⟨D,_,rfl,ah.of hl3,_,rfl,?_⟩;rw[yI,Tj (0:Int) zs λz=>decide (0<=z/\z<(n:Int))];show if(!inB n zs)=true then _ else _
    cases hin:inB n zs with
    |false =>
     refine dR ?_;have:=kk _ hs;rw[hin,jo]at this;exact this
    |true =>
     refine bx ?_;have mZ:=hs.seq hT;refine⟨_,rfl,_,rfl,_,rfl,t,_,rfl,mZ,λq hq=>?_⟩;rw[zE,<- oa];refine⟨t,q,zs.map V.int,(zs.drop 1).map V.int,rfl,(Same.put hq).seq mZ,ah.of au,λD2 hD2=>fk (λj=>.bl (bS R (zs.getD j 0).toNat (zs.getD (j+1) 0).toNat)) (tj (n:=zs.length - 1) (c1:=true) (c2:=true) ((Same.put hq).seq mZ) (ah.of au) (by simp)) hD2 (dw (by omega)) (λj H4 Kt hj gW hk=>?_) (λH4 gW cM=>?_)⟩
     ·obtain⟨a,ea,ha⟩:=vn hin (show j<zs.length by omega)
      obtain⟨b,eb,hb⟩:=vn hin (show j+1<zs.length by omega);have e1:(zs.map V.int).getD j .non = .int (a:Int):=by rw[rG (by omega),ea]
      have e2:((zs.drop 1).map V.int).getD j .non = .int (b:Int):=by rw[rG (by rw[kQ];omega),Ld,eb]
      have Cp:=hO.eQ ((hs.trans (Same.put hq)).trans gW);refine⟨_,rfl,_,rfl,_,rfl,p,n,a,b,R,by rw[e1,e2];rfl,Cp,ha,hb,λH5 s5=>?_⟩;have:=hk _ s5;rw[ea,eb]at this;exact this
     ·have eV:H4 D2=some (.lst (((List.range (zs.length - 1)).map λj=>bS R (zs.getD j 0).toNat (zs.getD (j+1) 0).toNat).map V.bl)):=by rw[cM,eB];rfl
      refine⟨D2,_,rfl,ah.of eV,?_⟩;rw[yI];have:=kk _ ((hs.trans (Same.put hq)).trans gW);rw[hin,fz]at this;exact this
abbrev wx:Stmt:=top 41
theorem Qh:a_ ["order","things"] ["order","things"] (aB wx):=by trivial
def Ge(K:W.Frag)(C:Addr):Sp:=λvs H Q _=>∃(p t n:Nat) (R:Nat->Nat->Bool) (zs:List Int),vs = [.ref p,.ref t]/\eD C H p n R/\n<=24/\ah K H t (zs.map V.int)/\zs.length<=1000/\∀H',Same H H'->Q (.bl (dh n R zs)) H'
theorem Z_ {C:Addr} (F:aU K "is_climb" "is_climb" wx f fd) (T:Txt mg) (TC:eZ K C) (mM:aC P w K mg base "is_chain" ["order","things"] 3 (wU K C)) (yW:aC P w K mg base "is_step" ["order","a","b"] 2 (Gf C)) :
  aN P w K mg base aZ 4 f fd ["order","things"] (Ge K C):=by
 refine F.ok Qh (λvs H Q E h=>?_) (λcdv A outer s H vs Q E hr h=>?_)
 ·obtain⟨p,t,n,R,zs,rfl,_⟩:=h
  rfl
 ·obtain⟨p,t,n,R,zs,rfl,hO,hn,hT,gy,kk⟩:=h
  have nd:=Qh.nd;refine⟨_,(av (bA (du (bZ (aL mM hr rfl (ae (pv 0) (ae (pv 1) ag))))) (ay (aR dB)) bD)
   (ay (aR (bf (zy (K:=K) rfl rfl) rfl T.all boot_all (ae (dj (own:=["a","b"]) (fr:=[("order", 0)]) rfl (cA (aB wx) ["order","things"] rfl rfl (by trivial)) (pR (K:=K) true true rfl rfl T.zip (ae (pv 1) (ae (gF (gH (K:=K) rfl) (pv 1) (f9 ak) gY) ag))) (λ_ _ _ _=>⟨(iM (K:=K) (i:=0) (j:=1) rfl rfl (by trivial:(["a","b","order"]:List Str).Nodup) rfl rfl rfl rfl),da,(aL yW hr rfl (ae (pv 2) (ae (pv 0) (ae (pv 1) ag (ao nofun)) (ao nofun)) (ao nofun)))⟩)) ag))))),?_⟩
  refine⟨_,rfl,_,rfl,p,t,n,R,zs,rfl,hO,hn,hT,gy,λH3 hs=>⟨_,rfl,?_⟩⟩;unfold dh at kk;cases hc:c5 n R zs with
  |false =>
   refine dR ?_;have:=kk _ hs;rw[hc,jo]at this;exact this
  |true =>
   refine bx ?_;have hin:inB n zs=true:=by
    unfold c5 at hc;simp only[bF]at hc;exact hc.2.1
   have mZ:=hs.seq hT;refine⟨_,rfl,_,rfl,_,rfl,t,_,rfl,mZ,λq hq=>?_⟩;rw[zE,<- oa];refine⟨t,q,zs.map V.int,(zs.drop 1).map V.int,rfl,(Same.put hq).seq mZ,ah.of au,λD2 hD2=>fk (λj=>.bl (bH n R (zs.getD j 0).toNat (zs.getD (j+1) 0).toNat)) (tj (n:=zs.length - 1) (c1:=true) (c2:=true) ((Same.put hq).seq mZ) (ah.of au) (by simp)) hD2 (dw (by omega)) (λj H4 Kt hj gW hk=>?_) (λH4 gW cM=>?_)⟩
   ·obtain⟨a,ea,ha⟩:=vn hin (show j<zs.length by omega)
    obtain⟨b,eb,hb⟩:=vn hin (show j+1<zs.length by omega);have e1:(zs.map V.int).getD j .non = .int (a:Int):=by rw[rG (by omega),ea]
    have e2:((zs.drop 1).map V.int).getD j .non = .int (b:Int):=by rw[rG (by rw[kQ];omega),Ld,eb]
    have Cp:=hO.eQ ((hs.trans (Same.put hq)).trans gW);refine⟨_,rfl,_,rfl,_,rfl,p,n,a,b,R,by rw[e1,e2];rfl,Cp,hn,ha,hb,λH5 s5=>?_⟩;have:=hk _ s5;rw[ea,eb]at this;exact this
   ·have eV:H4 D2=some (.lst (((List.range (zs.length - 1)).map λj=>bH n R (zs.getD j 0).toNat (zs.getD (j+1) 0).toNat).map V.bl)):=by rw[cM,eB];rfl
    refine⟨D2,_,rfl,ah.of eV,?_⟩;rw[yI];have:=kk _ ((hs.trans (Same.put hq)).trans gW);rw[hc,fz]at this;exact this
end
end _M
namespace _L
open PySem PySem.Spec PyProof.Rows
section
variable {prog:Program} {w:World} {A:Around} {E:Value->Shared->Prop} {s:Shared} {c1 c2:Bool} {z TI TO i1 i2 l1 l2 T0:Addr} {k1 k2:Nat} {xs ys:Array Value} {x y:Value} {b:Bool} {o0:Obj}
theorem adB{M:Model}{a:Addr}{Q:Option Obj->Shared->Prop}(h:Q (s.heap.get? a) s):wpAny M A (loadIfAlive a) Q E s:=λ_ _ _=>h
theorem Sj{Q:Bool->Shared->Prop}(hz:ez s.heap z TI TO (rawInt T0) b)(hT0:s.heap.get? T0=some o0)
  (hQ:∀h',ez h' z TI TO (rawInt T0) true->Heap.SameBut z s.heap h'->Q false {s with heap:=h'}):wpAny (model prog w) A (Builtin.SmallTypes.ownedTupleIsFree (.ref z)) Q E s:=by
 unfold Builtin.SmallTypes.ownedTupleIsFree;refine ai (eG hz rfl (x:=rawInt T0) rfl ?_);show wpAny _ _ (loadIfAlive ((T0:Int)).toNat>>=_) _ _ _;refine ai (adB ?_);rw[dq,hT0];simp only[Option.isNone_some,jq,h9];refine ai (eG hz rfl (x:=.bool b) rfl ?_);cases b with
 |true =>
  have e:((Value.bool true) != (Value.bool true))=false:=by decide
  simp only[e,jq,h9];refine ai (aJ (aJ ?_));exact hQ s.heap hz (Heap.SameBut.refl ..)
 |false =>
  have e:((Value.bool false) != (Value.bool true))=true:=by decide
  simp only[e,jL];refine ai (oC hz (by simp) λg hz' e'=>aJ ?_);exact hQ g hz' e'
theorem adQ{Q:Value->Shared->Prop}(D:ZipApart z TI TO i1 i2 l1 l2)(hz:ez s.heap z TI TO (rawInt T0) b)(hT0:s.heap.get? T0=some o0)(hTI:IsPair s.heap TI (.ref i1) (.ref i2))(h1:bu c1 s.heap i1 l1 k1)(h2:bu c2 s.heap i2 l2 k2)(hl1:bI c1 s.heap l1 xs)(hl2:bI c2 s.heap l2 ys)(hx:xs[k1]?=some x)(hy:ys[k2]?=some y)(hQ:∀h',ez h' z TI TO (rawInt T0) true->bu c1 h' i1 l1 (k1+1)->bu c2 h' i2 l2 (k2+1)->IsPair h' s.heap.objs.size x y->h'.objs.size=s.heap.objs.size+1 ->
   (∀c o,c≠z->c≠i1->c≠i2->s.heap.get? c=some o->h'.get? c=some o)->Q (.ref s.heap.objs.size) {s with heap:=h'}) :
  wpAny (model prog w) A (Builtin.«zip.__next__» ⟨[.ref z],[]⟩) (λfin s'=>∃v,fin = .done (.ret v)/\Q v s') E s:=by
 show wpAny _ _ (field (.ref z) 2>>=_) _ _ _;refine ai (eG hz rfl (x:=.bool false) rfl ?_);show wpAny _ _ (field (.ref z) 3>>=_) _ _ _;refine ai (eG hz rfl (x:=.ref TI) rfl ?_);refine ai (jA hTI rfl ?_);show wpAny _ _ (Builtin.SmallTypes.ownedTupleIsFree (.ref z)>>=_) _ _ _;refine ai (Sj hz hT0 λg1 hz1 e1=>?_);simp only[jq,h9];refine ai ?_;rw[<- Hn];simp only[qx,qy];refine ai (ai (fS ?_));show wpAny _ _ (Builtin.SmallTypes.nextOf (.ref i1)>>=_) _ _ _;refine ai (ni (h1.at λo q=>e1.extBut _ o D.i1z q) (hl1.at λo q=>e1.extBut _ o D.l1z q) hx λg2 h1' e2=>aJ (aJ ?_));refine ai (ai (fS ?_));show wpAny _ _ (Builtin.SmallTypes.nextOf (.ref i2)>>=_) _ _ _;have nI:∀o,s.heap.get? i2=some o->g2.get? i2=some o:=λo q=>e2.extBut _ o D.i12.symm (e1.extBut _ o D.i2z q);have nL:∀o,s.heap.get? l2=some o->g2.get? l2=some o:=λo q=>e2.extBut _ o D.l2i1 (e1.extBut _ o D.l2z q);refine ai (ni (h2.at nI) (hl2.at nL) hy λg3 h2' e3=>aJ (aJ (aJ ?_)));refine ai (wpAny_newTuple ?_ (by show 2<=sizeLine;decide));have sz:g3.objs.size=s.heap.objs.size:=by rw[e3.1,e2.1,e1.1]
 have Xz:ez g3 z TI TO (rawInt T0) true:=e3.extBut _ _ D.i2z.symm (e2.extBut _ _ D.i1z.symm hz1);refine aJ ⟨_,rfl,?_⟩;show Q (.ref g3.objs.size) _;have k3:∀c o,c≠z->c≠i1->c≠i2->s.heap.get? c=some o->g3.get? c=some o:=λc o q1 q2 q3 q=>e3.extBut _ _ q3 (e2.extBut _ _ q2 (e1.extBut _ _ q1 q));have hp:IsPair (g3.push {cls:=.type "tuple", data:=.seq #[x,y]}) g3.objs.size x y:=cn _ rfl;rw[sz]at hp ⊢;exact hQ _ (aV _ Xz) ((h1'.at λo q=>e3.extBut _ o D.i12 q).at λo q=>aV _ q) (h2'.at λo q=>aV _ q) hp (by rw[eK,sz]) λc o q1 q2 q3 q=>aV _ (k3 c o q1 q2 q3 q)
theorem adW{Q:Fin->Shared->Prop}(hh:A.handled=none)(D:ZipApart z TI TO i1 i2 l1 l2)(hz:ez s.heap z TI TO (rawInt T0) b)(hT0:s.heap.get? T0=some o0)(hTI:IsPair s.heap TI (.ref i1) (.ref i2))(h1:bu c1 s.heap i1 l1 k1)(h2:bu c2 s.heap i2 l2 k2)(hl1:bI c1 s.heap l1 xs)(hl2:bI c2 s.heap l2 ys)(hend:xs[k1]?=none\/ys[k2]?=none)
  (hE:∀h' e,(∀c o,c≠z->c≠i1->c≠i2->s.heap.get? c=some o->h'.get? c=some o)->(∃o,h'.get? e=some o/\o.cls = .type "StopIteration")->E (.ref e) {s with heap:=h'}) :
  wpAny (model prog w) A (Builtin.«zip.__next__» ⟨[.ref z],[]⟩) Q E s:=by
 show wpAny _ _ (field (.ref z) 2>>=_) _ _ _;refine ai (eG hz rfl (x:=.bool false) rfl ?_);show wpAny _ _ (field (.ref z) 3>>=_) _ _ _;refine ai (eG hz rfl (x:=.ref TI) rfl ?_);refine ai (jA hTI rfl ?_);show wpAny _ _ (Builtin.SmallTypes.ownedTupleIsFree (.ref z)>>=_) _ _ _;refine ai (Sj hz hT0 λg1 hz1 e1=>?_);simp only[jq,h9];refine ai ?_;rw[<- Hn];simp only[qx,qy];refine ai (ai (fS ?_));show wpAny _ _ (Builtin.SmallTypes.nextOf (.ref i1)>>=_) _ _ _;have a1:=h1.at λo q=>e1.extBut _ o D.i1z q;have b1:=hl1.at λo q=>e1.extBut _ o D.l1z q;cases hx:xs[k1]? with
 |none=>exact ai (sC hh a1 b1 hx λg2 e e2 he=>hE g2 e (λc o q1 q2 q3 q=>e2 _ _ q2 (e1.extBut _ _ q1 q)) he)
 |some x =>
  have hy:ys[k2]?=none:=by
   rcases hend with h|h
   ·rw[hx]at h;cases h
   ·exact h
  refine ai (ni a1 b1 hx λg2 h1' e2=>aJ (aJ ?_));refine ai (ai (fS ?_));show wpAny _ _ (Builtin.SmallTypes.nextOf (.ref i2)>>=_) _ _ _;have nI:∀o,s.heap.get? i2=some o->g2.get? i2=some o:=λo q=>e2.extBut _ o D.i12.symm (e1.extBut _ o D.i2z q);have nL:∀o,s.heap.get? l2=some o->g2.get? l2=some o:=λo q=>e2.extBut _ o D.l2i1 (e1.extBut _ o D.l2z q);exact ai (sC hh (h2.at nI) (hl2.at nL) hy λg3 e e3 he=>hE g3 e (λc o q1 q2 q3 q=>e3 _ _ q3 (e2.extBut _ _ q2 (e1.extBut _ _ q1 q))) he)
theorem adU{Q:Option Value->Shared->Prop}(D:ZipApart z TI TO i1 i2 l1 l2)(hz:ez s.heap z TI TO (rawInt T0) b)(hT0:s.heap.get? T0=some o0)(hTI:IsPair s.heap TI (.ref i1) (.ref i2))(h1:bu c1 s.heap i1 l1 k1)(h2:bu c2 s.heap i2 l2 k2)(hl1:bI c1 s.heap l1 xs)(hl2:bI c2 s.heap l2 ys)(hx:xs[k1]?=some x)(hy:ys[k2]?=some y)(hQ:∀h',ez h' z TI TO (rawInt T0) true->bu c1 h' i1 l1 (k1+1)->bu c2 h' i2 l2 (k2+1)->IsPair h' s.heap.objs.size x y->h'.objs.size=s.heap.objs.size+1 ->
   (∀c o,c≠z->c≠i1->c≠i2->s.heap.get? c=some o->h'.get? c=some o)->Q (some (.ref s.heap.objs.size)) {s with heap:=h'}):wpAny (model prog w) A (pyNext (.ref z)) Q E s:=by
 have hT:s.TypeIs (.ref z) "zip" :=⟨_,hz,rfl⟩;unfold pyNext;exact ai (oz (qM (name:=Str.ofString "__next__") hT mE (oA mE hT yl
  (adQ D hz hT0 hTI h1 h2 hl1 hl2 hx hy λh' a1 a2 a3 a4 a5 a6=>aJ (hQ h' a1 a2 a3 a4 a5 a6)) (yj _))))
theorem adO{Q:Option Value->Shared->Prop}(hh:A.handled=none)(D:ZipApart z TI TO i1 i2 l1 l2)(hz:ez s.heap z TI TO (rawInt T0) b)(hT0:s.heap.get? T0=some o0)(hTI:IsPair s.heap TI (.ref i1) (.ref i2))(h1:bu c1 s.heap i1 l1 k1)(h2:bu c2 s.heap i2 l2 k2)(hl1:bI c1 s.heap l1 xs)(hl2:bI c2 s.heap l2 ys)(hend:xs[k1]?=none\/ys[k2]?=none)
  (hQ:∀h',(∀c o,c≠z->c≠i1->c≠i2->s.heap.get? c=some o->h'.get? c=some o)->Q none {s with heap:=h'}):wpAny (model prog w) A (pyNext (.ref z)) Q E s:=by
 have hT:s.TypeIs (.ref z) "zip" :=⟨_,hz,rfl⟩;unfold pyNext;refine ai (oz (qM (name:=Str.ofString "__next__") hT mE (oA mE hT yl (adW hh D hz hT0 hTI h1 h2 hl1 hl2 hend λh' e hk he=>?_) (yj _))));obtain⟨o,ho,hc⟩:=he;refine ai (wpAny_isInstance (T:= "StopIteration") (b:=true) ⟨o,ho,hc⟩ isSubtype_stop ?_);exact aJ (hQ _ hk)
structure Laid (N0:Nat) (xs ys:Array Value) (h:Heap) (ts:List Addr):Prop where
 at_:∀(j:Nat) t,ts[j]?=some t->∃x y,xs[j]?=some x/\ys[j]?=some y/\IsPair h t x y
 nd:ts.Nodup
 ge:∀t∈ts,N0<=t
theorem Laid.lt{N0:Nat}{h:Heap}{ts:List Addr}(L:Laid N0 xs ys h ts){t:Addr}(ht:t∈ts):t<h.objs.size:=by
 obtain⟨j,hj,e⟩:=iS ht;obtain⟨x,y,_,_,q⟩:=L.at_ j t (by rw[aA hj,e]);exact aS q
theorem Laid.more{N0:Nat}{h h':Heap}{ts:List Addr}(L:Laid N0 xs ys h ts)(k:∀t∈ts,∀o,h.get? t=some o->h'.get? t=some o):Laid N0 xs ys h' ts:=
 ⟨λj t e=>let⟨x,y,e1,e2,e3⟩:=L.at_ j t e;⟨x,y,e1,e2,k t (df e) _ e3⟩,L.nd,L.ge⟩
theorem Laid.snoc{N0:Nat}{h:Heap}{ts:List Addr}{t:Addr}(L:Laid N0 xs ys h ts)(hx:xs[ts.length]?=some x)(hy:ys[ts.length]?=some y)(ht:IsPair h t x y)(hn:t ∉ ts)(hg:N0<=t):Laid N0 xs ys h (ts++[t]):=by
 refine⟨λj u e=>?_,?_,λu hu=>?_⟩
 ·by_cases hj:j<ts.length
  ·rw[jw hj]at e
   exact L.at_ j u e
  ·have e0:j=ts.length:=by
    have h1:=(bJ.mp e).1;simp at h1;omega
   subst e0;rw[iR (aY _),Im]at e;cases e;exact⟨x,y,hx,hy,ht⟩
 ·exact Ia.mpr ⟨L.nd,by simp,λa ha b hb=>by simp at hb;subst hb;exact λe=>hn (e▸ha)⟩
 ·rcases gO.mp hu with hu|hu
  ·exact L.ge u hu
  ·simp at hu
   subst hu;exact hg
theorem bu.lt{c:Bool}{h:Heap}{it a:Addr}{i:Nat}(x:bu c h it a i):it<h.objs.size:=by
 obtain⟨o,e,_⟩:=x.obj;exact aS e
theorem adT{A:Around}{R:Result->Shared->Prop}(hh:A.handled=none)(D:ZipApart z TI TO i1 i2 l1 l2){S:Addr}{n N0:Nat}(hS:S≠z/\S≠TI/\S≠i1/\S≠i2/\S≠l1/\S≠l2)(hn:n=min xs.size ys.size)(hz0:n<=100000)(res:Value):∀(k i:Nat) (s:Shared) (ts:List Addr) (T0:Addr) (b:Bool) (c:Nat),n - i=k->i<=n->ts.length=i->ts[0]?=some T0->ez s.heap z TI TO (rawInt T0) b->IsPair s.heap TI (.ref i1) (.ref i2)->bu c1 s.heap i1 l1 i->bu c2 s.heap i2 l2 i->bI c1 s.heap l1 xs->bI c2 s.heap l2 ys ->
   Laid N0 xs ys s.heap ts->(∀t∈ts,t≠S/\t≠z/\t≠i1/\t≠i2)->N0<=s.heap.objs.size->s.heap.get? S=some {cls:=.type "list", dict:=none,data:=.seq (ts.map Value.ref).toArray c,slots:=#[]} ->
   (∀h' tk ts' c',(∀b o,b≠S->b≠z->b≠i1->b≠i2->s.heap.get? b=some o->h'.get? b=some o)->ts'.length=n->Laid N0 xs ys h' ts'->(∀t∈ts',t≠S) ->
    h'.get? S=some {cls:=.type "list", dict:=none,data:=.seq (ts'.map Value.ref).toArray c',slots:=#[]}->R (.ok (.ret res)) {s with heap:=h',toks:=tk}) ->
   codeAny (model prog w) A (.builtin "list.extend.loop" ⟨[.ref S,.ref z,res],[]⟩) R s:=by
 intro k
 induction k with
 |zero =>
  intro i s ts T0 b c hk hi hts hT0 hz hTI h1 h2 hl1 hl2 hL hne hN hSl hR;have hin:i=n:=by omega
  obtain⟨x0,y0,_,_,Cq⟩:=hL.at_ 0 T0 hT0;refine uk Iy ?_;rw[Iq qJ _];show wpAny _ A.in1 (pyNext (.ref z)>>=_) _ _ s;have hend:xs[i]?=none\/ys[i]?=none:=by
   by_cases h:xs.size<=i
   ·exact .inl (by simpa using h)
   ·exact .inr (by have:ys.size<=i:=(by omega);simpa using this)
  refine ai (adO hh D hz Cq hTI h1 h2 hl1 hl2 hend λh' hk'=>?_);refine aJ ?_;exact hR h' s.toks ts c (λb o q1 q2 q3 q4 e=>hk' b o q2 q3 q4 e) (by omega) (hL.more λt ht o e=>hk' t o (hne t ht).2.1 (hne t ht).2.2.1 (hne t ht).2.2.2 e) (λt ht=>(hne t ht).1) (hk' S _ hS.1 hS.2.2.1 hS.2.2.2.1 hSl)
 |succ k ih =>
  intro i s ts T0 b c hk hi hts hT0 hz hTI h1 h2 hl1 hl2 hL hne hN hSl hR;have hlt:i<n:=by omega
  obtain⟨x0,y0,_,_,Cq⟩:=hL.at_ 0 T0 hT0;obtain⟨x,hx⟩:∃x,xs[i]?=some x:=⟨xs[i]'(by omega),by simp[show i<xs.size by omega]⟩;obtain⟨y,hy⟩:∃y,ys[i]?=some y:=⟨ys[i]'(by omega),by simp[show i<ys.size by omega]⟩;refine uk Iy ?_;rw[Iq qJ _];show wpAny _ A.in1 (pyNext (.ref z)>>=_) _ _ s;refine ai (adU D hz Cq hTI h1 h2 hl1 hl2 hx hy λh' a1 a2 a3 a4 a5 a6=>?_);have mh:z<s.heap.objs.size:=aS hz;have yE:S<s.heap.objs.size:=aS hSl;have pj:=h1.lt;have pq:=h2.lt;have hS':=a6 S _ hS.1 hS.2.2.1 hS.2.2.2.1 hSl;show wpAny _ A.in1 (updateSeq S (·.push (.ref s.heap.objs.size))>>=_) _ _ _;refine ai ?_;have hsz:((ts.map Value.ref).toArray).size=i:=by simp[hts]
  refine uy hS' rfl (aJ ⟨plainId_quiet qJ _,?_⟩) (by rw[hsz];exact ck (by omega) (fD (show 100000<sizeLine by decide))) (by rw[Array.size_push,hsz];exact ck (show i+1<=100001 by omega) (fD (show 100001<sizeLine+1 by decide)));have oth:∀b o,b≠S->h'.get? b=some o->(h'.update S (Obj.mapSeq (·.push (.ref s.heap.objs.size)))).get? b=some o:=λb o hb e=>(iB _ _ (bP hb)).trans e;have nS:s.heap.objs.size≠S:=dZ yE;have Zo:s.heap.objs.size ∉ ts:=λhm=>absurd (hL.lt hm) (dY _);have Cr:=iC (Obj.mapSeq (·.push (Value.ref s.heap.objs.size))) hS' rfl;have hL':Laid N0 xs ys (h'.update S (Obj.mapSeq (·.push (.ref s.heap.objs.size)))) (ts++[s.heap.objs.size]):=by
   refine Laid.snoc (x:=x) (y:=y) (hL.more λt ht o e=>oth _ _ (hne t ht).1 (a6 t o (hne t ht).2.1 (hne t ht).2.2.1 (hne t ht).2.2.2 e)) (by rw[hts];exact hx) (by rw[hts];exact hy) (oth _ _ nS a4) Zo hN
  refine ih (i+1) {s with heap:=h'.update S (Obj.mapSeq (·.push (.ref s.heap.objs.size)))} (ts++[s.heap.objs.size]) T0 true (c+1) (by omega) hlt (by simp[hts]) ?_ (oth _ _ (bP hS.1) a1) (oth _ _ (bP hS.2.1) (a6 TI _ D.TIz D.TIi1 D.TIi2 hTI))
   (a2.at λo e=>oth _ o (bP hS.2.2.1) e) (a3.at λo e=>oth _ o (bP hS.2.2.2.1) e) ((hl1.at λo e=>a6 l1 o D.l1z D.l1i1 D.l1i2 e).at λo e=>oth _ o (bP hS.2.2.2.2.1) e) ((hl2.at λo e=>a6 l2 o D.l2z D.l2i1 D.l2i2 e).at λo e=>oth _ o (bP hS.2.2.2.2.2) e)
   hL' ?_ ?_ ?_ ?_
  ·rw[jw (bJ.mp hT0).1]
   exact hT0
  ·intro t ht
   rcases gO.mp ht with ht|ht
   ·exact hne t ht
   ·simp at ht
    subst ht;exact⟨nS,dZ mh,dZ pj,dZ pq⟩
  ·show N0<=(h'.update S _).objs.size
   rw[uh,a5];omega
  ·show(h'.update S _).get? S=_
   rw[Cr];simp[Obj.mapSeq]
  ·intro h'' tk ts' c' g1 g2 g3 g4 g5
   refine hR h'' tk ts' c' (λb o q1 q2 q3 q4 e=>g1 b o q1 q2 q3 q4 (oth b o q1 (a6 b o q2 q3 q4 e))) g2 g3 g4 g5
theorem adZ:typeLookup (.type "zip") "__len__" = pure none:=by rw[typeLookup_type,builtinLookup_eq_fast];kernel_rfl
theorem adY:typeLookup (.type "zip") "__length_hint__" = pure none:=by rw[typeLookup_type,builtinLookup_eq_fast];kernel_rfl
theorem adS{A:Around}{R:Result->Shared->Prop}{a0 b0:Value}(hh:A.handled=none)(D:ZipApart z TI TO i1 i2 l1 l2){S:Addr}{n N0 c:Nat}(hS:S≠z/\S≠TI/\S≠i1/\S≠i2/\S≠l1/\S≠l2)(LQ:S≠TO)(hn:n=min xs.size ys.size)(hz0:n<=100000)(res:Value)(hz:IsZip s.heap z TI TO .none)(hTI:IsPair s.heap TI (.ref i1) (.ref i2))(hTO:IsPair s.heap TO a0 b0)(h1:bu c1 s.heap i1 l1 0)(h2:bu c2 s.heap i2 l2 0)(hl1:bI c1 s.heap l1 xs)(hl2:bI c2 s.heap l2 ys)
  (hN:N0<=s.heap.objs.size) (hSl:s.heap.get? S=some {cls:=.type "list", dict:=none,data:=.seq #[] c,slots:=#[]})
  (hR:∀h' tk ts' c',(∀b o,b≠S->b≠z->b≠TO->b≠i1->b≠i2->s.heap.get? b=some o->h'.get? b=some o)->ts'.length=n->Laid N0 xs ys h' ts'->(∀t∈ts',t≠S) ->
    h'.get? S=some {cls:=.type "list", dict:=none,data:=.seq (ts'.map Value.ref).toArray c',slots:=#[]}->R (.ok (.ret res)) {s with heap:=h',toks:=tk}) :
   codeAny (model prog w) A (.builtin "list.extend.loop" ⟨[.ref S,.ref z,res],[]⟩) R s:=by
 have mh:z<s.heap.objs.size:=aS hz;have yE:S<s.heap.objs.size:=aS hSl;have pj:=h1.lt;have pq:=h2.lt;refine uk Iy ?_;rw[Iq qJ _];show wpAny _ A.in1 (pyNext (.ref z)>>=_) _ _ s
 by_cases hn0:n=0
 ·have hend:xs[0]?=none\/ys[0]?=none:=by
   by_cases h:xs.size<=0
   ·exact .inl (by simpa using h)
   ·exact .inr (by have:ys.size<=0:=(by omega);simpa using this)
  refine ai (Sl hh D hz hTI hTO h1 h2 hl1 hl2 hend λh' hk'=>?_);refine aJ ?_;exact hR h' s.toks [] c (λb o q1 q2 q3 q4 q5 e=>hk' b o q2 q3 q4 q5 e) (by simp[hn0]) ⟨λj t e=>by simp at e,xX,λt ht=>by cases ht⟩ (λt ht=>by cases ht) (hk' S _ hS.1 LQ hS.2.2.1 hS.2.2.2.1 hSl)
 ·obtain⟨x,hx⟩:∃x,xs[0]?=some x:=⟨xs[0]'(by omega),by simp[show 0<xs.size by omega]⟩
  obtain⟨y,hy⟩:∃y,ys[0]?=some y:=⟨ys[0]'(by omega),by simp[show 0<ys.size by omega]⟩;refine ai (Sn D hz hTI hTO h1 h2 hl1 hl2 hx hy λh' a1 a2 a3 a4 a5 a6 a7=>?_);have hS':=a7 S _ hS.1 LQ hS.2.2.1 hS.2.2.2.1 hSl;show wpAny _ A.in1 (updateSeq S (·.push (.ref s.heap.objs.size))>>=_) _ _ _;refine ai ?_;refine uy hS' rfl (aJ ⟨plainId_quiet qJ _,?_⟩) (by show 0<=sizeLine;decide) (by show 1<=sizeLine+1;decide);have oth:∀b o,b≠S->h'.get? b=some o->(h'.update S (Obj.mapSeq (·.push (.ref s.heap.objs.size)))).get? b=some o:=λb o hb e=>(iB _ _ (bP hb)).trans e;have nS:s.heap.objs.size≠S:=dZ yE;have Cr:=iC (Obj.mapSeq (·.push (Value.ref s.heap.objs.size))) hS' rfl;have hL':Laid N0 xs ys (h'.update S (Obj.mapSeq (·.push (.ref s.heap.objs.size)))) ([]++[s.heap.objs.size]):=Laid.snoc (x:=x) (y:=y) ⟨λj t e=>by simp at e,xX,λt ht=>by cases ht⟩ hx hy (oth _ _ nS a5) (by simp) hN;refine adT hh D hS hn hz0 res (n - 1) 1 {s with heap:=h'.update S (Obj.mapSeq (·.push (.ref s.heap.objs.size)))} [s.heap.objs.size] s.heap.objs.size false (c+1) (by omega) (by omega) rfl rfl (oth _ _ (bP hS.1) a1) (oth _ _ (bP hS.2.1) (a7 TI _ D.TIz D.TITO D.TIi1 D.TIi2 hTI))
   (a3.at λo e=>oth _ o (bP hS.2.2.1) e) (a4.at λo e=>oth _ o (bP hS.2.2.2.1) e) ((hl1.at λo e=>a7 l1 o D.l1z D.l1TO D.l1i1 D.l1i2 e).at λo e=>oth _ o (bP hS.2.2.2.2.1) e) ((hl2.at λo e=>a7 l2 o D.l2z D.l2TO D.l2i1 D.l2i2 e).at λo e=>oth _ o (bP hS.2.2.2.2.2) e)
   hL' ?_ ?_ ?_ ?_
  ·intro t ht
   simp at ht;subst ht;exact⟨nS,dZ mh,dZ pj,dZ pq⟩
  ·show N0<=(h'.update S _).objs.size
   rw[uh,a6];omega
  ·show(h'.update S _).get? S=_
   rw[Cr];simp[Obj.mapSeq]
  ·intro h'' tk ts' c' g1 g2 g3 g4 g5
   refine hR h'' tk ts' c' (λb o q1 q2 q3 q4 q5 e=>g1 b o q1 q2 q4 q5 (oth b o q1 (a7 b o q2 q3 q4 q5 e))) g2 g3 g4 g5
theorem Ua{Q:Value->Shared->Prop}{a0 b0:Value}{n:Nat}(hh:A.handled=none)(D:ZipApart z TI TO i1 i2 l1 l2)(hn:n=min xs.size ys.size)(hz0:n<=100000)(hz:IsZip s.heap z TI TO .none)(hTI:IsPair s.heap TI (.ref i1) (.ref i2))(hTO:IsPair s.heap TO a0 b0)(h1:bu c1 s.heap i1 l1 0)(h2:bu c2 s.heap i2 l2 0)(hl1:bI c1 s.heap l1 xs)(hl2:bI c2 s.heap l2 ys)(hQ:∀h' tk ts c',(∀b o,b≠z->b≠TO->b≠i1->b≠i2->s.heap.get? b=some o->h'.get? b=some o)->ts.length=n->Laid s.heap.objs.size xs ys h' ts->(∀t∈ts,t≠s.heap.objs.size) ->
   h'.get? s.heap.objs.size=some {cls:=.type "list", dict:=none,data:=.seq (ts.map Value.ref).toArray c',slots:=#[]}->Q (.ref s.heap.objs.size) {s with heap:=h',toks:=tk}) :
  wpAny (model prog w) A (call (.type "list") [.ref z]) Q E s:=by
 have mh:z<s.heap.objs.size:=aS hz;have Jj:TI<s.heap.objs.size:=aS hTI;have Jk:TO<s.heap.objs.size:=aS hTO;have pj:=h1.lt;have pq:=h2.lt;have Ny:=hl1.lt;have Nz:=hl2.lt;refine callType_codes (Q₁:=λobj s₁=>obj = .ref s.heap.objs.size/\s₁ = {s with heap:=s.heap.push {cls:=.type "list", data:=.seq #[]}}) F.called_list (F.typeCall_list_1 _) F.entry_list_init
  (code_list_new _ ⟨rfl,rfl⟩) λobj s₁ h₁=>?_
 obtain⟨rfl,rfl⟩:=h₁;generalize u0:s.heap.objs.size=S at *;have hS:(s.heap.push {cls:=.type "list", data:=.seq #[]}).get? S=some {cls:=.type "list", data:=.seq #[]}:=by rw[<- u0];exact cn _ rfl
 have pu:∀b o,s.heap.get? b=some o->(s.heap.push {cls:=.type "list", data:=.seq #[]}).get? b=some o:=λb o e=>aV _ e;have zS:z≠S:=bB mh;refine⟨⟨_,hS,rfl⟩,F.args_list_init_2 _ _,?_⟩;show wpAny _ A.in1.in1 (do let old <- Builtin.List.listItems (.ref S);Builtin.List.listUpdate (.ref S) (λ_=>#[]);letGo old.toList.reverse;Builtin.List.listExtendWith (.ref S) (.ref z) .none) _ _ _;refine ai ?_;unfold Builtin.List.listItems;refine ai (jA hS rfl (aJ ?_));show wpAny _ A.in1.in1 (updateSeq S (λ_=>#[])>>=λ_=>letGo (#[]:Array Value).toList.reverse>>=λ_=>Builtin.List.listExtendWith (.ref S) (.ref z) .none) _ _ _;refine ai (uy hS rfl ?_);have hS₂:=iC (Obj.mapSeq (λ_=>(#[]:Array Value))) hS rfl;have oth:∀b o,b≠S->s.heap.get? b=some o->((s.heap.push {cls:=.type "list", data:=.seq #[]}).update S (Obj.mapSeq (λ_=>(#[]:Array Value)))).get? b=some o:=
  λb o hb e=>(iB _ _ (bP hb)).trans (pu b o e)
 refine ai (uq ?_);have hz2:=oth z _ zS hz;have RG:((s.heap.push {cls:=.type "list", data:=.seq #[]}).update S (Obj.mapSeq (λ_=>(#[]:Array Value)))).objs.size=S+1:=by rw[uh,eK,u0]
 generalize (s.heap.push {cls:=.type "list", data:=.seq #[]}).update S (Obj.mapSeq (λ_=>(#[]:Array Value)))=g2 at hS₂ oth hz2 RG ⊢;have hT2:Shared.TypeIs {s with heap:=g2} (.ref z) "zip" :=⟨_,hz2,rfl⟩;unfold Builtin.List.listExtendWith;refine ai (wpAny_typeOf hT2 ?_);have e1:Builtin.List.listSameRef (.ref S) (.ref z)=false:=by simp[Builtin.List.listSameRef,bP zS]
 have e2:(Value.type "zip" == Value.type "list")=false:=by decide
 have e3:(Value.type "zip" == Value.type "tuple")=false:=by decide
 simp only[e1,e2,e3,xH,jq,h9];refine ai (Jh hz2 ?_);refine ai (fS ?_);unfold Builtin.List.listLengthHint;refine ai (yA hT2 adZ ?_);show wpAny _ A.in1.in1 (specialOf (Value.ref z) (Str.ofString "__length_hint__")>>=_) _ _ _;refine ai (yA hT2 adY ?_);refine aJ ?_;show wpAny _ A.in1.in1 (rule "list.extend.makes-room" >>= λ_=>Builtin.List.listTouch (.ref S)>>=λ_ =>
  again (.builtin "list.extend.loop" ⟨[.ref S,.ref z,.none],[]⟩)) _ _ _
 refine ai (qN ?_);refine ai ?_;show wpAny _ A.in1.in1 (updateSeq S (·.push .none)>>=λ_=>updateSeq S (·.pop)) _ _ _;refine ai (uy hS₂ rfl ?_);have hS₃:=iC (Obj.mapSeq (·.push Value.none)) hS₂ rfl;refine uy (hz:=by seq_fits) hS₃ rfl ?_;have hS₄:=iC (Obj.mapSeq (·.pop)) hS₃ rfl;have kB:∀b o,b≠S->s.heap.get? b=some o->((g2.update S (Obj.mapSeq (·.push Value.none))).update S (Obj.mapSeq (·.pop))).get? b=some o:=
  λb o hb e=>(iB _ _ (bP hb)).trans ((iB _ _ (bP hb)).trans (oth b o hb e))
 have RJ:((g2.update S (Obj.mapSeq (·.push Value.none))).update S (Obj.mapSeq (·.pop))).objs.size=S+1:=by rw[uh,uh,RG]
 generalize (g2.update S (Obj.mapSeq (·.push Value.none))).update S (Obj.mapSeq (·.pop))=g4 at hS₄ kB RJ ⊢;refine aJ ⟨plainId_quiet qJ _,?_⟩;refine adS (N0:=S) (n:=n) (A:=A.in1) hh D ⟨bP zS,dZ Jj,dZ pj,dZ pq,dZ Ny,dZ Nz⟩ (dZ Jk) hn hz0 .none (kB _ _ zS hz) (kB _ _ (bB Jj) hTI) (kB _ _ (bB Jk) hTO)
  (h1.at λo e=>kB _ o (bB pj) e) (h2.at λo e=>kB _ o (bB pq) e) (hl1.at λo e=>kB _ o (bB Ny) e) (hl2.at λo e=>kB _ o (bB Nz) e) (by show S<=g4.objs.size;rw[RJ];omega) hS₄ λh' tk ts c' g1 rE g3 VG g5=>?_
 refine⟨rfl,hQ h' tk ts c' (λb o q1 q2 q3 q4 e=>g1 b o (bB (by have:=aS e;rw[u0]at this;exact this)) q1 q2 q3 q4 (kB b o (bB (by have:=aS e;rw[u0]at this;exact this)) e)) rE g3 VG g5⟩
end
section
variable {X:Cx} {pins:List (Addr × Obj)} {σ:St} {H H':Hp} {s:Shared} {h':Heap}
theorem Inv.Yo{t':Nat}(I:Inv X pins σ H s)(k:∀b u,s.heap.get? b=some u->h'.get? b=some u)(ext:∀b o,H b=some o->H' b=some o)(new:∀b o,H' b=some o->H b=some o\/s.heap.objs.size<=b)(hok:bL X.prog X.w H' h'):
  Inv X pins σ H' {s with heap:=h',toks:=t'}:=by
 refine I.un ⟨λb u q _ _ _=>k b u q,λb u q _ _ _=>⟨u.slots,k b u q⟩,λb u q n _=>?_,λb u q _=>⟨u,k b u q⟩,λb xs q=>ext b _ q,λb u xs q=>ext b _ q,λb ps q=>⟨#[],by rw[ext b _ q];simp⟩⟩ hok;cases e:H' b with
 |none=>rfl
 |some o =>
  rcases new b o e with z|z
  ·rw[n]at z;cases z
  ·exact absurd (aS q) (Nat.not_lt.mpr z)
noncomputable def jT (H:Hp) (L:Addr) (ts:List Addr) (xs ys:List V):Hp:=λb=>if b∈ts then some (.tup [xs.getD (ts.idxOf b) .non,ys.getD (ts.idxOf b) .non])else if b=L then some (.lst (ts.map V.ref))else H b
theorem Pp{H:Hp}{L:Addr}{ts:List Addr}{xs ys:List V}(nd:ts.Nodup){j:Nat}{t:Addr}(e:ts[j]?=some t):jT H L ts xs ys t=some (.tup [xs.getD j .non,ys.getD j .non]):=by
 have hm:t∈ts:=df e;obtain⟨hj,e'⟩:=bJ.mp e;have hi:ts.idxOf t=j:=by
  have h1:=qA.mpr hm;have h2:=qz h1;exact(xW nd).mp (h2.trans e'.symm)
 unfold jT;rw[if_pos hm,hi]
def acV(K:W.Frag)(c1 c2:Bool)(ta:TA):TE:=λσ H Q=>ta σ H λvs H1=>∃l1 l2 xs ys,vs = [.ref l1,.ref l2]/\Sq c1 K H1 l1 xs/\Sq c2 K H1 l2 ys/\min xs.length ys.length<=100000 /\
 ∀(L:Addr) (ts:List Addr) (H':Hp),Same H1 H'->H1 L=none->ts.length=min xs.length ys.length->(∀(j:Nat) t,ts[j]?=some t->H' t=some (.tup [xs.getD j .non,ys.getD j .non]))->H' L=some (.lst (ts.map V.ref))->Q (.ref L) H'
theorem adN(n l1 l2:Nat)(h1:l1<n)(h2:l2<n):ZipApart (n+4) (n+2) (n+3) n (n+1) l1 l2:=by
 have e:(n+2≠n+4/\n+3≠n+4/\n≠n+4/\n+1≠n+4/\n+2≠n+3/\n+2≠n/\n+2≠n+1/\n+3≠n/\n+3≠n+1/\n≠n+1)/\(l1≠n+4/\l1≠n+3/\l1≠n/\l1≠n+1)/\(l2≠n+4/\l2≠n+3/\l2≠n/\l2≠n+1):=by omega
 obtain⟨⟨a1,a2,a3,a4,a5,a6,a7,a8,a9,a10⟩,⟨b1,b2,b3,b4⟩,c1,c2,c3,c4⟩:=e;exact⟨a1,a2,a3,a4,a5,a6,a7,a8,a9,a10,b1,b2,b3,b4,c1,c2,c3,c4⟩
theorem vA{b n:Nat}(k:Nat)(h:b<n):b≠n+k:=by omega
theorem Se:∀ts:List Addr,Vals (ts.map V.ref) (ts.map Value.ref)
 | []=>.nil
 |t::ts=>.cons rfl (Se ts)
theorem DQ {K:W.Frag} (c1 c2:Bool) {a b:Expr} {ta:TA} {p p2 pos pos2:Pos} (hK:X.K=K) (hc:X.calm=true) (hg1:Gl X "list") (hm1:X.mg "list" = none) (hg2:Gl X "zip") (hm2:X.mg "zip" = none) (ha:PA X [a,b] ta)
  (hs:starEach [a,b] X.env = [(false,eval a X.env),(false,eval b X.env)]:=by rfl) (hs2:starEach [b] X.env = [(false,eval b X.env)]:=by rfl)
  (he:starEach [.Call (.Name "zip" p2) [a,b] [] pos2] X.env = [(false,eval (.Call (.Name "zip" p2) [a,b] [] pos2) X.env)]:=by rfl) :
  PE X (.Call (.Name "list" p) [.Call (.Name "zip" p2) [a,b] [] pos2] [] pos) (acV K c1 c2 ta):=by
 subst hK;intro pins s σ H Q I h;refine mH (jN I hg1 hm1 (show bootBuiltins "list" = some (.type "list")by trivial) ?_ (by decide) (by decide));refine ox ?_ (by rw[he];rfl) (by rfl);rw[he];show wpAny _ _ (spliced ((false,eval (.Call (.Name "zip" p2) [a,b] [] pos2) X.env)::[])) _ _ s;refine Ir ?_;refine Call_ (jN I hg2 hm2 (show bootBuiltins "zip" = some (.type "zip")by trivial) (ox (aM (ha pos2 pins s σ H _ I h) λus s1 ⟨vs,H1,I1,r1,q1⟩=>?_) (by rw[hs,hs2]) (by rw[hs2];rfl)));obtain⟨l1,l2,xs,ys,e,q1,q2,hmin,q⟩:=q1;subst e;obtain⟨u,v,rfl,ru,rv⟩:=Vals.two r1;cases ru;cases rv;obtain⟨r0,pX,p1,z1⟩:=I1.sq q1;obtain⟨r9,pZ,p2',z2⟩:=I1.sq q2;refine JM p1 p2' λh' zr hz hk=>?_;refine Iu ?_;have k1:=p1.lt;have k2:=p2'.lt;have len1:=pX.length;have len2:=pZ.length;obtain⟨ta0,tb0,hTO⟩:=zr.to;refine Ua (n:=min xs.length ys.length) (I1.ok.hd hc) (z:=s1.heap.objs.size+4) (TI:=s1.heap.objs.size+2) (TO:=s1.heap.objs.size+3) (i1:=s1.heap.objs.size) (i2:=s1.heap.objs.size+1) (l1:=l1) (l2:=l2)
  (adN _ _ _ k1 k2) (by rw[bV,bV,<- len1,<- len2]) hmin zr.hz zr.ti hTO zr.h1 zr.h2 (p1.at λo e=>hk _ o e) (p2'.at λo e=>hk _ o e) λh2 tk ts c' g1 g2 g3 g4 g5=>?_
 simp only at g1 g5;have hkk:∀b o,s1.heap.get? b=some o->h2.get? b=some o:=λb o e=>by
  have hlt:=aS e;exact g1 b o (vA 4 hlt) (vA 3 hlt) (vA 0 hlt) (vA 1 hlt) (hk b o e)
 have hsz:s1.heap.objs.size+5=h'.objs.size:=hz.symm;have hge:∀t∈ts,h'.objs.size<=t:=g3.ge;have hLf:H1 h'.objs.size=none:=I1.hok.fresh (by omega);have ZC:∀b o,H1 b=some o->b ∉ ts/\b≠h'.objs.size:=λb o e=>by
  have hlt:=I1.hok.lt e;have hlt2:b<h'.objs.size:=cZ hlt (by rw[<- hsz];exact Ig _ _);exact⟨λhm=>absurd hlt2 (Nat.not_lt.mpr (hge b hm)),bB hlt2⟩
 have ext:∀b o,H1 b=some o->jT H1 h'.objs.size ts xs ys b=some o:=λb o e=>by
  obtain⟨n1,n2⟩:=ZC b o e;unfold jT;rw[if_neg n1,if_neg n2];exact e
 have Ly:jT H1 h'.objs.size ts xs ys h'.objs.size=some (.lst (ts.map V.ref)):=by
  unfold jT;rw[if_neg (λhm=>g4 _ hm rfl),if_pos rfl]
 have ade:∀(j:Nat) t,ts[j]?=some t->∃u v,RelV (xs.getD j .non) u/\RelV (ys.getD j .non) v/\IsPair h2 t u v:=λj t e=>by
  obtain⟨x,y,e1,e2,e3⟩:=g3.at_ j t e;have hj1:j<xs.length:=by
   have:=(mj.mp e1).1;rw[bV]at this;omega
  have hj2:j<ys.length:=by
   have:=(mj.mp e2).1;rw[bV]at this;omega
  obtain⟨u,hu,ru⟩:=pX.get (aA hj1);obtain⟨v,hv,rv⟩:=pZ.get (aA hj2);have eu:x=u:=by
   have h3:r0.toArray[j]?=some u:=by simpa using hu
   rw[h3]at e1;exact(dg e1).symm
  have ev:y=v:=by
   have h3:r9.toArray[j]?=some v:=by simpa using hv
   rw[h3]at e2;exact(dg e2).symm
  subst eu ev;refine⟨x,y,?_,?_,e3⟩
  ·rw[aQ,aA hj1];exact ru
  ·rw[aQ,aA hj2];exact rv
 have hok:bL X.prog X.w (jT H1 h'.objs.size ts xs ys) h2:=λb o e=>by
  by_cases hm:b∈ts
  ·obtain⟨j,hj,ej⟩:=iS hm
   have e':ts[j]?=some b:=by rw[aA hj,ej]
   rw[Pp g3.nd e']at e;cases e;obtain⟨u,v,ru,rv,ip⟩:=ade j b e';exact DK ip ru rv
  ·by_cases hb:b=h'.objs.size
   ·subst hb
    rw[Ly]at e;cases e;exact⟨by rw[az,g2];exact ck hmin (fD (show 100000<sizeLine by decide)),ts.map Value.ref,c',Se ts,g5⟩
   ·have e0:H1 b=some o:=by
     unfold jT at e;rw[if_neg hm,if_neg hb]at e;exact e
    exact(I1.hok b o e0).stay (λc v _ q=>hkk c v q) (λc q=>ext c _ q) (λc xs q=>ext c _ q) λc ob u q=>ext c _ q
 have I2:Inv X pins σ (jT H1 h'.objs.size ts xs ys) {s1 with heap:=h2,toks:=tk}:=I1.Yo hkk ext (λb o e=>by
  by_cases hm:b∈ts
  ·exact .inr (ck (by rw[<- hsz];exact Ig _ _) (hge b hm))
  ·by_cases hb:b=h'.objs.size
   ·exact .inr (by rw[hb,<- hsz];exact Ig _ _)
   ·unfold jT at e
    rw[if_neg hm,if_neg hb]at e;exact .inl e) hok
 exact⟨.ref h'.objs.size,_,I2,rfl,q _ ts _ ext hLf g2 (λj t e=>Pp g3.nd e) Ly⟩
end
end _L
namespace _M
open PySem PySem.Spec PyProof.Rows _L
noncomputable def jk (cs:List Nat):List (Nat × Nat):=(List.range (cs.length - 1)).map λi=>(cs.getD i 0,cs.getD (i+1) 0)
theorem pT(cs:List Nat):(jk cs).length=cs.length - 1:=by unfold jk;simp
theorem nu{cs:List Nat}{i:Nat}(h:i+1<cs.length):(jk cs)[i]?=some (cs.getD i 0,cs.getD (i+1) 0):=by
 unfold jk;rw[bW,mx (by omega)];rfl
theorem Le{cs:List Nat}{i:Nat}(h:i<cs.length):(cs.map nV).getD i .non=nV (cs.getD i 0):=by
 rw[aQ,bW,aQ,aA h];rfl
theorem VL{cs:List Nat}{i:Nat}:(cs.drop 1).getD i 0=cs.getD (i+1) 0:=by
 rw[aQ,aQ,HR,yb]
theorem sG{α β:Type}{F:α->β->Prop}:∀{l:List α} {m:List β},l.length=m.length->(∀(i:Nat) x y,l[i]?=some x->m[i]?=some y->F x y)->Paired F l m
 | [],[],_,_=>.nil
 | [],_::_,h,_=>by simp at h
 |_::_,[],h,_=>by simp at h
 |a::l,b::m,h,q=>.cons (q 0 a b rfl rfl) (sG (by simpa using h) λi x y h1 h2=>q (i+1) x y (by simpa using h1) (by simpa using h2))
theorem Hm{H:Hp}{cs:List Nat}{ts:List Addr}(htl:ts.length=min (cs.map nV).length ((cs.drop 1).map nV).length)(hts:∀(j:Nat) t,ts[j]?=some t->H t=some (.tup [(cs.map nV).getD j .non,((cs.drop 1).map nV).getD j .non])):Paired (bT H) (jk cs) (ts.map V.ref):=by
 have el:ts.length=cs.length - 1:=by rw[htl,az,az,kQ];omega
 refine sG (by rw[pT,az,el]) λi x v hx hv=>?_;have hi:i<ts.length:=by
  have:=(bJ.mp hv).1
  rwa [az]at this
 rw[nu (by omega)]at hx;cases hx;rw[bW,aA hi]at hv;cases hv;refine⟨ts[i],rfl,?_⟩;rw[hts i _ (aA hi),Le (by omega),Le (by rw[kQ];omega),VL]
noncomputable def fM (J N:Nat->Nat->Nat) (cs ds:List Nat) (H:Hp) (r:Nat × Nat) (v:V):Prop:=∃t,v = .ref t/\H t=some (.tup [nV r.1,nV r.2,nV (dA J N cs ds r),nV (cJ N cs ds r)])
theorem fM.same{J N:Nat->Nat->Nat}{cs ds:List Nat}{H H':Hp}(s:Same H H'){l:List (Nat × Nat)}{us:List V}(h:Paired (fM J N cs ds H) l us):Paired (fM J N cs ds H') l us:=Paired.di h λ_ _ hpq=>by obtain⟨t,e,q⟩:=hpq;exact⟨t,e,s _ _ q⟩
section
variable {P:Program} {w:World} {K:W.Frag} {mg:Str->Option Value} {base:Heap} {f:Addr} {fd:FuncData}
abbrev Fu:Stmt:=top 52
theorem Rc:a_ ["chain"] ["chain"] (aB Fu):=by trivial
def w6(K:W.Frag):Sp:=λvs H Q _=>∃(t:Nat) (cs:List Nat),vs = [.ref t]/\ah K H t (cs.map nV)/\cs.length<=1000 /\
 ∀L us H',Same H H'->H L=none->H' L=some (.lst us)->Paired (bT H') (jk cs) us->Q (.ref L) H'
theorem aav (F:aU K "parts_of" "parts_of" Fu f fd) (T:Txt mg):aN P w K mg base aZ 1 f fd ["chain"] (w6 K):=by
 refine F.ok Rc (λvs H Q E h=>?_) (λcdv A outer s H vs Q E hr h=>?_)
 ·obtain⟨t,cs,rfl,_⟩:=h
  rfl
 ·obtain⟨t,cs,rfl,hT,hl,kk⟩:=h
  have nd:=Rc.nd;refine⟨_,(ay (aR (DQ (K:=K) true true rfl rfl rfl T.list rfl T.zip (ae (pv 0) (ae (gF (gH (K:=K) rfl) (pv 0) (f9 ak) gY) ag))))),?_⟩;refine⟨_,rfl,_,rfl,_,rfl,t,_,rfl,hT,λq hq=>?_⟩;have ec:d8 (cs.map nV) (some 1) none=(cs.drop 1).map nV:=by rw[show(1:Int)=((1:Nat):Int)from rfl,qY,oa]
  rw[ec];have sq:=Same.put (o:=.lst ((cs.drop 1).map nV)) hq;refine⟨t,q,cs.map nV,(cs.drop 1).map nV,rfl,sq.seq hT,ah.of au,by rw[az];omega,λL ts H' s2 hL htl hts hl2=>?_⟩;exact kk L _ H' (sq.trans s2) (sq.free hL) hl2 (Hm htl hts)
abbrev Fv:Stmt:=top 53
theorem Ri:a_ ["order","one","other","high","low"] ["order","one","other"] (aB Fv):=by trivial
def GK(K:W.Frag)(C:Addr):Sp:=λvs H Q _=>∃(p t u n x0 x1 y0 y1:Nat) (R:Nat->Nat->Bool) (J N:Nat->Nat->Nat),vs = [.ref p,.ref t,.ref u]/\eD C H p n R/\Md n R J N/\H t=some (.tup [nV x0,nV x1])/\H u=some (.tup [nV y0,nV y1])/\x0<n/\x1<n/\y0<n/\y1<n /\
 ∀b H',Same H H'->H' b=some (.tup [nV (J (N x0 y1) (N x1 y0)),nV (N x1 y1)])->Q (.ref b) H'
theorem aaB {C:Addr} (F:aU K "shared_part" "shared_part" Fv f fd) (T:Txt mg) (TC:eZ K C):aN P w K mg base aZ 1 f fd ["order","one","other"] (GK K C):=by
 refine F.ok Ri (λvs H Q E h=>?_) (λcdv A outer s H vs Q E hr h=>?_)
 ·obtain⟨p,t,u,n,x0,x1,y0,y1,R,J,N,rfl,_⟩:=h
  rfl
 ·obtain⟨p,t,u,n,x0,x1,y0,y1,R,J,N,rfl,hO,M,ht,hu,h0,h1,g0,g1,kk⟩:=h
  have nd:=Ri.nd;obtain⟨dx,vp,vr,vj,vm,o1,_,_,oj,om⟩:=id hO;have em:∀a b,a<n->b<n->gw n (λa b=>R b a) a b = .int (N a b:Nat):=λa b ha hb=>ja M.G.mV (M.m a b ha hb).1 (M.m a b ha hb).2;have ej:∀a b,a<n->b<n->gw n R a b = .int (J a b:Nat):=λa b ha hb=>ja M.G.dis (M.j a b ha hb).1 (M.j a b ha hb).2;have m1:=M.mlt h0 g1;have m2:=M.mlt h1 g0;obtain⟨sa,us,sb,rfl,p1,p2,p3⟩:=om.get h1;obtain⟨sa',us',sc,e1,p1',p2',p3'⟩:=om.get h0;cases e1;rw[p1]at p1';cases p1';obtain⟨ra,ws,rb,rfl,q1,q2,q3⟩:=oj.get m1;refine⟨_,(av (aP (i:=3) nd rfl (Or.inl rfl) (aq (aK (K:=K) rfl) (aq (aK (K:=K) rfl) (eW (K:=K) rfl (pv 0) rfl) (aq (aK (K:=K) rfl) (pv 1) ak (λ_ _=>rfl)) (λ_ _=>rfl)) (aq (aK (K:=K) rfl) (pv 2) ak (λ_ _=>rfl)) (λ_ _=>rfl)))
   (av (aP (i:=4) nd rfl (Or.inl rfl) (aq (aK (K:=K) rfl) (aq (aK (K:=K) rfl) (eW (K:=K) rfl (pv 0) rfl) (aq (aK (K:=K) rfl) (aq (aK (K:=K) rfl) (eW (K:=K) rfl (pv 0) rfl) (aq (aK (K:=K) rfl) (pv 1) ak (λ_ _=>rfl)) (λ_ _=>rfl)) (aq (aK (K:=K) rfl) (pv 2) ak (λ_ _=>rfl)) (λ_ _=>rfl)) (λ_ _=>rfl)) (aq (aK (K:=K) rfl) (aq (aK (K:=K) rfl) (eW (K:=K) rfl (pv 0) rfl) (aq (aK (K:=K) rfl) (pv 1) ak (λ_ _=>rfl)) (λ_ _=>rfl)) (aq (aK (K:=K) rfl) (pv 2) ak (λ_ _=>rfl)) (λ_ _=>rfl)) (λ_ _=>rfl)))
   (ay (aR (fP (ae (pv 4) (ae (pv 3) ag))))))),?_⟩
  refine⟨_,rfl,p,C,dx,_,_,rfl,o1,TC.cl,TC.nM,oY _ _ _ _ _,_,rfl,t,_,1,nV x1,rfl,rfl,ax.of ht,aH (j:=1) rfl,sa,us,_,.ref sb,rfl,rfl,ax.of p1,aH p2,_,rfl,u,_,1,nV y1,rfl,rfl,ax.of hu,aH (j:=1) rfl,sb,_,_,.int (N x1 y1:Nat),rfl,rfl,ax.of p3,aH (by rw[eM g1,em _ _ h1 g1]),?_⟩;refine⟨_,rfl,p,C,dx,_,_,rfl,o1,TC.cl,TC.nJ,oX _ _ _ _ _,_,rfl,p,C,dx,_,_,rfl,o1,TC.cl,TC.nM,oY _ _ _ _ _,_,rfl,t,_,0,nV x0,rfl,rfl,ax.of ht,aH (j:=0) rfl,sa,us,_,.ref sc,rfl,rfl,ax.of p1,aH p2',_,rfl,u,_,1,nV y1,rfl,rfl,ax.of hu,aH (j:=1) rfl,sc,_,_,.int (N x0 y1:Nat),rfl,rfl,ax.of p3',aH (by rw[eM g1,em _ _ h0 g1]),
   ra,ws,_,.ref rb,rfl,rfl,ax.of q1,aH q2,_,rfl,p,C,dx,_,_,rfl,o1,TC.cl,TC.nM,oY _ _ _ _ _,_,rfl,t,_,1,nV x1,rfl,rfl,ax.of ht,aH (j:=1) rfl,sa,us,_,.ref sb,rfl,rfl,ax.of p1,aH p2,_,rfl,u,_,0,nV y0,rfl,rfl,ax.of hu,aH (j:=0) rfl,sb,_,_,.int (N x1 y0:Nat),rfl,rfl,ax.of p3,aH (by rw[eM g0,em _ _ h1 g0]),rb,_,_,.int (J (N x0 y1) (N x1 y0):Nat),rfl,rfl,ax.of q3,aH (by rw[eM m2,ej _ _ m1 m2]),?_⟩
  exact⟨_,rfl,_,rfl,by show 2<=sizeLine;decide,λb hb=>kk b _ (Same.put hb) au⟩
abbrev Fg:Stmt:=top 54
theorem QS:a_ ["order","one","other","told","place","part","against","facing","both"] ["order","one","other"] (aB Fg):=by trivial
def Gi(K:W.Frag)(C:Addr):Sp:=λvs H Q _=>∃(p t u n:Nat) (R:Nat->Nat->Bool) (J N:Nat->Nat->Nat) (cs ds:List Nat),vs = [.ref p,.ref t,.ref u]/\eD C H p n R/\Md n R J N/\ah K H t (cs.map nV)/\ah K H u (ds.map nV)/\(∀x∈cs,x<n)/\(∀x∈ds,x<n)/\cs.length<=100/\ds.length<=100 /\
 ∀L us H',Same H H'->H L=none->H' L=some (.lst us)->Paired (fM J N cs ds H') (aO J N cs ds) us->Q (.ref L) H'
theorem aai {C:Addr} (F:aU K "matches" "matches" Fg f fd) (T:Txt mg) (lB:aC P w K mg base "parts_of" ["chain"] 1 (w6 K)) (zv:aC P w K mg base "shared_part" ["order","one","other"] 1 (GK K C)) :
  aN P w K mg base aZ 2 f fd ["order","one","other"] (Gi K C):=by
 refine F.ok QS (λvs H Q E h=>?_) (λcdv A outer s H vs Q E hr h=>?_)
 ·obtain⟨p,t,u,n,R,J,N,cs,ds,rfl,_⟩:=h
  rfl
 ·obtain⟨p,t,u,n,R,J,N,cs,ds,rfl,hO,M,hT,hU,hc,hd,hcl,hdl,kk⟩:=h
  have nd:=QS.nd;refine⟨_,(av (aP (i:=3) nd rfl (Or.inl rfl) (bU ag))
   (av (cx cq rfl (DS (K:=K) true rfl rfl T.enumerate (ae (aL lB hr rfl (ae (pv 1) ag)) ag)) (iM (K:=K) (i:=4) (j:=5) rfl rfl nd rfl rfl rfl rfl)
   (ay (cx cq rfl (DS (K:=K) true rfl rfl T.enumerate (ae (aL lB hr rfl (ae (pv 2) ag)) ag)) (iM (K:=K) (i:=6) (j:=7) rfl rfl nd rfl rfl rfl rfl)
   (av (aP (i:=8) nd rfl (Or.inl rfl) (aL zv hr rfl (ae (pv 0) (ae (pv 5) (ae (pv 7) ag (ao nofun)) (ao nofun)) (ao nofun))))
   (ay (bA (bw f6 (aq (aK (K:=K) rfl) (pv 8) ak (λ_ _=>rfl)) (aq (aK (K:=K) rfl) (pv 8) ak (λ_ _=>rfl)) (bh _)) (ay (cT (eP (K:=K) rfl eE iW jz iK (pv 3) (ae (fP (ae (pv 4) (ae (pv 6) (ae (aq (aK (K:=K) rfl) (pv 8) ak (λ_ _=>rfl)) (ae (aq (aK (K:=K) rfl) (pv 8) ak (λ_ _=>rfl)) ag (ao nofun)) (ao nofun)) (ao nofun)) (ao nofun))) ag)))) bD))))))
   (ay (aR (pv 3))))),?_⟩
  refine⟨by show 0<=sizeLine;decide,λL rN=>?_⟩;have sL:=Same.put rN (o:=.lst ([]:List V));dsimp only[cD];show kH _ _ _ [some (.ref p),some (.ref t),some (.ref u),some (.ref L),none,none,none,none,none] _;refine⟨_,rfl,t,cs,rfl,sL.seq hT,by omega,λL1 dJ H1 s1 hL1 g1 hp1=>⟨L1,dJ,rfl,ah.of g1,?_⟩⟩;have Wv:L1≠L:=λz=>by rw[z,au]at hL1;cases hL1
  have el1:dJ.length=cs.length - 1:=by rw[<- cp hp1,pT]
  refine BR (K:=K) (c:=true) (l:=L1) (xs:=dJ) (λi σ H2=>∃(v4 v5 v6 v7 v8:Option V) (ws:List V),σ = [some (.ref p),some (.ref t),some (.ref u),some (.ref L),v4,v5,v6,v7,v8]/\Same H H2/\H2 L1=some (.lst dJ)/\Paired (bT H2) (jk cs) dJ/\H2 L=some (.lst ws)/\ws.length<=100*i/\Paired (fM J N cs ds H2) ((List.range i).flatMap (gG J N cs ds)) ws)
   ⟨none,none,none,none,none,[],rfl,sL.trans s1,g1,hp1,s1 _ _ au,dP _,.nil⟩ (λi σ H2 hpq=>by obtain⟨_,_,_,_,_,_,_,_,g2,_⟩:=hpq;exact ah.of g2) ?_ ?_
  ·rintro i x σ H2 Tt hx m6 ⟨v4,v5,v6,v7,v8,ws,rfl,s2,g2,hp2,hL2,hwl,hm2⟩
   have hi:i<dJ.length:=(bJ.mp hx).1;obtain⟨q,hq,ta,rfl,rL⟩:=c7 hp2 hx;rw[nu (by omega)]at hq;cases hq;have sT:=Same.put m6 (o:=.tup [V.int (i:Int),.ref ta]);refine⟨Tt,_,rfl,ax.of au,rfl,_,_,rfl,_,_,rfl,rfl,?_⟩;dsimp only[cD];refine⟨_,rfl,u,ds,rfl,(s2.trans sT).seq hU,by omega,λL2 b9 H3 s3 hL2' g3 hp3=>⟨L2,b9,rfl,ah.of g3,?_⟩⟩;have p7:=sT.trans s3;have Wt:L2≠L:=λz=>by rw[z,sT _ _ hL2]at hL2';cases hL2'
   have el2:b9.length=ds.length - 1:=by rw[<- cp hp3,pT]
   refine BR (K:=K) (c:=true) (l:=L2) (xs:=b9) (λj σ H4=>∃(v6 v7 v8:Option V) (ws:List V),σ = [some (.ref p),some (.ref t),some (.ref u),some (.ref L),some (.int (i:Int)),some (.ref ta),v6,v7,v8]/\Same H H4/\H4 L1=some (.lst dJ)/\Paired (bT H4) (jk cs) dJ/\H4 L2=some (.lst b9)/\Paired (bT H4) (jk ds) b9/\H4 ta=some (.tup [nV (cs.getD i 0),nV (cs.getD (i+1) 0)])/\H4 L=some (.lst ws)/\ws.length<=100*i+j /\
    Paired (fM J N cs ds H4) ((List.range i).flatMap (gG J N cs ds)++((List.range j).filter λq=>eN J N cs ds (i,q)).map λq=>(i,q)) ws)
    ⟨v6,v7,v8,ws,rfl,s2.trans p7,p7 _ _ g2,c9.same p7 hp2,g3,hp3,p7 _ _ rL,p7 _ _ hL2,by omega,by rw[List.range_zero,List.filter_nil,tX,iA];exact fM.same p7 hm2⟩ (λj σ H4 hpq=>by obtain⟨_,_,_,_,_,_,_,_,g4,_⟩:=hpq;exact ah.of g4) ?_ ?_
   ·rintro j y σ H4 Tu hy WK ⟨v6,v7,v8,ws,rfl,s4,BZ,CJ,K4,CK,uY,jH,Xu,rS⟩
    have hj:j<b9.length:=(bJ.mp hy).1;obtain⟨q,hq,tb,rfl,Ci⟩:=c7 CK hy;rw[nu (by omega)]at hq;cases hq;have sU:=Same.put WK (o:=.tup [V.int (j:Int),.ref tb]);refine⟨Tu,_,rfl,ax.of au,rfl,_,_,rfl,_,_,rfl,rfl,?_⟩;dsimp only[cD];refine⟨_,rfl,_,rfl,_,rfl,p,ta,tb,n,cs.getD i 0,cs.getD (i+1) 0,ds.getD j 0,ds.getD (j+1) 0,R,J,N,rfl,hO.eQ (s4.trans sU),M,sU _ _ uY,sU _ _ Ci,hc _ (rH (by omega)),hc _ (rH (by omega)),hd _ (rH (by omega)),hd _ (rH (by omega)),λb H5 s5 gb=>?_⟩;have cy:=sU.trans s5;have keep:∀(ws':List V) (H6:Hp),(∀b o,b≠L->H5 b=some o->H6 b=some o)->H6 L=some (.lst ws')->ws'.length<=100*i+(j+1)->Paired (fM J N cs ds H6) ((List.range i).flatMap (gG J N cs ds)++((List.range (j+1)).filter λq=>eN J N cs ds (i,q)).map λq=>(i,q)) ws' ->
      ∃(v6 v7 v8:Option V) (ws:List V),[some (V.ref p),some (.ref t),some (.ref u),some (.ref L),some (.int (i:Int)),some (.ref ta),some (.int (j:Int)),some (.ref tb),some (.ref b)] = [some (.ref p),some (.ref t),some (.ref u),some (.ref L),some (.int (i:Int)),some (.ref ta),v6,v7,v8]/\Same H H6/\H6 L1=some (.lst dJ)/\Paired (bT H6) (jk cs) dJ/\H6 L2=some (.lst b9)/\Paired (bT H6) (jk ds) b9/\H6 ta=some (.tup [nV (cs.getD i 0),nV (cs.getD (i+1) 0)])/\H6 L=some (.lst ws)/\ws.length<=100*i+(j+1) /\
       Paired (fM J N cs ds H6) ((List.range i).flatMap (gG J N cs ds)++((List.range (j+1)).filter λq=>eN J N cs ds (i,q)).map λq=>(i,q)) ws:=by
     intro ws' H6 k6 Wu u9 Xd;have pk:∀{l:List (Nat × Nat)} {us:List V},Paired (bT H4) l us->Paired (bT H6) l us:=λh=>Paired.di h λ_ _ hpq=>by obtain⟨t,e,q⟩:=hpq;exact⟨t,e,k6 _ _ (fZ (cy _ _ q) (cy _ _ jH) (by intro z;cases z)) (cy _ _ q)⟩
     refine⟨_,_,_,ws',rfl,λb o e=>k6 b o (c6 e rN) (cy _ _ (s4 _ _ e)),k6 _ _ Wv (cy _ _ BZ),pk CJ,k6 _ _ Wt (cy _ _ K4),pk CK,k6 _ _ (fZ (cy _ _ uY) (cy _ _ jH) (by intro z;cases z)) (cy _ _ uY),Wu,u9,Xd⟩
    have er:(List.range (j+1)).filter (λq=>eN J N cs ds (i,q))=(List.range j).filter (λq=>eN J N cs ds (i,q))++if eN J N cs ds (i,j)=true then[j]else[]:=by
     rw[iU,qu]
     congr 1
     cases e:eN J N cs ds (i,j)with
     |true=>simp[e]
     |false=>simp[e]
    refine⟨_,rfl,b,_,0,nV (dA J N cs ds (i,j)),rfl,rfl,ax.of gb,aH (j:=0) rfl,_,rfl,b,_,1,nV (cJ N cs ds (i,j)),rfl,rfl,ax.of gb,aH (j:=1) rfl,rfl,_,rfl,bq (λh=>?_) (λh=>?_)⟩
    ·have ne:eN J N cs ds (i,j)=true:=by
      unfold eN;rw[eY,fU];intro e;rw[e]at h;simp at h
     rw[if_pos ne]at er;refine⟨_,rfl,.inl ⟨rfl,_,ah.of (cy _ _ jH)⟩,_,rfl,_,rfl,_,rfl,b,_,0,nV (dA J N cs ds (i,j)),rfl,rfl,ax.of gb,aH (j:=0) rfl,_,rfl,b,_,1,nV (cJ N cs ds (i,j)),rfl,rfl,ax.of gb,aH (j:=1) rfl,by show 4<=sizeLine;decide,λq hq=>?_⟩;have sq:=Same.put hq (o:=.tup [V.int (i:Int),.int (j:Int),nV (dA J N cs ds (i,j)),nV (cJ N cs ds (i,j))]);have pe:q≠L:=λz=>by rw[z,cy _ _ jH]at hq;cases hq
     refine⟨L,_,.ref q,rfl,rfl,sq _ _ (cy _ _ jH),dw (by omega),?_⟩;refine keep (ws++[.ref q]) _ (λb o hb e=>by rw[aF hb];exact sq _ _ e) au (by rw[cz,mB];omega) ?_;rw[er,jy,<- jv];refine Paired.Rt (Paired.di rS λ_ _ ⟨t,e,g⟩=>⟨t,e,?_⟩) ⟨q,rfl,by rw[aF pe,au]⟩;rw[aF (fZ (cy _ _ g) (cy _ _ jH) (by intro z;cases z))];exact sq _ _ (cy _ _ g)
    ·have ne:eN J N cs ds (i,j)=false:=by
      unfold eN;rw[Hr,cL];apply nT
      intro z;apply h
      rw[eY,fU];intro w;injection w with w
      exact z (by omega)
     rw[if_neg (by rw[ne];decide),iA]at er;refine keep ws _ (λb o _ e=>e) (cy _ _ jH) (by omega) ?_;rw[er];exact fM.same cy rS
   ·rintro σ H4 ⟨v6,v7,v8,ws,rfl,s4,BZ,CJ,K4,CK,uY,jH,Xu,rS⟩
    refine⟨_,_,_,_,_,ws,rfl,s4,BZ,CJ,jH,by omega,?_⟩;rw[iU,xS,qw,HN,iA];rw[el2]at rS;exact rS
  ·rintro σ H2 ⟨v4,v5,v6,v7,v8,ws,rfl,s2,g2,hp2,hL2,hwl,hm2⟩
   rw[el1]at hm2;exact⟨_,rfl,kk L ws H2 s2 rN hL2 hm2⟩
end
noncomputable def Un (n:Nat) (R:Nat->Nat->Bool) (a b c:Nat):Prop:=R a c=true/\∃m x j y,bM n R b c m/\bG n R a m x/\bG n R a b j/\bM n R j c y/\x≠y
def Lex(a b c a' b' c':Nat):Prop:=a<a'\/(a=a'/\(b<b'\/(b=b'/\c<c')))
structure First (n:Nat) (U:Nat->Nat->Nat->Prop) (a b c:Nat):Prop where
 la:a<n
 lb:b<n
 lc:c<n
 is:U a b c
 no:∀a' b' c',a'<n->b'<n->c'<n->Lex a' b' c' a b c->¬ U a' b' c'
def Jl(n:Nat)(U:Nat->Nat->Nat->Prop)(v:V)(H:Hp):Prop:=(v = .non/\∀a b c,a<n->b<n->c<n->¬ U a b c)\/∃t a b c:Nat,v = .ref t/\H t=some (.tup [.int a,.int b,.int c])/\First n U a b c
theorem bG.congr{n:Nat}{R R':Nat->Nat->Bool}(hR:∀a b,a<n->b<n->R a b=R' a b){a b c:Nat}(ha:a<n)(hb:b<n)(h:bG n R a b c):bG n R' a b c:=
 ⟨h.1,λx hx=>by rw[<- hR c x h.1 hx,<- hR a x ha hx,<- hR b x hb hx];exact h.2 x hx⟩
theorem bM.congr{n:Nat}{R R':Nat->Nat->Bool}(hR:∀a b,a<n->b<n->R a b=R' a b){a b c:Nat}(ha:a<n)(hb:b<n)(h:bM n R a b c):bM n R' a b c:=
 ⟨h.1,λx hx=>by rw[<- hR x c hx h.1,<- hR x a hx ha,<- hR x b hx hb];exact h.2 x hx⟩
theorem Un.congr{n:Nat}{R R':Nat->Nat->Bool}(hR:∀a b,a<n->b<n->R a b=R' a b){a b c:Nat}(ha:a<n)(hb:b<n)(hc:c<n)(h:Un n R a b c):Un n R' a b c:=by
 obtain⟨h0,m,x,j,y,h1,h2,h3,h4,ne⟩:=h;exact⟨by rw[<- hR a c ha hc];exact h0,m,x,j,y,h1.congr hR hb hc,h2.congr hR ha h1.1,h3.congr hR ha hb,h4.congr hR h3.1 hc,ne⟩
section
variable {P:Program} {w:World} {K:W.Frag} {mg:Str->Option Value} {base:Heap} {f:Addr} {fd:FuncData}
abbrev Et:Stmt:=top 46
theorem Ql:a_ ["order","a","b","c"] ["order","a","b","c"] (aB Et):=by trivial
noncomputable def wX (C:Addr):Sp:=λvs H Q _=>∃(p n a b c m x:Nat) (R:Nat->Nat->Bool),vs = [.ref p,.int a,.int b,.int c]/\eD C H p n R/\Good n R/\a<n/\b<n/\c<n/\bM n R b c m/\bG n R a m x/\Q (.int x) H
theorem aae {C:Addr} (F:aU K "join_of_meet" "join_of_meet" Et f fd) (T:Txt mg) (TC:eZ K C):aN P w K mg base aZ 1 f fd ["order","a","b","c"] (wX C):=by
 refine F.ok Ql (λvs H Q E h=>?_) (λcdv A outer s H vs Q E hr h=>?_)
 ·obtain⟨p,n,a,b,c,m,x,R,rfl,_⟩:=h
  rfl
 ·obtain⟨p,n,a,b,c,m,x,R,rfl,hO,G,ha,hb,hc,hm,hx,kk⟩:=h
  have nd:=Ql.nd;obtain⟨dx,vp,vr,vj,vm,o1,_,_,oj,om⟩:=hO;obtain⟨ra,us,rb,rfl,q1,q2,q3⟩:=oj.get ha;obtain⟨sa,ws,sb,rfl,p1,p2,p3⟩:=om.get hb;have em:gw n (λa b=>R b a) b c = .int m:=ja G.mV hm.1 hm.2;have ex:gw n R a m = .int x:=ja G.dis hx.1 hx.2;refine⟨_,(ay (aR (aq (aK (K:=K) rfl) (aq (aK (K:=K) rfl) (eW (K:=K) rfl (pv 0) rfl) (pv 1) (λ_ _=>rfl)) (aq (aK (K:=K) rfl) (aq (aK (K:=K) rfl) (eW (K:=K) rfl (pv 0) rfl) (pv 2) (λ_ _=>rfl)) (pv 3) (λ_ _=>rfl)) (λ_ _=>rfl)))),?_⟩;exact⟨_,rfl,p,C,dx,_,_,rfl,o1,TC.cl,TC.nJ,oX _ _ _ _ _,_,rfl,ra,us,_,.ref rb,rfl,rfl,ax.of q1,aH q2,_,rfl,p,C,dx,_,_,rfl,o1,TC.cl,TC.nM,oY _ _ _ _ _,_,rfl,sa,ws,_,.ref sb,rfl,rfl,ax.of p1,aH p2,_,rfl,sb,_,_,.int m,rfl,rfl,ax.of p3,aH (by rw[eM hc,em]),rb,_,_,.int x,rfl,rfl,ax.of q3,aH (by rw[eM hm.1,ex]),kk⟩
abbrev Fh:Stmt:=top 47
theorem QT:a_ ["order","a","b","c"] ["order","a","b","c"] (aB Fh):=by trivial
def w5(C:Addr):Sp:=λvs H Q _=>∃(p n a b c j y:Nat) (R:Nat->Nat->Bool),vs = [.ref p,.int a,.int b,.int c]/\eD C H p n R/\Good n R/\a<n/\b<n/\c<n/\bG n R a b j/\bM n R j c y/\Q (.int y) H
theorem aal {C:Addr} (F:aU K "meet_of_join" "meet_of_join" Fh f fd) (T:Txt mg) (TC:eZ K C):aN P w K mg base aZ 1 f fd ["order","a","b","c"] (w5 C):=by
 refine F.ok QT (λvs H Q E h=>?_) (λcdv A outer s H vs Q E hr h=>?_)
 ·obtain⟨p,n,a,b,c,m,x,R,rfl,_⟩:=h
  rfl
 ·obtain⟨p,n,a,b,c,j,y,R,rfl,hO,G,ha,hb,hc,hj,hy,kk⟩:=h
  have nd:=QT.nd;obtain⟨dx,vp,vr,vj,vm,o1,_,_,oj,om⟩:=hO;obtain⟨ra,us,rb,rfl,q1,q2,q3⟩:=oj.get ha;obtain⟨sa,ws,sb,rfl,p1,p2,p3⟩:=om.get hj.1;have ej:gw n R a b = .int j:=ja G.dis hj.1 hj.2;have ey:gw n (λa b=>R b a) j c = .int y:=ja G.mV hy.1 hy.2;refine⟨_,(ay (aR (aq (aK (K:=K) rfl) (aq (aK (K:=K) rfl) (eW (K:=K) rfl (pv 0) rfl) (aq (aK (K:=K) rfl) (aq (aK (K:=K) rfl) (eW (K:=K) rfl (pv 0) rfl) (pv 1) (λ_ _=>rfl)) (pv 2) (λ_ _=>rfl)) (λ_ _=>rfl)) (pv 3) (λ_ _=>rfl)))),?_⟩;exact⟨_,rfl,p,C,dx,_,_,rfl,o1,TC.cl,TC.nM,oY _ _ _ _ _,_,rfl,p,C,dx,_,_,rfl,o1,TC.cl,TC.nJ,oX _ _ _ _ _,_,rfl,ra,us,_,.ref rb,rfl,rfl,ax.of q1,aH q2,_,rfl,rb,_,_,.int j,rfl,rfl,ax.of q3,aH (by rw[eM hb,ej]),sa,ws,_,.ref sb,rfl,rfl,ax.of p1,aH p2,_,rfl,sb,_,_,.int y,rfl,rfl,ax.of p3,aH (by rw[eM hc,ey]),kk⟩
abbrev Fw:Stmt:=top 48
theorem Rk:a_ ["order","a","b","c"] ["order"] (aB Fw):=by trivial
def GX(C:Addr):Sp:=λvs H Q _=>∃(p n:Nat) (R:Nat->Nat->Bool),vs = [.ref p]/\eD C H p n R/\Good n R/\n<=24/\∀v H',Same H H'->Jl n (Un n R) v H'->Q v H'
theorem aaG {C:Addr} (F:aU K "uneven" "uneven" Fw f fd) (T:Txt mg) (TC:eZ K C) (oO:aC P w K mg base "join_of_meet" ["order","a","b","c"] 1 (wX C)) (oR:aC P w K mg base "meet_of_join" ["order","a","b","c"] 1 (w5 C)) :
  aN P w K mg base aZ 2 f fd ["order"] (GX C):=by
 refine F.ok Rk (λvs H Q E h=>?_) (λcdv A outer s H vs Q E hr h=>?_)
 ·obtain⟨p,n,R,rfl,_⟩:=h
  rfl
 ·obtain⟨p,n,R,rfl,hO,G,hn,kk⟩:=h
  have nd:=Rk.nd;have en:((n:Int)).toNat=n:=dq n;obtain⟨dx,vp,vr,vj,vm,o1,_,o3,_,_⟩:=id hO;refine⟨_,(av (cx cq rfl (cQ rfl T.range (ae (eW (K:=K) rfl (pv 0) rfl) ag)) (bj (i:=1) nd rfl (Or.inl rfl))
   (ay (cx cq rfl (cQ rfl T.range (ae (eW (K:=K) rfl (pv 0) rfl) ag)) (bj (i:=2) nd rfl (Or.inl rfl))
   (ay (cx cq rfl (cQ rfl T.range (ae (eW (K:=K) rfl (pv 0) rfl) ag)) (bj (i:=3) nd rfl (Or.inl rfl))
   (ay (bA (PW.pt (lN (bZ (aq (aK (K:=K) rfl) (aq (aK (K:=K) rfl) (eW (K:=K) rfl (pv 0) rfl) (pv 1) (λ_ _=>rfl)) (pv 3) (λ_ _=>rfl))) (lO (bw f6 (aL oO hr rfl (ae (pv 0) (ae (pv 1) (ae (pv 2) (ae (pv 3) ag (ao nofun)) (ao nofun)) (ao nofun)) (ao nofun))) (aL oR hr rfl (ae (pv 0) (ae (pv 1) (ae (pv 2) (ae (pv 3) ag (ao nofun)) (ao nofun)) (ao nofun)) (ao nofun))) (bh _))))) (ay (aR (fP (ae (pv 1) (ae (pv 2) (ae (pv 3) ag (ao nofun)) (ao nofun)) (ao nofun))))) bD)))))))
   (ay (aR jR))),?_⟩
  refine⟨_,rfl,p,C,dx,_,_,rfl,o1,TC.cl,TC.nC,rC _ _ _ _ _,_,rfl,(bC (by omega)).1,(bC (by omega)).2,fJ (lo:=0) (n:=((n:Int)).toNat) (λi σ H2=>∃(v1 v2 v3:Option V),σ = [some (.ref p),v1,v2,v3]/\Same H H2/\∀a b c,a<i->b<n->c<n->¬ Un n R a b c)
   ⟨none,none,none,rfl,Same.refl _,λa b c h=>by omega⟩ ?_ ?_⟩
  ·rintro i σ H2 hi ⟨v1,v2,v3,rfl,s2,jg⟩
   rw[en]at hi;refine⟨_,rfl,p,C,dx,_,_,rfl,s2 _ _ o1,TC.cl,TC.nC,rC _ _ _ _ _,_,rfl,(bC (by omega)).1,(bC (by omega)).2,fJ (lo:=0) (n:=((n:Int)).toNat) (λj σ H3=>∃(v2 v3:Option V),σ = [some (.ref p),some (.int (0+(i:Int))),v2,v3]/\Same H H3/\∀b c,b<j->c<n->¬ Un n R i b c)
    ⟨v2,v3,rfl,s2,λb c h=>by omega⟩ ?_ ?_⟩
   ·rintro j σ H3 hj ⟨v2,v3,rfl,s3,jh⟩
    rw[en]at hj;refine⟨_,rfl,p,C,dx,_,_,rfl,s3 _ _ o1,TC.cl,TC.nC,rC _ _ _ _ _,_,rfl,(bC (by omega)).1,(bC (by omega)).2,fJ (lo:=0) (n:=((n:Int)).toNat) (λk σ H4=>∃(v3:Option V),σ = [some (.ref p),some (.int (0+(i:Int))),some (.int (0+(j:Int))),v3]/\Same H H4/\∀c,c<k->¬ Un n R i j c)
     ⟨v3,rfl,s3,λc h=>by omega⟩ ?_ ?_⟩
    ·rintro k σ H4 hk ⟨v3,rfl,s4,ji⟩
     rw[en]at hk;obtain⟨ra,us,rb,rfl,q1,q2,q3⟩:=(o3.same s4).get hi;obtain⟨m,hm,hm'⟩:=G.meet j k hj hk;obtain⟨x,hx,hx'⟩:=G.join i m hi hm;obtain⟨jj,u6,Cv⟩:=G.join i j hi hj;obtain⟨y,hy,hy'⟩:=G.meet jj k u6 hk;have next:¬ Un n R i j k->∀c,c<k+1->¬ Un n R i j c:=λh c hc=>by
      by_cases e:c=k
      ·subst e;exact h
      ·exact ji c (by omega)
     refine⟨_,rfl,p,C,dx,_,_,rfl,s4 _ _ o1,TC.cl,TC.nR,KY _ _ _ _ _,_,rfl,ra,us,_,.ref rb,rfl,rfl,ax.of q1,at0 q2,_,rfl,rb,_,_,.bl (R i k),rfl,rfl,ax.of q3,at0 (eM hk),_,rfl,?_⟩;refine bq (λh=>?_) (λh=>?_)
     ·refine⟨_,rfl,_,rfl,_,rfl,_,rfl,p,n,i,j,k,m,x,R,by simp,hO.eQ s4,G,hi,hj,hk,⟨hm,hm'⟩,⟨hx,hx'⟩,?_⟩
      refine⟨_,rfl,_,rfl,_,rfl,_,rfl,p,n,i,j,k,jj,y,R,by simp,hO.eQ s4,G,hi,hj,hk,⟨u6,Cv⟩,⟨hy,hy'⟩,rfl,_,rfl,?_⟩;refine bq (λh2=>?_) (λh2=>?_)
      ·have ne:x≠y:=λz=>by subst z;simp at h2
       refine⟨_,rfl,_,rfl,_,rfl,by show 3<=sizeLine;decide,λt ht=>kk _ _ (s4.trans (Same.put ht)) (.inr ⟨t,i,j,k,rfl,by rw[au,fA,fA,fA],hi,hj,hk,⟨h,m,x,jj,y,⟨hm,hm'⟩,⟨hx,hx'⟩,⟨u6,Cv⟩,⟨hy,hy'⟩,ne⟩,λa' b' c' ha hb hc l=>?_⟩)⟩
       rcases l with l|⟨rfl,l|⟨rfl,l⟩⟩
       ·exact jg a' b' c' l hb hc
       ·exact jh b' c' l hc
       ·exact ji c' l
      ·have e:x=y:=by
        by_cases z:x=y
        ·exact z
        ·exact absurd (by rw[cg (λq=>by injection q with q;omega)];rfl) h2
       refine⟨_,rfl,s4,next λz=>?_⟩;obtain⟨_,m',x',j',y',k1,k2,k3,k4,ne⟩:=z;obtain rfl:=k1.uniq G ⟨hm,hm'⟩;obtain rfl:=k3.uniq G ⟨u6,Cv⟩;exact ne ((k2.uniq G ⟨hx,hx'⟩).trans (e.trans (k4.uniq G ⟨hy,hy'⟩).symm))
     ·refine bx ⟨_,rfl,s4,next λz=>h z.1⟩
    ·rintro σ H4 ⟨v3,rfl,s4,ji⟩
     rw[en]at ji;refine⟨_,_,rfl,s4,λb c hb hc=>?_⟩
     by_cases e:b=j
     ·subst e;exact ji c hc
     ·exact jh b c (by omega) hc
   ·rintro σ H3 ⟨v2,v3,rfl,s3,jh⟩
    rw[en]at jh;refine⟨_,_,_,rfl,s3,λa b c ha hb hc=>?_⟩
    by_cases e:a=i
    ·subst e;exact jh b c hb hc
    ·exact jg a b c (by omega) hb hc
  ·rintro σ H2 ⟨v1,v2,v3,rfl,s2,jg⟩
   rw[en]at jg;exact kk _ _ s2 (.inl ⟨rfl,jg⟩)
end
end _M
namespace _L
open PySem PySem.Spec PyProof.Rows
section
variable {X:Cx} {tg:Expr}
end
end _L
namespace _M
open PySem PySem.Spec PyProof.Rows _L
section
variable {P:Program} {w:World} {K:W.Frag} {mg:Str->Option Value} {base:Heap} {f:Addr} {fd:FuncData}
end
section
variable {n:Nat} {R:Nat->Nat->Bool}
theorem Y0(G:Good n R)(no:∀a b c,a<n->b<n->c<n->¬ Un n R a b c):∃J N,Md n R J N:=by
 have hJ:∃J:Nat->Nat->Nat,∀a b,a<n->b<n->bG n R a b (J a b):=⟨λa b=>if h:a<n/\b<n then Classical.choose (G.join a b h.1 h.2)else 0,λa b ha hb=>by
  have h:=xI (G.join a b ha hb);simp only[ha,hb,and_self,zL];exact h⟩
 have hN:∃N:Nat->Nat->Nat,∀a b,a<n->b<n->bM n R a b (N a b):=⟨λa b=>if h:a<n/\b<n then Classical.choose (G.meet a b h.1 h.2)else 0,λa b ha hb=>by
  have h:=xI (G.meet a b ha hb);simp only[ha,hb,and_self,zL];exact h⟩
 obtain⟨J,hJ⟩:=hJ;obtain⟨N,hN⟩:=hN;refine⟨J,N,G,hJ,hN,λa b c ha hb hc hac=>?_⟩;apply nT
 intro ne;have h1:=hN b c hb hc;have h3:=hJ a b ha hb;exact no a b c ha hb hc ⟨hac,_,_,_,_,h1,hJ a _ ha h1.1,h3,hN _ c h3.1 hc,ne⟩
end
def Five(n:Nat)(R:Nat->Nat->Bool)(fs:List Int):Prop:=∃b l s h t:Nat,fs = [(b:Int),(l:Int),(s:Int),(h:Int),(t:Int)]/\(b<n/\l<n/\s<n/\h<n/\t<n) /\
 l≠h/\R l h=true/\R s h=false/\R l s=false/\bM n R l s b/\bM n R h s b/\bG n R l s t/\bG n R h s t
theorem Five.len{n:Nat}{R:Nat->Nat->Bool}{fs:List Int}(h:Five n R fs):fs.length=5:=by
 obtain⟨b,l,s,h,t,rfl,_⟩:=h;rfl
theorem Five.rng{n:Nat}{R:Nat->Nat->Bool}{fs:List Int}(h:Five n R fs):∀z∈fs,0<=z/\z<(n:Int):=by
 obtain⟨b,l,s,h,t,rfl,⟨h0,h1,h2,h3,h4⟩,_⟩:=h;intro z hz;simp only[bp,fe,fq]at hz;omega
theorem KR{n:Nat}{R:Nat->Nat->Bool}{b l s h t:Nat}(hb:b<n)(hl:l<n)(hs:s<n)(hh:h<n)(ht:t<n):Five n R [(b:Int),(l:Int),(s:Int),(h:Int),(t:Int)] ↔
  (l≠h/\R l h=true/\R s h=false/\R l s=false/\bM n R l s b/\bM n R h s b/\bG n R l s t/\bG n R h s t):=by
 constructor
 ·rintro⟨b',l',s',h',t',e,_,k⟩
  simp only[tU,Int.natCast_inj,and_true]at e;obtain⟨rfl,rfl,rfl,rfl,rfl⟩:=e;exact k
 ·intro k
  exact⟨b,l,s,h,t,rfl,⟨hb,hl,hs,hh,ht⟩,k⟩
theorem bG.iff_eq{n:Nat}{R:Nat->Nat->Bool}{a b x e:Nat}(G:Good n R)(h:bG n R a b x):bG n R a b e ↔ x=e:=⟨λh'=>h.uniq G h',λq=>q▸h⟩
theorem bM.iff_eq{n:Nat}{R:Nat->Nat->Bool}{a b x e:Nat}(G:Good n R)(h:bM n R a b x):bM n R a b e ↔ x=e:=⟨λh'=>h.uniq G h',λq=>q▸h⟩
theorem Uw{a b:Nat}:decide (V.int (a:Int)=V.int (b:Int))=decide (a=b):=by
 apply lD.mpr
 constructor
 ·intro h;injection h with h;omega
 ·intro h;rw[h]
theorem XR{fs:List Int}(h:fs.length=5):∃a b c d e,fs = [a,b,c,d,e]:=by
 match fs,h with
 | [a,b,c,d,e],_=>exact⟨a,b,c,d,e,rfl⟩
section
variable {P:Program} {w:World} {K:W.Frag} {mg:Str->Option Value} {base:Heap} {f:Addr} {fd:FuncData}
end
section
variable {n:Nat} {R:Nat->Nat->Bool} {a b c l s t m x j y:Nat}
theorem Nh(G:Good n R)(hl:l<n)(hs:s<n)(ht:t<n)(h1:R l t=true)(h2:R s t=true)(h3:∀z,z<n->R l z=true->R s z=true->R t z=true):bG n R l s t:=
 ⟨ht,λz hz=>by rw[dk,bF];exact⟨λq=>⟨G.trans hl ht hz h1 q,G.trans hs ht hz h2 q⟩,λq=>h3 z hz q.1 q.2⟩⟩
theorem Ni(G:Good n R)(hl:l<n)(hs:s<n)(ht:t<n)(h1:R t l=true)(h2:R t s=true)(h3:∀z,z<n->R z l=true->R z s=true->R z t=true):bM n R l s t:=
 ⟨ht,λz hz=>by rw[dk,bF];exact⟨λq=>⟨G.trans hz ht hl q h1,G.trans hz ht hs q h2⟩,λq=>h3 z hz q.1 q.2⟩⟩
theorem m9(h:bG n R a b c){z:Nat}(hz:z<n)(h1:R a z=true)(h2:R b z=true):R c z=true:=by rw[h.2 z hz,h1,h2];rfl
theorem pA(h:bM n R a b c){z:Nat}(hz:z<n)(h1:R z a=true)(h2:R z b=true):R z c=true:=by rw[h.2 z hz,h1,h2];rfl
theorem Vv(G:Good n R)(ha:a<n)(hb:b<n)(hc:c<n)(hac:R a c=true)(hm:bM n R b c m)(hx:bG n R a m x)(hj:bG n R a b j)(hy:bM n R j c y)(ne:x≠y):Five n R [(m:Int),(x:Int),(b:Int),(y:Int),(j:Int)]:=by
 have lm:=hm.1;have lx:=hx.1;have lj:=hj.1;have ly:=hy.1;obtain⟨m1,m2⟩:=hm.dn G hb hc;obtain⟨x1,x2⟩:=hx.up G ha lm;obtain⟨j1,j2⟩:=hj.up G ha hb;obtain⟨y1,y2⟩:=hy.dn G lj hc;have aj:R a y=true:=pA hy ha j1 hac;have my:R m y=true:=pA hy lm (G.trans lm hb lj m1 j2) m2;have xy:R x y=true:=m9 hx ly aj my;have xj:R x j=true:=m9 hx lj j1 (G.trans lm hb lj m1 j2);have J1:bG n R x b j:=Nh G lx hb lj xj j2 λz hz q1 q2=>m9 hj hz (G.trans ha lx hz x1 q1) q2;have J2:bG n R y b j:=Nh G ly hb lj y1 j2 λz hz q1 q2=>m9 hj hz (G.trans ha ly hz aj q1) q2;have M2:bM n R y b m:=Ni G ly hb lm my m1 λz hz q1 q2=>pA hm hz q2 (G.trans hz ly hc q1 y2);have M1:bM n R x b m:=Ni G lx hb lm x2 m1 λz hz q1 q2=>pA M2 hz (G.trans hz lx ly q1 xy) q2;refine(KR lm lx hb ly lj).mpr ⟨ne,xy,?_,?_,M1,M2,J1,J2⟩
 ·cases e:R b y with
  |false=>rfl
  |true =>
   have hjy:R j y=true:=m9 J2 ly (G.refl y ly) e;have hbm:R b m=true:=pA M2 hb e (G.refl b hb);have hjx:R j x=true:=m9 hj lx x1 (G.trans hb lm lx hbm x2);exact absurd (G.anti _ _ lx ly xy (G.trans ly lj lx y1 hjx)) ne
 ·cases e:R x b with
  |false=>rfl
  |true =>
   have W8:R j b=true:=m9 J1 hb e (G.refl b hb);have Xx:R y b=true:=G.trans ly lj hb y1 W8;have Xy:R y m=true:=pA M2 ly (G.refl y ly) Xx;exact absurd (G.anti _ _ lx ly xy (G.trans ly lm lx Xy x2)) ne
end
section
variable {P:Program} {w:World} {K:W.Frag} {mg:Str->Option Value} {base:Heap} {f:Addr} {fd:FuncData}
abbrev En:Stmt:=top 49
theorem Qe:a_ ["order","triple","a","b","c","low","high"] ["order","triple"] (aB En):=by trivial
def FZ(K:W.Frag)(C:Addr):Sp:=λvs H Q _=>∃(p t n a b c:Nat) (R:Nat->Nat->Bool),vs = [.ref p,.ref t]/\eD C H p n R/\Good n R/\ax K H t [.int a,.int b,.int c]/\a<n/\b<n/\c<n/\Un n R a b c /\
 ∀u fs H',Same H H'->H' u=some (.tup (fs.map V.int))->Five n R fs->Q (.ref u) H'
theorem Z4 {C:Addr} (F:aU K "five_of" "five_of" En f fd) (T:Txt mg) (TC:eZ K C) (oO:aC P w K mg base "join_of_meet" ["order","a","b","c"] 1 (wX C)) (oR:aC P w K mg base "meet_of_join" ["order","a","b","c"] 1 (w5 C)) :
  aN P w K mg base aZ 2 f fd ["order","triple"] (FZ K C):=by
 refine F.ok Qe (λvs H Q E h=>?_) (λcdv A outer s H vs Q E hr h=>?_)
 ·obtain⟨p,t,n,a,b,c,R,rfl,_⟩:=h
  rfl
 ·obtain⟨p,t,n,a,b,c,R,rfl,hO,G,hT,ha,hb,hc,⟨hac,m,x,j,y,hm,hx,hj,hy,ne⟩,kk⟩:=h
  have nd:=Qe.nd;obtain⟨dx,vp,vr,vj,vm,o1,_,_,oj,om⟩:=id hO;have em:gw n (λa b=>R b a) b c = .int m:=ja G.mV hm.1 hm.2;have ej:gw n R a b = .int j:=ja G.dis hj.1 hj.2;obtain⟨ra,us,rb,rfl,q1,q2,q3⟩:=oj.get ha;obtain⟨sa,us',sb,rfl,p1,p2,p3⟩:=om.get hb;refine⟨_,(av (aP (i:=2) nd rfl (Or.inl rfl) (aq (aK (K:=K) rfl) (pv 1) ak (λ_ _=>rfl)))
   (av (aP (i:=3) nd rfl (Or.inl rfl) (aq (aK (K:=K) rfl) (pv 1) ak (λ_ _=>rfl)))
   (av (aP (i:=4) nd rfl (Or.inl rfl) (aq (aK (K:=K) rfl) (pv 1) ak (λ_ _=>rfl)))
   (av (aP (i:=5) nd rfl (Or.inl rfl) (aL oO hr rfl (ae (pv 0) (ae (pv 2) (ae (pv 3) (ae (pv 4) ag (ao nofun)) (ao nofun)) (ao nofun)) (ao nofun))))
   (av (aP (i:=6) nd rfl (Or.inl rfl) (aL oR hr rfl (ae (pv 0) (ae (pv 2) (ae (pv 3) (ae (pv 4) ag (ao nofun)) (ao nofun)) (ao nofun)) (ao nofun))))
   (ay (aR (fP (ae (aq (aK (K:=K) rfl) (aq (aK (K:=K) rfl) (eW (K:=K) rfl (pv 0) rfl) (pv 3) (λ_ _=>rfl)) (pv 4) (λ_ _=>rfl)) (ae (pv 5) (ae (pv 3) (ae (pv 6) (ae (aq (aK (K:=K) rfl) (aq (aK (K:=K) rfl) (eW (K:=K) rfl (pv 0) rfl) (pv 2) (λ_ _=>rfl)) (pv 3) (λ_ _=>rfl)) ag (ao nofun)) (ao nofun)) (ao nofun)) (ao nofun)) (ao nofun)))))))))),?_⟩
  refine⟨_,rfl,t,_,0,.int (a:Int),rfl,rfl,hT,aH (j:=0) rfl,?_⟩;refine⟨_,rfl,t,_,1,.int (b:Int),rfl,rfl,hT,aH (j:=1) rfl,?_⟩;refine⟨_,rfl,t,_,2,.int (c:Int),rfl,rfl,hT,aH (j:=2) rfl,?_⟩;refine⟨_,rfl,_,rfl,_,rfl,_,rfl,p,n,a,b,c,m,x,R,rfl,hO,G,ha,hb,hc,hm,hx,?_⟩;refine⟨_,rfl,_,rfl,_,rfl,_,rfl,p,n,a,b,c,j,y,R,rfl,hO,G,ha,hb,hc,hj,hy,?_⟩;refine⟨_,rfl,p,C,dx,_,_,rfl,o1,TC.cl,TC.nM,oY _ _ _ _ _,_,rfl,sa,us',_,.ref sb,rfl,rfl,ax.of p1,aH p2,_,rfl,sb,_,_,.int (m:Int),rfl,rfl,ax.of p3,aH (by rw[eM hc,em]),_,rfl,_,rfl,_,rfl,
   _,rfl,p,C,dx,_,_,rfl,o1,TC.cl,TC.nJ,oX _ _ _ _ _,_,rfl,ra,us,_,.ref rb,rfl,rfl,ax.of q1,aH q2,_,rfl,rb,_,_,.int (j:Int),rfl,rfl,ax.of q3,aH (by rw[eM hb,ej]),by show 5<=sizeLine;decide,λu hu=>?_⟩
  exact kk u [(m:Int),(x:Int),(b:Int),(y:Int),(j:Int)] _ (Same.put hu) au (Vv G ha hb hc hac hm hx hj hy ne)
end
end _M
namespace _L
open PySem PySem.Spec PyProof.Rows
structure Moved (fs ch:List Addr) (h h':Heap):Prop where
 keep:∀b o,h.get? b=some o->b ∉ fs->b ∉ ch->h'.get? b=some o
 slot:∀b o,h.get? b=some o->b∈fs->b ∉ ch->∃sl,h'.get? b=some {o with slots:=sl}
 there:∀b o,h.get? b=some o->∃o',h'.get? b=some o'
 size:h.objs.size<=h'.objs.size
theorem Moved.any{fs ch:List Addr}{h h':Heap}(m:Moved fs ch h h'){b:Addr}{o:Obj}(e:h.get? b=some o)(n:b ∉ ch):∃sl,h'.get? b=some {o with slots:=sl}:=by
 by_cases hb:b∈fs
 ·exact m.slot b o e hb n
 ·exact⟨o.slots,m.keep b o e hb n⟩
theorem Moved.trans{fs ch:List Addr}{h h1 h2:Heap}(a:Moved fs ch h h1)(b:Moved fs ch h1 h2):Moved fs ch h h2 where
 keep:=λc o e n1 n2=>b.keep c o (a.keep c o e n1 n2) n1 n2
 slot:=λc o e n1 n2=>by
  obtain⟨sl,e1⟩:=a.slot c o e n1 n2;obtain⟨sl',e2⟩:=b.slot c _ e1 n1 n2;exact⟨sl',e2⟩
 there:=λc o e=>by
  obtain⟨o',e1⟩:=a.there c o e;exact b.there c o' e1
 size:=ck a.size b.size
theorem Moved.mono{fs fs' ch JW:List Addr}{h h':Heap}(a:Moved fs ch h h')(h1:∀b∈fs,b∈fs')(h2:∀b∈ch,b∈JW):Moved fs' JW h h' where
 keep:=λc o e n1 n2=>a.keep c o e (λz=>n1 (h1 c z)) λz=>n2 (h2 c z)
 slot:=λc o e _ n2=>a.any e λz=>n2 (h2 c z)
 there:=a.there
 size:=a.size
structure hV (h:Heap) (e:Addr) (cls:Value) (dx:Option Addr) (T:Addr) (fl:Value):Prop where
 ex:∃oe vs,h.get? e=some oe/\oe.cls=cls/\oe.dict=dx/\oe.data = .fields vs/\vs[1]?=some (.ref T)
 ne:T≠e
 tb:∃oT ts,h.get? T=some oT/\oT.data = .fields ts/\ts[3]?=some fl
section
variable {M:Model} {A:Around} {E:Value->Shared->Prop} {s:Shared} {base:Heap} {env:Env} {outer:List Env} {L e T:Addr} {oe:Obj} {vs:Array Value} {cls head fl:Value} {dx:Option Addr} {Q:Unit->Shared->Prop}
theorem BW{h:Heap}{l:List Env}(hl:h.FunFrames base l)(he:h.get? e=some oe)(hd:oe.data = .fields vs):e ∉ frs l:=λhm=>by
 obtain⟨_,o,ho,hnf⟩:=hl.mem hm;rw[he]at ho;cases ho;exact hnf vs hd
theorem Y7(o:Obj)(f:Array Value->Array Value):(o.mapFields f).dict=o.dict:=by
 obtain⟨c,d,dt,sl⟩:=o;cases dt<;>rfl
theorem Ku{hadNext:Bool}(hfr:A.frames=some (env::outer))(hl:s.heap.FunFrames base (env::outer))(hf:env.frame=some L)(he:s.heap.get? e=some oe)(hd:oe.data = .fields vs)(hsz:1<vs.size)
  (h:∀h' T,Moved (frs (env::outer)) [e] s.heap h'->s.heap.objs.size<=T->hV h' e oe.cls oe.dict T (rawInt L)->Q () {s with heap:=h'}) :
  wpAny M A (do let a <- frameOf env;let pl <- entryPlaceOf L hadNext;let b <- EntryCells.newEntry head a .none (rawInt L) .none pl;setField (.ref e) 1 b) Q E s:=by
 have hene:=BW hl he hd;refine ai (wpAny_frameOf_fun hfr hl hf λh₁ hs₁=>?_);refine ai (wpAny_entryPlaceOf λpl hpl=>?_);unfold EntryCells.newEntry newFields;refine ai (uv ?_ (hpl.sizeOk5 _ _ _ _ _));have he₁:h₁.get? e=some oe:=(hs₁.2.1 e hene).trans he;generalize hob:({cls:=.type "traceback", dict:=none,data:=.fields ([head,.ref L,.none,rawInt L,.none]++(if pl.isEmpty then List.replicate 6 Value.none else pl)).toArray}:Obj)=ob;have he₂:=aV (h:=h₁) ob he₁;refine ux he₂ hd hsz (h _ h₁.objs.size ?_ (by rw[hs₁.1];exact aY _) ?_)
 ·have keep:∀b o,b≠e->h₁.get? b=some o->((h₁.push ob).update e (Obj.mapFields (·.setIfInBounds 1 (Value.ref h₁.objs.size)))).get? b=some o:=λb o hbe hb=>by
   rw[iB _ _ (bP hbe)];exact aV _ hb
  have hd₃:=oy hd (·.setIfInBounds 1 (Value.ref h₁.objs.size));refine⟨λb o hb n1 n2=>keep b o (λz=>n2 (by simp[z])) ((hs₁.2.1 b n1).trans hb),λb o hb n1 n2=>?_,λb o hb=>?_,by rw[yp,eK,hs₁.1];exact qE _⟩
  ·obtain⟨sl,hs⟩:=hs₁.2.2 b o hb
   exact⟨sl,keep b _ (λz=>n2 (by simp[z])) hs⟩
  ·by_cases hbe:b=e
   ·subst hbe
    exact⟨_,iC (Obj.mapFields (·.setIfInBounds 1 (Value.ref h₁.objs.size))) he₂ (ui hd₃)⟩
   ·obtain⟨sl,hs⟩:=hs₁.2.2 b o hb
    exact⟨_,keep b _ hbe hs⟩
 ·have hTe:h₁.objs.size≠e:=dZ (aS he₁)
  have hd₃:=oy hd (·.setIfInBounds 1 (Value.ref h₁.objs.size));have he₃:=iC (Obj.mapFields (·.setIfInBounds 1 (Value.ref h₁.objs.size))) he₂ (ui hd₃);have hT₃:=(iB (h₁.push ob) (Obj.mapFields (·.setIfInBounds 1 (Value.ref h₁.objs.size))) (bP hTe)).trans (cn h₁ (by rw[<- hob];rfl));refine⟨⟨_,_,he₃,Obj.cls_mapFields _ _,Y7 _ _,hd₃,by simp[hsz]⟩,hTe,⟨_,_,hT₃,by rw[<- hob],?_⟩⟩
  first | (simp;done) | (rcases hpl with rfl|⟨_,_,_,_,_,_,_,rfl⟩<;>simp)
theorem Zz(hfr:A.frames=some (env::outer))(hl:s.heap.FunFrames base (env::outer))(hf:env.frame=some L)(he:s.heap.get? e=some oe)(hd:oe.data = .fields vs)(h1:vs[1]?=some .none)
  (h:∀h' T,Moved (frs (env::outer)) [e] s.heap h'->s.heap.objs.size<=T->hV h' e oe.cls oe.dict T (rawInt L)->Q () {s with heap:=h'}):wpAny M A (noteFrame (.ref e) env) Q E s:=by
 unfold noteFrame;simp only[hf];refine ai (eG he hd h1 ?_);rw[if_neg (by decide)];exact Ku hfr hl hf he hd (mj.mp h1).1 h
theorem uS{h h':Heap}:∀{l:List Env},(∀b∈frs l,∀o,h.get? b=some o->∃sl,h'.get? b=some {o with slots:=sl})->h.FunFrames base l->h'.FunFrames base l
 | [],_,_=>trivial
 |env::r,k,⟨hk,⟨L,o,hf,hn,ho,hd⟩,hr⟩=>by
  have hL:L∈frs (env::r):=by unfold frs;rw[tV,hf];exact bX
  obtain⟨sl,e⟩:=k L hL o ho;exact⟨hk,⟨L,_,hf,hn,e,hd⟩,uS (λb hb=>k b (by unfold frs;rw[tV,hf];exact b_ _ hb)) hr⟩
theorem Moved.eJ{fs ch:List Addr}{h h':Heap}{l:List Env}(m:Moved fs ch h h')(hn:∀b∈frs l,b ∉ ch)(hl:h.FunFrames base l):h'.FunFrames base l:=
 uS (λb hb o e=>m.any e (hn b hb)) hl
theorem Ov(hfr:A.frames=some (env::outer))(hl:s.heap.FunFrames base (env::outer))(hf:env.frame=some L)(xr:hV s.heap e cls dx T .none)
  (h:∀h' T',Moved (frs (env::outer)) [e,T] s.heap h'->s.heap.objs.size<=T'->hV h' e cls dx T' (rawInt L)->Q () {s with heap:=h'}):wpAny M A (noteFrame (.ref e) env) Q E s:=by
 obtain⟨⟨oe,vs,he,hc,hdx,hd,h1⟩,hTe,oT,ts,hT,hdT,h3⟩:=xr;subst hc hdx;unfold noteFrame;simp only[hf];refine ai (eG he hd h1 ?_);rw[if_pos (show(Value.ref T != Value.none)=true from by simp)];refine ai (eG hT hdT h3 ?_);rw[if_neg (show ¬ ((Value.none==rawInt L)=true)from by simp[rawInt])];refine ai (ux hT hdT (mj.mp h3).1 ?_);have mv:Moved (frs (env::outer)) [e,T] s.heap (s.heap.update T (Obj.mapFields (·.setIfInBounds 3 Value.none))):=by
  have other:∀b,b≠T->(s.heap.update T (Obj.mapFields (·.setIfInBounds 3 Value.none))).get? b=s.heap.get? b:=λb hb=>iB _ _ (bP hb);refine⟨λb o hb _ n=>(other b (λz=>n (by simp[z]))).trans hb,λb o hb _ n=>⟨o.slots,(other b (λz=>n (by simp[z]))).trans hb⟩,λb o hb=>?_,by rw[yp];exact aY _⟩
  by_cases hbT:b=T
  ·subst hbT
   exact⟨_,iC _ hT (ui (oy hdT _))⟩
  ·exact⟨o,(other b hbT).trans hb⟩
 have hn1:=BW hl he hd;have hn2:=BW hl hT hdT;refine Ku (oe:=oe) (vs:=vs) hfr (mv.eJ (λb hb z=>?_) hl) hf ((iB _ _ hTe).trans he) hd (mj.mp h1).1 λh' T' m hT' x=>?_
 ·rcases bp.mp z with z|z
  ·exact hn1 (z▸hb)
  ·exact hn2 ((gi.mp z)▸hb)
 ·exact h h' T' (mv.trans (m.mono (λ_ z=>z) λb z=>by simp at z;simp[z])) (by rw[yp]at hT';exact hT') x
theorem uR(xr:hV s.heap e cls dx T fl)(h:∀h',Moved [] [T] s.heap h'->hV h' e cls dx T .none->Q () {s with heap:=h'}):wpAny M A (setFlight (.ref e) none) Q E s:=by
 obtain⟨⟨oe,vs,he,hc,hdx,hd,h1⟩,hTe,oT,ts,hT,hdT,h3⟩:=xr;have hsz3:3<ts.size:=(mj.mp h3).1;unfold setFlight;refine ai (eG he hd h1 ?_);rw[if_pos (show(Value.ref T != Value.none)=true from by simp)];refine ux hT hdT hsz3 ?_;have other:∀b,b≠T->(s.heap.update T (Obj.mapFields (·.setIfInBounds 3 ((none:Option Addr).elim Value.none λf=>rawInt f)))).get? b=s.heap.get? b:=λb hb=>iB _ _ (bP hb);have hT':=iC (Obj.mapFields (·.setIfInBounds 3 ((none:Option Addr).elim Value.none λf=>rawInt f))) hT (ui (oy hdT _));refine h _ ⟨λb o hb _ n=>(other b (λz=>n (by simp[z]))).trans hb,λb o hb _ n=>⟨o.slots,(other b (λz=>n (by simp[z]))).trans hb⟩,λb o hb=>?_,by rw[yp];exact aY _⟩ ?_
 ·by_cases hbT:b=T
  ·subst hbT;exact⟨_,hT'⟩
  ·exact⟨o,(other b hbT).trans hb⟩
 ·exact⟨⟨oe,vs,(other e (bP hTe)).trans he,hc,hdx,hd,h1⟩,hTe,_,_,hT',oy hdT _,by simp[hsz3]⟩
theorem Moved.fresh{fs ch:List Addr}{h h1 h2:Heap}(m:Moved fs ch h h1)(m2:Moved [] [T] h1 h2)(hT:h.objs.size<=T):Moved fs ch h h2:=by
 have ne:∀b o,h.get? b=some o->b ∉ [T]:=λb o e z=>by
  have:=aS e;rw[gi.mp z]at this;exact absurd (cZ this hT) (dY _)
 refine⟨λb o hb n1 n2=>m2.keep b o (m.keep b o hb n1 n2) (λz=>nomatch z) (ne b o hb),λb o hb n1 n2=>?_,λb o hb=>?_,ck m.size m2.size⟩
 ·obtain⟨sl,e1⟩:=m.slot b o hb n1 n2
  exact⟨sl,m2.keep b _ e1 (λz=>nomatch z) (ne b o hb)⟩
 ·obtain⟨o',e1⟩:=m.there b o hb
  exact m2.there b o' e1
theorem YC(hfr:A.frames=some (env::outer))(hl:s.heap.FunFrames base (env::outer))(hf:env.frame=some L)(he:s.heap.get? e=some oe)(hd:oe.data = .fields vs)(h1:vs[1]?=some .none)
  (h:∀h' T,Moved (frs (env::outer)) [e] s.heap h'->s.heap.objs.size<=T->hV h' e oe.cls oe.dict T .none->Q () {s with heap:=h'}):wpAny M A (leaving env (.ref e)) Q E s:=by
 unfold leaving;exact ai (Zz hfr hl hf he hd h1 λh1 T m hT x=>uR x λh2 m2 x2=>h h2 T (m.fresh m2 hT) hT x2)
theorem YD(hfr:A.frames=some (env::outer))(hl:s.heap.FunFrames base (env::outer))(hf:env.frame=some L)(xr:hV s.heap e cls dx T .none)
  (h:∀h' T',Moved (frs (env::outer)) [e,T] s.heap h'->s.heap.objs.size<=T'->hV h' e cls dx T' .none->Q () {s with heap:=h'}):wpAny M A (leaving env (.ref e)) Q E s:=by
 unfold leaving;exact ai (Ov hfr hl hf xr λh1 T m hT x=>uR x λh2 m2 x2=>h h2 T (m.fresh m2 hT) hT x2)
end
def bN(P:Program)(w:World):gM:=λouter H s E e s'=>∃ea C dx T H',e = .ref ea/\s'.os=s.os/\AllBare s'.gens/\Un (frs outer) [] H H' s.heap s'.heap/\bL P w H' s'.heap/\hV s'.heap ea (.ref C) dx T .none /\
 H' ea=none/\H' T=none/\s.heap.get? ea=none/\s.heap.get? T=none/\E (.ref C) dx H'
theorem vb{P:Program}{w:World}{H:Hp}{h h':Heap}{fs ch:List Addr}(x:bL P w H h)(m:Moved fs ch h h')(nf:∀b∈fs,H b=none)(nc:∀b∈ch,H b=none):bL P w H h':=λb o e=>by
 have no:∀c u,H c=some u->c ∉ fs/\c ∉ ch:=λc u q=>⟨(λz=>by rw[nf c z]at q;cases q),(λz=>by rw[nc c z]at q;cases q)⟩;refine(x b o e).stay (λc u hc q=>?_) (λ_ q=>q) (λ_ _ q=>q) λ_ _ _ q=>q
 rcases hc with z|z
 ·subst z;exact m.keep c u q (no c _ e).1 (no c _ e).2
 ·exact m.keep c u q (no c _ z).1 (no c _ z).2
section
variable {P:Program} {w:World} {K:W.Frag} {mg:Str->Option Value} {base:Heap} {N:List Str} {qual:Str} {scope:Scope} {f:Addr} {cd:Value} {A:Around} {outer:List Env} {s:Shared} {H:Hp} {E:XK}
theorem ads{pins:List (Addr × Obj)}{σ:St}{H1 H2:Hp}{s1:Shared}{h2 h3:Heap}{ch:List Addr}(I:Inv (cI (bN P w) P w K mg base N qual scope f cd A outer s H E) pins σ H1 s1)(un:Un (frs (cI (bN P w) P w K mg base N qual scope f cd A outer s H E).stack) [] H1 H2 s1.heap h2)(m:Moved (frs (cI (bN P w) P w K mg base N qual scope f cd A outer s H E).stack) ch h2 h3)(hc:∀b∈ch,s1.heap.get? b=none):Un (frs outer) [] H H2 s.heap h3:=by
 have jE:Un (frs outer) [] H H1 s.heap s1.heap:=I.base;have sub:∀b o,s.heap.get? b=some o->b ∉ frs outer->b ∉ frs (cI (bN P w) P w K mg base N qual scope f cd A outer s H E).stack:=λb o e n z=>by
  rcases bp.mp (I.qe b z)with q|q
  ·have h1:s.heap.objs.size<=(cI (bN P w) P w K mg base N qual scope f cd A outer s H E).env.locals:=I.ok.above
   have h2:=aS e;rw[q]at h2;exact absurd (cZ h2 h1) (dY _)
  ·exact n q
 have gX:∀b o,s1.heap.get? b=some o->b ∉ ch:=λb o e z=>by rw[hc b z]at e;cases e
 have nx:∀b:Addr,b ∉ ([]:List Addr):=λb z=>nomatch z;refine⟨λb o q n hb hx=>?_,λb o q n hb hx=>?_,λb o q n hx=>?_,λb o q hx=>?_,λb xs q=>un.tups b xs (jE.tups b xs q),λb o u q=>un.fV b o u (jE.fV b o u q),λb ps q=>?_⟩
 ·have e1:=jE.keep b o q n hb hx
  exact m.keep b o (un.keep b o e1 (jE.free b o q n hx) (sub b o q hb) (nx b)) (sub b o q hb) (gX b o e1)
 ·obtain⟨sl,e1⟩:=jE.slot b o q n hb hx
  obtain⟨sl2,e2⟩:=un.any e1 (jE.free b o q n hx) (nx b);obtain⟨sY,e3⟩:=m.any e2 (gX b _ e1);exact⟨sY,e3⟩
 ·obtain⟨o',e1⟩:=jE.there b o q hx
  exact un.free b o' e1 (jE.free b o q n hx) (nx b)
 ·obtain⟨o',e1⟩:=jE.there b o q hx
  obtain⟨o2,e2⟩:=un.there b o' e1 (nx b);exact m.there b o2 e2
 ·obtain⟨m1,e1⟩:=jE.gI b ps q
  obtain⟨m2,e2⟩:=un.gI b _ e1;exact⟨m1++m2,by rw[e2,Array.append_assoc]⟩
theorem Dw{pins:List (Addr × Obj)}{σ:St}{H1:Hp}{s1:Shared}{b:Addr}(I:Inv (cI (bN P w) P w K mg base N qual scope f cd A outer s H E) pins σ H1 s1)(e:s1.heap.get? b=none):s.heap.get? b=none:=by
 cases q:s.heap.get? b with
 |none=>rfl
 |some o =>
  obtain⟨o',e1⟩:=I.base.there b o q (λz=>nomatch z);rw[e]at e1;cases e1
theorem Oq{fs:List Addr}{H1 H2:Hp}{h1 h2:Heap}{b:Addr}(un:Un fs [] H1 H2 h1 h2)(e:h2.objs.size<=b):h1.get? b=none:=by
 cases q:h1.get? b with
 |none=>rfl
 |some o =>
  obtain⟨o',e1⟩:=un.there b o q (λz=>nomatch z);exact absurd (cZ (aS e1) e) (dY _)
theorem acH{pins:List (Addr × Obj)}{σ:St}{H1 H2:Hp}{s1:Shared}{h2:Heap}(I:Inv (cI (bN P w) P w K mg base N qual scope f cd A outer s H E) pins σ H1 s1)(un:Un (frs (cI (bN P w) P w K mg base N qual scope f cd A outer s H E).stack) [] H1 H2 s1.heap h2):h2.FunFrames base (cI (bN P w) P w K mg base N qual scope f cd A outer s H E).stack:=
 uS (λb hb o e=>un.any e (I.nF b hb) λz=>nomatch z) I.stack
theorem Ry{pins:List (Addr × Obj)}{σ:St}{H1 H2:Hp}{s1:Shared}{h2:Heap}(I:Inv (cI (bN P w) P w K mg base N qual scope f cd A outer s H E) pins σ H1 s1)(un:Un (frs (cI (bN P w) P w K mg base N qual scope f cd A outer s H E).stack) [] H1 H2 s1.heap h2):∀b∈frs (cI (bN P w) P w K mg base N qual scope f cd A outer s H E).stack,H2 b=none:=λb hb=>by
 obtain⟨_,o,ho,_⟩:=I.stack.mem hb;exact un.free b o ho (I.nF b hb) λz=>nomatch z
theorem lK:Passes (bN P w) (cI (bN P w) P w K mg base N qual scope f cd A outer s H E) E:=by
 intro pins σ H1 s1 e s2 I h;obtain⟨ea,C,dx,T,H2,rfl,os,bare,un,hok,xr,n1,n2,f1,f2,hE⟩:=h;refine YD (base:=base) (A:=(cI (bN P w) P w K mg base N qual scope f cd A outer s H E).A) I.ok.frames (acH I un) rfl xr λh3 T' m hT x=>?_;have hc:∀b∈[ea,T],s1.heap.get? b=none:=λb z=>by
  rcases bp.mp z with z|z
  ·rw[z];exact f1
  ·rw[gi.mp z];exact f2
 refine⟨ea,C,dx,T',H2,rfl,os.trans I.os,bare,ads I un m hc,vb hok m (Ry I un) (λb z=>?_),x,n1,hok.fresh hT,Dw I f1,Dw I (Oq un hT),hE⟩
 rcases bp.mp z with z|z
 ·rw[z];exact n1
 ·rw[gi.mp z];exact n2
def Raises(X:Cx)(E:XK):Prop:=∀(pins:List (Addr × Obj)) (σ:St) (H:Hp) (s:Shared) (ea C:Addr) (oe:Obj) (vs:Array Value),Inv X pins σ H s->s.heap.get? ea=some oe->oe.cls = .ref C->oe.data = .fields vs->vs[1]?=some .none ->
 H ea=none->X.s₀.heap.get? ea=none->E (.ref C) oe.dict H->X.xe (.ref ea) s
theorem wa:Raises (cI (bN P w) P w K mg base N qual scope f cd A outer s H E) E:=by
 intro pins σ H1 s1 ea C oe vs I he hc hd h1 hH h0 hE;have un:Un (frs (cI (bN P w) P w K mg base N qual scope f cd A outer s H E).stack) [] H1 H1 s1.heap s1.heap:=Un.refl;refine YC (base:=base) (A:=(cI (bN P w) P w K mg base N qual scope f cd A outer s H E).A) I.ok.frames I.stack rfl he hd h1 λh3 T' m hT x=>?_;rw[hc]at x;have base':Un (frs outer) [] H H1 s.heap s1.heap:=I.base;refine⟨ea,C,oe.dict,T',H1,rfl,I.os,I.bare,?_,vb I.hok m (Ry I un) (λb z=>by rw[gi.mp z];exact hH),x,hH,I.hok.fresh hT,h0,Dw I (yo hT),hE⟩;have sub:∀b o,s.heap.get? b=some o->b ∉ frs outer->b ∉ frs (cI (bN P w) P w K mg base N qual scope f cd A outer s H E).stack:=λb o e n z=>by
  rcases bp.mp (I.qe b z)with q|q
  ·have h1:s.heap.objs.size<=(cI (bN P w) P w K mg base N qual scope f cd A outer s H E).env.locals:=I.ok.above
   have h2:=aS e;rw[q]at h2;exact absurd (cZ h2 h1) (dY _)
  ·exact n q
 have gX:∀b o,s.heap.get? b=some o->b ∉ [ea]:=λb o e z=>by rw[gi.mp z]at e;have h0':s.heap.get? ea=none:=h0;rw[h0']at e;cases e
 refine⟨λb o q n hb hx=>m.keep b o (base'.keep b o q n hb hx) (sub b o q hb) (gX b o q),λb o q n hb hx=>?_,base'.free,λb o q hx=>?_,base'.tups,base'.fV,base'.gI⟩
 ·obtain⟨sl,e1⟩:=base'.slot b o q n hb hx
  obtain⟨sY,e3⟩:=m.any e1 (gX b _ q);exact⟨sY,e3⟩
 ·obtain⟨o',e1⟩:=base'.there b o q hx
  exact m.there b o' e1
end
end _L
namespace _L
open PySem PySem.Spec PyProof.Rows PySem.W
section
variable {prog:Program} {w:World} {A:Around} {E:Value->Shared->Prop} {h:Heap} {g:Array GenState} {d:Drawn} {t:Nat} {os:OsState} {K:Frag} {e D:Addr} {oe:Obj} {od:Option Obj} {name:Str} {g0 a0:Value}
theorem adF{tk:Tok}{Q:Fin->Shared->Prop}(X:K.In h)(I:InstAt h e oe D od)(hf:findObj K D od name=some (.bind g0 a0))(hk:wpAny (model prog w) A (call g0 [a0,.ref e,.ref D]) (λv s'=>Q (.done (.ret v)) s') E ⟨h,g,d,t,os⟩):wpAny (model prog w) A (Builtin.«object.__getattribute__» ⟨[.ref e,.str name tk],[]⟩) Q E ⟨h,g,d,t,os⟩:=by
 have L0:=I.type (M:=model prog w);have L1:=looks_find (M:=model prog w) X I hf;unfold Builtin.«object.__getattribute__»;refine ai (aJ (ai (aJ (ai (L0.at (ai (L1.at ?_)))))));show wpAny _ _ (holding [a0] (call g0 [a0,.ref e,.ref D])>>=ret) _ _ _;exact ai (fS (eI hk (λv s' z=>aJ z) λ_ _ z=>z))
theorem adG{v:Value}{tk:Tok}{Q:Fin->Shared->Prop}(X:K.In h)(I:InstAt h e oe D od)(hf:findObj K D od name=some (.value v))(hk:Q (.done (.ret v)) ⟨h,g,d,t,os⟩):wpAny (model prog w) A (Builtin.«object.__getattribute__» ⟨[.ref e,.str name tk],[]⟩) Q E ⟨h,g,d,t,os⟩:=by
 have L0:=I.type (M:=model prog w);have L1:=looks_find (M:=model prog w) X I hf;unfold Builtin.«object.__getattribute__»;exact ai (aJ (ai (aJ (ai (L0.at (ai (L1.at (aJ hk))))))))
theorem adE {M:Model} {nameV:Value} {Q:Unit->Shared->Prop} (X:K.In h) (I:InstAt h e oe D od) (hb:mroIn K D (.type "BaseException")=some true) (hq:Q () ⟨h,g,d,t,os⟩) :
  wpAny M A (checkBuiltinCall "BaseException.__getattribute__" ⟨[.ref e,nameV],[]⟩) Q E ⟨h,g,d,t,os⟩:=by
 have hk:builtinKind "BaseException.__getattribute__" = some .slot:=by trivial
 have hsplit:splitId "BaseException.__getattribute__" = some ("BaseException","__getattribute__"):=by trivial
 have ha:=F.args_bexc_ga (.ref e) nameV;have L0:=I.type (M:=M);have L1:=looks_mroIn (M:=M) X hb;simp only[checkBuiltinCall,hk,hsplit];refine ai ?_;unfold isInstance;refine ai (L0.at (L1.at ?_))
 repeat (first|wp_step)
 exact hq
theorem Sg {v:Value} {tk:Tok} {fill expr:Bool} {Q:Value->Shared->Prop} (X:K.In h) (I:InstAt h e oe D od) (hga:findIn K (.ref D) "__getattribute__" = some (some (.builtin "BaseException.__getattribute__")))
  (hgt:findIn K (.ref D) "__getattr__" = some none) (hb:mroIn K D (.type "BaseException")=some true)
  (hk:∀A':Around,wpAny (model prog w) A' (Builtin.«object.__getattribute__» ⟨[.ref e,.str name tk],[]⟩) (λfin s'=>match fin with | .done (.ret v)=>wpAny (model prog w) A (handedOut v) Q E s'|_=>False) (λ_ _=>False) ⟨h,g,d,t,os⟩) :
  wpAny (model prog w) A (getAttrBy (.ref e) (.str name tk) fill expr) Q E ⟨h,g,d,t,os⟩:=by
 have L0:=I.type (M:=model prog w);have L1:=looks_findIn (M:=model prog w) X hga;have L2:=looks_findIn (M:=model prog w) X hgt;have f3:=F.attrBase_ValueError.ga.bind (.ref e);have hx0:(expr&&onTheHeap (Value.builtin "BaseException.__getattribute__"))=false:=by cases expr<;>rfl
 have hx2:(Value.builtin "BaseException.__getattribute__" == Value.builtin "object.__getattribute__")=false:=by trivial
 have hx1:(onTheHeap (Value.ref D)&&Value.builtin "BaseException.__getattribute__" == Value.builtin "object.__getattribute__")=false:=by rw[hx2];rfl
 unfold getAttrBy;refine fS (ai (L0.at (ai (L1.at ?_))));dsimp only;rw[if_neg (by rw[hx1];exact Bool.false_ne_true)];unfold getAttrByItsOwn hookBefore;rw[if_pos (show onTheHeap (Value.ref D)=true from rfl)];refine ai (L2.at ?_);refine ai (oz (fS ?_));unfold callGetattribute;rw[if_neg (by rw[hx0];exact Bool.false_ne_true)];unfold boundAndCalled;refine ai (wpAny_of_eq f3 ?_);dsimp only;refine k_ (Jc F.attrBase_ValueError.ga.plain F.entry_bexc_ga (adE X I hb (eI (hk _) (λfin s' z=>?_) λ_ _ z=>z.elim)))
 rcases fin with(_|_|_|_)|_<;>first|exact z|exact z.elim
theorem adD {s:Shared} {Q:Option Value->Shared->Prop} (X:K.In s.heap) (I:InstAt s.heap e oe D od) (hga:findIn K (.ref D) "__getattribute__" = some (some (.builtin "BaseException.__getattribute__")))
  (hgt:findIn K (.ref D) "__getattr__" = some none) (hb:mroIn K D (.type "BaseException")=some true) (hf:findObj K D od "__class__" = some (.bind (.builtin "getset_descriptor.__get__") (.builtin "object.__class__"))) (hm:mroIn K D (.type "object")=some true)
  (hq:Q (some (.ref D)) {s with toks:=s.toks+1}):wpAny (model prog w) A (getAttr? (.ref e) "__class__") Q E s:=by
 obtain⟨h,g,d,t,os⟩:=s;unfold getAttr? getAttrBy?;refine ai (wpAny_mkText (ai (oz ?_)));refine Sg (v:=.none) X I hga hgt hb λA'=>adF X I hf ?_;exact k_ (class_get X I hm (handed_on rfl (aJ hq)))
end
noncomputable def ju (e C:Addr) (dx:Option Addr):HO:=.ext λh=>∃oe vs,h.get? e=some oe/\oe.cls = .ref C/\oe.dict=dx/\oe.data = .fields vs
theorem Vn{P:Program}{w:World}{H:Hp}{h:Heap}{e C:Addr}{dx:Option Addr}{oe:Obj}{vs:Array Value}(h1:h.get? e=some oe)(h2:oe.cls = .ref C)(h3:oe.dict=dx)(h4:oe.data = .fields vs):bE P w H h e (ju e C dx):=
 ⟨⟨oe,vs,h1,h2,h3,h4⟩,⟨oe,h1⟩,λg1 g2 ⟨o,vs,a,b⟩ k=>⟨o,vs,k o a,b⟩⟩
theorem Kz{P:Program}{w:World}{H:Hp}{h:Heap}{e C:Addr}{dx:Option Addr}(ok:bL P w H h)(z:H e=some (ju e C dx)):∃oe vs,h.get? e=some oe/\oe.cls = .ref C/\oe.dict=dx/\oe.data = .fields vs:=
 (show bE P w H h e (ju e C dx)from ok e _ z).1
theorem ZK{P:Program}{w:World}{H:Hp}{h:Heap}{a:Addr}{o:HO}(x:bE P w H h a o):∃ob,h.get? a=some ob:=by
 cases o with
 |lst xs=>obtain⟨_,_,_,_,e⟩:=x;exact⟨_,e⟩
 |tup xs=>obtain⟨_,_,_,⟨ob,e,_⟩,_⟩:=x;exact⟨_,e⟩
 |dK kvs=>obtain⟨_,_,_,_,o,_,_,e,_⟩:=x;exact⟨_,e⟩
 |dT kvs=>obtain⟨_,_,_,_,o,_,_,e,_⟩:=x;exact⟨_,e⟩
 |set S n=>obtain⟨o,_,_,_,e,_⟩:=x;exact⟨_,e⟩
 |ins C dx fs=>obtain⟨_,_,_,e,_⟩:=x;exact⟨_,e⟩
 |own y=>obtain⟨_,e⟩:=x;exact⟨_,e⟩
 |xd fs=>obtain⟨_,⟨_,_,_,e,_⟩,_⟩:=x;exact⟨_,e⟩
 |rng lo hi=>obtain⟨_,_,_,e⟩:=x;exact⟨_,e⟩
 |dH ob u=>obtain⟨e,_⟩:=x;exact⟨_,e⟩
 |lX ps=>exact⟨_,(show h.get? a=some _ from x)⟩
 |lam pos qual=>obtain⟨_,e,_⟩:=x;exact⟨_,e⟩
 |met f y=>exact⟨_,(show h.get? a=some _ from x)⟩
 |ext φ=>obtain⟨_,⟨_,e⟩,_⟩:=x;exact⟨_,e⟩
theorem Ot{P:Program}{w:World}{H:Hp}{h:Heap}{a:Addr}(ok:bL P w H h)(e:h.get? a=none):H a=none:=by
 cases q:H a with
 |none=>rfl
 |some o =>
  obtain⟨ob,z⟩:=ZK (ok a o q);rw[e]at z;cases z
structure j8 (K:W.Frag) (C:Addr):Prop where
 ga:W.findIn K (.ref C) "__getattribute__" = some (some (.builtin "BaseException.__getattribute__"))
 gt:W.findIn K (.ref C) "__getattr__" = some none
 be:W.mroIn K C (.type "BaseException")=some true
 ob:W.mroIn K C (.type "object")=some true
 kl:W.findIn K (.ref C) "__class__" = some (some (.builtin "object.__class__"))
 gs:W.specialIn K (.builtin "object.__class__") "__get__" = some (some (.builtin "getset_descriptor.__get__"))
 tk:W.takesIn K (.builtin "object.__class__")=some true
theorem j8.CV{K:W.Frag}{C:Addr}(x:j8 K C):∃cd,W.clsIn K C=some cd:=by
 obtain⟨cd,a,_⟩:=Option.bind_eq_some_iff.mp x.ob;exact⟨cd,a⟩
theorem j8.find {K:W.Frag} {C:Addr} (x:j8 K C) (od:Option Obj):W.findObj K C od "__class__" = some (.bind (.builtin "getset_descriptor.__get__") (.builtin "object.__class__")):=by
 obtain⟨cd,hc⟩:=x.CV;unfold W.findObj;rw[hc,qG,x.kl,qG];simp[x.gs,x.tk]
theorem Yn{K:W.Frag}{e C:Addr}(cl:j8 K C):W.KitX K (.ref e) (.ref C) (λh=>∃oe od,W.InstAt h e oe C od) where
 ty:=λ_ _ _ hpq=>by obtain⟨_,_,I⟩:=hpq;exact I.type
 it:=λ_ _ X _=>by
  obtain⟨cdD,hcD⟩:=cl.CV;unfold W.clsIn at hcD
  split at hcD
  ·rename_i c' d' cd' sl' ho
   intro A' Q' E' s' k q;unfold isType loadHead;exact ai (wpAny_loadPart (k _ _ (X _ _ ho)) (aJ q))
  ·cases hcD
 ne:=λh tp dd its n sl X htp=>by
  obtain⟨cdD,hcD⟩:=cl.CV;refine Bool.eq_false_iff.mpr λq=>?_;have e:C=tp:=Value.ref.inj (gR.mp q);subst e;unfold W.clsIn at hcD
  split at hcD
  ·rename_i c' d' cd' sl' ho
   have z:=(X _ _ ho).symm.trans htp;cases z
  ·cases hcD
 ca:=λX ⟨_,od,I⟩ k=>adD X I cl.ga cl.gt cl.be (cl.find od) cl.ob k
noncomputable def oJ (H:Hp) (e C:Addr):Prop:=∃dx,H e=some (ju e C dx)/\∀a,dx=some a->∃fs,H a=some (.xd fs)
theorem adC{P:Program}{w:World}{H:Hp}{h:Heap}{e C:Addr}(ok:bL P w H h)(x:oJ H e C):∃oe od,W.InstAt h e oe C od:=by
 obtain⟨dx,z,k⟩:=x;obtain⟨oe,vs,h1,h2,h3,h4⟩:=Kz ok z;have nc:W.notCls oe=true:=by unfold W.notCls;rw[h4]
 cases dx with
 |none=>exact⟨oe,none,h1,h2,nc,by rw[h3];exact trivial⟩
 |some a =>
  obtain⟨fs,q⟩:=k a rfl;obtain⟨_,⟨od,_,_,e1,_⟩,_⟩:=(show bE P w H h a (.xd fs)from ok a _ q);exact⟨oe,some od,h1,h2,nc,by rw[h3];exact e1⟩
def abR(K:W.Frag)(cv:V)(c:Value):List V->Hp->VK->Prop:=λxs H Q=>∃e C b,xs = [.ref e,cv]/\oJ H e C/\j8 K C/\W.kitOne K (.ref C) c=some b/\Q (.bl b) H
theorem fF {X:Cx} {K:W.Frag} (cv:V) (c:Value) (rc:∀u,RelV cv u->u=c) (hK:X.K=K):dz X (.builtin "isinstance") (abR K cv c):=by
 subst hK;intro pins s σ H xs us Q I r h;obtain⟨e,C,b,rfl,x,cl,k,q⟩:=h;obtain⟨u,v,rfl,ru,rv⟩:=Vals.two r;cases(show u=Value.ref e from ru);cases rc v rv;exact W.kia_one (Yn cl) I.cw (adC I.hok x) k (λz=>nomatch z) λtk=>⟨.bl b,H,I.tok _,rfl,q⟩
abbrev g_:List Value:=[.type "ValueError", .type "Exception", .type "BaseException", .type "object"]
theorem O4{K:W.Frag}{h:Heap}{mg:Str->Option Value}{x:Str}{C:Addr}{bmB:List Value}{newId:String}(X:K.In h)(e:mg x=some (.ref C))(q:W.excIn K C bmB newId=true):OwnCls x C bmB newId mg h:=by
 refine⟨e,?_⟩;unfold W.excIn at q
 split at q
 ·rename_i dd cd sl ho
  split at q
  ·rename_i C' bm k0 k1 k2 k3 n k5 hm hs
   simp only[bF,gR,eY]at q;obtain⟨⟨⟨⟨⟨rfl,rfl⟩,hdel⟩,ht⟩,hok⟩,hni⟩:=q;obtain⟨nm,bs,mro,ns,qn,hd,sn,sub,ab,col,del⟩:=cd;dsimp only at hm hdel hok hni;subst hm hdel;have hsl:sl = #[k0,k1,k2,k3,some (.builtin n),k5]:=by
    obtain⟨l⟩:=sl;simp only at hs;rw[hs]
   subst hsl;exact⟨bm,ns,nm,qn,bs,hd,sn,sub,ab,col,dd,k0,k1,k2,k3,k5,_,X _ _ ho,.of_isNs (W.isNs_of_in X hok),W.nsMap_none_of_in X hok hni,W.tail_of_in X ht⟩
  ·cases q
 ·cases q
def ac4(C:Addr)(E:XK)(ta:TA):TS:=λ_ σ H=>ta σ H λvs H1=>vs.length<=sizeLine/\E (.ref C) none H1
section
variable {X:Cx} {E:XK} {x:Str} {C:Addr} {bmB:List Value} {B newId initId:String} {np cpos pos:Pos} {e0:Expr} {es:List Expr} {ta:TA}
theorem D_(R:Raises X E)(hm:X.mg x=some (.ref C))(q:W.excIn X.K C bmB newId=true)(FB:ExcBaseFacts B newId initId bmB)(calm:X.calm=true)(hex:X.ex = [])(hg:Gl X x)(ha:PA X (e0::es) ta)
  (he:starEach (e0::es) X.env=(false,eval e0 X.env)::starEach es X.env:=by rfl) (hplain:(backTo cpos (starEach es X.env)).any (·.1)=false:=by rfl) (hd:(x==("__debug__" : Str))=false:=by decide) :
  PS X (.Raise (some (.Call (.Name x np) (e0::es) [] cpos)) none pos) (ac4 C E ta):=by
 intro pins s σ H D I h;have O:OwnCls x C bmB newId X.mg X.base:=O4 I.mod.jf hm q;obtain⟨tl,N,nm,q,bs,hdct,sn,sub,ab,col,dd,k0,k1,k2,k3,k5,mN,hC,hN,hni,T⟩:=O.obj;refine wpAny_Raise_call_subT (C:=C) (nm:=nm) (q:=q) (N:=N) (bs:=bs) (bm:=tl) (hdct:=hdct) (sn:=sn) (sub:=sub) (ab:=ab) (col:=col) (dd:=dd) (k0:=k0) (k1:=k1) (k2:=k2) (k3:=k3) (k5:=k5)
  FB (mN:=mN) (T.hasType FB.hasBase) (I.ok.hd calm) (by rw[he];show(false||(backTo cpos (starEach es X.env)).any (·.1))=false;rw[hplain];rfl) hni (ku I hg O.bound ⟨rfl,?_⟩ hd)
 have h':=ha cpos pins s σ H _ I h;rw[he]at h' ⊢;refine uf (eI h' (λus s2 ⟨vs,H2,I2,r,hl,q2⟩=>?_) λ_ _ y=>y);refine⟨rfl,by rw[<- r.length];exact hl,I2.bk _ _ hC,hN.keeps I2.bk,T.keeps I2.bk,λh3 e hm=>?_⟩;obtain⟨t,ht,_,_⟩:=hm.there;have I3:Inv X pins σ H2 {s2 with heap:=h3}:=I2.kept (t':=s2.toks) hm.keeps;refine R pins σ H2 _ e C _ _ I3 ht rfl rfl rfl (Ot I2.hok hm.new) ?_ q2;cases z:X.s₀.heap.get? e with
 |none=>rfl
 |some o =>
  obtain⟨o',z'⟩:=I2.base.there e o z (by rw[hex];exact λz=>nomatch z);rw[hm.new]at z';cases z'
end
section
variable {X:Cx} {pins lM:List (Addr × Obj)} {σ:St} {H H1 H2:Hp} {s:Shared} {XE:XK}
abbrev Cx.pS (X:Cx) (pins:List (Addr × Obj)):Cx:={X with pn:=X.pn++pins}
theorem Inv.pS(I:Inv X pins σ H s):Inv (X.pS pins) [] σ H s:=
 ⟨⟨I.ok.mod,I.ok.kind,I.ok.glob,I.ok.blt,I.ok.above,I.ok.inj,I.ok.has,I.ok.cab,I.ok.hd,I.ok.frames,I.ok.stk,I.ok.kf,I.ok.bs,I.ok.eU,I.ok.iL,I.ok.jb,I.ok.eJ,I.ok.gU⟩,
  I.os,I.bare,I.base,I.loc,I.cell,I.free,I.d_,λp hp=>I.pin p (by simpa using hp),I.hok,I.len⟩
theorem Inv.tD(I:Inv (X.pS pins) lM σ H s):Inv X pins σ H s:=
 ⟨⟨I.ok.mod,I.ok.kind,I.ok.glob,I.ok.blt,I.ok.above,I.ok.inj,I.ok.has,I.ok.cab,I.ok.hd,I.ok.frames,I.ok.stk,I.ok.kf,I.ok.bs,I.ok.eU,I.ok.iL,I.ok.jb,I.ok.eJ,I.ok.gU⟩,
  I.os,I.bare,I.base,I.loc,I.cell,I.free,I.d_,λp hp=>I.pin p (kR _ hp),I.hok,I.len⟩
abbrev Cx.marked (X:Cx) (e:Addr):Cx:={X with A:=X.A.mark (some (.ref e)),calm:=false,xe:=λ_ _=>False}
theorem Inv.marked{e:Addr}(I:Inv X pins σ H s):Inv (X.marked e) pins σ H s:=
 ⟨⟨I.ok.mod,I.ok.kind,I.ok.glob,I.ok.blt,I.ok.above,I.ok.inj,I.ok.has,I.ok.cab,(λz=>nomatch z),I.ok.frames,I.ok.stk,I.ok.kf,I.ok.bs,I.ok.eU,I.ok.iL,I.ok.jb,I.ok.eJ,I.ok.gU⟩,
  I.os,I.bare,I.base,I.loc,I.cell,I.free,I.d_,I.pin,I.hok,I.len⟩
theorem Inv.unmarked{e:Addr}(ok:X.Ok)(I:Inv (X.marked e) pins σ H s):Inv X pins σ H s:=
 ⟨ok,I.os,I.bare,I.base,I.loc,I.cell,I.free,I.d_,I.pin,I.hok,I.len⟩
theorem R7{fs ch:List Addr}{h1 h2 h3:Heap}(un:Un fs [] H1 H2 h1 h2)(m:Moved fs ch h2 h3)(hc:∀b∈ch,h1.get? b=none):Un fs [] H1 H2 h1 h3:=by
 have gX:∀b o,h1.get? b=some o->b ∉ ch:=λb o e z=>by rw[hc b z]at e;cases e
 have nx:∀b:Addr,b ∉ ([]:List Addr):=λb z=>nomatch z;refine⟨λb o q n hb hx=>m.keep b o (un.keep b o q n hb hx) hb (gX b o q),λb o q n hb hx=>?_,un.free,λb o q hx=>?_,un.tups,un.fV,un.gI⟩
 ·obtain⟨sl,e1⟩:=un.slot b o q n hb hx
  obtain⟨sY,e3⟩:=m.any e1 (gX b _ q);exact⟨sY,e3⟩
 ·obtain⟨o2,e2⟩:=un.there b o q hx
  exact m.there b o2 e2
theorem Inv.track{ea:Addr}{oe:Obj}{vs:Array Value}{o:HO}(I:Inv X pins σ H s)(he:s.heap.get? ea=some oe)(hd:oe.data = .fields vs)(hn:H ea=none)(h0:X.s₀.heap.get? ea=none)(hp:∀p∈X.pn++pins,p.1≠ea)(new:bE X.prog X.w (upd H ea o) s.heap ea o):Inv X pins σ (upd H ea o) s:=by
 have ne0:∀b ob,X.s₀.heap.get? b=some ob->b≠ea:=λb ob e z=>by rw[z,h0]at e;cases e
 have neT:∀b u,H b=some u->b≠ea:=λb u e z=>by rw[z,hn]at e;cases e
 refine⟨I.ok,I.os,I.bare,⟨I.base.keep,I.base.slot,λb ob e n hx=>?_,I.base.there,λb xs e=>?_,λb u xs e=>?_,λb ps e=>?_⟩,I.loc,I.cell,?_,λx c e=>?_,λp hpp=>?_,λb u e=>?_,I.len⟩
 ·rw[aF (ne0 b ob e)];exact I.base.free b ob e n hx
 ·have q:=I.base.tups b xs e
  rw[aF (neT b _ q)];exact q
 ·have q:=I.base.fV b u xs e
  rw[aF (neT b _ q)];exact q
 ·obtain⟨more,q⟩:=I.base.gI b ps e
  exact⟨more,by rw[aF (neT b _ q)];exact q⟩
 ·have ne:X.env.locals≠ea:=λz=>by
   obtain⟨m,⟨oL,es,ep,hL,hdL,_⟩,_⟩:=I.loc;rw[z,he]at hL;cases hL;rw[hd]at hdL;cases hdL
  rw[aF ne];exact I.free
 ·have ne:c≠ea:=λz=>by
   obtain⟨v,oc,hc,hdc⟩:=I.cell x c e;rw[z,he]at hc;cases hc;rw[hd]at hdc;cases hdc
  rw[aF ne];exact I.d_ x c e
 ·obtain⟨a,b,c⟩:=I.pin p hpp
  exact⟨a,by rw[aF (hp p hpp)];exact b,c⟩
 ·by_cases z:b=ea
  ·subst z
   rw[au]at e;cases e;exact new
  ·rw[aF z]at e
   exact(I.hok b u e).stay (λc v _ q=>q) (λc q=>by rw[aF (neT c _ q)];exact q) (λc xs q=>by rw[aF (neT c _ q)];exact q) λc ob u q=>by rw[aF (neT c _ q)];exact q
theorem Inv.gone{i:Nat}{n:Str}{h':Heap}{m':Str->Option Value}(I:Inv X pins σ H s)(hN:X.N.Nodup)(hi:X.N[i]?=some n)(hloc:X.env.scope.names.lookup n=some .local){m:Str->Option Value}(hm:s.heap.Ns X.env.locals m)
  (hn:h'.Ns X.env.locals m') (hm':∀x,x≠n->m' x=m x) (hs:Heap.SameBut X.env.locals s.heap h'):Inv X pins (σ.set i none) H {s with heap:=h',toks:=s.toks+1}:=by
 obtain⟨m0,hn0,hl⟩:=id I.loc;have em:m0=m:=by
  funext x
  obtain⟨o,es,ep,h1,h2,_,h3⟩:=hn0;obtain⟨o',es',ep',h1',h2',_,h3'⟩:=hm;rw[h1]at h1';cases h1';rw[h2]at h2';cases h2';rw[<- h3,<- h3']
 subst em;have hiσ:i<σ.length:=by rw[I.len];exact(bJ.mp hi).1
 have iZ:=I.iZ;have pG:∀b o,X.s₀.heap.get? b=some o->b≠X.env.locals:=λb o e=>bB (cZ (aS e) I.ok.above);refine⟨I.ok,I.os,I.bare,⟨λb o e n hb hx=>?_,λb o e n hb hx=>?_,I.base.free,λb o e hx=>?_,I.base.tups,I.base.fV,I.base.gI⟩,⟨_,hn,λj y v' e1 e2 e3=>?_⟩,λy c e=>?_,I.free,I.d_,λp hp=>?_,λb ob e=>?_,by simpa using I.len⟩
 ·exact(hs.2 b (pG b o e)).trans (I.base.keep b o e n hb hx)
 ·obtain⟨sl,e1⟩:=I.base.slot b o e n hb hx
  exact⟨sl,(hs.2 b (pG b o e)).trans e1⟩
 ·obtain⟨o',e1⟩:=I.base.there b o e hx
  exact⟨o',(hs.2 b (pG b o e)).trans e1⟩
 ·by_cases hj:j=i
  ·subst hj
   rw[xV hiσ]at e2;cases e2
  ·rw[tW (bP hj)]at e2
   obtain⟨u',r',q⟩:=hl j y v' e1 e2 e3;refine⟨u',r',?_⟩
   rcases q with⟨k,e⟩|⟨k,c,e,z⟩
   ·refine .inl ⟨k,?_⟩
    have:y≠n:=λe=>hj (Dv hN e1 (e▸hi));rw[hm' y this];exact e
   ·exact .inr ⟨k,c,e,z.sameBut hs (iZ y c e)⟩
 ·obtain⟨w',z⟩:=I.cell y c e
  exact⟨w',z.sameBut hs (iZ y c e)⟩
 ·obtain⟨e,n,ne,nf,d⟩:=I.pin p hp
  exact⟨(hs.2 p.1 ne).trans e,n,ne,nf,d⟩
 ·have hfree:=I.free
  refine(I.hok b ob e).stay (λc w' hc q=>(hs.2 c ?_).trans q) (λ_ q=>q) (λ_ _ q=>q) λ_ _ _ q=>q;rintro rfl
  rcases hc with rfl|hc
  ·rw[hfree]at e;cases e
  ·rw[hfree]at hc;cases hc
end
section
variable {X:Cx} {XE:XK} {body suite:List Stmt} {b0:Stmt} {c n:Str} {np hpos pos:Pos} {i:Nat} {Dc:Addr} {tb ts:TS}
end
structure eR (P:Program) (w:World) (K:W.Frag) (mg:Str->Option Value) (base:Heap) (x:Str) (ps:List Str) (k:Nat) (sp:Sp):Prop where
 ex:∃(f:Addr) (fd:FuncData),aN P w K mg base (bN P w) k f fd ps sp/\mg x=some (.ref f)/\W.keepIn K (.ref f)=true/\Binds K fd ps []
section
variable {X:Cx} {x:Str} {ps:List Str} {k k':Nat} {sp:Sp} {e:Expr} {es:List Expr} {t:TA} {p pos:Pos} {E:XK}
theorem kF (c:eR X.prog X.w X.K X.mg X.base x ps k sp) (px:Passes (bN X.prog X.w) X E) (hr:bQ k' X.A) (hg:Gl X x) (ha:PA X (e::es) t) (hk:k<=k':=by decide) (hdb:(x==("__debug__" : Str))=false:=by decide)
  (he:starEach (e::es) X.env=(false,eval e X.env)::starEach es X.env:=by rfl) (hpl:(backTo pos (starEach es X.env)).any (·.1)=false:=by rfl):PE X (.Call (.Name x p) (e::es) [] pos) (qf sp [] E t):=by
 obtain⟨f,fd,F,hm,kp,b⟩:=c.ex;exact Pa F (hr.mono hk) hg hm kp b .nil px ha hdb he hpl
end
theorem aU.pJ{P:Program}{w:World}{K:W.Frag}{mg:Str->Option Value}{base:Heap}{x qual:Str}{st:Stmt}{f:Addr}{fd:FuncData}{N ps:List Str}{k:Nat}{sp:Sp}(F:aU K x qual st f fd)(S:a_ N ps (aB st))(len:∀vs H Q E,sp vs H Q E->vs.length=ps.length)(hbody:∀(cdv:Value) (A:Around) (outer:List Env) (s:Shared) (H:Hp) (vs:List V) (Q:VK) (E:XK),bQ k (A.deeper (envOfC qual (aB st) s.heap.objs.size f cdv))->sp vs H Q E->∃t,fE (cI (bN P w) P w K mg base N qual (aB st) f cdv A outer s H E) (gS st) t/\t {nx:=λ_ H'=>Q .non H',rt:=Q} (start N vs) H):aN P w K mg base (bN P w) (k+1) f fd ps sp:=by
 obtain⟨oc,od,kV,doc,pm,an,cdv,ct,osl,rfl,lk,hcd⟩:=F.ex;exact BL lk hcd S len λA outer s H vs Q E hr hsp=>hbody cdv A outer s H vs Q E hr hsp
noncomputable def vq:Value->Bool
 |.bool b=>b
 |_=>false
theorem JH:∀{bs:List Bool} {us:List Value},Vals (bs.map V.bl) us->us=bs.map Value.bool
 | [],_,h=>by cases h;rfl
 |b::bs,_,h=>by
  cases h with
  |cons h t=>rw[show _=Value.bool b from h,JH t];rfl
def abO(K:W.Frag):V->List V->Hp->VK->Prop:=λx vs H Q=>∃(l:Addr) (bs:List Bool),x = .ref l/\vs = [.bl true]/\ah K H l (bs.map V.bl)/\true∈bs/\Q (.int (bs.idxOf true:Nat)) H
theorem Zb {X:Cx} {K:W.Frag} (hK:X.K=K):mD X "list.index" (abO K):=by
 subst hK;intro pins s σ H x vs v us Q I rx rv h;obtain⟨l,bs,rfl,rfl,hq,hk,q⟩:=h;cases rx;obtain⟨u,rfl,ru⟩:=rv.one;cases(show u=Value.bool true from ru);obtain⟨its,r,⟨⟨cls,dd,data,sl⟩,n,ho,hc,hdd,hd⟩,hz⟩:=I.list hq;simp only at hc hdd hd;subst hc hdd hd;have hi:=JH r;subst hi;have hj:bs.idxOf true<bs.length:=qA.mpr hk;have hb:sizeLine<2 ^ 62:=by decide
 rw[az]at hz;refine kZ kY ⟨_,ho,rfl⟩ Iz (Iw _ _)
  (Ja l (bs.map Value.bool).toArray n none sl (.bool true) vq (bs.idxOf true) (by simpa using hj) (by omega) ?_ ?_) ⟨ho,λy hy=>?_,?_⟩
 ·show vq ((bs.map Value.bool)[bs.idxOf true]'(by simpa using hj))=true
  rw[jY,qz hj];rfl
 ·intro j hjs hlt
  have hj2:j<bs.length:=by simpa using hjs
  show vq ((bs.map Value.bool)[j]'(by simpa using hj2))=false;rw[jY];show bs[j]=false;have:=S3 (p:=(· == true)) (xs:=bs) (i:=j) hlt;simpa using this
 ·obtain⟨b,_,rfl⟩:=dc.mp (show y∈bs.map Value.bool by simpa using hy)
  have e:vq (.bool b)=(b==true):=by cases b<;>rfl
  rw[e];exact yr b true
 ·exact⟨.int (bs.idxOf true:Nat),H,I.tok _,⟨_,rfl⟩,q⟩
noncomputable def strOf:Expr->Option Str
 |.Constant (.str i) _ _=>some i
 |_=>none
noncomputable def strsOf:List Expr->Option (List Str)
 | []=>some []
 |e::r=>(strOf e).bind λi=>(strsOf r).map (i::·)
theorem acI{e:Expr}{i:Str}(h:strOf e=some i):∃k p,e = .Constant (.str i) k p:=by
 cases e with
 |Constant c k p =>
  cases c with
  |str j=>cases h;exact⟨k,p,rfl⟩
  |_=>cases h
 |_=>cases h
theorem O5{X:Cx}:∀{es:List Expr} (is:List Str),strsOf es=some is->PA X es (λ_ H Q=>Q (is.map V.str) H):=by
 intro es
 induction es with
 |nil =>
  intro is h;cases h;exact ag
 |cons e r ih =>
  intro is h;have h':(strOf e).bind (λi=>(strsOf r).map (i::·))=some is:=h;cases q1:strOf e with
  |none=>rw[q1]at h';cases h'
  |some i =>
   obtain⟨k,p,rfl⟩:=acI q1;rw[q1]at h';cases q:strsOf r with
   |none=>rw[qG,q]at h';cases h'
   |some l =>
    rw[qG,q]at h';cases h';exact ae pQ (ih l q)
theorem TV:bootBuiltins "ValueError" = some (.type "ValueError"):=by trivial
structure kM (mg:Str->Option Value) (a0 a1 a2 a3 a4 a5 a6 a7 a8 a9 a10 a11 a12 a13 a14 aE:Addr):Prop where
 NoChain:mg "NoChain" = some (.ref a0)
 NoClimb:mg "NoClimb" = some (.ref a1)
 NoCount:mg "NoCount" = some (.ref a2)
 NoEnds:mg "NoEnds" = some (.ref a3)
 NoExchange:mg "NoExchange" = some (.ref a4)
 NoJoin:mg "NoJoin" = some (.ref a5)
 NoLine:mg "NoLine" = some (.ref a6)
 NoName:mg "NoName" = some (.ref a7)
 NoNumber:mg "NoNumber" = some (.ref a8)
 NoOrder:mg "NoOrder" = some (.ref a9)
 NoPart:mg "NoPart" = some (.ref a10)
 NoText:mg "NoText" = some (.ref a11)
 NoThing:mg "NoThing" = some (.ref a12)
 NoWord:mg "NoWord" = some (.ref a13)
 NotEven:mg "NotEven" = some (.ref a14)
 ClimbError:mg "ClimbError" = some (.ref aE)
 ve:mg "ValueError" = none
structure tO (K:W.Frag) (a0 a1 a2 a3 a4 a5 a6 a7 a8 a9 a10 a11 a12 a13 a14 aE:Addr):Prop where
 NoChain:W.nsIn K mainGlobals "NoChain" = some (some (.ref a0))
 NoClimb:W.nsIn K mainGlobals "NoClimb" = some (some (.ref a1))
 NoCount:W.nsIn K mainGlobals "NoCount" = some (some (.ref a2))
 NoEnds:W.nsIn K mainGlobals "NoEnds" = some (some (.ref a3))
 NoExchange:W.nsIn K mainGlobals "NoExchange" = some (some (.ref a4))
 NoJoin:W.nsIn K mainGlobals "NoJoin" = some (some (.ref a5))
 NoLine:W.nsIn K mainGlobals "NoLine" = some (some (.ref a6))
 NoName:W.nsIn K mainGlobals "NoName" = some (some (.ref a7))
 NoNumber:W.nsIn K mainGlobals "NoNumber" = some (some (.ref a8))
 NoOrder:W.nsIn K mainGlobals "NoOrder" = some (some (.ref a9))
 NoPart:W.nsIn K mainGlobals "NoPart" = some (some (.ref a10))
 NoText:W.nsIn K mainGlobals "NoText" = some (some (.ref a11))
 NoThing:W.nsIn K mainGlobals "NoThing" = some (some (.ref a12))
 NoWord:W.nsIn K mainGlobals "NoWord" = some (some (.ref a13))
 NotEven:W.nsIn K mainGlobals "NotEven" = some (some (.ref a14))
 ClimbError:W.nsIn K mainGlobals "ClimbError" = some (some (.ref aE))
 ve:W.nsIn K mainGlobals "ValueError" = some none
theorem tO.errs{K:W.Frag}{mg:Str->Option Value}{h:Heap}{a0 a1 a2 a3 a4 a5 a6 a7 a8 a9 a10 a11 a12 a13 a14 aE:Addr}(A:tO K a0 a1 a2 a3 a4 a5 a6 a7 a8 a9 a10 a11 a12 a13 a14 aE)(X:K.In h)(G:h.Ns mainGlobals mg):kM mg a0 a1 a2 a3 a4 a5 a6 a7 a8 a9 a10 a11 a12 a13 a14 aE:=
 ⟨W.mg_of X G A.NoChain,W.mg_of X G A.NoClimb,W.mg_of X G A.NoCount,W.mg_of X G A.NoEnds,W.mg_of X G A.NoExchange,W.mg_of X G A.NoJoin,W.mg_of X G A.NoLine,W.mg_of X G A.NoName,W.mg_of X G A.NoNumber,W.mg_of X G A.NoOrder,W.mg_of X G A.NoPart,W.mg_of X G A.NoText,W.mg_of X G A.NoThing,W.mg_of X G A.NoWord,W.mg_of X G A.NotEven,W.mg_of X G A.ClimbError,W.mg_none_of X G A.ve⟩
structure oF (K:W.Frag) (a0 a1 a2 a3 a4 a5 a6 a7 a8 a9 a10 a11 a12 a13 a14 aE C:Addr) (j:Nat):Prop where
 xc:j8 K C
 Vo:W.exmOne K (.ref C) (.ref aE)=some true
 ke:W.kitOne K (.ref C) (.ref aE)=some true
 kv:W.kitOne K (.ref C) (.type "ValueError")=some true
 k0:W.kitOne K (.ref C) (.ref a0)=some (decide (0=j))
 k1:W.kitOne K (.ref C) (.ref a1)=some (decide (1=j))
 k2:W.kitOne K (.ref C) (.ref a2)=some (decide (2=j))
 k3:W.kitOne K (.ref C) (.ref a3)=some (decide (3=j))
 k4:W.kitOne K (.ref C) (.ref a4)=some (decide (4=j))
 k5:W.kitOne K (.ref C) (.ref a5)=some (decide (5=j))
 k6:W.kitOne K (.ref C) (.ref a6)=some (decide (6=j))
 k7:W.kitOne K (.ref C) (.ref a7)=some (decide (7=j))
 k8:W.kitOne K (.ref C) (.ref a8)=some (decide (8=j))
 k9:W.kitOne K (.ref C) (.ref a9)=some (decide (9=j))
 k10:W.kitOne K (.ref C) (.ref a10)=some (decide (10=j))
 k11:W.kitOne K (.ref C) (.ref a11)=some (decide (11=j))
 k12:W.kitOne K (.ref C) (.ref a12)=some (decide (12=j))
 k13:W.kitOne K (.ref C) (.ref a13)=some (decide (13=j))
 k14:W.kitOne K (.ref C) (.ref a14)=some (decide (14=j))
theorem oJ.same{H H':Hp}{e C:Addr}(x:oJ H e C)(s:∀b o,H b=some o->H' b=some o):oJ H' e C:=by
 obtain⟨dx,h1,h2⟩:=x;exact⟨dx,s _ _ h1,λa q=>let⟨fs,z⟩:=h2 a q;⟨fs,s _ _ z⟩⟩
end _L
namespace _M
open PySem PySem.Spec PyProof.Rows _L
theorem aD.oU{P:Program}{w:World}{K:W.Frag}{mg:Str->Option Value}{base h:Heap}{x:Str}{st:Stmt}{ps:List Str}{k:Nat}{sp:Sp}(A:aD K x st)(X:K.In h)(G:h.Ns mainGlobals mg)(hb:xF x st ps)(ok:∀{f:Addr} {fd:FuncData},aU K x x st f fd->aN P w K mg base (bN P w) k f fd ps sp):eR P w K mg base x ps k sp:=by
 obtain⟨f,fd,a,F⟩:=A.ex;exact⟨f,fd,ok F,W.mg_of X G a,F.kp,F.binds hb⟩
end _M
namespace _L
open PySem PySem.Spec PyProof.Rows
section
variable {prog:Program} {w:World} {A:Around} {E:Value->Shared->Prop} {h:Heap} {g:Array GenState} {d:Drawn} {t:Nat} {os:OsState}
variable {nm q:Str} {C N:Addr} {bs bm bmB:List Value} {hdct:Bool} {sn:List Str} {sub:List Value} {ab:Bool} {col:Option Bool} {dd:Option Addr} {k0 k1 k2 k3 k5:Option Value} {B newId initId:String}
theorem adK(F:ExcBaseFacts B newId initId bmB)(T:OwnTail h bmB bm){mN:Str->Option Value}{rest:List Value}{fI:Addr}{oI:Obj}{Q:Fin->Shared->Prop}
  (hC:h.get? C=some (excClassObj nm q C N bs bm hdct sn sub ab col dd k0 k1 k2 k3 k5 newId)) (hn:h.Ns N mN) (hi:mN "__init__" = some (.ref fI)) (hfI:h.get? fI=some oI) (hfc:oI.cls = .type "function")
  (hq:∀h' e,Heap.MadeExcOf h h' e (.ref C) rest->wpAny (model prog w) A (call (.ref fI) (.ref e::rest)) (λr s'=>r = .none/\Q (.done (.ret (.ref e))) s') E ⟨h',g,d,t,os⟩) (hrest:rest.length<=sizeLine:=by size_fits) :
  wpAny (model prog w) A (Builtin.«type.__call__» ⟨.ref C::rest,[]⟩) Q E ⟨h,g,d,t,os⟩:=by
 repeat (first|with_reducible refine ur hC ?_|with_reducible refine wpAny_madeBy_exc hC ?_|wp_step)
 refine codeAny_call_builtin_code (Iv _ F.quiet) (wpAny_check_new_subT F T hC ?_);refine codeAny_exc_new_subT F T hC ?_ hrest;show wpAny _ _ _ _ _ _;generalize hob:({cls:=.type "tuple", data:=.seq rest.toArray}:Obj)=ob;generalize hoe:({cls:=.ref C,data:=.fields #[.ref h.objs.size,.none,.none,.none,.bool false,.none]}:Obj)=oe;have up:∀b o,h.get? b=some o->((h.push ob).push oe).get? b=some o:=λb o z=>aV _ (aV _ z);have hC₁:=up _ _ hC;have hfI₁:=up _ _ hfI;have hn₁:((h.push ob).push oe).Ns N mN:=let⟨o,es,ep,z,r⟩:=hn;⟨o,es,ep,up _ _ z,r⟩
 have hget:((h.push ob).push oe).get? (h.objs.size+1)=some oe:=I0 (by simp only[eK]) (by rw[<- hoe];rfl);have hgt:((h.push ob).push oe).get? h.objs.size=some ob:=aV _ (I0 rfl (by rw[<- hob];rfl));have hcC:(Value.ref C::bm).contains (.ref C)=true:=by simp
 have T₁:=T.keeps up;have hcl:oe.cls = .ref C:=by rw[<- hoe]
 unfold isInstance
 repeat (first | (with_reducible refine ur hget ?_;rw[hcl]) | (with_reducible refine wpAny_isSubtype_exc hC₁ ?_;rw[hcC])|wp_step)
 show wpAny _ _ (typeLookup (.ref C) _) _ _ _;refine wpAny_typeLookup_tail hC₁ hn₁ T₁ F.mroIs F.init.lookup ?_;rw[hi];refine fS (ai ?_);unfold bindSpecial;refine ai (wpAny_typeOf (T:= "function") ⟨_,hfI₁,hfc⟩ ?_);rw[if_pos (by decide)];refine aJ (ai (eI (hq _ (h.objs.size+1) ⟨up,yo (qE _),h.objs.size,hget.trans (by rw[hoe]),yo (aY _),hgt.trans (by rw[hob])⟩) (λr s' hr=>?_) λ_ _ x=>x));obtain⟨rfl,hQ⟩:=hr
 wp_walk
 exact hQ
theorem adH(F:ExcBaseFacts B newId initId bmB)(T:OwnTail h bmB bm){mN:Str->Option Value}{rest:List Value}{fI:Addr}{oI:Obj}{Q:Value->Shared->Prop}
  (hC:h.get? C=some (excClassObj nm q C N bs bm hdct sn sub ab col dd k0 k1 k2 k3 k5 newId)) (hn:h.Ns N mN) (hi:mN "__init__" = some (.ref fI)) (hfI:h.get? fI=some oI) (hfc:oI.cls = .type "function")
  (hq:∀h' e,Heap.MadeExcOf h h' e (.ref C) rest->wpAny (model prog w) (A.under (.builtin "type.__call__" ⟨.ref C::rest,[]⟩)) (call (.ref fI) (.ref e::rest)) (λr s'=>r = .none/\Q (.ref e) s') E ⟨h',g,d,t,os⟩) (hrest:rest.length<=sizeLine:=by size_fits) :
  wpAny (model prog w) A (call (.ref C) rest) Q E ⟨h,g,d,t,os⟩:=by
 have f1:=tc_lookup;have f2:=tc_bind (.ref C);have hT:(⟨h,g,d,t,os⟩:Shared).TypeIs (.ref C) "type" :=⟨_,hC,rfl⟩;refine k_ (codeAny_of_tree ?_);show wpAny _ _ (callAny (.ref C) _) _ _ _
 repeat (any_goals (first|assumption|with_reducible refine ur hC ?_|wp_step))
 refine⟨rfl,codeAny_call_builtin_at (Iv _ (by trivial)) entry_typeCall (wpAny_check_type_call_sub hC (adK (hrest:=hrest) F T hC hn hi hfI hfc λh' e hm=>?_))⟩;exact hq h' e hm
end
section
variable {M:Model} {A:Around} {E:Value->Shared->Prop} {env:Env}
variable {nm q:Str} {C N:Addr} {bs bm:List Value} {hdct:Bool} {sn:List Str} {sub:List Value} {ab:Bool} {col:Option Bool} {dd:Option Addr} {k0 k1 k2 k3 k5:Option Value} {newId:String}
theorem adJ {s:Shared} {x:Sem Value} {Q:Flow->Shared->Prop} (hbase:bm.contains (.type "BaseException")=true) (hh:A.handled=none)
  (h:wpAny M A x (λv s₁=>∃e de sl vs,v = .ref e/\s₁.heap.get? C=some (excClassObj nm q C N bs bm hdct sn sub ab col dd k0 k1 k2 k3 k5 newId) /\
   s₁.heap.get? e=some {cls:=.ref C,dict:=de,data:=.fields vs,slots:=sl}/\vs[1]?=some .none/\E (.ref e) s₁) E s) :
  wpAny M A (raiseStmt env (some x) none) Q E s:=by
 have hcB:(Value.ref C::bm).contains (.type "BaseException")=true:=by rw[List.contains_cons,hbase,Bool.or_true]
 unfold raiseStmt;refine ai (eI h (λv s₁ h₁=>?_) λ_ _ x=>x);obtain⟨e,de,sl,vs,rfl,hC,he,h1,hE⟩:=h₁;obtain⟨hp,g,d,tk,os⟩:=s₁
 repeat (first|with_reducible refine eG he rfl h1 ?_|with_reducible refine ur he ?_|with_reducible refine ur hC ?_ | (with_reducible refine wpAny_isSubtype_exc hC ?_;rw[hcB])|wp_step)
 exact wpAny_raiseNew_none hh hE
end
section
variable {prog:Program} {w:World} {A:Around} {E:Value->Shared->Prop} {h:Heap} {g:Array GenState} {d:Drawn} {t:Nat} {os:OsState}
variable {nm q:Str} {C N:Addr} {bs bm bmB:List Value} {hdct:Bool} {sn:List Str} {sub:List Value} {ab:Bool} {col:Option Bool} {dd:Option Addr} {k0 k1 k2 k3 k5:Option Value} {B newId initId:String}
theorem adI(F:ExcBaseFacts B newId initId bmB)(T:OwnTail h bmB bm){e:Addr}{de:Option Addr}{sl:Array (Option Value)}{vs:Array Value}{v:Value}{Q:Value->Shared->Prop}(hC:h.get? C=some (excClassObj nm q C N bs bm hdct sn sub ab col dd k0 k1 k2 k3 k5 newId))(he:h.get? e=some {cls:=.ref C,dict:=de,data:=.fields vs,slots:=sl}){t0:Addr}(h0:vs[0]?=some (.ref t0))
  (hq:∀h' tu,(∀b o,b≠e->h.get? b=some o->h'.get? b=some o)->h'.get? e=some {cls:=.ref C,dict:=de,data:=.fields (vs.setIfInBounds 0 (.ref tu)),slots:=sl}->Q .none ⟨h',g,d,t,os⟩) :
  wpAny (model prog w) A (call (.builtin initId) [.ref e,v]) Q E ⟨h,g,d,t,os⟩:=by
 refine k_ (Jc F.init.plain F.initEntry (wpAny_check_init_subT F T hC he rfl ?_));have hsz:0<vs.size:=(mj.mp h0).1
 wp_walk
 rw[h0]
 wp_walk
 have WW:=aV {cls:=.type "tuple", data:=.seq #[v]} he;refine hq _ h.objs.size (λb o hb z=>?_) ?_
 ·rw[iB _ _ (bP hb)]
  exact aV _ z
 ·exact iC (Obj.mapFields (·.setIfInBounds 0 (.ref h.objs.size))) WW rfl
end
end _L
namespace _L
open PySem PySem.Spec PyProof.Rows PySem.W
open Builtin Builtin.ObjectAttr
section
variable {prog:Program} {w:World} {A:Around} {E:Value->Shared->Prop} {h:Heap} {g:Array GenState} {d:Drawn} {t:Nat} {os:OsState} {K:Frag} {e C D:Addr} {cd:ClassData} {sl:Array (Option Value)} {vs:Array Value} {name:Str} {v:Value}
theorem adL{Q:Option Addr->Shared->Prop}(X:K.In h)(hcd:clsIn K C=some cd)(hhd:cd.hasDict=true)(he:h.get? e=some {cls:=.ref C,dict:=none,data:=.fields vs,slots:=sl})
  (hq:Q (some h.objs.size) ⟨(h.push {cls:=.type "dict", data:=.dict #[]}).update e λo=>{o with dict:=some h.objs.size},g,d,t,os⟩):wpAny (model prog w) A (instanceDict e true) Q E ⟨h,g,d,t,os⟩:=by
 have LC:=looks_clsIn (M:=model prog w) X hcd;have he₁:(h.push {cls:=.type "dict", data:=.dict #[]}).get? e=some {cls:=.ref C,dict:=none,data:=.fields vs,slots:=sl}:=aV _ he;unfold instanceDict;refine ai (wpAny_loadPart he ?_);dsimp only;refine ai (LC.at ?_);rw[hhd];refine ai (wpAny_alloc' ?_);refine ai (wpAny_update' he₁ ?_);exact aJ hq
theorem adM {Q:Unit->Shared->Prop} (X:K.In h) (hcd:clsIn K C=some cd) (hmro:cd.mro = .ref C::.ref D::g_) (hhd:cd.hasDict=true) (hsa:findIn K (.ref C) "__setattr__" = some (some (.builtin "object.__setattr__")))
  (ht:findIn K (.ref C) name=some none) (hob:mroIn K C (.type "object")=some true) (he:h.get? e=some {cls:=.ref C,dict:=none,data:=.fields vs,slots:=sl})
  (hq:∀h' dx tk',(∀b o,b≠e->h.get? b=some o->h'.get? b=some o)->h'.get? e=some {cls:=.ref C,dict:=some dx,data:=.fields vs,slots:=sl}->h.objs.size<=dx->h'.Ns1 dx (λy=>if y=name then some v else none)->Q () ⟨h',g,d,tk',os⟩) :
  wpAny (model prog w) A (setAttr (.ref e) name v) Q E ⟨h,g,d,t,os⟩:=by
 have SF:=PySem.F.store_object;have I:InstAt h e {cls:=.ref C,dict:=none,data:=.fields vs,slots:=sl} C none:=⟨he,rfl,rfl,trivial⟩;have L0:=I.type (M:=model prog w);have L1:=looks_findIn (M:=model prog w) X hsa;have L2:=looks_findIn (M:=model prog w) X ht;have LS:Looks (model prog w) h (isInstance (.ref e) (.type "object")) true:=I.type.andThen (looks_mroIn X hob);have LM:Looks (model prog w) h (mroOf (.ref C)) cd.mro:=(looks_clsIn X hcd).andThen .now;have LC:=looks_clsIn (M:=model prog w) X hcd;have f3:=SF.slot.bind (.ref e);unfold setAttr callSpecial? specialOf
 repeat (any_goals (first|assumption|with_reducible refine L0.at ?_|with_reducible refine L1.at ?_|wp_step))
 refine Jc SF.slot.plain SF.entry (@check_slot (model prog w) _ _ _ "object.__setattr__" "object" "__setattr__" (.ref e) [.str name t,v] [] _ SF.kind SF.split LS (SF.args (.ref e) (.str name t) v) ?_);show wpAny _ _ (Builtin.«object.__setattr__» ⟨[.ref e,.str name t,v],[]⟩) _ _ _;rw[osa_eq,refuse_eq];refine ai (ai (L0.at (ai (LM.at ?_))));rw[hmro,refuseLoop_ref,refuseLoop_ref,PySem.F.store_ValueError.passes];refine aJ (ai (L0.at (ai (L2.at (ai (aJ ?_))))));show wpAny _ _ (storeInOwnDict (.ref e) (.ref C) (.str name t) name v false) _ _ _;unfold storeInOwnDict;refine ai (aJ ?_);rw[if_neg (by simp)];refine ai (adL X hcd hhd he ?_);have he₁:(h.push {cls:=.type "dict", data:=.dict #[]}).get? e=some {cls:=.ref C,dict:=none,data:=.fields vs,slots:=sl}:=aV _ he;have hes:e≠h.objs.size:=bB (aS he);have hgd:((h.push {cls:=.type "dict", data:=.dict #[]}).update e λo=>{o with dict:=some h.objs.size}).get? h.objs.size=some {cls:=.type "dict", data:=.dict #[]}:=
  (mF _ _ _ _ hes.symm).trans (I0 rfl rfl)
 have hnd:((h.push {cls:=.type "dict", data:=.dict #[]}).update e λo=>{o with dict:=some h.objs.size}).Ns h.objs.size (λ_=>none):=⟨_,#[],_,hgd,rfl,λx hx=>absurd hx (by simp),λ_=>rfl⟩;show wpAny _ _ (storeInDict h.objs.size (.str name t) name v) _ _ _;unfold storeInDict newKeyGuard;refine ai (aJ (ai (wpAny_nsSet1 (Heap.Ns1.of_empty hnd) λh' hn' hs=>?_)));obtain⟨oD,esD,epD,hoD,hdD,hcD⟩:=hn'.count (Within.cons name v Within.nil);refine ai (wpAny_lookBehind hoD (by rw[hdD];exact pastItsLine_dict (ck hcD (by rw[jZ,HW,yw];omega))) ?_)
 wp_walk
 refine hq h' h.objs.size _ (λb o hb z=>?_) ?_ (aY _) ?_
 ·exact(hs.2 b (bB (aS z))).trans ((mF _ _ _ _ hb).trans (aV _ z))
 ·exact(hs.2 e hes).trans (iC _ he₁ rfl)
 ·exact hn'
end
noncomputable def fb (e C:Addr) (dx:Option Addr):HO:=.ext λh=>∃t0 sl vs,h.get? e=some {cls:=.ref C,dict:=dx,data:=.fields vs,slots:=sl}/\vs[0]?=some (.ref t0)/\vs[1]?=some .none
theorem zT{P:Program}{w:World}{H:Hp}{h:Heap}{e C t0:Addr}{dx:Option Addr}{sl:Array (Option Value)}{vs:Array Value}(h1:h.get? e=some {cls:=.ref C,dict:=dx,data:=.fields vs,slots:=sl})(h2:vs[0]?=some (.ref t0))(h3:vs[1]?=some .none):
  bE P w H h e (fb e C dx):=⟨⟨t0,sl,vs,h1,h2,h3⟩,⟨_,h1⟩,λg1 g2 ⟨t0,sl,vs,a,b⟩ k=>⟨t0,sl,vs,k _ a,b⟩⟩
theorem zR{P:Program}{w:World}{H:Hp}{h:Heap}{e C:Addr}{dx:Option Addr}(ok:bL P w H h)(z:H e=some (fb e C dx)):∃t0 sl vs,h.get? e=some {cls:=.ref C,dict:=dx,data:=.fields vs,slots:=sl}/\vs[0]?=some (.ref t0)/\vs[1]?=some .none:=(show bE P w H h e (fb e C dx)from ok e _ z).1
noncomputable def jG (H:Hp) (e:Addr):Hp:=λb=>if b=e then none else H b
theorem zN{H:Hp}{e:Addr}:jG H e e=none:=by unfold jG;rw[if_pos rfl]
theorem rn{H:Hp}{e b:Addr}(h:b≠e):jG H e b=H b:=by unfold jG;rw[if_neg h]
section
variable {X:Cx} {pins:List (Addr × Obj)} {σ:St} {H:Hp} {s:Shared}
theorem Inv.adu{e C:Addr}{dx:Option Addr}(I:Inv X pins σ H s)(z:H e=some (fb e C dx))(h0:X.s₀.heap.get? e=none):Inv X pins σ (jG H e) s:=by
 have no:∀{b:Addr},H b=none->jG H e b=none:=λ{b} n=>by
  by_cases hb:b=e
  ·rw[hb];exact zN
  ·rw[rn hb];exact n
 have nt:∀{b:Addr} {u:HO},H b=some u->(∀φ,u≠.ext φ)->jG H e b=some u:=λ{b u} q nx=>by
  rw[rn]
  ·exact q
  ·intro hb
   rw[hb,z]at q;exact nx _ (dg q).symm
 refine⟨I.ok,I.os,I.bare,⟨I.base.keep,I.base.slot,λb o q n hx=>no (I.base.free b o q n hx),I.base.there,λb xs q=>nt (I.base.tups b xs q) (λφ w=>by cases w),λb o u q=>nt (I.base.fV b o u q) (λφ w=>by cases w),λb ps q=>?_⟩,
  I.loc,I.cell,no I.free,λx c q=>no (I.d_ x c q),λp hp=>?_,λb o q=>?_,I.len⟩
 ·obtain⟨more,q1⟩:=I.base.gI b ps q
  exact⟨more,nt q1 (λφ w=>by cases w)⟩
 ·obtain⟨a,b,c⟩:=I.pin p hp
  exact⟨a,no b,c⟩
 ·have hb:b≠e:=λw=>by rw[w,zN]at q;cases q
  rw[rn hb]at q;exact(I.hok b o q).stay (λc v _ r=>r) (λc r=>nt r (λφ w=>by cases w)) (λc xs r=>nt r (λφ w=>by cases w)) λc ob u r=>nt r (λφ w=>by cases w)
end
def mn (K:W.Frag) (C fI:Addr):Prop:=∀h:Heap,K.In h->(∃bm N nm q bs hdct sn sub ab col dd k0 k1 k2 k3 k5 mN,h.get? C=some (excClassObj nm q C N bs bm hdct sn sub ab col dd k0 k1 k2 k3 k5 "ValueError.__new__")/\h.Ns N mN/\mN "__init__" = some (.ref fI)/\OwnTail h g_ bm) /\
 ∃oI,h.get? fI=some oI/\oI.cls = .type "function"
def RV(C:Addr)(sp:Sp)(E:XK)(ta:TA):TS:=λ_ σ H=>ta σ H λvs H1=>vs.length<=sizeLine/\∀e,H1 e=none->sp (.ref e::vs) (upd H1 e (fb e C none)) (λv H2=>v = .non/\∃dx,H2 e=some (fb e C dx)/\E (.ref C) dx (jG H2 e)) E0
section
variable {X:Cx} {E:XK} {x:Str} {C fI:Addr} {fd:FuncData} {ps:List Str} {k:Nat} {sp:Sp} {np cpos pos:Pos} {e0:Expr} {es:List Expr} {ta:TA}
theorem abC(R:Raises X E)(hm:X.mg x=some (.ref C))(ic:mn X.K C fI)(F:aN X.prog X.w X.K X.mg X.base aZ k fI fd ps sp)(hr:bQ (k+1) X.A)(hb:Binds X.K fd ps [])(calm:X.calm=true)(hex:X.ex = [])(hg:Gl X x)(ha:PA X (e0::es) ta)
  (he:starEach (e0::es) X.env=(false,eval e0 X.env)::starEach es X.env:=by rfl) (hplain:(backTo cpos (starEach es X.env)).any (·.1)=false:=by rfl) (hd:(x==("__debug__" : Str))=false:=by decide) :
  PS X (.Raise (some (.Call (.Name x np) (e0::es) [] cpos)) none pos) (RV C sp E ta):=by
 intro pins s σ H D I h;have FB:=ug;obtain⟨⟨bm,N,nm,q,bs,hdct,sn,sub,ab,col,dd,k0,k1,k2,k3,k5,mN,hC,hN,hi,T⟩,oI,hfI,hfc⟩:=ic X.base I.mod.jf;have hbase:bm.contains (.type "BaseException")=true:=T.hasType FB.hasBase;have hpl:(backTo cpos (starEach (e0::es) X.env)).any (·.1)=false:=by rw[he];show(false||(backTo cpos (starEach es X.env)).any (·.1))=false;rw[hplain];rfl
 have h':=ha cpos pins s σ H _ I h;rw[arm_exec_Raise];simp only[evalOpt,Option.map];refine ai (oE (adJ (C:=C) (nm:=nm) (q:=q) (N:=N) (bs:=bs) (bm:=bm) (hdct:=hdct) (sn:=sn) (sub:=sub) (ab:=ab) (col:=col) (dd:=dd) (k0:=k0) (k1:=k1) (k2:=k2) (k3:=k3) (k5:=k5) (newId:= "ValueError.__new__") hbase (I.ok.hd calm) ?_));refine ai (eI (wpAny_Call_ofName (ku I hg hm ?_ hd)) (λv s₃ h₃=>ai (oE (aJ h₃))) λ_ _ x=>x);unfold callWith;rw[he]at h' hpl ⊢;refine ai (fS (uf (eI h' (λus s2 ⟨vs,H2,I2,r,hl,q2⟩=>ai (oE ?_)) λ_ _ y=>y)));simp only[hpl];obtain⟨hp,g,d,tk,os⟩:=s2;have uZ:hp.get? C=_:=I2.bk _ _ hC;have Wx:hp.Ns N mN:=hN.keeps I2.bk;have T2:OwnTail hp g_ bm:=T.keeps I2.bk;have W2:hp.get? fI=some oI:=I2.bk _ _ hfI;refine ai (wpAny_keeperOf_exc uZ ?_);rw[H_];refine ai (adH (hrest:=by rw[<- r.length];exact hl) FB T2 uZ Wx hi W2 hfc λh3 e hx=>?_);obtain⟨t0,Mt,_,_⟩:=hx.there;have n2:H2 e=none:=Ot I2.hok hx.new;have h0:X.s₀.heap.get? e=none:=by
  cases z:X.s₀.heap.get? e with
  |none=>rfl
  |some o =>
   obtain⟨o',z'⟩:=I2.base.there e o z (by rw[hex];exact λz=>nomatch z);rw[hx.new]at z';cases z'
 have I3:Inv X pins σ H2 ⟨h3,g,d,tk,os⟩:=I2.kept (t':=tk) hx.keeps;have hpn:∀p∈X.pn++pins,p.1≠e:=λp hp z=>by
  have:=(I2.pin p hp).1;rw[z,hx.new]at this;cases this
 have I4:Inv X pins σ (upd H2 e (fb e C none)) ⟨h3,g,d,tk,os⟩:=I3.track Mt rfl n2 h0 hpn (zT Mt rfl rfl);have hq:=q2 e n2;have r2:Vals (V.ref e::vs) (Value.ref e::us):=.cons rfl r;have hl2:(Value.ref e::us++[]).length=ps.length:=by rw[iA,<- r2.length];exact F.len _ _ _ _ hq
 have hb':=hb ⟨h3,g,d,tk,os⟩ (Value.ref e::us) I4.cw hl2;rw[iA]at hb';refine k_ (j4 (F.run _ X.stack _ _ ⟨Value.ref e::us,[]⟩ (Value.ref e::us) _ _ E0 (hr.make C us []) (I4.env0.make C us []) hb' r2 hq) λr s' hq'=>?_);cases r with
 |error e'=>exact False.elim hq'
 |ok fl =>
  cases fl with
  |ret u =>
   obtain⟨v,H',I5,rv,ev,dx,hz,hE⟩:=I4.after hq';subst ev;obtain⟨t1,sl,vs',g1,g2,g3⟩:=zR I5.hok hz;exact⟨rv,ai (fS (wpAny_point (aJ ⟨e,dx,sl,vs',rfl,I5.bk _ _ hC,g1,g3,R pins σ (jG H' e) s' e C _ vs' (I5.adu hz h0) g1 rfl rfl g3 zN h0 hE⟩)))⟩
  |next=>exact False.elim hq'
  |brk=>exact False.elim hq'
  |cont=>exact False.elim hq'
end
structure Jm (K:W.Frag) (C:Addr) (f:Str):Prop where
 ex:∃D cd,W.clsIn K C=some cd/\cd.mro = .ref C::.ref D::g_/\cd.hasDict=true
 sa:W.findIn K (.ref C) "__setattr__" = some (some (.builtin "object.__setattr__"))
 no:W.findIn K (.ref C) f=some none
 ob:W.mroIn K C (.type "object")=some true
def sXF(K:W.Frag)(ta tv:TE)(f:Str):TS:=λD σ H=>tv σ H λy H1=>ta σ H1 λx H2=>∃e C,x = .ref e/\H2 e=some (fb e C none)/\Jm K C f/\∀dx,H2 dx=none->D.nx σ (upd (upd H2 dx (.xd [(f,y)])) e (fb e C (some dx)))
section
variable {X:Cx} {o value:Expr} {ta tv:TE} {f:Str} {pos pos':Pos}
theorem abF(ha:PE X o ta)(hv:PE X value tv)(hs:swapsWith value (some (.Attribute o f pos')) pos.line X.env=pure false):PS X (.Assign [.Attribute o f pos'] value pos) (sXF X.K ta tv f):=by
 intro pins s σ H D I h;refine Tc (aM (hv pins s σ H _ I h) λu s1 ⟨y,H1,I1,ry,q⟩=>aM (ha pins s1 σ H1 _ I1 q) λov s2 ⟨x,H2,I2,rx,e,C,ex,ee,xs,q2⟩=>?_) hs;subst ex;obtain rfl:ov=Value.ref e:=rx;obtain⟨h,g,d,t,os⟩:=s2;obtain⟨D',cd,hcd,hmro,hhd⟩:=xs.ex;obtain⟨t0,sl,vs,he,v0,v1⟩:=zR I2.hok ee;refine adM I2.cw hcd hmro hhd xs.sa xs.no xs.ob he λh' dx tk' keep he' hdx hns=>?_;have hn:H2 dx=none:=I2.hok.fresh hdx;have hed:e≠dx:=λz=>by rw[z,hn]at ee;cases ee
 have oth:∀{b:Addr} {u:HO},H2 b=some u->b≠e->upd (upd H2 dx (.xd [(f,y)])) e (fb e C (some dx)) b=some u:=λ{b u} z hb=>by
  rw[aF hb,aF (c6 z hn)];exact z
 have ext:∀{b:Addr} {u:HO},H2 b=some u->(∀φ,u≠.ext φ)->b≠e:=λ{b u} z nx hb=>by
  rw[hb,ee]at z;exact nx _ (dg z).symm
 have I3:Inv X pins σ (upd (upd H2 dx (.xd [(f,y)])) e (fb e C (some dx))) ⟨h',g,d,tk',os⟩:=by
  refine I2.un (s:=⟨h,g,d,t,os⟩) (h':=h') (t':=tk') ⟨λb ob z n _ _=>keep b ob (λw=>by rw[w,ee]at n;cases n) z,λb ob z n _ _=>⟨ob.slots,keep b ob (λw=>by rw[w,ee]at n;cases n) z⟩,λb ob z n _=>?_,λb ob z _=>?_,
   λb xs z=>oth z (ext z λφ w=>by cases w),λb ob u z=>oth z (ext z λφ w=>by cases w),λb ps z=>⟨#[],by rw[oth z (ext z λφ w=>by cases w)];simp⟩⟩ λb ob z=>?_
  ·rw[aF (λw=>by rw[w,ee]at n;cases n),aF (bB (cZ (aS z) hdx))]
   exact n
  ·by_cases hb:b=e
   ·rw[hb];exact⟨_,he'⟩
   ·exact⟨ob,keep b ob hb z⟩
  ·by_cases hb:b=e
   ·subst hb
    rw[au]at z;cases z;exact zT he' v0 v1
   ·rw[aF hb]at z
    by_cases hb2:b=dx
    ·subst hb2
     rw[au]at z;cases z;refine⟨_,hns,λk=>?_⟩
     by_cases hk:k=f
     ·subst hk
      simp[List.lookup,gj,ry]
     ·have hk':(k==f)=false:=jD.mpr hk
      simp[List.lookup,hk,hk',gj]
    ·rw[aF hb2]at z
     refine(I2.hok b ob z).stay (λc v hc q=>keep c v ?_ q) (λc q=>oth q (ext q λφ w=>by cases w)) (λc xs q=>oth q (ext q λφ w=>by cases w)) λc ob u q=>oth q (ext q λφ w=>by cases w)
     rcases hc with w|w
     ·rw[w];exact hb
     ·exact ext w λφ w=>by cases w
 exact⟨σ,_,I3,q2 dx hn⟩
end
section
variable {X:Cx} {e:Expr} {te:TE} {a:Str} {j} {p1 p2 pos:Pos}
end
def tBI(K:W.Frag)(ta:TA):TE:=λσ H Q=>ta σ H λvs H1=>∃e C fI v,vs = [.ref e,v]/\H1 e=some (fb e C none)/\mn K C fI/\Q .non (upd H1 e (fb e C none))
section
variable {X:Cx} {c:Str} {C0:Addr} {np apos pos:Pos} {e0:Expr} {es:List Expr} {ta:TA}
theorem aa6 (hg:Gl X c) (hm:X.mg c=some (.ref C0)) (hr:W.readsIn X.K C0 (.type "type")=true) (hsp:W.specialIn X.K (.ref C0) "__getattribute__" = some (some (.builtin "type.__getattribute__")))
  (hf:W.findCls X.K (.ref C0) (.type "type") "__init__" = some (.val (.builtin "ValueError.__init__"))) (ha:PA X (e0::es) ta) {pl:Sem Bool}
  (ht:eval (.Call (.Attribute (.Name c np) "__init__" apos) (e0::es) [] pos) X.env=(do
   let ov <- eval (.Name c np) X.env
   standAt apos.atName
   let(f,first) <- holding [ov] (getMethod ov "__init__" pl)
   callWith pos f first (backTo pos (starEach (e0::es) X.env)) (backToKw pos (keywordEach [] X.env))):=by rfl)
  (he:starEach (e0::es) X.env=(false,eval e0 X.env)::starEach es X.env:=by rfl) (hpl:(backTo pos (starEach es X.env)).any (·.1)=false:=by rfl) (hd:(c==("__debug__" : Str))=false:=by decide) :
  PE X (.Call (.Attribute (.Name c np) "__init__" apos) (e0::es) [] pos) (tBI X.K ta):=by
 intro pins s σ H Q I h;have FB:=ug;refine W.methodCall_KW (pl:=pl) (ku I hg hm (W.method_cls I.cw hsp (W.cls_value I.cw hr hf (by trivial) ?_)) hd) ht;have I1:=I.tok (s.toks+1);have h':=ha pos pins _ σ H _ I1 h;rw[he]at h' ⊢;refine yi (by show(false||(backTo pos (starEach es X.env)).any (·.1))=false;rw[hpl];rfl) (uf (eI h' (λus s2 ⟨vs,H2,I2,r,e,C,fI,v,ev,ee,ic,q2⟩=>?_) λ_ _ y=>y));subst ev;obtain⟨u,v',rfl,ru,rv⟩:=Vals.two r;cases(show u=Value.ref e from ru);obtain⟨⟨bm,N,nm,q,bs,hdct,sn,sub,ab,col,dd,k0,k1,k2,k3,k5,mN,hC,hN,hi,T⟩,_⟩:=ic s2.heap I2.cw;obtain⟨t0,sl,ws,hee,v0,v1⟩:=zR I2.hok ee;obtain⟨hp,g,d,tk,os⟩:=s2;refine adI FB T hC hee v0 λh3 tu keep L9=>?_;have hz:0<ws.size:=(mj.mp v0).1;have I3:Inv X pins σ (upd H2 e (fb e C none)) ⟨h3,g,d,tk,os⟩:=I2.write (x:=e) (e:=e) (t':=tk) (h':=h3) (by rw[ee];exact trivial) (.inl rfl) keep ⟨_,L9⟩ (zT (t0:=tu) L9 (by simp[hz]) (by rw[Array.getElem?_setIfInBounds_ne (by decide)];exact v1));exact⟨.non,_,I3,rfl,q2⟩
end
def tXG(K:W.Frag)(te:TE)(f:Str):TE:=λσ H Q=>te σ H λx H1=>∃e C dx fs v,x = .ref e/\H1 e=some (ju e C (some dx))/\H1 dx=some (.xd fs)/\j8 K C/\W.hasDictIn K C=true/\W.findIn K (.ref C) f=some none/\W.noGet K none=true/\fs.lookup f=some v/\Q v H1
section
variable {X:Cx} {o:Expr} {te:TE} {f:Str} {pos:Pos}
theorem abo(he:PE X o te)(hb:attributeBase o f X.env (eval o X.env)=eval o X.env:=by rfl):PE X (.Attribute o f pos) (tXG X.K te f):=by
 intro pins s σ H Q I h;refine Jw hb (aM (he pins s σ H _ I h) λu s1 aW=>?_);obtain⟨x,H1,I1,rx,e,C,dx,fs,v,ex,ee,ed,cl,hd,hf,hn,hl,q⟩:=aW;subst ex;obtain rfl:u=Value.ref e:=rx;obtain⟨oe,vs,e1,e2,e3,e4⟩:=Kz I1.hok ee;obtain⟨mA,ns,rel⟩:=(show bE X.prog X.w H1 s1.heap dx (.xd fs)from I1.hok dx _ ed);obtain⟨od,es,ep,o1,o2,o3⟩:=id ns;obtain⟨w,hw,rw⟩:∃w,mA f=some w/\RelV v w:=by
  have:=rel f;rw[hl]at this;cases z:mA f with
  |none=>rw[z]at this;exact this.elim
  |some w=>rw[z]at this;exact⟨w,rfl,this⟩
 obtain⟨od',ho,hlk⟩:=N1 ns;have nc:W.notCls oe=true:=by unfold W.notCls;rw[e4]
 have J:W.InstAt s1.heap e oe C (some od'):=⟨e1,e2,nc,by rw[e3];exact ho⟩;have hfo:W.findObj X.K C (some od') f=some (.value w):=W.findObj_own hd hf hn (by rw[hlk,hw]);have jf:=I1.cw;obtain⟨hp,g,d,tk,os⟩:=s1;unfold getAttr;refine ai (wpAny_mkText ?_);refine Sg (v:=.none) jf J cl.ga cl.gt cl.be λA'=>adG jf J hfo ?_;exact W.handed_on (L7 rw) ⟨v,H1,I1.tok _,rw,q⟩
end
theorem ZD{K:W.Frag}{h:Heap}{N:Addr}{x:Str}{v:Value}(X:K.In h)(e:W.nsIn K N x=some (some v)):h.nsMap N x=some v:=by
 unfold W.nsIn at e
 split at e
 ·rename_i c d es ep sl ho
  unfold Heap.nsMap;rw[X _ _ ho];dsimp only;unfold nsFind findBy;rw[<- Array.find?_toList]
  split at e
  ·rename_i y hy
   rw[hy];exact dg e
  ·split at e<;>cases e
 ·cases e
noncomputable def Nt (e:DictEntry):Bool:=match e.key with
 |.str _ _=>true
 |_=>false
theorem ZF{K:W.Frag}{N:Addr}{cN:Value}{dN:Option Addr}{es:Array DictEntry}{ep:Nat}{FG:Array (Option Value)}(n:List.lookup N K=some ⟨cN,dN,.dict es ep,FG⟩)(k:es.toList.all Nt=true):W.nsOkIn K N=true:=by
 unfold W.nsOkIn;rw[n];rw[Array.all_toList]at k;exact k
theorem XM{K:W.Frag}{C N fI aE:Addr}{nm q:Str}{bs:List Value}{hdct:Bool}{sn:List Str}{sub:List Value}{ab:Bool}{col:Option Bool}{dd:Option Addr}{k0 k1 k2 k3 k5:Option Value}
  (l:List.lookup C K=some (excClassObj nm q C N bs (.ref aE::g_) hdct sn sub ab col dd k0 k1 k2 k3 k5 "ValueError.__new__")) (ok:W.nsOkIn K N=true) (i:W.nsIn K N "__init__" = some (some (.ref fI)))
  (x:W.excIn K aE g_ "ValueError.__new__" = true) (f:W.isFn K (.ref fI)=true):mn K C fI:=by
 intro h X;refine⟨⟨_,N,nm,q,bs,hdct,sn,sub,ab,col,dd,k0,k1,k2,k3,k5,h.nsMap N,X _ _ l,.of_isNs (W.isNs_of_in X ok),ZD X i,?_⟩,?_⟩
 ·obtain⟨_,tl,N',nm',q',bs',hd',sn',sub',ab',col',rh,j0,j1,j2,j3,j5,mN,hC,hN,hni,T⟩:=O4 (x:=Str.empty) (mg:=λ_=>some (.ref aE)) X rfl x
  exact .own hC hN hni .base
 ·unfold W.isFn W.typeIn at f
  have f:Option.map (λx=>x.cls) (List.lookup fI K)=some (Value.type "function"):=gR.mp f;cases z:List.lookup fI K with
  |none=>rw[z]at f;cases f
  |some o=>rw[z]at f;exact⟨o,X _ _ z,dg f⟩
structure tL (P:Program) (w:World) (K:W.Frag) (mg:Str->Option Value) (base:Heap) (C:Addr) (x:Str) (ps:List Str) (k:Nat) (sp:Sp):Prop where
 ex:∃(f:Addr) (fd:FuncData),aN P w K mg base aZ k f fd ps sp/\mn K C f/\mg x=some (.ref C)/\Binds K fd ps []
section
variable {X:Cx} {E:XK} {x:Str} {C:Addr} {ps:List Str} {k k':Nat} {sp:Sp} {np cpos pos:Pos} {e0:Expr} {es:List Expr} {ta:TA}
theorem abB(c:tL X.prog X.w X.K X.mg X.base C x ps k sp)(R:Raises X E)(hr:bQ k' X.A)(calm:X.calm=true)(hex:X.ex = [])(hg:Gl X x)(ha:PA X (e0::es) ta)(hk:k+1<=k':=by decide)
  (he:starEach (e0::es) X.env=(false,eval e0 X.env)::starEach es X.env:=by rfl) (hplain:(backTo cpos (starEach es X.env)).any (·.1)=false:=by rfl) (hd:(x==("__debug__" : Str))=false:=by decide) :
  PS X (.Raise (some (.Call (.Name x np) (e0::es) [] cpos)) none pos) (RV C sp E ta):=by
 obtain⟨f,fd,F,ic,hm,b⟩:=c.ex;exact abC R hm ic F (hr.mono hk) b calm hex hg ha he hplain hd
end
structure xK (K:W.Frag) (C:Addr) (fld:Str):Prop where
 xs:Jm K C fld
 hd:W.hasDictIn K C=true
 ng:W.noGet K none=true
structure xE (K:W.Frag) (aE:Addr):Prop where
 rd:W.readsIn K aE (.type "type")=true
 sp:W.specialIn K (.ref aE) "__getattribute__" = some (some (.builtin "type.__getattribute__"))
 fc:W.findCls K (.ref aE) (.type "type") "__init__" = some (.val (.builtin "ValueError.__init__"))
def wN(C:Addr)(fld:Str)(ok:V->Hp->Prop):Sp:=λvs H Q _=>∃(e:Addr) (v:V),vs = [.ref e,v]/\H e=some (fb e C none)/\ok v H /\
 ∀dx H',H dx=none->H' e=some (fb e C (some dx))->H' dx=some (.xd [(fld,v)])->(∀b,b≠e->b≠dx->H' b=H b)->Q .non H'
theorem ab6{C:Addr}{fld:Str}{ok:V->Hp->Prop}{E:XK}{H:Hp}{v:V}{e:Addr}(hv:∀H',(∀b o,H b=some o->H' b=some o)->ok v H')(he:H e=none)(k:∀dx H',(∀b o,H b=some o->H' b=some o)->H' dx=some (.xd [(fld,v)])->E (.ref C) (some dx) H'):wN C fld ok [.ref e,v] (upd H e (fb e C none)) (λu H2=>u = .non/\∃dx,H2 e=some (fb e C dx)/\E (.ref C) dx (jG H2 e)) E0:=by
 refine⟨e,v,rfl,au,hv _ λb o q=>by rw[aF (c6 q he)];exact q,λdx H' h1 h2 h3 h4=>⟨rfl,some dx,h2,k dx _ (λb o q=>?_) ?_⟩⟩
 ·have hb:b≠e:=c6 q he
  have hb2:b≠dx:=λz=>by rw[z]at hb q;rw[aF hb,q]at h1;cases h1
  rw[rn hb,h4 b hb hb2,aF hb];exact q
 ·have hne:dx≠e:=λz=>by rw[z,au]at h1;cases h1
  rw[rn hne];exact h3
end _L
namespace _M
open PySem PySem.Spec PyProof.Rows _L
structure nU (K:W.Frag) (qual fld:Str) (st:Stmt) (C:Addr):Prop where
 ex:∃(f:Addr) (fd:FuncData),aU K "__init__" qual st f fd/\mn K C f
 fl:xK K C fld
theorem nU.mk'{cN:Value}{dN:Option Addr}{es:Array DictEntry}{ep:Nat}{FG:Array (Option Value)}{K:W.Frag}{qual fld:Str}{st:Stmt}{C N f aE:Addr}{nm q:Str}{bs:List Value}{sn:List Str}{sub:List Value}{ab:Bool}{col:Option Bool}{dd:Option Addr}{oc:Value}{od an:Option Addr}{osl:Array (Option Value)}{kV doc pm cdv ct:Value}{j0 j1 j2 j3 j5:Option Value}
  (l:List.lookup C K=some (excClassObj nm q C N bs (.ref aE::g_) true sn sub ab col dd j0 j1 j2 j3 j5 "ValueError.__new__")) (ns:List.lookup N K=some ⟨cN,dN,.dict es ep,FG⟩) (sk:es.toList.all Nt=true) (i:W.nsIn K N "__init__" = some (some (.ref f))) (x:W.excIn K aE g_ "ValueError.__new__" = true) (fn:W.isFn K (.ref f)=true)
  (lf:List.lookup f K=some ⟨oc,od,.func (W.fnOf "__init__" qual (i_ st) (gS st) (aB st) .none kV doc pm an cdv ct),osl⟩) (c:W.codeIn K cdv qual=true) (k:W.keepIn K (.ref f)=true)
  (sa:W.findIn K (.ref C) "__setattr__" = some (some (.builtin "object.__setattr__"))) (no:W.findIn K (.ref C) fld=some none) (ob:W.mroIn K C (.type "object")=some true) (hd:W.hasDictIn K C=true) (ng:W.noGet K none=true):nU K qual fld st C:=
 ⟨⟨f,_,BX lf c k,XM l (ZF ns sk) i x fn⟩,⟨⟨⟨aE,_,by unfold W.clsIn;rw[l],rfl,rfl⟩,sa,no,ob⟩,hd,ng⟩⟩
theorem nU.cal{P:Program}{w:World}{K:W.Frag}{mg:Str->Option Value}{base:Heap}{x qual fld:Str}{st:Stmt}{C:Addr}{ps:List Str}{k:Nat}{sp:Sp}(A:nU K qual fld st C)(hm:mg x=some (.ref C))
  (hb:∀(kV doc pm:Value) (an:Option Addr) (cdv ct:Value) (us:List Value),us.length=ps.length->bindArgs (W.fnOf "__init__" qual (i_ st) (gS st) (aB st) .none kV doc pm an cdv ct) ⟨us,[]⟩=pure (ps.zip us))
  (ok:∀{f:Addr} {fd:FuncData},aU K "__init__" qual st f fd->mn K C f->aN P w K mg base aZ k f fd ps sp):tL P w K mg base C x ps k sp:=by
 obtain⟨f,fd,F,ic⟩:=A.ex;exact⟨f,fd,ok F ic,ic,hm,F.binds hb⟩
noncomputable def mW:List Str:=["NoChain","NoClimb","NoCount","NoEnds","NoExchange","NoJoin","NoLine","NoName","NoNumber","NoOrder","NoPart","NoText","NoThing","NoWord","NotEven"]
noncomputable def eL (j:Nat):List Bool:=[decide (0=j),decide (1=j),decide (2=j),decide (3=j),decide (4=j),decide (5=j),decide (6=j),decide (7=j),decide (8=j),decide (9=j),decide (10=j),decide (11=j),decide (12=j),decide (13=j),decide (14=j)]
theorem VB:∀j<15,((eL j).filter id).length=1/\(eL j).idxOf true=j/\true∈eL j:=by decide
section
variable {P:Program} {w:World} {K:W.Frag} {mg:Str->Option Value} {base:Heap} {f:Addr} {fd:FuncData} {a0 a1 a2 a3 a4 a5 a6 a7 a8 a9 a10 a11 a12 a13 a14 aE:Addr}
def FK (Rz:Addr->Nat->Prop):Sp:=λvs H Q _=>∃(e C:Addr) (j:Nat),vs = [.ref e]/\oJ H e C/\Rz C j/\j<15/\∀H',Same H H'->Q (.str (mW.getD j "")) H'
abbrev eh:Stmt:=top 65
theorem Qq:a_ ["_law_e","_law_found","_law_words"] ["_law_e"] (aB eh):=by trivial
theorem VN:(aB eh).names.lookup ("ClimbError" : Str)=some .globalImplicit:=by trivial
theorem VP:(aB eh).names.lookup ("NoChain" : Str)=some .globalImplicit:=by trivial
theorem VR:(aB eh).names.lookup ("NoClimb" : Str)=some .globalImplicit:=by trivial
theorem V0:(aB eh).names.lookup ("NoCount" : Str)=some .globalImplicit:=by trivial
theorem V1:(aB eh).names.lookup ("NoEnds" : Str)=some .globalImplicit:=by trivial
theorem V2:(aB eh).names.lookup ("NoExchange" : Str)=some .globalImplicit:=by trivial
theorem V3:(aB eh).names.lookup ("NoJoin" : Str)=some .globalImplicit:=by trivial
theorem V4:(aB eh).names.lookup ("NoLine" : Str)=some .globalImplicit:=by trivial
theorem V5:(aB eh).names.lookup ("NoName" : Str)=some .globalImplicit:=by trivial
theorem V6:(aB eh).names.lookup ("NoNumber" : Str)=some .globalImplicit:=by trivial
theorem V7:(aB eh).names.lookup ("NoOrder" : Str)=some .globalImplicit:=by trivial
theorem V8:(aB eh).names.lookup ("NoPart" : Str)=some .globalImplicit:=by trivial
theorem V9:(aB eh).names.lookup ("NoText" : Str)=some .globalImplicit:=by trivial
theorem V_:(aB eh).names.lookup ("NoThing" : Str)=some .globalImplicit:=by trivial
theorem V':(aB eh).names.lookup ("NoWord" : Str)=some .globalImplicit:=by trivial
theorem Wa:(aB eh).names.lookup ("NotEven" : Str)=some .globalImplicit:=by trivial
theorem Wb:(aB eh).names.lookup ("ValueError" : Str)=some .globalImplicit:=by trivial
theorem fK:(aB eh).names.lookup ("isinstance" : Str)=some .globalImplicit:=by trivial
theorem ZT (F:aU K "_law_class" "_law_class" eh f fd) (T:Txt mg) (Er:kM mg a0 a1 a2 a3 a4 a5 a6 a7 a8 a9 a10 a11 a12 a13 a14 aE) :
  aN P w K mg base aZ 1 f fd ["_law_e"] (FK λC j=>oF K a0 a1 a2 a3 a4 a5 a6 a7 a8 a9 a10 a11 a12 a13 a14 aE C j):=by
 refine F.ok Qq (λvs H Q E h=>?_) (λcdv A outer s H vs Q E hr h=>?_)
 ·obtain⟨e,C,j,rfl,_⟩:=h
  rfl
 ·obtain⟨e,C,j,rfl,hx,hR,hj,kk⟩:=h
  have nd:=Qq.nd;refine⟨_,(av (aP (i:=1) nd rfl (Or.inl rfl) (bU (ae (bf (fF (K:=K) (.ref a0) (.ref a0) (λ_ z=>z) rfl) fK T.isinstance dG (ae (pv 0) (ae (fO (v:=.ref a0) VP Er.NoChain rfl) ag))) (ae (bf (fF (K:=K) (.ref a1) (.ref a1) (λ_ z=>z) rfl) fK T.isinstance dG (ae (pv 0) (ae (fO (v:=.ref a1) VR Er.NoClimb rfl) ag))) (ae (bf (fF (K:=K) (.ref a2) (.ref a2) (λ_ z=>z) rfl) fK T.isinstance dG (ae (pv 0) (ae (fO (v:=.ref a2) V0 Er.NoCount rfl) ag))) (ae (bf (fF (K:=K) (.ref a3) (.ref a3) (λ_ z=>z) rfl) fK T.isinstance dG (ae (pv 0) (ae (fO (v:=.ref a3) V1 Er.NoEnds rfl) ag))) ag (ao nofun)) (ao nofun)) (ao nofun)) (ao nofun))))
   (av (aP (i:=1) nd rfl (Or.inl rfl) (aI gC (pv 1) (bU (ae (bf (fF (K:=K) (.ref a4) (.ref a4) (λ_ z=>z) rfl) fK T.isinstance dG (ae (pv 0) (ae (fO (v:=.ref a4) V2 Er.NoExchange rfl) ag))) (ae (bf (fF (K:=K) (.ref a5) (.ref a5) (λ_ z=>z) rfl) fK T.isinstance dG (ae (pv 0) (ae (fO (v:=.ref a5) V3 Er.NoJoin rfl) ag))) (ae (bf (fF (K:=K) (.ref a6) (.ref a6) (λ_ z=>z) rfl) fK T.isinstance dG (ae (pv 0) (ae (fO (v:=.ref a6) V4 Er.NoLine rfl) ag))) (ae (bf (fF (K:=K) (.ref a7) (.ref a7) (λ_ z=>z) rfl) fK T.isinstance dG (ae (pv 0) (ae (fO (v:=.ref a7) V5 Er.NoName rfl) ag))) ag (ao nofun)) (ao nofun)) (ao nofun)) (ao nofun)))))
   (av (aP (i:=1) nd rfl (Or.inl rfl) (aI gC (pv 1) (bU (ae (bf (fF (K:=K) (.ref a8) (.ref a8) (λ_ z=>z) rfl) fK T.isinstance dG (ae (pv 0) (ae (fO (v:=.ref a8) V6 Er.NoNumber rfl) ag))) (ae (bf (fF (K:=K) (.ref a9) (.ref a9) (λ_ z=>z) rfl) fK T.isinstance dG (ae (pv 0) (ae (fO (v:=.ref a9) V7 Er.NoOrder rfl) ag))) (ae (bf (fF (K:=K) (.ref a10) (.ref a10) (λ_ z=>z) rfl) fK T.isinstance dG (ae (pv 0) (ae (fO (v:=.ref a10) V8 Er.NoPart rfl) ag))) (ae (bf (fF (K:=K) (.ref a11) (.ref a11) (λ_ z=>z) rfl) fK T.isinstance dG (ae (pv 0) (ae (fO (v:=.ref a11) V9 Er.NoText rfl) ag))) ag (ao nofun)) (ao nofun)) (ao nofun)) (ao nofun)))))
   (av (aP (i:=1) nd rfl (Or.inl rfl) (aI gC (pv 1) (bU (ae (bf (fF (K:=K) (.ref a12) (.ref a12) (λ_ z=>z) rfl) fK T.isinstance dG (ae (pv 0) (ae (fO (v:=.ref a12) V_ Er.NoThing rfl) ag))) (ae (bf (fF (K:=K) (.ref a13) (.ref a13) (λ_ z=>z) rfl) fK T.isinstance dG (ae (pv 0) (ae (fO (v:=.ref a13) V' Er.NoWord rfl) ag))) (ae (bf (fF (K:=K) (.ref a14) (.ref a14) (λ_ z=>z) rfl) fK T.isinstance dG (ae (pv 0) (ae (fO (v:=.ref a14) Wa Er.NotEven rfl) ag))) ag (ao nofun)) (ao nofun)) (ao nofun)))))
   (av (bA (PW.pt (dI (du (bZ (bf (fF (K:=K) (.ty "ValueError") (.type "ValueError") (λ_ z=>z) rfl) fK T.isinstance dG (ae (pv 0) (ae (kE (v:=.ty "ValueError") Wb Er.ve TV rfl) ag))))) (dI (du (bZ (bf (fF (K:=K) (.ref aE) (.ref aE) (λ_ z=>z) rfl) fK T.isinstance dG (ae (pv 0) (ae (fO (v:=.ref aE) VN Er.ClimbError rfl) ag))))) (ft (bw f6 (bf (cK (K:=K) rfl) rfl T.len cR (ae (dj (own:=["_law_one"]) (fr:=[]) rfl (cA (aB eh) ["_law_e","_law_found","_law_words"] rfl rfl (by trivial)) (dC (K:=K) rfl (pv 1)) (λ_ _ _ _=>⟨(bj (i:=0) (by trivial:(["_law_one"]:List Str).Nodup) rfl (Or.inl rfl)),(nq (bZ (pv 0))),(pv 0)⟩)) ag)) ak (bh _)))))) (ay (aR pQ)) bD)
   (av (aP (i:=2) nd rfl (Or.inl rfl) (bU (O5 ["NoChain","NoClimb","NoCount","NoEnds","NoExchange","NoJoin","NoLine","NoName","NoNumber"] rfl)))
   (ay (aR (aq (aX (K:=K) rfl) (aI gC (pv 2) (bU (O5 ["NoOrder","NoPart","NoText","NoThing","NoWord","NotEven"] rfl))) (eP (K:=K) rfl eE kY qK (Zb (K:=K) rfl) (pv 1) (ae dB ag)) (λ_ _=>rfl)))))))))),?_⟩
  refine⟨_,rfl,e,C,_,rfl,hx,hR.xc,hR.k0,_,rfl,e,C,_,rfl,hx,hR.xc,hR.k1,_,rfl,e,C,_,rfl,hx,hR.xc,hR.k2,_,rfl,e,C,_,rfl,hx,hR.xc,hR.k3,by show 4<=sizeLine;decide,λl1 hl1=>?_⟩;have s1:Same H (upd H l1 (.lst [.bl (decide (0=j)),.bl (decide (1=j)),.bl (decide (2=j)),.bl (decide (3=j))])):=Same.put hl1;have q1:(upd H l1 (.lst [.bl (decide (0=j)),.bl (decide (1=j)),.bl (decide (2=j)),.bl (decide (3=j))])) l1=some (.lst [.bl (decide (0=j)),.bl (decide (1=j)),.bl (decide (2=j)),.bl (decide (3=j))]):=au;generalize upd H l1 (.lst [.bl (decide (0=j)),.bl (decide (1=j)),.bl (decide (2=j)),.bl (decide (3=j))])=H1 at s1 q1 ⊢;have hx1:=hx.same s1;refine⟨_,rfl,_,rfl,e,C,_,rfl,hx1,hR.xc,hR.k4,_,rfl,e,C,_,rfl,hx1,hR.xc,hR.k5,_,rfl,e,C,_,rfl,hx1,hR.xc,hR.k6,_,rfl,e,C,_,rfl,hx1,hR.xc,hR.k7,by show 4<=sizeLine;decide,λl2 hl2=>⟨l1,l2,_,_,rfl,rfl,Same.put hl2 _ _ q1,au,by show 8<=sizeLine;decide,λl3 hl3=>?_⟩⟩;obtain⟨H3,s3,q3,e3⟩:∃H3:Hp,Same H1 H3/\H3 l3=some (.lst (((eL j).take 8).map V.bl))/\H3=upd (upd H1 l2 (.lst [.bl (decide (4=j)),.bl (decide (5=j)),.bl (decide (6=j)),.bl (decide (7=j))])) l3 (.lst (((eL j).take 8).map V.bl)):=⟨_,(Same.put hl2).trans (Same.put hl3),au,rfl⟩;show kH _ _ _ [some (.ref e),some (.ref l3),none] (upd (upd H1 l2 (.lst [.bl (decide (4=j)),.bl (decide (5=j)),.bl (decide (6=j)),.bl (decide (7=j))])) l3 (.lst (((eL j).take 8).map V.bl)));rw[<- e3];have rW:=hx1.same s3;refine⟨_,rfl,_,rfl,e,C,_,rfl,rW,hR.xc,hR.k8,_,rfl,e,C,_,rfl,rW,hR.xc,hR.k9,_,rfl,e,C,_,rfl,rW,hR.xc,hR.k10,_,rfl,e,C,_,rfl,rW,hR.xc,hR.k11,by show 4<=sizeLine;decide,λl4 cM=>⟨l3,l4,_,_,rfl,rfl,Same.put cM _ _ q3,au,by show 12<=sizeLine;decide,λl5 eV=>?_⟩⟩;obtain⟨H5,s5,q5,e5⟩:∃H5:Hp,Same H3 H5/\H5 l5=some (.lst (((eL j).take 12).map V.bl))/\H5=upd (upd H3 l4 (.lst [.bl (decide (8=j)),.bl (decide (9=j)),.bl (decide (10=j)),.bl (decide (11=j))])) l5 (.lst (((eL j).take 12).map V.bl)):=⟨_,(Same.put cM).trans (Same.put eV),au,rfl⟩;show kH _ _ _ [some (.ref e),some (.ref l5),none] (upd (upd H3 l4 (.lst [.bl (decide (8=j)),.bl (decide (9=j)),.bl (decide (10=j)),.bl (decide (11=j))])) l5 (.lst (((eL j).take 12).map V.bl)));rw[<- e5];have vh:=rW.same s5;refine⟨_,rfl,_,rfl,e,C,_,rfl,vh,hR.xc,hR.k12,_,rfl,e,C,_,rfl,vh,hR.xc,hR.k13,_,rfl,e,C,_,rfl,vh,hR.xc,hR.k14,by show 3<=sizeLine;decide,λl6 u9=>⟨l5,l6,_,_,rfl,rfl,Same.put u9 _ _ q5,au,by show 15<=sizeLine;decide,λl7 rR=>?_⟩⟩;obtain⟨H7,s7,q7,e7⟩:∃H7:Hp,Same H5 H7/\H7 l7=some (.lst ((eL j).map V.bl))/\H7=upd (upd H5 l6 (.lst [.bl (decide (12=j)),.bl (decide (13=j)),.bl (decide (14=j))])) l7 (.lst ((eL j).map V.bl)):=⟨_,(Same.put u9).trans (Same.put rR),au,rfl⟩;show kH _ _ _ [some (.ref e),some (.ref l7),none] (upd (upd H5 l6 (.lst [.bl (decide (12=j)),.bl (decide (13=j)),.bl (decide (14=j))])) l7 (.lst ((eL j).map V.bl)));rw[<- e7];have MP:=vh.same s7;obtain⟨f1,f2,f3⟩:=VB j hj;refine⟨_,rfl,e,C,_,rfl,MP,hR.xc,hR.kv,_,rfl,bx ⟨_,rfl,e,C,_,rfl,MP,hR.xc,hR.ke,_,rfl,bx ?_⟩⟩;refine⟨_,rfl,l7,rfl,⟨_,ah.of q7⟩,λD hD=>mU (λi=>(eL j).getD i false) (λi=>.bl true) (src_list (ah.of q7)) hD (by show 15<sizeLine;decide) (λi H8 Kt Kf hi hs hkt hkf=>?_) (λH8 s8 Xa=>?_)⟩
  ·have hi':i<15:=hi
   have eg:((eL j).map V.bl).getD i .non = .bl ((eL j).getD i false):=by
    rw[aQ,aQ,bW,aA (show i<(eL j).length from hi')];rfl
   refine⟨_,rfl,_,by rw[eg],bq (λh=>?_) (λh=>?_)⟩
   ·refine⟨_,rfl,?_⟩
    rw[eg,h];exact hkt _ h (Same.refl _)
   ·exact hkf _ (by simpa using h) (Same.refl _)
  ·have hlen:(((List.range 15).filter λi=>(eL j).getD i false).map λ_=>V.bl true).length=1:=by
    rw[az];exact(show ∀j<15,((List.range 15).filter λi=>(eL j).getD i false).length=1 by decide) j hj
   refine⟨D,_,rfl,.inl (ah.of Xa),rfl,_,rfl,?_⟩;rw[show((eL j).map V.bl).length=15 from rfl,hlen];refine bx ?_;refine⟨by show 9<=sizeLine;decide,λw1 hw1=>?_⟩;refine⟨_,rfl,by show 6<=sizeLine;decide,λw2 hw2=>⟨w1,w2,_,_,rfl,rfl,Same.put hw2 _ _ au,au,by show 15<=sizeLine;decide,λw3 Xt=>?_⟩⟩;have s9:=((Same.put (o:=.lst ((mW.take 9).map V.str)) hw1).trans (Same.put (o:=.lst ((mW.drop 9).map V.str)) hw2)).trans (Same.put (o:=.lst (mW.map V.str)) Xt);have q9:=s9 _ _ (s8 _ _ q7);refine⟨_,rfl,.inl ⟨rfl,_,ah.of q9⟩,l7,eL j,rfl,rfl,ah.of q9,f3,?_⟩;rw[f2];refine⟨w3,_,_,.str (mW.getD j ""),rfl,rfl,ah.of au,aH ?_,kk _ ((((s1.trans s3).trans s5).trans s7).trans (s8.trans s9))⟩;show(mW.map V.str)[j]?=_;rw[bW,aQ,aA (show j<mW.length from hj)];rfl
end
end _M
namespace _L
open PySem PySem.Spec PyProof.Rows
def Te(h:Heap)(ea C:Addr)(dx:Option Addr)(T L:Addr):Prop:=(∃oe vs,h.get? ea=some oe/\oe.cls = .ref C/\oe.dict=dx/\oe.data = .fields vs/\vs[1]?=some .none)\/hV h ea (.ref C) dx T .none\/hV h ea (.ref C) dx T (rawInt L)
section
variable {P:Program} {w:World} {K:W.Frag} {mg:Str->Option Value} {base:Heap} {N:List Str} {qual:Str} {scope:Scope} {f:Addr} {cd:Value} {A:Around} {outer:List Env} {s:Shared} {H:Hp} {E:XK}
def XS(P:Program)(w:World)(base:Heap)(Ar:Around)(env:Env)(outer:List Env)(s:Shared)(H:Hp)(E:XK):Value->Shared->Prop:=λex s'=>∃ea C dx T H',Ar.frames=some (env::outer)/\ex = .ref ea/\s'.os=s.os/\AllBare s'.gens/\Un (frs outer) [] H H' s.heap s'.heap/\bL P w H' s'.heap/\s'.heap.FunFrames base (env::outer) /\
 (∀b∈frs (env::outer),H' b=none)/\Te s'.heap ea C dx T s.heap.objs.size/\H' ea=none/\H' T=none/\s.heap.get? ea=none/\s.heap.get? T=none/\E (.ref C) dx H'
abbrev Cx.own (P:Program) (w:World) (K:W.Frag) (mg:Str->Option Value) (base:Heap) (N:List Str) (qual:Str) (scope:Scope) (f:Addr) (cd:Value) (A:Around) (outer:List Env) (s:Shared) (H:Hp) (E:XK):Cx:=
 (cI (bN P w) P w K mg base N qual scope f cd A outer s H E).wish (XS P w base (cI (bN P w) P w K mg base N qual scope f cd A outer s H E).A (cI (bN P w) P w K mg base N qual scope f cd A outer s H E).env outer s H E)
end
section
variable {X:Cx} {e:Expr} {te:TE} {a:Str} {j} {p1 p2 pos:Pos}
end
end _L
namespace _M
open PySem PySem.Spec PyProof.Rows _L
theorem acu{n:Nat}(h:n<24):((n:Int)).natAbs.log2<1920:=by
 rw[Int.natAbs_natCast]
 by_cases h0:n=0
 ·rw[h0];decide
 ·exact(Nat.log2_lt h0).mpr (cZ h (ck (by decide:24<=2 ^ 5) (Nat.pow_le_pow_right (by decide) (by decide))))
section
variable {P:Program} {w:World} {K:W.Frag} {mg:Str->Option Value} {base:Heap} {f:Addr} {fd:FuncData} {a0 a1 a2 a3 a4 a5 a6 a7 a8 a9 a10 a11 a12 a13 a14 aE:Addr}
end
end _M
namespace _L
open PySem PySem.Spec PyProof.Rows
def acS(te:TE):TE:=λσ H Q=>te σ H λx H1=>∃(t:Addr) (fs:List Int),x = .ref t/\H1 t=some (.tup (fs.map V.int))/\fs.length=5/\(∀z∈fs,z.natAbs.log2<1920)/\∀y:Str,Q (.str y) H1
theorem adg{a b c d e:Int}(h:∀z∈[a,b,c,d,e],z.natAbs.log2<1920):(tupleText [(toString a:Str),(toString b:Str),(toString c:Str),(toString d:Str),(toString e:Str)]).length<=10000:=by
 have h0:=tupleText_len_le [(toString a:Str),(toString b:Str),(toString c:Str),(toString d:Str),(toString e:Str)];have e1:=um (by decide) (h a (by simp));have e2:=um (by decide) (h b (by simp));have e3:=um (by decide) (h c (by simp));have e4:=um (by decide) (h d (by simp));have e5:=um (by decide) (h e (by simp));simp only[dr,tX,List.sum_cons,List.sum_nil,jZ,HW,PySem.ofString_length]at h0;omega
section
variable {X:Cx} {e:Expr} {te:TE} {a:Str} {j} {p1 p2 pos:Pos}
theorem abh(he:PE X e te)(hgd:X.A.guards=some [])(hu:X.A.units<cLine)(h0:(Str.empty++a).length<=10000:=by decide):PE X (.JoinedStr [.Constant (.str a) j p1,.FormattedValue e 114 none p2] pos) (acS te):=by
 intro pins s σ H Q I h;refine wpAny_JoinedStr ?_;show wpAny _ _ (eval (.Constant (.str a) j p1) X.env) _ _ _;have hs0:(Str.empty++a).length<=sizeLine:=ck h0 (by decide);refine Calls.Constant_str ⟨a,_,rfl,hs0,?_⟩;show wpAny _ _ (eval (.FormattedValue e 114 none p2) X.env) _ _ _;refine wpAny_FormattedValue_repr (aM (he pins _ σ H _ (I.tok _) h) λv s1 aW=>?_);obtain⟨x,H1,I1,rx,t,fs,ex,ht,h5,hf,q⟩:=aW;subst ex;obtain rfl:v=Value.ref t:=rx
 match fs,h5 with
 | [z1,z2,z3,z4,z5],_ =>
 obtain⟨its,r,tp,hz⟩:=I1.tuple (ax.of ht);cases r with
 |cons r1 r =>
 cases r with
 |cons r2 r =>
 cases r with
 |cons r3 r =>
 cases r with
 |cons r4 r =>
 cases r with
 |cons r5 r =>
 cases r;obtain⟨t1,rfl⟩:=r1;obtain⟨t2,rfl⟩:=r2;obtain⟨t3,rfl⟩:=r3;obtain⟨t4,rfl⟩:=r4;obtain⟨t5,rfl⟩:=r5;have hl:=adg hf;have hl1:=ck hl (show 10000<=sizeLine by decide);have hl2:(Str.empty++a++tupleText [(toString z1:Str),(toString z2:Str),(toString z3:Str),(toString z4:Str),(toString z5:Str)]).length<=sizeLine:=by
  rw[Str.length_append,yw];omega
 obtain⟨o,g1,g2,n,g3⟩:=(show s1.heap.IsTuple t _ from tp);refine wpAny_pyReprObj_tuple (ts:=[(toString z1:Str),(toString z2:Str),(toString z3:Str),(toString z4:Str),(toString z5:Str)]) ?_ hgd (λc hc=>nomatch hc) hu g1 g3
  (.cons (uj t1 (hf z1 (by simp))) (.cons (uj t2 (hf z2 (by simp))) (.cons (uj t3 (hf z3 (by simp))) (.cons (uj t4 (hf z4 (by simp))) (.cons (uj t5 (hf z5 (by simp))) .nil))))) (λu tk=>?_) hl1
 ·exact⟨o,g1,g2⟩
 ·refine wpAny_formatField_str ?_ ?_ hl1
  ·exact⟨_,_,rfl,hl2,hl2,.str _,H1,(I1.tok _).tok _,⟨_,rfl⟩,q _⟩
  ·exact⟨_,_,rfl,hl2,hl2,.str _,H1,((I1.tok _).tok _).tok _,⟨_,rfl⟩,q _⟩
end
theorem aa4{X:Cx}:Passes (bN X.prog X.w) X (λ_ _ _=>False):=λ_ _ _ _ _ _ _ h=>by
 obtain⟨_,_,_,_,_,_,_,_,_,_,_,_,_,_,_,hE⟩:=h;exact hE.elim
end _L
namespace _M
open PySem PySem.Spec PyProof.Rows _L
def Dx(v:V)(H:Hp):Prop:=∃(t:Addr) (fs:List Int),v = .ref t/\H t=some (.tup (fs.map V.int))/\fs.length=5/\∀z∈fs,z.natAbs.log2<1920
theorem Vu{n:Nat}{R:Nat->Nat->Bool}{fs:List Int}(hn:n<=24)(h:Five n R fs):∀z∈fs,z.natAbs.log2<1920:=λz hz=>by
 obtain⟨h1,h2⟩:=h.rng z hz;obtain⟨k,rfl⟩:∃k:Nat,z=(k:Int):=⟨z.toNat,by omega⟩;exact acu (by omega)
section
variable {P:Program} {w:World} {K:W.Frag} {mg:Str->Option Value} {base:Heap} {f:Addr} {fd:FuncData} {a0 a1 a2 a3 a4 a5 a6 a7 a8 a9 a10 a11 a12 a13 a14 aE:Addr}
abbrev Em:Stmt:=inClass (top 12) 0
theorem P8:a_ ["self","five"] ["self","five"] (aB Em):=by trivial
theorem ZP {fI:Addr} (F:aU K "__init__" "NotEven.__init__" Em f fd) (Er:kM mg a0 a1 a2 a3 a4 a5 a6 a7 a8 a9 a10 a11 a12 a13 a14 aE) (BI:xE K aE) (ic:mn K a14 fI) (l0:xK K a14 "five"):aN P w K mg base aZ 1 f fd ["self","five"] (wN a14 "five" Dx):=by
 refine F.ok P8 (λvs H Q E h=>?_) (λcdv A outer s H vs Q E hr h=>?_)
 ·obtain⟨e,v,rfl,_⟩:=h
  rfl
 ·obtain⟨e,v,rfl,he,⟨t,fs,rfl,ht,h5,hf⟩,kk⟩:=h
  have nd:=P8.nd;refine⟨_,(av (cT (aa6 rfl Er.ClimbError BI.rd BI.sp BI.fc (ae (pv 0) (ae (abh (pv 1) hr.gd hr.adt) ag))))
   (ay (abF (pv 0) (pv 1) rfl))),?_⟩
  refine⟨_,rfl,_,rfl,t,fs,rfl,ht,h5,hf,λy=>⟨e,a14,fI,_,rfl,he,ic,?_⟩⟩;refine⟨_,rfl,_,rfl,e,a14,rfl,au,l0.xs,λdx hdx=>?_⟩;have hne:dx≠e:=λz=>by rw[z,au]at hdx;cases hdx
  refine kk dx _ (by rw[aF hne]at hdx;exact hdx) au (by rw[aF hne,au]) λb h1 h2=>?_;rw[aF h1,aF h2,aF h1]
abbrev Fm:Stmt:=top 50
theorem QZ:a_ ["order","triple"] ["order"] (aB Fm):=by trivial
def Gp(C cN:Addr):Sp:=λvs H Q E=>∃(p n:Nat) (R:Nat->Nat->Bool),vs = [.ref p]/\eD C H p n R/\Good n R/\n<=24 /\
 (∀(J N:Nat->Nat->Nat) (M:Md n R J N) H',Same H H'->(∀a b c,a<n->b<n->c<n->¬ Un n R a b c)->Q .non H') /\
 (∀dx u fs a b c H',Same H H'->First n (Un n R) a b c->H' dx=some (.xd [("five", .ref u)])->H' u=some (.tup (fs.map V.int))->Five n R fs->E (.ref cN) (some dx) H')
theorem aaM {C:Addr} (F:aU K "need_even" "need_even" Fm f fd) (T:Txt mg) (zx:aC P w K mg base "uneven" ["order"] 2 (GX C)) (yU:aC P w K mg base "five_of" ["order","triple"] 2 (FZ K C)) (yP:tL P w K mg base a14 "NotEven" ["self","five"] 1 (wN a14 "five" Dx)) :
  aN P w K mg base (bN P w) 3 f fd ["order"] (Gp C a14):=by
 refine F.pJ QZ (λvs H Q E h=>?_) (λcdv A outer s H vs Q E hr h=>?_)
 ·obtain⟨p,n,R,rfl,_⟩:=h
  rfl
 ·obtain⟨p,n,R,rfl,hO,G,hn,k1,k2⟩:=h
  have nd:=QZ.nd;refine⟨_,(av (aP (i:=1) nd rfl (Or.inl rfl) (aL zx hr rfl (ae (pv 0) ag)))
   (ay (bA (bw OJ (pv 1) jR (bh _)) (ay (abB yP wa hr rfl rfl rfl (ae (aL yU hr rfl (ae (pv 0) (ae (pv 1) ag))) ag))) bD))),?_⟩
  refine⟨_,rfl,p,n,R,rfl,hO,G,hn,λv H1 s1 hv=>?_⟩
  rcases hv with⟨rfl,no⟩|⟨t,a,b,c,rfl,g,fst⟩
  ·obtain⟨J,N,M⟩:=Y0 G no
   exact⟨_,rfl,rfl,_,rfl,bx (k1 J N M _ s1 no)⟩
  ·refine⟨_,rfl,rfl,_,rfl,dR ?_⟩
   refine⟨_,rfl,_,rfl,p,t,n,a,b,c,R,rfl,hO.eQ s1,G,ax.of g,fst.la,fst.lb,fst.lc,fst.is,λu fs H2 s2 gu hf=>⟨by show 1<=sizeLine;decide,λe he=>?_⟩⟩;exact ab6 (λH3 s3=>⟨u,fs,rfl,s3 _ _ gu,hf.len,Vu hn hf⟩) he λdx H3 s3 hx=>k2 dx u fs a b c _ (s1.trans (s2.trans s3)) fst hx (s3 _ _ gu) hf
end
section
variable {P:Program} {w:World} {K:W.Frag} {mg:Str->Option Value} {base:Heap} {f:Addr} {fd:FuncData}
abbrev Fi:Stmt:=top 42
theorem QV:a_ ["order","things"] ["order","things"] (aB Fi):=by trivial
end
section
variable {P:Program} {w:World} {K:W.Frag} {mg:Str->Option Value} {base:Heap} {f:Addr} {fd:FuncData} {a0 a1 a2 a3 a4 a5 a6 a7 a8 a9 a10 a11 a12 a13 a14 aE:Addr}
def Gk(K:W.Frag)(C cC:Addr):Sp:=λvs H Q E=>∃(p t n:Nat) (R:Nat->Nat->Bool) (zs:List Int),vs = [.ref p,.ref t]/\eD C H p n R/\n<=24/\ah K H t (zs.map V.int)/\zs.length<=1000/\(dh n R zs=true->∀H',Same H H'->Q .non H')/\(dh n R zs=false->∀H',Same H H'->E (.ref cC) none H')
theorem aaL {C:Addr} (F:aU K "need_climb" "need_climb" Fi f fd) (T:Txt mg) (TC:eZ K C) (Er:kM mg a0 a1 a2 a3 a4 a5 a6 a7 a8 a9 a10 a11 a12 a13 a14 aE) (tH:W.excIn K a1 g_ "ValueError.__new__" = true) (yV:aC P w K mg base "is_climb" ["order","things"] 4 (Ge K C)) :
  aN P w K mg base (bN P w) 5 f fd ["order","things"] (Gk K C a1):=by
 refine F.pJ QV (λvs H Q E h=>?_) (λcdv A outer s H vs Q E hr h=>?_)
 ·obtain⟨p,t,n,R,zs,rfl,_⟩:=h
  rfl
 ·obtain⟨p,t,n,R,zs,rfl,hO,hn,hT,gy,k1,k2⟩:=h
  have nd:=QV.nd;refine⟨_,(ay (bA (du (bZ (aL yV hr rfl (ae (pv 0) (ae (pv 1) ag))))) (ay (D_ wa Er.NoClimb tH ug rfl rfl rfl (ae pQ ag))) bD)),?_⟩;refine⟨_,rfl,_,rfl,p,t,n,R,zs,rfl,hO,hn,hT,gy,λH3 hs=>⟨_,rfl,?_⟩⟩;cases hc:dh n R zs with
  |true=>exact bx (k1 hc _ hs)
  |false=>exact dR ⟨by show 1<=sizeLine;decide,k2 hc _ hs⟩
end
structure jr (n:Nat) (R:Nat->Nat->Bool) (cs:List Nat):Prop where
 ne:cs.length≠0
 lt:∀x∈cs,x<n
 st:∀i,i+1<cs.length->bH n R (cs.getD i 0) (cs.getD (i+1) 0)=true
theorem jr.one{n:Nat}{R:Nat->Nat->Bool}{a:Nat}(h:a<n):jr n R [a]:=⟨by simp,λx hx=>by simp at hx;omega,λi hi=>by simp at hi⟩
theorem Cd{cs:List Nat}{d:Nat}{i:Nat}(h:i<cs.length):(cs++[d]).getD i 0=cs.getD i 0:=by
 rw[aQ,aQ,jw h]
theorem Lb{cs:List Nat}{d:Nat}:(cs++[d]).getD cs.length 0=d:=by
 rw[aQ,iR (aY _),Im];rfl
theorem jr.snoc{n:Nat}{R:Nat->Nat->Bool}{cs:List Nat}{z d:Nat}(h:jr n R (cs++[z]))(hd:d<n)(hs:bH n R z d=true):jr n R ((cs++[z])++[d]):=by
 refine⟨by simp,λx hx=>?_,λi hi=>?_⟩
 ·rcases gO.mp hx with hx|hx
  ·exact h.lt x hx
  ·simp at hx;omega
 ·have hl:(cs++[z]).length=cs.length+1:=by simp
  rw[cz,hl]at hi
  by_cases e:i+1<(cs++[z]).length
  ·rw[Cd (by omega),Cd e]
   exact h.st i e
  ·have e2:i=cs.length:=by simp at hi;omega
   subst e2;rw[Cd (by omega),Lb];have:(cs++[z]++[d]).getD (cs.length+1) 0=d:=by rw[<- hl];exact Lb
   rw[this];exact hs
theorem Um{M:List Nat}(L:Ev.bO M){z b:Nat}(hz:z<M.length):∀(k c:Nat),M.getD c 0<=k->c<M.length->bS (Ev.aG M) z c=true->Ev.aG M c b=true->∃d,d<M.length/\bH M.length (Ev.aG M) z d=true/\Ev.aG M d b=true:=by
 intro k
 induction k with
 |zero =>
  intro c hk hc h1 h2;refine⟨c,hc,?_,h2⟩;unfold bH;rw[h1,fz,eY,Hz];intro t ht;have htl:t<M.length:=by simpa using ht
  rw[bF];rintro⟨g1,g2⟩;unfold bS at g2;rw[bF,eY,fU]at g2;have:=(Ev.dS.mp g2.2).le;exact g2.1 (Ev.getD_inj L.nd htl hc (by omega))
 |succ k ih =>
  intro c hk hc h1 h2;cases hs:bH M.length (Ev.aG M) z c with
  |true=>exact⟨c,hc,hs,h2⟩
  |false =>
   unfold bH at hs;rw[h1,fz,Hr,qt]at hs;obtain⟨t,ht,g⟩:=hs;have htl:t<M.length:=by simpa using ht
   rw[bF]at g;obtain⟨g1,g2⟩:=g;unfold bS at g2;rw[bF,eY,fU]at g2;have hle:=(Ev.dS.mp g2.2).le;have hne:M.getD t 0≠M.getD c 0:=λe=>g2.1 (Ev.getD_inj L.nd htl hc e);exact ih t (by omega) htl g1 (Ev.NK g2.2 h2)
section
variable {n:Nat} {R:Nat->Nat->Bool}
end
theorem vv{M:List Nat}(hM:Ev.bO M):Good M.length (Ev.aG M):=
 ⟨λa ha=>Ev.jO _ _,λa b ha hb h1 h2=>Ev.vw hM.nd ha hb h1 h2,λa b ha hb=>hM.pC ha hb,λa b ha hb=>let⟨c,hc,_,h⟩:=hM.pF ha hb;⟨c,hc,λx _=>h x⟩⟩
theorem adw{n:Nat}{R:Nat->Nat->Bool}(G:Good n R){a:Nat}(ha:a<n):0<g9 n R a:=by
 rw[nO];exact List.countP_pos_iff.mpr ⟨a,dO.mpr ha,G.refl a ha⟩
theorem Ng{n:Nat}{R:Nat->Nat->Bool}(G:Good n R):∀{c:List Nat} {a b:Nat},Cl.nX (gA n R) b a c->a<n->c.length<=g9 n R a
 | [],a,b,h,_=>by cases h.hd
 | [x],a,b,h,ha=>by
  have:=adw G ha;show 1<=_;omega
 |x::y::r,a,b,h,ha=>by
  have e:=h.hd;cases e;obtain⟨h1,h2⟩:=Cl.X2 h;have:=Ng G h1 (vC.mp h2).2.1;have hu:=R9 G _ _ h2;rw[jZ];omega
theorem Oe{n:Nat}:∀{zs:List Int},inB n zs=true->∃cs:List Nat,zs=cs.map (λx:Nat=>(x:Int))/\∀x∈cs,x<n
 | [],_=>⟨[],rfl,λx hx=>nomatch hx⟩
 |z::zs,h=>by
  unfold inB at h;rw[xQ,bF,cL]at h;obtain⟨cs,e,q⟩:=Oe (zs:=zs) h.2;refine⟨z.toNat::cs,by rw[dr,<- e,Int.toNat_of_nonneg h.1.1],λx hx=>?_⟩
  rcases bp.mp hx with rfl|hx
  ·omega
  ·exact q x hx
noncomputable def fH (zs ws:List Int):Bool:=decide (zs.getD 0 0=ws.getD 0 0)&&decide (zs.getD (zs.length - 1) 0=ws.getD (ws.length - 1) 0)
theorem NC{zs:List Int}(h:zs≠[]):eT (zs.map V.int) (-1)=some (.int (zs.getD (zs.length - 1) 0)):=by
 obtain⟨pre,x,rfl⟩:∃pre x,zs=pre++[x]:=⟨zs.dropLast,zs.getLast h,(HD h).symm⟩;rw[jy];have:=uC (pre.map V.int) (.int x);rw[aQ];simpa using this
theorem KQ{zs:List Int}(h:zs≠[]):eT (zs.map V.int) 0=some (.int (zs.getD 0 0)):=by
 cases zs with
 |nil=>exact absurd rfl h
 |cons x r=>exact aH (j:=0) rfl
theorem fW(cs:List Nat)(i:Nat):(cs.map λx:Nat=>(x:Int)).getD i 0=((cs.getD i 0:Nat):Int):=by
 rw[aQ,aQ,bW];cases cs[i]?<;>simp
theorem Nf{g:Nat->List Nat}{b a:Nat}{c:List Nat}(h:Cl.nX g b a c):c.getD 0 0=a/\c.getD (c.length - 1) 0=b:=by
 have h1:=h.hd;have h2:=h.last
 constructor
 ·cases c with
  |nil=>cases h1
  |cons x r=>cases h1;rfl
 ·rw[List.getLast?_eq_getElem?]at h2
  rw[aQ,h2];rfl
theorem toNat_cast(cs:List Nat):(cs.map λx:Nat=>(x:Int)).map Int.toNat=cs:=by
 rw[eB];exact List.map_id' cs
theorem J9{n:Nat}{R:Nat->Nat->Bool}{zs:List Int}(h:dh n R zs=true):zs≠[]:=λe=>by
 rw[e]at h;cases h
section
variable {P:Program} {w:World} {K:W.Frag} {mg:Str->Option Value} {base:Heap} {f:Addr} {fd:FuncData} {a0 a1 a2 a3 a4 a5 a6 a7 a8 a9 a10 a11 a12 a13 a14 aE:Addr}
abbrev Fn:Stmt:=top 43
theorem Q0:a_ ["one","other"] ["one","other"] (aB Fn):=by trivial
def wZ(K:W.Frag)(cE:Addr):Sp:=λvs H Q E=>∃(t u:Nat) (zs ws:List Int),vs = [.ref t,.ref u]/\ah K H t (zs.map V.int)/\ah K H u (ws.map V.int)/\zs≠[]/\ws≠[]/\(fH zs ws=true->∀H',Same H H'->Q .non H')/\(fH zs ws=false->∀H',Same H H'->E (.ref cE) none H')
theorem aaN (F:aU K "need_like_ends" "need_like_ends" Fn f fd) (T:Txt mg) (Er:kM mg a0 a1 a2 a3 a4 a5 a6 a7 a8 a9 a10 a11 a12 a13 a14 aE) (tI:W.excIn K a3 g_ "ValueError.__new__" = true) :
  aN P w K mg base (bN P w) 1 f fd ["one","other"] (wZ K a3):=by
 refine F.pJ Q0 (λvs H Q E h=>?_) (λcdv A outer s H vs Q E hr h=>?_)
 ·obtain⟨t,u,zs,ws,rfl,_⟩:=h
  rfl
 ·obtain⟨t,u,zs,ws,rfl,hT,hU,n1,n2,k1,k2⟩:=h
  have nd:=Q0.nd;refine⟨_,(ay (bA (PW.pt (dI (bw f6 (aq (aX (K:=K) rfl) (pv 0) ak (λ_ _=>rfl)) (aq (aX (K:=K) rfl) (pv 1) ak (λ_ _=>rfl)) (bh _)) (ft (bw f6 (aq (aX (K:=K) rfl) (pv 0) (lL lY ak) (λ_ _=>rfl)) (aq (aX (K:=K) rfl) (pv 1) (lL lY ak) (λ_ _=>rfl)) (bh _))))) (ay (D_ wa Er.NoEnds tI ug rfl rfl rfl (ae pQ ag))) bD)),?_⟩;refine⟨_,rfl,t,_,0,.int (zs.getD 0 0),rfl,rfl,hT,KQ n1,_,rfl,u,_,0,.int (ws.getD 0 0),rfl,rfl,hU,KQ n2,rfl,_,rfl,bq (λh=>?_) (λh=>?_)⟩
  ·have hne:¬ zs.getD 0 0=ws.getD 0 0:=λe=>by rw[e]at h;simp at h
   exact⟨by show 1<=sizeLine;decide,k2 (by unfold fH;rw[cg hne];rfl) _ (Same.refl _)⟩
  ·have heq:zs.getD 0 0=ws.getD 0 0:=by
    apply nT
    intro z;apply h
    simp only[eY,fU];intro w;injection w with w
    exact z w
   refine⟨_,rfl,1,rfl,t,_,_,.int (zs.getD (zs.length - 1) 0),rfl,rfl,hT,NC n1,_,rfl,1,rfl,u,_,_,.int (ws.getD (ws.length - 1) 0),rfl,rfl,hU,NC n2,rfl,_,rfl,bq (λh=>?_) (λh=>?_)⟩
   ·have hne:¬ zs.getD (zs.length - 1) 0=ws.getD (ws.length - 1) 0:=λe=>by rw[e]at h;simp at h
    exact⟨by show 1<=sizeLine;decide,k2 (by unfold fH;rw[cg hne,Hq]) _ (Same.refl _)⟩
   ·have hle:zs.getD (zs.length - 1) 0=ws.getD (ws.length - 1) 0:=by
     apply nT
     intro z;apply h
     simp only[eY,fU];intro w;injection w with w
     exact z w
    exact k1 (by unfold fH;rw[cB heq,cB hle];rfl) _ (Same.refl _)
end
end _M
namespace _L
open PySem PySem.Spec PyProof.Rows
section
variable {X:Cx} {pins:List (Addr × Obj)} {σ:St} {H:Hp} {s:Shared}
end
section
variable {X:Cx} {x:Str} {k k' m:Nat} {p:Addr} {sp:Sp} {i:Nat} {e:Expr} {es:List Expr} {t:TA} {p0 pos:Pos}
end
section
variable {X:Cx} {x qual:Str} {k k' kl m:Nat} {spO:Addr->Sp->Sp} {ps qs:List Str} {params:Arguments} {body:Expr} {scope:Scope} {fr:List (Str × Nat)} {tb:TE} {e:Expr} {es:List Expr} {t:TA} {p0 pos:Pos}
end
theorem aU.ZN{P:Program}{w:World}{K:W.Frag}{mg:Str->Option Value}{base:Heap}{x qual:Str}{st:Stmt}{f c:Addr}{fd:FuncData}{N ps:List Str}{k:Nat}{sp:Sp}(F:aU K x qual st f fd)(hc:fd.code = .ref c)(S:a_ N ps (aB st))(len:∀vs H Q E,sp vs H Q E->vs.length=ps.length)(hbody:∀(A:Around) (outer:List Env) (s:Shared) (H:Hp) (vs:List V) (Q:VK) (E:XK),bQ k (A.deeper (envOfC qual (aB st) s.heap.objs.size f (.ref c)))->sp vs H Q E->∃t,fE (cI (bN P w) P w K mg base N qual (aB st) f (.ref c) A outer s H E) (gS st) t/\t {nx:=λ_ H'=>Q .non H',rt:=Q} (start N vs) H):aN P w K mg base (bN P w) (k+1) f fd ps sp:=by
 obtain⟨oc,od,kV,doc,pm,an,cdv,ct,osl,rfl,lk,hcd⟩:=F.ex;obtain rfl:cdv = .ref c:=hc;exact BL lk hcd S len λA outer s H vs Q E hr hsp=>hbody A outer s H vs Q E hr hsp
def abP(K:W.Frag)(n:Nat):V->List V->Hp->VK->Prop:=λx vs H Q=>∃(l:Addr) (xs:List V) (y:V) (e:V->Bool) (j:Nat),x = .ref l/\vs = [y]/\ah K H l xs/\(∀z∈xs,∃a,z = .ref a)/\(∀z∈xs,bK K H n z y (e z))/\(∃z,xs[j]?=some z/\e z=true)/\(∀(m:Nat) z,m<j->xs[m]?=some z->e z=false)/\Q (.int (j:Nat)) H
theorem Kw{e:V->Bool}{xs:List V}{us:List Value}(r:Vals xs us)(f:∀z∈xs,∃a,z = .ref a){i:Nat}{z:V}(h:xs[i]?=some z)(hi:i<us.length):rA e us[i]=e z:=by
 obtain⟨u,h1,h2⟩:=r.get h;rw[aA hi]at h1;cases h1;obtain⟨a,rfl⟩:=f z (df h);rw[show us[i]=Value.ref a from h2];rfl
theorem Zc {X:Cx} {K:W.Frag} (n:Nat) (hK:X.K=K) (hu:X.A.units+1+n<cLine):mD X "list.index" (abP K n):=by
 subst hK;intro pins s σ H x vs v us Q I rx rv h;obtain⟨l,xs,y,e,j,rfl,rfl,hq,hr,he,⟨z,hz1,hz2⟩,hno,q⟩:=h;cases rx;obtain⟨u,rfl,ru⟩:=rv.one;obtain⟨its,r,⟨⟨cls,dd,data,sl⟩,n',ho,hc,hdd,hd⟩,hz⟩:=I.list hq;simp only at hc hdd hd;subst hc hdd hd;have hlen:=r.length;have hj:j<its.length:=by have:=(bJ.mp hz1).1;omega
 have hb:sizeLine<2 ^ 62:=by decide
 refine kZ kY ⟨_,ho,rfl⟩ Iz (Iw _ _)
  (Ja l its.toArray n' none sl u (rA e) j (by simpa using hj) (by omega) ?_ ?_) ⟨ho,λw hw=>N6 I (n:=n) (by show X.A.units+1+n<cLine;exact hu) ru r hr he w (by simpa using hw),?_⟩
 ·show rA e its[j]=true
  rw[Kw r hr hz1 hj];exact hz2
 ·intro m hm hlt
  have hm':m<its.length:=by simpa using hm
  show rA e its[m]=false;have hmx:xs[m]?=some xs[m]:=aA (by omega);rw[Kw r hr hmx hm'];exact hno m _ hlt hmx
 ·exact⟨.int (j:Nat),H,I.tok _,⟨_,rfl⟩,q⟩
section
variable {prog:Program} {w:World} {A:Around} {E:Value->Shared->Prop} {s:Shared} {κ:SortKind} {g:Keyed->Prop} {N:Nat} {pd:Array (Nat × Nat × Nat)}
end
end _L
namespace _L
open PySem PySem.Spec PyProof.Rows PySem.Builtin PySem.Builtin.Str
abbrev tuples' (b:Bool):SortKind:=(sortPriv% PySem.Builtin.KeyKind.tuples) b
section
variable {prog:Program} {w:World} {A:Around} {E:Value->Shared->Prop} {s:Shared}
theorem Oz{b:Bool}{i j:Int}{t u:Tok}{Q:Bool->Shared->Prop}(h:Q (decide (i<j)) s):wpAny (model prog w) A (oneLt' b (.int i t) (.int j u)) Q E s:=by
 cases b with
 |true=>exact oneLt_int h
 |false =>
  rw[oneLt'_eq];simp only[jq,h9];refine ai ?_;exact PyProof.Rows.lt_int (jB h)
noncomputable def vT (x y:Int × Int):Bool:=decide (x.1<y.1)||(decide (x.1=y.1)&&decide (x.2<y.2))
theorem Yj{b:Bool}{x y:Addr}{n m:Nat}{o1 o2:Obj}{p q:Int × Int}{t1 t2 u1 u2:Tok}(hx:s.heap.get? x=some o1)(dx:o1.data = .seq #[.int p.1 t1,.int p.2 t2] n)(hy:s.heap.get? y=some o2)(dy:o2.data = .seq #[.int q.1 u1,.int q.2 u2] m){Q:Bool->Shared->Prop}(h:Q (vT p q) s):wpAny (model prog w) A (keyLt' (tuples' b) (.ref x) (.ref y)) Q E s:=by
 show wpAny _ _ (do
  let xs <- Builtin.List.listItems (.ref x);let ys <- Builtin.List.listItems (.ref y)
  for ((p,q),i) in (xs.toList.zip ys.toList).zipIdx do
   if !(<- eqBool p q)then return <- oneLt' (b&&i==0) p q
  return xs.size<ys.size) _ _ _
 refine ai (ud hx dx (ai (ud hy dy ?_)));simp only[xZ,List.zip_nil_right,Ic,Ie,qx,qy];obtain⟨p1,p2⟩:=p;obtain⟨q1,q2⟩:=q;unfold vT at h;refine ai ?_;refine ai (ai (Jf ?_))
 by_cases e1:p1=q1
 ·rw[show(p1==q1)=true from gR.mpr e1]
  simp only[Bool.not_true,jq,h9];refine aJ ?_;dsimp only;refine ai (ai (Jf ?_));have n1:¬ p1<q1:=by omega
  by_cases e2:p2=q2
  ·rw[show(p2==q2)=true from gR.mpr e2]
   simp only[Bool.not_true,jq,h9];refine aJ (aJ ?_);dsimp only;have n2:¬ p2<q2:=by omega
   rw[cg n1,cg n2,Hq,xH]at h;exact aJ h
  ·rw[show(p2==q2)=false from jD.mpr e2]
   simp only[Hs,jL];refine ai (Oz (aJ (aJ ?_)));dsimp only;rw[cg n1,cB e1,fz,Bool.false_or]at h;exact aJ h
 ·rw[show(p1==q1)=false from jD.mpr e1]
  simp only[Hs,jL];refine ai (Oz (aJ (aJ ?_)));dsimp only;rw[cg e1,jo,xH]at h;exact aJ h
end
end _L
namespace _L
open PySem PySem.W PyProof.Rows
section
variable {α β:Type} {n:Nat} {rk:Nat->Int}
noncomputable def cV (n:Nat) (rk:Nat->Int):KasT α->(α->Prop)->Prop
 |.ret a,Q=>Q a
 |.ask i j k,Q=>i<n/\j<n/\cV n rk (k (decide (rk i<rk j))) Q
theorem cV.mono{Q Q':α->Prop}:∀{t:KasT α},cV n rk t Q->(∀a,Q a->Q' a)->cV n rk t Q'
 |.ret a,h,q=>q a h
 |.ask i j k,⟨h1,h2,h3⟩,q=>⟨h1,h2,cV.mono h3 q⟩
theorem cV.bind{f:α->KasT β}{Q:β->Prop}:∀{t:KasT α},cV n rk t (λa=>cV n rk (f a) Q)->cV n rk (t.bind f) Q
 |.ret a,h=>h
 |.ask i j k,⟨h1,h2,h3⟩=>⟨h1,h2,cV.bind h3⟩
theorem cV.wp{cmp:Nat->Nat->(Bool->Shared->Prop)->Shared->Prop}{s:Shared}{Q:α->Prop}(hc:∀i j C,i<n->j<n->C (decide (rk i<rk j)) s->cmp i j C s):∀{t:KasT α},cV n rk t Q->t.kasWp cmp (λa s'=>s'=s/\Q a) s
 |.ret a,h=>⟨rfl,h⟩
 |.ask i j k,⟨h1,h2,h3⟩=>hc i j _ h1 h2 (cV.wp hc h3)
end
def Pm(n:Nat)(p:Array Nat):Prop:=p.Perm (List.range n).toArray
theorem Pm.size{n:Nat}{p:Array Nat}(h:Pm n p):p.size=n:=by
 have:=h.size_eq;simpa using this
theorem Pm.lt{n i:Nat}{p:Array Nat}(h:Pm n p)(hi:i<n):p.getD i 0<n:=by
 have hs:=h.size;have hi':i<p.size:=by omega
 have e:p.getD i 0=p[i]:=by simp[Array.getD,hi']
 have hm:p[i]∈(List.range n).toArray:=h.mem_iff.mp (Array.getElem_mem hi');rw[e];simpa using hm
theorem Pm.vG{n i j d:Nat}{p:Array Nat}(h:Pm n p):Pm n (mirror p i j d):=(mirror_perm p i j d).trans h
theorem Pm.TX{n i j:Nat}{p:Array Nat}(h:Pm n p):Pm n (bubble p i j):=(bubble_perm p i j).trans h
theorem mY(p:Array Nat)(i:Nat):p.getD i 0=p[i]?.getD 0:=by
 by_cases h:i<p.size
 ·simp[Array.getD,h]
 ·simp[Array.getD,h]
theorem Ce{p:Array Nat}{i j:Nat}(hj:j<=p.size)(k:Nat):(kas_rev p i j).getD k 0=if i<=k/\k<j then p.getD (i+j - 1 - k) 0 else p.getD k 0:=by
 unfold kas_rev;rw[mY,getElem?_mirror_all hj,mY,mY]
 split<;>rfl
theorem Lc{p:Array Nat}{k l:Nat}(hk:k<p.size)(hl:l<=k)(i:Nat):(bubble p k (k - l)).getD i 0=if i=l then p.getD k 0 else if l<i/\i<=k then p.getD (i - 1) 0 else p.getD i 0:=by
 rw[mY,getElem?_bubble hk _ (Nat.sub_le _ _),mY,mY,mY];have e:k - (k - l)=l:=by omega
 rw[e]
 repeat' split
 all_goals rfl
section
variable {n:Nat} {rk:Nat->Int} {p:Array Nat}
def Up(rk:Nat->Int)(p:Array Nat)(m:Nat):Prop:=∀i j,i<=j->j<m->rk (p.getD i 0)<=rk (p.getD j 0)
def Dn(rk:Nat->Int)(p:Array Nat)(m:Nat):Prop:=∀i j,i<=j->j<m->rk (p.getD j 0)<=rk (p.getD i 0)
theorem Up.rev{m:Nat}(hm:m<=p.size)(h:Dn rk p m):Up rk (kas_rev p 0 m) m:=λi j h1 h2=>by
 rw[Ce hm,Ce hm,if_pos ⟨dP _,by omega⟩,if_pos ⟨dP _,h2⟩];exact h _ _ (by omega) (by omega)
theorem Eg{i j:Nat}(hj:j<=p.size)(heq:∀k,i<=k->k<j->rk (p.getD k 0)=rk (p.getD (j - 1) 0))(k:Nat):rk ((kas_rev p i j).getD k 0)=rk (p.getD k 0):=by
 rw[Ce hj]
 split
 ·rw[heq (i+j - 1 - k) (by omega) (by omega),heq k (by omega) (by omega)]
 ·rfl
theorem yK(P:Pm n p):∀(f a:Nat),1<=a->a+f<=n->Up rk p a->cV n rk (kas_asc p f a) λm=>a<=m/\m<=a+f/\Up rk p m/\(m<a+f->rk (p.getD m 0)<rk (p.getD (m - 1) 0))
 |0,a,h1,h2,h3=>⟨aY _,aY _,h3,λz=>absurd z (dY _)⟩
 |f+1,a,h1,h2,h3=>by
  refine⟨P.lt (by omega),P.lt (by omega),?_⟩
  by_cases c:rk (p.getD a 0)<rk (p.getD (a - 1) 0)
  ·rw[cB c];dsimp only;rw[if_pos rfl]
   exact⟨aY _,by omega,h3,λ_=>c⟩
  ·rw[cg c];dsimp only;rw[if_neg Bool.false_ne_true]
   refine(yK P f (a+1) (by omega) (by omega) λi j hij hj=>?_).mono λm hpq=>by obtain⟨z1,z2,z3,z4⟩:=hpq;exact⟨by omega,by omega,z3,λz=>z4 (by omega)⟩
   by_cases hj2:j=a
   ·subst hj2
    by_cases hi:i=j
    ·rw[hi];exact mq _
    ·exact qk (h3 i (j - 1) (by omega) (by omega)) (tR.mp c)
   ·exact h3 i j hij (by omega)
theorem yL:∀(f:Nat) (p:Array Nat) (a q:Nat),Pm n p->q+1<=a->a+f<=n->Dn rk p a->(∀k,a - (q+1)<=k->k<a->rk (p.getD k 0)=rk (p.getD (a - 1) 0))->cV n rk (kas_desc f p a q) λr=>Pm n r.1/\a<=r.2.1/\r.2.1<=a+f/\r.2.2+1<=r.2.1/\Dn rk r.1 r.2.1/\∀k,r.2.1 - (r.2.2+1)<=k->k<r.2.1->rk (r.1.getD k 0)=rk (r.1.getD (r.2.1 - 1) 0)
 |0,p,a,q,P,h1,h2,h3,h4=>⟨P,aY _,aY _,h1,h3,h4⟩
 |f+1,p,a,q,P,h1,h2,h3,h4=>by
  have hs:=P.size;refine⟨P.lt (by omega),P.lt (by omega),?_⟩
  by_cases c:rk (p.getD a 0)<rk (p.getD (a - 1) 0)
  ·rw[cB c];dsimp only;rw[if_pos rfl]
   have go:∀p':Array Nat,Pm n p'->(∀k,rk (p'.getD k 0)=rk (p.getD k 0))->cV n rk (kas_desc f p' (a+1) 0) λr=>Pm n r.1/\a<=r.2.1/\r.2.1<=a+(f+1)/\r.2.2+1<=r.2.1/\Dn rk r.1 r.2.1/\∀k,r.2.1 - (r.2.2+1)<=k->k<r.2.1->rk (r.1.getD k 0)=rk (r.1.getD (r.2.1 - 1) 0):=by
    intro p' P' e;refine(yL f p' (a+1) 0 P' (by omega) (by omega) (λi j hij hj=>?_) λk k1 k2=>?_).mono λr hpq=>by obtain⟨z1,z2,z3,z4⟩:=hpq;exact⟨z1,by omega,by omega,z4⟩
    ·rw[e,e]
     by_cases hj2:j=a
     ·subst hj2
      by_cases hi:i=j
      ·rw[hi];exact mq _
      ·exact qk (xO c) (h3 i (j - 1) (by omega) (by omega))
     ·exact h3 i j hij (by omega)
    ·obtain rfl:k=a+1 - 1:=by omega
     rfl
   split
   ·exact go _ P.vG λk=>Eg (by omega) (λk k1 k2=>h4 k k1 k2) k
   ·exact go p P λ_=>rfl
  ·rw[cg c];dsimp only;rw[if_neg Bool.false_ne_true]
   refine⟨P.lt (by omega),P.lt (by omega),?_⟩
   by_cases d:rk (p.getD (a - 1) 0)<rk (p.getD a 0)
   ·rw[cB d];dsimp only;rw[if_pos rfl]
    exact⟨P,aY _,by show a<=a+(f+1);omega,h1,h3,h4⟩
   ·rw[cg d];dsimp only;rw[if_neg Bool.false_ne_true]
    have e:rk (p.getD a 0)=rk (p.getD (a - 1) 0):=Int.le_antisymm (tR.mp d) (tR.mp c);refine(yL f p (a+1) (q+1) P (by omega) (by omega) (λi j hij hj=>?_) λk k1 k2=>?_).mono λr hpq=>by obtain⟨z1,z2,z3,z4⟩:=hpq;exact⟨z1,by omega,by omega,z4⟩
    ·by_cases hj2:j=a
     ·subst hj2
      by_cases hi:i=j
      ·rw[hi];exact mq _
      ·rw[e];exact h3 i (j - 1) (by omega) (by omega)
     ·exact h3 i j hij (by omega)
    ·rw[show a+1 - 1=a from rfl]
     by_cases hk:k=a
     ·rw[hk]
     ·rw[e];exact h4 k (by omega) (by omega)
def xJ(n:Nat)(rk:Nat->Int)(nrem:Nat)(r:Nat × Array Nat):Prop:=Pm n r.2/\1<=r.1/\r.1<=nrem/\Up rk r.2 r.1
theorem Jt{a nrem:Nat}(P:Pm n p)(h1:1<=a)(h2:a<=nrem)(h3:nrem<=n)(h4:Dn rk p a):cV n rk (kas_tail3 a nrem p) (xJ n rk nrem):=by
 have hs:=P.size;have P':Pm n (kas_rev p 0 a):=P.vG;exact cV.bind ((yK P' (nrem - a) a h1 (by omega) (Up.rev (by omega) h4)).mono λm hpq=>by obtain⟨z1,z2,z3,_⟩:=hpq;exact⟨P',by omega,by show m<=nrem;omega,z3⟩)
theorem Js{a nrem:Nat}(P:Pm n p)(h1:a+1<=nrem)(h3:nrem<=n)(h4:Dn rk p (a+1)):cV n rk (kas_descPart a nrem p) (xJ n rk nrem):=by
 refine cV.bind ((yL (nrem - (a+1)) p (a+1) 0 P (by omega) (by omega) h4 λk k1 k2=>?_).mono λr ⟨z1,z2,z3,z4,z5,z6⟩=>?_)
 ·obtain rfl:k=a+1 - 1:=by omega
  rfl
 ·have hs:=z1.size
  split
  ·refine Jt z1.vG (by omega) (by omega) h3 λi j hij hj=>?_
   have q:=Eg (rk:=rk) (p:=r.1) (i:=r.2.1 - (r.2.2+1)) (j:=r.2.1) (by omega) z6;rw[q,q];exact z5 i j hij hj
  ·exact Jt z1 (by omega) (by omega) h3 z5
theorem Tq{nrem:Nat}(P:Pm n p)(h1:1<=nrem)(h3:nrem<=n):cV n rk (kas_count nrem p) (xJ n rk nrem):=by
 have hs:=P.size;refine cV.bind ((yK P (nrem - 1) 1 (aY _) (by omega) λi j hij hj=>?_).mono λm ⟨z1,z2,z3,z4⟩=>?_)
 ·obtain rfl:i=j:=by omega
  exact mq _
 ·split
  ·exact⟨P,z1,by show m<=nrem;omega,z3⟩
  ·rename_i ne
   have hm:m<nrem:=by
    have:m≠nrem:=λe=>ne (by simp[e]);omega
   have lt:=z4 (by omega)
   split
   ·refine⟨P.lt (by omega),P.lt (by omega),?_⟩
    by_cases c:rk (p.getD 0 0)<rk (p.getD (m - 1) 0)
    ·rw[cB c];dsimp only;rw[if_pos rfl]
     exact⟨P,z1,by show m<=nrem;omega,z3⟩
    ·rw[cg c];dsimp only;rw[if_neg Bool.false_ne_true]
     have all:∀k,k<m->rk (p.getD k 0)=rk (p.getD (m - 1) 0):=λk hk=>Int.le_antisymm (z3 k (m - 1) (by omega) (by omega)) (qk (tR.mp c) (z3 0 k (by omega) hk));have q:=Eg (rk:=rk) (p:=p) (i:=0) (j:=m) (by omega) λk _ hk=>all k hk;refine Js P.vG (by omega) h3 λi j hij hj=>?_;rw[q,q]
     by_cases hj2:j=m
     ·subst hj2
      by_cases hi:i=j
      ·rw[hi];exact mq _
      ·rw[all i (by omega)];exact xO lt
     ·rw[all i (by omega),all j (by omega)];exact mq _
   ·obtain rfl:m=1:=by omega
    refine Js P (by omega) h3 λi j hij hj=>?_
    by_cases hj2:i=j
    ·rw[hj2];exact mq _
    ·obtain rfl:i=0:=by omega
     obtain rfl:j=1:=by omega
     exact xO lt
theorem yM{k:Nat}(P:Pm n p)(hk:k<n)(hU:Up rk p k):∀(f l r:Nat),l<=r->r<=k->r - l<=f->(∀i,i<l->rk (p.getD i 0)<=rk (p.getD k 0))->(∀i,r<=i->i<k->rk (p.getD k 0)<=rk (p.getD i 0))->cV n rk (kas_place p k f l r) λm=>m<=k/\(∀i,i<m->rk (p.getD i 0)<=rk (p.getD k 0))/\∀i,m<=i->i<k->rk (p.getD k 0)<=rk (p.getD i 0)
 |0,l,r,h1,h2,h3,h4,h5=>by
  obtain rfl:l=r:=by omega
  exact⟨h2,h4,h5⟩
 |f+1,l,r,h1,h2,h3,h4,h5=>by
  unfold kas_place
  split
  ·obtain rfl:l=r:=by omega
   exact⟨h2,h4,h5⟩
  ·rename_i g
   refine⟨P.lt hk,P.lt (by omega),?_⟩
   by_cases c:rk (p.getD k 0)<rk (p.getD ((l+r) / 2) 0)
   ·rw[cB c];dsimp only;rw[if_pos rfl]
    refine yM P hk hU f l ((l+r) / 2) (by omega) (by omega) (by omega) h4 λi i1 i2=>?_;exact qk (xO c) (hU _ _ i1 i2)
   ·rw[cg c];dsimp only;rw[if_neg Bool.false_ne_true]
    refine yM P hk hU f ((l+r) / 2+1) r (by omega) h2 (by omega) (λi i1=>?_) h5;exact qk (hU i ((l+r) / 2) (by omega) (by omega)) (tR.mp c)
theorem Jr:∀(f:Nat) (p:Array Nat) (k:Nat),Pm n p->k+f<=n->Up rk p k->cV n rk (kas_bin f p k) λr=>Pm n r/\Up rk r (k+f)
 |0,p,k,P,h1,h2=>⟨P,h2⟩
 |f+1,p,k,P,h1,h2=>by
  have hs:=P.size;refine cV.bind ((yM P (by omega) h2 k 0 k (dP _) (aY _) (by omega) (λi hi=>by omega) (λi i1 i2=>by omega)).mono λl aW=>?_);obtain⟨z1,z2,z3⟩:=aW;refine(Jr f (bubble p k (k - l)) (k+1) P.TX (by omega) λi j hij hj=>?_).mono λr hpq=>by obtain⟨y1,y2⟩:=hpq;exact⟨y1,by rw[show k+(f+1)=k+1+f by omega];exact y2⟩
  ·rw[Lc (by omega) z1,Lc (by omega) z1]
   repeat' split
   all_goals first|exact mq _ | (exfalso;omega)|exact h2 _ _ (by omega) (by omega)|exact z3 _ (by omega) (by omega)|exact z2 _ (by omega)
theorem Tr(h1:1<=n):cV n rk (kas_sort n) λr=>Pm n r/\Up rk r n:=by
 refine cV.bind ((Tq (nrem:=n) (Array.Perm.refl _) h1 (aY _)).mono λr aW=>?_);obtain⟨z1,z2,z3,z4⟩:=aW
 split
 ·have e:max r.1 1=r.1:=by omega
  rw[e];exact(Jr (n - r.1) r.2 r.1 z1 (by omega) z4).mono λq hpq=>by obtain⟨y1,y2⟩:=hpq;exact⟨y1,by rw[show r.1+(n - r.1)=n by omega]at y2;exact y2⟩
 ·obtain e:r.1=n:=by omega
  rw[e]at z4;exact⟨z1,z4⟩
end
end _L
namespace _L
open PySem PySem.Spec PyProof.Rows PySem.W
section
variable {prog:Program} {w:World} {A:Around} {E:Value->Shared->Prop} {s:Shared} {M:Model}
theorem mapM_some{α β:Type}{f:α->Sem β}{P:β->Prop}:∀(l:List α) {Q:List β->Shared->Prop},(∀v∈l,∃r,P r/\∀Q':β->Shared->Prop,Q' r s->wpAny M A (f v) Q' E s)->(∀rs:List β,rs.length=l.length->(∀r∈rs,P r)->Q rs s)->wpAny M A (l.mapM f) Q E s
 | [],Q,_,h=>by rw[List.mapM_nil];exact aJ (h [] rfl λr z=>nomatch z)
 |x::l,Q,hf,h=>by
  rw[List.mapM_cons];obtain⟨r,pr,hr⟩:=hf x (.head _);refine ai (hr _ (ai (mapM_some (P:=P) l (λv hv=>hf v (.tail _ hv)) λrs hl hp=>aJ (h (r::rs) (by simp[hl]) λq hq=>?_))))
  rcases bp.mp hq with rfl|hq
  ·exact pr
  ·exact hp q hq
theorem Nc:∀(rs:List (Option Value)),(∀r∈rs,∃a t,r=some (Value.int a t))->∃ns,IntsAre (rs.filterMap id) ns/\ns.length=rs.length
 | [],_=>⟨[],.nil,rfl⟩
 |r::rs,h=>by
  obtain⟨a,t,rfl⟩:=h r (.head _);obtain⟨ns,h1,h2⟩:=Nc rs λq hq=>h q (.tail _ hq);exact⟨a::ns,.cons a t h1,by simp[h2]⟩
theorem aaR {vs:List Value} {ns:List Int} (h:IntsAre vs ns) (hn:ns≠[]):oneTypeOnly' vs.toArray=pure (some (Value.type "int")):=by
 rw[oneTypeOnly'_eq,List.mapM_toArray,mapM_typeOf_ints h];simp only[map_pure,pure_bind];cases h with
 |nil=>exact absurd rfl hn
 |cons n t h=>simp
theorem Ym {keys:List Value} (h2:keys≠[]) (hk:∀v∈keys,∃(x:Addr) (o:Obj) (n:Nat) (its:Array Value) (a:Int) (t:Tok),v = .ref x/\s.heap.get? x=some o/\o.cls = .type "tuple" /\ o.data = .seq its n/\its[0]?=some (.int a t)) {Q:SortKind->Shared->Prop} (h:Q (tuples' true) s) :
  wpAny M A (keyKind' keys.toArray) Q E s:=by
 rw[keyKind'_eq,List.mapM_toArray,map_eq_pure_bind];refine ai (ai (mapM_some (P:=λr=>∃a t,r=some (Value.int a t)) _ (λv hv=>?_) λrs hl hr=>aJ ?_))
 ·obtain⟨x,o,n,its,a,t,rfl,ho,hc,hd,hi⟩:=hk v hv
  refine⟨_,⟨a,t,rfl⟩,λQ' hq=>?_⟩;rw[kas_first_eq];refine ai (wpAny_typeOf_ref ho ?_);rw[hc,if_neg (by decide)];refine ai (ud ho hd (aJ ?_));rw[hi];exact hq
 ·obtain⟨ns,hI,hn⟩:=Nc rs hr
  have all:(rs.toArray.all λx=>x.isSome)=true:=by
   rw[List.all_toArray,fB];intro r h;obtain⟨a,t,rfl⟩:=hr r h;rfl
  rw[if_pos all];refine ai (qN ?_);have e:(rs.toArray.filterMap id)=(rs.filterMap id).toArray:=by simp
  rw[e,aaR hI (λz=>h2 (by rw[z]at hn;exact S0.mp (by simpa[hl]using hn.symm)))];exact ai (aJ (aJ h))
section
variable {a kS:Addr} {e1:Nat} {keys its:List Value} {kz:List Int} {κ:SortKind}
theorem item_at(hl:keys.length=its.length){i:Nat}(hi:i<its.length):kas_item (keys.toArray.zip its.toArray) i=(keys.getD i Value.none,its.getD i Value.none):=by
 unfold kas_item;have h1:i<keys.length:=by omega
 have h2:i<min keys.length its.length:=by omega
 simp[Array.getD,h1,hi,h2]
theorem acw{R:PySem.Fin->Shared->Prop}(hl:keys.length=its.length)(hz:kz.length=its.length)(h64:its.length<64)(hkind:2<=its.length->∀Q:SortKind->Shared->Prop,Q κ s->wpAny (model prog w) A (keyKind' keys.toArray) Q E s)(hcmp:∀i j,i<its.length->j<its.length->∀Q:Bool->Shared->Prop,Q (decide (kz.getD i 0<kz.getD j 0)) s->wpAny (model prog w) A (keyLt' κ (keys.getD i Value.none) (keys.getD j Value.none)) Q (λ_ _=>False) s)(h:∀st:SortSt,failedOf st=none->KskOut false kz its ((arrOf st).map (·.2)).toList->((arrOf st).map (·.2)).toList.length=its.length->wpAny (model prog w) A (ksk_tail a false e1 (.ref kS) st) R E s):wpAny (model prog w) A (ksk_end a false its.toArray e1 (.ref kS) keys.toArray) R E s:=by
 have zs:(keys.toArray.zip its.toArray).size=its.length:=by simp[hl]
 unfold ksk_end;simp only[jq,h9]
 by_cases few:its.toArray.size<2
 ·simp only[if_pos few]
  refine ai (aJ ?_);rw[StateT.run_pure];rw[bV]at few;have e:((keys.toArray.zip its.toArray).map (·.2)).toList=its:=by
   rw[Array.toList_map,ksk_zip];exact List.map_snd_zip (by simp[hl])
  refine ai (aJ (h _ rfl ?_ ?_))
  ·show KskOut false kz its ((keys.toArray.zip its.toArray).map (·.2)).toList
   rw[e];refine⟨kz.zip its,.refl _,(List.map_snd_zip (by omega)).symm,?_⟩;have:(kz.zip its).length<=1:=by simp;omega
   generalize kz.zip its=l at this ⊢;cases l with
   |nil=>exact .nil
   |cons x r =>
    cases r with
    |nil=>exact List.pairwise_singleton _ _
    |cons y r=>exact absurd this (by simp)
  ·show((keys.toArray.zip its.toArray).map (·.2)).toList.length=its.length
   rw[e]
 ·simp only[if_neg few]
  rw[bV]at few;refine ai (hkind (by omega) _ ?_);have est:SortSt.mk' κ (keys.toArray.zip its.toArray) #[] 7 none=kas_st κ (keys.toArray.zip its.toArray) (List.toArray (List.range its.length)):=by
   have e:=kas_range (keys.toArray.zip its.toArray);rw[zs]at e;show SortSt.mk' κ (keys.toArray.zip its.toArray) #[] 7 none=SortSt.mk' κ ((List.toArray (List.range its.length)).map (kas_item (keys.toArray.zip its.toArray))) #[] 7 none;rw[e]
  have run:=kas_runs (prog:=prog) (w:=w) (A:=A) (E:=E) (κ:=κ) (it:=keys.toArray.zip its.toArray) (n:=its.length)
   (Q:=λ_ st' s'=>s'=s/\∃p:Array Nat,Pm its.length p/\Up (λi=>kz.getD i 0) p its.length/\arrOf st'=p.map (kas_item (keys.toArray.zip its.toArray))/\failedOf st'=none)
   (G:=λp s'=>s'=s/\Pm its.length p/\Up (λi=>kz.getD i 0) p its.length) (s:=s) (by omega) h64
   (λp' st' s' _ a2 a3 a4=>⟨a4.1,p',a4.2.1,a4.2.2,a2,a3⟩)
   (cV.wp (λi j C hi hj hC=>by
    unfold kas_cmp;rw[item_at hl hi,item_at hl hj];exact hcmp i j hi hj C hC) (Tr (by omega)))
  rw[<- est]at run;refine ai (eI run ?_ λ_ _ z=>z);rintro⟨⟨⟩,st⟩ s' ⟨rfl,p,hp,hu,ha,hf⟩;have ps:=hp.size;have lt:∀i∈p.toList,i<its.length:=λi hi=>by
   have:=hp.mem_iff.mp (Array.mem_toList_iff.mp hi);simpa using this
  have eo:((arrOf st).map (·.2)).toList=p.toList.map λi=>its.getD i Value.none:=by
   rw[ha,Array.map_map,Array.toList_map];refine n_ λi hi=>?_;show(kas_item (keys.toArray.zip its.toArray) i).2=_;rw[item_at hl (lt i hi)]
  refine h st hf ?_ ?_
  ·rw[eo]
   refine⟨p.toList.map λi=>(kz.getD i 0,its.getD i Value.none),?_,?_,?_⟩
   ·have e1:p.toList.Perm (List.range its.length):=by simpa using Array.perm_iff_toList_perm.mp hp
    refine(e1.map _).trans (.of_eq ?_);refine kP (by simp[hz]) λi h1 h2=>?_;have hi:i<its.length:=by simpa using h1
    have hi':i<kz.length:=by omega
    simp[hi,hi']
   ·rw[eB]
    rfl
   ·rw[og,tY]
    intro i j hi hj hij;have hj':j<p.size:=by simpa using hj
    have:=hu i j (fD hij) (by omega);have g:∀k (hk:k<p.size),p.getD k 0=p.toList[k]:=λk hk=>by simp[Array.getD,hk]
    rw[g i (by omega),g j hj']at this;exact this
  ·rw[eo,az,gf,ps]
end
end
section
variable {X:Cx} {pins:List (Addr × Obj)} {σ:St} {H:Hp} {s:Shared} {qual x:Str} {params:Arguments} {body:Expr} {scope:Scope} {fr:List (Str × Nat)} {tb:TE} {p:Addr} {v:V} {u:Value} {xs:List V} {kz:List Int} {kw:List (List V)} {Q:VK} {E:Value->Shared->Prop}
structure lq (X:Cx) (H:Hp) (kw:List (List V)) (kz:List Int):Prop where
 head:∀ws∈kw,∃a:Int,ws[0]?=some (.int a)
 cmp:∀(i j:Nat) (H3:Hp) (A:Around) (s:Shared) (E:Value->Shared->Prop) (pins:List (Addr × Obj)) (σ:St) (r q:Addr) (ws vs:List V),A.units<=X.A.units+2->Same H H3->Inv X pins σ H3 s->kw[i]?=some ws->kw[j]?=some vs->H3 r=some (.tup ws)->H3 q=some (.tup vs) ->
  ∀Q:Bool->Shared->Prop,Q (decide (kz.getD i 0<kz.getD j 0)) s->wpAny (model X.prog X.w) A (keyLt' (tuples' true) (.ref r) (.ref q)) Q E s
theorem acy{A:Around}{a:Addr}{its:List Value}{R:PySem.Fin->Shared->Prop}(hA:A.frames=X.A.frames)(hd:A.handled=none)(hr:A.depth<recursionLimit)(o8:A.guards=X.A.guards/\A.units<=X.A.units+2/\A.depth=X.A.depth)(KL:tS X qual x params body scope fr tb)
  (I:Inv X pins σ H s) (fa:cW X pins H a) (ea:s.heap.get? a=some (seqObj "list" its.toArray 0)) (rv:Vals xs its) (L:iz H p qual params body scope (cu X.env.cells scope.names [])) (hl:kz.length=xs.length) (hw:kw.length=xs.length) (h64:xs.length<64)
  (TK:lq X H kw kz)
  (turn:∀(i:Nat) y ws,xs[i]?=some y->kw[i]?=some ws->∀H3,Same H H3->tb (some y::lamσ fr σ) H3 λz H4=>(∃r,z = .ref r/\H4 r=some (.tup ws))/\Same H3 H4)
  (q:∀ys H3 s',Same H H3->H3 a=some (.lst ys)->oG kz xs ys->Inv X pins σ H3 s'->R (.done (.ret .none)) s') :
  wpAny (model X.prog X.w) A (ksk_tree a (.ref p) false) R E s:=by
 have big:(64:Nat)<=sizeLine:=by trivial
 have l1:=rv.length;have al:a<s.heap.objs.size:=aS ea;unfold ksk_tree;refine ai (ud ea rfl (ai (listUpdate_at ea rfl ?_ (by show(its.toArray).size<=sizeLine;rw[bV];omega) (dP _))));obtain⟨e1,oW⟩:∃e1,(s.heap.update a (Obj.mapSeq λ_=>(#[]:Array Value))).get? a=some (seqObj "list" #[] e1):=⟨_,yh ea λ_=>#[]⟩;have I1:Inv X pins σ H {s with heap:=s.heap.update a (Obj.mapSeq λ_=>(#[]:Array Value)),toks:=s.toks}:=
  I.turned (λb o hb e=>by rw[mF _ _ _ _ hb];exact e) fa.1 fa.2.1 fa.2.2.2.1 fa.2.2.2.2.1 fa.2.2.2.2.2
 refine ai (seqEpoch_at oW rfl (ai (wpAny_newTuple (ai (yx (fS ?_) (dP _))) (by show its.length<=sizeLine;omega))));have I2:Inv X pins σ H {s with heap:=(s.heap.update a (Obj.mapSeq λ_=>(#[]:Array Value))).push {cls:=.type "tuple", data:=.seq its.toArray},toks:=s.toks}:=I1.kept λb o e=>aV _ e;have I3:=I2.si (its:=[]) (ys:=[]) (t':=s.toks) .nil (dP _);have Kq:((s.heap.update a (Obj.mapSeq λ_=>(#[]:Array Value))).push {cls:=.type "tuple", data:=.seq its.toArray}).get? a=some (seqObj "list" #[] e1):=aV _ oW;have nH:H ((s.heap.update a (Obj.mapSeq λ_=>(#[]:Array Value))).push {cls:=.type "tuple", data:=.seq its.toArray}).objs.size=none:=I2.fresh;have nk:a≠((s.heap.update a (Obj.mapSeq λ_=>(#[]:Array Value))).push {cls:=.type "tuple", data:=.seq its.toArray}).objs.size:=bB (aS Kq);generalize hkS:((s.heap.update a (Obj.mapSeq λ_=>(#[]:Array Value))).push {cls:=.type "tuple", data:=.seq its.toArray}).objs.size=kS at I3 nH nk;have Vs:cW X pins (upd H kS (.lst [])) a:=⟨by rw[aF nk];exact fa.1,fa.2⟩;have I4:Inv X ((a,seqObj "list" #[] e1)::pins) σ (upd H kS (.lst [])) _:=I3.vV λq hq=>by
  rcases bp.mp hq with rfl|hq
  ·exact⟨aV _ Kq,Vs.1,fa.2.1,fa.2.2.1,λv z=>by cases z⟩
  ·exact I3.pin q (gP _ hq)
 have sm:Same H (upd H kS (.lst [])):=Same.put nH;refine sort_keys (Kp:=λi z G=>∀ws,kw[i]?=some ws->∃r,z = .ref r/\r≠kS/\G r=some (.tup ws)) hA hd hr o8 KL (by omega) I4 au (L.same sm) rv (λi z G G' hz sx ws e=>?_) (λi y hy H3 s3 hk3=>?_) (λkv G s' keys n hkv hK J hG sX ek rk=>?_)
 ·obtain⟨r,h1,h2,h3⟩:=hz ws e
  exact⟨r,h1,h2,sx r _ h2 h3⟩
 ·have hi:i<kw.length:=by rw[hw];exact(bJ.mp hy).1
  have:=turn i y _ hy (aA hi) H3 (dQ.of nH λb o hb e=>s3 b o hb (sm b o e));have e:(λ(z:V) (H4:Hp)=>(∃r,z = .ref r/\H4 r=some (.tup kw[i]))/\Same H3 H4)=λz H4=>(∀ws,kw[i]?=some ws->∃r,z = .ref r/\r≠kS/\H4 r=some (.tup ws))/\Same H3 H4:=by
   obtain⟨kv,hk3⟩:=hk3
   funext z H4
   refine propext ⟨λ⟨⟨r,h1,h2⟩,h3⟩=>⟨λws ek=>?_,h3⟩,λ⟨h1,h2⟩=>⟨?_,h2⟩⟩
   ·rw[aA hi]at ek;cases ek
    exact⟨r,h1,fZ h2 (h3 _ _ hk3) (by intro z;cases z),h2⟩
   ·obtain⟨r,z1,_,z3⟩:=h1 _ (aA hi)
    exact⟨r,z1,z3⟩
  rw[e]at this;exact this
 ·have Rq:Same H G:=λb o e=>sX b o (c6 e nH) (sm b o e)
  have hkl:keys.length=its.length:=by rw[<- rk.length];omega
  have key:∀i,i<its.length->∃(r:Addr) (ws:List V),kw[i]?=some ws/\keys.getD i Value.none = .ref r/\G r=some (.tup ws):=λi hi=>by
   have hi1:i<kw.length:=by omega
   have hi2:i<kv.length:=by omega
   obtain⟨r,h1,_,h3⟩:=hK i _ (aA hi2) _ (aA hi1);obtain⟨u,e1,e2⟩:=rk.get (aA hi2);rw[h1]at e2;exact⟨r,_,aA hi1,by rw[aQ,e1];exact e2,h3⟩
  refine acw (κ:=tuples' true) (kz:=kz) hkl (by omega) (by omega) (λh2 Q hq=>Ym (λz=>by rw[z]at hkl;simp at hkl;omega) (λv hv=>?_) hq) (λi j hi hj Q hq=>?_) λst z1 z2 z3=>?_
  ·obtain⟨i,hi,rfl⟩:=iS hv
   obtain⟨r,ws,e1,e2,e3⟩:=key i (by omega);obtain⟨b,e4⟩:=TK.head ws (df e1);obtain⟨_,its',rv',⟨o,ho,hc,m,hd'⟩,_⟩:=(show bE X.prog X.w G s'.heap r (.tup ws)from J.hok r _ e3);obtain⟨u,e5,t,rfl⟩:=rv'.get e4;rw[aQ,aA hi]at e2;exact⟨r,o,m,its'.toArray,b,t,e2,ho,hc,hd',by simpa using e5⟩
  ·obtain⟨r,ws,e1,e2,e3⟩:=key i hi
   obtain⟨r',ws',e1',e2',e3'⟩:=key j hj;rw[e2,e2'];exact TK.cmp i j G A s' _ _ _ r r' ws ws' o8.2.1 Rq J e1 e1' e3 e3' Q hq
  ·obtain⟨ys,hv,hs⟩:=acA rv z2
   have fG:cW X pins G a:=⟨(J.pin (a,seqObj "list" #[] e1) (gP _ (bX ..))).2.1,fa.2⟩;refine acx J hG ek (by omega) fG z1 rfl hv (by omega) λs2 J2=>q ys _ s2 (λb o e=>?_) au hs J2;have b1:b≠kS:=c6 e nH;have b2:b≠a:=c6 e fa.1;rw[aF b2,aF b1];exact Rq b o e
theorem lq.same{H H':Hp}(h:lq X H kw kz)(s:Same H H'):lq X H' kw kz:=
 ⟨h.head,λi j H3 A sh E pins σ r q ws vs hu sm=>h.cmp i j H3 A sh E pins σ r q ws vs hu (s.trans sm)⟩
theorem Ug(hr:bQ 0 X.A)(KL:tS X qual x params body scope fr tb)(I:Inv X pins σ H s)(r:RelV v u)(src:mI X.K H v xs)(L:iz H p qual params body scope (cu X.env.cells scope.names []))(hl:kz.length=xs.length)(hw:kw.length=xs.length)(h64:xs.length<64)(TK:lq X H kw kz)(turn:∀(i:Nat) y ws,xs[i]?=some y->kw[i]?=some ws->∀H3,Same H H3->tb (some y::lamσ fr σ) H3 λz H4=>(∃r,z = .ref r/\H4 r=some (.tup ws))/\Same H3 H4)(q:∀ys r H3,Same H H3->H r=none->H3 r=some (.lst ys)->oG kz xs ys->Q (.ref r) H3):
  wpAny (model X.prog X.w) X.A (call (.builtin "sorted") [u] [(Str.ofString "key", .ref p)]) (EP X pins σ Q) E s:=by
 have big:(64:Nat)<=sizeLine:=by trivial
 refine call_function_entry_kw kind_sorted plain_sorted entry_sorted (ksk_s1 u (.ref p)) ?_;unfold Builtin.«sorted»;refine ai (m:=checkCount "sorted" 1 1 _) (aJ (ai (Ka (A:=X.A.in1) hr.hd I r src (by omega) λits s1 rv I1=>ai (yx ?_ (by rw[<- rv.length];omega)))));have I2:Inv X pins σ H {s1 with heap:=s1.heap.push {cls:=.type "list", data:=.seq its.toArray},toks:=s1.toks}:=I1.kept λb o e=>aV _ e;have fa:cW X pins H s1.heap.objs.size:=I1.oZ (aY _) I1.fresh;have ea:(s1.heap.push {cls:=.type "list", data:=.seq its.toArray}).get? s1.heap.objs.size=some (seqObj "list" its.toArray 0):=cn _ rfl;refine ai (fS (wpAny_call_entry_kw slot_list_sort ⟨_,ea,rfl⟩ entry_list_sort ?_ (ksk_l1 _ _)));show wpAny (model X.prog X.w) X.A.in1.in1 (Builtin.«list.sort» ⟨[.ref s1.heap.objs.size],[(Str.ofString "key", .ref p)]⟩) _ _ _;rw[ksk_t1];refine acy (s:={s1 with heap:=s1.heap.push {cls:=.type "list", data:=.seq its.toArray},toks:=s1.toks}) rfl hr.hd hr.depth ⟨rfl,aY _,rfl⟩ KL I2 fa ea rv L hl hw h64 TK turn λys H3 s3 sm g3 so I3=>⟨_,rfl,aJ ⟨_,rfl,.ref s1.heap.objs.size,H3,I3,rfl,q ys _ H3 sm fa.1 g3 so⟩⟩
end
section
variable {X:Cx} {x:Str} {params:Arguments} {body e:Expr} {scope:Scope} {fr:List (Str × Nat)} {tb ti:TE} {c P:Addr} {p0 sr kpos pos:Pos}
def ac6(X:Cx)(ti:TE)(P:Addr)(pos:Pos)(qual:Str)(fr:List (Str × Nat))(tb:TE):TE:=λσ H Q=>ti σ H λv H1=>H1 P=some (.lam pos qual)/\∃(xs:List V) (kz:List Int) (kw:List (List V)),mI X.K H1 v xs/\kz.length=xs.length/\kw.length=xs.length/\xs.length<64/\lq X H1 kw kz /\
 (∀(i:Nat) y ws,xs[i]?=some y->kw[i]?=some ws->∀H3,Same H1 H3->tb (some y::lamσ fr σ) H3 λz H4=>(∃r,z = .ref r/\H4 r=some (.tup ws))/\Same H3 H4) /\
 ∀ys r H3,Same H1 H3->H1 r=none->H3 r=some (.lst ys)->oG kz xs ys->Q (.ref r) H3
theorem abm (hg:Gl X "sorted") (hm:X.mg "sorted" = none) (T:TabAt X.base X.mg c P) (hcode:X.env.code = .ref c) (hr:bQ 0 X.A) (KL:tS X (X.env.qual ++ "<lambda>") x params body scope fr tb) (hi:PE X e ti)
  (hdef:defaultsOf params X.env=([],[]):=by rfl) (he:starEach [e] X.env = [(false,eval e X.env)]:=by rfl) :
  PE X (.Call (.Name "sorted" p0) [e] [⟨some "key", .Lambda params body scope sr,kpos⟩] pos) (ac6 X ti P sr (X.env.qual ++ "<lambda>") fr tb):=by
 intro pins s σ H Q I h;refine mH (jN I hg hm boot_sorted ?_ (by decide) (by decide));refine callWith_kw (kws:=[⟨some "key", .Lambda params body scope sr,kpos⟩]) (aM (ae hi ag he pos pins s σ H (vL λv H1=>H1 P=some (.lam sr (X.env.qual ++ "<lambda>"))/\∃(xs:List V) (kz:List Int) (kw:List (List V)),mI X.K H1 v xs/\kz.length=xs.length/\kw.length=xs.length/\xs.length<64/\lq X H1 kw kz /\
  (∀(i:Nat) y ws,xs[i]?=some y->kw[i]?=some ws->∀H3,Same H1 H3->tb (some y::lamσ fr σ) H3 λz H4=>(∃r,z = .ref r/\H4 r=some (.tup ws))/\Same H3 H4)/\∀ys r H3,Same H1 H3->H1 r=none->H3 r=some (.lst ys)->oG kz xs ys->Q (.ref r) H3) I h) λus s1 hq=>?_) (by rw[he];rfl) (by rw[he];rfl) (by rfl) (by rfl)
 ·obtain⟨vs,H1,I1,r1,hq⟩:=hq
  obtain⟨v,rfl,hP,xs,kz,kw,src,hl,hw,h64,TK,turn,q⟩:=hq.get;obtain⟨u,rfl,ru⟩:=r1.one;refine kws_cons (aM (abi T hcode (λok y hy hk=>ok.has _ (KL.blk.free y hy hk)) hdef pins s1 σ H1 (λf H2=>∃p,f = .ref p/\Same H1 H2/\iz H2 p (X.env.qual ++ "<lambda>") params body scope (cu X.env.cells scope.names [])) I1 ⟨hP,λp H2 s2 _ L=>⟨p,rfl,s2,L⟩⟩) λfv s2 ⟨f,H2,I2,rf,p,ef,sm,L⟩=>kws_nil ?_);subst ef;obtain rfl:fv = .ref p:=rf;exact Ug hr KL I2 ru (src.same sm) L hl hw h64 (TK.same sm) (λi y k h1 h2 H3 s3=>turn i y k h1 h2 H3 (sm.trans s3)) λys r H3 s3 n3 g3 so=>q ys r H3 (sm.trans s3) (sm.free n3) g3 so
end
theorem adf{X:Cx}{H:Hp}{ks:List (Int × Int)}(hb:∀k∈ks,0<=k.2/\k.2<1000):lq X H (ks.map λk=>[.int k.1,.int k.2]) (ks.map λk=>k.1*1000+k.2) where
 head:=λws h=>by
  obtain⟨k,_,rfl⟩:=dc.mp h;exact⟨k.1,rfl⟩
 cmp:=λi j H3 A s E pins σ r q ws vs _ _ I e1 e2 h1 h2 Q hq=>by
  rw[bW]at e1 e2;cases z1:ks[i]? with
  |none=>rw[z1]at e1;cases e1
  |some a =>
   cases z2:ks[j]? with
   |none=>rw[z2]at e2;cases e2
   |some b =>
    rw[z1]at e1;rw[z2]at e2;obtain rfl:[V.int a.1,V.int a.2]=ws:=by simpa using e1
    obtain rfl:[V.int b.1,V.int b.2]=vs:=by simpa using e2
    obtain⟨_,its,rv,⟨o,ho,_,n,hd⟩,_⟩:=(show bE X.prog X.w H3 s.heap r _ from I.hok r _ h1);obtain⟨_,its',rv',⟨o',ho',_,n',hd'⟩,_⟩:=(show bE X.prog X.w H3 s.heap q _ from I.hok q _ h2);cases rv with
    |cons r1 rv =>
     cases rv with
     |cons r2 rv =>
      cases rv;cases rv' with
      |cons r1' rv' =>
       cases rv' with
       |cons r2' rv' =>
        cases rv';obtain⟨t1,rfl⟩:=r1;obtain⟨t2,rfl⟩:=r2;obtain⟨u1,rfl⟩:=r1';obtain⟨u2,rfl⟩:=r2';refine Yj (p:=a) (q:=b) ho hd ho' hd' ?_;have b1:=hb a (df z1);have b2:=hb b (df z2);have g:∀(k:Nat) (c:Int × Int),ks[k]?=some c->(ks.map λk=>k.1*1000+k.2).getD k 0=c.1*1000+c.2:=λk c e=>by
         rw[aQ,bW,e];rfl
        rw[g i a z1,g j b z2]at hq;have:vT a b=decide (a.1*1000+a.2<b.1*1000+b.2):=by
         unfold vT
         by_cases c1:a.1<b.1
         ·rw[cB c1,cB (show a.1*1000+a.2<b.1*1000+b.2 by omega)];rfl
         ·by_cases c2:a.1=b.1
          ·by_cases c3:a.2<b.2
           ·rw[cB c2,cB c3,cB (show a.1*1000+a.2<b.1*1000+b.2 by omega),cg c1];rfl
           ·rw[cB c2,cg c3,cg (show ¬ a.1*1000+a.2<b.1*1000+b.2 by omega),cg c1];rfl
          ·rw[cg c2,cg (show ¬ a.1*1000+a.2<b.1*1000+b.2 by omega),cg c1];rfl
        rw[this];exact hq
end _L
namespace _M
open PySem PySem.Spec PyProof.Rows _L
theorem JZ{n:Nat}{R:Nat->Nat->Bool}{zs:List Int}(h:c5 n R zs=true):zs≠[]:=λe=>by
 rw[e]at h;cases h
theorem JX{n:Nat}{R:Nat->Nat->Bool}{zs:List Int}(h:c5 n R zs=true):∃cs:List Nat,zs=(cs.map λx:Nat=>(x:Int))/\dm n R cs:=by
 have h0:=h;unfold c5 at h;simp only[bF,eY,fU]at h;obtain⟨h1,h2,h3⟩:=h;obtain⟨cs,rfl,hlt⟩:=Oe h2;rw[az]at h1;refine⟨cs,rfl,⟨by omega,hlt,λi hi=>?_⟩⟩;unfold mK at h3;rw[fB]at h3;have:=h3 i (by rw[az];exact dO.mpr (by omega));rw[fW,fW,dq,dq]at this;unfold bS at this;rw[bF,eY,fU]at this;exact this
theorem ado{n:Nat}{R:Nat->Nat->Bool}{J N:Nat->Nat->Nat}{cs ds:List Nat}(M:Md n R J N)(hc:dm n R cs)(hd:dm n R ds)(e:fH (cs.map λx:Nat=>(x:Int)) (ds.map λx:Nat=>(x:Int))=true):Two n R J N cs ds:=by
 unfold fH at e;rw[bF,cL,cL,az,az,fW,fW,fW,fW]at e;exact⟨M,hc,hd,by omega,by omega⟩
theorem N5{α β:Type}(l:List α)(d:α)(g:α->β):(List.range l.length).map (λj=>g (l.getD j d))=l.map g:=by
 refine kP (by simp) λi h1 h2=>?_;have hi:i<l.length:=by simpa using h1
 rw[jY,mz,jY,aQ,aA hi];rfl
theorem Md.other{n:Nat}{R:Nat->Nat->Bool}{J N J' N':Nat->Nat->Nat}(M:Md n R J N)(hj:∀a b,a<n->b<n->bG n R a b (J' a b))(hm:∀a b,a<n->b<n->bM n R a b (N' a b)):Md n R J' N':=by
 have ej:∀a b,a<n->b<n->J' a b=J a b:=λa b ha hb=>(hj a b ha hb).uniq M.G (M.j a b ha hb);have em:∀a b,a<n->b<n->N' a b=N a b:=λa b ha hb=>(hm a b ha hb).uniq M.G (M.m a b ha hb);refine⟨M.G,hj,hm,λa b c ha hb hc h=>?_⟩;rw[em b c hb hc,ej a b ha hb,ej a _ ha (M.mlt hb hc),em _ c (M.fL ha hb) hc];exact M.md a b c ha hb hc h
theorem acB{H:Hp}{F:Nat × Nat->V->Prop}{fs:List (Nat × Nat)}{us ys:List V}(hp:Paired F fs us)(h:oG (fs.map gZ) us ys):∃tn:List (Nat × Nat),tn.Perm fs/\tn.Pairwise (λx y=>gZ x<=gZ y)/\Paired F tn ys:=by
 obtain⟨ps,h1,rfl,h3⟩:=h;have e:(fs.map gZ).zip us=(fs.zip us).map λq=>(gZ q.1,q.2):=by
  have:=List.zip_map_left (f:=gZ) (l₁:=fs) (l₂:=us);rw[this];rfl
 rw[e]at h1;obtain⟨l,rfl,hl⟩:=abp h1;refine⟨l.map Prod.fst,?_,?_,?_⟩
 ·have:=hl.map Prod.fst
  rwa [List.map_fst_zip (Ih (cp hp))]at this
 ·rw[og]at h3 ⊢
  exact h3
 ·rw[eB]
  have all:∀q∈l,F q.1 q.2:=λq hq=>by
   have hq:=hl.mem_iff.mp hq;obtain⟨i,hi,e⟩:=iS hq;have hi1:i<fs.length:=by have:=hi;rw[List.length_zip]at this;omega
   have hi2:i<us.length:=by have:=hi;rw[List.length_zip]at this;omega
   rw[List.getElem_zip]at e;obtain⟨x,hx,hF⟩:=c7 hp (aA hi2);rw[aA hi1]at hx;cases hx;rw[<- e];exact hF
  clear hl h1 h3 e hp
  induction l with
  |nil=>exact .nil
  |cons q l ih=>exact .cons (all q bX) (ih λz hz=>all z (b_ _ hz))
noncomputable def pW (H:Hp) (q:List V):V->Bool
 |.ref t=>match H t with
  |some (.tup ws)=>decide (ws=q)
  |_=>false
 |_=>false
theorem XT{K:W.Frag}{H:Hp}{t u:Addr}{a b c d a' b' c' d':Nat}(h1:H t=some (.tup [nV a,nV b,nV c,nV d]))(h2:H u=some (.tup [nV a',nV b',nV c',nV d'])):bK K H 1 (.ref t) (.ref u) (pW H [nV a',nV b',nV c',nV d'] (.ref t)):=by
 have:=bK.tup (K:=K) (H:=H) 0 t u _ _ (λj=>match j with|0=>(a:Int)==(a':Int)|1=>(b:Int)==(b':Int)|2=>(c:Int)==(c':Int)|_=>(d:Int)==(d':Int)) (ax.of h1) (ax.of h2) rfl λj x y hx hy=>by
  match j with
  |0=>cases hx;cases hy;exact bK.int 0 _ _
  |1=>cases hx;cases hy;exact bK.int 0 _ _
  |2=>cases hx;cases hy;exact bK.int 0 _ _
  |3=>cases hx;cases hy;exact bK.int 0 _ _
  |j+4=>simp at hx
 have e:pW H [nV a',nV b',nV c',nV d'] (.ref t)=(List.range [nV a,nV b,nV c,nV d].length).all (λj=>match j with|0=>(a:Int)==(a':Int)|1=>(b:Int)==(b':Int)|2=>(c:Int)==(c':Int)|_=>(d:Int)==(d':Int)):=by
  unfold pW;simp only[h1];rw[dk,cL];show _ ↔ (List.range 4).all _=true;simp[iU,nV]
 rw[e];exact this
theorem YX{J N:Nat->Nat->Nat}{cs ds:List Nat}{H:Hp}{K:W.Frag}{tn:List (Nat × Nat)}{ys:List V}{r:Nat × Nat}{y:V}(hp:Paired (fM J N cs ds H) tn ys)(hr:r∈tn)(hy:fM J N cs ds H r y):∃e:V->Bool,(∀z∈ys,∃a,z = .ref a)/\(∀z∈ys,bK K H 1 z y (e z))/\(∃z,ys[tn.idxOf r]?=some z/\e z=true)/\∀(m:Nat) z,m<tn.idxOf r->ys[m]?=some z->e z=false:=by
 obtain⟨u,rfl,hu⟩:=hy;have hi:=qA.mpr hr;refine⟨pW H [nV r.1,nV r.2,nV (dA J N cs ds r),nV (cJ N cs ds r)],λz hz=>?_,λz hz=>?_,?_,λm z hm hz=>?_⟩
 ·obtain⟨i,hi,e⟩:=iS hz
  obtain⟨q,_,t,e2,_⟩:=c7 hp (show ys[i]?=some z by rw[aA hi,e]);exact⟨t,e2⟩
 ·obtain⟨i,hi,e⟩:=iS hz
  obtain⟨q,_,t,rfl,ht⟩:=c7 hp (show ys[i]?=some z by rw[aA hi,e]);exact XT ht hu
 ·obtain⟨z,hz,t,rfl,ht⟩:=il hp (show tn[tn.idxOf r]?=some r by rw[aA hi,qz hi])
  refine⟨_,hz,?_⟩;unfold pW;simp only[ht,decide_true]
 ·obtain⟨q,hq,t,rfl,ht⟩:=c7 hp hz
  have hm':m<tn.length:=by omega
  have ne:q≠r:=λe=>by
   rw[aA hm']at hq;have h2:tn[m]=r:=by rw[<- e];exact dg hq
   have h3:=S3 (p:=λz=>z==r) (xs:=tn) (i:=m) hm;rw[h2]at h3;simp at h3
  unfold pW;simp only[ht,fU];intro e;simp only[tU,nV,V.int.injEq,Int.natCast_inj]at e;exact ne (Prod.ext e.1 e.2.1)
noncomputable def outV (J N:Nat->Nat->Nat) (cs ds:List Nat) (H:Hp) (r:Nat × Nat) (v:V):Prop:=∃t,v = .ref t/\H t=some (.tup [nV ((cH J N cs ds).idxOf r),nV (dA J N cs ds r),nV (cJ N cs ds r)])
theorem outV.same{J N:Nat->Nat->Nat}{cs ds:List Nat}{H H':Hp}(s:Same H H'){l:List (Nat × Nat)}{us:List V}(h:Paired (outV J N cs ds H) l us):Paired (outV J N cs ds H') l us:=Paired.di h λ_ _ hpq=>by obtain⟨t,e,q⟩:=hpq;exact⟨t,e,s _ _ q⟩
section
variable {P:Program} {w:World} {K:W.Frag} {mg:Str->Option Value} {base:Heap} {f:Addr} {fd:FuncData} {a0 a1 a2 a3 a4 a5 a6 a7 a8 a9 a10 a11 a12 a13 a14 aE:Addr}
abbrev Fs:Stmt:=top 55
theorem Q8:a_ ["order","one","other"] ["order","one","other"] (aB Fs):=by trivial
def GQ(K:W.Frag)(C cC cE:Addr):Sp:=λvs H Q E=>∃(p t u n:Nat) (R:Nat->Nat->Bool) (zs ws:List Int),vs = [.ref p,.ref t,.ref u]/\eD C H p n R/\n<=24/\ah K H t (zs.map V.int)/\ah K H u (ws.map V.int)/\zs.length<=1000/\ws.length<=1000 /\
 (c5 n R zs=true->c5 n R ws=true->fH zs ws=true->∀H',Same H H'->Q .non H')/\(¬ (c5 n R zs=true/\c5 n R ws=true)->∀H',Same H H'->E (.ref cC) none H')/\(c5 n R zs=true->c5 n R ws=true->fH zs ws=false->∀H',Same H H'->E (.ref cE) none H')
theorem aaO {C:Addr} (F:aU K "need_two_chains" "need_two_chains" Fs f fd) (T:Txt mg) (TC:eZ K C) (Er:kM mg a0 a1 a2 a3 a4 a5 a6 a7 a8 a9 a10 a11 a12 a13 a14 aE) (tG:W.excIn K a0 g_ "ValueError.__new__" = true) (mM:aC P w K mg base "is_chain" ["order","things"] 3 (wU K C)) (oV:eR P w K mg base "need_like_ends" ["one","other"] 1 (wZ K a3)) :
  aN P w K mg base (bN P w) 6 f fd ["order","one","other"] (GQ K C a0 a3):=by
 refine F.pJ Q8 (λvs H Q E h=>?_) (λcdv A outer s H vs Q E hr h=>?_)
 ·obtain⟨p,t,u,n,R,zs,ws,rfl,_⟩:=h
  rfl
 ·obtain⟨p,t,u,n,R,zs,ws,rfl,hO,hn,hT,hU,gy,hwl,k1,k2,k3⟩:=h
  have nd:=Q8.nd;refine⟨_,(av (bA (PW.pt (dI (du (bZ (aL mM hr rfl (ae (pv 0) (ae (pv 1) ag))))) (ft (du (bZ (aL mM hr rfl (ae (pv 0) (ae (pv 2) ag)))))))) (ay (D_ wa Er.NoChain tG ug rfl rfl rfl (ae pQ ag))) bD)
   (ay (cT (kF oV lK hr rfl (ae (pv 1) (ae (pv 2) ag)))))),?_⟩
  refine⟨_,rfl,_,rfl,p,t,n,R,zs,rfl,hO,hn,hT,gy,λH1 s1=>⟨_,rfl,?_⟩⟩;cases c1:c5 n R zs with
  |false=>exact dR ⟨by show 1<=sizeLine;decide,k2 (λz=>by rw[z.1]at c1;cases c1) _ s1⟩
  |true =>
   refine bx ⟨_,rfl,_,rfl,p,u,n,R,ws,rfl,hO.eQ s1,hn,s1.seq hU,hwl,λH2 s2=>⟨_,rfl,?_⟩⟩;cases c2:c5 n R ws with
   |false=>exact dR ⟨by show 1<=sizeLine;decide,k2 (λz=>by rw[z.2]at c2;cases c2) _ (s1.trans s2)⟩
   |true =>
    refine bx ?_;have s12:=s1.trans s2;exact⟨_,rfl,_,rfl,t,u,zs,ws,rfl,s12.seq hT,s12.seq hU,JZ c1,JZ c2,λe H3 s3=>k1 c1 c2 e _ (s12.trans s3),λe H3 s3=>k3 c1 c2 e _ (s12.trans s3)⟩
abbrev kG:Stmt:=top 56
theorem QR:a_ ["order","one","other","found","turned","longer_one","longer_other"] ["order","one","other"] (aB kG):=by trivial
abbrev lI:Pos:=⟨220,31,220,59⟩
abbrev lJ:Str:=("longer" : Str) ++ ".<locals>." ++ "<lambda>"
def Gh(K:W.Frag)(C cC cE cN Pt:Addr):Sp:=λvs H Q E=>∃(p t u n:Nat) (R:Nat->Nat->Bool) (J N:Nat->Nat->Nat) (zs ws:List Int),vs = [.ref p,.ref t,.ref u]/\eD C H p n R/\Good n R/\n<=24/\(∀a b,a<n->b<n->bG n R a b (J a b))/\(∀a b,a<n->b<n->bM n R a b (N a b))/\H Pt=some (.lam lI lJ)/\ah K H t (zs.map V.int)/\ah K H u (ws.map V.int)/\zs.length<=1000/\ws.length<=1000 /\
 (¬ (c5 n R zs=true/\c5 n R ws=true)->∀H',Same H H'->E (.ref cC) none H')/\(c5 n R zs=true->c5 n R ws=true->fH zs ws=false->∀H',Same H H'->E (.ref cE) none H') /\
 (c5 n R zs=true->c5 n R ws=true->fH zs ws=true->∀dx u fs a b c H',Same H H'->First n (Un n R) a b c->H' dx=some (.xd [("five", .ref u)])->H' u=some (.tup (fs.map V.int))->Five n R fs->E (.ref cN) (some dx) H') /\
 (∀(cs ds:List Nat) (_:Two n R J N cs ds) (tt L1 L2 L3:Addr) us H',zs=(cs.map λx:Nat=>(x:Int))->ws=(ds.map λx:Nat=>(x:Int))->Same H H'->(∀a b c,a<n->b<n->c<n->¬ Un n R a b c)->H' tt=some (.tup [.ref L1,.ref L2,.ref L3])->(H L1=none/\H L2=none/\H L3=none/\L1≠L2/\L1≠L3/\L2≠L3) ->
  H' L1=some (.lst ((ie J N cs ds).map nV))->H' L2=some (.lst ((ie J N ds cs).map nV))->H' L3=some (.lst us)->Paired (outV J N cs ds H') (aO J N cs ds) us->(cH J N cs ds).Perm (aO J N cs ds)->Q (.ref tt) H')
theorem aaK {C c Pt:Addr} (F:aU K "longer" "longer" kG f fd) (hc:fd.code = .ref c) (tb:TabAt base mg c Pt) (T:Txt mg) (TC:eZ K C) (zH:eR P w K mg base "need_two_chains" ["order","one","other"] 6 (GQ K C a0 a3)) (zG:eR P w K mg base "need_even" ["order"] 3 (Gp C a14)) (zi:aC P w K mg base "matches" ["order","one","other"] 2 (Gi K C)) :
  aN P w K mg base (bN P w) 7 f fd ["order","one","other"] (Gh K C a0 a3 a14 Pt):=by
 refine F.ZN hc QR (λvs H Q E h=>?_) (λA outer s H vs Q E hr h=>?_)
 ·obtain⟨p,t,u,n,R,J,N,zs,ws,rfl,_⟩:=h
  rfl
 ·obtain⟨p,t,u,n,R,J,N,zs,ws,rfl,hO,G,hn,hj,hmm,hP,hT,hU,gy,hwl,k1,k2,k3,k4⟩:=h
  have nd:=QR.nd;have hu0:=hr.units;have hu1:(A.deeper (envOfC "longer" (aB kG) s.heap.objs.size f (.ref c))).units+1+1<cLine:=by omega
  refine⟨_,(av (cT (kF zH lK hr rfl (ae (pv 0) (ae (pv 1) (ae (pv 2) ag (ao nofun)) (ao nofun)) (ao nofun))))
   (av (cT (kF zG lK hr rfl (ae (pv 0) ag)))
   (av (aP (i:=3) nd rfl (Or.inl rfl) (aL zi hr rfl (ae (pv 0) (ae (pv 1) (ae (pv 2) ag (ao nofun)) (ao nofun)) (ao nofun))))
   (av (aP (i:=4) nd rfl (Or.inr rfl) (abm (x:= "row") (fr:=[]) rfl T.sorted tb rfl (hr.mono (dP _)) ⟨cA (aB kG) ["order","one","other","found","turned","longer_one","longer_other"] rfl rfl (by trivial),⟨rfl,rfl,rfl,by trivial,by trivial,by trivial,by trivial⟩,λ_ _ _ _ us hl=>match us,hl with | [_],_=>rfl,λ_ _ _ _ _ _ _ _=>fP (ae (aq (aK (K:=K) rfl) (pv 0) ak (λ_ _=>rfl)) (ae (aq (aK (K:=K) rfl) (pv 0) ak (λ_ _=>rfl)) ag))⟩ (pv 3)))
   (av (aP (i:=5) nd rfl (Or.inl rfl) (aI gC (bU (ae (aq (aX (K:=K) rfl) (pv 1) ak (λ_ _=>rfl)) ag)) (dj (own:=["row"]) (fr:=[("order", 0),("one", 1)]) rfl (cA (aB kG) ["order","one","other","found","turned","longer_one","longer_other"] rfl rfl (by trivial)) (dC (K:=K) rfl (pv 3)) (λ_ _ _ _=>⟨(bj (i:=0) (by trivial:(["row","order","one"]:List Str).Nodup) rfl (Or.inl rfl)),da,(aq (aK (K:=K) rfl) (aq (aK (K:=K) rfl) (eW (K:=K) rfl (pv 1) rfl) (aq (aX (K:=K) rfl) (pv 2) (aq (aK (K:=K) rfl) (pv 0) ak (λ_ _=>rfl)) (λ_ _=>rfl)) (λ_ _=>rfl)) (aq (aK (K:=K) rfl) (pv 0) ak (λ_ _=>rfl)) (λ_ _=>rfl))⟩))))
   (av (aP (i:=6) nd rfl (Or.inl rfl) (aI gC (bU (ae (aq (aX (K:=K) rfl) (pv 2) ak (λ_ _=>rfl)) ag)) (dj (own:=["row"]) (fr:=[("order", 0),("other", 2)]) rfl (cA (aB kG) ["order","one","other","found","turned","longer_one","longer_other"] rfl rfl (by trivial)) (dC (K:=K) rfl (pv 4)) (λ_ _ _ _=>⟨(bj (i:=0) (by trivial:(["row","order","other"]:List Str).Nodup) rfl (Or.inl rfl)),da,(aq (aK (K:=K) rfl) (aq (aK (K:=K) rfl) (eW (K:=K) rfl (pv 1) rfl) (aq (aX (K:=K) rfl) (pv 2) (aq (aK (K:=K) rfl) (pv 0) ak (λ_ _=>rfl)) (λ_ _=>rfl)) (λ_ _=>rfl)) (aq (aK (K:=K) rfl) (pv 0) ak (λ_ _=>rfl)) (λ_ _=>rfl))⟩))))
   (ay (aR (fP (ae (pv 5) (ae (pv 6) (ae (dj (own:=["row"]) (fr:=[("turned", 4)]) rfl (cA (aB kG) ["order","one","other","found","turned","longer_one","longer_other"] rfl rfl (by trivial)) (dC (K:=K) rfl (pv 3)) (λ_ _ _ _=>⟨(bj (i:=0) (by trivial:(["row","turned"]:List Str).Nodup) rfl (Or.inl rfl)),da,(fP (ae (eP (K:=K) rfl eE kY qK (Zc (K:=K) 1 rfl hu1) (pv 1) (ae (pv 0) ag)) (ae (aq (aK (K:=K) rfl) (pv 0) ak (λ_ _=>rfl)) (ae (aq (aK (K:=K) rfl) (pv 0) ak (λ_ _=>rfl)) ag (ao nofun)) (ao nofun)) (ao nofun)))⟩)) ag (ao nofun)) (ao nofun)) (ao nofun))))))))))),?_⟩
  refine⟨_,rfl,_,rfl,_,rfl,p,t,u,n,R,zs,ws,rfl,hO,hn,hT,hU,gy,hwl,λc1 c2 e H1 s1=>?_,λz H1 s1=>k1 z _ s1,λc1 c2 e H1 s1=>k2 c1 c2 e _ s1⟩;refine⟨_,rfl,p,n,R,rfl,hO.eQ s1,G,hn,λJ0 N0 M0 H2 s2 no=>?_,λdx u' fs a b c' H2 s2 f1 f2 f3 f4=>k3 c1 c2 e dx u' fs a b c' H2 (s1.trans s2) f1 f2 f3 f4⟩;have M:=M0.other hj hmm;obtain⟨cs,rfl,hcs⟩:=JX c1;obtain⟨ds,rfl,hds⟩:=JX c2;have TW:=ado M hcs hds e;have kk:=λtt L1 L2 L3 us H'=>k4 cs ds TW tt L1 L2 L3 us H' rfl rfl;clear k1 k2 k3 k4;rw[vo]at hT hU;have dD:=s1.trans s2;have hcl:=hcs.len G;have hdl:=hds.len G;refine⟨_,rfl,_,rfl,_,rfl,p,t,u,n,R,J,N,cs,ds,rfl,hO.eQ dD,M,dD.seq hT,dD.seq hU,hcs.lt,hds.lt,by omega,by omega,λL us H3 s3 hL gL hm=>?_⟩;have lR:=dD.trans s3;have hfl:(aO J N cs ds).length=us.length:=cp hm;have WY:=TW.K0;have hget:∀(H':Hp),Same H3 H'->∀i,i<us.length->∃ti,us[i]?=some (.ref ti)/\(aO J N cs ds)[i]?=some ((aO J N cs ds).getD i (0,0))/\H' ti=some (.tup [nV ((aO J N cs ds).getD i (0,0)).1,nV ((aO J N cs ds).getD i (0,0)).2,nV (dA J N cs ds ((aO J N cs ds).getD i (0,0))),nV (cJ N cs ds ((aO J N cs ds).getD i (0,0)))]):=λH' s' i hi=>by
   obtain⟨r,hr,ti,e1,e2⟩:=c7 (fM.same s' hm) (aA hi);have er:(aO J N cs ds).getD i (0,0)=r:=by rw[aQ,hr];rfl
   rw[er];exact⟨ti,by rw[aA hi,e1],hr,e2⟩
  refine⟨_,rfl,lR _ _ hP,us,(aO J N cs ds).map gZ,(aO J N cs ds).map λr=>[nV r.2,nV r.1],.inr ⟨L,rfl,ah.of gL⟩,by rw[az];exact hfl,by rw[az];exact hfl,by omega,?_,λi y wv hy hw H4 s4=>?_,λys D H4 s4 hD gD so=>?_⟩
  ·have:=adf (X:=cI (bN P w) P w K mg base ["order","one","other","found","turned","longer_one","longer_other"] "longer" (aB kG) f (.ref c) A outer s H E) (H:=H3) (ks:=(aO J N cs ds).map λr=>((r.2:Int),(r.1:Int))) (λk hk=>by
    obtain⟨r,hr,rfl⟩:=dc.mp hk;have:=(ik.mp hr).1
    constructor
    ·show(0:Int)<=(r.1:Int)
     omega
    ·show(r.1:Int)<1000
     omega)
   rw[eB,eB]at this;exact this
  ·have hi:i<us.length:=(bJ.mp hy).1
   obtain⟨ti,e1,e2,e3⟩:=hget H4 s4 i hi;rw[hy]at e1;cases e1;rw[bW,e2]at hw;cases hw;exact⟨_,rfl,ti,_,1,_,rfl,rfl,ax.of e3,aH (j:=1) rfl,_,rfl,ti,_,0,_,rfl,rfl,ax.of e3,aH (j:=0) rfl,by show 2<=sizeLine;decide,λq hq=>⟨⟨q,rfl,au⟩,Same.put hq⟩⟩
  ·obtain⟨tn,hpm,hsr,Cz⟩:=acB (H:=H4) (F:=fM J N cs ds H4) (fM.same s4 hm) so
   obtain rfl:=acE (by omega) hpm hsr;have t4:=lR.trans s4;obtain⟨dx,vp,vr,vj,vm,o1,_,_,oj,om⟩:=id hO;have ej:∀a b,a<n->b<n->gw n R a b = .int (J a b:Nat):=λa b ha hb=>ja M.G.dis (M.j a b ha hb).1 (M.j a b ha hb).2;have hyl:(cH J N cs ds).length=ys.length:=cp Cz;have hfy:=hpm.length_eq;have Kr:∀(H':Hp),Same H3 H'->∀i,i<us.length->∃ti,us.getD i .non = .ref ti/\(aO J N cs ds).getD i (0,0)∈aO J N cs ds/\H' ti=some (.tup [nV ((aO J N cs ds).getD i (0,0)).1,nV ((aO J N cs ds).getD i (0,0)).2,nV (dA J N cs ds ((aO J N cs ds).getD i (0,0))),nV (cJ N cs ds ((aO J N cs ds).getD i (0,0)))]):=λH' s' i hi=>by
    obtain⟨ti,e1,e2,e3⟩:=hget H' s' i hi;exact⟨ti,by rw[aQ,e1];rfl,df e2,e3⟩
   have U_:∀(H':Hp),Same H4 H'->∀i,i<ys.length->∃ti,ys.getD i .non = .ref ti/\(cH J N cs ds).getD i (0,0)∈aO J N cs ds/\H' ti=some (.tup [nV ((cH J N cs ds).getD i (0,0)).1,nV ((cH J N cs ds).getD i (0,0)).2,nV (dA J N cs ds ((cH J N cs ds).getD i (0,0))),nV (cJ N cs ds ((cH J N cs ds).getD i (0,0)))]):=λH' s' i hi=>by
    obtain⟨r,hr,ti,e1,e2⟩:=c7 (fM.same s' Cz) (aA hi);have er:(cH J N cs ds).getD i (0,0)=r:=by rw[aQ,hr];rfl
    rw[er];exact⟨ti,by rw[aQ,aA hi,e1];rfl,vF.mp (df hr),e2⟩
   have iG:=s4 _ _ gL;refine⟨_,rfl,t,_,0,nV (cs.getD 0 0),rfl,rfl,t4.seq hT,aH (j:=0) (fN hcs.pos),by show 1<=sizeLine;decide,λp1 hp1=>?_⟩;have jn:=Same.put (o:=.lst [nV (cs.getD 0 0)]) hp1;refine⟨_,rfl,L,rfl,⟨_,ah.of (jn _ _ iG)⟩,λD1 hD1=>fk (λj=>nV (dX J N cs ds ((aO J N cs ds).getD j (0,0)))) (src_list (ah.of (jn _ _ iG))) hD1 (dw (by omega)) (λj H5 Kt hj hs hk=>?_) (λH5 hs eV=>?_)⟩
   ·have cy:=jn.trans hs
    obtain⟨ti,eg,hm',e3⟩:=Kr H5 (s4.trans cy) j hj;generalize (aO J N cs ds).getD j (0,0)=r at hm' e3 hk ⊢;have h1:=(ik.mp hm').1;have hx:=hcs.at (i:=r.1) (by omega);have hh:=(TW.row hm').lh;obtain⟨ra,wv,rb,rfl,q1,q2,q3⟩:=(oj.same (t4.trans cy)).get hx;refine⟨_,rfl,p,C,dx,_,_,rfl,(t4.trans cy) _ _ o1,TC.cl,TC.nJ,oX _ _ _ _ _,_,rfl,_,rfl,ti,_,0,nV r.1,eg,rfl,ax.of e3,aH (j:=0) rfl,t,_,_,nV (cs.getD r.1 0),rfl,rfl,(t4.trans cy).seq hT,aH (fN (by omega)),ra,wv,_,.ref rb,rfl,rfl,ax.of q1,aH q2,_,rfl,ti,_,3,nV (cJ N cs ds r),eg,rfl,ax.of e3,aH (j:=3) rfl,rb,_,_,.int (J (cs.getD r.1 0) (cJ N cs ds r):Nat),rfl,rfl,ax.of q3,aH (by rw[eM hh,ej _ _ hx hh]),?_⟩;exact hk _ (Same.refl _)
   ·have cy:=jn.trans hs
    rw[<- hfl,N5 (aO J N cs ds) (0,0) (λr=>nV (dX J N cs ds r))]at eV;refine⟨p1,D1,_,_,rfl,rfl,hs _ _ au,eV,by rw[az];show 1+_<=_;exact fD (dw (by omega)),λl1 hl1=>?_⟩;have Rp:=Same.put (o:=.lst ([nV (cs.getD 0 0)]++(aO J N cs ds).map λr=>nV (dX J N cs ds r))) hl1;have g1:(upd H5 l1 (.lst ([nV (cs.getD 0 0)]++(aO J N cs ds).map λr=>nV (dX J N cs ds r)))) l1=some (.lst ((ie J N cs ds).map nV)):=by
     rw[au];unfold ie;rw[dr,eB];rfl
    have jV:=cy.trans Rp;have n1:H4 l1=none:=cy.free hl1;generalize upd H5 l1 (.lst ([nV (cs.getD 0 0)]++(aO J N cs ds).map λr=>nV (dX J N cs ds r)))=H6 at g1 jV ⊢;clear eV hs Rp cy hp1 jn hD1 hl1;dsimp only[cD];show kH _ _ _ [some (.ref p),some (.ref t),some (.ref u),some (.ref L),some (.ref D),some (.ref l1),none] H6;have t6:=t4.trans jV;have B_:=jV _ _ gD;refine⟨_,rfl,u,_,0,nV (ds.getD 0 0),rfl,rfl,t6.seq hU,aH (j:=0) (fN hds.pos),by show 1<=sizeLine;decide,λp1 hp1=>?_⟩;have jn:=Same.put (o:=.lst [nV (ds.getD 0 0)]) hp1;refine⟨_,rfl,D,rfl,⟨_,ah.of (jn _ _ B_)⟩,λD1 hD1=>fk (λj=>nV (dX J N ds cs ((cH J N cs ds).getD j (0,0)).swap)) (src_list (ah.of (jn _ _ B_))) hD1 (dw (by omega)) (λj H7 Kt hj hs hk=>?_) (λH7 hs rR=>?_)⟩
    ·have lV:=jn.trans hs
     obtain⟨ti,eg,hm',e3⟩:=U_ H7 (jV.trans lV) j hj;generalize (cH J N cs ds).getD j (0,0)=r at hm' e3 hk ⊢;have h1:=(ik.mp hm').2.1;have hx:=hds.at (i:=r.2) (by omega);have hh:=(TW.row hm').lh;obtain⟨ra,wv,rb,rfl,q1,q2,q3⟩:=(oj.same (t6.trans lV)).get hx;refine⟨_,rfl,p,C,dx,_,_,rfl,(t6.trans lV) _ _ o1,TC.cl,TC.nJ,oX _ _ _ _ _,_,rfl,_,rfl,ti,_,1,nV r.2,eg,rfl,ax.of e3,aH (j:=1) rfl,u,_,_,nV (ds.getD r.2 0),rfl,rfl,(t6.trans lV).seq hU,aH (fN (by omega)),ra,wv,_,.ref rb,rfl,rfl,ax.of q1,aH q2,_,rfl,ti,_,3,nV (cJ N cs ds r),eg,rfl,ax.of e3,aH (j:=3) rfl,rb,_,_,.int (J (ds.getD r.2 0) (cJ N cs ds r):Nat),rfl,rfl,ax.of q3,aH (by rw[eM hh,ej _ _ hx hh]),?_⟩;rw[TW.aa0 hm']at hk;exact hk _ (Same.refl _)
    ·have lV:=jn.trans hs
     rw[<- hyl,N5 (cH J N cs ds) (0,0) (λr=>nV (dX J N ds cs r.swap))]at rR;refine⟨p1,D1,_,_,rfl,rfl,hs _ _ au,rR,by rw[az];show 1+_<=_;exact fD (dw (by omega)),λl2 hl2=>?_⟩;have sl2:=Same.put (o:=.lst ([nV (ds.getD 0 0)]++(cH J N cs ds).map λr=>nV (dX J N ds cs r.swap))) hl2;have g2:(upd H7 l2 (.lst ([nV (ds.getD 0 0)]++(cH J N cs ds).map λr=>nV (dX J N ds cs r.swap)))) l2=some (.lst ((ie J N ds cs).map nV)):=by
      rw[au];unfold ie;rw[dr,eB,Hd TW,eB];rfl
     have lW:=lV.trans sl2;have n2:H6 l2=none:=lV.free hl2;generalize upd H7 l2 (.lst ([nV (ds.getD 0 0)]++(cH J N cs ds).map λr=>nV (dX J N ds cs r.swap)))=H8 at g2 lW ⊢;clear rR hs sl2 lV hp1 jn hD1 hl2;dsimp only[cD];have t8:=t6.trans lW;have K8:=lW _ _ (jV _ _ iG);have K6:=lW _ _ B_;have Zj:l1≠l2:=λz=>by rw[<- z,g1]at n2;cases n2
     refine⟨_,rfl,_,rfl,_,rfl,L,rfl,⟨_,ah.of K8⟩,λD3 lE=>mS (λj v H=>∃tq,v = .ref tq/\tq≠D3/\H tq=some (.tup [nV ((cH J N cs ds).idxOf ((aO J N cs ds).getD j (0,0))),nV (dA J N cs ds ((aO J N cs ds).getD j (0,0))),nV (cJ N cs ds ((aO J N cs ds).getD j (0,0)))])) (src_list (ah.of K8)) lE (dw (by omega)) (λj v Ha Hb sx hpq=>by obtain⟨b,e1,e2,e3⟩:=hpq;exact⟨b,e1,e2,sx _ _ e2 e3⟩) (λj H9 Kt hj hs ⟨yy,m8⟩ hk=>?_) (λH9 Hj hs hl9 hp9=>?_)⟩
     ·obtain⟨ti,eg,hm',e3⟩:=Kr H9 (s4.trans (jV.trans (lW.trans hs))) j hj
      generalize (aO J N cs ds).getD j (0,0)=r at hm' e3 hk ⊢;obtain⟨e,x1,x2,x3,x4⟩:=YX (K:=K) (y:=us.getD j .non) (fM.same (jV.trans (lW.trans hs)) Cz) (vF.mpr hm') ⟨ti,eg,e3⟩;refine⟨_,rfl,.inl ⟨rfl,_,ah.of (hs _ _ K6)⟩,_,rfl,D,ys,_,e,(cH J N cs ds).idxOf r,rfl,rfl,ah.of (hs _ _ K6),x1,x2,x3,x4,_,rfl,ti,_,2,nV (dA J N cs ds r),eg,rfl,ax.of e3,aH (j:=2) rfl,_,rfl,ti,_,3,nV (cJ N cs ds r),eg,rfl,ax.of e3,aH (j:=3) rfl,by show 3<=sizeLine;decide,λq hq=>?_⟩;exact hk _ _ (Same.put hq) ⟨q,rfl,(λz=>by rw[z,m8]at hq;cases hq),au⟩
     ·have Zk:l1≠D3:=λz=>by rw[<- z,lW _ _ g1]at lE;cases lE
      have Zm:l2≠D3:=λz=>by rw[<- z,g2]at lE;cases lE
      refine⟨by show 3<=sizeLine;decide,λtt htt=>?_⟩;have st:=Same.put (o:=.tup [.ref l1,.ref l2,.ref D3]) htt;have El:=hs.trans st;refine kk tt l1 l2 D3 Hj _ (t8.trans El) no au ⟨t4.free n1,t6.free n2,t8.free lE,Zj,Zk,Zm⟩ (El _ _ (lW _ _ g1)) (El _ _ g2) (st _ _ hl9) ?_ hpm;refine sG (by rw[hfl,<- cp hp9,jx]) λi r v hr hv=>?_;obtain⟨j,hj,b,e1,_,e3⟩:=c7 hp9 hv;have hi:i<us.length:=by have:=(bJ.mp hr).1;omega
      rw[mx hi]at hj;cases hj;have er:(aO J N cs ds).getD i (0,0)=r:=by rw[aQ,hr];rfl
      rw[er]at e3;exact⟨b,e1,st _ _ e3⟩
end
section
variable {P:Program} {w:World} {K:W.Frag} {mg:Str->Option Value} {base:Heap} {f:Addr} {fd:FuncData}
end
section
variable {P:Program} {w:World} {K:W.Frag} {mg:Str->Option Value} {base:Heap} {f:Addr} {fd:FuncData} {a0 a1 a2 a3 a4 a5 a6 a7 a8 a9 a10 a11 a12 a13 a14 aE:Addr}
abbrev Ft:Stmt:=top 44
theorem Q9:a_ ["order","one","other"] ["order","one","other"] (aB Ft):=by trivial
def GR(K:W.Frag)(C cC cE:Addr):Sp:=λvs H Q E=>∃(p t u n:Nat) (R:Nat->Nat->Bool) (zs ws:List Int),vs = [.ref p,.ref t,.ref u]/\eD C H p n R/\n<=24/\ah K H t (zs.map V.int)/\ah K H u (ws.map V.int)/\zs.length<=1000/\ws.length<=1000 /\
 (dh n R zs=true->dh n R ws=true->fH zs ws=true->∀H',Same H H'->Q .non H')/\(¬ (dh n R zs=true/\dh n R ws=true)->∀H',Same H H'->E (.ref cC) none H')/\(dh n R zs=true->dh n R ws=true->fH zs ws=false->∀H',Same H H'->E (.ref cE) none H')
theorem aaP {C:Addr} (F:aU K "need_two_climbs" "need_two_climbs" Ft f fd) (T:Txt mg) (TC:eZ K C) (Er:kM mg a0 a1 a2 a3 a4 a5 a6 a7 a8 a9 a10 a11 a12 a13 a14 aE) (uN:eR P w K mg base "need_climb" ["order","things"] 5 (Gk K C a1)) (oV:eR P w K mg base "need_like_ends" ["one","other"] 1 (wZ K a3)) :
  aN P w K mg base (bN P w) 6 f fd ["order","one","other"] (GR K C a1 a3):=by
 refine F.pJ Q9 (λvs H Q E h=>?_) (λcdv A outer s H vs Q E hr h=>?_)
 ·obtain⟨p,t,u,n,R,zs,ws,rfl,_⟩:=h
  rfl
 ·obtain⟨p,t,u,n,R,zs,ws,rfl,hO,hn,hT,hU,gy,hwl,k1,k2,k3⟩:=h
  have nd:=Q9.nd;refine⟨_,(av (cT (kF uN lK hr rfl (ae (pv 0) (ae (pv 1) ag))))
   (av (cT (kF uN lK hr rfl (ae (pv 0) (ae (pv 2) ag))))
   (ay (cT (kF oV lK hr rfl (ae (pv 1) (ae (pv 2) ag))))))),?_⟩
  refine⟨_,rfl,_,rfl,p,t,n,R,zs,rfl,hO,hn,hT,gy,λc1 H1 s1=>?_,λc1 H1 s1=>k2 (λz=>by rw[z.1]at c1;cases c1) _ s1⟩;refine⟨_,rfl,_,rfl,p,u,n,R,ws,rfl,hO.eQ s1,hn,s1.seq hU,hwl,λc2 H2 s2=>?_,λc2 H2 s2=>k2 (λz=>by rw[z.2]at c2;cases c2) _ (s1.trans s2)⟩;have s12:=s1.trans s2;exact⟨_,rfl,_,rfl,t,u,zs,ws,rfl,s12.seq hT,s12.seq hU,J9 c1,J9 c2,λe H3 s3=>k1 c1 c2 e _ (s12.trans s3),λe H3 s3=>k3 c1 c2 e _ (s12.trans s3)⟩
end
noncomputable def iN (p m e:Nat × Nat):List (Nat × Nat):=if m=p then(if e=p then[p]else[p,e])else(if e=m then[p,m]else[p,m,e])
theorem DG{K:W.Frag}{H:Hp}{p q:Nat × Nat}:mr K H 0 [V.int (p.1:Int),.int (p.2:Int)] [.int (q.1:Int),.int (q.2:Int)] (λj=>if j=0 then((p.1:Int)==(q.1:Int))else((p.2:Int)==(q.2:Int))):=by
 refine⟨rfl,λj x y hx hy=>?_⟩
 match j with
 |0=>cases hx;cases hy;exact bK.int 0 _ _
 |1=>cases hx;cases hy;exact bK.int 0 _ _
 |j+2=>simp at hx
theorem Dz{p q:Nat × Nat}:(List.range [V.int (p.1:Int),.int (p.2:Int)].length).all (λj=>if j=0 then((p.1:Int)==(q.1:Int))else((p.2:Int)==(q.2:Int)))=decide (p=q):=by
 show(List.range 2).all _=_;rw[dk,cL];simp only[iU,List.range_zero,H_,HB,xQ,List.all_nil,xG,bF,gR,if_pos,Nat.one_ne_zero,h9,Prod.ext_iff];omega
section
variable {P:Program} {w:World} {K:W.Frag} {mg:Str->Option Value} {base:Heap} {f:Addr} {fd:FuncData} {a0 a1 a2 a3 a4 a5 a6 a7 a8 a9 a10 a11 a12 a13 a14 aE:Addr}
abbrev wK:Stmt:=top 58
theorem Rg:a_ ["start","middle","end","told","part"] ["start","middle","end"] (aB wK):=by trivial
def GD:Sp:=λvs H Q _=>∃(v1 v2 v3:V) (p m e:Nat × Nat),vs = [v1,v2,v3]/\bT H p v1/\bT H m v2/\bT H e v3 /\
 ∀L us H',Same H H'->H L=none->H' L=some (.lst us)->Paired (λ(q:Nat × Nat) (v:V)=>bT H q v) (iN p m e) us->Q (.ref L) H'
theorem aay (F:aU K "road" "road" wK f fd) (T:Txt mg):aN P w K mg base aZ 1 f fd ["start","middle","end"] GD:=by
 refine F.ok Rg (λvs H Q E h=>?_) (λcdv A outer s H vs Q E hr h=>?_)
 ·obtain⟨v1,v2,v3,p,m,e,rfl,_⟩:=h
  rfl
 ·obtain⟨v1,v2,v3,p,m,e,rfl,⟨t1,rfl,g1⟩,⟨t2,rfl,g2⟩,⟨t3,rfl,g3⟩,kk⟩:=h
  have nd:=Rg.nd;have hu0:=hr.units;have hu1:(A.deeper (envOfC "road" (aB wK) s.heap.objs.size f cdv)).units+1+0<cLine:=by omega
  refine⟨_,(av (aP (i:=3) nd rfl (Or.inl rfl) (bU (ae (pv 0) ag)))
   (av (cx cq rfl (DW (K:=K) rfl (fP (ae (pv 1) (ae (pv 2) ag)))) (bj (i:=4) nd rfl (Or.inl rfl))
   (ay (bA (bw (vQ (K:=K) false 0 rfl hu1) (pv 4) (aq (aX (K:=K) rfl) (pv 3) (lL lY ak) (λ_ _=>rfl)) (bh _)) (ay (cT (eP (K:=K) rfl eE iW jz iK (pv 3) (ae (pv 4) ag)))) bD)))
   (ay (aR (pv 3))))),?_⟩
  refine⟨_,rfl,by show 1<=sizeLine;decide,λL hL=>?_⟩;have sL:=Same.put (o:=.lst [.ref t1]) hL;dsimp only[cD];refine⟨_,rfl,_,rfl,by show 2<=sizeLine;decide,λTt m6=>?_⟩;have sT:=Same.put (o:=.tup [.ref t2,.ref t3]) m6;have Zg:L≠Tt:=λz=>by rw[<- z,au]at m6;cases m6
  refine⟨Tt,rfl,⟨_,ax.of au⟩,Vy (K:=K) (a:=Tt) (xs:=[.ref t2,.ref t3]) (λi σ H2=>∃(v4:Option V) (us:List V) (qs:List (Nat × Nat)) (q:Nat × Nat) (v:V),σ = [some (.ref t1),some (.ref t2),some (.ref t3),some (.ref L),v4]/\Same H H2/\H2 Tt=some (.tup [.ref t2,.ref t3])/\H2 L=some (.lst (us++[v]))/\Paired (λ(q:Nat × Nat) (v:V)=>bT H q v) (qs++[q]) (us++[v])/\bT H q v/\us.length<=i /\
    (i=0->qs++[q] = [p])/\(i=1->qs++[q]=if m=p then[p]else[p,m])/\(i=2->qs++[q]=iN p m e))
   ⟨none,[],[],p,.ref t1,rfl,sL.trans sT,au,sT _ _ au,.cons ⟨t1,rfl,g1⟩ .nil,⟨t1,rfl,g1⟩,dP _,λ_=>rfl,λz=>by omega,λz=>by omega⟩ (λi σ H2 _ hpq=>by obtain⟨_,_,_,_,_,_,_,gT,_⟩:=hpq;exact ax.of gT) ?_ ?_⟩
  ·rintro i x σ H2 hx ⟨v4,us,qs,q,v,rfl,s2,gT,gL,hp,hq,jK,i0,i1,i2⟩
   obtain⟨k,tk,ek,gk,hk⟩:∃(k:Nat × Nat) (tk:Addr),x = .ref tk/\H tk=some (.tup [.int k.1,.int k.2])/\((i=0/\k=m)\/(i=1/\k=e)):=by
    match i,hx with
    |0,hx=>cases hx;exact⟨m,t2,rfl,g2,.inl ⟨rfl,rfl⟩⟩
    |1,hx=>cases hx;exact⟨e,t3,rfl,g3,.inr ⟨rfl,rfl⟩⟩
    |i+2,hx=>simp at hx
   subst ek;obtain⟨tq,rfl,gq⟩:=hq;dsimp only[cD];have lst:∀l:List (Nat × Nat),∀z w,l++[z] = [w]->z=w:=λl z w h=>by
    have:=congrArg (λl=>l.getLast?) h;simpa using this
   have N4:∀l:List (Nat × Nat),∀z w w',l++[z] = [w,w']->z=w':=λl z w w' h=>by
    have:=congrArg (λl=>l.getLast?) h;simpa using this
   refine⟨_,rfl,_,rfl,1,rfl,L,_,_,.ref tq,rfl,rfl,ah.of gL,uC us (.ref tq),tk,tq,_,_,_,rfl,rfl,ax.of (s2 _ _ gk),ax.of (s2 _ _ gq),DG,?_⟩;rw[Dz];refine⟨_,rfl,bq (λh=>?_) (λh=>?_)⟩
   ·have ne:k≠q:=λz=>by rw[cB z]at h;simp at h
    refine⟨_,rfl,.inl ⟨rfl,_,ah.of gL⟩,_,rfl,L,_,.ref tk,rfl,rfl,gL,dw (by rw[cz,mB];rcases hk with⟨rfl,_⟩|⟨rfl,_⟩<;>omega),?_⟩;have Zh:Tt≠L:=λz=>Zg z.symm;refine⟨_,us++[.ref tq],qs++[q],k,.ref tk,rfl,λb o eb=>by rw[aF (c6 eb hL)];exact s2 _ _ eb,by rw[aF Zh];exact gT,au,Paired.Rt hp ⟨tk,rfl,gk⟩,⟨tk,rfl,gk⟩,by rw[cz,mB];omega,λz=>by omega,λz=>?_,λz=>?_⟩
    ·rcases hk with⟨rfl,rfl⟩|⟨rfl,_⟩
     ·have e0:=i0 rfl
      have eq:=lst _ _ _ e0;rw[eq]at ne;rw[e0,if_neg ne];rfl
     ·omega
    ·rcases hk with⟨rfl,_⟩|⟨rfl,rfl⟩
     ·omega
     ·have e1:=i1 rfl
      unfold iN
      by_cases c:m=p
      ·rw[if_pos c]at e1 ⊢
       have eq:=lst _ _ _ e1;rw[eq]at ne;rw[e1,if_neg ne];rfl
      ·rw[if_neg c]at e1 ⊢
       have eq:=N4 _ _ _ _ e1;rw[eq]at ne;rw[e1,if_neg ne];rfl
   ·have eq:k=q:=by
     apply nT
     intro z;rw[cg z]at h;simp at h
    refine⟨_,us,qs,q,.ref tq,rfl,s2,gT,gL,hp,⟨tq,rfl,gq⟩,by omega,λz=>by omega,λz=>?_,λz=>?_⟩
    ·rcases hk with⟨rfl,rfl⟩|⟨rfl,_⟩
     ·have e0:=i0 rfl
      have e2:=lst _ _ _ e0;rw[e0,if_pos (eq.trans e2)]
     ·omega
    ·rcases hk with⟨rfl,_⟩|⟨rfl,rfl⟩
     ·omega
     ·have e1:=i1 rfl
      unfold iN
      by_cases c:m=p
      ·rw[if_pos c]at e1 ⊢
       have e2:=lst _ _ _ e1;rw[e1,if_pos (eq.trans e2)]
      ·rw[if_neg c]at e1 ⊢
       have e2:=N4 _ _ _ _ e1;rw[e1,if_pos (eq.trans e2)]
  ·rintro σ H2 ⟨v4,us,qs,q,v,rfl,s2,gT,gL,hp,hq,jK,i0,i1,i2⟩
   have e2:=i2 rfl;rw[e2]at hp;exact⟨_,rfl,kk L _ H2 s2 hL gL hp⟩
theorem J6{n:Nat}{R:Nat->Nat->Bool}{zs:List Int}(h:dh n R zs=true):c5 n R zs=true:=by
 unfold dh at h;rw[bF]at h;exact h.1
theorem J7{n:Nat}{R:Nat->Nat->Bool}{cs:List Nat}(h:dh n R (cs.map λx:Nat=>(x:Int))=true):∀i,i+1<cs.length->bH n R (cs.getD i 0) (cs.getD (i+1) 0)=true:=λi hi=>by
 unfold dh mK at h;rw[bF,fB]at h;have:=h.2 i (by rw[az];exact dO.mpr (by omega));rw[fW,fW,dq,dq]at this;exact this
noncomputable def jm (J N:Nat->Nat->Nat) (cs ds:List Nat) (r:Nat × Nat):List (Nat × Nat):=iN (cs.getD r.1 0,cs.getD (r.1+1) 0) (dA J N cs ds r,cJ N cs ds r) (ds.getD r.2 0,ds.getD (r.2+1) 0)
noncomputable def kC (J N:Nat->Nat->Nat) (cs ds:List Nat) (H0:Hp) (L:Addr) (H:Hp) (r:Nat × Nat) (v:V):Prop:=∃(t rl:Addr) (ws:List V),v = .ref t/\H t=some (.tup [nV r.2,.ref rl])/\H0 rl=none/\rl≠L/\H rl=some (.lst ws)/\Paired (bT H) (jm J N cs ds r) ws
theorem kC.same{J N:Nat->Nat->Nat}{cs ds:List Nat}{H0 H H':Hp}{L:Addr}(s:Same H H'){l:List (Nat × Nat)}{us:List V}(h:Paired (kC J N cs ds H0 L H) l us):Paired (kC J N cs ds H0 L H') l us:=Paired.di h λ_ _ hpq=>by obtain⟨t,rl,ws,e,q1,q2,q3,q4,q5⟩:=hpq;exact⟨t,rl,ws,e,s _ _ q1,q2,q3,s _ _ q4,c9.same s q5⟩
abbrev wI:Stmt:=top 59
theorem Ra:a_ ["order","one","other","rows","ends"] ["order","one","other"] (aB wI):=by trivial
def Gx(K:W.Frag)(C cC cE cN Pt:Addr):Sp:=λvs H Q E=>∃(p t u n:Nat) (R:Nat->Nat->Bool) (J N:Nat->Nat->Nat) (zs ws:List Int),vs = [.ref p,.ref t,.ref u]/\eD C H p n R/\Good n R/\n<=24/\(∀a b,a<n->b<n->bG n R a b (J a b))/\(∀a b,a<n->b<n->bM n R a b (N a b))/\H Pt=some (.lam lI lJ)/\ah K H t (zs.map V.int)/\ah K H u (ws.map V.int)/\zs.length<=1000/\ws.length<=1000 /\
 (¬ (dh n R zs=true/\dh n R ws=true)->∀H',Same H H'->E (.ref cC) none H')/\(dh n R zs=true->dh n R ws=true->fH zs ws=false->∀H',Same H H'->E (.ref cE) none H') /\
 (dh n R zs=true->dh n R ws=true->fH zs ws=true->∀dx u fs a b c H',Same H H'->First n (Un n R) a b c->H' dx=some (.xd [("five", .ref u)])->H' u=some (.tup (fs.map V.int))->Five n R fs->E (.ref cN) (some dx) H') /\
 (∀(cs ds:List Nat) (_:Two n R J N cs ds) (_:∀i,i+1<cs.length->bH n R (cs.getD i 0) (cs.getD (i+1) 0)=true) (_:∀i,i+1<ds.length->bH n R (ds.getD i 0) (ds.getD (i+1) 0)=true) (L:Addr) us H',zs=(cs.map λx:Nat=>(x:Int))->ws=(ds.map λx:Nat=>(x:Int))->Same H H'->(∀a b c,a<n->b<n->c<n->¬ Un n R a b c)->H L=none ->
  H' L=some (.lst us)->Paired (kC J N cs ds H L H') (aO J N cs ds) us->(cH J N cs ds).Perm (aO J N cs ds)->Q (.ref L) H')
theorem aaQ {C Pt:Addr} (F:aU K "paired" "paired" wI f fd) (T:Txt mg) (TC:eZ K C) (zI:eR P w K mg base "need_two_climbs" ["order","one","other"] 6 (GR K C a1 a3)) (zF:eR P w K mg base "longer" ["order","one","other"] 7 (Gh K C a0 a3 a14 Pt)) (lB:aC P w K mg base "parts_of" ["chain"] 1 (w6 K)) (zt:aC P w K mg base "road" ["start","middle","end"] 1 GD) :
  aN P w K mg base (bN P w) 8 f fd ["order","one","other"] (Gx K C a1 a3 a14 Pt):=by
 refine F.pJ Ra (λvs H Q E h=>?_) (λcdv A outer s H vs Q E hr h=>?_)
 ·obtain⟨p,t,u,n,R,J,N,zs,ws,rfl,_⟩:=h
  rfl
 ·obtain⟨p,t,u,n,R,J,N,zs,ws,rfl,hO,G,hn,hJ,hM,hP,hT,hU,gy,hwl,k1,k2,k3,k4⟩:=h
  have nd:=Ra.nd;refine⟨_,(av (cT (kF zI lK hr rfl (ae (pv 0) (ae (pv 1) (ae (pv 2) ag (ao nofun)) (ao nofun)) (ao nofun))))
   (av (aP (i:=3) nd rfl (Or.inl rfl) (aq (aK (K:=K) rfl) (kF zF lK hr rfl (ae (pv 0) (ae (pv 1) (ae (pv 2) ag (ao nofun)) (ao nofun)) (ao nofun))) ak (λ_ _=>rfl)))
   (av (aP (i:=4) nd rfl (Or.inr rfl) (aL lB hr rfl (ae (pv 2) ag)))
   (ay (aR (dj (own:=["step","row"]) (fr:=[("ends", 4)]) rfl (cA (aB wI) ["order","one","other","rows","ends"] rfl rfl (by trivial)) (pR (K:=K) true true rfl rfl T.zip (ae (aL lB hr rfl (ae (pv 1) ag)) (ae (pv 3) ag))) (λ_ _ _ _=>⟨(iM (K:=K) (i:=0) (j:=1) rfl rfl (by trivial:(["step","row","ends"]:List Str).Nodup) rfl rfl rfl rfl),da,(fP (ae (aq (aK (K:=K) rfl) (pv 1) ak (λ_ _=>rfl)) (ae (aL zt hr rfl (ae (pv 0) (ae (fP (ae (aq (aK (K:=K) rfl) (pv 1) ak (λ_ _=>rfl)) (ae (aq (aK (K:=K) rfl) (pv 1) ak (λ_ _=>rfl)) ag))) (ae (aq (aX (K:=K) rfl) (pv 2) (aq (aK (K:=K) rfl) (pv 1) ak (λ_ _=>rfl)) (λ_ _=>rfl)) ag (ao nofun)) (ao nofun)) (ao nofun))) ag)))⟩))))))),?_⟩
  refine⟨_,rfl,_,rfl,_,rfl,p,t,u,n,R,zs,ws,rfl,hO,hn,hT,hU,gy,hwl,λc1 c2 e H1 s1=>?_,λz H1 s1=>k1 z _ s1,λc1 c2 e H1 s1=>k2 c1 c2 e _ s1⟩;refine⟨_,rfl,_,rfl,_,rfl,p,t,u,n,R,J,N,zs,ws,rfl,hO.eQ s1,G,hn,hJ,hM,s1 _ _ hP,s1.seq hT,s1.seq hU,gy,hwl,λz=>absurd ⟨J6 c1,J6 c2⟩ z,λ_ _ z=>(by rw[e]at z;cases z),λ_ _ _ dx v fs a b c H2 s2 f1 f2 f3 f4=>k3 c1 c2 e dx v fs a b c H2 (s1.trans s2) f1 f2 f3 f4,λcs ds TW tt L1 L2 L3 us H2 e1 e2 s2 no Wn hfr g1 g2 g3 hp hpm=>⟨tt,_,2,.ref L3,rfl,rfl,ax.of Wn,aH (j:=2) rfl,?_⟩⟩;subst e1 e2;have hc:=J7 c1;have hd:=J7 c2;have kk:=λL us H'=>k4 cs ds TW hc hd L us H' rfl rfl;clear k1 k2 k3 k4;rw[vo]at hT hU;have t2:=s1.trans s2;have lc:=TW.c.len G;have ld:=TW.d.len G;have hfl:(aO J N cs ds).length=us.length:=cp hp;have hfc:=TW.BM hc;refine⟨_,rfl,u,ds,rfl,t2.seq hU,by omega,λL4 v4 H3 s3 jH g4 cF=>?_⟩;have t3:=t2.trans s3;refine⟨_,rfl,t,cs,rfl,t3.seq hT,by omega,λL5 v5 H4 s4 hL5 g5 iH=>?_⟩;have t4:=t3.trans s4;have p8:=s3.trans s4;have l5:v5.length=us.length:=by rw[<- cp iH,pT];omega
  refine⟨_,rfl,L5,L3,_,_,rfl,ah.of g5,ah.of (p8 _ _ g3),λD hD=>mS (λj v H'=>∃(tq rl:Addr) (ws:List V),v = .ref tq/\tq≠D/\H' tq=some (.tup [nV ((aO J N cs ds).getD j (0,0)).2,.ref rl])/\H rl=none/\rl≠D/\H' rl=some (.lst ws)/\Paired (λ(q:Nat × Nat) (v:V)=>∃tp,v = .ref tp/\tp≠D/\H' tp=some (.tup [.int q.1,.int q.2])) (jm J N cs ds ((aO J N cs ds).getD j (0,0))) ws) (tj (n:=us.length) (c1:=true) (c2:=true) (ah.of g5) (ah.of (p8 _ _ g3)) (by rw[l5];simp)) hD (dw (by omega))
   (λj v Ha Hb sx ⟨tq,rl,ws,e1,e2,e3,e4,e5,e6,e7⟩=>⟨tq,rl,ws,e1,e2,sx _ _ e2 e3,e4,e5,sx _ _ e5 e6,Paired.di e7 λ_ _ hpq=>by obtain⟨tp,x1,x2,x3⟩:=hpq;exact⟨tp,x1,x2,sx _ _ x2 x3⟩⟩) (λj H5 Kt hj hs ⟨yy,m8⟩ hk=>?_) (λH5 Hj hs hl9 hp9=>?_)⟩
  ·obtain⟨r,hr',tr,e3,gr⟩:=c7 (outV.same (p8.trans hs) hp) (aA hj)
   have hmem:=df hr';have er:(aO J N cs ds).getD j (0,0)=r:=by rw[aQ,hr'];rfl
   have eg:us.getD j .non = .ref tr:=by rw[aQ,aA hj,e3];rfl
   have rj:=TW.KZ hc hr';have ix:=TW.idx hd hmem;rw[ix]at gr;obtain⟨m1,m2,_⟩:=ik.mp hmem;rw[er]at hk;obtain⟨y5,Xw,ta,e5,rL⟩:=il (c9.same hs iH) (nu (cs:=cs) (i:=j) (by omega));have U9:v5.getD j .non = .ref ta:=by rw[aQ,Xw,e5];rfl
   obtain⟨y4,Xv,te,rfl,Wm⟩:=il (c9.same (s4.trans hs) cF) (nu (cs:=ds) (i:=r.2) m2);refine⟨_,rfl,tr,_,0,nV r.2,eg,rfl,ax.of gr,aH (j:=0) rfl,_,rfl,_,rfl,tr,_,1,nV (dA J N cs ds r),eg,rfl,ax.of gr,aH (j:=1) rfl,_,rfl,tr,_,2,nV (cJ N cs ds r),eg,rfl,ax.of gr,aH (j:=2) rfl,by show 2<=sizeLine;decide,λtm vg=>?_⟩;have sm:=Same.put (o:=.tup [nV (dA J N cs ds r),nV (cJ N cs ds r)]) vg;refine⟨_,rfl,_,rfl,tr,_,0,nV r.2,eg,rfl,ax.of (sm _ _ gr),aH (j:=0) rfl,L4,_,_,.ref te,rfl,rfl,ah.of (sm _ _ (hs _ _ (s4 _ _ g4))),aH Xv,_,.ref tm,.ref te,(cs.getD j 0,cs.getD (j+1) 0),(dA J N cs ds r,cJ N cs ds r),(ds.getD r.2 0,ds.getD (r.2+1) 0),rfl,⟨ta,U9,sm _ _ rL⟩,⟨tm,rfl,au⟩,⟨te,rfl,sm _ _ Wm⟩,λrl wv H6 s6 hrl o7 rV=>⟨by show 2<=sizeLine;decide,λq hq=>?_⟩⟩;have Ls:=s6 _ _ (sm _ _ m8);have sq:=Same.put (o:=.tup [nV r.2,.ref rl]) hq;have n1:q≠D:=λz=>by rw[z,Ls]at hq;cases hq
   have n2:rl≠D:=λz=>by rw[z,sm _ _ m8]at hrl;cases hrl
   refine hk _ _ ((sm.trans s6).trans sq) ⟨q,rl,wv,rfl,n1,au,(t4.trans (hs.trans sm)).free hrl,n2,sq _ _ o7,?_⟩;have hrd:jm J N cs ds r=iN (cs.getD j 0,cs.getD (j+1) 0) (dA J N cs ds r,cJ N cs ds r) (ds.getD r.2 0,ds.getD (r.2+1) 0):=by unfold jm;rw[rj]
   rw[hrd];exact Paired.di rV λ_ _ hpq=>by obtain⟨tp,x1,x2⟩:=hpq;exact⟨tp,x1,fZ (s6 _ _ x2) Ls (by intro z;cases z),sq _ _ (s6 _ _ x2)⟩
  ·refine kk D Hj H5 (t4.trans hs) no (t4.free hD) hl9 ?_ hpm
   refine sG (by rw[hfl,<- cp hp9,jx]) λi r v hr' hv=>?_;obtain⟨j,hj,tq,rl,wv,x1,x2,x3,x4,x5,x6,x7⟩:=c7 hp9 hv;have hi:i<us.length:=by have:=(bJ.mp hr').1;omega
   rw[mx hi]at hj;cases hj;have er:(aO J N cs ds).getD i (0,0)=r:=by rw[aQ,hr'];rfl
   rw[er]at x3 x7;exact⟨tq,rl,wv,x1,x3,x4,x5,x6,Paired.di x7 λ_ _ hpq=>by obtain⟨tp,y1,_,y3⟩:=hpq;exact⟨tp,y1,y3⟩⟩
end
end _M
namespace _L
open PySem PySem.Spec PyProof.Rows
def Pz(K:W.Frag)(n:Nat):R2:=λx y H Q=>Ec K true false n x y H Q\/∃a b xs ys,x = .ref a/\y = .ref b/\ah K H a xs/\ah K H b ys/\xs.length≠ys.length/\Q (.bl false) H
theorem aaS{X:Cx}{K:W.Frag}(n:Nat)(h:X.K=K)(hu:X.A.units+1+n<cLine):bY X (compareOp .Eq) (Pz K n):=by
 intro pins s σ H x y v u Q I rx ry hh
 rcases hh with hh|hh
 ·exact sE true n h hu pins s σ H x y v u Q I rx ry hh
 ·subst h
  obtain⟨a,b,xs,ys,rfl,rfl,ha,hb,hl,q⟩:=hh;cases rx;cases ry;obtain⟨its,r,t1,_⟩:=I.list ha;obtain⟨its2,r',t2,_⟩:=I.list hb;have:(its.toArray.size != its2.toArray.size)=true:=by
   have:its.length≠its2.length:=by rw[<- r.length,<- r'.length];exact hl
   simpa using this
  have hh:=SeqAt.RcAt.lists_lengths (A:=X.A) (s:=s) t1.isList t2.isList this (by omega);exact hh _ _ _ _ ⟨.bl false,H,I,rfl,q⟩
end _L
namespace _M
open PySem PySem.Spec PyProof.Rows _L
theorem Jp{c d:List Nat}(hl:c.length=d.length):(List.range c.length).all (λj=>decide (c.getD j 0=d.getD j 0))=decide (c=d):=by
 rw[dk,fB,cL]
 constructor
 ·intro h
  refine kP hl λi h1 h2=>?_;have:=pI (h i (dO.mpr h1));rw[aQ,aQ,aA h1,aA h2]at this;exact this
 ·intro h i _
  rw[h];exact cB rfl
theorem CW{K:W.Frag}{H:Hp}{c d:List Nat}(hl:c.length=d.length)(n:Nat):mr K H n (c.map nV) (d.map nV) λj=>decide (c.getD j 0=d.getD j 0):=by
 refine⟨by rw[az,az];exact hl,λj x y hx hy=>?_⟩;have h1:j<c.length:=by have:=(bJ.mp hx).1;rwa [az]at this
 rw[fN h1]at hx;rw[fN (by omega)]at hy;cases hx;cases hy;have:=bK.int (K:=K) (H:=H) n ((c.getD j 0:Nat):Int) ((d.getD j 0:Nat):Int);have e:(((c.getD j 0:Nat):Int)==((d.getD j 0:Nat):Int))=decide (c.getD j 0=d.getD j 0):=by
  rw[dk,gR,cL];omega
 rw[e]at this;exact this
theorem Vd{K:W.Frag}{H:Hp}{a b:Addr}{c d:List Nat}{Q:VK}(h1:ah K H a (c.map nV))(h2:ah K H b (d.map nV))(q:Q (.bl (decide (c=d))) H):Pz K 0 (.ref a) (.ref b) H Q:=by
 by_cases hl:c.length=d.length
 ·refine .inl ⟨a,b,_,_,_,rfl,rfl,h1,h2,CW hl 0,?_⟩
  rw[az,Jp hl];simpa using q
 ·refine .inr ⟨a,b,_,_,rfl,rfl,h1,h2,by rw[az,az];exact hl,?_⟩
  rw[cg (λe=>hl (by rw[e]))]at q;exact q
theorem Ve{K:W.Frag}{H:Hp}{a b:Addr}{c d:List Nat}(h1:ah K H a (c.map nV))(h2:ah K H b (d.map nV)):bK K H 1 (.ref a) (.ref b) (decide (c=d)):=by
 by_cases hl:c.length=d.length
 ·have:=bK.lst 0 a b _ _ _ h1 h2 (CW (K:=K) (H:=H) hl 0).1 (CW hl 0).2
  rw[az,Jp hl]at this;exact this
 ·have:=bK.lens (K:=K) (H:=H) 0 a b _ _ h1 h2 (by rw[az,az];exact hl)
  rw[cg (λe=>hl (by rw[e]))];exact this
theorem Li{M:List Nat}(hM:Ev.bO M):Good M.length (Ev.aG M):=by
 refine⟨λa ha=>Ev.jO _ _,λa b ha hb h1 h2=>Ev.vw hM.nd ha hb h1 h2,λa b ha hb=>?_,λa b ha hb=>?_⟩
 ·obtain⟨c,hc,h⟩:=hM.pC ha hb
  exact⟨c,hc,h⟩
 ·obtain⟨c,hc,_,h⟩:=hM.pF ha hb
  exact⟨c,hc,λx _=>h x⟩
theorem Yb{M:List Nat}(L:Ev.bO M):∃J:Nat->Nat->Nat,∀a b,a<M.length->b<M.length->bG M.length (Ev.aG M) a b (J a b):=
 ⟨λa b=>if h:a<M.length/\b<M.length then Classical.choose (L.pC h.1 h.2)else 0,λa b ha hb=>by
  have h:=xI (L.pC ha hb);simp only[ha,hb,and_self,zL];exact⟨h.1,h.2⟩⟩
theorem Y1{M:List Nat}(L:Ev.bO M):∃J:Nat->Nat->Nat,∀a b,a<M.length->b<M.length->bM M.length (Ev.aG M) a b (J a b):=
 ⟨λa b=>if h:a<M.length/\b<M.length then Classical.choose (L.pF h.1 h.2)else 0,λa b ha hb=>by
  have h:=xI (L.pF ha hb);simp only[ha,hb,and_self,zL];exact⟨h.1,λx _=>h.2.2 x⟩⟩
theorem adq{n:Nat}{R:Nat->Nat->Bool}{J N:Nat->Nat->Nat}(G:Good n R)(hJ:∀a b,a<n->b<n->bG n R a b (J a b))(hN:∀a b,a<n->b<n->bM n R a b (N a b)){a b c:Nat}(ha:a<n)(hb:b<n)(hc:c<n):
  Un n R a b c ↔ R a c=true/\J a (N b c)≠N (J a b) c:=by
 have h1:=hN b c hb hc;have h2:=hJ a _ ha h1.1;have h3:=hJ a b ha hb;have h4:=hN _ c h3.1 hc
 constructor
 ·rintro⟨h,m,x,j,y,k1,k2,k3,k4,ne⟩
  refine⟨h,?_⟩;obtain rfl:=k1.uniq G h1;obtain rfl:=k3.uniq G h3;rw[h2.uniq G k2,h4.uniq G k4];exact ne
 ·rintro⟨h,ne⟩
  exact⟨h,_,_,_,_,h1,h2,h3,h4,ne⟩
def mJ(H:Hp)(D:Addr)(n:Nat)(g:Nat->Nat->V):Prop:=∃as:List Addr,H D=some (.lst (as.map V.ref))/\as.length=n/\∀(i:Nat) a,as[i]?=some a->H a=some (.lst ((List.range n).map (g i)))
theorem mJ.same{H H':Hp}{D:Addr}{n:Nat}{g:Nat->Nat->V}(s:Same H H')(h:mJ H D n g):mJ H' D n g:=by
 obtain⟨as,e,l,q⟩:=h;exact⟨as,s _ _ e,l,λi a ha=>s _ _ (q i a ha)⟩
theorem mJ.get{H:Hp}{D:Addr}{n:Nat}{g:Nat->Nat->V}(h:mJ H D n g){i:Nat}(hi:i<n):∃vs b,H D=some (.lst vs)/\vs[i]?=some (.ref b)/\H b=some (.lst ((List.range n).map (g i))):=by
 obtain⟨as,e,l,q⟩:=h;have ha:as[i]?=some as[i]:=aA (by omega);exact⟨_,as[i],e,by rw[bW,ha];rfl,q _ _ ha⟩
section
variable {P:Program} {w:World} {K:W.Frag} {mg:Str->Option Value} {base:Heap} {f:Addr} {fd:FuncData}
abbrev sV:Stmt:=top 78
theorem QL:a_ ["_law_masks","_law_count","_law_joins","_law_meets","_law_a","_law_b","_law_c","_law_low"] ["_law_masks"] (aB sV):=by trivial
def GZ(K:W.Frag):Sp:=λvs H Q _=>∃(m:Nat) (M:List Nat),vs = [.ref m]/\ah K H m (M.map nV)/\Ev.bO M/\∀v H',Same H H'->Jl M.length (Un M.length (Ev.aG M)) v H'->Q v H'
theorem aaH (F:aU K "_law_uneven" "_law_uneven" sV f fd) (T:Txt mg) (jF:aC P w K mg base "_law_join" ["_law_masks","_law_a","_law_b"] 1 (sZ K)) (hX:aC P w K mg base "_law_meet" ["_law_masks","_law_a","_law_b"] 1 (qc K)) :
  aN P w K mg base aZ 2 f fd ["_law_masks"] (GZ K):=by
 refine F.ok QL (λvs H Q E h=>?_) (λcdv A outer s H vs Q E hr h=>?_)
 ·obtain⟨m,M,rfl,_⟩:=h
  rfl
 ·obtain⟨m,M,rfl,hm,L,kk⟩:=h
  have nd:=QL.nd;have en:(((M.map nV).length:Int)).toNat=M.length:=by rw[dq,az]
  have hn:=L.len;have G:=Li L;obtain⟨J,hJ⟩:=Yb L;obtain⟨N,hN⟩:=Y1 L;refine⟨_,(av (aP (i:=1) nd rfl (Or.inr rfl) (bf (cK (K:=K) rfl) rfl T.len cR (ae (pv 0) ag)))
   (av (Pn (i:=2) nd rfl rfl (own:=["_law_a"]) (fr:=[("_law_count", 1),("_law_masks", 0)]) rfl (JF (v:= "_law_a") (aB sV) ["_law_masks","_law_count","_law_joins","_law_meets","_law_a","_law_b","_law_c","_law_low"] rfl rfl (by trivial) (λ_ _=>rfl) (λ_=>rfl)) (cQ rfl T.range (ae (pv 1) ag)) (λ_ _ _ _=>⟨(bj (i:=0) (by trivial:(["_law_a","_law_count","_law_masks"]:List Str).Nodup) rfl (Or.inr rfl)),da,(dj (own:=["_law_b"]) (fr:=[("_law_masks", 2),("_law_a", 0)]) rfl (JG ["_law_a","_law_count","_law_masks"] rfl rfl (by trivial)) (cQ rfl T.range (ae (pv 1) ag)) (λ_ _ _ _=>⟨(bj (i:=0) (by trivial:(["_law_b","_law_masks","_law_a"]:List Str).Nodup) rfl (Or.inl rfl)),da,(aL jF hr rfl (ae (pv 1) (ae (pv 2) (ae (pv 0) ag (ao nofun)) (ao nofun)) (ao nofun)))⟩))⟩))
   (av (Pn (i:=3) nd rfl rfl (own:=["_law_a"]) (fr:=[("_law_count", 1),("_law_masks", 0)]) rfl (JF (v:= "_law_a") (aB sV) ["_law_masks","_law_count","_law_joins","_law_meets","_law_a","_law_b","_law_c","_law_low"] rfl rfl (by trivial) (λ_ _=>rfl) (λ_=>rfl)) (cQ rfl T.range (ae (pv 1) ag)) (λ_ _ _ _=>⟨(bj (i:=0) (by trivial:(["_law_a","_law_count","_law_masks"]:List Str).Nodup) rfl (Or.inr rfl)),da,(dj (own:=["_law_b"]) (fr:=[("_law_masks", 2),("_law_a", 0)]) rfl (JG ["_law_a","_law_count","_law_masks"] rfl rfl (by trivial)) (cQ rfl T.range (ae (pv 1) ag)) (λ_ _ _ _=>⟨(bj (i:=0) (by trivial:(["_law_b","_law_masks","_law_a"]:List Str).Nodup) rfl (Or.inl rfl)),da,(aL hX hr rfl (ae (pv 1) (ae (pv 2) (ae (pv 0) ag (ao nofun)) (ao nofun)) (ao nofun)))⟩))⟩))
   (av (cx cq rfl (cQ rfl T.range (ae (pv 1) ag)) (bj (i:=4) nd rfl (Or.inl rfl))
   (ay (cx cq rfl (cQ rfl T.range (ae (pv 1) ag)) (bj (i:=5) nd rfl (Or.inl rfl))
   (ay (cx cq rfl (cQ rfl T.range (ae (pv 1) ag)) (bj (i:=6) nd rfl (Or.inl rfl))
   (av (aP (i:=7) nd rfl (Or.inl rfl) (aq (aX (K:=K) rfl) (aq (aX (K:=K) rfl) (pv 2) (pv 4) (λ_ _=>rfl)) (aq (aX (K:=K) rfl) (aq (aX (K:=K) rfl) (pv 3) (pv 5) (λ_ _=>rfl)) (pv 6) (λ_ _=>rfl)) (λ_ _=>rfl)))
   (ay (bA (PW.pt (lN (bw dW (aq (aX (K:=K) rfl) (aq (aX (K:=K) rfl) (pv 2) (pv 4) (λ_ _=>rfl)) (pv 6) (λ_ _=>rfl)) (pv 6) (bh _)) (lO (bw f6 (pv 7) (aq (aX (K:=K) rfl) (aq (aX (K:=K) rfl) (pv 3) (aq (aX (K:=K) rfl) (aq (aX (K:=K) rfl) (pv 2) (pv 4) (λ_ _=>rfl)) (pv 5) (λ_ _=>rfl)) (λ_ _=>rfl)) (pv 6) (λ_ _=>rfl)) (bh _))))) (ay (aR (fP (ae (pv 4) (ae (pv 5) (ae (pv 6) ag (ao nofun)) (ao nofun)) (ao nofun))))) bD))))))))
   (ay (aR jR)))))),?_⟩
  refine⟨_,rfl,m,_,rfl,.inl hm,?_⟩;refine⟨_,rfl,_,rfl,by rw[az];exact(bC (by omega)).1,by rw[az];exact(bC (by omega)).2,λD hD=>zA (λa=>(List.range M.length).map λb=>nV (J a b)) src_range hD (by rw[en];exact dE hn) (λi H2 Kt hi hs hk=>?_) (λH2 as hs2 hl hla _ _ hc=>?_)⟩
  ·rw[en]at hi
   refine⟨_,rfl,_,rfl,by rw[az];exact(bC (by omega)).1,by rw[az];exact(bC (by omega)).2,λD2 hD2=>fk (λb=>nV (J i b)) src_range hD2 (by rw[en];exact dE hn) (λb H3 SN hb hs3 hk3=>?_) (λH3 hs3 hl3=>hk D2 H3 hs3 hD2 (by rw[en]at hl3;exact hl3))⟩;rw[en]at hb;refine⟨_,rfl,_,rfl,_,rfl,m,i,b,M,by simp,hs3.seq (hs.seq hm),L,hi,hb,λc H4 s4 hc hcp=>?_⟩;have e:c=J i b:=bG.uniq G ⟨hc,hcp⟩ (hJ i b hi hb);subst e;exact hk3 _ s4
  rw[en]at hla;have tJ:mJ H2 D M.length λa b=>nV (J a b):=⟨as,hl,hla,hc⟩;refine⟨_,rfl,_,rfl,by rw[az];exact(bC (by omega)).1,by rw[az];exact(bC (by omega)).2,λE hE=>zA (λa=>(List.range M.length).map λb=>nV (N a b)) src_range hE (by rw[en];exact dE hn) (λi H3 Kt hi hs hk=>?_) (λH3 as' hs3 hl' hla' _ _ hc'=>?_)⟩
  ·rw[en]at hi
   refine⟨_,rfl,_,rfl,by rw[az];exact(bC (by omega)).1,by rw[az];exact(bC (by omega)).2,λD2 hD2=>fk (λb=>nV (N i b)) src_range hD2 (by rw[en];exact dE hn) (λb H4 SN hb gW W9=>?_) (λH4 gW cM=>hk D2 H4 gW hD2 (by rw[en]at cM;exact cM))⟩;rw[en]at hb;refine⟨_,rfl,_,rfl,_,rfl,m,i,b,M,by simp,gW.seq (hs.seq (hs2.seq hm)),L,hi,hb,λc H5 s5 hc hcp=>?_⟩;have e:c=N i b:=bM.uniq G ⟨hc,λx _=>hcp x⟩ (hN i b hi hb);subst e;exact W9 _ s5
  rw[en]at hla';have tN:mJ H3 E M.length λa b=>nV (N a b):=⟨as',hl',hla',hc'⟩;have tJ3:=tJ.same hs3;have lR:=hs2.trans hs3;refine⟨_,rfl,_,rfl,by rw[az];exact(bC (by omega)).1,by rw[az];exact(bC (by omega)).2,fJ (lo:=0) (n:=(((M.map nV).length:Int)).toNat) (λi σ H4=>∃(v4 v5 v6 v7:Option V),σ = [some (.ref m),some (.int (M.map nV).length),some (.ref D),some (.ref E),v4,v5,v6,v7]/\Same H3 H4/\∀a b c,a<i->b<M.length->c<M.length->¬ Un M.length (Ev.aG M) a b c)
   ⟨none,none,none,none,rfl,Same.refl _,λa b c h=>by omega⟩ ?_ ?_⟩
  ·rintro i σ H4 hi ⟨v4,v5,v6,v7,rfl,s4,jg⟩
   rw[en]at hi;refine⟨_,rfl,_,rfl,by rw[az];exact(bC (by omega)).1,by rw[az];exact(bC (by omega)).2,fJ (lo:=0) (n:=(((M.map nV).length:Int)).toNat) (λj σ H5=>∃(v5 v6 v7:Option V),σ = [some (.ref m),some (.int (M.map nV).length),some (.ref D),some (.ref E),some (.int (0+(i:Int))),v5,v6,v7]/\Same H3 H5/\∀b c,b<j->c<M.length->¬ Un M.length (Ev.aG M) i b c)
    ⟨v5,v6,v7,rfl,s4,λb c h=>by omega⟩ ?_ ?_⟩
   ·rintro j σ H5 hj ⟨v5,v6,v7,rfl,s5,jh⟩
    rw[en]at hj;refine⟨_,rfl,_,rfl,by rw[az];exact(bC (by omega)).1,by rw[az];exact(bC (by omega)).2,fJ (lo:=0) (n:=(((M.map nV).length:Int)).toNat) (λk σ H6=>∃(v6 v7:Option V),σ = [some (.ref m),some (.int (M.map nV).length),some (.ref D),some (.ref E),some (.int (0+(i:Int))),some (.int (0+(j:Int))),v6,v7]/\Same H3 H6/\∀c,c<k->¬ Un M.length (Ev.aG M) i j c)
     ⟨v6,v7,rfl,s5,λc h=>by omega⟩ ?_ ?_⟩
    ·rintro k σ H6 hk ⟨v6,v7,rfl,s6,ji⟩
     rw[en]at hk;have next:¬ Un M.length (Ev.aG M) i j k->∀c,c<k+1->¬ Un M.length (Ev.aG M) i j c:=λh c hc=>by
      by_cases e:c=k
      ·subst e;exact h
      ·exact ji c (by omega)
     have u:=adq G hJ hN hi hj hk;have hm1:=(hN j k hj hk).1;have hj1:=(hJ i j hi hj).1;obtain⟨xs,rb,x1,x2,x3⟩:=(tJ3.same s6).get hi;obtain⟨ys,sb,y1,y2,y3⟩:=(tN.same s6).get hj;obtain⟨zs,tb,z1,z2,z3⟩:=(tN.same s6).get hj1;refine⟨_,rfl,_,rfl,D,_,_,.ref rb,rfl,rfl,ah.of x1,at0 x2,_,rfl,_,rfl,E,_,_,.ref sb,rfl,rfl,ah.of y1,at0 y2,_,rfl,sb,_,_,.int (N j k),rfl,rfl,ah.of y3,at0 (eM hk),rb,_,_,.int (J i (N j k)),rfl,rfl,ah.of x3,aH (eM hm1),?_⟩;refine⟨_,rfl,_,rfl,D,_,_,.ref rb,rfl,rfl,ah.of x1,at0 x2,_,rfl,rb,_,_,.int (J i k),rfl,rfl,ah.of x3,at0 (eM hk),_,rfl,rfl,_,rfl,?_⟩;have ed:decide (V.int (J i k:Int)=V.int (0+(k:Int)))=Ev.aG M i k:=by
      rw[fA];exact(hJ i k hi hk).eq_iff G hi hk
     rw[ed];refine bq (λh=>?_) (λh=>?_)
     ·refine⟨_,rfl,_,rfl,_,rfl,_,rfl,D,_,_,.ref rb,rfl,rfl,ah.of x1,at0 x2,_,rfl,rb,_,_,.int (J i j),rfl,rfl,ah.of x3,at0 (eM hj),E,_,_,.ref tb,rfl,rfl,ah.of z1,aH z2,_,rfl,tb,_,_,.int (N (J i j) k),rfl,rfl,ah.of z3,at0 (eM hk),rfl,_,rfl,?_⟩
      refine bq (λh2=>?_) (λh2=>?_)
      ·have ne:J i (N j k)≠N (J i j) k:=λz=>by rw[z]at h2;simp at h2
       refine⟨_,rfl,_,rfl,_,rfl,by show 3<=sizeLine;decide,λt ht=>kk _ _ (lR.trans (s6.trans (Same.put ht))) (.inr ⟨t,i,j,k,rfl,by rw[au,fA,fA,fA],hi,hj,hk,u.mpr ⟨h,ne⟩,λa' b' c' ha hb hc l=>?_⟩)⟩
       rcases l with l|⟨rfl,l|⟨rfl,l⟩⟩
       ·exact jg a' b' c' l hb hc
       ·exact jh b' c' l hc
       ·exact ji c' l
      ·refine⟨_,_,rfl,s6,next λz=>?_⟩
       have ne:=(u.mp z).2;exact absurd (by rw[cg (λq=>by injection q with q;omega)];rfl) h2
     ·exact bx ⟨_,_,rfl,s6,next λz=>h z.1⟩
    ·rintro σ H6 ⟨v6,v7,rfl,s6,ji⟩
     rw[en]at ji;refine⟨_,_,_,rfl,s6,λb c hb hc=>?_⟩
     by_cases e:b=j
     ·subst e;exact ji c hc
     ·exact jh b c (by omega) hc
   ·rintro σ H5 ⟨v5,v6,v7,rfl,s5,jh⟩
    rw[en]at jh;refine⟨_,_,_,_,rfl,s5,λa b c ha hb hc=>?_⟩
    by_cases e:a=i
    ·subst e;exact jh b c hb hc
    ·exact jg a b c (by omega) hb hc
  ·rintro σ H4 ⟨v4,v5,v6,v7,rfl,s4,jg⟩
   rw[en]at jg;exact kk _ _ (lR.trans s4) (.inl ⟨rfl,jg⟩)
end
theorem R4{K:W.Frag}{H:Hp}(a b c d:Nat):mr K H 0 [.int (a:Int),.int (b:Int)] [.int (c:Int),.int (d:Int)] (λj=>if j=0 then decide (a=c)else decide (b=d)):=by
 refine⟨rfl,λj x y hx hy=>?_⟩;have e:∀p q:Nat,((p:Int)==(q:Int))=decide (p=q):=λp q=>by
  rw[dk,gR,cL];omega
 match j,hx,hy with
 |0,hx,hy =>
  cases hx;cases hy;have:=bK.int (K:=K) (H:=H) 0 (a:Int) (c:Int);rw[e]at this;exact this
 |1,hx,hy =>
  cases hx;cases hy;have:=bK.int (K:=K) (H:=H) 0 (b:Int) (d:Int);rw[e]at this;exact this
section
variable {P:Program} {w:World} {K:W.Frag} {mg:Str->Option Value} {base:Heap} {f:Addr} {fd:FuncData}
abbrev wC:Stmt:=top 79
theorem Qw:a_ ["_law_masks","_law_five","_law_joins","_law_meets","_law_bottom","_law_low","_law_side","_law_high","_law_top"] ["_law_masks","_law_five"] (aB wC):=by trivial
def FX(K:W.Frag):Sp:=λvs H Q _=>∃(m t:Nat) (M:List Nat) (fs:List Int),vs = [.ref m,.ref t]/\ah K H m (M.map nV)/\Ev.bO M/\ax K H t (fs.map V.int)/\fs.length<=1000/\∀c H',Same H H'->(c=true ↔ Five M.length (Ev.aG M) fs)->Q (.bl c) H'
theorem Z3 (F:aU K "_law_is_five" "_law_is_five" wC f fd) (T:Txt mg) (fj:aC P w K mg base "_law_at_most" ["_law_masks","_law_a","_law_b"] 1 (nA K))
  (hX:aC P w K mg base "_law_meet" ["_law_masks","_law_a","_law_b"] 1 (qc K)) (jF:aC P w K mg base "_law_join" ["_law_masks","_law_a","_law_b"] 1 (sZ K)) :
  aN P w K mg base aZ 2 f fd ["_law_masks","_law_five"] (FX K):=by
 refine F.ok Qw (λvs H Q E h=>?_) (λcdv A outer s H vs Q E hr h=>?_)
 ·obtain⟨m,t,M,fs,rfl,_⟩:=h
  rfl
 ·obtain⟨m,t,M,fs,rfl,hm,hM,hT,hfl,kk⟩:=h
  have nd:=Qw.nd;have hu0:=hr.units;have hu1:(A.deeper (envOfC "_law_is_five" (aB wC) s.heap.objs.size f cdv)).units+1+0<cLine:=by omega
  have G:=Li hM;refine⟨_,(av (bA (PW.pt (dI (bw f6 (bf (cK (K:=K) rfl) rfl T.len cR (ae (pv 1) ag)) ak (bh _)) (dI (bw pL (bf (JR (K:=K) rfl rfl) rfl T.min boot_min (ae (pv 1) ag)) ak (bh _)) (ft (bw vO (bf (JQ (K:=K) rfl rfl) rfl T.max boot_max (ae (pv 1) ag)) (bf (cK (K:=K) rfl) rfl T.len cR (ae (pv 0) ag)) (bh _)))))) (ay (aR dB)) bD)
   (av (DY (pv 1) (abq (K:=K) rfl rfl (nj (bj (i:=4) nd rfl (Or.inl rfl)) (nj (bj (i:=5) nd rfl (Or.inl rfl)) (nj (bj (i:=6) nd rfl (Or.inl rfl)) (nj (bj (i:=7) nd rfl (Or.inl rfl)) (nj (bj (i:=8) nd rfl (Or.inl rfl)) Ph)))))))
   (av (bA (PW.pt (dI (bw dW (pv 5) (pv 7) (bh _)) (ft (du (bZ (aL fj hr rfl (ae (pv 0) (ae (pv 5) (ae (pv 7) ag (ao nofun)) (ao nofun)) (ao nofun)))))))) (ay (aR dB)) bD)
   (av (bA (PW.pt (dI (bZ (aL fj hr rfl (ae (pv 0) (ae (pv 6) (ae (pv 7) ag (ao nofun)) (ao nofun)) (ao nofun)))) (ft (bZ (aL fj hr rfl (ae (pv 0) (ae (pv 5) (ae (pv 6) ag (ao nofun)) (ao nofun)) (ao nofun))))))) (ay (aR dB)) bD)
   (av (aP (i:=2) nd rfl (Or.inl rfl) (bU (ae (aL jF hr rfl (ae (pv 0) (ae (pv 5) (ae (pv 6) ag (ao nofun)) (ao nofun)) (ao nofun))) (ae (aL jF hr rfl (ae (pv 0) (ae (pv 7) (ae (pv 6) ag (ao nofun)) (ao nofun)) (ao nofun))) ag))))
   (av (aP (i:=3) nd rfl (Or.inl rfl) (bU (ae (aL hX hr rfl (ae (pv 0) (ae (pv 5) (ae (pv 6) ag (ao nofun)) (ao nofun)) (ao nofun))) (ae (aL hX hr rfl (ae (pv 0) (ae (pv 7) (ae (pv 6) ag (ao nofun)) (ao nofun)) (ao nofun))) ag))))
   (ay (aR (kD (iq (sE (K:=K) true 0 rfl hu1) (pv 2) (bU (ae (pv 8) (ae (pv 8) ag))) (bh _)) (jS (iq (sE (K:=K) true 0 rfl hu1) (pv 3) (bU (ae (pv 4) (ae (pv 4) ag))) (bh _)))))))))))),?_⟩
  refine⟨_,rfl,t,_,rfl,.inr hT,rfl,_,rfl,?_⟩;rw[az];refine bq (λh5=>?_) (λh5=>?_)
  ·refine dR (kk false _ (Same.refl _) ⟨λz=>(nomatch z),λz=>?_⟩)
   rw[z.len]at h5;exact absurd h5 (by decide)
  ·have eV:fs.length=5:=by
    have:¬ (!decide (V.int (fs.length:Int)=V.int 5))=true:=h5;have h6:V.int (fs.length:Int)=V.int 5:=by simpa using this
    injection h6 with h6
    omega
   refine⟨_,rfl,t,fs,rfl,hT,by omega,λmi hmi hmin=>⟨_,_,rfl,rfl,_,rfl,?_⟩⟩;refine bq (λh0=>?_) (λh0=>?_)
   ·refine dR (kk false _ (Same.refl _) ⟨λz=>(nomatch z),λz=>?_⟩)
    have h1:=(z.rng mi hmi).1;rw[cL]at h0;omega
   ·rw[cL]at h0
    refine⟨_,rfl,t,fs,rfl,hT,by omega,λma hma rT=>⟨_,rfl,m,_,rfl,.inl hm,_,_,rfl,rfl,_,rfl,?_⟩⟩;rw[az];refine bq (λhb=>?_) (λhb=>?_)
    ·refine kk false _ (Same.refl _) ⟨λz=>(nomatch z),λz=>?_⟩
     have h1:=(z.rng ma hma).2;rw[cL]at hb;omega
    ·rw[cL]at hb
     obtain⟨z0,z1,z2,z3,z4,rfl⟩:=XR eV;have rg:∀z∈([z0,z1,z2,z3,z4]:List Int),0<=z/\z<(M.length:Int):=λz hz=>by
      have k1:=hmin z hz;have k2:=rT z hz;omega
     obtain⟨a0,b0⟩:=rg z0 (by simp);obtain⟨a1,b1⟩:=rg z1 (by simp);obtain⟨a2,b2⟩:=rg z2 (by simp);obtain⟨a3,b3⟩:=rg z3 (by simp);obtain⟨a4,b4⟩:=rg z4 (by simp);clear rg hmin rT hmi hma h0 hb;obtain⟨b,rfl⟩:=tQ a0;obtain⟨l,rfl⟩:=tQ a1;obtain⟨sd,rfl⟩:=tQ a2;obtain⟨h,rfl⟩:=tQ a3;obtain⟨tp,rfl⟩:=tQ a4;have hb:b<M.length:=by omega
     have hll:l<M.length:=by omega
     have hsd:sd<M.length:=by omega
     have hh:h<M.length:=by omega
     have htp:tp<M.length:=by omega
     have key:=KR (R:=Ev.aG M) hb hll hsd hh htp;refine⟨_,rfl,t,_,rfl,hT,rfl,_,_,rfl,_,_,rfl,_,_,rfl,_,_,rfl,_,_,rfl,rfl,?_⟩;refine⟨_,rfl,_,rfl,rfl,_,rfl,?_⟩;rw[Uw];refine bq (λe0=>?_) (λe0=>?_)
     ·refine dR (kk false _ (Same.refl _) ⟨λz=>(nomatch z),λz=>?_⟩)
      rw[cL]at e0;exact absurd e0 (key.mp z).1
     ·rw[cL]at e0
      refine⟨_,rfl,_,rfl,_,rfl,m,l,h,M,rfl,hm,hll,hh,λH1 s1=>⟨_,rfl,?_⟩⟩;cases e1:Ev.aG M l h with
      |false =>
       refine dR (kk false _ s1 ⟨λz=>(nomatch z),λz=>?_⟩);rw[(key.mp z).2.1]at e1;cases e1
      |true =>
       refine bx ⟨_,rfl,_,rfl,_,rfl,m,sd,h,M,rfl,s1.seq hm,hsd,hh,λH2 s2=>⟨_,rfl,?_⟩⟩;have t2:=s1.trans s2;cases e2:Ev.aG M sd h with
       |true =>
        refine dR (dR (kk false _ t2 ⟨λz=>(nomatch z),λz=>?_⟩));rw[(key.mp z).2.2.1]at e2;cases e2
       |false =>
        refine bx ⟨_,rfl,_,rfl,_,rfl,m,l,sd,M,rfl,t2.seq hm,hll,hsd,λH3 s3=>⟨_,rfl,?_⟩⟩;have t3:=t2.trans s3;cases e3:Ev.aG M l sd with
        |true =>
         refine dR (kk false _ t3 ⟨λz=>(nomatch z),λz=>?_⟩);rw[(key.mp z).2.2.2.1]at e3;cases e3
        |false =>
         refine bx ⟨_,rfl,_,rfl,_,rfl,m,l,sd,M,rfl,t3.seq hm,hM,hll,hsd,λj1 H4 s4 hj1 hj1'=>?_⟩;have t4:=t3.trans s4;refine⟨_,rfl,_,rfl,_,rfl,m,h,sd,M,rfl,t4.seq hm,hM,hh,hsd,λj2 H5 s5 hj2 hj2'=>⟨by show 2<=sizeLine;decide,λp1 hp1=>?_⟩⟩;have t5:=(t4.trans s5).trans (Same.put (o:=.lst [.int (j1:Int),.int (j2:Int)]) hp1);refine⟨_,rfl,_,rfl,_,rfl,m,l,sd,M,rfl,t5.seq hm,hM,hll,hsd,λm1 H6 s6 hm1 Xc=>?_⟩;have t6:=t5.trans s6;refine⟨_,rfl,_,rfl,_,rfl,m,h,sd,M,rfl,t6.seq hm,hM,hh,hsd,λm2 H7 s7 hm2 hm2'=>⟨by show 2<=sizeLine;decide,λp2 hp2=>?_⟩⟩;have t7:=(t6.trans s7).trans (Same.put (o:=.lst [.int (m1:Int),.int (m2:Int)]) hp2);have vd:(upd H7 p2 (.lst [.int (m1:Int),.int (m2:Int)])) p1=some (.lst [.int (j1:Int),.int (j2:Int)]):=((s6.trans s7).trans (Same.put hp2)) _ _ au;have k1:=bM.iff_eq (e:=b) G (⟨hm1,λx _=>Xc x⟩:bM M.length (Ev.aG M) l sd m1);have k2:=bM.iff_eq (e:=b) G (⟨hm2,λx _=>hm2' x⟩:bM M.length (Ev.aG M) h sd m2);have k3:=bG.iff_eq (e:=tp) G (⟨hj1,hj1'⟩:bG M.length (Ev.aG M) l sd j1);have k4:=bG.iff_eq (e:=tp) G (⟨hj2,hj2'⟩:bG M.length (Ev.aG M) h sd j2);rw[k1,k2,k3,k4]at key;refine⟨_,rfl,_,rfl,_,rfl,by show 2<=sizeLine;decide,λp3 hp3=>?_⟩;refine⟨p1,p3,_,_,_,rfl,rfl,ah.of (Same.put hp3 _ _ vd),ah.of au,R4 j1 j2 tp tp,_,rfl,?_⟩;refine bq (λk=>?_) (λk=>?_)
         ·refine⟨_,rfl,_,rfl,_,rfl,by show 2<=sizeLine;decide,λp4 cF=>?_⟩
          refine⟨p2,p4,_,_,_,rfl,rfl,ah.of (Same.put cF _ _ (Same.put hp3 _ _ au)),ah.of au,R4 m1 m2 b b,kk _ _ ((t7.trans (Same.put hp3)).trans (Same.put cF)) ?_⟩;rw[key];simp[iU]at k ⊢;exact⟨λz=>⟨e0,e1,e2,e3,z.1,z.2,k.1,k.2⟩,λz=>⟨z.2.2.2.2.1,z.2.2.2.2.2.1⟩⟩
         ·refine kk _ _ (t7.trans (Same.put hp3)) ⟨λz=>(nomatch z),λz=>?_⟩
          have:=key.mp z;refine absurd ?_ k;simp[iU,this.2.2.2.2.2.2.1,this.2.2.2.2.2.2.2]
end
section
variable {n:Nat} {R R':Nat->Nat->Bool} {J N:Nat->Nat->Nat} {cs ds:List Nat}
theorem Five.zC(hR:∀a b,a<n->b<n->R a b=R' a b){fs:List Int}(h:Five n R fs):Five n R' fs:=by
 obtain⟨b,l,s,h,t,e,⟨h0,h1,h2,h3,h4⟩,k1,k2,k3,k4,k5,k6,k7,k8⟩:=h;exact⟨b,l,s,h,t,e,⟨h0,h1,h2,h3,h4⟩,k1,by rw[<- hR _ _ h1 h3];exact k2,by rw[<- hR _ _ h2 h3];exact k3,by rw[<- hR _ _ h1 h2];exact k4,k5.congr hR h1 h2,k6.congr hR h3 h2,k7.congr hR h1 h2,k8.congr hR h3 h2⟩
theorem dm.congr(hR:∀a b,a<n->b<n->R a b=R' a b)(h:dm n R cs):dm n R' cs:=
 ⟨h.pos,h.lt,λi hi=>⟨(h.adj i hi).1,by rw[<- hR _ _ (h.at (by omega)) (h.at hi)];exact(h.adj i hi).2⟩⟩
theorem Md.zC(hR:∀a b,a<n->b<n->R a b=R' a b)(G':Good n R')(M:Md n R J N):Md n R' J N:=
 ⟨G',λa b ha hb=>(M.j a b ha hb).congr hR ha hb,λa b ha hb=>(M.m a b ha hb).congr hR ha hb,λa b c ha hb hc h=>M.md a b c ha hb hc (by rw[hR a c ha hc];exact h)⟩
theorem Two.congr(hR:∀a b,a<n->b<n->R a b=R' a b)(G':Good n R')(T:Two n R J N cs ds):Two n R' J N cs ds:=
 ⟨T.M.zC hR G',T.c.congr hR,T.d.congr hR,T.first,T.last⟩
theorem dm.c5(h:dm n R cs):c5 n R (cs.map λx:Nat=>(x:Int))=true:=by
 unfold _M.c5;simp only[bF,eY,fU];refine⟨by rw[az];have:=h.pos;omega,?_,?_⟩
 ·unfold inB
  rw[fB];intro z hz;obtain⟨x,hx,rfl⟩:=dc.mp hz;have:=h.lt x hx;rw[cL];omega
 ·unfold mK
  rw[fB];intro i hi;rw[az]at hi;have hi:=dO.mp hi;rw[fW,fW,dq,dq];unfold bS;have:=h.adj i (by omega);rw[bF,eY,fU];exact this
theorem Vb(h0:cs.getD 0 0=ds.getD 0 0)(h1:cs.getD (cs.length - 1) 0=ds.getD (ds.length - 1) 0):fH (cs.map λx:Nat=>(x:Int)) (ds.map λx:Nat=>(x:Int))=true:=by
 unfold fH;rw[az,az,fW,fW,fW,fW,h0,h1];simp
theorem Wc(G:Good n R):∃J:Nat->Nat->Nat,∀a b,a<n->b<n->bG n R a b (J a b):=by
 refine⟨λa b=>if h:a<n/\b<n then(G.join a b h.1 h.2).choose else 0,λa b ha hb=>?_⟩;dsimp only;rw[dif_pos ⟨ha,hb⟩];exact(G.join a b ha hb).choose_spec
theorem Wd(G:Good n R):∃J:Nat->Nat->Nat,∀a b,a<n->b<n->bM n R a b (J a b):=by
 refine⟨λa b=>if h:a<n/\b<n then(G.meet a b h.1 h.2).choose else 0,λa b ha hb=>?_⟩;dsimp only;rw[dif_pos ⟨ha,hb⟩];exact(G.meet a b ha hb).choose_spec
end
theorem CZ{K:W.Frag}{H:Hp}{h1 h2 t u:Addr}{c d:List Nat}(a1:H h1=some (.lst (c.map nV)))(a2:H h2=some (.lst (d.map nV)))(b1:H t=some (.lst (c.map nV)))(b2:H u=some (.lst (d.map nV))):mr K H 1 [.ref h1,.ref h2] [.ref t,.ref u] λ_=>true:=by
 refine⟨rfl,λj x y hx hy=>?_⟩;have self:∀{a b:Addr} {c:List Nat},H a=some (.lst (c.map nV))->H b=some (.lst (c.map nV))->bK K H 1 (.ref a) (.ref b) true:=λ{a b c} q1 q2=>by
  have:=Ve (K:=K) (ah.of q1) (ah.of q2);rw[cB rfl]at this;exact this
 match j,hx,hy with
 |0,hx,hy=>cases hx;cases hy;exact self a1 b1
 |1,hx,hy=>cases hx;cases hy;exact self a2 b2
theorem Jq(n:Nat):(List.range n).all (λ_=>true)=true:=by simp
theorem pV{H:Hp}{a:Addr}{o:HO}(_:H a=none):upd H a o a=some o:=au
section
variable {P:Program} {w:World} {K:W.Frag} {mg:Str->Option Value} {base:Heap} {f:Addr} {fd:FuncData}
abbrev Ff:Stmt:=top 64
theorem QQ:a_ ["_law_found"] ["_law_found"] (aB Ff):=by trivial
def w_:Sp:=λvs H Q _=>∃v,vs = [v]/\((∃i,v = .int i)\/∃l xs,v = .ref l/\H l=some (.lst xs))/\((∃i,v = .int i)->Q (.bl true) H)/\((∃l,v = .ref l)->Q (.bl false) H)
theorem aaJ (F:aU K "_law_whole" "_law_whole" Ff f fd) (T:Txt mg):aN P w K mg base aZ 1 f fd ["_law_found"] w_:=by
 refine F.ok QQ (λvs H Q E h=>?_) (λcdv A outer s H vs Q E hr h=>?_)
 ·obtain⟨v,rfl,_⟩:=h
  rfl
 ·obtain⟨v,rfl,hv,k1,k2⟩:=h
  have nd:=QQ.nd;refine⟨_,(ay (aR (kD (bf (lC (K:=K) "int" rfl) rfl T.isinstance dG (ae (pv 0) (ae (kE (v:=.ty "int") rfl T.int uE rfl) ag))) (jS (DR (bf (lC (K:=K) "bool" rfl) rfl T.isinstance dG (ae (pv 0) (ae (kE (v:=.ty "bool") rfl T.bool JL rfl) ag)))))))),?_⟩
  rcases hv with⟨i,rfl⟩|⟨l,xs,rfl,g⟩
  ·refine⟨_,rfl,_,_,_,rfl,.int i,rfl,true,rfl,dR ?_⟩
   exact⟨_,rfl,_,_,_,rfl,.int i,rfl,false,rfl,k1 ⟨i,rfl⟩⟩
  ·exact⟨_,rfl,_,_,_,rfl,.lst g,rfl,false,rfl,bx (k2 ⟨l,rfl⟩)⟩
end
end _M
namespace _L
open PySem PySem.Spec PyProof.Rows
theorem TQ:bootBuiltins "sorted" = some (.builtin "sorted"):=by trivial
theorem acz {h:Heap} {a:Addr} {vs:List Value} {out:Array Value} {n:Nat} (e:h.get? a=some (seqObj "list" vs.toArray n)):(∃c,(sortedHeap h a vs out).get? a=some (seqObj "list" out c))/\∀b o,b≠a->h.get? b=some o->(sortedHeap h a vs out).get? b=some o:=by
 unfold sortedHeap;obtain⟨e1,h1⟩:∃e1,(h.update a (Obj.mapSeq λ_=>(#[]:Array Value))).get? a=some (seqObj "list" #[] e1):=⟨_,yh e λ_=>#[]⟩;refine⟨⟨_,yh (aV _ (aV _ h1)) λ_=>out⟩,λb o hb q=>?_⟩;rw[mF _ _ _ _ hb];refine aV _ (aV _ ?_);rw[mF _ _ _ _ hb];exact q
def ab4(K:W.Frag):List V->Hp->VK->Prop:=λxs H Q=>∃(l:Addr) (ns:List Int),xs = [.ref l]/\ah K H l (ns.map V.int)/\ns.length<64/\∀(p:Addr) (ms:List Int),H p=none->ms.length=ns.length->(ns.length<64->ms.Perm ns/\ms.Pairwise (·<=·))->Q (.ref p) (upd H p (.lst (ms.map V.int)))
theorem Ue {X:Cx} {K:W.Frag} (h:X.K=K) (hr:bQ 0 X.A):dz X (.builtin "sorted") (ab4 K):=by
 subst h;intro pins s σ H vs us Q I rv h;obtain⟨l,ns,rfl,hl,hz,q⟩:=h;obtain⟨u,rfl,ru⟩:=rv.one;refine call_function_entry_kw kind_sorted plain_sorted entry_sorted (args_sorted1 u) ?_;unfold Builtin.«sorted»;refine ai (m:=checkCount "sorted" 1 1 _) (aJ (ai (Ka (A:=X.A.in1) hr.hd I ru (.inr ⟨l,rfl,hl⟩) (by rw[az];omega) λits s1 rt I1=>ai (yx ?_ ?_))))
 ·have hI:=Nb rt
  have ea:(s1.heap.push {cls:=.type "list", data:=.seq its.toArray}).get? s1.heap.objs.size=some (seqObj "list" its.toArray 0):=cn _ rfl;refine ai (fS (wpAny_call_entry_kw slot_list_sort ⟨_,ea,rfl⟩ entry_list_sort ?_ (args_list_sort _)));show wpAny (model X.prog X.w) X.A.in1.in1 (Builtin.«list.sort» ⟨[.ref s1.heap.objs.size],[]⟩) _ _ _;have hvl:its.length<64:=by rw[hI.length];exact hz
  refine list_sort_tree (s:={s1 with heap:=s1.heap.push {cls:=.type "list", data:=.seq its.toArray}}) (vs:=its) (n:=0) ea hI hvl λout ns' hI' hp' hs'=>?_;obtain⟨⟨c,g1⟩,g2⟩:=acz (out:=out) ea;have hol:out.toList.length<=sizeLine:=by rw[hI'.length,hp'.length_eq,<- hI.length];exact fD (cZ hvl (by decide))
  have I5:Inv X pins σ (upd H s1.heap.objs.size (.lst (ns'.map V.int))) {s1 with heap:=sortedHeap (s1.heap.push {cls:=.type "list", data:=.seq its.toArray}) s1.heap.objs.size its out,toks:=s1.toks}:=by
   refine I1.laid (t':=s1.toks) (λb o e=>?_) (aY _) ⟨by rw[az,<- hI'.length];exact hol,out.toList,c,Hl hI',by simpa using g1⟩;exact g2 b o (bB (aS e)) (aV _ e)
  exact⟨_,rfl,aJ ⟨_,rfl,.ref s1.heap.objs.size,_,I5,rfl,q _ ns' I1.fresh hp'.length_eq λ_=>⟨hp',hs'⟩⟩⟩
 ·rw[<- rt.length,az]
  exact fD (cZ hz (by decide))
def abV:List V->Hp->VK->Prop:=λxs H Q=>∃(r:Addr) (n:Nat),xs = [.ref r]/\H r=some (.rng 0 (n:Int))/\n<=100000/\∀l,H l=none->Q (.ref l) (upd H l (.lst ((List.range n).map λ(i:Nat)=>V.int i)))
theorem T9 {X:Cx} (hr:bQ 0 X.A):dz X (.type "list") abV:=by
 intro pins s σ H xs us Q I r h;obtain⟨p,n,rfl,hp,hn,q⟩:=h;obtain⟨u,rfl,rx⟩:=vals1 r;cases rx;have gy:(100000:Nat)<=sizeLine:=by trivial
 obtain⟨t,t',t'',ea⟩:=(show bE X.prog X.w H s.heap p (.rng 0 (n:Int))from I.hok p _ hp);refine call_list_range (n:=n) hr.hd ea (small_one (by omega) (by omega) (by omega) (by omega)) (by rw[rangeSize_one];split<;>omega) (by omega) λh' tk acc c' hk hS hacc=>?_;have hv:=Sd hacc;refine⟨.ref s.heap.objs.size,_,I.laid (t':=tk) hk (aY _) (show bE X.prog X.w _ h' _ (.lst ((List.range n).map λ(i:Nat)=>V.int i))from⟨by simp;omega,acc.toList,c',hv,by simpa using hS⟩),rfl,q _ (I.hok.fresh (aY _))⟩
end _L
namespace _M
open PySem PySem.Spec PyProof.Rows _L
theorem acC{ms:List Int}{n:Nat}(hp:ms.Perm ((List.range n).map λi:Nat=>(i:Int)))(hs:ms.Pairwise (·<=·)):ms=(List.range n).map λi:Nat=>(i:Int):=by
 have pr:((List.range n).map λi:Nat=>(i:Int)).Pairwise (λx y=>x<y):=by
  rw[og];exact tZ.imp λ{x y} h=>by omega
 have nd:ms.Nodup:=hp.nodup_iff.mpr (pr.imp λ{x y} h=>by omega);refine FH (rk:=λx:Int=>x) ?_ pr λx=>hp.mem_iff;rw[tY]at hs ⊢;intro i j hi hj hij;have h1:=hs i j hi hj hij;have h2:=(tY.mp nd) i j hi hj hij;omega
def nr(n:Nat)(R:Nat->Nat->Bool)(q:Nat × Nat):Prop:=q.1<n/\q.2<n/\q.1≠q.2/\R q.1 q.2=true
def uB(n:Nat)(R:Nat->Nat->Bool)(p q:Nat × Nat):Prop:=uA n R p.1 p.2 q.1 q.2
structure yB (n:Nat) (R:Nat->Nat->Bool) (qs:List (Nat × Nat)):Prop where
 pos:0<qs.length
 few:qs.length<=3
 DX:∀q∈qs,nr n R q
 adj:∀(i:Nat) p q,qs[i]?=some p->qs[i+1]?=some q->uB n R p q\/uB n R q p
theorem acb{n:Nat}{R:Nat->Nat->Bool}{p m e:Nat × Nat}(hp:nr n R p)(hm:nr n R m)(he:nr n R e)(u1:uB n R m p)(u2:uB n R m e):yB n R (iN p m e):=by
 unfold iN;have vB:∀q,q=p\/q=m\/q=e->nr n R q:=λq h=>by
  rcases h with rfl|rfl|rfl
  ·exact hp
  ·exact hm
  ·exact he
 split
 ·rename_i c
  subst c
  split
  ·exact⟨by simp,by simp,λq hq=>vB q (.inl (by simpa using hq)),λi a b h1 h2=>by
    match i with
    |0=>cases h2
    |i+1=>cases h2⟩
  ·refine⟨by simp,by simp,λq hq=>vB q ((bp.mp hq).elim (λh=>.inl h) λh=>.inr (.inr (gi.mp h))),λi a b h1 h2=>?_⟩
   match i,h1,h2 with
   |0,h1,h2=>cases h1;cases h2;exact .inl u2
   |i+1,h1,h2=>simp at h2
 ·split
  ·rename_i c
   subst c;refine⟨by simp,by simp,λq hq=>vB q ((bp.mp hq).elim (λh=>.inl h) λh=>.inr (.inl (gi.mp h))),λi a b h1 h2=>?_⟩
   match i,h1,h2 with
   |0,h1,h2=>cases h1;cases h2;exact .inr u1
   |i+1,h1,h2=>simp at h2
  ·refine⟨by simp,by simp,λq hq=>vB q (by simpa using hq),λi a b h1 h2=>?_⟩
   match i,h1,h2 with
   |0,h1,h2=>cases h1;cases h2;exact .inr u1
   |1,h1,h2=>cases h1;cases h2;exact .inl u2
   |i+2,h1,h2=>simp at h2
theorem aca(p m e:Nat × Nat):(iN p m e)[0]?=some p/\(iN p m e)[(iN p m e).length - 1]?=some e:=by
 unfold iN
 split
 ·split
  ·rename_i c;rw[c];exact⟨rfl,rfl⟩
  ·exact⟨rfl,rfl⟩
 ·split
  ·rename_i c;rw[c];exact⟨rfl,rfl⟩
  ·exact⟨rfl,rfl⟩
section
variable {n:Nat} {R:Nat->Nat->Bool} {J N:Nat->Nat->Nat} {cs ds:List Nat} {r:Nat × Nat}
theorem R8(T:Two n R J N cs ds){lo hi x y:Nat}(h:yC n R J N lo hi x y):uA n R lo hi x y:=by
 refine⟨?_,?_⟩
 ·have:=T.M.j hi x h.lh h.li
  rwa [h.up]at this
 ·have:=T.M.m hi x h.lh h.li
  rwa [h.dn]at this
theorem Two.road(T:Two n R J N cs ds)(hc:∀i,i+1<cs.length->bH n R (cs.getD i 0) (cs.getD (i+1) 0)=true)(hd:∀i,i+1<ds.length->bH n R (ds.getD i 0) (ds.getD (i+1) 0)=true)(h:r∈aO J N cs ds):yB n R (jm J N cs ds r):=by
 have r1:=T.row h;have r2:=T.acd h;obtain⟨c1,c2⟩:=T.J8 hc h;obtain⟨d1,d2⟩:=T.swap.J8 hd (N_ T h);have u1:=R8 T r1;have u2:=R8 T r2;have p1:nr n R (jM J N cs ds r,dX J N cs ds r):=⟨r1.li,r1.vz,r1.ne,r1.r⟩;have p2:nr n R (jM J N ds cs r.swap,dX J N ds cs r.swap):=⟨r2.li,r2.vz,r2.ne,r2.r⟩;rw[c1,c2]at u1 p1;rw[d1,d2]at u2 p2;exact acb p1 ⟨r1.ll,r1.lh,r1.ne',r1.r'⟩ p2 u1 u2
end
section
variable {P:Program} {w:World} {K:W.Frag} {mg:Str->Option Value} {base:Heap} {f:Addr} {fd:FuncData}
abbrev Ez:Stmt:=top 82
theorem Qx:a_ ["_law_masks","_law_road","_law_part","_law_one","_law_other"] ["_law_masks","_law_road"] (aB Ez):=by trivial
noncomputable def GF (K:W.Frag):Sp:=λvs H Q _=>∃(m l:Nat) (M:List Nat) (qs:List (Nat × Nat)) (ws:List V),vs = [.ref m,.ref l]/\ah K H m (M.map nV)/\Ev.bO M/\H l=some (.lst ws)/\Paired (bT H) qs ws/\yB M.length (Ev.aG M) qs/\∀H',Same H H'->Q (.bl true) H'
theorem aaz (F:aU K "_law_is_road" "_law_is_road" Ez f fd) (T:Txt mg) (mP:aC P w K mg base "_law_whole" ["_law_found"] 1 w_) (fj:aC P w K mg base "_law_at_most" ["_law_masks","_law_a","_law_b"] 1 (nA K)) (uH:aC P w K mg base "_law_up" ["_law_masks","_law_one","_law_other"] 2 (G3 K)) :
  aN P w K mg base aZ 3 f fd ["_law_masks","_law_road"] (GF K):=by
 refine F.ok Qx (λvs H Q E h=>?_) (λcdv A outer s H vs Q E hr h=>?_)
 ·obtain⟨m,l,M,qs,ws,rfl,_⟩:=h
  rfl
 ·obtain⟨m,l,M,qs,ws,rfl,hm,hM,gl,hp,RO,kk⟩:=h
  have nd:=Qx.nd;have hlen:qs.length=ws.length:=cp hp;have hpos:=RO.pos;have hfew:=RO.few;refine⟨_,(av (bA (PW.pt (dI (du (bZ (bf (lC (K:=K) "list" rfl) rfl T.isinstance dG (ae (pv 1) (ae (kE (v:=.ty "list") rfl T.list mL rfl) ag))))) (ft (bw dW (bf (cK (K:=K) rfl) rfl T.len cR (ae (pv 1) ag)) ak (bh _))))) (ay (aR dB)) bD)
   (av (cx cq rfl (dC (K:=K) rfl (pv 1)) (bj (i:=2) nd rfl (Or.inl rfl))
   (av (bA (PW.pt (dI (du (bZ (bf (lC (K:=K) "tuple" rfl) rfl T.isinstance dG (ae (pv 2) (ae (kE (v:=.ty "tuple") rfl T.tuple j9 rfl) ag))))) (ft (bw f6 (bf (cK (K:=K) rfl) rfl T.len cR (ae (pv 2) ag)) ak (bh _))))) (ay (aR dB)) bD)
   (av (bA (PW.pt (dI (du (bZ (aL mP hr rfl (ae (aq (aK (K:=K) rfl) (pv 2) ak (λ_ _=>rfl)) ag)))) (ft (du (bZ (aL mP hr rfl (ae (aq (aK (K:=K) rfl) (pv 2) ak (λ_ _=>rfl)) ag))))))) (ay (aR dB)) bD)
   (av (bA (PW.pt (dI (bw pL (bf (JR (K:=K) rfl rfl) rfl T.min boot_min (ae (pv 2) ag)) ak (bh _)) (dI (bw vO (bf (JQ (K:=K) rfl rfl) rfl T.max boot_max (ae (pv 2) ag)) (bf (cK (K:=K) rfl) rfl T.len cR (ae (pv 0) ag)) (bh _)) (ft (bw dW (aq (aK (K:=K) rfl) (pv 2) ak (λ_ _=>rfl)) (aq (aK (K:=K) rfl) (pv 2) ak (λ_ _=>rfl)) (bh _)))))) (ay (aR dB)) bD)
   (ay (bA (du (bZ (aL fj hr rfl (ae (pv 0) (ae (aq (aK (K:=K) rfl) (pv 2) ak (λ_ _=>rfl)) (ae (aq (aK (K:=K) rfl) (pv 2) ak (λ_ _=>rfl)) ag (ao nofun)) (ao nofun)) (ao nofun))))) (ay (aR dB)) bD))))))
   (av (cx cq rfl (pR (K:=K) true true rfl rfl T.zip (ae (pv 1) (ae (gF (gH (K:=K) rfl) (pv 1) (f9 ak) gY) ag))) (iM (K:=K) (i:=3) (j:=4) rfl rfl nd rfl rfl rfl rfl)
   (ay (bA (PW.pt (lN (du (bZ (aL uH hr rfl (ae (pv 0) (ae (pv 3) (ae (pv 4) ag (ao nofun)) (ao nofun)) (ao nofun))))) (lO (du (bZ (aL uH hr rfl (ae (pv 0) (ae (pv 4) (ae (pv 3) ag (ao nofun)) (ao nofun)) (ao nofun)))))))) (ay (aR dB)) bD)))
   (ay (aR dB))))),?_⟩
  refine⟨_,rfl,_,_,_,rfl,.lst gl,rfl,_,rfl,bx ?_⟩;refine⟨_,rfl,l,_,rfl,.inl (ah.of gl),rfl,_,rfl,bq (λh=>?_) (λ_=>?_)⟩
  ·have h1:=pI h
   injection h1 with h1
   omega
  refine⟨_,rfl,l,rfl,⟨_,ah.of gl⟩,iF (K:=K) (a:=l) (xs:=ws) (λi σ H2=>∃(v2 v3 v4:Option V),σ = [some (.ref m),some (.ref l),v2,v3,v4]/\Same H H2) ⟨none,none,none,rfl,Same.refl _⟩ (λi σ H2 _ hpq=>by obtain⟨_,_,_,_,s2⟩:=hpq;exact ah.of (s2 _ _ gl)) ?_ ?_⟩
  ·rintro i x σ H2 hx ⟨v2,v3,v4,rfl,s2⟩
   obtain⟨q,hq,t,rfl,gt⟩:=c7 (c9.same s2 hp) hx;obtain⟨l1,l2,ne,le⟩:=RO.DX q (df hq);have Lp:H2 t=some (.tup ([(q.1:Int),(q.2:Int)].map V.int)):=gt;refine⟨_,rfl,_,_,_,rfl,.tup gt,rfl,_,rfl,bx ?_⟩;refine⟨_,rfl,t,_,rfl,.inr (ax.of gt),rfl,_,rfl,bx ?_⟩;refine⟨_,rfl,t,_,0,.int (q.1:Int),rfl,rfl,ax.of gt,aH (j:=0) rfl,_,rfl,.inl ⟨_,rfl⟩,λ_=>⟨_,rfl,bx ?_⟩,λz=>nomatch z⟩;refine⟨_,rfl,t,_,1,.int (q.2:Int),rfl,rfl,ax.of gt,aH (j:=1) rfl,_,rfl,.inl ⟨_,rfl⟩,λ_=>⟨_,rfl,bx ?_⟩,λz=>nomatch z⟩;refine⟨_,rfl,t,_,rfl,ax.of Lp,by show 0<2;decide,λmi hmi hmin=>⟨_,_,rfl,rfl,_,rfl,bq (λh=>?_) (λ_=>?_)⟩⟩
   ·rw[cL]at h
    rcases bp.mp hmi with e|e
    ·omega
    ·have e:=gi.mp e
     omega
   refine⟨_,rfl,t,_,rfl,ax.of Lp,by show 0<2;decide,λma hma rT=>⟨_,rfl,m,_,rfl,.inl (s2.seq hm),_,_,rfl,rfl,_,rfl,bq (λh=>?_) (λ_=>?_)⟩⟩
   ·rw[cL,az]at h
    rcases bp.mp hma with e|e
    ·omega
    ·have e:=gi.mp e
     omega
   refine⟨_,rfl,t,_,0,.int (q.1:Int),rfl,rfl,ax.of gt,aH (j:=0) rfl,_,rfl,t,_,1,.int (q.2:Int),rfl,rfl,ax.of gt,aH (j:=1) rfl,rfl,_,rfl,bq (λh=>?_) (λ_=>?_)⟩
   ·have h:=pI h
    injection h with h
    exact absurd (by omega) ne
   refine⟨_,rfl,_,rfl,t,_,0,.int (q.1:Int),rfl,rfl,ax.of gt,aH (j:=0) rfl,_,rfl,t,_,1,.int (q.2:Int),rfl,rfl,ax.of gt,aH (j:=1) rfl,m,q.1,q.2,M,rfl,s2.seq hm,l1,l2,λH3 s3=>⟨_,rfl,?_⟩⟩;rw[le];exact bx ⟨_,_,_,rfl,s2.trans s3⟩
  ·rintro σ H2 ⟨v2,v3,v4,rfl,s2⟩
   have Lh:=s2 _ _ gl;refine⟨_,rfl,_,rfl,_,rfl,l,_,rfl,ah.of Lh,λc hc=>?_⟩;have ec:d8 ws (some 1) none=ws.drop 1:=by rw[show(1:Int)=((1:Nat):Int)from rfl,qY]
   rw[ec];have sc:=Same.put (o:=.lst (ws.drop 1)) hc;have t2:=s2.trans sc;refine⟨l,c,_,_,rfl,ah.of (sc _ _ Lh),ah.of au,Vz (K:=K) (c1:=true) (c2:=true) (l1:=l) (l2:=c) (xs:=ws) (ys:=ws.drop 1) (λi σ H3=>∃(v2 v3 v4:Option V),σ = [some (.ref m),some (.ref l),v2,v3,v4]/\Same H H3/\H3 c=some (.lst (ws.drop 1))) ⟨v2,v3,v4,rfl,t2,au⟩ (λi σ H3 hpq=>by obtain⟨_,_,_,_,s3,gc⟩:=hpq;exact⟨ah.of (s3 _ _ gl),ah.of gc⟩) ?_ ?_⟩
   ·rintro i x y σ H3 Tt hx hy m6 ⟨v2,v3,v4,rfl,s3,gc⟩
    obtain⟨p,hp',ta,rfl,ga⟩:=c7 (c9.same s3 hp) hx;rw[HR,yb]at hy;obtain⟨q,hq',tb,rfl,gb⟩:=c7 (c9.same s3 hp) hy;obtain⟨a1,a2,a3,a4⟩:=RO.DX p (df hp');obtain⟨b1,b2,b3,b4⟩:=RO.DX q (df hq');have adj:=RO.adj i p q hp' hq';have sT:=Same.put (o:=.tup [.ref ta,.ref tb]) m6;refine⟨Tt,_,rfl,ax.of au,rfl,_,_,rfl,_,_,rfl,rfl,?_⟩;dsimp only[cD];have P4:=s3.trans sT;refine⟨_,rfl,_,rfl,_,rfl,m,ta,tb,p.1,p.2,q.1,q.2,M,rfl,P4.seq hm,hM,ax.of (sT _ _ ga),ax.of (sT _ _ gb),a1,a2,b1,b2,λc1 H4 s4 hc1=>⟨_,rfl,?_⟩⟩;have K_:=s4 _ _ (sT _ _ gc);have lU:=P4.trans s4;cases c1 with
    |true=>exact bx ⟨_,_,_,rfl,lU,K_⟩
    |false =>
     refine dR ⟨_,rfl,_,rfl,_,rfl,m,tb,ta,q.1,q.2,p.1,p.2,M,rfl,lU.seq hm,hM,ax.of (s4 _ _ (sT _ _ gb)),ax.of (s4 _ _ (sT _ _ ga)),b1,b2,a1,a2,λc2 H5 s5 hc2=>⟨_,rfl,?_⟩⟩;obtain rfl:c2=true:=by
      rcases adj with u|u
      ·exact absurd (hc1.mpr u) (by decide)
      ·exact hc2.mpr u
     exact bx ⟨_,_,_,rfl,lU.trans s5,s5 _ _ K_⟩
   ·rintro σ H3 ⟨v2,v3,v4,rfl,s3,gc⟩
    exact kk _ s3
theorem acv{n:Nat}{R:Nat->Nat->Bool}{J N:Nat->Nat->Nat}{cs ds:List Nat}(T:Two n R J N cs ds)(hd:∀i,i+1<ds.length->bH n R (ds.getD i 0) (ds.getD (i+1) 0)=true)(hpm:(cH J N cs ds).Perm (aO J N cs ds)):((aO J N cs ds).map λr=>((r.2:Nat):Int)).Perm ((List.range (ds.length - 1)).map λi:Nat=>(i:Int)):=by
 have e:=T.snd hd;have h:=(hpm.map (λr:Nat × Nat=>((r.2:Nat):Int))).symm;have e2:(cH J N cs ds).map (λr:Nat × Nat=>((r.2:Nat):Int))=(List.range (ds.length - 1)).map λi:Nat=>(i:Int):=by
  rw[<- e,eB];rfl
 rw[e2]at h;exact h
abbrev wF:Stmt:=top 83
theorem QF:a_ ["_law_masks","_law_one","_law_other","_law_told","_law_ones","_law_others","_law_numbers","_law_k","_law_row"] ["_law_masks","_law_one","_law_other","_law_told"] (aB wF):=by trivial
def Gw(K:W.Frag):Sp:=λvs H Q _=>∃(m t u l:Nat) (M cs ds:List Nat) (J N:Nat->Nat->Nat) (us:List V) (H0:Hp) (Lx:Addr),vs = [.ref m,.ref t,.ref u,.ref l]/\ah K H m (M.map nV)/\Ev.bO M/\Two M.length (Ev.aG M) J N cs ds/\(∀i,i+1<cs.length->bH M.length (Ev.aG M) (cs.getD i 0) (cs.getD (i+1) 0)=true)/\(∀i,i+1<ds.length->bH M.length (Ev.aG M) (ds.getD i 0) (ds.getD (i+1) 0)=true)/\H t=some (.lst (cs.map nV))/\H u=some (.lst (ds.map nV))/\H l=some (.lst us)/\Paired (kC J N cs ds H0 Lx H) (aO J N cs ds) us/\(cH J N cs ds).Perm (aO J N cs ds)/\∀H',Same H H'->Q (.bl true) H'
theorem aat (F:aU K "_law_paired" "_law_paired" wF f fd) (T:Txt mg) (mP:aC P w K mg base "_law_whole" ["_law_found"] 1 w_) (y8:aC P w K mg base "_law_is_road" ["_law_masks","_law_road"] 3 (GF K)) :
  aN P w K mg base aZ 4 f fd ["_law_masks","_law_one","_law_other","_law_told"] (Gw K):=by
 refine F.ok QF (λvs H Q E h=>?_) (λcdv A outer s H vs Q E hr h=>?_)
 ·obtain⟨m,t,u,l,M,cs,ds,J,N,us,H0,Lx,rfl,_⟩:=h
  rfl
 ·obtain⟨m,t,u,l,M,cs,ds,J,N,us,H0,Lx,rfl,hm,hM,TW,hc,hd,g1,g2,g3,hp,hpm,kk⟩:=h
  have nd:=QF.nd;have hu0:=hr.units;have hr0:=hr.mono (dP 3);have hu1:(A.deeper (envOfC "_law_paired" (aB wF) s.heap.objs.size f cdv)).units+1+0<cLine:=by omega
  have u_:=hM.len;have hfl:(aO J N cs ds).length=us.length:=cp hp;have hfc:=TW.BM hc;have hfd:=TW.swap.BM hd;have cpos:=TW.c.pos;have dpos:=TW.d.pos;have ad1:=TW.c.len TW.M.G;have ad2:=TW.d.len TW.M.G;have hsw:(aO J N ds cs).length=us.length:=by
   have:=hpm.length_eq;rw[Hd TW,az]at this;rw[this,hfl]
  have ec:∀l:List Nat,d8 (l.map nV) (some 1) none=(l.drop 1).map nV:=λl=>by rw[show(1:Int)=((1:Nat):Int)from rfl,qY,oa]
  refine⟨_,(av (aP (i:=4) nd rfl (Or.inl rfl) (DQ (K:=K) true true rfl rfl rfl T.list rfl T.zip (ae (pv 1) (ae (gF (gH (K:=K) rfl) (pv 1) (f9 ak) gY) ag))))
   (av (aP (i:=5) nd rfl (Or.inl rfl) (DQ (K:=K) true true rfl rfl rfl T.list rfl T.zip (ae (pv 2) (ae (gF (gH (K:=K) rfl) (pv 2) (f9 ak) gY) ag))))
   (av (bA (PW.pt (dI (du (bZ (bf (lC (K:=K) "list" rfl) rfl T.isinstance dG (ae (pv 3) (ae (kE (v:=.ty "list") rfl T.list mL rfl) ag))))) (dI (bw f6 (bf (cK (K:=K) rfl) rfl T.len cR (ae (pv 3) ag)) (bf (cK (K:=K) rfl) rfl T.len cR (ae (pv 4) ag)) (bh _)) (ft (bw f6 (bf (cK (K:=K) rfl) rfl T.len cR (ae (pv 4) ag)) (bf (cK (K:=K) rfl) rfl T.len cR (ae (pv 5) ag)) (bh _)))))) (ay (aR dB)) bD)
   (av (aP (i:=6) nd rfl (Or.inl rfl) (bU ag))
   (av (cx cq rfl (cQ rfl T.range (ae (bf (cK (K:=K) rfl) rfl T.len cR (ae (pv 3) ag)) ag)) (bj (i:=7) nd rfl (Or.inl rfl))
   (av (aP (i:=8) nd rfl (Or.inl rfl) (aq (aX (K:=K) rfl) (pv 3) (pv 7) (λ_ _=>rfl)))
   (av (bA (PW.pt (dI (du (bZ (bf (lC (K:=K) "tuple" rfl) rfl T.isinstance dG (ae (pv 8) (ae (kE (v:=.ty "tuple") rfl T.tuple j9 rfl) ag))))) (dI (bw f6 (bf (cK (K:=K) rfl) rfl T.len cR (ae (pv 8) ag)) ak (bh _)) (ft (du (bZ (aL mP hr rfl (ae (aq (aK (K:=K) rfl) (pv 8) ak (λ_ _=>rfl)) ag)))))))) (ay (aR dB)) bD)
   (av (bA (PW.pt (dI (du (bZ (aL y8 hr rfl (ae (pv 0) (ae (aq (aK (K:=K) rfl) (pv 8) ak (λ_ _=>rfl)) ag))))) (dI (bw pL (aq (aK (K:=K) rfl) (pv 8) ak (λ_ _=>rfl)) ak (bh _)) (ft (bw vO (aq (aK (K:=K) rfl) (pv 8) ak (λ_ _=>rfl)) (bf (cK (K:=K) rfl) rfl T.len cR (ae (pv 5) ag)) (bh _)))))) (ay (aR dB)) bD)
   (av (bA (PW.pt (dI (bw (vQ (K:=K) false 0 rfl hu1) (aq (aX (K:=K) rfl) (aq (aK (K:=K) rfl) (pv 8) ak (λ_ _=>rfl)) ak (λ_ _=>rfl)) (aq (aX (K:=K) rfl) (pv 4) (pv 7) (λ_ _=>rfl)) (bh _)) (ft (bw (vQ (K:=K) false 0 rfl hu1) (aq (aX (K:=K) rfl) (aq (aK (K:=K) rfl) (pv 8) ak (λ_ _=>rfl)) (lL lY ak) (λ_ _=>rfl)) (aq (aX (K:=K) rfl) (pv 5) (aq (aK (K:=K) rfl) (pv 8) ak (λ_ _=>rfl)) (λ_ _=>rfl)) (bh _))))) (ay (aR dB)) bD)
   (ay (cT (eP (K:=K) rfl eE iW jz iK (pv 6) (ae (aq (aK (K:=K) rfl) (pv 8) ak (λ_ _=>rfl)) ag)))))))))
   (ay (aR (iq (aaS (K:=K) 0 rfl hu1) (bf (Ue (K:=K) rfl hr0) rfl T.sorted TQ (ae (pv 6) ag)) (gE (T9 hr0) rfl T.list mL (ae (gE Ud (by rfl) T.range boot_range (ae (bf (cK (K:=K) rfl) rfl T.len cR (ae (pv 5) ag)) ag)) ag)) (bh _))))))))),?_⟩
  refine⟨_,rfl,_,rfl,_,rfl,t,_,rfl,ah.of g1,λq hq=>?_⟩;rw[ec];have sq:=Same.put (o:=.lst ((cs.drop 1).map nV)) hq;refine⟨t,q,_,_,rfl,sq.seq (ah.of g1),ah.of au,by rw[az,az];omega,λL1 ts1 H1 s1 hL1 Mv Mz K7=>?_⟩;have hp1:=Hm Mv Mz;have p6:=sq.trans s1;clear Mv Mz hL1 s1 sq hq;dsimp only[cD];refine⟨_,rfl,_,rfl,_,rfl,u,_,rfl,p6.seq (ah.of g2),λq hq=>?_⟩;rw[ec];have sq:=Same.put (o:=.lst ((ds.drop 1).map nV)) hq;refine⟨u,q,_,_,rfl,sq.seq (p6.seq (ah.of g2)),ah.of au,by rw[az,az];omega,λL2 nG H2 s2 hL2 Mw MF uT=>?_⟩;have hp2:=Hm Mw MF;have s12:=sq.trans s2;have dD:=p6.trans s12;have Ca:=s12 _ _ K7;have vd:=c9.same s12 hp1;clear Mw MF hL2 s2 sq hq K7 hp1;have e1:(ts1.map V.ref).length=us.length:=by rw[<- cp vd,pT];omega
  have e2:(nG.map V.ref).length=us.length:=by rw[<- cp hp2,pT];omega
  dsimp only[cD];show kH _ _ _ [some (.ref m),some (.ref t),some (.ref u),some (.ref l),some (.ref L1),some (.ref L2),none,none,none] _;refine⟨_,rfl,_,_,_,rfl,.lst (dD _ _ g3),rfl,_,rfl,bx ?_⟩;refine⟨_,rfl,l,_,rfl,.inl (ah.of (dD _ _ g3)),_,rfl,L1,_,rfl,.inl (ah.of Ca),rfl,_,rfl,?_⟩;rw[e1,cB rfl];refine bx ⟨_,rfl,L1,_,rfl,.inl (ah.of Ca),_,rfl,L2,_,rfl,.inl (ah.of uT),rfl,_,rfl,?_⟩;rw[e1,e2,cB rfl];refine bx ⟨by show 0<=sizeLine;decide,λNL Lz=>?_⟩;have sN:=Same.put (o:=.lst ([]:List V)) Lz;have en:((us.length:Int)).toNat=us.length:=dq _;dsimp only[cD];refine⟨_,rfl,l,us,rfl,.inl (ah.of (sN _ _ (dD _ _ g3))),_,rfl,by omega,by omega,fJ (lo:=0) (n:=((us.length:Int)).toNat) (λi σ H3=>∃(v7 v8:Option V),σ = [some (.ref m),some (.ref t),some (.ref u),some (.ref l),some (.ref L1),some (.ref L2),some (.ref NL),v7,v8]/\Same H2 H3/\H3 NL=some (.lst (((aO J N cs ds).take i).map λr=>nV r.2)))
   ⟨none,none,rfl,sN,by rw[au,List.take_zero];rfl⟩ ?_ ?_⟩
  ·rintro i σ H3 hi ⟨v7,v8,rfl,s3,gN⟩
   rw[en]at hi;have t3:=dD.trans s3;obtain⟨r,hr',tq,rl,wv,e3,ht,_,_,o7,rV⟩:=c7 (kC.same t3 hp) (aA hi);have hmem:=df hr';have RO:=TW.road hc hd hmem;have rj:=TW.KZ hc hr';obtain⟨m1,m2,_⟩:=ik.mp hmem;have hx:us[i]?=some (.ref tq):=by rw[aA hi,e3]
   obtain⟨Ee,Ef⟩:=aca (cs.getD r.1 0,cs.getD (r.1+1) 0) (dA J N cs ds r,cJ N cs ds r) (ds.getD r.2 0,ds.getD (r.2+1) 0);have Ee:(jm J N cs ds r)[0]?=some (cs.getD r.1 0,cs.getD (r.1+1) 0):=Ee;have Ef:(jm J N cs ds r)[(jm J N cs ds r).length - 1]?=some (ds.getD r.2 0,ds.getD (r.2+1) 0):=Ef;have wl:(jm J N cs ds r).length=wv.length:=cp rV;refine⟨_,rfl,_,rfl,l,us,_,.ref tq,rfl,rfl,ah.of (t3 _ _ g3),at0 hx,?_⟩;refine⟨_,rfl,_,_,_,rfl,.tup ht,rfl,_,rfl,bx ?_⟩;refine⟨_,rfl,tq,_,rfl,.inr (ax.of ht),rfl,_,rfl,bx ?_⟩;refine⟨_,rfl,tq,_,0,nV r.2,rfl,rfl,ax.of ht,aH (j:=0) rfl,_,rfl,.inl ⟨_,rfl⟩,λ_=>⟨_,rfl,bx ?_⟩,λz=>nomatch z⟩;refine⟨_,rfl,_,rfl,tq,_,1,.ref rl,rfl,rfl,ax.of ht,aH (j:=1) rfl,m,rl,M,_,wv,rfl,t3.seq hm,hM,o7,rV,RO,λH4 s4=>⟨_,rfl,bx ?_⟩⟩;have iO:=s3.trans s4;have t4:=dD.trans iO;have ph:=s4 _ _ ht;have K9:=s4 _ _ gN;have Lk:=s4 _ _ o7;have Mm:=c9.same s4 rV;refine⟨_,rfl,tq,_,0,nV r.2,rfl,rfl,ax.of ph,aH (j:=0) rfl,_,_,rfl,rfl,_,rfl,bq (λh=>?_) (λ_=>?_)⟩
   ·rw[cL]at h
    omega
   refine⟨_,rfl,tq,_,0,nV r.2,rfl,rfl,ax.of ph,aH (j:=0) rfl,_,rfl,L2,_,rfl,.inl (ah.of (iO _ _ uT)),_,_,rfl,rfl,_,rfl,bq (λh=>?_) (λ_=>?_)⟩
   ·rw[cL,e2]at h
    omega
   obtain⟨y1,hy1,ta,rfl,rL⟩:=il (c9.same iO vd) (nu (cs:=cs) (i:=i) (by omega));obtain⟨y2,hy2,tb,rfl,Ci⟩:=il (c9.same iO hp2) (nu (cs:=ds) (i:=r.2) m2);obtain⟨z1,hz1,tc,rfl,Ln⟩:=il Mm Ee;obtain⟨z2,hz2,td,rfl,Wi⟩:=il Mm Ef;rw[rj]at Ln;rw[wl]at hz2;have Yt:eT wv (-1)=some (.ref td):=by
    have hwp:0<wv.length:=by rw[<- wl];exact RO.pos
    obtain⟨pre,z,rfl⟩:∃pre z,wv=pre++[z]:=⟨wv.dropLast,wv.getLast (by intro e;rw[e]at hwp;simp at hwp),(HD _).symm⟩;rw[uC];rw[cz,mB,Nat.add_sub_cancel,iR (aY _),Im]at hz2;simpa using hz2
   have Wh:H4 tc=some (.tup [.int (((cs.getD i 0,cs.getD (i+1) 0):Nat × Nat).1:Int),.int (((cs.getD i 0,cs.getD (i+1) 0):Nat × Nat).2:Int)]):=Ln;have Wj:H4 td=some (.tup [.int (((ds.getD r.2 0,ds.getD (r.2+1) 0):Nat × Nat).1:Int),.int (((ds.getD r.2 0,ds.getD (r.2+1) 0):Nat × Nat).2:Int)]):=Wi;refine⟨_,rfl,tq,_,1,.ref rl,rfl,rfl,ax.of ph,aH (j:=1) rfl,rl,_,0,.ref tc,rfl,rfl,ah.of Lk,aH (j:=0) hz1,_,rfl,_,rfl,L1,_,_,.ref ta,rfl,rfl,ah.of (iO _ _ Ca),at0 hy1,tc,ta,_,_,_,rfl,rfl,ax.of Wh,ax.of rL,DG,?_⟩;rw[Dz,cB rfl];refine⟨_,rfl,bx ?_⟩;refine⟨_,rfl,tq,_,1,.ref rl,rfl,rfl,ax.of ph,aH (j:=1) rfl,1,rfl,rl,_,_,.ref td,rfl,rfl,ah.of Lk,Yt,_,rfl,_,rfl,tq,_,0,nV r.2,rfl,rfl,ax.of ph,aH (j:=0) rfl,L2,_,_,.ref tb,rfl,rfl,ah.of (iO _ _ uT),aH hy2,td,tb,_,_,_,rfl,rfl,ax.of Wj,ax.of Ci,DG,?_⟩;rw[Dz,cB rfl];refine⟨_,rfl,bx ?_⟩;refine⟨_,rfl,.inl ⟨rfl,_,ah.of K9⟩,_,rfl,tq,_,0,nV r.2,rfl,rfl,ax.of ph,aH (j:=0) rfl,NL,_,nV r.2,rfl,rfl,K9,dw (by rw[az,mC];omega),?_⟩;refine⟨_,_,rfl,λb o e=>by rw[aF (c6 e Lz)];exact iO _ _ e,?_⟩;rw[au,List.take_succ,hr',jy];rfl
  ·rintro σ H3 ⟨v7,v8,rfl,s3,gN⟩
   rw[en,<- hfl,oh]at gN;have t3:=dD.trans s3;have VH:H3 NL=some (.lst (((aO J N cs ds).map λr=>((r.2:Nat):Int)).map V.int)):=by rw[gN,eB];rfl
   refine⟨_,rfl,NL,_,rfl,ah.of VH,by rw[az];omega,λp ms hp' hml hsr=>?_⟩;obtain⟨q1,q2⟩:=hsr (by rw[az];omega);have zP:=acC (q1.trans (acv TW hd hpm)) q2;subst zP;have sp:=Same.put (o:=.lst (((List.range (ds.length - 1)).map λi:Nat=>(i:Int)).map V.int)) hp';refine⟨_,rfl,L2,_,rfl,.inl (ah.of (sp _ _ (s3 _ _ uT))),_,rfl,λrg Xn=>?_⟩;have Rw:=Same.put (o:=.rng 0 (((nG.map V.ref).length:Nat):Int)) Xn;refine⟨rg,(nG.map V.ref).length,rfl,au,by omega,λl hl=>?_⟩;have sl:=Same.put (o:=.lst ((List.range (nG.map V.ref).length).map λ(i:Nat)=>V.int i)) hl;have gp:=sl _ _ (Rw _ _ (pV (o:=.lst (((List.range (ds.length - 1)).map λi:Nat=>(i:Int)).map V.int)) hp'));have gl:=pV (o:=.lst ((List.range (nG.map V.ref).length).map λ(i:Nat)=>V.int i)) hl;have Wg:=gp.trans (show some (HO.lst (((List.range (ds.length - 1)).map λi:Nat=>(i:Int)).map V.int))=some (.lst ((List.range (ds.length - 1)).map nV))by rw[eB];rfl);refine Vd (c:=List.range (ds.length - 1)) (d:=List.range (nG.map V.ref).length) (ah.of Wg) (ah.of gl) ?_;have ed:decide (List.range (ds.length - 1)=List.range (nG.map V.ref).length)=true:=by
    rw[e2];have:ds.length - 1=us.length:=by omega
    rw[this];exact cB rfl
   rw[ed];exact kk _ (t3.trans (sp.trans (Rw.trans sl)))
end
end _M
namespace _L
open PySem PySem.Spec PyProof.Rows
def Td(X:Cx)(XE:XK)(σ0:St):Value->Shared->Prop:=λex s'=>∃pins H1 s1,Inv X pins σ0 H1 s1/\bN X.prog X.w X.stack H1 s1 XE ex s'
abbrev Cx.jW (X:Cx) (pins:List (Addr × Obj)) (XE:XK) (σ0:St):Cx:=(X.pS pins).wish (Td (X.pS pins) XE σ0)
def acM(σ0:St)(sp:Sp)(E:XK)(t:TA):TE:=λσ H Q=>σ=σ0/\qf sp [] E t σ H Q
section
variable {X:Cx} {pins:List (Addr × Obj)} {XE:XK} {σ0:St} {x:Str} {ps:List Str} {k k':Nat} {sp:Sp} {e:Expr} {es:List Expr} {t:TA} {p pos:Pos}
theorem ach{CX:gM}{f:Addr}{fd:FuncData}{d9:List V}{ds:List Value}{E:XK}{pins:List (Addr × Obj)}{σ:St}{H:Hp}{s:Shared}{Q:VK}{us:List Value}{vs:List V}(F:aN X.prog X.w X.K X.mg X.base CX k f fd ps sp)(hr:bQ k X.A)(hb:Binds X.K fd ps ds)(hd:Vals d9 ds)(hx:∀e s',CX X.stack H s E e s'->X.xe e s')(I:Inv X pins σ H s)(r:Vals vs us)(h:sp (vs++d9) H Q E):wpAny (model X.prog X.w) X.A (call (.ref f) us) (EP X pins σ Q) X.xe s:=by
 have r2:Vals (vs++d9) (us++ds):=r.append hd;have hl:(us++ds).length=ps.length:=by rw[<- r2.length];exact F.len _ _ _ _ h
 refine k_ (j4 (F.run X.A X.stack s H ⟨us,[]⟩ (us++ds) (vs++d9) Q E hr I.env0 (hb s us I.cw hl) r2 h) λr s' hq=>?_);cases r with
 |error e=>exact hx e s' hq
 |ok fl =>
  cases fl with
  |ret u=>exact I.after hq
  |next=>exact False.elim hq
  |brk=>exact False.elim hq
  |cont=>exact False.elim hq
theorem abb (c:eR X.prog X.w X.K X.mg X.base x ps k sp) (hr:bQ k' X.A) (hg:Gl (X.jW pins XE σ0) x) (ha:PA (X.jW pins XE σ0) (e::es) t) (hk:k<=k':=by decide) (hdb:(x==("__debug__" : Str))=false:=by decide)
  (he:starEach (e::es) (X.jW pins XE σ0).env=(false,eval e (X.jW pins XE σ0).env)::starEach es (X.jW pins XE σ0).env:=by rfl) (hpl:(backTo pos (starEach es (X.jW pins XE σ0).env)).any (·.1)=false:=by rfl):PE (X.jW pins XE σ0) (.Call (.Name x p) (e::es) [] pos) (acM σ0 sp XE t):=by
 obtain⟨f,fd,F,hm,kp,b⟩:=c.ex;intro lM s σ H Q I h;obtain⟨rfl,h⟩:=h;refine mH (ku I hg hm ?_ hdb);refine W.callWith_K (h₀:=X.base) I.ok.mod.jf kp (aM (ha pos lM s σ H _ I h) λus s1 ⟨vs,H1,I1,r,q⟩=>⟨I1.cw,?_⟩) he hpl;exact ach (X:=X.jW pins XE σ) F (hr.mono hk) b .nil (λe s' hcx=>⟨lM,H1,s1,I1.iy,hcx⟩) I1 r q
end
def ac7(K:W.Frag)(Dc:Addr)(i:Nat)(tb:XK->St->TS)(ts:TS):TS:=λD σ H=>∃XE:XK,tb XE σ D σ H/\∀cls dx H',XE cls dx H'->∃C,cls = .ref C/\W.exmOne K (.ref C) (.ref Dc)=some true /\
 ∀e,H' e=none->ts {nx:=λσ' Sx=>D.nx (σ'.set i none) Sx,rt:=λ_ _=>False} (σ.set i (some (.ref e))) (upd H' e (ju e C dx))
section
variable {X:Cx} {body suite:List Stmt} {b0:Stmt} {c n:Str} {np hpos pos:Pos} {i:Nat} {Dc:Addr} {tb:XK->St->TS} {ts:TS}
theorem SP.xo{XE:XK}{σ0:St}{pins:List (Addr × Obj)}{D:Ends}{f:Flow}{s':Shared}(h:SP (X.jW pins XE σ0) [] D f s'):SP X pins D f s':=by
 cases f with
 |next=>obtain⟨σ',H',I,q⟩:=h;exact⟨σ',H',I.iy.tD,q⟩
 |brk=>obtain⟨σ',H',I,q⟩:=h;exact⟨σ',H',I.iy.tD,q⟩
 |cont=>obtain⟨σ',H',I,q⟩:=h;exact⟨σ',H',I.iy.tD,q⟩
 |ret u=>obtain⟨v,σ',H',I,r,q⟩:=h;exact⟨v,σ',H',I.iy.tD,r,q⟩
theorem abD(hN:X.N.Nodup)(hi:X.N[i]?=some n)(hloc:X.env.scope.names.lookup n=some .local)(hg:Gl X c)(hm:X.mg c=some (.ref Dc))(hst:X.stack=X.env::X.outer)(hf:X.env.frame=some X.env.locals)(WX:X.ex = [])
  (hb:∀XE pins σ0,fE (X.jW pins XE σ0) body (tb XE σ0)) (hs:∀e,fE (X.marked e) (b0::suite) ts) (hd:(c==("__debug__" : Str))=false:=by decide) :
  PS X (.Try body [.ExceptHandler (some (.Name c np)) (some n) (b0::suite) hpos] [] [] pos) (ac7 X.K Dc i tb ts):=by
 intro pins s σ H D I h;obtain⟨XE,h⟩:=h;refine wpAny_Try_except (eI (hb XE pins σ [] s σ H D (I.pS.wish _) h.1) (λf s1 q=>?_) λex s2 hx=>?_)
 ·cases f with
  |next=>exact uo q.xo
  |brk=>exact q.xo
  |cont=>exact q.xo
  |ret u=>exact q.xo
 obtain⟨lM,H1,s1,I1,ea,C,dx,T,H2,rfl,os,bare,un,hok,xr,n1,n2,f1,f2,hE⟩:=hx;obtain⟨C',hC',hex,hs'⟩:=h.2 _ _ _ hE;cases hC';have hfr:X.A.frames=some (X.env::X.outer):=by rw[<- hst];exact I1.ok.frames
 have nx:∀b:Addr,b ∉ ([]:List Addr):=λb z=>nomatch z;have hl:s2.heap.FunFrames X.base (X.env::X.outer):=by
  rw[<- hst];exact uS (λb hb o e=>un.any e (I1.nF b hb) (nx b)) I1.stack
 have nf:∀b∈frs X.stack,H2 b=none:=λb hb=>by
  obtain⟨_,o,ho,_⟩:=I1.stack.mem hb;exact un.free b o ho (I1.nF b hb) (nx b)
 have hc:∀b∈[ea,T],s1.heap.get? b=none:=λb z=>by
  rcases bp.mp z with z|z
  ·rw[z];exact f1
  ·rw[gi.mp z];exact f2
 have nc:∀b∈[ea,T],H2 b=none:=λb z=>by
  rcases bp.mp z with z|z
  ·rw[z];exact n1
  ·rw[gi.mp z];exact n2
 have h0:X.s₀.heap.get? ea=none:=by
  cases z:X.s₀.heap.get? ea with
  |none=>rfl
  |some o =>
   obtain⟨o',z'⟩:=I1.base.there ea o z (by show ea ∉ X.ex;rw[WX];exact nx ea);rw[f1]at z';cases z'
 have hpn:∀p∈X.pn++pins,p.1≠ea:=λp hp z=>by
  have:=(I1.pin p (kR _ hp)).1;rw[z,f1]at this;cases this
 have at_:∀{h5:Heap} {T5:Addr} {fl:Value},Un (frs X.stack) [] H1 H2 s1.heap h5->bL X.prog X.w H2 h5->hV h5 ea (.ref C) dx T5 fl->Inv X pins σ (upd H2 ea (ju ea C dx)) {s2 with heap:=h5}:=by
  intro h5 T5 fl un5 Xj x5;obtain⟨hh,gg,dd,tt,oo⟩:=s2;obtain rfl:oo=s1.os:=os;have J:Inv X pins σ H2 {s1 with heap:=h5,gens:=gg,drawn:=dd,toks:=tt}:=(I1.call (h':=h5) (g':=gg) (d':=dd) (t':=tt) (ch:=[]) un5 Xj bare (λb z=>absurd z (nx b))).tD;obtain⟨oe,vs,e1,e2,e3,e4,_⟩:=x5.ex;exact J.track e1 e4 n1 h0 hpn (Vn e1 e2 e3 e4)
 refine Ov hfr hl hf xr λh3 T' m hT x=>?_;refine uR x λh4 m4 x4=>?_;have M4:Moved (frs X.stack) [ea,T] s2.heap h4:=by rw[hst];exact m.fresh m4 hT
 have R6:=R7 un M4 hc;have Mi:=vb hok M4 nf nc;have J4:=at_ R6 Mi x4;obtain⟨oe,vs,e1,e2,e3,e4,_⟩:=x4.ex;refine wpAny_handleBy_cons (codeAny_handlers_test (ku (X:=X.marked ea) J4.marked hg hm ?_ hd)) (by intro q;cases q);have LT:W.Looks (model X.prog X.w) h4 (typeOf (.ref ea)) (.ref C):=e2▸(W.Looks.ld e1).andThen .now;refine W.exm_one (K:=X.K) J4.cw LT hex _ _ _ _ (λ_ _ z=>z) ?_;refine codeAny_handlers_suite_as (uR x4 λh5 m5 x5=>?_);have M5:Moved (frs X.stack) [T'] h4 h5:=m5.mono (λ_ z=>nomatch z) λ_ z=>z;have fT:∀b∈[T'],s1.heap.get? b=none:=λb z=>by rw[gi.mp z];exact Oq un hT
 have J5:=at_ (R7 R6 M5 fT) (vb Mi M5 nf λb z=>by rw[gi.mp z];exact hok.fresh hT) x5;refine xg J5 hN hi (.inl hloc) (show RelV (.ref ea) (Value.ref ea)from rfl) (λs6 I6 _=>?_) (.inr hloc);refine eI (hs ea pins s6 _ _ _ I6.marked (hs' ea n1)) (λf s7 q7=>?_) λ_ _ z=>False.elim z;cases f with
 |next =>
  obtain⟨σ7,H7,I7,q⟩:=q7;have I7:=I7.unmarked I.ok;obtain⟨m7,Mg,_⟩:=id I7.loc;refine wpAny_nameGoes_keeps hloc Mg (by rw[I7.ok.kind];rfl) λh8 v Xg Xo=>?_;exact⟨_,_,I7.gone hN hi hloc Mg Xg (λx hx=>if_neg hx) Xo,q⟩
 |brk=>obtain⟨_,_,_,q⟩:=q7;exact False.elim q
 |cont=>obtain⟨_,_,_,q⟩:=q7;exact False.elim q
 |ret u=>obtain⟨_,_,_,_,_,q⟩:=q7;exact False.elim q
end
section
open PySem.SeqAt
open PySem.AutoSeq1 (wpAny_loadPart')
open PySem.MeetsSeq PySem.MeetsSeq2 PySem.MeetsSeq3
end
end _L
namespace _M
open PySem PySem.Spec PyProof.Rows _L
theorem Rx{n:Nat}{R R':Nat->Nat->Bool}(hR:∀a b,a<n->b<n->R a b=R' a b){a b:Nat}(ha:a<n)(hb:b<n)(h:bH n R a b=true):bH n R' a b=true:=by
 obtain⟨h1,h2,h3⟩:=G7.mp h;exact G7.mpr ⟨h1,by rw[<- hR a b ha hb];exact h2,λt ht q1 q2=>h3 t ht (by rw[hR a t ha ht];exact q1) (by rw[hR t b ht hb];exact q2)⟩
theorem dm.dh{n:Nat}{R:Nat->Nat->Bool}{cs:List Nat}(h:dm n R cs)(hs:∀i,i+1<cs.length->bH n R (cs.getD i 0) (cs.getD (i+1) 0)=true):dh n R (cs.map λx:Nat=>(x:Int))=true:=by
 unfold _M.dh;rw[h.c5,fz];unfold mK;rw[fB];intro i hi;rw[az]at hi;have hi:=dO.mp hi;rw[fW,fW,dq,dq];exact hs i (by omega)
theorem aa3{K:W.Frag}{H:Hp}{ps:List (Nat × Nat)}{us ws:List V}(h1:Paired (bT H) ps us)(h2:Paired (bT H) ps ws):mr K H 1 us ws λ_=>true:=by
 refine⟨by rw[<- cp h1,<- cp h2],λj x y hx hy=>?_⟩;obtain⟨q,e1,t,rfl,e3⟩:=c7 h1 hx;obtain⟨q',e1',u,rfl,e3'⟩:=c7 h2 hy;rw[e1]at e1';cases e1';have:=bK.tup (K:=K) (H:=H) 0 t u _ _ (λ_=>true) (ax.of e3) (ax.of e3') rfl λk x y hx hy=>by
  rw[hx]at hy;cases hy;have self:∀z:Int,bK K H 0 (.int z) (.int z) true:=λz=>by
   have:=bK.int (K:=K) (H:=H) 0 z z;rw[qT]at this;exact this
  match k,hx with
  |0,hx=>cases hx;exact self _
  |1,hx=>cases hx;exact self _
  |k+2,hx=>simp at hx
 exact this
noncomputable def lG (J N:Nat->Nat->Nat) (cs ds:List Nat) (H:Hp) (r:Nat × Nat) (v:V):Prop:=∃(t cl:Addr) (ws:List V),v = .ref t/\H t=some (.tup [nV r.2,.ref cl])/\H cl=some (.lst ws)/\Paired (bT H) (jm J N cs ds r) ws
theorem lG.same{J N:Nat->Nat->Nat}{cs ds:List Nat}{H H':Hp}(s:Same H H'){l:List (Nat × Nat)}{us:List V}(h:Paired (lG J N cs ds H) l us):Paired (lG J N cs ds H') l us:=Paired.di h λ_ _ hpq=>by obtain⟨t,cl,ws,e,q1,q4,q5⟩:=hpq;exact⟨t,cl,ws,e,s _ _ q1,s _ _ q4,c9.same s q5⟩
theorem aa5{J N:Nat->Nat->Nat}{cs ds:List Nat}{H0 H:Hp}{L:Addr}{l:List (Nat × Nat)}{us:List V}(h:Paired (kC J N cs ds H0 L H) l us):Paired (lG J N cs ds H) l us:=Paired.di h λ_ _ hpq=>by obtain⟨t,rl,ws,e,q1,_,_,q4,q5⟩:=hpq;exact⟨t,rl,ws,e,q1,q4,q5⟩
theorem Ye{J N:Nat->Nat->Nat}{cs ds:List Nat}{K:W.Frag}{H:Hp}{l:List (Nat × Nat)}{us ws:List V}(h1:Paired (lG J N cs ds H) l us)(h2:Paired (lG J N cs ds H) l ws):mr K H 3 us ws λ_=>true:=by
 refine⟨by rw[<- cp h1,<- cp h2],λj x y hx hy=>?_⟩;obtain⟨q,e1,t,c,w1,rfl,e3,e4,e5⟩:=c7 h1 hx;obtain⟨q',e1',u,c',w2,rfl,e3',e4',e5'⟩:=c7 h2 hy;rw[e1]at e1';cases e1';have:=bK.tup (K:=K) (H:=H) 2 t u _ _ (λ_=>true) (ax.of e3) (ax.of e3') rfl λk x y hx hy=>by
  match k with
  |0 =>
   cases hx;cases hy;have:=bK.int (K:=K) (H:=H) 2 (q.2:Int) (q.2:Int);rw[qT]at this;exact this
  |1 =>
   cases hx;cases hy;have i:=aa3 (K:=K) e5 e5';have:=bK.lst (K:=K) (H:=H) 1 c c' _ _ _ (ah.of e4) (ah.of e4') i.1 i.2;rw[Jq]at this;exact this
  |k+2=>simp at hx
 exact this
section
variable {P:Program} {w:World} {K:W.Frag} {mg:Str->Option Value} {base:Heap} {f:Addr} {fd:FuncData} {a0 a1 a2 a3 a4 a5 a6 a7 a8 a9 a10 a11 a12 a13 a14 aE:Addr}
abbrev qa:Stmt:=top 84
theorem QG:a_ ["_law_order_here","_law_masks","_law_one","_law_other","_law_even","_law_handed_here","_law_kept","_law_told","_law_first","_law_number","_law_road","_law_e"] ["_law_order_here","_law_masks","_law_one","_law_other","_law_even"] (aB qa):=by trivial
def GC(K:W.Frag)(C Pt:Addr):Sp:=λvs H Q _=>∃(p m t u:Nat) (M cs ds:List Nat) (R:Nat->Nat->Bool) (ev:Bool),vs = [.ref p,.ref m,.ref t,.ref u,.bl ev]/\eD C H p M.length R/\Good M.length R/\(∀a b,a<M.length->b<M.length->R a b=Ev.aG M a b)/\Ev.bO M/\ah K H m (M.map nV)/\H Pt=some (.lam lI lJ)/\H t=some (.lst (cs.map nV))/\H u=some (.lst (ds.map nV))/\dm M.length (Ev.aG M) cs/\dm M.length (Ev.aG M) ds/\(∀i,i+1<cs.length->bH M.length (Ev.aG M) (cs.getD i 0) (cs.getD (i+1) 0)=true)/\(∀i,i+1<ds.length->bH M.length (Ev.aG M) (ds.getD i 0) (ds.getD (i+1) 0)=true)/\cs.getD 0 0=ds.getD 0 0/\cs.getD (cs.length - 1) 0=ds.getD (ds.length - 1) 0 /\
 (ev=true->∀a b c,a<M.length->b<M.length->c<M.length->¬ Un M.length (Ev.aG M) a b c)/\(ev=false->∃a b c,a<M.length/\b<M.length/\c<M.length/\Un M.length (Ev.aG M) a b c)/\∀H',Same H H'->Q (.bl true) H'
theorem aax {C Pt:Addr} (F:aU K "_law_right" "_law_right" qa f fd) (T:Txt mg) (TC:eZ K C) (Er:kM mg a0 a1 a2 a3 a4 a5 a6 a7 a8 a9 a10 a11 a12 a13 a14 aE) (ny:oF K a0 a1 a2 a3 a4 a5 a6 a7 a8 a9 a10 a11 a12 a13 a14 aE a14 14) (l0:xK K a14 "five")
  (uO:eR P w K mg base "paired" ["order","one","other"] 8 (Gx K C a1 a3 a14 Pt)) (yX:aC P w K mg base "_law_class" ["_law_e"] 1 (FK λC j=>oF K a0 a1 a2 a3 a4 a5 a6 a7 a8 a9 a10 a11 a12 a13 a14 aE C j))
  (y7:aC P w K mg base "_law_is_five" ["_law_masks","_law_five"] 2 (FX K)) (zb:aC P w K mg base "_law_paired" ["_law_masks","_law_one","_law_other","_law_told"] 4 (Gw K)) :
  aN P w K mg base aZ 9 f fd ["_law_order_here","_law_masks","_law_one","_law_other","_law_even"] (GC K C Pt):=by
 refine F.ok QG (λvs H Q E h=>?_) (λcdv A outer s H vs Q E hr h=>?_)
 ·obtain⟨p,m,t,u,M,cs,ds,R,ev,rfl,_⟩:=h
  rfl
 ·obtain⟨p,m,t,u,M,cs,ds,R,ev,rfl,hO,G,hR,hM,hm,hP,hT,hU,hC,hD,Mr,hsD,h0,h1,hev,va,kk⟩:=h
  have nd:=QG.nd;have hu0:=hr.units;have hu2:(A.deeper (envOfC "_law_right" (aB qa) s.heap.objs.size f cdv)).units+1+1<cLine:=by omega
  have Xs:(A.deeper (envOfC "_law_right" (aB qa) s.heap.objs.size f cdv)).units+1+3<cLine:=by omega
  have u_:=hM.len;have hR':∀a b,a<M.length->b<M.length->Ev.aG M a b=R a b:=λa b ha hb=>(hR a b ha hb).symm;have c1:=(hC.congr hR').dh λi hi=>Rx hR' (hC.at (by omega)) (hC.at hi) (Mr i hi);have c2:=(hD.congr hR').dh λi hi=>Rx hR' (hD.at (by omega)) (hD.at hi) (hsD i hi);have ce:=Vb h0 h1;have lc:=hC.len (vv hM);have ld:=hD.len (vv hM);obtain⟨J,hJ⟩:=Wc G;obtain⟨N,hN⟩:=Wd G;have hTi:=hT;have LW:=hU;rw[<- vo]at hTi LW;refine⟨_,(av (aP (i:=5) nd rfl (Or.inl rfl) (bU (ae (gE (uJ (K:=K) rfl) rfl T.list mL (ae (pv 2) ag)) (ae (gE (uJ (K:=K) rfl) rfl T.list mL (ae (pv 3) ag)) ag))))
   (av (aP (i:=6) nd rfl (Or.inl rfl) jR)
   (av (aP (i:=7) nd rfl (Or.inl rfl) jR)
   (av (abD (i:=11) nd rfl rfl rfl Er.ClimbError rfl rfl rfl (λXE pins σ0=>(ay (aP (i:=7) nd rfl (Or.inl rfl) (abb uO hr rfl (ae (pv 0) (ae (aq (aX (K:=K) rfl) (pv 5) ak (λ_ _=>rfl)) (ae (aq (aX (K:=K) rfl) (pv 5) ak (λ_ _=>rfl)) ag (ao nofun)) (ao nofun)) (ao nofun)))))) (λe=>(ay (aP (i:=6) nd rfl (Or.inl rfl) (pv 11)))))
   (av (bA (bw (vQ (K:=K) true 1 rfl hu2) (pv 5) (bU (ae (pv 2) (ae (pv 3) ag))) (bh _)) (ay (aR dB)) bD)
   (av (bA (du (bZ (pv 4))) (av (bA (PW.pt (dI (bw vP (pv 6) jR (bh _)) (ft (bw f6 (aL yX hr rfl (ae (pv 6) ag)) pQ (bh _))))) (ay (aR dB)) bD)
   (ay (aR (aL y7 hr rfl (ae (pv 1) (ae (abo (pv 6)) ag)))))) bD)
   (av (bA (PW.pt (dI (bw OJ (pv 6) jR (bh _)) (ft (du (bZ (aL zb hr rfl (ae (pv 1) (ae (pv 2) (ae (pv 3) (ae (pv 7) ag (ao nofun)) (ao nofun)) (ao nofun)) (ao nofun)))))))) (ay (aR dB)) bD)
   (av (pU (i:=8) nd rfl rfl (own:=["_law_number","_law_road"]) (fr:=[]) rfl (cA (aB qa) ["_law_order_here","_law_masks","_law_one","_law_other","_law_even","_law_handed_here","_law_kept","_law_told","_law_first","_law_number","_law_road","_law_e"] rfl rfl (by trivial)) (dC (K:=K) rfl (pv 7)) (λ_ _ _ _=>⟨(iM (K:=K) (i:=0) (j:=1) rfl rfl (by trivial:(["_law_number","_law_road"]:List Str).Nodup) rfl rfl rfl rfl),da,(fP (ae (pv 0) (ae (gE (uJ (K:=K) rfl) rfl T.list mL (ae (pv 1) ag)) ag)))⟩))
   (av (cx cq rfl (dC (K:=K) rfl (pv 7)) (iM (K:=K) (i:=9) (j:=10) rfl rfl nd rfl rfl rfl rfl)
   (ay (cT (O_ (K:=K) rfl eE IV S' Oc (pv 10)))))
   (av (cT (O_ (K:=K) rfl eE IV S' Oc (pv 7)))
   (ay (aR (kD (iq (sE (K:=K) true 1 rfl hu2) (pv 5) (bU (ae (pv 2) (ae (pv 3) ag))) (bh _)) (jS (iq (sE (K:=K) true 3 rfl Xs) (kF uO aa4 hr rfl (ae (pv 0) (ae (pv 2) (ae (pv 3) ag (ao nofun)) (ao nofun)) (ao nofun))) (pv 8) (bh _)))))))))))))))),?_⟩
  refine⟨_,rfl,t,_,rfl,.inl (ah.of hT),λh1 hh1=>⟨_,rfl,u,_,rfl,.inl (ah.of (Same.put hh1 _ _ hU)),λh2 Ct=>⟨by show 2<=sizeLine;decide,λhl Cu=>?_⟩⟩⟩;have Rn:=Same.put (o:=.lst (cs.map nV)) hh1;have Fz:=Same.put (o:=.lst (ds.map nV)) Ct;have shl:=Same.put (o:=.lst [.ref h1,.ref h2]) Cu;have s1:=(Rn.trans Fz).trans shl;have rJ:=shl _ _ (Fz _ _ (pV (o:=.lst (cs.map nV)) hh1));have rK:=shl _ _ (pV (o:=.lst (ds.map nV)) Ct);have o6:=pV (o:=.lst [.ref h1,.ref h2]) Cu;dsimp only[cD];generalize upd (upd (upd H h1 _) h2 _) hl _=H1 at s1 rJ rK o6 ⊢;clear shl Rn Fz Cu Ct hh1;have Lf:=rJ;have Lg:=rK;rw[<- vo]at Lf Lg;have uL:∀l:List Nat,l.length<=M.length->(l.map λx:Nat=>(x:Int)).length<=1000:=λl hl=>by rw[az];omega
  refine⟨λcls dx H'=>cls = .ref a14/\∃d v fs a b c,dx=some d/\Same H1 H'/\First M.length (Un M.length R) a b c/\H' d=some (.xd [("five", .ref v)])/\H' v=some (.tup (fs.map V.int))/\Five M.length R fs,?_,λcls dx H' hx=>?_⟩
  ·refine⟨rfl,_,rfl,_,rfl,hl,_,0,.ref h1,rfl,rfl,ah.of o6,aH (j:=0) rfl,_,rfl,hl,_,1,.ref h2,rfl,rfl,ah.of o6,aH (j:=1) rfl,p,h1,h2,M.length,R,J,N,_,_,rfl,hO.eQ s1,G,u_,hJ,hN,s1 _ _ hP,ah.of Lf,ah.of Lg,uL _ lc,uL _ ld,λz=>absurd ⟨c1,c2⟩ z,λ_ _ z=>(by rw[ce]at z;cases z),λ_ _ _ dx v fs a b c H2 s2 f1 f2 f3 f4=>⟨rfl,dx,v,fs,a,b,c,rfl,s2,f1,f2,f3,f4⟩,λcs' ds' TW hc' hd' L us H2 s2' s2'' s2 no rN gL hp hpm=>?_⟩
   obtain rfl:cs'=cs:=by
    have:=congrArg (List.map Int.toNat) s2';rw[toNat_cast,toNat_cast]at this;exact this.symm
   obtain rfl:ds'=ds:=by
    have:=congrArg (List.map Int.toNat) s2'';rw[toNat_cast,toNat_cast]at this;exact this.symm
   have TM:=TW.congr hR (vv hM);have t2:=s1.trans s2;dsimp only[cD];refine⟨_,rfl,_,rfl,_,rfl,by show 2<=sizeLine;decide,λl2 hl2=>?_⟩;have sl2:=Same.put (o:=.lst [.ref t,.ref u]) hl2;have s3:=s2.trans sl2;have t3:=s1.trans s3;refine⟨hl,l2,_,_,_,rfl,rfl,ah.of (s3 _ _ o6),ah.of au,CZ (s3 _ _ rJ) (s3 _ _ rK) (t3 _ _ hT) (t3 _ _ hU),_,rfl,bx ?_⟩;have Vm:ev=true:=by
    cases ev with
    |true=>rfl
    |false =>
     obtain⟨a,b,c,ha,hb,hc,hun⟩:=va rfl;exact absurd (hun.congr hR' ha hb hc) (no a b c ha hb hc)
   subst Vm;refine⟨_,rfl,true,rfl,bx ?_⟩;refine⟨_,rfl,rfl,_,rfl,bx ?_⟩;refine⟨_,rfl,_,rfl,_,rfl,_,rfl,m,t,u,L,M,_,_,J,N,us,H1,L,rfl,t3.seq hm,hM,TM,Mr,hsD,t3 _ _ hT,t3 _ _ hU,sl2 _ _ gL,kC.same sl2 hp,hpm,λH4 s4=>⟨_,rfl,bx ?_⟩⟩;have p8:=sl2.trans s4;have lT:=s3.trans s4;have iG:=p8 _ _ gL;have cF:=kC.same p8 hp;clear s4 sl2 hl2;have hfl:(aO J N cs' ds').length=us.length:=cp cF;have WY:=TW.K0;have ex:∀i,∃(tq rl:Addr) (ws:List V),i<us.length->us[i]?=some (.ref tq)/\H4 tq=some (.tup [nV ((aO J N cs' ds').getD i (0,0)).2,.ref rl])/\H1 rl=none/\rl≠L/\H4 rl=some (.lst ws)/\Paired (bT H4) (jm J N cs' ds' ((aO J N cs' ds').getD i (0,0))) ws:=λi=>by
    by_cases hi:i<us.length
    ·obtain⟨r,hr',tq,rl,ws,e1,e2,e3,e4,e5,e6⟩:=c7 cF (aA hi)
     have er:(aO J N cs' ds').getD i (0,0)=r:=by rw[aQ,hr'];rfl
     refine⟨tq,rl,ws,λ_=>?_⟩;rw[er];exact⟨by rw[aA hi,e1],e2,e3,e4,e5,e6⟩
    ·exact⟨0,0,[],λz=>absurd z hi⟩
   obtain⟨tf,ex⟩:=Hv ex;obtain⟨rf,ex⟩:=Hv ex;obtain⟨wf,ex⟩:=Hv ex;refine⟨_,rfl,L,rfl,⟨_,ah.of iG⟩,λD hD=>mS (λj v H'=>∃(tq cl:Addr),v = .ref tq/\tq≠D/\H' tq=some (.tup [nV ((aO J N cs' ds').getD j (0,0)).2,.ref cl])/\cl≠D/\H' cl=some (.lst (wf j))/\cl≠L/\(∀k,k<us.length->cl≠rf k)/\tq≠L/\∀k,k<us.length->tq≠rf k) (Ru (xs:=λi=>nV ((aO J N cs' ds').getD i (0,0)).2) (ys:=λi=>.ref (rf i)) (ah.of iG) λi hi=>⟨tf i,(ex i hi).1,(ex i hi).2.1⟩) hD (dw (by omega))
    (λj v Ha Hb sx hpq=>by obtain⟨tq,cl,e1,e2,e3,e4,e5,e6⟩:=hpq;exact⟨tq,cl,e1,e2,sx _ _ e2 e3,e4,sx _ _ e4 e5,e6⟩) (λj H5 Kt hj hs ⟨yy,m8⟩ hk=>?_) (λH5 fs hs eV iH=>?_)⟩
   ·obtain⟨_,_,_,_,o7,_⟩:=ex j hj
    refine⟨_,rfl,_,rfl,rf j,_,rfl,.inl (ah.of (hs _ _ o7)),λcl hcl=>⟨by show 2<=sizeLine;decide,λq hq=>?_⟩⟩;have sc:=Same.put (o:=.lst (wf j)) hcl;have sq:=Same.put (o:=.tup [nV ((aO J N cs' ds').getD j (0,0)).2,.ref cl]) hq;have nm:∀(b:Addr),(∃o,H5 b=some o)->cl≠b/\q≠b:=λb hpq=>by obtain⟨o,e⟩:=hpq;exact⟨(λz=>by rw[z,e]at hcl;cases hcl),(λz=>by rw[z,sc _ _ e]at hq;cases hq)⟩
    refine hk _ _ (sc.trans sq) ⟨q,cl,rfl,(nm D ⟨_,m8⟩).2,au,(nm D ⟨_,m8⟩).1,sq _ _ au,(nm L ⟨_,hs _ _ iG⟩).1,λk hk'=>(nm (rf k) ⟨_,hs _ _ (ex k hk').2.2.2.2.1⟩).1,(nm L ⟨_,hs _ _ iG⟩).2,λk hk'=>(nm (rf k) ⟨_,hs _ _ (ex k hk').2.2.2.2.1⟩).2⟩
   ·have sP:=lT.trans hs
    have Ze:D≠L:=λz=>by rw[z,iG]at hD;cases hD
    have Zf:∀k,k<us.length->D≠rf k:=λk hk z=>by rw[z,(ex k hk).2.2.2.2.1]at hD;cases hD
    have kept:∀(H':Hp),(∀b o,b≠L->(∀k,k<us.length->b≠rf k)->H5 b=some o->H' b=some o)->H' D=some (.lst fs)/\Paired (lG J N cs' ds' H') (aO J N cs' ds') fs:=λH' keep=>by
     refine⟨keep _ _ Ze Zf eV,sG (by rw[hfl,<- cp iH,jx]) λi r v hr' hv=>?_⟩;obtain⟨j,hj,tq,cl,x1,x2,x3,x4,x5,x6,x7,x8,x9⟩:=c7 iH hv;have hi:i<us.length:=by have:=(bJ.mp hr').1;omega
     rw[mx hi]at hj;cases hj;have er:(aO J N cs' ds').getD i (0,0)=r:=by rw[aQ,hr'];rfl
     have e6:=(ex i hi).2.2.2.2.2;rw[er]at x3 e6;refine⟨tq,cl,wf i,x1,keep _ _ x8 x9 x3,keep _ _ x6 x7 x5,Paired.di e6 λ_ _ hpq=>by obtain⟨tp,y1,y2⟩:=hpq;exact⟨tp,y1,keep _ _ (fZ y2 iG (by intro z;cases z)) (λk hk=>fZ y2 (ex k hk).2.2.2.2.1 (by intro z;cases z)) (hs _ _ y2)⟩⟩
    dsimp only[cD];refine⟨_,rfl,L,rfl,⟨_,ah.of (hs _ _ iG)⟩,iF (K:=K) (a:=L) (xs:=us) (λi σ H6=>∃(v9 v10:Option V),σ = [some (.ref p),some (.ref m),some (.ref t),some (.ref u),some (.bl true),some (.ref hl),some .non,some (.ref L),some (.ref D),v9,v10,none]/\Same H1 H6/\H6 L=some (.lst us)/\(∀k,k<us.length->H6 (tf k)=some (.tup [nV ((aO J N cs' ds').getD k (0,0)).2,.ref (rf k)])/\∃ys,H6 (rf k)=some (.lst ys))/\∀b o,b≠L->(∀k,k<us.length->b≠rf k)->H5 b=some o->H6 b=some o)
     ⟨none,none,rfl,sP,hs _ _ iG,λk hk=>⟨hs _ _ (ex k hk).2.1,_,hs _ _ (ex k hk).2.2.2.2.1⟩,λb o _ _ e=>e⟩ (λi σ H6 _ hpq=>by obtain⟨_,_,_,_,g,_⟩:=hpq;exact ah.of g) ?_ ?_⟩
    ·rintro i y σ H6 hy ⟨v9,v10,rfl,s6,uU,g6,k6⟩
     have hi:i<us.length:=(bJ.mp hy).1;obtain⟨a1,_,a3,a4,_⟩:=ex i hi;rw[a1]at hy;cases hy;obtain⟨gt,ys,gr⟩:=g6 i hi;refine⟨tf i,_,rfl,ax.of gt,rfl,_,_,rfl,_,_,rfl,rfl,?_⟩;dsimp only[cD];refine⟨_,rfl,.inl ⟨rfl,_,ah.of gr⟩,rf i,ys,rfl,rfl,gr,?_⟩;refine⟨_,_,rfl,λb o e=>by rw[aF (c6 e a3)];exact s6 _ _ e,by rw[aF (λz=>a4 z.symm)];exact uU,λk hk=>⟨?_,?_⟩,λb o h1 h2 e=>by rw[aF (h2 i hi)];exact k6 b o h1 h2 e⟩
     ·rw[aF (fZ (g6 k hk).1 gr (by intro z;cases z))];exact(g6 k hk).1
     ·by_cases z:rf k=rf i
      ·exact⟨_,by rw[z];exact au⟩
      ·obtain⟨yk,gk⟩:=(g6 k hk).2
       exact⟨yk,by rw[aF z];exact gk⟩
    ·rintro σ H6 ⟨v9,v10,rfl,s6,uU,g6,k6⟩
     refine⟨_,rfl,.inl ⟨rfl,_,ah.of uU⟩,L,us,rfl,rfl,uU,?_⟩;have s7:Same H1 (upd H6 L (.lst [])):=λb o e=>by rw[aF (c6 e rN)];exact s6 _ _ e
     obtain⟨K5,Ma⟩:=kept (upd H6 L (.lst [])) λb o h1 h2 e=>by rw[aF h1];exact k6 b o h1 h2 e
     generalize upd H6 L (.lst [])=H7 at s7 K5 Ma ⊢;refine⟨_,rfl,_,rfl,_,rfl,by show 2<=sizeLine;decide,λl4 cM=>?_⟩;have s8:=Same.put (o:=.lst [.ref t,.ref u]) cM;have wg:=s7.trans s8;have t8:=s1.trans wg;refine⟨hl,l4,_,_,_,rfl,rfl,ah.of (wg _ _ o6),ah.of au,CZ (wg _ _ rJ) (wg _ _ rK) (t8 _ _ hT) (t8 _ _ hU),true,rfl,dR ?_⟩;refine⟨_,rfl,_,rfl,_,rfl,p,t,u,M.length,R,J,N,_,_,rfl,hO.eQ t8,G,u_,hJ,hN,t8 _ _ hP,ah.of (t8 _ _ hTi),ah.of (t8 _ _ LW),uL _ lc,uL _ ld,λz=>absurd ⟨c1,c2⟩ z,λ_ _ z=>(by rw[ce]at z;cases z),λ_ _ _ dx v fs a b c H2 s2 f1 f2 f3 f4=>absurd f1.is (no a b c f1.la f1.lb f1.lc),λUo uP TW2 _ _ K1 b9 H9 e2 e3 s9 _ _ gK hp9 _=>?_⟩;obtain rfl:Uo=cs':=by
      have:=congrArg (List.map Int.toNat) e2;rw[toNat_cast,toNat_cast]at this;exact this.symm
     obtain rfl:uP=ds':=by
      have:=congrArg (List.map Int.toNat) e3;rw[toNat_cast,toNat_cast]at this;exact this.symm
     have P6:=s8.trans s9;refine⟨_,rfl,K1,D,_,_,_,rfl,rfl,ah.of gK,ah.of (P6 _ _ K5),Ye (aa5 hp9) (lG.same P6 Ma),?_⟩;rw[Jq];exact kk _ (t8.trans s9)
  ·obtain⟨rfl,d,v,fs,a,b,c,rfl,s2,fst,gd,gv,five⟩:=hx
   refine⟨a14,rfl,ny.Vo,λe he=>⟨_,rfl,?_⟩⟩;have hde:d≠e:=λz=>by rw[z,he]at gd;cases gd
   have se:=Same.put (o:=ju e a14 (some d)) he;have he2:=pV (o:=ju e a14 (some d)) he;have s3:=s2.trans se;have Cb:=se _ _ gd;have Lq:=se _ _ gv;dsimp only[cD];generalize upd H' e (ju e a14 (some d))=H3 at se he2 s3 Cb Lq ⊢;clear se hde;have t3:=s1.trans s3;refine⟨_,rfl,_,rfl,_,rfl,by show 2<=sizeLine;decide,λl2 hl2=>?_⟩;have s4:=Same.put (o:=.lst [.ref t,.ref u]) hl2;have lU:=s3.trans s4;have t4:=s1.trans lU;refine⟨hl,l2,_,_,_,rfl,rfl,ah.of (lU _ _ o6),ah.of au,CZ (lU _ _ rJ) (lU _ _ rK) (t4 _ _ hT) (t4 _ _ hU),_,rfl,bx ?_⟩;have Vl:ev=false:=by
    cases ev with
    |false=>rfl
    |true=>exact absurd (fst.is.congr hR fst.la fst.lb fst.lc) (hev rfl a b c fst.la fst.lb fst.lc)
   subst Vl;refine⟨_,rfl,false,rfl,dR ?_⟩;refine⟨_,rfl,rfl,_,rfl,bx ?_⟩;refine⟨_,rfl,e,a14,14,rfl,⟨some d,s4 _ _ he2,λa q=>by cases q;exact⟨_,s4 _ _ Cb⟩⟩,ny,by decide,λH5 s5=>?_⟩;refine⟨rfl,_,rfl,bx ?_⟩;have cy:=s4.trans s5;have t5:=t4.trans s5;refine⟨_,rfl,_,rfl,e,a14,d,_,_,rfl,cy _ _ he2,cy _ _ Cb,ny.xc,l0.hd,l0.xs.no,l0.ng,rfl,?_⟩;refine⟨m,v,M,fs,rfl,t5.seq hm,hM,ax.of (cy _ _ Lq),by rw[five.len];decide,λc H6 s6 hc=>?_⟩;obtain rfl:c=true:=hc.mpr (five.zC hR);exact kk _ (t5.trans s6)
end
section
variable {P:Program} {w:World} {K:W.Frag} {mg:Str->Option Value} {base:Heap} {f:Addr} {fd:FuncData}
abbrev wA:Stmt:=top 80
theorem Qr:a_ ["_law_known","_law_masks","_law_a","_law_b","_law_draws_here","_law_found","_law_k","_law_some"] ["_law_known","_law_masks","_law_a","_law_b","_law_draws_here"] (aB wA):=by trivial
def FN(K:W.Frag):Sp:=λvs H Q _=>∃(kn m a b d:Nat) (M:List Nat) (us:List V) (ds:List Int),vs = [.ref kn,.ref m,.int a,.int b,.ref d]/\ah K H kn us/\Paired (bT H) (cU M) us/\us.length<=576/\ah K H m (M.map nV)/\Ev.bO M/\a<M.length/\b<M.length/\Ev.aG M a b=true/\ah K H d (ds.map V.int)/\6<=ds.length /\
 ∀L cs H',Same H H'->H L=none->H' L=some (.lst (cs.map nV))->cs.length<=25->jr M.length (Ev.aG M) cs->Cl.nX (gA M.length (Ev.aG M)) b a cs->Q (.ref L) H'
theorem ZV (F:aU K "_law_climb" "_law_climb" wA f fd) (T:Txt mg) (fj:aC P w K mg base "_law_at_most" ["_law_masks","_law_a","_law_b"] 1 (nA K)) :
  aN P w K mg base aZ 2 f fd ["_law_known","_law_masks","_law_a","_law_b","_law_draws_here"] (FN K):=by
 refine F.ok Qr (λvs H Q E h=>?_) (λcdv A outer s H vs Q E hr h=>?_)
 ·obtain⟨kn,m,a,b,d,M,us,ds,rfl,_⟩:=h
  rfl
 ·obtain⟨kn,m,a,b,d,M,us,ds,rfl,hkn,hkp,jK,hm,hM,ha,hb,hab,hd,hdl,kk⟩:=h
  have nd:=Qr.nd;have hpl:us.length=(cU M).length:=(cp hkp).symm;refine⟨_,(av (aP (i:=5) nd rfl (Or.inr rfl) (bU (ae (pv 2) ag)))
   (av (cx cq rfl (cQ rfl T.range (ae ak ag)) (bj (i:=6) nd rfl (Or.inl rfl))
   (av (pU (i:=7) nd rfl rfl (own:=["_law_c","_law_d"]) (fr:=[("_law_found", 5),("_law_masks", 1),("_law_b", 3)]) rfl (cA (aB wA) ["_law_known","_law_masks","_law_a","_law_b","_law_draws_here","_law_found","_law_k","_law_some"] rfl rfl (by trivial)) (dC (K:=K) rfl (pv 0)) (λ_ _ _ _=>⟨(iM (K:=K) (i:=0) (j:=1) rfl rfl (by trivial:(["_law_c","_law_d","_law_found","_law_masks","_law_b"]:List Str).Nodup) rfl rfl rfl rfl),(nq (PW.pt (lN (bw dW (pv 0) (aq (aX (K:=K) rfl) (pv 2) (lL lY ak) (λ_ _=>rfl)) (bh _)) (lO (bZ (aL fj hr rfl (ae (pv 3) (ae (pv 1) (ae (pv 4) ag (ao nofun)) (ao nofun)) (ao nofun)))))))),(pv 1)⟩))
   (ay (bA (bw f6 (aq (aX (K:=K) rfl) (pv 5) (lL lY ak) (λ_ _=>rfl)) (pv 3) (bh _)) (ay (cT (eP (K:=K) rfl eE iW jz iK (pv 5) (ae (aq (aX (K:=K) rfl) (pv 7) (aI cS (aI dU (aI sF (aq (aX (K:=K) rfl) (pv 4) (aI cS (pv 6) ak) (λ_ _=>rfl)) (aI dU (pv 6) ak)) (pv 6)) (bf (cK (K:=K) rfl) rfl T.len cR (ae (pv 7) ag))) (λ_ _=>rfl)) ag)))) bD))))
   (ay (aR (pv 5))))),?_⟩
  refine⟨_,rfl,by show 1<=sizeLine;decide,λL hL=>?_⟩;refine⟨24,rfl,by decide,by decide,fJ (lo:=0) (n:=(24:Int).toNat) (λi σ H2=>∃(v6 v7:Option V) (cs:List Nat) (z:Nat),σ = [some (.ref kn),some (.ref m),some (.int (a:Int)),some (.int (b:Int)),some (.ref d),some (.ref L),v6,v7]/\Same H H2/\H2 L=some (.lst ((cs++[z]).map nV))/\cs.length<=i/\jr M.length (Ev.aG M) (cs++[z])/\Ev.aG M z b=true/\(cs++[z]).head? = some a/\(z=b\/cs.length=i))
   ⟨none,none,[],a,rfl,Same.put hL,au,aY _,jr.one ha,hab,rfl,.inr rfl⟩ ?_ ?_⟩
  ·rintro i σ H2 hi ⟨v6,v7,cs,z,rfl,s2,hl,hcl,hC,CP,hhd,rY⟩
   have ad4:i<24:=hi;have hz:z<M.length:=hC.lt z (by simp);have Ks:eT ((cs++[z]).map nV) (-1)=some (nV z):=by
    rw[Jv (by simp)];simp
   have W':=c9.same s2 hkp;have hpq:∀j,j<us.length->∃t,us[j]?=some (.ref t)/\H2 t=some (.tup [.int (((cU M).getD j (0,0)).1:Int),.int (((cU M).getD j (0,0)).2:Int)]):=λj hj=>by
    obtain⟨q,hq,t,e1,e2⟩:=c7 W' (show us[j]?=some us[j]from aA hj);exact⟨t,by rw[aA hj,e1],by rw[aQ,hq];exact e2⟩
   refine⟨_,rfl,kn,rfl,⟨_,s2.seq hkn⟩,λD hD=>mU (λj=>decide (((cU M).getD j (0,0)).1=z)&&Ev.aG M ((cU M).getD j (0,0)).2 b) (λj=>nV ((cU M).getD j (0,0)).2) (Ru (s2.seq hkn) hpq) hD (Rr (by omega)) (λj H3 Kt Kf hj hs hkt hkf=>?_) (λH3 hs hl3=>?_)⟩
   ·have Xk:=vE (p:=(cU M).getD j (0,0)) (by rw[aQ,aA (by omega)];exact fC _)
    refine⟨_,rfl,_,rfl,_,rfl,L,_,_,_,rfl,rfl,ah.of (hs _ _ hl),Ks,rfl,_,rfl,?_⟩;have ed:decide (V.int (((cU M).getD j (0,0)).1:Int)=nV z)=decide (((cU M).getD j (0,0)).1=z):=by
     apply lD.mpr
     constructor
     ·intro h;injection h with h;omega
     ·intro h;rw[h]
    rw[ed];refine bq (λh1=>?_) (λh1=>?_)
    ·refine⟨_,rfl,_,rfl,_,rfl,m,((cU M).getD j (0,0)).2,b,M,rfl,(s2.trans hs).seq hm,Xk.2.1,hb,λH4 s4=>⟨_,rfl,?_⟩⟩
     refine bq (λh2=>?_) (λh2=>?_)
     ·exact⟨_,rfl,hkt _ (by rw[h1,h2];rfl) s4⟩
     ·exact hkf _ (by rw[h1,fz];simpa using h2) s4
    ·refine bx (hkf _ ?_ (Same.refl _))
     have h2:decide (((cU M).getD j (0,0)).1=z)=false:=by simpa using h1
     rw[h2,jo]
   ·have hl':=hs _ _ hl
    have t3:=s2.trans hs;have eS:((List.range us.length).filter λj=>decide (((cU M).getD j (0,0)).1=z)&&Ev.aG M ((cU M).getD j (0,0)).2 b).map (λj=>nV ((cU M).getD j (0,0)).2)=(((cU M).filter λq=>decide (q.1=z)&&Ev.aG M q.2 b).map Prod.snd).map nV:=by
     rw[hpl,<- ab9 (λq:Nat × Nat=>decide (q.1=z)&&Ev.aG M q.2 b) (0,0) (cU M),eB,eB];rfl
    rw[eS]at hl3;generalize hS:((cU M).filter λq=>decide (q.1=z)&&Ev.aG M q.2 b).map Prod.snd=S at hl3;have Y4:∀x∈S,x<M.length/\bH M.length (Ev.aG M) z x=true/\Ev.aG M x b=true:=λx hx=>by
     rw[<- hS]at hx;obtain⟨q,hq,rfl⟩:=dc.mp hx;obtain⟨h1,h2⟩:=cX.mp hq;rw[bF,cL]at h2;obtain⟨q1,q2⟩:=q;obtain⟨h2,h3⟩:=h2;subst h2;have:=(N9 hM).mp h1;exact⟨this.2.1,this.2.2,h3⟩
    have ad7:S.length<=576:=by
     rw[<- hS,az];have:=qB (λq:Nat × Nat=>decide (q.1=z)&&Ev.aG M q.2 b) (cU M);omega
    refine⟨_,rfl,_,rfl,L,_,_,_,rfl,rfl,ah.of hl',Ks,_,rfl,rfl,_,rfl,?_⟩;have ed:(!decide (nV z=V.int (b:Int))) = !decide (z=b):=by
     congr 1
     apply lD.mpr
     constructor
     ·intro h;injection h with h;omega
     ·intro h;rw[h]
    rw[ed];refine bq (λh1=>?_) (λh1=>?_)
    ·have hne:z≠b:=by simpa using h1
     have hS0:0<S.length:=by
      obtain⟨dd,hdd,hst,hdb⟩:=Um hM (b:=b) hz (M.getD b 0) b (aY _) hb (by unfold bS;rw[CP];simp[hne]) (Ev.jO _ _);have:dd∈S:=by
       rw[<- hS];exact dc.mpr ⟨(z,dd),cX.mpr ⟨(N9 hM).mpr ⟨hz,hdd,hst⟩,by simp[hdb]⟩,rfl⟩
      exact S1 this
     refine⟨_,rfl,.inl ⟨rfl,_,ah.of hl'⟩,?_⟩;obtain⟨r6,h6,e6⟩:=hZ (0+(i:Int)) 6 (by decide);have e6:(0+(i:Int)) % 6=(r6:Int):=e6;obtain⟨dv,U8⟩:∃dv:Int,(ds.map V.int)[r6]?=some (.int dv):=⟨ds[r6]'(by omega),by rw[bW,aA (by omega)];rfl⟩;refine⟨_,rfl,_,rfl,_,rfl,_,_,rfl,rfl,by show(0:Int)<6;decide,d,_,_,.int dv,rfl,rfl,t3.seq hd,by show eT _ ((0+(i:Int)) % 6)=_;rw[e6];exact aH U8,_,rfl,_,_,rfl,rfl,_,_,rfl,rfl,⟨by show(0:Int)<0+(i:Int)+1;omega,by show 0+(i:Int)+1<1073741824;omega⟩,_,rfl,_,_,rfl,rfl,?_⟩;refine⟨_,rfl,D,_,rfl,.inl (ah.of hl3),_,_,rfl,rfl,by show(0:Int)<((S.map nV).length:Int);rw[az];omega,?_⟩;obtain⟨rs,hrs,Vj⟩:=hZ (dv / (0+(i:Int)+1)+(0+(i:Int))) S.length hS0;have hx:(S.map nV)[rs]?=some (nV (S.getD rs 0)):=fN hrs;refine⟨D,_,_,nV (S.getD rs 0),rfl,rfl,ah.of hl3,by show eT _ ((dv / (0+(i:Int)+1)+(0+(i:Int))) % ((S.map nV).length:Int))=_;rw[az,Vj];exact aH hx,?_⟩;obtain⟨m1,m2,m3⟩:=Y4 (S.getD rs 0) (Du hrs);refine⟨L,_,nV (S.getD rs 0),rfl,rfl,hl',Rr (by rw[az,cz];show cs.length+1<=1000;omega),?_⟩;refine⟨_,_,cs++[z],S.getD rs 0,rfl,λb o e=>?_,by rw[au];simp,by rw[cz];show cs.length+1<=i+1;omega,hC.snoc m1 m2,m3,by rw[List.head?_append,hhd];rfl,.inr (by rw[cz,rY.resolve_left hne];rfl)⟩;rw[aF (λz=>by rw[z,hL]at e;cases e)];exact t3 _ _ e
    ·exact⟨_,_,cs,z,rfl,t3,hl',by omega,hC,CP,hhd,.inl (by simpa using h1)⟩
  ·rintro σ H2 ⟨v6,v7,cs,z,rfl,s2,hl,hcl,hC,CP,hhd,rY⟩
   have hcl:cs.length<=24:=hcl;have hz:Cl.nX (gA M.length (Ev.aG M)) z a (cs++[z]):=⟨hhd,by simp,λi hi=>vC.mpr ⟨hC.lt _ (Du (by omega)),hC.lt _ (Du hi),hC.st i hi⟩⟩;have XC:z=b:=by
    rcases rY with h|h
    ·exact h
    ·have h:cs.length=24:=h
     have h1:=Ng (vv hM) hz ha;have h2:=Hh M.length (Ev.aG M) a;have h3:=hM.len;rw[cz,h]at h1;have h1:24+1<=_:=h1;omega
   rw[XC]at hz hl hC;exact⟨_,rfl,kk L (cs++[b]) H2 s2 hL hl (by rw[cz];show cs.length+1<=25;omega) hC hz⟩
end
theorem Ut(ns:List Int)(lo hi:Option Int):∃ms:List Int,d8 (ns.map V.int) lo hi=ms.map V.int/\ms.length<=ns.length:=by
 unfold d8;refine⟨_,by rw[<- oa,<- List.map_take],?_⟩;rw[mC,kQ];omega
theorem Y8{M:List Nat}(L:Ev.bO M){x:Nat}(hx:x∈M)(hmin:∀y∈M,x<=y):∀y∈M,Ev.Sub x y:=λy hy=>by
 have h1:=L.meet x hx y hy;have h2:=hmin _ h1;have h3:=(Ev.Sub.and_left x y).le;have e:x&&& y=x:=by omega
 exact e
theorem Us{ds:List Int}{k:Nat}(h:k<=ds.length):d8 (ds.map V.int) (some (k:Int)) none=(ds.drop k).map V.int:=by rw[qY,oa]
theorem acn{ι:Type}{t u:TS}{D:Ends}{σ:_L.St}{H:Hp}(C:ι->Hp->Prop)(sg:ι->_L.St)(main:∀D':Ends,D'.rt=D.rt->(∀i H',C i H'->D'.nx (sg i) H')->t D' σ H)(rest:∀i H',C i H'->u D (sg i) H'):kH t u D σ H:=
 main {D with nx:=u D} rfl rest
theorem jr.J3{n:Nat}{R:Nat->Nat->Bool}{cs:List Nat}(h:jr n R cs):dm n R cs:=
 ⟨by have:=h.ne;omega,h.lt,λi hi=>by
  have:=G6 (h.st i hi);unfold bS at this;rw[bF,eY,fU]at this;exact this⟩
section
variable {P:Program} {w:World} {K:W.Frag} {mg:Str->Option Value} {base:Heap} {f:Addr} {fd:FuncData}
theorem Kx(g:Nat->V):∀(l:List Nat) (k:Nat),(l.map g).eraseIdx k=(l.eraseIdx k).map g
 | [],_=>rfl
 |_::_,0=>rfl
 |x::l,k+1=>by rw[dr,SQ,SQ,dr,Kx g l k]
theorem Ky:∀(l:List Nat) (k:Nat) (h:k<l.length),(l[k]::l.eraseIdx k).Perm l
 |x::l,0,_=>List.Perm.refl _
 |x::l,k+1,h=>(List.Perm.swap x (l[k]'(S5 h)) (l.eraseIdx k)).trans (List.Perm.cons x (Ky l k (S5 h)))
abbrev Fc:Stmt:=top 72
theorem QD:a_ ["_law_script","_law_at","_law_draws_here","_law_family","_law_left","_law_found","_law_k"] ["_law_script","_law_at"] (aB Fc):=by trivial
def Gu(K:W.Frag):Sp:=λvs H Q _=>∃(a:Nat) (ns:List Int) (k:Nat),vs = [.ref a,.int k]/\ah K H a (ns.map V.int)/\∀l M H',Same H H'->H l=none->H' l=some (.lst (M.map nV))->Ev.bO M->Q (.ref l) H'
theorem aar (F:aU K "_law_order" "_law_order" Fc f fd) (T:Txt mg) (mO:aC P w K mg base "_law_cell_at" ["_law_script","_law_k"] 1 (wO K)) (lA:aC P w K mg base "_law_draws" ["_law_cell","_law_many"] 2 wQ)
  (y9:aC P w K mg base "_law_kind" ["_law_draws_here","_law_family"] 2 (Gg K)):aN P w K mg base aZ 3 f fd ["_law_script","_law_at"] (Gu K):=by
 refine F.ok QD (λvs H Q E h=>?_) (λcdv A outer s H vs Q E hr h=>?_)
 ·obtain⟨a,ns,k,rfl,_⟩:=h
  rfl
 ·obtain⟨a,Ox,k,rfl,hS,kk⟩:=h
  have nd:=QD.nd;refine⟨_,(av (aP (i:=2) nd rfl (Or.inl rfl) (aL lA hr rfl (ae (aL mO hr rfl (ae (pv 0) (ae (pv 1) ag))) (ae ak ag))))
   (av (aP (i:=3) nd rfl (Or.inl rfl) (aq (aX (K:=K) rfl) (aL lA hr rfl (ae (aL mO hr rfl (ae (pv 0) (ae (aI dU (pv 1) ak) ag))) (ae ak ag))) ak (λ_ _=>rfl)))
   (av (bA (bw dW (aI cS (aq (aX (K:=K) rfl) (pv 2) ak (λ_ _=>rfl)) ak) ak (bh _)) (ay (aP (i:=3) nd rfl (Or.inl rfl) (aI kA (pv 3) (aq (aX (K:=K) rfl) (pv 2) ak (λ_ _=>rfl))))) bD)
   (av (aP (i:=4) nd rfl (Or.inl rfl) (aL y9 hr rfl (ae (pv 2) (ae (pv 3) ag))))
   (av (aP (i:=5) nd rfl (Or.inl rfl) (bU ag))
   (av (cx cq rfl (cQ rfl T.range (ae (bf (cK (K:=K) rfl) rfl T.len cR (ae (pv 4) ag)) ag)) (bj (i:=6) nd rfl (Or.inl rfl))
   (ay (cT (eP (K:=K) rfl eE iW jz iK (pv 5) (ae (eP (K:=K) rfl eE PySem.F.slot_list_pop PySem.F.type_list_pop Zd (pv 4) (ae (aI cS (aI dU (aI sF (aq (aX (K:=K) rfl) (pv 2) ak (λ_ _=>rfl)) ak) (aI pM (pv 6) (aq (aX (K:=K) rfl) (pv 2) ak (λ_ _=>rfl)))) (bf (cK (K:=K) rfl) rfl T.len cR (ae (pv 4) ag))) ag)) ag)))))
   (ay (aR (pv 5))))))))),?_⟩
  refine⟨_,rfl,_,rfl,a,k,Ox,rfl,hS,λc1 H1 s1=>⟨c1,8,rfl,by decide,λd ds H2 s2 hd q2 hlen hsm=>?_⟩⟩;have dD:=s1.trans s2;refine⟨_,rfl,_,rfl,_,_,rfl,rfl,a,k+1,Ox,by simp,dD.seq hS,λc2 H3 s3=>⟨c2,1,rfl,by decide,λe uP H4 s4 he q4 hlen2 ad6=>?_⟩⟩;obtain⟨f0,rfl⟩:∃f0,uP = [f0]:=by
   match uP,hlen2 with
   | [f0],_=>exact⟨f0,rfl⟩
  refine⟨e,_,0,_,rfl,rfl,ah.of q4,rfl,?_⟩;obtain⟨d0,d1',d2',d3,d4,d5,d6,d7,rfl⟩:∃d0 d1 d2 d3 d4 d5 d6 d7,ds = [d0,d1,d2,d3,d4,d5,d6,d7]:=by
   match ds,hlen with
   | [d0,d1,d2,d3,d4,d5,d6,d7],_=>exact⟨_,_,_,_,_,_,_,_,rfl⟩
  have iw:=(dD.trans s3).trans s4;have qd:=s4 _ _ (s3 _ _ q2);have hdH:H d=none:=s1.free hd;refine⟨_,rfl,d,_,4,_,rfl,rfl,ah.of qd,rfl,_,_,rfl,rfl,(by show(0:Int)<2;decide),rfl,_,rfl,bq (λ_=>⟨_,rfl,_,rfl,d,_,5,_,rfl,rfl,ah.of qd,rfl,_,_,rfl,rfl,?_⟩) (λ_=>?_)⟩
  all_goals
   refine⟨_,rfl,_,rfl,d,_,_,rfl,qd,rfl,λL1 M H5 s5 hL1 q5 hM=>?_⟩;refine⟨by show 0<=sizeLine;decide,λL2 hL2=>?_⟩;have ln:=hM.len;have en:(((M.map nV).length:Int)).toNat=M.length:=by rw[dq,az]
   have Ws:H L1=none:=iw.free hL1;have Cm:H L2=none:=(iw.trans s5).free hL2;have d1:d≠L1:=λz=>by rw[z,hL1]at qd;cases qd
   have d2:d≠L2:=λz=>by rw[<- z,s5 _ _ qd]at hL2;cases hL2
   have q_:L1≠L2:=λz=>by rw[<- z,q5]at hL2;cases hL2
   have sk:∀{H3:Hp} {l:Addr} {o:HO},H l=none->Same H H3->Same H (upd H3 l o):=λhl s3 b o e=>by
    rw[aF (λz=>by rw[z,hl]at e;cases e)];exact s3 _ _ e
   refine⟨_,rfl,L1,_,rfl,.inl (ah.of (Same.put hL2 _ _ q5)),_,rfl,by rw[az];exact(bC (by omega)).1,by rw[az];exact(bC (by omega)).2,fJ (lo:=0) (n:=(((M.map nV).length:Int)).toNat)
    (λi σ H6=>∃(v3 v6:Option V) (M1 M2:List Nat),σ = [some (.ref a),some (.int k),some (.ref d),v3,some (.ref L1),some (.ref L2),v6]/\Same H H6/\H6 d=some (.lst (([d0,d1',d2',d3,d4,d5,d6,d7]:List Int).map V.int))/\H6 L1=some (.lst (M1.map nV))/\H6 L2=some (.lst (M2.map nV))/\M2.length=i/\(M2++M1).Perm M)
    ⟨_,none,M,[],rfl,sk Cm (iw.trans s5),by rw[aF d2];exact s5 _ _ qd,by rw[aF q_];exact q5,au,rfl,List.Perm.refl _⟩ ?_ ?_⟩
   ·rintro i σ H6 hi ⟨v3,v6,M1,M2,rfl,s6,vY,q1,q2,hl2,hp⟩
    rw[en]at hi;have hlen:M2.length+M1.length=M.length:=by rw[<- hp.length_eq,cz]
    obtain⟨r,hr,er⟩:=hZ (d6 / 7+(0+(i:Int))*d7) M1.length (by omega);have zQ:(d6 / 7+(0+(i:Int))*d7) % ((M1.map nV).length:Int)=(r:Int):=by rw[az];exact er
    have q2u:(upd H6 L1 (.lst ((M1.eraseIdx r).map nV))) L2=some (.lst (M2.map nV)):=by rw[aF q_.symm];exact q2
    refine⟨_,rfl,.inl ⟨rfl,_,ah.of q2⟩,_,rfl,.inl ⟨rfl,_,ah.of q1⟩,_,rfl,d,_,6,_,rfl,rfl,ah.of vY,rfl,_,_,rfl,rfl,⟨by decide,by decide⟩,_,rfl,_,rfl,d,_,7,_,rfl,rfl,ah.of vY,rfl,_,_,rfl,rfl,.inl ⟨by omega,by omega⟩,_,_,rfl,rfl,_,rfl,L1,_,rfl,.inl (ah.of q1),_,_,rfl,rfl,by rw[az];omega,?_⟩;refine⟨L1,_,_,r,nV M1[r],rfl,rfl,q1,?_,?_,?_,by rw[bW,aA hr];rfl,?_⟩
    ·rw[zQ];omega
    ·rw[zQ];omega
    ·rw[zQ,yv (by omega) (by rw[az];omega)];simp
    rw[Kx];refine⟨L2,_,_,rfl,rfl,q2u,by rw[az];exact dE (by omega),?_⟩;refine⟨_,_,M1.eraseIdx r,M2++[M1[r]],rfl,sk Cm (sk Ws s6),by rw[aF d2,aF d1];exact vY,by rw[aF q_,au],by rw[au,jy];rfl,by rw[cz,hl2];rfl,?_⟩;rw[jv];exact(List.Perm.append_left M2 (Ky M1 r hr)).trans hp
   ·rintro σ H6 ⟨v3,v6,M1,M2,rfl,s6,vY,q1,q2,hl2,hp⟩
    rw[en]at hl2;have hlen:M2.length+M1.length=M.length:=by rw[<- hp.length_eq,cz]
    have e0:M1 = []:=List.eq_nil_of_length_eq_zero (by omega);rw[e0,iA]at hp;exact⟨_,rfl,kk L2 M2 H6 s6 Cm q2 (hM.perm hp.symm)⟩
end
end _M
namespace _L
open PySem PySem.Spec PyProof.Rows
abbrev Tab:=Addr × Addr × Pos × Str
noncomputable def iP (tabs:List Tab) (b:Addr):Option HO:=(tabs.find? λt=>decide (t.2.1=b)).map λt=>.lam t.2.2.1 t.2.2.2
def qO(tabs:List Tab)(H:Hp):Prop:=∀b o,iP tabs b=some o->H b=some o
theorem RZ{tabs:List Tab}{b:Addr}{o:HO}(h:iP tabs b=some o):∃t∈tabs,t.2.1=b/\o = .lam t.2.2.1 t.2.2.2:=by
 unfold iP at h;cases e:tabs.find? λt=>decide (t.2.1=b)with
 |none=>rw[e]at h;cases h
 |some t =>
  rw[e]at h;cases h;exact⟨t,List.mem_of_find?_eq_some e,pI (List.find?_some (p:=λt:Tab=>decide (t.2.1=b)) e),rfl⟩
theorem YB{P:Program}{w:World}{K:W.Frag}{mg mb:Str->Option Value}{CX:gM}{k:Nat}{fa a:Addr}{fd:FuncData}{x:Str}{sp:Sp}{s₁:Shared}{vs:List Value}{ns:List Int}{tabs:List Tab}
  (KX:K.In s₁.heap) (hns:s₁.heap.Ns mainGlobals mg) (hb:s₁.heap.Ns builtinsNs mb) (hbb:∀x:Str,x ≠ "__name__" -> mb x=bootBuiltins x) (hlim:s₁.heap.NoLimit) (hg:s₁.gens = #[])
  (hbm:∃bm ob,mg "__builtins__" = some (.ref bm)/\bm≠builtinsNs/\s₁.heap.get? bm=some ob/\ob.cls = .type "module" /\ ob.dict=some builtinsNs/\ob.data = .plain)
  (hT:∀t∈tabs,W.CodeHd s₁.heap t.1 t.2.1/\s₁.heap.get? t.2.1=some (W.tabObj #[])) (Wr:W.noTabs K=true)
  (ha:s₁.heap.get? a=some {cls:=.type "list", data:=.seq vs.toArray}) (hi:IntsAre vs ns) (hl:ns.length<=sizeLine) (hr:bQ k callerA)
  (F:∀base:Heap,K.In base->base.Ns mainGlobals mg->(∀t∈tabs,TabAt base mg t.1 t.2.1)->aN P w K mg base CX k fa fd [x] sp) (hbind:∀(s:Shared) (u:Value),BindsTo s fd ⟨[u],[]⟩ [(x,u)])
  (hsp:∀H:Hp,ah K H a (ns.map V.int)->qO tabs H->sp [.ref a] H (λv H'=>v = .bl true/\qO tabs H') λ_ _ _=>False)
  (Cj:∀H e s',CX [] H s₁ (λ_ _ _=>False) e s'->False) :
  codeAny (model P w) callerA (.call (.ref fa) ⟨[.ref a],[]⟩) (λr s'=>r = .ok (.ret (.bool true))/\OldK s₁.heap s'.heap/\s'.os=s₁.os/\AllBare s'.gens) s₁:=by
 have rv:=Hl hi;have lenV:=hi.length;have qh:∀{b:Addr} {o:HO},iP tabs b=some o->∃t∈tabs,t.2.1=b/\o = .lam t.2.2.1 t.2.2.2/\s₁.heap.get? b=some (W.tabObj #[]):=λ{b o} e=>by
  obtain⟨t,h1,h2,h3⟩:=RZ e;exact⟨t,h1,h2,h3,by rw[<- h2];exact(hT t h1).2⟩
 have aT:iP tabs a=none:=by
  cases e:iP tabs a with
  |none=>rfl
  |some o =>
   obtain⟨_,_,_,_,q⟩:=qh e;rw[ha]at q;cases q
 have KT:∀b o,iP tabs b=some o->K.lookup b=none:=λb o e=>by
  obtain⟨_,_,_,_,q⟩:=qh e;cases hk:K.lookup b with
  |none=>rfl
  |some ob =>
   have e2:=KX b ob hk;rw[q]at e2;cases e2;have h2:=fB.mp Wr (b,_) (W.mem_of_lookupK hk);exact absurd (show false=true from h2) Bool.false_ne_true
 have core:∀H:Hp,(∀b o,H b=some o->iP tabs b=some o\/(b=a/\∃o' xs,o = .dH o' (.lst xs)))->qO tabs H->ah K H a (ns.map V.int)->bL P w H s₁.heap->(H a≠none->K.lookup a=none) ->
   codeAny (model P w) callerA (.call (.ref fa) ⟨[.ref a],[]⟩) (λr s'=>r = .ok (.ret (.bool true))/\OldK s₁.heap s'.heap/\s'.os=s₁.os/\AllBare s'.gens) s₁:=by
  intro H hO rO hS hok hK;have free:∀{b:Addr} {o:Obj},s₁.heap.get? b=some o->o.cls≠.none->o.cls≠.type "list" -> H b=none:=λ{b o} e c1 c2=>by
   cases q:H b with
   |none=>rfl
   |some u =>
    rcases hO b u q with z|⟨z,_⟩
    ·obtain⟨_,_,_,_,z2⟩:=qh z
     rw[e]at z2;cases z2;exact absurd rfl c1
    ·rw[z,ha]at e;cases e
     exact absurd rfl c2
  have uD:∀{b:Addr} {o:Obj},s₁.heap.get? b=some o->H b=none->(jI s₁.heap H).get? b=some o:=λe n=>W5 e n;have ky:∀{b:Addr} {o:Obj} {es:Array DictEntry} {ep:Nat},s₁.heap.get? b=some o->o.data = .dict es ep->H b=none:=λ{b o es ep} e d=>by
   cases q:H b with
   |none=>rfl
   |some u =>
    rcases hO b u q with z|⟨z,_⟩
    ·obtain⟨_,_,_,_,z2⟩:=qh z
     rw[e]at z2;cases z2;cases d
    ·rw[z,ha]at e;cases e
     cases d
  have vK:∀{b:Addr} {m:Str->Option Value},s₁.heap.Ns b m->(jI s₁.heap H).Ns b m:=λ{b m} ⟨o,es,ep,e,d,r⟩=>⟨o,es,ep,uD e (ky e d),d,r⟩;have Lw:K.In (jI s₁.heap H):=λb o e=>uD (KX b o e) (by
   cases q:H b with
   |none=>rfl
   |some u =>
    rcases hO b u q with z|⟨z,_⟩
    ·rw[KT b u z]at e;cases e
    ·subst z
     rw[hK (by rw[q];simp)]at e;cases e)
  have hM:Mod K mg (jI s₁.heap H):=⟨Lw,vK hns,⟨mb,vK hb,hbb⟩,let⟨mc,h1,h2⟩:=hlim;⟨mc,vK h1,h2⟩⟩;have e0:jt P w K mg (jI s₁.heap H) callerA [] s₁ H:=⟨rfl,hM,λb o e=>ZL e,Ih (W6 _ _),trivial,λb hb=>absurd (show b∈([]:List Addr)from hb) (by simp),hok,.of_eq hg⟩;have WD:∀t∈tabs,TabAt (jI s₁.heap H) mg t.1 t.2.1:=λt ht=>by
   refine⟨?_,?_⟩
   ·obtain⟨o,vs,file,tf,flags,tg,inF,text,tt,q1,q2,r⟩:=(hT t ht).1
    exact⟨o,vs,file,tf,flags,tg,inF,text,tt,uD q1 (free q1 (by rw[q2];intro z;cases z) (by rw[q2];decide)),q2,r⟩
   ·obtain⟨bm,ob,q1,q2,q3,q4,r⟩:=hbm
    exact⟨bm,ob,q1,q2,uD q3 (free q3 (by rw[q4];intro z;cases z) (by rw[q4];decide)),q4,r⟩
  refine j4 ((F _ Lw (vK hns) WD).run callerA [] s₁ H ⟨[.ref a],[]⟩ [.ref a] [.ref a] _ _ hr e0 (hbind s₁ (.ref a)) (.cons rfl .nil) (hsp H hS rO)) λr s' h=>?_;cases r with
  |error e=>exact(Cj H e s' h).elim
  |ok fl =>
   cases fl with
   |next=>exact False.elim h
   |brk=>exact False.elim h
   |cont=>exact False.elim h
   |ret u =>
    obtain⟨v,H',os,bare,un,hok',r',q,hT'⟩:=h;have q':v = .bl true:=q;subst q';obtain rfl:u=Value.bool true:=r';have key:∀b o,s₁.heap.get? b=some o->s'.heap.get? b=some o\/(isCodeTable s₁.heap b/\o=W.tabObj #[]/\∃ps,s'.heap.get? b=some (W.tabObj ps)):=λb o e=>by
     cases q:H b with
     |none=>exact .inl (un.keep b o e q (by intro z;exact absurd (show b∈([]:List Addr)from z) (by simp)) (by simp))
     |some u =>
      rcases hO b u q with z|⟨rfl,ob,xs,rfl⟩
      ·obtain⟨t,t1,t2,t3,z2⟩:=qh z
       rw[e]at z2;cases z2;subst t3;obtain⟨ps,p1,_⟩:=(show bE P w H' s'.heap b (.lam t.2.2.1 t.2.2.2)from hok' b _ (hT' b _ z));refine .inr ⟨?_,rfl,ps,p1⟩;have:=((hT t t1).1.tab (hT t t1).2).isCodeTable;rw[t2]at this;exact this
      ·have z2:=un.fV b ob _ q
       obtain⟨e1,_⟩:=hok b _ q;obtain⟨e2,_⟩:=hok' b _ z2;rw[e]at e1;cases e1;exact .inl e2
    refine⟨rfl,⟨λb o e=>?_,λb o e=>?_⟩,os,bare⟩
    ·rcases key b o e with z|⟨z1,rfl,ps,z2⟩
     ·exact .inl z
     ·exact .inr (.inl ⟨z1,rfl,#[],ps,rfl,by rw[Array.empty_append];exact z2⟩)
    ·rcases key b o e with z|⟨_,_,ps,z2⟩
     ·exact⟨o,z⟩
     ·exact⟨_,z2⟩
 have RT:∀(H:Hp) b o,iP tabs b=some o->bE P w H s₁.heap b o:=λH b o e=>by
  obtain⟨t,_,_,rfl,q⟩:=qh e;exact⟨#[],q,trivial,λcv z=>by cases z⟩
 cases hk:K.lookup a with
 |some o =>
  have e:=KX a o hk;rw[ha]at e;cases e;exact core (iP tabs) (λb o e=>.inl e) (λb o e=>e) (.inr ⟨_,vs.toArray,_,hk,rfl,rfl,rfl,by rw[bV,lenV];exact hl,by simpa using rv⟩) (λb u z=>RT _ b u z) λz=>absurd aT z
 |none =>
  refine core (λb=>if b=a then some (.dH {cls:=.type "list", data:=.seq vs.toArray} (.lst (ns.map V.int)))else iP tabs b) (λb o e=>?_) (λb o e=>?_) (.inl (.inr ⟨{cls:=.type "list", data:=.seq vs.toArray},if_pos rfl⟩)) (λb u z=>?_) λ_=>hk
  ·by_cases hb:b=a
   ·have z':=(if_pos hb).symm.trans e
    cases z';exact .inr ⟨hb,_,_,rfl⟩
   ·exact .inl ((if_neg hb).symm.trans e)
  ·have hb:b≠a:=λz=>by rw[z,aT]at e;cases e
   exact(if_neg hb).trans e
  ·by_cases hb:b=a
   ·have z':=(if_pos hb).symm.trans z
    cases z';subst hb;exact⟨ha,by rw[az];exact hl,vs,_,rv,ha⟩
   ·exact RT _ b u ((if_neg hb).symm.trans z)
theorem adz{l:W.OpenLaw}{n k:Nat}{q:Program}{loose:List Str}{XP:(Str->Option Value)->Heap->Prop}{YP:World->Heap->Prop}{d:DefRec}{K:Params->W.Frag}{CX:World->gM}{sp:World->Sp}{x:Str}{tabs:List Tab}(hn:l.most=some n)(hn2:n<=sizeLine)(hdf:d.params.defaults = [])(hr:bQ k callerA)(hY:∀(w:World) (h:Heap),YP w h->(K w.params).In h)(hT:∀(w:World) (h:Heap),YP w h->(∀t∈tabs,W.codeHdIn (K w.params) t.1 t.2.1=true/\h.get? t.2.1=some (W.tabObj #[]))/\W.noTabs (K w.params)=true)(F:∀(w:World) (mg:Str->Option Value) (fa:Addr) (h:Heap),(K w.params).In h->h.Ns mainGlobals mg->mg d.name=some (.ref fa)->∃fd:FuncData,(∀(s:Shared) (u:Value),BindsTo s fd ⟨[u],[]⟩ [(x,u)])/\∀base:Heap,(K w.params).In base->base.Ns mainGlobals mg->(∀t∈tabs,TabAt base mg t.1 t.2.1)->aN l.prog w (K w.params) mg base (CX w) k fa fd [x] (sp w))(hsp:∀(w:World) (H:Hp) (a:Addr) (ns:List Int),ns.length<=n->ah (K w.params) H a (ns.map V.int)->qO tabs H->sp w [.ref a] H (λv H'=>v = .bl true/\qO tabs H') λ_ _ _=>False)(Cj:∀(w:World) (H:Hp) (s:Shared) (e:Value) (s':Shared),CX w [] H s (λ_ _ _=>False) e s'->False):W.WalkO q loose XP YP l.row.toRowW d [] (λf vs=>PySem.call f vs):=by
 refine Ho.Ts hn hdf λw s₀ s₁ mg mb fa o pm cd doc a vs ns G Y ho hd hcd hmg hobj hints hlen hg=>?_;have KX:=hY w _ Y;obtain⟨fd,hb,hF⟩:=F w mg fa _ KX G.T.g hmg;obtain⟨t1,t2⟩:=hT w _ Y;exact YB KX G.T.g G.T.b G.T.builtins G.T.nolimit hg G.T.bmain (λt ht=>⟨W.codeHd_of_K KX (t1 t ht).1,(t1 t ht).2⟩) t2 hobj hints (ck hlen hn2) hr hF hb (λH hS rO=>hsp w H a ns hlen hS rO) λH e s'=>Cj w H s₁ e s'
end _L
namespace _M
open PySem PySem.Spec PyProof.Rows _L
def wY(K:W.Frag)(Pt:Addr):Sp:=λvs H Q _=>∃(a:Nat) (ns:List Int),vs = [.ref a]/\ah K H a (ns.map V.int)/\ns.length<=63/\H Pt=some (.lam lI lJ)/\∀H',H' Pt=some (.lam lI lJ)->Q (.bl true) H'
theorem ady{l:W.OpenLaw}{q:Program}{loose:List Str}{XP:(Str->Option Value)->Heap->Prop}{YP:World->Heap->Prop}{d:DefRec}{K:Params->W.Frag}{c Pt:Addr}(hn:l.most=some 63)(hdf:d.params.defaults = [])(hY:∀(w:World) (h:Heap),YP w h->(K w.params).In h/\h.get? Pt=some (W.tabObj #[]))(hT:∀w:World,W.codeHdIn (K w.params) c Pt=true)(hno:∀w:World,W.noTabs (K w.params)=true)(F:∀(w:World) (mg:Str->Option Value) (fa:Addr) (h:Heap),(K w.params).In h->h.Ns mainGlobals mg->mg d.name=some (.ref fa) ->
   ∃fd:FuncData,(∀(s:Shared) (u:Value),BindsTo s fd ⟨[u],[]⟩ [("_law_script", u)])/\∀base:Heap,(K w.params).In base->base.Ns mainGlobals mg->TabAt base mg c Pt->aN l.prog w (K w.params) mg base aZ 40 fa fd ["_law_script"] (wY (K w.params) Pt)) :
  W.WalkO q loose XP YP l.row.toRowW d [] (λf vs=>PySem.call f vs):=
 _L.adz (n:=63) (k:=40) (x:= "_law_script") (CX:=λ_=>aZ) (sp:=λw=>wY (K w.params) Pt) (tabs:=[(c,Pt,lI,lJ)]) hn (by decide) hdf ⟨rfl,by decide,by decide,rfl⟩ (λw h Y=>(hY w h Y).1)
  (λw h Y=>⟨λt ht=>by
   obtain rfl:t=(c,Pt,lI,lJ):=by simpa using ht
   exact⟨hT w,(hY w h Y).2⟩,hno w⟩)
  (λw mg fa h KX G hmg=>by
   obtain⟨fd,h1,h2⟩:=F w mg fa h KX G hmg;exact⟨fd,h1,λbase kb nb tb=>h2 base kb nb (tb _ (gi.mpr rfl))⟩)
  (λw H a ns hl hS rO=>⟨a,ns,rfl,hS,hl,rO Pt _ (by unfold iP;simp),λH' hP=>⟨rfl,λb o e=>by
   obtain⟨t,t1,t2,t3⟩:=RZ e;obtain rfl:t=(c,Pt,lI,lJ):=by simpa using t1
   rw[<- t2,t3];exact hP⟩⟩) λ_ _ _ _ _ z=>z
theorem Uk{K:W.Frag}{x:Str}{c Pt f:Addr}{st:Stmt}{fd:FuncData}(ht:W.tabIn K x=some (c,Pt))(a:W.nsIn K mainGlobals x=some (some (.ref f)))(F:aU K x x st f fd):fd.code = .ref c:=by
 obtain⟨oc,od,kV,doc,pm,an,cdv,ct,osl,rfl,lk,hcd⟩:=F.ex;unfold W.tabIn at ht;rw[a]at ht;simp only[lk]at ht;show cdv = .ref c;cases cdv with
 |ref c2 =>
  dsimp only at ht
  split at ht
  ·split at ht
   ·cases ht;rfl
   ·cases ht
  ·cases ht
 |_=>cases ht
theorem ac_{K:W.Frag}{x:Str}{f c P:Addr}{oc co:Value}{od cd':Option Addr}{fd:FuncData}{osl sl:Array (Option Value)}{vs:Array Value}(a:W.nsIn K mainGlobals x=some (some (.ref f)))(l:K.lookup f=some ⟨oc,od,.func fd,osl⟩)(hc:fd.code = .ref c)(l2:K.lookup c=some ⟨co,cd',.fields vs,sl⟩)(hv:(vs[11]?:Option Value)=some (.ref P)):W.tabIn K x=some (c,P):=by
 unfold W.tabIn;rw[a];simp only[l,hc,l2,hv]
theorem aD.TY{P:Program}{w:World}{K:W.Frag}{mg:Str->Option Value}{base h:Heap}{x:Str}{st:Stmt}{ps:List Str}{k:Nat}{sp:Sp}{c Pt:Addr}(A:aD K x st)(X:K.In h)(G:h.Ns mainGlobals mg)(hb:xF x st ps)(ht:W.tabIn K x=some (c,Pt))(ok:∀{f:Addr} {fd:FuncData},aU K x x st f fd->fd.code = .ref c->aN P w K mg base (bN P w) k f fd ps sp):eR P w K mg base x ps k sp:=by
 obtain⟨f,fd,a,F⟩:=A.ex;exact⟨f,fd,ok F (Uk ht a F),W.mg_of X G a,F.kp,F.binds hb⟩
section
variable {P:Program} {w:World} {K:W.Frag} {mg:Str->Option Value} {base:Heap} {f:Addr} {fd:FuncData}
abbrev p9:Stmt:=top 85
theorem Qm:a_ ["_law_script","_law_masks","_law_known","_law_pairs","_law_order_here","_law_even","_law_cell","_law_draws_here","_law_a","_law_b","_law_one","_law_other"] ["_law_script"] (aB p9):=by trivial
theorem aah {C Pt:Addr} (F:aU K "law" "law" p9 f fd) (T:Txt mg) (TC:eZ K C) (za:aC P w K mg base "_law_order" ["_law_script","_law_at"] 3 (Gu K)) (mO:aC P w K mg base "_law_cell_at" ["_law_script","_law_k"] 1 (wO K))
  (lA:aC P w K mg base "_law_draws" ["_law_cell","_law_many"] 2 wQ) (y6:aC P w K mg base "_law_handed" ["_law_masks","_law_draws_here"] 3 (Gb K)) (oQ:aC P w K mg base "_law_steps" ["_law_masks"] 2 (w8 K)) (zh:aC P w K mg base "_law_uneven" ["_law_masks"] 2 (GZ K))
  (hX:aC P w K mg base "_law_meet" ["_law_masks","_law_a","_law_b"] 1 (qc K)) (uG:aC P w K mg base "_law_climb" ["_law_known","_law_masks","_law_a","_law_b","_law_draws_here"] 2 (FN K)) (zf:aC P w K mg base "_law_right" ["_law_order_here","_law_masks","_law_one","_law_other","_law_even"] 9 (GC K C Pt))
  (yQ:tM P w K mg base C "Order" ["self","count","pairs"] 5 (Gd K C)):aN P w K mg base aZ 10 f fd ["_law_script"] (wY K Pt):=by
 refine F.ok Qm (λvs H Q E h=>?_) (λcdv A outer s H vs Q E hr h=>?_)
 ·obtain⟨a,ns,rfl,_⟩:=h
  rfl
 ·obtain⟨a,ns,rfl,hS,hns,hP,kk⟩:=h
  have nd:=Qm.nd;refine⟨_,(av (aP (i:=1) nd rfl (Or.inl rfl) (aL za hr rfl (ae (pv 0) (ae ak ag))))
   (av (aP (i:=2) nd rfl (Or.inl rfl) (aL oQ hr rfl (ae (pv 1) ag)))
   (av (aP (i:=3) nd rfl (Or.inl rfl) (aL y6 hr rfl (ae (pv 1) (ae (aL lA hr rfl (ae (aL mO hr rfl (ae (pv 0) (ae ak ag))) (ae ak ag))) ag))))
   (av (aP (i:=4) nd rfl (Or.inl rfl) (abk yQ hr rfl (ae (bf (cK (K:=K) rfl) rfl T.len cR (ae (pv 1) ag)) (ae (pv 3) ag))))
   (av (aP (i:=5) nd rfl (Or.inl rfl) (iq vP (aL zh hr rfl (ae (pv 1) ag)) jR (bh _)))
   (av (cx cq rfl (dC (K:=K) rfl (aI gC (bU (ae ak (ae ak ag))) (gF (gH (K:=K) rfl) (pv 0) (f9 ak) (f9 ak)))) (bj (i:=6) nd rfl (Or.inl rfl))
   (av (aP (i:=7) nd rfl (Or.inl rfl) (aL lA hr rfl (ae (pv 6) (ae ak ag))))
   (av (aP (i:=8) nd rfl (Or.inl rfl) (eP (K:=K) rfl eE kY qK (vH (K:=K) rfl) (pv 1) (ae (bf (Uc (K:=K) rfl rfl) rfl T.min boot_min (ae (pv 1) ag)) ag)))
   (av (aP (i:=9) nd rfl (Or.inl rfl) (eP (K:=K) rfl eE kY qK (vH (K:=K) rfl) (pv 1) (ae (bf (Ub (K:=K) rfl rfl) rfl T.max boot_max (ae (pv 1) ag)) ag)))
   (av (bA (bw dW (aI cS (aq (aX (K:=K) rfl) (pv 7) ak (λ_ _=>rfl)) ak) ak (bh _)) (av (aP (i:=9) nd rfl (Or.inl rfl) (aI cS (aq (aX (K:=K) rfl) (pv 7) ak (λ_ _=>rfl)) (bf (cK (K:=K) rfl) rfl T.len cR (ae (pv 1) ag))))
   (ay (aP (i:=8) nd rfl (Or.inl rfl) (aL hX hr rfl (ae (pv 1) (ae (pv 9) (ae (aI cS (aq (aX (K:=K) rfl) (pv 7) ak (λ_ _=>rfl)) (bf (cK (K:=K) rfl) rfl T.len cR (ae (pv 1) ag))) ag (ao nofun)) (ao nofun)) (ao nofun)))))) bD)
   (av (aP (i:=10) nd rfl (Or.inl rfl) (aL uG hr rfl (ae (pv 2) (ae (pv 1) (ae (pv 8) (ae (pv 9) (ae (pv 7) ag (ao nofun)) (ao nofun)) (ao nofun)) (ao nofun)) (ao nofun))))
   (av (aP (i:=11) nd rfl (Or.inl rfl) (aL uG hr rfl (ae (pv 2) (ae (pv 1) (ae (pv 8) (ae (pv 9) (ae (gF (gH (K:=K) rfl) (pv 7) (f9 ak) gY) ag (ao nofun)) (ao nofun)) (ao nofun)) (ao nofun)) (ao nofun))))
   (ay (bA (du (bZ (aL zf hr rfl (ae (pv 4) (ae (pv 1) (ae (pv 10) (ae (pv 11) (ae (pv 5) ag (ao nofun)) (ao nofun)) (ao nofun)) (ao nofun)) (ao nofun))))) (ay (aR dB)) bD)))))))))
   (ay (aR dB)))))))),?_⟩
  refine⟨_,rfl,a,ns,0,rfl,hS,λm M H0 s0 hm0 Pr hM=>?_⟩;refine⟨_,rfl,m,M,rfl,ah.of Pr,hM.len,λkn tE H1 s1 hkn qk0 MK W_=>?_⟩;have p6:=s0.trans s1;have qm:=s1 _ _ Pr;refine⟨_,rfl,_,rfl,a,2,ns,rfl,p6.seq hS,λc H2 s2=>⟨c,8,rfl,by decide,λd ds H3 s3 hd q3 hdl hsm=>?_⟩⟩;have wd:=s2.trans s3;refine⟨m,d,M,ds,rfl,ah.of (wd _ _ qm),ah.of q3,hdl,hM.pos,hM.len,λL us ps H4 s4 hL q4 jK hpp hand=>?_⟩;have lT:=wd.trans s4;have Pw:=lT _ _ qm;refine⟨_,rfl,m,_,rfl,.inl (ah.of Pw),_,rfl,λx dx hx hdx hne=>?_⟩;rw[az];have cy:Same H4 (upd (upd H4 dx (.own x)) x (.ins C dx [])):=λb o e=>by
   rw[aF (c6 e hx),aF (c6 e hdx)];exact e
  refine⟨x,dx,M.length,L,ps,rfl,au,⟨us,ah.of (cy _ _ q4),c9.same cy hpp⟩,hM.pos,hM.len,hand.lt,Lj hM hand,λH5 R fr hC hO=>⟨rfl,?_⟩⟩;have jV:Same H4 H5:=λb o e=>fr b o (cy _ _ e) (c6 e hx);have hR:=J_ hM hand hC;have G:=Lj hM hand R hC;have sP:=lT.trans jV;have Ei:Same H H5:=p6.trans sP;have sJ:=jV _ _ Pw;have Pq:=sP _ _ qk0;have Mb:=c9.same sP W_;refine⟨_,rfl,m,M,rfl,ah.of sJ,hM,λve Sz P5 MN=>⟨rfl,?_⟩⟩;have hev:decide (ve=V.non)=true->∀a b c,a<M.length->b<M.length->c<M.length->¬ Un M.length (Ev.aG M) a b c:=λh=>by
   have h:=pI h;subst h
   rcases MN with⟨_,no⟩|⟨_,_,_,_,e,_⟩
   ·exact no
   ·cases e
  have va:decide (ve=V.non)=false->∃a b c,a<M.length/\b<M.length/\c<M.length/\Un M.length (Ev.aG M) a b c:=λh=>by
   have h:=of_decide_eq_false h
   rcases MN with⟨e,_⟩|⟨_,a,b,c,_,_,fst⟩
   ·exact absurd e h
   ·exact⟨a,b,c,fst.la,fst.lb,fst.lc,fst.is⟩
  generalize decide (ve=V.non)=ev at hev va ⊢;have acj:=Ei.trans P5;refine⟨by show 2<=sizeLine;decide,λp1 hp1=>⟨_,rfl,_,rfl,_,rfl,a,_,rfl,(acj.trans (Same.put hp1)).seq hS,λp2 hp2=>?_⟩⟩;obtain⟨ms,zP,hms⟩:=Ut ns (some 3) (some 11);rw[zP];refine⟨p1,p2,_,_,rfl,rfl,Same.put hp2 _ _ au,au,by rw[az];show 2+ms.length<=sizeLine;exact fD (dw (by omega)),λp3 hp3=>?_⟩;generalize hB:upd (upd (upd Sz p1 _) p2 _) p3 _=B;have sB:Same H5 B:=by rw[<- hB];exact P5.trans (((Same.put hp1).trans (Same.put hp2)).trans (Same.put hp3))
  have hl3:B p3=some (.lst (([0,7]++ms).map V.int)):=by rw[<- hB,au,jy];rfl
  clear hB;refine⟨p3,rfl,⟨_,ah.of hl3⟩,iF (K:=K) (a:=p3) (xs:=([0,7]++ms).map V.int) (λi σ H6=>∃(v7 v8 v9 v10 v11 tF:Option V),σ = [some (.ref a),some (.ref m),some (.ref kn),some (.ref L),some (.ref x),some (.bl ev),v7,v8,v9,v10,v11,tF]/\Same B H6)
   ⟨none,none,none,none,none,none,rfl,Same.refl _⟩ (λi σ H6 _ hpq=>by obtain⟨_,_,_,_,_,_,_,s6⟩:=hpq;exact ah.of (s6 _ _ hl3)) ?_ ?_⟩
  ·rintro i y σ H6 hy ⟨v7,v8,v9,v10,v11,tF,rfl,s6⟩
   obtain⟨zc,rfl⟩:∃z,y=V.int z:=by
    rw[bW]at hy;cases e:([0,7]++ms)[i]? with
    |none=>rw[e]at hy;cases hy
    |some z=>rw[e]at hy;exact⟨z,(dg hy).symm⟩
   have t6:=sB.trans s6;have u_:=hM.len;have hpos:=hM.pos;refine⟨_,rfl,zc,16,rfl,by decide,λd ds H7 s7 hd q7 hdl hsm=>?_⟩;have t7:=t6.trans s7;have o_:ah K H7 m (M.map nV):=ah.of (t7 _ _ sJ);have sA:=Dt o_;have Pj:0<(M.map λx:Nat=>(x:Int)).length:=by rw[az];exact hM.pos
   refine⟨_,rfl,.inl ⟨rfl,_,o_⟩,_,rfl,m,_,rfl,sA,Pj,λmi hmi hmin=>⟨m,_,mi,rfl,rfl,sA,hmi,?_⟩⟩;refine⟨_,rfl,.inl ⟨rfl,_,o_⟩,_,rfl,m,_,rfl,sA,Pj,λma hma rT=>⟨m,_,ma,rfl,rfl,sA,hma,?_⟩⟩;obtain⟨x0,hx0,rfl⟩:=dc.mp hmi;obtain⟨x1,hx1,rfl⟩:=dc.mp hma;obtain⟨ia,ga⟩:=vk hx0;obtain⟨ib,gb⟩:=vk hx1;have WN:Ev.Sub x0 x1:=Y8 hM hx0 (λy hy=>by have:=hmin (y:Int) (dc.mpr ⟨y,hy,rfl⟩);omega) x1 hx1;generalize (M.map λx:Nat=>(x:Int)).idxOf (x0:Int)=A0 at ia ga ⊢;generalize (M.map λx:Nat=>(x:Int)).idxOf (x1:Int)=B0 at ib gb ⊢;have hAB:Ev.aG M A0 B0=true:=by rw[Ev.dS,ga,gb];exact WN
   clear hmi hma hmin rT sA;have zK:∀j,j<16->∃z:Int,(ds.map V.int)[j]?=some (.int z):=λj hj=>⟨ds[j]'(by omega),by rw[bW,aA (by omega)];rfl⟩;obtain⟨q_,WQ⟩:=zK 12 (by decide);obtain⟨Ke,WR⟩:=zK 13 (by decide);obtain⟨Kg,WT⟩:=zK 14 (by decide);dsimp only[cD];show kH _ _ _ [some (.ref a),some (.ref m),some (.ref kn),some (.ref L),some (.ref x),some (.bl ev),some (.int zc),some (.ref d),some (.int (A0:Int)),some (.int (B0:Int)),v11,tF] _;refine acn (ι:=Nat × Nat) (λq H'=>q.1<M.length/\q.2<M.length/\Ev.aG M q.1 q.2=true/\Same H7 H') (λq=>[some (.ref a),some (.ref m),some (.ref kn),some (.ref L),some (.ref x),some (.bl ev),some (.int zc),some (.ref d),some (.int (q.1:Int)),some (.int (q.2:Int)),v11,tF]) (λD' hrt hD'=>?_) ?_
   ·refine⟨_,rfl,d,_,12,.int q_,rfl,rfl,ah.of q7,aH (j:=12) WQ,_,_,rfl,rfl,by show(0:Int)<3;decide,rfl,_,rfl,?_⟩
    refine bq (λh1=>?_) (λh1=>?_)
    ·obtain⟨rb,hrb,Vh⟩:=hZ Ke M.length hM.pos
     obtain⟨rc,Xm,Vi⟩:=hZ Kg M.length hM.pos;have posM:(0:Int)<((M.map nV).length:Int):=by rw[az];omega
     refine⟨_,rfl,d,_,13,.int Ke,rfl,rfl,ah.of q7,aH (j:=13) WR,_,rfl,m,_,rfl,.inl o_,_,_,rfl,rfl,posM,?_⟩;refine⟨_,rfl,_,rfl,_,rfl,d,_,14,.int Kg,rfl,rfl,ah.of q7,aH (j:=14) WT,_,rfl,m,_,rfl,.inl o_,_,_,rfl,rfl,posM,?_⟩;rw[az];dsimp only;rw[Vh,Vi];refine⟨m,rb,rc,M,rfl,o_,hM,hrb,Xm,λmt H8 s8 hmt Xf=>?_⟩;have e1:=Xf mt;rw[Ev.jO]at e1;have e2:Ev.aG M mt rb=true:=by
      have:=e1.symm;rw[bF]at this;exact this.1
     exact hD' (mt,rb) H8 ⟨hmt,hrb,e2,s8⟩
    ·exact hD' (A0,B0) H7 ⟨ia,ib,hAB,Same.refl _⟩
   rintro⟨a',b'⟩ H8 ⟨ha',hb',hab',s8⟩;have t8:=t7.trans s8;have q8:=s8 _ _ q7;refine⟨_,rfl,_,rfl,_,rfl,_,rfl,_,rfl,kn,m,a',b',d,M,tE,ds,rfl,ah.of (t8 _ _ Pq),c9.same t8 Mb,MK,ah.of (t8 _ _ sJ),hM,ha',hb',hab',ah.of q8,by omega,λt cs H9 s9 ht q9 hcl Lr Wq=>?_⟩;have t9:=t8.trans s9;have q9d:=s9 _ _ q8;obtain⟨U4,U5⟩:=Nf Wq;refine⟨_,rfl,_,rfl,_,rfl,_,rfl,_,rfl,_,rfl,d,_,rfl,ah.of q9d,λp4 cF=>?_⟩;have e6:d8 (ds.map V.int) (some 6) none=(ds.drop 6).map V.int:=Us (k:=6) (by omega);rw[e6];have Ej:=Same.put (o:=.lst ((ds.drop 6).map V.int)) cF;have t10:=t9.trans Ej;refine⟨kn,m,a',b',p4,M,tE,ds.drop 6,rfl,ah.of (t10 _ _ Pq),c9.same t10 Mb,MK,ah.of (t10 _ _ sJ),hM,ha',hb',hab',ah.of au,by rw[kQ];omega,λu dd Sy Ek hu' q11 ad3 Lv uZ=>?_⟩;have t11:=t10.trans Ek;have abI:=Ek _ _ (Ej _ _ q9);obtain⟨U6,U7⟩:=Nf uZ;have Jx:Same B Sy:=s6.trans (s7.trans (s8.trans (s9.trans (Ej.trans Ek))));exact⟨_,rfl,_,rfl,_,rfl,_,rfl,_,rfl,x,m,t,u,M,cs,dd,R,ev,rfl,hO.eQ t11,G,hR,hM,ah.of (t11 _ _ sJ),Jx _ _ (sB _ _ (Ei _ _ hP)),abI,q11,Lr.J3,Lv.J3,Lr.st,Lv.st,by rw[U4,U6],by rw[U5,U7],hev,va,λH13 wd=>⟨_,rfl,bx ⟨_,_,_,_,_,_,rfl,Jx.trans wd⟩⟩⟩
  ·rintro σ H6 ⟨v7,v8,v9,v10,v11,tF,rfl,s6⟩
   exact kk _ (s6 _ _ (sB _ _ (Ei _ _ hP)))
end
end _M
def PySem.W.Fast.tw12561942660972579230 : PySem.Program := PySem.Challenge.pw_evenclimb_k42_steps_paired
end
theorem PySem.W.Fast.te12561942660972579230 : PySem.Challenge.pw_evenclimb_k42_steps_paired = PySem.W.Fast.tw12561942660972579230 := rfl
structure PySem.W.Fast:Prop where (te4602463792506272326 tw18371667685960937006 tw10351294507281012994 tw221237866033073465 tw12645044183397003261 tw14226158078600042169 tw11062464144782552446 tw12306413513038572124 tw6241353775131725078 tw1936511064629649497 tw15442178574293660745 tw2269017645417540543 tw9976608700379067324 tw9247261358623385789 tw10822393832316611290 tw3055100327339914575 tw4273300533663948553 tw10491241971299547204 tw9009189723302425404 tw10641628301646412219 tw14276692980004427987 tw17077937546109951424 tw7283434638073817170 tw3455711977975829858 tw18339047499501762432 tw18160075713379794887 tw12909289825460944779 tw5850866912685333909 tw10430222102971656711 tw3344302140057134840 tw11329951085655306456 tw4458675175229193653 tw6449036335243923096 tw545474980165132980 tw14526154472237080547 tw12621579777085510025 tw11791352920808482586 tw7074312502191044020 tw4518590217922509956 tw1981801774134816349 tw14976287605804628689 tw2630794115893158351 tw125408406173404265 tw16210914655815066653 tw6640330095347049152 tw17809642022269914097 tw3526434516965506701 tw6236544164142119464 tw13043385354588488615 tw15275795419222706005 tw771491805682262192 tw6685561895689645240 tw8840786818567235645 tw8605788903380488253 tw147372982259731603 tw17489833315670432578 tw10307995132479600044 tw2122154478634476343 tw6352413477240197273 tw15117507372018050052 tw14451012972404233214 tw18259312065371829956 tw17785159040262417044 tw10430748295018575377 tw784871246710619656 tw4366882440273633705 tw8355055089748371617 tw8970203725251422985 tw6951729307039602672 tw8767090536223249358 tw8556179515679453846 tw266902733194489772 tw18442439283326387042 tw6606019449246182749 tw2667358502715402802 tw4587391767355586395 tw8730368652042303362 tw13118587833328736396 tw1544228414608587437 tw12919432708739873500 tw9740131008568769662 tw10775010968857790434 tw10420847393371064908 tw7953091657940333378 tw2861653429264444865 tw3627179337940633670 tw16691877109068756398 tw16791398735178061430 tw17602199113612258223 tw17830976192326956409 tw8225389377057166723 tw9134156021034858350 tw8163908512839816017 tw13817101791954346352 tw12994865876186281926 tw15548676909638878950 tw3097930119032193796 tw398561136668110516 tw11472324758548894506 tw15192504814915781621 tw17780930959800721559 tw3132476646875407069 tw17446812224851915103 tw9250625393570130970 tw12776033887974635182 tw10677881452671812184 tw17907420596952177051 tw17674729693759231828 tw8115400170779662331 tw6290269035225718287 tw827038649487531195 tw6595922211080043538 tw3780807735329404419 tw7203709353423206463 tw11550646866954039474 tw11935307535711578212 tw60227386422789593 tw3906001888890432840 tw12043754987681893961 tw8349772807005109244 tw10361840071235405221 tw14117616632231355099 tw4664671598843718001 tw13755904815928397841 tw2940077814273659822 tw6984565042663378331 tw15608622047002860784 tw10187685949913048096 tw14729883346062019763 tw1727822657863677326 tw10616099747761880446 tw13773187179491530324 tw9637370742358874821 tw10800020466390880706 tw5652773729004626346 tw2387235509134228556 tw2470713754446695196 tw16820799285556608020 tw1880628180557991107 tw7167639923135347028 tw10431995564546527598 tw5600186765028053450 tw16768039429451701888 tw8000849649718594525 tw10000616357171870732 tw14403841394990936133 tw11975816543803188112 tw13314938910027565610 tw3227192319738313746 tw5136452022567785353 tw17527761974253231827 tw940405527485890586 tw9811362530284569160 tw16821571886738839327 tw12383017105302253187 tw18100933292431448954 tw17684099670525505849 tw14954667937476590414 tw2863271449096822450 tw16242672401806180719 tw9735474189487957149 tw15455367617090590143 tw10543917172786153225 tw17142955445828302969 tw12643711321952675965 tw11976971906191787145 tw12254939567392386616 tw7588170002400627344 tw2773496591418248579 tw3185265747250600721 tw2542563942042015987 tw6607901663886737869 tw16813472514680516089 tw16441531760109340414 tw5642871730055444366 tw14963369632710880626 tw14425784840719479588 tw6121974641110542528 tw15535122059785785380 tw2414380383263270674 tw11979378803501559608 tw3849577952721274541 tw4285205531003865222 tw3565186991568500834 tw3329230029159471291 tw6750468682910959173 tw7759177775755766991 tw4579754545569252310 tw12423594646724234833 tw10597457787118496423 tw5874873366045705836 tw7231466403115760872 tw16806016524654444451 tw16224954690425782394 tw10857243606666555600 tw12681274033861616630 tw8657363247599187033 tw3595643727550158544 tw13782679180491722073 tw528228306117607440 tw8104037087461069195 tw6982748050026588162 tw14858714401822819449 tw16508901510469812819 tw2856213210631863034 tw18269700974276454509 tw6216599874518202806 tw113195879597068667 tw4061041204598203060 tw3849533714754492393 tw4317814734325493762 tw17209200283343052966 tw3694262230642665050 tw5774041834578623662 tw2894114970266710840 tw2152565134532236461 tw11408040455767751301 tw7815492537647354416 tw63684485467053755 tw3394515068721014978 tw13120554507585199559 tw12791805737370852342 tw18306412354903355139 tw16830199065278338546 tw12560319574320208834 tw6232817908192946799 tw16482316221905400090 tw2124503571245715466 tw18286122781695576431 tw12664767170908606834 tw2778977545437272751 tw6177472361499768426 tw5417574240562819559 tw17867826080170516060 tw15565626421047253522 tw15527861672620909427 tw10989933330511533613 tw10228297229931621791 tw11930287063605322309 tw6882249034357714219 tw4267699976937506029 tw4055757131968253532 tw3121632002341506778 tw15284473170068773813 tw17878434297316346990 tw12953257984128590815 tw12831753656599592694 tw5209319067455227207 tw4151583712482943230 tw17556176143957612186 tw15197483755527874799 tw13918095218124330184 tw13886930980635088420 tw5659769532624616407 tw5352068172997983175 tw2038553912037583648 tw10323440552890605479 tw9198170060128608040 tw15830150897318854522 tw639206912744172862 tw6142637351873600214 tw5603713725763875327 tw4298733054740526845 tw4111099689175651463 tw17906599982018847924 tw5730339241817958710 tw17596773773188758043 tw17928222045912610578 tw3244728200736504857 tw512180445440436708 tw11205948569768157373 tw8734002625161125014 tw3593172273815166169 tw12377372565540970638 tw1830569861918173914 tw11173096339580273351 tw6223953746493741042 tw5856508400591966471 tw12799201326925798496 tw6830566112157731848 tw3271197645705381589 tw18231356420652899301 tw17517774090382003445 tw17173962046930865624 tw10435108720041851500 tw8672996954588452696 tw7626188841752936480 tw3511325604153684170 tw16240137991131357141 tw10499025984471491958 tw14816163839397856343 tw8628462985997620035 tw16702190178064466491 tw10419805269751415506 tw9377409316574727877 tw15853677580829131161 tw17260106648984533995 tw14161695419603014064 tw13856843801628927222 tw11481751979043674649 tw1139441993801720019 tw17939248162036468350 tw14353034106773626720 tw15085218674604501414 tw10714522899400571291 tw12935785592026635239 tw16976885603139210082 tw8943147354707299247 tw5712836849452959531 tw10607914767586599740 tw12342709913863232748 tw8346028982684220022 tw7750692926068666005 tw7488497042962785215 tw5441726610841754517 tw9532390596972603335 tw8868737923058514429 tw3146933929715097932 tw18122067766285837133 tw16845077008735685771 tw17216332201791625304 tw10980938672268792714 tw7079953271950468019 tw5873234068152400049 tw9987058001389154093 tw5876882079595536313 tw16106497246450964205 tw1279080276973901947 tw3311187446367767609 tw10614843579857183348 tw7136080746115003870 tw9188430785622805989 tw9081358463594444008 tw7550958533281896470 tw4813893481657083613 tw1841131058360264940 tw16059042644620017139 tw15961636055584471275 tw13242515667711389926 tw12490492823584171213 tw11121530980993772436 tw8450761215175777629 tw11121806476161715032 tw9011868189903186321 tw9005122772654456830 tw8716029006958402754 tw7762506860602105692 tw7605335159718779813 tw7182918678471189079 tw6702146478205019833 tw660145214354199324 tw5469218947253257291 tw5098982899758724611 tw4184608901609380319 tw3628349422287591528 tw3596064745308652247 tw2612476322346251041 tw42468995689289360 tw181586821413018182 tw830915306423960992 tw496033354986016416 tw2192554899551682142 tw7657686660648845492 tw6354746533258466506 tw1714849680414177283 tw8111453490255623084 tw9508998334477829331 tw2736336460634038329 tw8559369476033048866 tw5818271253703357740 tw9427010770593118582 tw6985828145873963012 tw4062986004950718654 tw6741147215352834065 tw9458590923971749726 tw4849553133077551418 tw5930385188928706772 tw5540109946701546242 tw5262762228188424304 tw2311727233907217546 tw6933261776158519240 tw1466125039371514366 tw3387826503656974259 tw4958218786577977060 tw8801352482367667835 tw5471587162854672943 tw3957072433568459079 tw3361070487256102313 tw7417418991709384350 tw9978961140064263389 tw4610150932179967757 tw6398802871426097792 tw4978875532515233901 tw7655210571497189720 tw9743638870295354438 tw1003083305316470482 tw5248086601429088007 tw8749049209396081870 tw4728413496155984146 tw1327806966916493262 tw16155371509986854182 tw15500967517090226530 tw10799831426126056289 tw15556364934676747551 tw10468627132178616953 tw18445077623775304038 tw10974805868084866084 tw12901196742126350189 tw10419114281200481013 tw17009371909162675953 tw12635951900193681548 tw17472713710795874212 tw16784116592706821524 tw16820038414755479294 tw12924984869475542707:True)
namespace _M
open PySem PySem.Spec PyProof.Rows _L
theorem tE{C:List Value->Prop}(h:C []):∀us:List Value,us.length=0->C us:=λ_ e=>S0.mp e▸h
theorem xt{C:List Value->Prop}{n:Nat}(h:∀(a:Value)(us:List Value),us.length=n->C (a::us)):∀us:List Value,us.length=n+1->C us
 |[],e=>nomatch e
 |a::r,e=>h a r (Nat.succ.inj e)
theorem dJ{C:List Value->Prop}(h:∀a0,C [a0]):∀us:List Value,us.length=1->C us:=xt λa=>tE (C:=λr=>C (a::r)) (h a)
theorem b9{C:List Value->Prop}(h:∀a0 a1,C [a0,a1]):∀us:List Value,us.length=2->C us:=xt λa=>dJ (C:=λr=>C (a::r)) (h a)
theorem fw{C:List Value->Prop}(h:∀a0 a1 a2,C [a0,a1,a2]):∀us:List Value,us.length=3->C us:=xt λa=>b9 (C:=λr=>C (a::r)) (h a)
theorem xq{C:List Value->Prop}(h:∀a0 a1 a2 a3,C [a0,a1,a2,a3]):∀us:List Value,us.length=4->C us:=xt λa=>fw (C:=λr=>C (a::r)) (h a)
theorem R_{C:List Value->Prop}(h:∀a0 a1 a2 a3 a4,C [a0,a1,a2,a3,a4]):∀us:List Value,us.length=5->C us:=xt λa=>xq (C:=λr=>C (a::r)) (h a)
set_option maxHeartbeats 0 in
theorem all_mk {l:W.OpenLaw} {w:World} {K:W.Frag} {h:Heap} {mg:Str->Option Value} {fa C a0 a1 a2 a3 a4 a5 a6 a7 a8 a9 a10 a11 a12 a13 a14 aE c0 P0:Addr} (X:K.In h) (G:h.Ns mainGlobals mg) (hfa:mg "law" = some (.ref fa)) (tx:oH K)
  (cO:ClsAt K "Order" "Order.__init__" wm C) (nC:W.findIn K (.ref C) "count" = some none) (nP:W.findIn K (.ref C) "pairs" = some none) (nR:W.findIn K (.ref C) "reach" = some none) (nJ:W.findIn K (.ref C) "joins" = some none) (nM:W.findIn K (.ref C) "meets" = some none)
  (ht:W.tabIn K "longer" = some (c0,P0))
  (er:tO K a0 a1 a2 a3 a4 a5 a6 a7 a8 a9 a10 a11 a12 a13 a14 aE)
  (BI:xE K aE)
  (ny:oF K a0 a1 a2 a3 a4 a5 a6 a7 a8 a9 a10 a11 a12 a13 a14 aE a14 14)
  (tG:W.excIn K a0 g_ "ValueError.__new__" = true)
  (tH:W.excIn K a1 g_ "ValueError.__new__" = true)
  (tI:W.excIn K a3 g_ "ValueError.__new__" = true)
  (Ad:aD K "is_whole" Es)
  (Ac:aD K "is_thing" Ep)
  (Bq:aD K "need_thing" Fq)
  (Bk:aD K "need_count" Fj)
  (Bp:aD K "need_pairs" Fp)
  (Bt:aD K "own_row" wH)
  (zX:aD K "either" wq)
  (Bz:aD K "shared" wL)
  (zW:aD K "column" wo)
  (Bx:aD K "reach_of" sW)
  (BJ:aD K "twos" wM)
  (Bo:aD K "need_one_way" Fo)
  (zZ:aD K "ends_with" wu)
  (zY:aD K "ends_of" wt)
  (Bl:aD K "need_ends" Fl)
  (Bv:aD K "pairs_of" wJ)
  (Ai:aD K "_law_cell_at" Ew)
  (Ax:aD K "_law_mixed" Fb)
  (Al:aD K "_law_draws" Ex)
  (Ao:aD K "_law_flower" wB)
  (Bb:aD K "_law_stack" wG)
  (Ah:aD K "_law_beside" wz)
  (Ag:aD K "_law_at_most" Eu)
  (Bc:aD K "_law_steps" sS)
  (Aw:aD K "_law_meet" E_)
  (Au:aD K "_law_join" EY)
  (Am:aD K "_law_fields" p_)
  (Ba:aD K "_law_shut" Fd)
  (Av:aD K "_law_kind" wD)
  (Ap:aD K "_law_handed" Ey)
  (Be:aD K "_law_up" Fe)
  (z9:aD K "is_below" Eo)
  (Ab:aD K "is_step" wy)
  (z_:aD K "is_chain" sQ)
  (Aa:aD K "is_climb" wx)
  (Bw:aD K "parts_of" Fu)
  (BG:aD K "shared_part" Fv)
  (Bh:aD K "matches" Fg)
  (Ae:aD K "join_of_meet" Et)
  (Bi:aD K "meet_of_join" Fh)
  (BK:aD K "uneven" Fw)
  (z7:aD K "five_of" En)
  (Aj:aD K "_law_class" eh)
  (vi:nU K "NotEven.__init__" "five" Em a14)
  (Bm:aD K "need_even" Fm)
  (Bj:aD K "need_climb" Fi)
  (Bn:aD K "need_like_ends" Fn)
  (Br:aD K "need_two_chains" Fs)
  (Bg:aD K "longer" kG)
  (Bs:aD K "need_two_climbs" Ft)
  (By:aD K "road" wK)
  (Bu:aD K "paired" wI)
  (Bd:aD K "_law_uneven" sV)
  (Aq:aD K "_law_is_five" wC)
  (Bf:aD K "_law_whole" Ff)
  (As:aD K "_law_is_road" Ez)
  (Az:aD K "_law_paired" wF)
  (A_:aD K "_law_right" qa)
  (Ak:aD K "_law_climb" wA)
  (Ay:aD K "_law_order" Fc)
  (Af:aD K "law" p9) :
  ∃fd:FuncData,(∀(s:Shared) (v:Value),BindsTo s fd ⟨[v],[]⟩ [("_law_script", v)])/\∀base:Heap,K.In base->base.Ns mainGlobals mg->TabAt base mg c0 P0->aN l.prog w K mg base aZ 40 fa fd ["_law_script"] (wY K P0):=by
 have T:=tx.txt X G;have TC:eZ K C:=⟨cO.cl,nC,nP,nR,nJ,nM⟩;obtain⟨f,fd,a,F⟩:=Af.ex;have e:=hfa.symm.trans (W.mg_of X G a);cases e;obtain⟨oc,od,kV,doc,pm,an,cdv,ct,osl,rfl,lk,hcd⟩:=id F.ex;refine⟨W.fnOf "law" "law" (i_ p9) (gS p9) (aB p9) .none kV doc pm an cdv ct,λs v=>.of_eq rfl,λbase _ _ tb=>?_⟩;have Er:=er.errs X G;have oN:aC l.prog w K mg base "is_whole" ["value"] 1 wW:=Ad.cal X G (λ_ _ _ _ _ _=>dJ λ_=>rfl) (λF=>aad F T);have oM:aC l.prog w K mg base "is_thing" ["count","number"] 2 wV:=Ac.cal X G (λ_ _ _ _ _ _=>b9 λ_ _=>rfl) (λF=>aac F T oN);have uI:aC l.prog w K mg base "need_thing" ["count","number"] 3 Gs:=Bq.cal X G (λ_ _ _ _ _ _=>b9 λ_ _=>rfl) (λF=>aaq F T oM);have zj:aC l.prog w K mg base "need_count" ["count"] 2 Gm:=Bk.cal X G (λ_ _ _ _ _ _=>dJ λ_=>rfl) (λF=>aam F T oN);have zm:aC l.prog w K mg base "need_pairs" ["count","pairs"] 4 (Gr K):=Bp.cal X G (λ_ _ _ _ _ _=>b9 λ_ _=>rfl) (λF=>aap F T uI);have zo:aC l.prog w K mg base "own_row" ["count","thing"] 1 Gv:=Bt.cal X G (λ_ _ _ _ _ _=>b9 λ_ _=>rfl) (λF=>aas F T);have yS:aC l.prog w K mg base "either" ["one","other"] 1 FQ:=zX.cal X G (λ_ _ _ _ _ _=>b9 λ_ _=>rfl) (λF=>ZZ F T);have zu:aC l.prog w K mg base "shared" ["one","other"] 1 GJ:=Bz.cal X G (λ_ _ _ _ _ _=>b9 λ_ _=>rfl) (λF=>aaA F T);have yR:aC l.prog w K mg base "column" ["rows","place"] 1 FP:=zW.cal X G (λ_ _ _ _ _ _=>b9 λ_ _=>rfl) (λF=>ZW F T);have zq:aC l.prog w K mg base "reach_of" ["count","pairs"] 2 (Gz K):=Bx.cal X G (λ_ _ _ _ _ _=>b9 λ_ _=>rfl) (λF=>aaw F T zo yS);have oS:aC l.prog w K mg base "twos" ["count"] 1 w9:=BJ.cal X G (λ_ _ _ _ _ _=>dJ λ_=>rfl) (λF=>aaF F T);have zl:aC l.prog w K mg base "need_one_way" ["count","reach"] 2 Gq:=Bo.cal X G (λ_ _ _ _ _ _=>b9 λ_ _=>rfl) (λF=>aao F T oS);have yT:aC l.prog w K mg base "ends_with" ["rows","things","thing"] 2 (FV K):=zZ.cal X G (λ_ _ _ _ _ _=>fw λ_ _ _=>rfl) (λF=>Z1 F T zu);have uF:aC l.prog w K mg base "ends_of" ["rows"] 3 (FT K):=zY.cal X G (λ_ _ _ _ _ _=>dJ λ_=>rfl) (λF=>Z0 F T yT);have zk:aC l.prog w K mg base "need_ends" ["count","joins","meets"] 2 Gn:=Bl.cal X G (λ_ _ _ _ _ _=>fw λ_ _ _=>rfl) (λF=>aan F T oS);have zp:aC l.prog w K mg base "pairs_of" ["count","reach"] 1 Gy:=Bv.cal X G (λ_ _ _ _ _ _=>b9 λ_ _=>rfl) (λF=>aau F T);have yQ:tM l.prog w K mg base C "Order" ["self","count","pairs"] 5 (Gd K C):=cO.cal X G (λ_ _ _ _ _ _=>fw λ_ _ _=>rfl) (λF=>Z7 F T TC zj zm zq zl uF yR zk zp);have mO:aC l.prog w K mg base "_law_cell_at" ["_law_script","_law_k"] 1 (wO K):=Ai.cal X G (λ_ _ _ _ _ _=>b9 λ_ _=>rfl) (λF=>ZS F T);have y_:aC l.prog w K mg base "_law_mixed" ["_law_cell","_law_place"] 1 Gj:=Ax.cal X G (λ_ _ _ _ _ _=>b9 λ_ _=>rfl) (λF=>aak F T);have lA:aC l.prog w K mg base "_law_draws" ["_law_cell","_law_many"] 2 wQ:=Al.cal X G (λ_ _ _ _ _ _=>b9 λ_ _=>rfl) (λF=>ZX F T y_);have oP:aC l.prog w K mg base "_law_flower" ["_law_many"] 1 Ga:=Ao.cal X G (λ_ _ _ _ _ _=>dJ λ_=>rfl) (λF=>Z5 F T);have qW:aC l.prog w K mg base "_law_stack" ["_law_one","_law_other","_law_places"] 1 (GP K):=Bb.cal X G (λ_ _ _ _ _ _=>fw λ_ _ _=>rfl) (λF=>aaD F T);have qV:aC l.prog w K mg base "_law_beside" ["_law_one","_law_other"] 1 (FJ K):=Ah.cal X G (λ_ _ _ _ _ _=>b9 λ_ _=>rfl) (λF=>ZR F T);have fj:aC l.prog w K mg base "_law_at_most" ["_law_masks","_law_a","_law_b"] 1 (nA K):=Ag.cal X G (λ_ _ _ _ _ _=>fw λ_ _ _=>rfl) (λF=>ZQ F T);have oQ:aC l.prog w K mg base "_law_steps" ["_law_masks"] 2 (w8 K):=Bc.cal X G (λ_ _ _ _ _ _=>dJ λ_=>rfl) (λF=>aaE F T fj);have hX:aC l.prog w K mg base "_law_meet" ["_law_masks","_law_a","_law_b"] 1 (qc K):=Aw.cal X G (λ_ _ _ _ _ _=>fw λ_ _ _=>rfl) (λF=>aaj F T);have jF:aC l.prog w K mg base "_law_join" ["_law_masks","_law_a","_law_b"] 1 (sZ K):=Au.cal X G (λ_ _ _ _ _ _=>fw λ_ _ _=>rfl) (λF=>aaf F T);have yZ:aC l.prog w K mg base "_law_fields" [] 1 FW:=Am.cal X G (λ_ _ _ _ _ _=>tE rfl) (λF=>Z2 F T);have zg:aC l.prog w K mg base "_law_shut" ["_law_masks","_law_both"] 1 (GL K):=Ba.cal X G (λ_ _ _ _ _ _=>b9 λ_ _=>rfl) (λF=>aaC F T);have y9:aC l.prog w K mg base "_law_kind" ["_law_draws_here","_law_family"] 2 (Gg K):=Av.cal X G (λ_ _ _ _ _ _=>b9 λ_ _=>rfl) (λF=>aag F T oP qW yZ qV zg);have y6:aC l.prog w K mg base "_law_handed" ["_law_masks","_law_draws_here"] 3 (Gb K):=Ap.cal X G (λ_ _ _ _ _ _=>b9 λ_ _=>rfl) (λF=>Z6 F T oQ fj);have uH:aC l.prog w K mg base "_law_up" ["_law_masks","_law_one","_law_other"] 2 (G3 K):=Be.cal X G (λ_ _ _ _ _ _=>fw λ_ _ _=>rfl) (λF=>aaI F T hX jF);have lz:aC l.prog w K mg base "is_below" ["order","a","b"] 1 (wR C):=z9.cal X G (λ_ _ _ _ _ _=>fw λ_ _ _=>rfl) (λF=>Z8 F T TC);have yW:aC l.prog w K mg base "is_step" ["order","a","b"] 2 (Gf C):=Ab.cal X G (λ_ _ _ _ _ _=>fw λ_ _ _=>rfl) (λF=>Z' F T TC lz);have mM:aC l.prog w K mg base "is_chain" ["order","things"] 3 (wU K C):=z_.cal X G (λ_ _ _ _ _ _=>b9 λ_ _=>rfl) (λF=>Z9 F T TC oM lz);have yV:aC l.prog w K mg base "is_climb" ["order","things"] 4 (Ge K C):=Aa.cal X G (λ_ _ _ _ _ _=>b9 λ_ _=>rfl) (λF=>Z_ F T TC mM yW);have lB:aC l.prog w K mg base "parts_of" ["chain"] 1 (w6 K):=Bw.cal X G (λ_ _ _ _ _ _=>dJ λ_=>rfl) (λF=>aav F T);have zv:aC l.prog w K mg base "shared_part" ["order","one","other"] 1 (GK K C):=BG.cal X G (λ_ _ _ _ _ _=>fw λ_ _ _=>rfl) (λF=>aaB F T TC);have zi:aC l.prog w K mg base "matches" ["order","one","other"] 2 (Gi K C):=Bh.cal X G (λ_ _ _ _ _ _=>fw λ_ _ _=>rfl) (λF=>aai F T lB zv);have oO:aC l.prog w K mg base "join_of_meet" ["order","a","b","c"] 1 (wX C):=Ae.cal X G (λ_ _ _ _ _ _=>xq λ_ _ _ _=>rfl) (λF=>aae F T TC);have oR:aC l.prog w K mg base "meet_of_join" ["order","a","b","c"] 1 (w5 C):=Bi.cal X G (λ_ _ _ _ _ _=>xq λ_ _ _ _=>rfl) (λF=>aal F T TC);have zx:aC l.prog w K mg base "uneven" ["order"] 2 (GX C):=BK.cal X G (λ_ _ _ _ _ _=>dJ λ_=>rfl) (λF=>aaG F T TC oO oR);have yU:aC l.prog w K mg base "five_of" ["order","triple"] 2 (FZ K C):=z7.cal X G (λ_ _ _ _ _ _=>b9 λ_ _=>rfl) (λF=>Z4 F T TC oO oR);have yX:aC l.prog w K mg base "_law_class" ["_law_e"] 1 (FK λC j=>oF K a0 a1 a2 a3 a4 a5 a6 a7 a8 a9 a10 a11 a12 a13 a14 aE C j):=Aj.cal X G (λ_ _ _ _ _ _=>dJ λ_=>rfl) (λF=>ZT F T Er);have l0:=vi.fl;have yP:tL l.prog w K mg base a14 "NotEven" ["self","five"] 1 (wN a14 "five" Dx):=vi.cal Er.NotEven (λ_ _ _ _ _ _=>b9 λ_ _=>rfl) (λF ic=>ZP F Er BI ic l0);have zG:eR l.prog w K mg base "need_even" ["order"] 3 (Gp C a14):=Bm.oU X G (λ_ _ _ _ _ _=>dJ λ_=>rfl) (λF=>aaM F T zx yU yP);have uN:eR l.prog w K mg base "need_climb" ["order","things"] 5 (Gk K C a1):=Bj.oU X G (λ_ _ _ _ _ _=>b9 λ_ _=>rfl) (λF=>aaL F T TC Er tH yV);have oV:eR l.prog w K mg base "need_like_ends" ["one","other"] 1 (wZ K a3):=Bn.oU X G (λ_ _ _ _ _ _=>b9 λ_ _=>rfl) (λF=>aaN F T Er tI);have zH:eR l.prog w K mg base "need_two_chains" ["order","one","other"] 6 (GQ K C a0 a3):=Br.oU X G (λ_ _ _ _ _ _=>fw λ_ _ _=>rfl) (λF=>aaO F T TC Er tG mM oV);have zF:eR l.prog w K mg base "longer" ["order","one","other"] 7 (Gh K C a0 a3 a14 P0):=Bg.TY X G (λ_ _ _ _ _ _=>fw λ_ _ _=>rfl) ht (λF hc=>aaK F hc tb T TC zH zG zi);have zI:eR l.prog w K mg base "need_two_climbs" ["order","one","other"] 6 (GR K C a1 a3):=Bs.oU X G (λ_ _ _ _ _ _=>fw λ_ _ _=>rfl) (λF=>aaP F T TC Er uN oV);have zt:aC l.prog w K mg base "road" ["start","middle","end"] 1 GD:=By.cal X G (λ_ _ _ _ _ _=>fw λ_ _ _=>rfl) (λF=>aay F T);have uO:eR l.prog w K mg base "paired" ["order","one","other"] 8 (Gx K C a1 a3 a14 P0):=Bu.oU X G (λ_ _ _ _ _ _=>fw λ_ _ _=>rfl) (λF=>aaQ F T TC zI zF lB zt);have zh:aC l.prog w K mg base "_law_uneven" ["_law_masks"] 2 (GZ K):=Bd.cal X G (λ_ _ _ _ _ _=>dJ λ_=>rfl) (λF=>aaH F T jF hX);have y7:aC l.prog w K mg base "_law_is_five" ["_law_masks","_law_five"] 2 (FX K):=Aq.cal X G (λ_ _ _ _ _ _=>b9 λ_ _=>rfl) (λF=>Z3 F T fj hX jF);have mP:aC l.prog w K mg base "_law_whole" ["_law_found"] 1 w_:=Bf.cal X G (λ_ _ _ _ _ _=>dJ λ_=>rfl) (λF=>aaJ F T);have y8:aC l.prog w K mg base "_law_is_road" ["_law_masks","_law_road"] 3 (GF K):=As.cal X G (λ_ _ _ _ _ _=>b9 λ_ _=>rfl) (λF=>aaz F T mP fj uH);have zb:aC l.prog w K mg base "_law_paired" ["_law_masks","_law_one","_law_other","_law_told"] 4 (Gw K):=Az.cal X G (λ_ _ _ _ _ _=>xq λ_ _ _ _=>rfl) (λF=>aat F T mP y8);have zf:aC l.prog w K mg base "_law_right" ["_law_order_here","_law_masks","_law_one","_law_other","_law_even"] 9 (GC K C P0):=A_.cal X G (λ_ _ _ _ _ _=>R_ λ_ _ _ _ _=>rfl) (λF=>aax F T TC Er ny l0 uO yX y7 zb);have uG:aC l.prog w K mg base "_law_climb" ["_law_known","_law_masks","_law_a","_law_b","_law_draws_here"] 2 (FN K):=Ak.cal X G (λ_ _ _ _ _ _=>R_ λ_ _ _ _ _=>rfl) (λF=>ZV F T fj);have za:aC l.prog w K mg base "_law_order" ["_law_script","_law_at"] 3 (Gu K):=Ay.cal X G (λ_ _ _ _ _ _=>b9 λ_ _=>rfl) (λF=>aar F T mO lA y9);exact(aah F T TC za mO lA y6 oQ zh hX uG zf yQ).mono (by decide)
end _M
open PySem PySem.W PyProof.Rows
set_option maxRecDepth 100000 in
set_option maxHeartbeats 0 in
theorem PySem.Challenge.cw_evenclimb_k42_steps_paired_holds : PySem.Challenge.rw_evenclimb_k42_steps_paired.Holds := by
 w_on;o_law;k_head;(case hw=>w_witness2)
 k_fill
 refine' _M.ady (l:=PySem.Challenge.rw_evenclimb_k42_steps_paired) rfl rfl (λw h Y=>⟨PySem.W.km_in_of Y,PySem.W.km_tabs_of Y _ (List.Mem.head _)⟩) ?hT ?Zu ?F
 case F =>
  intro w mg fa h KX G hmg
  refine' _M.all_mk KX G hmg ?tx ?cO ?nC ?nP ?nR ?nJ ?nM ?ht ?er ?BI ?ny ?tG ?tH ?tI ?Ad ?Ac ?Bq ?Bk ?Bp ?Bt ?zX ?Bz ?zW ?Bx ?BJ ?Bo ?zZ ?zY ?Bl ?Bv ?Ai ?Ax ?Al ?Ao ?Bb ?Ah ?Ag ?Bc ?Aw ?Au ?Am ?Ba ?Av ?Ap ?Be ?z9 ?Ab ?z_ ?Aa ?Bw ?BG ?Bh ?Ae ?Bi ?BK ?z7 ?Aj ?vi ?Bm ?Bj ?Bn ?Br ?Bg ?Bs ?By ?Bu ?Bd ?Aq ?Bf ?As ?Az ?A_ ?Ak ?Ay ?Af
  (case tx=>(refine' _M.oH.mk' ?l1 ?l2 ?l3 ?l4 ?l5 ?l6 ?l7 ?l8 ?l9 ?l10 ?Dj ?Dk ?Dl ?Dm ?Dp ?Dq ?m);(case l1|l2|l3|l4|l5|l6|l7|l8|l9|l10|Dj|Dk|Dl|Dm|Dp|Dq|m=>k_is);skip)
  (case cO=>(refine' _M.ClsAt.mk' ?ns ?pg ?hd ?po ?sa ?mk ?kc ?a ?i ?l ?c ?k);(case ns|pg|hd|po|sa|mk|kc|a|i|l|c|k=>k_is))
  (case nC|nP|nR|nJ|nM=>k_is)
  (case ht=>((refine' _M.ac_ ?a ?l ?c ?l2 ?v);(case a|l=>k_is);(case c=>exact rfl);(case l2=>k_is);(case v=>exact rfl)))
  (case er=>(refine' _L.tO.mk ?e0 ?e1 ?e2 ?e3 ?e4 ?e5 ?e6 ?e7 ?e8 ?e9 ?e10 ?UJ ?UL ?UT ?UW ?U0 ?U1);(case e0|e1|e2|e3|e4|e5|e6|e7|e8|e9|e10|UJ|UL|UT|UW|U0|U1=>k_is))
  (case BI=>(refine' _L.xE.mk ?a ?b ?c);(case a|b|c=>k_is))
  (case ny=>(refine' _L.oF.mk (_L.j8.mk ?x1 ?x2 ?x3 ?x4 ?x5 ?x6 ?x7) ?x8 ?x9 ?x10 ?k0 ?k1 ?k2 ?k3 ?k4 ?k5 ?k6 ?k7 ?k8 ?k9 ?k10 ?k11 ?k12 ?k13 ?k14);(case x1|x2|x3|x4|x5|x6|x7=>k_is);(case x8=>kts_exm);(case x9|x10|k0|k1|k2|k3|k4|k5|k6|k7|k8|k9|k10|k11|k12|k13|k14=>kit_is))
  (case tG|tH|tI=>k_exc)
  (case Ad|Ac|Bq|Bk|Bp|Bt|zX|Bz|zW|Bx|BJ|Bo|zZ|zY|Bl|Bv|Ai|Ax|Al|Ao|Bb|Ah|Ag|Bc|Aw|Au|Am|Ba|Av|Ap|Be|z9|Ab|z_|Aa|Bw|BG|Bh|Ae|Bi|BK|z7|Aj=>(refine' _M.aD.mk' ?a ?l ?c ?k);(case a|l|c|k=>k_is))
  (case vi=>(refine' _M.nU.mk' ?l ?ns ?sk ?i ?x ?fn ?lf ?c ?k ?sa ?no ?ob ?hd ?ng);(case l|ns=>k_is);(case sk=>(first|rfl|decide +kernel));(case i=>k_is);(case x=>k_exc);(case fn|lf|c|k|sa|no|ob|hd|ng=>k_is))
  (case Bm|Bj|Bn|Br|Bg|Bs|By|Bu|Bd|Aq|Bf|As|Az|A_|Ak|Ay|Af=>(refine' _M.aD.mk' ?a ?l ?c ?k);(case a|l|c|k=>k_is))
 case hT=>(intro w;kernel_rfl)
 case Zu=>(intro w;kernel_rfl)
