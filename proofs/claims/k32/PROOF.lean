import PyProof.Rows.All
import KE.KRevSl
import KE.KTryMore
import KE.RegKIsAll
import KE.RegKTryMore
import Lean
import OpenK.AllK
import PyProof.EqAt
import PyProof.EqKinds
import PyProof.ExcAttrAll.ValueError
import PyProof.ExcBaseAll.ValueError
import PyProof.ExcInit
import PyProof.FString
import PyProof.InstStoreFacts
import PyProof.NeKinds
import PyProof.NsDelKeeps
import PyProof.ReprHeadsTuple
import PyProof.ReprNest
import PyProof.TupleCall
import Wide.All
import Wide.FinOn
import PySem.Challenge.RW_evenclimb_k32_climbs_led
set_option Elab.async false
set_option linter.all false
set_option maxRecDepth 100000
set_option maxHeartbeats 8000000
-- CHANGE: your row's module here,as the last of these rows
set_option genSizeOf false
namespace L2
open PySem PySem.Spec PyProof.Rows
abbrev Key:=Sum Int Str
def isB : Int → Value → Bool
  | k,.bool b => k == (if b then 1 else 0)
  | _,_ => false
def keyIs : Key → Value → Bool
  | .inl k,v => Value.isInt k v || isB k v
  | .inr x,v => Value.isStrOf x v
def keyH (w : World) : Key → Int
  | .inl k => hashInt k
  | .inr x => hashStr w x
theorem isB_shape {k : Int} {v : Value} (h : isB k v = true) : ∃ b : Bool,k = (if b then 1 else 0) ∧ v = Value.bool b:=by
  cases v with
  | bool b => exact ⟨b,by simpa [isB] using h,rfl⟩
  | _ => simp [isB] at h
theorem keyIs_shape : ∀ {k : Key} {v : Value},keyIs k v = true → (∃ i t,k = Sum.inl i ∧ v = Value.int i t) ∨ (∃ x t,k = Sum.inr x ∧ v = Value.str x t) ∨ (∃ b : Bool,k = Sum.inl (if b then 1 else 0) ∧ v = Value.bool b)
  | .inl i,v,h => by
    rcases (Bool.or_eq_true _ _).mp (show (Value.isInt i v || isB i v) = true from h) with h | h
    · obtain ⟨t,e⟩:=Value.isInt_shape (k:=i) (v:=v) h
      exact .inl ⟨i,t,rfl,e⟩
    · obtain ⟨b,e,e'⟩:=isB_shape h
      exact .inr (.inr ⟨b,by rw [e],e'⟩)
  | .inr x,v,h => by
    obtain ⟨t,e⟩:=Value.isStrOf_shape (x:=x) (v:=v) h
    exact .inr (.inl ⟨x,t,rfl,e⟩)
theorem keyIs_int (i : Int) (t : Tok) : keyIs (.inl i) (.int i t) = true:=by simp [keyIs,Value.isInt]
theorem keyIs_str (x : Str) (t : Tok) : keyIs (.inr x) (.str x t) = true:=by simp [keyIs,Value.isStrOf]
theorem keyIs_bl (b : Bool) : keyIs (.inl (if b then 1 else 0)) (.bool b) = true:=by cases b <;> simp [keyIs,isB]
theorem hash_bool {prog : Program} {w : World} {A : Around} {E : Value → Shared → Prop} {s : Shared} {b : Bool} {Q : Int → Shared → Prop} (h : Q (hashInt (if b then 1 else 0)) { s with toks:=s.toks + 1 }) :
    wpAny (model prog w) A (pyHash (.bool b)) Q E s:=by
  have hr:=rawHash_range (if b then 1 else 0)
  have hT : s.TypeIs (.bool b) "bool" := rfl
  unfold pyHash
  have hv : [Value.bool b].any Value.onHeap = false:=rfl
  refine wpAny_bind ?_
  rw [cRoomFor,if_neg (by rw [hv]; exact Bool.false_ne_true)]; refine wpAny_pure ?_
  refine wpAny_bind (wpAny_specialOf hT F.slot_bool_hash.lookup ?_)
  show wpAny _ _ (if (some (Value.builtin "int.__hash__") == some Value.none) = true then _ else _) Q E s
  rw [if_neg (by rw [beq_builtin_none]; exact Bool.false_ne_true)]
  refine wpAny_bind (wpAny_specialOf hT F.slot_bool_hash.lookup ?_)
  show wpAny _ _ (callSpecialIfBoundUnlessNone? (.bool b) "__hash__" _ >>= _) Q E s
  refine wpAny_bind (wpAny_callSpecialIfBoundUnlessNone?_slot hT F.slot_bool_hash
    (wpAny_call_entry F.slot_bool_hash hT entry_int_hash
      (show wpAny _ _ (do ret (← mkInt (rawHash (if b then 1 else 0)))) _ _ s from wpAny_ret_mkInt ?_) (args_int_hash _)))
  show wpAny _ _ (if (decide (-(2 : Int) ^ 63 ≤ rawHash (if b then 1 else 0)) && decide (rawHash (if b then 1 else 0) < 2 ^ 63)) = true then _ else _) Q E _
  rw [if_pos (by rw [decide_eq_true hr.1,decide_eq_true hr.2]; rfl)]
  exact wpAny_pure h
theorem key_ll (a b : Int) : decide ((Sum.inl a : Key) = Sum.inl b) = (a == b):=by
  by_cases e : a = b
  · subst e; simp
  · have h : ¬ (Sum.inl a : Key) = Sum.inl b:=fun q => e (Sum.inl.inj q)
    rw [decide_eq_false h]
    exact (beq_eq_false_iff_ne.mpr e).symm
theorem key_rr (a b : Str) : decide ((Sum.inr a : Key) = Sum.inr b) = decide (a = b):=by
  by_cases e : a = b
  · subst e; simp
  · have h : ¬ (Sum.inr a : Key) = Sum.inr b:=fun q => e (Sum.inr.inj q)
    rw [decide_eq_false h,decide_eq_false e]
theorem key_lr (a : Int) (b : Str) : decide ((Sum.inl a : Key) = Sum.inr b) = false:=decide_eq_false (fun q => nomatch q)
theorem key_rl (a : Str) (b : Int) : decide ((Sum.inr a : Key) = Sum.inl b) = false:=decide_eq_false (fun q => nomatch q)
def mixKind (prog : Program) (w : World) : PySem.KeyKind prog w Key where
  is:=keyIs
  hash:=keyH w
  inj:=fun v a b ha hb => by
    rcases keyIs_shape ha with ⟨i,t,rfl,rfl⟩ | ⟨x,t,rfl,rfl⟩ | ⟨x,rfl,rfl⟩
    · rcases keyIs_shape hb with ⟨j,u,rfl,e⟩ | ⟨y,u,rfl,e⟩ | ⟨y,rfl,e⟩
      · injection e with e1 _; rw [e1]
      · exact nomatch e
      · exact nomatch e
    · rcases keyIs_shape hb with ⟨j,u,rfl,e⟩ | ⟨y,u,rfl,e⟩ | ⟨y,rfl,e⟩
      · exact nomatch e
      · injection e with e1 _; rw [e1]
      · exact nomatch e
    · rcases keyIs_shape hb with ⟨j,u,rfl,e⟩ | ⟨y,u,rfl,e⟩ | ⟨y,rfl,e⟩
      · exact nomatch e
      · exact nomatch e
      · injection e with e1; rw [e1]
  byValue:=fun k v h => by
    rcases keyIs_shape h with ⟨i,t,rfl,rfl⟩ | ⟨x,t,rfl,rfl⟩ | ⟨x,rfl,rfl⟩ <;> rfl
  pyHash:=fun hv h => by
    rcases keyIs_shape hv with ⟨i,t,rfl,rfl⟩ | ⟨x,t,rfl,rfl⟩ | ⟨x,rfl,rfl⟩
    · exact wpAny_pyHash_int h
    · exact wpAny_pyHash_str h
    · exact hash_bool h
  eqBool:=fun hu hv h => by
    rcases keyIs_shape hu with ⟨i,t,rfl,rfl⟩ | ⟨x,t,rfl,rfl⟩ | ⟨x,rfl,rfl⟩
    · rcases keyIs_shape hv with ⟨j,u,rfl,rfl⟩ | ⟨y,u,rfl,rfl⟩ | ⟨y,rfl,rfl⟩
      · rw [key_ll] at h; exact wpAny_eqBool_int h
      · rw [key_lr] at h; exact SeqAt.EqAt.int_str i t y u _ _ _ _ h
      · rw [key_ll] at h; exact SeqAt.EqAt.int_bool i t y _ _ _ _ h
    · rcases keyIs_shape hv with ⟨j,u,rfl,rfl⟩ | ⟨y,u,rfl,rfl⟩ | ⟨y,rfl,rfl⟩
      · rw [key_rl] at h; exact SeqAt.EqAt.str_int x t j u _ _ _ _ h
      · rw [key_rr] at h; exact wpAny_eqBool_str h
      · rw [key_rl] at h; exact SeqAt.EqAt.str_bool x t y _ _ _ _ h
    · rcases keyIs_shape hv with ⟨j,u,rfl,rfl⟩ | ⟨y,u,rfl,rfl⟩ | ⟨y,rfl,rfl⟩
      · rw [key_ll] at h; exact SeqAt.EqAt.bool_int x j u _ _ _ _ h
      · rw [key_lr] at h; exact SeqAt.EqAt.bool_str x y u _ _ _ _ h
      · rw [key_ll] at h
        have e : ((if x then (1 : Int) else 0) == (if y then (1 : Int) else 0)) = (x == y):=by cases x <;> cases y <;> rfl
        rw [e] at h
        exact SeqAt.EqAt.bool_bool x y _ _ _ _ h
  «strs» := fun k x t v h => by
    rcases keyIs_shape h with ⟨i,u,rfl,e⟩ | ⟨y,u,rfl,e⟩ | ⟨y,rfl,e⟩
    · exact nomatch e
    · injection e with e1 _
      subst e1
      cases v <;> rfl
    · exact nomatch e
theorem mixKind_int (prog : Program) (w : World) (i : Int) (t : Tok) : (mixKind prog w).is (.inl i) (.int i t) = true:=keyIs_int i t
theorem mixKind_str (prog : Program) (w : World) (x : Str) (t : Tok) : (mixKind prog w).is (.inr x) (.str x t) = true:=keyIs_str x t
inductive V where
  | non | bl (b : Bool) | int (i : Int) | str (x : Str) | byt (b : Array UInt8) | flt (b : UInt64) | ref (a : Addr) | ty (n : String)
  deriving DecidableEq
def RelV : V → Value → Prop
  | .non,u => u = Value.none
  | .bl b,u => u = Value.bool b
  | .int i,u => ∃ t,u = Value.int i t
  | .str x,u => ∃ t,u = Value.str x t
  | .byt b,u => ∃ t,u = Value.bytes b t
  | .flt b,u => ∃ t,u = Value.float b t
  | .ref a,u => u = Value.ref a
  | .ty n,u => u = Value.type n
abbrev Vals : List V → List Value → Prop:=Paired RelV
theorem Vals.length {xs : List V} {us : List Value} (r : Vals xs us) : xs.length = us.length:=Paired.length r
theorem Vals.get : ∀ {xs : List V} {us : List Value} {i : Nat} {x : V},Vals xs us → xs[i]? = some x → ∃ u,us[i]? = some u ∧ RelV x u
  | _,_,_,_,.nil,e => by simp at e
  | _,_,0,_,.cons r _,e => by simp at e; subst e; exact ⟨_,rfl,r⟩
  | _,_,i + 1,x,.cons _ t,e => by
    obtain ⟨u,h1,h2⟩:=Vals.get (i:=i) (x:=x) t (by simpa using e)
    exact ⟨u,by simpa using h1,h2⟩
theorem Vals.set {x : V} {u : Value} (r : RelV x u) : ∀ {xs : List V} {us : List Value} (i : Nat),Vals xs us → Vals (xs.set i x) (us.set i u)
  | _,_,_,.nil => .nil
  | _,_,0,.cons _ t => .cons r t
  | _,_,i + 1,.cons q t => .cons q (Vals.set r i t)
theorem Vals.append : ∀ {xs ys : List V} {us ws : List Value},Vals xs us → Vals ys ws → Vals (xs ++ ys) (us ++ ws)
  | _,_,_,_,.nil,s => s
  | _,_,_,_,.cons r t,s => .cons r (Vals.append t s)
theorem Vals.take : ∀ {xs : List V} {us : List Value} (n : Nat),Vals xs us → Vals (xs.take n) (us.take n)
  | _,_,0,_ => .nil
  | _,_,_ + 1,.nil => .nil
  | _,_,n + 1,.cons r t => .cons r (Vals.take n t)
theorem Vals.drop : ∀ {xs : List V} {us : List Value} (n : Nat),Vals xs us → Vals (xs.drop n) (us.drop n)
  | _,_,0,r => r
  | _,_,_ + 1,.nil => .nil
  | _,_,n + 1,.cons _ t => Vals.drop n t
def RelO : Option V → Option Value → Prop
  | some v,some u => RelV v u
  | none,none => True
  | _,_ => False
def KV {κ : Type} : List (κ × V) → List (κ × Value) → Prop:=Paired fun (p : κ × V) (q : κ × Value) => p.1 = q.1 ∧ RelV p.2 q.2
def kV : Key → V
  | .inl i => .int i
  | .inr x => .str x
inductive HO where
  | lst (xs : List V)
  | tup (xs : List V)
  | dK (kvs : List (Key × V)) | dT (kvs : List (List Key × V))
  | set (S : Int → Bool) (n : Nat)
  | ins (C dx : Addr) (fs : List (Str × V))
  | own (x : Addr)
  | xd (fs : List (Str × V))
  | met (f x : Addr)
  | rng (lo hi : Int)
  | frz (o : Obj) (u : HO)
  | tbl (ps : Array Value)
  | lam (pos : Pos) (qual : Str)
  | ext (φ : Heap → Prop)
def kVr (k : Key) (v : V) : Prop:=v = kV k ∨ ∃ b : Bool,v = .bl b ∧ k = .inl (if b then 1 else 0)
abbrev kVs : List Key → List V → Prop:=Paired kVr
def TupKey (H : Addr → Option HO) (b : Addr) (ks : List Key) : Prop := ∃ ws,kVs ks ws ∧ H b = some (.tup ws)
abbrev Hp:=Addr → Option HO
def upd (H : Hp) (a : Addr) (o : HO) : Hp:=fun b => if b = a then some o else H b
theorem upd_same {H : Hp} {a : Addr} {o : HO} : upd H a o a = some o:=by unfold upd; rw [if_pos rfl]
theorem upd_ne {H : Hp} {a b : Addr} {o : HO} (h : b ≠ a) : upd H a o b = H b:=by unfold upd; rw [if_neg h]
theorem upd_upd {H : Hp} {a : Addr} {o u : HO} : upd (upd H a o) a u = upd H a u:=by
  funext b; unfold upd; split <;> rfl
theorem ne_of {H : Hp} {a b : Addr} {o u : HO} (h : H a = some o) (h' : H b = some u) (d : o ≠ u) : a ≠ b:=by
  intro e; subst e; rw [h] at h'; exact d (Option.some.inj h')
theorem ne_of_none {H : Hp} {a b : Addr} {o : HO} (h : H a = some o) (h' : H b = none) : a ≠ b:=by
  intro e; subst e; rw [h] at h'; cases h'
section
variable (P : Program) (w : World)
def ObjOk (H : Hp) (h : Heap) (a : Addr) : HO → Prop
  | .lst xs => xs.length ≤ sizeLine ∧ ∃ (its : List Value) (n : Nat),Vals xs its ∧ h.get? a = some { cls:=.type "list", data:=.seq its.toArray n }
  | .tup xs => xs.length ≤ sizeLine ∧ ∃ its : List Value,Vals xs its ∧ IsTup h a its.toArray ∧ ∃ o,h.get? a = some o ∧ o.dict = none
  | .dK kvs => kvs.length ≤ sizeLine ∧ (a == sysModules) = false ∧ ∃ vs,KV kvs vs ∧ h.DictOf (mixKind P w) a vs
  | .dT kvs => kvs.length ≤ sizeLine ∧ (a == sysModules) = false ∧ ∃ xs : List (List Key × Addr × Value),
      Paired (fun (p : List Key × V) (q : List Key × Addr × Value) => p.1 = q.1 ∧ TupKey H q.2.1 p.1 ∧ RelV p.2 q.2.2) kvs xs ∧
      ∃ o es ep,h.get? a = some o ∧ o.ExactDict ∧ o.data = .dict es ep ∧ es.toList = xs.map (entryOfKey (tupleKind (mixKind P w))) ∧ (xs.map (·.1)).Nodup
  | .set S n => h.SetOf (intKind P w) a S n
  | .ins C dx fs => H dx = some (.own a) ∧ fs.length ≤ 1000 ∧ dx ≠ a ∧ h.get? a = some (PySem.W.instObj C dx) ∧
      ∃ mA,h.Ns1 dx mA ∧ (∀ f,RelO (fs.lookup f) (mA f)) ∧ PySem.Within mA (fs.map (·.1))
  | .own _ => ∃ o,h.get? a = some o
  | .xd fs => ∃ mA,h.Ns1 a mA ∧ ∀ f,RelO (fs.lookup f) (mA f)
  | .rng lo hi => ∃ t u v,h.get? a = some { cls:=.type "range", data:=.fields #[.int lo t,.int hi u,.int 1 v] }
  | .frz o u => h.get? a = some o ∧ ObjOk H h a u
  | .tbl ps => h.get? a = some { cls:=.none,data:=.fields ps }
  | .lam pos qual => ∃ ps,h.get? a = some { cls:=.none,data:=.fields ps } ∧ TriplesOk ps.toList ∧ ∀ cv,codeAmong pos ps.toList = some cv → ∃ c o u vs t,cv = .ref c ∧ H c = some (.frz o u) ∧ o.data = .fields vs ∧ vs[1]? = some (.str qual t)
  | .met f x => h.get? a = some (PySem.W.methodObj (.ref f) (.ref x))
  | .ext φ => φ h ∧ (∃ o,h.get? a = some o) ∧ ∀ h1 h2 : Heap,φ h1 → (∀ o,h1.get? a = some o → h2.get? a = some o) → φ h2
def HOk (H : Hp) (h : Heap) : Prop := ∀ a o,H a = some o → ObjOk P w H h a o
end
section
variable {P : Program} {w : World} {H H' : Hp} {h h' : Heap} {a : Addr} {o : HO}
theorem ObjOk.lt (x : ObjOk P w H h a o) : a < h.objs.size:=by
  cases o with
  | lst xs => obtain ⟨_,_,_,_,e⟩:=x; exact Heap.lt_size e
  | tup xs => obtain ⟨_,_,_,p,_⟩:=x; exact p.lt
  | dK kvs => obtain ⟨_,_,_,_,o,_,_,e,_⟩:=x; exact Heap.lt_size e
  | dT kvs => obtain ⟨_,_,_,_,o,_,_,e,_⟩:=x; exact Heap.lt_size e
  | set S n => obtain ⟨o,_,_,_,e,_⟩:=x; exact Heap.lt_size e
  | ins C dx fs => obtain ⟨_,_,_,e,_⟩:=x; exact Heap.lt_size e
  | own y => obtain ⟨_,e⟩:=x; exact Heap.lt_size e
  | xd fs => obtain ⟨_,⟨_,_,_,e,_⟩,_⟩:=x; exact Heap.lt_size e
  | rng lo hi => obtain ⟨_,_,_,e⟩:=x; exact Heap.lt_size e
  | frz ob u => obtain ⟨e,_⟩:=x; exact Heap.lt_size e
  | tbl ps => exact Heap.lt_size (show h.get? a = some _ from x)
  | lam pos qual => obtain ⟨_,e,_⟩:=x; exact Heap.lt_size e
  | met f y => exact Heap.lt_size (show h.get? a = some _ from x)
  | ext φ => obtain ⟨_,⟨_,e⟩,_⟩:=x; exact Heap.lt_size e
theorem Paired.mapP {α β : Type} {F G : α → β → Prop} : ∀ {l₁ : List α} {l₂ : List β},Paired F l₁ l₂ → (∀ a b,F a b → G a b) → Paired G l₁ l₂
  | _,_,.nil,_ => .nil
  | _,_,.cons r t,f => .cons (f _ _ r) (Paired.mapP t f)
theorem ObjOk.stay (x : ObjOk P w H h a o) (k : ∀ b u,(b = a ∨ H b = some (.own a)) → h.get? b = some u → h'.get? b = some u)
    (ho : ∀ b,H b = some (.own a) → H' b = some (.own a)) (ht : ∀ b xs,H b = some (.tup xs) → H' b = some (.tup xs)) (hz : ∀ b ob u,H b = some (.frz ob u) → H' b = some (.frz ob u)) : ObjOk P w H' h' a o:=by
  induction o with
  | lst xs => obtain ⟨z,its,n,r,e⟩:=x; exact ⟨z,its,n,r,k _ _ (.inl rfl) e⟩
  | tup xs => obtain ⟨z,its,r,⟨ob,e,c⟩,od,e2,d⟩:=x; exact ⟨z,its,r,⟨ob,k _ _ (.inl rfl) e,c⟩,od,k _ _ (.inl rfl) e2,d⟩
  | dK kvs => obtain ⟨z,y,vs,r,ob,es,ep,e,c⟩:=x; exact ⟨z,y,vs,r,ob,es,ep,k _ _ (.inl rfl) e,c⟩
  | dT kvs =>
    obtain ⟨z,y,xs,r,ob,es,ep,e,c⟩:=x
    exact ⟨z,y,xs,Paired.mapP r fun p q z => ⟨z.1,(let ⟨ws,k1,k2⟩:=z.2.1; ⟨ws,k1,ht _ _ k2⟩),z.2.2⟩,ob,es,ep,k _ _ (.inl rfl) e,c⟩
  | set S n => obtain ⟨ob,es,ep,t,e,c⟩:=x; exact ⟨ob,es,ep,t,k _ _ (.inl rfl) e,c⟩
  | ins C dx fs =>
    obtain ⟨d,z,ne,e,mA,⟨od,es,ep,e2,c⟩,r⟩:=x
    exact ⟨ho _ d,z,ne,k _ _ (.inl rfl) e,mA,⟨od,es,ep,k _ _ (.inr d) e2,c⟩,r⟩
  | own y => obtain ⟨ob,e⟩:=x; exact ⟨ob,k _ _ (.inl rfl) e⟩
  | xd fs => obtain ⟨mA,⟨od,es,ep,e,c⟩,r⟩:=x; exact ⟨mA,⟨od,es,ep,k _ _ (.inl rfl) e,c⟩,r⟩
  | rng lo hi => obtain ⟨t,u,v,e⟩:=x; exact ⟨t,u,v,k _ _ (.inl rfl) e⟩
  | frz ob u ih => obtain ⟨e,q⟩:=x; exact ⟨k _ _ (.inl rfl) e,ih q⟩
  | tbl ps =>
    have e : h.get? a = some { cls:=.none,data:=.fields ps }:=x
    show h'.get? a = some { cls:=.none,data:=.fields ps }
    exact k a _ (.inl rfl) e
  | lam pos qual => obtain ⟨ps,e,t,q⟩:=x; exact ⟨ps,k _ _ (.inl rfl) e,t,fun cv z => let ⟨c,o,u,vs,t,q1,q2,q3⟩:=q cv z; ⟨c,o,u,vs,t,q1,hz _ _ _ q2,q3⟩⟩
  | met f y =>
    have e : h.get? a = some (PySem.W.methodObj (.ref f) (.ref y)):=x
    show h'.get? a = some (PySem.W.methodObj (.ref f) (.ref y))
    exact k a _ (.inl rfl) e
  | ext φ => obtain ⟨p,⟨o,e⟩,st⟩:=x; exact ⟨st _ _ p fun o q => k _ _ (.inl rfl) q,⟨o,k _ _ (.inl rfl) e⟩,st⟩
theorem HOk.lt (x : HOk P w H h) (e : H a = some o) : a < h.objs.size:=(x a o e).lt
theorem HOk.fresh (x : HOk P w H h) (e : h.objs.size ≤ a) : H a = none:=by
  cases q : H a with
  | none => rfl
  | some u => exact absurd (Nat.lt_of_lt_of_le (x.lt q) e) (Nat.lt_irrefl _)
theorem HOk.kept (x : HOk P w H h) (k : ∀ b u,h.get? b = some u → h'.get? b = some u) : HOk P w H h':=fun a o e =>
  (x a o e).stay (fun b u _ q => k b u q) (fun _ q => q) (fun _ _ q => q) fun _ _ _ q => q
theorem HOk.laid (x : HOk P w H h) (k : ∀ b u,h.get? b = some u → h'.get? b = some u) (hp : h.objs.size ≤ a) (new : ObjOk P w (upd H a o) h' a o) : HOk P w (upd H a o) h':=fun b u e => by
  have hn:=x.fresh hp
  by_cases hb : b = a
  · subst hb; rw [upd_same] at e; cases e; exact new
  · rw [upd_ne hb] at e
    exact (x b u e).stay (fun c v _ q => k c v q) (fun c q => by rw [upd_ne (ne_of_none q hn)]; exact q) (fun c xs q => by rw [upd_ne (ne_of_none q hn)]; exact q) fun c ob u q => by rw [upd_ne (ne_of_none q hn)]; exact q
end
def Rd (H : Hp) (a : Addr) (u : HO) : Prop:=H a = some u ∨ ∃ o,H a = some (.frz o u)
theorem Rd.ok {P : Program} {w : World} {H : Hp} {h : Heap} {a : Addr} {u : HO} (r : Rd H a u) (x : HOk P w H h) : ObjOk P w H h a u:=by
  rcases r with r | ⟨o,r⟩
  · exact x a u r
  · obtain ⟨_,q⟩:=x a _ r
    exact q
def Mut : Option HO → Prop
  | some (.lst _) => True
  | some (.dK _) => True
  | some (.dT _) => True
  | some (.set _ _) => True
  | some (.ins _ _ _) => True
  | some (.ext _) => True
  | some (.lam _ _) => True
  | _ => False
section
variable {P : Program} {w : World} {H : Hp} {h h' : Heap} {x e : Addr} {o' : HO}
theorem HOk.write (ok : HOk P w H h) (mu : Mut (H x)) (he : e = x ∨ H e = some (.own x)) (k : ∀ b u,b ≠ e → h.get? b = some u → h'.get? b = some u) (heo : ∃ u,h'.get? e = some u)
    (new : ObjOk P w (upd H x o') h' x o') : HOk P w (upd H x o') h':=fun b u q => by
  have nown : ∀ c y,H c = some (.own y) → c ≠ x:=fun c y r z => by subst z; rw [r] at mu; exact mu
  have ntup : ∀ c xs,H c = some (.tup xs) → c ≠ x:=fun c xs r z => by subst z; rw [r] at mu; exact mu
  have nfrz : ∀ c ob u,H c = some (.frz ob u) → c ≠ x:=fun c ob u r z => by subst z; rw [r] at mu; exact mu
  by_cases hb : b = x
  · subst hb; rw [upd_same] at q; cases q; exact new
  · rw [upd_ne hb] at q
    by_cases hbe : b = e
    · have q' : H b = some (.own x):=by
        rcases he with z | z
        · exact absurd (hbe.trans z) hb
        · rw [hbe]; exact z
      rw [q] at q'; cases q'
      obtain ⟨v,hv⟩:=heo
      exact ⟨v,by rw [hbe]; exact hv⟩
    · refine (ok b u q).stay (fun c v hc r => k c v ?_ r) (fun c r => by rw [upd_ne (nown c b r)]; exact r) (fun c xs r => by rw [upd_ne (ntup c xs r)]; exact r) fun c ob u r => by rw [upd_ne (nfrz c ob u r)]; exact r
      rcases hc with rfl | hc
      · exact hbe
      · rintro rfl
        rcases he with z | z
        · exact nown c b hc z
        · rw [hc] at z; cases z; exact hb rfl
end
structure Un (fs ex : List Addr) (H H' : Hp) (h h' : Heap) : Prop where
  keep : ∀ b o,h.get? b = some o → H b = none → b ∉ fs → b ∉ ex → h'.get? b = some o
  slot : ∀ b o,h.get? b = some o → H b = none → b ∈ fs → b ∉ ex → ∃ sl,h'.get? b = some { o with slots:=sl }
  free : ∀ b o,h.get? b = some o → H b = none → b ∉ ex → H' b = none
  there : ∀ b o,h.get? b = some o → b ∉ ex → ∃ o',h'.get? b = some o'
  tups : ∀ b xs,H b = some (.tup xs) → H' b = some (.tup xs)
  frzs : ∀ b o u,H b = some (.frz o u) → H' b = some (.frz o u)
  tbls : ∀ b ps,H b = some (.tbl ps) → ∃ more,H' b = some (.tbl (ps ++ more))
section
variable {fs fs' ex ex' : List Addr} {H H1 H2 : Hp} {h h1 h2 h' : Heap} {a x e : Addr} {o : HO}
theorem Un.any (u : Un fs ex H H1 h h1) {b : Addr} {ob : Obj} (q : h.get? b = some ob) (n : H b = none) (hx : b ∉ ex) : ∃ sl,h1.get? b = some { ob with slots:=sl }:=by
  by_cases hb : b ∈ fs
  · exact u.slot b ob q n hb hx
  · exact ⟨ob.slots,u.keep b ob q n hb hx⟩
theorem Un.kept (k : ∀ b u,h.get? b = some u → h'.get? b = some u) : Un fs ex H H h h' :=
  ⟨fun b ob q _ _ _ => k b ob q,fun b ob q _ _ _ => ⟨ob.slots,k b ob q⟩,fun _ _ _ n _ => n,fun b ob q _ => ⟨ob,k b ob q⟩,fun _ _ q => q,fun _ _ _ q => q,fun _ ps q => ⟨#[],by rw [q]; simp⟩⟩
theorem Un.refl : Un fs ex H H h h:=Un.kept fun _ _ q => q
theorem Un.laid (k : ∀ b u,h.get? b = some u → h'.get? b = some u) (hp : h.objs.size ≤ a) (hn : H a = none) : Un fs ex H (upd H a o) h h' where
  keep:=fun b u q _ _ _ => k b u q
  slot:=fun b u q _ _ _ => ⟨u.slots,k b u q⟩
  free:=fun b u q n _ => by rw [upd_ne (Nat.ne_of_lt (Nat.lt_of_lt_of_le (Heap.lt_size q) hp))]; exact n
  there:=fun b u q _ => ⟨u,k b u q⟩
  tups:=fun b xs q => by rw [upd_ne (ne_of_none q hn)]; exact q
  frzs:=fun b u xs q => by rw [upd_ne (ne_of_none q hn)]; exact q
  tbls:=fun b ps q => ⟨#[],by rw [upd_ne (ne_of_none q hn),q]; simp⟩
theorem Un.write (mu : Mut (H x)) (he : e = x ∨ H e = some (.own x)) (k : ∀ b u,b ≠ e → h.get? b = some u → h'.get? b = some u) (heo : ∃ u,h'.get? e = some u) : Un fs ex H (upd H x o) h h':=by
  have hx : ∀ b,H b = none → b ≠ x:=fun b n z => by subst z; rw [n] at mu; exact mu
  have hb : ∀ b,H b = none → b ≠ e:=fun b n z => by
    subst z
    rcases he with r | r
    · exact hx b n r
    · rw [n] at r; cases r
  have hm : ∀ b u,H b = some u → ¬ Mut (some u) → b ≠ x:=fun b u q nm z => by subst z; rw [q] at mu; exact nm mu
  refine ⟨fun b u q n _ _ => k b u (hb b n) q,fun b u q n _ _ => ⟨u.slots,k b u (hb b n) q⟩,fun b u q n _ => by rw [upd_ne (hx b n)]; exact n,fun b u q _ => ?_,
    fun b xs q => by rw [upd_ne (hm b _ q fun z => z)]; exact q,fun b u xs q => by rw [upd_ne (hm b _ q fun z => z)]; exact q,fun b ps q => ⟨#[],by rw [upd_ne (hm b _ q fun z => z),q]; simp⟩⟩
  by_cases hbe : b = e
  · subst hbe; exact heo
  · exact ⟨u,k b u hbe q⟩
end
def trk (h : Heap) (H : Hp) : List Addr:=(List.range h.objs.size).filter fun a => (H a).isSome
def hidT (h : Heap) (H : Hp) : Heap:=PySem.W.hideAll h (trk h H)
theorem hidT_size (h : Heap) (H : Hp) : (hidT h H).objs.size = h.objs.size:=PySem.W.hideAll_size _ _
theorem hidT_get {h : Heap} {H : Hp} {b : Addr} {o : Obj} (e : h.get? b = some o) (n : H b = none) : (hidT h H).get? b = some o :=
  PySem.W.hideAll_get _ e fun hm => by
    have q : (H b).isSome = true:=(List.mem_filter.mp hm).2
    rw [n] at q; simp at q
theorem of_hidT {h : Heap} {H : Hp} {b : Addr} {o : Obj} (e : (hidT h H).get? b = some o) : h.get? b = some o ∧ H b = none:=by
  have e' : h.get? b = some o:=PySem.W.of_hideAll (trk h H) e
  refine ⟨e',?_⟩
  cases q : H b with
  | none => rfl
  | some x =>
    have hm : b ∈ trk h H:=List.mem_filter.mpr ⟨List.mem_range.mpr (Heap.lt_size e'),by simp [q]⟩
    have z : (hidT h H).get? b = none:=PySem.W.hideAll_none (trk h H) hm
    rw [z] at e; cases e
structure Mod (K : PySem.W.Frag) (mg : Str → Option Value) (base : Heap) : Prop where
  kin : K.In base
  glob : base.Ns mainGlobals mg
  blt : ∃ mb,base.Ns builtinsNs mb ∧ ∀ x : Str,x ≠ "__name__" → mb x = bootBuiltins x
  nolimit : base.NoLimit
structure Cx where
  prog : Program
  w : World
  K : PySem.W.Frag
  mg : Str → Option Value
  base : Heap
  A : Around
  N : List Str
  s₀ : Shared
  H₀ : Hp
  env : Env
  outer : List Env
  stack : List Env
  ex : List Addr
  fn : Str → Bool
  calm : Bool
  pn : List (Addr × Obj)
  xe : Value → Shared → Prop
def frs (l : List Env) : List Addr:=l.filterMap (·.frame)
abbrev Cx.fs (X : Cx) : List Addr:=frs X.outer
def Vis (sc : Scope) (x : Str) : Prop:=sc.names.lookup x = some .local ∨ sc.names.lookup x = some .cell ∨ sc.names.lookup x = some .free
def Loc (sc : Scope) (x : Str) : Prop:=sc.names.lookup x = some .local ∨ sc.names.lookup x = some .cell
def Look (env : Env) (h : Heap) (m : Str → Option Value) (x : Str) (u : Value) : Prop :=
  (env.kindOf x = some .local ∧ m x = some u) ∨ ((env.kindOf x = some .cell ∨ env.kindOf x = some .free) ∧ ∃ c,env.cells.lookup x = some c ∧ h.IsCell c (some u))
structure Cx.Ok (X : Cx) : Prop where
  mod : Mod X.K X.mg X.base
  kind : X.env.scope.kind = .function
  glob : X.env.globals = mainGlobals
  blt : X.env.builtins = builtinsNs
  above : X.s₀.heap.objs.size ≤ X.env.locals
  inj : ∀ x y c,X.env.cells.lookup x = some c → X.env.cells.lookup y = some c → x = y
  has : ∀ x,(X.env.kindOf x = some .cell ∨ X.env.kindOf x = some .free) → ∃ c,X.env.cells.lookup x = some c
  cab : ∀ x c,X.fn x = true → X.env.cells.lookup x = some c → X.s₀.heap.objs.size ≤ c
  hd : X.calm = true → X.A.handled = none
  frames : X.A.frames = some X.stack
  stk : X.stack = X.outer ∨ (X.stack = X.env :: X.outer ∧ X.env.frame = some X.env.locals)
  exf : ∀ b ∈ X.ex,b ≠ X.env.locals ∧ ∀ x c,X.env.cells.lookup x = some c → c ≠ b
  bs : ∀ b o,X.base.get? b = some o → X.s₀.heap.get? b = some o ∧ X.H₀ b = none
  bsz : X.base.objs.size ≤ X.s₀.heap.objs.size
  noex : ∀ b o,X.base.get? b = some o → b ∉ X.ex
  exfs : ∀ b ∈ X.ex,b ∉ X.fs
  funs : X.s₀.heap.FunFrames X.base X.outer
  frf : ∀ b ∈ X.fs,X.H₀ b = none
structure Inv (X : Cx) (pins : List (Addr × Obj)) (σ : List (Option V)) (H : Hp) (s : Shared) : Prop where
  ok : X.Ok
  os : s.os = X.s₀.os
  bare : AllBare s.gens
  base : Un X.fs X.ex X.H₀ H X.s₀.heap s.heap
  loc : ∃ m,s.heap.Ns X.env.locals m ∧ ∀ (i : Nat) (x : Str) (v : V),X.N[i]? = some x → σ[i]? = some (some v) → Vis X.env.scope x → ∃ u,RelV v u ∧ Look X.env s.heap m x u
  cell : ∀ x c,X.env.cells.lookup x = some c → ∃ v,s.heap.IsCell c v
  free : H X.env.locals = none
  freeC : ∀ x c,X.env.cells.lookup x = some c → H c = none
  pin : ∀ p ∈ X.pn ++ pins,s.heap.get? p.1 = some p.2 ∧ H p.1 = none ∧ p.1 ≠ X.env.locals ∧ p.1 ∉ X.fs ∧ ∀ v,p.2.data ≠ .cell v
  hok : HOk X.prog X.w H s.heap
  len : σ.length = X.N.length
section
variable {X : Cx} {pins : List (Addr × Obj)} {σ : List (Option V)} {H H' : Hp} {s : Shared} {h' : Heap}
theorem Cx.Ok.nofr (ok : X.Ok) {b : Addr} {o : Obj} (e : X.base.get? b = some o) : b ∉ X.fs:=fun hb => by
  have:=(ok.funs.mem hb).1
  rw [e] at this; cases this
theorem Inv.bs (I : Inv X pins σ H s) : ∀ b o,X.base.get? b = some o → s.heap.get? b = some o ∧ H b = none:=fun b o e =>
  ⟨I.base.keep b o (I.ok.bs b o e).1 (I.ok.bs b o e).2 (I.ok.nofr e) (I.ok.noex b o e),I.base.free b o (I.ok.bs b o e).1 (I.ok.bs b o e).2 (I.ok.noex b o e)⟩
theorem Inv.bk (I : Inv X pins σ H s) : ∀ b o,X.base.get? b = some o → s.heap.get? b = some o:=fun b o e => (I.bs b o e).1
theorem Inv.mod (I : Inv X pins σ H s) : Mod X.K X.mg X.base:=I.ok.mod
theorem Inv.kIn (I : Inv X pins σ H s) : X.K.In s.heap:=I.ok.mod.kin.keeps I.bk
theorem Inv.lt (I : Inv X pins σ H s) : X.env.locals < s.heap.objs.size:=let ⟨_,hn,_⟩:=I.loc; hn.lt
theorem Inv.sz (I : Inv X pins σ H s) : X.s₀.heap.objs.size ≤ s.heap.objs.size:=Nat.le_trans I.ok.above (Nat.le_of_lt I.lt)
theorem Inv.nofs (I : Inv X pins σ H s) {a : Addr} (h : s.heap.objs.size ≤ a) : a ∉ X.fs:=fun hb => by
  obtain ⟨_,o,ho,_⟩:=I.ok.funs.mem hb
  exact absurd (Nat.lt_of_lt_of_le (Heap.lt_size ho) (Nat.le_trans I.sz h)) (Nat.lt_irrefl _)
theorem Inv.cne (I : Inv X pins σ H s) : ∀ x c,X.env.cells.lookup x = some c → c ≠ X.env.locals:=fun x c e z => by
  obtain ⟨v,o,ho,hd⟩:=I.cell x c e
  obtain ⟨m,⟨o',es,ep,ho',hd',_⟩,_⟩:=I.loc
  rw [z,ho'] at ho; cases ho; rw [hd'] at hd; cases hd
theorem Inv.funs (I : Inv X pins σ H s) : s.heap.FunFrames X.base X.outer:=by
  have all : ∀ (l : List Env),(∀ b ∈ frs l,b ∈ X.fs) → X.s₀.heap.FunFrames X.base l → s.heap.FunFrames X.base l:=by
    intro l
    induction l with
    | nil => intro _ _; trivial
    | cons env r ih =>
      intro hs hl
      obtain ⟨hk,⟨L,o,hf,hn,ho,hd⟩,hr⟩:=hl
      have hL : L ∈ X.fs:=hs L (by unfold frs; rw [List.filterMap_cons,hf]; exact List.mem_cons_self)
      obtain ⟨sl,e⟩:=I.base.slot L o ho (I.ok.frf L hL) hL fun z => I.ok.exfs L z hL
      exact ⟨hk,⟨L,_,hf,hn,e,hd⟩,ih (fun b hb => hs b (by unfold frs; rw [List.filterMap_cons,hf]; exact List.mem_cons_of_mem _ hb)) hr⟩
  exact all X.outer (fun _ hb => hb) I.ok.funs
theorem Inv.stack (I : Inv X pins σ H s) : s.heap.FunFrames X.base X.stack:=by
  rcases I.ok.stk with e | ⟨e,hf⟩
  · rw [e]; exact I.funs
  · rw [e]
    obtain ⟨m,hn,_⟩:=I.loc
    refine .cons (by rw [I.ok.kind]; decide) hf hn ?_ I.funs
    exact Heap.get?_none_of_le (Nat.le_trans I.ok.bsz I.ok.above)
theorem Inv.stkSub (I : Inv X pins σ H s) : ∀ b ∈ frs X.stack,b ∈ X.env.locals :: X.fs:=fun b hb => by
  rcases I.ok.stk with e | ⟨e,hf⟩
  · rw [e] at hb; exact List.mem_cons_of_mem _ hb
  · rw [e] at hb
    unfold frs at hb
    rw [List.filterMap_cons,hf] at hb
    exact hb
theorem Inv.stkFree (I : Inv X pins σ H s) : ∀ b ∈ frs X.stack,H b = none:=fun b hb => by
  rcases List.mem_cons.mp (I.stkSub b hb) with e | hb
  · rw [e]; exact I.free
  · obtain ⟨_,o,ho,_⟩:=I.ok.funs.mem hb
    exact I.base.free b o ho (I.ok.frf b hb) fun z => I.ok.exfs b z hb
theorem Inv.step {g' : Array GenState} {t' : Nat} {d' : Drawn} {ch : List Addr} (I : Inv X pins σ H s)
    (hch : ∀ b ∈ ch,(b ∈ X.ex ∨ X.s₀.heap.objs.size ≤ b) ∧ b ≠ X.env.locals ∧ (∀ x c,X.env.cells.lookup x = some c → c ≠ b) ∧ ∀ p ∈ X.pn ++ pins,p.1 ≠ b)
    (keep : ∀ b o,b ≠ X.env.locals → b ∉ X.fs → b ∉ ch → s.heap.get? b = some o → H b = none → h'.get? b = some o)
    (slot : ∀ b o,b ≠ X.env.locals → b ∈ X.fs → b ∉ ch → s.heap.get? b = some o → H b = none → ∃ sl,h'.get? b = some { o with slots:=sl }) (free : ∀ b o,b ∉ ch → s.heap.get? b = some o → H b = none → H' b = none)
    (there : ∀ b o,b ∉ ch → s.heap.get? b = some o → ∃ o',h'.get? b = some o')
    (tups : ∀ b xs,H b = some (.tup xs) → H' b = some (.tup xs)) (frzs : ∀ b o u,H b = some (.frz o u) → H' b = some (.frz o u)) (tbls : ∀ b ps,H b = some (.tbl ps) → ∃ more,H' b = some (.tbl (ps ++ more)))
    (ns : ∀ m,s.heap.Ns X.env.locals m → h'.Ns X.env.locals m) (hok : HOk X.prog X.w H' h') (hg : AllBare g') :
    Inv X pins σ H' { s with heap:=h',gens:=g',drawn:=d',toks:=t' }:=by
  have neL : ∀ b o,X.s₀.heap.get? b = some o → b ≠ X.env.locals:=fun b o e => Nat.ne_of_lt (Nat.lt_of_lt_of_le (Heap.lt_size e) I.ok.above)
  have neC : ∀ b o,X.s₀.heap.get? b = some o → b ∉ X.ex → b ∉ ch:=fun b o e hx hb => by
    rcases (hch b hb).1 with z | z
    · exact hx z
    · exact absurd (Nat.lt_of_lt_of_le (Heap.lt_size e) z) (Nat.lt_irrefl _)
  have cellK : ∀ x c,X.env.cells.lookup x = some c → ∀ v,s.heap.IsCell c v → h'.IsCell c v:=fun x c e v ⟨o,ho,hd⟩ => by
    have nch : c ∉ ch:=fun z => (hch c z).2.2.1 x c e rfl
    by_cases hc : c ∈ X.fs
    · obtain ⟨sl,q⟩:=slot c o (I.cne x c e) hc nch ho (I.freeC x c e)
      exact ⟨_,q,hd⟩
    · exact ⟨o,keep c o (I.cne x c e) hc nch ho (I.freeC x c e),hd⟩
  refine ⟨I.ok,I.os,hg,⟨fun b o e n hb hx => ?_,fun b o e n hb hx => ?_,fun b o e n hx => ?_,fun b o e hx => ?_,fun b xs e => tups b xs (I.base.tups b xs e),fun b o xs e => frzs b o xs (I.base.frzs b o xs e),fun b ps e => ?_⟩,?_,fun x c e => ?_,?_,fun x c e => ?_,fun p hp => ?_,hok,I.len⟩
  · exact keep b o (neL b o e) hb (neC b o e hx) (I.base.keep b o e n hb hx) (I.base.free b o e n hx)
  · obtain ⟨sl,e1⟩:=I.base.slot b o e n hb hx
    obtain ⟨sl',e2⟩:=slot b _ (neL b o e) hb (neC b o e hx) e1 (I.base.free b o e n hx)
    exact ⟨sl',e2⟩
  · obtain ⟨o',e1⟩:=I.base.there b o e hx
    exact free b o' (neC b o e hx) e1 (I.base.free b o e n hx)
  · obtain ⟨o',e1⟩:=I.base.there b o e hx
    exact there b o' (neC b o e hx) e1
  · obtain ⟨m1,e1⟩:=I.base.tbls b ps e
    obtain ⟨m2,e2⟩:=tbls b _ e1
    exact ⟨m1 ++ m2,by rw [e2,Array.append_assoc]⟩
  · obtain ⟨m,hn,hl⟩:=I.loc
    refine ⟨m,ns m hn,fun i x v e1 e2 e3 => ?_⟩
    obtain ⟨u,r,l⟩:=hl i x v e1 e2 e3
    refine ⟨u,r,?_⟩
    rcases l with l | ⟨k,c,e,z⟩
    · exact .inl l
    · exact .inr ⟨k,c,e,cellK x c e _ z⟩
  · obtain ⟨v,z⟩:=I.cell x c e
    exact ⟨v,cellK x c e v z⟩
  · obtain ⟨m,⟨o,_,_,ho,_⟩,_⟩:=I.loc
    exact free _ o (fun z => (hch _ z).2.1 rfl) ho I.free
  · obtain ⟨v,o,ho,hd⟩:=I.cell x c e
    exact free c o (fun z => (hch c z).2.2.1 x c e rfl) ho (I.freeC x c e)
  · obtain ⟨e,n,ne,nf,d⟩:=I.pin p hp
    have nch : p.1 ∉ ch:=fun z => (hch p.1 z).2.2.2 p hp rfl
    exact ⟨keep p.1 p.2 ne nf nch e n,free p.1 p.2 nch e n,ne,nf,d⟩
theorem Inv.un {t' : Nat} (I : Inv X pins σ H s) (u : Un X.fs [] H H' s.heap h') (hok : HOk X.prog X.w H' h') : Inv X pins σ H' { s with heap:=h',toks:=t' }:=by
  obtain ⟨m,⟨o,es,ep,ho,r⟩,_⟩:=id I.loc
  obtain ⟨sl,hL⟩:=u.any ho I.free (by simp)
  exact I.step (g':=s.gens) (d':=s.drawn) (ch:=[]) (fun _ z => nomatch z) (fun b o _ hb _ e n => u.keep b o e n hb (by simp)) (fun b o _ hb _ e n => u.slot b o e n hb (by simp)) (fun b o _ e n => u.free b o e n (by simp)) (fun b o _ e => u.there b o e (by simp)) u.tups u.frzs u.tbls (fun m' hm => by
    obtain ⟨o',es',ep',ho',r'⟩:=hm
    rw [ho] at ho'; cases ho'
    exact ⟨_,es',ep',hL,r'⟩) hok I.bare
theorem Inv.call {g' : Array GenState} {t' : Nat} {d' : Drawn} {ch : List Addr} (I : Inv X pins σ H s) (u : Un (frs X.stack) ch H H' s.heap h') (hok : HOk X.prog X.w H' h') (hg : AllBare g')
    (hch : ∀ b ∈ ch,(b ∈ X.ex ∨ X.s₀.heap.objs.size ≤ b) ∧ b ≠ X.env.locals ∧ (∀ x c,X.env.cells.lookup x = some c → c ≠ b) ∧ ∀ p ∈ X.pn ++ pins,p.1 ≠ b) :
    Inv X pins σ H' { s with heap:=h',gens:=g',drawn:=d',toks:=t' }:=by
  obtain ⟨m,⟨o,es,ep,ho,r⟩,_⟩:=id I.loc
  obtain ⟨sl,hL⟩:=u.any ho I.free fun z => (hch _ z).2.1 rfl
  exact I.step (ch:=ch) hch (fun b o hL hb hc e n => u.keep b o e n (fun z => (List.mem_cons.mp (I.stkSub b z)).elim hL hb) hc) (fun b o _ _ hc e n => u.any e n hc) (fun b o hc e n => u.free b o e n hc) (fun b o hc e => u.there b o e hc) u.tups u.frzs u.tbls (fun m' hm => by
    obtain ⟨o',es',ep',ho',r'⟩:=hm
    rw [ho] at ho'; cases ho'
    exact ⟨_,es',ep',hL,r'⟩) hok hg
theorem Inv.turned {t' : Nat} {it : Addr} (I : Inv X pins σ H s) (k : ∀ b o,b ≠ it → s.heap.get? b = some o → h'.get? b = some o) (hn : H it = none) (hL : it ≠ X.env.locals)
    (h1 : it ∈ X.ex ∨ X.s₀.heap.objs.size ≤ it) (h2 : ∀ x c,X.env.cells.lookup x = some c → c ≠ it) (h3 : ∀ p ∈ X.pn ++ pins,p.1 ≠ it) : Inv X pins σ H { s with heap:=h',toks:=t' }:=by
  have nit : ∀ b u,H b = some u → b ≠ it:=fun b u e z => by rw [z,hn] at e; cases e
  refine I.step (g':=s.gens) (d':=s.drawn) (ch:=[it]) (fun b hb => ?_) (fun b o _ _ hc e _ => k b o (fun z => hc (by simp [z])) e) (fun b o _ _ hc e _ => ⟨o.slots,k b o (fun z => hc (by simp [z])) e⟩) (fun _ _ _ _ n => n)
    (fun b o hc e => ⟨o,k b o (fun z => hc (by simp [z])) e⟩) (fun _ _ e => e) (fun _ _ _ e => e) (fun b ps e => ⟨#[],by rw [e]; simp⟩) (fun m hm => ?_) (fun b u e => ?_) I.bare
  · have e : b = it:=by simpa using hb
    subst e
    exact ⟨h1,hL,h2,h3⟩
  · obtain ⟨o,es,ep,ho,r⟩:=hm
    exact ⟨o,es,ep,k _ o (Ne.symm hL) ho,r⟩
  · refine (I.hok b u e).stay (fun c v hc q => k c v ?_ q) (fun _ q => q) (fun _ _ q => q) fun _ _ _ q => q
    rcases hc with z | z
    · rw [z]; exact nit b u e
    · exact nit c _ z
theorem Inv.tok (I : Inv X pins σ H s) (t : Nat) : Inv X pins σ H { s with toks:=t }:=I.un (h':=s.heap) (t':=t) Un.refl I.hok
theorem Inv.kept {t' : Nat} (I : Inv X pins σ H s) (k : ∀ b u,s.heap.get? b = some u → h'.get? b = some u) : Inv X pins σ H { s with heap:=h',toks:=t' }:=I.un (Un.kept k) (I.hok.kept k)
theorem Inv.laid {a : Addr} {o : HO} {t' : Nat} (I : Inv X pins σ H s) (k : ∀ b u,s.heap.get? b = some u → h'.get? b = some u) (hp : s.heap.objs.size ≤ a) (new : ObjOk X.prog X.w (upd H a o) h' a o) :
    Inv X pins σ (upd H a o) { s with heap:=h',toks:=t' }:=I.un (Un.laid k hp (I.hok.fresh hp)) (I.hok.laid k hp new)
theorem Inv.write {x e : Addr} {o : HO} {t' : Nat} (I : Inv X pins σ H s) (mu : Mut (H x)) (he : e = x ∨ H e = some (.own x)) (k : ∀ b u,b ≠ e → s.heap.get? b = some u → h'.get? b = some u) (heo : ∃ u,h'.get? e = some u)
    (new : ObjOk X.prog X.w (upd H x o) h' x o) : Inv X pins σ (upd H x o) { s with heap:=h',toks:=t' }:=I.un (Un.write mu he k heo) (I.hok.write mu he k heo new)
theorem Inv.weak {σ' : List (Option V)} (I : Inv X pins σ H s) (hl : σ'.length = σ.length) (w : ∀ (i : Nat) v,σ'[i]? = some (some v) → σ[i]? = some (some v)) : Inv X pins σ' H s :=
  ⟨I.ok,I.os,I.bare,I.base,let ⟨m,hn,hl'⟩:=I.loc; ⟨m,hn,fun i x v e1 e2 e3 => hl' i x v e1 (w i v e2) e3⟩,I.cell,I.free,I.freeC,I.pin,I.hok,hl.trans I.len⟩
theorem Inv.pins_of {pins' : List (Addr × Obj)} (I : Inv X pins σ H s) (h : ∀ p ∈ pins',s.heap.get? p.1 = some p.2 ∧ H p.1 = none ∧ p.1 ≠ X.env.locals ∧ p.1 ∉ X.fs ∧ ∀ v,p.2.data ≠ .cell v) : Inv X pins' σ H s :=
  ⟨I.ok,I.os,I.bare,I.base,I.loc,I.cell,I.free,I.freeC,fun p hp => (List.mem_append.mp hp).elim (fun z => I.pin p (List.mem_append_left _ z)) (h p),I.hok,I.len⟩
theorem nodup_ix {N : List Str} (hN : N.Nodup) {i j : Nat} {x : Str} (a : N[i]? = some x) (b : N[j]? = some x) : i = j:=by
  obtain ⟨h1,e1⟩:=List.getElem?_eq_some_iff.mp a
  obtain ⟨h2,e2⟩:=List.getElem?_eq_some_iff.mp b
  exact (List.getElem_inj hN).mp (e1.trans e2.symm)
theorem store_ok2 {M : Model} {A : Around} {E : Value → Shared → Prop} {i : Nat} {x : Str} {v : V} {u : Value} {Q : Unit → Shared → Prop} (I : Inv X pins σ H s) (hN : X.N.Nodup) (hi : X.N[i]? = some x) (hx : Loc X.env.scope x) (r : RelV v u)
    (h : ∀ s',Inv X pins (σ.set i (some v)) H s' → (∃ a,Heap.SameBut a s.heap s'.heap ∧ (a = X.env.locals ∨ X.env.cells.lookup x = some a)) → Q () s') (hf : X.fn x = true ∨ X.env.scope.names.lookup x = some .local:=by first | exact .inl rfl | exact .inr rfl | assumption) : wpAny M A (storeName X.env x u) Q E s:=by
  obtain ⟨m,hn,hl⟩:=id I.loc
  have hcls : (X.env.scope.kind == .class || (X.env.scope.kind == .module && X.env.locals != X.env.globals)) = false:=by rw [I.ok.kind]; rfl
  have hiσ : i < σ.length:=by rw [I.len]; exact (List.getElem?_eq_some_iff.mp hi).1
  have cne:=I.cne
  have tracked : ∀ {a : Addr} {h' : Heap},(∃ o,s.heap.get? a = some o ∧ H a = none) → Heap.SameBut a s.heap h' → HOk X.prog X.w H h':=fun {a h'} ha hs b ob e => by
    obtain ⟨_,_,hfree⟩:=ha
    refine (I.hok b ob e).stay (fun c w' hc q => (hs.2 c ?_).trans q) (fun _ q => q) (fun _ _ q => q) fun _ _ _ q => q
    rintro rfl
    rcases hc with rfl | hc
    · rw [hfree] at e; cases e
    · rw [hfree] at hc; cases hc
  rcases hx with hk | hk
  · refine wpAny_storeName_local hk hn (fun h' hn' hs => ?_) hcls
    obtain ⟨oL,_,_,hoL,_⟩:=id hn
    refine h _ ⟨I.ok,I.os,I.bare,⟨fun b o e n hb hx => ?_,fun b o e n hb hx => ?_,I.base.free,fun b o e hx => ?_,I.base.tups,I.base.frzs,I.base.tbls⟩,⟨_,hn',fun j y v' e1 e2 e3 => ?_⟩,fun y c e => ?_,I.free,I.freeC,fun p hp => ?_,tracked ⟨oL,hoL,I.free⟩ hs,by simpa using I.len⟩ ⟨_,hs,.inl rfl⟩
    · exact (hs.2 b (Nat.ne_of_lt (Nat.lt_of_lt_of_le (Heap.lt_size e) I.ok.above))).trans (I.base.keep b o e n hb hx)
    · obtain ⟨sl,e1⟩:=I.base.slot b o e n hb hx
      exact ⟨sl,(hs.2 b (Nat.ne_of_lt (Nat.lt_of_lt_of_le (Heap.lt_size e) I.ok.above))).trans e1⟩
    · obtain ⟨o',e1⟩:=I.base.there b o e hx
      exact ⟨o',(hs.2 b (Nat.ne_of_lt (Nat.lt_of_lt_of_le (Heap.lt_size e) I.ok.above))).trans e1⟩
    · by_cases hj : j = i
      · subst hj
        rw [hi] at e1; cases e1
        rw [List.getElem?_set_self hiσ] at e2
        cases e2
        exact ⟨u,r,.inl ⟨hk,by simp⟩⟩
      · rw [List.getElem?_set_ne (Ne.symm hj)] at e2
        obtain ⟨u',r',q⟩:=hl j y v' e1 e2 e3
        refine ⟨u',r',?_⟩
        rcases q with ⟨k,e⟩ | ⟨k,c,e,z⟩
        · refine .inl ⟨k,?_⟩
          have : y ≠ x:=fun e => hj (nodup_ix hN e1 (e ▸ hi))
          simp [this,e]
        · exact .inr ⟨k,c,e,z.sameBut hs (cne y c e)⟩
    · obtain ⟨w',z⟩:=I.cell y c e
      exact ⟨w',z.sameBut hs (cne y c e)⟩
    · obtain ⟨e,n,ne,nf,d⟩:=I.pin p hp
      exact ⟨(hs.2 p.1 ne).trans e,n,ne,nf,d⟩
  · have hfn : X.fn x = true:=by
      rcases hf with z | z
      · exact z
      · rw [z] at hk; cases hk
    obtain ⟨c,hc⟩:=I.ok.has x (.inl hk)
    obtain ⟨w',z⟩:=I.cell x c hc
    refine wpAny_storeName_cell I.ok.kind hk hc z (fun h' hc' hs => ?_)
    obtain ⟨oc,hoc,hocd⟩:=id z
    refine h { s with heap:=h' } ⟨I.ok,I.os,I.bare,⟨fun b o e n hb hx => ?_,fun b o e n hb hx => ?_,I.base.free,fun b o e hx => ?_,I.base.tups,I.base.frzs,I.base.tbls⟩,⟨m,hn.sameBut hs (Ne.symm (cne x c hc)),fun j y v' e1 e2 e3 => ?_⟩,fun y c' e => ?_,I.free,I.freeC,fun p hp => ?_,tracked ⟨oc,hoc,I.freeC x c hc⟩ hs,by simpa using I.len⟩ ⟨c,hs,.inr hc⟩
    · exact (hs.2 b (Nat.ne_of_lt (Nat.lt_of_lt_of_le (Heap.lt_size e) (I.ok.cab x c hfn hc)))).trans (I.base.keep b o e n hb hx)
    · obtain ⟨sl,e1⟩:=I.base.slot b o e n hb hx
      exact ⟨sl,(hs.2 b (Nat.ne_of_lt (Nat.lt_of_lt_of_le (Heap.lt_size e) (I.ok.cab x c hfn hc)))).trans e1⟩
    · obtain ⟨o',e1⟩:=I.base.there b o e hx
      exact ⟨o',(hs.2 b (Nat.ne_of_lt (Nat.lt_of_lt_of_le (Heap.lt_size e) (I.ok.cab x c hfn hc)))).trans e1⟩
    · by_cases hj : j = i
      · subst hj
        rw [hi] at e1; cases e1
        rw [List.getElem?_set_self hiσ] at e2
        cases e2
        exact ⟨u,r,.inr ⟨.inl hk,c,hc,hc'⟩⟩
      · rw [List.getElem?_set_ne (Ne.symm hj)] at e2
        obtain ⟨u',r',q⟩:=hl j y v' e1 e2 e3
        refine ⟨u',r',?_⟩
        rcases q with q | ⟨k,c',e,z'⟩
        · exact .inl q
        · refine .inr ⟨k,c',e,z'.sameBut hs ?_⟩
          rintro rfl
          exact hj (nodup_ix hN e1 (I.ok.inj _ _ _ e hc ▸ hi))
    · by_cases hcc : c' = c
      · subst hcc; exact ⟨_,hc'⟩
      · obtain ⟨w2,z2⟩:=I.cell y c' e
        exact ⟨w2,z2.sameBut hs hcc⟩
    · obtain ⟨e,n,ne,nf,d⟩:=I.pin p hp
      refine ⟨(hs.2 p.1 ?_).trans e,n,ne,nf,d⟩
      intro q
      rw [q,hoc] at e
      have q' : oc = p.2:=Option.some.inj e
      exact d w' (by rw [← q']; exact hocd)
theorem store_ok {M : Model} {A : Around} {E : Value → Shared → Prop} {i : Nat} {x : Str} {v : V} {u : Value} {Q : Unit → Shared → Prop} (I : Inv X pins σ H s) (hN : X.N.Nodup) (hi : X.N[i]? = some x) (hx : Loc X.env.scope x) (r : RelV v u)
    (h : ∀ s',Inv X pins (σ.set i (some v)) H s' → Q () s') (hf : X.fn x = true ∨ X.env.scope.names.lookup x = some .local:=by first | exact .inl rfl | exact .inr rfl | assumption) : wpAny M A (storeName X.env x u) Q E s :=
  store_ok2 I hN hi hx r (fun s' I' _ => h s' I') hf
theorem Inv.call' {s' : Shared} {ch : List Addr} (I : Inv X pins σ H s) (ho : s'.os = s.os) (u : Un (frs X.stack) ch H H' s.heap s'.heap) (hok : HOk X.prog X.w H' s'.heap) (hg : AllBare s'.gens)
    (hch : ∀ b ∈ ch,(b ∈ X.ex ∨ X.s₀.heap.objs.size ≤ b) ∧ b ≠ X.env.locals ∧ (∀ x c,X.env.cells.lookup x = some c → c ≠ b) ∧ ∀ p ∈ X.pn ++ pins,p.1 ≠ b) : Inv X pins σ H' s':=by
  obtain ⟨h',g',d',t',o'⟩:=s'
  have e : o' = s.os:=ho
  subst e
  exact I.call (g':=g') (t':=t') (d':=d') u hok hg hch
end
abbrev XK:=Value → Option Addr → Hp → Prop
abbrev St:=List (Option V)
abbrev VK:=V → Hp → Prop
abbrev TE:=St → Hp → VK → Prop
abbrev TT:=St → Hp → (Bool → Hp → Prop) → Prop
abbrev TA:=St → Hp → (List V → Hp → Prop) → Prop
structure Ends where
  nx : St → Hp → Prop
  rt : VK
  bk : St → Hp → Prop:=fun _ _ => False
  ct : St → Hp → Prop:=fun _ _ => False
abbrev TS:=Ends → St → Hp → Prop
def EP (X : Cx) (pins : List (Addr × Obj)) (σ : St) (Q : VK) (u : Value) (s' : Shared) : Prop := ∃ v H',Inv X pins σ H' s' ∧ RelV v u ∧ Q v H'
def TP (X : Cx) (pins : List (Addr × Obj)) (σ : St) (Q : Bool → Hp → Prop) (b : Bool) (s' : Shared) : Prop := ∃ H',Inv X pins σ H' s' ∧ Q b H'
def AP (X : Cx) (pins : List (Addr × Obj)) (σ : St) (Q : List V → Hp → Prop) (us : List Value) (s' : Shared) : Prop := ∃ vs H',Inv X pins σ H' s' ∧ Vals vs us ∧ Q vs H'
def SP (X : Cx) (pins : List (Addr × Obj)) (D : Ends) (f : Flow) (s' : Shared) : Prop :=
  match f with
  | .next => ∃ σ' H',Inv X pins σ' H' s' ∧ D.nx σ' H'
  | .brk => ∃ σ' H',Inv X pins σ' H' s' ∧ D.bk σ' H'
  | .cont => ∃ σ' H',Inv X pins σ' H' s' ∧ D.ct σ' H'
  | .ret u => ∃ v σ' H',Inv X pins σ' H' s' ∧ RelV v u ∧ D.rt v H'
def PE (X : Cx) (e : Expr) (t : TE) : Prop :=
  ∀ (pins : List (Addr × Obj)) (s : Shared) (σ : St) (H : Hp) (Q : VK),Inv X pins σ H s → t σ H Q → wpAny (model X.prog X.w) X.A (eval e X.env) (EP X pins σ Q) X.xe s
def PT (X : Cx) (e : Expr) (t : TT) : Prop :=
  ∀ (pins : List (Addr × Obj)) (s : Shared) (σ : St) (H : Hp) (Q : Bool → Hp → Prop),Inv X pins σ H s → t σ H Q → wpAny (model X.prog X.w) X.A (isTrue e X.env (eval e X.env)) (TP X pins σ Q) X.xe s
def PW (X : Cx) (e : Expr) (t : TT) : Prop :=
  ∀ (whole : Sem Value) (pins : List (Addr × Obj)) (s : Shared) (σ : St) (H : Hp) (Q : Bool → Hp → Prop),Inv X pins σ H s → t σ H Q → wpAny (model X.prog X.w) X.A (isTrue e X.env whole) (TP X pins σ Q) X.xe s
theorem PW.pt {X : Cx} {e : Expr} {t : TT} (h : PW X e t) : PT X e t:=h _
def PA (X : Cx) (es : List Expr) (t : TA) : Prop :=
  ∀ (pos : Pos) (pins : List (Addr × Obj)) (s : Shared) (σ : St) (H : Hp) (Q : List V → Hp → Prop),Inv X pins σ H s → t σ H Q → wpAny (model X.prog X.w) X.A (spliced (backTo pos (starEach es X.env))) (AP X pins σ Q) X.xe s
def PS (X : Cx) (st : Stmt) (t : TS) : Prop :=
  ∀ (pins : List (Addr × Obj)) (s : Shared) (σ : St) (H : Hp) (D : Ends),Inv X pins σ H s → t D σ H → wpAny (model X.prog X.w) X.A (exec st X.env) (SP X pins D) X.xe s
def PSs (X : Cx) (st : List Stmt) (t : TS) : Prop :=
  ∀ (pins : List (Addr × Obj)) (s : Shared) (σ : St) (H : Hp) (D : Ends),Inv X pins σ H s → t D σ H → wpAny (model X.prog X.w) X.A (execs st X.env) (SP X pins D) X.xe s
theorem thn {α : Type} {t : Sem α} {Q Q' : α → Shared → Prop} {M : Model} {A : Around} {E : Value → Shared → Prop} {s : Shared} (h : wpAny M A t Q E s) (hQ : ∀ a s,Q a s → Q' a s) : wpAny M A t Q' E s:=wpAny_mono h hQ fun _ _ x => x
section
variable {X : Cx}
def tVar (i : Nat) : TE:=fun σ H Q => ∃ v,σ[i]? = some (some v) ∧ Q v H
def tC (v : V) : TE:=fun _ H Q => Q v H
theorem pe_var {i : Nat} {x : Str} {pos : Pos} (hN : X.N[i]? = some x) (hv : Vis X.env.scope x) (hd : (x == ("__debug__" : Str)) = false:=by decide) (hcd : (x == ("__classdict__" : Str)) = false:=by decide) : PE X (.Name x pos) (tVar i):=by
  intro pins s σ H Q I h
  obtain ⟨v,e,h⟩:=h
  obtain ⟨m,hn,hl⟩:=I.loc
  obtain ⟨u,r,l⟩:=hl i x v hN e hv
  have fin : EP X pins σ Q u s:=⟨v,H,I,r,h⟩
  rcases l with ⟨hk,hm⟩ | ⟨hk,c,hc,hcell⟩
  · exact wpAny_Name (wpAny_loadName_local I.ok.kind hk hn hm fin) hd
  · rcases hk with hk | hk
    · exact wpAny_Name (wpAny_loadName_cell I.ok.kind hk hc hcell fin) hd
    · exact wpAny_Name (wpAny_loadName_free I.ok.kind hk hc hcell fin hcd) hd
theorem pe_int {i j pos} : PE X (.Constant (.int i) j pos) (tC (.int i)):=fun _ _ _ H _ I h => wpAny_Constant_int ⟨.int i,H,I.tok _,⟨_,rfl⟩,h⟩
theorem pe_bl {b j pos} : PE X (.Constant (.bool b) j pos) (tC (.bl b)):=fun _ _ _ H _ I h => Constant_bool ⟨.bl b,H,I,rfl,h⟩
theorem pe_non {j pos} : PE X (.Constant .none j pos) (tC .non):=fun _ _ _ H _ I h => Constant_none ⟨.non,H,I,rfl,h⟩
def Gl (X : Cx) (x : Str) : Prop:=X.env.kindOf x = some .globalImplicit
theorem ld_glob {E : Value → Shared → Prop} {pins : List (Addr × Obj)} {s : Shared} {σ : St} {H : Hp} {x : Str} {u : Value} {pos : Pos} {Q : Value → Shared → Prop} (I : Inv X pins σ H s) (hg : Gl X x) (hm : X.mg x = some u) (h : Q u s)
    (hd : (x == ("__debug__" : Str)) = false:=by decide) : wpAny (model X.prog X.w) X.A (eval (.Name x pos) X.env) Q E s :=
  Calls.Name_function_global I.ok.kind hg (Calls.loadGlobal_global (by rw [I.ok.glob]; exact I.mod.glob.keeps I.bk) hm h) hd
theorem ld_blt {E : Value → Shared → Prop} {pins : List (Addr × Obj)} {s : Shared} {σ : St} {H : Hp} {x : Str} {u : Value} {pos : Pos} {Q : Value → Shared → Prop} (I : Inv X pins σ H s) (hg : Gl X x) (hm : X.mg x = none) (hv : bootBuiltins x = some u) (h : Q u s)
    (hn : x ≠ "__name__" := by decide) (hd : (x == ("__debug__" : Str)) = false:=by decide) : wpAny (model X.prog X.w) X.A (eval (.Name x pos) X.env) Q E s:=by
  obtain ⟨mb,h1,h2⟩:=I.mod.blt
  exact Calls.Name_function_global I.ok.kind hg (Calls.loadGlobal_builtin (by rw [I.ok.glob]; exact I.mod.glob.keeps I.bk) hm (by rw [I.ok.blt]; exact h1.keeps I.bk) ((h2 x hn).trans hv) h) hd
theorem pe_glob {x : Str} {v : V} {u : Value} {pos : Pos} (hg : Gl X x) (hm : X.mg x = some u) (r : RelV v u) (hd : (x == ("__debug__" : Str)) = false:=by decide) : PE X (.Name x pos) (tC v) :=
  fun _ _ _ H _ I h => ld_glob I hg hm ⟨v,H,I,r,h⟩ hd
theorem pe_bltn {x : Str} {v : V} {u : Value} {pos : Pos} (hg : Gl X x) (hm : X.mg x = none) (hv : bootBuiltins x = some u) (r : RelV v u) (hn : x ≠ "__name__" := by decide) (hd : (x == ("__debug__" : Str)) = false:=by decide) : PE X (.Name x pos) (tC v) :=
  fun _ _ _ H _ I h => ld_blt I hg hm hv ⟨v,H,I,r,h⟩ hn hd
variable {a b : Expr} {ta tb : TE} {pos : Pos}
def tB (t : TE) : TT:=fun σ H Q => t σ H fun x H1 => ∃ c,x = .bl c ∧ Q c H1
theorem pt_val {e : Expr} {t : TE} (h : PE X e t) (he : ∀ whole,isTrue e X.env whole = (do let v ← whole; standAt e.pos; holding [v] (truthy v)):=by intro _; rfl) : PT X e (tB t):=by
  intro pins s σ H Q I hw
  refine isTrue_plain (thn (h pins s σ H _ I hw) fun v s1 ⟨x,H1,I1,r1,q1⟩ => ?_) (he _)
  obtain ⟨d,rfl,q⟩:=q1
  cases r1
  exact wpAny_truthy_bool ⟨H1,I1,q⟩
variable {tA tB' : TT} {rest : List Expr}
def tAnd (t u : TT) : TT:=fun σ H Q => t σ H fun c H1 => if c = true then u σ H1 Q else Q false H1
def tOr (t u : TT) : TT:=fun σ H Q => t σ H fun c H1 => if c = true then Q true H1 else u σ H1 Q
def tNot (t : TT) : TT:=fun σ H Q => t σ H fun c H1 => Q (!c) H1
theorem pw_and1 (ha : PT X a tA) : PW X (.BoolOp .And [a] pos) tA:=by
  intro wh pins s σ H Q I h
  refine isTrue_and (thn (ha pins s σ H Q I h) fun c s1 e => ?_)
  cases c with
  | true => exact isTrue_and_nil e
  | false => exact e
theorem pw_or1 (ha : PT X a tA) : PW X (.BoolOp .Or [a] pos) tA:=by
  intro wh pins s σ H Q I h
  refine isTrue_or (thn (ha pins s σ H Q I h) fun c s1 e => ?_)
  cases c with
  | false => exact isTrue_or_nil e
  | true => exact e
theorem pw_and (ha : PT X a tA) (hb : PW X (.BoolOp .And (b :: rest) pos) tB') : PW X (.BoolOp .And (a :: b :: rest) pos) (tAnd tA tB'):=by
  intro wh pins s σ H Q I h
  refine isTrue_and (thn (ha pins s σ H _ I h) fun c s1 ⟨H1,I1,q1⟩ => ?_)
  cases c with
  | true => exact hb wh pins s1 σ H1 Q I1 q1
  | false => exact ⟨H1,I1,q1⟩
theorem pw_or (ha : PT X a tA) (hb : PW X (.BoolOp .Or (b :: rest) pos) tB') : PW X (.BoolOp .Or (a :: b :: rest) pos) (tOr tA tB'):=by
  intro wh pins s σ H Q I h
  refine isTrue_or (thn (ha pins s σ H _ I h) fun c s1 ⟨H1,I1,q1⟩ => ?_)
  cases c with
  | true => exact ⟨H1,I1,q1⟩
  | false => exact hb wh pins s1 σ H1 Q I1 q1
theorem pt_not (ha : PT X a tA) : PT X (.UnaryOp .Not a pos) (tNot tA):=by
  intro pins s σ H Q I h
  exact isTrue_not (ha pins s σ H (fun c H1 => Q (!c) H1) I h)
def tAndV (ta tb : TE) : TE:=fun σ H Q => ta σ H fun x H1 => ∃ c,x = .bl c ∧ if c = true then tb σ H1 Q else Q (.bl false) H1
def tOrV (ta tb : TE) : TE:=fun σ H Q => ta σ H fun x H1 => ∃ c,x = .bl c ∧ if c = true then Q (.bl true) H1 else tb σ H1 Q
def tNotV (ta : TE) : TE:=fun σ H Q => ta σ H fun x H1 => ∃ c,x = .bl c ∧ Q (.bl (!c)) H1
theorem pe_one {op} {t : TE} (h : PE X a t) : PE X (.BoolOp op [a] pos) t:=fun pins s σ H Q I hw => BoolOp_one (h pins s σ H Q I hw)
theorem pe_and (ha : PE X a ta) (hb : PE X (.BoolOp .And (b :: rest) pos) tb) : PE X (.BoolOp .And (a :: b :: rest) pos) (tAndV ta tb):=by
  intro pins s σ H Q I h
  refine BoolOp_and (thn (ha pins s σ H _ I h) fun v s1 ⟨x,H1,I1,r1,q1⟩ => ?_)
  obtain ⟨c,rfl,q1⟩:=q1
  cases r1
  refine wpAny_truthy_bool ?_
  cases c with
  | true => exact hb pins s1 σ H1 Q I1 q1
  | false => exact ⟨.bl false,H1,I1,rfl,q1⟩
theorem pe_or (ha : PE X a ta) (hb : PE X (.BoolOp .Or (b :: rest) pos) tb) : PE X (.BoolOp .Or (a :: b :: rest) pos) (tOrV ta tb):=by
  intro pins s σ H Q I h
  refine BoolOp_or (thn (ha pins s σ H _ I h) fun v s1 ⟨x,H1,I1,r1,q1⟩ => ?_)
  obtain ⟨c,rfl,q1⟩:=q1
  cases r1
  refine wpAny_truthy_bool ?_
  cases c with
  | false => exact hb pins s1 σ H1 Q I1 q1
  | true => exact ⟨.bl true,H1,I1,rfl,q1⟩
theorem pe_not (ha : PE X a ta) : PE X (.UnaryOp .Not a pos) (tNotV ta):=by
  intro pins s σ H Q I h
  refine UnaryOp_ (thn (ha pins s σ H _ I h) fun v s1 ⟨x,H1,I1,r1,q1⟩ => ?_)
  obtain ⟨c,rfl,q1⟩:=q1
  cases r1
  exact not_of (wpAny_truthy_bool ⟨.bl (!c),H1,I1,rfl,q1⟩)
end
def SqL (K : PySem.W.Frag) (H : Hp) (a : Addr) (xs : List V) : Prop :=
  Rd H a (.lst xs) ∨
    ∃ (o : Obj) (its : Array Value) (n : Nat),K.lookup a = some o ∧ o.cls = .type "list" ∧ o.dict = none ∧ o.data = .seq its n ∧ its.size ≤ sizeLine ∧ Vals xs its.toList
def SqT (K : PySem.W.Frag) (H : Hp) (a : Addr) (xs : List V) : Prop :=
  Rd H a (.tup xs) ∨
    ∃ (o : Obj) (its : Array Value) (n : Nat),K.lookup a = some o ∧ o.cls = .type "tuple" ∧ o.data = .seq its n ∧ its.size ≤ sizeLine ∧ Vals xs its.toList
def absV : Value → Option V
  | .none => some .non
  | .bool b => some (.bl b)
  | .int i _ => some (.int i)
  | .str x _ => some (.str x)
  | .bytes b _ => some (.byt b)
  | .float b _ => some (.flt b)
  | .ref a => some (.ref a)
  | .type n => some (.ty n)
  | _ => none
theorem RelV.abs {x : V} {u : Value} (r : RelV x u) : absV u = some x:=by
  cases x with
  | non => cases r; rfl
  | bl _ => cases r; rfl
  | int _ => obtain ⟨t,rfl⟩:=r; rfl
  | str _ => obtain ⟨t,rfl⟩:=r; rfl
  | byt _ => obtain ⟨t,rfl⟩:=r; rfl
  | flt _ => obtain ⟨t,rfl⟩:=r; rfl
  | ref _ => cases r; rfl
  | ty _ => cases r; rfl
theorem RelV.inj {x y : V} {u : Value} (r : RelV x u) (q : RelV y u) : x = y:=Option.some.inj (r.abs.symm.trans q.abs)
theorem Vals.inj : ∀ {xs ys : List V} {us : List Value},Vals xs us → Vals ys us → xs = ys
  | _,_,_,.nil,.nil => rfl
  | _,_,_,.cons r t,.cons r' t' => by rw [r.inj r',Vals.inj t t']
section
variable {X : Cx} {pins : List (Addr × Obj)} {σ : St} {H : Hp} {s : Shared} {a : Addr} {xs ys : List V}
theorem SqL.of {K : PySem.W.Frag} (h : H a = some (.lst xs)) : SqL K H a xs:=.inl (.inl h)
theorem SqT.of {K : PySem.W.Frag} (h : H a = some (.tup xs)) : SqT K H a xs:=.inl (.inl h)
theorem Inv.list (I : Inv X pins σ H s) (h : SqL X.K H a xs) : ∃ its : List Value,Vals xs its ∧ PlainL s.heap a its.toArray ∧ xs.length ≤ sizeLine:=by
  rcases h with h | ⟨o,its,n,hk,hc,hd,hs,hz,r⟩
  · obtain ⟨z,its,n,r,e⟩:=h.ok I.hok
    exact ⟨its,r,⟨_,n,e,rfl,rfl,rfl⟩,z⟩
  · refine ⟨its.toList,r,⟨o,n,I.kIn a o hk,hc,hd,by simpa using hs⟩,?_⟩
    have e:=r.length
    simp only [Array.length_toList] at e
    omega
theorem Inv.tuple (I : Inv X pins σ H s) (h : SqT X.K H a xs) : ∃ its : List Value,Vals xs its ∧ IsTup s.heap a its.toArray ∧ xs.length ≤ sizeLine:=by
  rcases h with h | ⟨o,its,n,hk,hc,hs,hz,r⟩
  · obtain ⟨z,its,r,p,_⟩:=h.ok I.hok
    exact ⟨its,r,p,z⟩
  · refine ⟨its.toList,r,⟨o,I.kIn a o hk,hc,n,by simpa using hs⟩,?_⟩
    have e:=r.length
    simp only [Array.length_toList] at e
    omega
theorem Inv.list_inj (I : Inv X pins σ H s) (h : SqL X.K H a xs) (h' : SqL X.K H a ys) : xs = ys:=by
  obtain ⟨its,r,⟨o,n,e,_,_,d⟩,_⟩:=I.list h
  obtain ⟨its',r',⟨o',n',e',_,_,d'⟩,_⟩:=I.list h'
  rw [e] at e'; cases e'
  rw [d] at d'
  injection d' with d1 _
  have : its = its':=by simpa using congrArg Array.toList d1
  subst this
  exact r.inj r'
theorem Inv.tuple_inj (I : Inv X pins σ H s) (h : SqT X.K H a xs) (h' : SqT X.K H a ys) : xs = ys:=by
  obtain ⟨its,r,⟨o,e,_,n,d⟩,_⟩:=I.tuple h
  obtain ⟨its',r',⟨o',e',_,n',d'⟩,_⟩:=I.tuple h'
  rw [e] at e'; cases e'
  rw [d] at d'
  injection d' with d1 _
  have : its = its':=by simpa using congrArg Array.toList d1
  subst this
  exact r.inj r'
end
abbrev Cx.wish (X : Cx) (E : Value → Shared → Prop) : Cx:={ X with xe:=E }
abbrev Cx.nox (X : Cx) : Cx:=X.wish fun _ _ => False
theorem Cx.Ok.wish {X : Cx} (ok : X.Ok) (E : Value → Shared → Prop) : (X.wish E).Ok :=
  ⟨ok.mod,ok.kind,ok.glob,ok.blt,ok.above,ok.inj,ok.has,ok.cab,ok.hd,ok.frames,ok.stk,ok.exf,ok.bs,ok.bsz,ok.noex,ok.exfs,ok.funs,ok.frf⟩
theorem Cx.Ok.unwish {X : Cx} {E : Value → Shared → Prop} (ok : (X.wish E).Ok) : X.Ok :=
  ⟨ok.mod,ok.kind,ok.glob,ok.blt,ok.above,ok.inj,ok.has,ok.cab,ok.hd,ok.frames,ok.stk,ok.exf,ok.bs,ok.bsz,ok.noex,ok.exfs,ok.funs,ok.frf⟩
section
variable {X : Cx} {pins : List (Addr × Obj)} {σ : St} {H : Hp} {s : Shared} {E : Value → Shared → Prop}
theorem Inv.wish (I : Inv X pins σ H s) (E : Value → Shared → Prop) : Inv (X.wish E) pins σ H s:=⟨I.ok.wish E,I.os,I.bare,I.base,I.loc,I.cell,I.free,I.freeC,I.pin,I.hok,I.len⟩
theorem Inv.unwish (I : Inv (X.wish E) pins σ H s) : Inv X pins σ H s:=⟨I.ok.unwish,I.os,I.bare,I.base,I.loc,I.cell,I.free,I.freeC,I.pin,I.hok,I.len⟩
theorem SP.unwish {D : Ends} {f : Flow} {s' : Shared} (h : SP (X.wish E) pins D f s') : SP X pins D f s':=by
  cases f with
  | next => obtain ⟨σ',H',I,q⟩:=h; exact ⟨σ',H',I.unwish,q⟩
  | brk => obtain ⟨σ',H',I,q⟩:=h; exact ⟨σ',H',I.unwish,q⟩
  | cont => obtain ⟨σ',H',I,q⟩:=h; exact ⟨σ',H',I.unwish,q⟩
  | ret u => obtain ⟨v,σ',H',I,r,q⟩:=h; exact ⟨v,σ',H',I.unwish,r,q⟩
theorem PSs.nox {st : List Stmt} {t : TS} (h : PSs X.nox st t) : PSs X st t:=fun pins s σ H D I hw =>
  wpAny_mono (h pins s σ H D (I.wish _) hw) (fun _ _ q => q.unwish) fun _ _ z => False.elim z
end
section
variable {X : Cx} {st : Stmt} {rest : List Stmt} {t u : TS} {e : Expr} {te : TE} {pos : Pos}
def tNext : TS:=fun D σ H => D.nx σ H
def tSeq (t u : TS) : TS:=fun D σ H => t { D with nx:=u D } σ H
theorem pss_nil : PSs X [] tNext:=fun _ _ σ H _ I h => wpAny_execs_nil ⟨σ,H,I,h⟩
theorem pss_cons (h1 : PS X st t) (h2 : PSs X rest u) : PSs X (st :: rest) (tSeq t u):=by
  intro pins s σ H D I h
  refine wpAny_execs_cons (thn (h1 pins s σ H { D with nx:=u D } I h) fun f s1 q => ?_)
  cases f with
  | next =>
    obtain ⟨σ',H',I',q⟩:=q
    exact h2 pins s1 σ' H' D I' q
  | ret v => exact q
  | brk => exact q
  | cont => exact q
theorem pss_one (h1 : PS X st t) : PSs X [st] t:=by
  intro pins s σ H D I h
  refine wpAny_execs_cons (thn (h1 pins s σ H D I h) fun f s1 q => ?_)
  cases f with
  | next => exact wpAny_execs_nil q
  | ret v => exact q
  | brk => exact q
  | cont => exact q
theorem Inv.quiet {pins : List (Addr × Obj)} {σ : St} {H : Hp} {s : Shared} (I : Inv X pins σ H s) : interactive X.env = false:=by simp [interactive,I.ok.kind]
def tDrop (te : TE) : TS:=fun D σ H => te σ H fun _ H1 => D.nx σ H1
theorem ps_expr (he : PE X e te) (hs : swapsWith e none pos.line X.env = pure false:=by rfl) : PS X (.Expr e pos) (tDrop te):=by
  intro pins s σ H D I h
  exact wpAny_Expr_any (thn (he pins s σ H _ I h) fun v s1 ⟨x,H1,I1,r1,q1⟩ => ⟨σ,H1,I1,q1⟩) I.quiet hs
def tRet (te : TE) : TS:=fun D σ H => te σ H D.rt
theorem ps_ret (he : PE X e te) : PS X (.Return (some e) pos) (tRet te):=by
  intro pins s σ H D I h
  exact wpAny_Return_some (thn (he pins s σ H _ I h) fun v s1 ⟨x,H1,I1,r1,q1⟩ => ⟨x,σ,H1,I1,r1,q1⟩)
def tIfS (c : TT) (t u : TS) : TS:=fun D σ H => c σ H fun b H1 => if b = true then t D σ H1 else u D σ H1
theorem ps_if {c : Expr} {a b : List Stmt} {tc : TT} (hc : PT X c tc) (ha : PSs X a t) (hb : PSs X b u) : PS X (.If c a b pos) (tIfS tc t u):=by
  intro pins s σ H D I h
  refine wpAny_If (thn (hc pins s σ H _ I h) fun d s1 ⟨H1,I1,q1⟩ => ?_)
  cases d with
  | true => exact ha pins s1 σ H1 D I1 q1
  | false => exact hb pins s1 σ H1 D I1 q1
def tNever : TS:=fun _ _ _ => False
theorem ps_never : PS X st tNever:=fun _ _ _ _ _ _ h => h.elim
end
abbrev TG:=V → St → Hp → (St → Hp → Prop) → Prop
abbrev TGs:=List V → St → Hp → (St → Hp → Prop) → Prop
def PG (X : Cx) (target : Expr) (t : TG) : Prop :=
  ∀ (pins : List (Addr × Obj)) (s : Shared) (σ : St) (H : Hp) (v : V) (u : Value) (Q : St → Hp → Prop),Inv X pins σ H s → RelV v u → t v σ H Q →
    wpAny (model X.prog X.w) X.A (assign target X.env u) (fun _ s' => ∃ σ' H',Inv X pins σ' H' s' ∧ Q σ' H') X.xe s
def PGs (X : Cx) (ts : List Expr) (t : TGs) : Prop :=
  ∀ (pins : List (Addr × Obj)) (s : Shared) (σ : St) (H : Hp) (vs : List V) (us : List Value) (Q : St → Hp → Prop),Inv X pins σ H s → Vals vs us → t vs σ H Q →
    wpAny (model X.prog X.w) X.A (assignInOrder ((assignEach ts X.env).map (·.2)) us) (fun _ s' => ∃ σ' H',Inv X pins σ' H' s' ∧ Q σ' H') X.xe s
abbrev TSet:=V → V → V → Hp → (Hp → Prop) → Prop
def PSet (X : Cx) (t : TSet) : Prop :=
  ∀ (pins : List (Addr × Obj)) (s : Shared) (σ : St) (H : Hp) (o i v : V) (ov iv u : Value) (Q : Hp → Prop),Inv X pins σ H s → RelV o ov → RelV i iv → RelV v u → t o i v H Q →
    wpAny (model X.prog X.w) X.A (setItem ov iv u) (fun _ s' => ∃ H',Inv X pins σ H' s' ∧ Q H') X.xe s
section
variable {X : Cx} {pos : Pos}
def gName (i : Nat) : TG:=fun v σ H Q => Q (σ.set i (some v)) H
theorem pg_name {i : Nat} {x : Str} (hN : X.N.Nodup) (hi : X.N[i]? = some x) (hx : Loc X.env.scope x) (hf : X.fn x = true ∨ X.env.scope.names.lookup x = some .local:=by first | exact .inl rfl | exact .inr rfl | assumption) : PG X (.Name x pos) (gName i):=by
  intro pins s σ H v u Q I r h
  exact wpAny_assign_Name (store_ok I hN hi hx r (fun s' I' => ⟨_,H,I',h⟩) hf)
def gNil : TGs:=fun vs σ H Q => vs = [] ∧ Q σ H
def gCons (t : TG) (u : TGs) : TGs:=fun vs σ H Q => ∃ v r,vs = v :: r ∧ t v σ H fun σ' H' => u r σ' H' Q
theorem pgs_nil : PGs X [] gNil:=by
  intro pins s σ H vs us Q I r h
  obtain ⟨e,h⟩:=h
  subst e
  cases r
  exact assignInOrder_nil ⟨σ,H,I,h⟩
theorem pgs_cons {e : Expr} {es : List Expr} {t : TG} {u : TGs} (h1 : PG X e t) (h2 : PGs X es u)
    (hs : (assignEach (e :: es) X.env).map (·.2) = assign e X.env :: (assignEach es X.env).map (·.2):=by rfl) : PGs X (e :: es) (gCons t u):=by
  intro pins s σ H vs us Q I r h
  obtain ⟨v,vr,e1,h⟩:=h
  subst e1
  cases r with
  | cons r rr =>
    rw [hs]
    refine assignInOrder_cons (thn (h1 pins s σ H _ _ _ I r h) fun _ s1 ⟨σ1,H1,I1,q1⟩ => ?_)
    exact h2 pins s1 σ1 H1 _ _ Q I1 rr q1
def gTup (K : PySem.W.Frag) (n : Nat) (t : TGs) : TG:=fun v σ H Q => ∃ a xs,v = .ref a ∧ SqT K H a xs ∧ xs.length = n ∧ t xs σ H Q
theorem pg_tup {es : List Expr} {k : Nat} {t : TGs} {n : Nat} (hc : X.calm = true) (h : PGs X es t)
    (hn : (assignEach es X.env).length = n:=by rfl) (hst : (assignEach es X.env).findIdx? (·.1) = none:=by rfl) : PG X (.Tuple es k pos) (gTup X.K n t):=by
  intro pins s σ H v u Q I r hw
  obtain ⟨a,xs,e1,hq,hl,hw⟩:=hw
  subst e1
  cases r
  obtain ⟨its,rv,ht,hz⟩:=I.tuple hq
  refine assign_Tuple_tuple (I.ok.hd hc) ht (by simp [hn,← hl,rv.length]) hst fun h' hx => ?_
  have I1 : Inv X pins σ H { s with heap:=h' }:=I.kept (t':=s.toks) fun b o e => hx b o (Nat.ne_of_lt (Heap.lt_size e)) e
  exact h pins _ σ H xs _ Q I1 (by simpa using rv) hw
def gSub (to ti : TE) (t : TSet) : TG:=fun v σ H Q => to σ H fun o H1 => ti σ H1 fun i H2 => t o i v H2 fun H3 => Q σ H3
theorem pg_sub {o i : Expr} {to ti : TE} {t : TSet} (ho : PE X o to) (hi : PE X i ti) (hs : PSet X t)
    (ha : ∀ v,assign (.Subscript o i pos) X.env v = (do
      let ov ← holding [v] (eval o X.env)
      let iv ← holding [v,ov] (eval i X.env)
      standAt pos
      holding [v,ov,iv] (setItem ov iv v)
      release [v,ov,iv] []):=by intro _; rfl) : PG X (.Subscript o i pos) (gSub to ti t):=by
  intro pins s σ H v u Q I r h
  rw [ha]
  refine wpAny_bind (wpAny_holding (thn (ho pins s σ H _ I h) fun ov s1 ⟨x,H1,I1,r1,q1⟩ => ?_))
  refine wpAny_bind (wpAny_holding (thn (hi pins s1 σ H1 _ I1 q1) fun iv s2 ⟨y,H2,I2,r2,q2⟩ => ?_))
  refine wpAny_bind (wpAny_standAt (wpAny_bind (wpAny_holding (thn (hs pins s2 σ H2 x y v ov iv u _ I2 r1 r2 r q2) fun _ s3 ⟨H3,I3,q3⟩ => ?_))))
  exact wpAny_release ⟨σ,H3,I3,q3⟩
def tAsg (te : TE) (g : TG) : TS:=fun D σ H => te σ H fun x H1 => g x σ H1 D.nx
theorem ps_asg {tg e : Expr} {te : TE} {g : TG} (he : PE X e te) (hg : PG X tg g) (hs : swapsWithSole [tg] e pos.line X.env = pure false:=by rfl) (hw : swappedStores [tg] e X.env = pure none:=by rfl)
    (h1 : (assignEach [tg] X.env).map (·.2) = [assign tg X.env]:=by rfl) : PS X (.Assign [tg] e pos) (tAsg te g):=by
  intro pins s σ H D I h
  refine wpAny_Assign_stores (thn (he pins s σ H _ I h) fun v s1 ⟨x,H1,I1,r1,q1⟩ => ?_) hs hw
  rw [h1]
  exact thn (hg pins s1 σ H1 x v _ I1 r1 q1) fun _ s2 q => q
theorem ps_set {i : Nat} {x : Str} {e : Expr} {te : TE} {pos' : Pos} (hN : X.N.Nodup) (hi : X.N[i]? = some x) (hx : Loc X.env.scope x) (he : PE X e te) (hs : swapsWith e (some (.Name x pos')) pos.line X.env = pure false:=by rfl) (hf : X.fn x = true ∨ X.env.scope.names.lookup x = some .local:=by first | exact .inl rfl | exact .inr rfl | assumption) :
    PS X (.Assign [.Name x pos'] e pos) (tAsg te (gName i)):=by
  intro pins s σ H D I h
  refine wpAny_Assign_Name (thn (he pins s σ H _ I h) fun v s1 ⟨y,H1,I1,r1,q1⟩ => ?_) hs
  exact store_ok I1 hN hi hx r1 (fun s2 I2 => ⟨_,H1,I2,q1⟩) hf
end
section
variable {X : Cx} {pos : Pos}
def tWhile (c : TT) (tb : TS) : TS:=fun D σ H => ∃ W : Nat → St → Hp → Prop,(∃ m,W m σ H) ∧ ∀ m σ H,W m σ H →
  c σ H fun b H1 => if b = true then ∃ N : St → Hp → Prop,(∀ σ' H',N σ' H' → ∃ m',m' < m ∧ W m' σ' H') ∧ tb { D with nx:=N,ct:=N,bk:=D.nx } σ H1 else D.nx σ H1
theorem ps_while {c : Expr} {body : List Stmt} {tc : TT} {tb : TS} (hp : PassesOwn (model X.prog X.w) X.A X.env X.xe) (hc : PT X c tc) (hb : PSs X body tb) : PS X (.While c body [] pos) (tWhile tc tb):=by
  intro pins s σ H D I h
  obtain ⟨W,⟨m0,w0⟩,turn⟩:=h
  refine wpAny_While (codeAny_whileLoop (fun n s' => ∃ σ' H',Inv X pins σ' H' s' ∧ W n σ' H') ?_ m0 ⟨σ,H,I,w0⟩)
  rintro n s1 ⟨σ1,H1,I1,w1⟩
  refine wpAny_passesOwn hp (thn (hc pins s1 σ1 H1 _ I1 (turn n σ1 H1 w1)) fun b s2 ⟨H2,I2,q2⟩ => ?_)
  cases b with
  | true =>
    obtain ⟨N,hN,q2⟩:=q2
    rw [if_pos rfl]
    refine wpAny_passesOwn hp (thn (hb pins s2 σ1 H2 _ I2 q2) fun f s3 q3 => ?_)
    cases f with
    | next =>
      obtain ⟨σ3,H3,I3,n3⟩:=q3
      obtain ⟨m',hm,w3⟩:=hN σ3 H3 n3
      exact ⟨m',hm,σ3,H3,I3,w3⟩
    | cont =>
      obtain ⟨σ3,H3,I3,n3⟩:=q3
      obtain ⟨m',hm,w3⟩:=hN σ3 H3 n3
      exact ⟨m',hm,σ3,H3,I3,w3⟩
    | brk => exact q3
    | ret v => exact q3
  | false =>
    rw [if_neg Bool.false_ne_true]
    exact wpAny_execs_nil ⟨σ1,H2,I2,q2⟩
end
structure It where
  go : Nat → Hp → Prop
  yld : Nat → Hp → V → Hp → Prop
  stop : Nat → Hp → Prop
def FpOk (X : Cx) (pins : List (Addr × Obj)) (H : Hp) (b : Addr) : Prop :=
  H b = none ∧ b ≠ X.env.locals ∧ b ∉ X.fs ∧ (b ∈ X.ex ∨ X.s₀.heap.objs.size ≤ b) ∧ (∀ x c,X.env.cells.lookup x = some c → c ≠ b) ∧ ∀ p ∈ X.pn ++ pins,p.1 ≠ b
theorem Inv.fpOk {X : Cx} {pins : List (Addr × Obj)} {σ : St} {H H' : Hp} {s : Shared} {b : Addr} (I : Inv X pins σ H s) (hb : s.heap.objs.size ≤ b) (hn : H' b = none) : FpOk X pins H' b:=by
  refine ⟨hn,Nat.ne_of_gt (Nat.lt_of_lt_of_le I.lt hb),I.nofs hb,.inr (Nat.le_trans I.sz hb),fun x c e z => ?_,fun p hp z => ?_⟩
  · obtain ⟨v,q⟩:=I.cell x c e
    exact absurd (Nat.lt_of_lt_of_le q.lt (by rw [z]; exact hb)) (Nat.lt_irrefl _)
  · exact absurd (Nat.lt_of_lt_of_le (Heap.lt_size (I.pin p hp).1) (by rw [z]; exact hb)) (Nat.lt_irrefl _)
structure Turn (P : Program) (w : World) (K : PySem.W.Frag) (tg : Expr) (J : It) (fp : List Addr) (it : Addr) (tn : Nat → Heap → Prop) : Prop where
  mem : it ∈ fp
  obj : ∀ i h,tn i h → ∀ b ∈ fp,∃ o,h.get? b = some o ∧ ∀ v,o.data ≠ .cell v
  keep : ∀ i h h',tn i h → (∀ b ∈ fp,∀ o,h.get? b = some o → h'.get? b = some o) → tn i h'
  item : ∀ (X : Cx),X.prog = P → X.w = w → X.K = K → X.calm = true → ∀ (i : Nat) (pins : List (Addr × Obj)) (s : Shared) (σ : St) (H : Hp) (E : Value → Shared → Prop),Inv X pins σ H s → (∀ b ∈ fp,FpOk X pins H b) → tn i s.heap → J.go i H →
    wpAny (model P w) X.A (pyNext (.ref it)) (fun r s1 => ∃ u,r = some u ∧
      wpAny (model P w) X.A (letOwnedTupleGo tg (.ref it) u) (fun _ s2 => ∃ x H',Inv X pins σ H' s2 ∧ RelV x u ∧ J.yld i H x H' ∧ tn (i + 1) s2.heap ∧ ∀ b ∈ fp,H' b = none) E s1) E s
  done : ∀ (X : Cx),X.prog = P → X.w = w → X.K = K → X.calm = true → ∀ (i : Nat) (pins : List (Addr × Obj)) (s : Shared) (σ : St) (H : Hp) (E : Value → Shared → Prop),Inv X pins σ H s → (∀ b ∈ fp,FpOk X pins H b) → tn i s.heap → J.stop i H →
    wpAny (model P w) X.A (pyNext (.ref it)) (fun r s1 => r = none ∧ Inv X pins σ H s1) E s
  self : ∀ (A : Around) (i : Nat) (s : Shared) (Q : Value → Shared → Prop) (E : Value → Shared → Prop),tn i s.heap → Q (.ref it) s → wpAny (model P w) A (pyIter (.ref it)) Q E s
abbrev TI:=St → Hp → (It → Hp → Prop) → Prop
def PIE (X : Cx) (pins : List (Addr × Obj)) (σ : St) (tg : Expr) (R : It → Hp → Prop) (itv : Value) (s2 : Shared) : Prop :=
  ∃ (it : Addr) (fp : List Addr) (tn : Nat → Heap → Prop) (J : It) (H' : Hp),itv = .ref it ∧ Inv X pins σ H' s2 ∧ Turn X.prog X.w X.K tg J fp it tn ∧ tn 0 s2.heap ∧ (∀ b ∈ fp,FpOk X pins H' b) ∧ R J H'
def PI (X : Cx) (tg iter : Expr) (wi : TI) : Prop :=
  ∀ (pins : List (Addr × Obj)) (s : Shared) (σ : St) (H : Hp) (R : It → Hp → Prop),Inv X pins σ H s → wi σ H R →
    wpAny (model X.prog X.w) X.A (eval iter X.env) (fun v s1 => wpAny (model X.prog X.w) X.A (pyIter v) (PIE X pins σ tg R) X.xe s1) X.xe s
theorem go_of {M : Model} {A : Around} {E : Value → Shared → Prop} {s : Shared} {tg : Expr} {it : Addr} {u : Value} {o : Obj} {n : String} {vs : Array Value} {Q : Unit → Shared → Prop} (ho : s.heap.get? it = some o) (hc : o.cls = .type n) (hd : o.data = .fields vs)
    (hn : ["enumerate","zip","dict_itemiterator","dict_reverseitemiterator","odict_iterator","itertools.zip_longest","itertools.pairwise"].contains n = false) (hQ : Q () s) : wpAny M A (letOwnedTupleGo tg (.ref it) u) Q E s:=by
  unfold letOwnedTupleGo
  cases tg <;> first
    | exact wpAny_pure hQ
    | (cases u <;> first
        | exact wpAny_pure hQ
        | (refine wpAny_bind (wpAny_load ho ?_)
           rw [hc,hd]
           show wpAny M A (if (["enumerate","zip","dict_itemiterator","dict_reverseitemiterator","odict_iterator","itertools.zip_longest","itertools.pairwise"].contains n && vs[0]? == some (rawInt _)) = true then _ else _) Q E s
           rw [if_neg (by intro h; rw [hn,Bool.false_and] at h; cases h)]
           exact wpAny_pure hQ))
def Itl (K : PySem.W.Frag) (a : Addr) : It :=
  ⟨fun i H => ∃ xs x,SqL K H a xs ∧ xs[i]? = some x,fun i H x H' => H' = H ∧ ∀ xs,SqL K H a xs → xs[i]? = some x,fun i H => ∃ xs,SqL K H a xs ∧ xs.length ≤ i⟩
def Itt (K : PySem.W.Frag) (a : Addr) : It :=
  ⟨fun i H => ∃ xs x,SqT K H a xs ∧ xs[i]? = some x,fun i H x H' => H' = H ∧ ∀ xs,SqT K H a xs → xs[i]? = some x,fun i H => ∃ xs,SqT K H a xs ∧ xs.length ≤ i⟩
def Itr (lo : Int) (n : Nat) : It:=⟨fun i _ => i < n,fun i H x H' => H' = H ∧ x = .int (lo + i),fun i _ => n ≤ i⟩
theorem turn_list {P : Program} {w : World} {K : PySem.W.Frag} {tg : Expr} (a it : Addr) : Turn P w K tg (Itl K a) [it] it (fun i h => h.IsListIter it a i) where
  mem:=by simp
  obj:=fun i h st b hb => by
    have e : b = it:=by simpa using hb
    subst e
    obtain ⟨o,e,c,d⟩:=st
    exact ⟨o,e,fun v z => by rw [d] at z; cases z⟩
  keep:=fun i h h' st k => st.at fun o e => k it (by simp) o e
  item:=by
    intro X hP hw hK hc i pins s σ H E I hf st hg
    subst hP hw hK
    obtain ⟨xs,x,hq,hx⟩:=hg
    obtain ⟨its,rv,p,hz⟩:=I.list hq
    obtain ⟨u,hu,ru⟩:=rv.get hx
    obtain ⟨f0,f1,f2,f3,f4,f5⟩:=hf it (by simp)
    refine wpAny_pyNext_list_item st p.isList (x:=u) (by simpa using hu) fun h' st' sb => ?_
    have I1 : Inv X pins σ H { s with heap:=h' }:=I.turned (t':=s.toks) (fun b o hb e => (sb.2 b hb).trans e) f0 f1 f3 f4 f5
    obtain ⟨o,e,c,d⟩:=id st'
    exact ⟨u,rfl,go_of (s:={ s with heap:=h' }) e c d (by decide) ⟨x,H,I1,ru,⟨rfl,fun ys hy => by rw [I.list_inj hy hq]; exact hx⟩,st',fun b hb => (hf b hb).1⟩⟩
  done:=by
    intro X hP hw hK hc i pins s σ H E I hf st hg
    subst hP hw hK
    obtain ⟨xs,hq,hx⟩:=hg
    obtain ⟨its,rv,p,hz⟩:=I.list hq
    obtain ⟨f0,f1,f2,f3,f4,f5⟩:=hf it (by simp)
    have hl:=rv.length
    exact wpAny_pyNext_list_end (I.ok.hd hc) st p.isList (by simp; omega) fun h' eb => ⟨rfl,I.turned (t':=s.toks) (fun b o hb e => eb b o hb e) f0 f1 f3 f4 f5⟩
  self:=fun _ _ _ _ _ st h => wpAny_pyIter_listiter st h
theorem turn_tuple {P : Program} {w : World} {K : PySem.W.Frag} {tg : Expr} (a it : Addr) : Turn P w K tg (Itt K a) [it] it (fun i h => h.IsTupleIter it a i) where
  mem:=by simp
  obj:=fun i h st b hb => by
    have e : b = it:=by simpa using hb
    subst e
    obtain ⟨o,e,c,d⟩:=st
    exact ⟨o,e,fun v z => by rw [d] at z; cases z⟩
  keep:=fun i h h' st k => st.at fun o e => k it (by simp) o e
  item:=by
    intro X hP hw hK hc i pins s σ H E I hf st hg
    subst hP hw hK
    obtain ⟨xs,x,hq,hx⟩:=hg
    obtain ⟨its,rv,p,hz⟩:=I.tuple hq
    obtain ⟨u,hu,ru⟩:=rv.get hx
    obtain ⟨f0,f1,f2,f3,f4,f5⟩:=hf it (by simp)
    refine wpAny_pyNext_tuple_item st (show s.heap.IsTuple a its.toArray from p) (x:=u) (by simpa using hu) fun h' st' sb => ?_
    have I1 : Inv X pins σ H { s with heap:=h' }:=I.turned (t':=s.toks) (fun b o hb e => (sb.2 b hb).trans e) f0 f1 f3 f4 f5
    obtain ⟨o,e,c,d⟩:=id st'
    exact ⟨u,rfl,go_of (s:={ s with heap:=h' }) e c d (by decide) ⟨x,H,I1,ru,⟨rfl,fun ys hy => by rw [I.tuple_inj hy hq]; exact hx⟩,st',fun b hb => (hf b hb).1⟩⟩
  done:=by
    intro X hP hw hK hc i pins s σ H E I hf st hg
    subst hP hw hK
    obtain ⟨xs,hq,hx⟩:=hg
    obtain ⟨its,rv,p,hz⟩:=I.tuple hq
    obtain ⟨f0,f1,f2,f3,f4,f5⟩:=hf it (by simp)
    have hl:=rv.length
    exact wpAny_pyNext_tuple_end (I.ok.hd hc) st (show s.heap.IsTuple a its.toArray from p) (by simp; omega) fun h' eb => ⟨rfl,I.turned (t':=s.toks) (fun b o hb e => eb b o hb e) f0 f1 f3 f4 f5⟩
  self:=fun _ _ _ _ _ st h => wpAny_pyIter_tupleiter st h
theorem turn_range {P : Program} {w : World} {K : PySem.W.Frag} {tg : Expr} (it : Addr) (lo : Int) (n : Nat) : Turn P w K tg (Itr lo n) [it] it (fun i h => IsRangeIter h it (lo + (i : Nat) * 1) ((n : Int) - (i : Nat)) 1) where
  mem:=by simp
  obj:=fun i h st b hb => by
    have e : b = it:=by simpa using hb
    subst e
    exact ⟨_,st,fun v z => by
      have z' : Data.fields _ = Data.cell v:=z
      cases z'⟩
  keep:=fun i h h' st k => k it (by simp) _ st
  item:=by
    intro X hP hw hK hc i pins s σ H E I hf st hg
    subst hP hw hK
    obtain ⟨f0,f1,f2,f3,f4,f5⟩:=hf it (by simp)
    have W:=Walks.range (prog:=X.prog) (w:=X.w) (I.ok.hd hc) it lo 1 n
    refine W.item i s _ _ hg st fun v h' tk hv st' kk => ?_
    obtain ⟨t,rfl⟩:=hv
    have I1 : Inv X pins σ H { s with heap:=h',toks:=tk }:=I.turned (fun b o hb e => kk b o (by simpa using hb) e) f0 f1 f3 f4 f5
    refine ⟨_,rfl,go_of (s:={ s with heap:=h',toks:=tk }) (n := "range_iterator") st' rfl rfl (by decide) ⟨.int (lo + i),H,I1,⟨t,?_⟩,⟨rfl,rfl⟩,st',fun b hb => (hf b hb).1⟩⟩
    rw [Int.mul_one]
  done:=by
    intro X hP hw hK hc i pins s σ H E I hf st hg
    subst hP hw hK
    obtain ⟨f0,f1,f2,f3,f4,f5⟩:=hf it (by simp)
    exact wpAny_pyNext_range_end (I.ok.hd hc) st (by have : n ≤ i:=hg; omega) fun h' eb => ⟨rfl,I.turned (t':=s.toks) (fun b o hb e => eb b o hb e) f0 f1 f3 f4 f5⟩
  self:=fun _ _ _ _ _ st h => wpAny_pyIter_rangeiter st h
section
variable {X : Cx} {tg : Expr}
def iList (K : PySem.W.Frag) (tl : TE) : TI:=fun σ H R => tl σ H fun x H1 => ∃ a,x = .ref a ∧ (∃ xs,SqL K H1 a xs) ∧ R (Itl K a) H1
def iTup (K : PySem.W.Frag) (tl : TE) : TI:=fun σ H R => tl σ H fun x H1 => ∃ a,x = .ref a ∧ (∃ xs,SqT K H1 a xs) ∧ R (Itt K a) H1
theorem pi_list {l : Expr} {tl : TE} (hl : PE X l tl) : PI X tg l (iList X.K tl):=by
  intro pins s σ H R I h
  refine thn (hl pins s σ H _ I h) fun v s1 ⟨x,H1,I1,r1,q1⟩ => ?_
  obtain ⟨a,e,⟨xs,hq⟩,q⟩:=q1
  subst e
  cases r1
  obtain ⟨its,rv,p,hz⟩:=I1.list hq
  refine wpAny_pyIter_list p.isList ?_
  refine ⟨s1.heap.objs.size,[s1.heap.objs.size],_,_,H1,rfl,I1.kept (t':=s1.toks) fun b o e => Heap.get?_push_of_some _ e,turn_list a _,⟨_,Heap.get?_push_size _ rfl,rfl,rfl⟩,fun b hb => ?_,q⟩
  have e : b = s1.heap.objs.size:=by simpa using hb
  subst e
  exact I1.fpOk (Nat.le_refl _) (I1.hok.fresh (Nat.le_refl _))
theorem pi_tup {l : Expr} {tl : TE} (hl : PE X l tl) : PI X tg l (iTup X.K tl):=by
  intro pins s σ H R I h
  refine thn (hl pins s σ H _ I h) fun v s1 ⟨x,H1,I1,r1,q1⟩ => ?_
  obtain ⟨a,e,⟨xs,hq⟩,q⟩:=q1
  subst e
  cases r1
  obtain ⟨its,rv,p,hz⟩:=I1.tuple hq
  refine wpAny_pyIter_tuple (show s1.heap.IsTuple a its.toArray from p) ?_
  refine ⟨s1.heap.objs.size,[s1.heap.objs.size],_,_,H1,rfl,I1.kept (t':=s1.toks) fun b o e => Heap.get?_push_of_some _ e,turn_tuple a _,⟨_,Heap.get?_push_size _ rfl,rfl,rfl⟩,fun b hb => ?_,q⟩
  have e : b = s1.heap.objs.size:=by simpa using hb
  subst e
  exact I1.fpOk (Nat.le_refl _) (I1.hok.fresh (Nat.le_refl _))
theorem range_it {pins : List (Addr × Obj)} {σ : St} {H : Hp} {s : Shared} {R : It → Hp → Prop} {E : Value → Shared → Prop} {lo hi : Int} {t u v : Tok} {tk : Nat} (I : Inv X pins σ H s) (h1 : -(2 ^ 62) ≤ lo) (h2 : lo < 2 ^ 62) (h3 : -(2 ^ 62) ≤ hi) (h4 : hi < 2 ^ 62)
    (q : R (Itr lo (hi - lo).toNat) H) : wpAny (model X.prog X.w) X.A (pyIter (.ref s.heap.objs.size)) (PIE X pins σ tg R) E { s with heap:=s.heap.push { cls:=.type "range", data:=.fields #[.int lo t,.int hi u,.int 1 v] },toks:=tk }:=by
  refine wpAny_pyIter_range (IsRange.new ..) (small_one h1 h2 h3 h4) ?_
  have I1 : Inv X pins σ H { s with heap:=s.heap.push { cls:=.type "range", data:=.fields #[.int lo t,.int hi u,.int 1 v] },toks:=tk }:=I.kept fun b o e => Heap.get?_push_of_some _ e
  refine ⟨(s.heap.push { cls:=.type "range", data:=.fields #[.int lo t,.int hi u,.int 1 v] }).objs.size,[(s.heap.push { cls:=.type "range", data:=.fields #[.int lo t,.int hi u,.int 1 v] }).objs.size],_,_,H,rfl,
    I1.kept (t':=tk) fun b o e => Heap.get?_push_of_some _ e,turn_range _ lo (hi - lo).toNat,?_,fun b hb => ?_,q⟩
  · have e1 : lo + ((0 : Nat) : Int) * 1 = lo:=by simp
    have e2 : (((hi - lo).toNat : Nat) : Int) - ((0 : Nat) : Int) = Builtin.Range.rangeSize lo hi 1:=by rw [rangeSize_one]; split <;> omega
    show IsRangeIter _ _ (lo + ((0 : Nat) : Int) * 1) ((((hi - lo).toNat : Nat) : Int) - ((0 : Nat) : Int)) 1
    rw [e1,e2]
    exact Heap.get?_push_size _ rfl
  · have e : b = (s.heap.push { cls:=.type "range", data:=.fields #[.int lo t,.int hi u,.int 1 v] }).objs.size:=by simpa using hb
    subst e
    exact I1.fpOk (Nat.le_refl _) (I1.hok.fresh (Nat.le_refl _))
def iRng1 (ta : TA) : TI:=fun σ H R => ta σ H fun vs H1 => ∃ j : Int,vs = [.int j] ∧ -(2 ^ 62) ≤ j ∧ j < 2 ^ 62 ∧ R (Itr 0 j.toNat) H1
def iRng2 (ta : TA) : TI:=fun σ H R => ta σ H fun vs H1 => ∃ i j : Int,vs = [.int i,.int j] ∧ (-(2 ^ 62) ≤ i ∧ i < 2 ^ 62 ∧ -(2 ^ 62) ≤ j ∧ j < 2 ^ 62) ∧ R (Itr i (j - i).toNat) H1
theorem pi_range1 {a : Expr} {ta : TA} {p pos : Pos} (hg : Gl X "range") (hm : X.mg "range" = none) (ha : PA X [a] ta) (hs : starEach [a] X.env = [(false,eval a X.env)]:=by rfl) : PI X tg (.Call (.Name "range" p) [a] [] pos) (iRng1 ta):=by
  intro pins s σ H R I h
  refine Call_ (ld_blt I hg hm boot_range (PyProof.Rows.callWith_type1 (thn (ha pos pins s σ H _ I h) fun us s1 ⟨vs,H1,I1,r1,q1⟩ => ?_) hs rfl))
  obtain ⟨j,e,q1,q2,q⟩:=q1
  subst e
  cases r1 with
  | cons r rr =>
    cases rr
    obtain ⟨t,rfl⟩:=r
    exact call_range_1 (range_it I1 (by omega) (by omega) q1 q2 (by simpa using q))
theorem pi_range2 {a b : Expr} {ta : TA} {p pos : Pos} (hg : Gl X "range") (hm : X.mg "range" = none) (ha : PA X [a,b] ta) (hs : starEach [a,b] X.env = [(false,eval a X.env),(false,eval b X.env)]:=by rfl) (hs2 : starEach [b] X.env = [(false,eval b X.env)]:=by rfl) :
    PI X tg (.Call (.Name "range" p) [a,b] [] pos) (iRng2 ta):=by
  intro pins s σ H R I h
  refine Call_ (ld_blt I hg hm boot_range (PyProof.Rows.callWith_type1 (thn (ha pos pins s σ H _ I h) fun us s1 ⟨vs,H1,I1,r1,q1⟩ => ?_) (by rw [hs,hs2]) (by rw [hs2]; rfl)))
  obtain ⟨i,j,e,⟨q1,q2,q3,q4⟩,q⟩:=q1
  subst e
  cases r1 with
  | cons r rr =>
    cases rr with
    | cons r' rr =>
      cases rr
      obtain ⟨t,rfl⟩:=r
      obtain ⟨t',rfl⟩:=r'
      exact call_range_2 (range_it I1 q1 q2 q3 q4 q)
def tFor (wi : TI) (g : TG) (tb : TS) : TS:=fun D σ H => wi σ H fun J H1 => ∃ W : Nat → Nat → St → Hp → Prop,(∃ m,W 0 m σ H1) ∧ ∀ i m σ H,W i m σ H →
  (J.stop i H ∧ D.nx σ H) ∨ (J.go i H ∧ ∃ N : St → Hp → Prop,(∀ σ' H',N σ' H' → ∃ m',m' < m ∧ W (i + 1) m' σ' H') ∧ ∀ x H',J.yld i H x H' → g x σ H' fun σ2 H2 => tb { D with nx:=N,ct:=N,bk:=D.nx } σ2 H2)
def pinsAt (fp : List Addr) (h : Heap) : List (Addr × Obj):=fp.filterMap fun b => (h.get? b).map fun o => (b,o)
theorem mem_pinsAt {fp : List Addr} {h : Heap} {b : Addr} {o : Obj} (hb : b ∈ fp) (e : h.get? b = some o) : (b,o) ∈ pinsAt fp h:=List.mem_filterMap.mpr ⟨b,hb,by rw [e]; rfl⟩
theorem of_pinsAt {fp : List Addr} {h : Heap} {p : Addr × Obj} (hp : p ∈ pinsAt fp h) : p.1 ∈ fp ∧ h.get? p.1 = some p.2:=by
  obtain ⟨b,hb,e⟩:=List.mem_filterMap.mp hp
  cases q : h.get? b with
  | none => rw [q] at e; cases e
  | some o =>
    rw [q] at e
    have e' : (b,o) = p:=Option.some.inj e
    subst e'
    exact ⟨hb,q⟩
theorem Inv.pinned {pins : List (Addr × Obj)} {σ : St} {H : Hp} {s : Shared} {fp : List Addr} (I : Inv X pins σ H s) (hf : ∀ b ∈ fp,FpOk X pins H b) (ho : ∀ b ∈ fp,∃ o,s.heap.get? b = some o ∧ ∀ v,o.data ≠ .cell v) : Inv X (pins ++ pinsAt fp s.heap) σ H s :=
  I.pins_of fun p hp => (List.mem_append.mp hp).elim (fun z => I.pin p (List.mem_append_right _ z)) fun z => by
    obtain ⟨hb,e⟩:=of_pinsAt z
    obtain ⟨f0,f1,f2,_⟩:=hf p.1 hb
    obtain ⟨o,e',d⟩:=ho p.1 hb
    rw [e] at e'; cases e'
    exact ⟨e,f0,f1,f2,d⟩
theorem Inv.unpinned {pins pl : List (Addr × Obj)} {σ : St} {H : Hp} {s : Shared} (I : Inv X (pins ++ pl) σ H s) : Inv X pins σ H s:=I.pins_of fun p hp => I.pin p (List.mem_append_right _ (List.mem_append_left _ hp))
theorem ps_for {iter : Expr} {body : List Stmt} {wi : TI} {g : TG} {tb : TS} {pos : Pos} (hp : PassesOwn (model X.prog X.w) X.A X.env X.xe) (hc : X.calm = true) (hi : PI X tg iter wi) (hg : PG X tg g) (hb : PSs X body tb)
    (hs : ∀ x,foldedSetIterable iter X.env x = pure x:=by intro _; rfl) : PS X (.For tg iter body [] pos) (tFor wi g tb):=by
  intro pins s σ H D I h
  refine wpAny_For (thn (hi pins s σ H _ I h) fun v s1 h1 => thn h1 fun itv s2 h2 => ?_) hs
  obtain ⟨it,fp,tn,J,H2,e,I2,T,st2,f2,W,⟨m0,w0⟩,turn⟩:=h2
  subst e
  -- what stays true of the iterator's objects through the loop
  have stat : ∀ {H' : Hp},(∀ b ∈ fp,H' b = none) → ∀ b ∈ fp,FpOk X pins H' b:=fun hn b hb => ⟨hn b hb,(f2 b hb).2⟩
  refine codeAny_forLoop_any (fun n s' => ∃ i σ' H',Inv X pins σ' H' s' ∧ tn i s'.heap ∧ (∀ b ∈ fp,H' b = none) ∧ W i n σ' H') ?_ m0 ⟨0,σ,H2,I2,st2,fun b hb => (f2 b hb).1,w0⟩
  rintro n s3 ⟨i,σ3,H3,I3,st3,fr3,w3⟩
  rcases turn i n σ3 H3 w3 with ⟨stop,qn⟩ | ⟨go,N,hN,step⟩
  · refine wpAny_passesOwn hp (thn (T.done X rfl rfl rfl hc i pins s3 σ3 H3 X.xe I3 (stat fr3) st3 stop) fun r s4 ⟨hr,I4⟩ => ?_)
    subst hr
    exact wpAny_execs_nil ⟨σ3,H3,I4,qn⟩
  · refine wpAny_passesOwn hp (thn (T.item X rfl rfl rfl hc i pins s3 σ3 H3 X.xe I3 (stat fr3) st3 go) fun r s4 ⟨u,hr,h4⟩ => ?_)
    subst hr
    refine wpAny_passesOwn hp (thn h4 fun _ s5 ⟨x,H5,I5,r5,y5,st5,fr5⟩ => ?_)
    have I5':=I5.pinned (stat fr5) (T.obj _ _ st5)
    refine wpAny_passesOwn hp (thn (hg _ s5 σ3 H5 x u _ I5' r5 (step x H5 y5)) fun _ s6 ⟨σ6,H6,I6,q6⟩ => ?_)
    refine wpAny_passesOwn hp (thn (hb _ s6 σ6 H6 _ I6 q6) fun f s7 q7 => ?_)
    have again : ∀ {σ7 : St} {H7 : Hp},Inv X (pins ++ pinsAt fp s5.heap) σ7 H7 s7 → N σ7 H7 → ∃ m,m < n ∧ ∃ i σ' H',Inv X pins σ' H' s7 ∧ tn i s7.heap ∧ (∀ b ∈ fp,H' b = none) ∧ W i m σ' H':=fun {σ7 H7} I7 n7 => by
      obtain ⟨m',hm,w7⟩:=hN σ7 H7 n7
      refine ⟨m',hm,i + 1,σ7,H7,I7.unpinned,T.keep _ _ _ st5 fun b hb o e => (I7.pin (b,o) (List.mem_append_right _ (List.mem_append_right _ (mem_pinsAt hb e)))).1,fun b hb => ?_,w7⟩
      obtain ⟨o,e,d⟩:=T.obj _ _ st5 b hb
      exact (I7.pin (b,o) (List.mem_append_right _ (List.mem_append_right _ (mem_pinsAt hb e)))).2.1
    cases f with
    | next => obtain ⟨σ7,H7,I7,n7⟩:=q7; exact again I7 n7
    | cont => obtain ⟨σ7,H7,I7,n7⟩:=q7; exact again I7 n7
    | brk => obtain ⟨σ7,H7,I7,q7⟩:=q7; exact ⟨σ7,H7,I7.unpinned,q7⟩
    | ret v => obtain ⟨x7,σ7,H7,I7,r7,q7⟩:=q7; exact ⟨x7,σ7,H7,I7.unpinned,r7,q7⟩
end
theorem for_list {K : PySem.W.Frag} {a : Addr} {xs : List V} {g : TG} {tb : TS} {D : Ends} {σ : St} {H : Hp} (Pv : Nat → St → Hp → Prop) (h0 : Pv 0 σ H) (hl : ∀ i σ H,i ≤ xs.length → Pv i σ H → SqL K H a xs)
    (hs : ∀ i x σ H,xs[i]? = some x → Pv i σ H → g x σ H fun σ2 H2 => tb { D with nx:=Pv (i + 1),ct:=Pv (i + 1),bk:=D.nx } σ2 H2) (hd : ∀ σ H,Pv xs.length σ H → D.nx σ H) :
    ∃ W : Nat → Nat → St → Hp → Prop,(∃ m,W 0 m σ H) ∧ ∀ i m σ H,W i m σ H →
      ((Itl K a).stop i H ∧ D.nx σ H) ∨ ((Itl K a).go i H ∧ ∃ N : St → Hp → Prop,(∀ σ' H',N σ' H' → ∃ m',m' < m ∧ W (i + 1) m' σ' H') ∧ ∀ x H',(Itl K a).yld i H x H' → g x σ H' fun σ2 H2 => tb { D with nx:=N,ct:=N,bk:=D.nx } σ2 H2):=by
  refine ⟨fun i m σ H => m = xs.length - i ∧ i ≤ xs.length ∧ Pv i σ H,⟨xs.length,by simp,Nat.zero_le _,h0⟩,?_⟩
  rintro i m σ H ⟨rfl,hi,p⟩
  have q:=hl i σ H hi p
  by_cases hlt : i < xs.length
  · refine .inr ⟨⟨xs,xs[i],q,by simp [hlt]⟩,Pv (i + 1),fun σ' H' p' => ⟨xs.length - (i + 1),by omega,rfl,hlt,p'⟩,fun x H' y => ?_⟩
    obtain ⟨e,y⟩:=y
    subst e
    exact hs i x σ _ (y xs q) p
  · have e : i = xs.length:=by omega
    subst e
    exact .inl ⟨⟨xs,q,Nat.le_refl _⟩,hd σ H p⟩
theorem for_range {lo : Int} {n : Nat} {g : TG} {tb : TS} {D : Ends} {σ : St} {H : Hp} (Pv : Nat → St → Hp → Prop) (h0 : Pv 0 σ H)
    (hs : ∀ i σ H,i < n → Pv i σ H → g (.int (lo + i)) σ H fun σ2 H2 => tb { D with nx:=Pv (i + 1),ct:=Pv (i + 1),bk:=D.nx } σ2 H2) (hd : ∀ σ H,Pv n σ H → D.nx σ H) :
    ∃ W : Nat → Nat → St → Hp → Prop,(∃ m,W 0 m σ H) ∧ ∀ i m σ H,W i m σ H →
      ((Itr lo n).stop i H ∧ D.nx σ H) ∨ ((Itr lo n).go i H ∧ ∃ N : St → Hp → Prop,(∀ σ' H',N σ' H' → ∃ m',m' < m ∧ W (i + 1) m' σ' H') ∧ ∀ x H',(Itr lo n).yld i H x H' → g x σ H' fun σ2 H2 => tb { D with nx:=N,ct:=N,bk:=D.nx } σ2 H2):=by
  refine ⟨fun i m σ H => m = n - i ∧ i ≤ n ∧ Pv i σ H,⟨n,by simp,Nat.zero_le _,h0⟩,?_⟩
  rintro i m σ H ⟨rfl,hi,p⟩
  by_cases hlt : i < n
  · refine .inr ⟨hlt,Pv (i + 1),fun σ' H' p' => ⟨n - (i + 1),by omega,rfl,hlt,p'⟩,fun x H' y => ?_⟩
    obtain ⟨e,y⟩:=y
    subst e y
    exact hs i σ _ hlt p
  · have e : i = n:=by omega
    subst e
    exact .inl ⟨Nat.le_refl _,hd σ H p⟩
abbrev R2:=V → V → Hp → VK → Prop
def OpR (X : Cx) (f : Value → Value → Sem Value) (r : R2) : Prop :=
  ∀ (pins : List (Addr × Obj)) (s : Shared) (σ : St) (H : Hp) (x y : V) (v u : Value) (Q : VK),Inv X pins σ H s → RelV x v → RelV y u → r x y H Q →
    wpAny (model X.prog X.w) X.A (f v u) (EP X pins σ Q) X.xe s
def UnR (X : Cx) (f : Value → Sem Value) (r : V → Hp → VK → Prop) : Prop :=
  ∀ (pins : List (Addr × Obj)) (s : Shared) (σ : St) (H : Hp) (x : V) (v : Value) (Q : VK),Inv X pins σ H s → RelV x v → r x H Q →
    wpAny (model X.prog X.w) X.A (f v) (EP X pins σ Q) X.xe s
def CallR (X : Cx) (f : Value) (r : List V → Hp → VK → Prop) : Prop :=
  ∀ (pins : List (Addr × Obj)) (s : Shared) (σ : St) (H : Hp) (xs : List V) (us : List Value) (Q : VK),Inv X pins σ H s → Vals xs us → r xs H Q →
    wpAny (model X.prog X.w) X.A (call f us) (EP X pins σ Q) X.xe s
def tOp (r : R2) (ta tb : TE) : TE:=fun σ H Q => ta σ H fun x H1 => tb σ H1 fun y H2 => r x y H2 Q
def tUn (r : V → Hp → VK → Prop) (ta : TE) : TE:=fun σ H Q => ta σ H fun x H1 => r x H1 Q
def rI (C : Int → Int → Prop) (g : Int → Int → V) : R2:=fun x y H Q => ∃ i j,x = .int i ∧ y = .int j ∧ C i j ∧ Q (g i j) H
def rI0 (g : Int → Int → V) : R2:=fun x y H Q => ∃ i j,x = .int i ∧ y = .int j ∧ Q (g i j) H
def rU (g : Int → V) : V → Hp → VK → Prop:=fun x H Q => ∃ i,x = .int i ∧ Q (g i) H
section
variable {X : Cx} {a b c : Expr} {ta tb tc : TE} {pos : Pos}
theorem binT (ha : PE X a ta) (hb : PE X b tb) {pins : List (Addr × Obj)} {s : Shared} {σ : St} {H : Hp} {R : V → V → Hp → Prop} (I : Inv X pins σ H s)
    (h : ta σ H fun x H1 => tb σ H1 fun y H2 => R x y H2) {Q : Value → Shared → Prop} {f : Value → Value → Sem Value}
    (hf : ∀ v u s2 x y H2,Inv X pins σ H2 s2 → RelV x v → RelV y u → R x y H2 → wpAny (model X.prog X.w) X.A (f v u) Q X.xe s2) :
    wpAny (model X.prog X.w) X.A (eval a X.env) (fun v s₁ => wpAny (model X.prog X.w) X.A (eval b X.env) (fun u s₂ => wpAny (model X.prog X.w) X.A (f v u) Q X.xe s₂) X.xe s₁) X.xe s:=by
  refine thn (ha pins s σ H _ I h) fun v s1 ⟨x,H1,I1,r1,q1⟩ => ?_
  refine thn (hb pins s1 σ H1 _ I1 q1) fun u s2 ⟨y,H2,I2,r2,q2⟩ => ?_
  exact hf v u s2 x y H2 I2 r1 r2 q2
theorem pe_op {op : Operator} {r : R2} (ho : OpR X (binaryOp op) r) (ha : PE X a ta) (hb : PE X b tb) : PE X (.BinOp a op b pos) (tOp r ta tb):=by
  intro pins s σ H Q I h
  exact wpAny_BinOp (binT ha hb I h fun v u s2 x y H2 I2 rx ry q => ho pins s2 σ H2 x y v u Q I2 rx ry q)
theorem pe_un {op : UnaryOp} {r : V → Hp → VK → Prop} (ho : UnR X (unaryOp op) r) (ha : PE X a ta) : PE X (.UnaryOp op a pos) (tUn r ta):=by
  intro pins s σ H Q I h
  exact UnaryOp_ (thn (ha pins s σ H _ I h) fun v s1 ⟨x,H1,I1,r1,q1⟩ => ho pins s1 σ H1 x v Q I1 r1 q1)
theorem opI {f : Value → Value → Sem Value} {C : Int → Int → Prop} {g : Int → Int → Int}
    (rule : ∀ (i j : Int) (t u : Tok) (s : Shared) (Q : Value → Shared → Prop) (E : Value → Shared → Prop),C i j → Q (.int (g i j) s.toks) { s with toks:=s.toks + 1 } → wpAny (model X.prog X.w) X.A (f (.int i t) (.int j u)) Q E s) :
    OpR X f (rI C fun i j => .int (g i j)):=by
  intro pins s σ H x y v u Q I rx ry h
  obtain ⟨i,j,rfl,rfl,hc,q⟩:=h
  obtain ⟨t,rfl⟩:=rx
  obtain ⟨t',rfl⟩:=ry
  exact rule i j t t' s _ _ hc ⟨.int (g i j),H,I.tok _,⟨_,rfl⟩,q⟩
theorem opI0 {f : Value → Value → Sem Value} {g : Int → Int → Int}
    (rule : ∀ (i j : Int) (t u : Tok) (s : Shared) (Q : Value → Shared → Prop) (E : Value → Shared → Prop),Q (.int (g i j) s.toks) { s with toks:=s.toks + 1 } → wpAny (model X.prog X.w) X.A (f (.int i t) (.int j u)) Q E s) :
    OpR X f (rI0 fun i j => .int (g i j)):=by
  intro pins s σ H x y v u Q I rx ry h
  obtain ⟨i,j,rfl,rfl,q⟩:=h
  obtain ⟨t,rfl⟩:=rx
  obtain ⟨t',rfl⟩:=ry
  exact rule i j t t' s _ _ ⟨.int (g i j),H,I.tok _,⟨_,rfl⟩,q⟩
theorem opB0 {f : Value → Value → Sem Value} {g : Int → Int → Bool}
    (rule : ∀ (i j : Int) (t u : Tok) (s : Shared) (Q : Value → Shared → Prop) (E : Value → Shared → Prop),Q (.bool (g i j)) s → wpAny (model X.prog X.w) X.A (f (.int i t) (.int j u)) Q E s) :
    OpR X f (rI0 fun i j => .bl (g i j)):=by
  intro pins s σ H x y v u Q I rx ry h
  obtain ⟨i,j,rfl,rfl,q⟩:=h
  obtain ⟨t,rfl⟩:=rx
  obtain ⟨t',rfl⟩:=ry
  exact rule i j t t' s _ _ ⟨.bl (g i j),H,I,rfl,q⟩
def CDiv (i j : Int) : Prop:=0 < j ∧ j < 1073741824
def CPow (i j : Int) : Prop:=0 ≤ j ∧ j ≤ 1000000 ∧ i.natAbs < 2 ^ 64
def CMul (i j : Int) : Prop:=(-(2 ^ 64) < i ∧ i < 2 ^ 64) ∨ (-(2 ^ 64) < j ∧ j < 2 ^ 64)
theorem CMul.ok {i j : Int} (h : CMul i j) : IntMulOk i j:=by
  rcases h with ⟨h1,h2⟩ | ⟨h1,h2⟩
  · exact .of_left (intBits_le_64 h1 h2)
  · exact .of_right (intBits_le_64 h1 h2)
theorem two_pow_nn (k : Nat) : (0 : Int) ≤ 2 ^ k:=by
  rw [two_pow_cast]
  exact Int.natCast_nonneg _
theorem op_add : OpR X (binaryOp .Add) (rI0 fun i j => .int (i + j)):=opI0 fun _ _ _ _ _ _ _ q => add_int q
theorem op_sub : OpR X (binaryOp .Sub) (rI0 fun i j => .int (i - j)):=opI0 fun _ _ _ _ _ _ _ q => sub_int q
theorem op_mul : OpR X (binaryOp .Mult) (rI CMul fun i j => .int (i * j)):=opI fun _ _ _ _ _ _ _ hc q => mul_int q hc.ok
theorem op_fdiv : OpR X (binaryOp .FloorDiv) (rI CDiv fun i j => .int (i / j)):=opI fun i j _ _ _ _ _ hc q => by
  have h1 : (0 : Int) < j:=hc.1
  have h2 : j < 1073741824:=hc.2
  exact floordiv_int (by omega) (by rw [Int.fdiv_eq_ediv_of_nonneg i (by omega)]; exact q) (.inl (PyProof.noPylong_small (by omega)))
theorem op_mod : OpR X (binaryOp .Mod) (rI (fun _ j => 0 < j) fun i j => .int (i % j)):=opI fun i j _ _ _ _ _ hc q => by
  have h1 : (0 : Int) < j:=hc
  exact mod_int' (by omega) (by rw [Int.fmod_eq_emod_of_nonneg i (by omega)]; exact q)
theorem op_pow : OpR X (binaryOp .Pow) (rI CPow fun i j => .int (i ^ j.toNat)):=opI fun _ _ _ _ _ _ _ hc q => pow_int_small hc.1 hc.2.1 hc.2.2 q
theorem op_shl : OpR X (binaryOp .LShift) (rI CPow fun i j => .int (i * 2 ^ j.toNat)):=opI fun _ _ _ _ _ _ _ hc q => lshift_int_small hc.1 hc.2.1 hc.2.2 q
theorem op_shr : OpR X (binaryOp .RShift) (rI (fun _ j => 0 ≤ j) fun i j => .int (i / 2 ^ j.toNat)):=opI fun i j _ _ _ _ _ hc q =>
  rshift_int hc (by rw [Int.fdiv_eq_ediv_of_nonneg i (two_pow_nn _)]; exact q)
theorem op_and : OpR X (binaryOp .BitAnd) (rI0 fun i j => .int (Builtin.bitAnd i j)):=opI0 fun _ _ _ _ _ _ _ q => and_int q
theorem op_or : OpR X (binaryOp .BitOr) (rI0 fun i j => .int (Builtin.bitOr i j)):=opI0 fun _ _ _ _ _ _ _ q => or_int q
theorem unI {f : Value → Sem Value} {g : Int → Int}
    (rule : ∀ (i : Int) (t : Tok) (s : Shared) (Q : Value → Shared → Prop) (E : Value → Shared → Prop),Q (.int (g i) s.toks) { s with toks:=s.toks + 1 } → wpAny (model X.prog X.w) X.A (f (.int i t)) Q E s) :
    UnR X f (rU fun i => .int (g i)):=by
  intro pins s σ H x v Q I rx h
  obtain ⟨i,rfl,q⟩:=h
  obtain ⟨t,rfl⟩:=rx
  exact rule i t s _ _ ⟨.int (g i),H,I.tok _,⟨_,rfl⟩,q⟩
theorem un_neg : UnR X (unaryOp .USub) (rU fun i => .int (-i)):=unI fun _ _ _ _ _ q => neg_int q
end
def scal : V → V → Bool
  | .non,.non => true | .non,.int _ => true | .int _,.non => true | .non,.bl _ => true | .bl _,.non => true | .non,.str _ => true | .str _,.non => true
  | .int _,.int _ => true | .bl _,.bl _ => true | .str _,.str _ => true | .byt _,.byt _ => true
  | .int _,.str _ => true | .str _,.int _ => true | .bl _,.str _ => true | .str _,.bl _ => true
  | _,_ => false
def rEq : R2:=fun x y H Q => scal x y = true ∧ Q (.bl (decide (x = y))) H
def rNe : R2:=fun x y H Q => scal x y = true ∧ Q (.bl (!decide (x = y))) H
theorem dec_int {i j : Int} : decide (V.int i = V.int j) = (i == j):=by
  rw [Bool.eq_iff_iff]
  simp
theorem dec_bl {i j : Bool} : decide (V.bl i = V.bl j) = (i == j):=by
  rw [Bool.eq_iff_iff]
  simp
theorem dec_str {i j : Str} : decide (V.str i = V.str j) = (i == j):=by
  rw [Bool.eq_iff_iff]
  simp
theorem dec_byt {i j : Array UInt8} : decide (V.byt i = V.byt j) = (i.toList == j.toList):=by
  rw [Bool.eq_iff_iff]
  cases i
  cases j
  simp
section
variable {X : Cx} {a b c : Expr} {ta tb tc : TE} {pos : Pos}
theorem fin_bl {pins : List (Addr × Obj)} {σ : St} {H : Hp} {s : Shared} {Q : VK} {k k' : Bool} (I : Inv X pins σ H s) (q : Q (.bl k) H) (e : k = k') : EP X pins σ Q (.bool k') s:=by
  subst e
  exact ⟨.bl k,H,I,rfl,q⟩
theorem op_eq : OpR X (compareOp .Eq) rEq:=by
  intro pins s σ H x y v u Q I rx ry h
  obtain ⟨hs,q⟩:=h
  cases x with
  | non =>
    cases rx
    cases y with
    | non => cases ry; exact PySem.EqNone.eq_none_none (fin_bl I q (by simp))
    | bl j => cases ry; exact PySem.EqNone.eq_none_bool (fin_bl I q (by simp))
    | int j => obtain ⟨t',rfl⟩:=ry; exact PySem.EqNone.eq_none_int (fin_bl I q (by simp))
    | str j => obtain ⟨t',rfl⟩:=ry; exact PySem.EqNone.eq_none_str (fin_bl I q (by simp))
    | _ => exact absurd (show false = true from hs) Bool.false_ne_true
  | bl i =>
    cases rx
    cases y with
    | non => cases ry; exact PySem.EqNone.eq_bool_none (fin_bl I q (by simp))
    | bl j => cases ry; exact eq_bool (fin_bl I q dec_bl)
    | str j => obtain ⟨t',rfl⟩:=ry; exact PySem.EqMixed.eq_bool_str (fin_bl I q (by simp))
    | _ => exact absurd (show false = true from hs) Bool.false_ne_true
  | int i =>
    obtain ⟨t,rfl⟩:=rx
    cases y with
    | non => cases ry; exact PySem.EqNone.eq_int_none (fin_bl I q (by simp))
    | int j => obtain ⟨t',rfl⟩:=ry; exact eq_int (fin_bl I q dec_int)
    | str j => obtain ⟨t',rfl⟩:=ry; exact PySem.EqMixed.eq_int_str (fin_bl I q (by simp))
    | _ => exact absurd (show false = true from hs) Bool.false_ne_true
  | str i =>
    obtain ⟨t,rfl⟩:=rx
    cases y with
    | non => cases ry; exact PySem.EqNone.eq_str_none (fin_bl I q (by simp))
    | bl j => cases ry; exact PySem.EqMixed.eq_str_bool (fin_bl I q (by simp))
    | int j => obtain ⟨t',rfl⟩:=ry; exact PySem.EqMixed.eq_str_int (fin_bl I q (by simp))
    | str j => obtain ⟨t',rfl⟩:=ry; exact eq_str (fin_bl I q dec_str)
    | _ => exact absurd (show false = true from hs) Bool.false_ne_true
  | byt i =>
    obtain ⟨t,rfl⟩:=rx
    cases y with
    | byt j => obtain ⟨t',rfl⟩:=ry; exact PySem.W.eq_bytes (fin_bl I q dec_byt)
    | _ => exact absurd (show false = true from hs) Bool.false_ne_true
  | _ => cases y <;> exact absurd (show false = true from hs) Bool.false_ne_true
theorem op_ne : OpR X (compareOp .NotEq) rNe:=by
  intro pins s σ H x y v u Q I rx ry h
  obtain ⟨hs,q⟩:=h
  cases x with
  | non =>
    cases rx
    cases y with
    | non => cases ry; exact PySem.EqNone.ne_none_none (fin_bl I q (by simp))
    | bl j => cases ry; exact PySem.EqNone.ne_none_bool (fin_bl I q (by simp))
    | int j => obtain ⟨t',rfl⟩:=ry; exact PySem.EqNone.ne_none_int (fin_bl I q (by simp))
    | str j => obtain ⟨t',rfl⟩:=ry; exact PySem.EqNone.ne_none_str (fin_bl I q (by simp))
    | _ => exact absurd (show false = true from hs) Bool.false_ne_true
  | bl i =>
    cases rx
    cases y with
    | non => cases ry; exact PySem.EqNone.ne_bool_none (fin_bl I q (by simp))
    | bl j => cases ry; exact ne_bool (fin_bl I q (congrArg not dec_bl))
    | str j => obtain ⟨t',rfl⟩:=ry; exact PySem.EqMixed.ne_bool_str (fin_bl I q (by simp))
    | _ => exact absurd (show false = true from hs) Bool.false_ne_true
  | int i =>
    obtain ⟨t,rfl⟩:=rx
    cases y with
    | non => cases ry; exact PySem.EqNone.ne_int_none (fin_bl I q (by simp))
    | int j => obtain ⟨t',rfl⟩:=ry; exact ne_int (fin_bl I q (congrArg not dec_int))
    | str j => obtain ⟨t',rfl⟩:=ry; exact PySem.EqMixed.ne_int_str (fin_bl I q (by simp))
    | _ => exact absurd (show false = true from hs) Bool.false_ne_true
  | str i =>
    obtain ⟨t,rfl⟩:=rx
    cases y with
    | non => cases ry; exact PySem.EqNone.ne_str_none (fin_bl I q (by simp))
    | bl j => cases ry; exact PySem.EqMixed.ne_str_bool (fin_bl I q (by simp))
    | int j => obtain ⟨t',rfl⟩:=ry; exact PySem.EqMixed.ne_str_int (fin_bl I q (by simp))
    | str j => obtain ⟨t',rfl⟩:=ry; exact ne_str (fin_bl I q (congrArg not dec_str))
    | _ => exact absurd (show false = true from hs) Bool.false_ne_true
  | byt i =>
    obtain ⟨t,rfl⟩:=rx
    cases y with
    | byt j => obtain ⟨t',rfl⟩:=ry; exact PySem.W.ne_bytes (fin_bl I q (congrArg not dec_byt))
    | _ => exact absurd (show false = true from hs) Bool.false_ne_true
  | _ => cases y <;> exact absurd (show false = true from hs) Bool.false_ne_true
theorem op_lt : OpR X (compareOp .Lt) (rI0 fun i j => .bl (decide (i < j))):=opB0 fun _ _ _ _ _ _ _ q => lt_int q
theorem op_le : OpR X (compareOp .LtE) (rI0 fun i j => .bl (decide (i ≤ j))):=opB0 fun _ _ _ _ _ _ _ q => le_int q
theorem op_gt : OpR X (compareOp .Gt) (rI0 fun i j => .bl (decide (j < i))):=opB0 fun _ _ _ _ _ _ _ q => gt_int q
theorem op_ge : OpR X (compareOp .GtE) (rI0 fun i j => .bl (decide (j ≤ i))):=opB0 fun _ _ _ _ _ _ _ q => ge_int q
theorem op_isN : OpR X (compareOp .Is) (fun x y H Q => y = .non ∧ Q (.bl (decide (x = .non))) H):=by
  intro pins s σ H x y v u Q I rx ry h
  obtain ⟨rfl,q⟩:=h
  cases ry
  refine is_none_gen (fin_bl I q ?_)
  cases x <;> first
    | (cases rx; rfl)
    | (obtain ⟨t,rfl⟩:=rx; rfl)
theorem nomark (b : Expr) {op : CmpOp} (h : op ≠ .In:=by decide) (h2 : op ≠ .NotIn:=by decide) : behindInMarks op b = false:=by
  have e1 : (op == CmpOp.In) = false:=by cases op <;> first | rfl | exact absurd rfl h
  have e2 : (op == CmpOp.NotIn) = false:=by cases op <;> first | rfl | exact absurd rfl h2
  cases b <;> simp [behindInMarks,e1,e2]
theorem pe_cmpR {op : CmpOp} {r : R2} (ho : OpR X (compareOp op) r) (ha : PE X a ta) (hb : PE X b tb) (hm : behindInMarks op b = false) : PE X (.Compare a [op] [b] pos) (tOp r ta tb):=by
  intro pins s σ H Q I h
  exact wpAny_Compare1 (binT ha hb I h fun v u s2 x y H2 I2 rx ry q => ho pins s2 σ H2 x y v u Q I2 rx ry q) hm
def tTest (t : TE) : TT:=fun σ H Q => t σ H fun x H' => ∃ k,x = .bl k ∧ Q k H'
theorem pt_cmpR {op : CmpOp} {r : R2} (ho : OpR X (compareOp op) r) (ha : PE X a ta) (hb : PE X b tb) (hm : behindInMarks op b = false) : PT X (.Compare a [op] [b] pos) (tTest (tOp r ta tb)):=by
  intro pins s σ H Q I h
  refine wpAny_isTrue_Compare1 (thn (ha pins s σ H _ I h) fun v s1 ⟨x,H1,I1,r1,q1⟩ => thn (hb pins s1 σ H1 _ I1 q1) fun u s2 ⟨y,H2,I2,r2,q2⟩ =>
    thn (ho pins s2 σ H2 x y v u _ I2 r1 r2 q2) fun c s3 ⟨z,H3,I3,r3,k,e,q3⟩ => ?_) hm
  subst e
  cases r3
  exact wpAny_truthy_bool ⟨H3,I3,q3⟩
def tChain (r r' : R2) (ta tb tc : TE) : TE:=fun σ H Q => ta σ H fun x H1 => tb σ H1 fun y H2 => r x y H2 fun z H3 => ∃ k,z = .bl k ∧
  (if k = true then tc σ H3 fun w' H4 => r' y w' H4 Q else Q (.bl false) H3)
theorem pe_chain {op op' : CmpOp} {r r' : R2} (ho : OpR X (compareOp op) r) (ho' : OpR X (compareOp op') r') (ha : PE X a ta) (hb : PE X b tb) (hc : PE X c tc)
    (hm : lastMarks [op,op'] [b,c] = false:=by with_unfolding_all rfl) : PE X (.Compare a [op,op'] [b,c] pos) (tChain r r' ta tb tc):=by
  intro pins s σ H Q I h
  refine Compare_chain (thn (ha pins s σ H _ I h) fun v s1 ⟨x,H1,I1,r1,q1⟩ => chain_link (thn (hb pins s1 σ H1 _ I1 q1) fun u s2 ⟨y,H2,I2,r2,q2⟩ =>
    thn (ho pins s2 σ H2 x y v u _ I2 r1 r2 q2) fun d s3 ⟨z,H3,I3,r3,k,e,q3⟩ => ?_)) hm
  subst e
  cases r3
  refine wpAny_truthy_bool ?_
  cases k with
  | false => exact ite_ff ⟨.bl false,H3,I3,rfl,q3⟩
  | true => exact ite_tt (chain_last (thn (hc pins s3 σ H3 _ I3 q3) fun w' s4 ⟨z',H4,I4,r4,q4⟩ => ho' pins s4 σ H4 y z' u w' Q I4 r2 r4 q4))
theorem pt_chain {op op' : CmpOp} {r r' : R2} (ho : OpR X (compareOp op) r) (ho' : OpR X (compareOp op') r') (ha : PE X a ta) (hb : PE X b tb) (hc : PE X c tc)
    (hm : lastMarks [op,op'] [b,c] = false:=by with_unfolding_all rfl) : PT X (.Compare a [op,op'] [b,c] pos) (tTest (tChain r r' ta tb tc)):=by
  intro pins s σ H Q I h
  refine isTrue_chain (thn (ha pins s σ H _ I h) fun v s1 ⟨x,H1,I1,r1,q1⟩ => test_link (thn (hb pins s1 σ H1 _ I1 q1) fun u s2 ⟨y,H2,I2,r2,q2⟩ =>
    thn (ho pins s2 σ H2 x y v u _ I2 r1 r2 q2) fun d s3 ⟨z,H3,I3,r3,k,e,q3⟩ => ?_)) hm
  subst e
  cases r3
  refine wpAny_truthy_bool ?_
  cases k with
  | false =>
    obtain ⟨k',e',q'⟩:=q3
    cases e'
    exact ite_ff ⟨H3,I3,q'⟩
  | true =>
    refine ite_tt (test_last (thn (hc pins s3 σ H3 _ I3 q3) fun w' s4 ⟨z',H4,I4,r4,q4⟩ => thn (ho' pins s4 σ H4 y z' u w' _ I4 r2 r4 q4) fun d' s5 ⟨z2,H5,I5,r5,k2,e2,q5⟩ => ?_))
    subst e2
    cases r5
    exact wpAny_truthy_bool ⟨H5,I5,q5⟩
theorem line63 : (sizeLine : Nat) < 2 ^ 63:=by rw [sizeLine_eq]; decide
theorem vals1 {x : V} {us : List Value} (r : Vals [x] us) : ∃ u,us = [u] ∧ RelV x u:=by
  cases r with
  | cons r1 r2 => cases r2; exact ⟨_,rfl,r1⟩
theorem call_int1 : CallR X (.type "int") (fun xs H Q => (∃ i,xs = [.int i] ∧ Q (.int i) H) ∨ ∃ k,xs = [.bl k] ∧ Q (.int (if k then 1 else 0)) H):=by
  intro pins s σ H xs us Q I r h
  rcases h with ⟨i,rfl,q⟩ | ⟨k,rfl,q⟩
  · obtain ⟨u,rfl,t,rfl⟩:=vals1 r
    exact call_int_int ⟨.int i,H,I,⟨_,rfl⟩,q⟩
  · obtain ⟨u,rfl,r1⟩:=vals1 r
    cases r1
    exact call_int_bool ⟨.int (if k then 1 else 0),H,I.tok _,⟨_,rfl⟩,q⟩
end
structure ObjM (h : Heap) (x dx C : Addr) (mA : Str → Option Value) : Prop where
  obj : h.get? x = some (PySem.W.instObj C dx)
  ns : h.Ns1 dx mA
  ne : dx ≠ x
theorem lookIn_ns {h : Heap} {dx : Addr} {mA : Str → Option Value} (n : h.Ns1 dx mA) : ∃ od,h.get? dx = some od ∧ ∀ name,PySem.W.lookIn name od = some (mA name):=by
  obtain ⟨o,es,ep,ho,hd,hk,_,hm⟩:=n
  refine ⟨o,ho,fun name => ?_⟩
  have e:=hm name
  unfold nsFind findBy at e
  rw [← Array.find?_toList] at e
  unfold PySem.W.lookIn
  rw [hd]
  dsimp only
  split
  · rename_i y q
    rw [q] at e
    exact congrArg some e
  · rename_i q
    rw [q] at e
    have a : es.toList.any (·.refKey) = false:=by
      rw [List.any_eq_false]
      intro y hy
      obtain ⟨z,t,hkey⟩:=hk y (Array.mem_toList_iff.mp hy)
      simp [DictEntry.refKey,hkey]
    have a' : ¬ es.toList.any (·.refKey) = true:=by rw [a]; exact Bool.false_ne_true
    rw [if_neg a']
    exact congrArg some e
theorem ObjM.look {h : Heap} {x dx C : Addr} {mA : Str → Option Value} (I : ObjM h x dx C mA) : ∃ od,PySem.W.InstAt h x (PySem.W.instObj C dx) C (some od) ∧ ∀ name,PySem.W.lookIn name od = some (mA name) :=
  let ⟨od,ho,hl⟩:=lookIn_ns I.ns
  ⟨od,⟨I.obj,rfl,rfl,ho⟩,hl⟩
section
variable {prog : Program} {w : World} {A : Around} {E : Value → Shared → Prop} {s : Shared} {K : PySem.W.Frag} {x dx C f : Addr} {mA : Str → Option Value} {name : Str} {v : Value}
theorem get_map {expr : Bool} {Q : Value → Shared → Prop} (X : K.In s.heap) (I : ObjM s.heap x dx C mA) (hg : PySem.W.plainGet K C name = true) (hh : PySem.W.hasDictIn K C = true)
    (ha : PySem.W.findIn K (.ref C) name = some none) (hv : mA name = some v) (hv' : PySem.W.handedIn v = true) (h : Q v { s with toks:=s.toks + 1 }) :
    wpAny (model prog w) A (getAttr (.ref x) name expr) Q E s:=by
  obtain ⟨od,J,hl⟩:=I.look
  exact PySem.W.get_value X J (PySem.W.plainGet_of hg).1 (PySem.W.findObj_own hh ha rfl (by rw [hl,hv])) hv' h
theorem set_map {ns : List Str} {Q : Unit → Shared → Prop} (X : K.In s.heap) (I : ObjM s.heap x dx C mA)
    (hs : PySem.W.findIn K (.ref C) "__setattr__" = some (some (.builtin "object.__setattr__"))) (hp : PySem.W.plainOver K C = true) (ht : PySem.W.takerIn K C name = some none) (hh : PySem.W.hasDictIn K C = true)
    (hw : PySem.Within mA ns) (hsz : ns.length ≤ sizeLine)
    (h : ∀ h',ObjM h' x dx C (fun y => if y = name then some v else mA y) → Heap.SameBut dx s.heap h' → Q () { s with heap:=h',toks:=s.toks + 2 }) :
    wpAny (model prog w) A (setAttr (.ref x) name v) Q E s:=by
  obtain ⟨od,J,hl⟩:=I.look
  refine PySem.W.set_plain X J hs (PySem.W.osa_open (s:={ s with toks:=s.toks + 1 }) (r:=none) X J hp ht fun b => ?_)
  obtain ⟨cd,hc,hd'⟩:=PySem.W.any_some hh
  have hx : s.heap.get? x = some ⟨.ref C,some dx,.plain,#[]⟩:=I.obj
  refine wpAny_bind (wpAny_pure (wpAny_bind (wpAny_bind (wpAny_loadPart hx (wpAny_bind (PySem.W.Looks.here (s:={ s with toks:=s.toks + 1 }) (PySem.W.looks_clsIn X hc) ?_))))))
  rw [hd']
  refine wpAny_pure (a:=some dx) (wpAny_bind (wpAny_pure (wpAny_bind ?_)))
  refine wpAny_nsSet1 (s:={ s with toks:=s.toks + 1 }) I.ns fun h' hn2 hs2 => ?_
  obtain ⟨oD,esD,epD,hoD,hdD,hcD⟩:=hn2.count (PySem.Within.cons name v hw)
  refine wpAny_bind (wpAny_lookBehind hoD (by rw [hdD]; exact pastItsLine_dict (Nat.le_trans hcD (by rw [List.length_cons]; omega))) ?_)
  exact wpAny_pure (h _ ⟨(hs2.2 _ (Ne.symm I.ne)).trans I.obj,hn2,I.ne⟩ hs2)
theorem make_map {R : Result → Shared → Prop} {vs : List Value} {kw : List (Str × Value)} (X : K.In s.heap) (hm : PySem.W.makesIn K C = true)
    (hi : PySem.W.findIn K (.ref C) "__init__" = some (some (.ref f))) (hf : PySem.W.typeIn K (.ref f) = some (.type "function"))
    (h : codeAny (model prog w) (A.under (.builtin "type.__call__" ⟨.ref C :: vs,kw⟩)) (.call (.ref f) ⟨.ref (s.heap.objs.size + 1) :: vs,kw⟩) (PySem.W.InitBack (s.heap.objs.size + 1) R)
      { s with heap:=(s.heap.push PySem.W.emptyDict).push (PySem.W.instObj C s.heap.objs.size) }) :
    codeAny (model prog w) A (.call (.ref C) ⟨vs,kw⟩) R s:=by
  obtain ⟨hh,g,d,t,os⟩:=s
  exact PySem.W.make_core (PySem.W.makes_of X hm) (PySem.W.looks_findIn X hi) (fun self => PySem.W.bind_fn X self hf) (.inl rfl) h
end
def putF (f : Str) (v : V) : List (Str × V) → List (Str × V)
  | [] => [(f,v)]
  | (g,x) :: r => if g = f then (g,v) :: r else (g,x) :: putF f v r
theorem lookup_putF (f g : Str) (v : V) : ∀ fs : List (Str × V),(putF f v fs).lookup g = if g = f then some v else fs.lookup g
  | [] => by
    show List.lookup g [(f,v)] = _
    by_cases h : g = f
    · have hb : (g == f) = true:=beq_iff_eq.mpr h
      simp only [List.lookup,hb,if_pos h]
    · have hb : (g == f) = false:=beq_eq_false_iff_ne.mpr h
      simp only [List.lookup,hb,if_neg h]
  | (k,x) :: r => by
    have ih:=lookup_putF f g v r
    rw [show putF f v ((k,x) :: r) = (if k = f then (k,v) :: r else (k,x) :: putF f v r) from rfl]
    by_cases hk : k = f
    · rw [if_pos hk]
      by_cases h : g = k
      · have hb : (g == k) = true:=beq_iff_eq.mpr h
        simp only [List.lookup,hb,if_pos (h.trans hk)]
      · have hb : (g == k) = false:=beq_eq_false_iff_ne.mpr h
        simp only [List.lookup,hb,if_neg (fun e : g = f => h (e.trans hk.symm))]
    · rw [if_neg hk]
      by_cases h : g = k
      · have hb : (g == k) = true:=beq_iff_eq.mpr h
        simp only [List.lookup,hb,if_neg (fun e : g = f => hk (h.symm.trans e))]
      · have hb : (g == k) = false:=beq_eq_false_iff_ne.mpr h
        simp only [List.lookup,hb]
        exact ih
theorem keys_putF (f : Str) (v : V) : ∀ fs : List (Str × V),f ∈ (putF f v fs).map (·.1) ∧ ∀ g,g ∈ fs.map (·.1) → g ∈ (putF f v fs).map (·.1)
  | [] => ⟨by simp [putF],fun g h => by simp at h⟩
  | (k,x) :: r => by
    obtain ⟨i1,i2⟩:=keys_putF f v r
    rw [show putF f v ((k,x) :: r) = (if k = f then (k,v) :: r else (k,x) :: putF f v r) from rfl]
    by_cases hk : k = f
    · rw [if_pos hk]
      subst hk
      exact ⟨by simp,fun g h => by simpa using h⟩
    · rw [if_neg hk]
      refine ⟨?_,fun g h => ?_⟩
      · rw [List.map_cons]
        exact List.mem_cons_of_mem _ i1
      · rw [List.map_cons] at h ⊢
        rcases List.mem_cons.mp h with e | e
        · exact List.mem_cons.mpr (.inl e)
        · exact List.mem_cons_of_mem _ (i2 g e)
theorem length_putF (f : Str) (v : V) : ∀ fs : List (Str × V),(putF f v fs).length ≤ fs.length + 1
  | [] => by simp [putF]
  | (k,x) :: r => by
    have ih:=length_putF f v r
    rw [show putF f v ((k,x) :: r) = (if k = f then (k,v) :: r else (k,x) :: putF f v r) from rfl]
    by_cases hk : k = f
    · rw [if_pos hk,List.length_cons,List.length_cons]; omega
    · rw [if_neg hk,List.length_cons,List.length_cons]; omega
theorem RelO.some_of {v : V} {o : Option Value} (r : RelO (some v) o) : ∃ u,o = some u ∧ RelV v u:=by
  cases o with
  | none => exact (show False from r).elim
  | some u => exact ⟨u,rfl,r⟩
theorem handed_of {v : V} {u : Value} (r : RelV v u) : PySem.W.handedIn u = true:=by
  cases v with
  | non => cases (show u = Value.none from r); rfl
  | bl b => cases (show u = Value.bool b from r); rfl
  | int i => obtain ⟨t,e⟩:=(show ∃ t,u = Value.int i t from r); cases e; rfl
  | str x => obtain ⟨t,e⟩:=(show ∃ t,u = Value.str x t from r); cases e; rfl
  | byt b => obtain ⟨t,e⟩:=(show ∃ t,u = Value.bytes b t from r); cases e; rfl
  | flt b => obtain ⟨t,e⟩:=(show ∃ t,u = Value.float b t from r); cases e; rfl
  | ref a => cases (show u = Value.ref a from r); rfl
  | ty n => cases (show u = Value.type n from r); rfl
section
variable {P : Program} {w : World} {H H' : Hp} {h h' : Heap} {a C dx : Addr} {fs fs' : List (Str × V)}
theorem ins_get (hok : HOk P w H h) (e : H a = some (.ins C dx fs)) : ∃ mA,ObjM h a dx C mA ∧ (∀ f,RelO (fs.lookup f) (mA f)) ∧ PySem.Within mA (fs.map (·.1)) ∧ fs.length ≤ 1000 ∧ H dx = some (.own a):=by
  obtain ⟨d,z,ne,ob,mA,n,r,q⟩:=(show ObjOk P w H h a (.ins C dx fs) from hok a _ e)
  exact ⟨mA,⟨ob,n,ne⟩,r,q,z,d⟩
end
structure Cls (K : PySem.W.Frag) (C : Addr) : Prop where
  pg : PySem.W.plainGet K C Str.empty = true
  hd : PySem.W.hasDictIn K C = true
  po : PySem.W.plainOver K C = true
  sa : PySem.W.findIn K (.ref C) "__setattr__" = some (some (.builtin "object.__setattr__"))
theorem Cls.get {K : PySem.W.Frag} {C : Addr} (c : Cls K C) (f : Str) : PySem.W.plainGet K C f = true:=c.pg
def NoAttr (K : PySem.W.Frag) (C : Addr) (f : Str) : Prop:=PySem.W.findIn K (.ref C) f = some none
theorem NoAttr.taker {K : PySem.W.Frag} {C : Addr} {f : Str} (n : NoAttr K C f) : PySem.W.takerIn K C f = some none:=by
  unfold PySem.W.takerIn
  rw [show PySem.W.findIn K (.ref C) f = some none from n]
  rfl
section
variable {X : Cx} {pins : List (Addr × Obj)} {σ : St} {H : Hp} {s : Shared} {a C dx : Addr} {fs : List (Str × V)} {f : Str} {v : V} {A : Around} {E : Value → Shared → Prop}
theorem getattr_ok {b : Bool} {Q : Value → Shared → Prop} (I : Inv X pins σ H s) (e : H a = some (.ins C dx fs)) (c : Cls X.K C) (n : NoAttr X.K C f) (l : fs.lookup f = some v)
    (h : ∀ u s',Inv X pins σ H s' → RelV v u → Q u s') : wpAny (model X.prog X.w) A (getAttr (.ref a) f b) Q E s:=by
  obtain ⟨mA,O,r,_,_,_⟩:=ins_get I.hok e
  obtain ⟨u,hu,ru⟩:=RelO.some_of (v:=v) (o:=mA f) (by rw [← l]; exact r f)
  exact get_map I.kIn O (c.get f) c.hd n hu (handed_of ru) (h u _ (I.tok _) ru)
theorem setattr_ok {y : V} {u : Value} {Q : Unit → Shared → Prop} (I : Inv X pins σ H s) (e : H a = some (.ins C dx fs)) (c : Cls X.K C) (n : NoAttr X.K C f) (hl : fs.length < 1000) (ry : RelV y u)
    (h : ∀ s',Inv X pins σ (upd H a (.ins C dx (putF f y fs))) s' → Q () s') : wpAny (model X.prog X.w) A (setAttr (.ref a) f u) Q E s:=by
  obtain ⟨mA,O,r,wi,_,ho⟩:=ins_get I.hok e
  have hz : (fs.map (·.1)).length ≤ sizeLine:=by rw [List.length_map,sizeLine_eq]; omega
  refine set_map I.kIn O c.sa c.po n.taker c.hd wi hz fun h' O' sb => h _ ?_
  have hd : ∃ o,h'.get? dx = some o:=let ⟨o,_,_,e',_⟩:=O'.ns; ⟨o,e'⟩
  refine I.write (x:=a) (e:=dx) (by rw [e]; exact True.intro) (.inr ho) (fun b q hb z => (sb.2 b hb).trans z) hd ?_
  refine ⟨by rw [upd_ne O.ne]; exact ho,?_,O.ne,O'.obj,_,O'.ns,fun g => ?_,fun g hg => ?_⟩
  · have:=length_putF f y fs; omega
  · show RelO ((putF f y fs).lookup g) (if g = f then some u else mA g)
    rw [lookup_putF]
    by_cases q : g = f
    · rw [if_pos q,if_pos q]; exact ry
    · rw [if_neg q,if_neg q]; exact r g
  · by_cases q : g = f
    · rw [q]; exact (keys_putF f y fs).1
    · refine (keys_putF f y fs).2 g (wi g fun z => hg ?_)
      show (if g = f then some u else mA g) = none
      rw [if_neg q]; exact z
theorem Inv.made (I : Inv X pins σ H s) : Inv X pins σ (upd (upd H s.heap.objs.size (.own (s.heap.objs.size + 1))) (s.heap.objs.size + 1) (.ins C s.heap.objs.size []))
    { s with heap:=(s.heap.push PySem.W.emptyDict).push (PySem.W.instObj C s.heap.objs.size) }:=by
  have e1 : (s.heap.push PySem.W.emptyDict).get? s.heap.objs.size = some PySem.W.emptyDict:=Heap.get?_push_size s.heap rfl
  have e2 : ((s.heap.push PySem.W.emptyDict).push (PySem.W.instObj C s.heap.objs.size)).get? (s.heap.objs.size + 1) = some (PySem.W.instObj C s.heap.objs.size):=by
    have:=Heap.get?_push_size (s.heap.push PySem.W.emptyDict) (o:=PySem.W.instObj C s.heap.objs.size) rfl
    rwa [Heap.size_push] at this
  have e3 : (s.heap.push PySem.W.emptyDict).Ns s.heap.objs.size (fun _ => none):=⟨PySem.W.emptyDict,#[],_,e1,rfl,(fun e he => absurd he (by simp)),fun _ => rfl⟩
  have I1:=I.laid (a:=s.heap.objs.size) (o:=.own (s.heap.objs.size + 1)) (h':=s.heap.push PySem.W.emptyDict) (t':=s.toks) (fun b u q => Heap.get?_push_of_some _ q) (Nat.le_refl _) ⟨_,e1⟩
  refine I1.laid (a:=s.heap.objs.size + 1) (o:=.ins C s.heap.objs.size []) (t':=s.toks) (fun b u q => Heap.get?_push_of_some _ q) (Nat.le_of_eq (Heap.size_push _ _)) ?_
  have ne : s.heap.objs.size ≠ s.heap.objs.size + 1:=Nat.ne_of_lt (Nat.lt_succ_self _)
  refine ⟨by rw [upd_ne ne,upd_same],Nat.zero_le _,ne,e2,fun _ => none,(Heap.Ns1.of_empty e3).at fun o q => Heap.get?_push_of_some _ q,fun _ => True.intro,fun y hy => absurd rfl hy⟩
theorem attr_of {prog : Program} {w : World} {env : Env} {e : Expr} {f : Str} {pos : Pos} {s : Shared} {Q : Value → Shared → Prop} (hb : attributeBase e f env (eval e env) = eval e env)
    (h : wpAny (model prog w) A (eval e env) (fun o s₁ => wpAny (model prog w) A (getAttr o f true) Q E s₁) E s) : wpAny (model prog w) A (eval (.Attribute e f pos) env) Q E s :=
  Attribute_any_ h (by rw [arm_eval_Attribute,hb])
end
def tFld (K : PySem.W.Frag) (ta : TE) (f : Str) : TE:=fun σ H Q => ta σ H fun x H1 => ∃ a C dx fs v,x = .ref a ∧ H1 a = some (.ins C dx fs) ∧ Cls K C ∧ NoAttr K C f ∧ fs.lookup f = some v ∧ Q v H1
def sFld (K : PySem.W.Frag) (ta tv : TE) (f : Str) : TS:=fun D σ H => tv σ H fun y H1 => ta σ H1 fun x H2 => ∃ a C dx fs,x = .ref a ∧ H2 a = some (.ins C dx fs) ∧ Cls K C ∧ NoAttr K C f ∧ fs.length < 1000 ∧
  D.nx σ (upd H2 a (.ins C dx (putF f y fs)))
section
variable {X : Cx} {o e value : Expr} {f : Str} {pos pos' tpos : Pos} {ta tv : TE}
theorem pe_fld (he : PE X e ta) (hb : attributeBase e f X.env (eval e X.env) = eval e X.env) : PE X (.Attribute e f pos) (tFld X.K ta f):=by
  intro pins s σ H Q I h
  refine attr_of hb (thn (he pins s σ H _ I h) fun u s1 ⟨x,H1,I1,rx,a,C,dx,fs,v,ex,ea,c,n,l,q⟩ => ?_)
  subst ex
  obtain rfl : u = Value.ref a:=rx
  exact getattr_ok I1 ea c n l fun u' s2 I2 ru => ⟨v,H1,I2,ru,q⟩
theorem ps_fld (ha : PE X o ta) (hv : PE X value tv) (hs : swapsWith value (some (.Attribute o f pos')) pos.line X.env = pure false) : PS X (.Assign [.Attribute o f pos'] value pos) (sFld X.K ta tv f):=by
  intro pins s σ H D I h
  refine plainObj_wpAny_Assign_Attribute (thn (hv pins s σ H _ I h) fun u s1 ⟨y,H1,I1,ry,q⟩ => thn (ha pins s1 σ H1 _ I1 q) fun ov s2 ⟨x,H2,I2,rx,a,C,dx,fs,ex,ea,c,n,l,q2⟩ => ?_) hs
  subst ex
  obtain rfl : ov = Value.ref a:=rx
  exact setattr_ok I2 ea c n l ry fun s3 I3 => ⟨σ,_,I3,q2⟩
end
section
variable {X : Cx} {pins : List (Addr × Obj)} {σ : St} {H : Hp} {s : Shared} {A : Around} {E : Value → Shared → Prop} {Q : Value → Shared → Prop} {c : Value} {b : Bool}
inductive TyOf (K : PySem.W.Frag) (H : Hp) : V → Value → Prop where
  | non : TyOf K H .non (.type "NoneType")
  | bl (x : Bool) : TyOf K H (.bl x) (.type "bool")
  | int (i : Int) : TyOf K H (.int i) (.type "int")
  | str (x : Str) : TyOf K H (.str x) (.type "str")
  | flt (x : UInt64) : TyOf K H (.flt x) (.type "float")
  | lst {a : Addr} {xs : List V} (e : H a = some (.lst xs)) : TyOf K H (.ref a) (.type "list")
  | frz {a : Addr} {o : Obj} {xs : List V} (e : H a = some (.frz o (.lst xs))) : TyOf K H (.ref a) (.type "list")
  | tup {a : Addr} {xs : List V} (e : H a = some (.tup xs)) : TyOf K H (.ref a) (.type "tuple")
  | dK {a : Addr} {kvs : List (Key × V)} (e : H a = some (.dK kvs)) : TyOf K H (.ref a) (.type "dict")
  | dT {a : Addr} {kvs : List (List Key × V)} (e : H a = some (.dT kvs)) : TyOf K H (.ref a) (.type "dict")
  | ins {a C dx : Addr} {fs : List (Str × V)} (e : H a = some (.ins C dx fs)) (cl : Cls K C) (ha : PySem.W.findIn K (.ref C) "__class__" = some (some (.builtin "object.__class__")))
      (hn : PySem.W.specialIn K (.builtin "object.__class__") "__get__" = some (some (.builtin "getset_descriptor.__get__"))) (htk : PySem.W.takesIn K (.builtin "object.__class__") = some true)
      (hm : PySem.W.mroIn K C (.type "object") = some true) : TyOf K H (.ref a) (.ref C)
theorem isinst_ok {x : V} {u t : Value} (I : Inv X pins σ H s) (rx : RelV x u) (ty : TyOf X.K H x t) (e : PySem.W.kitOne X.K t c = some b) (h : ∀ tk,Q (.bool b) { s with toks:=tk }) :
    wpAny (model X.prog X.w) A (call (.builtin "isinstance") [u,c]) Q E s:=by
  cases ty with
  | non => cases (show u = Value.none from rx); exact PySem.W.kia_one PySem.W.kitx_none I.kIn True.intro e (fun z => nomatch z) h
  | bl y => cases (show u = Value.bool y from rx); exact PySem.W.kia_one PySem.W.kitx_bool I.kIn True.intro e (fun z => nomatch z) h
  | int i => obtain ⟨t,q⟩:=(show ∃ t,u = Value.int i t from rx); cases q; exact PySem.W.kia_one PySem.W.kitx_int I.kIn True.intro e (fun z => nomatch z) h
  | str y => obtain ⟨t,q⟩:=(show ∃ t,u = Value.str y t from rx); cases q; exact PySem.W.kia_one PySem.W.kitx_str I.kIn True.intro e (fun z => nomatch z) h
  | flt y => obtain ⟨t,q⟩:=(show ∃ t,u = Value.float y t from rx); cases q; exact PySem.W.kia_one PySem.W.kitx_float I.kIn True.intro e (fun z => nomatch z) h
  | @lst a xs ea =>
    cases (show u = Value.ref a from rx)
    obtain ⟨_,_,n,_,h1⟩:=(show ObjOk X.prog X.w H s.heap a (.lst xs) from I.hok a _ ea)
    exact PySem.W.kia_one PySem.W.kitx_list I.kIn ⟨_,h1,rfl⟩ e (fun z => nomatch z) h
  | @frz a ob xs ea =>
    cases (show u = Value.ref a from rx)
    obtain ⟨_,_,_,n,_,h1⟩:=(show ObjOk X.prog X.w H s.heap a (.frz ob (.lst xs)) from I.hok a _ ea)
    exact PySem.W.kia_one PySem.W.kitx_list I.kIn ⟨_,h1,rfl⟩ e (fun z => nomatch z) h
  | @tup a xs ea =>
    cases (show u = Value.ref a from rx)
    obtain ⟨_,_,_,p,_⟩:=(show ObjOk X.prog X.w H s.heap a (.tup xs) from I.hok a _ ea)
    obtain ⟨o,h1,h2,_⟩:=p
    exact PySem.W.kia_one PySem.W.kitx_tuple I.kIn ⟨o,h1,h2⟩ e (fun z => nomatch z) h
  | @dK a kvs ea =>
    cases (show u = Value.ref a from rx)
    obtain ⟨_,_,vs,_,p⟩:=(show ObjOk X.prog X.w H s.heap a (.dK kvs) from I.hok a _ ea)
    obtain ⟨o,es,ep,h1,h2,_⟩:=p
    exact PySem.W.kia_one PySem.W.kitx_dict I.kIn ⟨o,h1,h2.1⟩ e (fun z => nomatch z) h
  | @dT a kvs ea =>
    cases (show u = Value.ref a from rx)
    obtain ⟨_,_,xs,_,o,es,ep,h1,h2,_⟩:=(show ObjOk X.prog X.w H s.heap a (.dT kvs) from I.hok a _ ea)
    exact PySem.W.kia_one PySem.W.kitx_dict I.kIn ⟨o,h1,h2.1⟩ e (fun z => nomatch z) h
  | @ins a C dx fs ea cl ha hn htk hm =>
    cases (show u = Value.ref a from rx)
    obtain ⟨mA,O,_⟩:=ins_get I.hok ea
    obtain ⟨od,J,_⟩:=O.look
    exact PySem.W.kia_one (PySem.W.kitx_own (cl.get _) cl.hd ha hn htk hm) I.kIn J e (fun z => nomatch z) h
end
structure Room (k : Nat) (A : Around) : Prop where
  hd : A.handled = none
  dp : A.depth + 3 * k + 5 < recursionLimit
  un : A.units + 16 * k + 200 < cLine
  gd : A.guards = some []
theorem Room.mono {j k : Nat} {A : Around} (r : Room k A) (h : j ≤ k) : Room j A:=⟨r.hd,by have:=r.dp; omega,by have:=r.un; omega,r.gd⟩
theorem Room.deeper {k : Nat} {A : Around} (r : Room (k + 1) A) (env : Env) : Room k (A.deeper env) :=
  ⟨r.hd,by have:=r.dp; show A.depth + 1 + 3 * k + 5 < _; omega,by have:=r.un; show A.units + 3 + 16 * k + 200 < _; omega,r.gd⟩
theorem make_depth {A : Around} {C : Addr} {us : List Value} {kw : List (Str × Value)} : (A.under (.builtin "type.__call__" ⟨.ref C :: us,kw⟩)).depth = A.depth + 1:=by
  first | rfl | simp [Around.under,Code.weight,Code.isCreation,Code.isGuard,Code.isCaller,Code.frames,Code.isFrame,guardIds]
theorem make_units {A : Around} {C : Addr} {us : List Value} {kw : List (Str × Value)} : (A.under (.builtin "type.__call__" ⟨.ref C :: us,kw⟩)).units = A.units + 1:=by
  first | rfl | simp [Around.under,Code.cUnits,Code.frames,Code.isFrame]
theorem make_guards {A : Around} {C : Addr} {us : List Value} {kw : List (Str × Value)} : (A.under (.builtin "type.__call__" ⟨.ref C :: us,kw⟩)).guards = A.guards:=by
  first | rfl | (cases h : A.guards <;> simp [Around.under,Code.guards,pushGuards,Code.isGuard,guardIds,h])
theorem Room.make {k : Nat} {A : Around} (r : Room (k + 1) A) (C : Addr) (us : List Value) (kw : List (Str × Value)) : Room k (A.under (.builtin "type.__call__" ⟨.ref C :: us,kw⟩)) :=
  ⟨r.hd,by have:=r.dp; rw [make_depth]; omega,by have:=r.un; rw [make_units]; omega,by rw [make_guards]; exact r.gd⟩
theorem Room.depth {k : Nat} {A : Around} (r : Room k A) : A.depth < recursionLimit:=by have:=r.dp; omega
theorem Room.units {k : Nat} {A : Around} (r : Room k A) : A.units + 64 < cLine:=by have:=r.un; omega
def tNil : TA:=fun _ H Q => Q [] H
def tCons (ta : TE) (tr : TA) : TA:=fun σ H Q => ta σ H fun x H1 => tr σ H1 fun xs H2 => Q (x :: xs) H2
section
variable {X : Cx} {e : Expr} {es : List Expr} {te : TE} {t : TA} {pos : Pos}
theorem pa_nil : PA X [] tNil:=fun _ _ _ _ H Q I h => Calls.spliced_nil ⟨[],H,I,.nil,h⟩
theorem pa_cons (ha : PE X e te) (hr : PA X es t) (hs : starEach (e :: es) X.env = (false,eval e X.env) :: starEach es X.env:=by rfl) : PA X (e :: es) (tCons te t):=by
  intro pos pins s σ H Q I h
  rw [hs]
  show wpAny _ _ (spliced ((false,eval e X.env) :: backTo pos (starEach es X.env))) _ _ s
  refine Calls.spliced_cons (thn (ha pins s σ H _ I h) fun u s1 ⟨x,H1,I1,r1,q1⟩ => ?_)
  exact thn (hr pos pins s1 σ H1 _ I1 q1) fun us s2 ⟨xs,H2,I2,r2,q2⟩ => ⟨x :: xs,H2,I2,.cons r1 r2,q2⟩
def tTup (t : TA) : TE:=fun σ H Q => t σ H fun xs H1 => xs.length ≤ sizeLine ∧ ∀ p,H1 p = none → Q (.ref p) (upd H1 p (.tup xs))
def tLst (t : TA) : TE:=fun σ H Q => t σ H fun xs H1 => xs.length ≤ sizeLine ∧ ∀ p,H1 p = none → Q (.ref p) (upd H1 p (.lst xs))
theorem pe_tup {x1} (h : PA X es t) : PE X (.Tuple es x1 pos) (tTup t):=by
  intro pins s σ H Q I hq
  refine wpAny_Tuple_spliced (thn (h pos pins s σ H _ I hq) fun us s1 ⟨xs,H1,I1,r,z,q⟩ => ⟨by rw [← r.length]; exact z,?_⟩)
  have hf : H1 s1.heap.objs.size = none:=I1.hok.fresh (Nat.le_refl _)
  refine ⟨.ref s1.heap.objs.size,upd H1 s1.heap.objs.size (.tup xs),I1.laid (t':=s1.toks) (fun b u e => Heap.get?_push_of_some _ e) (Nat.le_refl _) ?_,rfl,q _ hf⟩
  exact ⟨z,us,r,⟨_,Heap.get?_push_size _ rfl,rfl,_,rfl⟩,_,Heap.get?_push_size _ rfl,rfl⟩
theorem pe_lst (h : PA X es t) : PE X (.List es pos) (tLst t):=by
  intro pins s σ H Q I hq
  refine wpAny_List_spliced (thn (h pos pins s σ H _ I hq) fun us s1 ⟨xs,H1,I1,r,z,q⟩ => ⟨by rw [← r.length]; exact z,?_⟩)
  have hf : H1 s1.heap.objs.size = none:=I1.hok.fresh (Nat.le_refl _)
  refine ⟨.ref s1.heap.objs.size,upd H1 s1.heap.objs.size (.lst xs),I1.laid (t':=s1.toks) (fun b u e => Heap.get?_push_of_some _ e) (Nat.le_refl _) ?_,rfl,q _ hf⟩
  exact ⟨z,us,0,r,Heap.get?_push_size _ rfl⟩
end
abbrev Sp:=List V → Hp → VK → XK → Prop
abbrev CXT:=List Env → Hp → Shared → XK → Value → Shared → Prop
structure Env0 (P : Program) (w : World) (K : PySem.W.Frag) (mg : Str → Option Value) (base : Heap) (A : Around) (outer : List Env) (s : Shared) (H : Hp) : Prop where
  frames : A.frames = some outer
  mod : Mod K mg base
  bs : ∀ b o,base.get? b = some o → s.heap.get? b = some o ∧ H b = none
  bsz : base.objs.size ≤ s.heap.objs.size
  funs : s.heap.FunFrames base outer
  frf : ∀ b ∈ frs outer,H b = none
  hok : HOk P w H s.heap
  bare : AllBare s.gens
def CE (outer : List Env) (P : Program) (w : World) (H : Hp) (s : Shared) (Q : VK) (u : Value) (s' : Shared) : Prop :=
  ∃ v H',s'.os = s.os ∧ AllBare s'.gens ∧ Un (frs outer) [] H H' s.heap s'.heap ∧ HOk P w H' s'.heap ∧ RelV v u ∧ Q v H'
def CR (CX : CXT) (outer : List Env) (P : Program) (w : World) (H : Hp) (s : Shared) (Q : VK) (E : XK) (r : Result) (s' : Shared) : Prop :=
  match r with
  | .ok (.ret u) => CE outer P w H s Q u s'
  | .ok _ => False
  | .error e => CX outer H s E e s'
structure FnOk (P : Program) (w : World) (K : PySem.W.Frag) (mg : Str → Option Value) (base : Heap) (CX : CXT) (k : Nat) (f : Addr) (fd : FuncData) (ps : List Str) (sp : Sp) : Prop where
  len : ∀ vs H Q E,sp vs H Q E → vs.length = ps.length
  run : ∀ (A : Around) (outer : List Env) (s : Shared) (H : Hp) (args : Args) (us : List Value) (vs : List V) (Q : VK) (E : XK),Room k A → Env0 P w K mg base A outer s H → BindsTo s fd args (ps.zip us) → Vals vs us → sp vs H Q E →
    codeAny (model P w) A (.call (.ref f) args) (CR CX outer P w H s Q E) s
theorem FnOk.mono {P : Program} {w : World} {K : PySem.W.Frag} {mg : Str → Option Value} {base : Heap} {CX : CXT} {j k : Nat} {f : Addr} {fd : FuncData} {ps : List Str} {sp : Sp} (F : FnOk P w K mg base CX j f fd ps sp) (h : j ≤ k) :
    FnOk P w K mg base CX k f fd ps sp:=⟨F.len,fun A outer s H args us vs Q E hr => F.run A outer s H args us vs Q E (hr.mono h)⟩
theorem Env0.make {P : Program} {w : World} {K : PySem.W.Frag} {mg : Str → Option Value} {base : Heap} {A : Around} {outer : List Env} {s : Shared} {H : Hp} (e : Env0 P w K mg base A outer s H) (C : Addr) (us : List Value) (kw : List (Str × Value)) :
    Env0 P w K mg base (A.under (.builtin "type.__call__" ⟨.ref C :: us,kw⟩)) outer s H:=⟨by first | exact e.frames | (simpa [Around.under,Code.envs,Code.isFrame,pushEnvs] using e.frames),e.mod,e.bs,e.bsz,e.funs,e.frf,e.hok,e.bare⟩
section
variable {X : Cx} {pins : List (Addr × Obj)} {σ : St} {H : Hp} {s s' : Shared}
theorem Inv.env0 (I : Inv X pins σ H s) : Env0 X.prog X.w X.K X.mg X.base X.A X.stack s H :=
  ⟨I.ok.frames,I.ok.mod,I.bs,Nat.le_trans I.ok.bsz I.sz,I.stack,I.stkFree,I.hok,I.bare⟩
theorem Inv.after {Q : VK} {u : Value} (I : Inv X pins σ H s) (h : CE X.stack X.prog X.w H s Q u s') : EP X pins σ Q u s':=by
  obtain ⟨v,H',os,bare,un,hok,r,q⟩:=h
  obtain ⟨hh,g,d,t,os'⟩:=s'
  obtain rfl : os' = s.os:=os
  exact ⟨v,H',I.call (h':=hh) (g':=g) (d':=d) (t':=t) (ch:=[]) un hok bare (fun b z => absurd z (by simp)),r,q⟩
end
def tCall (sp : Sp) (dvs : List V) (E : XK) (t : TA) : TE:=fun σ H Q => t σ H fun vs H1 => sp (vs ++ dvs) H1 Q E
def tMake (C : Addr) (sp : Sp) (dvs : List V) (E : XK) (t : TA) : TE:=fun σ H Q => t σ H fun vs H1 => ∀ x dx,H1 x = none → H1 dx = none → dx ≠ x →
  sp (.ref x :: (vs ++ dvs)) (upd (upd H1 dx (.own x)) x (.ins C dx [])) (fun v H2 => v = .non ∧ Q (.ref x) H2) E
def Binds (K : PySem.W.Frag) (fd : FuncData) (ps : List Str) (ds : List Value) : Prop :=
  ∀ (s : Shared) (us : List Value),K.In s.heap → (us ++ ds).length = ps.length → BindsTo s fd ⟨us,[]⟩ (ps.zip (us ++ ds))
theorem Binds.all {K : PySem.W.Frag} {fd : FuncData} {ps : List Str} (h : ∀ us : List Value,us.length = ps.length → bindArgs fd ⟨us,[]⟩ = pure (ps.zip us)) : Binds K fd ps []:=fun s us _ hl => by
  rw [List.append_nil] at hl ⊢
  exact .of_eq (h us hl)
def Passes (CX : CXT) (X : Cx) (E : XK) : Prop := ∀ (pins : List (Addr × Obj)) (σ : St) (H : Hp) (s : Shared) (e : Value) (s' : Shared),Inv X pins σ H s → CX X.stack H s E e s' → X.xe e s'
section
variable {X : Cx} {CX : CXT} {k : Nat} {f C : Addr} {fd : FuncData} {ps : List Str} {sp : Sp} {dvs : List V} {ds : List Value} {E : XK} {x m : Str} {p pos apos : Pos} {e o : Expr} {es : List Expr} {ta : TE} {t : TA}
theorem run_fn {pins : List (Addr × Obj)} {σ : St} {H : Hp} {s : Shared} {Q : VK} {us : List Value} {vs : List V} (F : FnOk X.prog X.w X.K X.mg X.base CX k f fd ps sp) (hr : Room k X.A) (hb : Binds X.K fd ps ds) (hd : Vals dvs ds) (hx : Passes CX X E)
    (I : Inv X pins σ H s) (r : Vals vs us) (h : sp (vs ++ dvs) H Q E) : wpAny (model X.prog X.w) X.A (call (.ref f) us) (EP X pins σ Q) X.xe s:=by
  have r2 : Vals (vs ++ dvs) (us ++ ds):=r.append hd
  have hl : (us ++ ds).length = ps.length:=by rw [← r2.length]; exact F.len _ _ _ _ h
  refine wpAny_call (codeAny_mono (F.run X.A X.stack s H ⟨us,[]⟩ (us ++ ds) (vs ++ dvs) Q E hr I.env0 (hb s us I.kIn hl) r2 h) fun r s' hq => ?_)
  cases r with
  | error e => exact hx pins σ H s e s' I hq
  | ok fl =>
    cases fl with
    | ret u => exact I.after hq
    | next => exact False.elim hq
    | brk => exact False.elim hq
    | cont => exact False.elim hq
theorem pe_call (F : FnOk X.prog X.w X.K X.mg X.base CX k f fd ps sp) (hr : Room k X.A) (hg : Gl X x) (hm : X.mg x = some (.ref f)) (hk : PySem.W.keepIn X.K (.ref f) = true) (hb : Binds X.K fd ps ds) (hd : Vals dvs ds) (hx : Passes CX X E)
    (ha : PA X (e :: es) t) (hdb : (x == ("__debug__" : Str)) = false:=by decide) (he : starEach (e :: es) X.env = (false,eval e X.env) :: starEach es X.env:=by rfl) (hpl : (backTo pos (starEach es X.env)).any (·.1) = false:=by rfl) :
    PE X (.Call (.Name x p) (e :: es) [] pos) (tCall sp dvs E t):=by
  intro pins s σ H Q I h
  refine wpAny_Call_Name_kw (ld_glob I hg hm ?_ hdb)
  refine PySem.W.callWith_K (h₀:=X.base) I.ok.mod.kin hk (thn (ha pos pins s σ H _ I h) fun us s1 ⟨vs,H1,I1,r,q⟩ => ⟨I1.kIn,?_⟩) he hpl
  exact run_fn F hr hb hd hx I1 r q
theorem pe_call0 (F : FnOk X.prog X.w X.K X.mg X.base CX k f fd ps sp) (hr : Room k X.A) (hg : Gl X x) (hm : X.mg x = some (.ref f)) (hk : PySem.W.keepIn X.K (.ref f) = true) (hb : Binds X.K fd ps ds) (hd : Vals dvs ds) (hx : Passes CX X E)
    (hdb : (x == ("__debug__" : Str)) = false:=by decide) : PE X (.Call (.Name x p) [] [] pos) (tCall sp dvs E tNil):=by
  intro pins s σ H Q I h
  refine wpAny_Call_Name_kw (ld_glob I hg hm ?_ hdb)
  exact PySem.W.callWith_K0 I.kIn hk (run_fn (us:=[]) F hr hb hd hx I .nil h)
structure Mk (K : PySem.W.Frag) (C f : Addr) : Prop where
  makes : PySem.W.makesIn K C = true
  init : PySem.W.findIn K (.ref C) "__init__" = some (some (.ref f))
  fn : PySem.W.isFn K (.ref f) = true
  kp : PySem.W.keepIn K (.ref C) = true
theorem run_make {pins : List (Addr × Obj)} {σ : St} {H : Hp} {s : Shared} {Q : VK} {us : List Value} {vs : List V} (M : Mk X.K C f) (F : FnOk X.prog X.w X.K X.mg X.base CX k f fd ps sp) (hr : Room (k + 1) X.A) (hb : Binds X.K fd ps ds) (hd : Vals dvs ds)
    (hx : Passes CX X E) (I : Inv X pins σ H s) (r : Vals vs us)
    (h : ∀ x dx,H x = none → H dx = none → dx ≠ x → sp (.ref x :: (vs ++ dvs)) (upd (upd H dx (.own x)) x (.ins C dx [])) (fun v H2 => v = .non ∧ Q (.ref x) H2) E) :
    wpAny (model X.prog X.w) X.A (call (.ref C) us) (EP X pins σ Q) X.xe s:=by
  have hq:=h (s.heap.objs.size + 1) s.heap.objs.size (I.hok.fresh (Nat.le_succ _)) (I.hok.fresh (Nat.le_refl _)) (Nat.ne_of_lt (Nat.lt_succ_self _))
  have I2:=Inv.made (C:=C) I
  have r2 : Vals (V.ref (s.heap.objs.size + 1) :: (vs ++ dvs)) (Value.ref (s.heap.objs.size + 1) :: (us ++ ds)):=.cons rfl (r.append hd)
  have hl : (Value.ref (s.heap.objs.size + 1) :: us ++ ds).length = ps.length:=by
    have e:=r2.length
    rw [F.len _ _ _ _ hq] at e
    exact e.symm
  refine wpAny_call (make_map (f:=f) I.kIn M.makes M.init (beq_iff_eq.mp M.fn) (codeAny_mono (F.run _ X.stack _ _ ⟨Value.ref (s.heap.objs.size + 1) :: us,[]⟩ (Value.ref (s.heap.objs.size + 1) :: (us ++ ds)) _ _ E (hr.make C us [])
    (I2.env0.make C us []) (hb _ (Value.ref (s.heap.objs.size + 1) :: us) I2.kIn hl) r2 hq) fun r s' hq' => ?_))
  cases r with
  | error e => exact hx pins σ _ _ e s' I2 hq'
  | ok fl =>
    cases fl with
    | ret u =>
      obtain ⟨v,H',I3,rv,ev,q3⟩:=I2.after hq'
      subst ev
      exact ⟨rv,⟨V.ref (s.heap.objs.size + 1),H',I3,rfl,q3⟩⟩
    | next => exact False.elim hq'
    | brk => exact False.elim hq'
    | cont => exact False.elim hq'
theorem pe_make (M : Mk X.K C f) (F : FnOk X.prog X.w X.K X.mg X.base CX k f fd ps sp) (hr : Room (k + 1) X.A) (hg : Gl X x) (hm : X.mg x = some (.ref C)) (hb : Binds X.K fd ps ds) (hd : Vals dvs ds) (hx : Passes CX X E)
    (ha : PA X (e :: es) t) (hdb : (x == ("__debug__" : Str)) = false:=by decide) (he : starEach (e :: es) X.env = (false,eval e X.env) :: starEach es X.env:=by rfl) (hpl : (backTo pos (starEach es X.env)).any (·.1) = false:=by rfl) :
    PE X (.Call (.Name x p) (e :: es) [] pos) (tMake C sp dvs E t):=by
  intro pins s σ H Q I h
  refine wpAny_Call_Name_kw (ld_glob I hg hm ?_ hdb)
  refine PySem.W.callWith_K (h₀:=X.base) I.ok.mod.kin M.kp (thn (ha pos pins s σ H _ I h) fun us s1 ⟨vs,H1,I1,r,q⟩ => ⟨I1.kIn,?_⟩) he hpl
  exact run_make M F hr hb hd hx I1 r q
end
section
variable {X : Cx} {CX : CXT} {k : Nat} {f C : Addr} {fd : FuncData} {ps ks : List Str} {sp : Sp} {E : XK} {x m : Str} {p pos apos kpos : Pos} {e o : Expr} {es : List Expr} {kws : List Keyword} {te ta : TE} {t tk : TA} {nm : Option Str}
variable {g : List Value → List Value → List Value} {gV : List V → List V → List V}
end
structure FnScope (N P : List Str) (sc : Scope) : Prop where
  kind : sc.kind = .function
  co : sc.isCoroutine = false
  gen : sc.isGenerator = false
  nd : N.Nodup
  pre : N.take P.length = P
  par : ∀ x ∈ P,sc.names.lookup x = some .local ∨ sc.names.lookup x = some .cell
  nofree : ∀ y ∈ sc.names,y.2 ≠ .free
theorem bindL_out {kindOf : Str → Option NameKind} {x : Str} : ∀ {binds : List (Str × Value)} {m : Str → Option Value},(∀ v,(x,v) ∉ binds) → bindL kindOf binds m x = m x
  | [],_,_ => rfl
  | (n,v) :: r,m,h => by
    unfold bindL
    rw [bindL_out fun w hw => h w (List.mem_cons_of_mem _ hw)]
    split
    · have : x ≠ n:=by rintro rfl; exact h v List.mem_cons_self
      simp [this]
    · rfl
theorem bindC_out {kindOf : Str → Option NameKind} {x : Str} : ∀ {binds : List (Str × Value)} {m : Str → Option Value},(∀ v,(x,v) ∉ binds) → bindC kindOf binds m x = m x
  | [],_,_ => rfl
  | (n,v) :: r,m,h => by
    unfold bindC
    rw [bindC_out fun w hw => h w (List.mem_cons_of_mem _ hw)]
    split
    · rfl
    · have : x ≠ n:=by rintro rfl; exact h v List.mem_cons_self
      simp [this]
theorem bindL_get {kindOf : Str → Option NameKind} {x : Str} {v : Value} : ∀ {P : List Str} {vs : List Value} {i : Nat} {m : Str → Option Value},P.Nodup → P[i]? = some x → vs[i]? = some v → kindOf x = some .local →
    bindL kindOf (P.zip vs) m x = some v
  | [],_,_,_,_,h,_,_ => by simp at h
  | _ :: _,[],_,_,_,_,h,_ => by simp at h
  | p :: P,w :: vs,0,m,nd,h1,h2,hk => by
    simp at h1 h2; subst h1; subst h2
    show bindL kindOf ((p,w) :: P.zip vs) m p = _
    unfold bindL
    rw [bindL_out fun v hv => (List.nodup_cons.mp nd).1 (List.of_mem_zip hv).1,if_pos hk]
    simp
  | p :: P,w :: vs,i + 1,m,nd,h1,h2,hk => by
    show bindL kindOf ((p,w) :: P.zip vs) m x = _
    unfold bindL
    exact bindL_get (i:=i) (List.nodup_cons.mp nd).2 (by simpa using h1) (by simpa using h2) hk
theorem bindC_get {kindOf : Str → Option NameKind} {x : Str} {v : Value} : ∀ {P : List Str} {vs : List Value} {i : Nat} {m : Str → Option Value},P.Nodup → P[i]? = some x → vs[i]? = some v → kindOf x ≠ some .local →
    bindC kindOf (P.zip vs) m x = some v
  | [],_,_,_,_,h,_,_ => by simp at h
  | _ :: _,[],_,_,_,_,h,_ => by simp at h
  | p :: P,w :: vs,0,m,nd,h1,h2,hk => by
    simp at h1 h2; subst h1; subst h2
    show bindC kindOf ((p,w) :: P.zip vs) m p = _
    unfold bindC
    rw [bindC_out fun v hv => (List.nodup_cons.mp nd).1 (List.of_mem_zip hv).1,if_neg hk]
    simp
  | p :: P,w :: vs,i + 1,m,nd,h1,h2,hk => by
    show bindC kindOf ((p,w) :: P.zip vs) m x = _
    unfold bindC
    exact bindC_get (i:=i) (List.nodup_cons.mp nd).2 (by simpa using h1) (by simpa using h2) hk
def start (N : List Str) (vs : List V) : St:=vs.map some ++ List.replicate (N.length - vs.length) none
def cxOf (CX : CXT) (P : Program) (w : World) (K : PySem.W.Frag) (mg : Str → Option Value) (base : Heap) (N : List Str) (qual : Str) (scope : Scope) (f : Addr) (cd : Value) (A : Around) (outer : List Env) (s : Shared) (H : Hp) (E : XK) : Cx where
  prog:=P
  w:=w
  K:=K
  mg:=mg
  base:=base
  A:=A.deeper (envOfC qual scope s.heap.objs.size f cd)
  N:=N
  s₀:=s
  H₀:=H
  env:=envOfC qual scope s.heap.objs.size f cd
  outer:=outer
  stack:=envOfC qual scope s.heap.objs.size f cd :: outer
  ex:=[]
  calm:=true
  fn:=fun _ => true
  pn:=[]
  xe:=fun e s' => wpAny (model P w) (A.deeper (envOfC qual scope s.heap.objs.size f cd)) (leaving (envOfC qual scope s.heap.objs.size f cd) e) (fun _ s'' => CX outer H s E e s'') (fun e' s'' => CX outer H s E e' s'') s'
theorem cell_has {sc : Scope} {n : Nat} {x : Str} (h : sc.names.lookup x = some .cell) : ∃ c,(cellsFrom n sc.names []).lookup x = some c:=by
  have q:=PySem.W.cellsFrom_some sc.names n [] (.inl h)
  exact Option.isSome_iff_exists.mp q
theorem inv_start {CX : CXT} {P : Program} {w : World} {K : PySem.W.Frag} {mg : Str → Option Value} {base : Heap} {N ps : List Str} {qual : Str} {scope : Scope} {f : Addr} {cd : Value} {A : Around} {outer : List Env} {s s1 : Shared} {H : Hp} {E : XK} {us : List Value} {vs : List V}
    (S : FnScope N ps scope) (hd : A.handled = none) (e0 : Env0 P w K mg base A outer s H) (hl : vs.length = ps.length) (r : Vals vs us)
    (x : InCallC s s.heap.objs.size (bindL (envOfC qual scope s.heap.objs.size f cd).kindOf (ps.zip us) fun _ => none) (cellsFrom (s.heap.objs.size + 1) scope.names []) (bindC (envOfC qual scope s.heap.objs.size f cd).kindOf (ps.zip us) fun _ => none) s1) :
    Inv (cxOf CX P w K mg base N qual scope f cd A outer s H E) [] (start N vs) H s1:=by
  have hpl : ps.length ≤ N.length:=by have:=congrArg List.length S.pre; rw [List.length_take] at this; omega
  obtain ⟨h1,tk,rfl,hk⟩:=x.done
  have noA : ∀ b : Addr,b ∉ (cxOf CX P w K mg base N qual scope f cd A outer s H E).ex:=fun b z => absurd (show b ∈ ([] : List Addr) from z) (by simp)
  refine ⟨⟨e0.mod,S.kind,rfl,rfl,Nat.le_refl _,fun y z c h1 h2 => ?_,fun y hy => ?_,fun y c _ h => ?_,fun _ => hd,Around.frames_deeper e0.frames,.inr ⟨rfl,rfl⟩,fun b z => absurd z (noA b),e0.bs,e0.bsz,fun b _ _ => noA b,fun b z => absurd z (noA b),e0.funs,e0.frf⟩,
    rfl,e0.bare,Un.kept hk,⟨_,x.toInCall.ns,fun i y v h1 h2 h3 => ?_⟩,fun y c h => ⟨_,x.cell y c h⟩,e0.hok.fresh (Nat.le_refl _),fun y c h => ?_,fun p hp => absurd (show p ∈ ([] : List (Addr × Obj)) from hp) (by simp),e0.hok.kept hk,?_⟩
  · exact name_of_addr x.apart (PySem.mem_of_lookup h1) (PySem.mem_of_lookup h2)
  · have hy : scope.names.lookup y = some .cell ∨ scope.names.lookup y = some .free:=hy
    rcases hy with hy | hy
    · exact cell_has hy
    · exact absurd rfl (S.nofree _ (PySem.mem_of_lookup hy))
  · exact Nat.le_of_lt (x.above y c (PySem.mem_of_lookup h))
  · have hi : i < vs.length:=by
      unfold start at h2
      by_cases hi : i < vs.length
      · exact hi
      · rw [List.getElem?_append_right (by simpa using hi)] at h2
        rw [List.getElem?_replicate] at h2
        split at h2 <;> cases h2
    have ha : vs[i]? = some v:=by
      unfold start at h2
      rw [List.getElem?_append_left (by simpa using hi),List.getElem?_map] at h2
      cases e : vs[i]? with
      | none => rw [e] at h2; cases h2
      | some a => rw [e] at h2; cases h2; rfl
    obtain ⟨u,hu,rv⟩:=r.get ha
    have hp : ps[i]? = some y:=by
      rw [← S.pre,List.getElem?_take_of_lt (by omega)]; exact h1
    have ndP : ps.Nodup:=by rw [← S.pre]; exact S.nd.sublist (List.take_sublist _ _)
    refine ⟨u,rv,?_⟩
    rcases S.par y (List.mem_of_getElem? hp) with k | k
    · exact .inl ⟨k,bindL_get ndP hp hu k⟩
    · obtain ⟨c,e⟩:=cell_has (n:=s.heap.objs.size + 1) k
      refine .inr ⟨.inl k,c,e,?_⟩
      have q:=x.cell y c e
      rw [bindC_get ndP hp hu (by show scope.names.lookup y ≠ _; rw [k]; decide)] at q
      exact q
  · exact e0.hok.fresh (Nat.le_of_lt (x.above y c (PySem.mem_of_lookup h)))
  · unfold start
    show _ = N.length
    rw [List.length_append,List.length_map,List.length_replicate]
    omega
theorem fn_of {CX : CXT} {P : Program} {w : World} {K : PySem.W.Frag} {mg : Str → Option Value} {base : Heap} {k : Nat} {f : Addr} {name qual : Str} {params : Arguments} {body : List Stmt} {scope : Scope} {dV kV doc pm cdv ct oc : Value} {an od : Option Addr}
    {osl : Array (Option Value)} {N ps : List Str} {sp : Sp} (lk : K.lookup f = some ⟨oc,od,.func (PySem.W.fnOf name qual params body scope dV kV doc pm an cdv ct),osl⟩) (hcd : PySem.W.codeIn K cdv qual = true) (S : FnScope N ps scope)
    (len : ∀ vs H Q E,sp vs H Q E → vs.length = ps.length)
    (hbody : ∀ (A : Around) (outer : List Env) (s : Shared) (H : Hp) (vs : List V) (Q : VK) (E : XK),Room k (A.deeper (envOfC qual scope s.heap.objs.size f cdv)) → sp vs H Q E →
      ∃ t,PSs (cxOf CX P w K mg base N qual scope f cdv A outer s H E) body t ∧ t { nx:=fun _ H' => Q .non H',rt:=Q } (start N vs) H) :
    FnOk P w K mg base CX (k + 1) f (PySem.W.fnOf name qual params body scope dV kV doc pm an cdv ct) ps sp:=by
  refine ⟨len,fun A outer s H args us vs Q E hr e0 hb r hsp => ?_⟩
  have hl:=len _ _ _ _ hsp
  have KX : K.In s.heap:=e0.mod.kin.keeps fun b o e => (e0.bs b o e).1
  have lim : s.heap.NoLimit:=e0.mod.nolimit.keeps fun b o e => (e0.bs b o e).1
  have hkind : ∀ y ∈ ps.zip us,scope.names.lookup y.1 = some .local ∨ (scope.names.lookup y.1 = some .cell ∧ ((cellsFrom (s.heap.objs.size + 1) scope.names []).lookup y.1).isSome = true):=fun ⟨n,v⟩ hy => by
    rcases S.par n (List.of_mem_zip hy).1 with q | q
    · exact .inl q
    · exact .inr ⟨q,PySem.W.cellsFrom_some _ _ _ (.inl q)⟩
  refine codeAny_call_function hr.depth (KX _ _ lk) rfl S.co S.gen rfl (PySem.W.codeRec_of KX hcd) (hb _ _ _ _ ?_)
  refine wpAny_newFunctionEnv_cells S.kind hkind fun env he s1 x => ?_
  subst he
  refine ⟨lim.keeps x.toInCall.keep,codeAny_func ?_⟩
  obtain ⟨t,ht,hq⟩:=hbody A outer s H vs Q E (hr.deeper _) hsp
  have I : Inv (cxOf CX P w K mg base N qual scope f cdv A outer s H E) [] (start N vs) H s1:=inv_start S hr.hd e0 hl r x
  refine wpAny_mono (ht [] s1 (start N vs) H _ I hq) (fun fl s' hs => ?_) fun e s' hs => hs
  have fin : ∀ {σ' : St} {H' : Hp} {v : V} {u : Value},Inv (cxOf CX P w K mg base N qual scope f cdv A outer s H E) [] σ' H' s' → RelV v u → Q v H' → CE outer P w H s Q u s' :=
    fun {σ' H' v u} J rv q => ⟨v,H',J.os,J.bare,J.base,J.hok,rv,q⟩
  cases fl with
  | ret u =>
    obtain ⟨v,σ',H',J,rv,q⟩:=hs
    exact fin J rv q
  | next =>
    obtain ⟨σ',H',J,q⟩:=hs
    exact fin (v:=V.non) (u:=Value.none) J rfl q
  | brk =>
    obtain ⟨_,_,_,q⟩:=hs
    exact False.elim q
  | cont =>
    obtain ⟨_,_,_,q⟩:=hs
    exact False.elim q
section
variable {X : Cx} {x : Str} {p pos : Pos} {e : Expr} {es : List Expr} {t : TA} {id T : String} {r : List V → Hp → VK → Prop}
def tCB (r : List V → Hp → VK → Prop) (t : TA) : TE:=fun σ H Q => t σ H fun vs H1 => r vs H1 Q
theorem pe_callB (hc : CallR X (.builtin id) r) (hg : Gl X x) (hm : X.mg x = none) (hv : bootBuiltins x = some (.builtin id)) (ha : PA X (e :: es) t) (hn : x ≠ "__name__" := by decide) (hdb : (x == ("__debug__" : Str)) = false:=by decide)
    (he : starEach (e :: es) X.env = (false,eval e X.env) :: starEach es X.env:=by rfl) (hpl : (backTo pos (starEach es X.env)).any (·.1) = false:=by rfl) : PE X (.Call (.Name x p) (e :: es) [] pos) (tCB r t):=by
  intro pins s σ H Q I h
  refine wpAny_Call_Name_kw (ld_blt I hg hm hv ?_ hn hdb)
  exact PyProof.Rows.callWith_builtin1 (thn (ha pos pins s σ H _ I h) fun us s1 ⟨vs,H1,I1,r1,q1⟩ => hc pins s1 σ H1 vs us Q I1 r1 q1) he hpl
theorem pe_callTy (hc : CallR X (.type T) r) (hg : Gl X x) (hm : X.mg x = none) (hv : bootBuiltins x = some (.type T)) (ha : PA X (e :: es) t) (hn : x ≠ "__name__" := by decide) (hdb : (x == ("__debug__" : Str)) = false:=by decide)
    (he : starEach (e :: es) X.env = (false,eval e X.env) :: starEach es X.env:=by rfl) (hpl : (backTo pos (starEach es X.env)).any (·.1) = false:=by rfl) : PE X (.Call (.Name x p) (e :: es) [] pos) (tCB r t):=by
  intro pins s σ H Q I h
  refine wpAny_Call_Name_kw (ld_blt I hg hm hv ?_ hn hdb)
  exact PyProof.Rows.callWith_type1 (thn (ha pos pins s σ H _ I h) fun us s1 ⟨vs,H1,I1,r1,q1⟩ => hc pins s1 σ H1 vs us Q I1 r1 q1) he hpl
end
end L2
namespace HT
open PySem PyProof.Rows
section
open PySem.SeqAt
open PySem.AutoSeq1 (wpAny_loadPart')
open PySem.MeetsSeq PySem.MeetsSeq2 PySem.MeetsSeq3
end
section
variable {prog : Program} {w : World} {A : Around} {E : Value → Shared → Prop} {s : Shared}
def sIx (n d : Nat) : Option Int → Nat
  | none => d
  | some v => if v < 0 then (v + (n : Int)).toNat else min v.toNat n
theorem sIx_none (n d : Nat) : sIx n d none = d:=rfl
theorem sIx_nat (n d k : Nat) : sIx n d (some (k : Int)) = min k n:=by
  show (if (k : Int) < 0 then ((k : Int) + (n : Int)).toNat else min (k : Int).toNat n) = min k n
  rw [if_neg (by omega),Int.toNat_natCast]
end
end HT
namespace L2
open PySem PySem.Spec PyProof.Rows
abbrev TO:=St → Hp → (Option Int → Hp → Prop) → Prop
def PO (X : Cx) (e : Option Expr) (t : TO) : Prop :=
  ∀ (pins : List (Addr × Obj)) (s : Shared) (σ : St) (H : Hp) (Q : Option Int → Hp → Prop),Inv X pins σ H s → t σ H Q →
    wpAny (model X.prog X.w) X.A (evalPart e X.env) (fun u s' => ∃ o H',Inv X pins σ H' s' ∧ IsPart u o ∧ Q o H') X.xe s
def tNoPart : TO:=fun _ H Q => Q none H
def tPart (t : TE) : TO:=fun σ H Q => t σ H fun x H1 => ∃ i,x = .int i ∧ Q (some i) H1
section
variable {X : Cx} {e : Expr} {te : TE} {lo hi : Option Expr} {tl th : TO} {pos p2 : Pos}
theorem po_none : PO X none tNoPart:=by
  intro pins s σ H Q I h
  rw [evalPart_none]
  exact wpAny_pure ⟨none,H,I,.none,h⟩
theorem po_some (h : PE X e te) : PO X (some e) (tPart te):=by
  intro pins s σ H Q I hw
  rw [evalPart_some]
  refine thn (h pins s σ H _ I hw) fun u s1 ⟨x,H1,I1,r1,q1⟩ => ?_
  obtain ⟨i,rfl,q⟩:=q1
  obtain ⟨t,rfl⟩:=r1
  exact ⟨some i,H1,I1,.int i t,q⟩
def SlR (X : Cx) (r : V → Option Int → Option Int → Hp → VK → Prop) : Prop :=
  ∀ (pins : List (Addr × Obj)) (s : Shared) (σ : St) (H : Hp) (x : V) (v vl vu : Value) (lo hi : Option Int) (sl : Addr) (Q : VK),Inv X pins σ H s → RelV x v → s.heap.IsSliceOf sl vl vu .none → IsPart vl lo → IsPart vu hi → r x lo hi H Q →
    ∃ T id,typeLookup (.type T) "__getitem__" = pure (some (.builtin id)) ∧ s.TypeIs v T ∧ wpAny (model X.prog X.w) X.A (getItem v (.ref sl)) (EP X pins σ Q) X.xe s
def tSl (r : V → Option Int → Option Int → Hp → VK → Prop) (te : TE) (tl th : TO) : TE:=fun σ H Q => te σ H fun x H1 => tl σ H1 fun l H2 => th σ H2 fun u H3 => r x l u H3 Q
theorem pe_slice {r : V → Option Int → Option Int → Hp → VK → Prop} (hr : SlR X r) (he : PE X e te) (hl : PO X lo tl) (hu : PO X hi th) : PE X (.Subscript e (.Slice lo hi none p2) pos) (tSl r te tl th):=by
  intro pins s σ H Q I h
  refine Subscript_ (thn (he pins s σ H _ I h) fun v s1 ⟨x,H1,I1,r1,q1⟩ => ?_)
  refine wpAny_Slice (thn (hl pins s1 σ H1 _ I1 q1) fun vl s2 ⟨l,H2,I2,pl,q2⟩ => thn (hu pins s2 σ H2 _ I2 q2) fun vu s3 ⟨u,H3,I3,pu,q3⟩ => ?_)
  rw [evalPart_none]
  refine wpAny_pure ?_
  have I4 : Inv X pins σ H3 { s3 with heap:=s3.heap.push { cls:=.type "slice", data:=.fields #[vl,vu,.none] } }:=I3.kept (t':=s3.toks) fun b ob q => Heap.get?_push_of_some _ q
  obtain ⟨T,id,hT,ht,hg⟩:=hr pins { s3 with heap:=s3.heap.push { cls:=.type "slice", data:=.fields #[vl,vu,.none] } } σ H3 x v vl vu l u s3.heap.objs.size Q I4 r1 (Heap.IsSliceOf.new ..) pl pu q3
  show wpAny (model X.prog X.w) X.A (subscriptTail e (.Slice lo hi none p2) v (.ref s3.heap.objs.size)) (EP X pins σ Q) X.xe { s3 with heap:=s3.heap.push { cls:=.type "slice", data:=.fields #[vl,vu,.none] } }
  exact tail_any (ops:=[.ref s3.heap.objs.size,v]) ht hT hg (by with_unfolding_all rfl)
def cutV (xs : List V) (lo hi : Option Int) : List V:=(xs.drop (HT.sIx xs.length 0 lo)).take (HT.sIx xs.length xs.length hi - HT.sIx xs.length 0 lo)
theorem cutV_length (xs : List V) (lo hi : Option Int) : (cutV xs lo hi).length ≤ xs.length:=by
  unfold cutV
  rw [List.length_take,List.length_drop]
  omega
end
def ixN (n : Nat) (i : Int) : Option Nat:=if 0 ≤ i then (if i < n then some i.toNat else none) else if -(n : Int) ≤ i then some (i + n).toNat else none
def atI {α : Type} (xs : List α) (i : Int) : Option α:=(ixN xs.length i).bind fun j => xs[j]?
theorem ixN_seq {n : Nat} {i : Int} {j : Nat} (h : ixN n i = some j) : seqIndex? i n = some j ∧ j < n ∧ -(n : Int) ≤ i ∧ i < n:=by
  unfold ixN at h
  by_cases h0 : 0 ≤ i
  · rw [if_pos h0] at h
    by_cases h1 : i < n
    · rw [if_pos h1] at h
      have e : i.toNat = j:=Option.some.inj h
      exact ⟨by rw [seqIndex_of h0 h1,e],by omega,by omega,h1⟩
    · rw [if_neg h1] at h; cases h
  · rw [if_neg h0] at h
    by_cases h1 : -(n : Int) ≤ i
    · rw [if_pos h1] at h
      have e : (i + n).toNat = j:=Option.some.inj h
      exact ⟨by rw [seqIndex_neg (by omega) h1,e],by omega,h1,by omega⟩
    · rw [if_neg h1] at h; cases h
theorem atI_get {α : Type} {xs : List α} {i : Int} {v : α} (h : atI xs i = some v) : ∃ j,seqIndex? i xs.length = some j ∧ xs[j]? = some v ∧ j < xs.length ∧ -(xs.length : Int) ≤ i ∧ i < xs.length:=by
  unfold atI at h
  cases e : ixN xs.length i with
  | none => rw [e] at h; cases h
  | some j =>
    rw [e] at h
    obtain ⟨h1,h2,h3,h4⟩:=ixN_seq e
    exact ⟨j,h1,h,h2,h3,h4⟩
theorem atI_nat {α : Type} {xs : List α} {j : Nat} {v : α} (h : xs[j]? = some v) : atI xs (j : Int) = some v:=by
  have hj : j < xs.length:=(List.getElem?_eq_some_iff.mp h).1
  have e : ixN xs.length (j : Int) = some j:=by
    unfold ixN
    rw [if_pos (by omega),if_pos (by omega)]; simp
  unfold atI; rw [e]; exact h
theorem atI_last {α : Type} (xs : List α) (v : α) : atI (xs ++ [v]) (-1) = some v:=by
  have hl : (xs ++ [v]).length = xs.length + 1:=by simp
  have e : ixN (xs ++ [v]).length (-1) = some xs.length:=by
    unfold ixN
    rw [hl,if_neg (by decide),if_pos (by omega)]
    congr 1
    omega
  unfold atI
  rw [e]
  show (xs ++ [v])[xs.length]? = some v
  simp
def PlainIx (b : Expr) : Prop := ∀ o i,subscripted b false o i = operate [o,i] (getItem o i)
def IxR (X : Cx) (r : R2) : Prop :=
  ∀ (value slice : Expr) (pins : List (Addr × Obj)) (s : Shared) (σ : St) (H : Hp) (x y : V) (v u : Value) (Q : VK),Inv X pins σ H s → RelV x v → RelV y u → r x y H Q →
    subscripted slice false v u = operate [v,u] (getItem v u) → wpAny (model X.prog X.w) X.A (subscriptTail value slice v u) (EP X pins σ Q) X.xe s
def MtR (X : Cx) (id : String) (r : V → List V → Hp → VK → Prop) : Prop :=
  ∀ (pins : List (Addr × Obj)) (s : Shared) (σ : St) (H : Hp) (x : V) (xs : List V) (v : Value) (us : List Value) (Q : VK),Inv X pins σ H s → RelV x v → Vals xs us → r x xs H Q →
    wpAny (model X.prog X.w) X.A (call (.builtin id) (v :: us)) (EP X pins σ Q) X.xe s
section
variable {X : Cx} {a b : Expr} {ta tb : TE} {pos : Pos}
theorem pe_ix {r : R2} (hr : IxR X r) (ha : PE X a ta) (hb : PE X b tb) (hs : PlainIx b) : PE X (.Subscript a b pos) (tOp r ta tb):=by
  intro pins s σ H Q I h
  exact Subscript_ (binT ha hb I h fun v u s2 x y H2 I2 rx ry q => hr a b pins s2 σ H2 x y v u Q I2 rx ry q (hs _ _))
def rIxL (K : PySem.W.Frag) : R2:=fun x y H Q => ∃ p xs i v,x = .ref p ∧ y = .int i ∧ SqL K H p xs ∧ atI xs i = some v ∧ Q v H
def rIxT (K : PySem.W.Frag) : R2:=fun x y H Q => ∃ p xs i v,x = .ref p ∧ y = .int i ∧ SqT K H p xs ∧ atI xs i = some v ∧ Q v H
theorem ix_list : IxR X (rIxL X.K):=by
  intro value slice pins s σ H x y v u Q I rx ry h hs
  obtain ⟨p,xs,i,z,rfl,rfl,hq,he,q⟩:=h
  cases rx
  obtain ⟨t,rfl⟩:=ry
  obtain ⟨its,r,pl,hz⟩:=I.list hq
  obtain ⟨j,h1,h2,h3,h4,h5⟩:=atI_get he
  obtain ⟨w,ew,rw'⟩:=r.get h2
  have hl:=r.length
  have hn:=line63
  have fin : EP X pins σ Q w s:=⟨z,H,I,rw',q⟩
  by_cases h0 : 0 ≤ i
  · have hj : i.toNat = j:=by
      rw [seqIndex_of h0 h5] at h1
      exact Option.some.inj h1
    exact item_listR pl.isList h0 (by omega) (by rw [hj]; simpa using ew) fin hs
  · have hj : (i + (its.toArray.size : Int)).toNat = j:=by
      rw [seqIndex_neg (by omega) h4] at h1
      rw [List.size_toArray,← hl]
      exact Option.some.inj h1
    exact subscriptTail_builtinR (x:=w) pl.isList.typeIs slot_list_getitem.lookup
      (wpAny_getItem_list_neg (Q:=fun r s' => r = w ∧ EP X pins σ Q r s') pl.isList (by omega) (by rw [List.size_toArray] <;> omega) (by omega) (by rw [hj]; simpa using ew) ⟨rfl,fin⟩) hs
theorem ix_tup : IxR X (rIxT X.K):=by
  intro value slice pins s σ H x y v u Q I rx ry h hs
  obtain ⟨p,xs,i,z,rfl,rfl,hq,he,q⟩:=h
  cases rx
  obtain ⟨t,rfl⟩:=ry
  obtain ⟨its,r,pl,hz⟩:=I.tuple hq
  obtain ⟨j,h1,h2,h3,h4,h5⟩:=atI_get he
  obtain ⟨w,ew,rw'⟩:=r.get h2
  have hl:=r.length
  have hn:=line63
  have fin : EP X pins σ Q w s:=⟨z,H,I,rw',q⟩
  exact subscriptTail_builtinR (x:=w) pl.typeIs slot_tuple_getitem.lookup
    (getItem_tuple (j:=j) (Q:=fun r s' => r = w ∧ EP X pins σ Q r s') pl (by omega) (by omega) (by rw [List.size_toArray,← hl]; exact h1) (by simpa using ew) ⟨rfl,fin⟩) hs
theorem mapSeq_set (its : List Value) (n j : Nat) (u : Value) : Obj.mapSeq (·.setIfInBounds j u) { cls:=.type "list", data:=.seq its.toArray n } = { cls:=.type "list", data:=.seq (its.set j u).toArray n }:=by
  simp [Obj.mapSeq]
theorem Inv.lst {pins : List (Addr × Obj)} {σ : St} {H : Hp} {s : Shared} {p : Addr} {xs : List V} (I : Inv X pins σ H s) (h : H p = some (.lst xs)) :
    ∃ (its : List Value) (n : Nat),Vals xs its ∧ s.heap.get? p = some { cls:=.type "list", data:=.seq its.toArray n } ∧ xs.length ≤ sizeLine:=by
  obtain ⟨z,its,n,r,e⟩:=I.hok p _ h
  exact ⟨its,n,r,e,z⟩
theorem Inv.lstUpd {pins : List (Addr × Obj)} {σ : St} {H : Hp} {s : Shared} {p : Addr} {xs ys : List V} {its its' : List Value} {n n' : Nat} {f : Obj → Obj} (I : Inv X pins σ H s) (h : H p = some (.lst xs))
    (ho : s.heap.get? p = some { cls:=.type "list", data:=.seq its.toArray n }) (hf : f { cls:=.type "list", data:=.seq its.toArray n } = { cls:=.type "list", data:=.seq its'.toArray n' }) (r : Vals ys its') (hz : ys.length ≤ sizeLine) (t : Nat) :
    Inv X pins σ (upd H p (.lst ys)) { s with heap:=s.heap.update p f,toks:=t }:=by
  have e : (s.heap.update p f).get? p = some { cls:=.type "list", data:=.seq its'.toArray n' }:=by
    rw [Heap.get?_update_self f ho (by rw [hf] <;> rfl),hf]
  refine I.write (x:=p) (e:=p) (by rw [h]; trivial) (.inl rfl) (fun b u hb q => (Heap.get?_update_other _ _ (Ne.symm hb)).trans q) ⟨_,e⟩ ?_
  exact ⟨hz,its',n',r,e⟩
def rSetL : V → V → V → Hp → (Hp → Prop) → Prop:=fun o i v H Q => ∃ p xs k j,o = .ref p ∧ i = .int k ∧ H p = some (.lst xs) ∧ ixN xs.length k = some j ∧ Q (upd H p (.lst (xs.set j v)))
theorem set_list : PSet X rSetL:=by
  intro pins s σ H o i v ov iv u Q I ro ri rv h
  obtain ⟨p,xs,k,j,rfl,rfl,hp,hj,q⟩:=h
  cases ro
  obtain ⟨t,rfl⟩:=ri
  obtain ⟨its,n,r,ho,hz⟩:=I.lst hp
  obtain ⟨h1,h2,h3,h4⟩:=ixN_seq hj
  have hl:=r.length
  have hn:=line63
  have I' : Inv X pins σ (upd H p (.lst (xs.set j v))) { s with heap:=s.heap.update p (Obj.mapSeq (·.setIfInBounds j u)) } :=
    I.lstUpd hp ho (mapSeq_set its n j u) (r.set rv j) (by rw [List.length_set]; exact hz) s.toks
  by_cases h0 : 0 ≤ k
  · have hk : k.toNat = j:=by
      rw [seqIndex_of h0 h4] at h1
      exact Option.some.inj h1
    exact PySem.W.ki_setAt ho h0 (by omega) (by rw [List.size_toArray,← hl]; exact h4) (by rw [hk]; exact ⟨_,I',q⟩)
  · have hk : (k + (its.toArray.size : Int)).toNat = j:=by
      rw [seqIndex_neg (by omega) h3] at h1
      rw [List.size_toArray,← hl]
      exact Option.some.inj h1
    exact PySem.W.ki_setBack ho (by omega) (by rw [List.size_toArray,← hl]; exact h3) (by omega) (by rw [hk]; exact ⟨_,I',q⟩)
theorem slice_bounds (lo hi : Option Int) (n : Nat) : (sliceBounds lo hi none n).1 = ((HT.sIx n 0 lo : Nat) : Int) ∧ (sliceBounds lo hi none n).2.1 = ((HT.sIx n n hi : Nat) : Int) ∧ (sliceBounds lo hi none n).2.2 = 1:=by
  refine ⟨?_,?_,rfl⟩
  · cases lo with
    | none => simp [sliceBounds,HT.sIx]
    | some i =>
      simp only [sliceBounds,HT.sIx,Option.getD_none,show (1 : Int) > 0 by decide,if_true]
      by_cases h : i < 0
      · simp only [h,if_true] <;> omega
      · simp only [h,if_false] <;> omega
  · cases hi with
    | none => simp [sliceBounds,HT.sIx]
    | some i =>
      simp only [sliceBounds,HT.sIx,Option.getD_none,show (1 : Int) > 0 by decide,if_true]
      by_cases h : i < 0
      · simp only [h,if_true] <;> omega
      · simp only [h,if_false] <;> omega
theorem slicePick_cut (its : List Value) (lo hi : Option Int) : slicePick its.toArray lo hi none = ((its.drop (HT.sIx its.length 0 lo)).take (HT.sIx its.length its.length hi - HT.sIx its.length 0 lo)).toArray:=by
  obtain ⟨h1,h2,h3⟩:=slice_bounds lo hi its.toArray.size
  unfold slicePick
  rw [h1,h2,h3]
  simp only [sliceRange_one,pick_run,List.size_toArray] <;> rfl
def rSlL (K : PySem.W.Frag) : V → Option Int → Option Int → Hp → VK → Prop:=fun x lo hi H Q => ∃ a xs,x = .ref a ∧ SqL K H a xs ∧ ∀ p,H p = none → Q (.ref p) (upd H p (.lst (cutV xs lo hi)))
theorem sl_list : SlR X (rSlL X.K):=by
  intro pins s σ H x v vl vu lo hi sl Q I rx hs pl pu h
  obtain ⟨a,xs,rfl,hx,q⟩:=h
  cases rx
  obtain ⟨its,r,ht,hz⟩:=I.list hx
  have hlen:=r.length
  refine ⟨"list", _,slot_list_getitem.lookup,ht.isList.typeIs,?_⟩
  refine wpAny_getItem_list_slice ht.isList hs pl pu .none (by simp) ?_ (by rw [List.size_toArray] <;> omega)
  rw [slicePick_cut,← hlen]
  refine ⟨.ref s.heap.objs.size,_,I.laid (t':=s.toks) (o:=.lst (cutV xs lo hi)) (fun b ob q => Heap.get?_push_of_some _ q) (Nat.le_refl _) ?_,rfl,q _ (I.hok.fresh (Nat.le_refl _))⟩
  exact ⟨Nat.le_trans (cutV_length xs lo hi) hz,_,0,(r.drop (HT.sIx xs.length 0 lo)).take (HT.sIx xs.length xs.length hi - HT.sIx xs.length 0 lo),Heap.get?_push_size _ rfl⟩
def flatV : V → Bool
  | .non => true
  | .bl _ => true
  | .int _ => true
  | .str _ => true
  | _ => false
def eqV : V → V → Bool
  | .non,.non => true
  | .bl a,.bl b => a == b
  | .bl a,.int b => (if a then 1 else 0) == b
  | .int a,.bl b => a == (if b then 1 else 0)
  | .int a,.int b => a == b
  | .str a,.str b => a == b
  | _,_ => false
theorem eqAt_V {A : Around} {s : Shared} {y x : V} {u v : Value} (ry : RelV y u) (rx : RelV x v) (fy : flatV y = true) (fx : flatV x = true) : SeqAt.EqAt A s u v (eqV y x):=by
  cases y with
  | non =>
    cases ry
    cases x with
    | non => cases rx; exact SeqAt.EqAt.same _
    | bl b => cases rx; exact SeqAt.EqAt.none_bool b
    | int b => obtain ⟨t,rfl⟩:=rx; exact SeqAt.EqAt.none_int b t
    | str b => obtain ⟨t,rfl⟩:=rx; exact SeqAt.EqAt.none_str b t
    | _ => exact absurd (show false = true from fx) Bool.false_ne_true
  | bl a =>
    cases ry
    cases x with
    | non => cases rx; exact SeqAt.EqAt.bool_none a
    | bl b => cases rx; exact SeqAt.EqAt.bool_bool a b
    | int b => obtain ⟨t,rfl⟩:=rx; exact SeqAt.EqAt.bool_int a b t
    | str b => obtain ⟨t,rfl⟩:=rx; exact SeqAt.EqAt.bool_str a b t
    | _ => exact absurd (show false = true from fx) Bool.false_ne_true
  | int a =>
    obtain ⟨t',rfl⟩:=ry
    cases x with
    | non => cases rx; exact SeqAt.EqAt.int_none a t'
    | bl b => cases rx; exact SeqAt.EqAt.int_bool a t' b
    | int b => obtain ⟨t,rfl⟩:=rx; exact SeqAt.EqAt.int_int a t' b t
    | str b => obtain ⟨t,rfl⟩:=rx; exact SeqAt.EqAt.int_str a t' b t
    | _ => exact absurd (show false = true from fx) Bool.false_ne_true
  | str a =>
    obtain ⟨t',rfl⟩:=ry
    cases x with
    | non => cases rx; exact SeqAt.EqAt.str_none a t'
    | bl b => cases rx; exact SeqAt.EqAt.str_bool a t' b
    | int b => obtain ⟨t,rfl⟩:=rx; exact SeqAt.EqAt.str_int a t' b t
    | str b => obtain ⟨t,rfl⟩:=rx; exact SeqAt.EqAt.str_str a t' b t
    | _ => exact absurd (show false = true from fx) Bool.false_ne_true
  | _ => exact absurd (show false = true from fy) Bool.false_ne_true
def eqU (x : V) (u : Value) : Bool:=match u with
  | .none => eqV .non x
  | .bool b => eqV (.bl b) x
  | .int i _ => eqV (.int i) x
  | .str z _ => eqV (.str z) x
  | _ => false
theorem eqU_of {x y : V} {u : Value} (r : RelV y u) (f : flatV y = true) : eqU x u = eqV y x:=by
  cases y with
  | non => cases r; rfl
  | bl b => cases r; rfl
  | int i => obtain ⟨t,rfl⟩:=r; rfl
  | str z => obtain ⟨t,rfl⟩:=r; rfl
  | _ => exact absurd (show false = true from f) Bool.false_ne_true
theorem any_eqU {x : V} : ∀ {xs : List V} {us : List Value},Vals xs us → xs.all flatV = true → us.any (eqU x) = xs.any fun y => eqV y x
  | _,_,.nil,_ => rfl
  | y :: xs,u :: us,.cons r t,f => by
    rw [List.all_cons,Bool.and_eq_true] at f
    rw [List.any_cons,List.any_cons,eqU_of r f.1,any_eqU t f.2]
theorem mem_eqAt {A : Around} {s : Shared} {x : V} {v : Value} (rx : RelV x v) (fx : flatV x = true) : ∀ {xs : List V} {us : List Value},Vals xs us → xs.all flatV = true → ∀ u ∈ us,SeqAt.EqAt A s u v (eqU x u)
  | _,_,.nil,_ => fun u hu => by cases hu
  | y :: xs,u :: us,.cons r t,f => fun u' hu => by
    rw [List.all_cons,Bool.and_eq_true] at f
    rcases List.mem_cons.mp hu with rfl | hu
    · rw [eqU_of r f.1]; exact eqAt_V r rx f.1 fx
    · exact mem_eqAt rx fx t f.2 u' hu
def inV (x : V) (xs : List V) : Bool:=xs.any fun y => eqV y x
def rIn (K : PySem.W.Frag) (neg : Bool) : R2:=fun x y H Q => ∃ p xs,y = .ref p ∧ (SqL K H p xs ∨ SqT K H p xs) ∧ flatV x = true ∧ xs.all flatV = true ∧ Q (.bl (if neg then !inV x xs else inV x xs)) H
theorem op_in_seq : OpR X (compareOp .In) (rIn X.K false):=by
  intro pins s σ H x y v u Q I rx ry h
  obtain ⟨p,xs,rfl,hq,fx,fs,q⟩:=h
  cases ry
  rcases hq with hq | hq
  · obtain ⟨its,r,pl,hz⟩:=I.list hq
    refine SeqAt.in_listAt (eqU x) pl.isList (fun w hw => mem_eqAt rx fx r fs w (by simpa using hw)) ⟨.bl _,H,I,rfl,?_⟩
    rw [show its.toArray.any (eqU x) = its.any (eqU x) by simp,any_eqU r fs]
    exact q
  · obtain ⟨its,r,pl,hz⟩:=I.tuple hq
    refine SeqAt.in_tupleAt (eqU x) pl (fun w hw => mem_eqAt rx fx r fs w (by simpa using hw)) ⟨.bl _,H,I,rfl,?_⟩
    rw [show its.toArray.any (eqU x) = its.any (eqU x) by simp,any_eqU r fs]
    exact q
theorem op_notIn_seq : OpR X (compareOp .NotIn) (rIn X.K true):=by
  intro pins s σ H x y v u Q I rx ry h
  obtain ⟨p,xs,rfl,hq,fx,fs,q⟩:=h
  cases ry
  rcases hq with hq | hq
  · obtain ⟨its,r,pl,hz⟩:=I.list hq
    refine SeqAt.notIn_listAt (eqU x) pl.isList (fun w hw => mem_eqAt rx fx r fs w (by simpa using hw)) ⟨.bl _,H,I,rfl,?_⟩
    rw [show its.toArray.any (eqU x) = its.any (eqU x) by simp,any_eqU r fs]
    exact q
  · obtain ⟨its,r,pl,hz⟩:=I.tuple hq
    refine SeqAt.notIn_tupleAt (eqU x) pl (fun w hw => mem_eqAt rx fx r fs w (by simpa using hw)) ⟨.bl _,H,I,rfl,?_⟩
    rw [show its.toArray.any (eqU x) = its.any (eqU x) by simp,any_eqU r fs]
    exact q
theorem call_len_seq : CallR X (.builtin "len") (fun xs H Q => ∃ p ys,xs = [.ref p] ∧ (SqL X.K H p ys ∨ SqT X.K H p ys) ∧ Q (.int ys.length) H):=by
  intro pins s σ H xs us Q I r h
  obtain ⟨p,ys,rfl,hq,q⟩:=h
  obtain ⟨u,rfl,rx⟩:=vals1 r
  cases rx
  have hn:=line63
  rcases hq with hq | hq
  · obtain ⟨its,r',pl,hz⟩:=I.list hq
    have hlen:=r'.length
    exact Calls.call_len_list pl.isList (by simp only [List.size_toArray] <;> omega) ⟨.int ys.length,H,I.tok _,⟨s.toks + 1,by rw [List.size_toArray,hlen]⟩,q⟩
  · obtain ⟨its,r',pl,hz⟩:=I.tuple hq
    have hlen:=r'.length
    exact len_tuple pl (by simp only [List.size_toArray] <;> omega) ⟨.int ys.length,H,I.tok _,⟨s.toks + 1,by rw [List.size_toArray,hlen]⟩,q⟩
theorem call_list_of : CallR X (.type "list") (fun xs H Q => ∃ p ys,xs = [.ref p] ∧ (SqL X.K H p ys ∨ SqT X.K H p ys) ∧ ∀ l,H l = none → Q (.ref l) (upd H l (.lst ys))):=by
  intro pins s σ H xs us Q I r h
  obtain ⟨p,ys,rfl,hq,q⟩:=h
  obtain ⟨u,rfl,rx⟩:=vals1 r
  cases rx
  have fin : ∀ (its : List Value),Vals ys its → ys.length ≤ sizeLine → ∀ (h' : Heap) (c' : Nat),(∀ b o',s.heap.get? b = some o' → h'.get? b = some o') →
      h'.get? s.heap.objs.size = some { cls:=.type "list", dict:=none,data:=.seq its.toArray c',slots := #[] } → EP X pins σ Q (.ref s.heap.objs.size) { s with heap:=h' }:=fun its r' hz h' c' kp e =>
    ⟨.ref s.heap.objs.size,_,I.laid (t':=s.toks) kp (Nat.le_refl _) (show ObjOk X.prog X.w _ h' _ (.lst ys) from ⟨hz,its,c',r',e⟩),rfl,q _ (I.hok.fresh (Nat.le_refl _))⟩
  rcases hq with hq | hq
  · obtain ⟨its,r',pl,hz⟩:=I.list hq
    have hlen:=r'.length
    obtain ⟨o,ho,hc,n,hd⟩:=pl.isList
    exact call_list_seq p (.inl rfl) ho hc hd (fun h' c' kp e => fin its r' hz h' c' kp e) (by simp only [List.size_toArray] <;> omega)
  · obtain ⟨its,r',pl,hz⟩:=I.tuple hq
    have hlen:=r'.length
    obtain ⟨o,ho,hc,n,hd⟩:=pl
    exact call_list_seq p (.inr rfl) ho hc hd (fun h' c' kp e => fin its r' hz h' c' kp e) (by simp only [List.size_toArray] <;> omega)
theorem call_tuple_of : CallR X (.type "tuple") (fun xs H Q => ∃ p ys,xs = [.ref p] ∧ ((SqL X.K H p ys ∧ ∀ l,H l = none → Q (.ref l) (upd H l (.tup ys))) ∨ (SqT X.K H p ys ∧ Q (.ref p) H))):=by
  intro pins s σ H xs us Q I r h
  obtain ⟨p,ys,rfl,h⟩:=h
  obtain ⟨u,rfl,rx⟩:=vals1 r
  cases rx
  rcases h with ⟨hq,q⟩ | ⟨hq,q⟩
  · obtain ⟨its,r',pl,hz⟩:=I.list hq
    have hlen:=r'.length
    refine call_tuple_list pl.isList (fun h' kp => ?_) (by simp only [List.size_toArray] <;> omega)
    have I1 : Inv X pins σ H { s with heap:=h' }:=I.kept (t':=s.toks) kp
    have I2 : Inv X pins σ (upd H h'.objs.size (.tup ys)) { s with heap:=h'.push { cls:=.type "tuple", data:=.seq its.toArray } } :=
      I1.laid (t':=s.toks) (fun b o e => Heap.get?_push_of_some _ e) (Nat.le_refl _) (show ObjOk X.prog X.w _ _ _ (.tup ys) from ⟨hz,its,r',IsTup.new _ _,_,Heap.get?_push_size _ rfl,rfl⟩)
    exact ⟨.ref h'.objs.size,_,I2,rfl,q _ (I1.hok.fresh (Nat.le_refl _))⟩
  · obtain ⟨its,r',pl,hz⟩:=I.tuple hq
    exact call_tuple_same pl ⟨.ref p,H,I,rfl,q⟩
def tyV (K : PySem.W.Frag) (T : String) (x : V) (H : Hp) : Prop:=match x with
  | .str _ => T = "str"
  | .int _ => T = "int"
  | .ref p => (T = "list" ∧ ∃ xs,SqL K H p xs) ∨ (T = "tuple" ∧ ∃ o,K.lookup p = some o ∧ o.cls = .type "tuple" ∧ o.dict = none) ∨
      (T = "dict" ∧ ((∃ kvs,H p = some (.dK kvs)) ∨ ∃ kvs,H p = some (.dT kvs))) ∨ (T = "set" ∧ ∃ S n,H p = some (.set S n)) ∨ (T = "tuple" ∧ ∃ xs,H p = some (.tup xs))
  | _ => False
theorem tyV_is {pins : List (Addr × Obj)} {σ : St} {H : Hp} {s : Shared} {T : String} {x : V} {v : Value} (I : Inv X pins σ H s) (r : RelV x v) (ty : tyV X.K T x H) :
    s.TypeIs v T ∧ ∀ a,v = .ref a → ∃ ob,s.heap.get? a = some ob ∧ ob.dict = none:=by
  cases x with
  | str z =>
    obtain ⟨t,rfl⟩:=r
    cases (show T = "str" from ty)
    exact ⟨typeIs_str s z t,fun _ e => nomatch e⟩
  | int i =>
    obtain ⟨t,rfl⟩:=r
    cases (show T = "int" from ty)
    exact ⟨typeIs_int s i t,fun _ e => nomatch e⟩
  | ref p =>
    cases r
    rcases ty with ⟨rfl,xs,hq⟩ | ⟨rfl,o,hk,hc,hd⟩ | ⟨rfl,hk⟩ | ⟨rfl,S,n,hk⟩ | ⟨rfl,zs,hk⟩
    · obtain ⟨its,_,pl,_⟩:=I.list hq
      refine ⟨pl.isList.typeIs,fun a e => ?_⟩
      cases e
      obtain ⟨o,n,e,c,hd,_⟩:=pl
      exact ⟨o,e,hd⟩
    · refine ⟨⟨o,I.kIn p o hk,hc⟩,fun a e => ?_⟩
      cases e
      exact ⟨o,I.kIn _ o hk,hd⟩
    · have z : ∃ o,s.heap.get? p = some o ∧ o.ExactDict:=by
        rcases hk with ⟨kvs,hk⟩ | ⟨kvs,hk⟩
        · obtain ⟨_,_,_,_,o,_,_,e,ex,_⟩:=I.hok p _ hk
          exact ⟨o,e,ex⟩
        · obtain ⟨_,_,_,_,o,_,_,e,ex,_⟩:=I.hok p _ hk
          exact ⟨o,e,ex⟩
      obtain ⟨o,e,ex⟩:=z
      refine ⟨⟨o,e,ex.1⟩,fun a e2 => ?_⟩
      cases e2
      exact ⟨o,e,ex.2.1⟩
    · obtain ⟨o,_,_,_,e,ex,_⟩:=I.hok p _ hk
      refine ⟨⟨o,e,ex.1⟩,fun a e2 => ?_⟩
      cases e2
      exact ⟨o,e,ex.2.1⟩
    · obtain ⟨_,_,_,⟨o2,e2,c2,_⟩,o,e,hd⟩:=(show ObjOk X.prog X.w H s.heap p (.tup zs) from I.hok p _ hk)
      refine ⟨⟨o2,e2,c2⟩,fun a e3 => ?_⟩
      cases e3
      exact ⟨o,e,hd⟩
  | _ => exact False.elim ty
def tBM0 (K : PySem.W.Frag) (T : String) (r : V → List V → Hp → VK → Prop) (to : TE) : TE:=fun σ H Q => to σ H fun x H1 => tyV K T x H1 ∧ r x [] H1 Q
def tBM (K : PySem.W.Frag) (T : String) (r : V → List V → Hp → VK → Prop) (to : TE) (t : TA) : TE:=fun σ H Q => to σ H fun x H1 => tyV K T x H1 ∧ t σ H1 fun xs H2 => r x xs H2 Q
variable {o e : Expr} {es : List Expr} {to : TE} {t : TA} {name : Str} {apos cpos : Pos} {T id : String} {r : V → List V → Hp → VK → Prop}
theorem pe_bm0 (pa : PlainAttrs T) (slot : Slot T name id) (hty : typeOf (.builtin id) = pure (.type "method_descriptor")) (hm : MtR X id r) (ho : PE X o to)
    (hbase : attributeBase o name X.env (eval o X.env) = eval o X.env:=by rfl) (hline : (apos.endLine == cpos.line) = true:=by rfl) : PE X (.Call (.Attribute o name apos) [] [] cpos) (tBM0 X.K T r to):=by
  intro pins s σ H Q I h
  refine wpAny_Call_method0_late hbase hline (thn (ho pins s σ H _ I h) fun v s1 ⟨x,H1,I1,r1,ty,q1⟩ => ?_)
  obtain ⟨h1,h2⟩:=tyV_is I1 r1 ty
  exact ⟨T,id,pa,slot,hty,h1,h2,Calls.callWith_builtin rfl (PySem.evalArgs_none (hm pins s1 σ H1 x [] v [] Q I1 r1 .nil q1))⟩
theorem pe_bm (pa : PlainAttrs T) (slot : Slot T name id) (hty : typeOf (.builtin id) = pure (.type "method_descriptor")) (hm : MtR X id r) (ho : PE X o to) (ha : PA X (e :: es) t)
    (hbase : attributeBase o name X.env (eval o X.env) = eval o X.env:=by rfl)
    (hfew : ((backTo cpos (starEach (e :: es) X.env)).all (fun x => !x.1) && (backToKw cpos (keywordEach [] X.env)).all (fun x => x.1.isSome)
      && decide ((e :: es).length + ([] : List Keyword).length + (if ([] : List Keyword).isEmpty then 0 else 1) < 30)) = true:=by rfl)
    (hline : (apos.endLine == cpos.line) = true:=by rfl) (hs : starEach (e :: es) X.env = (false,eval e X.env) :: starEach es X.env:=by rfl) (hplain : (backTo cpos (starEach es X.env)).any (·.1) = false:=by rfl) :
    PE X (.Call (.Attribute o name apos) (e :: es) [] cpos) (tBM X.K T r to t):=by
  intro pins s σ H Q I h
  refine wpAny_Call_method_late hbase hfew hline rfl (thn (ho pins s σ H _ I h) fun v s1 ⟨x,H1,I1,r1,ty,q1⟩ => ?_)
  obtain ⟨h1,h2⟩:=tyV_is I1 r1 ty
  refine ⟨T,id,pa,slot,hty,h1,h2,?_⟩
  have hA:=ha cpos pins s1 σ H1 _ I1 q1
  rw [hs] at hA ⊢
  refine Calls.callWith_builtin (by show (false || (backTo cpos (starEach es X.env)).any (·.1)) = false; rw [hplain] <;> rfl) (Calls.evalArgs_plain ?_)
  exact thn hA fun us s2 ⟨vs,H2,I2,r2,q2⟩ => hm pins s2 σ H2 x vs v us Q I2 r1 r2 q2
end
def MtM (X : Cx) (id : String) (r : V → List V → Hp → VK → Prop) : Prop :=
  ∀ (pins : List (Addr × Obj)) (s : Shared) (σ : St) (H : Hp) (x : V) (xs : List V) (v : Value) (us : List Value) (Q : VK),Inv X pins σ H s → RelV x v → Vals xs us → r x xs H Q →
    wpAny (model X.prog X.w) X.A (call (.builtin id) (v :: us)) (EP X pins σ Q) X.xe s
theorem Vals.one {x : V} {us : List Value} (h : Vals [x] us) : ∃ u,us = [u] ∧ RelV x u:=by
  cases h with
  | cons r t => cases t; exact ⟨_,rfl,r⟩
theorem Vals.two {x y : V} {us : List Value} (h : Vals [x,y] us) : ∃ u v,us = [u,v] ∧ RelV x u ∧ RelV y v:=by
  cases h with
  | cons r t =>
    obtain ⟨v,rfl,q⟩:=Vals.one t
    exact ⟨_,_,rfl,r,q⟩
theorem Vals.zero : ∀ {us : List Value},Vals [] us → us = []
  | _,.nil => rfl
theorem Vals.eraseIdx : ∀ {xs : List V} {us : List Value} (i : Nat),Vals xs us → Vals (xs.eraseIdx i) (us.eraseIdx i)
  | _,_,_,.nil => .nil
  | _,_,0,.cons _ t => t
  | _,_,i + 1,.cons r t => .cons r (Vals.eraseIdx i t)
theorem Vals.rep {xs : List V} {us : List Value} (h : Vals xs us) : ∀ k : Nat,Vals (List.replicate k xs).flatten (List.replicate k us).flatten
  | 0 => .nil
  | k + 1 => by
    rw [List.replicate_succ,List.replicate_succ,List.flatten_cons,List.flatten_cons]
    exact Vals.append h (Vals.rep h k)
theorem len_erase {α : Type} : ∀ (l : List α) (i : Nat),(l.eraseIdx i).length ≤ l.length
  | [],_ => Nat.le_refl _
  | _ :: _,0 => Nat.le_succ _
  | _ :: r,i + 1 => Nat.succ_le_succ (len_erase r i)
theorem foldl_rep (its : List Value) : ∀ (k : Nat) (acc : List Value),
    List.foldl (fun x1 x2 => x1 ++ x2) acc.toArray (List.replicate k its.toArray) = (acc ++ (List.replicate k its).flatten).toArray
  | 0,acc => by simp
  | k + 1,acc => by
    have e : acc.toArray ++ its.toArray = (acc ++ its).toArray:=by simp
    have e2 : (acc ++ its) ++ (List.replicate k its).flatten = acc ++ (List.replicate (k + 1) its).flatten:=by
      rw [List.replicate_succ,List.flatten_cons,List.append_assoc]
    rw [← e2,← foldl_rep its k (acc ++ its),← e,List.replicate_succ,List.foldl_cons]
section
variable {X : Cx} {pins : List (Addr × Obj)} {σ : St} {H : Hp} {s : Shared} {l b : Addr} {xs ys zs : List V}
theorem Inv.lset {its its' : List Value} {n : Nat} {f : Array Value → Array Value} {t' : Nat} (I : Inv X pins σ H s) (hH : H l = some (.lst xs))
    (e : s.heap.get? l = some { cls:=.type "list", data:=.seq its.toArray n }) (hf : f its.toArray = its'.toArray) (hv : Vals ys its') (hz : ys.length ≤ sizeLine) :
    Inv X pins σ (upd H l (.lst ys)) { s with heap:=s.heap.update l (Obj.mapSeq f),toks:=t' }:=by
  have q:=PySem.IsL.update e f
  rw [hf] at q
  refine I.write (x:=l) (e:=l) (by rw [hH]; exact trivial) (.inl rfl) (fun b' u hb hu => (Heap.get?_update_other s.heap (Obj.mapSeq f) (Ne.symm hb)).trans hu) ⟨_,q⟩ ?_
  exact ⟨hz,its',_,hv,q⟩
theorem Inv.lnew {its : List Value} {t' : Nat} (I : Inv X pins σ H s) (hv : Vals ys its) (hz : ys.length ≤ sizeLine) :
    Inv X pins σ (upd H s.heap.objs.size (.lst ys)) { s with heap:=s.heap.push { cls:=.type "list", data:=.seq its.toArray },toks:=t' } :=
  I.laid (fun _ _ q => Heap.get?_push_of_some _ q) (Nat.le_refl _) ⟨hz,its,0,hv,Heap.get?_push_size _ rfl⟩
theorem Inv.fresh (I : Inv X pins σ H s) : H s.heap.objs.size = none:=I.hok.fresh (Nat.le_refl _)
theorem Inv.lstM (I : Inv X pins σ H s) (hH : H l = some (.lst xs)) : xs.length ≤ sizeLine ∧ ∃ (its : List Value) (n : Nat),Vals xs its ∧ xs.length = its.length ∧ s.heap.get? l = some { cls:=.type "list", data:=.seq its.toArray n }:=by
  obtain ⟨z,its,n,r,e⟩:=I.hok l _ hH
  exact ⟨z,its,n,r,r.length,e⟩
theorem notLongL {n : Nat} (h : n ≤ sizeLine) : Builtin.List.listTooLong n = false:=by
  unfold Builtin.List.listTooLong
  exact decide_eq_false (by omega)
end
section
variable {X : Cx}
def rAppend : V → List V → Hp → VK → Prop:=fun x vs H Q => ∃ l xs y,x = .ref l ∧ vs = [y] ∧ H l = some (.lst xs) ∧ xs.length < sizeLine ∧ Q .non (upd H l (.lst (xs ++ [y])))
theorem mt_append : MtM X "list.append" rAppend:=by
  intro pins s σ H x vs v us Q I rx rv h
  obtain ⟨l,xs,y,rfl,rfl,hH,hz,q⟩:=h
  cases rx
  obtain ⟨u,rfl,ru⟩:=rv.one
  obtain ⟨z,its,n,r,hl,e⟩:=I.lstM hH
  refine call_meets F.slot_list_append ⟨_,e,rfl⟩ F.entry_list_append (F.args_list_append_2 _ _) (PySem.list_append l its.toArray n u (by rw [List.size_toArray]; omega)) ⟨e,?_⟩
  refine ⟨.non,_,I.lset (its':=its ++ [u]) hH e (by simp) (r.append (.cons ru .nil)) ?_,rfl,q⟩
  rw [List.length_append,List.length_singleton]
  omega
def rExtend : V → List V → Hp → VK → Prop:=fun x vs H Q => ∃ l b xs zs,x = .ref l ∧ vs = [.ref b] ∧ H l = some (.lst xs) ∧ H b = some (.lst zs) ∧ xs.length + zs.length ≤ sizeLine ∧ Q .non (upd H l (.lst (xs ++ zs)))
theorem mt_extend : MtM X "list.extend" rExtend:=by
  intro pins s σ H x vs v us Q I rx rv h
  obtain ⟨l,b,xs,zs,rfl,rfl,hH,hB,hz,q⟩:=h
  cases rx
  obtain ⟨u,rfl,ru⟩:=rv.one
  cases ru
  obtain ⟨z,its,n,r,hl,e⟩:=I.lstM hH
  obtain ⟨z2,its2,n2,r2,hl2,e2⟩:=I.lstM hB
  have hsz : its.toArray.size + its2.toArray.size ≤ sizeLine:=by rw [List.size_toArray,List.size_toArray]; omega
  have hlong : ¬ (!its.toArray.isEmpty && Builtin.List.listTooLong (its.toArray.size + its2.toArray.size)) = true:=by
    rw [notLongL hsz,Bool.and_false]
    exact Bool.false_ne_true
  refine call_meets F.slot_list_extend ⟨_,e,rfl⟩ F.entry_list_extend (F.args_list_extend_2 _ _)
    (AutoSeq1.list_extend_list_list_0 l its.toArray n b its2.toArray n2 hlong (by rw [List.size_toArray]; omega) (by omega)) ⟨e,e2,?_⟩
  refine ⟨.non,_,I.lset (its':=its ++ its2) hH e (by simp) (r.append r2) ?_,rfl,q⟩
  rw [List.length_append]
  omega
def rPopAt : V → List V → Hp → VK → Prop:=fun x vs H Q => ∃ l xs i k y,x = .ref l ∧ vs = [.int i] ∧ H l = some (.lst xs) ∧ -(2 ^ 63) ≤ i ∧ i < 2 ^ 63 ∧ seqIndex? i xs.length = some k ∧ xs[k]? = some y ∧ Q y (upd H l (.lst (xs.eraseIdx k)))
theorem mt_popAt : MtM X "list.pop" rPopAt:=by
  intro pins s σ H x vs v us Q I rx rv h
  obtain ⟨l,xs,i,k,y,rfl,rfl,hH,h1,h2,hk,hy,q⟩:=h
  cases rx
  obtain ⟨u,rfl,ru⟩:=rv.one
  obtain ⟨t,rfl⟩:=ru
  obtain ⟨z,its,n,r,hl,e⟩:=I.lstM hH
  obtain ⟨w,hw,rw'⟩:=r.get hy
  refine call_meets F.slot_list_pop ⟨_,e,rfl⟩ F.entry_list_pop (F.args_list_pop_2 _ _)
    (MeetsSeq.list_pop_at l its.toArray n i t k w (fitsIndex_both h1 h2) (by rw [List.size_toArray,← hl]; exact hk) (by rw [← Array.getElem?_toList]; exact hw) (by rw [List.size_toArray]; omega)) ⟨e,?_⟩
  refine ⟨y,_,I.lset (its':=its.eraseIdx k) hH e ?_ (r.eraseIdx k) ?_,rw',q⟩
  · show its.toArray.eraseIdxIfInBounds k = (its.eraseIdx k).toArray
    rw [List.eraseIdxIfInBounds_toArray]
  · have:=len_erase xs k
    omega
def rClear : V → List V → Hp → VK → Prop:=fun x vs H Q => ∃ l xs,x = .ref l ∧ vs = [] ∧ H l = some (.lst xs) ∧ Q .non (upd H l (.lst []))
theorem mt_clear : MtM X "list.clear" rClear:=by
  intro pins s σ H x vs v us Q I rx rv h
  obtain ⟨l,xs,rfl,rfl,hH,q⟩:=h
  cases rx
  have hus:=rv.zero
  subst hus
  obtain ⟨z,its,n,r,hl,e⟩:=I.lstM hH
  refine call_meets F.slot_list_clear ⟨_,e,rfl⟩ F.entry_list_clear (F.args_list_clear_1 _) (AutoSeq1.list_clear_list_0 l its.toArray n (by rw [List.size_toArray]; omega)) ⟨e,?_⟩
  exact ⟨.non,_,I.lset (its':=[]) (ys:=[]) hH e rfl .nil (Nat.zero_le _),rfl,q⟩
def rCat : R2:=fun x y H Q => ∃ l b xs zs,x = .ref l ∧ y = .ref b ∧ H l = some (.lst xs) ∧ H b = some (.lst zs) ∧ xs.length + zs.length ≤ sizeLine ∧ ∀ p,H p = none → Q (.ref p) (upd H p (.lst (xs ++ zs)))
theorem op_cat : OpR X (binaryOp .Add) rCat:=by
  intro pins s σ H x y v u Q I rx ry h
  obtain ⟨l,b,xs,zs,rfl,rfl,hH,hB,hz,q⟩:=h
  cases rx
  cases ry
  obtain ⟨z,its,n,r,hl,e⟩:=I.lstM hH
  obtain ⟨z2,its2,n2,r2,hl2,e2⟩:=I.lstM hB
  refine PySem.P.add_list e e2 ?_ (by rw [List.size_toArray,List.size_toArray]; omega)
  have ea : its.toArray ++ its2.toArray = (its ++ its2).toArray:=by simp
  rw [ea]
  exact ⟨.ref _,_,I.lnew (t':=s.toks) (r.append r2) (by rw [List.length_append]; omega),rfl,q _ I.fresh⟩
def rRep : R2:=fun x y H Q => ∃ l k xs,x = .ref l ∧ y = .int k ∧ H l = some (.lst xs) ∧ -(2 ^ 63) ≤ k ∧ k < 2 ^ 63 ∧ xs.length * k.toNat ≤ sizeLine ∧
  ∀ p,H p = none → Q (.ref p) (upd H p (.lst (List.replicate k.toNat xs).flatten))
theorem len_rep {α : Type} (xs : List α) (k : Nat) : (List.replicate k xs).flatten.length = k * xs.length:=by
  induction k with
  | zero => simp
  | succ k ih => rw [List.replicate_succ,List.flatten_cons,List.length_append,ih,Nat.succ_mul,Nat.add_comm]
theorem op_rep : OpR X (binaryOp .Mult) rRep:=by
  intro pins s σ H x y v u Q I rx ry h
  obtain ⟨l,k,xs,rfl,rfl,hH,h1,h2,hz,q⟩:=h
  cases rx
  obtain ⟨t,rfl⟩:=ry
  obtain ⟨z,its,n,r,hl,e⟩:=I.lstM hH
  have hlen : its.toArray.size * k.toNat ≤ sizeLine:=by rw [List.size_toArray,← hl]; exact hz
  have hcap : ¬ its.toArray.size * k.toNat > (2 ^ 63 - 1) / 8:=by
    have : (sizeLine : Nat) ≤ (2 ^ 63 - 1) / 8:=by decide
    omega
  have hfit : ¬ (!Builtin.List.listFitsIndex k) = true:=by
    rw [fitsIndex_both h1 h2]
    exact Bool.false_ne_true
  have hlong : ¬ Builtin.List.listTooLong (its.toArray.size * k.toNat) = true:=by
    rw [notLongL hlen]
    exact Bool.false_ne_true
  have hnew : List.foldl (fun x1 x2 => x1 ++ x2) #[] (List.replicate (if its.toArray.isEmpty = true then 0 else k.toNat) its.toArray) = (List.replicate k.toNat its).flatten.toArray:=by
    have f0 : ∀ m : Nat,List.foldl (fun x1 x2 => x1 ++ x2) #[] (List.replicate m its.toArray) = (List.replicate m its).flatten.toArray:=fun m => by
      have:=foldl_rep its m []
      rw [List.nil_append] at this
      exact this
    rw [f0]
    cases its with
    | nil => simp
    | cons a r' => rw [if_neg (by simp)]
  refine wpAny_binaryOp_repeat_ref (T := "list") (U := "int") (by decide) ⟨_,e,rfl⟩ (fun s' => typeIs_int s' k t) noFill_list_mul F.fills_int_mul F.slot_int_rmul repeat_list F.slot_int_index.lookup
    (call_meets F.slot_int_rmul (typeIs_int s k t) F.entry_int_rmul (F.args_int_rmul_2 _ _) (int___rmul___int_list k t l its.toArray n)
      ⟨e,rfl,⟨_,e,rfl⟩,call_meets F.slot_list_mul ⟨_,e,rfl⟩ F.entry_list_mul (F.args_list_mul_2 _ _) (AutoListH.list___mul___list_int_3 l its.toArray n k t hfit hcap hlong) ⟨e,?_⟩⟩)
  rw [hnew]
  exact ⟨.ref _,_,I.lnew (t':=s.toks) (r.rep k.toNat) (by rw [len_rep,Nat.mul_comm]; exact hz),rfl,q _ I.fresh⟩
end
section
variable {prog : Program} {w : World} {A : Around} {E : Value → Shared → Prop} {s : Shared}
end
section
variable {X : Cx}
end
section
variable {κ : Type} [DecidableEq κ]
def valV (kvs : List (κ × V)) (k : κ) : Option V:=(kvs.find? fun kv => decide (kv.1 = k)).map (·.2)
def putK (kvs : List (κ × V)) (k : κ) (v : V) : List (κ × V) :=
  if (kvs.any fun kv => decide (kv.1 = k)) = true then kvs.map (fun kv => if kv.1 = k then (kv.1,v) else kv) else kvs ++ [(k,v)]
theorem valV_pos {p : κ × V} {r : List (κ × V)} {k : κ} (e : p.1 = k) : valV (p :: r) k = some p.2:=by simp [valV,List.find?_cons,e]
theorem valV_neg {p : κ × V} {r : List (κ × V)} {k : κ} (e : ¬ p.1 = k) : valV (p :: r) k = valV r k:=by simp [valV,List.find?_cons,e]
theorem valV_any (k : κ) : ∀ kvs : List (κ × V),(kvs.any fun kv => decide (kv.1 = k)) = (valV kvs k).isSome
  | [] => rfl
  | p :: r => by
    rw [List.any_cons]
    by_cases e : p.1 = k
    · simp only [valV_pos e,decide_eq_true e,Bool.true_or,Option.isSome_some]
    · rw [valV_neg e,decide_eq_false e,Bool.false_or]; exact valV_any k r
theorem valV_snoc (k j : κ) (y : V) : ∀ kvs : List (κ × V),valV kvs k = none → valV (kvs ++ [(k,y)]) j = if j = k then some y else valV kvs j
  | [],_ => by
    by_cases e : k = j
    · rw [if_pos e.symm]; exact valV_pos (p:=(k,y)) e
    · rw [if_neg (fun z => e z.symm)]; exact valV_neg (p:=(k,y)) e
  | p :: r,hn => by
    rw [List.cons_append]
    have hk : ¬ p.1 = k:=fun z => by rw [valV_pos z] at hn; cases hn
    rw [valV_neg hk] at hn
    have ih:=valV_snoc k j y r hn
    by_cases e : p.1 = j
    · rw [valV_pos e,valV_pos e,if_neg (fun z => hk (e.trans z))]
    · rw [valV_neg e,valV_neg e,ih]
theorem length_putK (kvs : List (κ × V)) (k : κ) (v : V) : (putK kvs k v).length ≤ kvs.length + 1:=by
  unfold putK
  split
  · rw [List.length_map]; omega
  · rw [List.length_append,List.length_cons,List.length_nil]; omega
theorem putK_new {kvs : List (κ × V)} {k : κ} (v : V) (h : valV kvs k = none) : putK kvs k v = kvs ++ [(k,v)]:=by
  unfold putK
  rw [valV_any,h]
  exact if_neg (by decide)
theorem RelO.isSome_eq {o : Option V} {u : Option Value} (r : RelO o u) : o.isSome = u.isSome:=by
  cases o with
  | none => cases u with
    | none => rfl
    | some _ => exact (show False from r).elim
  | some _ => cases u with
    | none => exact (show False from r).elim
    | some _ => rfl
theorem RelO.getD {o : Option V} {u : Option Value} {d : V} {d' : Value} (r : RelO o u) (rd : RelV d d') : RelV (o.getD d) (u.getD d'):=by
  cases o with
  | none => cases u with
    | none => exact rd
    | some _ => exact (show False from r).elim
  | some _ => cases u with
    | none => exact (show False from r).elim
    | some _ => exact r
theorem KV.val {kvs : List (κ × V)} {vs : List (κ × Value)} (r : KV kvs vs) (k : κ) : RelO (valV kvs k) (valueAt vs k):=by
  unfold KV at r
  induction r with
  | nil => exact True.intro
  | @cons p q ps qs h t ih =>
    obtain ⟨h1,h2⟩:=h
    by_cases e : p.1 = k
    · have e' : q.1 = k:=h1.symm.trans e
      have b : valueAt (q :: qs) k = some q.2:=by simp [valueAt,List.find?_cons,e']
      rw [valV_pos e,b]; exact h2
    · have e' : ¬ q.1 = k:=fun z => e (h1.trans z)
      have b : valueAt (q :: qs) k = valueAt qs k:=by simp [valueAt,List.find?_cons,e']
      rw [valV_neg e,b]; exact ih
theorem KV.any {kvs : List (κ × V)} {vs : List (κ × Value)} (r : KV kvs vs) (k : κ) : (kvs.any fun kv => decide (kv.1 = k)) = vs.any fun kv => decide (kv.1 = k):=by
  unfold KV at r
  induction r with
  | nil => rfl
  | cons h t ih => rw [List.any_cons,List.any_cons,ih,h.1]
theorem KV.repl {kvs : List (κ × V)} {vs : List (κ × Value)} (r : KV kvs vs) (k : κ) {y : V} {u : Value} (ry : RelV y u) :
    KV (kvs.map fun kv => if kv.1 = k then (kv.1,y) else kv) (vs.map fun kv => if kv.1 = k then (kv.1,u) else kv):=by
  unfold KV at r ⊢
  induction r with
  | nil => exact .nil
  | @cons p q ps qs h t ih =>
    rw [List.map_cons,List.map_cons]
    refine .cons ?_ ih
    obtain ⟨h1,h2⟩:=h
    by_cases e : p.1 = k
    · rw [if_pos e,if_pos (h1.symm.trans e)]; exact ⟨h1,ry⟩
    · rw [if_neg e,if_neg (fun z => e (h1.trans z))]; exact ⟨h1,h2⟩
theorem KV.put {kvs : List (κ × V)} {vs : List (κ × Value)} (r : KV kvs vs) (k : κ) {y : V} {u : Value} (ry : RelV y u) : KV (putK kvs k y) (stored vs k u):=by
  unfold putK stored
  rw [r.any k]
  by_cases e : (vs.any fun kv => decide (kv.1 = k)) = true
  · rw [if_pos e,if_pos e]; exact r.repl k ry
  · rw [if_neg e,if_neg e]; exact Paired.snoc r ⟨rfl,ry⟩
theorem KV.length {kvs : List (κ × V)} {vs : List (κ × Value)} (r : KV kvs vs) : kvs.length = vs.length:=Paired.length r
end
theorem kV_is {P : Program} {w : World} {k : Key} {u : Value} (r : RelV (kV k) u) : (mixKind P w).is k u = true:=by
  cases k with
  | inl i => obtain ⟨t,e⟩:=(show ∃ t,u = Value.int i t from r); subst e; exact mixKind_int P w i t
  | inr x => obtain ⟨t,e⟩:=(show ∃ t,u = Value.str x t from r); subst e; exact mixKind_str P w x t
theorem kVr_is {P : Program} {w : World} {k : Key} {v : V} {u : Value} (q : kVr k v) (r : RelV v u) : (mixKind P w).is k u = true:=by
  rcases q with e | ⟨b,e,ek⟩
  · subst e; exact kV_is r
  · subst e; subst ek; cases (show u = Value.bool b from r); exact keyIs_bl b
theorem items_are {P : Program} {w : World} : ∀ {ks : List Key} {ws : List V} {us : List Value},kVs ks ws → Vals ws us → ItemsAre (mixKind P w) ks us
  | _,_,_,.nil,.nil => .nil
  | _,_,_,.cons q t,.cons h t' => .cons (kVr_is q h) (items_are t t')
abbrev KT (H : Hp) : List (List Key × V) → List (List Key × Addr × Value) → Prop:=Paired fun p q => p.1 = q.1 ∧ TupKey H q.2.1 p.1 ∧ RelV p.2 q.2.2
theorem KT.val {H : Hp} {kvs : List (List Key × V)} {xs : List (List Key × Addr × Value)} (r : KT H kvs xs) (k : List Key) : RelO (valV kvs k) ((atKey xs k).map (·.2)):=by
  induction r with
  | nil => exact True.intro
  | @cons p q ps qs h t ih =>
    obtain ⟨h1,_,h2⟩:=h
    by_cases e : p.1 = k
    · have e' : q.1 = k:=h1.symm.trans e
      have b : atKey (q :: qs) k = some q.2:=by simp [atKey,List.find?_cons,e']
      rw [valV_pos e,b]; exact h2
    · have e' : ¬ q.1 = k:=fun z => e (h1.trans z)
      have b : atKey (q :: qs) k = atKey qs k:=by simp [atKey,List.find?_cons,e']
      rw [valV_neg e,b]; exact ih
theorem KT.repl {H : Hp} {kvs : List (List Key × V)} {xs : List (List Key × Addr × Value)} (r : KT H kvs xs) (k : List Key) {y : V} {u : Value} (ry : RelV y u) :
    KT H (kvs.map fun kv => if kv.1 = k then (kv.1,y) else kv) (xs.map (putAt k u)):=by
  induction r with
  | nil => exact .nil
  | @cons p q ps qs h t ih =>
    rw [List.map_cons,List.map_cons]
    refine .cons ?_ ih
    obtain ⟨h1,h2,h3⟩:=h
    unfold putAt
    by_cases e : p.1 = k
    · rw [if_pos e,if_pos (h1.symm.trans e)]; exact ⟨h1,h2,ry⟩
    · rw [if_neg e,if_neg (fun z => e (h1.trans z))]; exact ⟨h1,h2,h3⟩
theorem KT.put {H : Hp} {kvs : List (List Key × V)} {xs : List (List Key × Addr × Value)} (r : KT H kvs xs) (k : List Key) {b : Addr} {y : V} {u : Value} (hb : TupKey H b k) (ry : RelV y u) :
    KT H (putK kvs k y) (storedH xs k b u):=by
  have e : (kvs.any fun kv => decide (kv.1 = k)) = (atKey xs k).isSome:=by
    rw [valV_any,(r.val k).isSome_eq,Option.isSome_map]
  unfold putK storedH
  rw [e]
  by_cases q : (atKey xs k).isSome = true
  · rw [if_pos q,if_pos q]; exact r.repl k ry
  · rw [if_neg q,if_neg q]; exact Paired.snoc r ⟨rfl,hb,ry⟩
theorem KT.keeps {H H' : Hp} {kvs : List (List Key × V)} {xs : List (List Key × Addr × Value)} (r : KT H kvs xs) (ht : ∀ b ys,H b = some (.tup ys) → H' b = some (.tup ys)) : KT H' kvs xs :=
  Paired.mapP r fun _ _ z => ⟨z.1,(let ⟨ws,k1,k2⟩:=z.2.1; ⟨ws,k1,ht _ _ k2⟩),z.2.2⟩
section
variable {P : Program} {w : World} {H : Hp} {h : Heap} {a : Addr}
theorem rd_of {u : HO} (ok : HOk P w H h) (e : Rd H a u) : ObjOk P w H h a u:=e.ok ok
theorem dk_rd {kvs : List (Key × V)} (ok : HOk P w H h) (e : Rd H a (.dK kvs)) : kvs.length ≤ sizeLine ∧ (a == sysModules) = false ∧ ∃ vs,KV kvs vs ∧ h.DictOf (mixKind P w) a vs :=
  show ObjOk P w H h a (.dK kvs) from rd_of ok e
theorem dk_of {kvs : List (Key × V)} (ok : HOk P w H h) (e : H a = some (.dK kvs)) : kvs.length ≤ sizeLine ∧ (a == sysModules) = false ∧ ∃ vs,KV kvs vs ∧ h.DictOf (mixKind P w) a vs:=dk_rd ok (.inl e)
theorem key_of {ks : List Key} (ok : HOk P w H h) (e : TupKey H a ks) : (tupleKind (mixKind P w)).is h ks a:=by
  obtain ⟨ws,q,e⟩:=e
  obtain ⟨_,its,r,⟨o,h1,h2,n,h3⟩,_⟩:=(show ObjOk P w H h a (.tup ws) from ok a _ e)
  exact ⟨o,its.toArray,n,h1,h2,h3,by simpa using items_are q r⟩
theorem dt_rd {kvs : List (List Key × V)} (ok : HOk P w H h) (e : Rd H a (.dT kvs)) : kvs.length ≤ sizeLine ∧ (a == sysModules) = false ∧
    ∃ xs,KT H kvs xs ∧ h.DictOfH (tupleKind (mixKind P w)) a xs:=by
  obtain ⟨z,y,xs,r,o,es,ep,h1,h2,h3,h4,h5⟩:=(show ObjOk P w H h a (.dT kvs) from rd_of ok e)
  refine ⟨z,y,xs,r,o,es,ep,h1,h2,h3,h4,fun x hx => ?_,h5⟩
  have all : ∀ {l : List (List Key × V)} {m : List (List Key × Addr × Value)},KT H l m → ∀ x ∈ m,(tupleKind (mixKind P w)).is h x.1 x.2.1:=by
    intro l m q
    induction q with
    | nil => intro x hx; exact nomatch hx
    | @cons p q ps qs hq t ih =>
      intro x hx
      rcases List.mem_cons.mp hx with e | hx
      · subst e
        exact key_of ok (by rw [← hq.1]; exact hq.2.1)
      · exact ih x hx
  exact all r x hx
theorem dt_of {kvs : List (List Key × V)} (ok : HOk P w H h) (e : H a = some (.dT kvs)) : kvs.length ≤ sizeLine ∧ (a == sysModules) = false ∧
    ∃ xs,KT H kvs xs ∧ h.DictOfH (tupleKind (mixKind P w)) a xs:=dt_rd ok (.inl e)
end
def DGet (H : Hp) (a : Addr) (y : V) (r : Option V) : Prop :=
  (∃ kvs k,Rd H a (.dK kvs) ∧ y = kV k ∧ r = valV kvs k) ∨ ∃ kvs k b,Rd H a (.dT kvs) ∧ y = .ref b ∧ TupKey H b k ∧ r = valV kvs k
def DPut (H : Hp) (a : Addr) (y v : V) (H' : Hp) : Prop :=
  (∃ kvs k,H a = some (.dK kvs) ∧ y = kV k ∧ kvs.length < sizeLine ∧ H' = upd H a (.dK (putK kvs k v))) ∨
  ∃ kvs k b,H a = some (.dT kvs) ∧ y = .ref b ∧ TupKey H b k ∧ kvs.length < sizeLine ∧ H' = upd H a (.dT (putK kvs k v))
theorem DGet.t {H : Hp} {a b : Addr} {kvs : List (List Key × V)} {k : List Key} (e : H a = some (.dT kvs)) (eb : TupKey H b k) : DGet H a (.ref b) (valV kvs k):=.inr ⟨kvs,k,b,.inl e,rfl,eb,rfl⟩
theorem DPut.t {H : Hp} {a b : Addr} {kvs : List (List Key × V)} {k : List Key} {v : V} (e : H a = some (.dT kvs)) (eb : TupKey H b k) (hl : kvs.length < sizeLine) :
    DPut H a (.ref b) v (upd H a (.dT (putK kvs k v))):=.inr ⟨kvs,k,b,e,rfl,eb,hl,rfl⟩
section
variable {X : Cx} {pins : List (Addr × Obj)} {σ : St} {H : Hp} {s : Shared} {a : Addr} {y v : V} {u r : Value} {o : Option V} {A : Around} {E : Value → Shared → Prop}
theorem Inv.big (I : Inv X pins σ H s) : sysModules < s.heap.objs.size:=by
  have h : mainGlobals < s.heap.objs.size:=(I.mod.glob.keeps I.bk).lt
  exact Nat.lt_trans (by decide) h
theorem d_getItem {Q : Value → Shared → Prop} (hu : A.units + 1 < cLine) (I : Inv X pins σ H s) (g : DGet H a y (some v)) (ry : RelV y u) (h : ∀ w' s',Inv X pins σ H s' → RelV v w' → Q w' s') :
    wpAny (model X.prog X.w) A (getItem (.ref a) u) Q E s:=by
  rcases g with ⟨kvs,k,e,ey,l⟩ | ⟨kvs,k,b,e,ey,eb,l⟩
  · subst ey
    obtain ⟨z,hd,vs,rel,dd⟩:=dk_rd I.hok e
    obtain ⟨w',hw,rw'⟩:=RelO.some_of (v:=v) (o:=valueAt vs k) (by rw [l]; exact rel.val k)
    exact wpAny_getItem_of (kV_is ry) dd.mapOf hw (h w' _ (I.tok _) rw')
  · subst ey
    cases (show u = Value.ref b from ry)
    obtain ⟨z,hd,xs,rel,dd⟩:=dt_rd I.hok e
    obtain ⟨w',hw,rw'⟩:=RelO.some_of (v:=v) (o:=(atKey xs k).map (·.2)) (by rw [l]; exact rel.val k)
    obtain ⟨p,hp,hp2⟩:=Option.map_eq_some_iff.mp hw
    refine wpAny_getItem_heap (tupleKind_room_in1 hu) (key_of I.hok eb) dd hp ?_
    rw [hp2]
    exact h w' _ (I.tok _) rw'
theorem d_notIn {Q : Value → Shared → Prop} (hu : A.units + 1 < cLine) (I : Inv X pins σ H s) (g : DGet H a y o) (ry : RelV y u) (h : ∀ s',Inv X pins σ H s' → Q (.bool (!o.isSome)) s') :
    wpAny (model X.prog X.w) A (compareOp .NotIn u (.ref a)) Q E s:=by
  rcases g with ⟨kvs,k,e,ey,l⟩ | ⟨kvs,k,b,e,ey,eb,l⟩
  · subst ey
    obtain ⟨z,hd,vs,rel,dd⟩:=dk_rd I.hok e
    refine wpAny_notIn_of (kV_is ry) hd dd.mapOf ?_
    rw [← (rel.val k).isSome_eq,← l]
    exact h _ (I.tok _)
  · subst ey
    cases (show u = Value.ref b from ry)
    obtain ⟨z,hd,xs,rel,dd⟩:=dt_rd I.hok e
    refine wpAny_notIn_heap (tupleKind_room_in1 hu) (key_of I.hok eb) hd dd ?_
    have q:=(rel.val k).isSome_eq
    rw [Option.isSome_map] at q
    rw [← q,← l]
    exact h _ (I.tok _)
theorem d_write {h' : Heap} {t' : Nat} {ob : HO} (I : Inv X pins σ H s) (mu : Mut (H a)) (hs : Heap.SameBut a s.heap h') (he : ∃ q,h'.get? a = some q) (new : ObjOk X.prog X.w (upd H a ob) h' a ob) :
    Inv X pins σ (upd H a ob) { s with heap:=h',toks:=t' } :=
  I.write (x:=a) (e:=a) mu (.inl rfl) (fun b q hb z => (hs.2 b hb).trans z) he new
theorem dk_new {P : Program} {w : World} {H' : Hp} {h' : Heap} {kvs : List (Key × V)} {vs : List (Key × Value)} (z : kvs.length ≤ sizeLine) (hd : (a == sysModules) = false) (rel : KV kvs vs) (dd : h'.DictOf (mixKind P w) a vs) :
    ObjOk P w H' h' a (.dK kvs):=⟨z,hd,vs,rel,dd⟩
theorem d_setItem {H' : Hp} {Q : Unit → Shared → Prop} (hu : A.units + 1 < cLine) (I : Inv X pins σ H s) (g : DPut H a y v H') (ry : RelV y u) (rv : RelV v r) (h : ∀ s',Inv X pins σ H' s' → Q () s') :
    wpAny (model X.prog X.w) A (setItem (.ref a) u r) Q E s:=by
  rcases g with ⟨kvs,k,e,ey,l,eH⟩ | ⟨kvs,k,b,e,ey,eb,l,eH⟩
  · subst ey eH
    obtain ⟨z,hd,vs,rel,dd⟩:=dk_of I.hok e
    have hz : vs.length ≤ sizeLine:=by rw [← rel.length]; exact z
    have hl : (putK kvs k v).length ≤ sizeLine:=by have:=length_putK kvs k v; omega
    refine wpAny_setItem_pairs (hsz:=hz) (kV_is ry) dd fun h' dd' hs => h _ ?_
    have he : ∃ q,h'.get? a = some q:=let ⟨q,_,_,hq,_⟩:=dd'; ⟨q,hq⟩
    exact d_write I (by rw [e]; exact True.intro) hs he (dk_new hl hd (rel.put k rv) dd')
  · subst ey eH
    cases (show u = Value.ref b from ry)
    obtain ⟨z,hd,xs,rel,dd⟩:=dt_of I.hok e
    have hz : xs.length ≤ sizeLine:=by rw [← Paired.length rel]; exact z
    have hl : (putK kvs k v).length ≤ sizeLine:=by have:=length_putK kvs k v; omega
    refine wpAny_setItem_heap (hsz:=hz) (tupleKind_room_in1 hu) (key_of I.hok eb) dd fun h' dd' hs => h _ ?_
    obtain ⟨q,es,ep,hq,h2,h3,h4,_,h5⟩:=dd'
    refine d_write I (by rw [e]; exact True.intro) hs ⟨q,hq⟩ ⟨hl,hd,_,(rel.put k eb rv).keeps fun c ys ec => ?_,q,es,ep,hq,h2,h3,h4,h5⟩
    rw [upd_ne (ne_of ec e (fun z => nomatch z))]
    exact ec
end
section
variable {X : Cx} {pins : List (Addr × Obj)} {σ : St} {H : Hp} {s : Shared} {a : Addr} {kvs : List (Key × V)} {k : Key} {u : Value} {A : Around} {E : Value → Shared → Prop}
end
def NoSl (i : Expr) : Prop := ∀ ov iv,subscripted i false ov iv = operate [ov,iv] (getItem ov iv)
theorem subD_of {prog : Program} {w : World} {A : Around} {E : Value → Shared → Prop} {s : Shared} {env : Env} {value slice : Expr} {pos : Pos} {T id : String} {Q : Value → Shared → Prop}
    (hl : typeLookup (.type T) "__getitem__" = pure (some (.builtin id))) (hs : NoSl slice)
    (h : wpAny (model prog w) A (eval value env) (fun o s₁ => wpAny (model prog w) A (eval slice env) (fun i s₂ => s₂.TypeIs o T ∧ wpAny (model prog w) A (getItem o i) Q E s₂) E s₁) E s) :
    wpAny (model prog w) A (eval (.Subscript value slice pos) env) Q E s:=by
  refine Subscript_ (wpAny_mono h (fun o s₁ h₁ => wpAny_mono h₁ (fun i s₂ h₂ => ?_) fun _ _ x => x) fun _ _ x => x)
  obtain ⟨hT,h₂⟩:=h₂
  unfold subscriptTail
  refine wpAny_bind ?_
  rw [getitemInPython_of_ne hT.not_modules]
  refine wpAny_bind (wpAny_specialOf hT hl ?_)
  have fin : wpAny (model prog w) A (subscripted slice false o i) (fun r s₃ => wpAny (model prog w) A (letTemporaryGo value o r >>= fun _ => pure r) Q E s₃) E s₂:=by
    rw [hs o i]
    exact wpAny_operating (wpAny_mono h₂ (fun r s₃ h₃ => wpAny_bind (wpAny_letTemporaryGo (wpAny_pure h₃))) fun _ _ x => x)
  first
    | exact wpAny_pure (wpAny_bind fin)
    | exact wpAny_bind (wpAny_pure (wpAny_bind fin))
    | exact wpAny_bind fin
theorem dict_typeIs {X : Cx} {pins : List (Addr × Obj)} {σ : St} {H : Hp} {s : Shared} {a : Addr} {y : V} {o : Option V} (I : Inv X pins σ H s) (g : DGet H a y o) : s.TypeIs (.ref a) "dict" := by
  rcases g with ⟨kvs,k,e,_,_⟩ | ⟨kvs,k,b,e,_,_,_⟩
  · obtain ⟨_,_,vs,_,dd⟩:=dk_rd I.hok e
    exact dd.typeIs
  · obtain ⟨_,_,xs,_,dd⟩:=dt_rd I.hok e
    exact dd.typeIs
def tDGet (td ty : TE) : TE:=fun σ H Q => td σ H fun x H1 => ty σ H1 fun y H2 => ∃ a v,x = .ref a ∧ DGet H2 a y (some v) ∧ Q v H2
def sDPut (td ty tv : TE) : TS:=fun D σ H => tv σ H fun v H1 => td σ H1 fun x H2 => ty σ H2 fun y H3 => ∃ a H4,x = .ref a ∧ DPut H3 a y v H4 ∧ D.nx σ H4
section
variable {X : Cx} {o i e value : Expr} {pos pos' tpos : Pos} {td ty tv : TE}
theorem pe_dget (hu : X.A.units + 1 < cLine) (ho : PE X o td) (hi : PE X i ty) (hs : NoSl i) : PE X (.Subscript o i pos) (tDGet td ty):=by
  intro pins s σ H Q I h
  refine subD_of PySem.F.slot_dict_getitem.lookup hs (thn (ho pins s σ H _ I h) fun u s1 ⟨x,H1,I1,rx,q1⟩ => thn (hi pins s1 σ H1 _ I1 q1) fun iv s2 ⟨y,H2,I2,ry,a,v,ex,g,q2⟩ => ?_)
  subst ex
  obtain rfl : u = Value.ref a:=rx
  exact ⟨dict_typeIs I2 g,d_getItem hu I2 g ry fun w' s3 I3 rw' => ⟨v,H2,I3,rw',q2⟩⟩
theorem ps_dput (hu : X.A.units + 1 < cLine) (ho : PE X o td) (hi : PE X i ty) (hv : PE X value tv) (hs : swapsWith value (some (.Subscript o i pos')) pos.line X.env = pure false) :
    PS X (.Assign [.Subscript o i pos'] value pos) (sDPut td ty tv):=by
  intro pins s σ H D I h
  refine wpAny_Assign_Subscript (thn (hv pins s σ H _ I h) fun r s1 ⟨v,H1,I1,rv,q1⟩ => thn (ho pins s1 σ H1 _ I1 q1) fun u s2 ⟨x,H2,I2,rx,q2⟩ => thn (hi pins s2 σ H2 _ I2 q2) fun iv s3 ⟨y,H3,I3,ry,a,H4,ex,g,q3⟩ => ?_) hs
  subst ex
  obtain rfl : u = Value.ref a:=rx
  exact d_setItem hu I3 g ry rv fun s4 I4 => ⟨σ,H4,I4,q3⟩
end
theorem dt_empty {P : Program} {w : World} {H : Hp} (h : Heap) (hb : sysModules < h.objs.size) : ObjOk P w H (h.push { cls:=.type "dict", data:=.dict #[] }) h.objs.size (.dT []) :=
  ⟨Nat.zero_le _,beq_eq_false_iff_ne.mpr (Ne.symm (Nat.ne_of_lt hb)),[],.nil,_,#[],0,Heap.get?_push_size _ rfl,⟨rfl,rfl,rfl⟩,rfl,rfl,List.nodup_nil⟩
def tDNewT : TE:=fun _ H Q => ∀ p,H p = none → Q (.ref p) (upd H p (.dT []))
section
variable {X : Cx} {pos : Pos}
theorem pe_dnewT : PE X (.Dict [] [] pos) tDNewT:=fun pins s σ H Q I h =>
  wpAny_Dict_empty ⟨.ref s.heap.objs.size,_,I.laid (a:=s.heap.objs.size) (o:=.dT []) (t':=s.toks) (fun _ _ q => Heap.get?_push_of_some _ q) (Nat.le_refl _) (dt_empty s.heap I.big),rfl,h _ (I.hok.fresh (Nat.le_refl _))⟩
end
def tPairs : List (TE × TE) → St → Hp → (List (V × V) → Hp → Prop) → Prop
  | [],_,H,Q => Q [] H
  | (tk,tv) :: r,σ,H,Q => tk σ H fun x H1 => tv σ H1 fun y H2 => tPairs r σ H2 fun ps H3 => Q ((x,y) :: ps) H3
abbrev VV : List (V × V) → List (Value × Value) → Prop:=Paired fun p q => RelV p.1 q.1 ∧ RelV p.2 q.2
def PPs (X : Cx) (pos : Pos) (keys : List (Option Expr)) (values : List Expr) (trs : List (TE × TE)) : Prop :=
  ∀ (pins : List (Addr × Obj)) (s : Shared) (σ : St) (H : Hp) (Q : List (V × V) → Hp → Prop),Inv X pins σ H s → tPairs trs σ H Q →
    wpAny (model X.prog X.w) X.A (evalPairs (pairTrees keys values X.env pos)) (fun vs s' => ∃ ps H',Inv X pins σ H' s' ∧ VV ps vs ∧ Q ps H') X.xe s
theorem pps_nil {X : Cx} {pos : Pos} : PPs X pos [] [] []:=fun pins s σ H Q I h => pairTrees_nil_walk ⟨[],H,I,.nil,h⟩
theorem pps_cons {X : Cx} {pos : Pos} {k v : Expr} {ks : List (Option Expr)} {vs : List Expr} {tk tv : TE} {trs : List (TE × TE)} (hk : PE X k tk) (hv : PE X v tv) (hr : PPs X pos ks vs trs) :
    PPs X pos (some k :: ks) (v :: vs) ((tk,tv) :: trs):=fun pins s σ H Q I h =>
  pairTrees_cons_walk (thn (hk pins s σ H _ I h) fun u s1 ⟨x,H1,I1,rx,q1⟩ => thn (hv pins s1 σ H1 _ I1 q1) fun w2 s2 ⟨y,H2,I2,ry,q2⟩ =>
    thn (hr pins s2 σ H2 _ I2 q2) fun ws s3 ⟨ps,H3,I3,rel,q3⟩ => ⟨(x,y) :: ps,H3,I3,.cons ⟨rx,ry⟩ rel,q3⟩)
structure M1 (X : Cx) (o : Expr) (m : Str) (apos : Pos) (e : Expr) (cpos : Pos) : Prop where
  base : attributeBase o m X.env (eval o X.env) = eval o X.env
  few : ((backTo cpos (starEach [e] X.env)).all (fun x => !x.1) && (backToKw cpos (keywordEach [] X.env)).all (fun x => x.1.isSome)
    && decide (([e] : List Expr).length + ([] : List Keyword).length + (if ([] : List Keyword).isEmpty then 0 else 1) < 30)) = true
  line : (apos.endLine == cpos.line) = true
  trees : backTo cpos (starEach [e] X.env) = [(false,eval e X.env)]
def IsD (H : Hp) (a : Addr) : Prop:=(∃ kvs,Rd H a (.dK kvs)) ∨ ∃ kvs,Rd H a (.dT kvs)
theorem isD_at {X : Cx} {pins : List (Addr × Obj)} {σ : St} {H : Hp} {s : Shared} {a : Addr} (I : Inv X pins σ H s) (d : IsD H a) :
    s.TypeIs (.ref a) "dict" ∧ (∀ b,Value.ref a = .ref b → ∃ ob,s.heap.get? b = some ob ∧ ob.dict = none) ∧ (a == sysModules) = false:=by
  rcases d with ⟨kvs,e⟩ | ⟨kvs,e⟩
  · obtain ⟨_,hd,vs,_,dd⟩:=dk_rd I.hok e
    refine ⟨dd.typeIs,fun b q => ?_,hd⟩
    cases q
    obtain ⟨ob,_,_,h1,h2,_⟩:=dd
    exact ⟨ob,h1,h2.2.1⟩
  · obtain ⟨_,hd,xs,_,dd⟩:=dt_rd I.hok e
    refine ⟨dd.typeIs,fun b q => ?_,hd⟩
    cases q
    obtain ⟨ob,_,_,h1,h2,_⟩:=dd
    exact ⟨ob,h1,h2.2.1⟩
section
variable {X : Cx} {pins : List (Addr × Obj)} {σ : St} {H : Hp} {s : Shared} {a : Addr} {y d : V} {u r : Value} {o : Option V} {A : Around} {E : Value → Shared → Prop}
theorem d_get1 {Q : Value → Shared → Prop} (hu : A.units + 1 < cLine) (I : Inv X pins σ H s) (g : DGet H a y o) (ry : RelV y u) (h : ∀ w' s',Inv X pins σ H s' → RelV (o.getD .non) w' → Q w' s') :
    wpAny (model X.prog X.w) A (call (.builtin "dict.get") [.ref a,u]) Q E s:=by
  rcases g with ⟨kvs,k,e,ey,l⟩ | ⟨kvs,k,b,e,ey,eb,l⟩
  · subst ey
    obtain ⟨z,hd,vs,rel,dd⟩:=dk_rd I.hok e
    refine call_meetsIn PySem.F.slot_dict_get dd.typeIs PySem.F.entry_dict_get (PySem.F.args_dict_get_2 _ _) (meets_dict_get (mixKind X.prog X.w) a (kV_is ry) hd) ⟨_,dd.mapOf,h _ _ (I.tok _) ?_⟩
    rw [l]
    exact (rel.val k).getD rfl
  · subst ey
    cases (show u = Value.ref b from ry)
    obtain ⟨z,hd,xs,rel,dd⟩:=dt_rd I.hok e
    refine call_meetsIn PySem.F.slot_dict_get dd.typeIs PySem.F.entry_dict_get (PySem.F.args_dict_get_2 _ _) (meetsH_dict_get (tupleKind (mixKind X.prog X.w)) a b hd) ⟨tupleKind_room_in1 hu,k,xs,key_of I.hok eb,dd,h _ _ (I.tok _) ?_⟩
    rw [l]
    exact (rel.val k).getD rfl
end
def tDGet1 (td ty : TE) : TE:=fun σ H Q => td σ H fun x H1 => ∃ a,x = .ref a ∧ IsD H1 a ∧ ty σ H1 fun y H2 => ∃ o,DGet H2 a y o ∧ Q (o.getD .non) H2
section
variable {X : Cx} {o e f : Expr} {apos cpos : Pos} {td ty tx : TE}
theorem pe_dget1 (hu : X.A.units + 1 < cLine) (ho : PE X o td) (he : PE X e ty) (m : M1 X o "get" apos e cpos) : PE X (.Call (.Attribute o "get" apos) [e] [] cpos) (tDGet1 td ty):=by
  intro pins s σ H Q I h
  refine wpAny_Call_method m.base m.few m.line PySem.F.plainAttrs_dict PySem.F.slot_dict_get PySem.F.type_dict_get (thn (ho pins s σ H _ I h) fun u s1 ⟨x,H1,I1,rx,a,ex,d,q1⟩ => ?_)
  subst ex
  obtain rfl : u = Value.ref a:=rx
  obtain ⟨t1,t2,_⟩:=isD_at I1 d
  refine ⟨t1,t2,?_⟩
  rw [m.trees]
  refine Calls.callWith_builtin rfl (Calls.evalArgs_plain (Calls.spliced_cons (thn (he pins s1 σ H1 _ I1 q1) fun iv s2 ⟨y,H2,I2,ry,ov,g,q2⟩ => Calls.spliced_nil ?_)))
  exact d_get1 hu I2 g ry fun w' s3 I3 rw' => ⟨_,H2,I3,rw',q2⟩
end
section
variable {X : Cx} {pins : List (Addr × Obj)} {σ : St} {H : Hp} {s : Shared} {a : Addr} {kvs : List (Key × V)} {A : Around} {E : Value → Shared → Prop}
end
section
variable {X : Cx} {pins : List (Addr × Obj)} {σ : St} {H : Hp} {s : Shared} {a : Addr} {y : V} {u : Value} {A : Around} {E : Value → Shared → Prop}
end
end L2
namespace Att
open PySem PySem.W PySem.Calls PyProof.Rows
theorem ints_of_wellAll {P : Params} {h : Heap} : ∀ (ns : List Int) (vs : List Value),WellAll P h vs (ns.map WData.int) → IntsAre vs ns:=by
  intro ns
  induction ns with
  | nil =>
    intro vs w
    rw [List.map_nil] at w
    cases w
    exact .nil
  | cons n ns ih =>
    intro vs w
    rw [List.map_cons] at w
    cases w with
    | cons a b =>
      cases a
      exact .cons _ _ (ih _ b)
theorem script_of {l : OpenLaw} {n : Nat} (hn : l.most = some n) {P : Params} {h : Heap} {args : List WData} {vals : List Value}
    (hpre : l.row.toRowW.claim.pre args = true) (hwl : WellAll P h vals args) :
    ∃ a vs ns,vals = [Value.ref a] ∧ args = [WData.list (ns.map WData.int)] ∧ h.get? a = some { cls:=.type "list", data:=.seq vs.toArray } ∧ IntsAre vs ns ∧ ns.length ≤ n:=by
  have hsh : WShape.hasAll [] args [.list .int] = true:=(pre_splitW hpre).1
  have hc : l.pre.holds [] { args:=args } = true:=(pre_splitW hpre).2
  obtain ⟨d,r,rfl,h1,h2⟩:=hasAllW_cons hsh
  obtain rfl:=hasAllW_nil h2
  obtain ⟨xs,rfl,h3⟩:=hasW_list h1
  obtain ⟨ns,rfl⟩:=items_int h3
  have hlen : ns.length ≤ n:=by
    unfold OpenLaw.pre at hc
    have h4 : (WTm.not (.lt (.lit (.int (n : Int))) (.len (.arg 0)))).holds [] { args:=[.list (ns.map .int)] } = true:=by
      have h4:=(holds_andW hc).1
      rw [hn] at h4
      exact h4
    have h5:=condW_of h4 (w_not (w_lt w_lit (w_len_list (w_arg rfl))))
    rw [List.length_map] at h5
    refine Nat.le_of_not_lt fun q => ?_
    have q' : (n : Int) < ((ns.length : Nat) : Int):=by omega
    first
      | (rw [decide_eq_true q'] at h5; exact absurd h5 (by decide))
      | (simp at h5; omega)
  cases hwl with
  | cons w1 w2 =>
    cases w2
    cases w1 with
    | list ho hall => exact ⟨_,_,ns,rfl,rfl,ho,ints_of_wellAll ns _ hall,hlen⟩
theorem post_true (l : OpenLaw) (args : List WData) : l.row.toRowW.claim.post args (.bool true) args = true :=
  postW_of (r:=l.row.toRowW) (X:=(true == true))
    (show WShape.has [] (.bool true) .bool = true by first | rfl | decide | simp [WShape.has,WShape.arms,WShape.armsAll])
    (show (WTm.eq .res (.lit (.bool true))).value [] { args:=args,res:=some (.bool true),after:=args } = some (.bool (true == true)) from w_eq_bool (w_res rfl) w_lit) rfl
theorem attach_call {l : OpenLaw} {n : Nat} {q : Program} {loose : List Str} {XP : (Str → Option Value) → Heap → Prop} {YP : World → Heap → Prop} {d : DefRec}
    (hn : l.most = some n) (hdf : d.params.defaults = [])
    (call : ∀ (w : World) (s₀ s₁ : Shared) (mg mb : Str → Option Value) (fa : Addr) (o : Obj) (pm cd doc : Value) (a : Addr) (vs : List Value) (ns : List Int),
      Ground q loose [] XP w s₀ mg mb s₁.heap → YP w s₁.heap →
      s₁.heap.get? fa = some o → o.data = .func (docDef d.name d.params d.body d.scope pm cd doc) → s₁.heap.CodeRec cd d.name → mg d.name = some (.ref fa) →
      s₁.heap.get? a = some { cls:=.type "list", data:=.seq vs.toArray } → IntsAre vs ns → ns.length ≤ n → s₁.gens = #[] →
      codeAny (model l.prog w) callerA (.call (.ref fa) ⟨[.ref a],[]⟩) (fun r s' => r = .ok (.ret (.bool true)) ∧ OldK s₁.heap s'.heap ∧ s'.os = s₁.os ∧ AllBare s'.gens) s₁) :
    WalkO q loose XP YP l.row.toRowW d [] (fun f vs => PySem.call f vs):=by
  intro w s₀ s₁ mg mb G Y fa o pm cd doc dV kV ho hd hcd hD hmg hg args vals as hpre hlay hrd hwl hlo
  obtain rfl : dV = .none:=Dflts.none hD hdf
  obtain rfl : kV = .none:=Dflts.noKw hD
  obtain ⟨a,vs,ns,rfl,rfl,hobj,hints,hlen⟩:=script_of hn hpre hwl
  refine enter_call (codeAny_mono (call w s₀ s₁ mg mb fa o pm cd doc a vs ns G Y ho (fd_plain hd) hcd hmg hobj hints hlen hg) fun r s' hq => ?_)
  obtain ⟨rfl,h2,h3,h4⟩:=hq
  exact ⟨.inl ⟨.bool true,.bool true,[],rfl,fun _ => rfl,.bool true,post_true l _,fun _ => ⟨List.Pairwise.nil,fun _ hm => (nomatch hm)⟩⟩,h2,h3,h4⟩
section
variable {prog : Program} {w : World} {A : Around} {E : Value → Shared → Prop} {s : Shared} {K : Frag}
end
end Att
namespace L2
open PySem PySem.Spec PyProof.Rows
theorem vals_ints : ∀ {vs : List Value} {ns : List Int},IntsAre vs ns → Vals (ns.map V.int) vs
  | _,_,.nil => .nil
  | _,_,.cons n t h => .cons ⟨t,rfl⟩ (vals_ints h)
def Only (H : Hp) : Prop := ∀ b,H b = none ∨ ∃ o xs,H b = some (.frz o (.lst xs))
theorem law_call {P : Program} {w : World} {K : PySem.W.Frag} {mg mb : Str → Option Value} {CX : CXT} {k : Nat} {fa a : Addr} {fd : FuncData} {x : Str} {sp : Sp} {s₁ : Shared} {vs : List Value} {ns : List Int}
    (KX : K.In s₁.heap) (hns : s₁.heap.Ns mainGlobals mg) (hb : s₁.heap.Ns builtinsNs mb) (hbb : ∀ x : Str,x ≠ "__name__" → mb x = bootBuiltins x) (hlim : s₁.heap.NoLimit) (hg : s₁.gens = #[])
    (ha : s₁.heap.get? a = some { cls:=.type "list", data:=.seq vs.toArray }) (hi : IntsAre vs ns) (hl : ns.length ≤ sizeLine) (hr : Room k callerA)
    (F : ∀ base : Heap,K.In base → base.Ns mainGlobals mg → FnOk P w K mg base CX k fa fd [x] sp) (hbind : ∀ (s : Shared) (u : Value),BindsTo s fd ⟨[u],[]⟩ [(x,u)])
    (hsp : ∀ H : Hp,Only H → SqL K H a (ns.map V.int) → sp [.ref a] H (fun v _ => v = .bl true) fun _ _ _ => False)
    (hCX : ∀ H e s',CX [] H s₁ (fun _ _ _ => False) e s' → False) :
    codeAny (model P w) callerA (.call (.ref fa) ⟨[.ref a],[]⟩) (fun r s' => r = .ok (.ret (.bool true)) ∧ OldK s₁.heap s'.heap ∧ s'.os = s₁.os ∧ AllBare s'.gens) s₁:=by
  have rv:=vals_ints hi
  have lenV:=hi.length
  -- from an abstract heap in which nothing but the script may be tracked
  have core : ∀ H : Hp,Only H → SqL K H a (ns.map V.int) → HOk P w H s₁.heap → (∀ b,H b ≠ none → b = a) → (H a ≠ none → K.lookup a = none) →
      codeAny (model P w) callerA (.call (.ref fa) ⟨[.ref a],[]⟩) (fun r s' => r = .ok (.ret (.bool true)) ∧ OldK s₁.heap s'.heap ∧ s'.os = s₁.os ∧ AllBare s'.gens) s₁:=by
    intro H hO hS hok hA hK
    have base_of : ∀ {b : Addr} {o : Obj},s₁.heap.get? b = some o → H b = none → (hidT s₁.heap H).get? b = some o:=fun e n => hidT_get e n
    have noA : ∀ {b : Addr} {o : Obj} {es : Array DictEntry} {ep : Nat},s₁.heap.get? b = some o → o.data = .dict es ep → H b = none:=fun {b o es ep} e d => by
      cases q : H b with
      | none => rfl
      | some u =>
        have e' : b = a:=hA b (by rw [q]; simp)
        subst e'
        rw [ha] at e; cases e
        have d' : Data.seq vs.toArray _ = Data.dict es ep:=d
        cases d'
    have nsK : ∀ {b : Addr} {m : Str → Option Value},s₁.heap.Ns b m → (hidT s₁.heap H).Ns b m:=fun {b m} ⟨o,es,ep,e,d,r⟩ => ⟨o,es,ep,base_of e (noA e d),d,r⟩
    have hKb : K.In (hidT s₁.heap H):=fun b o e => base_of (KX b o e) (by
      cases q : H b with
      | none => rfl
      | some u =>
        have e' : b = a:=hA b (by rw [q]; simp)
        subst e'
        rw [hK (by rw [q]; simp)] at e; cases e)
    have hM : Mod K mg (hidT s₁.heap H):=⟨hKb,nsK hns,⟨mb,nsK hb,hbb⟩,let ⟨mc,h1,h2⟩:=hlim; ⟨mc,nsK h1,h2⟩⟩
    have e0 : Env0 P w K mg (hidT s₁.heap H) callerA [] s₁ H:=⟨rfl,hM,fun b o e => of_hidT e,Nat.le_of_eq (hidT_size _ _),trivial,fun b hb => absurd (show b ∈ ([] : List Addr) from hb) (by simp),hok,.of_eq hg⟩
    refine codeAny_mono ((F _ hKb (nsK hns)).run callerA [] s₁ H ⟨[.ref a],[]⟩ [.ref a] [.ref a] _ _ hr e0 (hbind s₁ (.ref a)) (.cons rfl .nil) (hsp H hO hS)) fun r s' h => ?_
    cases r with
    | error e => exact (hCX H e s' h).elim
    | ok fl =>
      cases fl with
      | next => exact False.elim h
      | brk => exact False.elim h
      | cont => exact False.elim h
      | ret u =>
        obtain ⟨v,H',os,bare,un,hok',r',q⟩:=h
        have q' : v = .bl true:=q
        subst q'
        obtain rfl : u = Value.bool true:=r'
        refine ⟨rfl,OldK.of_keep fun b o e => ?_,os,bare⟩
        cases q : H b with
        | none => exact un.keep b o e q (by intro z; exact absurd (show b ∈ ([] : List Addr) from z) (by simp)) (by simp)
        | some u =>
          rcases hO b with z | ⟨ob,xs,z⟩
          · rw [q] at z; cases z
          · have z2:=un.frzs b ob _ z
            obtain ⟨e1,_⟩:=hok b _ z
            obtain ⟨e2,_⟩:=hok' b _ z2
            rw [e] at e1; cases e1
            exact e2
  cases hk : K.lookup a with
  | some o =>
    -- the script is one of the module's own objects
    have e:=KX a o hk
    rw [ha] at e
    cases e
    refine core (fun _ => none) (fun _ => .inl rfl) (.inr ⟨_,vs.toArray,_,hk,rfl,rfl,rfl,by rw [List.size_toArray,lenV]; exact hl,by simpa using rv⟩) (fun b u z => by have z' : (none : Option HO) = some u:=z; cases z') (fun b z => absurd rfl z) fun z => absurd rfl z
  | none =>
    refine core (fun b => if b = a then some (.frz { cls:=.type "list", data:=.seq vs.toArray } (.lst (ns.map V.int))) else none) (fun b => ?_) (.inl (.inr ⟨{ cls:=.type "list", data:=.seq vs.toArray },if_pos rfl⟩)) (fun b u z => ?_) (fun b z => ?_) fun _ => hk
    · by_cases hb : b = a
      · exact .inr ⟨_,_,if_pos hb⟩
      · exact .inl (if_neg hb)
    · by_cases hb : b = a
      · have z':=(if_pos hb).symm.trans z
        cases z'
        subst hb
        exact ⟨ha,by rw [List.length_map]; exact hl,vs,_,rv,ha⟩
      · have z':=(if_neg hb).symm.trans z
        cases z'
    · by_cases hb : b = a
      · exact hb
      · exact absurd (if_neg hb) z
theorem walk_of {l : PySem.W.OpenLaw} {n k : Nat} {q : Program} {loose : List Str} {XP : (Str → Option Value) → Heap → Prop} {YP : World → Heap → Prop} {d : DefRec} {K : Params → PySem.W.Frag} {CX : World → CXT} {sp : World → Sp} {x : Str}
    (hn : l.most = some n) (hn2 : n ≤ sizeLine) (hdf : d.params.defaults = []) (hr : Room k callerA)
    (hY : ∀ (w : World) (h : Heap),YP w h → (K w.params).In h)
    (F : ∀ (w : World) (mg : Str → Option Value) (fa : Addr) (h : Heap),(K w.params).In h → h.Ns mainGlobals mg → mg d.name = some (.ref fa) →
      ∃ fd : FuncData,(∀ (s : Shared) (u : Value),BindsTo s fd ⟨[u],[]⟩ [(x,u)]) ∧
        ∀ base : Heap,(K w.params).In base → base.Ns mainGlobals mg → FnOk l.prog w (K w.params) mg base (CX w) k fa fd [x] (sp w))
    (hsp : ∀ (w : World) (H : Hp) (a : Addr) (ns : List Int),ns.length ≤ n → Only H → SqL (K w.params) H a (ns.map V.int) → sp w [.ref a] H (fun v _ => v = .bl true) fun _ _ _ => False)
    (hCX : ∀ (w : World) (H : Hp) (s : Shared) (e : Value) (s' : Shared),CX w [] H s (fun _ _ _ => False) e s' → False) :
    PySem.W.WalkO q loose XP YP l.row.toRowW d [] (fun f vs => PySem.call f vs):=by
  refine Att.attach_call hn hdf fun w s₀ s₁ mg mb fa o pm cd doc a vs ns G Y ho hd hcd hmg hobj hints hlen hg => ?_
  have KX:=hY w _ Y
  obtain ⟨fd,hb,hF⟩:=F w mg fa _ KX G.T.g hmg
  exact law_call KX G.T.g G.T.b G.T.builtins G.T.nolimit hg hobj hints (Nat.le_trans hlen hn2) hr hF hb (fun H hO hS => hsp w H a ns hlen hO hS) fun H e s' => hCX w H s₁ e s'
def inClass (s : Stmt) (j : Nat) : Stmt:=match s with
  | .ClassDef _ _ _ body _ _ _ _ _ _ _ => body.getD j (.Pass ⟨0,0,0,0⟩)
  | _ => .Pass ⟨0,0,0,0⟩
def defArgs (s : Stmt) : Arguments:=match s with
  | .FunctionDef _ a _ _ _ _ _ _ _ _ => a
  | _ => { posonlyargs:=[],args:=[],vararg:=none,kwonlyargs:=[],kw_defaults:=[],kwarg:=none,defaults:=[] }
def defBody (s : Stmt) : List Stmt:=match s with
  | .FunctionDef _ _ b _ _ _ _ _ _ _ => b
  | _ => []
def defScope (s : Stmt) : Scope:=match s with
  | .FunctionDef _ _ _ _ _ _ sc _ _ _ => sc
  | _ => { kind:=.function,names:=[],isGenerator:=false,isCoroutine:=false }
abbrev CX0 : CXT:=fun _ _ _ _ _ _ => False
abbrev E0 : XK:=fun _ _ _ => False
theorem pass0 {X : Cx} : Passes CX0 X E0:=fun _ _ _ _ _ _ _ h => h.elim
structure Fun (K : PySem.W.Frag) (x qual : Str) (st : Stmt) (f : Addr) (fd : FuncData) : Prop where
  ex : ∃ (oc : Value) (od : Option Addr) (kV doc pm : Value) (an : Option Addr) (cdv ct : Value) (osl : Array (Option Value)),
    fd = PySem.W.fnOf x qual (defArgs st) (defBody st) (defScope st) .none kV doc pm an cdv ct ∧ K.lookup f = some ⟨oc,od,.func fd,osl⟩ ∧ PySem.W.codeIn K cdv qual = true
  kp : PySem.W.keepIn K (.ref f) = true
section
variable {P : Program} {w : World} {K : PySem.W.Frag} {mg : Str → Option Value} {base : Heap}
theorem Fun.ok {x qual : Str} {st : Stmt} {f : Addr} {fd : FuncData} {N ps : List Str} {k : Nat} {sp : Sp} (F : Fun K x qual st f fd) (S : FnScope N ps (defScope st)) (len : ∀ vs H Q E,sp vs H Q E → vs.length = ps.length)
    (hbody : ∀ (cdv : Value) (A : Around) (outer : List Env) (s : Shared) (H : Hp) (vs : List V) (Q : VK) (E : XK),Room k (A.deeper (envOfC qual (defScope st) s.heap.objs.size f cdv)) → sp vs H Q E →
      ∃ t,PSs (cxOf CX0 P w K mg base N qual (defScope st) f cdv A outer s H E).nox (defBody st) t ∧ t { nx:=fun _ H' => Q .non H',rt:=Q } (start N vs) H) : FnOk P w K mg base CX0 (k + 1) f fd ps sp:=by
  obtain ⟨oc,od,kV,doc,pm,an,cdv,ct,osl,rfl,lk,hcd⟩:=F.ex
  refine fn_of lk hcd S len fun A outer s H vs Q E hr hsp => ?_
  obtain ⟨t,h,q⟩:=hbody cdv A outer s H vs Q E hr hsp
  exact ⟨t,h.nox,q⟩
theorem Fun.binds {x qual : Str} {st : Stmt} {f : Addr} {fd : FuncData} {ps : List Str} (F : Fun K x qual st f fd)
    (h : ∀ (kV doc pm : Value) (an : Option Addr) (cdv ct : Value) (us : List Value),us.length = ps.length → bindArgs (PySem.W.fnOf x qual (defArgs st) (defBody st) (defScope st) .none kV doc pm an cdv ct) ⟨us,[]⟩ = pure (ps.zip us)) : Binds K fd ps []:=by
  obtain ⟨oc,od,kV,doc,pm,an,cdv,ct,osl,rfl,lk,hcd⟩:=F.ex
  exact .all (h kV doc pm an cdv ct)
theorem fun_mk {x qual : Str} {st : Stmt} {f : Addr} {oc : Value} {od an : Option Addr} {osl : Array (Option Value)} {kV doc pm cdv ct : Value} (l : K.lookup f = some ⟨oc,od,.func (PySem.W.fnOf x qual (defArgs st) (defBody st) (defScope st) .none kV doc pm an cdv ct),osl⟩)
    (c : PySem.W.codeIn K cdv qual = true) (k : PySem.W.keepIn K (.ref f) = true) : Fun K x qual st f (PySem.W.fnOf x qual (defArgs st) (defBody st) (defScope st) .none kV doc pm an cdv ct):=⟨⟨oc,od,kV,doc,pm,an,cdv,ct,osl,rfl,l,c⟩,k⟩
end
theorem hu_of {A : Around} {k : Nat} (hr : Room k A) : A.units + 1 < cLine:=Nat.lt_of_le_of_lt (Nat.add_le_add_left (by decide : 1 ≤ 64) _) hr.units
theorem small1000 {n : Nat} (h : n ≤ 1000) : n < sizeLine:=Nat.lt_of_le_of_lt h (by decide)
section
variable {X : Cx}
theorem pv (i : Nat) {x : Str} {pos : Pos} (hN : X.N[i]? = some x:=by rfl) (hv : Vis X.env.scope x:=by first | exact Or.inl rfl | exact Or.inr (Or.inl rfl) | exact Or.inr (Or.inr rfl)) (hd : (x == ("__debug__" : Str)) = false:=by decide)
    (hcd : (x == ("__classdict__" : Str)) = false:=by decide) : PE X (.Name x pos) (tVar i):=pe_var hN hv hd hcd
end
theorem iteF {A B : Prop} (h : B) : if false = true then A else B:=by
  rw [if_neg Bool.false_ne_true]
  exact h
theorem iteT {A B : Prop} (h : A) : if true = true then A else B:=by
  rw [if_pos rfl]
  exact h
theorem ite2 {c A B : Prop} [Decidable c] (h1 : c → A) (h2 : ¬ c → B) : if c then A else B:=by
  by_cases h : c
  · rw [if_pos h]
    exact h1 h
  · rw [if_neg h]
    exact h2 h
def Same (H H' : Hp) : Prop := ∀ b o,H b = some o → H' b = some o
theorem Same.refl (H : Hp) : Same H H:=fun _ _ h => h
theorem Same.trans {H H1 H2 : Hp} (a : Same H H1) (b : Same H1 H2) : Same H H2:=fun c o h => b c o (a c o h)
theorem Same.free {H H' : Hp} (e : Same H H') {l : Addr} (h : H' l = Option.none) : H l = Option.none:=by
  cases q : H l with
  | none => rfl
  | some o =>
    rw [e l o q] at h
    cases h
theorem Same.seq {K : PySem.W.Frag} {H H' : Hp} {a : Addr} {xs : List V} (e : Same H H') (h : SqL K H a xs) : SqL K H' a xs:=by
  rcases h with (h | ⟨o,h⟩) | h
  · exact .inl (.inl (e _ _ h))
  · exact .inl (.inr ⟨o,e _ _ h⟩)
  · exact .inr h
section
variable {κ : Type} [DecidableEq κ]
end
def closL (cells : List (Str × Addr)) : List (Str × NameKind) → List (Str × Addr) → List (Str × Addr)
  | [],acc => acc
  | (n,k) :: r,acc => closL cells r (if (k == NameKind.free) = true then (n,(cells.lookup n).getD 0) :: acc else acc)
theorem closL_of {cells : List (Str × Addr)} {x : Str} {c : Addr} : ∀ {names : List (Str × NameKind)} {acc : List (Str × Addr)},(closL cells names acc).lookup x = some c →
    acc.lookup x = some c ∨ ((x,NameKind.free) ∈ names ∧ c = (cells.lookup x).getD 0)
  | [],acc,h => .inl h
  | (n,k) :: r,acc,h => by
    unfold closL at h
    rcases closL_of h with h1 | ⟨h1,e⟩
    · clear h
      split at h1
      · rename_i hk
        rw [List.lookup_cons] at h1
        cases hx : x == n with
        | true =>
          rw [hx] at h1
          have hx' : x = n:=by simpa using hx
          have hk' : k = .free:=by simpa using hk
          subst hx' hk'
          exact .inr ⟨List.mem_cons_self,(Option.some.inj h1).symm⟩
        | false =>
          rw [hx] at h1
          exact .inl h1
      · exact .inl h1
    · exact .inr ⟨List.mem_cons_of_mem _ h1,e⟩
theorem closL_keeps {cells : List (Str × Addr)} {x : Str} : ∀ {names : List (Str × NameKind)} {acc : List (Str × Addr)} {c : Addr},acc.lookup x = some c → ∃ c',(closL cells names acc).lookup x = some c'
  | [],_,c,h => ⟨c,h⟩
  | (n,k) :: r,acc,c,h => by
    unfold closL
    split
    · cases hx : x == n with
      | true => exact closL_keeps (c:=(cells.lookup n).getD 0) (by rw [List.lookup_cons,hx])
      | false => exact closL_keeps (c:=c) (by rw [List.lookup_cons,hx]; exact h)
    · exact closL_keeps h
theorem closL_has {cells : List (Str × Addr)} {x : Str} : ∀ {names : List (Str × NameKind)} {acc : List (Str × Addr)},(x,NameKind.free) ∈ names → ∃ c,(closL cells names acc).lookup x = some c
  | [],_,h => nomatch h
  | (n,k) :: r,acc,h => by
    unfold closL
    rcases List.mem_cons.mp h with e | h
    · injection e with e1 e2
      subst e1; subst e2
      exact closL_keeps (c:=(cells.lookup x).getD 0) (by simp)
    · exact closL_has h
theorem closFor {scope : Scope} {env : Env} (h : ∀ x ∈ scope.names,x.2 = .free → ∃ c,env.cells.lookup x.1 = some c) : closureFor scope env = pure (closL env.cells scope.names []):=by
  have go : ∀ (names : List (Str × NameKind)) (acc : List (Str × Addr)),(∀ x ∈ names,x.2 = .free → ∃ c,env.cells.lookup x.1 = some c) →
      (forIn names acc fun x cs => if (x.2 == NameKind.free) = true then do let c ← cellOf env x.1; pure (ForInStep.yield ((x.1,c) :: cs)) else pure (ForInStep.yield cs) : Sem (List (Str × Addr))) = pure (closL env.cells names acc):=by
    intro names
    induction names with
    | nil => intro acc _; rfl
    | cons x r ih =>
      intro acc hx
      obtain ⟨n,k⟩:=x
      rw [List.forIn_cons]
      unfold closL
      cases hk : k == NameKind.free with
      | true =>
        obtain ⟨c,hc⟩:=hx (n,k) List.mem_cons_self (by simpa using hk)
        simp only [hk,if_true,cellOf,hc,pure_bind,Option.getD_some]
        exact ih _ fun y hy => hx y (List.mem_cons_of_mem _ hy)
      | false =>
        simp only [hk,Bool.false_eq_true,if_false,pure_bind]
        exact ih _ fun y hy => hx y (List.mem_cons_of_mem _ hy)
  have e:=go scope.names [] h
  have e2 : closureFor scope env = (forIn scope.names [] fun x cs => if (x.2 == NameKind.free) = true then do let c ← cellOf env x.1; pure (ForInStep.yield ((x.1,c) :: cs)) else pure (ForInStep.yield cs) : Sem (List (Str × Addr))) >>= fun cs => pure cs:=by
    rfl
  rw [e2,e]
  rfl
theorem lookup_relabel_free {env : Env} : ∀ {names : List (Str × NameKind)} {x : Str},names.lookup x = some .free →
    (names.map fun (n,k) => if (k == NameKind.free && env.scope.kind == .function && env.kindOf n == some .cell) then (n,NameKind.cell) else (n,k)).lookup x = some .cell ∨
    (names.map fun (n,k) => if (k == NameKind.free && env.scope.kind == .function && env.kindOf n == some .cell) then (n,NameKind.cell) else (n,k)).lookup x = some .free
  | [],_,h => by simp at h
  | (n,k) :: r,x,h => by
    have ih := @lookup_relabel_free env r x
    show List.lookup x ((if (k == NameKind.free && env.scope.kind == .function && env.kindOf n == some .cell) = true then (n,NameKind.cell) else (n,k)) :: _) = _ ∨ List.lookup x ((if (k == NameKind.free && env.scope.kind == .function && env.kindOf n == some .cell) = true then (n,NameKind.cell) else (n,k)) :: _) = _
    cases hx : x == n with
    | true =>
      simp only [List.lookup_cons,hx] at h
      cases h
      by_cases hc : (NameKind.free == NameKind.free && env.scope.kind == .function && env.kindOf n == some .cell) = true
      · rw [if_pos hc]; simp [List.lookup_cons,hx]
      · rw [if_neg hc]; simp [List.lookup_cons,hx]
    | false =>
      simp only [List.lookup_cons,hx] at h
      by_cases hc : (k == NameKind.free && env.scope.kind == .function && env.kindOf n == some .cell) = true
      · rw [if_pos hc]; simp only [List.lookup_cons,hx]; exact ih h
      · rw [if_neg hc]; simp only [List.lookup_cons,hx]; exact ih h
theorem mem_relabel_free {env : Env} : ∀ {names : List (Str × NameKind)} {x : Str},(∀ y ∈ names,y.2 ≠ .cell) →
    ((names.map fun (n,k) => if (k == NameKind.free && env.scope.kind == .function && env.kindOf n == some .cell) then (n,NameKind.cell) else (n,k)).lookup x = some .cell ∨
    (names.map fun (n,k) => if (k == NameKind.free && env.scope.kind == .function && env.kindOf n == some .cell) then (n,NameKind.cell) else (n,k)).lookup x = some .free) → (x,NameKind.free) ∈ names
  | [],_,_,h => by simp at h
  | (n,k) :: r,x,hn,h => by
    have ih := @mem_relabel_free env r x fun y hy => hn y (List.mem_cons_of_mem _ hy)
    change List.lookup x ((if (k == NameKind.free && env.scope.kind == .function && env.kindOf n == some .cell) = true then (n,NameKind.cell) else (n,k)) :: _) = _ ∨ List.lookup x ((if (k == NameKind.free && env.scope.kind == .function && env.kindOf n == some .cell) = true then (n,NameKind.cell) else (n,k)) :: _) = _ at h
    cases hx : x == n with
    | true =>
      have e : x = n:=by simpa using hx
      subst e
      by_cases hc : (k == NameKind.free && env.scope.kind == .function && env.kindOf x == some .cell) = true
      · have hk : k = .free:=by
          have:=(Bool.and_eq_true _ _ ▸ hc : _ ∧ _).1
          have:=(Bool.and_eq_true _ _ ▸ this : _ ∧ _).1
          simpa using this
        subst hk
        exact List.mem_cons_self
      · rw [if_neg hc] at h
        simp only [List.lookup_cons,hx] at h
        rcases h with h | h
        · cases h; exact absurd rfl (hn _ List.mem_cons_self)
        · cases h; exact List.mem_cons_self
    | false =>
      by_cases hc : (k == NameKind.free && env.scope.kind == .function && env.kindOf n == some .cell) = true
      · rw [if_pos hc] at h; simp only [List.lookup_cons,hx] at h; exact List.mem_cons_of_mem _ (ih h)
      · rw [if_neg hc] at h; simp only [List.lookup_cons,hx] at h; exact List.mem_cons_of_mem _ (ih h)
def blk (X : Cx) (scope : Scope) (N' : List Str) (C : Addr) (s₀ : Shared) (H₀ : Hp) (fp : List Addr) : Cx :=
  { X with N:=N',s₀:=s₀,H₀:=H₀,env:=compEnvC scope (closL X.env.cells scope.names []) C X.env,outer:=X.stack,stack:=X.stack,ex:=fp,fn:=fun _ => false,pn:=[],xe:=fun _ _ => False }
structure BlkOk (X : Cx) (scope : Scope) (fr : List (Str × Nat)) : Prop where
  kind : scope.kind = .function
  nocell : ∀ y ∈ scope.names,y.2 ≠ .cell
  names : ∀ y ∈ scope.names,y.2 = .local → scope.names.lookup y.1 = some .local
  free : ∀ y ∈ scope.names,y.2 = .free → X.env.scope.names.lookup y.1 = some .cell ∨ X.env.scope.names.lookup y.1 = some .free
  ix : ∀ p ∈ fr,X.N[p.2]? = some p.1 ∧ scope.names.lookup p.1 = some .free
def blkσ (no : Nat) (fr : List (Str × Nat)) (σ : St) : St:=List.replicate no none ++ fr.map fun p => σ.getD p.2 none
def Wk (σ σ' : St) : Prop:=σ.length = σ'.length ∧ ∀ (i : Nat) v,σ[i]? = some (some v) → σ'[i]? = some (some v)
theorem Wk.refl (σ : St) : Wk σ σ:=⟨rfl,fun _ _ h => h⟩
theorem Wk.set {σ σ' : St} {i : Nat} {x : Option V} (h : Wk σ σ') (hi : σ[i]? = some none) : Wk σ (σ'.set i x):=by
  refine ⟨by rw [List.length_set]; exact h.1,fun j v e => ?_⟩
  have hj : j ≠ i:=by rintro rfl; rw [hi] at e; cases e
  rw [List.getElem?_set_ne (Ne.symm hj)]
  exact h.2 j v e
section
variable {X : Cx} {pins : List (Addr × Obj)} {σ : St} {H : Hp} {s : Shared} {scope : Scope} {fr : List (Str × Nat)} {own : List Str} {fp : List Addr}
theorem BlkOk.cell (B : BlkOk X scope fr) (ok : X.Ok) : ∀ x ∈ scope.names,x.2 = .free → ∃ c,X.env.cells.lookup x.1 = some c:=fun x hx hk => ok.has x.1 (B.free x hx hk)
theorem BlkOk.sub (B : BlkOk X scope fr) (ok : X.Ok) {x : Str} {c : Addr} (h : (closL X.env.cells scope.names []).lookup x = some c) : X.env.cells.lookup x = some c:=by
  rcases closL_of h with h | ⟨hm,e⟩
  · simp at h
  · obtain ⟨c',hc⟩:=B.cell ok _ hm rfl
    rw [e,hc]; rfl
theorem blk_ok (B : BlkOk X scope fr) (I : Inv X pins σ H s) (hf : ∀ b ∈ fp,FpOk X pins H b) (hfs : ∀ b ∈ fp,b < s.heap.objs.size) {N' : List Str} : (blk X scope N' s.heap.objs.size s H fp).Ok where
  mod:=I.ok.mod
  kind:=B.kind
  glob:=I.ok.glob
  blt:=I.ok.blt
  above:=Nat.le_refl _
  inj:=fun x y c h1 h2 => I.ok.inj x y c (B.sub I.ok h1) (B.sub I.ok h2)
  has:=fun x h => closL_has (mem_relabel_free B.nocell h)
  cab:=fun x c h => by cases h
  hd:=I.ok.hd
  frames:=I.ok.frames
  stk:=.inl rfl
  exf:=fun b hb => ⟨Nat.ne_of_lt (hfs b hb),fun x c h => (hf b hb).2.2.2.2.1 x c (B.sub I.ok h)⟩
  bs:=I.bs
  bsz:=Nat.le_trans I.ok.bsz I.sz
  noex:=fun b o e hb => by
    rcases (hf b hb).2.2.2.1 with h | h
    · exact I.ok.noex b o e h
    · exact absurd (Nat.lt_of_lt_of_le (Heap.lt_size e) (Nat.le_trans I.ok.bsz h)) (Nat.lt_irrefl _)
  exfs:=fun b hb h => by
    rcases List.mem_cons.mp (I.stkSub b h) with e | h
    · exact (hf b hb).2.1 e
    · exact (hf b hb).2.2.1 h
  funs:=I.stack
  frf:=I.stkFree
theorem blk_start (B : BlkOk X scope fr) (I : Inv X pins σ H s) (hf : ∀ b ∈ fp,FpOk X pins H b) (hfs : ∀ b ∈ fp,b < s.heap.objs.size) {h1 : Heap} {m : Str → Option Value} {tk : Nat} (hn : h1.Ns s.heap.objs.size m)
    (hk : ∀ b o,s.heap.get? b = some o → h1.get? b = some o) : Inv (blk X scope (own ++ fr.map (·.1)) s.heap.objs.size s H fp) [] (blkσ own.length fr σ) H { s with heap:=h1,toks:=tk } where
  ok:=blk_ok B I hf hfs
  os:=rfl
  bare:=I.bare
  base:=Un.kept hk
  loc:=by
    refine ⟨m,hn,fun i x v e1 e2 e3 => ?_⟩
    change (own ++ fr.map (·.1))[i]? = some x at e1
    unfold blkσ at e2
    by_cases hi : i < own.length
    · rw [List.getElem?_append_left (by simpa using hi),List.getElem?_replicate] at e2
      split at e2 <;> cases e2
    · rw [List.getElem?_append_right (by simpa using Nat.le_of_not_lt hi),List.getElem?_map] at e1
      rw [List.getElem?_append_right (by simpa using Nat.le_of_not_lt hi),List.getElem?_map,List.length_replicate] at e2
      cases hp : fr[i - own.length]? with
      | none => rw [hp] at e1; cases e1
      | some p =>
        rw [hp] at e1 e2
        simp only [Option.map_some,Option.some.injEq] at e1 e2
        obtain ⟨i1,i2⟩:=B.ix p (List.mem_of_getElem? hp)
        subst e1
        have e2' : σ[p.2]? = some (some v):=by
          rw [List.getD_eq_getElem?_getD] at e2
          cases q : σ[p.2]? with
          | none => rw [q] at e2; cases e2
          | some z => rw [q] at e2; exact congrArg some e2
        have kX : X.env.kindOf p.1 = some .cell ∨ X.env.kindOf p.1 = some .free:=B.free (p.1,.free) (PySem.mem_of_lookup i2) rfl
        obtain ⟨m',hn',hl'⟩:=I.loc
        have vis : Vis X.env.scope p.1:=.inr kX
        obtain ⟨u,r,l⟩:=hl' p.2 p.1 v i1 e2' vis
        refine ⟨u,r,.inr ⟨lookup_relabel_free i2,?_⟩⟩
        rcases l with ⟨k,_⟩ | ⟨_,c,hc,z⟩
        · rcases kX with q | q <;> (rw [k] at q; cases q)
        · obtain ⟨c',hc'⟩:=closL_has (cells:=X.env.cells) (acc:=[]) (PySem.mem_of_lookup i2)
          have:=B.sub I.ok hc'
          rw [hc] at this; cases this
          exact ⟨c,hc',z.keeps hk⟩
  cell:=fun x c h => by
    obtain ⟨v,z⟩:=I.cell x c (B.sub I.ok h)
    exact ⟨v,z.keeps hk⟩
  free:=I.hok.fresh (Nat.le_refl _)
  freeC:=fun x c h => I.freeC x c (B.sub I.ok h)
  pin:=fun p hp => absurd (show p ∈ ([] : List (Addr × Obj)) from hp) (by simp)
  hok:=I.hok.kept hk
  len:=by
    unfold blkσ
    show _ = (own ++ fr.map (·.1)).length
    simp
theorem blk_end {s' : Shared} {H' : Hp} {σ' : St} {pY : List (Addr × Obj)} {N' : List Str} (I : Inv X pins σ H s) (hf : ∀ b ∈ fp,FpOk X pins H b) (J : Inv (blk X scope N' s.heap.objs.size s H fp) pY σ' H' s') : Inv X pins σ H' s' :=
  I.call' J.os J.base J.hok J.bare fun b hb => ⟨(hf b hb).2.2.2.1,(hf b hb).2.1,(hf b hb).2.2.2.2.1,(hf b hb).2.2.2.2.2⟩
end
def PIf (Y : Cx) (ifs : List Expr) (t : TT) : Prop :=
  ∀ (pins : List (Addr × Obj)) (s : Shared) (σ : St) (H : Hp) (Q : Bool → Hp → Prop),Inv Y pins σ H s → t σ H Q →
    wpAny (model Y.prog Y.w) Y.A (forIn ifs true fun c r => if r = true then do let ok ← isTrue c Y.env (eval c Y.env); pure (ForInStep.yield ok) else pure (ForInStep.yield r)) (TP Y pins σ Q) Y.xe s
def tYes : TT:=fun _ H Q => Q true H
theorem pif_nil {Y : Cx} : PIf Y [] tYes:=fun _ _ _ H _ I h => wpAny_tests_nil ⟨H,I,h⟩
theorem pif_one {Y : Cx} {c : Expr} {t : TT} (h : PT Y c t) : PIf Y [c] t:=fun pins s σ H Q I hq => wpAny_tests_one (h pins s σ H Q I hq)
def CompW (J : It) (g : TG) (tc : TT) (te : TE) (σ₀ : St) (D : Addr) (Q : Hp → Prop) (H : Hp) : Prop :=
  ∃ W : Nat → Nat → List V → Hp → Prop,(∃ m,W 0 m [] H) ∧ ∀ i m ys H,W i m ys H →
    (J.stop i H ∧ Q H) ∨ (J.go i H ∧ ∃ N : List V → Hp → Prop,(∀ ys' H',N ys' H' → ∃ m',m' < m ∧ W (i + 1) m' ys' H') ∧ ∀ x H',J.yld i H x H' → g x σ₀ H' fun σ2 H2 => Wk σ₀ σ2 ∧
      tc σ2 H2 fun b H3 => if b = true then te σ2 H3 fun y H4 => H4 D = some (.lst ys) ∧ ys.length < sizeLine ∧ N (ys ++ [y]) (upd H4 D (.lst (ys ++ [y]))) else N ys H3)
theorem Inv.weakW {X : Cx} {pins : List (Addr × Obj)} {σ σ' : St} {H : Hp} {s : Shared} (I : Inv X pins σ' H s) (h : Wk σ σ') : Inv X pins σ H s:=I.weak h.1 h.2
theorem comp_loop {Y : Cx} {elt tg iter : Expr} {ifs : List Expr} {scope : Scope} {pos : Pos} {it D : Addr} {fp : List Addr} {tn : Nat → Heap → Prop} {J : It} {g : TG} {tc : TT} {te : TE} {σ₀ : St} {H : Hp} {s : Shared} {Q : Hp → Prop}
    (hc : Y.calm = true) (T : Turn Y.prog Y.w Y.K tg J fp it tn) (hg : PG Y tg g) (hif : PIf Y ifs tc) (he : PE Y elt te)
    (I : Inv Y [] σ₀ H s) (st : tn 0 s.heap) (hf : ∀ b ∈ fp,FpOk Y [] H b) (hw : CompW J g tc te σ₀ D Q H) (hx : Y.xe = fun _ _ => False) :
    codeAny (model Y.prog Y.w) Y.A (.compLoop (.ListComp elt [⟨tg,iter,ifs,0⟩] scope pos) 0 (.ref it) (.ref D) Y.env) (fun r s' => ∃ H',r = .ok .next ∧ Inv Y [] σ₀ H' s' ∧ Q H') s:=by
  obtain ⟨W,⟨m0,w0⟩,turn⟩:=hw
  have stat : ∀ {H' : Hp},(∀ b ∈ fp,H' b = none) → ∀ b ∈ fp,FpOk Y [] H' b:=fun hn b hb => ⟨hn b hb,(hf b hb).2⟩
  refine codeAny_loop rfl (fun n s' => ∃ i ys H',Inv Y [] σ₀ H' s' ∧ tn i s'.heap ∧ (∀ b ∈ fp,H' b = none) ∧ W i n ys H') ?_ m0 ⟨0,[],H,I,st,fun b hb => (hf b hb).1,w0⟩
  rintro n s3 ⟨i,ys,H3,I3,st3,fr3,w3⟩
  show wpAny _ Y.A ((compTurn (.ListComp elt [⟨tg,iter,ifs,0⟩] scope pos) 0 (.ref it) (.ref D) Y.env).onRaise (fun x => do noteFrame x Y.env; theTreesLotGoes x)) _ _ s3
  refine wpAny_noted ?_
  rw [compTurn_list]
  refine wpAny_bind (wpAny_standAt (wpAny_bind ?_))
  have toE : ∀ {α : Type} {t : Sem α} {P : α → Shared → Prop} {E : Value → Shared → Prop} {s : Shared},wpAny (model Y.prog Y.w) Y.A t P Y.xe s → wpAny (model Y.prog Y.w) Y.A t P E s:=fun {α t P E s} h => by
    rw [hx] at h
    exact wpAny_mono h (fun _ _ q => q) fun _ _ q => q.elim
  rcases turn i n ys H3 w3 with ⟨stop,qn⟩ | ⟨go,N,hN,step⟩
  · refine thn (T.done Y rfl rfl rfl hc i [] s3 σ₀ H3 _ I3 (stat fr3) st3 stop) fun r s4 ⟨hr,I4⟩ => ?_
    subst hr
    exact wpAny_pure ⟨H3,rfl,I4,qn⟩
  · refine thn (T.item Y rfl rfl rfl hc i [] s3 σ₀ H3 _ I3 (stat fr3) st3 go) fun r s4 ⟨u,hr,h4⟩ => ?_
    subst hr
    refine wpAny_bind (thn h4 fun _ s5 ⟨x,H5,I5,r5,y5,st5,fr5⟩ => ?_)
    have I5':=I5.pinned (stat fr5) (T.obj _ _ st5)
    refine wpAny_bind (toE (thn (hg _ s5 σ₀ H5 x u _ I5' r5 (step x H5 y5)) fun _ s6 ⟨σ6,H6,I6,wk6,q6⟩ => ?_))
    have again : ∀ {s7 : Shared} {σ7 : St} {ys7 : List V} {H7 : Hp},Inv Y ([] ++ pinsAt fp s5.heap) σ7 H7 s7 → Wk σ₀ σ7 → N ys7 H7 → ∃ m,m < n ∧ ∃ i ys H',Inv Y [] σ₀ H' s7 ∧ tn i s7.heap ∧ (∀ b ∈ fp,H' b = none) ∧ W i m ys H':=fun {s7 σ7 ys7 H7} I7 wk7 n7 => by
      obtain ⟨m',hm,w7⟩:=hN ys7 H7 n7
      refine ⟨m',hm,i + 1,ys7,H7,(I7.unpinned).weakW wk7,T.keep _ _ _ st5 fun b hb o e => (I7.pin (b,o) (List.mem_append_right _ (List.mem_append_right _ (mem_pinsAt hb e)))).1,fun b hb => ?_,w7⟩
      obtain ⟨o,e,d⟩:=T.obj _ _ st5 b hb
      exact (I7.pin (b,o) (List.mem_append_right _ (List.mem_append_right _ (mem_pinsAt hb e)))).2.1
    refine wpAny_bind (wpAny_mono (hif _ s6 σ6 H6 _ I6 q6) (fun ok s7 ⟨H7,I7,q7⟩ => ?_) fun _ _ q => by rw [hx] at q; exact q.elim)
    cases ok with
    | false => exact wpAny_pure ⟨rfl,again I7 wk6 q7⟩
    | true =>
      refine wpAny_bind (wpAny_bind (wpAny_mono (he _ s7 σ6 H7 _ I7 q7) (fun v s8 ⟨y,H8,I8,r8,hD,hz,n8⟩ => ?_) fun _ _ q => by rw [hx] at q; exact q.elim))
      refine wpAny_bind (wpAny_mono (mt_append _ s8 σ6 H8 (.ref D) [y] (.ref D) [v] (fun _ H9 => N (ys ++ [y]) H9) I8 rfl (.cons r8 .nil) ⟨D,ys,y,rfl,rfl,hD,hz,n8⟩) (fun z s9 ⟨_,H9,I9,_,n9⟩ => ?_) fun _ _ q => by rw [hx] at q; exact q.elim)
      exact wpAny_pure (wpAny_pure ⟨rfl,again I9 wk6 n9⟩)
def tComp (wi : TI) (no : Nat) (fr : List (Str × Nat)) (g : TG) (tc : TT) (te : TE) : TE:=fun σ H Q => wi σ H fun J H1 => ∀ D,H1 D = none → CompW J g tc te (blkσ no fr σ) D (fun H' => Q (.ref D) H') (upd H1 D (.lst []))
section
variable {X : Cx} {elt tg iter : Expr} {ifs : List Expr} {scope : Scope} {pos : Pos} {own : List Str} {fr : List (Str × Nat)} {wi : TI} {g : TG} {tc : TT} {te : TE}
theorem comp_core {pins : List (Addr × Obj)} {σ : St} {H2 : Hp} {s2 : Shared} {it : Addr} {fp : List Addr} {tn : Nat → Heap → Prop} {J : It} {Qd : V → Hp → Prop} {RR : Value → Addr → Result → Shared → Prop} {E : Value → Shared → Prop}
    (hc : X.calm = true) (B : BlkOk X scope fr)
    (hb : ∀ (C : Addr) (s₀ : Shared) (H₀ : Hp) (fp : List Addr),PG (blk X scope (own ++ fr.map (·.1)) C s₀ H₀ fp) tg g ∧ PIf (blk X scope (own ++ fr.map (·.1)) C s₀ H₀ fp) ifs tc ∧ PE (blk X scope (own ++ fr.map (·.1)) C s₀ H₀ fp) elt te)
    (I2 : Inv X pins σ H2 s2) (T : Turn X.prog X.w X.K tg J fp it tn) (st2 : tn 0 s2.heap) (f2 : ∀ b ∈ fp,FpOk X pins H2 b)
    (hw : ∀ D,H2 D = none → CompW J g tc te (blkσ own.length fr σ) D (fun H' => Qd (.ref D) H') (upd H2 D (.lst [])))
    (hR : ∀ (D C : Addr) (s' : Shared) (H' : Hp) (m : Str → Option Value),Inv X pins σ H' s' → s'.heap.Ns C m → H' C = none → C ≠ X.env.locals → X.s₀.heap.objs.size ≤ C → (∀ x c,X.env.cells.lookup x = some c → c ≠ C) → (∀ p ∈ X.pn ++ pins,p.1 ≠ C) →
      Qd (.ref D) H' → RR (.ref D) C (.ok .next) s') :
    wpAny (model X.prog X.w) X.A (newList []) (fun acc s₃ => wpAny (model X.prog X.w) X.A (newFunctionEnv scope X.env.globals (closL X.env.cells scope.names []) [] X.env.qual none .none (some X.env)) (fun cenv s₄ =>
      codeAny (model X.prog X.w) X.A (.compStart (.ListComp elt [⟨tg,iter,ifs,0⟩] scope pos) 0 (.ref it) acc { cenv with scope:=relabel scope X.env }) (RR acc cenv.locals) s₄) E s₃) E s2:=by
  refine wpAny_newObj_type (wpAny_newFunctionEnv B.nocell (by intro y hy; simp at hy) (fun h₁ hns₁ hsb₁ => ?_) B.kind)
  dsimp only at hns₁ hsb₁ ⊢
  have hD : H2 s2.heap.objs.size = none:=I2.fresh
  have I3 : Inv X pins σ (upd H2 s2.heap.objs.size (.lst [])) { s2 with heap:=s2.heap.push { cls:=.type "list", data:=.seq ([] : List Value).toArray },toks:=s2.toks }:=I2.lnew .nil (by simp)
  have lt2 : ∀ b ∈ fp,b < s2.heap.objs.size:=fun b hb => by obtain ⟨o,e,_⟩:=T.obj _ _ st2 b hb; exact Heap.lt_size e
  have f3 : ∀ b ∈ fp,FpOk X pins (upd H2 s2.heap.objs.size (.lst [])) b:=fun b hb => ⟨by rw [upd_ne (Nat.ne_of_lt (lt2 b hb))]; exact (f2 b hb).1,(f2 b hb).2⟩
  generalize hs3 : ({ s2 with heap:=s2.heap.push { cls:=.type "list", data:=.seq ([] : List Value).toArray },toks:=s2.toks } : Shared) = s3 at I3
  have e3 : s3.heap = s2.heap.push { cls:=.type "list", data:=.seq ([] : List Value).toArray }:=by rw [← hs3]
  have lt3 : ∀ b ∈ fp,b < s3.heap.objs.size:=fun b hb => by rw [e3,Heap.size_push]; exact Nat.lt_succ_of_lt (lt2 b hb)
  have eC : (s2.heap.push { cls:=.type "list", dict:=none,data:=.seq ([] : List Value).toArray }).objs.size = s3.heap.objs.size:=by rw [e3]
  have old : ∀ b o,s3.heap.get? b = some o → h₁.get? b = some o:=fun b o e => by
    have hb : b < s3.heap.objs.size:=Heap.lt_size e
    rw [e3] at e
    exact hsb₁.extBut b o (by rw [eC]; exact Nat.ne_of_lt hb) (Heap.get?_push_of_some _ e)
  rw [eC] at hns₁ ⊢
  have IY : Inv (blk X scope (own ++ fr.map (·.1)) s3.heap.objs.size s3 (upd H2 s2.heap.objs.size (.lst [])) fp) [] (blkσ own.length fr σ) (upd H2 s2.heap.objs.size (.lst [])) { s3 with heap:=h₁,toks:=s2.toks + ([] : List (Str × Value)).length } :=
    blk_start (own:=own) B I3 f3 lt3 hns₁ old
  have st3 : tn 0 h₁:=T.keep _ _ _ st2 fun b hb o e => old b o (by rw [e3]; exact Heap.get?_push_of_some _ e)
  have fY : ∀ b ∈ fp,FpOk (blk X scope (own ++ fr.map (·.1)) s3.heap.objs.size s3 (upd H2 s2.heap.objs.size (.lst [])) fp) [] (upd H2 s2.heap.objs.size (.lst [])) b:=fun b hb =>
    ⟨(f3 b hb).1,Nat.ne_of_lt (lt3 b hb),(IY.ok.exfs b hb),.inl hb,(IY.ok.exf b hb).2,fun p hp => absurd (show p ∈ ([] : List (Addr × Obj)) from hp) (by simp)⟩
  obtain ⟨b1,b2,b3⟩:=hb s3.heap.objs.size s3 (upd H2 s2.heap.objs.size (.lst [])) fp
  have loop:=comp_loop (Y:=blk X scope (own ++ fr.map (·.1)) s3.heap.objs.size s3 (upd H2 s2.heap.objs.size (.lst [])) fp) (iter:=iter) (scope:=scope) (pos:=pos) hc T b1 b2 b3 IY st3 fY (hw _ hD) rfl
  have loop2 : codeAny (model X.prog X.w) X.A (.compLoop (.ListComp elt [⟨tg,iter,ifs,0⟩] scope pos) 0 (.ref it) (.ref s2.heap.objs.size) (compEnvC scope (closL X.env.cells scope.names []) s3.heap.objs.size X.env)) (RR (.ref s2.heap.objs.size) s3.heap.objs.size) { s3 with heap:=h₁,toks:=s2.toks + ([] : List (Str × Value)).length }:=by
    refine codeAny_mono loop fun r s' ⟨H',hr,J',q⟩ => ?_
    subst hr
    obtain ⟨m',hn',_⟩:=id J'.loc
    refine hR s2.heap.objs.size s3.heap.objs.size s' H' m' (blk_end I3 f3 J') hn' J'.free (Nat.ne_of_gt I3.lt) I3.sz (fun x c e => ?_) (fun p hp z => ?_) q
    · obtain ⟨v,z⟩:=I3.cell x c e
      exact Nat.ne_of_lt z.lt
    · exact absurd (Heap.lt_size (I3.pin p hp).1) (by rw [z]; exact Nat.lt_irrefl _)
  have es : ({ s2 with heap:=h₁,toks:=s2.toks + ([] : List (Str × Value)).length } : Shared) = { s3 with heap:=h₁,toks:=s2.toks + ([] : List (Str × Value)).length }:=by rw [← hs3]
  rw [es]
  exact codeAny_compStart_list loop2 (T.self X.A 0 _ _ _ st3 loop2)
theorem pe_comp (hc : X.calm = true) (B : BlkOk X scope fr) (hi : PI X tg iter wi)
    (hb : ∀ (C : Addr) (s₀ : Shared) (H₀ : Hp) (fp : List Addr),PG (blk X scope (own ++ fr.map (·.1)) C s₀ H₀ fp) tg g ∧ PIf (blk X scope (own ++ fr.map (·.1)) C s₀ H₀ fp) ifs tc ∧ PE (blk X scope (own ++ fr.map (·.1)) C s₀ H₀ fp) elt te)
    (hs : ∀ x,foldedSetIterable iter X.env x = pure x:=by intro _; rfl) : PE X (.ListComp elt [⟨tg,iter,ifs,0⟩] scope pos) (tComp wi own.length fr g tc te):=by
  intro pins s σ H Q I h
  rw [eval_ListComp]
  refine wpAny_comprehension_free (use:=none) rfl hs (closFor (B.cell I.ok)) B.kind B.names (thn (hi pins s σ H _ I h) fun v s1 h1 => thn h1 fun itv s2 h2 => ?_)
  obtain ⟨it,fp,tn,J,H2,e,I2,T,st2,f2,hD⟩:=h2
  subst e
  refine comp_core (own:=own) (Qd:=Q) (RR:=fun acc C => compPost (model X.prog X.w) X.A X.xe none (EP X pins σ Q) acc C) hc B hb I2 T st2 f2 hD ?_
  intro D C s' H' m I' hn hC c1 c2 c3 c4 q
  exact ⟨m,hn,fun h' sb => ⟨.ref D,H',I'.turned (t':=s'.toks) (fun b o hb e => sb.extBut b o hb e) hC (Ne.symm c1).symm (.inr c2) c3 c4,rfl,q⟩⟩
theorem ps_setC {i : Nat} {x : Str} {py spos : Pos} (hN : X.N.Nodup) (hx : X.N[i]? = some x) (hl : X.env.scope.names.lookup x = some .local) (hc : X.calm = true) (B : BlkOk X scope fr) (hi : PI X tg iter wi)
    (hb : ∀ (C : Addr) (s₀ : Shared) (H₀ : Hp) (fp : List Addr),PG (blk X scope (own ++ fr.map (·.1)) C s₀ H₀ fp) tg g ∧ PIf (blk X scope (own ++ fr.map (·.1)) C s₀ H₀ fp) ifs tc ∧ PE (blk X scope (own ++ fr.map (·.1)) C s₀ H₀ fp) elt te)
    (hsw : swapsWith (.ListComp elt [⟨tg,iter,ifs,0⟩] scope pos) (some (.Name x py)) spos.line X.env = pure true:=by rfl)
    (hs : ∀ x,foldedSetIterable iter X.env x = pure x:=by intro _; rfl) : PS X (.Assign [.Name x py] (.ListComp elt [⟨tg,iter,ifs,0⟩] scope pos) spos) (tAsg (tComp wi own.length fr g tc te) (gName i)):=by
  intro pins s σ H D0 I h
  rw [exec_Assign_Name_used _ _ _ _ hsw]
  refine wpAny_bind (wpAny_standAt (wpAny_bind ?_))
  show wpAny _ X.A (do let _ ← comprehension (.ListComp elt [⟨tg,iter,ifs,0⟩] scope pos) scope X.env _ (newList []) false (eval iter X.env) (some (assign (.Name x py) X.env))) _ _ s
  refine wpAny_bind (wpAny_mono (wpAny_comprehension_free (use:=some (assign (.Name x py) X.env)) (Q:=fun _ s' => SP X pins D0 .next s') rfl hs (closFor (B.cell I.ok)) B.kind B.names
    (thn (hi pins s σ H _ I h) fun v s1 h1 => thn h1 fun itv s2 h2 => ?_)) (fun _ s' hq => wpAny_pure (wpAny_pure hq)) fun _ _ e => e)
  obtain ⟨it,fp,tn,J,H2,e,I2,T,st2,f2,hD⟩:=h2
  subst e
  refine comp_core (own:=own) (Qd:=fun v H' => gName i v σ H' D0.nx) (RR:=fun acc C => compPost (model X.prog X.w) X.A X.xe (some (assign (.Name x py) X.env)) (fun _ s' => SP X pins D0 .next s') acc C) hc B hb I2 T st2 f2 hD ?_
  intro D C s' H' m I' hn hC c1 c2 c3 c4 q
  show wpAny _ X.A (assign (.Name x py) X.env (.ref D)) _ _ _
  refine wpAny_assign_Name (store_ok2 I' hN hx (.inl hl) (v:=.ref D) rfl (fun s'' I'' ⟨a,sb,ha⟩ => ?_) (.inr hl))
  have hCa : C ≠ a:=by
    rcases ha with rfl | ha
    · exact c1
    · exact fun e => c3 x a ha e.symm
  refine ⟨m,hn.sameBut sb hCa,fun h' sb' => ?_⟩
  exact ⟨_,H',I''.turned (t':=s''.toks) (fun b o hb e => sb'.extBut b o hb e) hC c1 (.inr c2) c3 c4,q⟩
end
def SqIter (b : Bool) (h : Heap) (it a : Addr) (i : Nat) : Prop:=match b with
  | true => h.IsListIter it a i
  | false => h.IsTupleIter it a i
def IsSq (b : Bool) (h : Heap) (a : Addr) (items : Array Value) : Prop:=match b with
  | true => h.IsList a items
  | false => h.IsTuple a items
theorem SqIter.at {b : Bool} {h h' : Heap} {it a : Addr} {i : Nat} (x : SqIter b h it a i) (k : ∀ o,h.get? it = some o → h'.get? it = some o) : SqIter b h' it a i:=by
  cases b with
  | true => exact Heap.IsListIter.at x k
  | false => exact Heap.IsTupleIter.at x k
theorem IsSq.at {b : Bool} {h h' : Heap} {a : Addr} {items : Array Value} (x : IsSq b h a items) (k : ∀ o,h.get? a = some o → h'.get? a = some o) : IsSq b h' a items:=by
  cases b with
  | true => exact Heap.IsList.at x k
  | false => obtain ⟨o,e,r⟩:=x; exact ⟨o,k o e,r⟩
theorem SqIter.obj {b : Bool} {h : Heap} {it a : Addr} {i : Nat} (x : SqIter b h it a i) : ∃ o,h.get? it = some o ∧ ∀ v,o.data ≠ .cell v:=by
  cases b with
  | true => obtain ⟨o,e,c,d⟩:=x; exact ⟨o,e,fun v z => by rw [d] at z; cases z⟩
  | false => obtain ⟨o,e,c,d⟩:=x; exact ⟨o,e,fun v z => by rw [d] at z; cases z⟩
section
variable {prog : Program} {w : World} {A : Around} {E : Value → Shared → Prop} {s : Shared}
theorem nextOf_tup {it l : Addr} {i : Nat} {items : Array Value} {x : Value} {Q : Value → Shared → Prop} (hit : s.heap.IsTupleIter it l i) (hl : s.heap.IsTuple l items) (hx : items[i]? = some x)
    (hQ : ∀ h',h'.IsTupleIter it l (i + 1) → Heap.SameBut it s.heap h' → Q x { s with heap:=h' }) : wpAny (model prog w) A (Builtin.SmallTypes.nextOf (.ref it)) Q E s:=by
  obtain ⟨o,ho,hc,hd⟩:=id hit
  obtain ⟨ol,hol,_,nl,hdl⟩:=hl
  unfold Builtin.SmallTypes.nextOf
  refine wpAny_bind (wpAny_callSpecial?_slot (name:=Str.ofString "__next__") hit.typeIs F.slot_tuple_iterator_next (wpAny_call_entry F.slot_tuple_iterator_next hit.typeIs F.entry_tuple_iterator_next ?_ (F.args_tuple_iterator_next_1 _)))
  show wpAny _ _ (field (.ref it) 0 >>= _) _ _ s
  refine wpAny_bind (wpAny_field ho hd (x:=.ref l) rfl ?_)
  show wpAny _ _ (if (Value.ref l == Value.none) = true then _ else _) _ _ s
  rw [if_neg (show ¬ ((Value.ref l == Value.none) = true) from Bool.false_ne_true)]
  show wpAny _ _ (field (.ref it) 1 >>= _) _ _ s
  refine wpAny_bind (wpAny_field ho hd (x:=.int i 0) rfl ?_)
  show wpAny _ _ (seqItems? (.ref l) >>= _) _ _ s
  refine wpAny_bind (wpAny_seqItems hol hdl ?_)
  simp only [Int.toNat_natCast,hx]
  refine wpAny_bind (wpAny_setField ho hd (by simp) (wpAny_pure ⟨x,rfl,wpAny_pure (hQ _ ?_ (Heap.SameBut.update ..))⟩))
  exact ⟨_,Heap.get?_update_self _ ho (Obj.isFreed_of_fields (Obj.data_mapFields hd _)),(Obj.cls_mapFields ..).trans hc,by rw [Obj.data_mapFields hd]; simp [rawInt]⟩
theorem nextOf_tupEnd {it l : Addr} {i : Nat} {items : Array Value} {Q : Value → Shared → Prop} (hh : A.handled = none) (hit : s.heap.IsTupleIter it l i) (hl : s.heap.IsTuple l items) (hx : items[i]? = none)
    (hE : ∀ h' e,Heap.ExtBut it s.heap h' → (∃ o,h'.get? e = some o ∧ o.cls = .type "StopIteration") → E (.ref e) { s with heap:=h' }) : wpAny (model prog w) A (Builtin.SmallTypes.nextOf (.ref it)) Q E s:=by
  obtain ⟨o,ho,hc,hd⟩:=id hit
  obtain ⟨ol,hol,_,nl,hdl⟩:=hl
  unfold Builtin.SmallTypes.nextOf
  refine wpAny_bind (wpAny_callSpecial?_slot (name:=Str.ofString "__next__") hit.typeIs F.slot_tuple_iterator_next (wpAny_call_entry F.slot_tuple_iterator_next hit.typeIs F.entry_tuple_iterator_next ?_ (F.args_tuple_iterator_next_1 _)))
  show wpAny _ _ (field (.ref it) 0 >>= _) _ _ s
  refine wpAny_bind (wpAny_field ho hd (x:=.ref l) rfl ?_)
  show wpAny _ _ (if (Value.ref l == Value.none) = true then _ else _) _ _ s
  rw [if_neg (show ¬ ((Value.ref l == Value.none) = true) from Bool.false_ne_true)]
  show wpAny _ _ (field (.ref it) 1 >>= _) _ _ s
  refine wpAny_bind (wpAny_field ho hd (x:=.int i 0) rfl ?_)
  show wpAny _ _ (seqItems? (.ref l) >>= _) _ _ s
  refine wpAny_bind (wpAny_seqItems hol hdl ?_)
  simp only [Int.toNat_natCast,hx]
  refine wpAny_bind (wpAny_rule (wpAny_bind (wpAny_setField ho hd (by simp) ?_)))
  show wpAny _ _ (newExc (.type "StopIteration") [] >>= _) _ _ _
  refine wpAny_bind ?_
  simp only [newExc,newTuple]
  refine wpAny_bind (wpAny_newObj_type ?_ (by size_fits))
  refine wpAny_bind (m:=firstArgMember _ _) (wpAny_of_eq (a:=Value.none) (by first | rfl | (simp only [firstArgMember]; rfl)) ?_)
  refine wpAny_newObj_type ?_ (by size_fits)
  simp only [raiseNew]
  refine wpAny_bind (wpAny_handled ?_)
  first | rw [show A.in1.handled = none from hh] | rw [hh]
  refine wpAny_bind (wpAny_pure (wpAny_throw ?_))
  exact hE _ _ (((Heap.SameBut.update ..).extBut.push _).push _) ⟨_,Heap.get?_push_size _ rfl,rfl⟩
theorem nextSq {b : Bool} {it l : Addr} {i : Nat} {items : Array Value} {x : Value} {Q : Value → Shared → Prop} (hit : SqIter b s.heap it l i) (hl : IsSq b s.heap l items) (hx : items[i]? = some x)
    (hQ : ∀ h',SqIter b h' it l (i + 1) → Heap.SameBut it s.heap h' → Q x { s with heap:=h' }) : wpAny (model prog w) A (Builtin.SmallTypes.nextOf (.ref it)) Q E s:=by
  cases b with
  | true => exact wpAny_nextOf_list_item hit hl hx hQ
  | false => exact nextOf_tup hit hl hx hQ
theorem nextSqEnd {b : Bool} {it l : Addr} {i : Nat} {items : Array Value} {Q : Value → Shared → Prop} (hh : A.handled = none) (hit : SqIter b s.heap it l i) (hl : IsSq b s.heap l items) (hx : items[i]? = none)
    (hE : ∀ h' e,Heap.ExtBut it s.heap h' → (∃ o,h'.get? e = some o ∧ o.cls = .type "StopIteration") → E (.ref e) { s with heap:=h' }) : wpAny (model prog w) A (Builtin.SmallTypes.nextOf (.ref it)) Q E s:=by
  cases b with
  | true => exact wpAny_nextOf_list_end hh hit hl hx hE
  | false => exact nextOf_tupEnd hh hit hl hx hE
end
abbrev IsZipB (h : Heap) (z TI TO : Addr) (f0 : Value) (b : Bool) : Prop :=
  h.get? z = some { cls:=.type "zip", dict:=none,data:=.fields #[f0,.bool b,.bool false,.ref TI,.ref TO],slots := #[] }
section
variable {prog : Program} {w : World} {A : Around} {E : Value → Shared → Prop} {s : Shared} {c1 c2 : Bool} {z TI TO i1 i2 l1 l2 : Addr} {k1 k2 : Nat} {xs ys : Array Value} {x y a b : Value}
theorem zipGoF {f0 : Value} {bb : Bool} {Q : Value → Shared → Prop} (D : ZipApart z TI TO i1 i2 l1 l2) (hz : IsZipB s.heap z TI TO f0 bb) (hfree : ∀ {A' : Around} {E' : Value → Shared → Prop} {Q' : Bool → Shared → Prop},Q' true s → wpAny (model prog w) A' (Builtin.SmallTypes.ownedTupleIsFree (.ref z)) Q' E' s) (hTI : IsPair s.heap TI (.ref i1) (.ref i2)) (hTO : IsPair s.heap TO a b)
    (h1 : SqIter c1 s.heap i1 l1 k1) (h2 : SqIter c2 s.heap i2 l2 k2) (hl1 : IsSq c1 s.heap l1 xs) (hl2 : IsSq c2 s.heap l2 ys) (hx : xs[k1]? = some x) (hy : ys[k2]? = some y)
    (hQ : ∀ h',IsZip h' z TI TO (rawInt s.heap.objs.size) → IsPair h' TO x y → SqIter c1 h' i1 l1 (k1 + 1) → SqIter c2 h' i2 l2 (k2 + 1) → IsPair h' s.heap.objs.size x y → h'.objs.size = s.heap.objs.size + 1 →
      (∀ c o,c ≠ z → c ≠ TO → c ≠ i1 → c ≠ i2 → s.heap.get? c = some o → h'.get? c = some o) → Q (.ref s.heap.objs.size) { s with heap:=h' }) :
    wpAny (model prog w) A (Builtin.«zip.__next__» ⟨[.ref z],[]⟩) (fun fin s' => ∃ v,fin = .done (.ret v) ∧ Q v s') E s:=by
  show wpAny _ _ (field (.ref z) 2 >>= _) _ _ _
  refine wpAny_bind (wpAny_field hz rfl (x:=.bool false) rfl ?_)
  show wpAny _ _ (field (.ref z) 3 >>= _) _ _ _
  refine wpAny_bind (wpAny_field hz rfl (x:=.ref TI) rfl ?_)
  refine wpAny_bind (wpAny_seqItems hTI rfl ?_)
  show wpAny _ _ (Builtin.SmallTypes.ownedTupleIsFree (.ref z) >>= _) _ _ _
  refine wpAny_bind (hfree ?_)
  simp only [if_true]
  refine wpAny_bind (wpAny_rule ?_)
  refine wpAny_bind (wpAny_field hz rfl (x:=.ref TO) rfl ?_)
  refine wpAny_bind (wpAny_setField_rec hz (by simp) fun g1 hz1 e1 => ?_)
  replace hz1 : IsZipB g1 z TI TO .ellipsis bb:=hz1
  refine wpAny_bind ?_
  simp only [List.zipIdx_cons,List.zipIdx_nil,List.forIn_cons,List.forIn_nil]
  refine wpAny_bind (wpAny_bind (wpAny_onRaise ?_))
  show wpAny _ _ (Builtin.SmallTypes.nextOf (.ref i1) >>= _) _ _ _
  refine wpAny_bind (nextSq (h1.at fun o q => e1.extBut _ o D.i1z q) (hl1.at fun o q => e1.extBut _ o D.l1z q) hx fun g2 h1' e2 => wpAny_pure ?_)
  have hTO2 : IsPair g2 TO a b:=e2.extBut _ _ D.TOi1 (e1.extBut _ _ D.TOz hTO)
  refine wpAny_bind (wpAny_seqItems hTO2 rfl ?_)
  refine wpAny_bind (wpAny_updateSeq_pair hTO2 fun g3 hTO3 e3 => ?_)
  replace hTO3 : IsPair g3 TO x b:=hTO3
  refine wpAny_bind (wpAny_letGo (wpAny_pure ?_))
  refine wpAny_bind (wpAny_bind (wpAny_onRaise ?_))
  show wpAny _ _ (Builtin.SmallTypes.nextOf (.ref i2) >>= _) _ _ _
  have up2 : ∀ o,s.heap.get? i2 = some o → g3.get? i2 = some o:=fun o q => e3.extBut _ o D.TOi2.symm (e2.extBut _ o D.i12.symm (e1.extBut _ o D.i2z q))
  have up3 : ∀ o,s.heap.get? l2 = some o → g3.get? l2 = some o:=fun o q => e3.extBut _ o D.l2TO (e2.extBut _ o D.l2i1 (e1.extBut _ o D.l2z q))
  refine wpAny_bind (nextSq (h2.at up2) (hl2.at up3) hy fun g4 h2' e4 => wpAny_pure ?_)
  have hTO4 : IsPair g4 TO x b:=e4.extBut _ _ D.TOi2 hTO3
  refine wpAny_bind (wpAny_seqItems hTO4 rfl ?_)
  refine wpAny_bind (wpAny_updateSeq_pair hTO4 fun g5 hTO5 e5 => ?_)
  replace hTO5 : IsPair g5 TO x y:=hTO5
  refine wpAny_bind (wpAny_letGo (wpAny_pure (wpAny_pure ?_)))
  refine wpAny_bind (wpAny_seqItems hTO5 rfl ?_)
  refine wpAny_bind (wpAny_newTuple ?_)
  have sz : g5.objs.size = s.heap.objs.size:=by rw [e5.1,e4.1,e3.1,e2.1,e1.1]
  have hz5 : IsZipB g5 z TI TO .ellipsis bb:=e5.extBut _ _ D.TOz.symm (e4.extBut _ _ D.i2z.symm (e3.extBut _ _ D.TOz.symm (e2.extBut _ _ D.i1z.symm hz1)))
  have k5 : ∀ c o,c ≠ z → c ≠ TO → c ≠ i1 → c ≠ i2 → s.heap.get? c = some o → g5.get? c = some o:=fun c o q1 q2 q3 q4 q =>
    e5.extBut _ _ q2 (e4.extBut _ _ q4 (e3.extBut _ _ q2 (e2.extBut _ _ q3 (e1.extBut _ _ q1 q))))
  have h15 : SqIter c1 g5 i1 l1 (k1 + 1):=h1'.at fun o q => e5.extBut _ o D.TOi1.symm (e4.extBut _ o D.i12 (e3.extBut _ o D.TOi1.symm q))
  have h25 : SqIter c2 g5 i2 l2 (k2 + 1):=h2'.at fun o q => e5.extBut _ o D.TOi2.symm q
  have zlt : z < g5.objs.size:=Heap.lt_size hz5
  show wpAny _ _ (Builtin.SmallTypes.ownedTupleHandOut (.ref z) (.ref g5.objs.size) >>= _) _ _ _
  refine wpAny_bind ?_
  unfold Builtin.SmallTypes.ownedTupleHandOut
  have hz6 : IsZipB (g5.push { cls:=.type "tuple", data:=.seq #[x,y] }) z TI TO .ellipsis bb:=Heap.get?_push_of_some _ hz5
  refine wpAny_bind (wpAny_setField_rec hz6 (by simp) fun g7 hz7 e7 => ?_)
  replace hz7 : IsZipB g7 z TI TO (rawInt g5.objs.size) bb:=hz7
  refine wpAny_setField_rec hz7 (by simp) fun g8 hz8 e8 => ?_
  replace hz8 : IsZip g8 z TI TO (rawInt g5.objs.size):=hz8
  have up : ∀ c o,c ≠ z → g5.get? c = some o → g8.get? c = some o:=fun c o q1 q => e8.extBut _ _ q1 (e7.extBut _ _ q1 (Heap.get?_push_of_some _ q))
  have hT8 : IsPair g8 g5.objs.size x y:=e8.extBut _ _ (Nat.ne_of_gt zlt) (e7.extBut _ _ (Nat.ne_of_gt zlt) (Heap.get?_push_size _ rfl))
  have z8 : g8.objs.size = g5.objs.size + 1:=by rw [e8.1,e7.1,Heap.size_push]
  rw [sz] at hz8 hT8 z8
  refine wpAny_pure ⟨_,rfl,?_⟩
  show Q (.ref g5.objs.size) _
  rw [sz]
  exact hQ g8 hz8 (up _ _ D.TOz hTO5) (h15.at fun o q => up _ o D.i1z q) (h25.at fun o q => up _ o D.i2z q) hT8 z8 fun c o q1 q2 q3 q4 q => up c o q1 (k5 c o q1 q2 q3 q4 q)
theorem zipStopF {f0 : Value} {bb : Bool} {Q : Fin → Shared → Prop} (hh : A.handled = none) (D : ZipApart z TI TO i1 i2 l1 l2) (hz : IsZipB s.heap z TI TO f0 bb) (hfree : ∀ {A' : Around} {E' : Value → Shared → Prop} {Q' : Bool → Shared → Prop},Q' true s → wpAny (model prog w) A' (Builtin.SmallTypes.ownedTupleIsFree (.ref z)) Q' E' s) (hTI : IsPair s.heap TI (.ref i1) (.ref i2)) (hTO : IsPair s.heap TO a b)
    (h1 : SqIter c1 s.heap i1 l1 k1) (h2 : SqIter c2 s.heap i2 l2 k2) (hl1 : IsSq c1 s.heap l1 xs) (hl2 : IsSq c2 s.heap l2 ys) (hend : xs[k1]? = none ∨ ys[k2]? = none)
    (hE : ∀ h' e,(∀ c o,c ≠ z → c ≠ TO → c ≠ i1 → c ≠ i2 → s.heap.get? c = some o → h'.get? c = some o) → (∃ o,h'.get? e = some o ∧ o.cls = .type "StopIteration") → E (.ref e) { s with heap:=h' }) :
    wpAny (model prog w) A (Builtin.«zip.__next__» ⟨[.ref z],[]⟩) Q E s:=by
  show wpAny _ _ (field (.ref z) 2 >>= _) _ _ _
  refine wpAny_bind (wpAny_field hz rfl (x:=.bool false) rfl ?_)
  show wpAny _ _ (field (.ref z) 3 >>= _) _ _ _
  refine wpAny_bind (wpAny_field hz rfl (x:=.ref TI) rfl ?_)
  refine wpAny_bind (wpAny_seqItems hTI rfl ?_)
  show wpAny _ _ (Builtin.SmallTypes.ownedTupleIsFree (.ref z) >>= _) _ _ _
  refine wpAny_bind (hfree ?_)
  simp only [if_true]
  refine wpAny_bind (wpAny_rule ?_)
  refine wpAny_bind (wpAny_field hz rfl (x:=.ref TO) rfl ?_)
  refine wpAny_bind (wpAny_setField_rec hz (by simp) fun g1 hz1 e1 => ?_)
  replace hz1 : IsZipB g1 z TI TO .ellipsis bb:=hz1
  refine wpAny_bind ?_
  simp only [List.zipIdx_cons,List.zipIdx_nil,List.forIn_cons,List.forIn_nil]
  refine wpAny_bind (wpAny_bind (wpAny_onRaise ?_))
  show wpAny _ _ (Builtin.SmallTypes.nextOf (.ref i1) >>= _) _ _ _
  have u1 : ∀ o,s.heap.get? i1 = some o → g1.get? i1 = some o:=fun o q => e1.extBut _ o D.i1z q
  have u2 : ∀ o,s.heap.get? l1 = some o → g1.get? l1 = some o:=fun o q => e1.extBut _ o D.l1z q
  cases hx : xs[k1]? with
  | none =>
    refine wpAny_bind (nextSqEnd hh (h1.at u1) (hl1.at u2) hx fun g2 e e2 he => ?_)
    obtain ⟨oe,hoe,hce⟩:=he
    have hz2 : IsZipB g2 z TI TO .ellipsis bb:=e2 _ _ D.i1z.symm hz1
    have hez : e ≠ z:=fun q => by subst q; rw [hz2] at hoe; cases hoe; simp at hce
    exact wpAny_setField_rec hz2 (by simp) fun g3 _ e3 => hE g3 e (fun c o q1 _ q3 _ q => e3.extBut _ _ q1 (e2 _ _ q3 (e1.extBut _ _ q1 q))) ⟨oe,e3.extBut _ _ hez hoe,hce⟩
  | some x =>
    have hy : ys[k2]? = none:=by rcases hend with h | h; rw [hx] at h; cases h; exact h
    refine wpAny_bind (nextSq (h1.at u1) (hl1.at u2) hx fun g2 h1' e2 => wpAny_pure ?_)
    have hTO2 : IsPair g2 TO a b:=e2.extBut _ _ D.TOi1 (e1.extBut _ _ D.TOz hTO)
    refine wpAny_bind (wpAny_seqItems hTO2 rfl ?_)
    refine wpAny_bind (wpAny_updateSeq_pair hTO2 fun g3 hTO3 e3 => ?_)
    refine wpAny_bind (wpAny_letGo (wpAny_pure ?_))
    refine wpAny_bind (wpAny_bind (wpAny_onRaise ?_))
    show wpAny _ _ (Builtin.SmallTypes.nextOf (.ref i2) >>= _) _ _ _
    have up2 : ∀ o,s.heap.get? i2 = some o → g3.get? i2 = some o:=fun o q => e3.extBut _ o D.TOi2.symm (e2.extBut _ o D.i12.symm (e1.extBut _ o D.i2z q))
    have up3 : ∀ o,s.heap.get? l2 = some o → g3.get? l2 = some o:=fun o q => e3.extBut _ o D.l2TO (e2.extBut _ o D.l2i1 (e1.extBut _ o D.l2z q))
    refine wpAny_bind (nextSqEnd hh (h2.at up2) (hl2.at up3) hy fun g4 e e4 he => ?_)
    obtain ⟨oe,hoe,hce⟩:=he
    have hz4 : IsZipB g4 z TI TO .ellipsis bb:=e4 _ _ D.i2z.symm (e3.extBut _ _ D.TOz.symm (e2.extBut _ _ D.i1z.symm hz1))
    have hez : e ≠ z:=fun q => by subst q; rw [hz4] at hoe; cases hoe; simp at hce
    exact wpAny_setField_rec hz4 (by simp) fun g5 _ e5 => hE g5 e (fun c o q1 q2 q3 q4 q => e5.extBut _ _ q1 (e4 _ _ q4 (e3.extBut _ _ q2 (e2.extBut _ _ q3 (e1.extBut _ _ q1 q))))) ⟨oe,e5.extBut _ _ hez hoe,hce⟩
theorem zipNextF {f0 : Value} {bb : Bool} {Q : Option Value → Shared → Prop} (D : ZipApart z TI TO i1 i2 l1 l2) (hz : IsZipB s.heap z TI TO f0 bb) (hfree : ∀ {A' : Around} {E' : Value → Shared → Prop} {Q' : Bool → Shared → Prop},Q' true s → wpAny (model prog w) A' (Builtin.SmallTypes.ownedTupleIsFree (.ref z)) Q' E' s) (hTI : IsPair s.heap TI (.ref i1) (.ref i2)) (hTO : IsPair s.heap TO a b)
    (h1 : SqIter c1 s.heap i1 l1 k1) (h2 : SqIter c2 s.heap i2 l2 k2) (hl1 : IsSq c1 s.heap l1 xs) (hl2 : IsSq c2 s.heap l2 ys) (hx : xs[k1]? = some x) (hy : ys[k2]? = some y)
    (hQ : ∀ h',IsZip h' z TI TO (rawInt s.heap.objs.size) → IsPair h' TO x y → SqIter c1 h' i1 l1 (k1 + 1) → SqIter c2 h' i2 l2 (k2 + 1) → IsPair h' s.heap.objs.size x y → h'.objs.size = s.heap.objs.size + 1 →
      (∀ c o,c ≠ z → c ≠ TO → c ≠ i1 → c ≠ i2 → s.heap.get? c = some o → h'.get? c = some o) → Q (some (.ref s.heap.objs.size)) { s with heap:=h' }) :
    wpAny (model prog w) A (pyNext (.ref z)) Q E s:=by
  have hT : s.TypeIs (.ref z) "zip" := ⟨_,hz,rfl⟩
  unfold pyNext
  exact wpAny_bind (wpAny_attempt (wpAny_callSpecial?_slot (name:=Str.ofString "__next__") hT F.slot_zip_next (wpAny_call_entry F.slot_zip_next hT F.entry_zip_next
    (zipGoF D hz hfree hTI hTO h1 h2 hl1 hl2 hx hy fun h' a1 a2 a3 a4 a5 a6 a7 => wpAny_pure (hQ h' a1 a2 a3 a4 a5 a6 a7)) (F.args_zip_next_1 _))))
theorem zipEndF {f0 : Value} {bb : Bool} {Q : Option Value → Shared → Prop} (hh : A.handled = none) (D : ZipApart z TI TO i1 i2 l1 l2) (hz : IsZipB s.heap z TI TO f0 bb) (hfree : ∀ {A' : Around} {E' : Value → Shared → Prop} {Q' : Bool → Shared → Prop},Q' true s → wpAny (model prog w) A' (Builtin.SmallTypes.ownedTupleIsFree (.ref z)) Q' E' s) (hTI : IsPair s.heap TI (.ref i1) (.ref i2)) (hTO : IsPair s.heap TO a b)
    (h1 : SqIter c1 s.heap i1 l1 k1) (h2 : SqIter c2 s.heap i2 l2 k2) (hl1 : IsSq c1 s.heap l1 xs) (hl2 : IsSq c2 s.heap l2 ys) (hend : xs[k1]? = none ∨ ys[k2]? = none)
    (hQ : ∀ h',(∀ c o,c ≠ z → c ≠ TO → c ≠ i1 → c ≠ i2 → s.heap.get? c = some o → h'.get? c = some o) → Q none { s with heap:=h' }) : wpAny (model prog w) A (pyNext (.ref z)) Q E s:=by
  have hT : s.TypeIs (.ref z) "zip" := ⟨_,hz,rfl⟩
  unfold pyNext
  refine wpAny_bind (wpAny_attempt (wpAny_callSpecial?_slot (name:=Str.ofString "__next__") hT F.slot_zip_next (wpAny_call_entry F.slot_zip_next hT F.entry_zip_next (zipStopF hh D hz hfree hTI hTO h1 h2 hl1 hl2 hend fun h' e hk he => ?_) (F.args_zip_next_1 _))))
  obtain ⟨o,ho,hc⟩:=he
  refine wpAny_bind (wpAny_isInstance (T := "StopIteration") (b:=true) ⟨o,ho,hc⟩ isSubtype_stop ?_)
  exact wpAny_pure (hQ _ hk)
theorem freeNone (hz : IsZip s.heap z TI TO .none) {A' : Around} {E' : Value → Shared → Prop} {Q' : Bool → Shared → Prop} (h : Q' true s) : wpAny (model prog w) A' (Builtin.SmallTypes.ownedTupleIsFree (.ref z)) Q' E' s:=by
  unfold Builtin.SmallTypes.ownedTupleIsFree
  exact wpAny_bind (wpAny_field hz rfl (x:=.none) rfl (wpAny_pure h))
theorem zipNext {Q : Option Value → Shared → Prop} (D : ZipApart z TI TO i1 i2 l1 l2) (hz : IsZip s.heap z TI TO .none) (hTI : IsPair s.heap TI (.ref i1) (.ref i2)) (hTO : IsPair s.heap TO a b)
    (h1 : SqIter c1 s.heap i1 l1 k1) (h2 : SqIter c2 s.heap i2 l2 k2) (hl1 : IsSq c1 s.heap l1 xs) (hl2 : IsSq c2 s.heap l2 ys) (hx : xs[k1]? = some x) (hy : ys[k2]? = some y)
    (hQ : ∀ h',IsZip h' z TI TO (rawInt s.heap.objs.size) → IsPair h' TO x y → SqIter c1 h' i1 l1 (k1 + 1) → SqIter c2 h' i2 l2 (k2 + 1) → IsPair h' s.heap.objs.size x y → h'.objs.size = s.heap.objs.size + 1 →
      (∀ c o,c ≠ z → c ≠ TO → c ≠ i1 → c ≠ i2 → s.heap.get? c = some o → h'.get? c = some o) → Q (some (.ref s.heap.objs.size)) { s with heap:=h' }) :
    wpAny (model prog w) A (pyNext (.ref z)) Q E s:=zipNextF D hz (freeNone hz) hTI hTO h1 h2 hl1 hl2 hx hy hQ
theorem zipEnd {Q : Option Value → Shared → Prop} (hh : A.handled = none) (D : ZipApart z TI TO i1 i2 l1 l2) (hz : IsZip s.heap z TI TO .none) (hTI : IsPair s.heap TI (.ref i1) (.ref i2)) (hTO : IsPair s.heap TO a b)
    (h1 : SqIter c1 s.heap i1 l1 k1) (h2 : SqIter c2 s.heap i2 l2 k2) (hl1 : IsSq c1 s.heap l1 xs) (hl2 : IsSq c2 s.heap l2 ys) (hend : xs[k1]? = none ∨ ys[k2]? = none)
    (hQ : ∀ h',(∀ c o,c ≠ z → c ≠ TO → c ≠ i1 → c ≠ i2 → s.heap.get? c = some o → h'.get? c = some o) → Q none { s with heap:=h' }) : wpAny (model prog w) A (pyNext (.ref z)) Q E s:=zipEndF hh D hz (freeNone hz) hTI hTO h1 h2 hl1 hl2 hend hQ
end
def Sq (b : Bool) (K : PySem.W.Frag) (H : Hp) (a : Addr) (xs : List V) : Prop:=match b with
  | true => SqL K H a xs
  | false => SqT K H a xs
section
variable {X : Cx} {pins : List (Addr × Obj)} {σ : St} {H : Hp} {s : Shared} {a : Addr} {xs ys : List V} {c : Bool}
theorem Inv.sq (I : Inv X pins σ H s) (h : Sq c X.K H a xs) : ∃ its : List Value,Vals xs its ∧ IsSq c s.heap a its.toArray ∧ xs.length ≤ sizeLine:=by
  cases c with
  | true => obtain ⟨its,r,p,z⟩:=I.list h; exact ⟨its,r,p.isList,z⟩
  | false => obtain ⟨its,r,p,z⟩:=I.tuple h; exact ⟨its,r,p,z⟩
theorem Inv.sq_inj (I : Inv X pins σ H s) (h : Sq c X.K H a xs) (h' : Sq c X.K H a ys) : xs = ys:=by
  cases c with
  | true => exact I.list_inj h h'
  | false => exact I.tuple_inj h h'
theorem Inv.sq_apart (I : Inv X pins σ H s) (h : Sq c X.K H a xs) {b : Addr} (f : FpOk X pins H b) : a ≠ b:=by
  intro e
  subst e
  have base : ∀ o,X.K.lookup a = some o → False:=fun o q => by
    have e1:=I.ok.mod.kin a o q
    rcases f.2.2.2.1 with z | z
    · exact I.ok.noex a o e1 z
    · exact absurd (Nat.lt_of_lt_of_le (Heap.lt_size e1) (Nat.le_trans I.ok.bsz z)) (Nat.lt_irrefl _)
  cases c with
  | true =>
    rcases h with (h | ⟨o,h⟩) | ⟨o,_,_,h,_⟩
    · rw [f.1] at h; cases h
    · rw [f.1] at h; cases h
    · exact base o h
  | false =>
    rcases h with (h | ⟨o,h⟩) | ⟨o,_,_,h,_⟩
    · rw [f.1] at h; cases h
    · rw [f.1] at h; cases h
    · exact base o h
theorem Inv.turnedNew {h' : Heap} {t' : Nat} {ch : List Addr} {T : Addr} {o : HO} (I : Inv X pins σ H s) (hch : ∀ b ∈ ch,FpOk X pins H b)
    (k : ∀ b u,b ∉ ch → s.heap.get? b = some u → h'.get? b = some u) (hT : s.heap.objs.size ≤ T) (new : ObjOk X.prog X.w (upd H T o) h' T o) : Inv X pins σ (upd H T o) { s with heap:=h',toks:=t' }:=by
  have hTn : H T = none:=I.hok.fresh hT
  have ntr : ∀ b u,H b = some u → b ∉ ch:=fun b u e z => by rw [(hch b z).1] at e; cases e
  have hb : ∀ b u,s.heap.get? b = some u → b ≠ T:=fun b u e => Nat.ne_of_lt (Nat.lt_of_lt_of_le (Heap.lt_size e) hT)
  refine I.step (g':=s.gens) (d':=s.drawn) (ch:=ch) (fun b hb => ⟨(hch b hb).2.2.2.1,(hch b hb).2.1,(hch b hb).2.2.2.2.1,(hch b hb).2.2.2.2.2⟩) (fun b u _ _ hc e _ => k b u hc e) (fun b u _ _ hc e _ => ⟨u.slots,k b u hc e⟩)
    (fun b u _ e n => by rw [upd_ne (hb b u e)]; exact n) (fun b u hc e => ⟨u,k b u hc e⟩) (fun b ys e => by rw [upd_ne (ne_of_none e hTn)]; exact e) (fun b u ys e => by rw [upd_ne (ne_of_none e hTn)]; exact e)
    (fun b ps e => ⟨#[],by rw [upd_ne (ne_of_none e hTn),e]; simp⟩) (fun m hm => ?_) (fun b u e => ?_) I.bare
  · obtain ⟨o',es,ep,ho,r⟩:=hm
    exact ⟨o',es,ep,k _ o' (fun z => (hch _ z).2.1 rfl) ho,r⟩
  · by_cases hbT : b = T
    · subst hbT; rw [upd_same] at e; cases e; exact new
    · rw [upd_ne hbT] at e
      refine (I.hok b u e).stay (fun c v hc q => k c v ?_ q) (fun c q => by rw [upd_ne (ne_of_none q hTn)]; exact q) (fun c ys q => by rw [upd_ne (ne_of_none q hTn)]; exact q) fun c ob u q => by rw [upd_ne (ne_of_none q hTn)]; exact q
      rcases hc with z | z
      · rw [z]; exact ntr b u e
      · exact ntr c _ z
theorem Inv.turnedL {h' : Heap} {t' : Nat} {ch : List Addr} (I : Inv X pins σ H s) (hch : ∀ b ∈ ch,FpOk X pins H b)
    (k : ∀ b u,b ∉ ch → s.heap.get? b = some u → h'.get? b = some u) : Inv X pins σ H { s with heap:=h',toks:=t' }:=by
  have ntr : ∀ b u,H b = some u → b ∉ ch:=fun b u e z => by rw [(hch b z).1] at e; cases e
  refine I.step (g':=s.gens) (d':=s.drawn) (ch:=ch) (fun b hb => ⟨(hch b hb).2.2.2.1,(hch b hb).2.1,(hch b hb).2.2.2.2.1,(hch b hb).2.2.2.2.2⟩) (fun b u _ _ hc e _ => k b u hc e) (fun b u _ _ hc e _ => ⟨u.slots,k b u hc e⟩)
    (fun b u _ e n => n) (fun b u hc e => ⟨u,k b u hc e⟩) (fun b ys e => e) (fun b u ys e => e) (fun b ps e => ⟨#[],by rw [e]; simp⟩) (fun m hm => ?_) (fun b u e => ?_) I.bare
  · obtain ⟨o',es,ep,ho,r⟩:=hm
    exact ⟨o',es,ep,k _ o' (fun z => (hch _ z).2.1 rfl) ho,r⟩
  · refine (I.hok b u e).stay (fun c v hc q => k c v ?_ q) (fun c q => q) (fun c ys q => q) fun c ob u q => q
    rcases hc with z | z
    · rw [z]; exact ntr b u e
    · exact ntr c _ z
end
def Itz (K : PySem.W.Frag) (c1 c2 : Bool) (l1 l2 : Addr) : It :=
  ⟨fun i H => ∃ xs ys x y,Sq c1 K H l1 xs ∧ Sq c2 K H l2 ys ∧ xs[i]? = some x ∧ ys[i]? = some y,
   fun i H v H' => ∃ T x y,v = .ref T ∧ H T = none ∧ H' = upd H T (.tup [x,y]) ∧ (∀ xs,Sq c1 K H l1 xs → xs[i]? = some x) ∧ ∀ ys,Sq c2 K H l2 ys → ys[i]? = some y,
   fun i H => ∃ xs ys,Sq c1 K H l1 xs ∧ Sq c2 K H l2 ys ∧ (xs.length ≤ i ∨ ys.length ≤ i)⟩
structure ZipRec (c1 c2 : Bool) (z TI TO i1 i2 l1 l2 : Addr) (i : Nat) (h : Heap) : Prop where
  hz : IsZip h z TI TO .none
  ti : IsPair h TI (.ref i1) (.ref i2)
  to : ∃ a b,IsPair h TO a b
  h1 : SqIter c1 h i1 l1 i
  h2 : SqIter c2 h i2 l2 i
theorem pair_ok {P : Program} {w : World} {H : Hp} {h : Heap} {T : Addr} {x y : V} {u v : Value} (e : IsPair h T u v) (r1 : RelV x u) (r2 : RelV y v) : ObjOk P w H h T (.tup [x,y]) :=
  ⟨by show 2 ≤ sizeLine; decide,[u,v],.cons r1 (.cons r2 .nil),⟨_,e,rfl,_,rfl⟩,_,e,rfl⟩
theorem turn_zip {P : Program} {w : World} {K : PySem.W.Frag} {elts : List Expr} {k : Nat} {pos : Pos} {c1 c2 : Bool} {z TI TO i1 i2 : Addr} (l1 l2 : Addr)
    (nd : TI ≠ z ∧ TO ≠ z ∧ i1 ≠ z ∧ i2 ≠ z ∧ TI ≠ TO ∧ TI ≠ i1 ∧ TI ≠ i2 ∧ TO ≠ i1 ∧ TO ≠ i2 ∧ i1 ≠ i2) :
    Turn P w K (.Tuple elts k pos) (Itz K c1 c2 l1 l2) [z,TI,TO,i1,i2] z (ZipRec c1 c2 z TI TO i1 i2 l1 l2) where
  mem:=by simp
  obj:=fun i h st b hb => by
    have fld : ∀ {a : Addr} {o : Obj},h.get? a = some o → (∀ v,o.data ≠ .cell v) → ∃ o,h.get? a = some o ∧ ∀ v,o.data ≠ .cell v:=fun e d => ⟨_,e,d⟩
    simp only [List.mem_cons,List.not_mem_nil,or_false] at hb
    rcases hb with rfl | rfl | rfl | rfl | rfl
    · exact ⟨_,st.hz,fun v q => by cases (show Data.fields _ = Data.cell v from q)⟩
    · exact ⟨_,st.ti,fun v q => by cases (show Data.seq _ _ = Data.cell v from q)⟩
    · obtain ⟨_,_,e⟩:=st.to
      exact ⟨_,e,fun v q => by cases (show Data.seq _ _ = Data.cell v from q)⟩
    · exact st.h1.obj
    · exact st.h2.obj
  keep:=fun i h h' st kk => ⟨kk z (by simp) _ st.hz,kk TI (by simp) _ st.ti,let ⟨a,b,e⟩:=st.to; ⟨a,b,kk TO (by simp) _ e⟩,st.h1.at fun o e => kk i1 (by simp) o e,st.h2.at fun o e => kk i2 (by simp) o e⟩
  item:=by
    intro X hP hw hK hc i pins s σ H E I hf st hg
    subst hP hw hK
    obtain ⟨xs,ys,x,y,q1,q2,hx,hy⟩:=hg
    obtain ⟨it1,rv1,p1,z1⟩:=I.sq q1
    obtain ⟨it2,rv2,p2,z2⟩:=I.sq q2
    obtain ⟨u,hu,ru⟩:=rv1.get hx
    obtain ⟨v,hv,rv⟩:=rv2.get hy
    obtain ⟨a,b,hTO⟩:=st.to
    obtain ⟨n1,n2,n3,n4,n5,n6,n7,n8,n9,n10⟩:=nd
    have D : ZipApart z TI TO i1 i2 l1 l2:=⟨n1,n2,n3,n4,n5,n6,n7,n8,n9,n10,I.sq_apart q1 (hf z (by simp)),I.sq_apart q1 (hf TO (by simp)),I.sq_apart q1 (hf i1 (by simp)),I.sq_apart q1 (hf i2 (by simp)),
      I.sq_apart q2 (hf z (by simp)),I.sq_apart q2 (hf TO (by simp)),I.sq_apart q2 (hf i1 (by simp)),I.sq_apart q2 (hf i2 (by simp))⟩
    refine zipNext D st.hz st.ti hTO st.h1 st.h2 p1 p2 (by simpa using hu) (by simpa using hv) fun h' a1 a2 a3 a4 a5 a6 a7 => ?_
    refine ⟨_,rfl,wpAny_letOwnedTupleGo_zip a1 fun h2 b1 b2 => ?_⟩
    have hzlt : z < s.heap.objs.size:=Heap.lt_size st.hz
    have hTI2 : IsPair h2 TI (.ref i1) (.ref i2):=b2.extBut _ _ n1 (a7 _ _ n1 n5 n6 n7 st.ti)
    have keep : ∀ b u,b ∉ [z,TO,i1,i2] → s.heap.get? b = some u → h2.get? b = some u:=fun b u hb e => by
      simp only [List.mem_cons,List.not_mem_nil,or_false,not_or] at hb
      exact b2.extBut _ _ hb.1 (a7 b u hb.1 hb.2.1 hb.2.2.1 hb.2.2.2 e)
    have hT2 : IsPair h2 s.heap.objs.size u v:=b2.extBut _ _ (Nat.ne_of_gt hzlt) a5
    have sub4 : ∀ b ∈ [z,TO,i1,i2],b ∈ [z,TI,TO,i1,i2]:=fun b hb => by
      simp only [List.mem_cons,List.not_mem_nil,or_false] at hb ⊢
      rcases hb with h | h | h | h <;> simp [h]
    have I2 : Inv X pins σ (upd H s.heap.objs.size (.tup [x,y])) { s with heap:=h2,toks:=s.toks } :=
      I.turnedNew (fun b hb => hf b (sub4 b hb)) keep (Nat.le_refl _) (pair_ok hT2 ru rv)
    refine ⟨.ref s.heap.objs.size,_,I2,rfl,⟨_,x,y,rfl,I.fresh,rfl,fun zs hz => by rw [I.sq_inj hz q1]; exact hx,fun zs hz => by rw [I.sq_inj hz q2]; exact hy⟩,
      ⟨b1,hTI2,⟨u,v,b2.extBut _ _ n2 a2⟩,a3.at fun o e => b2.extBut _ o n3 e,a4.at fun o e => b2.extBut _ o n4 e⟩,fun b hb => ?_⟩
    have hlt : b < s.heap.objs.size:=by
      have live : ∀ b ∈ [z,TI,TO,i1,i2],b < s.heap.objs.size:=fun b hb => by
        simp only [List.mem_cons,List.not_mem_nil,or_false] at hb
        rcases hb with rfl | rfl | rfl | rfl | rfl
        · exact hzlt
        · exact Heap.lt_size st.ti
        · exact Heap.lt_size hTO
        · obtain ⟨o,e,_⟩:=st.h1.obj; exact Heap.lt_size e
        · obtain ⟨o,e,_⟩:=st.h2.obj; exact Heap.lt_size e
      exact live b hb
    rw [upd_ne (Nat.ne_of_lt hlt)]
    exact (hf b hb).1
  done:=by
    intro X hP hw hK hc i pins s σ H E I hf st hg
    subst hP hw hK
    obtain ⟨xs,ys,q1,q2,hend⟩:=hg
    obtain ⟨it1,rv1,p1,z1⟩:=I.sq q1
    obtain ⟨it2,rv2,p2,z2⟩:=I.sq q2
    obtain ⟨a,b,hTO⟩:=st.to
    obtain ⟨n1,n2,n3,n4,n5,n6,n7,n8,n9,n10⟩:=nd
    have D : ZipApart z TI TO i1 i2 l1 l2:=⟨n1,n2,n3,n4,n5,n6,n7,n8,n9,n10,I.sq_apart q1 (hf z (by simp)),I.sq_apart q1 (hf TO (by simp)),I.sq_apart q1 (hf i1 (by simp)),I.sq_apart q1 (hf i2 (by simp)),
      I.sq_apart q2 (hf z (by simp)),I.sq_apart q2 (hf TO (by simp)),I.sq_apart q2 (hf i1 (by simp)),I.sq_apart q2 (hf i2 (by simp))⟩
    have e1:=rv1.length
    have e2:=rv2.length
    have hend' : it1.toArray[i]? = none ∨ it2.toArray[i]? = none:=by
      rcases hend with h | h
      · exact .inl (by simp; omega)
      · exact .inr (by simp; omega)
    refine zipEnd (I.ok.hd hc) D st.hz st.ti hTO st.h1 st.h2 p1 p2 hend' fun h' kk => ⟨rfl,?_⟩
    have sub4 : ∀ b ∈ [z,TO,i1,i2],b ∈ [z,TI,TO,i1,i2]:=fun b hb => by
      simp only [List.mem_cons,List.not_mem_nil,or_false] at hb ⊢
      rcases hb with h | h | h | h <;> simp [h]
    exact I.turnedL (t':=s.toks) (ch:=[z,TO,i1,i2]) (fun b hb => hf b (sub4 b hb)) fun b u hb e => by
      simp only [List.mem_cons,List.not_mem_nil,or_false,not_or] at hb
      exact kk b u hb.1 hb.2.1 hb.2.2.1 hb.2.2.2 e
  self:=fun _ _ _ _ _ st h => wpAny_pyIter_zip st.hz h
def itObj (c : Bool) (l : Addr) : Obj:={ cls:=.type (match c with | true => "list_iterator" | false => "tuple_iterator"),data:=.fields #[.ref l,.int 0 0] }
theorem sqIter_new {c : Bool} {h : Heap} {it l : Addr} (e : h.get? it = some (itObj c l)) : SqIter c h it l 0:=by
  cases c with
  | true => exact ⟨_,e,rfl,rfl⟩
  | false => exact ⟨_,e,rfl,rfl⟩
section
variable {prog : Program} {w : World} {A : Around} {E : Value → Shared → Prop} {s : Shared}
theorem iterTo {c : Bool} {l : Addr} {items : Array Value} {Q : Value → Shared → Prop} (hl : IsSq c s.heap l items)
    (hQ : Q (.ref s.heap.objs.size) { s with heap:=s.heap.push (itObj c l) }) : wpAny (model prog w) A (pyIter (.ref l)) Q E s:=by
  cases c with
  | true => exact wpAny_pyIter_list hl hQ
  | false => exact wpAny_pyIter_tuple hl hQ
end
abbrev zh1 (c1 : Bool) (h : Heap) (l1 : Addr) : Heap:=h.push (itObj c1 l1)
abbrev zh2 (c1 c2 : Bool) (h : Heap) (l1 l2 : Addr) : Heap:=(zh1 c1 h l1).push (itObj c2 l2)
abbrev zh3 (c1 c2 : Bool) (h : Heap) (l1 l2 : Addr) : Heap:=(zh2 c1 c2 h l1 l2).push { cls:=.type "tuple", data:=.seq #[.ref h.objs.size,.ref (zh1 c1 h l1).objs.size] }
abbrev zh4 (c1 c2 : Bool) (h : Heap) (l1 l2 : Addr) : Heap:=(zh3 c1 c2 h l1 l2).push { cls:=.type "tuple", data:=.seq #[.none,.none] }
abbrev zh5 (c1 c2 : Bool) (h : Heap) (l1 l2 : Addr) : Heap:=(zh4 c1 c2 h l1 l2).push { cls:=.type "zip", data:=.fields #[.none,.bool false,.bool false,.ref (zh2 c1 c2 h l1 l2).objs.size,.ref (zh3 c1 c2 h l1 l2).objs.size] }
theorem meets_zip (c1 c2 : Bool) (l1 l2 : Addr) (xs ys : Array Value) :
    Meets (Builtin.«zip.__new__» ⟨[.type "zip", .ref l1,.ref l2],[]⟩) (fun _ R s => IsSq c1 s.heap l1 xs ∧ IsSq c2 s.heap l2 ys ∧
      R (.ok (.ret (.ref (zh4 c1 c2 s.heap l1 l2).objs.size))) { s with heap:=zh5 c1 c2 s.heap l1 l2 }) :=
  .of_wp fun prog w A R s h => by
    obtain ⟨hp,g,d,tk,os⟩:=s
    obtain ⟨hl1,hl2,h⟩:=h
    have hsub:=sub_zip
    have hL1 : IsSq c1 (Shared.heap ⟨hp,g,d,tk,os⟩) l1 xs:=hl1
    have hL2 : IsSq c2 (Shared.heap ⟨hp.push (itObj c1 l1),g,d,tk,os⟩) l2 ys:=hl2.at fun o e => Heap.get?_push_of_some _ e
    wp_walk using iterTo hL1,iterTo hL2
    exact ⟨_,rfl,h⟩
section
variable {prog : Program} {w : World} {A : Around} {E : Value → Shared → Prop} {s : Shared}
theorem callZip {c1 c2 : Bool} {l1 l2 : Addr} {xs ys : Array Value} {Q : Value → Shared → Prop} (hl1 : IsSq c1 s.heap l1 xs) (hl2 : IsSq c2 s.heap l2 ys)
    (h : ∀ h',ZipRec c1 c2 (s.heap.objs.size + 4) (s.heap.objs.size + 2) (s.heap.objs.size + 3) s.heap.objs.size (s.heap.objs.size + 1) l1 l2 0 h' → h'.objs.size = s.heap.objs.size + 5 →
      (∀ c o,s.heap.get? c = some o → h'.get? c = some o) → Q (.ref (s.heap.objs.size + 4)) { s with heap:=h' }) :
    wpAny (model prog w) A (call (.type "zip") [.ref l1,.ref l2]) Q E s:=by
  refine callType_new F.called_zip (by decide) (F.typeCall_zip_2 _ _) (F.newCall_zip_2 _ _) (fun obj => F.args_object_init_3 obj _ _) F.entry_zip_new (meets_zip c1 c2 l1 l2 xs ys) ⟨hl1,hl2,?_⟩
  have z1 : (zh1 c1 s.heap l1).objs.size = s.heap.objs.size + 1:=Heap.size_push ..
  have z2 : (zh2 c1 c2 s.heap l1 l2).objs.size = s.heap.objs.size + 2:=by rw [Heap.size_push,z1]
  have z3 : (zh3 c1 c2 s.heap l1 l2).objs.size = s.heap.objs.size + 3:=by rw [Heap.size_push,z2]
  have z4 : (zh4 c1 c2 s.heap l1 l2).objs.size = s.heap.objs.size + 4:=by rw [Heap.size_push,z3]
  have z5 : (zh5 c1 c2 s.heap l1 l2).objs.size = s.heap.objs.size + 5:=by rw [Heap.size_push,z4]
  have g5 : (zh5 c1 c2 s.heap l1 l2).get? (zh4 c1 c2 s.heap l1 l2).objs.size = some _:=Heap.get?_push_size _ rfl
  have g4 : (zh5 c1 c2 s.heap l1 l2).get? (zh3 c1 c2 s.heap l1 l2).objs.size = some _:=Heap.get?_push_of_some _ (Heap.get?_push_size _ rfl)
  have g3 : (zh5 c1 c2 s.heap l1 l2).get? (zh2 c1 c2 s.heap l1 l2).objs.size = some _:=Heap.get?_push_of_some _ (Heap.get?_push_of_some _ (Heap.get?_push_size _ rfl))
  have g2 : (zh5 c1 c2 s.heap l1 l2).get? (zh1 c1 s.heap l1).objs.size = some _:=Heap.get?_push_of_some _ (Heap.get?_push_of_some _ (Heap.get?_push_of_some _ (Heap.get?_push_size _ rfl)))
  have g1 : (zh5 c1 c2 s.heap l1 l2).get? s.heap.objs.size = some _:=Heap.get?_push_of_some _ (Heap.get?_push_of_some _ (Heap.get?_push_of_some _ (Heap.get?_push_of_some _ (Heap.get?_push_size _ rfl))))
  show _ ∧ _
  rw [z2,z3,z4] at g5
  rw [z1,z2] at g3
  rw [z3] at g4
  rw [z1] at g2
  rw [z4]
  exact ⟨⟨_,g5,rfl⟩,h _ ⟨g5,g3,⟨_,_,g4⟩,sqIter_new g1,sqIter_new g2⟩ z5 fun c o x =>
    Heap.get?_push_of_some _ (Heap.get?_push_of_some _ (Heap.get?_push_of_some _ (Heap.get?_push_of_some _ (Heap.get?_push_of_some _ x))))⟩
end
section
variable {X : Cx} {elts : List Expr} {k : Nat} {tpos : Pos}
def iZip (K : PySem.W.Frag) (c1 c2 : Bool) (ta : TA) : TI:=fun σ H R => ta σ H fun vs H1 => ∃ l1 l2 xs ys,vs = [.ref l1,.ref l2] ∧ Sq c1 K H1 l1 xs ∧ Sq c2 K H1 l2 ys ∧ R (Itz K c1 c2 l1 l2) H1
theorem pi_zip (c1 c2 : Bool) {a b : Expr} {ta : TA} {p pos : Pos} (hg : Gl X "zip") (hm : X.mg "zip" = none) (ha : PA X [a,b] ta) (hs : starEach [a,b] X.env = [(false,eval a X.env),(false,eval b X.env)]:=by rfl) (hs2 : starEach [b] X.env = [(false,eval b X.env)]:=by rfl) :
    PI X (.Tuple elts k tpos) (.Call (.Name "zip" p) [a,b] [] pos) (iZip X.K c1 c2 ta):=by
  intro pins s σ H R I h
  refine Call_ (ld_blt I hg hm (show bootBuiltins "zip" = some (.type "zip") by decide +kernel) (PyProof.Rows.callWith_type1 (thn (ha pos pins s σ H _ I h) fun us s1 ⟨vs,H1,I1,r1,q1⟩ => ?_) (by rw [hs,hs2]) (by rw [hs2]; rfl)))
  obtain ⟨l1,l2,xs,ys,e,q1,q2,q⟩:=q1
  subst e
  obtain ⟨u,v,rfl,ru,rv⟩:=Vals.two r1
  cases ru
  cases rv
  obtain ⟨it1,_,p1,_⟩:=I1.sq q1
  obtain ⟨it2,_,p2,_⟩:=I1.sq q2
  refine callZip p1 p2 fun h' zr hz hk => wpAny_pyIter_zip zr.hz ?_
  have I2 : Inv X pins σ H1 { s1 with heap:=h',toks:=s1.toks }:=I1.kept hk
  have nd : ∀ n : Nat,n + 2 ≠ n + 4 ∧ n + 3 ≠ n + 4 ∧ n ≠ n + 4 ∧ n + 1 ≠ n + 4 ∧ n + 2 ≠ n + 3 ∧ n + 2 ≠ n ∧ n + 2 ≠ n + 1 ∧ n + 3 ≠ n ∧ n + 3 ≠ n + 1 ∧ n ≠ n + 1:=fun n => by omega
  refine ⟨_,_,_,_,H1,rfl,I2,turn_zip l1 l2 (nd s1.heap.objs.size),zr,fun b hb => ?_,q⟩
  simp only [List.mem_cons,List.not_mem_nil,or_false] at hb
  have ge : s1.heap.objs.size ≤ b:=by rcases hb with rfl | rfl | rfl | rfl | rfl <;> omega
  exact I1.fpOk ge (I1.hok.fresh ge)
end
theorem draws_sq {prog : Program} {w : World} {A : Around} (hh : A.handled = none) (c : Bool) (it l : Addr) (hne : l ≠ it) (items : Array Value) :
    Draws prog w A it [it,l] items.size (fun i v => items[i]? = some v) (fun i h => SqIter c h it l i ∧ IsSq c h l items) where
  live:=fun _ _ st => let ⟨o,ho,_⟩:=st.1.obj; ⟨o,ho⟩
  frame:=fun _ _ _ st hk => ⟨st.1.at fun o e => hk it (by simp) o e,st.2.at fun o e => hk l (by simp) o e⟩
  item:=fun i s Q E hi st hQ => nextSq st.1 st.2 (x:=items[i]) (by simp [hi]) fun h' hit' hs' => hQ _ h' s.toks (by simp [hi]) ⟨hit',st.2.at fun o e => hs'.extBut _ o hne e⟩ hs'
  done:=fun s Q E st hE => nextSqEnd hh st.1 st.2 (by simp) hE
theorem meets_enum (c : Bool) (l : Addr) (items : Array Value) :
    Meets (Builtin.«enumerate.__new__» ⟨[.type "enumerate", .ref l],[]⟩) (fun _ R s => IsSq c s.heap l items ∧
      R (.ok (.ret (.ref (s.heap.push (itObj c l)).objs.size))) { s with heap:=(s.heap.push (itObj c l)).push { cls:=.type "enumerate", data:=.fields #[.none,.bool false,.ref s.heap.objs.size,rawInt 0,.none,.none] } }) :=
  .of_wp fun prog w A R s h => by
    obtain ⟨hp,g,d,tk,os⟩:=s
    obtain ⟨hl,h⟩:=h
    have hsub:=sub_enumerate
    have hL : IsSq c (Shared.heap ⟨hp,g,d,tk,os⟩) l items:=hl
    wp_walk
    refine wpAny_stack_any fun st => wpAny_pure ?_
    split
    · rename_i cc _ _ _ _ _
      cases (cc == Value.type "enumerate")
      · wp_walk using iterTo hL
        exact ⟨_,rfl,h⟩
      · wp_walk using iterTo hL
        exact ⟨_,rfl,h⟩
    · wp_walk using iterTo hL
      exact ⟨_,rfl,h⟩
structure EnumRec (c : Bool) (e it l : Addr) (i : Nat) (h : Heap) : Prop where
  he : ∃ old,IsEnum h e it i old
  h1 : SqIter c h it l i
theorem callEnum {prog : Program} {w : World} {A : Around} {E : Value → Shared → Prop} {s : Shared} {c : Bool} {l : Addr} {items : Array Value} {Q : Value → Shared → Prop} (hl : IsSq c s.heap l items)
    (h : ∀ h',EnumRec c (s.heap.objs.size + 1) s.heap.objs.size l 0 h' → h'.objs.size = s.heap.objs.size + 2 → (∀ b o,s.heap.get? b = some o → h'.get? b = some o) → Q (.ref (s.heap.objs.size + 1)) { s with heap:=h' }) :
    wpAny (model prog w) A (call (.type "enumerate") [.ref l]) Q E s:=by
  refine callType_new F.called_enumerate (by decide) (F.typeCall_enumerate_1 _) (F.newCall_enumerate_1 _) (fun obj => F.args_object_init_2 obj _) F.entry_enumerate_new (meets_enum c l items) ⟨hl,?_⟩
  have hz : (s.heap.push (itObj c l)).objs.size = s.heap.objs.size + 1:=Heap.size_push ..
  have g2 : ((s.heap.push (itObj c l)).push { cls:=.type "enumerate", data:=.fields #[.none,.bool false,.ref s.heap.objs.size,rawInt 0,.none,.none] }).get? (s.heap.push (itObj c l)).objs.size = some _:=Heap.get?_push_size _ rfl
  have g1 : ((s.heap.push (itObj c l)).push { cls:=.type "enumerate", data:=.fields #[.none,.bool false,.ref s.heap.objs.size,rawInt 0,.none,.none] }).get? s.heap.objs.size = some (itObj c l):=Heap.get?_push_of_some _ (Heap.get?_push_size _ rfl)
  show _ ∧ _
  rw [hz] at g2 ⊢
  exact ⟨⟨_,g2,rfl⟩,h _ ⟨⟨.none,g2⟩,sqIter_new g1⟩ (by rw [Heap.size_push,hz]) fun b o e => Heap.get?_push_of_some _ (Heap.get?_push_of_some _ e)⟩
def Ite (K : PySem.W.Frag) (c : Bool) (l : Addr) : It :=
  ⟨fun i H => ∃ xs x,Sq c K H l xs ∧ xs[i]? = some x,
   fun i H v H' => ∃ T x,v = .ref T ∧ H T = none ∧ H' = upd H T (.tup [.int i,x]) ∧ ∀ xs,Sq c K H l xs → xs[i]? = some x,
   fun i H => ∃ xs,Sq c K H l xs ∧ xs.length = i⟩
theorem turn_enum {P : Program} {w : World} {K : PySem.W.Frag} {elts : List Expr} {k : Nat} {pos : Pos} {c : Bool} {e it : Addr} (l : Addr) (ne : e ≠ it) :
    Turn P w K (.Tuple elts k pos) (Ite K c l) [e,it] e (EnumRec c e it l) where
  mem:=by simp
  obj:=fun i h st b hb => by
    simp only [List.mem_cons,List.not_mem_nil,or_false] at hb
    rcases hb with rfl | rfl
    · obtain ⟨old,q⟩:=st.he
      exact ⟨_,q,fun v q => by cases (show Data.fields _ = Data.cell v from q)⟩
    · exact st.h1.obj
  keep:=fun i h h' st kk => ⟨let ⟨old,q⟩:=st.he; ⟨old,kk e (by simp) _ q⟩,st.h1.at fun o q => kk it (by simp) o q⟩
  item:=by
    intro X hP hw hK hc i pins s σ H E I hf st hg
    subst hP hw hK
    obtain ⟨xs,x,q1,hx⟩:=hg
    obtain ⟨its,rv,p,z⟩:=I.sq q1
    obtain ⟨u,hu,ru⟩:=rv.get hx
    obtain ⟨old,he⟩:=st.he
    have n1 : l ≠ e:=I.sq_apart q1 (hf e (by simp))
    have n2 : l ≠ it:=I.sq_apart q1 (hf it (by simp))
    have hil : i < its.length:=by rw [← rv.length]; exact (List.getElem?_eq_some_iff.mp hx).1
    have hh : X.A.in1.handled = none:=I.ok.hd hc
    refine wpAny_pyNext_enum_itemD (draws_sq hh c it l n2 its.toArray) he ⟨st.h1,p⟩ (by simpa using hil) ne (by simp [ne,Ne.symm n1]) fun x' h' tk hP ho hs' hT hsz hk => ?_
    have ex : x' = u:=by
      have hu' : its.toArray[i]? = some u:=by simpa using hu
      rw [hu'] at hP
      exact (Option.some.inj hP).symm
    subst ex
    refine ⟨_,rfl,wpAny_letOwnedTupleGo_enum ho fun h2 b1 b2 => ?_⟩
    have elt : e < s.heap.objs.size:=Heap.lt_size he
    obtain ⟨oi,ei,_⟩:=st.h1.obj
    have ilt : it < s.heap.objs.size:=Heap.lt_size ei
    have keep : ∀ b u,b ∉ [e,it] → s.heap.get? b = some u → h2.get? b = some u:=fun b u hb q => by
      simp only [List.mem_cons,List.not_mem_nil,or_false,not_or] at hb
      exact b2.extBut _ _ hb.1 (hk b u hb.1 hb.2 q)
    have hT2 : IsPair h2 s.heap.objs.size (.int i tk) x':=b2.extBut _ _ (Nat.ne_of_gt elt) hT
    have I2 : Inv X pins σ (upd H s.heap.objs.size (.tup [.int i,x])) { s with heap:=h2,toks:=tk + 1 }:=I.turnedNew hf keep (Nat.le_refl _) (pair_ok hT2 ⟨tk,rfl⟩ ru)
    refine ⟨.ref s.heap.objs.size,_,I2,rfl,⟨_,x,rfl,I.fresh,rfl,fun zs hz => by rw [I.sq_inj hz q1]; exact hx⟩,⟨⟨x',by simpa using b1⟩,hs'.1.at fun o q => b2.extBut _ o (Ne.symm ne) q⟩,fun b hb => ?_⟩
    have hlt : b < s.heap.objs.size:=by
      simp only [List.mem_cons,List.not_mem_nil,or_false] at hb
      rcases hb with rfl | rfl
      · exact elt
      · exact ilt
    rw [upd_ne (Nat.ne_of_lt hlt)]
    exact (hf b hb).1
  done:=by
    intro X hP hw hK hc i pins s σ H E I hf st hg
    subst hP hw hK
    obtain ⟨xs,q1,hend⟩:=hg
    obtain ⟨its,rv,p,z⟩:=I.sq q1
    obtain ⟨old,he⟩:=st.he
    have n2 : l ≠ it:=I.sq_apart q1 (hf it (by simp))
    have el : i = its.toArray.size:=by rw [← hend,rv.length]; simp
    have hh : X.A.in1.handled = none:=I.ok.hd hc
    refine wpAny_pyNext_enum_endD (draws_sq hh c it l n2 its.toArray) he (by rw [← el]; exact ⟨st.h1,p⟩) fun h' hx => ⟨rfl,?_⟩
    exact I.turnedL (t':=s.toks) (ch:=[e,it]) hf fun b u hb q => by
      simp only [List.mem_cons,List.not_mem_nil,or_false,not_or] at hb
      exact hx b u hb.2 q
  self:=fun _ _ _ _ _ st h => let ⟨_,he⟩:=st.he; wpAny_pyIter_enum he h
section
variable {X : Cx} {elts : List Expr} {k : Nat} {tpos : Pos}
def iEnum (K : PySem.W.Frag) (c : Bool) (ta : TA) : TI:=fun σ H R => ta σ H fun vs H1 => ∃ l xs,vs = [.ref l] ∧ Sq c K H1 l xs ∧ R (Ite K c l) H1
theorem pi_enum (c : Bool) {a : Expr} {ta : TA} {p pos : Pos} (hg : Gl X "enumerate") (hm : X.mg "enumerate" = none) (ha : PA X [a] ta) (hs : starEach [a] X.env = [(false,eval a X.env)]:=by rfl) :
    PI X (.Tuple elts k tpos) (.Call (.Name "enumerate" p) [a] [] pos) (iEnum X.K c ta):=by
  intro pins s σ H R I h
  refine Call_ (ld_blt I hg hm (show bootBuiltins "enumerate" = some (.type "enumerate") by decide +kernel) (PyProof.Rows.callWith_type1 (thn (ha pos pins s σ H _ I h) fun us s1 ⟨vs,H1,I1,r1,q1⟩ => ?_) hs rfl))
  obtain ⟨l,xs,e,q1,q⟩:=q1
  subst e
  obtain ⟨u,rfl,ru⟩:=Vals.one r1
  cases ru
  obtain ⟨its,_,p1,_⟩:=I1.sq q1
  refine callEnum p1 fun h' er hz hk => let ⟨_,he⟩:=er.he; wpAny_pyIter_enum he ?_
  have I2 : Inv X pins σ H1 { s1 with heap:=h',toks:=s1.toks }:=I1.kept hk
  refine ⟨_,_,_,_,H1,rfl,I2,turn_enum l (show s1.heap.objs.size + 1 ≠ s1.heap.objs.size by omega),er,fun b hb => ?_,q⟩
  simp only [List.mem_cons,List.not_mem_nil,or_false] at hb
  have ge : s1.heap.objs.size ≤ b:=by rcases hb with rfl | rfl <;> omega
  exact I1.fpOk ge (I1.hok.fresh ge)
end
theorem Same.put {H : Hp} {a : Addr} {o : HO} (h : H a = none) : Same H (upd H a o):=fun b u e => by rw [upd_ne (ne_of_none e h)]; exact e
def SameX (D : Addr) (H H' : Hp) : Prop := ∀ b o,b ≠ D → H b = some o → H' b = some o
theorem Same.x {H H' : Hp} (s : Same H H') (D : Addr) : SameX D H H':=fun b o _ e => s b o e
theorem SameX.put {D : Addr} {H : Hp} {o : HO} : SameX D H (upd H D o):=fun b u hb e => by rw [upd_ne hb]; exact e
theorem SameX.trans {D : Addr} {H H1 H2 : Hp} (a : SameX D H H1) (b : SameX D H1 H2) : SameX D H H2:=fun c o hc e => b c o hc (a c o hc e)
theorem SameX.of {D : Addr} {H H' : Hp} (h : H D = none) (s : SameX D H H') : Same H H':=fun b o e => s b o (ne_of_none e h) e
theorem Same.sq {K : PySem.W.Frag} {H H' : Hp} {a : Addr} {xs : List V} {c : Bool} (e : Same H H') (h : Sq c K H a xs) : Sq c K H' a xs:=by
  cases c with
  | true => exact e.seq h
  | false =>
    rcases h with (h | ⟨o,h⟩) | h
    · exact .inl (.inl (e _ _ h))
    · exact .inl (.inr ⟨o,e _ _ h⟩)
    · exact .inr h
theorem Same.sqT {K : PySem.W.Frag} {H H' : Hp} {a : Addr} {xs : List V} (e : Same H H') (h : SqT K H a xs) : SqT K H' a xs:=e.sq (c:=false) h
structure SrcOk (J : It) (g : TG) (σ₀ : St) (H1 : Hp) (n : Nat) (sl : Nat → St) : Prop where
  go : ∀ i H,i < n → Same H1 H → J.go i H
  stop : ∀ H,Same H1 H → J.stop n H
  step : ∀ i H x H' (K : St → Hp → Prop),i < n → Same H1 H → J.yld i H x H' → (∀ H2,Same H H2 → K (sl i) H2) → g x σ₀ H' fun σ2 H2 => Wk σ₀ σ2 ∧ K σ2 H2
theorem src_range {lo : Int} {n : Nat} {ρ : St} {H1 : Hp} : SrcOk (Itr lo n) (gName 0) (none :: ρ) H1 n (fun i => some (.int (lo + i)) :: ρ) where
  go:=fun i H hi _ => hi
  stop:=fun H _ => Nat.le_refl n
  step:=fun i H x H' K hi hs hy hk => by
    obtain ⟨rfl,rfl⟩:=hy
    exact ⟨Wk.set (Wk.refl _) rfl,hk _ (Same.refl _)⟩
theorem src_list {K : PySem.W.Frag} {a : Addr} {xs : List V} {ρ : St} {H1 : Hp} (h : SqL K H1 a xs) : SrcOk (Itl K a) (gName 0) (none :: ρ) H1 xs.length (fun i => some (xs.getD i .non) :: ρ) where
  go:=fun i H hi hs => ⟨xs,xs[i],hs.seq h,List.getElem?_eq_getElem hi⟩
  stop:=fun H hs => ⟨xs,hs.seq h,Nat.le_refl _⟩
  step:=fun i H x H' K hi hs hy hk => by
    obtain ⟨rfl,hx⟩:=hy
    have e:=hx xs (hs.seq h)
    have e2 : xs.getD i .non = x:=by rw [List.getD_eq_getElem?_getD,e]; rfl
    refine ⟨Wk.set (Wk.refl _) rfl,?_⟩
    have:=hk _ (Same.refl _)
    rw [e2] at this
    exact this
theorem src_tup {K : PySem.W.Frag} {a : Addr} {xs : List V} {ρ : St} {H1 : Hp} (h : SqT K H1 a xs) : SrcOk (Itt K a) (gName 0) (none :: ρ) H1 xs.length (fun i => some (xs.getD i .non) :: ρ) where
  go:=fun i H hi hs => ⟨xs,xs[i],hs.sqT h,List.getElem?_eq_getElem hi⟩
  stop:=fun H hs => ⟨xs,hs.sqT h,Nat.le_refl _⟩
  step:=fun i H x H' K hi hs hy hk => by
    obtain ⟨rfl,hx⟩:=hy
    have e:=hx xs (hs.sqT h)
    have e2 : xs.getD i .non = x:=by rw [List.getD_eq_getElem?_getD,e]; rfl
    refine ⟨Wk.set (Wk.refl _) rfl,?_⟩
    have:=hk _ (Same.refl _)
    rw [e2] at this
    exact this
theorem src_zip {K : PySem.W.Frag} {c1 c2 : Bool} {a b : Addr} {xs ys : List V} {n : Nat} {ρ : St} {H1 : Hp} (h1 : Sq c1 K H1 a xs) (h2 : Sq c2 K H1 b ys) (hn : n = min xs.length ys.length) :
    SrcOk (Itz K c1 c2 a b) (gTup K 2 (gCons (gName 0) (gCons (gName 1) gNil))) (none :: none :: ρ) H1 n (fun i => some (xs.getD i .non) :: some (ys.getD i .non) :: ρ) where
  go:=fun i H hi hs => ⟨xs,ys,xs[i]'(by omega),ys[i]'(by omega),hs.sq h1,hs.sq h2,List.getElem?_eq_getElem (by omega),List.getElem?_eq_getElem (by omega)⟩
  stop:=fun H hs => ⟨xs,ys,hs.sq h1,hs.sq h2,by omega⟩
  step:=fun i H v H' Kk hi hs hy hk => by
    obtain ⟨T,x,y,rfl,hT,rfl,hx,hy⟩:=hy
    have e1:=hx xs (hs.sq h1)
    have e2:=hy ys (hs.sq h2)
    have e3 : xs.getD i .non = x:=by rw [List.getD_eq_getElem?_getD,e1]; rfl
    have e4 : ys.getD i .non = y:=by rw [List.getD_eq_getElem?_getD,e2]; rfl
    refine ⟨T,[x,y],rfl,.inl (.inl upd_same),rfl,x,[y],rfl,y,[],rfl,rfl,?_⟩
    have:=hk (upd H T (.tup [x,y])) (Same.put hT)
    rw [e3,e4] at this
    exact ⟨Wk.set (Wk.set (Wk.refl _) rfl) rfl,this⟩
theorem comp_rel {J : It} {g : TG} {tc : TT} {te : TE} {σ₀ : St} {D : Addr} {Q : Hp → Prop} {H1 : Hp} {n : Nat} {sl : Nat → St} (keep : Nat → Bool) (Rl : Nat → V → Hp → Prop) (S : SrcOk J g σ₀ H1 n sl) (hD : H1 D = none) (hn : n < sizeLine)
    (mono : ∀ i v H H',SameX D H H' → Rl i v H → Rl i v H')
    (step : ∀ i H (Kt : V → Hp → Prop) (Kf : Hp → Prop),i < n → Same H1 H → (∃ ys,H D = some (.lst ys)) → (∀ v H',keep i = true → Same H H' → Rl i v H' → Kt v H') → (∀ H',keep i = false → Same H H' → Kf H') →
      tc (sl i) H fun b H3 => if b = true then te (sl i) H3 Kt else Kf H3)
    (fin : ∀ H' ys,Same H1 H' → H' D = some (.lst ys) → Paired (fun i v => Rl i v H') ((List.range n).filter keep) ys → Q H') : CompW J g tc te σ₀ D Q (upd H1 D (.lst [])):=by
  refine ⟨fun i m ys H => m = n - i ∧ i ≤ n ∧ Same H1 H ∧ H D = some (.lst ys) ∧ Paired (fun i v => Rl i v H) ((List.range i).filter keep) ys,⟨n,by omega,by omega,Same.put hD,upd_same,.nil⟩,?_⟩
  rintro i m ys H ⟨hm,hi,hs,hl,hp⟩
  have hlen : ys.length ≤ i:=by
    have:=Paired.length hp
    rw [← this]
    exact Nat.le_trans (List.length_filter_le _ _) (by simp)
  by_cases e : i = n
  · subst e
    exact .inl ⟨S.stop H hs,fin H ys hs hl hp⟩
  · have hin : i < n:=by omega
    refine .inr ⟨S.go i H hin hs,fun ys' H' => i + 1 ≤ n ∧ Same H1 H' ∧ H' D = some (.lst ys') ∧ Paired (fun i v => Rl i v H') ((List.range (i + 1)).filter keep) ys',fun ys' H' h => ⟨n - (i + 1),by omega,rfl,h⟩,fun x H' hy => ?_⟩
    refine S.step i H x H' (fun σ2 H2 => tc σ2 H2 fun b H3 => if b = true then te σ2 H3 fun y H4 => H4 D = some (.lst ys) ∧ ys.length < sizeLine ∧ _ else _) hin hs hy fun H2 s2 => ?_
    have up : ∀ {H' : Hp},Same H2 H' → Paired (fun i v => Rl i v H') ((List.range i).filter keep) ys:=fun {H'} s' => Paired.mapP hp fun a b r => mono a b _ _ ((s2.trans s').x D) r
    refine step i H2 _ _ hin (hs.trans s2) ⟨ys,s2 _ _ hl⟩ (fun v H4 hk s4 r => ?_) fun H4 hk s4 => ?_
    · have hl4 : H4 D = some (.lst ys):=s4 _ _ (s2 _ _ hl)
      refine ⟨hl4,by omega,hin,?_,upd_same,?_⟩
      · exact SameX.of hD (((hs.trans (s2.trans s4)).x D).trans SameX.put)
      · rw [List.range_succ,List.filter_append]
        have e1 : [i].filter keep = [i]:=by simp [hk]
        rw [e1]
        exact PySem.Paired.snoc (Paired.mapP (up s4) fun a b q => mono a b _ _ SameX.put q) (mono _ _ _ _ SameX.put r)
    · refine ⟨hin,hs.trans (s2.trans s4),s4 _ _ (s2 _ _ hl),?_⟩
      rw [List.range_succ,List.filter_append]
      have e1 : [i].filter keep = []:=by simp [hk]
      rw [e1,List.append_nil]
      exact up s4
theorem paired_map {α : Type} {f : α → V} : ∀ {l : List α} {ys : List V},Paired (fun i v => v = f i) l ys → ys = l.map f
  | _,_,.nil => rfl
  | _,_,.cons h t => by rw [h,paired_map t]; rfl
theorem comp_val {J : It} {g : TG} {tc : TT} {te : TE} {σ₀ : St} {D : Addr} {Q : Hp → Prop} {H1 : Hp} {n : Nat} {sl : Nat → St} (keep : Nat → Bool) (f : Nat → V) (S : SrcOk J g σ₀ H1 n sl) (hD : H1 D = none) (hn : n < sizeLine)
    (step : ∀ i H (Kt : V → Hp → Prop) (Kf : Hp → Prop),i < n → Same H1 H → (∀ H',keep i = true → Same H H' → Kt (f i) H') → (∀ H',keep i = false → Same H H' → Kf H') →
      tc (sl i) H fun b H3 => if b = true then te (sl i) H3 Kt else Kf H3)
    (fin : ∀ H',Same H1 H' → H' D = some (.lst (((List.range n).filter keep).map f)) → Q H') : CompW J g tc te σ₀ D Q (upd H1 D (.lst [])) :=
  comp_rel keep (fun i v _ => v = f i) S hD hn (fun _ _ _ _ _ h => h) (fun i H Kt Kf hi hs _ h1 h2 => step i H Kt Kf hi hs (fun H' hk s' => h1 _ H' hk s' rfl) h2)
    fun H' ys hs hl hp => fin H' hs (by rw [hl,paired_map hp])
theorem filter_true {α : Type} (l : List α) : l.filter (fun _ => true) = l:=List.filter_eq_self.mpr fun _ _ => rfl
theorem comp_all {J : It} {g : TG} {te : TE} {σ₀ : St} {D : Addr} {Q : Hp → Prop} {H1 : Hp} {n : Nat} {sl : Nat → St} (f : Nat → V) (S : SrcOk J g σ₀ H1 n sl) (hD : H1 D = none) (hn : n < sizeLine)
    (step : ∀ i H (Kt : V → Hp → Prop),i < n → Same H1 H → (∀ H',Same H H' → Kt (f i) H') → te (sl i) H Kt)
    (fin : ∀ H',Same H1 H' → H' D = some (.lst ((List.range n).map f)) → Q H') : CompW J g tYes te σ₀ D Q (upd H1 D (.lst [])) :=
  comp_val (fun _ => true) f S hD hn (fun i H Kt Kf hi hs h1 _ => iteT (A:=te (sl i) H Kt) (B:=Kf H) (step i H Kt hi hs fun H' s' => h1 H' rfl s')) fun H' hs hl => fin H' hs (by rw [hl,filter_true])
theorem comp_allR {J : It} {g : TG} {te : TE} {σ₀ : St} {D : Addr} {Q : Hp → Prop} {H1 : Hp} {n : Nat} {sl : Nat → St} (Rl : Nat → V → Hp → Prop) (S : SrcOk J g σ₀ H1 n sl) (hD : H1 D = none) (hn : n < sizeLine)
    (mono : ∀ i v H H',SameX D H H' → Rl i v H → Rl i v H')
    (step : ∀ i H (Kt : V → Hp → Prop),i < n → Same H1 H → (∃ ys,H D = some (.lst ys)) → (∀ v H',Same H H' → Rl i v H' → Kt v H') → te (sl i) H Kt)
    (fin : ∀ H' ys,Same H1 H' → H' D = some (.lst ys) → Paired (fun i v => Rl i v H') (List.range n) ys → Q H') : CompW J g tYes te σ₀ D Q (upd H1 D (.lst [])) :=
  comp_rel (fun _ => true) Rl S hD hn mono (fun i H Kt Kf hi hs hy h1 _ => iteT (A:=te (sl i) H Kt) (B:=Kf H) (step i H Kt hi hs hy fun v H' s' r => h1 v H' rfl s' r)) fun H' ys hs hl hp => fin H' ys hs hl (by rw [filter_true] at hp; exact hp)
theorem comp_fresh {J : It} {g : TG} {te : TE} {σ₀ : St} {D : Addr} {Q : Hp → Prop} {H1 : Hp} {n : Nat} {sl : Nat → St} (c : Nat → List V) (S : SrcOk J g σ₀ H1 n sl) (hD : H1 D = none) (hn : n < sizeLine)
    (step : ∀ i H (Kt : V → Hp → Prop),i < n → Same H1 H → (∀ a H',Same H H' → H a = none → H' a = some (.lst (c i)) → Kt (.ref a) H') → te (sl i) H Kt)
    (fin : ∀ H' (as : List Addr),Same H1 H' → H' D = some (.lst (as.map V.ref)) → as.length = n → as.Nodup → (∀ a ∈ as,H1 a = none ∧ a ≠ D) → (∀ (i : Nat) a,as[i]? = some a → H' a = some (.lst (c i))) → Q H') :
    CompW J g tYes te σ₀ D Q (upd H1 D (.lst [])):=by
  refine ⟨fun i m ys H => m = n - i ∧ i ≤ n ∧ Same H1 H ∧ H D = some (.lst ys) ∧ ∃ as : List Addr,ys = as.map V.ref ∧ as.length = i ∧ as.Nodup ∧ (∀ a ∈ as,H1 a = none ∧ a ≠ D) ∧ ∀ (j : Nat) a,as[j]? = some a → H a = some (.lst (c j)),
    ⟨n,by omega,by omega,Same.put hD,upd_same,[],rfl,rfl,List.nodup_nil,fun _ h => (nomatch h),fun j a h => by simp at h⟩,?_⟩
  rintro i m ys H ⟨hm,hi,hs,hl,as,rfl,h1,h2,h3,h4⟩
  by_cases e : i = n
  · subst e
    exact .inl ⟨S.stop H hs,fin H as hs hl h1 h2 h3 h4⟩
  · have hin : i < n:=by omega
    refine .inr ⟨S.go i H hin hs,fun ys' H' => i + 1 ≤ n ∧ Same H1 H' ∧ H' D = some (.lst ys') ∧ ∃ as : List Addr,ys' = as.map V.ref ∧ as.length = i + 1 ∧ as.Nodup ∧ (∀ a ∈ as,H1 a = none ∧ a ≠ D) ∧ ∀ (j : Nat) a,as[j]? = some a → H' a = some (.lst (c j)),
      fun ys' H' h => ⟨n - (i + 1),by omega,rfl,h⟩,fun x H' hy => ?_⟩
    refine S.step i H x H' (fun σ2 H2 => tYes σ2 H2 fun b H3 => if b = true then te σ2 H3 fun y H4 => H4 D = some (.lst (as.map V.ref)) ∧ (as.map V.ref).length < sizeLine ∧ _ else _) hin hs hy fun H2 s2 => ?_
    dsimp only [tYes]
    rw [if_pos rfl]
    refine step i H2 _ hin (hs.trans s2) fun a H4 s4 ha hc => ?_
    have hl4 : H4 D = some (.lst (as.map V.ref)):=s4 _ _ (s2 _ _ hl)
    have haD : a ≠ D:=fun e => by rw [e,s2 _ _ hl] at ha; cases ha
    have anot : a ∉ as:=fun hm => by
      obtain ⟨j,hj,e⟩:=List.getElem_of_mem hm
      have:=s2 _ _ (h4 j a (by rw [List.getElem?_eq_getElem hj,e]))
      rw [ha] at this; cases this
    refine ⟨hl4,by simp; omega,hin,SameX.of hD (((hs.trans (s2.trans s4)).x D).trans SameX.put),upd_same,as ++ [a],by simp,by simp [h1],?_,?_,?_⟩
    · exact List.nodup_append.mpr ⟨h2,by simp,fun x hx y hy => by simp at hy; subst hy; exact fun e => anot (e ▸ hx)⟩
    · intro b hb
      rcases List.mem_append.mp hb with hb | hb
      · exact h3 b hb
      · simp at hb
        subst hb
        exact ⟨(hs.trans s2).free ha,haD⟩
    · intro j b hj
      by_cases hjl : j < as.length
      · rw [List.getElem?_append_left hjl] at hj
        have q:=h4 j b hj
        have hbD : b ≠ D:=(h3 b (List.mem_of_getElem? hj)).2
        rw [upd_ne hbD]
        exact s4 _ _ (s2 _ _ q)
      · have hj2 : (as ++ [a])[j]? = some b:=hj
        rw [List.getElem?_append_right (by omega)] at hj2
        have e0 : j = as.length:=by
          by_cases z : j - as.length = 0
          · omega
          · rw [List.getElem?_eq_none (by simp; omega)] at hj2; cases hj2
        subst e0
        simp at hj2
        subst hj2
        rw [upd_ne haD,h1]
        exact hc
def Pu (pre : List V → Hp → Prop) (post : List V → Hp → V → Hp → Prop) : Sp:=fun vs H Q _ => pre vs H ∧ ∀ v H',Same H H' → post vs H v H' → Q v H'
def blkChk (sc osc : Scope) (N : List Str) (fr : List (Str × Nat)) : Bool :=
  sc.kind == .function && sc.names.all (fun y => y.2 != .cell && (y.2 != .local || sc.names.lookup y.1 == some .local) && (y.2 != .free || osc.names.lookup y.1 == some .cell || osc.names.lookup y.1 == some .free)) &&
  fr.all fun p => N[p.2]? == some p.1 && sc.names.lookup p.1 == some .free
theorem blkOk {X : Cx} {scope : Scope} {fr : List (Str × Nat)} (osc : Scope) (N : List Str) (h1 : X.env.scope = osc) (h2 : X.N = N) (h : blkChk scope osc N fr = true) : BlkOk X scope fr:=by
  unfold blkChk at h
  rw [Bool.and_eq_true,Bool.and_eq_true] at h
  obtain ⟨⟨a,b⟩,c⟩:=h
  rw [List.all_eq_true] at b c
  subst h1 h2
  refine ⟨by simpa using a,fun y hy e => ?_,fun y hy e => ?_,fun y hy e => ?_,fun p hp => ?_⟩
  · have:=b y hy
    rw [e] at this
    simp at this
  · have:=b y hy
    rw [e] at this
    simpa using this
  · have:=b y hy
    rw [e] at this
    simpa using this
  · have:=c p hp
    simpa using this
structure Cal (P : Program) (w : World) (K : PySem.W.Frag) (mg : Str → Option Value) (base : Heap) (x : Str) (ps : List Str) (k : Nat) (sp : Sp) : Prop where
  ex : ∃ (f : Addr) (fd : FuncData),FnOk P w K mg base CX0 k f fd ps sp ∧ mg x = some (.ref f) ∧ PySem.W.keepIn K (.ref f) = true ∧ Binds K fd ps []
section
variable {X : Cx} {x : Str} {ps : List Str} {k k' : Nat} {sp : Sp} {e : Expr} {es : List Expr} {t : TA} {p pos : Pos}
theorem pe_callC (c : Cal X.prog X.w X.K X.mg X.base x ps k sp) (hr : Room k' X.A) (hg : Gl X x) (ha : PA X (e :: es) t) (hk : k ≤ k':=by decide) (hdb : (x == ("__debug__" : Str)) = false:=by decide)
    (he : starEach (e :: es) X.env = (false,eval e X.env) :: starEach es X.env:=by rfl) (hpl : (backTo pos (starEach es X.env)).any (·.1) = false:=by rfl) : PE X (.Call (.Name x p) (e :: es) [] pos) (tCall sp [] E0 t):=by
  obtain ⟨f,fd,F,hm,kp,b⟩:=c.ex
  exact pe_call F (hr.mono hk) hg hm kp b .nil pass0 ha hdb he hpl
theorem pe_callC0 (c : Cal X.prog X.w X.K X.mg X.base x ps k sp) (hr : Room k' X.A) (hg : Gl X x) (hk : k ≤ k':=by decide) (hdb : (x == ("__debug__" : Str)) = false:=by decide) : PE X (.Call (.Name x p) [] [] pos) (tCall sp [] E0 tNil):=by
  obtain ⟨f,fd,F,hm,kp,b⟩:=c.ex
  exact pe_call0 F (hr.mono hk) hg hm kp b .nil pass0 hdb
end
theorem call_isinst {X : Cx} (T : String) : CallR X (.builtin "isinstance") (fun xs H Q => ∃ x t b,xs = [x,.ty T] ∧ TyOf X.K H x t ∧ PySem.W.kitOne X.K t (.type T) = some b ∧ Q (.bl b) H):=by
  intro pins s σ H xs us Q I r h
  obtain ⟨x,t,b,rfl,ty,e,q⟩:=h
  obtain ⟨u,v,rfl,ru,rv⟩:=Vals.two r
  cases rv
  exact isinst_ok I ru ty e fun tk => ⟨.bl b,H,I.tok _,rfl,q⟩
theorem bt_bool : bootBuiltins "bool" = some (.type "bool"):=by decide +kernel
theorem bt_int : bootBuiltins "int" = some (.type "int"):=by decide +kernel
theorem bt_list : bootBuiltins "list" = some (.type "list"):=by decide +kernel
theorem bt_tuple : bootBuiltins "tuple" = some (.type "tuple"):=by decide +kernel
section
variable {X : Cx} {K : PySem.W.Frag}
theorem ix_listK (h : X.K = K) : IxR X (rIxL K):=h ▸ ix_list
theorem ix_tupK (h : X.K = K) : IxR X (rIxT K):=h ▸ ix_tup
theorem sl_listK (h : X.K = K) : SlR X (rSlL K):=h ▸ sl_list
theorem op_inK (h : X.K = K) : OpR X (compareOp .In) (rIn K false):=h ▸ op_in_seq
theorem op_notInK (h : X.K = K) : OpR X (compareOp .NotIn) (rIn K true):=h ▸ op_notIn_seq
def rLen (K : PySem.W.Frag) : List V → Hp → VK → Prop:=fun xs H Q => ∃ p ys,xs = [.ref p] ∧ (SqL K H p ys ∨ SqT K H p ys) ∧ Q (.int ys.length) H
theorem call_lenK (h : X.K = K) : CallR X (.builtin "len") (rLen K):=h ▸ call_len_seq
def rListOf (K : PySem.W.Frag) : List V → Hp → VK → Prop:=fun xs H Q => ∃ p ys,xs = [.ref p] ∧ (SqL K H p ys ∨ SqT K H p ys) ∧ ∀ l,H l = none → Q (.ref l) (upd H l (.lst ys))
theorem call_listK (h : X.K = K) : CallR X (.type "list") (rListOf K):=h ▸ call_list_of
def rTupleOf (K : PySem.W.Frag) : List V → Hp → VK → Prop:=fun xs H Q => ∃ p ys,xs = [.ref p] ∧ ((SqL K H p ys ∧ ∀ l,H l = none → Q (.ref l) (upd H l (.tup ys))) ∨ (SqT K H p ys ∧ Q (.ref p) H))
theorem call_tupleK (h : X.K = K) : CallR X (.type "tuple") (rTupleOf K):=h ▸ call_tuple_of
def rIsInst (K : PySem.W.Frag) (T : String) : List V → Hp → VK → Prop:=fun xs H Q => ∃ x t b,xs = [x,.ty T] ∧ TyOf K H x t ∧ PySem.W.kitOne K t (.type T) = some b ∧ Q (.bl b) H
theorem call_isinstK (T : String) (h : X.K = K) : CallR X (.builtin "isinstance") (rIsInst K T):=h ▸ call_isinst T
variable {tg : Expr} {l : Expr} {tl : TE} {elts : List Expr} {k : Nat} {tpos pos p apos cpos : Pos} {a b o e : Expr} {es : List Expr} {ta : TA} {te tv to : TE} {f : Str}
theorem pi_listK (h : X.K = K) (hl : PE X l tl) : PI X tg l (iList K tl):=h ▸ pi_list hl
theorem pi_tupK (h : X.K = K) (hl : PE X l tl) : PI X tg l (iTup K tl):=h ▸ pi_tup hl
theorem pi_zipK (c1 c2 : Bool) (h : X.K = K) (hg : Gl X "zip") (hm : X.mg "zip" = none) (ha : PA X [a,b] ta) (hs : starEach [a,b] X.env = [(false,eval a X.env),(false,eval b X.env)]:=by rfl) (hs2 : starEach [b] X.env = [(false,eval b X.env)]:=by rfl) :
    PI X (.Tuple elts k tpos) (.Call (.Name "zip" p) [a,b] [] pos) (iZip K c1 c2 ta):=h ▸ pi_zip c1 c2 hg hm ha hs hs2
theorem pi_enumK (c : Bool) (h : X.K = K) (hg : Gl X "enumerate") (hm : X.mg "enumerate" = none) (ha : PA X [a] ta) (hs : starEach [a] X.env = [(false,eval a X.env)]:=by rfl) :
    PI X (.Tuple elts k tpos) (.Call (.Name "enumerate" p) [a] [] pos) (iEnum K c ta):=h ▸ pi_enum c hg hm ha hs
theorem pe_fldK (h : X.K = K) (he : PE X e te) (hb : attributeBase e f X.env (eval e X.env) = eval e X.env) : PE X (.Attribute e f pos) (tFld K te f):=h ▸ pe_fld he hb
theorem ps_fldK {value : Expr} {pos' : Pos} (h : X.K = K) (ha : PE X o te) (hv : PE X value tv) (hs : swapsWith value (some (.Attribute o f pos')) pos.line X.env = pure false) : PS X (.Assign [.Attribute o f pos'] value pos) (sFld K te tv f):=h ▸ ps_fld ha hv hs
variable {name : Str} {T id : String} {r : V → List V → Hp → VK → Prop} {t : TA}
theorem pe_bm0K (h : X.K = K) (pa : PlainAttrs T) (slot : Slot T name id) (hty : typeOf (.builtin id) = pure (.type "method_descriptor")) (hm : MtR X id r) (ho : PE X o to)
    (hbase : attributeBase o name X.env (eval o X.env) = eval o X.env:=by rfl) (hline : (apos.endLine == cpos.line) = true:=by rfl) : PE X (.Call (.Attribute o name apos) [] [] cpos) (tBM0 K T r to):=h ▸ pe_bm0 pa slot hty hm ho hbase hline
theorem pe_bmK (h : X.K = K) (pa : PlainAttrs T) (slot : Slot T name id) (hty : typeOf (.builtin id) = pure (.type "method_descriptor")) (hm : MtR X id r) (ho : PE X o to) (ha : PA X (e :: es) t)
    (h1 : attributeBase o name X.env (eval o X.env) = eval o X.env:=by rfl)
    (h2 : ((backTo cpos (starEach (e :: es) X.env)).all (fun x => !x.1) && (backToKw cpos (keywordEach [] X.env)).all (fun x => x.1.isSome) && decide ((e :: es).length + ([] : List Keyword).length + (if ([] : List Keyword).isEmpty then 0 else 1) < 30)) = true:=by rfl)
    (h3 : (apos.endLine == cpos.line) = true:=by rfl) (h4 : starEach (e :: es) X.env = (false,eval e X.env) :: starEach es X.env:=by rfl) (h5 : (backTo cpos (starEach es X.env)).any (·.1) = false:=by rfl) :
    PE X (.Call (.Attribute o name apos) (e :: es) [] cpos) (tBM K T r to t):=h ▸ pe_bm pa slot hty hm ho ha h1 h2 h3 h4 h5
theorem pg_pair {x y : Str} {i j : Nat} {p1 p2 : Pos} (h : X.K = K) (hc : X.calm = true) (hN : X.N.Nodup) (hi : X.N[i]? = some x) (hj : X.N[j]? = some y) (hx : X.env.scope.names.lookup x = some .local) (hy : X.env.scope.names.lookup y = some .local) :
    PG X (.Tuple [.Name x p1,.Name y p2] k tpos) (gTup K 2 (gCons (gName i) (gCons (gName j) gNil))) :=
  h ▸ pg_tup hc (pgs_cons (pg_name hN hi (Or.inl hx) (Or.inr hx)) (pgs_cons (pg_name hN hj (Or.inl hy) (Or.inr hy)) pgs_nil))
end
def Its (c : Bool) (K : PySem.W.Frag) (a : Addr) : It:=match c with
  | true => Itl K a
  | false => Itt K a
def iSq (K : PySem.W.Frag) (c : Bool) (tl : TE) : TI:=fun σ H R => tl σ H fun x H1 => ∃ a,x = .ref a ∧ (∃ xs,Sq c K H1 a xs) ∧ R (Its c K a) H1
def rIxSq (K : PySem.W.Frag) (c : Bool) : R2:=fun x y H Q => ∃ p xs i v,x = .ref p ∧ y = .int i ∧ Sq c K H p xs ∧ atI xs i = some v ∧ Q v H
section
variable {X : Cx} {K : PySem.W.Frag} {tg l : Expr} {tl : TE}
theorem pi_sqK (c : Bool) (h : X.K = K) (hl : PE X l tl) : PI X tg l (iSq K c tl):=by
  cases c with
  | true => exact pi_listK h hl
  | false => exact pi_tupK h hl
theorem ix_sqK (c : Bool) (h : X.K = K) : IxR X (rIxSq K c):=by
  cases c with
  | true => exact ix_listK h
  | false => exact ix_tupK h
theorem src_sq {c : Bool} {a : Addr} {xs : List V} {ρ : St} {H1 : Hp} (h : Sq c K H1 a xs) : SrcOk (Its c K a) (gName 0) (none :: ρ) H1 xs.length (fun i => some (xs.getD i .non) :: ρ):=by
  cases c with
  | true => exact src_list h
  | false => exact src_tup h
end
section
variable {K : PySem.W.Frag} {g : TG} {tb : TS} {D : Ends} {σ : St} {H : Hp}
theorem for_enum {c : Bool} {l : Addr} {xs : List V} (Pv : Nat → St → Hp → Prop) (h0 : Pv 0 σ H) (hl : ∀ i σ H,Pv i σ H → Sq c K H l xs)
    (hs : ∀ i x σ H T,xs[i]? = some x → H T = none → Pv i σ H → g (.ref T) σ (upd H T (.tup [.int i,x])) fun σ2 H2 => tb { D with nx:=Pv (i + 1),ct:=Pv (i + 1),bk:=D.nx } σ2 H2) (hd : ∀ σ H,Pv xs.length σ H → D.nx σ H) :
    ∃ W : Nat → Nat → St → Hp → Prop,(∃ m,W 0 m σ H) ∧ ∀ i m σ H,W i m σ H →
      ((Ite K c l).stop i H ∧ D.nx σ H) ∨ ((Ite K c l).go i H ∧ ∃ N : St → Hp → Prop,(∀ σ' H',N σ' H' → ∃ m',m' < m ∧ W (i + 1) m' σ' H') ∧ ∀ x H',(Ite K c l).yld i H x H' → g x σ H' fun σ2 H2 => tb { D with nx:=N,ct:=N,bk:=D.nx } σ2 H2):=by
  refine ⟨fun i m σ H => m = xs.length - i ∧ i ≤ xs.length ∧ Pv i σ H,⟨xs.length,by simp,Nat.zero_le _,h0⟩,?_⟩
  rintro i m σ H ⟨rfl,hi,p⟩
  have q:=hl i σ H p
  by_cases hlt : i < xs.length
  · refine .inr ⟨⟨xs,xs[i],q,by simp [hlt]⟩,Pv (i + 1),fun σ' H' p' => ⟨xs.length - (i + 1),by omega,rfl,hlt,p'⟩,fun x H' y => ?_⟩
    obtain ⟨T,x,rfl,hT,rfl,hx⟩:=y
    exact hs i x σ H T (hx xs q) hT p
  · have e : i = xs.length:=by omega
    subst e
    exact .inl ⟨⟨xs,q,rfl⟩,hd σ H p⟩
end
theorem star_of {e : Expr} {es : List Expr} {env : Env} (h : ∀ v p,e ≠ .Starred v p) : starEach (e :: es) env = (false,eval e env) :: starEach es env:=by
  cases e <;> first | rfl | exact absurd rfl (h _ _)
def intOf : Expr → Option Int
  | .Constant (.int i) _ _ => some i
  | _ => none
def intsOf : List Expr → Option (List Int)
  | [] => some []
  | e :: r => (intOf e).bind fun i => (intsOf r).map (i :: ·)
theorem intOf_eq {e : Expr} {i : Int} (h : intOf e = some i) : ∃ k p,e = .Constant (.int i) k p:=by
  cases e with
  | Constant c k p =>
    cases c with
    | int j => cases h; exact ⟨k,p,rfl⟩
    | _ => cases h
  | _ => cases h
theorem pa_ints {X : Cx} : ∀ {es : List Expr} (is : List Int),intsOf es = some is → PA X es (fun _ H Q => Q (is.map V.int) H):=by
  intro es
  induction es with
  | nil =>
    intro is h
    cases h
    exact pa_nil
  | cons e r ih =>
    intro is h
    have h' : (intOf e).bind (fun i => (intsOf r).map (i :: ·)) = some is:=h
    cases q1 : intOf e with
    | none => rw [q1] at h'; cases h'
    | some i =>
      obtain ⟨k,p,rfl⟩:=intOf_eq q1
      rw [q1] at h'
      cases q : intsOf r with
      | none => rw [Option.bind_some,q] at h'; cases h'
      | some js =>
        rw [Option.bind_some,q] at h'
        cases h'
        exact pa_cons pe_int (ih js q)
theorem preSum_le {g : Nat → Int} (h : ∀ i,0 ≤ g i ∧ g i ≤ 1099511627776) : ∀ n,0 ≤ preSum g n ∧ preSum g n ≤ 1099511627776 * n
  | 0 => by simp [preSum]
  | n + 1 => by
    have ih:=preSum_le h n
    have hn:=h n
    simp only [preSum]
    push_cast
    omega
theorem preSum_take (ns : List Int) : ∀ n,n ≤ ns.length → preSum (fun i => ns.getD i 0) n = (ns.take n).sum
  | 0,_ => by simp [preSum]
  | n + 1,h => by
    have ih:=preSum_take ns n (by omega)
    have hn : n < ns.length:=by omega
    simp only [preSum]
    rw [ih]
    have e1 : ns.getD n 0 = ns[n]:=by rw [List.getD_eq_getElem?_getD,List.getElem?_eq_getElem hn]; rfl
    have e2 : ns.take (n + 1) = ns.take n ++ [ns[n]]:=by rw [List.take_add_one,List.getElem?_eq_getElem hn]; rfl
    rw [e1,e2,List.sum_append]
    simp
def rSum (K : PySem.W.Frag) : List V → Hp → VK → Prop:=fun xs H Q => ∃ (p : Addr) (ns : List Int),xs = [.ref p] ∧ SqL K H p (ns.map V.int) ∧ ns.length ≤ 1000 ∧ (∀ x ∈ ns,0 ≤ x ∧ x ≤ 1099511627776) ∧ Q (.int ns.sum) H
theorem call_sumI {X : Cx} (hc : X.calm = true) : CallR X (.builtin "sum") (rSum X.K):=by
  intro pins s σ H xs us Q I r h
  obtain ⟨p,ns,rfl,hq,hl,hb,q⟩:=h
  obtain ⟨u,rfl,ru⟩:=Vals.one r
  cases ru
  obtain ⟨its,rv,pl,hz⟩:=I.list hq
  have hlen : its.length = ns.length:=by rw [← rv.length,List.length_map]
  have hp : p < s.heap.objs.size:=by obtain ⟨o,_,e,_⟩:=pl; exact Heap.lt_size e
  refine call_sum_walk (wpAny_pyIter_list pl.isList ?_)
  have hh : X.A.in1.handled = none:=I.ok.hd hc
  refine ⟨s.heap.objs.size,_,_,_,_,_,fun i => ns.getD i 0,rfl,Walks.list hh s.heap.objs.size p (Nat.ne_of_lt hp) its.toArray,⟨⟨_,Heap.get?_push_size _ rfl,rfl,rfl⟩,pl.isList.at fun o e => Heap.get?_push_of_some _ e⟩,fun b hb => ?_,fun i v hv => ?_,fun j hj => ?_,fun h' tk t' hk => ?_⟩
  · simp only [List.mem_cons,List.not_mem_nil,or_false] at hb
    rcases hb with rfl | rfl
    · simp [Heap.size_push]
    · exact Nat.lt_trans hp (by simp [Heap.size_push])
  · have hv' : its[i]? = some v:=by simpa using hv
    have hi : i < ns.length:=by rw [← hlen]; exact (List.getElem?_eq_some_iff.mp hv').1
    obtain ⟨w',h1,h2⟩:=rv.get (i:=i) (x:=.int ns[i]) (by simp [hi])
    rw [hv'] at h1
    cases h1
    obtain ⟨t,e⟩:=h2
    refine ⟨t,?_⟩
    show v = Value.int (ns.getD i 0) t
    rw [e,List.getD_eq_getElem?_getD,List.getElem?_eq_getElem hi]
    rfl
  · have gb : ∀ i,0 ≤ ns.getD i 0 ∧ ns.getD i 0 ≤ 1099511627776:=fun i => by
      rw [List.getD_eq_getElem?_getD]
      cases e : ns[i]? with
      | none => simp
      | some x => exact hb x (List.mem_of_getElem? e)
    have hj' : j < ns.length:=by rw [← hlen]; simpa using hj
    have h1:=gb j
    have h2:=preSum_le gb (j + 1)
    constructor
    · show InLong (ns.getD j 0)
      unfold InLong; omega
    · unfold InLong; push_cast at h2; omega
  · have e : preSum (fun i => ns.getD i 0) its.toArray.size = ns.sum:=by
      rw [show its.toArray.size = ns.length by simp [hlen],preSum_take ns _ (Nat.le_refl _),List.take_length]
    rw [e]
    have I1 : Inv X pins σ H { s with heap:=s.heap.push { cls:=.type "list_iterator", data:=.fields #[.ref p,.int 0 0] },toks:=s.toks }:=I.kept fun b o e => Heap.get?_push_of_some _ e
    have I2 : Inv X pins σ H { s with heap:=h',toks:=tk }:=by
      refine I.kept fun b o e => hk b o ?_ (Heap.get?_push_of_some _ e)
      simp only [List.mem_cons,List.not_mem_nil,or_false]
      exact Nat.ne_of_lt (Heap.lt_size e)
    exact ⟨.int ns.sum,H,I2,⟨t',rfl⟩,q⟩
theorem call_sumK {X : Cx} {K : PySem.W.Frag} (h : X.K = K) (hc : X.calm = true) : CallR X (.builtin "sum") (rSum K):=h ▸ call_sumI hc
theorem range_allB (bs : List Bool) : ((List.range bs.length).all fun i => (bs[i]?).getD true) = bs.all id:=by
  rw [Bool.eq_iff_iff,List.all_eq_true,List.all_eq_true]
  constructor
  · intro h b hb
    obtain ⟨i,hi,e⟩:=List.getElem_of_mem hb
    have:=h i (by simpa using hi)
    rw [List.getElem?_eq_getElem hi,e] at this
    exact this
  · intro h i hi
    have hi' : i < bs.length:=by simpa using hi
    rw [List.getElem?_eq_getElem hi']
    exact h _ (List.getElem_mem hi')
theorem range_anyB (bs : List Bool) : ((List.range bs.length).any fun i => (bs[i]?).getD false) = bs.any id:=by
  rw [Bool.eq_iff_iff,List.any_eq_true,List.any_eq_true]
  constructor
  · rintro ⟨i,hi,e⟩
    have hi' : i < bs.length:=by simpa using hi
    rw [List.getElem?_eq_getElem hi'] at e
    exact ⟨_,List.getElem_mem hi',e⟩
  · rintro ⟨b,hb,e⟩
    obtain ⟨i,hi,e'⟩:=List.getElem_of_mem hb
    exact ⟨i,by simpa using hi,by rw [List.getElem?_eq_getElem hi,e']; exact e⟩
def rAll (K : PySem.W.Frag) : List V → Hp → VK → Prop:=fun xs H Q => ∃ (p : Addr) (bs : List Bool),xs = [.ref p] ∧ SqL K H p (bs.map V.bl) ∧ Q (.bl (bs.all id)) H
def rAny (K : PySem.W.Frag) : List V → Hp → VK → Prop:=fun xs H Q => ∃ (p : Addr) (bs : List Bool),xs = [.ref p] ∧ SqL K H p (bs.map V.bl) ∧ Q (.bl (bs.any id)) H
theorem bools_get {bs : List Bool} {its : List Value} (rv : Vals (bs.map V.bl) its) {i : Nat} {v : Value} (h : its[i]? = some v) : ∃ b,bs[i]? = some b ∧ v = .bool b:=by
  have hi : i < its.length:=(List.getElem?_eq_some_iff.mp h).1
  have hlen : its.length = bs.length:=by rw [← rv.length,List.length_map]
  obtain ⟨w',h1,h2⟩:=rv.get (i:=i) (x:=.bl (bs[i]'(by omega))) (by simp [show i < bs.length by omega])
  rw [h] at h1
  cases h1
  exact ⟨_,List.getElem?_eq_getElem (by omega),h2⟩
theorem call_allI {X : Cx} (hc : X.calm = true) : CallR X (.builtin "all") (rAll X.K):=by
  intro pins s σ H xs us Q I r h
  obtain ⟨p,bs,rfl,hq,q⟩:=h
  obtain ⟨u,rfl,ru⟩:=Vals.one r
  cases ru
  obtain ⟨its,rv,pl,hz⟩:=I.list hq
  have hlen : its.length = bs.length:=by rw [← rv.length,List.length_map]
  have hp : p < s.heap.objs.size:=by obtain ⟨o,_,e,_⟩:=pl; exact Heap.lt_size e
  refine call_all_walk (wpAny_pyIter_list pl.isList ?_)
  have hh : X.A.in1.handled = none:=I.ok.hd hc
  refine ⟨s.heap.objs.size,_,_,_,_,_,fun i => (bs[i]?).getD true,rfl,Walks.list hh s.heap.objs.size p (Nat.ne_of_lt hp) its.toArray,⟨⟨_,Heap.get?_push_size _ rfl,rfl,rfl⟩,pl.isList.at fun o e => Heap.get?_push_of_some _ e⟩,fun i v s' Q' E' hP hQ => ?_,fun h' tk hk => ?_⟩
  · obtain ⟨b,e,rfl⟩:=bools_get rv (by simpa using hP)
    simp only [e,Option.getD_some] at hQ
    exact wpAny_truthy_bool hQ
  · have e : ((List.range its.toArray.size).all fun i => (bs[i]?).getD true) = bs.all id:=by
      rw [List.size_toArray,hlen]; exact range_allB bs
    rw [e]
    have I2 : Inv X pins σ H { s with heap:=h',toks:=tk }:=by
      refine I.kept fun b o e => hk b o ?_ (Heap.get?_push_of_some _ e)
      simp only [List.mem_cons,List.not_mem_nil,or_false]
      exact Nat.ne_of_lt (Heap.lt_size e)
    exact ⟨.bl (bs.all id),H,I2,rfl,q⟩
theorem call_anyI {X : Cx} (hc : X.calm = true) : CallR X (.builtin "any") (rAny X.K):=by
  intro pins s σ H xs us Q I r h
  obtain ⟨p,bs,rfl,hq,q⟩:=h
  obtain ⟨u,rfl,ru⟩:=Vals.one r
  cases ru
  obtain ⟨its,rv,pl,hz⟩:=I.list hq
  have hlen : its.length = bs.length:=by rw [← rv.length,List.length_map]
  have hp : p < s.heap.objs.size:=by obtain ⟨o,_,e,_⟩:=pl; exact Heap.lt_size e
  refine call_any_walk (wpAny_pyIter_list pl.isList ?_)
  have hh : X.A.in1.handled = none:=I.ok.hd hc
  refine ⟨s.heap.objs.size,_,_,_,_,_,fun i => (bs[i]?).getD false,rfl,Walks.list hh s.heap.objs.size p (Nat.ne_of_lt hp) its.toArray,⟨⟨_,Heap.get?_push_size _ rfl,rfl,rfl⟩,pl.isList.at fun o e => Heap.get?_push_of_some _ e⟩,fun i v s' Q' E' hP hQ => ?_,fun h' tk hk => ?_⟩
  · obtain ⟨b,e,rfl⟩:=bools_get rv (by simpa using hP)
    simp only [e,Option.getD_some] at hQ
    exact wpAny_truthy_bool hQ
  · have e : ((List.range its.toArray.size).any fun i => (bs[i]?).getD false) = bs.any id:=by
      rw [List.size_toArray,hlen]; exact range_anyB bs
    rw [e]
    have I2 : Inv X pins σ H { s with heap:=h',toks:=tk }:=by
      refine I.kept fun b o e => hk b o ?_ (Heap.get?_push_of_some _ e)
      simp only [List.mem_cons,List.not_mem_nil,or_false]
      exact Nat.ne_of_lt (Heap.lt_size e)
    exact ⟨.bl (bs.any id),H,I2,rfl,q⟩
theorem call_allK {X : Cx} {K : PySem.W.Frag} (h : X.K = K) (hc : X.calm = true) : CallR X (.builtin "all") (rAll K):=h ▸ call_allI hc
theorem call_anyK {X : Cx} {K : PySem.W.Frag} (h : X.K = K) (hc : X.calm = true) : CallR X (.builtin "any") (rAny K):=h ▸ call_anyI hc
inductive EqV (K : PySem.W.Frag) (H : Hp) : Nat → V → V → Bool → Prop
  | int (n : Nat) (i j : Int) : EqV K H n (.int i) (.int j) (i == j)
  | bl (n : Nat) (i j : Bool) : EqV K H n (.bl i) (.bl j) (i == j)
  | same (n : Nat) (a : Addr) : EqV K H n (.ref a) (.ref a) true
  | tup (n : Nat) (a b : Addr) (xs ys : List V) (e : Nat → Bool) : SqT K H a xs → SqT K H b ys → xs.length = ys.length → (∀ (j : Nat) x y,xs[j]? = some x → ys[j]? = some y → EqV K H n x y (e j)) → EqV K H (n + 1) (.ref a) (.ref b) ((List.range xs.length).all e)
  | lst (n : Nat) (a b : Addr) (xs ys : List V) (e : Nat → Bool) : SqL K H a xs → SqL K H b ys → xs.length = ys.length → (∀ (j : Nat) x y,xs[j]? = some x → ys[j]? = some y → EqV K H n x y (e j)) → EqV K H (n + 1) (.ref a) (.ref b) ((List.range xs.length).all e)
  | lens (n : Nat) (a b : Addr) (xs ys : List V) : SqL K H a xs → SqL K H b ys → xs.length ≠ ys.length → EqV K H (n + 1) (.ref a) (.ref b) false
section
variable {X : Cx} {pins : List (Addr × Obj)} {σ : St} {H : Hp} {s : Shared}
theorem Inv.listInj (I : Inv X pins σ H s) {a : Addr} {xs ys : List V} (h : SqL X.K H a xs) (h' : SqL X.K H a ys) : ∃ its,Vals xs its ∧ Vals ys its:=by
  obtain ⟨its,r,⟨o,n,e,d1,d2,d3⟩,_⟩:=I.list h
  obtain ⟨its',r',⟨o',n',e',f1,f2,f3⟩,_⟩:=I.list h'
  rw [e] at e'
  cases e'
  rw [d3] at f3
  injection f3 with q1 q2
  have : its = its':=by simpa using q1
  subst this
  exact ⟨its,r,r'⟩
theorem EqV.sameVal (I : Inv X pins σ H s) {n : Nat} {x y : V} {b : Bool} (h : EqV X.K H n x y b) : ∀ {v : Value},RelV x v → RelV y v → b = true:=by
  induction h with
  | int n i j =>
    rintro v ⟨t,rfl⟩ ⟨u,e⟩
    cases e
    simp
  | bl n i j =>
    intro v h1 h2
    cases h1
    cases h2
    simp
  | same n a => intros; rfl
  | tup n a b xs ys e h1 h2 hl hi ih =>
    intro v r1 r2
    cases r1
    cases r2
    have:=I.tuple_inj h1 h2
    subst this
    obtain ⟨its,r,_,_⟩:=I.tuple h1
    rw [List.all_eq_true]
    intro j hj
    have hj' : j < xs.length:=by simpa using hj
    obtain ⟨w',_,q⟩:=r.get (List.getElem?_eq_getElem hj')
    exact ih j _ _ (List.getElem?_eq_getElem hj') (List.getElem?_eq_getElem hj') q q
  | lst n a b xs ys e h1 h2 hl hi ih =>
    intro v r1 r2
    cases r1
    cases r2
    obtain ⟨its,r,r'⟩:=I.listInj h1 h2
    rw [List.all_eq_true]
    intro j hj
    have hj' : j < xs.length:=by simpa using hj
    obtain ⟨w',z1,q⟩:=r.get (List.getElem?_eq_getElem hj')
    obtain ⟨w'',z2,q'⟩:=r'.get (List.getElem?_eq_getElem (show j < ys.length by omega))
    rw [z1] at z2
    cases z2
    exact ih j _ _ (List.getElem?_eq_getElem hj') (List.getElem?_eq_getElem _) q q'
  | lens n a b xs ys h1 h2 hl =>
    intro v r1 r2
    cases r1
    cases r2
    obtain ⟨its,r,r'⟩:=I.listInj h1 h2
    exact absurd (r.length.trans r'.length.symm) hl
theorem EqV.at (I : Inv X pins σ H s) {n : Nat} {x y : V} {b : Bool} (h : EqV X.K H n x y b) : ∀ {A : Around} {v u : Value},A.units + n < cLine → RelV x v → RelV y u → SeqAt.EqAt A s v u b:=by
  induction h with
  | int n i j =>
    rintro A v u hu ⟨t,rfl⟩ ⟨t',rfl⟩
    exact SeqAt.EqAt.int_int i t j t'
  | bl n i j =>
    intro A v u hu h1 h2
    cases h1
    cases h2
    exact SeqAt.EqAt.bool_bool i j
  | same n a =>
    intro A v u hu h1 h2
    cases h1
    cases h2
    exact SeqAt.EqAt.same _
  | tup n a b xs ys e h1 h2 hl hi ih =>
    intro A v u hu r1 r2
    by_cases hab : v = u
    · have:=EqV.sameVal I (.tup n a b xs ys e h1 h2 hl hi) r1 (hab ▸ r2)
      rw [this,hab]
      exact SeqAt.EqAt.same _
    · cases r1
      cases r2
      obtain ⟨its,r,t1,_⟩:=I.tuple h1
      obtain ⟨its2,r',t2,_⟩:=I.tuple h2
      refine SeqAt.EqAt.of_refs (fun z => hab (by rw [z])) ?_
      have hh:=SeqAt.RcAt.tuples (A:=A) (s:=s) (e:=e) t1 t2 (by omega) fun j g1 g2 => ?_
      · have el : its.toArray.size = its2.toArray.size:=by simp; rw [← r.length,← r'.length]; exact hl
        have e2 : ((List.range (min its.toArray.size its2.toArray.size)).all e && its.toArray.size == its2.toArray.size) = (List.range xs.length).all e:=by
          rw [← el,Nat.min_self,beq_self_eq_true,Bool.and_true]
          congr 2
          simp [← r.length]
        rw [e2] at hh
        exact hh
      · have j1 : j < xs.length:=by rw [r.length]; simpa using g1
        have j2 : j < ys.length:=by omega
        obtain ⟨w',z1,q⟩:=r.get (List.getElem?_eq_getElem j1)
        obtain ⟨w'',z2,q'⟩:=r'.get (List.getElem?_eq_getElem j2)
        have e1 : its.toArray[j] = w':=by have:=(List.getElem?_eq_some_iff.mp z1).2; simpa using this
        have e2 : its2.toArray[j] = w'':=by have:=(List.getElem?_eq_some_iff.mp z2).2; simpa using this
        rw [e1,e2]
        exact ih j _ _ (List.getElem?_eq_getElem j1) (List.getElem?_eq_getElem j2) (by show A.units + 1 + n < cLine; omega) q q'
  | lst n a b xs ys e h1 h2 hl hi ih =>
    intro A v u hu r1 r2
    by_cases hab : v = u
    · have:=EqV.sameVal I (.lst n a b xs ys e h1 h2 hl hi) r1 (hab ▸ r2)
      rw [this,hab]
      exact SeqAt.EqAt.same _
    · cases r1
      cases r2
      obtain ⟨its,r,t1,_⟩:=I.list h1
      obtain ⟨its2,r',t2,_⟩:=I.list h2
      refine SeqAt.EqAt.of_refs (fun z => hab (by rw [z])) ?_
      have el : its.toArray.size = its2.toArray.size:=by simp; rw [← r.length,← r'.length]; exact hl
      have hh:=SeqAt.RcAt.lists (A:=A) (s:=s) (e:=e) t1.isList t2.isList el (by omega) fun j g1 g2 => ?_
      · have e2 : (List.range its.toArray.size).all e = (List.range xs.length).all e:=by
          congr 2
          simp [← r.length]
        rw [e2] at hh
        exact hh
      · have j1 : j < xs.length:=by rw [r.length]; simpa using g1
        have j2 : j < ys.length:=by omega
        obtain ⟨w',z1,q⟩:=r.get (List.getElem?_eq_getElem j1)
        obtain ⟨w'',z2,q'⟩:=r'.get (List.getElem?_eq_getElem j2)
        have e1 : its.toArray[j] = w':=by have:=(List.getElem?_eq_some_iff.mp z1).2; simpa using this
        have e2 : its2.toArray[j] = w'':=by have:=(List.getElem?_eq_some_iff.mp z2).2; simpa using this
        rw [e1,e2]
        exact ih j _ _ (List.getElem?_eq_getElem j1) (List.getElem?_eq_getElem j2) (by show A.units + 1 + n < cLine; omega) q q'
  | lens n a b xs ys h1 h2 hl =>
    intro A v u hu r1 r2
    by_cases hab : v = u
    · have:=EqV.sameVal I (.lens n a b xs ys h1 h2 hl) r1 (hab ▸ r2)
      cases this
    · cases r1
      cases r2
      obtain ⟨its,r,t1,_⟩:=I.list h1
      obtain ⟨its2,r',t2,_⟩:=I.list h2
      refine SeqAt.EqAt.of_refs (fun z => hab (by rw [z])) (SeqAt.RcAt.lists_lengths t1.isList t2.isList ?_ (by omega))
      have : its.length ≠ its2.length:=by rw [← r.length,← r'.length]; exact hl
      simpa using this
end
def Its2 (K : PySem.W.Frag) (H : Hp) (n : Nat) (xs ys : List V) (e : Nat → Bool) : Prop:=xs.length = ys.length ∧ ∀ (j : Nat) x y,xs[j]? = some x → ys[j]? = some y → EqV K H n x y (e j)
def rEqS (K : PySem.W.Frag) (c ne : Bool) (n : Nat) : R2:=fun x y H Q => ∃ a b xs ys e,x = .ref a ∧ y = .ref b ∧ Sq c K H a xs ∧ Sq c K H b ys ∧ Its2 K H n xs ys e ∧ Q (.bl (ne != (List.range xs.length).all e)) H
theorem op_eqS {X : Cx} {K : PySem.W.Frag} (c : Bool) (n : Nat) (h : X.K = K) (hu : X.A.units + 1 + n < cLine) : OpR X (compareOp .Eq) (rEqS K c false n):=by
  subst h
  intro pins s σ H x y v u Q I rx ry h
  obtain ⟨a,b,xs,ys,e,rfl,rfl,ha,hb,⟨hl,hi⟩,q⟩:=h
  cases rx
  cases ry
  cases c with
  | true =>
    obtain ⟨its,r,t1,_⟩:=I.list ha
    obtain ⟨its2,r',t2,_⟩:=I.list hb
    have el : its.toArray.size = its2.toArray.size:=by simp; rw [← r.length,← r'.length]; exact hl
    have hh:=SeqAt.RcAt.lists (A:=X.A) (s:=s) (e:=e) t1.isList t2.isList el (by omega) fun j g1 g2 => ?_
    · have e2 : (List.range its.toArray.size).all e = (List.range xs.length).all e:=by
        congr 2
        simp [← r.length]
      rw [e2] at hh
      exact hh _ _ _ _ ⟨.bl ((List.range xs.length).all e),H,I,rfl,by simpa using q⟩
    · have j1 : j < xs.length:=by rw [r.length]; simpa using g1
      have j2 : j < ys.length:=by omega
      obtain ⟨w',z1,q⟩:=r.get (List.getElem?_eq_getElem j1)
      obtain ⟨w'',z2,q'⟩:=r'.get (List.getElem?_eq_getElem j2)
      have e1 : its.toArray[j] = w':=by have:=(List.getElem?_eq_some_iff.mp z1).2; simpa using this
      have e2 : its2.toArray[j] = w'':=by have:=(List.getElem?_eq_some_iff.mp z2).2; simpa using this
      rw [e1,e2]
      exact EqV.at I (hi j _ _ (List.getElem?_eq_getElem j1) (List.getElem?_eq_getElem j2)) (by show X.A.units + 1 + n < cLine; omega) q q'
  | false =>
    obtain ⟨its,r,t1,_⟩:=I.tuple ha
    obtain ⟨its2,r',t2,_⟩:=I.tuple hb
    have el : its.toArray.size = its2.toArray.size:=by simp; rw [← r.length,← r'.length]; exact hl
    have hh:=SeqAt.RcAt.tuples (A:=X.A) (s:=s) (e:=e) t1 t2 (by omega) fun j g1 g2 => ?_
    · have e2 : ((List.range (min its.toArray.size its2.toArray.size)).all e && its.toArray.size == its2.toArray.size) = (List.range xs.length).all e:=by
        rw [← el,Nat.min_self,beq_self_eq_true,Bool.and_true]
        congr 2
        simp [← r.length]
      rw [e2] at hh
      exact hh _ _ _ _ ⟨.bl ((List.range xs.length).all e),H,I,rfl,by simpa using q⟩
    · have j1 : j < xs.length:=by rw [r.length]; simpa using g1
      have j2 : j < ys.length:=by omega
      obtain ⟨w',z1,q⟩:=r.get (List.getElem?_eq_getElem j1)
      obtain ⟨w'',z2,q'⟩:=r'.get (List.getElem?_eq_getElem j2)
      have e1 : its.toArray[j] = w':=by have:=(List.getElem?_eq_some_iff.mp z1).2; simpa using this
      have e2 : its2.toArray[j] = w'':=by have:=(List.getElem?_eq_some_iff.mp z2).2; simpa using this
      rw [e1,e2]
      exact EqV.at I (hi j _ _ (List.getElem?_eq_getElem j1) (List.getElem?_eq_getElem j2)) (by show X.A.units + 1 + n < cLine; omega) q q'
theorem op_neS {X : Cx} {K : PySem.W.Frag} (c : Bool) (n : Nat) (h : X.K = K) (hu : X.A.units + 1 + n < cLine) : OpR X (compareOp .NotEq) (rEqS K c true n):=by
  subst h
  intro pins s σ H x y v u Q I rx ry h
  obtain ⟨a,b,xs,ys,e,rfl,rfl,ha,hb,⟨hl,hi⟩,q⟩:=h
  cases rx
  cases ry
  cases c with
  | true =>
    obtain ⟨its,r,t1,_⟩:=I.list ha
    obtain ⟨its2,r',t2,_⟩:=I.list hb
    have el : its.toArray.size = its2.toArray.size:=by simp; rw [← r.length,← r'.length]; exact hl
    have hh:=SeqAt.RcNeAt.lists (A:=X.A) (s:=s) (e:=e) t1.isList t2.isList el (by omega) fun j g1 g2 => ?_
    · have e2 : (List.range its.toArray.size).all e = (List.range xs.length).all e:=by
        congr 2
        simp [← r.length]
      rw [e2] at hh
      exact hh _ _ _ _ ⟨.bl (!(List.range xs.length).all e),H,I,rfl,by simpa using q⟩
    · have j1 : j < xs.length:=by rw [r.length]; simpa using g1
      have j2 : j < ys.length:=by omega
      obtain ⟨w',z1,q⟩:=r.get (List.getElem?_eq_getElem j1)
      obtain ⟨w'',z2,q'⟩:=r'.get (List.getElem?_eq_getElem j2)
      have e1 : its.toArray[j] = w':=by have:=(List.getElem?_eq_some_iff.mp z1).2; simpa using this
      have e2 : its2.toArray[j] = w'':=by have:=(List.getElem?_eq_some_iff.mp z2).2; simpa using this
      rw [e1,e2]
      exact EqV.at I (hi j _ _ (List.getElem?_eq_getElem j1) (List.getElem?_eq_getElem j2)) (by show X.A.units + 1 + n < cLine; omega) q q'
  | false =>
    obtain ⟨its,r,t1,_⟩:=I.tuple ha
    obtain ⟨its2,r',t2,_⟩:=I.tuple hb
    have el : its.toArray.size = its2.toArray.size:=by simp; rw [← r.length,← r'.length]; exact hl
    have hh:=SeqAt.RcNeAt.tuples (A:=X.A) (s:=s) (e:=e) t1 t2 (by omega) fun j g1 g2 => ?_
    · have e2 : ((List.range (min its.toArray.size its2.toArray.size)).all e && its.toArray.size == its2.toArray.size) = (List.range xs.length).all e:=by
        rw [← el,Nat.min_self,beq_self_eq_true,Bool.and_true]
        congr 2
        simp [← r.length]
      rw [e2] at hh
      exact hh _ _ _ _ ⟨.bl (!(List.range xs.length).all e),H,I,rfl,by simpa using q⟩
    · have j1 : j < xs.length:=by rw [r.length]; simpa using g1
      have j2 : j < ys.length:=by omega
      obtain ⟨w',z1,q⟩:=r.get (List.getElem?_eq_getElem j1)
      obtain ⟨w'',z2,q'⟩:=r'.get (List.getElem?_eq_getElem j2)
      have e1 : its.toArray[j] = w':=by have:=(List.getElem?_eq_some_iff.mp z1).2; simpa using this
      have e2 : its2.toArray[j] = w'':=by have:=(List.getElem?_eq_some_iff.mp z2).2; simpa using this
      rw [e1,e2]
      exact EqV.at I (hi j _ _ (List.getElem?_eq_getElem j1) (List.getElem?_eq_getElem j2)) (by show X.A.units + 1 + n < cLine; omega) q q'
section
variable {prog : Program} {w : World} {A : Around} {E : Value → Shared → Prop}
variable {s : Shared}
end
end L2
namespace Ev
def Sub (x y : Nat) : Prop:=x &&& y = x
instance (x y : Nat) : Decidable (Sub x y):=inferInstanceAs (Decidable (_ = _))
theorem Sub.rfl' (x : Nat) : Sub x x:=Nat.and_self x
theorem Sub.trans {x y z : Nat} (a : Sub x y) (b : Sub y z) : Sub x z:=by
  unfold Sub at *
  rw [← a,Nat.and_assoc,b]
theorem Sub.antisymm {x y : Nat} (a : Sub x y) (b : Sub y x) : x = y:=by
  unfold Sub at *
  rw [← a,Nat.and_comm,b]
theorem Sub.le {x y : Nat} (a : Sub x y) : x ≤ y:=by
  unfold Sub at a
  rw [← a]; exact Nat.and_le_right
theorem Sub.and_left (x y : Nat) : Sub (x &&& y) x:=by
  unfold Sub
  rw [Nat.and_assoc,Nat.and_comm y x,← Nat.and_assoc,Nat.and_self]
theorem Sub.and_right (x y : Nat) : Sub (x &&& y) y:=by
  unfold Sub
  rw [Nat.and_assoc,Nat.and_self]
theorem Sub.and_iff {x a b : Nat} : Sub x (a &&& b) ↔ Sub x a ∧ Sub x b:=by
  constructor
  · intro h
    exact ⟨h.trans (Sub.and_left a b),h.trans (Sub.and_right a b)⟩
  · rintro ⟨h1,h2⟩
    unfold Sub at *
    rw [← Nat.and_assoc,h1,h2]
structure Lat (M : List Nat) : Prop where
  nd : M.Nodup
  len : M.length ≤ 24
  meet : ∀ x ∈ M,∀ y ∈ M,x &&& y ∈ M
  top : ∃ t ∈ M,∀ x ∈ M,Sub x t
theorem Lat.pos {M : List Nat} (L : Lat M) : 0 < M.length:=by
  obtain ⟨t,ht,_⟩:=L.top
  exact List.length_pos_of_mem ht
theorem Lat.perm {M M' : List Nat} (L : Lat M) (p : M.Perm M') : Lat M' where
  nd:=p.nodup_iff.mp L.nd
  len:=by rw [← p.length_eq]; exact L.len
  meet:=fun x hx y hy => p.mem_iff.mp (L.meet x (p.mem_iff.mpr hx) y (p.mem_iff.mpr hy))
  top:=by
    obtain ⟨t,ht,h⟩:=L.top
    exact ⟨t,p.mem_iff.mp ht,fun x hx => h x (p.mem_iff.mpr hx)⟩
def leM (M : List Nat) (i j : Nat) : Bool:=decide (Sub (M.getD i 0) (M.getD j 0))
theorem leM_iff {M : List Nat} {i j : Nat} : leM M i j = true ↔ Sub (M.getD i 0) (M.getD j 0):=by simp [leM]
theorem leM_refl (M : List Nat) (i : Nat) : leM M i i = true:=leM_iff.mpr (Sub.rfl' _)
theorem leM_trans {M : List Nat} {i j k : Nat} (a : leM M i j = true) (b : leM M j k = true) : leM M i k = true:=leM_iff.mpr ((leM_iff.mp a).trans (leM_iff.mp b))
theorem getD_mem {M : List Nat} {i : Nat} (h : i < M.length) : M.getD i 0 ∈ M:=by
  rw [List.getD_eq_getElem?_getD,List.getElem?_eq_getElem h]; exact List.getElem_mem h
theorem getD_of_mem {M : List Nat} {x : Nat} (h : x ∈ M) : ∃ i,i < M.length ∧ M.getD i 0 = x:=by
  obtain ⟨i,hi,e⟩:=List.getElem_of_mem h
  exact ⟨i,hi,by rw [List.getD_eq_getElem?_getD,List.getElem?_eq_getElem hi]; exact e⟩
theorem getD_inj {M : List Nat} (nd : M.Nodup) {i j : Nat} (hi : i < M.length) (hj : j < M.length) (e : M.getD i 0 = M.getD j 0) : i = j:=by
  rw [List.getD_eq_getElem?_getD,List.getD_eq_getElem?_getD,List.getElem?_eq_getElem hi,List.getElem?_eq_getElem hj] at e
  exact (List.getElem_inj nd).mp e
theorem leM_antisymm {M : List Nat} (nd : M.Nodup) {i j : Nat} (hi : i < M.length) (hj : j < M.length) (a : leM M i j = true) (b : leM M j i = true) : i = j :=
  getD_inj nd hi hj ((leM_iff.mp a).antisymm (leM_iff.mp b))
theorem Lat.meetEx {M : List Nat} (L : Lat M) {a b : Nat} (ha : a < M.length) (hb : b < M.length) : ∃ c,c < M.length ∧ M.getD c 0 = M.getD a 0 &&& M.getD b 0 ∧ ∀ x,leM M x c = (leM M x a && leM M x b):=by
  obtain ⟨c,hc,e⟩:=getD_of_mem (L.meet _ (getD_mem ha) _ (getD_mem hb))
  refine ⟨c,hc,e,fun x => ?_⟩
  rw [Bool.eq_iff_iff,Bool.and_eq_true,leM_iff,leM_iff,leM_iff,e]
  exact Sub.and_iff
theorem foldAnd {M : List Nat} (hm : ∀ x ∈ M,∀ y ∈ M,x &&& y ∈ M) : ∀ (S : List Nat) (t : Nat),(∀ x ∈ S,x ∈ M) → t ∈ M →
    S.foldl (· &&& ·) t ∈ M ∧ Sub (S.foldl (· &&& ·) t) t ∧ (∀ x ∈ S,Sub (S.foldl (· &&& ·) t) x) ∧ ∀ y,Sub y t → (∀ x ∈ S,Sub y x) → Sub y (S.foldl (· &&& ·) t)
  | [],t,_,ht => ⟨ht,Sub.rfl' t,fun _ h => (nomatch h),fun _ h _ => h⟩
  | s :: S,t,hS,ht => by
    have hs : s ∈ M:=hS s List.mem_cons_self
    obtain ⟨h1,h2,h3,h4⟩:=foldAnd hm S (t &&& s) (fun x hx => hS x (List.mem_cons_of_mem _ hx)) (hm t ht s hs)
    rw [List.foldl_cons]
    refine ⟨h1,h2.trans (Sub.and_left t s),fun x hx => ?_,fun y hy hx => h4 y (Sub.and_iff.mpr ⟨hy,hx s List.mem_cons_self⟩) fun x h => hx x (List.mem_cons_of_mem _ h)⟩
    rcases List.mem_cons.mp hx with rfl | hx
    · exact h2.trans (Sub.and_right t x)
    · exact h3 x hx
theorem Lat.joinEx {M : List Nat} (L : Lat M) {a b : Nat} (ha : a < M.length) (hb : b < M.length) : ∃ c,c < M.length ∧ ∀ x,x < M.length → leM M c x = (leM M a x && leM M b x):=by
  obtain ⟨t,ht,htop⟩:=L.top
  let S:=M.filter fun x => decide (Sub (M.getD a 0) x) && decide (Sub (M.getD b 0) x)
  obtain ⟨h1,h2,h3,h4⟩:=foldAnd L.meet S t (fun x hx => (List.mem_filter.mp hx).1) ht
  obtain ⟨c,hc,e⟩:=getD_of_mem h1
  refine ⟨c,hc,fun x hx => ?_⟩
  have inS : ∀ y ∈ S,Sub (M.getD a 0) y ∧ Sub (M.getD b 0) y:=fun y hy => by
    have:=(List.mem_filter.mp hy).2
    simpa [Bool.and_eq_true] using this
  have ka : Sub (M.getD a 0) (S.foldl (· &&& ·) t):=h4 _ (htop _ (getD_mem ha)) fun y hy => (inS y hy).1
  have kb : Sub (M.getD b 0) (S.foldl (· &&& ·) t):=h4 _ (htop _ (getD_mem hb)) fun y hy => (inS y hy).2
  rw [Bool.eq_iff_iff,Bool.and_eq_true,leM_iff,leM_iff,leM_iff,e]
  constructor
  · intro h
    exact ⟨ka.trans h,kb.trans h⟩
  · rintro ⟨h,h'⟩
    exact h3 _ (List.mem_filter.mpr ⟨getD_mem hx,by rw [Bool.and_eq_true]; exact ⟨decide_eq_true h,decide_eq_true h'⟩⟩)
structure Clos (n : Nat) (ps : List (Nat × Nat)) (R : Nat → Nat → Bool) : Prop where
  refl : ∀ a,a < n → R a a = true
  has : ∀ p ∈ ps,R p.1 p.2 = true
  trans : ∀ a b c,a < n → b < n → c < n → R a b = true → R b c = true → R a c = true
  least : ∀ T : Nat → Nat → Bool,(∀ a,a < n → T a a = true) → (∀ p ∈ ps,T p.1 p.2 = true) → (∀ a b c,a < n → b < n → c < n → T a b = true → T b c = true → T a c = true) →
    ∀ a b,a < n → b < n → R a b = true → T a b = true
structure WInv (n : Nat) (ps : List (Nat × Nat)) (m : Nat) (R : Nat → Nat → Bool) : Prop where
  refl : ∀ a,a < n → R a a = true
  has : ∀ p ∈ ps,R p.1 p.2 = true
  tr : ∀ k,k < m → ∀ a b,a < n → b < n → R a k = true → R k b = true → R a b = true
  least : ∀ T : Nat → Nat → Bool,(∀ a,a < n → T a a = true) → (∀ p ∈ ps,T p.1 p.2 = true) → (∀ a b c,a < n → b < n → c < n → T a b = true → T b c = true → T a c = true) →
    ∀ a b,a < n → b < n → R a b = true → T a b = true
def wstep (R : Nat → Nat → Bool) (m : Nat) : Nat → Nat → Bool:=fun a b => R a b || (R a m && R m b)
theorem wstep_iff {R : Nat → Nat → Bool} {m a b : Nat} : wstep R m a b = true ↔ R a b = true ∨ (R a m = true ∧ R m b = true):=by simp [wstep]
theorem WInv.step {n m : Nat} {ps : List (Nat × Nat)} {R : Nat → Nat → Bool} (W : WInv n ps m R) (hm : m < n) : WInv n ps (m + 1) (wstep R m) where
  refl:=fun a ha => wstep_iff.mpr (.inl (W.refl a ha))
  has:=fun p hp => wstep_iff.mpr (.inl (W.has p hp))
  tr:=fun k hk a b ha hb h1 h2 => by
    rw [wstep_iff] at *
    by_cases e : k = m
    · subst e
      have h1' : R a k = true:=h1.elim id (·.1)
      have h2' : R k b = true:=h2.elim id (·.2)
      exact .inr ⟨h1',h2'⟩
    · have hk' : k < m:=by omega
      rcases h1 with h1 | ⟨h1,h1'⟩
      · rcases h2 with h2 | ⟨h2,h2'⟩
        · exact .inl (W.tr k hk' a b ha hb h1 h2)
        · exact .inr ⟨W.tr k hk' a m ha hm h1 h2,h2'⟩
      · rcases h2 with h2 | ⟨h2,h2'⟩
        · exact .inr ⟨h1,W.tr k hk' m b hm hb h1' h2⟩
        · exact .inr ⟨h1,h2'⟩
  least:=fun T t1 t2 t3 a b ha hb h => by
    rcases wstep_iff.mp h with h | ⟨h,h'⟩
    · exact W.least T t1 t2 t3 a b ha hb h
    · exact t3 a m b ha hm hb (W.least T t1 t2 t3 a m ha hm h) (W.least T t1 t2 t3 m b hm hb h')
theorem WInv.done {n : Nat} {ps : List (Nat × Nat)} {R : Nat → Nat → Bool} (W : WInv n ps n R) : Clos n ps R :=
  ⟨W.refl,W.has,fun a b c ha hb hc h1 h2 => W.tr b hb a c ha hc h1 h2,W.least⟩
def base (ps : List (Nat × Nat)) : Nat → Nat → Bool:=fun a b => a == b || ps.any fun p => p.1 == a && p.2 == b
theorem base_iff {ps : List (Nat × Nat)} {a b : Nat} : base ps a b = true ↔ a = b ∨ (a,b) ∈ ps:=by
  simp only [base,Bool.or_eq_true,beq_iff_eq,List.any_eq_true,Bool.and_eq_true]
  constructor
  · rintro (h | ⟨⟨x,y⟩,hp,rfl,rfl⟩)
    · exact .inl h
    · exact .inr hp
  · rintro (h | h)
    · exact .inl h
    · exact .inr ⟨(a,b),h,rfl,rfl⟩
theorem WInv.start {n : Nat} {ps : List (Nat × Nat)} (hp : ∀ p ∈ ps,p.1 < n ∧ p.2 < n) : WInv n ps 0 (base ps) where
  refl:=fun a _ => base_iff.mpr (.inl rfl)
  has:=fun p hp => base_iff.mpr (.inr hp)
  tr:=fun k hk => by omega
  least:=fun T t1 t2 _ a b ha _ h => by
    rcases base_iff.mp h with rfl | h
    · exact t1 a ha
    · exact t2 _ h
def stepM (M : List Nat) (a b : Nat) : Prop:=a ≠ b ∧ leM M a b = true ∧ ∀ c,c < M.length → leM M a c = true → leM M c b = true → c = a ∨ c = b
theorem Clos.eq_leM {M : List Nat} {ps : List (Nat × Nat)} {R : Nat → Nat → Bool} (nd : M.Nodup) (C : Clos M.length ps R) (h1 : ∀ p ∈ ps,leM M p.1 p.2 = true)
    (h2 : ∀ a b,a < M.length → b < M.length → stepM M a b → (a,b) ∈ ps) : ∀ a b,a < M.length → b < M.length → R a b = leM M a b:=by
  have go : ∀ (d a b : Nat),a < M.length → b < M.length → M.getD b 0 - M.getD a 0 = d → leM M a b = true → R a b = true:=by
    intro d
    induction d using Nat.strongRecOn with
    | _ d ih =>
      intro a b ha hb hd hl
      by_cases e : a = b
      · subst e; exact C.refl a ha
      · by_cases hs : stepM M a b
        · exact C.has _ (h2 a b ha hb hs)
        · have hc : ∃ c,c < M.length ∧ leM M a c = true ∧ leM M c b = true ∧ c ≠ a ∧ c ≠ b:=by
            apply Classical.byContradiction
            intro hn
            refine hs ⟨e,hl,fun c hc h1 h2 => ?_⟩
            apply Classical.byContradiction
            intro hcc
            exact hn ⟨c,hc,h1,h2,fun z => hcc (.inl z),fun z => hcc (.inr z)⟩
          obtain ⟨c,hc,l1,l2,n1,n2⟩:=hc
          have i1:=(leM_iff.mp l1).le
          have i2:=(leM_iff.mp l2).le
          have j1 : M.getD a 0 ≠ M.getD c 0:=fun z => n1 (getD_inj nd hc ha z.symm)
          have j2 : M.getD c 0 ≠ M.getD b 0:=fun z => n2 (getD_inj nd hc hb z)
          exact C.trans a c b ha hc hb (ih _ (by omega) a c ha hc rfl l1) (ih _ (by omega) c b hc hb rfl l2)
  intro a b ha hb
  rw [Bool.eq_iff_iff]
  exact ⟨fun h => C.least (leM M) (fun a _ => leM_refl M a) h1 (fun a b c _ _ _ => leM_trans) a b ha hb h,fun h => go _ a b ha hb rfl h⟩
instance (M : List Nat) : Decidable (Lat M) :=
  decidable_of_iff (M.Nodup ∧ M.length ≤ 24 ∧ (∀ x ∈ M,∀ y ∈ M,x &&& y ∈ M) ∧ ∃ t ∈ M,∀ x ∈ M,Sub x t)
    ⟨fun ⟨a,b,c,d⟩ => ⟨a,b,c,d⟩,fun ⟨a,b,c,d⟩ => ⟨a,b,c,d⟩⟩
def flower (k : Nat) : List Nat:=[0] ++ (if 1 < k then (List.range k).map (fun i => 2 ^ i) else []) ++ [2 ^ k - 1]
def stackM (one other : List Nat) (p : Nat) : List Nat:=one ++ (other.drop 1).map fun m => one.getLastD 0 ||| (m * 2 ^ p)
def besideM (one other : List Nat) : List Nat:=one.flatMap fun m => other.map fun x => m ||| (x * 2 ^ 10)
def rowM (k : Nat) : List Nat:=([0,1,3,7,15,31] : List Nat).take k
def ringM : Nat → List Nat
  | 0 => [0,1,2,6,7]
  | _ => [0,1,3,4,12,15]
def fieldsM : List Nat:=[1,255] ++ ((List.range 7).map fun i => 1 ||| 2 ^ (1 + i)) ++
  (List.range 7).map fun k => (((List.range 8).filter fun r => ([0,1,1,0,1,0,0,1] : List Nat).getD (r &&& (1 + k)) 0 == 0).map fun r => 2 ^ r).sum
theorem lat3 : ∀ a,a < 5 → ∀ b,b < 5 → ∀ c,c < 4 → Lat (stackM (stackM (flower (1 + a)) (flower (1 + b)) 10) (flower (1 + c)) 20):=by decide +kernel
theorem lat4 : Lat fieldsM:=by decide +kernel
theorem lat5a : ∀ a,a < 4 → ∀ b,b < 6 → Lat (besideM (rowM (1 + a)) (rowM (1 + b))):=by decide +kernel
theorem lat5b : ∀ a,a < 4 → ∀ b,b < 4 → Lat (besideM (rowM (1 + a)) (flower (1 + b))):=by decide +kernel
theorem lat6a : ∀ a,a < 4 → ∀ b,b < 2 → Lat (besideM (rowM (1 + a)) (ringM b)):=by decide +kernel
theorem lat6b : ∀ a,a < 5 → ∀ b,b < 2 → Lat (stackM (ringM b) (flower (1 + a)) 10):=by decide +kernel
theorem nodup_bound : ∀ (n : Nat) (l : List Nat),l.Nodup → (∀ x ∈ l,x < n) → l.length ≤ n
  | 0,l,_,h => by
    cases l with
    | nil => exact Nat.le_refl _
    | cons a r => exact absurd (h a List.mem_cons_self) (Nat.not_lt_zero _)
  | n + 1,l,nd,h => by
    have ih:=nodup_bound n (l.erase n) (nd.erase n) fun x hx => by
      have h1:=h x (List.mem_of_mem_erase hx)
      have h2 : x ≠ n:=fun e => by subst e; exact nd.not_mem_erase hx
      omega
    have h3 : l.length ≤ (l.erase n).length + 1:=by rw [List.length_erase]; split <;> omega
    omega
end Ev
namespace My
open PySem PySem.Spec PyProof.Rows L2
def top (i : Nat) : Stmt:=PySem.Challenge.pw_evenclimb_k32_climbs_led.main.body.getD i (.Pass ⟨0,0,0,0⟩)
structure Txt (mg : Str → Option Value) : Prop where
  len : mg "len" = none
  range : mg "range" = none
  zip : mg "zip" = none
  enumerate : mg "enumerate" = none
  tuple : mg "tuple" = none
  list : mg "list" = none
  int : mg "int" = none
  bool : mg "bool" = none
  str : mg "str" = none
  isinstance : mg "isinstance" = none
  sum : mg "sum" = none
  any : mg "any" = none
  all : mg "all" = none
  sorted : mg "sorted" = none
  min : mg "min" = none
  max : mg "max" = none
  most : ∃ t,mg "MOST_THINGS" = some (.int 24 t)
section
variable {P : Program} {w : World} {K : PySem.W.Frag} {mg : Str → Option Value} {base : Heap} {f : Addr} {fd : FuncData}
abbrev s_is_whole : Stmt:=top 11
theorem sc_is_whole : FnScope ["value"] ["value"] (defScope s_is_whole):=⟨rfl,rfl,rfl,by decide +kernel,rfl,by decide +kernel,by decide +kernel⟩
def sp_is_whole : Sp:=Pu (fun vs _ => ∃ i,vs = [.int i]) fun _ _ v _ => v = .bl true
theorem ok_is_whole (F : Fun K "is_whole" "is_whole" s_is_whole f fd) (T : Txt mg) : FnOk P w K mg base CX0 1 f fd ["value"] sp_is_whole:=by
  refine F.ok sc_is_whole (fun vs H Q E h => ?_) (fun cdv A outer s H vs Q E hr h => ?_)
  · obtain ⟨⟨i,rfl⟩,_⟩:=h
    rfl
  · obtain ⟨⟨i,rfl⟩,k⟩:=h
    have nd:=sc_is_whole.nd
    refine ⟨_,(pss_one (ps_ret (pe_and (pe_callB (call_isinstK (K:=K) "int" rfl) rfl T.isinstance boot_isinstance (pa_cons (pv 0) (pa_cons (pe_bltn (v:=.ty "int") rfl T.int bt_int rfl) pa_nil))) (pe_one (pe_not (pe_callB (call_isinstK (K:=K) "bool" rfl) rfl T.isinstance boot_isinstance (pa_cons (pv 0) (pa_cons (pe_bltn (v:=.ty "bool") rfl T.bool bt_bool rfl) pa_nil)))))))),?_⟩
    refine ⟨_,rfl,_,_,_,rfl,.int i,rfl,true,rfl,iteT ?_⟩
    exact ⟨_,rfl,_,_,_,rfl,.int i,rfl,false,rfl,k _ _ (Same.refl _) rfl⟩
abbrev s_is_thing : Stmt:=top 12
theorem sc_is_thing : FnScope ["count","number"] ["count","number"] (defScope s_is_thing):=⟨rfl,rfl,rfl,by decide +kernel,rfl,by decide +kernel,by decide +kernel⟩
def sp_is_thing : Sp:=Pu (fun vs _ => ∃ n i,vs = [.int n,.int i]) fun vs _ v _ => ∀ n i,vs = [.int n,.int i] → v = .bl (decide (0 ≤ i ∧ i < n))
theorem ok_is_thing (F : Fun K "is_thing" "is_thing" s_is_thing f fd) (T : Txt mg) (c_is_whole : Cal P w K mg base "is_whole" ["value"] 1 sp_is_whole) : FnOk P w K mg base CX0 2 f fd ["count","number"] sp_is_thing:=by
  refine F.ok sc_is_thing (fun vs H Q E h => ?_) (fun cdv A outer s H vs Q E hr h => ?_)
  · obtain ⟨⟨n,i,rfl⟩,_⟩:=h
    rfl
  · obtain ⟨⟨n,i,rfl⟩,k⟩:=h
    have nd:=sc_is_thing.nd
    refine ⟨_,(pss_one (ps_ret (pe_and (pe_callC c_is_whole hr rfl (pa_cons (pv 1) pa_nil)) (pe_one (pe_chain op_le op_lt pe_int (pv 1) (pv 0)))))),?_⟩
    refine ⟨_,rfl,⟨i,rfl⟩,fun v H1 s1 hv => ?_⟩
    subst hv
    refine ⟨true,rfl,iteT ?_⟩
    refine ⟨_,rfl,_,_,rfl,rfl,_,rfl,ite2 (fun h1 => ?_) (fun h1 => ?_)⟩
    · refine ⟨_,rfl,_,_,rfl,rfl,k _ _ s1 ?_⟩
      intro n' i' e
      cases e
      rw [show decide (0 ≤ i ∧ i < n) = decide (i < n) from by
        rw [decide_eq_true_iff] at h1
        exact decide_eq_decide.mpr ⟨fun h => h.2,fun h => ⟨h1,h⟩⟩]
    · refine k _ _ s1 ?_
      intro n' i' e
      cases e
      rw [decide_eq_false (fun h => h1 (decide_eq_true h.1))]
abbrev s_need_thing : Stmt:=top 13
theorem sc_need_thing : FnScope ["count","number"] ["count","number"] (defScope s_need_thing):=⟨rfl,rfl,rfl,by decide +kernel,rfl,by decide +kernel,by decide +kernel⟩
def sp_need_thing : Sp:=Pu (fun vs _ => ∃ n i : Int,vs = [.int n,.int i] ∧ 0 ≤ i ∧ i < n) fun _ _ v _ => v = .non
theorem ok_need_thing (F : Fun K "need_thing" "need_thing" s_need_thing f fd) (T : Txt mg) (c_is_thing : Cal P w K mg base "is_thing" ["count","number"] 2 sp_is_thing) : FnOk P w K mg base CX0 3 f fd ["count","number"] sp_need_thing:=by
  refine F.ok sc_need_thing (fun vs H Q E h => ?_) (fun cdv A outer s H vs Q E hr h => ?_)
  · obtain ⟨⟨n,i,rfl,_⟩,_⟩:=h
    rfl
  · obtain ⟨⟨n,i,rfl,h0,h1⟩,k⟩:=h
    have nd:=sc_need_thing.nd
    refine ⟨_,(pss_one (ps_if (pt_not (pt_val (pe_callC c_is_thing hr rfl (pa_cons (pv 0) (pa_cons (pv 1) pa_nil))))) (pss_one ps_never) pss_nil)),?_⟩
    refine ⟨_,rfl,_,rfl,⟨n,i,rfl⟩,fun v H1 s1 hv => ?_⟩
    rw [hv n i rfl,decide_eq_true (show 0 ≤ i ∧ i < n from ⟨h0,h1⟩)]
    exact ⟨true,rfl,iteF (k _ _ s1 rfl)⟩
abbrev s_need_count : Stmt:=top 14
theorem sc_need_count : FnScope ["count"] ["count"] (defScope s_need_count):=⟨rfl,rfl,rfl,by decide +kernel,rfl,by decide +kernel,by decide +kernel⟩
def sp_need_count : Sp:=Pu (fun vs _ => ∃ n : Int,vs = [.int n] ∧ 1 ≤ n ∧ n ≤ 24) fun _ _ v _ => v = .non
theorem ok_need_count (F : Fun K "need_count" "need_count" s_need_count f fd) (T : Txt mg) (c_is_whole : Cal P w K mg base "is_whole" ["value"] 1 sp_is_whole) : FnOk P w K mg base CX0 2 f fd ["count"] sp_need_count:=by
  refine F.ok sc_need_count (fun vs H Q E h => ?_) (fun cdv A outer s H vs Q E hr h => ?_)
  · obtain ⟨⟨n,rfl,_⟩,_⟩:=h
    rfl
  · obtain ⟨⟨n,rfl,h0,h1⟩,k⟩:=h
    have nd:=sc_need_count.nd
    obtain ⟨t24,e24⟩:=T.most
    refine ⟨_,(pss_one (ps_if (PW.pt (pw_or (pt_not (pt_val (pe_callC c_is_whole hr rfl (pa_cons (pv 0) pa_nil)))) (pw_or1 (pt_not (pt_chain op_le op_le pe_int (pv 0) (pe_glob (v:=.int 24) rfl e24 ⟨_,rfl⟩)))))) (pss_one ps_never) pss_nil)),?_⟩
    refine ⟨_,rfl,⟨n,rfl⟩,fun v H1 s1 hv => ?_⟩
    subst hv
    refine ⟨true,rfl,iteF ?_⟩
    refine ⟨_,rfl,_,_,rfl,rfl,_,rfl,?_⟩
    rw [if_pos (decide_eq_true h0)]
    refine ⟨_,_,rfl,rfl,_,rfl,?_⟩
    rw [decide_eq_true h1]
    exact iteF (k _ _ s1 rfl)
end
def pairV (H : Hp) (p : Nat × Nat) (v : V) : Prop := ∃ t,v = .ref t ∧ H t = some (.tup [.int p.1,.int p.2])
def PairsL (K : PySem.W.Frag) (H : Hp) (a : Addr) (ps : List (Nat × Nat)) : Prop := ∃ vs,SqL K H a vs ∧ Paired (pairV H) ps vs
def TT (H : Hp) (v : V) (n : Nat) (g : Nat → Nat → V) : Prop := ∃ a vs,v = .ref a ∧ H a = some (.tup vs) ∧ Paired (fun i u => ∃ b,u = .ref b ∧ H b = some (.tup ((List.range n).map (g i)))) (List.range n) vs
theorem pairV.same {H H' : Hp} (s : Same H H') {p : Nat × Nat} {v : V} (h : pairV H p v) : pairV H' p v:=let ⟨t,e,q⟩:=h; ⟨t,e,s _ _ q⟩
theorem pairsV.same {H H' : Hp} (s : Same H H') {ps : List (Nat × Nat)} {vs : List V} (h : Paired (pairV H) ps vs) : Paired (pairV H') ps vs:=Paired.mapP h fun _ _ q => q.same s
theorem PairsL.same {K : PySem.W.Frag} {H H' : Hp} {a : Addr} {ps : List (Nat × Nat)} (s : Same H H') (h : PairsL K H a ps) : PairsL K H' a ps:=let ⟨vs,e,q⟩:=h; ⟨vs,s.seq e,pairsV.same s q⟩
theorem TT.same {H H' : Hp} (s : Same H H') {v : V} {n : Nat} {g : Nat → Nat → V} (h : TT H v n g) : TT H' v n g :=
  let ⟨a,vs,e,q,r⟩:=h; ⟨a,vs,e,s _ _ q,Paired.mapP r fun _ _ ⟨b,e,q⟩ => ⟨b,e,s _ _ q⟩⟩
theorem paired_get {α β : Type} {F : α → β → Prop} : ∀ {l : List α} {m : List β} {i : Nat} {y : β},Paired F l m → m[i]? = some y → ∃ x,l[i]? = some x ∧ F x y
  | _,_,_,_,.nil,h => by simp at h
  | _,_,0,_,.cons r _,h => by simp at h; subst h; exact ⟨_,rfl,r⟩
  | _,_,i + 1,y,.cons _ t,h => by
    obtain ⟨x,h1,h2⟩:=paired_get (i:=i) (y:=y) t (by simpa using h)
    exact ⟨x,by simpa using h1,h2⟩
theorem paired_get' {α β : Type} {F : α → β → Prop} : ∀ {l : List α} {m : List β} {i : Nat} {x : α},Paired F l m → l[i]? = some x → ∃ y,m[i]? = some y ∧ F x y
  | _,_,_,_,.nil,h => by simp at h
  | _,_,0,_,.cons r _,h => by simp at h; subst h; exact ⟨_,rfl,r⟩
  | _,_,i + 1,y,.cons _ t,h => by
    obtain ⟨x,h1,h2⟩:=paired_get' (i:=i) (x:=y) t (by simpa using h)
    exact ⟨x,by simpa using h1,h2⟩
theorem TT.row {H : Hp} {v : V} {n : Nat} {g : Nat → Nat → V} (h : TT H v n g) {i : Nat} (hi : i < n) : ∃ a vs b,v = .ref a ∧ H a = some (.tup vs) ∧ vs.length = n ∧ vs[i]? = some (.ref b) ∧ H b = some (.tup ((List.range n).map (g i))):=by
  obtain ⟨a,vs,e,q,r⟩:=h
  obtain ⟨y,h1,b,rfl,h2⟩:=paired_get' (i:=i) (x:=i) r (by simp [hi])
  exact ⟨a,vs,b,e,q,by simpa using (Paired.length r).symm,h1,h2⟩
theorem at_row {n : Nat} {g : Nat → V} {j : Nat} (hj : j < n) : atI ((List.range n).map g) (j : Int) = some (g j):=atI_nat (by simp [hj])
theorem sl24 {n : Nat} (h : n ≤ 24) : n < sizeLine:=Nat.lt_of_le_of_lt h (by decide)
theorem slk {n : Nat} (h : n ≤ 100000) : n < sizeLine:=Nat.lt_of_le_of_lt h (by decide)
theorem n62 {n : Nat} (h : n ≤ 100000) : -(2 ^ 62) ≤ (n : Int) ∧ (n : Int) < 2 ^ 62:=by omega
theorem decV {t i : Nat} : decide (V.int (t : Int) = V.int (0 + (i : Int))) = decide (t = i):=by
  apply decide_eq_decide.mpr
  constructor
  · intro h; injection h with h; omega
  · intro h; subst h; simp
section
variable {P : Program} {w : World} {K : PySem.W.Frag} {mg : Str → Option Value} {base : Heap} {f : Addr} {fd : FuncData}
abbrev s_need_pairs : Stmt:=top 15
theorem sc_need_pairs : FnScope ["count","pairs","pair"] ["count","pairs"] (defScope s_need_pairs):=⟨rfl,rfl,rfl,by decide +kernel,rfl,by decide +kernel,by decide +kernel⟩
def sp_need_pairs (K : PySem.W.Frag) : Sp:=Pu (fun vs H => ∃ (n a : Nat) (ps : List (Nat × Nat)),vs = [.int n,.ref a] ∧ PairsL K H a ps ∧ ∀ p ∈ ps,p.1 < n ∧ p.2 < n) fun _ _ v _ => v = .non
theorem ok_need_pairs (F : Fun K "need_pairs" "need_pairs" s_need_pairs f fd) (T : Txt mg) (c_need_thing : Cal P w K mg base "need_thing" ["count","number"] 3 sp_need_thing) : FnOk P w K mg base CX0 4 f fd ["count","pairs"] (sp_need_pairs K):=by
  refine F.ok sc_need_pairs (fun vs H Q E h => ?_) (fun cdv A outer s H vs Q E hr h => ?_)
  · obtain ⟨⟨n,a,ps,rfl,_⟩,_⟩:=h
    rfl
  · obtain ⟨⟨n,a,ps,rfl,⟨vs,hl,hp⟩,hb⟩,k⟩:=h
    have nd:=sc_need_pairs.nd
    refine ⟨_,(pss_one (ps_for PassesOwn.never rfl (pi_listK (K:=K) rfl (pv 1)) (pg_name (i:=2) nd rfl (Or.inl rfl))
      (pss_cons (ps_expr (pe_callC c_need_thing hr rfl (pa_cons (pv 0) (pa_cons (pe_ix (ix_tupK (K:=K) rfl) (pv 2) pe_int (fun _ _ => rfl)) pa_nil))))
      (pss_one (ps_expr (pe_callC c_need_thing hr rfl (pa_cons (pv 0) (pa_cons (pe_ix (ix_tupK (K:=K) rfl) (pv 2) pe_int (fun _ _ => rfl)) pa_nil)))))))),?_⟩
    refine ⟨_,rfl,a,rfl,⟨_,hl⟩,for_list (K:=K) (a:=a) (xs:=vs) (fun i σ H2 => ∃ v,σ = [some (.int n),some (.ref a),v] ∧ Same H H2) ⟨none,rfl,Same.refl _⟩ (fun i σ H2 _ ⟨_,_,s2⟩ => s2.seq hl) ?_ ?_⟩
    · rintro i y σ H2 hi ⟨v,rfl,s2⟩
      obtain ⟨p,hp1,t,rfl,ht⟩:=paired_get hp hi
      obtain ⟨b1,b2⟩:=hb p (List.mem_of_getElem? hp1)
      refine ⟨_,rfl,_,rfl,t,_,0,_,rfl,rfl,.inl (.inl (s2 _ _ ht)),rfl,⟨n,_,rfl,by omega,by omega⟩,fun v3 H3 s3 _ => ?_⟩
      refine ⟨_,rfl,_,rfl,t,_,1,_,rfl,rfl,.inl (.inl ((s2.trans s3) _ _ ht)),rfl,⟨n,_,rfl,by omega,by omega⟩,fun v4 H4 s4 _ => ?_⟩
      exact ⟨_,rfl,(s2.trans s3).trans s4⟩
    · rintro σ H2 ⟨v,rfl,s2⟩
      exact k _ _ s2 rfl
abbrev s_own_row : Stmt:=top 16
theorem sc_own_row : FnScope ["count","thing"] ["count","thing"] (defScope s_own_row):=⟨rfl,rfl,rfl,by decide +kernel,rfl,by decide +kernel,by decide +kernel⟩
def rowV (n : Nat) (p : Nat → Bool) : List V:=(List.range n).map fun b => V.bl (p b)
def sp_own_row : Sp:=Pu (fun vs H => ∃ n t : Nat,vs = [.int n,.int t] ∧ n ≤ 24) fun vs H v H' => ∀ n t : Nat,vs = [.int n,.int t] → ∃ a,v = .ref a ∧ H a = none ∧ H' a = some (.lst (rowV n fun b => decide (t = b)))
theorem ok_own_row (F : Fun K "own_row" "own_row" s_own_row f fd) (T : Txt mg) : FnOk P w K mg base CX0 1 f fd ["count","thing"] sp_own_row:=by
  refine F.ok sc_own_row (fun vs H Q E h => ?_) (fun cdv A outer s H vs Q E hr h => ?_)
  · obtain ⟨⟨n,t,rfl,_⟩,_⟩:=h
    rfl
  · obtain ⟨⟨n,t,rfl,hn⟩,k⟩:=h
    have nd:=sc_own_row.nd
    refine ⟨_,(pss_one (ps_ret (pe_comp (own:=["other"]) (fr:=[("thing", 1)]) rfl (blkOk (defScope s_own_row) ["count","thing"] rfl rfl (by decide +kernel)) (pi_range1 rfl T.range (pa_cons (pv 0) pa_nil)) (fun _ _ _ _ => ⟨(pg_name (i:=0) (by decide +kernel : (["other","thing"] : List Str).Nodup) rfl (Or.inl rfl)),pif_nil,(pe_cmpR op_eq (pv 1) (pv 0) (nomark _))⟩)))),?_⟩
    refine ⟨_,rfl,n,rfl,(n62 (by omega)).1,(n62 (by omega)).2,fun D hD => comp_all (fun i => .bl (decide (t = i))) src_range hD (sl24 (by simpa using hn)) (fun i H2 Kt hi hs hk => ?_) (fun H' hs hl => ?_)⟩
    · refine ⟨_,rfl,_,rfl,rfl,?_⟩
      rw [decV]
      exact hk _ (Same.refl _)
    · refine k _ _ hs ?_
      intro n' t' e
      cases e
      exact ⟨D,rfl,hD,by rw [hl]; simp [rowV]⟩
end
theorem rowV_len (n : Nat) (p : Nat → Bool) : (rowV n p).length = n:=by simp [rowV]
theorem rowV_getD {n : Nat} {p : Nat → Bool} {i : Nat} (h : i < n) : (rowV n p).getD i .non = .bl (p i):=by simp [rowV,h]
theorem rowV_set {n : Nat} {p : Nat → Bool} {j : Nat} : (rowV n p).set j (.bl true) = rowV n fun b => if b = j then true else p b:=by
  apply List.ext_getElem
  · simp [rowV]
  · intro i h1 h2
    simp only [rowV,List.getElem_set,List.getElem_map,List.getElem_range]
    by_cases e : j = i
    · simp [e]
    · have : ¬ i = j:=fun z => e z.symm
      simp [e,this]
theorem rowV_congr {n : Nat} {p q : Nat → Bool} (h : ∀ b,b < n → p b = q b) : rowV n p = rowV n q:=by
  unfold rowV
  apply List.map_congr_left
  intro b hb
  rw [h b (by simpa using hb)]
section
variable {P : Program} {w : World} {K : PySem.W.Frag} {mg : Str → Option Value} {base : Heap} {f : Addr} {fd : FuncData}
abbrev s_either : Stmt:=top 17
theorem sc_either : FnScope ["one","other"] ["one","other"] (defScope s_either):=⟨rfl,rfl,rfl,by decide +kernel,rfl,by decide +kernel,by decide +kernel⟩
def sp_either : Sp:=Pu (fun vs H => ∃ (x y n : Nat) (p q : Nat → Bool),vs = [.ref x,.ref y] ∧ H x = some (.lst (rowV n p)) ∧ H y = some (.lst (rowV n q)) ∧ n ≤ 24)
  fun vs H v H' => ∀ (x y n : Nat) (p q : Nat → Bool),vs = [.ref x,.ref y] → H x = some (.lst (rowV n p)) → H y = some (.lst (rowV n q)) → ∃ a,v = .ref a ∧ H a = none ∧ H' a = some (.lst (rowV n fun b => p b || q b))
theorem rowV_inj {n m : Nat} {p q : Nat → Bool} (h : rowV n p = rowV m q) : n = m ∧ ∀ b,b < n → p b = q b:=by
  have e : n = m:=by have:=congrArg List.length h; rwa [rowV_len,rowV_len] at this
  subst e
  refine ⟨rfl,fun b hb => ?_⟩
  have:=congrArg (fun l => l.getD b V.non) h
  simp only [rowV_getD hb] at this
  injection this
theorem ok_either (F : Fun K "either" "either" s_either f fd) (T : Txt mg) : FnOk P w K mg base CX0 1 f fd ["one","other"] sp_either:=by
  refine F.ok sc_either (fun vs H Q E h => ?_) (fun cdv A outer s H vs Q E hr h => ?_)
  · obtain ⟨⟨x,y,n,p,q,rfl,_⟩,_⟩:=h
    rfl
  · obtain ⟨⟨x,y,n,p,q,rfl,hx,hy,hn⟩,k⟩:=h
    have nd:=sc_either.nd
    refine ⟨_,(pss_one (ps_ret (pe_comp (own:=["a","b"]) (fr:=[]) rfl (blkOk (defScope s_either) ["one","other"] rfl rfl (by decide +kernel)) (pi_zipK (K:=K) true true rfl rfl T.zip (pa_cons (pv 0) (pa_cons (pv 1) pa_nil))) (fun _ _ _ _ => ⟨(pg_pair (K:=K) (i:=0) (j:=1) rfl rfl (by decide +kernel : (["a","b"] : List Str).Nodup) rfl rfl rfl rfl),pif_nil,(pe_or (pv 0) (pe_one (pv 1)))⟩)))),?_⟩
    refine ⟨_,rfl,_,rfl,x,y,_,_,rfl,SqL.of hx,SqL.of hy,fun D hD => comp_all (fun i => .bl (p i || q i)) (src_zip (c1:=true) (c2:=true) (SqL.of hx) (SqL.of hy) (n:=n) (by simp [rowV_len])) hD (sl24 hn) (fun i H2 Kt hi hs hk => ?_) (fun H' hs hl => ?_)⟩
    · refine ⟨_,rfl,p i,rowV_getD hi,ite2 (fun h => ?_) (fun h => ?_)⟩
      · have:=hk _ (Same.refl _)
        simpa [h] using this
      · refine ⟨_,rfl,?_⟩
        have:=hk _ (Same.refl _)
        rw [rowV_getD hi]
        simpa [h] using this
    · refine k _ _ hs ?_
      intro x' y' n' p' q' e h1 h2
      cases e
      rw [hx] at h1
      rw [hy] at h2
      injection h1 with h1
      injection h1 with h1
      injection h2 with h2
      injection h2 with h2
      obtain ⟨rfl,e1⟩:=rowV_inj h1
      obtain ⟨_,e2⟩:=rowV_inj h2
      refine ⟨D,rfl,hD,?_⟩
      rw [hl]
      show some (HO.lst (rowV n fun i => p i || q i)) = _
      rw [rowV_congr fun b hb => by rw [e1 b hb,e2 b hb]]
abbrev s_shared : Stmt:=top 18
theorem sc_shared : FnScope ["one","other"] ["one","other"] (defScope s_shared):=⟨rfl,rfl,rfl,by decide +kernel,rfl,by decide +kernel,by decide +kernel⟩
def sp_shared : Sp:=Pu (fun vs H => ∃ (x y n : Nat) (p q : Nat → Bool),vs = [.ref x,.ref y] ∧ H x = some (.tup (rowV n p)) ∧ H y = some (.tup (rowV n q)) ∧ n ≤ 24)
  fun vs H v H' => ∀ (x y n : Nat) (p q : Nat → Bool),vs = [.ref x,.ref y] → H x = some (.tup (rowV n p)) → H y = some (.tup (rowV n q)) → ∃ a,v = .ref a ∧ H a = none ∧ H' a = some (.tup (rowV n fun b => p b && q b))
theorem ok_shared (F : Fun K "shared" "shared" s_shared f fd) (T : Txt mg) : FnOk P w K mg base CX0 1 f fd ["one","other"] sp_shared:=by
  refine F.ok sc_shared (fun vs H Q E h => ?_) (fun cdv A outer s H vs Q E hr h => ?_)
  · obtain ⟨⟨x,y,n,p,q,rfl,_⟩,_⟩:=h
    rfl
  · obtain ⟨⟨x,y,n,p,q,rfl,hx,hy,hn⟩,k⟩:=h
    have nd:=sc_shared.nd
    refine ⟨_,(pss_one (ps_ret (pe_callTy (call_tupleK (K:=K) rfl) rfl T.tuple bt_tuple (pa_cons (pe_comp (own:=["a","b"]) (fr:=[]) rfl (blkOk (defScope s_shared) ["one","other"] rfl rfl (by decide +kernel)) (pi_zipK (K:=K) false false rfl rfl T.zip (pa_cons (pv 0) (pa_cons (pv 1) pa_nil))) (fun _ _ _ _ => ⟨(pg_pair (K:=K) (i:=0) (j:=1) rfl rfl (by decide +kernel : (["a","b"] : List Str).Nodup) rfl rfl rfl rfl),pif_nil,(pe_and (pv 0) (pe_one (pv 1)))⟩)) pa_nil)))),?_⟩
    refine ⟨_,rfl,_,rfl,x,y,_,_,rfl,SqT.of hx,SqT.of hy,fun D hD => comp_all (fun i => .bl (p i && q i)) (src_zip (c1:=false) (c2:=false) (SqT.of hx) (SqT.of hy) (n:=n) (by simp [rowV_len])) hD (sl24 hn) (fun i H2 Kt hi hs hk => ?_) (fun H' hs hl => ?_)⟩
    · refine ⟨_,rfl,p i,rowV_getD hi,ite2 (fun h => ?_) (fun h => ?_)⟩
      · refine ⟨_,rfl,?_⟩
        have:=hk _ (Same.refl _)
        rw [rowV_getD hi]
        simpa [h] using this
      · have:=hk _ (Same.refl _)
        simpa [h] using this
    · refine ⟨D,_,rfl,.inl ⟨SqL.of hl,fun l hl' => ?_⟩⟩
      have hlH : H l = none:=hs.free hl'
      refine k _ _ (hs.trans (Same.put hl')) ?_
      intro x' y' n' p' q' e h1 h2
      cases e
      rw [hx] at h1
      rw [hy] at h2
      injection h1 with h1
      injection h1 with h1
      injection h2 with h2
      injection h2 with h2
      obtain ⟨rfl,e1⟩:=rowV_inj h1
      obtain ⟨_,e2⟩:=rowV_inj h2
      refine ⟨l,rfl,hlH,?_⟩
      rw [upd_same]
      show some (HO.tup (rowV n fun i => p i && q i)) = _
      rw [rowV_congr fun b hb => by rw [e1 b hb,e2 b hb]]
abbrev s_column : Stmt:=top 19
theorem sc_column : FnScope ["rows","place"] ["rows","place"] (defScope s_column):=⟨rfl,rfl,rfl,by decide +kernel,rfl,by decide +kernel,by decide +kernel⟩
def sp_column : Sp:=Pu (fun vs H => ∃ (v : V) (n j : Nat) (g : Nat → Nat → V),vs = [v,.int j] ∧ TT H v n g ∧ j < n ∧ n ≤ 24)
  fun vs H v H' => ∀ (u : V) (n j : Nat) (g : Nat → Nat → V),vs = [u,.int j] → TT H u n g → j < n → ∃ a,v = .ref a ∧ H a = none ∧ H' a = some (.tup ((List.range n).map fun i => g i j))
theorem TT.inj {H : Hp} {v : V} {n m : Nat} {g g' : Nat → Nat → V} (h : TT H v n g) (h' : TT H v m g') : n = m ∧ ∀ i j,i < n → j < n → g i j = g' i j:=by
  obtain ⟨a,vs,e,q,r⟩:=id h
  obtain ⟨a',vs',e',q',r'⟩:=id h'
  rw [e] at e'
  injection e' with e'
  subst e'
  rw [q] at q'
  injection q' with q'
  injection q' with q'
  subst q'
  have en : n = m:=by
    have h1:=Paired.length r
    have h2:=Paired.length r'
    simp at h1 h2
    omega
  subst en
  refine ⟨rfl,fun i j hi hj => ?_⟩
  obtain ⟨y,h1,b,rfl,h2⟩:=paired_get' (i:=i) (x:=i) r (by simp [hi])
  obtain ⟨y',h1',b',rfl,h2'⟩:=paired_get' (i:=i) (x:=i) r' (by simp [hi])
  rw [h1] at h1'
  injection h1' with h1'
  injection h1' with h1'
  subst h1'
  rw [h2] at h2'
  injection h2' with h2'
  injection h2' with h2'
  have:=congrArg (fun l => l.getD j V.non) h2'
  simpa [hj] using this
theorem ok_column (F : Fun K "column" "column" s_column f fd) (T : Txt mg) : FnOk P w K mg base CX0 1 f fd ["rows","place"] sp_column:=by
  refine F.ok sc_column (fun vs H Q E h => ?_) (fun cdv A outer s H vs Q E hr h => ?_)
  · obtain ⟨⟨v,n,j,g,rfl,_⟩,_⟩:=h
    rfl
  · obtain ⟨⟨v,n,j,g,rfl,ht,hj,hn⟩,k⟩:=h
    have nd:=sc_column.nd
    obtain ⟨a,us,rfl,hq,hr'⟩:=id ht
    have hlen : us.length = n:=by simpa using (Paired.length hr').symm
    refine ⟨_,(pss_one (ps_ret (pe_callTy (call_tupleK (K:=K) rfl) rfl T.tuple bt_tuple (pa_cons (pe_comp (own:=["row"]) (fr:=[("place", 1)]) rfl (blkOk (defScope s_column) ["rows","place"] rfl rfl (by decide +kernel)) (pi_tupK (K:=K) rfl (pv 0)) (fun _ _ _ _ => ⟨(pg_name (i:=0) (by decide +kernel : (["row","place"] : List Str).Nodup) rfl (Or.inl rfl)),pif_nil,(pe_ix (ix_tupK (K:=K) rfl) (pv 0) (pv 1) (fun _ _ => rfl))⟩)) pa_nil)))),?_⟩
    refine ⟨_,rfl,a,rfl,⟨_,SqT.of hq⟩,fun D hD => comp_all (fun i => g i j) (src_tup (SqT.of hq)) hD (sl24 (by omega)) (fun i H2 Kt hi hs hk => ?_) (fun H' hs hl => ?_)⟩
    · obtain ⟨y,h1,b,rfl,h2⟩:=paired_get' (i:=i) (x:=i) hr' (List.getElem?_range (by omega))
      refine ⟨_,rfl,_,rfl,b,_,j,_,(by rw [List.getD_eq_getElem?_getD,h1]; rfl),rfl,SqT.of (hs _ _ h2),at_row hj,hk _ (Same.refl _)⟩
    · refine ⟨D,_,rfl,.inl ⟨SqL.of hl,fun l hl' => ?_⟩⟩
      refine k _ _ (hs.trans (Same.put hl')) ?_
      intro u' n' j' g' e h1 h2
      injection e with e1 e2
      injection e2 with e2 _
      injection e2 with e2
      have ej : j = j':=by omega
      subst ej
      rw [← e1] at h1
      obtain ⟨rfl,eg⟩:=ht.inj h1
      refine ⟨l,rfl,hs.free hl',?_⟩
      rw [upd_same,hlen]
      congr 2
      exact List.map_congr_left fun i hi => eg i j (by simpa using hi) hj
end
theorem nodup_ix' {N : List Addr} (hN : N.Nodup) {i j : Nat} {x : Addr} (a : N[i]? = some x) (b : N[j]? = some x) : i = j:=by
  obtain ⟨h1,e1⟩:=List.getElem?_eq_some_iff.mp a
  obtain ⟨h2,e2⟩:=List.getElem?_eq_some_iff.mp b
  exact (List.getElem_inj hN).mp (e1.trans e2.symm)
theorem nodup_set : ∀ {as : List Addr} {t b : Nat},as.Nodup → b ∉ as → (as.set t b).Nodup
  | [],_,_,_,_ => by simp
  | a :: r,0,b,nd,hb => List.nodup_cons.mpr ⟨fun h => hb (List.mem_cons_of_mem _ h),(List.nodup_cons.mp nd).2⟩
  | a :: r,t + 1,b,nd,hb => by
    rw [List.set_cons_succ]
    refine List.nodup_cons.mpr ⟨fun h => ?_,nodup_set (List.nodup_cons.mp nd).2 fun h => hb (List.mem_cons_of_mem _ h)⟩
    rcases List.mem_or_eq_of_mem_set h with h | h
    · exact (List.nodup_cons.mp nd).1 h
    · subst h; exact hb List.mem_cons_self
structure RowsAt (H0 H : Hp) (r n : Nat) (as : List Addr) (R : Nat → Nat → Bool) : Prop where
  same : Same H0 H
  lst : H r = some (.lst (as.map V.ref))
  len : as.length = n
  nd : as.Nodup
  newr : H0 r = none
  new : ∀ a ∈ as,H0 a = none ∧ a ≠ r
  row : ∀ (i : Nat) a,as[i]? = some a → H a = some (.lst (rowV n (R i)))
theorem RowsAt.congr {H0 H : Hp} {r n : Nat} {as : List Addr} {R R' : Nat → Nat → Bool} (W : RowsAt H0 H r n as R) (h : ∀ a b,a < n → b < n → R a b = R' a b) : RowsAt H0 H r n as R' :=
  { W with row:=fun i a e => (W.row i a e).trans (by rw [rowV_congr fun b hb => h i b (by rw [← W.len]; exact (List.getElem?_eq_some_iff.mp e).1) hb]) }
theorem RowsAt.get {H0 H : Hp} {r n : Nat} {as : List Addr} {R : Nat → Nat → Bool} (W : RowsAt H0 H r n as R) {i : Nat} (hi : i < n) : ∃ a,as[i]? = some a ∧ (as.map V.ref)[i]? = some (.ref a) ∧ a ∈ as ∧ H a = some (.lst (rowV n (R i))):=by
  have h : i < as.length:=by rw [W.len]; exact hi
  exact ⟨as[i],List.getElem?_eq_getElem h,by simp [h],List.getElem_mem h,W.row i _ (List.getElem?_eq_getElem h)⟩
theorem RowsAt.grow {H0 H H' : Hp} {r n : Nat} {as : List Addr} {R : Nat → Nat → Bool} (W : RowsAt H0 H r n as R) (s : Same H H') : RowsAt H0 H' r n as R :=
  { W with same:=W.same.trans s,lst:=s _ _ W.lst,row:=fun i a e => s _ _ (W.row i a e) }
theorem RowsAt.put {H0 H : Hp} {r n : Nat} {as : List Addr} {R : Nat → Nat → Bool} (W : RowsAt H0 H r n as R) {i j a : Nat} (ha : as[i]? = some a) :
    RowsAt H0 (upd H a (.lst ((rowV n (R i)).set j (.bl true)))) r n as (fun x y => if x = i ∧ y = j then true else R x y):=by
  have am : a ∈ as:=List.mem_of_getElem? ha
  refine { W with same:=fun b o e => ?_,lst := ?_,row:=fun k b e => ?_ }
  · rw [upd_ne (fun z => by rw [z,(W.new a am).1] at e; cases e)]
    exact W.same _ _ e
  · rw [upd_ne (Ne.symm (W.new a am).2)]
    exact W.lst
  · by_cases hk : k = i
    · subst hk
      rw [ha] at e
      cases e
      rw [upd_same,rowV_set]
      congr 2
      apply rowV_congr
      intro b hb
      simp
    · have hba : b ≠ a:=by
        rintro rfl
        exact hk (nodup_ix' W.nd e ha)
      rw [upd_ne hba,W.row k b e]
      congr 2
      apply rowV_congr
      intro c hc
      rw [if_neg (fun z => hk z.1)]
theorem RowsAt.swap {H0 H : Hp} {r n : Nat} {as : List Addr} {R : Nat → Nat → Bool} (W : RowsAt H0 H r n as R) {t b : Nat} {p : Nat → Bool} (ht : t < n) (hb : H0 b = none) (hbr : b ≠ r) (hba : b ∉ as) (hp : H b = some (.lst (rowV n p))) :
    RowsAt H0 (upd H r (.lst ((as.map V.ref).set t (.ref b)))) r n (as.set t b) (fun x y => if x = t then p y else R x y):=by
  refine ⟨fun c o e => ?_,?_,by rw [List.length_set]; exact W.len,?_,W.newr,fun c hc => ?_,fun k c e => ?_⟩
  · rw [upd_ne (fun z => by rw [z,W.newr] at e; cases e)]
    exact W.same _ _ e
  · rw [upd_same,List.map_set]
  · exact nodup_set W.nd hba
  · rcases List.mem_or_eq_of_mem_set hc with h | h
    · exact W.new c h
    · subst h; exact ⟨hb,hbr⟩
  · by_cases hk : t = k
    · subst hk
      have hlt : t < as.length:=by rw [W.len]; exact ht
      rw [List.getElem?_set_self hlt] at e
      cases e
      rw [upd_ne hbr,hp]
      congr 2
      apply rowV_congr
      intro y _
      rw [if_pos rfl]
    · rw [List.getElem?_set_ne hk] at e
      rw [upd_ne (W.new c (List.mem_of_getElem? e)).2,W.row k c e]
      congr 2
      apply rowV_congr
      intro y _
      rw [if_neg (fun z => hk z.symm)]
theorem base_nil (a b : Nat) : Ev.base [] a b = decide (a = b):=by rw [Bool.eq_iff_iff,Ev.base_iff]; simp
theorem base_snoc (ps : List (Nat × Nat)) (p : Nat × Nat) (a b : Nat) : Ev.base (ps ++ [p]) a b = if a = p.1 ∧ b = p.2 then true else Ev.base ps a b:=by
  rw [Bool.eq_iff_iff,Ev.base_iff]
  by_cases h : a = p.1 ∧ b = p.2
  · rw [if_pos h]
    obtain ⟨rfl,rfl⟩:=h
    simp
  · rw [if_neg h,Ev.base_iff]
    simp only [List.mem_append,List.mem_singleton]
    constructor
    · rintro (h1 | h1 | h1)
      · exact .inl h1
      · exact .inr h1
      · subst h1; exact absurd ⟨rfl,rfl⟩ h
    · rintro (h1 | h1)
      · exact .inl h1
      · exact .inr (.inl h1)
section
variable {P : Program} {w : World} {K : PySem.W.Frag} {mg : Str → Option Value} {base : Heap} {f : Addr} {fd : FuncData}
theorem ixN_nat {n j : Nat} (h : j < n) : ixN n (j : Int) = some j:=by
  unfold ixN
  rw [if_pos (by omega),if_pos (by omega)]
  simp
abbrev blF (R : Nat → Nat → Bool) : Nat → Nat → V:=fun a b => .bl (R a b)
abbrev s_reach_of : Stmt:=top 20
theorem sc_reach_of : FnScope ["count","pairs","rows","pair","middle","thing"] ["count","pairs"] (defScope s_reach_of):=⟨rfl,rfl,rfl,by decide +kernel,rfl,by decide +kernel,by decide +kernel⟩
def sp_reach_of (K : PySem.W.Frag) : Sp:=fun vs H Q _ => ∃ (n a : Nat) (ps : List (Nat × Nat)),vs = [.int n,.ref a] ∧ PairsL K H a ps ∧ n ≤ 24 ∧ (∀ p ∈ ps,p.1 < n ∧ p.2 < n) ∧
  ∀ v H' R,Same H H' → Ev.Clos n ps R → TT H' v n (blF R) → Q v H'
theorem at0 {α : Type} {xs : List α} {j : Nat} {v : α} (h : xs[j]? = some v) : atI xs (0 + (j : Int)) = some v:=by rw [Int.zero_add]; exact atI_nat h
theorem ixN0 {n j : Nat} (h : j < n) : ixN n (0 + (j : Int)) = some j:=by rw [Int.zero_add]; exact ixN_nat h
theorem rowV_get {n : Nat} {p : Nat → Bool} {j : Nat} (h : j < n) : (rowV n p)[j]? = some (.bl (p j)):=by simp [rowV,h]
theorem ok_reach_of (F : Fun K "reach_of" "reach_of" s_reach_of f fd) (T : Txt mg) (c_own_row : Cal P w K mg base "own_row" ["count","thing"] 1 sp_own_row) (c_either : Cal P w K mg base "either" ["one","other"] 1 sp_either) :
    FnOk P w K mg base CX0 2 f fd ["count","pairs"] (sp_reach_of K):=by
  refine F.ok sc_reach_of (fun vs H Q E h => ?_) (fun cdv A outer s H vs Q E hr h => ?_)
  · obtain ⟨n,a,ps,rfl,_⟩:=h
    rfl
  · obtain ⟨n,a,ps,rfl,⟨us,hul,hup⟩,hn,hb,k⟩:=h
    have nd:=sc_reach_of.nd
    have en : ((n : Int)).toNat = n:=Int.toNat_natCast n
    refine ⟨_,(pss_cons (ps_setC (i:=2) nd rfl rfl (own:=["thing"]) (fr:=[("count", 0)]) rfl (blkOk (defScope s_reach_of) ["count","pairs","rows","pair","middle","thing"] rfl rfl (by decide +kernel)) (pi_range1 rfl T.range (pa_cons (pv 0) pa_nil)) (fun _ _ _ _ => ⟨(pg_name (i:=0) (by decide +kernel : (["thing","count"] : List Str).Nodup) rfl (Or.inl rfl)),pif_nil,(pe_callC c_own_row hr rfl (pa_cons (pv 1) (pa_cons (pv 0) pa_nil)))⟩))
      (pss_cons (ps_for PassesOwn.never rfl (pi_listK (K:=K) rfl (pv 1)) (pg_name (i:=3) nd rfl (Or.inl rfl))
      (pss_one (ps_asg pe_bl (pg_sub (pe_ix (ix_listK (K:=K) rfl) (pv 2) (pe_ix (ix_tupK (K:=K) rfl) (pv 3) pe_int (fun _ _ => rfl)) (fun _ _ => rfl)) (pe_ix (ix_tupK (K:=K) rfl) (pv 3) pe_int (fun _ _ => rfl)) set_list))))
      (pss_cons (ps_for PassesOwn.never rfl (pi_range1 rfl T.range (pa_cons (pv 0) pa_nil)) (pg_name (i:=4) nd rfl (Or.inl rfl))
      (pss_one (ps_for PassesOwn.never rfl (pi_range1 rfl T.range (pa_cons (pv 0) pa_nil)) (pg_name (i:=5) nd rfl (Or.inl rfl))
      (pss_one (ps_if (pt_val (pe_ix (ix_listK (K:=K) rfl) (pe_ix (ix_listK (K:=K) rfl) (pv 2) (pv 5) (fun _ _ => rfl)) (pv 4) (fun _ _ => rfl))) (pss_one (ps_asg (pe_callC c_either hr rfl (pa_cons (pe_ix (ix_listK (K:=K) rfl) (pv 2) (pv 5) (fun _ _ => rfl)) (pa_cons (pe_ix (ix_listK (K:=K) rfl) (pv 2) (pv 4) (fun _ _ => rfl)) pa_nil))) (pg_sub (pv 2) (pv 5) set_list))) pss_nil)))))
      (pss_one (ps_ret (pe_callTy (call_tupleK (K:=K) rfl) rfl T.tuple bt_tuple (pa_cons (pe_comp (own:=["row"]) (fr:=[]) rfl (blkOk (defScope s_reach_of) ["count","pairs","rows","pair","middle","thing"] rfl rfl (by decide +kernel)) (pi_listK (K:=K) rfl (pv 2)) (fun _ _ _ _ => ⟨(pg_name (i:=0) (by decide +kernel : (["row"] : List Str).Nodup) rfl (Or.inl rfl)),pif_nil,(pe_callTy (call_tupleK (K:=K) rfl) rfl T.tuple bt_tuple (pa_cons (pv 0) pa_nil))⟩)) pa_nil))))))),?_⟩
    refine ⟨_,rfl,n,rfl,(n62 (by omega)).1,(n62 (by omega)).2,fun D hD => comp_fresh (fun i => rowV n fun b => decide (i = b)) src_range hD (sl24 (by simpa using hn)) (fun i H2 Kt hi hs hk => ?_) (fun H1 as hs hl h1 h2 h3 h4 => ?_)⟩
    · refine ⟨_,rfl,_,rfl,⟨n,i,by simp,hn⟩,fun v H3 s3 hv => ?_⟩
      obtain ⟨b,rfl,hb1,hb2⟩:=hv n i (by simp)
      exact hk b H3 s3 hb1 hb2
    have W0 : RowsAt H H1 D n as (Ev.base []):=⟨hs,hl,h1.trans en,h2,hD,h3,fun i b e => (h4 i b e).trans (by rw [rowV_congr fun c hc => (base_nil i c).symm])⟩
    -- for pair in pairs
    refine ⟨_,rfl,a,rfl,⟨_,hs.seq hul⟩,for_list (K:=K) (a:=a) (xs:=us) (fun i σ H2 => ∃ v3,σ = [some (.int n),some (.ref a),some (.ref D),v3,none,none] ∧ RowsAt H H2 D n as (Ev.base (ps.take i)))
      ⟨none,rfl,by simpa using W0⟩ (fun i σ H2 _ ⟨_,_,W⟩ => W.same.seq hul) ?_ ?_⟩
    · rintro i y σ H2 hi ⟨v3,rfl,W⟩
      obtain ⟨p,hp1,t,rfl,ht⟩:=paired_get hup hi
      obtain ⟨b1,b2⟩:=hb p (List.mem_of_getElem? hp1)
      obtain ⟨r,r1,r2,r3,r4⟩:=W.get b1
      refine ⟨_,rfl,_,rfl,t,_,0,_,rfl,rfl,SqT.of (W.same _ _ ht),rfl,D,_,_,_,rfl,rfl,SqL.of W.lst,atI_nat r2,_,rfl,t,_,1,_,rfl,rfl,SqT.of (W.same _ _ ht),rfl,r,_,_,p.2,rfl,rfl,r4,?_,?_⟩
      · rw [rowV_len]; exact ixN_nat b2
      · refine ⟨_,rfl,(W.put r1).congr fun x y _ _ => ?_⟩
        have et : ps.take (i + 1) = ps.take i ++ [p]:=by rw [List.take_add_one,hp1]; rfl
        rw [et,base_snoc]
    · rintro σ H2 ⟨v3,rfl,W⟩
      have el : us.length = ps.length:=(Paired.length hup).symm
      rw [el,List.take_length] at W
      have hlen : us.length = ps.length:=(Paired.length hup).symm
      -- for middle in range(count)
      refine ⟨_,rfl,n,rfl,(n62 (by omega)).1,(n62 (by omega)).2,for_range (lo:=0) (n:=((n : Int)).toNat) (fun m σ H2 => ∃ v3 v4 v5 as R,σ = [some (.int n),some (.ref a),some (.ref D),v3,v4,v5] ∧ RowsAt H H2 D n as R ∧ Ev.WInv n ps m R)
        ⟨v3,none,none,as,_,rfl,W,Ev.WInv.start hb⟩ ?_ ?_⟩
      · rintro m σ H2 hm ⟨v3,v4,v5,as,R,rfl,W,WI⟩
        have hmn : m < n:=by omega
        -- for thing in range(count)
        refine ⟨_,rfl,n,rfl,(n62 (by omega)).1,(n62 (by omega)).2,for_range (lo:=0) (n:=((n : Int)).toNat) (fun t σ H2 => ∃ v5 as,σ = [some (.int n),some (.ref a),some (.ref D),v3,some (.int (0 + m)),v5] ∧
          RowsAt H H2 D n as (fun x y => if x < t then Ev.wstep R m x y else R x y)) ⟨v5,as,rfl,W.congr fun x y _ _ => by rw [if_neg (Nat.not_lt_zero x)]⟩ ?_ ?_⟩
        · rintro t σ H3 ht ⟨v5,as,rfl,W⟩
          have htn : t < n:=by omega
          obtain ⟨rt,t1,t2,t3,t4⟩:=W.get htn
          obtain ⟨rm,m1,m2,m3,m4⟩:=W.get hmn
          refine ⟨_,rfl,_,rfl,D,_,_,_,rfl,rfl,SqL.of W.lst,at0 t2,_,rfl,rt,_,_,_,rfl,rfl,SqL.of t4,at0 (rowV_get hmn),_,rfl,ite2 (fun h => ?_) (fun h => ?_)⟩
          · rw [if_neg (Nat.lt_irrefl t)] at h
            refine ⟨_,rfl,_,rfl,D,_,_,_,rfl,rfl,SqL.of W.lst,at0 t2,_,rfl,_,rfl,D,_,_,_,rfl,rfl,SqL.of W.lst,at0 m2,⟨rt,rm,n,_,_,rfl,t4,m4,hn⟩,fun v H4 s4 hv => ?_⟩
            obtain ⟨b,rfl,q1,q2⟩:=hv rt rm n _ _ rfl t4 m4
            have W4:=W.grow s4
            have hbD : b ≠ D:=fun e => by rw [e,W.lst] at q1; cases q1
            have hba : b ∉ as:=fun hm => by
              obtain ⟨j,hj,e⟩:=List.getElem_of_mem hm
              have:=W.row j b (by rw [List.getElem?_eq_getElem hj,e])
              rw [q1] at this; cases this
            refine ⟨_,rfl,_,rfl,D,_,_,t,rfl,rfl,W4.lst,?_,?_⟩
            · rw [List.length_map,W4.len]; exact ixN0 htn
            · refine ⟨_,_,rfl,(W4.swap htn (W.same.free q1) hbD hba q2).congr fun x y hx hy => ?_⟩
              by_cases e : x = t
              · subst e
                rw [if_pos rfl,if_neg (Nat.lt_irrefl x),if_pos (Nat.lt_succ_self x)]
                have em : (if m < x then Ev.wstep R m m y else R m y) = R m y:=by
                  split
                  · unfold Ev.wstep
                    cases R m y <;> simp
                  · rfl
                rw [em]
                unfold Ev.wstep
                rw [h,Bool.true_and]
              · rw [if_neg e]
                by_cases hxt : x < t
                · rw [if_pos hxt,if_pos (by omega)]
                · rw [if_neg hxt,if_neg (by omega)]
          · rw [if_neg (Nat.lt_irrefl t)] at h
            refine ⟨_,as,rfl,W.congr fun x y hx hy => ?_⟩
            by_cases e : x = t
            · subst e
              rw [if_neg (Nat.lt_irrefl x),if_pos (Nat.lt_succ_self x)]
              unfold Ev.wstep
              have h' : R x m = false:=by simpa using h
              rw [h',Bool.false_and,Bool.or_false]
            · by_cases hxt : x < t
              · rw [if_pos hxt,if_pos (by omega)]
              · rw [if_neg hxt,if_neg (by omega)]
        · rintro σ H3 ⟨v5,as,rfl,W⟩
          exact ⟨_,_,_,as,Ev.wstep R m,rfl,W.congr fun x y hx _ => by rw [if_pos (by omega)],WI.step hmn⟩
      · rintro σ H2 ⟨v3,v4,v5,as,R,rfl,W,WI⟩
        rw [en] at WI
        -- return tuple([tuple(row) for row in rows])
        refine ⟨_,rfl,D,rfl,⟨_,SqL.of W.lst⟩,fun D2 hD2 => comp_allR (fun i v H => ∃ b,v = .ref b ∧ b ≠ D2 ∧ H b = some (.tup (rowV n (R i)))) (src_list (SqL.of W.lst)) hD2 (sl24 (by rw [List.length_map,W.len]; exact hn))
          (fun i v H H' s ⟨b,e,hb,q⟩ => ⟨b,e,hb,s _ _ hb q⟩) (fun i H3 Kt hi hs hy hk => ?_) (fun H3 ys hs hl hp => ?_)⟩
        · rw [List.length_map,W.len] at hi
          obtain ⟨r,r1,r2,r3,r4⟩:=W.get hi
          obtain ⟨zs,hz⟩:=hy
          refine ⟨_,rfl,r,_,by rw [List.getD_eq_getElem?_getD,r2]; rfl,.inl ⟨SqL.of (hs _ _ r4),fun l hl' => ?_⟩⟩
          exact hk _ _ (Same.put hl') ⟨l,rfl,(fun e => by rw [e,hz] at hl'; cases hl'),upd_same⟩
        · refine ⟨D2,_,rfl,.inl ⟨SqL.of hl,fun l hl' => ?_⟩⟩
          have en2 : (as.map V.ref).length = n:=by rw [List.length_map,W.len]
          rw [en2] at hp
          refine k _ _ R ((W.same.trans hs).trans (Same.put hl')) WI.done ⟨l,ys,rfl,upd_same,Paired.mapP hp fun i u ⟨b,e,_,q⟩ => ⟨b,e,Same.put hl' _ _ q⟩⟩
end
theorem pairsV_upd {H : Hp} {L : Addr} {xs ys : List V} (hL : H L = some (.lst xs)) {ps : List (Nat × Nat)} {us : List V} (h : Paired (pairV H) ps us) : Paired (pairV (upd H L (.lst ys))) ps us :=
  Paired.mapP h fun _ _ ⟨t,e,q⟩ => ⟨t,e,by rw [upd_ne (ne_of q hL (fun z => nomatch z))]; exact q⟩
theorem paired_append {α β : Type} {F : α → β → Prop} : ∀ {a b : List α} {c d : List β},Paired F a c → Paired F b d → Paired F (a ++ b) (c ++ d)
  | _,_,_,_,.nil,h => h
  | _,_,_,_,.cons r t,h => .cons r (paired_append t h)
theorem paired_mapL {α β γ : Type} {F : γ → β → Prop} {g : α → γ} : ∀ {a : List α} {c : List β},Paired (fun x y => F (g x) y) a c → Paired F (a.map g) c
  | _,_,.nil => .nil
  | _,_,.cons r t => .cons r (paired_mapL t)
theorem range_flat {α : Type} (i : Nat) (h : Nat → List α) : (List.range (i + 1)).flatMap h = (List.range i).flatMap h ++ h i:=by
  rw [List.range_succ,List.flatMap_append]
  simp
def twosL (n : Nat) : List (Nat × Nat):=(List.range n).flatMap fun l => (List.range (n - (l + 1))).map fun j => (l,l + 1 + j)
theorem mem_twosL {n : Nat} {p : Nat × Nat} (h : p ∈ twosL n) : p.1 < p.2 ∧ p.2 < n:=by
  unfold twosL at h
  rw [List.mem_flatMap] at h
  obtain ⟨l,hl,h⟩:=h
  rw [List.mem_map] at h
  obtain ⟨j,hj,rfl⟩:=h
  simp at hl hj ⊢
  omega
def pairsL (n : Nat) (R : Nat → Nat → Bool) : List (Nat × Nat):=(List.range n).flatMap fun l => ((List.range n).filter fun h => !decide (l = h) && R l h).map fun h => (l,h)
section
variable {P : Program} {w : World} {K : PySem.W.Frag} {mg : Str → Option Value} {base : Heap} {f : Addr} {fd : FuncData}
abbrev s_twos : Stmt:=top 21
theorem sc_twos : FnScope ["count","told","low"] ["count"] (defScope s_twos):=⟨rfl,rfl,rfl,by decide +kernel,rfl,by decide +kernel,by decide +kernel⟩
def sp_twos : Sp:=fun vs H Q _ => ∃ n : Nat,vs = [.int n] ∧ n ≤ 24 ∧ ∀ l us H',Same H H' → H' l = some (.lst us) → Paired (pairV H') (twosL n) us → Q (.ref l) H'
theorem ok_twos (F : Fun K "twos" "twos" s_twos f fd) (T : Txt mg) : FnOk P w K mg base CX0 1 f fd ["count"] sp_twos:=by
  refine F.ok sc_twos (fun vs H Q E h => ?_) (fun cdv A outer s H vs Q E hr h => ?_)
  · obtain ⟨n,rfl,_⟩:=h
    rfl
  · obtain ⟨n,rfl,hn,k⟩:=h
    have nd:=sc_twos.nd
    have en : ((n : Int)).toNat = n:=Int.toNat_natCast n
    refine ⟨_,(pss_cons (ps_set (i:=1) nd rfl (Or.inl rfl) (pe_lst pa_nil))
      (pss_cons (ps_for PassesOwn.never rfl (pi_range1 rfl T.range (pa_cons (pv 0) pa_nil)) (pg_name (i:=2) nd rfl (Or.inr rfl))
      (pss_one (ps_expr (pe_bmK (K:=K) rfl PySem.F.plainAttrs_list PySem.F.slot_list_extend PySem.F.type_list_extend mt_extend (pv 1) (pa_cons (pe_comp (own:=["high"]) (fr:=[("low", 2)]) rfl (blkOk (defScope s_twos) ["count","told","low"] rfl rfl (by decide +kernel)) (pi_range2 rfl T.range (pa_cons (pe_op op_add (pv 2) pe_int) (pa_cons (pv 0) pa_nil))) (fun _ _ _ _ => ⟨(pg_name (i:=0) (by decide +kernel : (["high","low"] : List Str).Nodup) rfl (Or.inl rfl)),pif_nil,(pe_tup (pa_cons (pv 1) (pa_cons (pv 0) pa_nil)))⟩)) pa_nil)))))
      (pss_one (ps_ret (pv 1))))),?_⟩
    refine ⟨by show 0 ≤ sizeLine; decide,fun L hL => ?_⟩
    refine ⟨_,rfl,n,rfl,(n62 (by omega)).1,(n62 (by omega)).2,for_range (lo:=0) (n:=((n : Int)).toNat) (fun i σ H2 => ∃ v2 us,σ = [some (.int n),some (.ref L),v2] ∧ Same H H2 ∧ H2 L = some (.lst us) ∧ us.length ≤ 24 * i ∧
      Paired (pairV H2) ((List.range i).flatMap fun l => (List.range (n - (l + 1))).map fun j => (l,l + 1 + j)) us) ⟨none,[],rfl,Same.put hL,upd_same,by simp,.nil⟩ ?_ ?_⟩
    · rintro i σ H2 hi ⟨v2,us,rfl,s2,hl,hlen,hp⟩
      have hin : i < n:=by omega
      refine ⟨_,rfl,.inl ⟨rfl,_,SqL.of hl⟩,?_⟩
      refine ⟨_,rfl,_,_,rfl,rfl,_,rfl,(0 + (i : Int) + 1),n,rfl,⟨by omega,by omega,by omega,by omega⟩,fun D hD => ?_⟩
      refine comp_allR (fun j v H => ∃ t,v = .ref t ∧ t ≠ D ∧ H t = some (.tup [.int i,.int ((i + 1 + j : Nat) : Int)])) src_range hD (sl24 (by omega)) (fun j v H H' s ⟨b,e,hb,q⟩ => ⟨b,e,hb,s _ _ hb q⟩) (fun j H3 Kt hj hs hy hk => ?_) (fun H3 ys hs hl3 hp3 => ?_)
      · obtain ⟨zs,hz⟩:=hy
        refine ⟨_,rfl,_,rfl,by show 2 ≤ sizeLine; decide,fun t ht => ?_⟩
        refine hk _ _ (Same.put ht) ⟨t,rfl,(fun e => by rw [e,hz] at ht; cases ht),?_⟩
        rw [upd_same]
        congr 4
        · omega
        · congr 1
          push_cast
          omega
      · have hDL : D ≠ L:=fun e => by rw [e,hl] at hD; cases hD
        have hly : ys.length = n - (i + 1):=by
          have:=Paired.length hp3
          simp at this
          omega
        refine ⟨L,D,us,ys,rfl,rfl,hs _ _ hl,hl3,by have := @slk 100000 (by omega); omega,?_⟩
        refine ⟨_,us ++ ys,rfl,?_,upd_same,by rw [List.length_append]; omega,?_⟩
        · intro b o e
          rw [upd_ne (fun z => by rw [z,hL] at e; cases e)]
          exact hs _ _ (s2 _ _ e)
        · rw [range_flat]
          refine pairsV_upd (hs _ _ hl) (paired_append (pairsV.same hs hp) (paired_mapL ?_))
          have ec : ((n : Int) - (0 + (i : Int) + 1)).toNat = n - (i + 1):=by omega
          rw [ec] at hp3
          exact Paired.mapP hp3 fun j v ⟨t,e,_,q⟩ => ⟨t,e,q⟩
    · rintro σ H2 ⟨v2,us,rfl,s2,hl,hlen,hp⟩
      rw [en] at hp
      exact ⟨_,rfl,k L us H2 s2 hl hp⟩
abbrev s_need_one_way : Stmt:=top 22
theorem sc_need_one_way : FnScope ["count","reach","two"] ["count","reach"] (defScope s_need_one_way):=⟨rfl,rfl,rfl,by decide +kernel,rfl,by decide +kernel,by decide +kernel⟩
def sp_need_one_way : Sp:=fun vs H Q _ => ∃ (n : Nat) (v : V) (R : Nat → Nat → Bool),vs = [.int n,v] ∧ TT H v n (blF R) ∧ n ≤ 24 ∧ (∀ a b,a < b → b < n → ¬ (R a b = true ∧ R b a = true)) ∧ ∀ H',Same H H' → Q .non H'
theorem ok_need_one_way (F : Fun K "need_one_way" "need_one_way" s_need_one_way f fd) (T : Txt mg) (c_twos : Cal P w K mg base "twos" ["count"] 1 sp_twos) : FnOk P w K mg base CX0 2 f fd ["count","reach"] sp_need_one_way:=by
  refine F.ok sc_need_one_way (fun vs H Q E h => ?_) (fun cdv A outer s H vs Q E hr h => ?_)
  · obtain ⟨n,v,R,rfl,_⟩:=h
    rfl
  · obtain ⟨n,v,R,rfl,ht,hn,ha,k⟩:=h
    have nd:=sc_need_one_way.nd
    refine ⟨_,(pss_one (ps_for PassesOwn.never rfl (pi_listK (K:=K) rfl (pe_callC c_twos hr rfl (pa_cons (pv 0) pa_nil))) (pg_name (i:=2) nd rfl (Or.inl rfl))
      (pss_one (ps_if (PW.pt (pw_and (pt_val (pe_ix (ix_tupK (K:=K) rfl) (pe_ix (ix_tupK (K:=K) rfl) (pv 1) (pe_ix (ix_tupK (K:=K) rfl) (pv 2) pe_int (fun _ _ => rfl)) (fun _ _ => rfl)) (pe_ix (ix_tupK (K:=K) rfl) (pv 2) pe_int (fun _ _ => rfl)) (fun _ _ => rfl))) (pw_and1 (pt_val (pe_ix (ix_tupK (K:=K) rfl) (pe_ix (ix_tupK (K:=K) rfl) (pv 1) (pe_ix (ix_tupK (K:=K) rfl) (pv 2) pe_int (fun _ _ => rfl)) (fun _ _ => rfl)) (pe_ix (ix_tupK (K:=K) rfl) (pv 2) pe_int (fun _ _ => rfl)) (fun _ _ => rfl)))))) (pss_one ps_never) pss_nil)))),?_⟩
    refine ⟨_,rfl,n,rfl,hn,fun l us H1 s1 hl hp => ⟨l,rfl,⟨_,SqL.of hl⟩,for_list (K:=K) (a:=l) (xs:=us) (fun i σ H2 => ∃ v2,σ = [some (.int n),some v,v2] ∧ Same H1 H2) ⟨none,rfl,Same.refl _⟩ (fun i σ H2 _ ⟨_,_,s2⟩ => SqL.of (s2 _ _ hl)) ?_ ?_⟩⟩
    · rintro i y σ H2 hi ⟨v2,rfl,s2⟩
      obtain ⟨p,hp1,t,rfl,htt⟩:=paired_get hp hi
      obtain ⟨b1,b2⟩:=mem_twosL (List.mem_of_getElem? hp1)
      obtain ⟨a,vs,r1,rfl,q1,q2,q3,q4⟩:=(ht.same (s1.trans s2)).row (show p.1 < n by omega)
      obtain ⟨a',vs',r2,e',q1',q2',q3',q4'⟩:=(ht.same (s1.trans s2)).row b2
      cases e'
      rw [q1] at q1'
      cases q1'
      have htt2:=s2 _ _ htt
      refine ⟨_,rfl,_,rfl,t,_,0,_,rfl,rfl,SqT.of htt2,rfl,a,_,_,_,rfl,rfl,SqT.of q1,atI_nat q3,_,rfl,t,_,1,_,rfl,rfl,SqT.of htt2,rfl,r1,_,_,_,rfl,rfl,SqT.of q4,at_row b2,_,rfl,ite2 (fun h => ?_) (fun h => ?_)⟩
      · refine ⟨_,rfl,_,rfl,t,_,1,_,rfl,rfl,SqT.of htt2,rfl,a,_,_,_,rfl,rfl,SqT.of q1,atI_nat q3',_,rfl,t,_,0,_,rfl,rfl,SqT.of htt2,rfl,r2,_,_,_,rfl,rfl,SqT.of q4',at_row (show p.1 < n by omega),_,rfl,ite2 (fun h' => ?_) (fun h' => ?_)⟩
        · exact absurd ⟨h,h'⟩ (ha _ _ b1 b2)
        · exact ⟨_,rfl,s2⟩
      · refine iteF ?_
        exact ⟨_,rfl,s2⟩
    · rintro σ H2 ⟨v2,rfl,s2⟩
      exact k _ (s1.trans s2)
end
def keyRow (n : Nat) (p : Nat → Bool) : List Key:=(List.range n).map fun b => Sum.inl (if p b then 1 else 0)
theorem keyRow_inj {n : Nat} {p q : Nat → Bool} (h : keyRow n p = keyRow n q) : ∀ b,b < n → p b = q b:=by
  intro b hb
  have:=congrArg (fun l => l[b]?) h
  simp only [keyRow,List.getElem?_map,List.getElem?_range hb,Option.map_some,Option.some.injEq,Sum.inl.injEq] at this
  cases hp : p b <;> cases hq : q b <;> simp [hp,hq] at this ⊢
theorem keyRow_congr {n : Nat} {p q : Nat → Bool} (h : ∀ b,b < n → p b = q b) : keyRow n p = keyRow n q:=by
  unfold keyRow
  apply List.map_congr_left
  intro b hb
  rw [h b (by simpa using hb)]
theorem kVs_row (p : Nat → Bool) : ∀ l : List Nat,kVs (l.map fun b => (Sum.inl (if p b then 1 else 0) : Key)) (l.map fun b => V.bl (p b))
  | [] => .nil
  | b :: r => .cons (.inr ⟨p b,rfl,rfl⟩) (kVs_row p r)
theorem tupKey {H : Hp} {b : Addr} {n : Nat} {p : Nat → Bool} (h : H b = some (.tup (rowV n p))) : TupKey H b (keyRow n p):=⟨_,kVs_row p _,h⟩
def kvsL (n : Nat) (R : Nat → Nat → Bool) : Nat → List (List Key × V)
  | 0 => []
  | i + 1 => kvsL n R i ++ [(keyRow n (R i),.int i)]
theorem kvsL_len (n : Nat) (R : Nat → Nat → Bool) : ∀ i,(kvsL n R i).length = i
  | 0 => rfl
  | i + 1 => by rw [kvsL,List.length_append,kvsL_len n R i]; rfl
theorem mem_not (l : List (List Key × V)) {k k' : List Key} {v : V} (e : ¬ k' = k) (h : valV l k = none) : valV (l ++ [(k',v)]) k = none:=by
  induction l with
  | nil => exact valV_neg (p:=(k',v)) e
  | cons p r ih =>
    rw [List.cons_append]
    by_cases q : p.1 = k
    · rw [valV_pos q] at h; cases h
    · rw [valV_neg q] at h ⊢; exact ih h
theorem kvsL_none {n : Nat} {R : Nat → Nat → Bool} {k : List Key} : ∀ {i : Nat},(∀ c,c < i → keyRow n (R c) ≠ k) → valV (kvsL n R i) k = none
  | 0,_ => rfl
  | i + 1,h => by
    have ih:=kvsL_none (n:=n) (R:=R) (k:=k) (i:=i) fun c hc => h c (by omega)
    have hk : valV (kvsL n R i) k = none:=ih
    rw [kvsL]
    have e : ¬ keyRow n (R i) = k:=h i (by omega)
    exact mem_not (kvsL n R i) e hk
theorem kvsL_some {n : Nat} {R : Nat → Nat → Bool} (dis : ∀ i j,i < n → j < n → (∀ b,b < n → R i b = R j b) → i = j) {c : Nat} (hc : c < n) : ∀ {i : Nat},i ≤ n → c < i → valV (kvsL n R i) (keyRow n (R c)) = some (.int c)
  | 0,_,h => by omega
  | i + 1,hi,h => by
    rw [kvsL,valV_snoc _ _ _ _ (kvsL_none fun d hd e => by have:=dis d i (by omega) (by omega) (keyRow_inj e); omega)]
    by_cases e : c = i
    · subst e; rw [if_pos rfl]
    · rw [if_neg (fun z => e (dis c i hc (by omega) (keyRow_inj z)))]
      exact kvsL_some dis hc (by omega) (by omega)
def endV (n : Nat) (R : Nat → Nat → Bool) (a b : Nat) : V:=(valV (kvsL n R n) (keyRow n fun x => R a x && R b x)).getD .non
theorem endV_some {n : Nat} {R : Nat → Nat → Bool} (dis : ∀ i j,i < n → j < n → (∀ b,b < n → R i b = R j b) → i = j) {a b c : Nat} (hc : c < n) (h : ∀ x,x < n → R c x = (R a x && R b x)) : endV n R a b = .int c:=by
  unfold endV
  rw [← keyRow_congr h,kvsL_some dis hc (Nat.le_refl _) hc]
  rfl
section
variable {P : Program} {w : World} {K : PySem.W.Frag} {mg : Str → Option Value} {base : Heap} {f : Addr} {fd : FuncData}
def RowsT (H : Hp) (n : Nat) (R : Nat → Nat → Bool) (us : List V) : Prop:=Paired (fun i u => ∃ b,u = .ref b ∧ H b = some (.tup (rowV n (R i)))) (List.range n) us
theorem RowsT.same {H H' : Hp} {n : Nat} {R : Nat → Nat → Bool} {us : List V} (s : Same H H') (h : RowsT H n R us) : RowsT H' n R us:=Paired.mapP h fun _ _ ⟨b,e,q⟩ => ⟨b,e,s _ _ q⟩
theorem RowsT.len {H : Hp} {n : Nat} {R : Nat → Nat → Bool} {us : List V} (h : RowsT H n R us) : us.length = n:=by simpa using (Paired.length h).symm
theorem RowsT.get {H : Hp} {n : Nat} {R : Nat → Nat → Bool} {us : List V} (h : RowsT H n R us) {i : Nat} (hi : i < n) : ∃ b,us[i]? = some (.ref b) ∧ H b = some (.tup (rowV n (R i))):=by
  obtain ⟨y,h1,b,rfl,h2⟩:=paired_get' (i:=i) (x:=i) h (List.getElem?_range hi)
  exact ⟨b,h1,h2⟩
abbrev s_ends_with : Stmt:=top 23
theorem sc_ends_with : FnScope ["rows","things","thing"] ["rows","things","thing"] (defScope s_ends_with):=⟨rfl,rfl,rfl,by decide +kernel,rfl,by decide +kernel,by decide +kernel⟩
def sp_ends_with (K : PySem.W.Frag) : Sp:=fun vs H Q _ => ∃ (c : Bool) (a d t n : Nat) (us : List V) (R : Nat → Nat → Bool) (kvs : List (List Key × V)),vs = [.ref a,.ref d,.int t] ∧ Sq c K H a us ∧ RowsT H n R us ∧ H d = some (.dT kvs) ∧ t < n ∧ n ≤ 24 ∧
  ∀ l H',Same H H' → H l = none → H' l = some (.tup ((List.range n).map fun j => (valV kvs (keyRow n fun b => R t b && R j b)).getD .non)) → Q (.ref l) H'
theorem ok_ends_with (F : Fun K "ends_with" "ends_with" s_ends_with f fd) (T : Txt mg) (c_shared : Cal P w K mg base "shared" ["one","other"] 1 sp_shared) : FnOk P w K mg base CX0 2 f fd ["rows","things","thing"] (sp_ends_with K):=by
  refine F.ok sc_ends_with (fun vs H Q E h => ?_) (fun cdv A outer s H vs Q E hr h => ?_)
  · obtain ⟨c,a,d,t,n,us,R,kvs,rfl,_⟩:=h
    rfl
  · obtain ⟨c,a,d,t,n,us,R,kvs,rfl,hq,hrow,hd,ht,hn,k⟩:=h
    have nd:=sc_ends_with.nd
    have hu:=hu_of hr
    refine ⟨_,(pss_one (ps_ret (pe_callTy (call_tupleK (K:=K) rfl) rfl T.tuple bt_tuple (pa_cons (pe_comp (own:=["row"]) (fr:=[("things", 1),("rows", 0),("thing", 2)]) rfl (blkOk (defScope s_ends_with) ["rows","things","thing"] rfl rfl (by decide +kernel)) (pi_sqK (K:=K) c rfl (pv 0)) (fun _ _ _ _ => ⟨(pg_name (i:=0) (by decide +kernel : (["row","things","rows","thing"] : List Str).Nodup) rfl (Or.inl rfl)),pif_nil,(pe_dget1 hu (pv 1) (pe_callC c_shared hr rfl (pa_cons (pe_ix (ix_sqK (K:=K) c rfl) (pv 2) (pv 3) (fun _ _ => rfl)) (pa_cons (pv 0) pa_nil))) ⟨rfl,rfl,rfl,rfl⟩)⟩)) pa_nil)))),?_⟩
    refine ⟨_,rfl,a,rfl,⟨_,hq⟩,fun D hD => comp_all (fun j => (valV kvs (keyRow n fun b => R t b && R j b)).getD .non) (src_sq hq) hD (sl24 (by rw [hrow.len]; exact hn)) (fun i H2 Kt hi hs hk => ?_) (fun H' hs hl => ?_)⟩
    · rw [hrow.len] at hi
      obtain ⟨bt,t1,t2⟩:=hrow.get ht
      obtain ⟨bi,i1,i2⟩:=hrow.get hi
      refine ⟨_,rfl,d,rfl,.inr ⟨kvs,.inl (hs _ _ hd)⟩,?_⟩
      refine ⟨_,rfl,_,rfl,a,us,_,_,rfl,rfl,hs.sq hq,atI_nat t1,_,rfl,⟨bt,bi,n,R t,R i,by rw [List.getD_eq_getElem?_getD,i1]; rfl,hs _ _ t2,hs _ _ i2,hn⟩,fun v H3 s3 hv => ?_⟩
      obtain ⟨b,rfl,q1,q2⟩:=hv bt bi n (R t) (R i) (by rw [List.getD_eq_getElem?_getD,i1]; rfl) (hs _ _ t2) (hs _ _ i2)
      exact ⟨_,DGet.t (s3 _ _ (hs _ _ hd)) (tupKey q2),hk _ s3⟩
    · refine ⟨D,_,rfl,.inl ⟨SqL.of hl,fun l hl' => ?_⟩⟩
      rw [hrow.len]
      exact k l _ (hs.trans (Same.put hl')) (hs.free hl') upd_same
abbrev s_ends_of : Stmt:=top 24
theorem sc_ends_of : FnScope ["rows","things","thing","row"] ["rows"] (defScope s_ends_of):=⟨rfl,rfl,rfl,by decide +kernel,rfl,by decide +kernel,by decide +kernel⟩
def sp_ends_of (K : PySem.W.Frag) : Sp:=fun vs H Q _ => ∃ (c : Bool) (a n : Nat) (us : List V) (R : Nat → Nat → Bool),vs = [.ref a] ∧ Sq c K H a us ∧ RowsT H n R us ∧ n ≤ 24 ∧ (∀ i j,i < n → j < n → (∀ b,b < n → R i b = R j b) → i = j) ∧
  ∀ v H',Same H H' → TT H' v n (endV n R) → Q v H'
theorem ok_ends_of (F : Fun K "ends_of" "ends_of" s_ends_of f fd) (T : Txt mg) (c_ends_with : Cal P w K mg base "ends_with" ["rows","things","thing"] 2 (sp_ends_with K)) : FnOk P w K mg base CX0 3 f fd ["rows"] (sp_ends_of K):=by
  refine F.ok sc_ends_of (fun vs H Q E h => ?_) (fun cdv A outer s H vs Q E hr h => ?_)
  · obtain ⟨c,a,n,us,R,rfl,_⟩:=h
    rfl
  · obtain ⟨c,a,n,us,R,rfl,hq,hrow,hn,dis,k⟩:=h
    have nd:=sc_ends_of.nd
    have hu:=hu_of hr
    have hlen:=hrow.len
    refine ⟨_,(pss_cons (ps_set (i:=1) nd rfl (Or.inr rfl) pe_dnewT)
      (pss_cons (ps_for PassesOwn.never rfl (pi_enumK (K:=K) c rfl rfl T.enumerate (pa_cons (pv 0) pa_nil)) (pg_pair (K:=K) (i:=2) (j:=3) rfl rfl nd rfl rfl rfl rfl)
      (pss_one (ps_dput hu (pv 1) (pv 3) (pv 2) rfl)))
      (pss_one (ps_ret (pe_callTy (call_tupleK (K:=K) rfl) rfl T.tuple bt_tuple (pa_cons (pe_comp (own:=["thing"]) (fr:=[("rows", 0),("things", 1)]) rfl (blkOk (defScope s_ends_of) ["rows","things","thing","row"] rfl rfl (by decide +kernel)) (pi_range1 rfl T.range (pa_cons (pe_callB (call_lenK (K:=K) rfl) rfl T.len PySem.boot_len (pa_cons (pv 0) pa_nil)) pa_nil)) (fun _ _ _ _ => ⟨(pg_name (i:=0) (by decide +kernel : (["thing","rows","things"] : List Str).Nodup) rfl (Or.inl rfl)),pif_nil,(pe_callC c_ends_with hr rfl (pa_cons (pv 1) (pa_cons (pv 2) (pa_cons (pv 0) pa_nil (star_of (fun _ _ h => nomatch h))) (star_of (fun _ _ h => nomatch h))) (star_of (fun _ _ h => nomatch h))))⟩)) pa_nil)))))),?_⟩
    intro d hd
    -- for thing,row in enumerate(rows): things[row] = thing
    refine ⟨_,rfl,a,us,rfl,(Same.put hd).sq hq,for_enum (K:=K) (c:=c) (l:=a) (xs:=us) (fun i σ H2 => ∃ v2 v3,σ = [some (.ref a),some (.ref d),v2,v3] ∧ Same H H2 ∧ H2 d = some (.dT (kvsL n R i)) ∧ i ≤ n)
      ⟨none,none,rfl,Same.put hd,upd_same,Nat.zero_le _⟩ (fun i σ H2 ⟨_,_,_,s2,_⟩ => s2.sq hq) ?_ ?_⟩
    · rintro i x σ H2 t hx ht ⟨v2,v3,rfl,s2,h2,hi⟩
      have hin : i < n:=by rw [← hlen]; exact (List.getElem?_eq_some_iff.mp hx).1
      obtain ⟨bi,i1,i2⟩:=hrow.get hin
      rw [i1] at hx
      cases hx
      refine ⟨t,_,rfl,SqT.of upd_same,rfl,_,_,rfl,_,_,rfl,rfl,?_⟩
      have hdt : d ≠ t:=fun e => by rw [← e,h2] at ht; cases ht
      have h2' : (upd H2 t (.tup [.int i,.ref bi])) d = some (.dT (kvsL n R i)):=by rw [upd_ne hdt]; exact h2
      have i3 : (upd H2 t (.tup [.int i,.ref bi])) bi = some (.tup (rowV n (R i))):=Same.put ht _ _ (s2 _ _ i2)
      have hnone : valV (kvsL n R i) (keyRow n (R i)) = none:=kvsL_none fun c' hc' e => by have:=dis c' i (by omega) hin (keyRow_inj e); omega
      refine ⟨_,rfl,_,rfl,_,rfl,d,_,rfl,DPut.t h2' (tupKey i3) (by rw [kvsL_len]; exact sl24 (by omega)),?_⟩
      refine ⟨_,_,rfl,?_,?_,hin⟩
      · intro b o e
        rw [upd_ne (fun z => by rw [z,hd] at e; cases e)]
        exact Same.put ht _ _ (s2 _ _ e)
      · rw [upd_same,putK_new _ hnone]
        rfl
    · rintro σ H2 ⟨v2,v3,rfl,s2,h2,hi⟩
      rw [hlen] at h2
      -- return tuple([ends_with(rows,things,thing) for thing in range(len(rows))])
      have hq2 : SqL K H2 a us ∨ SqT K H2 a us:=by
        have:=s2.sq hq
        cases c with
        | true => exact .inl this
        | false => exact .inr this
      refine ⟨_,rfl,a,us,rfl,hq2,us.length,rfl,(n62 (by omega)).1,(n62 (by omega)).2,fun D hD => ?_⟩
      rw [hlen]
      refine comp_allR (fun i v H => ∃ b,v = .ref b ∧ b ≠ D ∧ H b = some (.tup ((List.range n).map (endV n R i)))) src_range hD (sl24 (by simpa using hn)) (fun i v H H' s ⟨b,e,hb,q⟩ => ⟨b,e,hb,s _ _ hb q⟩) (fun i H3 Kt hi hs hy hk => ?_) (fun H3 ys hs hl hp => ?_)
      · have hin : i < n:=by simpa using hi
        obtain ⟨zs,hz⟩:=hy
        refine ⟨_,rfl,_,rfl,_,rfl,c,a,d,i,n,us,R,_,by simp,hs.sq (s2.sq hq),(hrow.same s2).same hs,hs _ _ h2,hin,hn,fun l H4 s4 h4 q4 => ?_⟩
        exact hk _ H4 s4 ⟨l,rfl,(fun e => by rw [e,hz] at h4; cases h4),q4⟩
      · refine ⟨D,_,rfl,.inl ⟨SqL.of hl,fun l hl' => ?_⟩⟩
        have en : ((n : Int)).toNat = n:=Int.toNat_natCast n
        rw [en] at hp
        exact k _ _ ((s2.trans hs).trans (Same.put hl')) ⟨l,ys,rfl,upd_same,Paired.mapP hp fun i u ⟨b,e,_,q⟩ => ⟨b,e,Same.put hl' _ _ q⟩⟩
end
theorem map_get {α : Type} {n : Nat} {g : Nat → α} {j : Nat} (h : j < n) : ((List.range n).map g)[j]? = some (g j):=by simp [h]
section
variable {P : Program} {w : World} {K : PySem.W.Frag} {mg : Str → Option Value} {base : Heap} {f : Addr} {fd : FuncData}
abbrev s_need_ends : Stmt:=top 25
theorem sc_need_ends : FnScope ["count","joins","meets","two"] ["count","joins","meets"] (defScope s_need_ends):=⟨rfl,rfl,rfl,by decide +kernel,rfl,by decide +kernel,by decide +kernel⟩
def sp_need_ends : Sp:=fun vs H Q _ => ∃ (n : Nat) (v u : V) (g g' : Nat → Nat → V),vs = [.int n,v,u] ∧ TT H v n g ∧ TT H u n g' ∧ n ≤ 24 ∧ (∀ a b,a < n → b < n → g a b ≠ .non ∧ g' a b ≠ .non) ∧ ∀ H',Same H H' → Q .non H'
theorem ok_need_ends (F : Fun K "need_ends" "need_ends" s_need_ends f fd) (T : Txt mg) (c_twos : Cal P w K mg base "twos" ["count"] 1 sp_twos) : FnOk P w K mg base CX0 2 f fd ["count","joins","meets"] sp_need_ends:=by
  refine F.ok sc_need_ends (fun vs H Q E h => ?_) (fun cdv A outer s H vs Q E hr h => ?_)
  · obtain ⟨n,v,u,g,g',rfl,_⟩:=h
    rfl
  · obtain ⟨n,v,u,g,g',rfl,ht,ht',hn,ha,k⟩:=h
    have nd:=sc_need_ends.nd
    refine ⟨_,(pss_one (ps_for PassesOwn.never rfl (pi_listK (K:=K) rfl (pe_callC c_twos hr rfl (pa_cons (pv 0) pa_nil))) (pg_name (i:=3) nd rfl (Or.inl rfl))
      (pss_one (ps_if (PW.pt (pw_or (pt_cmpR op_isN (pe_ix (ix_tupK (K:=K) rfl) (pe_ix (ix_tupK (K:=K) rfl) (pv 1) (pe_ix (ix_tupK (K:=K) rfl) (pv 3) pe_int (fun _ _ => rfl)) (fun _ _ => rfl)) (pe_ix (ix_tupK (K:=K) rfl) (pv 3) pe_int (fun _ _ => rfl)) (fun _ _ => rfl)) pe_non (nomark _)) (pw_or1 (pt_cmpR op_isN (pe_ix (ix_tupK (K:=K) rfl) (pe_ix (ix_tupK (K:=K) rfl) (pv 2) (pe_ix (ix_tupK (K:=K) rfl) (pv 3) pe_int (fun _ _ => rfl)) (fun _ _ => rfl)) (pe_ix (ix_tupK (K:=K) rfl) (pv 3) pe_int (fun _ _ => rfl)) (fun _ _ => rfl)) pe_non (nomark _))))) (pss_one ps_never) pss_nil)))),?_⟩
    refine ⟨_,rfl,n,rfl,hn,fun l us H1 s1 hl hp => ⟨l,rfl,⟨_,SqL.of hl⟩,for_list (K:=K) (a:=l) (xs:=us) (fun i σ H2 => ∃ v2,σ = [some (.int n),some v,some u,v2] ∧ Same H1 H2) ⟨none,rfl,Same.refl _⟩ (fun i σ H2 _ ⟨_,_,s2⟩ => SqL.of (s2 _ _ hl)) ?_ ?_⟩⟩
    · rintro i y σ H2 hi ⟨v2,rfl,s2⟩
      obtain ⟨p,hp1,t,rfl,htt⟩:=paired_get hp hi
      obtain ⟨b1,b2⟩:=mem_twosL (List.mem_of_getElem? hp1)
      have hp0 : p.1 < n:=by omega
      obtain ⟨a,vs,r1,rfl,q1,q2,q3,q4⟩:=(ht.same (s1.trans s2)).row hp0
      obtain ⟨a',vs',r2,rfl,q1',q2',q3',q4'⟩:=(ht'.same (s1.trans s2)).row hp0
      have htt2:=s2 _ _ htt
      obtain ⟨n1,n2⟩:=ha _ _ hp0 b2
      refine ⟨_,rfl,_,rfl,t,_,0,_,rfl,rfl,SqT.of htt2,rfl,a,_,_,_,rfl,rfl,SqT.of q1,atI_nat q3,_,rfl,t,_,1,_,rfl,rfl,SqT.of htt2,rfl,r1,_,_,_,rfl,rfl,SqT.of q4,at_row b2,rfl,_,rfl,?_⟩
      rw [decide_eq_false n1]
      refine iteF ?_
      refine ⟨_,rfl,_,rfl,t,_,0,_,rfl,rfl,SqT.of htt2,rfl,a',_,_,_,rfl,rfl,SqT.of q1',atI_nat q3',_,rfl,t,_,1,_,rfl,rfl,SqT.of htt2,rfl,r2,_,_,_,rfl,rfl,SqT.of q4',at_row b2,rfl,_,rfl,?_⟩
      rw [decide_eq_false n2]
      refine iteF ?_
      exact ⟨_,rfl,s2⟩
    · rintro σ H2 ⟨v2,rfl,s2⟩
      exact k _ (s1.trans s2)
abbrev s_pairs_of : Stmt:=top 26
theorem sc_pairs_of : FnScope ["count","reach","told","low"] ["count","reach"] (defScope s_pairs_of):=⟨rfl,rfl,rfl,by decide +kernel,rfl,by decide +kernel,by decide +kernel⟩
def PairsT (H : Hp) (v : V) (ps : List (Nat × Nat)) : Prop := ∃ a us,v = .ref a ∧ H a = some (.tup us) ∧ Paired (pairV H) ps us
theorem PairsT.same {H H' : Hp} {v : V} {ps : List (Nat × Nat)} (s : Same H H') (h : PairsT H v ps) : PairsT H' v ps:=let ⟨a,us,e,q,r⟩:=h; ⟨a,us,e,s _ _ q,pairsV.same s r⟩
def sp_pairs_of : Sp:=fun vs H Q _ => ∃ (n : Nat) (v : V) (R : Nat → Nat → Bool),vs = [.int n,v] ∧ TT H v n (blF R) ∧ n ≤ 24 ∧ ∀ u H',Same H H' → PairsT H' u (pairsL n R) → Q u H'
theorem ok_pairs_of (F : Fun K "pairs_of" "pairs_of" s_pairs_of f fd) (T : Txt mg) : FnOk P w K mg base CX0 1 f fd ["count","reach"] sp_pairs_of:=by
  refine F.ok sc_pairs_of (fun vs H Q E h => ?_) (fun cdv A outer s H vs Q E hr h => ?_)
  · obtain ⟨n,v,R,rfl,_⟩:=h
    rfl
  · obtain ⟨n,v,R,rfl,ht,hn,k⟩:=h
    have nd:=sc_pairs_of.nd
    have en : ((n : Int)).toNat = n:=Int.toNat_natCast n
    refine ⟨_,(pss_cons (ps_set (i:=2) nd rfl (Or.inl rfl) (pe_lst pa_nil))
      (pss_cons (ps_for PassesOwn.never rfl (pi_range1 rfl T.range (pa_cons (pv 0) pa_nil)) (pg_name (i:=3) nd rfl (Or.inr rfl))
      (pss_one (ps_expr (pe_bmK (K:=K) rfl PySem.F.plainAttrs_list PySem.F.slot_list_extend PySem.F.type_list_extend mt_extend (pv 2) (pa_cons (pe_comp (own:=["high"]) (fr:=[("low", 3),("reach", 1)]) rfl (blkOk (defScope s_pairs_of) ["count","reach","told","low"] rfl rfl (by decide +kernel)) (pi_range1 rfl T.range (pa_cons (pv 0) pa_nil)) (fun _ _ _ _ => ⟨(pg_name (i:=0) (by decide +kernel : (["high","low","reach"] : List Str).Nodup) rfl (Or.inl rfl)),(pif_one (PW.pt (pw_and (pt_cmpR op_ne (pv 1) (pv 0) (nomark _)) (pw_and1 (pt_val (pe_ix (ix_tupK (K:=K) rfl) (pe_ix (ix_tupK (K:=K) rfl) (pv 2) (pv 1) (fun _ _ => rfl)) (pv 0) (fun _ _ => rfl))))))),(pe_tup (pa_cons (pv 1) (pa_cons (pv 0) pa_nil)))⟩)) pa_nil)))))
      (pss_one (ps_ret (pe_callTy (call_tupleK (K:=K) rfl) rfl T.tuple bt_tuple (pa_cons (pv 2) pa_nil)))))),?_⟩
    refine ⟨by show 0 ≤ sizeLine; decide,fun L hL => ?_⟩
    refine ⟨_,rfl,n,rfl,(n62 (by omega)).1,(n62 (by omega)).2,for_range (lo:=0) (n:=((n : Int)).toNat) (fun i σ H2 => ∃ v3 us,σ = [some (.int n),some v,some (.ref L),v3] ∧ Same H H2 ∧ H2 L = some (.lst us) ∧ us.length ≤ 24 * i ∧
      Paired (pairV H2) ((List.range i).flatMap fun l => ((List.range n).filter fun h => !decide (l = h) && R l h).map fun h => (l,h)) us) ⟨none,[],rfl,Same.put hL,upd_same,by simp,.nil⟩ ?_ ?_⟩
    · rintro i σ H2 hi ⟨v3,us,rfl,s2,hl,hlen,hp⟩
      have hin : i < n:=by omega
      refine ⟨_,rfl,.inl ⟨rfl,_,SqL.of hl⟩,?_⟩
      refine ⟨_,rfl,n,rfl,(n62 (by omega)).1,(n62 (by omega)).2,fun D hD => ?_⟩
      refine comp_rel (fun j => !decide (i = j) && R i j) (fun j v H => ∃ t,v = .ref t ∧ t ≠ D ∧ H t = some (.tup [.int i,.int (j : Int)])) src_range hD (sl24 (by omega)) (fun j v H H' s ⟨b,e,hb,q⟩ => ⟨b,e,hb,s _ _ hb q⟩) (fun j H3 Kt Kf hj hs hy hkt hkf => ?_) (fun H3 ys hs hl3 hp3 => ?_)
      · have hjn : j < n:=by omega
        obtain ⟨zs,hz⟩:=hy
        obtain ⟨a,vs,r1,rfl,q1,q2,q3,q4⟩:=(ht.same (s2.trans hs)).row hin
        refine ⟨_,rfl,_,rfl,rfl,_,rfl,?_⟩
        have ed : (!decide (V.int (0 + (i : Int)) = V.int (0 + (j : Int)))) = !decide (i = j):=by
          congr 1
          rw [Int.zero_add]
          exact decV
        rw [ed]
        refine ite2 (fun h => ?_) (fun h => ?_)
        · refine ⟨_,rfl,_,rfl,a,_,_,_,rfl,rfl,SqT.of q1,at0 q3,_,rfl,r1,_,_,_,rfl,rfl,SqT.of q4,at0 (map_get hjn),_,rfl,ite2 (fun h' => ?_) (fun h' => ?_)⟩
          · refine ⟨_,rfl,_,rfl,by show 2 ≤ sizeLine; decide,fun t ht => ?_⟩
            refine hkt _ _ (by rw [h,h',Bool.true_and]) (Same.put ht) ⟨t,rfl,(fun e => by rw [e,hz] at ht; cases ht),?_⟩
            rw [upd_same,Int.zero_add,Int.zero_add]
          · exact hkf _ (by rw [h,Bool.true_and]; simpa using h') (Same.refl _)
        · refine iteF ?_
          have h2 : (!decide (i = j)) = false:=by simpa using h
          exact hkf _ (by rw [h2,Bool.false_and]) (Same.refl _)
      · have hDL : D ≠ L:=fun e => by rw [e,hl] at hD; cases hD
        rw [en] at hp3
        have hly : ys.length ≤ n:=by
          have h1:=Paired.length hp3
          have h2:=List.length_filter_le (fun j => !decide (i = j) && R i j) (List.range n)
          rw [List.length_range] at h2
          omega
        refine ⟨L,D,us,ys,rfl,rfl,hs _ _ hl,hl3,by have := @slk 100000 (by omega); omega,?_⟩
        refine ⟨_,us ++ ys,rfl,?_,upd_same,by rw [List.length_append]; omega,?_⟩
        · intro b o e
          rw [upd_ne (fun z => by rw [z,hL] at e; cases e)]
          exact hs _ _ (s2 _ _ e)
        · rw [range_flat]
          refine pairsV_upd (hs _ _ hl) (paired_append (pairsV.same hs hp) (paired_mapL ?_))
          exact Paired.mapP hp3 fun j v ⟨t,e,_,q⟩ => ⟨t,e,q⟩
    · rintro σ H2 ⟨v2,us,rfl,s2,hl,hlen,hp⟩
      rw [en] at hp
      refine ⟨_,rfl,L,us,rfl,.inl ⟨SqL.of hl,fun l hl' => ?_⟩⟩
      exact k _ _ (s2.trans (Same.put hl')) ⟨l,us,rfl,upd_same,pairsV.same (Same.put hl') hp⟩
end
structure Good (n : Nat) (R : Nat → Nat → Bool) : Prop where
  refl : ∀ a,a < n → R a a = true
  anti : ∀ a b,a < n → b < n → R a b = true → R b a = true → a = b
  join : ∀ a b,a < n → b < n → ∃ c,c < n ∧ ∀ x,x < n → R c x = (R a x && R b x)
  meet : ∀ a b,a < n → b < n → ∃ c,c < n ∧ ∀ x,x < n → R x c = (R x a && R x b)
theorem Good.dis {n : Nat} {R : Nat → Nat → Bool} (G : Good n R) : ∀ i j,i < n → j < n → (∀ b,b < n → R i b = R j b) → i = j:=fun i j hi hj h =>
  G.anti i j hi hj (by rw [h j hj]; exact G.refl j hj) (by rw [← h i hi]; exact G.refl i hi)
theorem Good.dis' {n : Nat} {R : Nat → Nat → Bool} (G : Good n R) : ∀ i j,i < n → j < n → (∀ b,b < n → R b i = R b j) → i = j:=fun i j hi hj h =>
  G.anti i j hi hj (by rw [← h i hi]; exact G.refl i hi) (by rw [h j hj]; exact G.refl j hj)
def flds (n : Nat) (vp vr vj vm : V) : List (Str × V):=putF "meets" vm (putF "joins" vj (putF "reach" vr (putF "pairs" vp (putF "count" (.int n) []))))
def OrdAt (C : Addr) (H : Hp) (p n : Nat) (R : Nat → Nat → Bool) : Prop := ∃ dx vp vr vj vm,H p = some (.ins C dx (flds n vp vr vj vm)) ∧ PairsT H vp (pairsL n R) ∧ TT H vr n (blF R) ∧ TT H vj n (endV n R) ∧ TT H vm n (endV n fun a b => R b a)
structure ClsOk (K : PySem.W.Frag) (C : Addr) : Prop where
  cl : Cls K C
  nC : NoAttr K C "count"
  nP : NoAttr K C "pairs"
  nR : NoAttr K C "reach"
  nJ : NoAttr K C "joins"
  nM : NoAttr K C "meets"
theorem TT.ins {H : Hp} {p C dx : Addr} {fs : List (Str × V)} {o : HO} (hp : H p = some (.ins C dx fs)) {v : V} {n : Nat} {g : Nat → Nat → V} (h : TT H v n g) : TT (upd H p o) v n g :=
  let ⟨a,vs,e,q,r⟩:=h
  ⟨a,vs,e,by rw [upd_ne (ne_of q hp (fun z => nomatch z))]; exact q,Paired.mapP r fun _ _ ⟨b,e,q⟩ => ⟨b,e,by rw [upd_ne (ne_of q hp (fun z => nomatch z))]; exact q⟩⟩
theorem PairsT.ins {H : Hp} {p C dx : Addr} {fs : List (Str × V)} {o : HO} (hp : H p = some (.ins C dx fs)) {v : V} {ps : List (Nat × Nat)} (h : PairsT H v ps) : PairsT (upd H p o) v ps :=
  let ⟨a,vs,e,q,r⟩:=h
  ⟨a,vs,e,by rw [upd_ne (ne_of q hp (fun z => nomatch z))]; exact q,Paired.mapP r fun _ _ ⟨b,e,q⟩ => ⟨b,e,by rw [upd_ne (ne_of q hp (fun z => nomatch z))]; exact q⟩⟩
section
variable {P : Program} {w : World} {K : PySem.W.Frag} {mg : Str → Option Value} {base : Heap} {f : Addr} {fd : FuncData}
abbrev s_Order_init : Stmt:=inClass (top 27) 0
theorem sc_Order_init : FnScope ["self","count","pairs","reach","joins","meets"] ["self","count","pairs"] (defScope s_Order_init):=⟨rfl,rfl,rfl,by decide +kernel,rfl,by decide +kernel,by decide +kernel⟩
def sp_init (K : PySem.W.Frag) (C : Addr) : Sp:=fun vs H Q _ => ∃ (p dx n a : Nat) (ps : List (Nat × Nat)),vs = [.ref p,.int n,.ref a] ∧ H p = some (.ins C dx []) ∧ PairsL K H a ps ∧ 1 ≤ n ∧ n ≤ 24 ∧ (∀ p ∈ ps,p.1 < n ∧ p.2 < n) ∧ (∀ R,Ev.Clos n ps R → Good n R) ∧
  ∀ H' R,(∀ b o,H b = some o → b ≠ p → H' b = some o) → Ev.Clos n ps R → OrdAt C H' p n R → Q .non H'
theorem ok_init {C : Addr} (F : Fun K "__init__" "Order.__init__" s_Order_init f fd) (T : Txt mg) (TC : ClsOk K C)
    (c_need_count : Cal P w K mg base "need_count" ["count"] 2 sp_need_count) (c_need_pairs : Cal P w K mg base "need_pairs" ["count","pairs"] 4 (sp_need_pairs K)) (c_reach_of : Cal P w K mg base "reach_of" ["count","pairs"] 2 (sp_reach_of K))
    (c_need_one_way : Cal P w K mg base "need_one_way" ["count","reach"] 2 sp_need_one_way) (c_ends_of : Cal P w K mg base "ends_of" ["rows"] 3 (sp_ends_of K)) (c_column : Cal P w K mg base "column" ["rows","place"] 1 sp_column)
    (c_need_ends : Cal P w K mg base "need_ends" ["count","joins","meets"] 2 sp_need_ends) (c_pairs_of : Cal P w K mg base "pairs_of" ["count","reach"] 1 sp_pairs_of) : FnOk P w K mg base CX0 5 f fd ["self","count","pairs"] (sp_init K C):=by
  refine F.ok sc_Order_init (fun vs H Q E h => ?_) (fun cdv A outer s H vs Q E hr h => ?_)
  · obtain ⟨p,dx,n,a,ps,rfl,_⟩:=h
    rfl
  · obtain ⟨p,dx,n,a,ps,rfl,hp,hps,h1,hn,hb,hg,k⟩:=h
    have nd:=sc_Order_init.nd
    have en : ((n : Int)).toNat = n:=Int.toNat_natCast n
    refine ⟨_,(pss_cons (ps_expr (pe_callC c_need_count hr rfl (pa_cons (pv 1) pa_nil)))
      (pss_cons (ps_expr (pe_callC c_need_pairs hr rfl (pa_cons (pv 1) (pa_cons (pv 2) pa_nil))))
      (pss_cons (ps_set (i:=3) nd rfl (Or.inr rfl) (pe_callC c_reach_of hr rfl (pa_cons (pv 1) (pa_cons (pv 2) pa_nil))))
      (pss_cons (ps_expr (pe_callC c_need_one_way hr rfl (pa_cons (pv 1) (pa_cons (pv 3) pa_nil))))
      (pss_cons (ps_set (i:=4) nd rfl (Or.inl rfl) (pe_callC c_ends_of hr rfl (pa_cons (pv 3) pa_nil)))
      (pss_cons (ps_set (i:=5) nd rfl (Or.inl rfl) (pe_callC c_ends_of hr rfl (pa_cons (pe_comp (own:=["thing"]) (fr:=[("reach", 3)]) rfl (blkOk (defScope s_Order_init) ["self","count","pairs","reach","joins","meets"] rfl rfl (by decide +kernel)) (pi_range1 rfl T.range (pa_cons (pv 1) pa_nil)) (fun _ _ _ _ => ⟨(pg_name (i:=0) (by decide +kernel : (["thing","reach"] : List Str).Nodup) rfl (Or.inl rfl)),pif_nil,(pe_callC c_column hr rfl (pa_cons (pv 1) (pa_cons (pv 0) pa_nil)))⟩)) pa_nil)))
      (pss_cons (ps_expr (pe_callC c_need_ends hr rfl (pa_cons (pv 1) (pa_cons (pv 4) (pa_cons (pv 5) pa_nil (star_of (fun _ _ h => nomatch h))) (star_of (fun _ _ h => nomatch h))) (star_of (fun _ _ h => nomatch h)))))
      (pss_cons (ps_fldK (K:=K) rfl (pv 0) (pv 1) rfl)
      (pss_cons (ps_fldK (K:=K) rfl (pv 0) (pe_callC c_pairs_of hr rfl (pa_cons (pv 1) (pa_cons (pv 3) pa_nil))) rfl)
      (pss_cons (ps_fldK (K:=K) rfl (pv 0) (pv 3) rfl)
      (pss_cons (ps_fldK (K:=K) rfl (pv 0) (pv 4) rfl)
      (pss_one (ps_fldK (K:=K) rfl (pv 0) (pv 5) rfl))))))))))))),?_⟩
    refine ⟨_,rfl,⟨n,rfl,by omega,by omega⟩,fun v1 H1 s1 _ => ?_⟩
    refine ⟨_,rfl,_,rfl,⟨n,a,ps,rfl,hps.same s1,hb⟩,fun v2 H2 s2 _ => ?_⟩
    have s02:=s1.trans s2
    refine ⟨_,rfl,_,rfl,n,a,ps,rfl,hps.same s02,hn,hb,fun vr H3 R s3 hC ht => ?_⟩
    have G:=hg R hC
    refine ⟨_,rfl,_,rfl,n,vr,R,rfl,ht,hn,fun x y hx hy ⟨h1,h2⟩ => absurd (G.anti x y (by omega) hy h1 h2) (by omega),fun H4 s4 => ?_⟩
    obtain ⟨ra,us,rfl,q1,q2⟩:=id (ht.same s4)
    refine ⟨_,rfl,false,ra,n,us,R,rfl,SqT.of q1,q2,hn,G.dis,fun vj H5 s5 htj => ?_⟩
    -- meets = ends_of([column(reach,thing) for thing in range(count)])
    refine ⟨_,rfl,n,rfl,(n62 (by omega)).1,(n62 (by omega)).2,fun D hD => ?_⟩
    refine comp_allR (fun i v H => ∃ b,v = .ref b ∧ b ≠ D ∧ H b = some (.tup (rowV n fun j => R j i))) src_range hD (sl24 (by omega)) (fun i v H H' s ⟨b,e,hb,q⟩ => ⟨b,e,hb,s _ _ hb q⟩) (fun i H6 Kt hi hs hy hk => ?_) (fun H6 ys hs hl hp6 => ?_)
    · obtain ⟨zs,hz⟩:=hy
      have hin : i < n:=by omega
      have ht6:=((ht.same s4).same s5).same hs
      refine ⟨_,rfl,_,rfl,⟨_,n,i,_,by simp,ht6,hin,hn⟩,fun v H7 s7 hv => ?_⟩
      obtain ⟨b,rfl,b1,b2⟩:=hv _ n i _ (by simp) ht6 hin
      exact hk _ H7 s7 ⟨b,rfl,(fun e => by rw [e,hz] at b1; cases b1),b2⟩
    rw [en] at hp6
    have rows6 : RowsT H6 n (fun a b => R b a) ys:=Paired.mapP hp6 fun i u ⟨b,e,_,q⟩ => ⟨b,e,q⟩
    refine ⟨true,D,n,ys,_,rfl,SqL.of hl,rows6,hn,G.dis',fun vm H7 s7 htm => ?_⟩
    have htj7:=(htj.same hs).same s7
    have s07 : Same H H7:=((((s02.trans s3).trans s4).trans s5).trans hs).trans s7
    refine ⟨_,rfl,_,rfl,_,rfl,n,vj,vm,_,_,rfl,htj7,htm,hn,fun x y hx hy => ?_,fun H8 s8 => ?_⟩
    · obtain ⟨c,hc,hj⟩:=G.join x y hx hy
      obtain ⟨d,hd,hm⟩:=G.meet x y hx hy
      rw [endV_some G.dis hc hj,endV_some G.dis' hd hm]
      exact ⟨(fun z => nomatch z),(fun z => nomatch z)⟩
    have s08:=s07.trans s8
    have hp8 : H8 p = some (.ins C dx []):=s08 _ _ hp
    have htr8 : TT H8 (.ref ra) n (blF R):=((((ht.same s4).same s5).same hs).same s7).same s8
    -- self.count = count
    refine ⟨_,rfl,_,rfl,p,C,dx,[],rfl,hp8,TC.cl,TC.nC,by show 0 < 1000; decide,?_⟩
    -- self.pairs = pairs_of(count,reach)
    refine ⟨_,rfl,_,rfl,n,_,R,rfl,htr8.ins hp8,hn,fun vp H9 s9 hpp => ?_⟩
    have hp9:=s9 _ _ (upd_same (H:=H8) (a:=p) (o:=.ins C dx (putF "count" (.int n) [])))
    have htr9:=(htr8.ins hp8 (o:=.ins C dx (putF "count" (.int n) []))).same s9
    have htj9:=((htj7.same s8).ins hp8 (o:=.ins C dx (putF "count" (.int n) []))).same s9
    have htm9:=((htm.same s8).ins hp8 (o:=.ins C dx (putF "count" (.int n) []))).same s9
    have l1 : (putF "count" (V.int n) []).length ≤ 1:=length_putF _ _ _
    have l2 : (putF "pairs" vp (putF "count" (V.int n) [])).length ≤ 2:=Nat.le_trans (length_putF _ _ _) (by omega)
    have l3 : (putF "reach" (V.ref ra) (putF "pairs" vp (putF "count" (V.int n) []))).length ≤ 3:=Nat.le_trans (length_putF _ _ _) (by omega)
    have l4 : (putF "joins" vj (putF "reach" (V.ref ra) (putF "pairs" vp (putF "count" (V.int n) [])))).length ≤ 4:=Nat.le_trans (length_putF _ _ _) (by omega)
    refine ⟨_,rfl,p,C,dx,_,rfl,hp9,TC.cl,TC.nP,by omega,?_⟩
    refine ⟨_,rfl,_,rfl,p,C,dx,_,rfl,upd_same,TC.cl,TC.nR,by omega,?_⟩
    refine ⟨_,rfl,_,rfl,p,C,dx,_,rfl,upd_same,TC.cl,TC.nJ,by omega,?_⟩
    refine ⟨_,rfl,_,rfl,p,C,dx,_,rfl,upd_same,TC.cl,TC.nM,by omega,?_⟩
    rw [upd_upd,upd_upd,upd_upd]
    refine k _ R (fun b o e hbp => ?_) hC ⟨dx,vp,_,vj,vm,upd_same,hpp.ins hp9,htr9.ins hp9,htj9.ins hp9,htm9.ins hp9⟩
    rw [upd_ne hbp]
    refine s9 _ _ ?_
    rw [upd_ne hbp]
    exact s08 _ _ e
end
structure CalMk (P : Program) (w : World) (K : PySem.W.Frag) (mg : Str → Option Value) (base : Heap) (C : Addr) (x : Str) (ps : List Str) (k : Nat) (sp : Sp) : Prop where
  ex : ∃ (f : Addr) (fd : FuncData),FnOk P w K mg base CX0 k f fd ps sp ∧ Mk K C f ∧ mg x = some (.ref C) ∧ Binds K fd ps []
section
variable {X : Cx} {C : Addr} {x : Str} {ps : List Str} {k k' : Nat} {sp : Sp} {e : Expr} {es : List Expr} {t : TA} {p pos : Pos}
theorem pe_makeC (c : CalMk X.prog X.w X.K X.mg X.base C x ps k sp) (hr : Room k' X.A) (hg : Gl X x) (ha : PA X (e :: es) t) (hk : k + 1 ≤ k':=by decide) (hdb : (x == ("__debug__" : Str)) = false:=by decide)
    (he : starEach (e :: es) X.env = (false,eval e X.env) :: starEach es X.env:=by rfl) (hpl : (backTo pos (starEach es X.env)).any (·.1) = false:=by rfl) : PE X (.Call (.Name x p) (e :: es) [] pos) (tMake C sp [] E0 t):=by
  obtain ⟨f,fd,F,M,hm,b⟩:=c.ex
  exact pe_make M F (hr.mono hk) hg hm b .nil pass0 ha hdb he hpl
end
def sp_law (K : PySem.W.Frag) : Sp:=fun vs H Q _ => ∃ (a : Nat) (ns : List Int),vs = [.ref a] ∧ SqL K H a (ns.map V.int) ∧ ns.length ≤ 63 ∧ ∀ H',Q (.bl true) H'
structure FunAt (K : PySem.W.Frag) (x : Str) (st : Stmt) : Prop where
  ex : ∃ (f : Addr) (fd : FuncData),PySem.W.nsIn K mainGlobals x = some (some (.ref f)) ∧ Fun K x x st f fd
theorem FunAt.mk' {K : PySem.W.Frag} {x : Str} {st : Stmt} {f : Addr} {oc : Value} {od an : Option Addr} {osl : Array (Option Value)} {kV doc pm cdv ct : Value} (a : PySem.W.nsIn K mainGlobals x = some (some (.ref f)))
    (l : K.lookup f = some ⟨oc,od,.func (PySem.W.fnOf x x (defArgs st) (defBody st) (defScope st) .none kV doc pm an cdv ct),osl⟩) (c : PySem.W.codeIn K cdv x = true) (k : PySem.W.keepIn K (.ref f) = true) : FunAt K x st:=⟨f,_,a,fun_mk l c k⟩
abbrev BindOk (x : Str) (st : Stmt) (ps : List Str) : Prop := ∀ (kV doc pm : Value) (an : Option Addr) (cdv ct : Value) (us : List Value),us.length = ps.length → bindArgs (PySem.W.fnOf x x (defArgs st) (defBody st) (defScope st) .none kV doc pm an cdv ct) ⟨us,[]⟩ = pure (ps.zip us)
theorem FunAt.cal {P : Program} {w : World} {K : PySem.W.Frag} {mg : Str → Option Value} {base h : Heap} {x : Str} {st : Stmt} {ps : List Str} {k : Nat} {sp : Sp} (A : FunAt K x st) (X : K.In h) (G : h.Ns mainGlobals mg) (hb : BindOk x st ps)
    (ok : ∀ {f : Addr} {fd : FuncData},Fun K x x st f fd → FnOk P w K mg base CX0 k f fd ps sp) : Cal P w K mg base x ps k sp:=by
  obtain ⟨f,fd,a,F⟩:=A.ex
  exact ⟨f,fd,ok F,PySem.W.mg_of X G a,F.kp,F.binds hb⟩
structure ClsAt (K : PySem.W.Frag) (x qual : Str) (st : Stmt) (C : Addr) : Prop where
  ns : PySem.W.nsIn K mainGlobals x = some (some (.ref C))
  cl : Cls K C
  ex : ∃ (f : Addr) (fd : FuncData),Fun K "__init__" qual st f fd ∧ Mk K C f
theorem ClsAt.mk' {K : PySem.W.Frag} {x qual : Str} {st : Stmt} {C f : Addr} {oc : Value} {od an : Option Addr} {osl : Array (Option Value)} {kV doc pm cdv ct : Value} (ns : PySem.W.nsIn K mainGlobals x = some (some (.ref C)))
    (pg : PySem.W.plainGet K C Str.empty = true) (hd : PySem.W.hasDictIn K C = true) (po : PySem.W.plainOver K C = true) (sa : PySem.W.findIn K (.ref C) "__setattr__" = some (some (.builtin "object.__setattr__"))) (mk : PySem.W.makesIn K C = true) (kc : PySem.W.keepIn K (.ref C) = true)
    (a : PySem.W.findIn K (.ref C) "__init__" = some (some (.ref f))) (i : PySem.W.isFn K (.ref f) = true)
    (l : K.lookup f = some ⟨oc,od,.func (PySem.W.fnOf "__init__" qual (defArgs st) (defBody st) (defScope st) .none kV doc pm an cdv ct),osl⟩) (c : PySem.W.codeIn K cdv qual = true) (k : PySem.W.keepIn K (.ref f) = true) : ClsAt K x qual st C :=
  ⟨ns,⟨pg,hd,po,sa⟩,f,_,fun_mk l c k,⟨mk,a,i,kc⟩⟩
theorem ClsAt.cal {P : Program} {w : World} {K : PySem.W.Frag} {mg : Str → Option Value} {base h : Heap} {x qual : Str} {st : Stmt} {C : Addr} {ps : List Str} {k : Nat} {sp : Sp} (A : ClsAt K x qual st C) (X : K.In h) (G : h.Ns mainGlobals mg)
    (hb : ∀ (kV doc pm : Value) (an : Option Addr) (cdv ct : Value) (us : List Value),us.length = ps.length → bindArgs (PySem.W.fnOf "__init__" qual (defArgs st) (defBody st) (defScope st) .none kV doc pm an cdv ct) ⟨us,[]⟩ = pure (ps.zip us))
    (ok : ∀ {f : Addr} {fd : FuncData},Fun K "__init__" qual st f fd → FnOk P w K mg base CX0 k f fd ps sp) : CalMk P w K mg base C x ps k sp:=by
  obtain ⟨f,fd,F,M⟩:=A.ex
  exact ⟨f,fd,ok F,M,PySem.W.mg_of X G A.ns,F.binds hb⟩
structure TxtAt (K : PySem.W.Frag) : Prop where
  len : PySem.W.nsIn K mainGlobals "len" = some none
  range : PySem.W.nsIn K mainGlobals "range" = some none
  zip : PySem.W.nsIn K mainGlobals "zip" = some none
  enumerate : PySem.W.nsIn K mainGlobals "enumerate" = some none
  tuple : PySem.W.nsIn K mainGlobals "tuple" = some none
  list : PySem.W.nsIn K mainGlobals "list" = some none
  int : PySem.W.nsIn K mainGlobals "int" = some none
  bool : PySem.W.nsIn K mainGlobals "bool" = some none
  str : PySem.W.nsIn K mainGlobals "str" = some none
  isinstance : PySem.W.nsIn K mainGlobals "isinstance" = some none
  sum : PySem.W.nsIn K mainGlobals "sum" = some none
  any : PySem.W.nsIn K mainGlobals "any" = some none
  all : PySem.W.nsIn K mainGlobals "all" = some none
  sorted : PySem.W.nsIn K mainGlobals "sorted" = some none
  min : PySem.W.nsIn K mainGlobals "min" = some none
  max : PySem.W.nsIn K mainGlobals "max" = some none
  most : ∃ t,PySem.W.nsIn K mainGlobals "MOST_THINGS" = some (some (.int 24 t))
theorem TxtAt.txt {K : PySem.W.Frag} {mg : Str → Option Value} {h : Heap} (A : TxtAt K) (X : K.In h) (G : h.Ns mainGlobals mg) : Txt mg :=
  ⟨PySem.W.mg_none_of X G A.len,PySem.W.mg_none_of X G A.range,PySem.W.mg_none_of X G A.zip,PySem.W.mg_none_of X G A.enumerate,PySem.W.mg_none_of X G A.tuple,PySem.W.mg_none_of X G A.list,PySem.W.mg_none_of X G A.int,PySem.W.mg_none_of X G A.bool,PySem.W.mg_none_of X G A.str,
    PySem.W.mg_none_of X G A.isinstance,PySem.W.mg_none_of X G A.sum,PySem.W.mg_none_of X G A.any,PySem.W.mg_none_of X G A.all,PySem.W.mg_none_of X G A.sorted,PySem.W.mg_none_of X G A.min,PySem.W.mg_none_of X G A.max,let ⟨t,e⟩:=A.most; ⟨t,PySem.W.mg_of X G e⟩⟩
theorem TxtAt.mk' {K : PySem.W.Frag} {t : Tok} (l1 : PySem.W.nsIn K mainGlobals "len" = some none) (l2 : PySem.W.nsIn K mainGlobals "range" = some none) (l3 : PySem.W.nsIn K mainGlobals "zip" = some none) (l4 : PySem.W.nsIn K mainGlobals "enumerate" = some none)
    (l5 : PySem.W.nsIn K mainGlobals "tuple" = some none) (l6 : PySem.W.nsIn K mainGlobals "list" = some none) (l7 : PySem.W.nsIn K mainGlobals "int" = some none) (l8 : PySem.W.nsIn K mainGlobals "bool" = some none) (l9 : PySem.W.nsIn K mainGlobals "str" = some none)
    (l10 : PySem.W.nsIn K mainGlobals "isinstance" = some none) (l11 : PySem.W.nsIn K mainGlobals "sum" = some none) (l12 : PySem.W.nsIn K mainGlobals "any" = some none) (l13 : PySem.W.nsIn K mainGlobals "all" = some none) (l14 : PySem.W.nsIn K mainGlobals "sorted" = some none) (l15 : PySem.W.nsIn K mainGlobals "min" = some none) (l16 : PySem.W.nsIn K mainGlobals "max" = some none) (m : PySem.W.nsIn K mainGlobals "MOST_THINGS" = some (some (.int 24 t))) : TxtAt K:=⟨l1,l2,l3,l4,l5,l6,l7,l8,l9,l10,l11,l12,l13,l14,l15,l16,t,m⟩
theorem walk {l : PySem.W.OpenLaw} {q : Program} {loose : List Str} {XP : (Str → Option Value) → Heap → Prop} {YP : World → Heap → Prop} {d : DefRec} {K : Params → PySem.W.Frag} (hn : l.most = some 63) (hdf : d.params.defaults = [])
    (hY : ∀ (w : World) (h : Heap),YP w h → (K w.params).In h)
    (F : ∀ (w : World) (mg : Str → Option Value) (fa : Addr) (h : Heap),(K w.params).In h → h.Ns mainGlobals mg → mg d.name = some (.ref fa) →
      ∃ fd : FuncData,(∀ (s : Shared) (u : Value),BindsTo s fd ⟨[u],[]⟩ [("_law_script", u)]) ∧ ∀ base : Heap,(K w.params).In base → base.Ns mainGlobals mg → FnOk l.prog w (K w.params) mg base CX0 9 fa fd ["_law_script"] (sp_law (K w.params))) :
    PySem.W.WalkO q loose XP YP l.row.toRowW d [] (fun f vs => PySem.call f vs) :=
  L2.walk_of (n:=63) (k:=9) (x := "_law_script") (CX:=fun _ => CX0) (sp:=fun w => sp_law (K w.params)) hn (by decide) hdf ⟨rfl,by decide,by decide,rfl⟩ hY F (fun _ _ a ns hl _ hS => ⟨a,ns,rfl,hS,hl,fun _ => rfl⟩) fun _ _ _ _ _ z => z
theorem TT.get {H : Hp} {v : V} {n : Nat} {g : Nat → Nat → V} (h : TT H v n g) {i : Nat} (hi : i < n) : ∃ a vs b,v = .ref a ∧ H a = some (.tup vs) ∧ vs[i]? = some (.ref b) ∧ H b = some (.tup ((List.range n).map (g i))):=by
  obtain ⟨a,vs,e,q,r⟩:=h
  have hl : vs.length = n:=by have:=Paired.length r; simpa using this.symm
  obtain ⟨x,hx,b,eb,qb⟩:=paired_get r (show vs[i]? = some vs[i] from List.getElem?_eq_getElem (by omega))
  have : x = i:=by
    rw [List.getElem?_range hi] at hx
    cases hx; rfl
  subst this
  exact ⟨a,vs,b,e,q,by rw [List.getElem?_eq_getElem (by omega),eb],qb⟩
theorem flds_reach (n : Nat) (vp vr vj vm : V) : (flds n vp vr vj vm).lookup ("reach" : Str) = some vr:=by
  unfold flds
  rw [lookup_putF,if_neg (by decide +kernel),lookup_putF,if_neg (by decide +kernel),lookup_putF,if_pos rfl]
theorem flds_count' (n : Nat) (vp vr vj vm : V) : (flds n vp vr vj vm).lookup ("count" : Str) = some (.int n):=by
  unfold flds
  rw [lookup_putF,if_neg (by decide +kernel),lookup_putF,if_neg (by decide +kernel),lookup_putF,if_neg (by decide +kernel),lookup_putF,if_neg (by decide +kernel),lookup_putF,if_pos rfl]
theorem flds_pairs' (n : Nat) (vp vr vj vm : V) : (flds n vp vr vj vm).lookup ("pairs" : Str) = some vp:=by
  unfold flds
  rw [lookup_putF,if_neg (by decide +kernel),lookup_putF,if_neg (by decide +kernel),lookup_putF,if_neg (by decide +kernel),lookup_putF,if_pos rfl]
theorem OrdAt.same' {C : Addr} {H H' : Hp} {p n : Nat} {R : Nat → Nat → Bool} (s : Same H H') (h : OrdAt C H p n R) : OrdAt C H' p n R:=by
  obtain ⟨dx,vp,vr,vj,vm,a,b,c,d,e⟩:=h
  exact ⟨dx,vp,vr,vj,vm,s _ _ a,b.same s,c.same s,d.same s,e.same s⟩
def belR (R : Nat → Nat → Bool) (a b : Nat) : Bool := !decide (a = b) && R a b
def stepR (n : Nat) (R : Nat → Nat → Bool) (a b : Nat) : Bool:=belR R a b && !(List.range n).any fun t => belR R a t && belR R t b
section
variable {P : Program} {w : World} {K : PySem.W.Frag} {mg : Str → Option Value} {base : Heap} {f : Addr} {fd : FuncData}
abbrev s_is_below : Stmt:=top 29
theorem sc_is_below : FnScope ["order","a","b"] ["order","a","b"] (defScope s_is_below):=⟨rfl,rfl,rfl,by decide +kernel,rfl,by decide +kernel,by decide +kernel⟩
def sp_is_below (C : Addr) : Sp:=fun vs H Q _ => ∃ (p n a b : Nat) (R : Nat → Nat → Bool),vs = [.ref p,.int a,.int b] ∧ OrdAt C H p n R ∧ a < n ∧ b < n ∧ ∀ H',Same H H' → Q (.bl (belR R a b)) H'
theorem ok_is_below {C : Addr} (F : Fun K "is_below" "is_below" s_is_below f fd) (T : Txt mg) (TC : ClsOk K C) : FnOk P w K mg base CX0 1 f fd ["order","a","b"] (sp_is_below C):=by
  refine F.ok sc_is_below (fun vs H Q E h => ?_) (fun cdv A outer s H vs Q E hr h => ?_)
  · obtain ⟨p,n,a,b,R,rfl,_⟩:=h
    rfl
  · obtain ⟨p,n,a,b,R,rfl,hO,ha,hb,kk⟩:=h
    have nd:=sc_is_below.nd
    refine ⟨_,(pss_one (ps_ret (pe_and (pe_cmpR op_ne (pv 1) (pv 2) (nomark _)) (pe_one (pe_ix (ix_tupK (K:=K) rfl) (pe_ix (ix_tupK (K:=K) rfl) (pe_fldK (K:=K) rfl (pv 0) rfl) (pv 1) (fun _ _ => rfl)) (pv 2) (fun _ _ => rfl)))))),?_⟩
    have ed : (!decide (V.int (a : Int) = V.int (b : Int))) = !decide (a = b):=by
      congr 1
      exact decide_eq_decide.mpr ⟨fun h => by injection h with h; omega,fun h => by rw [h]⟩
    refine ⟨_,rfl,_,rfl,rfl,_,rfl,?_⟩
    rw [ed]
    refine ite2 (fun h => ?_) (fun h => ?_)
    · obtain ⟨dx,vp,vr,vj,vm,o1,_,o3,_,_⟩:=hO
      obtain ⟨ra,us,rb,rfl,q1,q2,q3⟩:=o3.get ha
      refine ⟨_,rfl,p,C,dx,_,_,rfl,o1,TC.cl,TC.nR,flds_reach _ _ _ _ _,_,rfl,ra,us,_,.ref rb,rfl,rfl,SqT.of q1,atI_nat q2,_,rfl,rb,_,_,.bl (R a b),rfl,rfl,SqT.of q3,atI_nat (map_get hb),?_⟩
      have:=kk _ (Same.refl _)
      unfold belR at this
      rw [h,Bool.true_and] at this
      exact this
    · have h2 : (!decide (a = b)) = false:=by simpa using h
      have:=kk _ (Same.refl _)
      unfold belR at this
      rw [h2,Bool.false_and] at this
      exact this
end
section
variable {P : Program} {w : World} {K : PySem.W.Frag} {mg : Str → Option Value} {base : Heap} {f : Addr} {fd : FuncData}
abbrev s_is_step : Stmt:=top 30
theorem sc_is_step : FnScope ["order","a","b"] ["order","a","b"] (defScope s_is_step):=⟨rfl,rfl,rfl,by decide +kernel,rfl,by decide +kernel,by decide +kernel⟩
def sp_is_step (C : Addr) : Sp:=fun vs H Q _ => ∃ (p n a b : Nat) (R : Nat → Nat → Bool),vs = [.ref p,.int a,.int b] ∧ OrdAt C H p n R ∧ n ≤ 24 ∧ a < n ∧ b < n ∧ ∀ H',Same H H' → Q (.bl (stepR n R a b)) H'
theorem ok_is_step {C : Addr} (F : Fun K "is_step" "is_step" s_is_step f fd) (T : Txt mg) (TC : ClsOk K C) (c_is_below : Cal P w K mg base "is_below" ["order","a","b"] 1 (sp_is_below C)) : FnOk P w K mg base CX0 2 f fd ["order","a","b"] (sp_is_step C):=by
  refine F.ok sc_is_step (fun vs H Q E h => ?_) (fun cdv A outer s H vs Q E hr h => ?_)
  · obtain ⟨p,n,a,b,R,rfl,_⟩:=h
    rfl
  · obtain ⟨p,n,a,b,R,rfl,hO,hn,ha,hb,kk⟩:=h
    have nd:=sc_is_step.nd
    refine ⟨_,(pss_cons (ps_if (pt_not (pt_val (pe_callC c_is_below hr rfl (pa_cons (pv 0) (pa_cons (pv 1) (pa_cons (pv 2) pa_nil (star_of (fun _ _ h => nomatch h))) (star_of (fun _ _ h => nomatch h))) (star_of (fun _ _ h => nomatch h)))))) (pss_one (ps_ret pe_bl)) pss_nil)
      (pss_one (ps_ret (pe_not (pe_callB (call_anyK (K:=K) rfl rfl) rfl T.any boot_any (pa_cons (pe_comp (own:=["thing"]) (fr:=[("order", 0),("a", 1),("b", 2)]) rfl (blkOk (defScope s_is_step) ["order","a","b"] rfl rfl (by decide +kernel)) (pi_range1 rfl T.range (pa_cons (pe_fldK (K:=K) rfl (pv 0) rfl) pa_nil)) (fun _ _ _ _ => ⟨(pg_name (i:=0) (by decide +kernel : (["thing","order","a","b"] : List Str).Nodup) rfl (Or.inl rfl)),pif_nil,(pe_and (pe_callC c_is_below hr rfl (pa_cons (pv 1) (pa_cons (pv 2) (pa_cons (pv 0) pa_nil (star_of (fun _ _ h => nomatch h))) (star_of (fun _ _ h => nomatch h))) (star_of (fun _ _ h => nomatch h)))) (pe_one (pe_callC c_is_below hr rfl (pa_cons (pv 1) (pa_cons (pv 0) (pa_cons (pv 3) pa_nil (star_of (fun _ _ h => nomatch h))) (star_of (fun _ _ h => nomatch h))) (star_of (fun _ _ h => nomatch h))))))⟩)) pa_nil)))))),?_⟩
    refine ⟨_,rfl,_,rfl,_,rfl,p,n,a,b,R,rfl,hO,ha,hb,fun H1 s1 => ⟨_,rfl,?_⟩⟩
    cases hab : belR R a b with
    | false =>
      refine iteT ?_
      have:=kk _ s1
      unfold stepR at this
      rw [hab,Bool.false_and] at this
      exact this
    | true =>
      refine iteF ?_
      obtain ⟨dx,vp,vr,vj,vm,o1,_,_,_,_⟩:=hO.same' s1
      have en : ((n : Int)).toNat = n:=Int.toNat_natCast n
      refine ⟨_,rfl,p,C,dx,_,_,rfl,o1,TC.cl,TC.nC,flds_count' _ _ _ _ _,_,rfl,(n62 (by omega)).1,(n62 (by omega)).2,fun D hD => ?_⟩
      refine comp_all (fun j => .bl (belR R a j && belR R j b)) src_range hD (by rw [en]; exact sl24 hn) (fun j H3 Kt hj hs hk => ?_) (fun H3 hs hl => ?_)
      · rw [en] at hj
        refine ⟨_,rfl,_,rfl,_,rfl,p,n,a,j,R,by simp,(hO.same' s1).same' hs,ha,hj,fun H4 s4 => ⟨_,rfl,?_⟩⟩
        cases h1 : belR R a j with
        | false =>
          refine iteF ?_
          have:=hk _ s4
          rw [h1,Bool.false_and] at this
          exact this
        | true =>
          refine iteT ⟨_,rfl,_,rfl,_,rfl,p,n,j,b,R,by simp,((hO.same' s1).same' hs).same' s4,hj,hb,fun H5 s5 => ?_⟩
          have:=hk _ (s4.trans s5)
          rw [h1,Bool.true_and] at this
          exact this
      · rw [en] at hl
        refine ⟨D,(List.range n).map (fun j => belR R a j && belR R j b),rfl,SqL.of (by rw [hl,List.map_map]; rfl),_,rfl,?_⟩
        have:=kk _ (s1.trans hs)
        unfold stepR at this
        rw [hab,Bool.true_and] at this
        have e : ((List.range n).map fun j => belR R a j && belR R j b).any id = (List.range n).any fun t => belR R a t && belR R t b:=by rw [List.any_map]; rfl
        rw [e]
        exact this
end
theorem pairsL_congr {n : Nat} {R R' : Nat → Nat → Bool} (h : ∀ a b,a < n → b < n → R a b = R' a b) : pairsL n R = pairsL n R':=by
  unfold pairsL
  have : ∀ l ∈ List.range n,(((List.range n).filter fun h => !decide (l = h) && R l h).map fun h => (l,h)) = (((List.range n).filter fun h => !decide (l = h) && R' l h).map fun h => (l,h)):=by
    intro l hl
    congr 1
    apply List.filter_congr
    intro x hx
    rw [h l x (by simpa using hl) (by simpa using hx)]
  rw [List.flatMap_def,List.flatMap_def,List.map_congr_left this]
theorem andN (x y : Nat) : Builtin.bitAnd (x : Int) (y : Int) = ((x &&& y : Nat) : Int):=by rw [bitAnd_pp (by omega) (by omega)]; simp
theorem orN (x y : Nat) : Builtin.bitOr (x : Int) (y : Int) = ((x ||| y : Nat) : Int):=by
  rw [bitOr_and,andN]
  have:=nat_or_add_and x y
  omega
abbrev nV (x : Nat) : V:=.int (x : Int)
section
variable {P : Program} {w : World} {K : PySem.W.Frag} {mg : Str → Option Value} {base : Heap} {f : Addr} {fd : FuncData}
abbrev s_law_cell_at : Stmt:=top 45
theorem sc_law_cell_at : FnScope ["_law_script","_law_k"] ["_law_script","_law_k"] (defScope s_law_cell_at):=⟨rfl,rfl,rfl,by decide +kernel,rfl,by decide +kernel,by decide +kernel⟩
def sp_cell_at (K : PySem.W.Frag) : Sp:=fun vs H Q _ => ∃ (a k : Nat) (ns : List Int),vs = [.ref a,.int k] ∧ SqL K H a (ns.map V.int) ∧ ∀ i H',Same H H' → Q (.int i) H'
theorem ok_cell_at (F : Fun K "_law_cell_at" "_law_cell_at" s_law_cell_at f fd) (T : Txt mg) : FnOk P w K mg base CX0 1 f fd ["_law_script","_law_k"] (sp_cell_at K):=by
  refine F.ok sc_law_cell_at (fun vs H Q E h => ?_) (fun cdv A outer s H vs Q E hr h => ?_)
  · obtain ⟨a,k,ns,rfl,_⟩:=h
    rfl
  · obtain ⟨a,k,ns,rfl,hS,kk⟩:=h
    have nd:=sc_law_cell_at.nd
    refine ⟨_,(pss_cons (ps_if (pt_cmpR op_lt (pv 1) (pe_callB (call_lenK (K:=K) rfl) rfl T.len PySem.boot_len (pa_cons (pv 0) pa_nil)) (nomark _)) (pss_one (ps_ret (pe_ix (ix_listK (K:=K) rfl) (pv 0) (pv 1) (fun _ _ => rfl)))) pss_nil)
      (pss_one (ps_ret pe_int))),?_⟩
    refine ⟨_,rfl,_,rfl,a,_,rfl,.inl hS,_,_,rfl,rfl,_,rfl,ite2 (fun h => ?_) (fun h => ?_)⟩
    · rw [decide_eq_true_iff,List.length_map] at h
      have hk : k < ns.length:=by omega
      exact ⟨_,rfl,_,rfl,a,_,k,.int ns[k],rfl,rfl,hS,atI_nat (by simp [hk]),kk _ _ (Same.refl _)⟩
    · exact kk _ _ (Same.refl _)
abbrev s_law_mixed : Stmt:=top 46
theorem sc_law_mixed : FnScope ["_law_cell","_law_place","_law_number"] ["_law_cell","_law_place"] (defScope s_law_mixed):=⟨rfl,rfl,rfl,by decide +kernel,rfl,by decide +kernel,by decide +kernel⟩
def sp_mixed : Sp:=fun vs H Q _ => ∃ (c : Int) (p : Nat),vs = [.int c,.int p] ∧ p ≤ 1000 ∧ ∀ i H',0 ≤ i → i < 2147483648 → Same H H' → Q (.int i) H'
theorem ok_mixed (F : Fun K "_law_mixed" "_law_mixed" s_law_mixed f fd) (T : Txt mg) : FnOk P w K mg base CX0 1 f fd ["_law_cell","_law_place"] sp_mixed:=by
  refine F.ok sc_law_mixed (fun vs H Q E h => ?_) (fun cdv A outer s H vs Q E hr h => ?_)
  · obtain ⟨c,p,rfl,_⟩:=h
    rfl
  · obtain ⟨c,p,rfl,hp,kk⟩:=h
    have nd:=sc_law_mixed.nd
    have m1 : ∀ x : Int,0 ≤ x % 2147483629 ∧ x % 2147483629 < 2147483629:=fun x => ⟨Int.emod_nonneg x (by decide),Int.emod_lt_of_pos x (by decide)⟩
    have m2 : ∀ x : Int,0 ≤ x % 2147483587 ∧ x % 2147483587 < 2147483587:=fun x => ⟨Int.emod_nonneg x (by decide),Int.emod_lt_of_pos x (by decide)⟩
    have cm : ∀ x y : Int,CMul (x % 2147483629) y:=fun x y => .inl ⟨by have:=m1 x; omega,by have:=m1 x; omega⟩
    refine ⟨_,(pss_cons (ps_set (i:=2) nd rfl (Or.inl rfl) (pe_op op_mod (pe_op op_add (pe_op op_add (pe_op op_mul (pe_op op_mod (pv 0) pe_int) pe_int) (pe_op op_mul pe_int (pv 1))) pe_int) pe_int))
      (pss_cons (ps_set (i:=2) nd rfl (Or.inl rfl) (pe_op op_mod (pe_op op_add (pe_op op_add (pe_op op_mul (pv 2) (pv 2)) (pe_op op_mul pe_int (pv 1))) pe_int) pe_int))
      (pss_one (ps_ret (pe_op op_mod (pe_op op_add (pe_op op_mul (pv 2) (pv 2)) pe_int) pe_int))))),?_⟩
    refine ⟨_,rfl,_,_,rfl,rfl,(by show (0 : Int) < 2147483629; decide),_,_,rfl,rfl,cm _ _,_,rfl,_,_,rfl,rfl,.inl ⟨by decide,by decide⟩,_,_,rfl,rfl,_,_,rfl,rfl,_,_,rfl,rfl,(by show (0 : Int) < 2147483629; decide),?_⟩
    refine ⟨_,rfl,_,rfl,_,_,rfl,rfl,cm _ _,_,rfl,_,_,rfl,rfl,.inl ⟨by decide,by decide⟩,_,_,rfl,rfl,_,_,rfl,rfl,_,_,rfl,rfl,(by show (0 : Int) < 2147483629; decide),?_⟩
    refine ⟨_,rfl,_,rfl,_,_,rfl,rfl,cm _ _,_,_,rfl,rfl,_,_,rfl,rfl,(by show (0 : Int) < 2147483587; decide),?_⟩
    exact kk _ _ (m2 _).1 (by have:=(m2 ((((c % 2147483629 * 16807 + 69621 * (p : Int) + 11) % 2147483629 * ((c % 2147483629 * 16807 + 69621 * (p : Int) + 11) % 2147483629) + 48271 * (p : Int) + 7) % 2147483629) * (((c % 2147483629 * 16807 + 69621 * (p : Int) + 11) % 2147483629 * ((c % 2147483629 * 16807 + 69621 * (p : Int) + 11) % 2147483629) + 48271 * (p : Int) + 7) % 2147483629) + 69621)).2; omega) (Same.refl _)
abbrev s_law_draws : Stmt:=top 47
theorem sc_law_draws : FnScope ["_law_cell","_law_many","_law_found","_law_left","_law_k"] ["_law_cell","_law_many"] (defScope s_law_draws):=⟨rfl,rfl,rfl,by decide +kernel,rfl,by decide +kernel,by decide +kernel⟩
def Small (ns : List Int) : Prop := ∀ x ∈ ns,0 ≤ x ∧ x < 2147483648
def sp_draws : Sp:=fun vs H Q _ => ∃ (c : Int) (m : Nat),vs = [.int c,.int m] ∧ m ≤ 1000 ∧ ∀ l ns H',Same H H' → H l = none → H' l = some (.lst (ns.map V.int)) → ns.length = m → Small ns → Q (.ref l) H'
theorem ok_draws (F : Fun K "_law_draws" "_law_draws" s_law_draws f fd) (T : Txt mg) (c_law_mixed : Cal P w K mg base "_law_mixed" ["_law_cell","_law_place"] 1 sp_mixed) : FnOk P w K mg base CX0 2 f fd ["_law_cell","_law_many"] sp_draws:=by
  refine F.ok sc_law_draws (fun vs H Q E h => ?_) (fun cdv A outer s H vs Q E hr h => ?_)
  · obtain ⟨c,m,rfl,_⟩:=h
    rfl
  · obtain ⟨c,m,rfl,hm,kk⟩:=h
    have nd:=sc_law_draws.nd
    have em : ((m : Int)).toNat = m:=Int.toNat_natCast m
    refine ⟨_,(pss_cons (ps_set (i:=2) nd rfl (Or.inl rfl) (pe_lst pa_nil))
      (pss_cons (ps_set (i:=3) nd rfl (Or.inl rfl) (pe_op op_sub (pv 0) (pe_op op_pow pe_int pe_int)))
      (pss_cons (ps_for PassesOwn.never rfl (pi_range1 rfl T.range (pa_cons (pv 1) pa_nil)) (pg_name (i:=4) nd rfl (Or.inl rfl))
      (pss_one (ps_if (pt_cmpR op_ge (pv 3) pe_int (nomark _)) (pss_cons (ps_expr (pe_bmK (K:=K) rfl PySem.F.plainAttrs_list PySem.F.slot_list_append PySem.F.type_list_append mt_append (pv 2) (pa_cons (pe_op op_mod (pv 3) pe_int) pa_nil)))
      (pss_one (ps_set (i:=3) nd rfl (Or.inl rfl) (pe_op op_fdiv (pv 3) pe_int)))) (pss_one (ps_expr (pe_bmK (K:=K) rfl PySem.F.plainAttrs_list PySem.F.slot_list_append PySem.F.type_list_append mt_append (pv 2) (pa_cons (pe_callC c_law_mixed hr rfl (pa_cons (pv 0) (pa_cons (pv 4) pa_nil))) pa_nil)))))))
      (pss_one (ps_ret (pv 2)))))),?_⟩
    refine ⟨by show 0 ≤ sizeLine; decide,fun L hL => ?_⟩
    refine ⟨_,rfl,_,_,rfl,rfl,⟨by decide,by decide,by decide⟩,_,_,rfl,rfl,?_⟩
    refine ⟨_,rfl,m,rfl,(n62 (by omega)).1,(n62 (by omega)).2,for_range (lo:=0) (n:=((m : Int)).toNat) (fun i σ H2 => ∃ (v4 : Option V) (x : Int) (ns : List Int),σ = [some (.int c),some (.int m),some (.ref L),some (.int x),v4] ∧ Same H H2 ∧ H2 L = some (.lst (ns.map V.int)) ∧ ns.length = i ∧ Small ns)
      ⟨none,_,[],rfl,Same.put hL,upd_same,rfl,fun _ h => nomatch h⟩ ?_ ?_⟩
    · rintro i σ H2 hi ⟨v4,x,ns,rfl,s2,hl,hlen,hsm⟩
      have sn : ∀ y : Int,0 ≤ y → y < 2147483648 → Small (ns ++ [y]):=fun y h0 h1 z hz => by
        rcases List.mem_append.mp hz with hz | hz
        · exact hsm z hz
        · simp at hz; subst hz; exact ⟨h0,h1⟩
      have sk : ∀ {H3 : Hp} {o : HO},Same H2 H3 → Same H (upd H3 L o):=fun s3 b o e => by
        rw [upd_ne (fun z => by rw [z,hL] at e; cases e)]
        exact s3 _ _ (s2 _ _ e)
      have hz : (ns.map V.int).length < sizeLine:=by rw [List.length_map]; exact slk (by omega)
      refine ⟨_,rfl,_,_,rfl,rfl,_,rfl,ite2 (fun h => ?_) (fun h => ?_)⟩
      · have q:=Int.emod_nonneg x (show (1000003 : Int) ≠ 0 by decide)
        have q':=Int.emod_lt_of_pos x (show (0 : Int) < 1000003 by decide)
        refine ⟨_,rfl,.inl ⟨rfl,_,SqL.of hl⟩,_,rfl,_,_,rfl,rfl,(by show (0 : Int) < 1000003; decide),L,_,_,rfl,rfl,hl,hz,?_⟩
        refine ⟨_,rfl,_,_,rfl,rfl,⟨by decide,by decide⟩,?_⟩
        exact ⟨_,_,ns ++ [x % 1000003],rfl,sk (Same.refl _),by rw [upd_same]; simp,by simp [hlen],sn _ q (by omega)⟩
      · refine ⟨_,rfl,.inl ⟨rfl,_,SqL.of hl⟩,_,rfl,_,rfl,c,i,by simp,by omega,fun y H3 y0 y1 s3 => ?_⟩
        exact ⟨L,_,_,rfl,rfl,s3 _ _ hl,hz,_,x,ns ++ [y],rfl,sk s3,by rw [upd_same]; simp,by simp [hlen],sn _ y0 y1⟩
    · rintro σ H2 ⟨v4,x,ns,rfl,s2,hl,hlen,hsm⟩
      exact ⟨_,rfl,kk L ns H2 s2 hL hl (hlen.trans em) hsm⟩
end
theorem cut1 (xs : List V) : cutV xs (some 1) none = xs.drop 1:=by
  unfold cutV
  rw [show (HT.sIx xs.length 0 (some 1)) = min 1 xs.length from HT.sIx_nat xs.length 0 1,HT.sIx_none]
  cases xs with
  | nil => rfl
  | cons a r => simp
theorem atI_neg1 {xs : List V} (h : xs ≠ []) : atI xs (-1) = some (xs.getLast h):=by
  have:=atI_last xs.dropLast (xs.getLast h)
  rwa [List.dropLast_concat_getLast] at this
theorem shlN (x p : Nat) : (x : Int) * 2 ^ ((p : Int)).toNat = ((x * 2 ^ p : Nat) : Int):=by
  rw [Int.toNat_natCast]; push_cast; rfl
section
variable {P : Program} {w : World} {K : PySem.W.Frag} {mg : Str → Option Value} {base : Heap} {f : Addr} {fd : FuncData}
abbrev s_law_flower : Stmt:=top 50
theorem sc_law_flower : FnScope ["_law_many"] ["_law_many"] (defScope s_law_flower):=⟨rfl,rfl,rfl,by decide +kernel,rfl,by decide +kernel,by decide +kernel⟩
def sp_flower : Sp:=fun vs H Q _ => ∃ m : Nat,vs = [.int m] ∧ 1 ≤ m ∧ m ≤ 5 ∧ ∀ l H',Same H H' → H l = none → H' l = some (.lst ((Ev.flower m).map nV)) → Q (.ref l) H'
theorem ok_flower (F : Fun K "_law_flower" "_law_flower" s_law_flower f fd) (T : Txt mg) : FnOk P w K mg base CX0 1 f fd ["_law_many"] sp_flower:=by
  refine F.ok sc_law_flower (fun vs H Q E h => ?_) (fun cdv A outer s H vs Q E hr h => ?_)
  · obtain ⟨m,rfl,_⟩:=h
    rfl
  · obtain ⟨m,rfl,h1,h5,kk⟩:=h
    have nd:=sc_law_flower.nd
    have em : ((m : Int)).toNat = m:=Int.toNat_natCast m
    refine ⟨_,(pss_one (ps_ret (pe_op op_cat (pe_op op_cat (pe_lst (pa_cons pe_int pa_nil)) (pe_op op_rep (pe_comp (own:=["_law_k"]) (fr:=[]) rfl (blkOk (defScope s_law_flower) ["_law_many"] rfl rfl (by decide +kernel)) (pi_range1 rfl T.range (pa_cons (pv 0) pa_nil)) (fun _ _ _ _ => ⟨(pg_name (i:=0) (by decide +kernel : (["_law_k"] : List Str).Nodup) rfl (Or.inl rfl)),pif_nil,(pe_op op_shl pe_int (pv 0))⟩)) (pe_callTy call_int1 rfl T.int bt_int (pa_cons (pe_cmpR op_gt (pv 0) pe_int (nomark _)) pa_nil)))) (pe_lst (pa_cons (pe_op op_sub (pe_op op_shl pe_int (pv 0)) pe_int) pa_nil))))),?_⟩
    refine ⟨by show 1 ≤ sizeLine; decide,fun p1 hp1 => ?_⟩
    refine ⟨_,rfl,m,rfl,(n62 (by omega)).1,(n62 (by omega)).2,fun D hD => comp_all (fun i => .int (1 * 2 ^ (0 + (i : Int)).toNat)) src_range hD (sl24 (by omega)) (fun i H2 Kt hi hs hk => ?_) (fun H2 hs hl => ?_)⟩
    · exact ⟨_,rfl,_,_,rfl,rfl,⟨by omega,by omega,by decide⟩,hk _ (Same.refl _)⟩
    refine ⟨_,rfl,_,_,rfl,rfl,.inr ⟨_,rfl,?_⟩⟩
    rw [em] at hl
    have s1 : Same H H2:=(Same.put hp1).trans hs
    have hb : (if decide ((1 : Int) < (m : Int)) = true then (1 : Int) else 0) = 1 ∨ (if decide ((1 : Int) < (m : Int)) = true then (1 : Int) else 0) = 0:=by split <;> simp
    refine ⟨D,_,_,rfl,rfl,hl,by rcases hb with e | e <;> rw [e] <;> decide,by rcases hb with e | e <;> rw [e] <;> decide,?_,fun p2 hp2 => ?_⟩
    · rw [List.length_map,List.length_range]
      rcases hb with e | e <;> rw [e] <;> simp
      exact Nat.le_of_lt (sl24 (by omega))
    have h1' : H2 p1 = some (.lst [.int 0]):=hs _ _ upd_same
    refine ⟨p1,p2,_,_,rfl,rfl,Same.put hp2 _ _ h1',upd_same,?_,fun p3 hp3 => ?_⟩
    · rw [len_rep,List.length_map,List.length_range]
      rcases hb with e | e <;> rw [e] <;> simp
      · exact Nat.le_trans (show 1 + m ≤ 24 by omega) (Nat.le_of_lt (sl24 (Nat.le_refl _)))
      · decide
    refine ⟨_,rfl,_,_,rfl,rfl,⟨by omega,by omega,by decide⟩,_,_,rfl,rfl,by show 1 ≤ sizeLine; decide,fun p4 hp4 => ?_⟩
    refine ⟨p3,p4,_,_,rfl,rfl,Same.put hp4 _ _ upd_same,upd_same,?_,fun p5 hp5 => ?_⟩
    · rw [List.length_append,len_rep,List.length_map,List.length_range]
      rcases hb with e | e <;> rw [e] <;> simp
      · exact Nat.le_trans (show 1 + m + 1 ≤ 24 by omega) (Nat.le_of_lt (sl24 (Nat.le_refl _)))
      · decide
    refine kk p5 _ ((((s1.trans (Same.put hp2)).trans (Same.put hp3)).trans (Same.put hp4)).trans (Same.put hp5)) (Same.free ?_ hp5) ?_
    · exact ((s1.trans (Same.put hp2)).trans (Same.put hp3)).trans (Same.put hp4)
    rw [upd_same]
    have hm : m = 1 ∨ m = 2 ∨ m = 3 ∨ m = 4 ∨ m = 5:=by omega
    rcases hm with rfl | rfl | rfl | rfl | rfl <;> rfl
abbrev s_law_stack : Stmt:=top 51
theorem sc_law_stack : FnScope ["_law_one","_law_other","_law_places"] ["_law_one","_law_other","_law_places"] (defScope s_law_stack):=⟨rfl,rfl,rfl,by decide +kernel,rfl,by decide +kernel,by decide +kernel⟩
def sp_stack (K : PySem.W.Frag) : Sp:=fun vs H Q _ => ∃ (a b p : Nat) (M1 M2 : List Nat),vs = [.ref a,.ref b,.int p] ∧ H a = some (.lst (M1.map nV)) ∧ H b = some (.lst (M2.map nV)) ∧ M1 ≠ [] ∧ M1.length ≤ 100 ∧ M2.length ≤ 100 ∧ (∀ x ∈ M2,x < 2 ^ 40) ∧ p ≤ 100 ∧
  ∀ l H',Same H H' → H l = none → H' l = some (.lst ((Ev.stackM M1 M2 p).map nV)) → Q (.ref l) H'
theorem ok_stack (F : Fun K "_law_stack" "_law_stack" s_law_stack f fd) (T : Txt mg) : FnOk P w K mg base CX0 1 f fd ["_law_one","_law_other","_law_places"] (sp_stack K):=by
  refine F.ok sc_law_stack (fun vs H Q E h => ?_) (fun cdv A outer s H vs Q E hr h => ?_)
  · obtain ⟨a,b,p,M1,M2,rfl,_⟩:=h
    rfl
  · obtain ⟨a,b,p,M1,M2,rfl,ha,hb,hne,hl1,hl2,hm,hp,kk⟩:=h
    have nd:=sc_law_stack.nd
    refine ⟨_,(pss_one (ps_ret (pe_op op_cat (pv 0) (pe_comp (own:=["_law_mask"]) (fr:=[("_law_one", 0),("_law_places", 2)]) rfl (blkOk (defScope s_law_stack) ["_law_one","_law_other","_law_places"] rfl rfl (by decide +kernel)) (pi_listK (K:=K) rfl (pe_slice (sl_listK (K:=K) rfl) (pv 1) (po_some pe_int) po_none)) (fun _ _ _ _ => ⟨(pg_name (i:=0) (by decide +kernel : (["_law_mask","_law_one","_law_places"] : List Str).Nodup) rfl (Or.inl rfl)),pif_nil,(pe_op op_or (pe_ix (ix_listK (K:=K) rfl) (pv 1) (pe_un un_neg pe_int) (fun _ _ => rfl)) (pe_op op_shl (pv 0) (pv 2)))⟩))))),?_⟩
    refine ⟨_,rfl,_,rfl,1,rfl,b,_,rfl,SqL.of hb,fun q hq => ?_⟩
    rw [cut1,← List.map_drop]
    refine ⟨q,rfl,⟨_,SqL.of upd_same⟩,fun D hD => comp_all (fun i => nV (M1.getLastD 0 ||| ((M2.drop 1).getD i 0 * 2 ^ p))) (src_list (SqL.of upd_same)) hD (slk (by simp; omega)) (fun i H2 Kt hi hs hk => ?_) (fun H2 hs hl => ?_)⟩
    · have hi' : i < (M2.drop 1).length:=by simpa using hi
      have ha2 : H2 a = some (.lst (M1.map nV)):=hs _ _ (Same.put hq _ _ ha)
      have hne' : M1.map nV ≠ []:=by simpa using hne
      have eg : ((M2.drop 1).map nV).getD i .non = nV ((M2.drop 1).getD i 0):=by
        rw [List.getD_eq_getElem?_getD,List.getD_eq_getElem?_getD,List.getElem?_map,List.getElem?_eq_getElem hi']; rfl
      have hx : (M2.drop 1).getD i 0 < 2 ^ 40:=by
        rw [List.getD_eq_getElem?_getD,List.getElem?_eq_getElem hi']
        exact hm _ (List.mem_of_mem_drop (List.getElem_mem hi'))
      refine ⟨_,rfl,_,rfl,a,_,_,_,rfl,rfl,SqL.of ha2,atI_neg1 hne',_,rfl,_,rfl,_,_,eg,rfl,⟨by omega,by omega,by omega⟩,_,_,by rw [List.getLast_map],rfl,?_⟩
      have e2 : M1.getLast hne = M1.getLastD 0:=by
        rw [List.getLastD_eq_getLast?,List.getLast?_eq_some_getLast hne]; rfl
      dsimp only
      rw [shlN,orN,e2]
      exact hk _ (Same.refl _)
    · have s1:=(Same.put hq).trans hs
      refine ⟨a,D,_,_,rfl,rfl,s1 _ _ ha,hl,?_,fun l hl' => ?_⟩
      · simp
        exact Nat.le_trans (show M1.length + (M2.length - 1) ≤ 1000 by omega) (Nat.le_of_lt (slk (by omega)))
      · refine kk l _ (s1.trans (Same.put hl')) (s1.free hl') ?_
        rw [upd_same]
        congr 2
        unfold Ev.stackM
        rw [List.map_append]
        congr 1
        apply List.ext_getElem
        · simp
        · intro i h1 h2
          have hi' : i < (M2.drop 1).length:=by simpa using h1
          simp only [List.getElem_map,List.getElem_range]
          rw [List.getD_eq_getElem?_getD,List.getElem?_eq_getElem hi']
          rfl
abbrev s_law_beside : Stmt:=top 52
theorem sc_law_beside : FnScope ["_law_one","_law_other","_law_found","_law_mask"] ["_law_one","_law_other"] (defScope s_law_beside):=⟨rfl,rfl,rfl,by decide +kernel,rfl,by decide +kernel,by decide +kernel⟩
def sp_beside (K : PySem.W.Frag) : Sp:=fun vs H Q _ => ∃ (a b : Nat) (M1 M2 : List Nat),vs = [.ref a,.ref b] ∧ H a = some (.lst (M1.map nV)) ∧ H b = some (.lst (M2.map nV)) ∧ M1.length ≤ 100 ∧ M2.length ≤ 100 ∧ (∀ x ∈ M2,x < 2 ^ 40) ∧
  ∀ l H',Same H H' → H l = none → H' l = some (.lst ((Ev.besideM M1 M2).map nV)) → Q (.ref l) H'
theorem ok_beside (F : Fun K "_law_beside" "_law_beside" s_law_beside f fd) (T : Txt mg) : FnOk P w K mg base CX0 1 f fd ["_law_one","_law_other"] (sp_beside K):=by
  refine F.ok sc_law_beside (fun vs H Q E h => ?_) (fun cdv A outer s H vs Q E hr h => ?_)
  · obtain ⟨a,b,M1,M2,rfl,_⟩:=h
    rfl
  · obtain ⟨a,b,M1,M2,rfl,ha,hb,hl1,hl2,hm,kk⟩:=h
    have nd:=sc_law_beside.nd
    refine ⟨_,(pss_cons (ps_set (i:=2) nd rfl (Or.inl rfl) (pe_lst pa_nil))
      (pss_cons (ps_for PassesOwn.never rfl (pi_listK (K:=K) rfl (pv 0)) (pg_name (i:=3) nd rfl (Or.inr rfl))
      (pss_one (ps_set (i:=2) nd rfl (Or.inl rfl) (pe_op op_cat (pv 2) (pe_comp (own:=["_law_more"]) (fr:=[("_law_mask", 3)]) rfl (blkOk (defScope s_law_beside) ["_law_one","_law_other","_law_found","_law_mask"] rfl rfl (by decide +kernel)) (pi_listK (K:=K) rfl (pv 1)) (fun _ _ _ _ => ⟨(pg_name (i:=0) (by decide +kernel : (["_law_more","_law_mask"] : List Str).Nodup) rfl (Or.inl rfl)),pif_nil,(pe_op op_or (pv 1) (pe_op op_shl (pv 0) pe_int))⟩))))))
      (pss_one (ps_ret (pv 2))))),?_⟩
    refine ⟨by show 0 ≤ sizeLine; decide,fun L hL => ?_⟩
    refine ⟨_,rfl,a,rfl,⟨_,SqL.of (Same.put hL _ _ ha)⟩,for_list (K:=K) (a:=a) (xs:=M1.map nV) (fun i σ H2 => ∃ v3 l,σ = [some (.ref a),some (.ref b),some (.ref l),v3] ∧ Same H H2 ∧ H l = none ∧ H2 l = some (.lst ((Ev.besideM (M1.take i) M2).map nV)))
      ⟨none,L,rfl,Same.put hL,hL,by rw [upd_same]; rfl⟩ (fun i σ H2 _ ⟨_,_,_,s2,_⟩ => SqL.of (s2 _ _ ha)) ?_ ?_⟩
    · rintro i y σ H2 hi ⟨v3,l,rfl,s2,hl,hl2'⟩
      have hi1 : i < M1.length:=by simpa using (List.getElem?_eq_some_iff.mp hi).1
      have ey : y = nV M1[i]:=by
        rw [List.getElem?_map,List.getElem?_eq_getElem hi1] at hi
        exact (Option.some.inj hi).symm
      subst ey
      refine ⟨_,rfl,_,rfl,b,rfl,⟨_,SqL.of (s2 _ _ hb)⟩,fun D hD => comp_all (fun j => nV (M1[i] ||| (M2.getD j 0 * 2 ^ 10))) (src_list (SqL.of (s2 _ _ hb))) hD (slk (by simp; omega)) (fun j H3 Kt hj hs hk => ?_) (fun H3 hs hl3 => ?_)⟩
      · have hj' : j < M2.length:=by simpa using hj
        have eg : (M2.map nV).getD j .non = nV (M2.getD j 0):=by
          rw [List.getD_eq_getElem?_getD,List.getD_eq_getElem?_getD,List.getElem?_map,List.getElem?_eq_getElem hj']; rfl
        have hx : M2.getD j 0 < 2 ^ 40:=by
          rw [List.getD_eq_getElem?_getD,List.getElem?_eq_getElem hj']
          exact hm _ (List.getElem_mem hj')
        refine ⟨_,rfl,_,rfl,_,_,eg,rfl,⟨by decide,by decide,by omega⟩,_,_,rfl,rfl,?_⟩
        have e3 : ((M2.getD j 0 : Nat) : Int) * 2 ^ ((10 : Int)).toNat = ((M2.getD j 0 * 2 ^ 10 : Nat) : Int):=shlN _ 10
        dsimp only
        rw [e3,orN]
        exact hk _ (Same.refl _)
      · have hlen : ((Ev.besideM (M1.take i) M2).map nV).length ≤ 10000:=by
          rw [List.length_map]
          unfold Ev.besideM
          rw [List.length_flatMap]
          have : ((M1.take i).map fun m => (M2.map fun x => m ||| x * 2 ^ 10).length) = (M1.take i).map fun _ => M2.length:=by
            apply List.map_congr_left; intro x _; simp
          rw [this,List.map_const',List.sum_replicate_nat]
          have h1 : (M1.take i).length ≤ 100:=by simp; omega
          exact Nat.le_trans (Nat.mul_le_mul h1 hl2) (by decide)
        refine ⟨l,D,_,_,rfl,rfl,hs _ _ hl2',hl3,?_,fun q hq => ?_⟩
        · rw [List.length_map (f:=fun j => nV (M1[i] ||| (M2.getD j 0 * 2 ^ 10)))]
          simp only [List.length_range,List.length_map] at hlen ⊢
          have := @slk 100000 (by omega)
          omega
        · have sq:=(s2.trans hs)
          refine ⟨_,q,rfl,sq.trans (Same.put hq),sq.free hq,?_⟩
          rw [upd_same]
          have et : M1.take (i + 1) = M1.take i ++ [M1[i]]:=by rw [List.take_add_one,List.getElem?_eq_getElem hi1]; rfl
          rw [et]
          unfold Ev.besideM
          rw [List.flatMap_append,List.map_append]
          congr 3
          apply List.ext_getElem
          · simp
          · intro j h1 h2
            have hj' : j < M2.length:=by simpa using h1
            simp only [List.getElem_map,List.getElem_range,List.flatMap_cons,List.flatMap_nil,List.append_nil]
            rw [List.getD_eq_getElem?_getD,List.getElem?_eq_getElem hj']
            rfl
    · rintro σ H2 ⟨v3,l,rfl,s2,hl,hl2'⟩
      rw [List.length_map,List.take_length] at hl2'
      exact ⟨_,rfl,kk l H2 s2 hl hl2'⟩
end
section
variable {P : Program} {w : World} {K : PySem.W.Frag} {mg : Str → Option Value} {base : Heap} {f : Addr} {fd : FuncData}
theorem nV_get {M : List Nat} {a : Nat} (h : a < M.length) : (M.map nV)[a]? = some (nV (M.getD a 0)):=by
  rw [List.getElem?_map,List.getElem?_eq_getElem h,List.getD_eq_getElem?_getD,List.getElem?_eq_getElem h]; rfl
abbrev s_law_at_most : Stmt:=top 56
theorem sc_law_at_most : FnScope ["_law_masks","_law_a","_law_b"] ["_law_masks","_law_a","_law_b"] (defScope s_law_at_most):=⟨rfl,rfl,rfl,by decide +kernel,rfl,by decide +kernel,by decide +kernel⟩
def sp_at_most (K : PySem.W.Frag) : Sp:=fun vs H Q _ => ∃ (m a b : Nat) (M : List Nat),vs = [.ref m,.int a,.int b] ∧ SqL K H m (M.map nV) ∧ a < M.length ∧ b < M.length ∧ ∀ H',Same H H' → Q (.bl (Ev.leM M a b)) H'
theorem ok_at_most (F : Fun K "_law_at_most" "_law_at_most" s_law_at_most f fd) (T : Txt mg) : FnOk P w K mg base CX0 1 f fd ["_law_masks","_law_a","_law_b"] (sp_at_most K):=by
  refine F.ok sc_law_at_most (fun vs H Q E h => ?_) (fun cdv A outer s H vs Q E hr h => ?_)
  · obtain ⟨m,a,b,M,rfl,_⟩:=h
    rfl
  · obtain ⟨m,a,b,M,rfl,hm,ha,hb,kk⟩:=h
    have nd:=sc_law_at_most.nd
    refine ⟨_,(pss_one (ps_ret (pe_cmpR op_eq (pe_op op_and (pe_ix (ix_listK (K:=K) rfl) (pv 0) (pv 1) (fun _ _ => rfl)) (pe_ix (ix_listK (K:=K) rfl) (pv 0) (pv 2) (fun _ _ => rfl))) (pe_ix (ix_listK (K:=K) rfl) (pv 0) (pv 1) (fun _ _ => rfl)) (nomark _)))),?_⟩
    refine ⟨_,rfl,_,rfl,m,_,a,_,rfl,rfl,hm,atI_nat (nV_get ha),_,rfl,_,rfl,m,_,b,_,rfl,rfl,hm,atI_nat (nV_get hb),_,_,rfl,rfl,_,rfl,_,rfl,m,_,a,_,rfl,rfl,hm,atI_nat (nV_get ha),rfl,?_⟩
    have e : decide (V.int (Builtin.bitAnd (M.getD a 0 : Nat) (M.getD b 0 : Nat)) = nV (M.getD a 0)) = Ev.leM M a b:=by
      rw [andN]
      unfold Ev.leM
      apply decide_eq_decide.mpr
      unfold Ev.Sub
      constructor
      · intro h; injection h with h; omega
      · intro h; rw [h]
    dsimp only
    rw [e]
    exact kk _ (Same.refl _)
abbrev s_law_steps : Stmt:=top 59
theorem sc_law_steps : FnScope ["_law_masks","_law_count","_law_found","_law_a","_law_above","_law_b"] ["_law_masks"] (defScope s_law_steps):=⟨rfl,rfl,rfl,by decide +kernel,rfl,by decide +kernel,by decide +kernel⟩
def aboveM (M : List Nat) (a : Nat) : List Nat:=(List.range M.length).filter fun b => !decide (a = b) && Ev.leM M a b
def stepsM (M : List Nat) : List (Nat × Nat):=(List.range M.length).flatMap fun a => ((aboveM M a).filter fun b => ((aboveM M a).filter fun c => Ev.leM M c b).length == 1).map fun b => (a,b)
theorem mem_aboveM {M : List Nat} {a b : Nat} : b ∈ aboveM M a ↔ b < M.length ∧ a ≠ b ∧ Ev.leM M a b = true:=by
  unfold aboveM
  rw [List.mem_filter]
  simp [and_assoc]
theorem mem_stepsM {M : List Nat} {p : Nat × Nat} (h : p ∈ stepsM M) : p.1 < M.length ∧ p.2 < M.length ∧ Ev.leM M p.1 p.2 = true:=by
  unfold stepsM at h
  rw [List.mem_flatMap] at h
  obtain ⟨a,ha,h⟩:=h
  obtain ⟨b,hb,rfl⟩:=List.mem_map.mp h
  have h1:=mem_aboveM.mp (List.mem_filter.mp hb).1
  exact ⟨by simpa using ha,h1.1,h1.2.2⟩
theorem one_of {l : List Nat} {b : Nat} (nd : l.Nodup) (hb : b ∈ l) (h : ∀ c ∈ l,c = b) : l.length = 1:=by
  match l,nd,hb,h with
  | [x],_,_,_ => rfl
  | x :: y :: r,nd,_,h =>
    have h1:=h x List.mem_cons_self
    have h2:=h y (List.mem_cons_of_mem _ List.mem_cons_self)
    rw [List.nodup_cons] at nd
    exact absurd (show x ∈ y :: r by rw [h1,← h2]; exact List.mem_cons_self) nd.1
theorem step_in {M : List Nat} (nd : M.Nodup) {a b : Nat} (ha : a < M.length) (hb : b < M.length) (h : Ev.stepM M a b) : (a,b) ∈ stepsM M:=by
  unfold stepsM
  rw [List.mem_flatMap]
  refine ⟨a,by simpa using ha,List.mem_map.mpr ⟨b,List.mem_filter.mpr ⟨mem_aboveM.mpr ⟨hb,h.1,h.2.1⟩,?_⟩,rfl⟩⟩
  have e : ((aboveM M a).filter fun c => Ev.leM M c b).length = 1:=by
    apply one_of (b:=b)
    · exact (List.nodup_range.filter _).filter _
    · exact List.mem_filter.mpr ⟨mem_aboveM.mpr ⟨hb,h.1,h.2.1⟩,Ev.leM_refl M b⟩
    · intro c hc
      obtain ⟨h1,h2⟩:=List.mem_filter.mp hc
      obtain ⟨h3,h4,h5⟩:=mem_aboveM.mp h1
      rcases h.2.2 c h3 h5 h2 with z | z
      · exact absurd z.symm h4
      · exact z
  rw [e]
  rfl
theorem filter_len (p : Nat → Bool) (l : List Nat) : ((List.range l.length).filter fun j => p (l.getD j 0)).length = (l.filter p).length:=by
  have e : l = (List.range l.length).map fun j => l.getD j 0:=by
    apply List.ext_getElem
    · simp
    · intro i h1 h2
      simp only [List.getElem_map,List.getElem_range]
      rw [List.getD_eq_getElem?_getD,List.getElem?_eq_getElem h1]
      rfl
  have e2 : (l.filter p).length = (((List.range l.length).map fun j => l.getD j 0).filter p).length:=by rw [← e]
  rw [e2,List.filter_map,List.length_map]
  rfl
def sp_steps (K : PySem.W.Frag) : Sp:=fun vs H Q _ => ∃ (m : Nat) (M : List Nat),vs = [.ref m] ∧ SqL K H m (M.map nV) ∧ M.length ≤ 24 ∧ ∀ l us H',Same H H' → H l = none → H' l = some (.lst us) → us.length ≤ 576 → Paired (pairV H') (stepsM M) us → Q (.ref l) H'
theorem ok_steps (F : Fun K "_law_steps" "_law_steps" s_law_steps f fd) (T : Txt mg) (c_law_at_most : Cal P w K mg base "_law_at_most" ["_law_masks","_law_a","_law_b"] 1 (sp_at_most K)) : FnOk P w K mg base CX0 2 f fd ["_law_masks"] (sp_steps K):=by
  refine F.ok sc_law_steps (fun vs H Q E h => ?_) (fun cdv A outer s H vs Q E hr h => ?_)
  · obtain ⟨m,M,rfl,_⟩:=h
    rfl
  · obtain ⟨m,M,rfl,hm,hn,kk⟩:=h
    have nd:=sc_law_steps.nd
    have en : (((M.map nV).length : Int)).toNat = M.length:=by rw [Int.toNat_natCast,List.length_map]
    refine ⟨_,(pss_cons (ps_set (i:=1) nd rfl (Or.inl rfl) (pe_callB (call_lenK (K:=K) rfl) rfl T.len PySem.boot_len (pa_cons (pv 0) pa_nil)))
      (pss_cons (ps_set (i:=2) nd rfl (Or.inl rfl) (pe_lst pa_nil))
      (pss_cons (ps_for PassesOwn.never rfl (pi_range1 rfl T.range (pa_cons (pv 1) pa_nil)) (pg_name (i:=3) nd rfl (Or.inr rfl))
      (pss_cons (ps_setC (i:=4) nd rfl rfl (own:=["_law_b"]) (fr:=[("_law_a", 3),("_law_masks", 0)]) rfl (blkOk (defScope s_law_steps) ["_law_masks","_law_count","_law_found","_law_a","_law_above","_law_b"] rfl rfl (by decide +kernel)) (pi_range1 rfl T.range (pa_cons (pv 1) pa_nil)) (fun _ _ _ _ => ⟨(pg_name (i:=0) (by decide +kernel : (["_law_b","_law_a","_law_masks"] : List Str).Nodup) rfl (Or.inl rfl)),(pif_one (PW.pt (pw_and (pt_cmpR op_ne (pv 1) (pv 0) (nomark _)) (pw_and1 (pt_val (pe_callC c_law_at_most hr rfl (pa_cons (pv 2) (pa_cons (pv 1) (pa_cons (pv 0) pa_nil (star_of (fun _ _ h => nomatch h))) (star_of (fun _ _ h => nomatch h))) (star_of (fun _ _ h => nomatch h))))))))),(pv 0)⟩))
      (pss_one (ps_for PassesOwn.never rfl (pi_listK (K:=K) rfl (pv 4)) (pg_name (i:=5) nd rfl (Or.inr rfl))
      (pss_one (ps_if (pt_cmpR op_eq (pe_callB (call_lenK (K:=K) rfl) rfl T.len PySem.boot_len (pa_cons (pe_comp (own:=["_law_c"]) (fr:=[("_law_masks", 0),("_law_b", 5)]) rfl (blkOk (defScope s_law_steps) ["_law_masks","_law_count","_law_found","_law_a","_law_above","_law_b"] rfl rfl (by decide +kernel)) (pi_listK (K:=K) rfl (pv 4)) (fun _ _ _ _ => ⟨(pg_name (i:=0) (by decide +kernel : (["_law_c","_law_masks","_law_b"] : List Str).Nodup) rfl (Or.inl rfl)),(pif_one (pt_val (pe_callC c_law_at_most hr rfl (pa_cons (pv 1) (pa_cons (pv 0) (pa_cons (pv 2) pa_nil (star_of (fun _ _ h => nomatch h))) (star_of (fun _ _ h => nomatch h))) (star_of (fun _ _ h => nomatch h)))))),(pv 0)⟩)) pa_nil)) pe_int (nomark _)) (pss_one (ps_expr (pe_bmK (K:=K) rfl PySem.F.plainAttrs_list PySem.F.slot_list_append PySem.F.type_list_append mt_append (pv 2) (pa_cons (pe_tup (pa_cons (pv 3) (pa_cons (pv 5) pa_nil))) pa_nil)))) pss_nil))))))
      (pss_one (ps_ret (pv 2)))))),?_⟩
    refine ⟨_,rfl,m,_,rfl,.inl hm,?_⟩
    refine ⟨by show 0 ≤ sizeLine; decide,fun L hL => ?_⟩
    refine ⟨_,rfl,_,rfl,by rw [List.length_map]; exact (n62 (by omega)).1,by rw [List.length_map]; exact (n62 (by omega)).2,for_range (lo:=0) (n:=(((M.map nV).length : Int)).toNat) (fun i σ H2 => ∃ (v3 v4 v5 : Option V) (us : List V),σ = [some (.ref m),some (.int (M.map nV).length),some (.ref L),v3,v4,v5] ∧ Same H H2 ∧ H2 L = some (.lst us) ∧ us.length ≤ 24 * i ∧
      Paired (pairV H2) ((List.range i).flatMap fun a => ((aboveM M a).filter fun b => ((aboveM M a).filter fun c => Ev.leM M c b).length == 1).map fun b => (a,b)) us) ⟨none,none,none,[],rfl,Same.put hL,upd_same,by simp,.nil⟩ ?_ ?_⟩
    · rintro i σ H2 hi ⟨v3,v4,v5,us,rfl,s2,hl,hlen,hp⟩
      rw [en] at hi
      -- above
      refine ⟨_,rfl,_,rfl,by rw [List.length_map]; exact (n62 (by omega)).1,by rw [List.length_map]; exact (n62 (by omega)).2,fun D hD => comp_val (fun b => !decide (i = b) && Ev.leM M i b) nV src_range hD (by rw [en]; exact sl24 hn) (fun j H3 Kt Kf hj hs hkt hkf => ?_) (fun H3 hs3 hl3 => ?_)⟩
      · rw [en] at hj
        refine ⟨_,rfl,_,rfl,rfl,_,rfl,?_⟩
        have ed : (!decide (V.int (0 + (i : Int)) = V.int (0 + (j : Int)))) = !decide (i = j):=by
          congr 1
          rw [Int.zero_add]
          exact decV
        rw [ed]
        refine ite2 (fun h => ?_) (fun h => ?_)
        · refine ⟨_,rfl,_,rfl,_,rfl,m,i,j,M,by simp,hs.seq (s2.seq hm),hi,hj,fun H4 s4 => ⟨_,rfl,ite2 (fun h' => ?_) (fun h' => ?_)⟩⟩
          · refine ⟨_,rfl,?_⟩
            rw [Int.zero_add]
            exact hkt _ (by rw [h,h',Bool.true_and]) s4
          · exact hkf _ (by rw [h,Bool.true_and]; simpa using h') s4
        · refine iteF ?_
          have h2 : (!decide (i = j)) = false:=by simpa using h
          exact hkf _ (by rw [h2,Bool.false_and]) (Same.refl _)
      rw [en] at hl3
      change H3 D = some (.lst ((aboveM M i).map nV)) at hl3
      -- for b in above
      have hDL : D ≠ L:=fun e => by rw [e,hl] at hD; cases hD
      have hab : (aboveM M i).length ≤ 24:=Nat.le_trans (List.length_filter_le _ _) (by rw [List.length_range]; exact hn)
      refine ⟨_,rfl,D,rfl,⟨_,SqL.of hl3⟩,for_list (K:=K) (a:=D) (xs:=(aboveM M i).map nV) (fun t σ H4 => ∃ (v5 : Option V) (ws : List V),σ = [some (.ref m),some (.int (M.map nV).length),some (.ref L),some (.int (0 + (i : Int))),some (.ref D),v5] ∧ Same H H4 ∧ H4 D = some (.lst ((aboveM M i).map nV)) ∧
        H4 L = some (.lst (us ++ ws)) ∧ ws.length ≤ t ∧ Paired (pairV H4) (((List.range i).flatMap fun a => ((aboveM M a).filter fun b => ((aboveM M a).filter fun c => Ev.leM M c b).length == 1).map fun b => (a,b)) ++ ((((aboveM M i).take t).filter fun b => ((aboveM M i).filter fun c => Ev.leM M c b).length == 1).map fun b => (i,b))) (us ++ ws))
        ⟨v5,[],rfl,s2.trans hs3,hl3,by rw [List.append_nil]; exact hs3 _ _ hl,Nat.le_refl _,by simpa using pairsV.same hs3 hp⟩ (fun i σ H4 _ ⟨_,_,_,_,h4,_⟩ => SqL.of h4) ?_ ?_⟩
      · rintro t y σ H4 ht ⟨v5,ws,rfl,s4,hD4,hl4,hws,hp4⟩
        have htl : t < (aboveM M i).length:=by simpa using (List.getElem?_eq_some_iff.mp ht).1
        have ey : y = nV (aboveM M i)[t]:=by
          rw [List.getElem?_map,List.getElem?_eq_getElem htl] at ht
          exact (Option.some.inj ht).symm
        subst ey
        have hbl:=(mem_aboveM.mp (List.getElem_mem htl)).1
        have et : (aboveM M i).take (t + 1) = (aboveM M i).take t ++ [(aboveM M i)[t]]:=by rw [List.take_add_one,List.getElem?_eq_getElem htl]; rfl
        refine ⟨_,rfl,D,rfl,⟨_,SqL.of hD4⟩,fun D2 hD2 => comp_val (fun j => Ev.leM M ((aboveM M i).getD j 0) (aboveM M i)[t]) (fun j => nV ((aboveM M i).getD j 0)) (src_list (SqL.of hD4)) hD2 (by rw [List.length_map]; exact sl24 hab) (fun j H5 Kt Kf hj hs hkt hkf => ?_) (fun H5 hs5 hl5 => ?_)⟩
        · have hj' : j < (aboveM M i).length:=by simpa using hj
          have hcl : (aboveM M i).getD j 0 < M.length:=by
            rw [List.getD_eq_getElem?_getD,List.getElem?_eq_getElem hj']
            exact (mem_aboveM.mp (List.getElem_mem hj')).1
          have eg : ((aboveM M i).map nV).getD j .non = nV ((aboveM M i).getD j 0):=by
            rw [List.getD_eq_getElem?_getD,nV_get hj']; rfl
          refine ⟨_,rfl,_,rfl,_,rfl,m,_,_,M,by rw [eg]; rfl,hs.seq (s4.seq hm),hcl,hbl,fun H6 s6 => ⟨_,rfl,ite2 (fun h => ?_) (fun h => ?_)⟩⟩
          · refine ⟨_,rfl,?_⟩
            rw [eg]
            exact hkt _ h s6
          · exact hkf _ (by simpa using h) s6
        have ef : (((List.range ((aboveM M i).map nV).length).filter fun j => Ev.leM M ((aboveM M i).getD j 0) (aboveM M i)[t]).map fun j => nV ((aboveM M i).getD j 0)).length = ((aboveM M i).filter fun c => Ev.leM M c (aboveM M i)[t]).length:=by
          rw [List.length_map,List.length_map]
          exact filter_len (fun c => Ev.leM M c (aboveM M i)[t]) (aboveM M i)
        refine ⟨D2,_,rfl,.inl (SqL.of hl5),rfl,_,rfl,?_⟩
        rw [ef]
        have hl5':=hs5 _ _ hl4
        have ed : decide (V.int ((((aboveM M i).filter fun c => Ev.leM M c (aboveM M i)[t]).length : Nat) : Int) = V.int 1) = (((aboveM M i).filter fun c => Ev.leM M c (aboveM M i)[t]).length == 1):=by
          rw [Bool.eq_iff_iff]
          simp only [decide_eq_true_iff,beq_iff_eq]
          constructor
          · intro h; injection h with h; omega
          · intro h; rw [h]; rfl
        rw [ed]
        refine ite2 (fun h => ?_) (fun h => ?_)
        · refine ⟨_,rfl,.inl ⟨rfl,_,SqL.of hl5'⟩,_,rfl,_,rfl,by show 2 ≤ sizeLine; decide,fun q hq => ?_⟩
          refine ⟨L,_,_,rfl,rfl,Same.put hq _ _ hl5',?_,?_⟩
          · rw [List.length_append]; exact slk (by omega)
          · have hqL : L ≠ q:=fun e => by rw [← e,hl5'] at hq; cases hq
            refine ⟨_,ws ++ [.ref q],rfl,?_,?_,?_,by rw [List.length_append]; exact Nat.succ_le_succ hws,?_⟩
            · intro b o e
              rw [upd_ne (fun z => by rw [z,hL] at e; cases e)]
              exact Same.put hq _ _ (hs5 _ _ (s4 _ _ e))
            · rw [upd_ne hDL]; exact Same.put hq _ _ (hs5 _ _ hD4)
            · rw [upd_same,List.append_assoc]
            · rw [et,List.filter_append,List.map_append,← List.append_assoc,← List.append_assoc]
              have e1 : ([(aboveM M i)[t]].filter fun b => ((aboveM M i).filter fun c => Ev.leM M c b).length == 1) = [(aboveM M i)[t]]:=by rw [List.filter_cons,if_pos h]; rfl
              rw [e1]
              refine pairsV_upd (Same.put hq _ _ hl5') (paired_append (pairsV.same (hs5.trans (Same.put hq)) hp4) (.cons ⟨q,rfl,?_⟩ .nil))
              rw [upd_same,Int.zero_add]
        · refine ⟨_,ws,rfl,s4.trans hs5,hs5 _ _ hD4,hl5',Nat.le_succ_of_le hws,?_⟩
          rw [et,List.filter_append,List.map_append]
          have e1 : ([(aboveM M i)[t]].filter fun b => ((aboveM M i).filter fun c => Ev.leM M c b).length == 1) = []:=by rw [List.filter_cons,if_neg h]; rfl
          rw [e1,List.map_nil,List.append_nil]
          exact pairsV.same hs5 hp4
      · rintro σ H4 ⟨v5,ws,rfl,s4,hD4,hl4,hws,hp4⟩
        rw [List.length_map,List.take_length] at hp4
        rw [List.length_map] at hws
        refine ⟨_,_,_,us ++ ws,rfl,s4,hl4,by rw [List.length_append]; omega,?_⟩
        rw [range_flat]
        exact hp4
    · rintro σ H2 ⟨v3,v4,v5,us,rfl,s2,hl,hlen,hp⟩
      rw [en] at hp hlen
      exact ⟨_,rfl,kk L us H2 s2 hL hl (by omega) hp⟩
end
section
variable {P : Program} {w : World} {K : PySem.W.Frag} {mg : Str → Option Value} {base : Heap} {f : Addr} {fd : FuncData}
theorem cutFrom (xs : List V) (k : Nat) : cutV xs (some (k : Int)) none = xs.drop k:=by
  unfold cutV
  rw [HT.sIx_none,HT.sIx_nat]
  by_cases h : k ≤ xs.length
  · rw [Nat.min_eq_left h,List.take_of_length_le (by simp)]
  · rw [Nat.min_eq_right (by omega),List.drop_length,List.drop_of_length_le (by omega)]; simp
theorem cutTo' (xs : List V) (k : Nat) : cutV xs none (some (k : Int)) = xs.take k:=by
  unfold cutV
  rw [HT.sIx_none,HT.sIx_nat,List.drop_zero,Nat.sub_zero]
  by_cases h : k ≤ xs.length
  · rw [Nat.min_eq_left h]
  · rw [Nat.min_eq_right (by omega),List.take_of_length_le (by omega),List.take_of_length_le (by omega)]
theorem emodN' (x : Int) (k : Nat) (hk : 0 < k) : ∃ r : Nat,r < k ∧ x % (k : Int) = (r : Int) :=
  ⟨(x % (k : Int)).toNat,by have h1:=Int.emod_nonneg x (show (k : Int) ≠ 0 by omega); have h2:=Int.emod_lt_of_pos x (show (0 : Int) < k by omega); omega,by have h1:=Int.emod_nonneg x (show (k : Int) ≠ 0 by omega); omega⟩
theorem paired_drop {α β : Type} {G : α → β → Prop} : ∀ {l : List α} {m : List β} (k : Nat),Paired G l m → Paired G (l.drop k) (m.drop k)
  | _,_,0,h => h
  | _,_,_ + 1,.nil => .nil
  | _,_,k + 1,.cons _ t => paired_drop k t
theorem paired_take {α β : Type} {G : α → β → Prop} : ∀ {l : List α} {m : List β} (k : Nat),Paired G l m → Paired G (l.take k) (m.take k)
  | _,_,0,_ => .nil
  | _,_,_ + 1,.nil => .nil
  | _,_,k + 1,.cons r t => .cons r (paired_take k t)
structure Hand (M : List Nat) (ps : List (Nat × Nat)) : Prop where
  lt : ∀ p ∈ ps,p.1 < M.length ∧ p.2 < M.length
  le : ∀ p ∈ ps,Ev.leM M p.1 p.2 = true
  all : ∀ p ∈ stepsM M,p ∈ ps
theorem getDI {ns : List Int} {i : Nat} (h : i < ns.length) : (ns.map V.int)[i]? = some (.int (ns.getD i 0)):=by
  rw [List.getElem?_map,List.getElem?_eq_getElem h,List.getD_eq_getElem?_getD,List.getElem?_eq_getElem h]; rfl
abbrev s_law_handed : Stmt:=top 60
theorem sc_law_handed : FnScope ["_law_masks","_law_draws_here","_law_found","_law_k","_law_turn","_law_a","_law_b"] ["_law_masks","_law_draws_here"] (defScope s_law_handed):=⟨rfl,rfl,rfl,by decide +kernel,rfl,by decide +kernel,by decide +kernel⟩
def sp_handed (K : PySem.W.Frag) : Sp:=fun vs H Q _ => ∃ (m d : Nat) (M : List Nat) (ns : List Int),vs = [.ref m,.ref d] ∧ SqL K H m (M.map nV) ∧ SqL K H d (ns.map V.int) ∧ ns.length = 8 ∧ 0 < M.length ∧ M.length ≤ 24 ∧
  ∀ l us ps H',Same H H' → H l = none → H' l = some (.lst us) → us.length ≤ 1000 → Paired (pairV H') ps us → Hand M ps → Q (.ref l) H'
theorem ok_handed (F : Fun K "_law_handed" "_law_handed" s_law_handed f fd) (T : Txt mg) (c_law_steps : Cal P w K mg base "_law_steps" ["_law_masks"] 2 (sp_steps K)) (c_law_at_most : Cal P w K mg base "_law_at_most" ["_law_masks","_law_a","_law_b"] 1 (sp_at_most K)) :
    FnOk P w K mg base CX0 3 f fd ["_law_masks","_law_draws_here"] (sp_handed K):=by
  refine F.ok sc_law_handed (fun vs H Q E h => ?_) (fun cdv A outer s H vs Q E hr h => ?_)
  · obtain ⟨m,d,M,ns,rfl,_⟩:=h
    rfl
  · obtain ⟨m,d,M,ns,rfl,hm,hd,hns,hpos,hn,kk⟩:=h
    have nd:=sc_law_handed.nd
    refine ⟨_,(pss_cons (ps_set (i:=2) nd rfl (Or.inl rfl) (pe_callC c_law_steps hr rfl (pa_cons (pv 0) pa_nil)))
      (pss_cons (ps_for PassesOwn.never rfl (pi_range1 rfl T.range (pa_cons (pe_op op_mod (pe_ix (ix_listK (K:=K) rfl) (pv 1) pe_int (fun _ _ => rfl)) pe_int) pa_nil)) (pg_name (i:=3) nd rfl (Or.inl rfl))
      (pss_cons (ps_set (i:=5) nd rfl (Or.inl rfl) (pe_op op_mod (pe_op op_fdiv (pe_ix (ix_listK (K:=K) rfl) (pv 1) (pe_op op_add pe_int (pe_op op_mod (pv 3) pe_int)) (fun _ _ => rfl)) (pe_op op_add (pv 3) pe_int)) (pe_callB (call_lenK (K:=K) rfl) rfl T.len PySem.boot_len (pa_cons (pv 0) pa_nil))))
      (pss_cons (ps_set (i:=6) nd rfl (Or.inl rfl) (pe_op op_mod (pe_op op_fdiv (pe_ix (ix_listK (K:=K) rfl) (pv 1) (pe_op op_add pe_int (pe_op op_mod (pv 3) pe_int)) (fun _ _ => rfl)) (pe_op op_add (pv 3) pe_int)) (pe_callB (call_lenK (K:=K) rfl) rfl T.len PySem.boot_len (pa_cons (pv 0) pa_nil))))
      (pss_one (ps_if (pt_val (pe_callC c_law_at_most hr rfl (pa_cons (pv 0) (pa_cons (pv 5) (pa_cons (pv 6) pa_nil (star_of (fun _ _ h => nomatch h))) (star_of (fun _ _ h => nomatch h))) (star_of (fun _ _ h => nomatch h))))) (pss_one (ps_expr (pe_bmK (K:=K) rfl PySem.F.plainAttrs_list PySem.F.slot_list_append PySem.F.type_list_append mt_append (pv 2) (pa_cons (pe_tup (pa_cons (pv 5) (pa_cons (pv 6) pa_nil))) pa_nil)))) pss_nil)))))
      (pss_cons (ps_set (i:=4) nd rfl (Or.inl rfl) (pe_op op_mod (pe_ix (ix_listK (K:=K) rfl) (pv 1) pe_int (fun _ _ => rfl)) (pe_op op_add (pe_callB (call_lenK (K:=K) rfl) rfl T.len PySem.boot_len (pa_cons (pv 2) pa_nil)) pe_int)))
      (pss_one (ps_ret (pe_op op_cat (pe_slice (sl_listK (K:=K) rfl) (pv 2) (po_some (pv 4)) po_none) (pe_slice (sl_listK (K:=K) rfl) (pv 2) po_none (po_some (pv 4))))))))),?_⟩
    refine ⟨_,rfl,m,M,rfl,hm,hn,fun L us H1 s1 hL hl hlen hp => ?_⟩
    obtain ⟨c0,hc0,e0⟩:=emodN' (ns.getD 0 0) 12 (by decide)
    refine ⟨_,rfl,d,_,0,_,rfl,rfl,s1.seq hd,atI_nat (getDI (i:=0) (by omega)),_,_,rfl,rfl,(by show (0 : Int) < 12; decide),_,rfl,?_,?_,?_⟩
    · show -(2 ^ 62) ≤ ns.getD 0 0 % 12
      rw [show ns.getD 0 0 % 12 = (c0 : Int) from e0]; omega
    · show ns.getD 0 0 % 12 < 2 ^ 62
      rw [show ns.getD 0 0 % 12 = (c0 : Int) from e0]; omega
    have ec : (ns.getD 0 0 % 12).toNat = c0:=by rw [show ns.getD 0 0 % 12 = (c0 : Int) from e0]; simp
    refine for_range (lo:=0) (n:=(ns.getD 0 0 % 12).toNat) (fun i σ H2 => ∃ (v3 v4 v5 v6 : Option V) (ws : List V) (qs : List (Nat × Nat)),σ = [some (.ref m),some (.ref d),some (.ref L),v3,v4,v5,v6] ∧ Same H H2 ∧ H2 L = some (.lst ws) ∧ ws.length ≤ 576 + i ∧ Paired (pairV H2) qs ws ∧ Hand M qs)
      ⟨none,none,none,none,us,stepsM M,rfl,s1,hl,by omega,hp,fun p hp => ⟨(mem_stepsM hp).1,(mem_stepsM hp).2.1⟩,fun p hp => (mem_stepsM hp).2.2,fun p hp => hp⟩ ?_ ?_
    · rintro i σ H2 hi ⟨v3,v4,v5,v6,ws,qs,rfl,s2,hl2,hw,hpq,hand⟩
      rw [ec] at hi
      have hm2:=s2.seq hm
      have hd2:=s2.seq hd
      obtain ⟨t,ht,et⟩:=emodN' (0 + (i : Int)) 3 (by decide)
      have i1 : 1 + (0 + (i : Int)) % 3 = ((1 + t : Nat) : Int):=by rw [show (0 + (i : Int)) % 3 = (t : Int) from et]; push_cast; rfl
      have i4 : 4 + (0 + (i : Int)) % 3 = ((4 + t : Nat) : Int):=by rw [show (0 + (i : Int)) % 3 = (t : Int) from et]; push_cast; rfl
      obtain ⟨x,hx,ex⟩:=emodN' (ns.getD (1 + t) 0 / (0 + (i : Int) + 1)) M.length hpos
      obtain ⟨y,hy,ey⟩:=emodN' (ns.getD (4 + t) 0 / (0 + (i : Int) + 1)) M.length hpos
      refine ⟨_,rfl,_,rfl,_,_,rfl,rfl,(by show (0 : Int) < 3; decide),_,_,rfl,rfl,d,_,_,_,rfl,rfl,hd2,by rw [i1]; exact atI_nat (getDI (by omega)),_,rfl,_,_,rfl,rfl,_,_,rfl,rfl,⟨by omega,by omega⟩,_,rfl,m,_,rfl,.inl hm2,_,_,rfl,rfl,by rw [List.length_map]; omega,?_⟩
      refine ⟨_,rfl,_,rfl,_,_,rfl,rfl,(by show (0 : Int) < 3; decide),_,_,rfl,rfl,d,_,_,_,rfl,rfl,hd2,by rw [i4]; exact atI_nat (getDI (by omega)),_,rfl,_,_,rfl,rfl,_,_,rfl,rfl,⟨by omega,by omega⟩,_,rfl,m,_,rfl,.inl hm2,_,_,rfl,rfl,by rw [List.length_map]; omega,?_⟩
      have ex' : ns.getD (1 + t) 0 / (0 + (i : Int) + 1) % ((M.map nV).length : Int) = (x : Int):=by rw [List.length_map]; exact ex
      have ey' : ns.getD (4 + t) 0 / (0 + (i : Int) + 1) % ((M.map nV).length : Int) = (y : Int):=by rw [List.length_map]; exact ey
      refine ⟨_,rfl,_,rfl,_,rfl,m,x,y,M,by dsimp only; rw [ex',ey']; rfl,hm2,hx,hy,fun H3 s3 => ⟨_,rfl,ite2 (fun h => ?_) (fun h => ?_)⟩⟩
      · have hl3:=s3 _ _ hl2
        refine ⟨_,rfl,.inl ⟨rfl,_,SqL.of hl3⟩,_,rfl,_,rfl,by show 2 ≤ sizeLine; decide,fun q hq => ?_⟩
        refine ⟨L,_,_,rfl,rfl,Same.put hq _ _ hl3,slk (by omega),?_⟩
        refine ⟨_,_,_,_,ws ++ [.ref q],qs ++ [(x,y)],rfl,?_,upd_same,by rw [List.length_append]; simp; omega,?_,?_⟩
        · intro b o e
          rw [upd_ne (fun z => by rw [z,hL] at e; cases e)]
          exact Same.put hq _ _ (s3 _ _ (s2 _ _ e))
        · refine pairsV_upd (Same.put hq _ _ hl3) (paired_append (pairsV.same (s3.trans (Same.put hq)) hpq) (.cons ⟨q,rfl,?_⟩ .nil))
          rw [upd_same]
          dsimp only
          rw [ex',ey']
        · refine ⟨fun p hp => ?_,fun p hp => ?_,fun p hp => List.mem_append_left _ (hand.all p hp)⟩
          · rcases List.mem_append.mp hp with hp | hp
            · exact hand.lt p hp
            · simp at hp; subst hp; exact ⟨hx,hy⟩
          · rcases List.mem_append.mp hp with hp | hp
            · exact hand.le p hp
            · simp at hp; subst hp; exact h
      · exact ⟨_,_,_,_,ws,qs,rfl,s2.trans s3,s3 _ _ hl2,by omega,pairsV.same s3 hpq,hand⟩
    · rintro σ H2 ⟨v3,v4,v5,v6,ws,qs,rfl,s2,hl2,hw,hpq,hand⟩
      rw [ec] at hw
      obtain ⟨t,ht,et⟩:=emodN' (ns.getD 7 0) (ws.length + 1) (by omega)
      refine ⟨_,rfl,d,_,7,_,rfl,rfl,s2.seq hd,atI_nat (getDI (i:=7) (by omega)),_,rfl,L,_,rfl,.inl (SqL.of hl2),_,_,rfl,rfl,_,_,rfl,rfl,by omega,?_⟩
      have et' : ns.getD 7 0 % ((ws.length : Int) + 1) = (t : Int):=by rw [← et]; push_cast; rfl
      dsimp only
      rw [et']
      refine ⟨_,rfl,_,rfl,_,rfl,L,_,rfl,SqL.of hl2,fun p1 hp1 => ?_⟩
      rw [cutFrom]
      have hL1:=Same.put hp1 (o:=.lst (ws.drop t)) _ _ hl2
      refine ⟨_,rfl,_,rfl,_,rfl,L,_,rfl,SqL.of hL1,fun p2 hp2 => ?_⟩
      rw [cutTo']
      refine ⟨p1,p2,_,_,rfl,rfl,Same.put hp2 _ _ upd_same,upd_same,?_,fun p3 hp3 => ?_⟩
      · rw [List.length_drop,List.length_take]; exact Nat.le_of_lt (slk (by omega))
      · have s3 : Same H2 _:=((Same.put hp1 (o:=.lst (ws.drop t))).trans (Same.put hp2 (o:=.lst (ws.take t)))).trans (Same.put hp3 (o:=.lst (ws.drop t ++ ws.take t)))
        refine kk p3 (ws.drop t ++ ws.take t) (qs.drop t ++ qs.take t) _ (s2.trans s3) (Same.free ?_ hp3) upd_same ?_ (pairsV.same s3 (paired_append (paired_drop t hpq) (paired_take t hpq))) ?_
        · exact s2.trans ((Same.put hp1).trans (Same.put hp2))
        · rw [List.length_append,List.length_drop,List.length_take]; omega
        · have mem : ∀ p,p ∈ qs.drop t ++ qs.take t ↔ p ∈ qs:=fun p => by
            rw [List.mem_append]
            constructor
            · rintro (h | h)
              · exact List.mem_of_mem_drop h
              · exact List.mem_of_mem_take h
            · intro h
              rw [← List.take_append_drop t qs] at h
              rcases List.mem_append.mp h with h | h
              · exact .inr h
              · exact .inl h
          exact ⟨fun p hp => hand.lt p ((mem p).mp hp),fun p hp => hand.le p ((mem p).mp hp),fun p hp => (mem p).mpr (hand.all p hp)⟩
end
theorem range_filter_map {α : Type} (k : α → Bool) (d : α) (l : List α) : ((List.range l.length).filter fun i => k (l.getD i d)).map (fun i => l.getD i d) = l.filter k:=by
  have e : l = (List.range l.length).map fun i => l.getD i d:=by
    apply List.ext_getElem
    · simp
    · intro i h1 h2
      simp [List.getD_eq_getElem?_getD,List.getElem?_eq_getElem h1]
  conv => rhs; rw [e]
  rw [List.filter_map]
  rfl
theorem paired_zs {α β : Type} {F : α → β → Prop} : ∀ {ps : List α} {us : List β},Paired F ps us → ∃ zs : List (α × β),ps = zs.map Prod.fst ∧ us = zs.map Prod.snd ∧ ∀ z ∈ zs,F z.1 z.2
  | _,_,.nil => ⟨[],rfl,rfl,fun _ h => nomatch h⟩
  | _,_,.cons (a:=a) (b:=b) r t => by
    obtain ⟨zs,e1,e2,h⟩:=paired_zs t
    refine ⟨(a,b) :: zs,by rw [e1]; rfl,by rw [e2]; rfl,fun z hz => ?_⟩
    rcases List.mem_cons.mp hz with rfl | hz
    · exact r
    · exact h z hz
theorem paired_of_zs {α β : Type} {F : α → β → Prop} : ∀ {zs : List (α × β)},(∀ z ∈ zs,F z.1 z.2) → Paired F (zs.map Prod.fst) (zs.map Prod.snd)
  | [],_ => .nil
  | z :: zs,h => .cons (h z List.mem_cons_self) (paired_of_zs fun y hy => h y (List.mem_cons_of_mem _ hy))
theorem paired_filter {F : Nat × Nat → V → Prop} (k : Nat × Nat → Bool) {ps : List (Nat × Nat)} {us : List V} (h : Paired F ps us) :
    Paired F (ps.filter k) (((List.range us.length).filter fun i => k (ps.getD i (0,0))).map fun i => us.getD i .non):=by
  obtain ⟨zs,rfl,rfl,hz⟩:=paired_zs h
  have e1 : (zs.map Prod.fst).filter k = (zs.filter (k ∘ Prod.fst)).map Prod.fst:=by rw [List.filter_map]
  have e2 : ((List.range (zs.map Prod.snd).length).filter fun i => k ((zs.map Prod.fst).getD i (0,0))).map (fun i => (zs.map Prod.snd).getD i V.non) = (zs.filter (k ∘ Prod.fst)).map Prod.snd:=by
    rw [← range_filter_map (k ∘ Prod.fst) ((0,0),V.non) zs,List.map_map,List.length_map]
    have g1 : ∀ i,(zs.map Prod.fst).getD i (0,0) = (zs.getD i ((0,0),V.non)).1:=fun i => by
      rw [List.getD_eq_getElem?_getD,List.getD_eq_getElem?_getD,List.getElem?_map]
      cases zs[i]? <;> rfl
    have g2 : ∀ i,(zs.map Prod.snd).getD i V.non = (zs.getD i ((0,0),V.non)).2:=fun i => by
      rw [List.getD_eq_getElem?_getD,List.getD_eq_getElem?_getD,List.getElem?_map]
      cases zs[i]? <;> rfl
    simp only [g1,g2]
    rfl
  rw [e1,e2]
  exact paired_of_zs fun z hz' => hz z (List.mem_filter.mp hz').1
def stepsR (n : Nat) (R : Nat → Nat → Bool) : List (Nat × Nat):=(pairsL n R).filter fun q => stepR n R q.1 q.2
theorem mem_pairsL {n : Nat} {R : Nat → Nat → Bool} {q : Nat × Nat} (h : q ∈ pairsL n R) : q.1 < n ∧ q.2 < n ∧ q.1 ≠ q.2 ∧ R q.1 q.2 = true:=by
  unfold pairsL at h
  rw [List.mem_flatMap] at h
  obtain ⟨l,hl,hq⟩:=h
  rw [List.mem_map] at hq
  obtain ⟨x,hx,rfl⟩:=hq
  rw [List.mem_filter] at hx
  obtain ⟨h1,h2⟩:=hx
  simp at hl h1 h2
  exact ⟨hl,h1,h2.1,h2.2⟩
theorem len_pairsL {n : Nat} {R : Nat → Nat → Bool} (hn : n ≤ 24) : (pairsL n R).length ≤ 576:=by
  unfold pairsL
  rw [List.length_flatMap]
  have h : ∀ (l : List Nat),((l.map fun a => (((List.range n).filter fun h => !decide (a = h) && R a h).map fun h => (a,h)).length).sum) ≤ 24 * l.length:=by
    intro l
    induction l with
    | nil => simp
    | cons x l ih =>
      rw [List.map_cons,List.sum_cons,List.length_cons]
      have h1:=List.length_filter_le (fun h => !decide (x = h) && R x h) (List.range n)
      rw [List.length_range] at h1
      rw [List.length_map]
      omega
  have:=h (List.range n)
  rw [List.length_range] at this
  omega
theorem stepsR_eq {M : List Nat} (nd : M.Nodup) {R : Nat → Nat → Bool} (hR : ∀ a b,a < M.length → b < M.length → R a b = Ev.leM M a b) : stepsR M.length R = stepsM M:=by
  unfold stepsR
  rw [pairsL_congr hR]
  unfold pairsL stepsM
  rw [List.filter_flatMap]
  have : ∀ a ∈ List.range M.length,((((List.range M.length).filter fun h => !decide (a = h) && Ev.leM M a h).map fun h => (a,h)).filter fun q => stepR M.length R q.1 q.2) =
      (((aboveM M a).filter fun b => ((aboveM M a).filter fun c => Ev.leM M c b).length == 1).map fun b => (a,b)):=by
    intro a ha
    have ha' : a < M.length:=by simpa using ha
    rw [List.filter_map]
    congr 1
    apply List.filter_congr
    intro b hb
    obtain ⟨hb1,hb2,hb3⟩:=mem_aboveM.mp hb
    have nda : (aboveM M a).Nodup:=List.nodup_range.filter _
    rw [Bool.eq_iff_iff]
    show stepR M.length R a b = true ↔ _
    have bel : ∀ x y,x < M.length → y < M.length → (belR R x y = true ↔ x ≠ y ∧ Ev.leM M x y = true):=fun x y hx hy => by
      unfold belR
      rw [hR x y hx hy]
      simp
    constructor
    · intro h
      unfold stepR at h
      rw [Bool.and_eq_true] at h
      obtain ⟨h1,h2⟩:=h
      have no : ∀ t,t < M.length → belR R a t = true → belR R t b = true → False:=fun t ht e1 e2 => by
        have : ((List.range M.length).any fun t => belR R a t && belR R t b) = true:=by
          rw [List.any_eq_true]
          exact ⟨t,by simpa using ht,by rw [e1,e2]; rfl⟩
        rw [this] at h2
        cases h2
      have h3:=one_of (l:=(aboveM M a).filter fun c => Ev.leM M c b) (b:=b) (nda.filter _) (List.mem_filter.mpr ⟨hb,Ev.leM_refl _ _⟩) fun c hc => by
        obtain ⟨c1,c2⟩:=List.mem_filter.mp hc
        obtain ⟨d1,d2,d3⟩:=mem_aboveM.mp c1
        by_cases e : c = b
        · exact e
        · exact (no c d1 ((bel a c ha' d1).mpr ⟨d2,d3⟩) ((bel c b d1 hb1).mpr ⟨e,c2⟩)).elim
      rw [h3]
      rfl
    · intro h
      have h1 : ((aboveM M a).filter fun c => Ev.leM M c b).length = 1:=by simpa using h
      unfold stepR
      rw [Bool.and_eq_true]
      refine ⟨(bel a b ha' hb1).mpr ⟨hb2,hb3⟩,?_⟩
      cases e : (List.range M.length).any fun t => belR R a t && belR R t b with
      | false => rfl
      | true =>
        rw [List.any_eq_true] at e
        obtain ⟨t,ht,e⟩:=e
        have ht' : t < M.length:=by simpa using ht
        rw [Bool.and_eq_true] at e
        have t1:=(bel a t ha' ht').mp e.1
        have t2:=(bel t b ht' hb1).mp e.2
        obtain ⟨x,hx⟩:=List.length_eq_one_iff.mp h1
        have m1 : t ∈ (aboveM M a).filter fun c => Ev.leM M c b:=List.mem_filter.mpr ⟨mem_aboveM.mpr ⟨ht',t1.1,t1.2⟩,t2.2⟩
        have m2 : b ∈ (aboveM M a).filter fun c => Ev.leM M c b:=List.mem_filter.mpr ⟨hb,Ev.leM_refl _ _⟩
        rw [hx] at m1 m2
        simp at m1 m2
        exact absurd (m1.trans m2.symm) t2.1
  rw [List.flatMap_def,List.flatMap_def,List.map_congr_left this]
section
variable {P : Program} {w : World} {K : PySem.W.Frag} {mg : Str → Option Value} {base : Heap} {f : Addr} {fd : FuncData}
abbrev s_steps : Stmt:=top 31
theorem sc_steps : FnScope ["order"] ["order"] (defScope s_steps):=⟨rfl,rfl,rfl,by decide +kernel,rfl,by decide +kernel,by decide +kernel⟩
def sp_steps_of (C : Addr) : Sp:=fun vs H Q _ => ∃ (p n : Nat) (R : Nat → Nat → Bool),vs = [.ref p] ∧ OrdAt C H p n R ∧ n ≤ 24 ∧
  ∀ l us H',Same H H' → H l = none → H' l = some (.lst us) → us.length ≤ 576 → Paired (pairV H') (stepsR n R) us → Q (.ref l) H'
theorem ok_steps_of {C : Addr} (F : Fun K "steps" "steps" s_steps f fd) (T : Txt mg) (TC : ClsOk K C) (c_is_step : Cal P w K mg base "is_step" ["order","a","b"] 2 (sp_is_step C)) : FnOk P w K mg base CX0 3 f fd ["order"] (sp_steps_of C):=by
  refine F.ok sc_steps (fun vs H Q E h => ?_) (fun cdv A outer s H vs Q E hr h => ?_)
  · obtain ⟨p,n,R,rfl,_⟩:=h
    rfl
  · obtain ⟨p,n,R,rfl,hO,hn,kk⟩:=h
    have nd:=sc_steps.nd
    obtain ⟨dx,vp,vr,vj,vm,o1,o2,_⟩:=id hO
    obtain ⟨ta,us,rfl,q1,q2⟩:=o2
    have hul : us.length ≤ 576:=by have:=Paired.length q2; have:=len_pairsL (n:=n) (R:=R) hn; omega
    refine ⟨_,(pss_one (ps_ret (pe_comp (own:=["pair"]) (fr:=[("order", 0)]) rfl (blkOk (defScope s_steps) ["order"] rfl rfl (by decide +kernel)) (pi_tupK (K:=K) rfl (pe_fldK (K:=K) rfl (pv 0) rfl)) (fun _ _ _ _ => ⟨(pg_name (i:=0) (by decide +kernel : (["pair","order"] : List Str).Nodup) rfl (Or.inl rfl)),(pif_one (pt_val (pe_callC c_is_step hr rfl (pa_cons (pv 1) (pa_cons (pe_ix (ix_tupK (K:=K) rfl) (pv 0) pe_int (fun _ _ => rfl)) (pa_cons (pe_ix (ix_tupK (K:=K) rfl) (pv 0) pe_int (fun _ _ => rfl)) pa_nil (star_of (fun _ _ h => nomatch h))) (star_of (fun _ _ h => nomatch h))) (star_of (fun _ _ h => nomatch h)))))),(pv 0)⟩)))),?_⟩
    refine ⟨_,rfl,p,C,dx,_,_,rfl,o1,TC.cl,TC.nP,flds_pairs' _ _ _ _ _,ta,rfl,⟨_,SqT.of q1⟩,fun D hD => ?_⟩
    refine comp_val (fun i => stepR n R ((pairsL n R).getD i (0,0)).1 ((pairsL n R).getD i (0,0)).2) (fun i => us.getD i .non) (src_tup (SqT.of q1)) hD (slk (by omega)) (fun i H3 Kt Kf hi hs hkt hkf => ?_) (fun H3 hs hl => ?_)
    · obtain ⟨q,eq1,t,eq2,eq3⟩:=paired_get q2 (show us[i]? = some us[i] from List.getElem?_eq_getElem hi)
      obtain ⟨m1,m2,_,_⟩:=mem_pairsL (List.mem_of_getElem? eq1)
      have e1 : us.getD i .non = .ref t:=by rw [List.getD_eq_getElem?_getD,List.getElem?_eq_getElem hi,eq2]; rfl
      have e2 : (pairsL n R).getD i (0,0) = q:=by rw [List.getD_eq_getElem?_getD,eq1]; rfl
      have ht:=hs _ _ eq3
      refine ⟨_,rfl,_,rfl,t,_,0,.int q.1,e1,rfl,SqT.of ht,rfl,_,rfl,t,_,1,.int q.2,e1,rfl,SqT.of ht,rfl,p,n,q.1,q.2,R,rfl,hO.same' hs,hn,m1,m2,fun H4 s4 => ⟨_,rfl,ite2 (fun h => ?_) (fun h => ?_)⟩⟩
      · exact ⟨_,rfl,hkt _ (by rw [e2]; exact h) s4⟩
      · exact hkf _ (by rw [e2]; simpa using h) s4
    · refine kk D _ H3 hs hD hl ?_ ?_
      · rw [List.length_map]
        exact Nat.le_trans (List.length_filter_le _ _) (by rw [List.length_range]; exact hul)
      · exact pairsV.same hs (paired_filter (fun q => stepR n R q.1 q.2) q2)
end
end My
namespace L2
open PySem PySem.Spec PyProof.Rows
structure BlkOk1 (X : Cx) (scope : Scope) (v : Str) (fr : List (Str × Nat)) : Prop where
  kind : scope.kind = .function
  one : ∀ y ∈ scope.names,y.2 = .cell → y.1 = v
  vis : scope.names.lookup v = some .cell
  names : ∀ y ∈ scope.names,y.2 = .local → scope.names.lookup y.1 = some .local
  free : ∀ y ∈ scope.names,y.2 = .free → y.1 ≠ v ∧ (X.env.scope.names.lookup y.1 = some .cell ∨ X.env.scope.names.lookup y.1 = some .free)
  ix : ∀ p ∈ fr,X.N[p.2]? = some p.1 ∧ scope.names.lookup p.1 = some .free
  lay : ∀ L acc,cellsFrom L scope.names acc = (v,L) :: acc
  push : ∀ h,pushCells h scope.names = h.push { cls:=.type "cell", data:=.cell none }
def blk1 (X : Cx) (scope : Scope) (v : Str) (N' : List Str) (C : Addr) (s₀ : Shared) (H₀ : Hp) (fp : List Addr) : Cx :=
  { X with N:=N',s₀:=s₀,H₀:=H₀,env:=compEnvC scope ((v,C + 1) :: closL X.env.cells scope.names []) C X.env,outer:=X.stack,stack:=X.stack,ex:=fp,fn:=fun x => x == v,pn:=[],xe:=fun _ _ => False }
theorem lookup_relabel_cell {env : Env} : ∀ {names : List (Str × NameKind)} {x : Str},names.lookup x = some .cell →
    (names.map fun (n,k) => if (k == NameKind.free && env.scope.kind == .function && env.kindOf n == some .cell) then (n,NameKind.cell) else (n,k)).lookup x = some .cell
  | [],_,h => by simp at h
  | (n,k) :: r,x,h => by
    have ih := @lookup_relabel_cell env r x
    show List.lookup x ((if (k == NameKind.free && env.scope.kind == .function && env.kindOf n == some .cell) = true then (n,NameKind.cell) else (n,k)) :: _) = _
    cases hx : x == n with
    | true =>
      simp only [List.lookup_cons,hx] at h
      cases h
      rw [if_neg (by simp)]
      simp [List.lookup_cons,hx]
    | false =>
      simp only [List.lookup_cons,hx] at h
      by_cases hc : (k == NameKind.free && env.scope.kind == .function && env.kindOf n == some .cell) = true
      · rw [if_pos hc]; simp only [List.lookup_cons,hx]; exact ih h
      · rw [if_neg hc]; simp only [List.lookup_cons,hx]; exact ih h
theorem mem_relabel_free1 {env : Env} {v : Str} : ∀ {names : List (Str × NameKind)} {x : Str},(∀ y ∈ names,y.2 = .cell → y.1 = v) → x ≠ v →
    ((names.map fun (n,k) => if (k == NameKind.free && env.scope.kind == .function && env.kindOf n == some .cell) then (n,NameKind.cell) else (n,k)).lookup x = some .cell ∨
    (names.map fun (n,k) => if (k == NameKind.free && env.scope.kind == .function && env.kindOf n == some .cell) then (n,NameKind.cell) else (n,k)).lookup x = some .free) → (x,NameKind.free) ∈ names
  | [],_,_,_,h => by simp at h
  | (n,k) :: r,x,hn,hv,h => by
    have ih := @mem_relabel_free1 env v r x (fun y hy => hn y (List.mem_cons_of_mem _ hy)) hv
    change List.lookup x ((if (k == NameKind.free && env.scope.kind == .function && env.kindOf n == some .cell) = true then (n,NameKind.cell) else (n,k)) :: _) = _ ∨ List.lookup x ((if (k == NameKind.free && env.scope.kind == .function && env.kindOf n == some .cell) = true then (n,NameKind.cell) else (n,k)) :: _) = _ at h
    cases hx : x == n with
    | true =>
      have e : x = n:=by simpa using hx
      subst e
      by_cases hc : (k == NameKind.free && env.scope.kind == .function && env.kindOf x == some .cell) = true
      · have hk : k = .free:=by
          have:=(Bool.and_eq_true _ _ ▸ hc : _ ∧ _).1
          have:=(Bool.and_eq_true _ _ ▸ this : _ ∧ _).1
          simpa using this
        subst hk
        exact List.mem_cons_self
      · rw [if_neg hc] at h
        simp only [List.lookup_cons,hx] at h
        rcases h with h | h
        · cases h; exact absurd (hn _ List.mem_cons_self rfl) hv
        · cases h; exact List.mem_cons_self
    | false =>
      by_cases hc : (k == NameKind.free && env.scope.kind == .function && env.kindOf n == some .cell) = true
      · rw [if_pos hc] at h; simp only [List.lookup_cons,hx] at h; exact List.mem_cons_of_mem _ (ih h)
      · rw [if_neg hc] at h; simp only [List.lookup_cons,hx] at h; exact List.mem_cons_of_mem _ (ih h)
theorem newEnv1 {M : Model} {A : Around} {E : Value → Shared → Prop} {s : Shared} {scope : Scope} {globals : Addr} {cl : List (Str × Addr)} {qual : Str} {func : Option Addr} {code : Value} {around : Env} {v : Str} {Q : Env → Shared → Prop}
    (lay : ∀ L acc,cellsFrom L scope.names acc = (v,L) :: acc) (push : ∀ h,pushCells h scope.names = h.push { cls:=.type "cell", data:=.cell none })
    (hQ : Q (newEnv scope s.heap.objs.size globals ((v,s.heap.objs.size + 1) :: cl) qual func code (some around) builtinsNs) { s with heap:=(s.heap.push { cls:=.type "dict", data:=.dict #[] }).push { cls:=.type "cell", data:=.cell none } }) :
    wpAny M A (newFunctionEnv scope globals cl [] qual func code (some around) builtinsNs) Q E s:=by
  simp only [newFunctionEnv,Option.isSome_some,if_true]
  refine wpAny_bind (wpAny_alloc ?_)
  refine wpAny_bind (wpAny_layCells _ (fun name kind cells => by cases hkc : kind == NameKind.cell <;> simp [hkc]) _ _ _ _ ?_)
  rw [lay,push]
  refine wpAny_bind ?_
  rw [List.forIn_nil]
  refine wpAny_pure (wpAny_pure ?_)
  rw [show ({ s with heap:=s.heap.push { cls:=.type "dict", data:=.dict #[] } } : Shared).heap.objs.size = s.heap.objs.size + 1 from Heap.size_push ..]
  exact hQ
section
variable {X : Cx} {pins : List (Addr × Obj)} {σ : St} {H : Hp} {s : Shared} {scope : Scope} {v : Str} {fr : List (Str × Nat)} {own : List Str} {fp : List Addr}
theorem BlkOk1.cell (B : BlkOk1 X scope v fr) (ok : X.Ok) : ∀ x ∈ scope.names,x.2 = .free → ∃ c,X.env.cells.lookup x.1 = some c:=fun x hx hk => ok.has x.1 (B.free x hx hk).2
theorem BlkOk1.sub (B : BlkOk1 X scope v fr) (ok : X.Ok) {x : Str} {c : Addr} (h : (closL X.env.cells scope.names []).lookup x = some c) : X.env.cells.lookup x = some c:=by
  rcases closL_of h with h | ⟨hm,e⟩
  · simp at h
  · obtain ⟨c',hc⟩:=B.cell ok _ hm rfl
    rw [e,hc]; rfl
theorem BlkOk1.two (B : BlkOk1 X scope v fr) (ok : X.Ok) {C : Addr} {x : Str} {c : Addr} (h : List.lookup x ((v,C) :: closL X.env.cells scope.names []) = some c) : (x = v ∧ c = C) ∨ (x ≠ v ∧ (closL X.env.cells scope.names []).lookup x = some c ∧ X.env.cells.lookup x = some c):=by
  rw [List.lookup_cons] at h
  cases hx : x == v with
  | true => rw [hx] at h; exact .inl ⟨by simpa using hx,(Option.some.inj h).symm⟩
  | false => rw [hx] at h; exact .inr ⟨by simpa using hx,h,B.sub ok h⟩
theorem cell_lt (I : Inv X pins σ H s) {x : Str} {c : Addr} (h : X.env.cells.lookup x = some c) : c < s.heap.objs.size:=by
  obtain ⟨u,z⟩:=I.cell x c h
  exact z.lt
theorem blk1_ok (B : BlkOk1 X scope v fr) (I : Inv X pins σ H s) (hf : ∀ b ∈ fp,FpOk X pins H b) (hfs : ∀ b ∈ fp,b < s.heap.objs.size) {N' : List Str} : (blk1 X scope v N' s.heap.objs.size s H fp).Ok where
  mod:=I.ok.mod
  kind:=B.kind
  glob:=I.ok.glob
  blt:=I.ok.blt
  above:=Nat.le_refl _
  inj:=fun x y c h1 h2 => by
    rcases B.two I.ok h1 with ⟨e1,e2⟩ | ⟨_,_,e2⟩ <;> rcases B.two I.ok h2 with ⟨e3,e4⟩ | ⟨_,_,e4⟩
    · rw [e1,e3]
    · have h:=cell_lt I e4
      rw [e2] at h
      exact absurd (Nat.lt_of_succ_lt h) (Nat.lt_irrefl _)
    · have h:=cell_lt I e2
      rw [e4] at h
      exact absurd (Nat.lt_of_succ_lt h) (Nat.lt_irrefl _)
    · exact I.ok.inj x y c e2 e4
  has:=fun x h => by
    by_cases hx : x = v
    · subst hx; exact ⟨_,by show List.lookup _ (_ :: _) = _; rw [List.lookup_cons,beq_self_eq_true]⟩
    · obtain ⟨c,hc⟩:=closL_has (cells:=X.env.cells) (acc:=[]) (mem_relabel_free1 B.one hx h)
      refine ⟨c,?_⟩
      show List.lookup _ (_ :: _) = _
      rw [List.lookup_cons,beq_eq_false_iff_ne.mpr hx]
      exact hc
  cab:=fun x c hx h => by
    have e : x = v:=by simpa [blk1] using hx
    rcases B.two I.ok h with ⟨_,e2⟩ | ⟨e2,_⟩
    · rw [e2]; exact Nat.le_succ _
    · exact absurd e e2
  hd:=I.ok.hd
  frames:=I.ok.frames
  stk:=.inl rfl
  exf:=fun b hb => ⟨Nat.ne_of_lt (hfs b hb),fun x c h => by
    rcases B.two I.ok h with ⟨_,e2⟩ | ⟨_,_,e2⟩
    · rw [e2]; exact Nat.ne_of_gt (Nat.lt_succ_of_lt (hfs b hb))
    · exact (hf b hb).2.2.2.2.1 x c e2⟩
  bs:=I.bs
  bsz:=Nat.le_trans I.ok.bsz I.sz
  noex:=fun b o e hb => by
    rcases (hf b hb).2.2.2.1 with h | h
    · exact I.ok.noex b o e h
    · exact absurd (Nat.lt_of_lt_of_le (Heap.lt_size e) (Nat.le_trans I.ok.bsz h)) (Nat.lt_irrefl _)
  exfs:=fun b hb h => by
    rcases List.mem_cons.mp (I.stkSub b h) with e | h
    · exact (hf b hb).2.1 e
    · exact (hf b hb).2.2.1 h
  funs:=I.stack
  frf:=I.stkFree
theorem blk1_start (B : BlkOk1 X scope v fr) (I : Inv X pins σ H s) (hf : ∀ b ∈ fp,FpOk X pins H b) (hfs : ∀ b ∈ fp,b < s.heap.objs.size) {h1 : Heap} {m : Str → Option Value} {tk : Nat} (hn : h1.Ns s.heap.objs.size m) (hcl : h1.IsCell (s.heap.objs.size + 1) none)
    (hk : ∀ b o,s.heap.get? b = some o → h1.get? b = some o) : Inv (blk1 X scope v (own ++ fr.map (·.1)) s.heap.objs.size s H fp) [] (blkσ own.length fr σ) H { s with heap:=h1,toks:=tk } where
  ok:=blk1_ok B I hf hfs
  os:=rfl
  bare:=I.bare
  base:=Un.kept hk
  loc:=by
    refine ⟨m,hn,fun i x z e1 e2 e3 => ?_⟩
    change (own ++ fr.map (·.1))[i]? = some x at e1
    unfold blkσ at e2
    by_cases hi : i < own.length
    · rw [List.getElem?_append_left (by simpa using hi),List.getElem?_replicate] at e2
      split at e2 <;> cases e2
    · rw [List.getElem?_append_right (by simpa using Nat.le_of_not_lt hi),List.getElem?_map] at e1
      rw [List.getElem?_append_right (by simpa using Nat.le_of_not_lt hi),List.getElem?_map,List.length_replicate] at e2
      cases hp : fr[i - own.length]? with
      | none => rw [hp] at e1; cases e1
      | some p =>
        rw [hp] at e1 e2
        simp only [Option.map_some,Option.some.injEq] at e1 e2
        obtain ⟨i1,i2⟩:=B.ix p (List.mem_of_getElem? hp)
        subst e1
        have e2' : σ[p.2]? = some (some z):=by
          rw [List.getD_eq_getElem?_getD] at e2
          cases q : σ[p.2]? with
          | none => rw [q] at e2; cases e2
          | some z => rw [q] at e2; exact congrArg some e2
        obtain ⟨nv,kX⟩:=B.free (p.1,.free) (PySem.mem_of_lookup i2) rfl
        have kX : X.env.kindOf p.1 = some .cell ∨ X.env.kindOf p.1 = some .free:=kX
        obtain ⟨m',hn',hl'⟩:=I.loc
        have vis : Vis X.env.scope p.1:=.inr kX
        obtain ⟨u,r,l⟩:=hl' p.2 p.1 z i1 e2' vis
        refine ⟨u,r,.inr ⟨lookup_relabel_free i2,?_⟩⟩
        rcases l with ⟨k,_⟩ | ⟨_,c,hc,z⟩
        · rcases kX with q | q <;> (rw [k] at q; cases q)
        · obtain ⟨c',hc'⟩:=closL_has (cells:=X.env.cells) (acc:=[]) (PySem.mem_of_lookup i2)
          have:=B.sub I.ok hc'
          rw [hc] at this; cases this
          refine ⟨c,?_,z.keeps hk⟩
          show List.lookup _ (_ :: _) = _
          rw [List.lookup_cons,beq_eq_false_iff_ne.mpr nv]
          exact hc'
  cell:=fun x c h => by
    rcases B.two I.ok h with ⟨_,e2⟩ | ⟨_,_,e2⟩
    · rw [e2]; exact ⟨_,hcl⟩
    · obtain ⟨u,z⟩:=I.cell x c e2
      exact ⟨u,z.keeps hk⟩
  free:=I.hok.fresh (Nat.le_refl _)
  freeC:=fun x c h => by
    rcases B.two I.ok h with ⟨_,e2⟩ | ⟨_,_,e2⟩
    · rw [e2]; exact I.hok.fresh (Nat.le_succ _)
    · exact I.freeC x c e2
  pin:=fun p hp => absurd (show p ∈ ([] : List (Addr × Obj)) from hp) (by simp)
  hok:=I.hok.kept hk
  len:=by
    unfold blkσ
    show _ = (own ++ fr.map (·.1)).length
    simp
theorem blk1_end {s' : Shared} {H' : Hp} {σ' : St} {pY : List (Addr × Obj)} {N' : List Str} (I : Inv X pins σ H s) (hf : ∀ b ∈ fp,FpOk X pins H b) (J : Inv (blk1 X scope v N' s.heap.objs.size s H fp) pY σ' H' s') : Inv X pins σ H' s' :=
  I.call' J.os J.base J.hok J.bare fun b hb => ⟨(hf b hb).2.2.2.1,(hf b hb).2.1,(hf b hb).2.2.2.2.1,(hf b hb).2.2.2.2.2⟩
end
section
variable {X : Cx} {elt tg iter : Expr} {ifs : List Expr} {scope : Scope} {pos : Pos} {v : Str} {own : List Str} {fr : List (Str × Nat)} {wi : TI} {g : TG} {tc : TT} {te : TE}
theorem comp_core1 {pins : List (Addr × Obj)} {σ : St} {H2 : Hp} {s2 : Shared} {it : Addr} {fp : List Addr} {tn : Nat → Heap → Prop} {J : It} {Qd : V → Hp → Prop} {RR : Value → Addr → Result → Shared → Prop} {E : Value → Shared → Prop}
    (hc : X.calm = true) (B : BlkOk1 X scope v fr)
    (hb : ∀ (C : Addr) (s₀ : Shared) (H₀ : Hp) (fp : List Addr),PG (blk1 X scope v (own ++ fr.map (·.1)) C s₀ H₀ fp) tg g ∧ PIf (blk1 X scope v (own ++ fr.map (·.1)) C s₀ H₀ fp) ifs tc ∧ PE (blk1 X scope v (own ++ fr.map (·.1)) C s₀ H₀ fp) elt te)
    (I2 : Inv X pins σ H2 s2) (T : Turn X.prog X.w X.K tg J fp it tn) (st2 : tn 0 s2.heap) (f2 : ∀ b ∈ fp,FpOk X pins H2 b)
    (hw : ∀ D,H2 D = none → CompW J g tc te (blkσ own.length fr σ) D (fun H' => Qd (.ref D) H') (upd H2 D (.lst [])))
    (hR : ∀ (D C : Addr) (s' : Shared) (H' : Hp) (m : Str → Option Value),Inv X pins σ H' s' → s'.heap.Ns C m → H' C = none → C ≠ X.env.locals → X.s₀.heap.objs.size ≤ C → (∀ x c,X.env.cells.lookup x = some c → c ≠ C) → (∀ p ∈ X.pn ++ pins,p.1 ≠ C) →
      Qd (.ref D) H' → RR (.ref D) C (.ok .next) s') :
    wpAny (model X.prog X.w) X.A (newList []) (fun acc s₃ => wpAny (model X.prog X.w) X.A (newFunctionEnv scope X.env.globals (closL X.env.cells scope.names []) [] X.env.qual none .none (some X.env)) (fun cenv s₄ =>
      codeAny (model X.prog X.w) X.A (.compStart (.ListComp elt [⟨tg,iter,ifs,0⟩] scope pos) 0 (.ref it) acc { cenv with scope:=relabel scope X.env }) (RR acc cenv.locals) s₄) E s₃) E s2:=by
  refine wpAny_newObj_type (newEnv1 (v:=v) B.lay B.push ?_)
  have hD : H2 s2.heap.objs.size = none:=I2.fresh
  have I3 : Inv X pins σ (upd H2 s2.heap.objs.size (.lst [])) { s2 with heap:=s2.heap.push { cls:=.type "list", data:=.seq ([] : List Value).toArray },toks:=s2.toks }:=I2.lnew .nil (by simp)
  have lt2 : ∀ b ∈ fp,b < s2.heap.objs.size:=fun b hb => by obtain ⟨o,e,_⟩:=T.obj _ _ st2 b hb; exact Heap.lt_size e
  have f3 : ∀ b ∈ fp,FpOk X pins (upd H2 s2.heap.objs.size (.lst [])) b:=fun b hb => ⟨by rw [upd_ne (Nat.ne_of_lt (lt2 b hb))]; exact (f2 b hb).1,(f2 b hb).2⟩
  generalize hs3 : ({ s2 with heap:=s2.heap.push { cls:=.type "list", data:=.seq ([] : List Value).toArray },toks:=s2.toks } : Shared) = s3 at I3
  have e3 : s3.heap = s2.heap.push { cls:=.type "list", data:=.seq ([] : List Value).toArray }:=by rw [← hs3]
  have lt3 : ∀ b ∈ fp,b < s3.heap.objs.size:=fun b hb => by rw [e3,Heap.size_push]; exact Nat.lt_succ_of_lt (lt2 b hb)
  generalize hh1 : (s3.heap.push { cls:=.type "dict", data:=.dict #[] }).push { cls:=.type "cell", data:=.cell none } = h₁
  have old : ∀ b o,s3.heap.get? b = some o → h₁.get? b = some o:=fun b o e => by
    rw [← hh1]
    exact Heap.get?_push_of_some _ (Heap.get?_push_of_some _ e)
  have hns₁ : h₁.Ns s3.heap.objs.size (fun _ => none):=by
    rw [← hh1]
    exact (Heap.Ns.new s3.heap (.type "dict")).keeps fun b o e => Heap.get?_push_of_some _ e
  have hcl₁ : h₁.IsCell (s3.heap.objs.size + 1) none:=by
    rw [← hh1]
    have q:=Heap.get?_push_size (s3.heap.push { cls:=.type "dict", data:=.dict #[] }) (o:={ cls:=.type "cell", data:=.cell none }) rfl
    rw [Heap.size_push] at q
    exact ⟨_,q,rfl⟩
  have IY : Inv (blk1 X scope v (own ++ fr.map (·.1)) s3.heap.objs.size s3 (upd H2 s2.heap.objs.size (.lst [])) fp) [] (blkσ own.length fr σ) (upd H2 s2.heap.objs.size (.lst [])) { s3 with heap:=h₁ } :=
    blk1_start (own:=own) B I3 f3 lt3 hns₁ hcl₁ old
  have st3 : tn 0 h₁:=T.keep _ _ _ st2 fun b hb o e => old b o (by rw [e3]; exact Heap.get?_push_of_some _ e)
  have fY : ∀ b ∈ fp,FpOk (blk1 X scope v (own ++ fr.map (·.1)) s3.heap.objs.size s3 (upd H2 s2.heap.objs.size (.lst [])) fp) [] (upd H2 s2.heap.objs.size (.lst [])) b:=fun b hb =>
    ⟨(f3 b hb).1,Nat.ne_of_lt (lt3 b hb),(IY.ok.exfs b hb),.inl hb,(IY.ok.exf b hb).2,fun p hp => absurd (show p ∈ ([] : List (Addr × Obj)) from hp) (by simp)⟩
  obtain ⟨b1,b2,b3⟩:=hb s3.heap.objs.size s3 (upd H2 s2.heap.objs.size (.lst [])) fp
  have loop:=comp_loop (Y:=blk1 X scope v (own ++ fr.map (·.1)) s3.heap.objs.size s3 (upd H2 s2.heap.objs.size (.lst [])) fp) (iter:=iter) (scope:=scope) (pos:=pos) hc T b1 b2 b3 IY st3 fY (hw _ hD) rfl
  have loop2 : codeAny (model X.prog X.w) X.A (.compLoop (.ListComp elt [⟨tg,iter,ifs,0⟩] scope pos) 0 (.ref it) (.ref s2.heap.objs.size) (compEnvC scope ((v,s3.heap.objs.size + 1) :: closL X.env.cells scope.names []) s3.heap.objs.size X.env)) (RR (.ref s2.heap.objs.size) s3.heap.objs.size) { s3 with heap:=h₁ }:=by
    refine codeAny_mono loop fun r s' ⟨H',hr,J',q⟩ => ?_
    subst hr
    obtain ⟨m',hn',_⟩:=id J'.loc
    refine hR s2.heap.objs.size s3.heap.objs.size s' H' m' (blk1_end I3 f3 J') hn' J'.free (Nat.ne_of_gt I3.lt) I3.sz (fun x c e => ?_) (fun p hp z => ?_) q
    · obtain ⟨u,z⟩:=I3.cell x c e
      exact Nat.ne_of_lt z.lt
    · exact absurd (Heap.lt_size (I3.pin p hp).1) (by rw [z]; exact Nat.lt_irrefl _)
  exact codeAny_compStart_list loop2 (T.self X.A 0 _ _ _ st3 loop2)
theorem ps_setC1 {i : Nat} {x : Str} {py spos : Pos} (hN : X.N.Nodup) (hx : X.N[i]? = some x) (hl : X.env.scope.names.lookup x = some .local) (hc : X.calm = true) (B : BlkOk1 X scope v fr) (hi : PI X tg iter wi)
    (hb : ∀ (C : Addr) (s₀ : Shared) (H₀ : Hp) (fp : List Addr),PG (blk1 X scope v (own ++ fr.map (·.1)) C s₀ H₀ fp) tg g ∧ PIf (blk1 X scope v (own ++ fr.map (·.1)) C s₀ H₀ fp) ifs tc ∧ PE (blk1 X scope v (own ++ fr.map (·.1)) C s₀ H₀ fp) elt te)
    (hsw : swapsWith (.ListComp elt [⟨tg,iter,ifs,0⟩] scope pos) (some (.Name x py)) spos.line X.env = pure true:=by rfl)
    (hs : ∀ x,foldedSetIterable iter X.env x = pure x:=by intro _; rfl) : PS X (.Assign [.Name x py] (.ListComp elt [⟨tg,iter,ifs,0⟩] scope pos) spos) (tAsg (tComp wi own.length fr g tc te) (gName i)):=by
  intro pins s σ H D0 I h
  rw [exec_Assign_Name_used _ _ _ _ hsw]
  refine wpAny_bind (wpAny_standAt (wpAny_bind ?_))
  show wpAny _ X.A (do let _ ← comprehension (.ListComp elt [⟨tg,iter,ifs,0⟩] scope pos) scope X.env _ (newList []) false (eval iter X.env) (some (assign (.Name x py) X.env))) _ _ s
  refine wpAny_bind (wpAny_mono (wpAny_comprehension_free (use:=some (assign (.Name x py) X.env)) (Q:=fun _ s' => SP X pins D0 .next s') rfl hs (closFor (B.cell I.ok)) B.kind B.names
    (thn (hi pins s σ H _ I h) fun v s1 h1 => thn h1 fun itv s2 h2 => ?_)) (fun _ s' hq => wpAny_pure (wpAny_pure hq)) fun _ _ e => e)
  obtain ⟨it,fp,tn,J,H2,e,I2,T,st2,f2,hD⟩:=h2
  subst e
  refine comp_core1 (own:=own) (Qd:=fun v H' => gName i v σ H' D0.nx) (RR:=fun acc C => compPost (model X.prog X.w) X.A X.xe (some (assign (.Name x py) X.env)) (fun _ s' => SP X pins D0 .next s') acc C) hc B hb I2 T st2 f2 hD ?_
  intro D C s' H' m I' hn hC c1 c2 c3 c4 q
  show wpAny _ X.A (assign (.Name x py) X.env (.ref D)) _ _ _
  refine wpAny_assign_Name (store_ok2 I' hN hx (.inl hl) (v:=.ref D) rfl (fun s'' I'' ⟨a,sb,ha⟩ => ?_) (.inr hl))
  have hCa : C ≠ a:=by
    rcases ha with rfl | ha
    · exact c1
    · exact fun e => c3 x a ha e.symm
  refine ⟨m,hn.sameBut sb hCa,fun h' sb' => ?_⟩
  exact ⟨_,H',I''.turned (t':=s''.toks) (fun b o hb e => sb'.extBut b o hb e) hC c1 (.inr c2) c3 c4,q⟩
end
def blkChk1 (sc osc : Scope) (v : Str) (N : List Str) (fr : List (Str × Nat)) : Bool :=
  sc.kind == .function && sc.names.lookup v == some .cell && sc.names.all (fun y => (y.2 != .cell || y.1 == v) && (y.2 != .local || sc.names.lookup y.1 == some .local) && (y.2 != .free || (y.1 != v && (osc.names.lookup y.1 == some .cell || osc.names.lookup y.1 == some .free)))) &&
  fr.all fun p => N[p.2]? == some p.1 && sc.names.lookup p.1 == some .free
theorem blkOk1 {X : Cx} {scope : Scope} {v : Str} {fr : List (Str × Nat)} (osc : Scope) (N : List Str) (h1 : X.env.scope = osc) (h2 : X.N = N) (h : blkChk1 scope osc v N fr = true) (lay : ∀ L acc,cellsFrom L scope.names acc = (v,L) :: acc) (push : ∀ h,pushCells h scope.names = h.push { cls:=.type "cell", data:=.cell none }) : BlkOk1 X scope v fr:=by
  unfold blkChk1 at h
  rw [Bool.and_eq_true,Bool.and_eq_true,Bool.and_eq_true] at h
  obtain ⟨⟨⟨a,a2⟩,b⟩,c⟩:=h
  rw [List.all_eq_true] at b c
  subst h1 h2
  refine ⟨by simpa using a,fun y hy e => ?_,by simpa using a2,fun y hy e => ?_,fun y hy e => ?_,fun p hp => ?_,lay,push⟩
  · have:=b y hy
    rw [e] at this
    simpa using this
  · have:=b y hy
    rw [e] at this
    simpa using this
  · have:=b y hy
    rw [e] at this
    simpa using this
  · have:=c p hp
    simpa using this
theorem blkOkIn {X : Cx} {scope osc : Scope} {env : Env} {fr : List (Str × Nat)} (N : List Str) (h1 : X.env.scope = relabel osc env) (h2 : X.N = N) (h : blkChk scope osc N fr = true) : BlkOk X scope fr:=by
  have q:=blkOk (X:={ X with env:={ X.env with scope:=osc } }) (scope:=scope) (fr:=fr) osc N rfl h2 h
  refine ⟨q.kind,q.nocell,q.names,fun y hy e => ?_,q.ix⟩
  rw [h1]
  rcases q.free y hy e with z | z
  · exact .inl (lookup_relabel_cell z)
  · exact lookup_relabel_free z
theorem ints_of_vals : ∀ {ns : List Int} {us : List Value},Vals (ns.map V.int) us → IntsAre us ns
  | [],_,h => by cases h; exact .nil
  | n :: ns,_,h => by
    cases h with
    | cons h t =>
      obtain ⟨k,rfl⟩:=h
      exact .cons n k (ints_of_vals t)
def rIndex (K : PySem.W.Frag) : V → List V → Hp → VK → Prop:=fun x vs H Q => ∃ (l : Addr) (ns : List Int) (k : Int),x = .ref l ∧ vs = [.int k] ∧ SqL K H l (ns.map V.int) ∧ k ∈ ns ∧ Q (.int (ns.idxOf k : Nat)) H
theorem mt_indexK {X : Cx} {K : PySem.W.Frag} (hK : X.K = K) : MtR X "list.index" (rIndex K):=by
  subst hK
  intro pins s σ H x vs v us Q I rx rv h
  obtain ⟨l,ns,k,rfl,rfl,hq,hk,q⟩:=h
  cases rx
  obtain ⟨u,rfl,ru⟩:=rv.one
  obtain ⟨t,rfl⟩:=ru
  obtain ⟨its,r,⟨⟨cls,dd,data,sl⟩,n,ho,hc,hdd,hd⟩,hz⟩:=I.list hq
  simp only at hc hdd hd
  subst hc hdd hd
  have hi:=ints_of_vals r
  have hlen:=hi.length
  have hj : ns.idxOf k < ns.length:=List.idxOf_lt_length_iff.mpr hk
  have hb : sizeLine < 2 ^ 62:=by decide
  rw [List.length_map] at hz
  refine call_meets PySem.F.slot_list_index ⟨_,ho,rfl⟩ PySem.F.entry_list_index (PySem.F.args_list_index_2 _ _)
    (SeqAt.list_indexAt l its.toArray n none sl (.int k t) (isInt k) (ns.idxOf k) (by simpa [hlen] using hj) (by omega) ?_ ?_) ⟨ho,fun y hy => (eq_isInt k t hi y (by simpa using hy)).at _ _,?_⟩
  · show isInt k its[ns.idxOf k] = true
    rw [isInt_at k hi _ (by omega) hj]
    simpa using List.getElem_idxOf hj
  · intro j hjs hlt
    show isInt k its[j] = false
    rw [isInt_at k hi j (by simpa using hjs) (by omega)]
    exact ne_of_lt_idxOf hlt _
  · exact ⟨.int (ns.idxOf k : Nat),H,I.tok _,⟨_,rfl⟩,q⟩
def rMin (K : PySem.W.Frag) : List V → Hp → VK → Prop:=fun xs H Q => ∃ (p : Addr) (ns : List Int),xs = [.ref p] ∧ SqL K H p (ns.map V.int) ∧ 0 < ns.length ∧ ∀ m ∈ ns,(∀ a ∈ ns,m ≤ a) → Q (.int m) H
def rMax (K : PySem.W.Frag) : List V → Hp → VK → Prop:=fun xs H Q => ∃ (p : Addr) (ns : List Int),xs = [.ref p] ∧ SqL K H p (ns.map V.int) ∧ 0 < ns.length ∧ ∀ m ∈ ns,(∀ a ∈ ns,a ≤ m) → Q (.int m) H
theorem call_minK {X : Cx} {K : PySem.W.Frag} (hK : X.K = K) (hc : X.calm = true) : CallR X (.builtin "min") (rMin K):=by
  subst hK
  intro pins s σ H xs us Q I r h
  obtain ⟨p,ns,rfl,hq,hne,q⟩:=h
  obtain ⟨u,rfl,ru⟩:=Vals.one r
  cases ru
  obtain ⟨its,rv,ht,hz⟩:=I.list hq
  have hi:=ints_of_vals rv
  obtain ⟨ys,e⟩:=hi.allInts.items
  have hns : ns = ys.toList.map (·.1):=by rw [← hi.numsOf,← nums_intItems,← e]
  have hsz : 0 < ys.size:=by
    have h3:=hne; rw [hns,List.length_map,Array.length_toList] at h3; exact h3
  have hl:=ht.isList
  rw [e] at hl
  refine min_intList (I.ok.hd hc) hl hsz fun v h' tk hv hk => ?_
  obtain ⟨t,rfl⟩:=intItems_at hv
  obtain ⟨h1,h2⟩:=argBest_lt (numAt ys) (ys.size - 1)
  refine ⟨.int _,H,I.kept (t':=tk) hk,⟨t,rfl⟩,q _ ?_ fun a ha => ?_⟩
  · rw [hns,numAt_eq]; exact getD_mem (by rw [List.length_map,Array.length_toList]; omega)
  · rw [hns] at ha
    obtain ⟨j,hj,rfl⟩:=mem_getD ha
    rw [List.length_map,Array.length_toList] at hj
    rw [← numAt_eq]; exact h2 j (by omega)
theorem call_maxK {X : Cx} {K : PySem.W.Frag} (hK : X.K = K) (hc : X.calm = true) : CallR X (.builtin "max") (rMax K):=by
  subst hK
  intro pins s σ H xs us Q I r h
  obtain ⟨p,ns,rfl,hq,hne,q⟩:=h
  obtain ⟨u,rfl,ru⟩:=Vals.one r
  cases ru
  obtain ⟨its,rv,ht,hz⟩:=I.list hq
  have hi:=ints_of_vals rv
  obtain ⟨ys,e⟩:=hi.allInts.items
  have hns : ns = ys.toList.map (·.1):=by rw [← hi.numsOf,← nums_intItems,← e]
  have hsz : 0 < ys.size:=by
    have h3:=hne; rw [hns,List.length_map,Array.length_toList] at h3; exact h3
  have hl:=ht.isList
  rw [e] at hl
  refine max_intList (I.ok.hd hc) hl hsz fun v h' tk hv hk => ?_
  obtain ⟨t,rfl⟩:=intItems_at hv
  obtain ⟨h1,h2⟩:=argBest_gt (numAt ys) (ys.size - 1)
  refine ⟨.int _,H,I.kept (t':=tk) hk,⟨t,rfl⟩,q _ ?_ fun a ha => ?_⟩
  · rw [hns,numAt_eq]; exact getD_mem (by rw [List.length_map,Array.length_toList]; omega)
  · rw [hns] at ha
    obtain ⟨j,hj,rfl⟩:=mem_getD ha
    rw [List.length_map,Array.length_toList] at hj
    rw [← numAt_eq]; exact h2 j (by omega)
section
variable {prog : Program} {w : World} {A : Around} {E : Value → Shared → Prop} {s : Shared} {l : Addr} {xs : Array (Int × Tok)}
end
theorem pg_tupK {X : Cx} {K : PySem.W.Frag} {es : List Expr} {k : Nat} {t : TGs} {n : Nat} {pos : Pos} (hK : X.K = K) (hc : X.calm = true) (h : PGs X es t)
    (hn : (assignEach es X.env).length = n:=by rfl) (hst : (assignEach es X.env).findIdx? (·.1) = none:=by rfl) : PG X (.Tuple es k pos) (gTup K n t):=hK ▸ pg_tup hc h hn hst
def eqW (e : V → Bool) : Value → Bool
  | .ref a => e (.ref a)
  | _ => false
theorem any_eqW {e : V → Bool} : ∀ {xs : List V} {us : List Value},Vals xs us → (∀ z ∈ xs,∃ a,z = .ref a) → us.any (eqW e) = xs.any e
  | _,_,.nil,_ => rfl
  | y :: xs,u :: us,.cons r t,f => by
    obtain ⟨a,rfl⟩:=f y List.mem_cons_self
    cases r
    rw [List.any_cons,List.any_cons,any_eqW t fun z hz => f z (List.mem_cons_of_mem _ hz)]
    rfl
theorem mem_eqW {X : Cx} {pins : List (Addr × Obj)} {σ : St} {H : Hp} {s : Shared} (I : Inv X pins σ H s) {A : Around} {n : Nat} (hu : A.units + n < cLine) {x : V} {v : Value} (rx : RelV x v) {e : V → Bool} : ∀ {xs : List V} {us : List Value},Vals xs us →
    (∀ z ∈ xs,∃ a,z = .ref a) → (∀ z ∈ xs,EqV X.K H n z x (e z)) → ∀ u ∈ us,SeqAt.EqAt A s u v (eqW e u)
  | _,_,.nil,_,_ => fun u hu => by cases hu
  | y :: xs,u :: us,.cons r t,f,g => fun u' hu' => by
    rcases List.mem_cons.mp hu' with rfl | hu'
    · obtain ⟨a,rfl⟩:=f y List.mem_cons_self
      have:=(g _ List.mem_cons_self).at I hu r rx
      cases r
      exact this
    · exact mem_eqW I hu rx t (fun z hz => f z (List.mem_cons_of_mem _ hz)) (fun z hz => g z (List.mem_cons_of_mem _ hz)) u' hu'
def rInT (K : PySem.W.Frag) (neg : Bool) (n : Nat) : R2:=fun x y H Q => ∃ p xs e,y = .ref p ∧ SqL K H p xs ∧ (∀ z ∈ xs,∃ a,z = .ref a) ∧ (∀ z ∈ xs,EqV K H n z x (e z)) ∧ Q (.bl (if neg then !xs.any e else xs.any e)) H
theorem op_inT {X : Cx} {K : PySem.W.Frag} (n : Nat) (hK : X.K = K) (hu : X.A.units + 1 + n < cLine) : OpR X (compareOp .In) (rInT K false n):=by
  subst hK
  intro pins s σ H x y v u Q I rx ry h
  obtain ⟨p,xs,e,rfl,hq,hr,he,q⟩:=h
  cases ry
  obtain ⟨its,r,pl,hz⟩:=I.list hq
  refine SeqAt.in_listAt (eqW e) pl.isList (fun w hw => mem_eqW I (n:=n) (by first | exact hu | (show X.A.units + 1 + n < cLine; exact hu) | omega) rx r hr he w (by simpa using hw)) ⟨.bl _,H,I,rfl,?_⟩
  rw [show its.toArray.any (eqW e) = its.any (eqW e) by simp,any_eqW r hr]
  exact q
theorem op_notInT {X : Cx} {K : PySem.W.Frag} (n : Nat) (hK : X.K = K) (hu : X.A.units + 1 + n < cLine) : OpR X (compareOp .NotIn) (rInT K true n):=by
  subst hK
  intro pins s σ H x y v u Q I rx ry h
  obtain ⟨p,xs,e,rfl,hq,hr,he,q⟩:=h
  cases ry
  obtain ⟨its,r,pl,hz⟩:=I.list hq
  refine SeqAt.notIn_listAt (eqW e) pl.isList (fun w hw => mem_eqW I (n:=n) (by first | exact hu | (show X.A.units + 1 + n < cLine; exact hu) | omega) rx r hr he w (by simpa using hw)) ⟨.bl _,H,I,rfl,?_⟩
  rw [show its.toArray.any (eqW e) = its.any (eqW e) by simp,any_eqW r hr]
  exact q
theorem src_pairs {K : PySem.W.Frag} {a : Addr} {us : List V} {xs ys : Nat → V} {ρ : St} {H1 : Hp} (h : SqL K H1 a us) (hp : ∀ i,i < us.length → ∃ t,us[i]? = some (.ref t) ∧ H1 t = some (.tup [xs i,ys i])) :
    SrcOk (Itl K a) (gTup K 2 (gCons (gName 0) (gCons (gName 1) gNil))) (none :: none :: ρ) H1 us.length (fun i => some (xs i) :: some (ys i) :: ρ) where
  go:=fun i H hi hs => ⟨us,us[i],hs.seq h,List.getElem?_eq_getElem hi⟩
  stop:=fun H hs => ⟨us,hs.seq h,Nat.le_refl _⟩
  step:=fun i H x H' Kk hi hs hy hk => by
    obtain ⟨rfl,hx⟩:=hy
    have e:=hx us (hs.seq h)
    obtain ⟨t,e1,e2⟩:=hp i hi
    rw [e1] at e
    cases e
    refine ⟨t,[xs i,ys i],rfl,.inl (.inl (hs _ _ e2)),rfl,xs i,[ys i],rfl,ys i,[],rfl,rfl,?_⟩
    exact ⟨Wk.set (Wk.set (Wk.refl _) rfl) rfl,hk _ (Same.refl _)⟩
end L2
namespace My
open PySem PySem.Spec PyProof.Rows L2
def pairEq (H : Hp) (a b : Nat) : V → Bool
  | .ref t => (match H t with
    | some (.tup [.int i,.int j]) => (i == (a : Int)) && (j == (b : Int))
    | _ => false)
  | _ => false
theorem pairEq_of {H : Hp} {q : Nat × Nat} {v : V} (h : pairV H q v) (a b : Nat) : pairEq H a b v = decide (q = (a,b)):=by
  obtain ⟨t,rfl,ht⟩:=h
  unfold pairEq
  simp only [ht]
  rw [Bool.eq_iff_iff,Bool.and_eq_true,beq_iff_eq,beq_iff_eq,decide_eq_true_iff]
  obtain ⟨q1,q2⟩:=q
  simp only [Prod.mk.injEq]
  omega
theorem pair_eqV {K : PySem.W.Frag} {H : Hp} {q : Nat × Nat} {v : V} {t a b : Nat} (h : pairV H q v) (ht : SqT K H t [.int (a : Int),.int (b : Int)]) : EqV K H 1 v (.ref t) (pairEq H a b v):=by
  rw [pairEq_of h]
  obtain ⟨u,rfl,hu⟩:=h
  have:=EqV.tup (K:=K) (H:=H) 0 u t _ _ (fun j => if j = 0 then ((q.1 : Int) == (a : Int)) else ((q.2 : Int) == (b : Int))) (SqT.of hu) ht rfl fun k x y hx hy => by
    match k,hx,hy with
    | 0,hx,hy => cases hx; cases hy; exact EqV.int 0 _ _
    | 1,hx,hy => cases hx; cases hy; exact EqV.int 0 _ _
  have e : (List.range ([V.int (q.1 : Int),V.int (q.2 : Int)]).length).all (fun j => if j = 0 then ((q.1 : Int) == (a : Int)) else ((q.2 : Int) == (b : Int))) = decide (q = (a,b)):=by
    show (((q.1 : Int) == (a : Int)) && (((q.2 : Int) == (b : Int)) && true)) = _
    rw [Bool.eq_iff_iff,Bool.and_true,Bool.and_eq_true,beq_iff_eq,beq_iff_eq,decide_eq_true_iff]
    obtain ⟨q1,q2⟩:=q
    simp only [Prod.mk.injEq]
    omega
  rw [e] at this
  exact this
theorem pairs_any {H : Hp} (a b : Nat) : ∀ {ps : List (Nat × Nat)} {us : List V},Paired (pairV H) ps us → us.any (pairEq H a b) = decide ((a,b) ∈ ps)
  | _,_,.nil => rfl
  | _,_,.cons (a:=q) h t => by
    rw [List.any_cons,pairEq_of h,pairs_any a b t,Bool.eq_iff_iff,Bool.or_eq_true,decide_eq_true_iff,decide_eq_true_iff,decide_eq_true_iff,List.mem_cons]
    constructor
    · rintro (z | z)
      · exact .inl z.symm
      · exact .inr z
    · rintro (z | z)
      · exact .inl z.symm
      · exact .inr z
theorem pairs_ref {H : Hp} : ∀ {ps : List (Nat × Nat)} {us : List V},Paired (pairV H) ps us → ∀ z ∈ us,∃ a,z = .ref a
  | _,_,.nil => fun _ h => nomatch h
  | _,_,.cons h t => fun z hz => by
    rcases List.mem_cons.mp hz with rfl | hz
    · obtain ⟨a,e,_⟩:=h
      exact ⟨a,e⟩
    · exact pairs_ref t z hz
theorem pairs_eqV {K : PySem.W.Frag} {H : Hp} {t a b : Nat} (ht : SqT K H t [.int (a : Int),.int (b : Int)]) : ∀ {ps : List (Nat × Nat)} {us : List V},Paired (pairV H) ps us → ∀ z ∈ us,EqV K H 1 z (.ref t) (pairEq H a b z)
  | _,_,.nil => fun _ h => nomatch h
  | _,_,.cons h r => fun z hz => by
    rcases List.mem_cons.mp hz with rfl | hz
    · exact pair_eqV h ht
    · exact pairs_eqV ht r z hz
theorem stepR_bel {n : Nat} {R : Nat → Nat → Bool} {a b : Nat} (h : stepR n R a b = true) : belR R a b = true:=by
  unfold stepR at h
  rw [Bool.and_eq_true] at h
  exact h.1
theorem flat_nV (l : List Nat) : (l.map nV).all flatV = true:=by
  rw [List.all_map,List.all_eq_true]
  intro x _
  rfl
theorem mem_getD_nat {cs : List Nat} {i : Nat} (h : i < cs.length) : cs.getD i 0 ∈ cs:=by
  rw [List.getD_eq_getElem?_getD,List.getElem?_eq_getElem h]
  exact List.getElem_mem h
theorem getD_nV {l : List Nat} {j : Nat} (h : j < l.length) : (l.map nV).getD j .non = .int ((l.getD j 0 : Nat) : Int):=by
  rw [List.getD_eq_getElem?_getD,List.getD_eq_getElem?_getD,List.getElem?_map,List.getElem?_eq_getElem h]
  rfl
theorem ints_nV (cs : List Nat) : (cs.map fun x : Nat => (x : Int)).map V.int = cs.map nV:=by rw [List.map_map]; rfl
theorem cutFromI (cs : List Nat) (k : Nat) : cutV (cs.map nV) (some ((k : Int))) none = (cs.drop k).map nV:=by rw [cutFrom,List.map_drop]
theorem cutToI (cs : List Nat) (k : Nat) : cutV (cs.map nV) none (some ((k : Int))) = (cs.take k).map nV:=by rw [cutTo',List.map_take]
theorem mem_stepsM_iff {M : List Nat} (L : Ev.Lat M) {a b : Nat} : (a,b) ∈ stepsM M ↔ a < M.length ∧ b < M.length ∧ stepR M.length (Ev.leM M) a b = true:=by
  rw [← stepsR_eq (R:=Ev.leM M) L.nd fun _ _ _ _ => rfl]
  unfold stepsR
  rw [List.mem_filter]
  constructor
  · rintro ⟨h1,h2⟩
    have:=mem_pairsL h1
    exact ⟨this.1,this.2.1,h2⟩
  · rintro ⟨h1,h2,h3⟩
    refine ⟨?_,h3⟩
    unfold pairsL
    rw [List.mem_flatMap]
    refine ⟨a,by simpa using h1,?_⟩
    rw [List.mem_map]
    refine ⟨b,?_,rfl⟩
    rw [List.mem_filter]
    have:=stepR_bel h3
    unfold belR at this
    exact ⟨by simpa using h2,this⟩
theorem inV_nat (m : Nat) : ∀ F : List Nat,inV (nV m) (F.map nV) = decide (m ∈ F)
  | [] => by simp [inV]
  | x :: r => by
    have ih:=inV_nat m r
    unfold inV at ih ⊢
    rw [List.map_cons,List.any_cons,ih]
    have e : eqV (nV x) (nV m) = decide (x = m):=by
      show ((x : Int) == (m : Int)) = decide (x = m)
      rw [Bool.eq_iff_iff]
      simp
      omega
    rw [e]
    rw [Bool.eq_iff_iff]
    simp only [Bool.or_eq_true,decide_eq_true_iff,List.mem_cons]
    constructor
    · rintro (h | h)
      · exact .inl h.symm
      · exact .inr h
    · rintro (h | h)
      · exact .inl h.symm
      · exact .inr h
theorem flat_nat (F : List Nat) : (F.map nV).all flatV = true:=by
  rw [List.all_eq_true]
  intro x hx
  obtain ⟨y,_,rfl⟩:=List.mem_map.mp hx
  rfl
structure Fam (F : List Nat) : Prop where
  nd : F.Nodup
  lt : ∀ x ∈ F,x < 16
theorem Fam.len {F : List Nat} (h : Fam F) : F.length ≤ 16:=Ev.nodup_bound 16 F h.nd h.lt
theorem Fam.snoc {F : List Nat} (h : Fam F) {x : Nat} (hx : x < 16) (hn : x ∉ F) : Fam (F ++ [x]) where
  nd:=List.nodup_append.mpr ⟨h.nd,by simp,fun a ha b hb => by simp at hb; subst hb; exact fun e => hn (e ▸ ha)⟩
  lt:=fun y hy => by
    rcases List.mem_append.mp hy with hy | hy
    · exact h.lt y hy
    · simp at hy; subst hy; exact hx
theorem getD_app {F G : List Nat} {i : Nat} (h : i < F.length) : (F ++ G).getD i 0 = F.getD i 0:=by
  rw [List.getD_eq_getElem?_getD,List.getD_eq_getElem?_getD,List.getElem?_append_left h]
theorem cutTo (xs : List V) (k : Nat) : cutV xs none (some (k : Int)) = xs.take k:=by
  unfold cutV
  rw [HT.sIx_none,HT.sIx_nat,List.drop_zero,Nat.sub_zero]
  by_cases h : k ≤ xs.length
  · rw [Nat.min_eq_left h]
  · rw [Nat.min_eq_right (by omega),List.take_of_length_le (by omega),List.take_of_length_le (by omega)]
section
variable {P : Program} {w : World} {K : PySem.W.Frag} {mg : Str → Option Value} {base : Heap} {f : Addr} {fd : FuncData}
abbrev s_law_shut : Stmt:=top 49
theorem sc_law_shut : FnScope ["_law_masks","_law_both","_law_found","_law_at","_law_here","_law_there","_law_some","_law_mask"] ["_law_masks","_law_both"] (defScope s_law_shut):=⟨rfl,rfl,rfl,by decide +kernel,rfl,by decide +kernel,by decide +kernel⟩
def sp_shut (K : PySem.W.Frag) : Sp:=fun vs H Q _ => ∃ (a : Nat) (M : List Nat) (c : Bool),vs = [.ref a,.bl c] ∧ H a = some (.lst (M.map nV)) ∧ Fam M ∧ 15 ∈ M ∧ ∀ l M' H',Same H H' → H l = none → H' l = some (.lst (M'.map nV)) → Ev.Lat M' → Q (.ref l) H'
structure Shut (M F : List Nat) (k : Nat) : Prop where
  fam : Fam F
  sub : ∀ x ∈ M,x ∈ F
  cl : ∀ i j,i < j → j < k → F.getD i 0 &&& F.getD j 0 ∈ F
theorem Shut.lat {M F : List Nat} (h : Shut M F F.length) (h15 : 15 ∈ M) : Ev.Lat F where
  nd:=h.fam.nd
  len:=Nat.le_trans h.fam.len (by decide)
  meet:=fun x hx y hy => by
    obtain ⟨i,hi,rfl⟩:=Ev.getD_of_mem hx
    obtain ⟨j,hj,rfl⟩:=Ev.getD_of_mem hy
    rcases Nat.lt_trichotomy i j with q | q | q
    · exact h.cl i j q hj
    · subst q; rw [Nat.and_self]; exact hx
    · rw [Nat.and_comm]; exact h.cl j i q hi
  top:=⟨15,h.sub 15 h15,fun x hx => by
    have hlt:=h.fam.lt x hx
    have : ∀ y : Nat,y < 16 → Ev.Sub y 15:=by decide
    exact this x hlt⟩
theorem ok_shut (F : Fun K "_law_shut" "_law_shut" s_law_shut f fd) (T : Txt mg) : FnOk P w K mg base CX0 1 f fd ["_law_masks","_law_both"] (sp_shut K):=by
  refine F.ok sc_law_shut (fun vs H Q E h => ?_) (fun cdv A outer s H vs Q E hr h => ?_)
  · obtain ⟨a,M,c,rfl,_⟩:=h
    rfl
  · obtain ⟨a,M,c,rfl,ha,hM,h15,kk⟩:=h
    have nd:=sc_law_shut.nd
    refine ⟨_,(pss_cons (ps_set (i:=2) nd rfl (Or.inl rfl) (pe_callTy (call_listK (K:=K) rfl) rfl T.list bt_list (pa_cons (pv 0) pa_nil)))
      (pss_cons (ps_set (i:=3) nd rfl (Or.inl rfl) pe_int)
      (pss_cons (ps_while PassesOwn.never (pt_cmpR op_lt (pv 3) (pe_callB (call_lenK (K:=K) rfl) rfl T.len PySem.boot_len (pa_cons (pv 2) pa_nil)) (nomark _))
      (pss_cons (ps_set (i:=4) nd rfl (Or.inl rfl) (pe_ix (ix_listK (K:=K) rfl) (pv 2) (pv 3) (fun _ _ => rfl)))
      (pss_cons (ps_for PassesOwn.never rfl (pi_listK (K:=K) rfl (pe_slice (sl_listK (K:=K) rfl) (pv 2) po_none (po_some (pv 3)))) (pg_name (i:=5) nd rfl (Or.inl rfl))
      (pss_cons (ps_set (i:=6) nd rfl (Or.inl rfl) (pe_op op_cat (pe_lst (pa_cons (pe_op op_and (pv 4) (pv 5)) pa_nil)) (pe_op op_rep (pe_lst (pa_cons (pe_op op_or (pv 4) (pv 5)) pa_nil)) (pe_callTy call_int1 rfl T.int bt_int (pa_cons (pv 1) pa_nil)))))
      (pss_one (ps_for PassesOwn.never rfl (pi_listK (K:=K) rfl (pv 6)) (pg_name (i:=7) nd rfl (Or.inl rfl))
      (pss_one (ps_if (pt_cmpR (op_notInK (K:=K) rfl) (pv 7) (pv 2) (by with_unfolding_all rfl)) (pss_one (ps_expr (pe_bmK (K:=K) rfl PySem.F.plainAttrs_list PySem.F.slot_list_append PySem.F.type_list_append mt_append (pv 2) (pa_cons (pv 7) pa_nil)))) pss_nil))))))
      (pss_one (ps_set (i:=3) nd rfl (Or.inl rfl) (pe_op op_add (pv 3) pe_int))))))
      (pss_one (ps_ret (pv 2)))))),?_⟩
    refine ⟨_,rfl,a,_,rfl,.inl (SqL.of ha),fun L hL => ?_⟩
    -- the while
    refine ⟨fun m σ H2 => ∃ (k : Nat) (G : List Nat) (v4 v5 v6 v7 : Option V),m = 17 - k ∧ k ≤ G.length ∧ σ = [some (.ref a),some (.bl c),some (.ref L),some (.int k),v4,v5,v6,v7] ∧ Same H H2 ∧ H2 L = some (.lst (G.map nV)) ∧ Shut M G k,
      ⟨17,0,M,none,none,none,none,rfl,Nat.zero_le _,rfl,Same.put hL,upd_same,hM,fun x hx => hx,fun i j _ h => absurd h (Nat.not_lt_zero _)⟩,?_⟩
    rintro m σ H2 ⟨k,G,v4,v5,v6,v7,hm,hk,rfl,s2,hl,S⟩
    have hG:=S.fam.len
    refine ⟨_,rfl,_,rfl,L,_,rfl,.inl (SqL.of hl),_,_,rfl,rfl,_,rfl,ite2 (fun h => ?_) (fun h => ?_)⟩
    · rw [decide_eq_true_iff,List.length_map] at h
      have hkG : k < G.length:=by omega
      refine ⟨fun σ' H' => ∃ (G : List Nat) (v4 v5 v6 v7 : Option V),k + 1 ≤ G.length ∧ σ' = [some (.ref a),some (.bl c),some (.ref L),some (.int ((k : Int) + 1)),v4,v5,v6,v7] ∧ Same H H' ∧ H' L = some (.lst (G.map nV)) ∧ Shut M G (k + 1),
        fun σ' H' ⟨G,v4,v5,v6,v7,h1,h2,h3,h4,h5⟩ => ⟨17 - (k + 1),by omega,k + 1,G,v4,v5,v6,v7,rfl,h1,by rw [h2]; push_cast; rfl,h3,h4,h5⟩,?_⟩
      -- here = found[at]
      refine ⟨_,rfl,_,rfl,L,_,k,nV (G.getD k 0),rfl,rfl,SqL.of hl,atI_nat (by rw [List.getElem?_map,List.getElem?_eq_getElem hkG,List.getD_eq_getElem?_getD,List.getElem?_eq_getElem hkG]; rfl),?_⟩
      -- for there in found[:at]
      refine ⟨_,rfl,_,rfl,k,rfl,L,_,rfl,SqL.of hl,fun q hq => ?_⟩
      rw [cutTo]
      have hqL : q ≠ L:=fun e => by rw [e,hl] at hq; cases hq
      have hgk : ∀ i,i < k → G.getD i 0 < 16:=fun i hi => S.fam.lt _ (Ev.getD_mem (by omega))
      have hhere : G.getD k 0 < 16:=S.fam.lt _ (Ev.getD_mem hkG)
      refine ⟨q,rfl,⟨_,SqL.of upd_same⟩,for_list (K:=K) (a:=q) (xs:=(G.map nV).take k) (fun t σ H3 => ∃ (X : List Nat) (v5 v6 v7 : Option V),σ = [some (.ref a),some (.bl c),some (.ref L),some (.int k),some (nV (G.getD k 0)),v5,v6,v7] ∧
        Same H H3 ∧ H3 q = some (.lst ((G.map nV).take k)) ∧ H3 L = some (.lst ((G ++ X).map nV)) ∧ Fam (G ++ X) ∧ ∀ i,i < t → G.getD i 0 &&& G.getD k 0 ∈ G ++ X) ?_ ?_ ?_ ?_⟩
      · refine ⟨[],v5,v6,v7,rfl,s2.trans (Same.put hq),upd_same,?_,by simpa using S.fam,fun i h => absurd h (Nat.not_lt_zero _)⟩
        rw [upd_ne (Ne.symm hqL),List.append_nil]
        exact hl
      · rintro i σ H3 _ ⟨X,v5,v6,v7,_,_,h3,_⟩
        exact SqL.of h3
      · rintro t y σ H3 hi ⟨X,v5,v6,v7,rfl,s3,hq3,hl3,fam,cl⟩
        have htk : t < k:=by
          have:=(List.getElem?_eq_some_iff.mp hi).1
          rw [List.length_take,List.length_map] at this
          omega
        have ey : y = nV (G.getD t 0):=by
          rw [List.getElem?_take_of_lt htk,List.getElem?_map,List.getElem?_eq_getElem (show t < G.length by omega)] at hi
          rw [List.getD_eq_getElem?_getD,List.getElem?_eq_getElem (show t < G.length by omega)]
          exact (Option.some.inj hi).symm
        subst ey
        have hlt:=hgk t htk
        have a16 : G.getD k 0 &&& G.getD t 0 < 16:=Nat.lt_of_le_of_lt Nat.and_le_left hhere
        have o16 : G.getD k 0 ||| G.getD t 0 < 16:=Nat.or_lt_two_pow (n:=4) hhere hlt
        -- some = [here & there] + [here | there] * int(both)
        refine ⟨_,rfl,_,rfl,_,_,rfl,rfl,by show 1 ≤ sizeLine; decide,fun p1 hp1 => ?_⟩
        refine ⟨_,rfl,_,rfl,_,_,rfl,rfl,by show 1 ≤ sizeLine; decide,fun p2 hp2 => ?_⟩
        refine ⟨_,rfl,.inr ⟨c,rfl,?_⟩⟩
        have hb : (if c = true then (1 : Int) else 0) = 1 ∨ (if c = true then (1 : Int) else 0) = 0:=by cases c <;> simp
        refine ⟨p2,_,_,rfl,rfl,upd_same,by rcases hb with e | e <;> rw [e] <;> decide,by rcases hb with e | e <;> rw [e] <;> decide,?_,fun p3 hp3 => ?_⟩
        · rcases hb with e | e <;> rw [e]
          · show 1 * 1 ≤ sizeLine; decide
          · show 1 * 0 ≤ sizeLine; decide
        have eA : V.int (Builtin.bitAnd (G.getD k 0 : Nat) (G.getD t 0 : Nat)) = nV (G.getD k 0 &&& G.getD t 0):=by rw [andN]
        have eO : V.int (Builtin.bitOr (G.getD k 0 : Nat) (G.getD t 0 : Nat)) = nV (G.getD k 0 ||| G.getD t 0):=by rw [orN]
        refine ⟨p1,p3,_,_,rfl,rfl,Same.put hp3 _ _ (Same.put hp2 _ _ upd_same),upd_same,?_,fun p4 hp4 => ?_⟩
        · rcases hb with e | e <;> rw [e]
          · show 1 + 1 ≤ sizeLine; decide
          · show 1 + 0 ≤ sizeLine; decide
        have s14 : Same H3 (upd (upd (upd H3 p1 (.lst [V.int (Builtin.bitAnd (G.getD k 0 : Nat) (G.getD t 0 : Nat))])) p2 (.lst [V.int (Builtin.bitOr (G.getD k 0 : Nat) (G.getD t 0 : Nat))])) p3 (.lst (List.replicate (if c = true then (1 : Int) else 0).toNat [V.int (Builtin.bitOr (G.getD k 0 : Nat) (G.getD t 0 : Nat))]).flatten)) :=
          ((Same.put hp1).trans (Same.put hp2)).trans (Same.put hp3)
        have s4:=s14.trans (Same.put hp4 (o:=.lst ([V.int (Builtin.bitAnd (G.getD k 0 : Nat) (G.getD t 0 : Nat))] ++ (List.replicate (if c = true then (1 : Int) else 0).toNat [V.int (Builtin.bitOr (G.getD k 0 : Nat) (G.getD t 0 : Nat))]).flatten)))
        obtain ⟨SM,hSM,hsub,hand⟩ : ∃ SM : List Nat,[V.int (Builtin.bitAnd (G.getD k 0 : Nat) (G.getD t 0 : Nat))] ++ (List.replicate (if c = true then (1 : Int) else 0).toNat [V.int (Builtin.bitOr (G.getD k 0 : Nat) (G.getD t 0 : Nat))]).flatten = SM.map nV ∧
            (∀ x ∈ SM,x < 16) ∧ G.getD k 0 &&& G.getD t 0 ∈ SM:=by
          rw [eA,eO]
          have two : ∀ x ∈ [G.getD k 0 &&& G.getD t 0,G.getD k 0 ||| G.getD t 0],x < 16:=by
            intro x hx
            simp only [List.mem_cons,List.not_mem_nil,or_false] at hx
            rcases hx with rfl | rfl
            · exact a16
            · exact o16
          clear hb hp4 s14 s4 hp3
          cases c with
          | true => exact ⟨[G.getD k 0 &&& G.getD t 0,G.getD k 0 ||| G.getD t 0],rfl,two,List.mem_cons_self⟩
          | false => exact ⟨[G.getD k 0 &&& G.getD t 0],rfl,(fun x hx => two x (by simp only [List.mem_cons,List.not_mem_nil,or_false] at hx ⊢; exact .inl hx)),List.mem_cons_self⟩
        generalize hB : upd _ p4 _ = B at s4 ⊢
        have hp4B : B p4 = some (.lst (SM.map nV)):=by rw [← hB,upd_same,hSM]
        have hLp4 : L ≠ p4:=fun e => by
          have:=s14 _ _ hl3
          rw [e] at this
          rw [this] at hp4; cases hp4
        have hqp4 : q ≠ L:=hqL
        -- for mask in some
        refine ⟨_,rfl,p4,rfl,⟨_,SqL.of hp4B⟩,for_list (K:=K) (a:=p4) (xs:=SM.map nV) (fun u σ H4 => ∃ (Y : List Nat) (v7 : Option V),σ = [some (.ref a),some (.bl c),some (.ref L),some (.int k),some (nV (G.getD k 0)),some (nV (G.getD t 0)),some (.ref p4),v7] ∧
          Same H H4 ∧ H4 q = some (.lst ((G.map nV).take k)) ∧ H4 p4 = some (.lst (SM.map nV)) ∧ H4 L = some (.lst ((G ++ Y).map nV)) ∧ Fam (G ++ Y) ∧ (∀ x ∈ G ++ X,x ∈ G ++ Y) ∧ ∀ x ∈ SM.take u,x ∈ G ++ Y)
          ⟨X,v7,rfl,s3.trans s4,s4 _ _ hq3,hp4B,s4 _ _ hl3,fam,fun x hx => hx,fun x hx => by simp at hx⟩ (fun i σ H4 _ ⟨Y,v7,_,_,_,h4,_⟩ => SqL.of h4) ?_ ?_⟩
        · rintro u y σ H4 hu ⟨Y,v7,rfl,s4',hq4,hp4',hl4,famY,subY,inY⟩
          have hul : u < SM.length:=by simpa using (List.getElem?_eq_some_iff.mp hu).1
          have ey : y = nV SM[u]:=by
            rw [List.getElem?_map,List.getElem?_eq_getElem hul] at hu
            exact (Option.some.inj hu).symm
          subst ey
          have et : SM.take (u + 1) = SM.take u ++ [SM[u]]:=by rw [List.take_add_one,List.getElem?_eq_getElem hul]; rfl
          refine ⟨_,rfl,_,rfl,L,_,rfl,.inl (SqL.of hl4),rfl,flat_nat _,_,rfl,ite2 (fun h => ?_) (fun h => ?_)⟩
          · rw [if_pos rfl,inV_nat] at h
            have hn : SM[u] ∉ G ++ Y:=by simpa using h
            refine ⟨_,rfl,.inl ⟨rfl,_,SqL.of hl4⟩,_,rfl,L,_,_,rfl,rfl,hl4,?_,?_⟩
            · rw [List.length_map]; exact slk (Nat.le_trans famY.len (by decide))
            · have fam2:=famY.snoc (hsub _ (List.getElem_mem hul)) hn
              rw [List.append_assoc] at fam2
              refine ⟨Y ++ [SM[u]],_,rfl,?_,?_,?_,?_,fam2,fun x hx => ?_,fun x hx => ?_⟩
              · intro b o e
                rw [upd_ne (fun z => by rw [z,hL] at e; cases e)]
                exact s4' _ _ e
              · rw [upd_ne hqL]; exact hq4
              · rw [upd_ne (Ne.symm hLp4)]; exact hp4'
              · rw [upd_same,← List.append_assoc,List.map_append (l₁:=G ++ Y)]; rfl
              · rw [← List.append_assoc]; exact List.mem_append_left _ (subY x hx)
              · rw [et] at hx
                rw [← List.append_assoc]
                rcases List.mem_append.mp hx with hx | hx
                · exact List.mem_append_left _ (inY x hx)
                · exact List.mem_append_right _ hx
          · rw [if_pos rfl,inV_nat] at h
            have hn : SM[u] ∈ G ++ Y:=by
              apply Classical.byContradiction
              intro z
              exact h (by rw [decide_eq_false z]; rfl)
            refine ⟨Y,_,rfl,s4',hq4,hp4',hl4,famY,subY,fun x hx => ?_⟩
            rw [et] at hx
            rcases List.mem_append.mp hx with hx | hx
            · exact inY x hx
            · simp at hx; subst hx; exact hn
        · rintro σ H4 ⟨Y,v7,rfl,s4',hq4,hp4',hl4,famY,subY,inY⟩
          rw [List.length_map,List.take_length] at inY
          refine ⟨Y,_,_,_,rfl,s4',hq4,hl4,famY,fun i hi => ?_⟩
          by_cases e : i = t
          · subst e; rw [Nat.and_comm]; exact inY _ hand
          · exact subY _ (cl i (by omega))
      · rintro σ H3 ⟨X,v5,v6,v7,rfl,s3,hq3,hl3,fam,cl⟩
        have hlen : ((G.map nV).take k).length = k:=by rw [List.length_take,List.length_map]; omega
        rw [hlen] at cl
        refine ⟨_,rfl,_,_,rfl,rfl,G ++ X,_,_,_,_,?_,rfl,s3,hl3,fam,fun x hx => List.mem_append_left _ (S.sub x hx),fun i j hij hj => ?_⟩
        · rw [List.length_append]; omega
        · rw [getD_app (show i < G.length by omega),getD_app (show j < G.length by omega)]
          by_cases e : j = k
          · subst e; exact cl i hij
          · exact List.mem_append_left _ (S.cl i j hij (by omega))
    · rw [decide_eq_true_iff,List.length_map] at h
      have ek : k = G.length:=by omega
      subst ek
      exact ⟨_,rfl,kk L G H2 s2 hL hl (S.lat h15)⟩
end
structure RowsG (H0 H : Hp) (r n : Nat) (as : List Addr) (g : Nat → List V) : Prop where
  same : Same H0 H
  lst : H r = some (.lst (as.map V.ref))
  len : as.length = n
  nd : as.Nodup
  newr : H0 r = none
  new : ∀ a ∈ as,H0 a = none ∧ a ≠ r
  row : ∀ (i : Nat) a,as[i]? = some a → H a = some (.lst (g i))
theorem RowsG.congr {H0 H : Hp} {r n : Nat} {as : List Addr} {g g' : Nat → List V} (W : RowsG H0 H r n as g) (h : ∀ i,i < n → g i = g' i) : RowsG H0 H r n as g' :=
  { W with row:=fun i a e => (W.row i a e).trans (by rw [h i (by rw [← W.len]; exact (List.getElem?_eq_some_iff.mp e).1)]) }
theorem RowsG.get {H0 H : Hp} {r n : Nat} {as : List Addr} {g : Nat → List V} (W : RowsG H0 H r n as g) {i : Nat} (hi : i < n) : ∃ a,as[i]? = some a ∧ (as.map V.ref)[i]? = some (.ref a) ∧ a ∈ as ∧ H a = some (.lst (g i)):=by
  have h : i < as.length:=by rw [W.len]; exact hi
  exact ⟨as[i],List.getElem?_eq_getElem h,by simp [h],List.getElem_mem h,W.row i _ (List.getElem?_eq_getElem h)⟩
theorem RowsG.grow {H0 H H' : Hp} {r n : Nat} {as : List Addr} {g : Nat → List V} (W : RowsG H0 H r n as g) (s : Same H H') : RowsG H0 H' r n as g :=
  { W with same:=W.same.trans s,lst:=s _ _ W.lst,row:=fun i a e => s _ _ (W.row i a e) }
theorem RowsG.put {H0 H : Hp} {r n : Nat} {as : List Addr} {g : Nat → List V} (W : RowsG H0 H r n as g) {i a : Nat} {ys : List V} (ha : as[i]? = some a) :
    RowsG H0 (upd H a (.lst ys)) r n as (fun x => if x = i then ys else g x):=by
  have am : a ∈ as:=List.mem_of_getElem? ha
  refine { W with same:=fun b o e => ?_,lst := ?_,row:=fun k b e => ?_ }
  · rw [upd_ne (fun z => by rw [z,(W.new a am).1] at e; cases e)]
    exact W.same _ _ e
  · rw [upd_ne (Ne.symm (W.new a am).2)]
    exact W.lst
  · by_cases hk : k = i
    · subst hk
      rw [ha] at e
      cases e
      rw [upd_same,if_pos rfl]
    · have hba : b ≠ a:=by
        rintro rfl
        exact hk (nodup_ix' W.nd e ha)
      rw [upd_ne hba,W.row k b e,if_neg hk]
def AbvAt (H : Hp) (D n : Nat) (g : Nat → List Nat) : Prop := ∃ as : List Addr,H D = some (.lst (as.map V.ref)) ∧ as.length = n ∧ ∀ (i : Nat) a,as[i]? = some a → H a = some (.lst ((g i).map nV))
theorem AbvAt.same {H H' : Hp} {D n : Nat} {g : Nat → List Nat} (s : Same H H') (h : AbvAt H D n g) : AbvAt H' D n g:=by
  obtain ⟨as,e,l,q⟩:=h
  exact ⟨as,s _ _ e,l,fun i a ha => s _ _ (q i a ha)⟩
theorem AbvAt.get {H : Hp} {D n : Nat} {g : Nat → List Nat} (h : AbvAt H D n g) {i : Nat} (hi : i < n) : ∃ vs b,H D = some (.lst vs) ∧ vs[i]? = some (.ref b) ∧ H b = some (.lst ((g i).map nV)):=by
  obtain ⟨as,e,l,q⟩:=h
  have ha : as[i]? = some as[i]:=List.getElem?_eq_getElem (by omega)
  exact ⟨_,as[i],e,by rw [List.getElem?_map,ha]; rfl,q _ _ ha⟩
def aboveOf (ps : List (Nat × Nat)) (i : Nat) : List Nat:=(ps.filter fun q => decide (q.1 = i)).map Prod.snd
def abv (n : Nat) (R : Nat → Nat → Bool) (i : Nat) : List Nat:=(List.range n).filter (stepR n R i)
theorem aboveOf_snoc (ps : List (Nat × Nat)) (q : Nat × Nat) (i : Nat) : aboveOf (ps ++ [q]) i = if i = q.1 then aboveOf ps i ++ [q.2] else aboveOf ps i:=by
  unfold aboveOf
  rw [List.filter_append,List.map_append]
  by_cases h : i = q.1
  · rw [if_pos h]
    have : [q].filter (fun q => decide (q.1 = i)) = [q]:=by simp [h]
    rw [this]
    rfl
  · rw [if_neg h]
    have : [q].filter (fun q => decide (q.1 = i)) = []:=by
      simp
      exact fun z => h z.symm
    rw [this]
    simp
theorem aboveOf_len (ps : List (Nat × Nat)) (i : Nat) : (aboveOf ps i).length ≤ ps.length:=by
  unfold aboveOf
  rw [List.length_map]
  exact List.length_filter_le _ _
theorem flat_one {i : Nat} {X : List Nat} : ∀ {L : List Nat},L.Nodup → i ∈ L → L.flatMap (fun l => if l = i then X else []) = X
  | [],_,h => nomatch h
  | l :: L,nd,h => by
    rw [List.flatMap_cons]
    by_cases e : l = i
    · subst e
      have : L.flatMap (fun x => if x = l then X else []) = []:=by
        rw [List.flatMap_eq_nil_iff]
        intro x hx
        rw [if_neg (fun z : x = l => (List.nodup_cons.mp nd).1 (z ▸ hx))]
      rw [if_pos rfl,this,List.append_nil]
    · rw [if_neg e,List.nil_append]
      rcases List.mem_cons.mp h with z | z
      · exact absurd z.symm e
      · exact flat_one (List.nodup_cons.mp nd).2 z
theorem above_steps {n : Nat} {R : Nat → Nat → Bool} {i : Nat} (hi : i < n) : aboveOf (stepsR n R) i = abv n R i:=by
  unfold aboveOf stepsR pairsL abv
  rw [List.filter_filter,List.filter_flatMap,List.map_flatMap]
  have key : ∀ l,((((List.range n).filter fun h => !decide (l = h) && R l h).map fun h => (l,h)).filter fun q => (decide (q.1 = i) && stepR n R q.1 q.2)).map Prod.snd = if l = i then (List.range n).filter (stepR n R i) else []:=by
    intro l
    rw [List.filter_map,List.map_map,List.filter_filter]
    by_cases e : l = i
    · subst e
      rw [if_pos rfl]
      have e2 : (Prod.snd ∘ fun h : Nat => (l,h)) = id:=rfl
      rw [e2,List.map_id]
      apply List.filter_congr
      intro x hx
      show ((decide (l = l) && stepR n R l x) && (!decide (l = x) && R l x)) = stepR n R l x
      cases hs : stepR n R l x with
      | false => simp
      | true =>
        have:=stepR_bel hs
        unfold belR at this
        rw [this]
        simp
    · rw [if_neg e]
      have : (List.range n).filter (fun a => (((fun q : Nat × Nat => (decide (q.1 = i) && stepR n R q.1 q.2)) ∘ fun h => (l,h)) a && (!decide (l = a) && R l a))) = []:=by
        rw [List.filter_eq_nil_iff]
        intro x _
        simp [e]
      rw [this]
      rfl
  rw [show (fun a => (((((List.range n).filter fun h => !decide (a = h) && R a h).map fun h => (a,h)).filter fun q => (decide (q.1 = i) && stepR n R q.1 q.2))).map Prod.snd) = fun l => if l = i then (List.range n).filter (stepR n R i) else [] from funext key]
  exact flat_one List.nodup_range (by simpa using hi)
theorem len_stepsR {n : Nat} {R : Nat → Nat → Bool} (hn : n ≤ 24) : (stepsR n R).length ≤ 576:=by
  have h1:=List.length_filter_le (fun q : Nat × Nat => stepR n R q.1 q.2) (pairsL n R)
  have h2:=len_pairsL (n:=n) (R:=R) hn
  unfold stepsR
  omega
theorem mem_stepsR {n : Nat} {R : Nat → Nat → Bool} {q : Nat × Nat} (h : q ∈ stepsR n R) : q.1 < n ∧ q.2 < n:=by
  have:=mem_pairsL (List.mem_filter.mp h).1
  exact ⟨this.1,this.2.1⟩
section
variable {P : Program} {w : World} {K : PySem.W.Frag} {mg : Str → Option Value} {base : Heap} {f : Addr} {fd : FuncData}
abbrev s_steps_above : Stmt:=top 37
theorem sc_steps_above : FnScope ["order","above","step"] ["order"] (defScope s_steps_above):=⟨rfl,rfl,rfl,by decide +kernel,rfl,by decide +kernel,by decide +kernel⟩
def sp_steps_above (C : Addr) : Sp:=fun vs H Q _ => ∃ (p n : Nat) (R : Nat → Nat → Bool),vs = [.ref p] ∧ OrdAt C H p n R ∧ n ≤ 24 ∧ ∀ D H',Same H H' → H D = none → AbvAt H' D n (abv n R) → Q (.ref D) H'
theorem ok_steps_above {C : Addr} (F : Fun K "steps_above" "steps_above" s_steps_above f fd) (T : Txt mg) (TC : ClsOk K C) (c_steps : Cal P w K mg base "steps" ["order"] 3 (sp_steps_of C)) : FnOk P w K mg base CX0 4 f fd ["order"] (sp_steps_above C):=by
  refine F.ok sc_steps_above (fun vs H Q E h => ?_) (fun cdv A outer s H vs Q E hr h => ?_)
  · obtain ⟨p,n,R,rfl,_⟩:=h
    rfl
  · obtain ⟨p,n,R,rfl,hO,hn,kk⟩:=h
    have nd:=sc_steps_above.nd
    have en : ((n : Int)).toNat = n:=Int.toNat_natCast n
    obtain ⟨dx,vp,vr,vj,vm,o1,_⟩:=id hO
    refine ⟨_,(pss_cons (ps_setC (i:=1) nd rfl rfl (own:=["thing"]) (fr:=[]) rfl (blkOk (defScope s_steps_above) ["order","above","step"] rfl rfl (by decide +kernel)) (pi_range1 rfl T.range (pa_cons (pe_fldK (K:=K) rfl (pv 0) rfl) pa_nil)) (fun _ _ _ _ => ⟨(pg_name (i:=0) (by decide +kernel : (["thing"] : List Str).Nodup) rfl (Or.inl rfl)),pif_nil,(pe_lst pa_nil)⟩))
      (pss_cons (ps_for PassesOwn.never rfl (pi_listK (K:=K) rfl (pe_callC c_steps hr rfl (pa_cons (pv 0) pa_nil))) (pg_name (i:=2) nd rfl (Or.inl rfl))
      (pss_one (ps_expr (pe_bmK (K:=K) rfl PySem.F.plainAttrs_list PySem.F.slot_list_append PySem.F.type_list_append mt_append (pe_ix (ix_listK (K:=K) rfl) (pv 1) (pe_ix (ix_tupK (K:=K) rfl) (pv 2) pe_int (fun _ _ => rfl)) (fun _ _ => rfl)) (pa_cons (pe_ix (ix_tupK (K:=K) rfl) (pv 2) pe_int (fun _ _ => rfl)) pa_nil)))))
      (pss_one (ps_ret (pv 1))))),?_⟩
    refine ⟨_,rfl,p,C,dx,_,_,rfl,o1,TC.cl,TC.nC,flds_count' _ _ _ _ _,_,rfl,(n62 (by omega)).1,(n62 (by omega)).2,fun D hD => comp_fresh (fun _ => []) src_range hD (sl24 (by omega)) (fun i H2 Kt hi hs hk => ?_) (fun H1 as hs hl h1 h2 h3 h4 => ?_)⟩
    · exact ⟨by show 0 ≤ sizeLine; decide,fun a ha => hk a _ (Same.put ha) ha upd_same⟩
    · have W0 : RowsG H H1 D n as (fun x => (aboveOf ((stepsR n R).take 0) x).map nV):=⟨hs,hl,h1.trans en,h2,hD,h3,fun i b e => h4 i b e⟩
      refine ⟨_,rfl,p,n,R,rfl,hO.same' hs,hn,fun L us H2 s2 hL q2 hul hp => ?_⟩
      refine ⟨L,rfl,⟨_,SqL.of q2⟩,for_list (K:=K) (a:=L) (xs:=us) (fun i σ H3 => ∃ v2,σ = [some (.ref p),some (.ref D),v2] ∧ RowsG H H3 D n as (fun x => (aboveOf ((stepsR n R).take i) x).map nV) ∧ H3 L = some (.lst us) ∧ Paired (pairV H3) (stepsR n R) us)
        ⟨none,rfl,W0.grow s2,q2,hp⟩ (fun i σ H3 _ ⟨_,_,_,q3,_⟩ => SqL.of q3) ?_ ?_⟩
      · rintro i y σ H3 hy ⟨v2,rfl,W,q3,hp3⟩
        obtain ⟨q,hq,t,rfl,ht⟩:=paired_get hp3 hy
        have hqm:=mem_stepsR (List.mem_of_getElem? hq)
        obtain ⟨a,ra,rb,rc,rd⟩:=W.get hqm.1
        have haL : L ≠ a:=fun z => by
          have:=h4 q.1 a ra
          rw [← z,hL] at this
          cases this
        refine ⟨_,rfl,_,rfl,t,_,0,.int (q.1 : Int),rfl,rfl,SqT.of ht,rfl,D,_,_,.ref a,rfl,rfl,SqL.of W.lst,atI_nat rb,.inl ⟨rfl,_,SqL.of rd⟩,_,rfl,t,_,1,.int (q.2 : Int),rfl,rfl,SqT.of ht,rfl,?_⟩
        have hlen : ((aboveOf ((stepsR n R).take i) q.1).map nV).length ≤ 576:=by
          rw [List.length_map]
          have e1:=aboveOf_len ((stepsR n R).take i) q.1
          have e2:=len_stepsR (n:=n) (R:=R) hn
          have e3 : ((stepsR n R).take i).length ≤ (stepsR n R).length:=List.length_take_le' _ _
          omega
        refine ⟨a,_,.int (q.2 : Int),rfl,rfl,rd,small1000 (by omega),?_⟩
        have et : (stepsR n R).take (i + 1) = (stepsR n R).take i ++ [q]:=by rw [List.take_add_one,hq]; rfl
        refine ⟨_,rfl,(W.put ra).congr fun x hx => ?_,by rw [upd_ne haL]; exact q3,pairsV_upd rd hp3⟩
        rw [et,aboveOf_snoc]
        by_cases e : x = q.1
        · rw [if_pos e,if_pos e,List.map_append,e]
          rfl
        · rw [if_neg e,if_neg e]
      · rintro σ H3 ⟨v2,rfl,W,q3,hp3⟩
        have el : us.length = (stepsR n R).length:=(Paired.length hp3).symm
        rw [el,List.take_length] at W
        refine ⟨_,rfl,kk D H3 W.same hD ⟨as,W.lst,W.len,fun i a ha => ?_⟩⟩
        rw [W.row i a ha,above_steps (by rw [← W.len]; exact (List.getElem?_eq_some_iff.mp ha).1)]
end
end My
namespace L2
open PySem PySem.Spec PyProof.Rows
section
variable {P : Program} {w : World} {H H' : Hp} {h : Heap} {p : Addr} {qual : Str} {params : Arguments} {body : Expr} {scope : Scope} {cl : List (Str × Addr)}
end
section
variable {X : Cx} {c P : Addr} {params : Arguments} {body : Expr} {scope : Scope} {pos : Pos}
end
section
variable {P : Program} {w : World} {K : PySem.W.Frag} {mg : Str → Option Value} {base : Heap} {A : Around} {outer : List Env} {s : Shared} {H : Hp} {p c : Addr} {qual : Str} {params : Arguments} {body : Expr} {scope : Scope} {cl : List (Str × Addr)}
  {ps fr : List Str} {vs : List V} {us : List Value} {zs : St} {pm ctv : Value} {Q : VK} {t : TE}
end
section
variable {X : Cx} {pins : List (Addr × Obj)} {σ : St} {H : Hp} {s : Shared} {p : Addr} {qual : Str} {params : Arguments} {body : Expr} {scope : Scope} {ps : List Str} {fr : List (Str × Nat)} {A : Around} {t : TE} {Q : VK} {vs : List V} {us : List Value} {E : Value → Shared → Prop}
end
section
variable {prog : Program} {w : World} {A : Around} {E : Value → Shared → Prop} {s : Shared} {a kS : Addr} {e1 : Nat} {keys : Array Value} {its : List Value} {kz : List Int}
end
section
variable {X : Cx} {pins : List (Addr × Obj)} {σ : St} {H : Hp} {s : Shared} {A : Around} {E : Value → Shared → Prop}
end
section
variable {X : Cx} {pins : List (Addr × Obj)} {σ : St} {G0 : Hp} {s : Shared} {A : Around} {E : Value → Shared → Prop} {a kS p : Addr} {e1 : Nat} {qual x : Str} {params : Arguments} {body : Expr} {scope : Scope} {fr : List (Str × Nat)} {tb : TE}
  {xs : List V} {its : List Value} {R : PySem.Fin → Shared → Prop} {Kp : Nat → V → Hp → Prop}
end
section
variable {X : Cx} {pins : List (Addr × Obj)} {σ : St} {H : Hp} {s : Shared} {qual x : Str} {params : Arguments} {body : Expr} {scope : Scope} {fr : List (Str × Nat)} {tb : TE} {p : Addr} {v : V} {u : Value} {xs : List V} {kz : List Int} {Q : VK} {E : Value → Shared → Prop}
end
section
variable {X : Cx} {x : Str} {params : Arguments} {body e : Expr} {scope : Scope} {fr : List (Str × Nat)} {tb ti : TE} {c P : Addr} {p0 lpos kpos pos : Pos}
end
section
variable {P : Program} {w : World} {K : PySem.W.Frag} {mg : Str → Option Value} {base : Heap}
end
end L2
namespace My
open PySem PySem.Spec PyProof.Rows L2
def upC (n : Nat) (R : Nat → Nat → Bool) (a : Nat) : Nat:=((List.range n).map (R a)).count true
section
variable {P : Program} {w : World} {K : PySem.W.Frag} {mg : Str → Option Value} {base : Heap} {f : Addr} {fd : FuncData}
end
theorem clos_eq {M : List Nat} (hM : Ev.Lat M) {ps : List (Nat × Nat)} (hand : Hand M ps) {R : Nat → Nat → Bool} (hC : Ev.Clos M.length ps R) : ∀ a b,a < M.length → b < M.length → R a b = Ev.leM M a b :=
  hC.eq_leM hM.nd hand.le fun a b ha hb h => hand.all _ (step_in hM.nd ha hb h)
theorem good_of {M : List Nat} (hM : Ev.Lat M) {ps : List (Nat × Nat)} (hand : Hand M ps) (R : Nat → Nat → Bool) (hC : Ev.Clos M.length ps R) : Good M.length R:=by
  have eq:=clos_eq hM hand hC
  refine ⟨fun a ha => by rw [eq a a ha ha]; exact Ev.leM_refl _ _,fun a b ha hb h1 h2 => ?_,fun a b ha hb => ?_,fun a b ha hb => ?_⟩
  · rw [eq a b ha hb] at h1
    rw [eq b a hb ha] at h2
    exact Ev.leM_antisymm hM.nd ha hb h1 h2
  · obtain ⟨c,hc,h⟩:=hM.joinEx ha hb
    exact ⟨c,hc,fun x hx => by rw [eq c x hc hx,eq a x ha hx,eq b x hb hx]; exact h x hx⟩
  · obtain ⟨c,hc,_,h⟩:=hM.meetEx ha hb
    exact ⟨c,hc,fun x hx => by rw [eq x c hx hc,eq x a hx ha,eq x b hx hb]; exact h x⟩
theorem Good.trans {n : Nat} {R : Nat → Nat → Bool} (G : Good n R) {a b c : Nat} (ha : a < n) (hb : b < n) (hc : c < n) (h1 : R a b = true) (h2 : R b c = true) : R a c = true:=by
  obtain ⟨m,hm,h⟩:=G.meet b c hb hc
  have e1:=h b hb
  rw [G.refl b hb,h2] at e1
  have e2:=h m hm
  rw [G.refl m hm] at e2
  have e3 : R m b = true:=by
    cases e : R m b with
    | true => rfl
    | false => rw [e] at e2; cases e2
  have : b = m:=G.anti b m hb hm (by rw [e1]; rfl) e3
  subst this
  have e4:=h a ha
  rw [h1] at e4
  simpa using e4.symm
def IsJ (n : Nat) (R : Nat → Nat → Bool) (a b c : Nat) : Prop:=c < n ∧ ∀ x,x < n → R c x = (R a x && R b x)
def IsM (n : Nat) (R : Nat → Nat → Bool) (a b c : Nat) : Prop:=c < n ∧ ∀ x,x < n → R x c = (R x a && R x b)
section
variable {n : Nat} {R : Nat → Nat → Bool} {a b c d : Nat}
theorem IsJ.uniq (G : Good n R) (h : IsJ n R a b c) (h' : IsJ n R a b d) : c = d:=G.dis c d h.1 h'.1 fun x hx => by rw [h.2 x hx,h'.2 x hx]
theorem IsM.uniq (G : Good n R) (h : IsM n R a b c) (h' : IsM n R a b d) : c = d:=G.dis' c d h.1 h'.1 fun x hx => by rw [h.2 x hx,h'.2 x hx]
theorem IsJ.up (G : Good n R) (ha : a < n) (hb : b < n) (h : IsJ n R a b c) : R a c = true ∧ R b c = true:=by
  have:=h.2 c h.1
  rw [G.refl c h.1] at this
  simpa using this.symm
theorem IsJ.of_le (G : Good n R) (ha : a < n) (hb : b < n) (h : R a b = true) : IsJ n R a b b:=⟨hb,fun x hx => by
  cases e : R b x with
  | false => simp
  | true => rw [G.trans ha hb hx h e]; rfl⟩
theorem IsJ.eq_iff (G : Good n R) (ha : a < n) (hb : b < n) (h : IsJ n R a b c) : decide (V.int (c : Int) = V.int (b : Int)) = R a b:=by
  rw [Bool.eq_iff_iff,decide_eq_true_iff]
  constructor
  · intro e
    have : c = b:=by injection e with e; omega
    subst this
    exact (h.up G ha hb).1
  · intro e
    rw [h.uniq G (IsJ.of_le G ha hb e)]
end
end My
namespace Cl
section
variable (g : Nat → List Nat) (b : Nat)
def climbs : Nat → Nat → List (List Nat)
  | 0,a => if a = b then [[a]] else []
  | k + 1,a => if a = b then [[a]] else (g a).flatMap fun d => (climbs k d).map (a :: ·)
end
theorem flatMap_congr {α β : Type} {f f' : α → List β} : ∀ {l : List α},(∀ x ∈ l,f x = f' x) → l.flatMap f = l.flatMap f'
  | [],_ => rfl
  | x :: l,h => by rw [List.flatMap_cons,List.flatMap_cons,h x List.mem_cons_self,flatMap_congr fun y hy => h y (List.mem_cons_of_mem _ hy)]
section
variable {g : Nat → List Nat} {b : Nat} {u : Nat → Nat}
theorem climbs_stable (hu : ∀ a d,d ∈ g a → u d < u a) : ∀ (k a : Nat),u a ≤ k → climbs g b k a = climbs g b (k + 1) a
  | 0,a,h => by
    have : g a = []:=by
      cases e : g a with
      | nil => rfl
      | cons d r => have:=hu a d (by rw [e]; exact List.mem_cons_self); omega
    show (if a = b then [[a]] else []) = if a = b then [[a]] else (g a).flatMap _
    rw [this]; rfl
  | k + 1,a,h => by
    show (if a = b then [[a]] else (g a).flatMap fun d => (climbs g b k d).map (a :: ·)) = if a = b then [[a]] else (g a).flatMap fun d => (climbs g b (k + 1) d).map (a :: ·)
    rw [flatMap_congr fun d hd => by rw [climbs_stable hu k d (by have:=hu a d hd; omega)]]
theorem climbs_eq (hu : ∀ a d,d ∈ g a → u d < u a) {N a : Nat} (h : u a ≤ N) : climbs g b N a = if a = b then [[a]] else (g a).flatMap fun d => (climbs g b N d).map (a :: ·):=by
  rw [climbs_stable hu N a h]
  show (if a = b then [[a]] else (g a).flatMap fun d => (climbs g b N d).map (a :: ·)) = _
  rfl
def W (g : Nat → List Nat) (b N a : Nat) : Nat:=(climbs g b N a).length
theorem W_end {N : Nat} : W g b N b = 1:=by
  unfold W
  cases N <;> simp [climbs]
theorem W_eq (hu : ∀ a d,d ∈ g a → u d < u a) {N a : Nat} (h : u a ≤ N) (hab : a ≠ b) : W g b N a = ((g a).map (W g b N)).sum:=by
  unfold W
  rw [climbs_eq hu h,if_neg hab,List.length_flatMap]
  congr 1
  exact List.map_congr_left fun d _ => List.length_map _
structure IsC (g : Nat → List Nat) (b a : Nat) (c : List Nat) : Prop where
  hd : c.head? = some a
  last : c.getLast? = some b
  go : ∀ i,i + 1 < c.length → c.getD (i + 1) 0 ∈ g (c.getD i 0)
theorem isC_one : IsC g b b [b]:=⟨rfl,rfl,fun i h => by simp at h⟩
theorem isC_cons {a d : Nat} {c : List Nat} (h : IsC g b d c) (hd : d ∈ g a) : IsC g b a (a :: c):=by
  obtain ⟨h1,h2,h3⟩:=h
  refine ⟨rfl,?_,fun i hi => ?_⟩
  · cases c with
    | nil => cases h1
    | cons x r => rw [List.getLast?_cons_cons]; exact h2
  · cases i with
    | zero =>
      cases c with
      | nil => cases h1
      | cons x r => cases h1; simpa using hd
    | succ i =>
      have:=h3 i (by simpa using hi)
      simpa using this
theorem isC_tail {a x : Nat} {c : List Nat} (h : IsC g b a (a :: x :: c)) : IsC g b x (x :: c) ∧ x ∈ g a:=by
  refine ⟨⟨rfl,by rw [← h.last,List.getLast?_cons_cons],fun i hi => ?_⟩,?_⟩
  · have:=h.go (i + 1) (by simpa using hi)
    simpa using this
  · have:=h.go 0 (by simp)
    simpa using this
theorem mem_climbs {N : Nat} : ∀ {k a : Nat} {c : List Nat},c ∈ climbs g b k a → IsC g b a c
  | 0,a,c,h => by
    unfold climbs at h
    split at h
    · rename_i e
      subst e
      simp at h; subst h
      exact isC_one
    · cases h
  | k + 1,a,c,h => by
    unfold climbs at h
    split at h
    · rename_i e
      subst e
      simp at h; subst h
      exact isC_one
    · rw [List.mem_flatMap] at h
      obtain ⟨d,hd,h⟩:=h
      obtain ⟨c',h2,rfl⟩:=List.mem_map.mp h
      exact isC_cons (mem_climbs (N:=N) h2) hd
def numOf (g : Nat → List Nat) (W : Nat → Nat) : List Nat → Nat
  | x :: y :: r => ((((g x).filter fun d => decide (d < y)).map W).sum) + numOf g W (y :: r)
  | _ => 0
theorem flat_at {β : Type} {W : Nat → Nat} {f : Nat → List β} {y j : Nat} : ∀ {l : List Nat},l.Pairwise (· < ·) → (∀ d ∈ l,(f d).length = W d) → y ∈ l → j < W y → (l.flatMap f)[(((l.filter fun d => decide (d < y)).map W).sum) + j]? = (f y)[j]?
  | [],_,_,h,_ => nomatch h
  | d :: l,hp,hf,hy,hj => by
    rw [List.pairwise_cons] at hp
    rw [List.flatMap_cons]
    rcases List.mem_cons.mp hy with rfl | hy2
    · have e : (y :: l).filter (fun d => decide (d < y)) = []:=by
        rw [List.filter_eq_nil_iff]
        intro x hx
        rcases List.mem_cons.mp hx with rfl | hx
        · simp
        · have:=hp.1 x hx; simp; omega
      rw [e,List.map_nil,List.sum_nil,Nat.zero_add,List.getElem?_append_left (by rw [hf y List.mem_cons_self]; exact hj)]
    · have hd : d < y:=hp.1 y hy2
      have e : (d :: l).filter (fun d => decide (d < y)) = d :: l.filter (fun d => decide (d < y)):=by rw [List.filter_cons_of_pos (by simpa using hd)]
      rw [e,List.map_cons,List.sum_cons,List.getElem?_append_right (by rw [hf d List.mem_cons_self]; omega),hf d List.mem_cons_self]
      rw [show W d + ((l.filter fun d => decide (d < y)).map W).sum + j - W d = ((l.filter fun d => decide (d < y)).map W).sum + j by omega]
      exact flat_at hp.2 (fun x hx => hf x (List.mem_cons_of_mem _ hx)) hy2 hj
theorem numOf_spec (hu : ∀ a d,d ∈ g a → u d < u a) (hs : ∀ a,(g a).Pairwise (· < ·)) {N : Nat} (hN : ∀ a,u a ≤ N) (hb : g b = [] ∨ True) : ∀ {c : List Nat} {a : Nat},IsC g b a c → (∀ x ∈ c.dropLast,x ≠ b) → (climbs g b N a)[numOf g (W g b N) c]? = some c ∧ numOf g (W g b N) c < W g b N a
  | [],a,h,_ => by cases h.hd
  | [x],a,h,_ => by
    have e1:=h.hd
    have e2:=h.last
    cases e1
    have e2 : x = b:=by simpa using e2
    subst e2
    rw [W_end,climbs_eq hu (hN x),if_pos rfl]
    exact ⟨rfl,by unfold numOf; omega⟩
  | x :: y :: r,a,h,hne => by
    have e1:=h.hd
    cases e1
    obtain ⟨ht,hy⟩:=isC_tail h
    have hxb : x ≠ b:=hne x (by simp)
    obtain ⟨i1,i2⟩:=numOf_spec hu hs hN hb ht fun z hz => hne z (by rw [List.dropLast_cons_cons]; exact List.mem_cons_of_mem _ hz)
    have key:=flat_at (W:=W g b N) (f:=fun d => (climbs g b N d).map (x :: ·)) (hs x) (fun d _ => by rw [List.length_map]; rfl) hy i2
    have e : numOf g (W g b N) (x :: y :: r) = (((g x).filter fun d => decide (d < y)).map (W g b N)).sum + numOf g (W g b N) (y :: r):=rfl
    have hget : (climbs g b N x)[numOf g (W g b N) (x :: y :: r)]? = some (x :: y :: r):=by
      rw [climbs_eq hu (hN x),if_neg hxb,e,key,List.getElem?_map,i1]
      rfl
    exact ⟨hget,(List.getElem?_eq_some_iff.mp hget).1⟩
theorem climbs_ne {k : Nat} (hu : ∀ a d,d ∈ g a → u d < u a) : ∀ {c : List Nat} {a : Nat},IsC g b a c → u b ≤ u a ∧ ∀ x ∈ c.dropLast,x ≠ b
  | [],a,h => by cases h.hd
  | [x],a,h => by
    have e1:=h.hd
    have e2:=h.last
    cases e1
    have e2 : x = b:=by simpa using e2
    subst e2
    exact ⟨Nat.le_refl _,fun z hz => by simp at hz⟩
  | x :: y :: r,a,h => by
    have e1:=h.hd
    cases e1
    obtain ⟨ht,hy⟩:=isC_tail h
    obtain ⟨i1,i2⟩:=climbs_ne (k:=k) hu ht
    have:=hu x y hy
    refine ⟨by omega,fun z hz => ?_⟩
    rw [List.dropLast_cons_cons] at hz
    rcases List.mem_cons.mp hz with rfl | hz
    · intro e; rw [e] at this; omega
    · exact i2 z hz
theorem mem_iff (hu : ∀ a d,d ∈ g a → u d < u a) (hs : ∀ a,(g a).Pairwise (· < ·)) {N : Nat} (hN : ∀ a,u a ≤ N) {a : Nat} {c : List Nat} : c ∈ climbs g b N a ↔ IsC g b a c :=
  ⟨mem_climbs (N:=0),fun h => List.mem_of_getElem? (numOf_spec hu hs hN (.inr trivial) h (climbs_ne (k:=0) hu h).2).1⟩
end
theorem sum_sub {W : Nat → Nat} : ∀ {l1 l2 : List Nat},l1.Nodup → (∀ x ∈ l1,x ∈ l2) → (l1.map W).sum ≤ (l2.map W).sum
  | [],_,_,_ => Nat.zero_le _
  | x :: l1,l2,nd,h => by
    obtain ⟨n1,n2⟩:=List.nodup_cons.mp nd
    have p:=List.perm_cons_erase (h x List.mem_cons_self)
    have e : (l2.map W).sum = W x + ((l2.erase x).map W).sum:=by
      rw [(p.map W).sum_nat,List.map_cons,List.sum_cons]
    rw [e,List.map_cons,List.sum_cons]
    have:=sum_sub (W:=W) (l1:=l1) (l2:=l2.erase x) n2 fun y hy => (List.mem_erase_of_ne (by rintro rfl; exact n1 hy)).mpr (h y (List.mem_cons_of_mem _ hy))
    omega
theorem ahead {g : Nat → List Nat} {u : Nat → Nat} (hu : ∀ a d,d ∈ g a → u d < u a) {hs : List Nat} (hp : hs.Pairwise fun a b => u a ≤ u b) {i x d : Nat} (hx : hs[i]? = some x) (hd : d ∈ g x) (hm : d ∈ hs) : d ∈ hs.take i:=by
  obtain ⟨j,hj,e⟩:=List.getElem_of_mem hm
  obtain ⟨hi,ex⟩:=List.getElem?_eq_some_iff.mp hx
  have hlt:=hu x d hd
  have : j < i:=by
    apply Decidable.byContradiction
    intro z
    rcases Nat.lt_or_ge i j with h | h
    · have:=List.pairwise_iff_getElem.mp hp i j hi hj h
      rw [ex,e] at this
      omega
    · obtain rfl : i = j:=by omega
      rw [ex] at e
      rw [e] at hlt
      omega
  rw [List.mem_take_iff_getElem]
  exact ⟨j,by omega,e⟩
theorem W_sum {g : Nat → List Nat} {u : Nat → Nat} {b N : Nat} (hu : ∀ a d,d ∈ g a → u d < u a) (hs : ∀ a,(g a).Pairwise (· < ·)) (hN : ∀ a,u a ≤ N) {l : List Nat} (hp : l.Pairwise fun a b => u a ≤ u b) (hall : ∀ a d,d ∈ g a → d ∈ l) :
    ∀ i,i ≤ l.length → ((l.take i).map (W g b N)).sum + 1 ≤ 2 ^ i
  | 0,_ => by simp
  | i + 1,hi => by
    have ih:=W_sum hu hs hN hp hall (b:=b) i (by omega)
    have hx : l[i]? = some l[i]:=List.getElem?_eq_getElem (by omega)
    rw [List.take_add_one,hx]
    show (((l.take i ++ [l[i]]).map (W g b N)).sum) + 1 ≤ 2 ^ (i + 1)
    rw [List.map_append,List.sum_append,List.map_singleton,List.sum_singleton,Nat.pow_succ]
    have p2 : 1 ≤ 2 ^ i:=Nat.one_le_two_pow
    by_cases e : l[i] = b
    · rw [e,W_end]; omega
    · rw [W_eq hu (hN _) e]
      have:=sum_sub (W:=W g b N) (l1:=g l[i]) (l2:=l.take i) ((hs _).imp fun {a b} h => by omega) fun d hd => ahead hu hp hx hd (hall _ _ hd)
      omega
theorem W_le {g : Nat → List Nat} {u : Nat → Nat} {b N n : Nat} (hu : ∀ a d,d ∈ g a → u d < u a) (hs : ∀ a,(g a).Pairwise (· < ·)) (hN : ∀ a,u a ≤ N) (hall : ∀ a d,d ∈ g a → d < n) {a : Nat} (ha : a < n) : W g b N a + 1 ≤ 2 ^ n:=by
  have hp : ((List.range n).mergeSort fun a b => decide (u a ≤ u b)).Pairwise fun a b => u a ≤ u b:=by
    refine (List.pairwise_mergeSort (le:=fun a b => decide (u a ≤ u b)) (fun a b c h1 h2 => ?_) (fun a b => ?_) _).imp fun {a b} h => of_decide_eq_true h
    · exact decide_eq_true (Nat.le_trans (of_decide_eq_true h1) (of_decide_eq_true h2))
    · rcases Nat.le_total (u a) (u b) with h | h <;> simp [h]
  have pm:=List.mergeSort_perm (List.range n) fun a b => decide (u a ≤ u b)
  have hl : ((List.range n).mergeSort fun a b => decide (u a ≤ u b)).length = n:=by rw [pm.length_eq,List.length_range]
  have key:=W_sum (b:=b) (N:=N) hu hs hN hp (fun a d h => pm.mem_iff.mpr (List.mem_range.mpr (hall a d h))) n (by omega)
  rw [List.take_of_length_le (by omega)] at key
  have:=sum_sub (W:=W g b N) (l1:=[a]) (l2:=(List.range n).mergeSort fun a b => decide (u a ≤ u b)) (by simp) fun x hx => by
    have : x = a:=by simpa using hx
    subst this
    exact pm.mem_iff.mpr (List.mem_range.mpr ha)
  rw [List.map_singleton,List.sum_singleton] at this
  omega
end Cl
namespace My
open PySem PySem.Spec PyProof.Rows L2
def gA (n : Nat) (R : Nat → Nat → Bool) (a : Nat) : List Nat:=if a < n then abv n R a else []
theorem gA_of {n : Nat} {R : Nat → Nat → Bool} {a : Nat} (h : a < n) : gA n R a = abv n R a:=by unfold gA; rw [if_pos h]
theorem mem_gA {n : Nat} {R : Nat → Nat → Bool} {a d : Nat} : d ∈ gA n R a ↔ a < n ∧ d < n ∧ stepR n R a d = true:=by
  unfold gA
  by_cases h : a < n
  · rw [if_pos h]
    unfold abv
    rw [List.mem_filter,List.mem_range]
    exact ⟨fun z => ⟨h,z⟩,fun z => z.2⟩
  · rw [if_neg h]
    exact ⟨fun z => (nomatch z),fun z => absurd z.1 h⟩
theorem gA_sorted (n : Nat) (R : Nat → Nat → Bool) (a : Nat) : (gA n R a).Pairwise (· < ·):=by
  unfold gA
  split
  · exact List.pairwise_lt_range.filter _
  · exact List.Pairwise.nil
theorem countP_lt {p q : Nat → Bool} {x : Nat} : ∀ {l : List Nat},x ∈ l → (∀ y ∈ l,p y = true → q y = true) → p x = false → q x = true → l.countP p < l.countP q
  | [],h,_,_,_ => nomatch h
  | y :: l,h,hpq,h1,h2 => by
    rw [List.countP_cons,List.countP_cons]
    have le : l.countP p ≤ l.countP q:=List.countP_mono_left fun z hz => hpq z (List.mem_cons_of_mem _ hz)
    by_cases e : x = y
    · subst e
      rw [h1,h2]
      simp
      omega
    · have hx : x ∈ l:=by
        rcases List.mem_cons.mp h with z | z
        · exact absurd z e
        · exact z
      have:=countP_lt hx (fun z hz => hpq z (List.mem_cons_of_mem _ hz)) h1 h2
      have hy:=hpq y List.mem_cons_self
      cases hp : p y with
      | false => simp; omega
      | true => rw [hy hp]; simp; omega
theorem upC_eq (n : Nat) (R : Nat → Nat → Bool) (a : Nat) : upC n R a = (List.range n).countP (R a):=by
  unfold upC
  rw [List.count,List.countP_map]
  exact List.countP_congr fun x _ => by simp
theorem upC_le (n : Nat) (R : Nat → Nat → Bool) (a : Nat) : upC n R a ≤ n:=by
  rw [upC_eq]
  have:=List.countP_le_length (p:=R a) (l:=List.range n)
  rw [List.length_range] at this
  exact this
theorem up_lt {n : Nat} {R : Nat → Nat → Bool} (G : Good n R) : ∀ a d,d ∈ gA n R a → upC n R d < upC n R a:=fun a d h => by
  obtain ⟨ha,hd,hs⟩:=mem_gA.mp h
  have hb:=stepR_bel hs
  unfold belR at hb
  rw [Bool.and_eq_true,Bool.not_eq_true',decide_eq_false_iff_not] at hb
  rw [upC_eq,upC_eq]
  refine countP_lt (x:=a) (List.mem_range.mpr ha) (fun y hy h => G.trans ha hd (List.mem_range.mp hy) hb.2 h) ?_ (G.refl a ha)
  cases e : R d a with
  | false => rfl
  | true => exact absurd (G.anti a d ha hd hb.2 e) hb.1
def climbsR (n : Nat) (R : Nat → Nat → Bool) (b a : Nat) : List (List Nat):=Cl.climbs (gA n R) b n a
def waysR (n : Nat) (R : Nat → Nat → Bool) (b a : Nat) : Nat:=Cl.W (gA n R) b n a
section
variable {n : Nat} {R : Nat → Nat → Bool}
theorem ways_le (G : Good n R) {b a : Nat} (ha : a < n) : waysR n R b a + 1 ≤ 2 ^ n:=Cl.W_le (up_lt G) (gA_sorted n R) (upC_le n R) (fun a d h => (mem_gA.mp h).2.1) ha
theorem ways_small (G : Good n R) (hn : n ≤ 24) {b a : Nat} (ha : a < n) : waysR n R b a < 16777216:=by
  have h1:=ways_le G (b:=b) ha
  have h2 : 2 ^ n ≤ 2 ^ 24:=Nat.pow_le_pow_right (by decide) hn
  have h3 : (2 : Nat) ^ 24 = 16777216:=by decide
  omega
theorem mem_climbsR (G : Good n R) {b a : Nat} {c : List Nat} : c ∈ climbsR n R b a ↔ Cl.IsC (gA n R) b a c:=Cl.mem_iff (up_lt G) (gA_sorted n R) (upC_le n R)
end
def inB (n : Nat) (zs : List Int) : Bool:=zs.all fun z => decide (0 ≤ z ∧ z < (n : Int))
def adjB (p : Nat → Nat → Bool) (zs : List Int) : Bool:=(List.range (zs.length - 1)).all fun i => p (zs.getD i 0).toNat (zs.getD (i + 1) 0).toNat
def chainB (n : Nat) (R : Nat → Nat → Bool) (zs : List Int) : Bool := !decide (zs.length = 0) && (inB n zs && adjB (belR R) zs)
def climbB (n : Nat) (R : Nat → Nat → Bool) (zs : List Int) : Bool:=chainB n R zs && adjB (stepR n R) zs
theorem getD_mapI {zs : List Int} {j : Nat} (h : j < zs.length) : (zs.map V.int).getD j .non = .int (zs.getD j 0):=by
  rw [List.getD_eq_getElem?_getD,List.getD_eq_getElem?_getD,List.getElem?_map,List.getElem?_eq_getElem h]
  rfl
theorem getD_drop1 {zs : List Int} {j : Nat} : (zs.drop 1).getD j 0 = zs.getD (j + 1) 0:=by
  rw [List.getD_eq_getElem?_getD,List.getD_eq_getElem?_getD,List.getElem?_drop,Nat.add_comm]
theorem inB_get {n : Nat} {zs : List Int} (h : inB n zs = true) {i : Nat} (hi : i < zs.length) : ∃ k : Nat,zs.getD i 0 = (k : Int) ∧ k < n:=by
  unfold inB at h
  rw [List.all_eq_true] at h
  have:=h (zs.getD i 0) (by rw [List.getD_eq_getElem?_getD,List.getElem?_eq_getElem hi]; exact List.getElem_mem hi)
  rw [decide_eq_true_iff] at this
  exact ⟨(zs.getD i 0).toNat,by omega,by omega⟩
theorem all_map_range (n : Nat) (f : Nat → Bool) : ((List.range n).map f).all id = (List.range n).all f:=by
  rw [List.all_map]
  rfl
theorem all_list {α : Type} (d : α) (l : List α) (f : α → Bool) : (List.range l.length).all (fun i => f (l.getD i d)) = l.all f:=by
  rw [Bool.eq_iff_iff,List.all_eq_true,List.all_eq_true]
  constructor
  · intro h x hx
    obtain ⟨i,hi,e⟩:=List.getElem_of_mem hx
    have:=h i (by simpa using hi)
    rw [List.getD_eq_getElem?_getD,List.getElem?_eq_getElem hi] at this
    rw [← e]
    exact this
  · intro h i hi
    have hi' : i < l.length:=by simpa using hi
    rw [List.getD_eq_getElem?_getD,List.getElem?_eq_getElem hi']
    exact h _ (List.getElem_mem hi')
section
variable {P : Program} {w : World} {K : PySem.W.Frag} {mg : Str → Option Value} {base : Heap} {f : Addr} {fd : FuncData}
abbrev s_is_chain : Stmt:=top 32
theorem sc_is_chain : FnScope ["order","things"] ["order","things"] (defScope s_is_chain):=⟨rfl,rfl,rfl,by decide +kernel,rfl,by decide +kernel,by decide +kernel⟩
def sp_is_chain (K : PySem.W.Frag) (C : Addr) : Sp:=fun vs H Q _ => ∃ (p t n : Nat) (R : Nat → Nat → Bool) (zs : List Int),vs = [.ref p,.ref t] ∧ OrdAt C H p n R ∧ n ≤ 24 ∧ SqL K H t (zs.map V.int) ∧ zs.length ≤ 1000 ∧ ∀ H',Same H H' → Q (.bl (chainB n R zs)) H'
theorem ok_is_chain {C : Addr} (F : Fun K "is_chain" "is_chain" s_is_chain f fd) (T : Txt mg) (TC : ClsOk K C) (c_is_thing : Cal P w K mg base "is_thing" ["count","number"] 2 sp_is_thing) (c_is_below : Cal P w K mg base "is_below" ["order","a","b"] 1 (sp_is_below C)) :
    FnOk P w K mg base CX0 3 f fd ["order","things"] (sp_is_chain K C):=by
  refine F.ok sc_is_chain (fun vs H Q E h => ?_) (fun cdv A outer s H vs Q E hr h => ?_)
  · obtain ⟨p,t,n,R,zs,rfl,_⟩:=h
    rfl
  · obtain ⟨p,t,n,R,zs,rfl,hO,hn,hT,hzl,kk⟩:=h
    have nd:=sc_is_chain.nd
    obtain ⟨dx,vp,vr,vj,vm,o1,_⟩:=id hO
    refine ⟨_,(pss_cons (ps_if (pt_cmpR op_eq (pe_callB (call_lenK (K:=K) rfl) rfl T.len PySem.boot_len (pa_cons (pv 1) pa_nil)) pe_int (nomark _)) (pss_one (ps_ret pe_bl)) pss_nil)
      (pss_cons (ps_if (pt_not (pt_val (pe_callB (call_allK (K:=K) rfl rfl) rfl T.all boot_all (pa_cons (pe_comp (own:=["thing"]) (fr:=[("order", 0)]) rfl (blkOk (defScope s_is_chain) ["order","things"] rfl rfl (by decide +kernel)) (pi_listK (K:=K) rfl (pv 1)) (fun _ _ _ _ => ⟨(pg_name (i:=0) (by decide +kernel : (["thing","order"] : List Str).Nodup) rfl (Or.inl rfl)),pif_nil,(pe_callC c_is_thing hr rfl (pa_cons (pe_fldK (K:=K) rfl (pv 1) rfl) (pa_cons (pv 0) pa_nil)))⟩)) pa_nil)))) (pss_one (ps_ret pe_bl)) pss_nil)
      (pss_one (ps_ret (pe_callB (call_allK (K:=K) rfl rfl) rfl T.all boot_all (pa_cons (pe_comp (own:=["a","b"]) (fr:=[("order", 0)]) rfl (blkOk (defScope s_is_chain) ["order","things"] rfl rfl (by decide +kernel)) (pi_zipK (K:=K) true true rfl rfl T.zip (pa_cons (pv 1) (pa_cons (pe_slice (sl_listK (K:=K) rfl) (pv 1) (po_some pe_int) po_none) pa_nil))) (fun _ _ _ _ => ⟨(pg_pair (K:=K) (i:=0) (j:=1) rfl rfl (by decide +kernel : (["a","b","order"] : List Str).Nodup) rfl rfl rfl rfl),pif_nil,(pe_callC c_is_below hr rfl (pa_cons (pv 2) (pa_cons (pv 0) (pa_cons (pv 1) pa_nil (star_of (fun _ _ h => nomatch h))) (star_of (fun _ _ h => nomatch h))) (star_of (fun _ _ h => nomatch h))))⟩)) pa_nil)))))),?_⟩
    refine ⟨_,rfl,t,_,rfl,.inl hT,rfl,_,rfl,?_⟩
    rw [List.length_map]
    refine ite2 (fun h0 => ?_) (fun h0 => ?_)
    · have:=kk _ (Same.refl _)
      unfold chainB at this
      have e : zs.length = 0:=by
        have h1:=of_decide_eq_true h0
        injection h1 with h1
        omega
      rw [e] at this
      exact this
    · have e0 : decide (zs.length = 0) = false:=by
        refine decide_eq_false fun z => h0 ?_
        rw [z]
        exact decide_eq_true rfl
      have kk : ∀ H',Same H H' → Q (.bl (inB n zs && adjB (belR R) zs)) H':=fun H' hs => by
        have:=kk H' hs
        unfold chainB at this
        rw [e0,Bool.not_false,Bool.true_and] at this
        exact this
      refine ⟨_,rfl,t,rfl,⟨_,hT⟩,fun D hD => comp_all (fun j => .bl (decide (0 ≤ zs.getD j 0 ∧ zs.getD j 0 < (n : Int)))) (src_list hT) hD (by rw [List.length_map]; exact slk (by omega)) (fun j H3 Kt hj hs hk => ?_) (fun H3 hs hl => ?_)⟩
      · rw [List.length_map] at hj
        have eg:=getD_mapI hj
        refine ⟨_,rfl,p,C,dx,_,_,rfl,hs _ _ o1,TC.cl,TC.nC,flds_count' _ _ _ _ _,_,rfl,⟨(n : Int),_,by rw [eg]; rfl⟩,fun v H4 s4 hv => ?_⟩
        rw [hv (n : Int) _ (by rw [eg]; rfl)]
        exact hk _ s4
      · rw [List.length_map] at hl
        have hl3 : H3 D = some (.lst (((List.range zs.length).map fun j => decide (0 ≤ zs.getD j 0 ∧ zs.getD j 0 < (n : Int))).map V.bl)):=by rw [hl,List.map_map]; rfl
        refine ⟨D,_,rfl,SqL.of hl3,_,rfl,?_⟩
        rw [all_map_range,all_list (0 : Int) zs fun z => decide (0 ≤ z ∧ z < (n : Int))]
        show if (!inB n zs) = true then _ else _
        cases hin : inB n zs with
        | false =>
          refine iteT ?_
          have:=kk _ hs
          rw [hin,Bool.false_and] at this
          exact this
        | true =>
          refine iteF ?_
          have hT3:=hs.seq hT
          refine ⟨_,rfl,_,rfl,_,rfl,t,_,rfl,hT3,fun q hq => ?_⟩
          rw [cut1,← List.map_drop]
          refine ⟨t,q,zs.map V.int,(zs.drop 1).map V.int,rfl,(Same.put hq).seq hT3,SqL.of upd_same,fun D2 hD2 => comp_all (fun j => .bl (belR R (zs.getD j 0).toNat (zs.getD (j + 1) 0).toNat)) (src_zip (n:=zs.length - 1) (c1:=true) (c2:=true) ((Same.put hq).seq hT3) (SqL.of upd_same) (by simp)) hD2 (slk (by omega)) (fun j H4 Kt hj hs4 hk => ?_) (fun H4 hs4 hl4 => ?_)⟩
          · obtain ⟨a,ea,ha⟩:=inB_get hin (show j < zs.length by omega)
            obtain ⟨b,eb,hb⟩:=inB_get hin (show j + 1 < zs.length by omega)
            have e1 : (zs.map V.int).getD j .non = .int (a : Int):=by rw [getD_mapI (by omega),ea]
            have e2 : ((zs.drop 1).map V.int).getD j .non = .int (b : Int):=by rw [getD_mapI (by rw [List.length_drop]; omega),getD_drop1,eb]
            have hO4:=hO.same' ((hs.trans (Same.put hq)).trans hs4)
            refine ⟨_,rfl,_,rfl,_,rfl,p,n,a,b,R,by rw [e1,e2]; rfl,hO4,ha,hb,fun H5 s5 => ?_⟩
            have:=hk _ s5
            rw [ea,eb] at this
            exact this
          · have hl5 : H4 D2 = some (.lst (((List.range (zs.length - 1)).map fun j => belR R (zs.getD j 0).toNat (zs.getD (j + 1) 0).toNat).map V.bl)):=by rw [hl4,List.map_map]; rfl
            refine ⟨D2,_,rfl,SqL.of hl5,?_⟩
            rw [all_map_range]
            have:=kk _ ((hs.trans (Same.put hq)).trans hs4)
            rw [hin,Bool.true_and] at this
            exact this
abbrev s_is_climb : Stmt:=top 33
theorem sc_is_climb : FnScope ["order","things"] ["order","things"] (defScope s_is_climb):=⟨rfl,rfl,rfl,by decide +kernel,rfl,by decide +kernel,by decide +kernel⟩
def sp_is_climb (K : PySem.W.Frag) (C : Addr) : Sp:=fun vs H Q _ => ∃ (p t n : Nat) (R : Nat → Nat → Bool) (zs : List Int),vs = [.ref p,.ref t] ∧ OrdAt C H p n R ∧ n ≤ 24 ∧ SqL K H t (zs.map V.int) ∧ zs.length ≤ 1000 ∧ ∀ H',Same H H' → Q (.bl (climbB n R zs)) H'
theorem ok_is_climb {C : Addr} (F : Fun K "is_climb" "is_climb" s_is_climb f fd) (T : Txt mg) (TC : ClsOk K C) (c_is_chain : Cal P w K mg base "is_chain" ["order","things"] 3 (sp_is_chain K C)) (c_is_step : Cal P w K mg base "is_step" ["order","a","b"] 2 (sp_is_step C)) :
    FnOk P w K mg base CX0 4 f fd ["order","things"] (sp_is_climb K C):=by
  refine F.ok sc_is_climb (fun vs H Q E h => ?_) (fun cdv A outer s H vs Q E hr h => ?_)
  · obtain ⟨p,t,n,R,zs,rfl,_⟩:=h
    rfl
  · obtain ⟨p,t,n,R,zs,rfl,hO,hn,hT,hzl,kk⟩:=h
    have nd:=sc_is_climb.nd
    refine ⟨_,(pss_cons (ps_if (pt_not (pt_val (pe_callC c_is_chain hr rfl (pa_cons (pv 0) (pa_cons (pv 1) pa_nil))))) (pss_one (ps_ret pe_bl)) pss_nil)
      (pss_one (ps_ret (pe_callB (call_allK (K:=K) rfl rfl) rfl T.all boot_all (pa_cons (pe_comp (own:=["a","b"]) (fr:=[("order", 0)]) rfl (blkOk (defScope s_is_climb) ["order","things"] rfl rfl (by decide +kernel)) (pi_zipK (K:=K) true true rfl rfl T.zip (pa_cons (pv 1) (pa_cons (pe_slice (sl_listK (K:=K) rfl) (pv 1) (po_some pe_int) po_none) pa_nil))) (fun _ _ _ _ => ⟨(pg_pair (K:=K) (i:=0) (j:=1) rfl rfl (by decide +kernel : (["a","b","order"] : List Str).Nodup) rfl rfl rfl rfl),pif_nil,(pe_callC c_is_step hr rfl (pa_cons (pv 2) (pa_cons (pv 0) (pa_cons (pv 1) pa_nil (star_of (fun _ _ h => nomatch h))) (star_of (fun _ _ h => nomatch h))) (star_of (fun _ _ h => nomatch h))))⟩)) pa_nil))))),?_⟩
    refine ⟨_,rfl,_,rfl,p,t,n,R,zs,rfl,hO,hn,hT,hzl,fun H3 hs => ⟨_,rfl,?_⟩⟩
    unfold climbB at kk
    cases hc : chainB n R zs with
    | false =>
      refine iteT ?_
      have:=kk _ hs
      rw [hc,Bool.false_and] at this
      exact this
    | true =>
      refine iteF ?_
      have hin : inB n zs = true:=by
        unfold chainB at hc
        simp only [Bool.and_eq_true] at hc
        exact hc.2.1
      have hT3:=hs.seq hT
      refine ⟨_,rfl,_,rfl,_,rfl,t,_,rfl,hT3,fun q hq => ?_⟩
      rw [cut1,← List.map_drop]
      refine ⟨t,q,zs.map V.int,(zs.drop 1).map V.int,rfl,(Same.put hq).seq hT3,SqL.of upd_same,fun D2 hD2 => comp_all (fun j => .bl (stepR n R (zs.getD j 0).toNat (zs.getD (j + 1) 0).toNat)) (src_zip (n:=zs.length - 1) (c1:=true) (c2:=true) ((Same.put hq).seq hT3) (SqL.of upd_same) (by simp)) hD2 (slk (by omega)) (fun j H4 Kt hj hs4 hk => ?_) (fun H4 hs4 hl4 => ?_)⟩
      · obtain ⟨a,ea,ha⟩:=inB_get hin (show j < zs.length by omega)
        obtain ⟨b,eb,hb⟩:=inB_get hin (show j + 1 < zs.length by omega)
        have e1 : (zs.map V.int).getD j .non = .int (a : Int):=by rw [getD_mapI (by omega),ea]
        have e2 : ((zs.drop 1).map V.int).getD j .non = .int (b : Int):=by rw [getD_mapI (by rw [List.length_drop]; omega),getD_drop1,eb]
        have hO4:=hO.same' ((hs.trans (Same.put hq)).trans hs4)
        refine ⟨_,rfl,_,rfl,_,rfl,p,n,a,b,R,by rw [e1,e2]; rfl,hO4,hn,ha,hb,fun H5 s5 => ?_⟩
        have:=hk _ s5
        rw [ea,eb] at this
        exact this
      · have hl5 : H4 D2 = some (.lst (((List.range (zs.length - 1)).map fun j => stepR n R (zs.getD j 0).toNat (zs.getD (j + 1) 0).toNat).map V.bl)):=by rw [hl4,List.map_map]; rfl
        refine ⟨D2,_,rfl,SqL.of hl5,?_⟩
        rw [all_map_range]
        have:=kk _ ((hs.trans (Same.put hq)).trans hs4)
        rw [hc,Bool.true_and] at this
        exact this
end
theorem idx_cast {M : List Nat} {x : Nat} (h : x ∈ M) : (M.map fun x : Nat => (x : Int)).idxOf (x : Int) < M.length ∧ M.getD ((M.map fun x : Nat => (x : Int)).idxOf (x : Int)) 0 = x:=by
  have hm : (x : Int) ∈ M.map fun x : Nat => (x : Int):=List.mem_map.mpr ⟨x,h,rfl⟩
  have hj:=List.idxOf_lt_length_iff.mpr hm
  have e:=List.getElem_idxOf hj
  rw [List.getElem_map] at e
  have hj' : (M.map fun x : Nat => (x : Int)).idxOf (x : Int) < M.length:=by simpa using hj
  refine ⟨hj',?_⟩
  rw [List.getD_eq_getElem?_getD,List.getElem?_eq_getElem hj']
  exact Int.ofNat.inj e
theorem and_m1 (m : Nat) : Builtin.bitAnd (-1) (m : Int) = (m : Int):=by
  rw [bitAnd_np (by decide) (by omega)]
  have : (Builtin.bitNot (-1)).toNat = 0:=by decide
  rw [this]
  simp
theorem sub_dec (x y : Nat) : decide (V.int (Builtin.bitAnd (x : Int) (y : Int)) = nV x) = decide (Ev.Sub x y):=by
  rw [andN]
  apply decide_eq_decide.mpr
  unfold Ev.Sub
  constructor
  · intro h; injection h with h; omega
  · intro h; rw [h]
theorem sub_dec' (x y : Nat) : decide (V.int (Builtin.bitAnd (y : Int) (x : Int)) = nV x) = decide (Ev.Sub x y):=by
  rw [bitAnd_comm]
  exact sub_dec x y
def accV : Option Nat → V
  | none => .int (-1)
  | some m => nV m
def joinStep (A B : Nat) (o : Option Nat) (m : Nat) : Option Nat:=if decide (Ev.Sub A m) && decide (Ev.Sub B m) then some (match o with | none => m | some x => x &&& m) else o
theorem accV_and (o : Option Nat) (m : Nat) : ∃ i : Int,accV o = .int i ∧ V.int (Builtin.bitAnd i (m : Int)) = accV (some (match o with | none => m | some x => x &&& m)):=by
  cases o with
  | none => exact ⟨-1,rfl,by rw [and_m1]; rfl⟩
  | some x => exact ⟨x,rfl,by rw [andN]; rfl⟩
theorem join_fold (A B : Nat) : ∀ (l : List Nat) (o : Option Nat),l.foldl (joinStep A B) o = match o,l.filter (fun m => decide (Ev.Sub A m) && decide (Ev.Sub B m)) with
    | o,[] => o
    | none,s :: S => some (S.foldl (· &&& ·) s)
    | some x,s :: S => some ((s :: S).foldl (· &&& ·) x)
  | [],o => by cases o <;> rfl
  | m :: l,o => by
    rw [List.foldl_cons,join_fold A B l]
    unfold joinStep
    by_cases h : (decide (Ev.Sub A m) && decide (Ev.Sub B m)) = true
    · rw [if_pos h,List.filter_cons,if_pos h]
      cases o with
      | none => cases l.filter (fun m => decide (Ev.Sub A m) && decide (Ev.Sub B m)) <;> rfl
      | some x => cases l.filter (fun m => decide (Ev.Sub A m) && decide (Ev.Sub B m)) <;> rfl
    · rw [if_neg h,List.filter_cons,if_neg h]
theorem join_all {M : List Nat} (L : Ev.Lat M) {a b : Nat} (ha : a < M.length) (hb : b < M.length) : ∃ j,M.foldl (joinStep (M.getD a 0) (M.getD b 0)) none = some j ∧ j ∈ M ∧ Ev.Sub (M.getD a 0) j ∧ Ev.Sub (M.getD b 0) j ∧ ∀ x ∈ M,Ev.Sub (M.getD a 0) x → Ev.Sub (M.getD b 0) x → Ev.Sub j x:=by
  rw [join_fold]
  have hin : ∀ x,x ∈ M.filter (fun m => decide (Ev.Sub (M.getD a 0) m) && decide (Ev.Sub (M.getD b 0) m)) ↔ x ∈ M ∧ Ev.Sub (M.getD a 0) x ∧ Ev.Sub (M.getD b 0) x:=fun x => by
    rw [List.mem_filter]
    simp
  cases e : M.filter (fun m => decide (Ev.Sub (M.getD a 0) m) && decide (Ev.Sub (M.getD b 0) m)) with
  | nil =>
    obtain ⟨t,ht,htop⟩:=L.top
    have:=(hin t).mpr ⟨ht,htop _ (Ev.getD_mem ha),htop _ (Ev.getD_mem hb)⟩
    rw [e] at this
    cases this
  | cons s S =>
    rw [e] at hin
    have hs:=(hin s).mp List.mem_cons_self
    obtain ⟨h1,h2,h3,h4⟩:=Ev.foldAnd L.meet S s (fun x hx => ((hin x).mp (List.mem_cons_of_mem _ hx)).1) hs.1
    refine ⟨_,rfl,h1,h4 _ hs.2.1 fun x hx => ((hin x).mp (List.mem_cons_of_mem _ hx)).2.1,h4 _ hs.2.2 fun x hx => ((hin x).mp (List.mem_cons_of_mem _ hx)).2.2,fun x hx k1 k2 => ?_⟩
    rcases List.mem_cons.mp ((hin x).mpr ⟨hx,k1,k2⟩) with z | z
    · rw [z]; exact h2
    · exact h3 x z
section
variable {P : Program} {w : World} {K : PySem.W.Frag} {mg : Str → Option Value} {base : Heap} {f : Addr} {fd : FuncData}
theorem masks_ints {H : Hp} {m : Addr} {M : List Nat} (h : SqL K H m (M.map nV)) : SqL K H m ((M.map fun x : Nat => (x : Int)).map V.int):=by
  rw [List.map_map]
  exact h
abbrev s_law_meet : Stmt:=top 57
theorem sc_law_meet : FnScope ["_law_masks","_law_a","_law_b"] ["_law_masks","_law_a","_law_b"] (defScope s_law_meet):=⟨rfl,rfl,rfl,by decide +kernel,rfl,by decide +kernel,by decide +kernel⟩
def sp_meetM (K : PySem.W.Frag) : Sp:=fun vs H Q _ => ∃ (m a b : Nat) (M : List Nat),vs = [.ref m,.int a,.int b] ∧ SqL K H m (M.map nV) ∧ Ev.Lat M ∧ a < M.length ∧ b < M.length ∧ ∀ c H',Same H H' → c < M.length → (∀ x,Ev.leM M x c = (Ev.leM M x a && Ev.leM M x b)) → Q (.int (c : Nat)) H'
theorem ok_meetM (F : Fun K "_law_meet" "_law_meet" s_law_meet f fd) (T : Txt mg) : FnOk P w K mg base CX0 1 f fd ["_law_masks","_law_a","_law_b"] (sp_meetM K):=by
  refine F.ok sc_law_meet (fun vs H Q E h => ?_) (fun cdv A outer s H vs Q E hr h => ?_)
  · obtain ⟨m,a,b,M,rfl,_⟩:=h
    rfl
  · obtain ⟨m,a,b,M,rfl,hm,L,ha,hb,kk⟩:=h
    have nd:=sc_law_meet.nd
    refine ⟨_,(pss_one (ps_ret (pe_bmK (K:=K) rfl PySem.F.plainAttrs_list PySem.F.slot_list_index PySem.F.type_list_index (mt_indexK (K:=K) rfl) (pv 0) (pa_cons (pe_op op_and (pe_ix (ix_listK (K:=K) rfl) (pv 0) (pv 1) (fun _ _ => rfl)) (pe_ix (ix_listK (K:=K) rfl) (pv 0) (pv 2) (fun _ _ => rfl))) pa_nil)))),?_⟩
    have hin:=L.meet _ (Ev.getD_mem ha) _ (Ev.getD_mem hb)
    obtain ⟨h1,h2⟩:=idx_cast hin
    refine ⟨_,rfl,.inl ⟨rfl,_,hm⟩,_,rfl,_,rfl,m,_,a,_,rfl,rfl,hm,atI_nat (nV_get ha),_,rfl,_,rfl,m,_,b,_,rfl,rfl,hm,atI_nat (nV_get hb),_,_,rfl,rfl,m,_,_,rfl,rfl,masks_ints hm,?_,?_⟩
    · rw [andN]; exact List.mem_map.mpr ⟨_,hin,rfl⟩
    · rw [andN]
      refine kk _ _ (Same.refl _) h1 fun x => ?_
      rw [Bool.eq_iff_iff,Bool.and_eq_true,Ev.leM_iff,Ev.leM_iff,Ev.leM_iff,h2]
      exact Ev.Sub.and_iff
abbrev s_law_join : Stmt:=top 58
theorem sc_law_join : FnScope ["_law_masks","_law_a","_law_b","_law_least","_law_mask"] ["_law_masks","_law_a","_law_b"] (defScope s_law_join):=⟨rfl,rfl,rfl,by decide +kernel,rfl,by decide +kernel,by decide +kernel⟩
def sp_joinM (K : PySem.W.Frag) : Sp:=fun vs H Q _ => ∃ (m a b : Nat) (M : List Nat),vs = [.ref m,.int a,.int b] ∧ SqL K H m (M.map nV) ∧ Ev.Lat M ∧ a < M.length ∧ b < M.length ∧ ∀ c H',Same H H' → c < M.length → (∀ x,x < M.length → Ev.leM M c x = (Ev.leM M a x && Ev.leM M b x)) → Q (.int (c : Nat)) H'
theorem ok_joinM (F : Fun K "_law_join" "_law_join" s_law_join f fd) (T : Txt mg) : FnOk P w K mg base CX0 1 f fd ["_law_masks","_law_a","_law_b"] (sp_joinM K):=by
  refine F.ok sc_law_join (fun vs H Q E h => ?_) (fun cdv A outer s H vs Q E hr h => ?_)
  · obtain ⟨m,a,b,M,rfl,_⟩:=h
    rfl
  · obtain ⟨m,a,b,M,rfl,hm,L,ha,hb,kk⟩:=h
    have nd:=sc_law_join.nd
    refine ⟨_,(pss_cons (ps_set (i:=3) nd rfl (Or.inl rfl) (pe_un un_neg pe_int))
      (pss_cons (ps_for PassesOwn.never rfl (pi_listK (K:=K) rfl (pv 0)) (pg_name (i:=4) nd rfl (Or.inl rfl))
      (pss_one (ps_if (PW.pt (pw_and (pt_cmpR op_eq (pe_op op_and (pv 4) (pe_ix (ix_listK (K:=K) rfl) (pv 0) (pv 1) (fun _ _ => rfl))) (pe_ix (ix_listK (K:=K) rfl) (pv 0) (pv 1) (fun _ _ => rfl)) (nomark _)) (pw_and1 (pt_cmpR op_eq (pe_op op_and (pv 4) (pe_ix (ix_listK (K:=K) rfl) (pv 0) (pv 2) (fun _ _ => rfl))) (pe_ix (ix_listK (K:=K) rfl) (pv 0) (pv 2) (fun _ _ => rfl)) (nomark _))))) (pss_one (ps_set (i:=3) nd rfl (Or.inl rfl) (pe_op op_and (pv 3) (pv 4)))) pss_nil)))
      (pss_one (ps_ret (pe_bmK (K:=K) rfl PySem.F.plainAttrs_list PySem.F.slot_list_index PySem.F.type_list_index (mt_indexK (K:=K) rfl) (pv 0) (pa_cons (pv 3) pa_nil)))))),?_⟩
    obtain ⟨j,hj,h1,h2,h3,h4⟩:=join_all L ha hb
    refine ⟨1,rfl,?_⟩
    refine ⟨_,rfl,m,rfl,⟨_,hm⟩,for_list (K:=K) (a:=m) (xs:=M.map nV) (fun i σ H2 => ∃ (v4 : Option V) (o : Option Nat),σ = [some (.ref m),some (.int a),some (.int b),some (accV o),v4] ∧ Same H H2 ∧ o = (M.take i).foldl (joinStep (M.getD a 0) (M.getD b 0)) none)
      ⟨none,none,rfl,Same.refl _,rfl⟩ (fun i σ H2 _ ⟨_,_,_,s2,_⟩ => s2.seq hm) ?_ ?_⟩
    · rintro i y σ H2 hy ⟨v4,o,rfl,s2,ho⟩
      have hi : i < M.length:=by simpa using (List.getElem?_eq_some_iff.mp hy).1
      have ey : y = nV M[i]:=by
        rw [List.getElem?_map,List.getElem?_eq_getElem hi] at hy
        exact (Option.some.inj hy).symm
      subst ey
      have hm2:=s2.seq hm
      have et : (M.take (i + 1)).foldl (joinStep (M.getD a 0) (M.getD b 0)) none = joinStep (M.getD a 0) (M.getD b 0) o M[i]:=by
        rw [List.take_add_one,List.getElem?_eq_getElem hi]
        show ((M.take i) ++ [M[i]]).foldl _ _ = _
        rw [List.foldl_append,← ho]
        rfl
      have fin : ∀ o',o' = joinStep (M.getD a 0) (M.getD b 0) o M[i] → o' = (M.take (i + 1)).foldl (joinStep (M.getD a 0) (M.getD b 0)) none:=fun o' h => h.trans et.symm
      unfold joinStep at fin
      refine ⟨_,rfl,_,rfl,_,rfl,m,_,a,_,rfl,rfl,hm2,atI_nat (nV_get ha),_,_,rfl,rfl,_,rfl,_,rfl,m,_,a,_,rfl,rfl,hm2,atI_nat (nV_get ha),rfl,_,rfl,?_⟩
      rw [sub_dec']
      refine ite2 (fun h => ?_) (fun h => ?_)
      · refine ⟨_,rfl,_,rfl,_,rfl,m,_,b,_,rfl,rfl,hm2,atI_nat (nV_get hb),_,_,rfl,rfl,_,rfl,_,rfl,m,_,b,_,rfl,rfl,hm2,atI_nat (nV_get hb),rfl,_,rfl,?_⟩
        rw [sub_dec']
        refine ite2 (fun h' => ?_) (fun h' => ?_)
        · obtain ⟨z,e1,e2⟩:=accV_and o M[i]
          rw [e1]
          refine ⟨_,rfl,_,rfl,_,_,rfl,rfl,?_⟩
          rw [h,h',Bool.true_and,if_pos rfl] at fin
          exact ⟨some (nV M[i]),_,by rw [← e2]; rfl,s2,fin _ rfl⟩
        · rw [h,Bool.true_and,if_neg h'] at fin
          exact ⟨_,o,rfl,s2,fin _ rfl⟩
      · refine iteF ?_
        rw [if_neg (fun z => h ((Bool.and_eq_true _ _).mp z).1)] at fin
        exact ⟨_,o,rfl,s2,fin _ rfl⟩
    · rintro σ H2 ⟨v4,o,rfl,s2,ho⟩
      rw [List.length_map,List.take_length,hj] at ho
      subst ho
      have hm2:=s2.seq hm
      obtain ⟨k1,k2⟩:=idx_cast h1
      refine ⟨_,rfl,.inl ⟨rfl,_,hm2⟩,_,rfl,m,_,_,rfl,rfl,masks_ints hm2,List.mem_map.mpr ⟨_,h1,rfl⟩,?_⟩
      refine kk _ _ s2 k1 fun x hx => ?_
      rw [Bool.eq_iff_iff,Bool.and_eq_true,Ev.leM_iff,Ev.leM_iff,Ev.leM_iff,k2]
      exact ⟨fun h => ⟨h2.trans h,h3.trans h⟩,fun h => h4 _ (Ev.getD_mem hx) h.1 h.2⟩
end
structure ClimbN (n : Nat) (R : Nat → Nat → Bool) (cs : List Nat) : Prop where
  ne : cs.length ≠ 0
  lt : ∀ x ∈ cs,x < n
  st : ∀ i,i + 1 < cs.length → stepR n R (cs.getD i 0) (cs.getD (i + 1) 0) = true
theorem getD_cast (cs : List Nat) (i : Nat) : ((cs.map fun x : Nat => (x : Int)).getD i 0).toNat = cs.getD i 0:=by
  rw [List.getD_eq_getElem?_getD,List.getD_eq_getElem?_getD,List.getElem?_map]
  cases cs[i]? <;> simp
theorem ClimbN.climbB {n : Nat} {R : Nat → Nat → Bool} {cs : List Nat} (h : ClimbN n R cs) : climbB n R (cs.map fun x : Nat => (x : Int)) = true:=by
  unfold My.climbB chainB inB adjB
  simp only [Bool.and_eq_true,List.all_eq_true,List.length_map,Bool.not_eq_true',decide_eq_false_iff_not,getD_cast]
  have key : ∀ i,i ∈ List.range (cs.length - 1) → stepR n R (cs.getD i 0) (cs.getD (i + 1) 0) = true:=fun i hi => h.st i (by have:=List.mem_range.mp hi; omega)
  refine ⟨⟨h.ne,fun z hz => ?_,fun i hi => stepR_bel (key i hi)⟩,key⟩
  obtain ⟨x,hx,rfl⟩:=List.mem_map.mp hz
  have:=h.lt x hx
  rw [decide_eq_true_iff]
  omega
theorem ClimbN.one {n : Nat} {R : Nat → Nat → Bool} {a : Nat} (h : a < n) : ClimbN n R [a]:=⟨by simp,fun x hx => by simp at hx; omega,fun i hi => by simp at hi⟩
theorem getD_app1 {cs : List Nat} {d : Nat} {i : Nat} (h : i < cs.length) : (cs ++ [d]).getD i 0 = cs.getD i 0:=by
  rw [List.getD_eq_getElem?_getD,List.getD_eq_getElem?_getD,List.getElem?_append_left h]
theorem getD_app2 {cs : List Nat} {d : Nat} : (cs ++ [d]).getD cs.length 0 = d:=by
  rw [List.getD_eq_getElem?_getD,List.getElem?_append_right (Nat.le_refl _),Nat.sub_self]
  rfl
theorem ClimbN.snoc {n : Nat} {R : Nat → Nat → Bool} {cs : List Nat} {z d : Nat} (h : ClimbN n R (cs ++ [z])) (hd : d < n) (hs : stepR n R z d = true) : ClimbN n R ((cs ++ [z]) ++ [d]):=by
  refine ⟨by simp,fun x hx => ?_,fun i hi => ?_⟩
  · rcases List.mem_append.mp hx with hx | hx
    · exact h.lt x hx
    · simp at hx; omega
  · have hl : (cs ++ [z]).length = cs.length + 1:=by simp
    rw [List.length_append,hl] at hi
    by_cases e : i + 1 < (cs ++ [z]).length
    · rw [getD_app1 (by omega),getD_app1 e]
      exact h.st i e
    · have e2 : i = cs.length:=by simp at hi; omega
      subst e2
      rw [getD_app1 (by omega),getD_app2]
      have : (cs ++ [z] ++ [d]).getD (cs.length + 1) 0 = d:=by rw [← hl]; exact getD_app2
      rw [this]
      exact hs
theorem cover_ex {M : List Nat} (L : Ev.Lat M) {z b : Nat} (hz : z < M.length) : ∀ (k c : Nat),M.getD c 0 ≤ k → c < M.length → belR (Ev.leM M) z c = true → Ev.leM M c b = true → ∃ d,d < M.length ∧ stepR M.length (Ev.leM M) z d = true ∧ Ev.leM M d b = true:=by
  intro k
  induction k with
  | zero =>
    intro c hk hc h1 h2
    refine ⟨c,hc,?_,h2⟩
    unfold stepR
    rw [h1,Bool.true_and,Bool.not_eq_true',List.any_eq_false]
    intro t ht
    have htl : t < M.length:=by simpa using ht
    rw [Bool.and_eq_true]
    rintro ⟨g1,g2⟩
    unfold belR at g2
    rw [Bool.and_eq_true,Bool.not_eq_true',decide_eq_false_iff_not] at g2
    have:=(Ev.leM_iff.mp g2.2).le
    exact g2.1 (Ev.getD_inj L.nd htl hc (by omega))
  | succ k ih =>
    intro c hk hc h1 h2
    cases hs : stepR M.length (Ev.leM M) z c with
    | true => exact ⟨c,hc,hs,h2⟩
    | false =>
      unfold stepR at hs
      rw [h1,Bool.true_and,Bool.not_eq_false',List.any_eq_true] at hs
      obtain ⟨t,ht,g⟩:=hs
      have htl : t < M.length:=by simpa using ht
      rw [Bool.and_eq_true] at g
      obtain ⟨g1,g2⟩:=g
      unfold belR at g2
      rw [Bool.and_eq_true,Bool.not_eq_true',decide_eq_false_iff_not] at g2
      have hle:=(Ev.leM_iff.mp g2.2).le
      have hne : M.getD t 0 ≠ M.getD c 0:=fun e => g2.1 (Ev.getD_inj L.nd htl hc e)
      exact ih t (by omega) htl g1 (Ev.leM_trans g2.2 h2)
section
variable {n : Nat} {R : Nat → Nat → Bool}
theorem isC_climbN {b a : Nat} {c : List Nat} (h : Cl.IsC (gA n R) b a c) (ha : a < n) : ClimbN n R c:=by
  have st : ∀ i,i + 1 < c.length → c.getD i 0 < n ∧ c.getD (i + 1) 0 < n ∧ stepR n R (c.getD i 0) (c.getD (i + 1) 0) = true:=fun i hi => mem_gA.mp (h.go i hi)
  cases c with
  | nil => cases h.hd
  | cons x r =>
    have e:=h.hd
    cases e
    refine ⟨by simp,fun y hy => ?_,fun i hi => (st i hi).2.2⟩
    obtain ⟨i,hi,e⟩:=List.getElem_of_mem hy
    cases i with
    | zero =>
      have e' : a = y:=e
      rw [← e']; exact ha
    | succ i =>
      have:=(st i hi).2.1
      rw [List.getD_eq_getElem?_getD,List.getElem?_eq_getElem hi] at this
      rw [← e]; exact this
end
theorem isC_leG {n : Nat} {R : Nat → Nat → Bool} (G : Good n R) : ∀ {c : List Nat} {a b : Nat},Cl.IsC (gA n R) b a c → a < n → b < n ∧ R a b = true
  | [],a,b,h,_ => by cases h.hd
  | [x],a,b,h,ha => by
    have e1:=h.hd
    have e2 : x = b:=by simpa using h.last
    cases e1
    subst e2
    exact ⟨ha,G.refl _ ha⟩
  | x :: y :: r,a,b,h,ha => by
    have e:=h.hd
    cases e
    obtain ⟨h1,h2⟩:=Cl.isC_tail h
    obtain ⟨_,hy,hs⟩:=mem_gA.mp h2
    obtain ⟨q1,q2⟩:=isC_leG G h1 hy
    have hb:=stepR_bel hs
    unfold belR at hb
    rw [Bool.and_eq_true] at hb
    exact ⟨q1,G.trans ha hy q1 hb.2 q2⟩
theorem isC_len {n : Nat} {R : Nat → Nat → Bool} (G : Good n R) : ∀ {c : List Nat} {a b : Nat},Cl.IsC (gA n R) b a c → a < n → c.length ≤ upC n R a + 1
  | [],a,b,h,_ => by cases h.hd
  | [x],a,b,h,_ => by simp
  | x :: y :: r,a,b,h,ha => by
    have e:=h.hd
    cases e
    obtain ⟨h1,h2⟩:=Cl.isC_tail h
    have:=isC_len G h1 (mem_gA.mp h2).2.1
    have hu:=up_lt G _ _ h2
    rw [List.length_cons]
    omega
theorem lat_good {M : List Nat} (hM : Ev.Lat M) : Good M.length (Ev.leM M) :=
  ⟨fun a ha => Ev.leM_refl _ _,fun a b ha hb h1 h2 => Ev.leM_antisymm hM.nd ha hb h1 h2,fun a b ha hb => hM.joinEx ha hb,fun a b ha hb => let ⟨c,hc,_,h⟩:=hM.meetEx ha hb; ⟨c,hc,fun x _ => h x⟩⟩
theorem up_pos {n : Nat} {R : Nat → Nat → Bool} (G : Good n R) {a : Nat} (ha : a < n) : 0 < upC n R a:=by
  rw [upC_eq]
  exact List.countP_pos_iff.mpr ⟨a,List.mem_range.mpr ha,G.refl a ha⟩
theorem isC_len' {n : Nat} {R : Nat → Nat → Bool} (G : Good n R) : ∀ {c : List Nat} {a b : Nat},Cl.IsC (gA n R) b a c → a < n → c.length ≤ upC n R a
  | [],a,b,h,_ => by cases h.hd
  | [x],a,b,h,ha => by
    have:=up_pos G ha
    show 1 ≤ _
    omega
  | x :: y :: r,a,b,h,ha => by
    have e:=h.hd
    cases e
    obtain ⟨h1,h2⟩:=Cl.isC_tail h
    have:=isC_len' G h1 (mem_gA.mp h2).2.1
    have hu:=up_lt G _ _ h2
    rw [List.length_cons]
    omega
theorem nat_ints {n : Nat} : ∀ {zs : List Int},inB n zs = true → ∃ cs : List Nat,zs = cs.map (fun x : Nat => (x : Int)) ∧ ∀ x ∈ cs,x < n
  | [],_ => ⟨[],rfl,fun x hx => nomatch hx⟩
  | z :: zs,h => by
    unfold inB at h
    rw [List.all_cons,Bool.and_eq_true,decide_eq_true_iff] at h
    obtain ⟨cs,e,q⟩:=nat_ints (zs:=zs) h.2
    refine ⟨z.toNat :: cs,by rw [List.map_cons,← e,Int.toNat_of_nonneg h.1.1],fun x hx => ?_⟩
    rcases List.mem_cons.mp hx with rfl | hx
    · omega
    · exact q x hx
theorem isC_of {n : Nat} {R : Nat → Nat → Bool} {zs : List Int} (h : climbB n R zs = true) : ∃ (c : List Nat) (a b : Nat),zs = c.map (fun x : Nat => (x : Int)) ∧ a < n ∧ Cl.IsC (gA n R) b a c:=by
  unfold climbB chainB adjB at h
  simp only [Bool.and_eq_true,List.all_eq_true,Bool.not_eq_true',decide_eq_false_iff_not] at h
  obtain ⟨⟨h0,h1,_⟩,h2⟩:=h
  obtain ⟨c,rfl,hc⟩:=nat_ints h1
  simp only [getD_cast,List.length_map] at h0 h2
  have hmem : ∀ i,i < c.length → c.getD i 0 < n:=fun i hi => hc _ (mem_getD_nat hi)
  refine ⟨c,c.getD 0 0,c.getD (c.length - 1) 0,rfl,hmem 0 (by omega),?_,?_,fun i hi => ?_⟩
  · cases c with
    | nil => exact absurd rfl h0
    | cons x r => rfl
  · rw [List.getLast?_eq_getElem?,List.getD_eq_getElem?_getD,List.getElem?_eq_getElem (show c.length - 1 < c.length by omega)]
    rfl
  · exact mem_gA.mpr ⟨hmem i (by omega),hmem _ hi,h2 i (List.mem_range.mpr (by omega))⟩
abbrev LN (H : Hp) : List V → List (List Nat) → Prop:=Paired fun x c => ∃ b,x = V.ref b ∧ H b = some (.lst (c.map nV))
theorem LN.same {H H' : Hp} (s : Same H H') {xs : List V} {L : List (List Nat)} (h : LN H xs L) : LN H' xs L:=Paired.mapP h fun _ _ ⟨b,e,q⟩ => ⟨b,e,s _ _ q⟩
theorem LN.append {H : Hp} : ∀ {xs ys : List V} {L L' : List (List Nat)},LN H xs L → LN H ys L' → LN H (xs ++ ys) (L ++ L')
  | _,_,_,_,.nil,h => h
  | _,_,_,_,.cons r t,h => .cons r (LN.append t h)
theorem LN.get {H : Hp} : ∀ {xs : List V} {L : List (List Nat)},LN H xs L → ∀ {i : Nat},i < xs.length → ∃ c b,L[i]? = some c ∧ xs[i]? = some (.ref b) ∧ H b = some (.lst (c.map nV))
  | _,_,.nil,i,h => absurd h (by simp)
  | _,_,.cons (a:=x) (b:=c) ⟨b,e,q⟩ t,0,_ => ⟨c,b,rfl,by rw [e]; rfl,q⟩
  | _,_,.cons r t,i + 1,h => by
    obtain ⟨c,b,h1,h2,h3⟩:=LN.get t (i:=i) (by simpa using h)
    exact ⟨c,b,by simpa using h1,by simpa using h2,h3⟩
theorem big24 {n : Nat} (h : n < 16777216) : n < sizeLine:=Nat.lt_of_lt_of_le h (by decide +kernel)
end My
namespace L2
open PySem PySem.Spec PyProof.Rows
def rEqL (K : PySem.W.Frag) (n : Nat) : R2:=fun x y H Q => rEqS K true false n x y H Q ∨ ∃ a b xs ys,x = .ref a ∧ y = .ref b ∧ SqL K H a xs ∧ SqL K H b ys ∧ xs.length ≠ ys.length ∧ Q (.bl false) H
theorem op_eqL {X : Cx} {K : PySem.W.Frag} (n : Nat) (h : X.K = K) (hu : X.A.units + 1 + n < cLine) : OpR X (compareOp .Eq) (rEqL K n):=by
  intro pins s σ H x y v u Q I rx ry hh
  rcases hh with hh | hh
  · exact op_eqS true n h hu pins s σ H x y v u Q I rx ry hh
  · subst h
    obtain ⟨a,b,xs,ys,rfl,rfl,ha,hb,hl,q⟩:=hh
    cases rx
    cases ry
    obtain ⟨its,r,t1,_⟩:=I.list ha
    obtain ⟨its2,r',t2,_⟩:=I.list hb
    have : (its.toArray.size != its2.toArray.size) = true:=by
      have : its.length ≠ its2.length:=by rw [← r.length,← r'.length]; exact hl
      simpa using this
    have hh:=SeqAt.RcAt.lists_lengths (A:=X.A) (s:=s) t1.isList t2.isList this (by omega)
    exact hh _ _ _ _ ⟨.bl false,H,I,rfl,q⟩
end L2
namespace My
open PySem PySem.Spec PyProof.Rows L2
theorem nV_inj {c d : List Nat} (h : c.map nV = d.map nV) : c = d:=by
  refine (List.map_inj_right (fun x y e => ?_)).mp h
  injection e with e
  omega
theorem all_eqN {c d : List Nat} (hl : c.length = d.length) : (List.range c.length).all (fun j => decide (c.getD j 0 = d.getD j 0)) = decide (c = d):=by
  rw [Bool.eq_iff_iff,List.all_eq_true,decide_eq_true_iff]
  constructor
  · intro h
    refine List.ext_getElem hl fun i h1 h2 => ?_
    have:=of_decide_eq_true (h i (List.mem_range.mpr h1))
    rw [List.getD_eq_getElem?_getD,List.getD_eq_getElem?_getD,List.getElem?_eq_getElem h1,List.getElem?_eq_getElem h2] at this
    exact this
  · intro h i _
    rw [h]
    exact decide_eq_true rfl
theorem its_nats {K : PySem.W.Frag} {H : Hp} {c d : List Nat} (hl : c.length = d.length) (n : Nat) : Its2 K H n (c.map nV) (d.map nV) fun j => decide (c.getD j 0 = d.getD j 0):=by
  refine ⟨by rw [List.length_map,List.length_map]; exact hl,fun j x y hx hy => ?_⟩
  have h1 : j < c.length:=by have:=(List.getElem?_eq_some_iff.mp hx).1; rwa [List.length_map] at this
  rw [nV_get h1] at hx
  rw [nV_get (by omega)] at hy
  cases hx
  cases hy
  have:=EqV.int (K:=K) (H:=H) n ((c.getD j 0 : Nat) : Int) ((d.getD j 0 : Nat) : Int)
  have e : (((c.getD j 0 : Nat) : Int) == ((d.getD j 0 : Nat) : Int)) = decide (c.getD j 0 = d.getD j 0):=by
    rw [Bool.eq_iff_iff,beq_iff_eq,decide_eq_true_iff]
    omega
  rw [e] at this
  exact this
theorem eqL_nats {K : PySem.W.Frag} {H : Hp} {a b : Addr} {c d : List Nat} {Q : VK} (h1 : SqL K H a (c.map nV)) (h2 : SqL K H b (d.map nV)) (q : Q (.bl (decide (c = d))) H) : rEqL K 0 (.ref a) (.ref b) H Q:=by
  by_cases hl : c.length = d.length
  · refine .inl ⟨a,b,_,_,_,rfl,rfl,h1,h2,its_nats hl 0,?_⟩
    rw [List.length_map,all_eqN hl]
    simpa using q
  · refine .inr ⟨a,b,_,_,rfl,rfl,h1,h2,by rw [List.length_map,List.length_map]; exact hl,?_⟩
    rw [decide_eq_false (fun e => hl (by rw [e]))] at q
    exact q
theorem eqV_nats {K : PySem.W.Frag} {H : Hp} {a b : Addr} {c d : List Nat} (h1 : SqL K H a (c.map nV)) (h2 : SqL K H b (d.map nV)) : EqV K H 1 (.ref a) (.ref b) (decide (c = d)):=by
  by_cases hl : c.length = d.length
  · have:=EqV.lst 0 a b _ _ _ h1 h2 (its_nats (K:=K) (H:=H) hl 0).1 (its_nats hl 0).2
    rw [List.length_map,all_eqN hl] at this
    exact this
  · have:=EqV.lens (K:=K) (H:=H) 0 a b _ _ h1 h2 (by rw [List.length_map,List.length_map]; exact hl)
    rw [decide_eq_false (fun e => hl (by rw [e]))]
    exact this
def lstEq (H : Hp) (c : List Nat) : V → Bool
  | .ref t => (match H t with
    | some (.lst xs) => decide (xs = c.map nV)
    | _ => false)
  | _ => false
theorem lstEq_of {H : Hp} {c d : List Nat} {b : Addr} (h : H b = some (.lst (d.map nV))) : lstEq H c (.ref b) = decide (d = c):=by
  unfold lstEq
  simp only [h]
  exact decide_eq_decide.mpr ⟨fun e => nV_inj e,fun e => by rw [e]⟩
theorem lists_any {H : Hp} (c : List Nat) : ∀ {ys : List V} {ds : List (List Nat)},LN H ys ds → ys.any (lstEq H c) = decide (c ∈ ds)
  | _,_,.nil => rfl
  | _,_,.cons (b:=d) ⟨b,e,q⟩ t => by
    rw [List.any_cons,e,lstEq_of q,lists_any c t,Bool.eq_iff_iff,Bool.or_eq_true,decide_eq_true_iff,decide_eq_true_iff,decide_eq_true_iff,List.mem_cons]
    exact ⟨fun z => z.imp Eq.symm id,fun z => z.imp Eq.symm id⟩
theorem lists_ref {H : Hp} : ∀ {ys : List V} {ds : List (List Nat)},LN H ys ds → ∀ z ∈ ys,∃ a,z = .ref a
  | _,_,.nil => fun _ h => nomatch h
  | _,_,.cons ⟨b,e,_⟩ t => fun z hz => by
    rcases List.mem_cons.mp hz with rfl | hz
    · exact ⟨b,e⟩
    · exact lists_ref t z hz
theorem lists_eqV {K : PySem.W.Frag} {H : Hp} {a : Addr} {c : List Nat} (h : SqL K H a (c.map nV)) : ∀ {ys : List V} {ds : List (List Nat)},LN H ys ds → ∀ z ∈ ys,EqV K H 1 z (.ref a) (lstEq H c z)
  | _,_,.nil => fun _ h => nomatch h
  | _,_,.cons ⟨b,e,q⟩ t => fun z hz => by
    rcases List.mem_cons.mp hz with hz | hz
    · rw [hz,e,lstEq_of q]
      exact eqV_nats (SqL.of q) h
    · exact lists_eqV h t z hz
section
variable {P : Program} {w : World} {K : PySem.W.Frag} {mg : Str → Option Value} {base : Heap} {f : Addr} {fd : FuncData}
abbrev s_need_climb : Stmt:=top 34
theorem sc_need_climb : FnScope ["order","things"] ["order","things"] (defScope s_need_climb):=⟨rfl,rfl,rfl,by decide +kernel,rfl,by decide +kernel,by decide +kernel⟩
def sp_need_climb (K : PySem.W.Frag) (C : Addr) : Sp:=fun vs H Q _ => ∃ (p t n : Nat) (R : Nat → Nat → Bool) (zs : List Int),vs = [.ref p,.ref t] ∧ OrdAt C H p n R ∧ n ≤ 24 ∧ SqL K H t (zs.map V.int) ∧ zs.length ≤ 1000 ∧ climbB n R zs = true ∧ ∀ H',Same H H' → Q .non H'
theorem ok_need_climb {C : Addr} (F : Fun K "need_climb" "need_climb" s_need_climb f fd) (T : Txt mg) (TC : ClsOk K C) (c_is_climb : Cal P w K mg base "is_climb" ["order","things"] 4 (sp_is_climb K C)) :
    FnOk P w K mg base CX0 5 f fd ["order","things"] (sp_need_climb K C):=by
  refine F.ok sc_need_climb (fun vs H Q E h => ?_) (fun cdv A outer s H vs Q E hr h => ?_)
  · obtain ⟨p,t,n,R,zs,rfl,_⟩:=h
    rfl
  · obtain ⟨p,t,n,R,zs,rfl,hO,hn,hT,hzl,hc,kk⟩:=h
    have nd:=sc_need_climb.nd
    refine ⟨_,(pss_one (ps_if (pt_not (pt_val (pe_callC c_is_climb hr rfl (pa_cons (pv 0) (pa_cons (pv 1) pa_nil))))) (pss_one ps_never) pss_nil)),?_⟩
    refine ⟨_,rfl,_,rfl,p,t,n,R,zs,rfl,hO,hn,hT,hzl,fun H3 hs => ⟨_,rfl,?_⟩⟩
    rw [hc]
    exact iteF (kk _ hs)
end
section
variable {P : Program} {w : World} {K : PySem.W.Frag} {mg : Str → Option Value} {base : Heap} {f : Addr} {fd : FuncData}
abbrev s_exchanges_at : Stmt:=top 39
theorem sc_exchanges_at : FnScope ["above","climb","place","stands","target"] ["above","climb","place"] (defScope s_exchanges_at):=⟨rfl,rfl,rfl,by decide +kernel,rfl,by decide +kernel,by decide +kernel⟩
def exAt (g : Nat → List Nat) (cs : List Nat) (pl : Nat) : List (Nat × Nat):=((g (cs.getD (pl - 1) 0)).filter fun x => !decide (x = cs.getD pl 0) && decide (cs.getD (pl + 1) 0 ∈ g x)).map fun x => (pl,x)
def sp_exch_at (K : PySem.W.Frag) : Sp:=fun vs H Q _ => ∃ (D t pl n : Nat) (g : Nat → List Nat) (cs : List Nat),vs = [.ref D,.ref t,.int pl] ∧ AbvAt H D n g ∧ (∀ i x,x ∈ g i → x < n) ∧ (∀ i,(g i).length ≤ 24) ∧ SqL K H t (cs.map nV) ∧ (∀ x ∈ cs,x < n) ∧ 1 ≤ pl ∧ pl + 1 < cs.length ∧
  ∀ L us H',Same H H' → H L = none → H' L = some (.lst us) → us.length ≤ 24 → Paired (pairV H') (exAt g cs pl) us → Q (.ref L) H'
theorem ok_exch_at (F : Fun K "exchanges_at" "exchanges_at" s_exchanges_at f fd) (T : Txt mg) : FnOk P w K mg base CX0 1 f fd ["above","climb","place"] (sp_exch_at K):=by
  refine F.ok sc_exchanges_at (fun vs H Q E h => ?_) (fun cdv A outer s H vs Q E hr h => ?_)
  · obtain ⟨D,t,pl,n,g,cs,rfl,_⟩:=h
    rfl
  · obtain ⟨D,t,pl,n,g,cs,rfl,hA,hgn,hgl,hT,hcs,hp1,hp2,kk⟩:=h
    have nd:=sc_exchanges_at.nd
    have e1 : ((pl : Int) + 1) = ((pl + 1 : Nat) : Int):=by omega
    have e2 : ((pl : Int) - 1) = ((pl - 1 : Nat) : Int):=by omega
    have hc0:=hcs _ (mem_getD_nat (show pl - 1 < cs.length by omega))
    obtain ⟨vs0,b0,qD,qv,qb⟩:=hA.get hc0
    refine ⟨_,(pss_cons (ps_set (i:=3) nd rfl (Or.inr rfl) (pe_ix (ix_listK (K:=K) rfl) (pv 1) (pv 2) (fun _ _ => rfl)))
      (pss_cons (ps_set (i:=4) nd rfl (Or.inr rfl) (pe_ix (ix_listK (K:=K) rfl) (pv 1) (pe_op op_add (pv 2) pe_int) (fun _ _ => rfl)))
      (pss_one (ps_ret (pe_comp (own:=["thing"]) (fr:=[("place", 2),("stands", 3),("target", 4),("above", 0)]) rfl (blkOk (defScope s_exchanges_at) ["above","climb","place","stands","target"] rfl rfl (by decide +kernel)) (pi_listK (K:=K) rfl (pe_ix (ix_listK (K:=K) rfl) (pv 0) (pe_ix (ix_listK (K:=K) rfl) (pv 1) (pe_op op_sub (pv 2) pe_int) (fun _ _ => rfl)) (fun _ _ => rfl))) (fun _ _ _ _ => ⟨(pg_name (i:=0) (by decide +kernel : (["thing","place","stands","target","above"] : List Str).Nodup) rfl (Or.inl rfl)),(pif_one (PW.pt (pw_and (pt_cmpR op_ne (pv 0) (pv 2) (nomark _)) (pw_and1 (pt_cmpR (op_inK (K:=K) rfl) (pv 3) (pe_ix (ix_listK (K:=K) rfl) (pv 4) (pv 0) (fun _ _ => rfl)) (by with_unfolding_all rfl)))))),(pe_tup (pa_cons (pv 1) (pa_cons (pv 0) pa_nil)))⟩)))))),?_⟩
    refine ⟨_,rfl,_,rfl,t,_,_,_,rfl,rfl,hT,atI_nat (nV_get (show pl < cs.length by omega)),?_⟩
    refine ⟨_,rfl,_,rfl,_,_,rfl,rfl,t,_,_,_,rfl,rfl,hT,by rw [e1]; exact atI_nat (nV_get hp2),?_⟩
    refine ⟨_,rfl,_,rfl,_,rfl,_,_,rfl,rfl,t,_,_,_,rfl,rfl,hT,by rw [e2]; exact atI_nat (nV_get (show pl - 1 < cs.length by omega)),D,vs0,_,.ref b0,rfl,rfl,SqL.of qD,atI_nat qv,b0,rfl,⟨_,SqL.of qb⟩,fun D2 hD2 => ?_⟩
    refine comp_rel (fun j => !decide ((g (cs.getD (pl - 1) 0)).getD j 0 = cs.getD pl 0) && decide (cs.getD (pl + 1) 0 ∈ g ((g (cs.getD (pl - 1) 0)).getD j 0))) (fun j v H => ∃ b,v = .ref b ∧ b ≠ D2 ∧ H b = some (.tup [.int (pl : Int),.int (((g (cs.getD (pl - 1) 0)).getD j 0 : Nat) : Int)])) (src_list (SqL.of qb)) hD2 (by rw [List.length_map]; exact sl24 (hgl _))
      (fun j v H H' s ⟨b,e,hb,q⟩ => ⟨b,e,hb,s _ _ hb q⟩) (fun j H3 Kt Kf hj hs hy hkt hkf => ?_) (fun H3 ys hs hl3 hp3 => ?_)
    · rw [List.length_map] at hj
      obtain ⟨zs,hz⟩:=hy
      have eg:=getD_nV hj
      generalize hx : (g (cs.getD (pl - 1) 0)).getD j 0 = x at eg hkt hkf
      have hxn : x < n:=hgn _ _ (by rw [← hx]; exact mem_getD_nat hj)
      obtain ⟨vs1,b1,qD1,qv1,qb1⟩:=(hA.same hs).get hxn
      refine ⟨_,by rw [eg] <;> rfl,_,rfl,rfl,_,rfl,?_⟩
      have ed : (!decide (V.int (x : Int) = nV (cs.getD pl 0))) = !decide (x = cs.getD pl 0):=by
        congr 1
        apply decide_eq_decide.mpr
        constructor
        · intro h; injection h with h; omega
        · intro h; rw [h]
      rw [ed]
      refine ite2 (fun h => ?_) (fun h => ?_)
      · refine ⟨_,rfl,_,rfl,_,by rw [eg] <;> rfl,D,vs1,_,.ref b1,rfl,rfl,SqL.of qD1,atI_nat qv1,b1,_,rfl,.inl (SqL.of qb1),rfl,flat_nV _,_,rfl,?_⟩
        show if inV (nV (cs.getD (pl + 1) 0)) ((g x).map nV) = true then _ else _
        rw [inV_nat]
        refine ite2 (fun h' => ?_) (fun h' => ?_)
        · refine ⟨_,rfl,_,by rw [eg] <;> rfl,by show 2 ≤ sizeLine; decide,fun b hb => ?_⟩
          exact hkt _ _ (by rw [h,h',Bool.true_and]) (Same.put hb) ⟨b,rfl,(fun e => by rw [e,hz] at hb; cases hb),upd_same⟩
        · exact hkf _ (by rw [h,Bool.true_and]; simpa using h') (Same.refl _)
      · refine iteF ?_
        have h2 : (!decide (x = cs.getD pl 0)) = false:=by simpa using h
        exact hkf _ (by rw [h2,Bool.false_and]) (Same.refl _)
    · rw [List.length_map] at hp3
      have hly : ys.length ≤ 24:=by
        have h1:=Paired.length hp3
        have h2:=List.length_filter_le (fun j => !decide ((g (cs.getD (pl - 1) 0)).getD j 0 = cs.getD pl 0) && decide (cs.getD (pl + 1) 0 ∈ g ((g (cs.getD (pl - 1) 0)).getD j 0))) (List.range (g (cs.getD (pl - 1) 0)).length)
        rw [List.length_range] at h2
        have:=hgl (cs.getD (pl - 1) 0)
        omega
      refine kk D2 ys H3 hs hD2 hl3 hly ?_
      unfold exAt
      rw [← range_filter_map (fun x => !decide (x = cs.getD pl 0) && decide (cs.getD (pl + 1) 0 ∈ g x)) 0 (g (cs.getD (pl - 1) 0)),List.map_map]
      refine paired_mapL ?_
      exact Paired.mapP hp3 fun j v ⟨b,e,_,q⟩ => ⟨b,e,q⟩
end
def exBy (g : Nat → List Nat) (cs : List Nat) : List (Nat × Nat):=(List.range (cs.length - 2)).flatMap fun i => exAt g cs (1 + i)
section
variable {P : Program} {w : World} {K : PySem.W.Frag} {mg : Str → Option Value} {base : Heap} {f : Addr} {fd : FuncData}
abbrev s_exchanges_by : Stmt:=top 40
theorem sc_exchanges_by : FnScope ["above","climb","told","place"] ["above","climb"] (defScope s_exchanges_by):=⟨rfl,rfl,rfl,by decide +kernel,rfl,by decide +kernel,by decide +kernel⟩
def sp_exch_by (K : PySem.W.Frag) : Sp:=fun vs H Q _ => ∃ (D t n : Nat) (g : Nat → List Nat) (cs : List Nat),vs = [.ref D,.ref t] ∧ AbvAt H D n g ∧ (∀ i x,x ∈ g i → x < n) ∧ (∀ i,(g i).length ≤ 24) ∧ SqL K H t (cs.map nV) ∧ (∀ x ∈ cs,x < n) ∧ cs.length ≤ 100 ∧
  ∀ L us H',Same H H' → H L = none → H' L = some (.lst us) → us.length ≤ 24 * cs.length → Paired (pairV H') (exBy g cs) us → Q (.ref L) H'
theorem ok_exch_by (F : Fun K "exchanges_by" "exchanges_by" s_exchanges_by f fd) (T : Txt mg) (c_exchanges_at : Cal P w K mg base "exchanges_at" ["above","climb","place"] 1 (sp_exch_at K)) : FnOk P w K mg base CX0 2 f fd ["above","climb"] (sp_exch_by K):=by
  refine F.ok sc_exchanges_by (fun vs H Q E h => ?_) (fun cdv A outer s H vs Q E hr h => ?_)
  · obtain ⟨D,t,n,g,cs,rfl,_⟩:=h
    rfl
  · obtain ⟨D,t,n,g,cs,rfl,hA,hgn,hgl,hT,hcs,hcl,kk⟩:=h
    have nd:=sc_exchanges_by.nd
    refine ⟨_,(pss_cons (ps_set (i:=2) nd rfl (Or.inl rfl) (pe_lst pa_nil))
      (pss_cons (ps_for PassesOwn.never rfl (pi_range2 rfl T.range (pa_cons pe_int (pa_cons (pe_op op_sub (pe_callB (call_lenK (K:=K) rfl) rfl T.len PySem.boot_len (pa_cons (pv 1) pa_nil)) pe_int) pa_nil))) (pg_name (i:=3) nd rfl (Or.inl rfl))
      (pss_one (ps_expr (pe_bmK (K:=K) rfl PySem.F.plainAttrs_list PySem.F.slot_list_extend PySem.F.type_list_extend mt_extend (pv 2) (pa_cons (pe_callC c_exchanges_at hr rfl (pa_cons (pv 0) (pa_cons (pv 1) (pa_cons (pv 3) pa_nil (star_of (fun _ _ h => nomatch h))) (star_of (fun _ _ h => nomatch h))) (star_of (fun _ _ h => nomatch h)))) pa_nil)))))
      (pss_one (ps_ret (pv 2))))),?_⟩
    refine ⟨by show 0 ≤ sizeLine; decide,fun L hL => ?_⟩
    refine ⟨_,rfl,t,_,rfl,.inl ((Same.put hL).seq hT),_,_,rfl,rfl,1,((cs.map nV).length : Int) - 1,rfl,⟨by omega,by omega,by omega,by rw [List.length_map]; omega⟩,?_⟩
    have en : (((cs.map nV).length : Int) - 1 - 1).toNat = cs.length - 2:=by rw [List.length_map]; omega
    refine for_range (lo:=1) (n:=(((cs.map nV).length : Int) - 1 - 1).toNat) (fun i σ H2 => ∃ v3 us,σ = [some (.ref D),some (.ref t),some (.ref L),v3] ∧ Same H H2 ∧ H2 L = some (.lst us) ∧ us.length ≤ 24 * i ∧ Paired (pairV H2) ((List.range i).flatMap fun i => exAt g cs (1 + i)) us)
      ⟨none,[],rfl,Same.put hL,upd_same,by simp,.nil⟩ ?_ ?_
    · rintro i σ H2 hi ⟨v3,us,rfl,s2,hl,hlen,hp⟩
      rw [en] at hi
      refine ⟨_,rfl,.inl ⟨rfl,_,SqL.of hl⟩,_,rfl,_,rfl,_,rfl,D,t,1 + i,n,g,cs,by push_cast; rfl,hA.same s2,hgn,hgl,s2.seq hT,hcs,by omega,by omega,fun L2 us2 H3 s3 hL2 q2 hul2 hp2 => ?_⟩
      refine ⟨L,L2,us,us2,rfl,rfl,s3 _ _ hl,q2,by have := @slk 100000 (by omega); omega,?_⟩
      refine ⟨_,us ++ us2,rfl,?_,upd_same,by rw [List.length_append]; omega,?_⟩
      · intro b o e
        rw [upd_ne (fun z => by rw [z,hL] at e; cases e)]
        exact s3 _ _ (s2 _ _ e)
      · rw [range_flat]
        exact pairsV_upd (s3 _ _ hl) (paired_append (pairsV.same s3 hp) hp2)
    · rintro σ H2 ⟨v3,us,rfl,s2,hl,hlen,hp⟩
      rw [en] at hp hlen
      exact ⟨_,rfl,kk L us H2 s2 hL hl (by omega) hp⟩
abbrev s_after_exchange : Stmt:=top 41
theorem sc_after_exchange : FnScope ["climb","exchange","place"] ["climb","exchange"] (defScope s_after_exchange):=⟨rfl,rfl,rfl,by decide +kernel,rfl,by decide +kernel,by decide +kernel⟩
def sp_after (K : PySem.W.Frag) : Sp:=fun vs H Q _ => ∃ (t e pl x : Nat) (cs : List Nat),vs = [.ref t,.ref e] ∧ SqL K H t (cs.map nV) ∧ SqT K H e [.int (pl : Int),.int (x : Int)] ∧ cs.length ≤ 100 ∧
  ∀ L H',Same H H' → H L = none → H' L = some (.lst ((cs.take pl ++ x :: cs.drop (pl + 1)).map nV)) → Q (.ref L) H'
theorem ok_after (F : Fun K "after_exchange" "after_exchange" s_after_exchange f fd) (T : Txt mg) : FnOk P w K mg base CX0 1 f fd ["climb","exchange"] (sp_after K):=by
  refine F.ok sc_after_exchange (fun vs H Q E h => ?_) (fun cdv A outer s H vs Q E hr h => ?_)
  · obtain ⟨t,e,pl,x,cs,rfl,_⟩:=h
    rfl
  · obtain ⟨t,e,pl,x,cs,rfl,hT,hE,hcl,kk⟩:=h
    have nd:=sc_after_exchange.nd
    have e1 : ((pl : Int) + 1) = ((pl + 1 : Nat) : Int):=by omega
    refine ⟨_,(pss_cons (ps_set (i:=2) nd rfl (Or.inl rfl) (pe_ix (ix_tupK (K:=K) rfl) (pv 1) pe_int (fun _ _ => rfl)))
      (pss_one (ps_ret (pe_op op_cat (pe_op op_cat (pe_slice (sl_listK (K:=K) rfl) (pv 0) po_none (po_some (pv 2))) (pe_lst (pa_cons (pe_ix (ix_tupK (K:=K) rfl) (pv 1) pe_int (fun _ _ => rfl)) pa_nil))) (pe_slice (sl_listK (K:=K) rfl) (pv 0) (po_some (pe_op op_add (pv 2) pe_int)) po_none))))),?_⟩
    refine ⟨_,rfl,e,_,0,.int (pl : Int),rfl,rfl,hE,rfl,?_⟩
    refine ⟨_,rfl,_,rfl,_,rfl,t,_,rfl,hT,fun q1 hq1 => ?_⟩
    rw [cutToI]
    refine ⟨_,rfl,e,_,1,.int (x : Int),rfl,rfl,(Same.put hq1).sqT hE,rfl,by show 1 ≤ sizeLine; decide,fun q2 hq2 => ?_⟩
    refine ⟨q1,q2,_,_,rfl,rfl,Same.put hq2 _ _ upd_same,upd_same,by rw [List.length_map,List.length_take]; exact Nat.le_of_lt (small1000 (by show min pl cs.length + 1 ≤ 1000; omega)),fun q3 hq3 => ?_⟩
    have t3 : Same H (upd (upd (upd H q1 (.lst ((cs.take pl).map nV))) q2 (.lst [.int (x : Int)])) q3 (.lst ((cs.take pl).map nV ++ [.int (x : Int)]))):=((Same.put hq1).trans (Same.put hq2)).trans (Same.put hq3)
    refine ⟨_,rfl,_,rfl,_,_,rfl,rfl,_,rfl,t,_,rfl,t3.seq hT,fun q4 hq4 => ?_⟩
    rw [e1,cutFromI]
    refine ⟨q3,q4,_,_,rfl,rfl,Same.put hq4 _ _ upd_same,upd_same,by rw [List.length_append,List.length_map,List.length_map,List.length_take,List.length_drop]; exact Nat.le_of_lt (small1000 (by show min pl cs.length + 1 + _ ≤ 1000; omega)),fun q5 hq5 => ?_⟩
    refine kk q5 _ ((t3.trans (Same.put hq4)).trans (Same.put hq5)) ((t3.trans (Same.put hq4)).free hq5) ?_
    rw [upd_same,List.map_append,List.append_assoc]
    rfl
theorem abv_len {n : Nat} {R : Nat → Nat → Bool} (hn : n ≤ 24) : ∀ i,(abv n R i).length ≤ 24:=fun i => by
  have:=List.length_filter_le (stepR n R i) (List.range n)
  rw [List.length_range] at this
  unfold abv
  omega
end
theorem mem_exBy {g : Nat → List Nat} {cs : List Nat} {pl x : Nat} (h : (pl,x) ∈ exBy g cs) : 1 ≤ pl ∧ pl + 1 < cs.length ∧ x ∈ g (cs.getD (pl - 1) 0) ∧ x ≠ cs.getD pl 0 ∧ cs.getD (pl + 1) 0 ∈ g x:=by
  unfold exBy at h
  obtain ⟨i,hi,h⟩:=List.mem_flatMap.mp h
  have hi':=List.mem_range.mp hi
  unfold exAt at h
  obtain ⟨y,hy,e⟩:=List.mem_map.mp h
  rw [Prod.mk.injEq] at e
  obtain ⟨rfl,rfl⟩:=e
  obtain ⟨h1,h2⟩:=List.mem_filter.mp hy
  simp only [Bool.and_eq_true,Bool.not_eq_true',decide_eq_false_iff_not,decide_eq_true_eq] at h2
  exact ⟨by omega,by omega,h1,h2.1,h2.2⟩
theorem getD_set {cs : List Nat} {pl x i : Nat} (hp : pl < cs.length) : (cs.set pl x).getD i 0 = if i = pl then x else cs.getD i 0:=by
  rw [List.getD_eq_getElem?_getD,List.getD_eq_getElem?_getD,List.getElem?_set]
  by_cases e : pl = i
  · subst e
    rw [if_pos rfl,if_pos rfl,if_pos hp]
    rfl
  · rw [if_neg e,if_neg (fun z => e z.symm)]
theorem exch_isC {g : Nat → List Nat} {b a : Nat} {cs : List Nat} (h : Cl.IsC g b a cs) {pl x : Nat} (he : (pl,x) ∈ exBy g cs) : Cl.IsC g b a (cs.set pl x):=by
  obtain ⟨h1,h2,h3,_,h5⟩:=mem_exBy he
  refine ⟨?_,?_,fun i hi => ?_⟩
  · have:=h.hd
    cases cs with
    | nil => cases this
    | cons y r =>
      obtain ⟨k,rfl⟩ : ∃ k,pl = k + 1:=⟨pl - 1,by omega⟩
      exact this
  · have:=h.last
    rw [List.getLast?_eq_getElem?] at this ⊢
    rw [List.length_set,List.getElem?_set,if_neg (by omega)]
    exact this
  · rw [List.length_set] at hi
    rw [getD_set (by omega),getD_set (by omega)]
    by_cases e1 : i = pl
    · rw [if_pos e1,if_neg (by omega),e1]
      exact h5
    · by_cases e2 : i + 1 = pl
      · rw [if_pos e2,if_neg e1]
        have : i = pl - 1:=by omega
        rw [this]
        exact h3
      · rw [if_neg e2,if_neg e1]
        exact h.go i hi
end My
namespace L2
open PySem PySem.Spec PyProof.Rows
def tDispT (tk tv : TE) : TE:=fun σ H Q => ∀ p,H p = none → tk σ (upd H p (.dT [])) fun x H1 => tv σ H1 fun y H2 => H2 p = some (.dT []) ∧ ∃ b k,x = .ref b ∧ TupKey H2 b k ∧ Q (.ref p) (upd H2 p (.dT [(k,y)]))
section
variable {X : Cx} {k v : Expr} {tk tv : TE} {pos : Pos}
theorem pe_dispT (hu : X.A.units < cLine) (hk : PE X k tk) (hv : PE X v tv) : PE X (.Dict [some k] [v] pos) (tDispT tk tv):=by
  intro pins s σ H Q I q
  have hn:=I.hok.fresh (Nat.le_refl s.heap.objs.size)
  have I1:=I.laid (a:=s.heap.objs.size) (o:=.dT []) (h':=s.heap.push { cls:=.type "dict", data:=.dict #[] }) (t':=s.toks) (fun _ _ q => Heap.get?_push_of_some _ q) (Nat.le_refl _) (dt_empty s.heap I.big)
  have q1:=q _ hn
  have PP : PPs X pos [some k] [v] [(tk,tv)]:=pps_cons hk hv pps_nil
  refine wpAny_Dict_any rfl rfl (by simp) (by simp) (thn (PP pins _ σ _ (fun ps H2 => match ps with
    | [(x,y)] => H2 s.heap.objs.size = some (.dT []) ∧ ∃ b k,x = .ref b ∧ TupKey H2 b k ∧ Q (.ref s.heap.objs.size) (upd H2 s.heap.objs.size (.dT [(k,y)]))
    | _ => False) I1 q1) fun ws s2 ⟨ps,H2,I2,rel,hq⟩ => ?_)
  match ps,hq with
  | [(x,y)],hq =>
    obtain ⟨e,b,ks,rfl,eb,q2⟩:=hq
    cases rel with
    | @cons p r ps rs h t =>
      cases t
      obtain ⟨u,r⟩:=r
      obtain ⟨h1,h2⟩:=h
      cases (show u = Value.ref b from h1)
      obtain ⟨z,hd,xs,rel,dd⟩:=dt_of I2.hok e
      cases rel
      unfold storeAll
      rw [List.forIn_cons]
      refine wpAny_bind (wpAny_bind (wpAny_dictSet_heap hu (key_of I2.hok eb) dd fun h' dd' hs => wpAny_pure ?_))
      show wpAny _ _ (forIn [] PUnit.unit _) _ _ _
      rw [List.forIn_nil]
      refine wpAny_pure ⟨.ref s.heap.objs.size,_,?_,rfl,q2⟩
      obtain ⟨q,es,ep,hq,h2',h3,h4,_,h5⟩:=dd'
      have rel0 : KT H2 [] []:=.nil
      refine d_write I2 (by rw [e]; exact True.intro) hs ⟨q,hq⟩ ⟨by rw [sizeLine_eq]; show 1 ≤ _; omega,hd,_,(rel0.put ks eb h2).keeps fun c ys ec => ?_,q,es,ep,hq,h2',h3,h4,h5⟩
      rw [upd_ne (ne_of ec e (fun z => nomatch z))]
      exact ec
def rInD (ne : Bool) : R2:=fun y x H Q => ∃ a o,x = .ref a ∧ DGet H a y o ∧ Q (.bl (ne != Option.isSome o)) H
theorem op_notInD (hu : X.A.units + 1 < cLine) : OpR X (compareOp .NotIn) (rInD true):=by
  intro pins s σ H y x u v Q I ry rx h
  obtain ⟨a,o,rfl,g,q⟩:=h
  cases rx
  exact d_notIn hu I g ry fun s' I' => ⟨.bl (!o.isSome),H,I',rfl,by simpa using q⟩
end
end L2
namespace My
open PySem PySem.Spec PyProof.Rows L2
theorem nodup_len {α : Type} [DecidableEq α] : ∀ {l1 l2 : List α},l1.Nodup → (∀ x ∈ l1,x ∈ l2) → l1.length ≤ l2.length
  | [],_,_,_ => Nat.zero_le _
  | x :: r,l2,nd,h => by
    have nd':=List.nodup_cons.mp nd
    have h1:=h x List.mem_cons_self
    have h2:=nodup_len (l1:=r) (l2:=l2.erase x) nd'.2 (fun y hy => (List.mem_erase_of_ne (fun (e : y = x) => nd'.1 (e ▸ hy))).mpr (h y (List.mem_cons_of_mem _ hy)))
    rw [List.length_erase_of_mem h1] at h2
    have h3:=List.length_pos_of_mem h1
    rw [List.length_cons]
    omega
def Leads (g : Nat → List Nat) : List Nat → List (Nat × Nat) → List Nat → Prop
  | c,[],d => c = d
  | c,e :: r,d => e ∈ exBy g c ∧ Leads g (c.set e.1 e.2) r d
theorem Leads.snoc {g : Nat → List Nat} {e : Nat × Nat} : ∀ {ps : List (Nat × Nat)} {c d : List Nat},Leads g c ps d → e ∈ exBy g d → Leads g c (ps ++ [e]) (d.set e.1 e.2)
  | [],c,d,h,he => by
    cases (show c = d from h)
    exact ⟨he,rfl⟩
  | q :: ps,c,d,h,he => ⟨h.1,Leads.snoc h.2 he⟩
theorem Leads.stays {g : Nat → List Nat} {S : List Nat → Prop} (hS : ∀ c,S c → ∀ e ∈ exBy g c,S (c.set e.1 e.2)) : ∀ {ps : List (Nat × Nat)} {c d : List Nat},Leads g c ps d → S c → S d
  | [],c,d,h,hc => by
    cases (show c = d from h)
    exact hc
  | q :: ps,c,d,h,hc => Leads.stays hS h.2 (hS c hc q h.1)
theorem set_cut {cs : List Nat} {pl x : Nat} (h : pl < cs.length) : cs.take pl ++ x :: cs.drop (pl + 1) = cs.set pl x:=by
  rw [List.set_eq_take_append_cons_drop,if_pos h]
def kC (c : List Nat) : List Key:=c.map fun x : Nat => (Sum.inl (x : Int) : Key)
theorem kC_inj {c d : List Nat} (h : kC c = kC d) : c = d:=by
  refine (List.map_inj_right (fun x y e => ?_)).mp h
  injection e with e
  omega
theorem kVs_kC : ∀ c : List Nat,kVs (kC c) (c.map nV)
  | [] => .nil
  | x :: c => .cons (.inl rfl) (kVs_kC c)
theorem tupKC {H : Hp} {b : Addr} {c : List Nat} (h : H b = some (.tup (c.map nV))) : TupKey H b (kC c):=⟨_,kVs_kC c,h⟩
abbrev WayR (H0 H : Hp) : List Nat × List (Nat × Nat) → List Key × V → Prop:=fun e kv => kv.1 = kC e.1 ∧ ∃ t us,kv.2 = .ref t ∧ H0 t = none ∧ H t = some (.lst us) ∧ Paired (pairV H) e.2 us
abbrev Es:=List (List Nat × List (Nat × Nat))
structure WayAt (H0 H : Hp) (p : Addr) (g : Nat → List Nat) (one : List Nat) (b a : Nat) (es : Es) : Prop where
  here : ∃ kvs,H p = some (.dT kvs) ∧ Paired (WayR H0 H) es kvs
  nd : (es.map (·.1)).Nodup
  go : ∀ e ∈ es,Cl.IsC g b a e.1 ∧ Leads g one e.2 e.1 ∧ e.2.length < es.length
theorem way_none {H0 H : Hp} {c : List Nat} : ∀ {es : Es} {kvs : List (List Key × V)},Paired (WayR H0 H) es kvs → c ∉ es.map (·.1) → valV kvs (kC c) = none
  | _,_,.nil,_ => rfl
  | e :: es,kv :: kvs,.cons h t,hc => by
    rw [List.map_cons,List.mem_cons,not_or] at hc
    rw [valV_neg (fun q => hc.1 (kC_inj (q.symm.trans h.1)))]
    exact way_none t hc.2
theorem way_some {H0 H : Hp} {c : List Nat} : ∀ {es : Es} {kvs : List (List Key × V)},Paired (WayR H0 H) es kvs → c ∈ es.map (·.1) → ∃ ps t us,(c,ps) ∈ es ∧ valV kvs (kC c) = some (.ref t) ∧ H0 t = none ∧ H t = some (.lst us) ∧ Paired (pairV H) ps us
  | _,_,.nil,hc => nomatch hc
  | e :: es,kv :: kvs,.cons h t,hc => by
    by_cases q : kv.1 = kC c
    · obtain ⟨h1,a,us,h2,h3⟩:=h
      have ec : e.1 = c:=kC_inj (h1.symm.trans q)
      exact ⟨e.2,a,us,by rw [← ec]; exact List.mem_cons_self,by rw [valV_pos q,h2],h3⟩
    · rw [valV_neg q]
      rw [List.map_cons,List.mem_cons] at hc
      rcases hc with hc | hc
      · exact absurd (by rw [hc]; exact h.1) q
      · obtain ⟨ps,a,us,h1,h2⟩:=way_some t hc
        exact ⟨ps,a,us,List.mem_cons_of_mem _ h1,h2⟩
theorem _root_.L2.SameX.lst {p : Addr} {H H' : Hp} (s : SameX p H H') {kvs : List (List Key × V)} (hp : H p = some (.dT kvs)) {b : Addr} {xs : List V} (h : H b = some (.lst xs)) : H' b = some (.lst xs):=s _ _ (ne_of h hp (fun z => nomatch z)) h
theorem _root_.L2.SameX.tup {p : Addr} {H H' : Hp} (s : SameX p H H') {kvs : List (List Key × V)} (hp : H p = some (.dT kvs)) {b : Addr} {xs : List V} (h : H b = some (.tup xs)) : H' b = some (.tup xs):=s _ _ (ne_of h hp (fun z => nomatch z)) h
theorem _root_.L2.SameX.pairs {p : Addr} {H H' : Hp} (s : SameX p H H') {kvs : List (List Key × V)} (hp : H p = some (.dT kvs)) {ps : List (Nat × Nat)} {us : List V} (h : Paired (pairV H) ps us) : Paired (pairV H') ps us :=
  Paired.mapP h fun _ _ ⟨t,e,q⟩ => ⟨t,e,s.tup hp q⟩
theorem _root_.L2.SameX.ln {p : Addr} {H H' : Hp} (s : SameX p H H') {kvs : List (List Key × V)} (hp : H p = some (.dT kvs)) {xs : List V} {L : List (List Nat)} (h : LN H xs L) : LN H' xs L:=Paired.mapP h fun _ _ ⟨t,e,q⟩ => ⟨t,e,s.lst hp q⟩
theorem _root_.L2.SameX.abv {p : Addr} {H H' : Hp} (s : SameX p H H') {kvs : List (List Key × V)} (hp : H p = some (.dT kvs)) {D n : Nat} {g : Nat → List Nat} (h : AbvAt H D n g) : AbvAt H' D n g :=
  let ⟨as,h1,h2,h3⟩:=h; ⟨as,s.lst hp h1,h2,fun i a e => s.lst hp (h3 i a e)⟩
theorem WayAt.same {H0 H H' : Hp} {p : Addr} {g : Nat → List Nat} {one : List Nat} {b a : Nat} {es : Es} (s : Same H H') (h : WayAt H0 H p g one b a es) : WayAt H0 H' p g one b a es:=by
  obtain ⟨⟨kvs,h1,h2⟩,h3,h4⟩:=h
  exact ⟨⟨kvs,s _ _ h1,Paired.mapP h2 fun _ _ ⟨e,t,us,q1,q2,q3,q4⟩ => ⟨e,t,us,q1,q2,s _ _ q3,pairsV.same s q4⟩⟩,h3,h4⟩
theorem WayAt.other {H0 H : Hp} {p : Addr} {g : Nat → List Nat} {one : List Nat} {b a : Nat} {es : Es} (h : WayAt H0 H p g one b a es) {L : Addr} {ys zs : List V} (hL : H L = some (.lst ys)) (hw : ∀ kvs,H p = some (.dT kvs) → ∀ kv ∈ kvs,kv.2 ≠ .ref L) : WayAt H0 (upd H L (.lst zs)) p g one b a es:=by
  obtain ⟨⟨kvs,h1,h2⟩,h3,h4⟩:=h
  have hw:=hw kvs h1
  refine ⟨⟨kvs,by rw [upd_ne (ne_of h1 hL (fun z => nomatch z))]; exact h1,?_⟩,h3,h4⟩
  clear h1 h3 h4
  induction h2 with
  | nil => exact .nil
  | @cons e kv es kvs h t ih =>
    obtain ⟨e1,t1,us,q1,q2,q3,q4⟩:=h
    refine .cons ⟨e1,t1,us,q1,q2,?_,pairsV_upd hL q4⟩ (ih fun kv hk => hw kv (List.mem_cons_of_mem _ hk))
    rw [upd_ne (fun z => hw kv List.mem_cons_self (by rw [q1,z]))]
    exact q3
theorem WayAt.put {H0 H : Hp} {p : Addr} {g : Nat → List Nat} {one : List Nat} {b a : Nat} {es : Es} {kvs : List (List Key × V)} (h : WayAt H0 H p g one b a es) (hp : H p = some (.dT kvs)) {c : List Nat} {ps : List (Nat × Nat)} {r : Addr} {us : List V} (hc : c ∉ es.map (·.1)) (hC : Cl.IsC g b a c) (hl : Leads g one ps c) (hn : ps.length < es.length + 1)
    (r0 : H0 r = none) (r1 : H r = some (.lst us)) (r2 : Paired (pairV H) ps us) : WayAt H0 (upd H p (.dT (putK kvs (kC c) (.ref r)))) p g one b a (es ++ [(c,ps)]):=by
  obtain ⟨⟨kvs',h1,h2⟩,h3,h4⟩:=h
  rw [hp] at h1
  cases h1
  rw [putK_new _ (way_none h2 hc)]
  have sx : SameX p H (upd H p (.dT (kvs ++ [(kC c,.ref r)]))):=fun x o n e => by rw [upd_ne n]; exact e
  refine ⟨⟨_,upd_same,?_⟩,?_,fun e he => ?_⟩
  · refine Paired.snoc (Paired.mapP h2 fun _ _ ⟨e1,t,us,q1,q2,q3,q4⟩ => ⟨e1,t,us,q1,q2,sx.lst hp q3,sx.pairs hp q4⟩) ⟨rfl,r,us,rfl,r0,sx.lst hp r1,sx.pairs hp r2⟩
  · rw [List.map_append,List.nodup_append]
    refine ⟨h3,by simp,fun x hx y hy => ?_⟩
    have hy' : y = c:=by simpa using hy
    intro e
    rw [e,hy'] at hx
    exact hc hx
  · rw [List.length_append]
    rcases List.mem_append.mp he with he | he
    · obtain ⟨q1,q2,q3⟩:=h4 e he
      exact ⟨q1,q2,Nat.lt_succ_of_lt q3⟩
    · have he' : e = (c,ps):=by simpa using he
      rw [he']
      exact ⟨hC,hl,hn⟩
theorem WayAt.len {H0 H : Hp} {p : Addr} {n : Nat} {R : Nat → Nat → Bool} (G : Good n R) {one : List Nat} {b a : Nat} {es : Es} (h : WayAt H0 H p (gA n R) one b a es) : es.length ≤ waysR n R b a:=by
  have:=nodup_len h.nd (l2:=climbsR n R b a) fun c hc => by
    obtain ⟨e,he,rfl⟩:=List.mem_map.mp hc
    exact (mem_climbsR G).mpr (h.go e he).1
  rw [List.length_map] at this
  exact this
theorem AbvAt.gA {H : Hp} {D n : Nat} {R : Nat → Nat → Bool} (h : AbvAt H D n (abv n R)) : AbvAt H D n (gA n R):=by
  obtain ⟨as,h1,h2,h3⟩:=h
  exact ⟨as,h1,h2,fun i a e => by rw [gA_of (by rw [← h2]; exact (List.getElem?_eq_some_iff.mp e).1)]; exact h3 i a e⟩
theorem gA_lt {n : Nat} {R : Nat → Nat → Bool} : ∀ i x,x ∈ My.gA n R i → x < n:=fun i x h => (mem_gA.mp h).2.1
theorem gA_len {n : Nat} {R : Nat → Nat → Bool} (hn : n ≤ 24) : ∀ i,(My.gA n R i).length ≤ 24:=fun i => by
  unfold My.gA
  split
  · exact abv_len hn i
  · exact Nat.zero_le _
structure Md (n : Nat) (R : Nat → Nat → Bool) (J N : Nat → Nat → Nat) : Prop where
  G : Good n R
  j : ∀ a b,a < n → b < n → IsJ n R a b (J a b)
  m : ∀ a b,a < n → b < n → IsM n R a b (N a b)
  md : ∀ a b c,a < n → b < n → c < n → R a c = true → J a (N b c) = N (J a b) c
theorem step_iff {n : Nat} {R : Nat → Nat → Bool} {a b : Nat} : stepR n R a b = true ↔ a ≠ b ∧ R a b = true ∧ ∀ t,t < n → R a t = true → R t b = true → t = a ∨ t = b:=by
  unfold stepR belR
  rw [Bool.and_eq_true,Bool.and_eq_true,Bool.not_eq_true',decide_eq_false_iff_not,Bool.not_eq_true',List.any_eq_false]
  constructor
  · rintro ⟨⟨h1,h2⟩,h3⟩
    refine ⟨h1,h2,fun t ht q1 q2 => ?_⟩
    apply Decidable.byContradiction
    intro z
    have z1 : a ≠ t:=fun e => z (.inl e.symm)
    have z2 : t ≠ b:=fun e => z (.inr e)
    exact h3 t (List.mem_range.mpr ht) (by rw [q1,q2,decide_eq_false z1,decide_eq_false z2]; rfl)
  · rintro ⟨h1,h2,h3⟩
    refine ⟨⟨h1,h2⟩,fun t ht q => ?_⟩
    simp only [Bool.and_eq_true,Bool.not_eq_true',decide_eq_false_iff_not] at q
    rcases h3 t (List.mem_range.mp ht) q.1.2 q.2.2 with e | e
    · exact q.1.1 e.symm
    · exact q.2.1 e
section
variable {n : Nat} {R : Nat → Nat → Bool} {J N : Nat → Nat → Nat} {a b c x y : Nat}
theorem Md.jlt (M : Md n R J N) (ha : a < n) (hb : b < n) : J a b < n:=(M.j a b ha hb).1
theorem Md.mlt (M : Md n R J N) (ha : a < n) (hb : b < n) : N a b < n:=(M.m a b ha hb).1
theorem Md.jl (M : Md n R J N) (ha : a < n) (hb : b < n) : R a (J a b) = true ∧ R b (J a b) = true:=by
  have h:=(M.j a b ha hb).2 _ (M.jlt ha hb)
  rw [M.G.refl _ (M.jlt ha hb)] at h
  have h:=h.symm
  rwa [Bool.and_eq_true] at h
theorem Md.ml (M : Md n R J N) (ha : a < n) (hb : b < n) : R (N a b) a = true ∧ R (N a b) b = true:=by
  have h:=(M.m a b ha hb).2 _ (M.mlt ha hb)
  rw [M.G.refl _ (M.mlt ha hb)] at h
  have h:=h.symm
  rwa [Bool.and_eq_true] at h
theorem Md.jle (M : Md n R J N) (ha : a < n) (hb : b < n) (hc : c < n) (h1 : R a c = true) (h2 : R b c = true) : R (J a b) c = true:=by
  rw [(M.j a b ha hb).2 c hc,h1,h2]; rfl
theorem Md.mle (M : Md n R J N) (ha : a < n) (hb : b < n) (hc : c < n) (h1 : R c a = true) (h2 : R c b = true) : R c (N a b) = true:=by
  rw [(M.m a b ha hb).2 c hc,h1,h2]; rfl
theorem Md.jc (M : Md n R J N) (ha : a < n) (hb : b < n) : J a b = J b a :=
  M.G.anti _ _ (M.jlt ha hb) (M.jlt hb ha) (M.jle ha hb (M.jlt hb ha) (M.jl hb ha).2 (M.jl hb ha).1) (M.jle hb ha (M.jlt ha hb) (M.jl ha hb).2 (M.jl ha hb).1)
theorem Md.mc (M : Md n R J N) (ha : a < n) (hb : b < n) : N a b = N b a :=
  M.G.anti _ _ (M.mlt ha hb) (M.mlt hb ha) (M.mle hb ha (M.mlt ha hb) (M.ml ha hb).2 (M.ml ha hb).1) (M.mle ha hb (M.mlt hb ha) (M.ml hb ha).2 (M.ml hb ha).1)
theorem Md.jeq (M : Md n R J N) (ha : a < n) (hb : b < n) (h : R a b = true) : J a b = b:=M.G.anti _ _ (M.jlt ha hb) hb (M.jle ha hb hb h (M.G.refl _ hb)) (M.jl ha hb).2
theorem Md.meq (M : Md n R J N) (ha : a < n) (hb : b < n) (h : R a b = true) : N a b = a:=M.G.anti _ _ (M.mlt ha hb) ha (M.ml ha hb).1 (M.mle ha hb ha (M.G.refl _ ha) h)
theorem Md.up (M : Md n R J N) (hx : x < n) (hy : y < n) (h : stepR n R (N x y) x = true) : stepR n R y (J x y) = true:=by
  obtain ⟨h1,h2,h3⟩:=step_iff.mp h
  have hj:=M.jlt hx hy
  refine step_iff.mpr ⟨fun e => h1 ?_,(M.jl hx hy).2,fun z hz q1 q2 => ?_⟩
  · refine M.meq hx hy ?_
    have:=(M.jl hx hy).1
    rwa [← e] at this
  · have hm : N x z < n:=M.mlt hx hz
    rcases h3 (N x z) hm (M.mle hx hz (M.mlt hx hy) (M.ml hx hy).1 (M.G.trans (M.mlt hx hy) hy hz (M.ml hx hy).2 q1)) (M.ml hx hz).1 with e | e
    · have md:=M.md y x z hy hx hz q1
      rw [e] at md
      have e1 : J y (N x y) = y:=by rw [M.jc hy (M.mlt hx hy)]; exact M.jeq (M.mlt hx hy) hy (M.ml hx hy).2
      have e2 : N (J y x) z = z:=by
        rw [M.mc (M.jlt hy hx) hz]
        exact M.meq hz (M.jlt hy hx) (by rw [M.jc hy hx]; exact q2)
      rw [e1,e2] at md
      exact .inl md.symm
    · have hxz : R x z = true:=by
        have:=(M.ml hx hz).2
        rwa [e] at this
      exact .inr (M.G.anti _ _ hz hj q2 (M.jle hx hy hz hxz q1))
end
theorem exBy_mem {g : Nat → List Nat} {cs : List Nat} {pl x : Nat} (h1 : 1 ≤ pl) (h2 : pl + 1 < cs.length) (h3 : x ∈ g (cs.getD (pl - 1) 0)) (h4 : x ≠ cs.getD pl 0) (h5 : cs.getD (pl + 1) 0 ∈ g x) : (pl,x) ∈ exBy g cs:=by
  unfold exBy
  refine List.mem_flatMap.mpr ⟨pl - 1,List.mem_range.mpr (by omega),?_⟩
  have e : 1 + (pl - 1) = pl:=by omega
  rw [e]
  unfold exAt
  refine List.mem_map.mpr ⟨x,List.mem_filter.mpr ⟨h3,?_⟩,rfl⟩
  rw [decide_eq_false h4,decide_eq_true h5]
  rfl
theorem Leads.trans {g : Nat → List Nat} : ∀ {ps qs : List (Nat × Nat)} {c d e : List Nat},Leads g c ps d → Leads g d qs e → Leads g c (ps ++ qs) e
  | [],qs,c,d,e,h,h' => by
    cases (show c = d from h)
    exact h'
  | q :: ps,qs,c,d,e,h,h' => ⟨h.1,Leads.trans h.2 h'⟩
theorem exBy_cons {g : Nat → List Nat} {x : Nat} {c : List Nat} {pl y : Nat} (h : (pl,y) ∈ exBy g c) : (pl + 1,y) ∈ exBy g (x :: c):=by
  obtain ⟨h1,h2,h3,h4,h5⟩:=mem_exBy h
  obtain ⟨k,rfl⟩ : ∃ k,pl = k + 1:=⟨pl - 1,by omega⟩
  exact exBy_mem (by omega) (by rw [List.length_cons]; omega) h3 h4 h5
theorem Leads.cons {g : Nat → List Nat} {x : Nat} : ∀ {ps : List (Nat × Nat)} {c d : List Nat},Leads g c ps d → Leads g (x :: c) (ps.map fun e => (e.1 + 1,e.2)) (x :: d)
  | [],c,d,h => by
    cases (show c = d from h)
    exact rfl
  | q :: ps,c,d,h => ⟨exBy_cons h.1,Leads.cons h.2⟩
theorem climb_ex {M : List Nat} (hM : Ev.Lat M) {b : Nat} (hb : b < M.length) : ∀ (k a : Nat),upC M.length (Ev.leM M) a ≤ k → a < M.length → Ev.leM M a b = true → ∃ c,Cl.IsC (gA M.length (Ev.leM M)) b a c
  | 0,a,hk,ha,_ => absurd (up_pos (lat_good hM) ha) (by omega)
  | k + 1,a,hk,ha,hab => by
    by_cases e : a = b
    · subst e
      exact ⟨[a],Cl.isC_one⟩
    · obtain ⟨d,hd,hs,hdb⟩:=cover_ex hM (b:=b) ha (M.getD b 0) b (Nat.le_refl _) hb (by unfold belR; rw [hab]; simp [e]) (Ev.leM_refl _ _)
      have hg : d ∈ gA M.length (Ev.leM M) a:=mem_gA.mpr ⟨ha,hd,hs⟩
      have hu:=up_lt (lat_good hM) _ _ hg
      obtain ⟨c,hc⟩:=climb_ex hM hb k d (by omega) hd hdb
      exact ⟨a :: c,Cl.isC_cons hc hg⟩
theorem isC_split {g : Nat → List Nat} {b a : Nat} {c : List Nat} (h : Cl.IsC g b a c) (hab : a ≠ b) : ∃ x r,c = a :: x :: r ∧ x ∈ g a ∧ Cl.IsC g b x (x :: r):=by
  match c,h with
  | [],h => cases h.hd
  | [y],h =>
    have e1:=h.hd
    have e2:=h.last
    cases e1
    cases e2
    exact absurd rfl hab
  | y :: x :: r,h =>
    have e1:=h.hd
    cases e1
    obtain ⟨h1,h2⟩:=Cl.isC_tail h
    exact ⟨x,r,rfl,h2,h1⟩
theorem connect {M : List Nat} (hM : Ev.Lat M) {J N : Nat → Nat → Nat} (E : Md M.length (Ev.leM M) J N) {b : Nat} (hb : b < M.length) : ∀ (k a : Nat) (c c' : List Nat),upC M.length (Ev.leM M) a ≤ k → a < M.length → Cl.IsC (gA M.length (Ev.leM M)) b a c → Cl.IsC (gA M.length (Ev.leM M)) b a c' → ∃ ps,Leads (gA M.length (Ev.leM M)) c ps c'
  | 0,a,c,c',hk,ha,_,_ => absurd (up_pos (lat_good hM) ha) (by omega)
  | k + 1,a,c,c',hk,ha,h,h' => by
    have G:=lat_good hM
    by_cases e : a = b
    · subst e
      have one : ∀ {c : List Nat},Cl.IsC (gA M.length (Ev.leM M)) a a c → c = [a]:=fun {c} h => by
        match c,h with
        | [],h => cases h.hd
        | [y],h => cases h.hd; rfl
        | y :: x :: r,h =>
          have e1:=h.hd
          cases e1
          obtain ⟨h1,h2⟩:=Cl.isC_tail h
          have h3:=isC_leG G h1 (mem_gA.mp h2).2.1
          obtain ⟨q1,q2,q3⟩:=step_iff.mp (mem_gA.mp h2).2.2
          exact absurd (G.anti _ _ ha (mem_gA.mp h2).2.1 q2 h3.2) q1
      exact ⟨[],by rw [one h,one h']; exact rfl⟩
    · obtain ⟨x,r,rfl,hx,hc⟩:=isC_split h e
      obtain ⟨y,r',rfl,hy,hc'⟩:=isC_split h' e
      obtain ⟨_,hxn,hxs⟩:=mem_gA.mp hx
      obtain ⟨_,hyn,hys⟩:=mem_gA.mp hy
      have ux:=up_lt G _ _ hx
      have uy:=up_lt G _ _ hy
      by_cases exy : x = y
      · subst exy
        obtain ⟨ps,hp⟩:=connect hM E hb k x _ _ (by omega) hxn hc hc'
        exact ⟨_,hp.cons⟩
      · obtain ⟨x1,x2,x3⟩:=step_iff.mp hxs
        obtain ⟨y1,y2,y3⟩:=step_iff.mp hys
        have hN : N x y = a:=by
          have m1:=E.ml hxn hyn
          have m2:=E.mle hxn hyn ha x2 y2
          rcases x3 _ (E.mlt hxn hyn) m2 m1.1 with q | q
          · exact q
          · rw [q] at m1
            rcases y3 _ hxn x2 m1.2 with q' | q'
            · exact absurd q'.symm x1
            · exact absurd q' exy
        have sy : stepR M.length (Ev.leM M) y (J x y) = true:=E.up hxn hyn (by rw [hN]; exact hxs)
        have sx : stepR M.length (Ev.leM M) x (J x y) = true:=by
          have:=E.up hyn hxn (by rw [E.mc hyn hxn,hN]; exact hys)
          rw [E.jc hyn hxn] at this
          exact this
        have hz:=E.jlt hxn hyn
        have hzb:=E.jle hxn hyn hb (isC_leG G hc hxn).2 (isC_leG G hc' hyn).2
        have gx : J x y ∈ gA M.length (Ev.leM M) x:=mem_gA.mpr ⟨hxn,hz,sx⟩
        have gy : J x y ∈ gA M.length (Ev.leM M) y:=mem_gA.mpr ⟨hyn,hz,sy⟩
        obtain ⟨d,hd⟩:=climb_ex hM hb _ (J x y) (Nat.le_refl _) hz hzb
        obtain ⟨p1,h1⟩:=connect hM E hb k x _ (x :: d) (by omega) hxn hc (Cl.isC_cons hd gx)
        obtain ⟨p2,h2⟩:=connect hM E hb k y (y :: d) _ (by omega) hyn (Cl.isC_cons hd gy) hc'
        obtain ⟨z,d',rfl⟩ : ∃ z d',d = z :: d':=by
          match d,hd with
          | [],hd => cases hd.hd
          | z :: d',_ => exact ⟨z,d',rfl⟩
        have ez : z = J x y:=by have:=hd.hd; cases this; rfl
        subst ez
        have mid : Leads (gA M.length (Ev.leM M)) (a :: x :: J x y :: d') [(1,y)] (a :: y :: J x y :: d') :=
          ⟨exBy_mem (by omega) (by simp) hy (Ne.symm exy) gy,rfl⟩
        exact ⟨_,h1.cons.trans (mid.trans h2.cons)⟩
theorem seqCutI {ι : Type} {t u : TS} {D : Ends} {σ : L2.St} {H : Hp} (C : ι → Hp → Prop) (sg : ι → L2.St) (main : ∀ D' : Ends,D'.rt = D.rt → (∀ i H',C i H' → D'.nx (sg i) H') → t D' σ H) (rest : ∀ i H',C i H' → u D (sg i) H') : tSeq t u D σ H :=
  main { D with nx:=u D } rfl rest
theorem LN.other' {H : Hp} {L : Addr} {o : HO} : ∀ {ys : List V} {M : List (List Nat)},LN H ys M → (∀ y ∈ ys,y ≠ .ref L) → LN (upd H L o) ys M
  | _,_,.nil,_ => .nil
  | _,_,.cons ⟨b,e,q⟩ t,h => .cons ⟨b,e,by rw [upd_ne (fun z => h _ List.mem_cons_self (by rw [e,z]))]; exact q⟩ (LN.other' t fun y hy => h y (List.mem_cons_of_mem _ hy))
theorem put_at' {H : Hp} {a : Addr} {o : HO} (_ : H a = none) : upd H a o a = some o:=upd_same
theorem take_in {α : Type} {l : List α} {i : Nat} {c x : α} (hi : l[i]? = some c) (h : x ∈ l.take (i + 1)) : x ∈ l.take i ∨ x = c:=by
  rw [List.take_succ,hi,List.mem_append] at h
  rcases h with h | h
  · exact .inl h
  · exact .inr (by simpa using h)
structure Aft (H H2 : Hp) (L : Addr) (g : Nat → List Nat) (cs : List Nat) (ys : List V) (ds : List (List Nat)) (k : Nat) : Prop where
  sm : Same H H2
  l : H2 L = some (.lst ys)
  ln : LN H2 ys ds
  ny : ∀ y ∈ ys,y ≠ .ref L
  ex : ∀ d ∈ ds,∃ e ∈ exBy g cs,d = cs.set e.1 e.2
  len : ds.length ≤ k
theorem Aft.same {H H2 H3 : Hp} {L : Addr} {g : Nat → List Nat} {cs : List Nat} {ys : List V} {ds : List (List Nat)} {k : Nat} (s : Same H2 H3) (h : Aft H H2 L g cs ys ds k) : Aft H H3 L g cs ys ds k :=
  ⟨h.sm.trans s,s _ _ h.l,h.ln.same s,h.ny,h.ex,h.len⟩
theorem Aft.more {H H2 : Hp} {L : Addr} {g : Nat → List Nat} {cs : List Nat} {ys : List V} {ds : List (List Nat)} {k k' : Nat} (h : Aft H H2 L g cs ys ds k) (hk : k ≤ k') : Aft H H2 L g cs ys ds k' :=
  ⟨h.sm,h.l,h.ln,h.ny,h.ex,Nat.le_trans h.len hk⟩
section
variable {P : Program} {w : World} {K : PySem.W.Frag} {mg : Str → Option Value} {base : Heap} {f : Addr} {fd : FuncData}
abbrev s_law_after : Stmt:=top 63
theorem sc_law_after : FnScope ["_law_known","_law_climb_here","_law_count","_law_found","_law_place","_law_low","_law_thing","_law_good"] ["_law_known","_law_climb_here","_law_count"] (defScope s_law_after):=⟨rfl,rfl,rfl,by decide +kernel,rfl,by decide +kernel,by decide +kernel⟩
def sp_after32 (K : PySem.W.Frag) : Sp:=fun vs H Q _ => ∃ (kn t : Nat) (M : List Nat) (us : List V) (cs : List Nat),vs = [.ref kn,.ref t,.int (M.length : Int)] ∧ Ev.Lat M ∧ SqL K H kn us ∧ Paired (pairV H) (stepsM M) us ∧ us.length ≤ 576 ∧ SqL K H t (cs.map nV) ∧ cs.length ≤ 100 ∧ (∀ x ∈ cs,x < M.length) ∧
  ∀ L ys ds H',H L = none → Aft H H' L (gA M.length (Ev.leM M)) cs ys ds 60000 → (∀ e ∈ exBy (gA M.length (Ev.leM M)) cs,cs.set e.1 e.2 ∈ ds) → Q (.ref L) H'
theorem ok_after32 (F : Fun K "_law_after" "_law_after" s_law_after f fd) (T : Txt mg) : FnOk P w K mg base CX0 2 f fd ["_law_known","_law_climb_here","_law_count"] (sp_after32 K):=by
  refine F.ok sc_law_after (fun vs H Q E h => ?_) (fun cdv A outer s H vs Q E hr h => ?_)
  · obtain ⟨kn,t,M,us,cs,rfl,_⟩:=h
    rfl
  · obtain ⟨kn,t,M,us,cs,rfl,hM,hkn,hkp,hul,hT,hcl,hc,kk⟩:=h
    have nd:=sc_law_after.nd
    have hu0:=hr.units
    have hu2 : (A.deeper (envOfC "_law_after" (defScope s_law_after) s.heap.objs.size f cdv)).units + 1 + 1 < cLine:=by omega
    have hpl : us.length = (stepsM M).length:=(Paired.length hkp).symm
    refine ⟨_,(pss_cons (ps_set (i:=3) nd rfl (Or.inl rfl) (pe_lst pa_nil))
      (pss_cons (ps_for PassesOwn.never rfl (pi_range2 rfl T.range (pa_cons pe_int (pa_cons (pe_op op_sub (pe_callB (call_lenK (K:=K) rfl) rfl T.len PySem.boot_len (pa_cons (pv 1) pa_nil)) pe_int) pa_nil))) (pg_name (i:=4) nd rfl (Or.inl rfl))
      (pss_one (ps_for PassesOwn.never rfl (pi_listK (K:=K) rfl (pv 0)) (pg_pair (K:=K) (i:=5) (j:=6) rfl rfl nd rfl rfl rfl rfl)
      (pss_cons (ps_set (i:=7) nd rfl (Or.inl rfl) (pe_and (pe_cmpR op_eq (pv 5) (pe_ix (ix_listK (K:=K) rfl) (pv 1) (pe_op op_sub (pv 4) pe_int) (fun _ _ => rfl)) (nomark _)) (pe_one (pe_cmpR (op_inT (K:=K) 1 rfl hu2) (pe_tup (pa_cons (pv 6) (pa_cons (pe_ix (ix_listK (K:=K) rfl) (pv 1) (pe_op op_add (pv 4) pe_int) (fun _ _ => rfl)) pa_nil))) (pv 0) (by with_unfolding_all rfl)))))
      (pss_one (ps_if (PW.pt (pw_and (pt_val (pv 7)) (pw_and1 (pt_cmpR op_ne (pv 6) (pe_ix (ix_listK (K:=K) rfl) (pv 1) (pv 4) (fun _ _ => rfl)) (nomark _))))) (pss_one (ps_expr (pe_bmK (K:=K) rfl PySem.F.plainAttrs_list PySem.F.slot_list_append PySem.F.type_list_append mt_append (pv 3) (pa_cons (pe_op op_cat (pe_op op_cat (pe_slice (sl_listK (K:=K) rfl) (pv 1) po_none (po_some (pv 4))) (pe_lst (pa_cons (pv 6) pa_nil))) (pe_slice (sl_listK (K:=K) rfl) (pv 1) (po_some (pe_op op_add (pv 4) pe_int)) po_none)) pa_nil)))) pss_nil))))))
      (pss_one (ps_ret (pv 3))))),?_⟩
    refine ⟨by show 0 ≤ sizeLine; decide,fun L hL => ?_⟩
    have sL:=Same.put (o:=.lst []) hL
    refine ⟨_,rfl,t,_,rfl,.inl (sL.seq hT),_,_,rfl,rfl,1,((cs.map nV).length : Int) - 1,rfl,⟨by omega,by omega,by omega,by rw [List.length_map]; omega⟩,?_⟩
    have en : (((cs.map nV).length : Int) - 1 - 1).toNat = cs.length - 2:=by rw [List.length_map]; omega
    refine for_range (lo:=1) (n:=(((cs.map nV).length : Int) - 1 - 1).toNat) (fun i σ H2 => ∃ v4 v5 v6 v7 ys ds,σ = [some (.ref kn),some (.ref t),some (.int (M.length : Int)),some (.ref L),v4,v5,v6,v7] ∧ Aft H H2 L (gA M.length (Ev.leM M)) cs ys ds (576 * i) ∧ ∀ e ∈ exBy (gA M.length (Ev.leM M)) cs,e.1 < 1 + i → cs.set e.1 e.2 ∈ ds)
      ⟨none,none,none,none,[],[],rfl,⟨sL,upd_same,.nil,(fun y hy => nomatch hy),(fun d hd => nomatch hd),Nat.zero_le _⟩,fun e he hlt => absurd (mem_exBy (pl:=e.1) (x:=e.2) he).1 (by omega)⟩ ?_ ?_
    · rintro i σ H2 hi ⟨v4,v5,v6,v7,ys,ds,rfl,hA,hin⟩
      rw [en] at hi
      have ei : (1 : Int) + (i : Int) = ((1 + i : Nat) : Int):=by omega
      rw [ei]
      have em : ((1 + i : Nat) : Int) - 1 = (i : Int):=by omega
      have ep : ((1 + i : Nat) : Int) + 1 = ((i + 2 : Nat) : Int):=by omega
      have g0 : (cs.map nV)[i]? = some (nV (cs.getD i 0)):=nV_get (by omega)
      have g1 : (cs.map nV)[1 + i]? = some (nV (cs.getD (1 + i) 0)):=nV_get (by omega)
      have g2 : (cs.map nV)[i + 2]? = some (nV (cs.getD (i + 2) 0)):=nV_get (by omega)
      refine ⟨_,rfl,kn,rfl,⟨_,hA.sm.seq hkn⟩,for_list (K:=K) (a:=kn) (xs:=us) (fun j σ H3 => ∃ v5 v6 v7 ys ds,σ = [some (.ref kn),some (.ref t),some (.int (M.length : Int)),some (.ref L),some (.int ((1 + i : Nat) : Int)),v5,v6,v7] ∧ Aft H H3 L (gA M.length (Ev.leM M)) cs ys ds (576 * i + j) ∧ (∀ e ∈ exBy (gA M.length (Ev.leM M)) cs,e.1 < 1 + i → cs.set e.1 e.2 ∈ ds) ∧ ∀ q ∈ (stepsM M).take j,(1 + i,q.2) ∈ exBy (gA M.length (Ev.leM M)) cs → q.1 = cs.getD i 0 → cs.set (1 + i) q.2 ∈ ds)
        ⟨v5,v6,v7,ys,ds,rfl,hA,hin,fun q hq => by simp at hq⟩ (fun j σ H3 _ ⟨_,_,_,_,_,_,hA3,_⟩ => hA3.sm.seq hkn) ?_ ?_⟩
      · rintro j y σ H3 hy ⟨w5,w6,w7,ys3,ds3,rfl,hA3,hin3,hq3⟩
        obtain ⟨q,hqj,tq,rfl,gq⟩:=paired_get (pairsV.same hA3.sm hkp) hy
        have hqm : q ∈ stepsM M:=List.mem_of_getElem? hqj
        have hj : j < us.length:=(List.getElem?_eq_some_iff.mp hy).1
        have hT3:=hA3.sm.seq hT
        refine ⟨tq,_,rfl,SqT.of gq,rfl,_,_,rfl,_,_,rfl,rfl,?_⟩
        dsimp only [gName]
        show tSeq _ _ _ [some (.ref kn),some (.ref t),some (.int (M.length : Int)),some (.ref L),some (.int ((1 + i : Nat) : Int)),some (.int (q.1 : Int)),some (.int (q.2 : Int)),w7] H3
        refine seqCutI (ι:=Bool) (fun gd H' => Same H3 H' ∧ gd = (decide (q.1 = cs.getD i 0) && decide ((q.2,cs.getD (i + 2) 0) ∈ stepsM M))) (fun gd => [some (.ref kn),some (.ref t),some (.int (M.length : Int)),some (.ref L),some (.int ((1 + i : Nat) : Int)),some (.int (q.1 : Int)),some (.int (q.2 : Int)),some (.bl gd)]) (fun D' hrt hD' => ?_) ?_
        · refine ⟨_,rfl,_,rfl,_,rfl,_,_,rfl,rfl,t,_,_,nV (cs.getD i 0),rfl,rfl,hT3,by rw [em]; exact atI_nat g0,rfl,_,rfl,?_⟩
          have ed : decide (V.int (q.1 : Int) = nV (cs.getD i 0)) = decide (q.1 = cs.getD i 0):=by
            apply decide_eq_decide.mpr
            constructor
            · intro h; injection h with h; omega
            · intro h; rw [h]
          rw [ed]
          cases e1 : decide (q.1 = cs.getD i 0) with
          | false => exact iteF (hD' false H3 ⟨Same.refl _,by rw [e1]; rfl⟩)
          | true =>
            refine iteT ⟨_,rfl,_,rfl,_,rfl,_,_,rfl,rfl,t,_,_,nV (cs.getD (i + 2) 0),rfl,rfl,hT3,by rw [ep]; exact atI_nat g2,by show 2 ≤ sizeLine; decide,fun p hp => ?_⟩
            have sp:=Same.put (o:=.tup [.int (q.2 : Int),nV (cs.getD (i + 2) 0)]) hp
            have hkp4:=pairsV.same (hA3.sm.trans sp) hkp
            refine ⟨_,rfl,kn,us,pairEq _ q.2 (cs.getD (i + 2) 0),rfl,(hA3.sm.trans sp).seq hkn,pairs_ref hkp4,pairs_eqV (SqT.of upd_same) hkp4,?_⟩
            rw [if_neg Bool.false_ne_true,pairs_any _ _ hkp4]
            exact hD' _ _ ⟨sp,by rw [e1]; rfl⟩
        · rintro gd H4 ⟨s4,hgd⟩
          have hA4:=hA3.same s4
          have hT4:=s4.seq hT3
          have keep : (∀ e : (1 + i,q.2) ∈ exBy (gA M.length (Ev.leM M)) cs,q.1 = cs.getD i 0 → cs.set (1 + i) q.2 ∈ ds3) → ∃ v5 v6 v7 ys ds,[some (V.ref kn),some (.ref t),some (.int (M.length : Int)),some (.ref L),some (.int ((1 + i : Nat) : Int)),some (.int (q.1 : Int)),some (.int (q.2 : Int)),some (.bl gd)] = [some (.ref kn),some (.ref t),some (.int (M.length : Int)),some (.ref L),some (.int ((1 + i : Nat) : Int)),v5,v6,v7] ∧ Aft H H4 L (gA M.length (Ev.leM M)) cs ys ds (576 * i + (j + 1)) ∧ (∀ e ∈ exBy (gA M.length (Ev.leM M)) cs,e.1 < 1 + i → cs.set e.1 e.2 ∈ ds) ∧ ∀ q ∈ (stepsM M).take (j + 1),(1 + i,q.2) ∈ exBy (gA M.length (Ev.leM M)) cs → q.1 = cs.getD i 0 → cs.set (1 + i) q.2 ∈ ds:=fun hk => by
            refine ⟨_,_,_,ys3,ds3,rfl,hA4.more (by omega),hin3,fun q' hq' h1 h2 => ?_⟩
            rcases take_in hqj hq' with h | rfl
            · exact hq3 q' h h1 h2
            · exact hk h1 h2
          have exq : ∀ e : (1 + i,q.2) ∈ exBy (gA M.length (Ev.leM M)) cs,q.2 ≠ cs.getD (1 + i) 0 ∧ (q.2,cs.getD (i + 2) 0) ∈ stepsM M:=fun e => by
            obtain ⟨_,_,_,h4,h5⟩:=mem_exBy e
            have e2 : 1 + i + 1 = i + 2:=by omega
            rw [e2] at h5
            exact ⟨h4,(mem_stepsM_iff hM).mpr (mem_gA.mp h5)⟩
          refine ⟨_,rfl,gd,rfl,?_⟩
          cases gd with
          | false =>
            refine iteF (keep fun e h1 => ?_)
            rw [decide_eq_true h1,decide_eq_true (exq e).2] at hgd
            cases hgd
          | true =>
            have hgd:=hgd.symm
            rw [Bool.and_eq_true,decide_eq_true_iff,decide_eq_true_iff] at hgd
            refine iteT ⟨_,rfl,_,rfl,_,rfl,t,_,_,nV (cs.getD (1 + i) 0),rfl,rfl,hT4,atI_nat g1,rfl,_,rfl,ite2 (fun h => ?_) (fun h => ?_)⟩
            · have hne : q.2 ≠ cs.getD (1 + i) 0:=fun e => by rw [e] at h; simp at h
              have s1:=(mem_stepsM_iff hM).mp hqm
              have s2:=(mem_stepsM_iff hM).mp hgd.2
              have hex : (1 + i,q.2) ∈ exBy (gA M.length (Ev.leM M)) cs:=exBy_mem (by omega) (by omega) (by rw [show 1 + i - 1 = i by omega,← hgd.1]; exact mem_gA.mpr s1) hne (by rw [show 1 + i + 1 = i + 2 by omega]; exact mem_gA.mpr s2)
              refine ⟨_,rfl,.inl ⟨rfl,_,SqL.of hA4.l⟩,_,rfl,_,rfl,_,rfl,t,_,rfl,hT4,fun q1 hq1 => ?_⟩
              rw [cutToI]
              refine ⟨_,rfl,by show 1 ≤ sizeLine; decide,fun q2 hq2 => ?_⟩
              refine ⟨q1,q2,_,_,rfl,rfl,Same.put hq2 _ _ upd_same,upd_same,by rw [List.length_map,List.length_take]; exact Nat.le_of_lt (small1000 (by show min (1 + i) cs.length + 1 ≤ 1000; omega)),fun q3 hq3' => ?_⟩
              have t3 : Same H4 (upd (upd (upd H4 q1 (.lst ((cs.take (1 + i)).map nV))) q2 (.lst [.int (q.2 : Int)])) q3 (.lst ((cs.take (1 + i)).map nV ++ [.int (q.2 : Int)]))):=((Same.put hq1).trans (Same.put hq2)).trans (Same.put hq3')
              refine ⟨_,rfl,_,rfl,_,_,rfl,rfl,_,rfl,t,_,rfl,t3.seq hT4,fun q4 hq4 => ?_⟩
              rw [show ((1 + i : Nat) : Int) + 1 = ((1 + i + 1 : Nat) : Int) by omega,cutFromI]
              refine ⟨q3,q4,_,_,rfl,rfl,Same.put hq4 _ _ upd_same,upd_same,by rw [List.length_append,List.length_map,List.length_map,List.length_take,List.length_drop]; exact Nat.le_of_lt (small1000 (by show min (1 + i) cs.length + 1 + _ ≤ 1000; omega)),fun q5 hq5 => ?_⟩
              have t5:=(t3.trans (Same.put hq4)).trans (Same.put (o:=.lst ((cs.take (1 + i)).map nV ++ [.int (q.2 : Int)] ++ (cs.drop (1 + i + 1)).map nV)) hq5)
              have e5 : (cs.take (1 + i)).map nV ++ [.int (q.2 : Int)] ++ (cs.drop (1 + i + 1)).map nV = (cs.set (1 + i) q.2).map nV:=by
                rw [← set_cut (by omega),List.map_append,List.append_assoc]
                rfl
              have f5:=(t3.trans (Same.put hq4)).free hq5
              have g5:=(put_at' (o:=.lst ((cs.take (1 + i)).map nV ++ [.int (q.2 : Int)] ++ (cs.drop (1 + i + 1)).map nV)) hq5).trans (congrArg (fun l => some (HO.lst l)) e5)
              generalize upd (upd (upd (upd (upd H4 q1 _) q2 _) q3 _) q4 _) q5 _ = H5 at t5 g5 ⊢
              have hA5:=hA4.same t5
              have hqL : q5 ≠ L:=fun z => by
                have:=hA4.l
                rw [← z,f5] at this
                cases this
              have hyl : ys3.length = ds3.length:=hA5.ln.length
              have hdl:=hA5.len
              refine ⟨L,ys3,.ref q5,rfl,rfl,hA5.l,slk (by omega),?_⟩
              have ny6 : ∀ y ∈ ys3 ++ [V.ref q5],y ≠ .ref L:=fun y hy => by
                rcases List.mem_append.mp hy with hy | hy
                · exact hA5.ny y hy
                · have : y = .ref q5:=by simpa using hy
                  rw [this]
                  intro z
                  injection z with z
                  exact hqL z
              refine ⟨_,_,_,ys3 ++ [.ref q5],ds3 ++ [cs.set (1 + i) q.2],rfl,⟨fun b o e => ?_,upd_same,LN.other' (LN.append hA5.ln (.cons ⟨q5,rfl,g5⟩ .nil)) ny6,ny6,fun d hd => ?_,?_⟩,fun e he hlt => List.mem_append_left _ (hin3 e he hlt),fun q' hq' h1 h2 => ?_⟩
              · rw [upd_ne (ne_of_none e hL)]
                exact hA5.sm _ _ e
              · rcases List.mem_append.mp hd with hd | hd
                · exact hA5.ex d hd
                · exact ⟨(1 + i,q.2),hex,by simpa using hd⟩
              · rw [List.length_append,List.length_singleton]
                omega
              · rcases take_in hqj hq' with h | rfl
                · exact List.mem_append_left _ (hq3 q' h h1 h2)
                · exact List.mem_append_right _ (by simp)
            · have heq : q.2 = cs.getD (1 + i) 0:=by
                apply Decidable.byContradiction
                intro z
                apply h
                simp only [Bool.not_eq_true',decide_eq_false_iff_not]
                intro w
                injection w with w
                omega
              exact keep fun e _ => absurd heq (exq e).1
      · rintro σ H3 ⟨w5,w6,w7,ys3,ds3,rfl,hA3,hin3,hq3⟩
        refine ⟨_,_,_,_,ys3,ds3,rfl,hA3.more (by omega),fun e he hlt => ?_⟩
        by_cases h : e.1 < 1 + i
        · exact hin3 e he h
        · have e1 : e.1 = 1 + i:=by omega
          obtain ⟨_,_,h3,_,_⟩:=mem_exBy (pl:=e.1) (x:=e.2) he
          rw [e1,show 1 + i - 1 = i by omega] at h3
          have hs:=(mem_stepsM_iff hM).mpr (mem_gA.mp h3)
          rw [e1]
          refine hq3 (cs.getD i 0,e.2) ?_ (by rw [← e1]; exact he) rfl
          rw [hpl,List.take_length]
          exact hs
    · rintro σ H2 ⟨v4,v5,v6,v7,ys,ds,rfl,hA,hin⟩
      rw [en] at hA hin
      exact ⟨_,rfl,kk L ys ds H2 hL (hA.more (by omega)) fun e he => hin e he (by have:=(mem_exBy (pl:=e.1) (x:=e.2) he).2.1; omega)⟩
end
theorem Leads.isC {g : Nat → List Nat} {b a : Nat} {ps : List (Nat × Nat)} {c d : List Nat} (h : Leads g c ps d) (hc : Cl.IsC g b a c) : Cl.IsC g b a d :=
  Leads.stays (S:=Cl.IsC g b a) (fun c hc e he => exch_isC (pl:=e.1) (x:=e.2) hc he) h hc
theorem ne_things {H : Hp} {L b : Addr} {ys : List V} {ds : List (List Nat)} {d : List Nat} (hl : H L = some (.lst ys)) (ln : LN H ys ds) (hn : ds ≠ []) (hb : H b = some (.lst (d.map nV))) : b ≠ L:=fun z => by
  rw [z,hl] at hb
  injection hb with hb
  injection hb with hb
  cases ln with
  | nil => exact hn rfl
  | cons h t =>
    obtain ⟨b',e,_⟩:=h
    cases d with
    | nil => cases hb
    | cons x r =>
      rw [List.map_cons,e] at hb
      injection hb with hb
      cases hb
structure Com (H H2 : Hp) (L : Addr) (n : Nat) (R : Nat → Nat → Bool) (cs : List Nat) (ys : List V) (ds : List (List Nat)) : Prop where
  sm : Same H H2
  l : H2 L = some (.lst ys)
  ln : LN H2 ys ds
  nd : ds.Nodup
  rc : ∀ d ∈ ds,∃ ps,Leads (gA n R) cs ps d
  one : cs ∈ ds
theorem Com.same {H H2 H3 : Hp} {L : Addr} {n : Nat} {R : Nat → Nat → Bool} {cs : List Nat} {ys : List V} {ds : List (List Nat)} (s : Same H2 H3) (h : Com H H2 L n R cs ys ds) : Com H H3 L n R cs ys ds :=
  ⟨h.sm.trans s,s _ _ h.l,h.ln.same s,h.nd,h.rc,h.one⟩
theorem Com.ne {H H2 : Hp} {L : Addr} {n : Nat} {R : Nat → Nat → Bool} {cs : List Nat} {ys : List V} {ds : List (List Nat)} (h : Com H H2 L n R cs ys ds) {b : Addr} {d : List Nat} (hb : H2 b = some (.lst (d.map nV))) : b ≠ L :=
  ne_things h.l h.ln (fun z => by have:=h.one; rw [z] at this; cases this) hb
theorem Com.len {H H2 : Hp} {L : Addr} {n : Nat} {R : Nat → Nat → Bool} (G : Good n R) {cs : List Nat} {ys : List V} {ds : List (List Nat)} {b a : Nat} (hC : Cl.IsC (gA n R) b a cs) (h : Com H H2 L n R cs ys ds) : ds.length ≤ waysR n R b a :=
  nodup_len h.nd (l2:=climbsR n R b a) fun d hd => (mem_climbsR G).mpr (let ⟨_,q⟩:=h.rc d hd; q.isC hC)
theorem LN.keep {H : Hp} {L : Addr} {o : HO} : ∀ {ys : List V} {M : List (List Nat)},LN H ys M → (∀ (b : Addr) (d : List Nat),H b = some (.lst (d.map nV)) → b ≠ L) → LN (upd H L o) ys M
  | _,_,.nil,_ => .nil
  | _,_,.cons (b:=d) ⟨b,e,q⟩ t,h => .cons ⟨b,e,by rw [upd_ne (h b d q)]; exact q⟩ (LN.keep t h)
section
variable {P : Program} {w : World} {K : PySem.W.Frag} {mg : Str → Option Value} {base : Heap} {f : Addr} {fd : FuncData}
abbrev s_law_come : Stmt:=top 64
theorem sc_law_come : FnScope ["_law_known","_law_one","_law_count","_law_found","_law_at","_law_climb_here"] ["_law_known","_law_one","_law_count"] (defScope s_law_come):=⟨rfl,rfl,rfl,by decide +kernel,rfl,by decide +kernel,by decide +kernel⟩
def sp_come (K : PySem.W.Frag) : Sp:=fun vs H Q _ => ∃ (kn t a b : Nat) (M : List Nat) (us : List V) (cs : List Nat),vs = [.ref kn,.ref t,.int (M.length : Int)] ∧ Ev.Lat M ∧ SqL K H kn us ∧ Paired (pairV H) (stepsM M) us ∧ us.length ≤ 576 ∧ H t = some (.lst (cs.map nV)) ∧ a < M.length ∧ Cl.IsC (gA M.length (Ev.leM M)) b a cs ∧
  ∀ L ys ds H',Same H H' → H' L = some (.lst ys) → LN H' ys ds → (∀ d,d ∈ ds ↔ ∃ ps,Leads (gA M.length (Ev.leM M)) cs ps d) → Q (.ref L) H'
theorem ok_come (F : Fun K "_law_come" "_law_come" s_law_come f fd) (T : Txt mg) (c_law_after : Cal P w K mg base "_law_after" ["_law_known","_law_climb_here","_law_count"] 2 (sp_after32 K)) : FnOk P w K mg base CX0 3 f fd ["_law_known","_law_one","_law_count"] (sp_come K):=by
  refine F.ok sc_law_come (fun vs H Q E h => ?_) (fun cdv A outer s H vs Q E hr h => ?_)
  · obtain ⟨kn,t,a,b,M,us,cs,rfl,_⟩:=h
    rfl
  · obtain ⟨kn,t,a,b,M,us,cs,rfl,hM,hkn,hkp,hul,hT,ha,hC,kk⟩:=h
    have nd:=sc_law_come.nd
    have hu0:=hr.units
    have hu2 : (A.deeper (envOfC "_law_come" (defScope s_law_come) s.heap.objs.size f cdv)).units + 1 + 1 < cLine:=by omega
    have G:=lat_good hM
    refine ⟨_,(pss_cons (ps_set (i:=3) nd rfl (Or.inl rfl) (pe_lst (pa_cons (pv 1) pa_nil)))
      (pss_cons (ps_set (i:=4) nd rfl (Or.inl rfl) pe_int)
      (pss_cons (ps_while PassesOwn.never (pt_cmpR op_lt (pv 4) (pe_callB (call_lenK (K:=K) rfl) rfl T.len PySem.boot_len (pa_cons (pv 3) pa_nil)) (nomark _))
      (pss_cons (ps_for PassesOwn.never rfl (pi_listK (K:=K) rfl (pe_callC c_law_after hr rfl (pa_cons (pv 0) (pa_cons (pe_ix (ix_listK (K:=K) rfl) (pv 3) (pv 4) (fun _ _ => rfl)) (pa_cons (pv 2) pa_nil (star_of (fun _ _ h => nomatch h))) (star_of (fun _ _ h => nomatch h))) (star_of (fun _ _ h => nomatch h))))) (pg_name (i:=5) nd rfl (Or.inl rfl))
      (pss_one (ps_if (pt_cmpR (op_notInT (K:=K) 1 rfl hu2) (pv 5) (pv 3) (by with_unfolding_all rfl)) (pss_one (ps_expr (pe_bmK (K:=K) rfl PySem.F.plainAttrs_list PySem.F.slot_list_append PySem.F.type_list_append mt_append (pv 3) (pa_cons (pv 5) pa_nil)))) pss_nil)))
      (pss_one (ps_set (i:=4) nd rfl (Or.inl rfl) (pe_op op_add (pv 4) pe_int)))))
      (pss_one (ps_ret (pv 3)))))),?_⟩
    refine ⟨_,rfl,by show 1 ≤ sizeLine; decide,fun L hL => ?_⟩
    have sL:=Same.put (o:=.lst [.ref t]) hL
    have one0 : ∀ d ∈ [cs],∃ ps,Leads (gA M.length (Ev.leM M)) cs ps d:=fun d hd => ⟨[],(List.mem_singleton.mp hd).symm⟩
    refine ⟨fun m σ H2 => ∃ (v5 : Option V) (at' : Nat) (ys : List V) (ds : List (List Nat)),m = waysR M.length (Ev.leM M) b a - at' ∧ σ = [some (.ref kn),some (.ref t),some (.int (M.length : Int)),some (.ref L),some (.int (at' : Int)),v5] ∧ Com H H2 L M.length (Ev.leM M) cs ys ds ∧ ∀ d ∈ ds.take at',∀ e ∈ exBy (gA M.length (Ev.leM M)) d,d.set e.1 e.2 ∈ ds,⟨_,none,0,[.ref t],[cs],rfl,rfl,⟨sL,upd_same,.cons ⟨t,rfl,sL _ _ hT⟩ .nil,by simp,one0,by simp⟩,fun d hd => by simp at hd⟩,?_⟩
    rintro m σ H2 ⟨v5,at',ys,ds,rfl,rfl,hI,hcl⟩
    have hlen:=hI.len G hC
    have hyl : ys.length = ds.length:=hI.ln.length
    have hsm:=ways_small G hM.len (b:=b) ha
    refine ⟨_,rfl,_,rfl,L,ys,rfl,.inl (SqL.of hI.l),_,_,rfl,rfl,_,rfl,ite2 (fun h => ?_) (fun h => ?_)⟩
    · have hat : at' < ys.length:=by have:=of_decide_eq_true h; omega
      obtain ⟨c,ct,hci,hyi,hct⟩:=hI.ln.get hat
      have hcm : c ∈ ds:=List.mem_of_getElem? hci
      obtain ⟨pc,hpc⟩:=hI.rc c hcm
      have hcC:=hpc.isC hC
      have cN:=isC_climbN hcC ha
      have clen:=isC_len' G hcC ha
      have hup:=upC_le M.length (Ev.leM M) a
      have hm24:=hM.len
      refine ⟨_,fun σ' H' h => h,?_⟩
      refine ⟨_,rfl,_,rfl,_,rfl,L,_,_,.ref ct,rfl,rfl,SqL.of hI.l,atI_nat hyi,_,rfl,kn,ct,M,us,c,rfl,hM,hI.sm.seq hkn,pairsV.same hI.sm hkp,hul,SqL.of hct,by omega,cN.lt,fun L2 ys2 ds2 H3 hL2 hA hcomp => ?_⟩
      have hI3:=hI.same hA.sm
      have hne2 : L2 ≠ L:=fun z => by
        have:=hI.l
        rw [← z,hL2] at this
        cases this
      refine ⟨L2,rfl,⟨_,SqL.of hA.l⟩,for_list (K:=K) (a:=L2) (xs:=ys2) (fun j σ H4 => ∃ (v5 : Option V) (ys4 : List V) (more : List (List Nat)),σ = [some (.ref kn),some (.ref t),some (.int (M.length : Int)),some (.ref L),some (.int (at' : Int)),v5] ∧ Com H H4 L M.length (Ev.leM M) cs ys4 (ds ++ more) ∧ (∀ d ∈ ds2.take j,d ∈ ds ++ more) ∧ H4 L2 = some (.lst ys2) ∧ LN H4 ys2 ds2)
        ⟨v5,ys,[],rfl,by rw [List.append_nil]; exact hI3,fun d hd => by simp at hd,hA.l,hA.ln⟩ (fun j σ H4 _ ⟨_,_,_,_,_,_,q,_⟩ => SqL.of q) ?_ ?_⟩
      · rintro j y σ H4 hy ⟨w5,ys4,more,rfl,hI4,hin,q2,ln2⟩
        obtain ⟨d,dt,hdj,hyj,hdt⟩:=ln2.get (List.getElem?_eq_some_iff.mp hy).1
        rw [hy] at hyj
        cases hyj
        obtain ⟨e,he,hde⟩:=hA.ex d (List.mem_of_getElem? hdj)
        refine ⟨_,rfl,_,rfl,L,ys4,lstEq H4 d,rfl,SqL.of hI4.l,lists_ref hI4.ln,lists_eqV (SqL.of hdt) hI4.ln,_,rfl,?_⟩
        rw [if_pos rfl,lists_any d hI4.ln]
        by_cases hdm : d ∈ ds ++ more
        · rw [decide_eq_true hdm]
          refine iteF ⟨_,ys4,more,rfl,hI4,fun x hx => ?_,q2,ln2⟩
          rcases take_in hdj hx with hx | rfl
          · exact hin x hx
          · exact hdm
        · rw [decide_eq_false hdm]
          have hl4:=hI4.len G hC
          have hy4 : ys4.length = (ds ++ more).length:=hI4.ln.length
          refine iteT ⟨_,rfl,.inl ⟨rfl,_,SqL.of hI4.l⟩,_,rfl,L,ys4,.ref dt,rfl,rfl,hI4.l,big24 (by omega),?_⟩
          have nel : ∀ (b : Addr) (d : List Nat),H4 b = some (.lst (d.map nV)) → b ≠ L:=fun b d q => hI4.ne q
          refine ⟨_,ys4 ++ [.ref dt],more ++ [d],rfl,⟨fun b o e => ?_,upd_same,?_,?_,fun x hx => ?_,?_⟩,fun x hx => ?_,by rw [upd_ne hne2]; exact q2,ln2.keep nel⟩
          · rw [upd_ne (ne_of_none e hL)]
            exact hI4.sm _ _ e
          · rw [← List.append_assoc]
            exact LN.keep (LN.append hI4.ln (.cons ⟨dt,rfl,hdt⟩ .nil)) nel
          · rw [← List.append_assoc,List.nodup_append]
            refine ⟨hI4.nd,by simp,fun x hx y hy => ?_⟩
            have hy' : y = d:=by simpa using hy
            intro z
            rw [z,hy'] at hx
            exact hdm hx
          · rw [← List.append_assoc] at hx
            rcases List.mem_append.mp hx with hx | hx
            · exact hI4.rc x hx
            · have : x = d:=by simpa using hx
              rw [this,hde]
              exact ⟨_,hpc.snoc he⟩
          · rw [← List.append_assoc]
            exact List.mem_append_left _ hI4.one
          · rw [← List.append_assoc]
            rcases take_in hdj hx with hx | rfl
            · exact List.mem_append_left _ (hin x hx)
            · exact List.mem_append_right _ (by simp)
      · rintro σ H4 ⟨w5,ys4,more,rfl,hI4,hin,q2,ln2⟩
        have el : ys2.length = ds2.length:=ln2.length
        rw [el,List.take_length] at hin
        have eat : (at' : Int) + 1 = ((at' + 1 : Nat) : Int):=by omega
        refine ⟨_,rfl,_,_,rfl,rfl,waysR M.length (Ev.leM M) b a - (at' + 1),by omega,w5,at' + 1,ys4,ds ++ more,rfl,by rw [← eat]; rfl,hI4,fun x hx e he => ?_⟩
        rw [List.take_append_of_le_length (by omega)] at hx
        rcases take_in hci hx with hx | rfl
        · exact List.mem_append_left _ (hcl x hx e he)
        · exact hin _ (hcomp e he)
    · have hat : ¬ (at' : Int) < (ys.length : Int):=fun z => h (decide_eq_true z)
      rw [List.take_of_length_le (by omega)] at hcl
      refine ⟨_,rfl,kk L ys ds H2 hI.sm hI.l hI.ln fun d => ⟨hI.rc d,fun ⟨ps,hp⟩ => ?_⟩⟩
      exact Leads.stays (S:=fun x => x ∈ ds) (fun x hx e he => hcl x hx e he) hp hI.one
end
section
variable {P : Program} {w : World} {K : PySem.W.Frag} {mg : Str → Option Value} {base : Heap} {f : Addr} {fd : FuncData}
abbrev s_law_whole : Stmt:=top 48
theorem sc_law_whole : FnScope ["_law_found"] ["_law_found"] (defScope s_law_whole):=⟨rfl,rfl,rfl,by decide +kernel,rfl,by decide +kernel,by decide +kernel⟩
def sp_whole : Sp:=fun vs H Q _ => ∃ v,vs = [v] ∧ ((∃ i,v = .int i) ∨ ∃ l xs,v = .ref l ∧ H l = some (.lst xs)) ∧ ((∃ i,v = .int i) → Q (.bl true) H) ∧ ((∃ l,v = .ref l) → Q (.bl false) H)
theorem ok_whole (F : Fun K "_law_whole" "_law_whole" s_law_whole f fd) (T : Txt mg) : FnOk P w K mg base CX0 1 f fd ["_law_found"] sp_whole:=by
  refine F.ok sc_law_whole (fun vs H Q E h => ?_) (fun cdv A outer s H vs Q E hr h => ?_)
  · obtain ⟨v,rfl,_⟩:=h
    rfl
  · obtain ⟨v,rfl,hv,k1,k2⟩:=h
    have nd:=sc_law_whole.nd
    refine ⟨_,(pss_one (ps_ret (pe_and (pe_callB (call_isinstK (K:=K) "int" rfl) rfl T.isinstance boot_isinstance (pa_cons (pv 0) (pa_cons (pe_bltn (v:=.ty "int") rfl T.int bt_int rfl) pa_nil))) (pe_one (pe_not (pe_callB (call_isinstK (K:=K) "bool" rfl) rfl T.isinstance boot_isinstance (pa_cons (pv 0) (pa_cons (pe_bltn (v:=.ty "bool") rfl T.bool bt_bool rfl) pa_nil)))))))),?_⟩
    rcases hv with ⟨i,rfl⟩ | ⟨l,xs,rfl,g⟩
    · refine ⟨_,rfl,_,_,_,rfl,.int i,rfl,true,rfl,iteT ?_⟩
      exact ⟨_,rfl,_,_,_,rfl,.int i,rfl,false,rfl,k1 ⟨i,rfl⟩⟩
    · exact ⟨_,rfl,_,_,_,rfl,.lst g,rfl,false,rfl,iteF (k2 ⟨l,rfl⟩)⟩
end
section
variable {P : Program} {w : World} {K : PySem.W.Frag} {mg : Str → Option Value} {base : Heap} {f : Addr} {fd : FuncData}
abbrev s_law_leads : Stmt:=top 65
theorem sc_law_leads : FnScope ["_law_known","_law_one","_law_other","_law_told","_law_climb_here","_law_exchange","_law_place","_law_thing"] ["_law_known","_law_one","_law_other","_law_told"] (defScope s_law_leads):=⟨rfl,rfl,rfl,by decide +kernel,rfl,by decide +kernel,by decide +kernel⟩
def sp_leads (K : PySem.W.Frag) : Sp:=fun vs H Q _ => ∃ (kn t u l : Nat) (M : List Nat) (us ws : List V) (cs ds : List Nat) (ps : List (Nat × Nat)),vs = [.ref kn,.ref t,.ref u,.ref l] ∧ Ev.Lat M ∧ SqL K H kn us ∧ Paired (pairV H) (stepsM M) us ∧ H t = some (.lst (cs.map nV)) ∧ H u = some (.lst (ds.map nV)) ∧ H l = some (.lst ws) ∧ Paired (pairV H) ps ws ∧ cs.length ≤ 100 ∧ (∀ x ∈ cs,x < M.length) ∧ Leads (gA M.length (Ev.leM M)) cs ps ds ∧
  ∀ H',Same H H' → Q (.bl true) H'
theorem ok_leads (F : Fun K "_law_leads" "_law_leads" s_law_leads f fd) (T : Txt mg) (c_law_whole : Cal P w K mg base "_law_whole" ["_law_found"] 1 sp_whole) : FnOk P w K mg base CX0 2 f fd ["_law_known","_law_one","_law_other","_law_told"] (sp_leads K):=by
  refine F.ok sc_law_leads (fun vs H Q E h => ?_) (fun cdv A outer s H vs Q E hr h => ?_)
  · obtain ⟨kn,t,u,l,M,us,ws,cs,ds,ps,rfl,_⟩:=h
    rfl
  · obtain ⟨kn,t,u,l,M,us,ws,cs,ds,ps,rfl,hM,hkn,hkp,hT,hU,hl,hp,hcl,hc,hL,kk⟩:=h
    have nd:=sc_law_leads.nd
    have hu0:=hr.units
    have hu1 : (A.deeper (envOfC "_law_leads" (defScope s_law_leads) s.heap.objs.size f cdv)).units + 1 + 0 < cLine:=by omega
    have hu2 : (A.deeper (envOfC "_law_leads" (defScope s_law_leads) s.heap.objs.size f cdv)).units + 1 + 1 < cLine:=by omega
    refine ⟨_,(pss_cons (ps_set (i:=4) nd rfl (Or.inl rfl) (pe_callTy (call_listK (K:=K) rfl) rfl T.list bt_list (pa_cons (pv 1) pa_nil)))
      (pss_cons (ps_for PassesOwn.never rfl (pi_listK (K:=K) rfl (pv 3)) (pg_name (i:=5) nd rfl (Or.inl rfl))
      (pss_cons (ps_if (PW.pt (pw_or (pt_not (pt_val (pe_callB (call_isinstK (K:=K) "tuple" rfl) rfl T.isinstance boot_isinstance (pa_cons (pv 5) (pa_cons (pe_bltn (v:=.ty "tuple") rfl T.tuple bt_tuple rfl) pa_nil))))) (pw_or1 (pt_cmpR op_ne (pe_callB (call_lenK (K:=K) rfl) rfl T.len PySem.boot_len (pa_cons (pv 5) pa_nil)) pe_int (nomark _))))) (pss_one (ps_ret pe_bl)) pss_nil)
      (pss_cons (ps_asg (pv 5) (pg_tupK (K:=K) rfl rfl (pgs_cons (pg_name (i:=6) nd rfl (Or.inl rfl)) (pgs_cons (pg_name (i:=7) nd rfl (Or.inl rfl)) pgs_nil))))
      (pss_cons (ps_if (PW.pt (pw_or (pt_not (pt_val (pe_callC c_law_whole hr rfl (pa_cons (pv 6) pa_nil)))) (pw_or1 (pt_not (pt_val (pe_callC c_law_whole hr rfl (pa_cons (pv 7) pa_nil))))))) (pss_one (ps_ret pe_bl)) pss_nil)
      (pss_cons (ps_if (PW.pt (pw_or (pt_cmpR op_lt (pv 6) pe_int (nomark _)) (pw_or (pt_cmpR op_ge (pv 6) (pe_op op_sub (pe_callB (call_lenK (K:=K) rfl) rfl T.len PySem.boot_len (pa_cons (pv 4) pa_nil)) pe_int) (nomark _)) (pw_or1 (pt_cmpR op_eq (pv 7) (pe_ix (ix_listK (K:=K) rfl) (pv 4) (pv 6) (fun _ _ => rfl)) (nomark _)))))) (pss_one (ps_ret pe_bl)) pss_nil)
      (pss_cons (ps_if (PW.pt (pw_or (pt_cmpR (op_notInT (K:=K) 1 rfl hu2) (pe_tup (pa_cons (pe_ix (ix_listK (K:=K) rfl) (pv 4) (pe_op op_sub (pv 6) pe_int) (fun _ _ => rfl)) (pa_cons (pv 7) pa_nil))) (pv 0) (by with_unfolding_all rfl)) (pw_or1 (pt_cmpR (op_notInT (K:=K) 1 rfl hu2) (pe_tup (pa_cons (pv 7) (pa_cons (pe_ix (ix_listK (K:=K) rfl) (pv 4) (pe_op op_add (pv 6) pe_int) (fun _ _ => rfl)) pa_nil))) (pv 0) (by with_unfolding_all rfl))))) (pss_one (ps_ret pe_bl)) pss_nil)
      (pss_one (ps_asg (pv 7) (pg_sub (pv 4) (pv 6) set_list)))))))))
      (pss_one (ps_ret (pe_cmpR (op_eqL (K:=K) 0 rfl hu1) (pv 4) (pv 2) (nomark _)))))),?_⟩
    refine ⟨_,rfl,t,_,rfl,.inl (SqL.of hT),fun L hLn => ?_⟩
    have sL:=Same.put (o:=.lst (cs.map nV)) hLn
    refine ⟨_,rfl,l,rfl,⟨_,SqL.of (sL _ _ hl)⟩,for_list (K:=K) (a:=l) (xs:=ws) (fun i σ H2 => ∃ (v5 v6 v7 : Option V) (c : List Nat),σ = [some (.ref kn),some (.ref t),some (.ref u),some (.ref l),some (.ref L),v5,v6,v7] ∧ Same H H2 ∧ H2 L = some (.lst (c.map nV)) ∧ c.length = cs.length ∧ (∀ x ∈ c,x < M.length) ∧ Leads (gA M.length (Ev.leM M)) c (ps.drop i) ds)
      ⟨none,none,none,cs,rfl,sL,upd_same,rfl,hc,hL⟩ (fun i σ H2 _ ⟨_,_,_,_,_,s2,_⟩ => SqL.of (s2 _ _ hl)) ?_ ?_⟩
    · rintro i y σ H2 hy ⟨v5,v6,v7,c,rfl,s2,gL,hlen,hcn,hld⟩
      obtain ⟨e,hei,te,rfl,gte⟩:=paired_get (pairsV.same s2 hp) hy
      have hdr : ps.drop i = e :: ps.drop (i + 1):=by
        have hi:=(List.getElem?_eq_some_iff.mp hei)
        rw [List.drop_eq_getElem_cons hi.1,hi.2]
      rw [hdr] at hld
      obtain ⟨he,hld⟩:=hld
      obtain ⟨h1,h2,h3,h4,h5⟩:=mem_exBy (pl:=e.1) (x:=e.2) he
      have em : (e.1 : Int) - 1 = ((e.1 - 1 : Nat) : Int):=by omega
      have ep : (e.1 : Int) + 1 = ((e.1 + 1 : Nat) : Int):=by omega
      have g0 : (c.map nV)[e.1]? = some (nV (c.getD e.1 0)):=nV_get (by omega)
      have g1 : (c.map nV)[e.1 - 1]? = some (nV (c.getD (e.1 - 1) 0)):=nV_get (by omega)
      have g2 : (c.map nV)[e.1 + 1]? = some (nV (c.getD (e.1 + 1) 0)):=nV_get (by omega)
      have m1:=(mem_stepsM_iff hM).mpr (mem_gA.mp h3)
      have m2:=(mem_stepsM_iff hM).mpr (mem_gA.mp h5)
      have hen : e.2 < M.length:=(mem_gA.mp h3).2.1
      refine ⟨_,rfl,_,_,_,rfl,.tup gte,rfl,_,rfl,iteF ?_⟩
      refine ⟨_,rfl,te,_,rfl,.inr (SqT.of gte),rfl,_,rfl,iteF ?_⟩
      refine ⟨_,rfl,te,_,rfl,SqT.of gte,rfl,_,_,rfl,_,_,rfl,rfl,?_⟩
      refine ⟨_,rfl,_,rfl,.inl ⟨_,rfl⟩,fun _ => ⟨_,rfl,iteF ?_⟩,fun z => nomatch z⟩
      refine ⟨_,rfl,_,rfl,.inl ⟨_,rfl⟩,fun _ => ⟨_,rfl,iteF ?_⟩,fun z => nomatch z⟩
      refine ⟨_,rfl,_,_,rfl,rfl,_,rfl,ite2 (fun h => absurd (of_decide_eq_true h) (by omega)) (fun _ => ?_)⟩
      refine ⟨_,rfl,_,rfl,L,_,rfl,.inl (SqL.of gL),_,_,rfl,rfl,_,_,rfl,rfl,_,rfl,ite2 (fun h => absurd (of_decide_eq_true h) (by rw [List.length_map]; omega)) (fun _ => ?_)⟩
      refine ⟨_,rfl,_,rfl,_,rfl,L,_,_,nV (c.getD e.1 0),rfl,rfl,SqL.of gL,atI_nat g0,rfl,_,rfl,ite2 (fun h => ?_) (fun _ => ?_)⟩
      · have:=of_decide_eq_true h
        injection this with this
        exact absurd (by omega) h4
      refine ⟨_,rfl,_,rfl,_,_,rfl,rfl,L,_,_,nV (c.getD (e.1 - 1) 0),rfl,rfl,SqL.of gL,by rw [em]; exact atI_nat g1,_,rfl,by show 2 ≤ sizeLine; decide,fun q hq => ?_⟩
      have sq:=Same.put (o:=.tup [nV (c.getD (e.1 - 1) 0),.int (e.2 : Int)]) hq
      have t3:=s2.trans sq
      have hkp3:=pairsV.same t3 hkp
      refine ⟨_,rfl,kn,us,pairEq _ (c.getD (e.1 - 1) 0) e.2,rfl,t3.seq hkn,pairs_ref hkp3,pairs_eqV (SqT.of upd_same) hkp3,_,rfl,?_⟩
      rw [if_pos rfl,pairs_any _ _ hkp3,decide_eq_true m1]
      refine iteF ?_
      have gL3:=sq _ _ gL
      refine ⟨_,rfl,_,rfl,_,rfl,_,_,rfl,rfl,L,_,_,nV (c.getD (e.1 + 1) 0),rfl,rfl,SqL.of gL3,by rw [ep]; exact atI_nat g2,by show 2 ≤ sizeLine; decide,fun q2 hq2 => ?_⟩
      have sq2:=Same.put (o:=.tup [.int (e.2 : Int),nV (c.getD (e.1 + 1) 0)]) hq2
      have t4:=t3.trans sq2
      have hkp4:=pairsV.same t4 hkp
      refine ⟨_,rfl,kn,us,pairEq _ e.2 (c.getD (e.1 + 1) 0),rfl,t4.seq hkn,pairs_ref hkp4,pairs_eqV (SqT.of upd_same) hkp4,_,rfl,?_⟩
      rw [if_pos rfl,pairs_any _ _ hkp4,decide_eq_true m2]
      refine iteF ?_
      have gL4:=sq2 _ _ gL3
      refine ⟨_,rfl,_,rfl,_,rfl,L,_,_,e.1,rfl,rfl,gL4,ixN_nat (by rw [List.length_map]; omega),?_⟩
      refine ⟨_,_,_,c.set e.1 e.2,rfl,fun b o eb => by rw [upd_ne (ne_of_none eb hLn)]; exact t4 _ _ eb,by rw [upd_same,List.map_set],by rw [List.length_set]; exact hlen,fun x hx => ?_,hld⟩
      rcases List.mem_or_eq_of_mem_set hx with hx | rfl
      · exact hcn x hx
      · exact hen
    · rintro σ H2 ⟨v5,v6,v7,c,rfl,s2,gL,hlen,hcn,hld⟩
      have el : ws.length = ps.length:=hp.length.symm
      rw [el,List.drop_length] at hld
      cases (show c = ds from hld)
      refine ⟨_,rfl,_,rfl,eqL_nats (SqL.of gL) (SqL.of (s2 _ _ hU)) ?_⟩
      rw [decide_eq_true rfl]
      exact kk _ s2
end
def wayOf (es : Es) (c : List Nat) : List (Nat × Nat):=((es.find? fun e => decide (e.1 = c)).map (·.2)).getD []
theorem wayOf_mem {c : List Nat} {ps : List (Nat × Nat)} : ∀ {es : Es},(es.map (·.1)).Nodup → (c,ps) ∈ es → wayOf es c = ps
  | [],_,h => nomatch h
  | e :: es,nd,h => by
    rw [List.map_cons,List.nodup_cons] at nd
    unfold wayOf
    rw [List.find?_cons]
    rcases List.mem_cons.mp h with h | h
    · rw [← h]
      simp
    · have : ¬ e.1 = c:=fun z => nd.1 (by rw [z]; exact List.mem_map.mpr ⟨_,h,rfl⟩)
      rw [decide_eq_false this]
      exact wayOf_mem nd.2 h
def stepE (es : Es) (c : List Nat) (more : Es) (e : Nat × Nat) : Es:=if c.set e.1 e.2 ∈ (es ++ more).map (·.1) then more else more ++ [(c.set e.1 e.2,wayOf (es ++ more) c ++ [e])]
def spreadF (g : Nat → List Nat) (es : Es) (ns : List (List Nat)) : Es:=ns.foldl (fun more c => (exBy g c).foldl (stepE es c) more) []
theorem foldl_take {α β : Type} {f : β → α → β} {b : β} {l : List α} {i : Nat} {x : α} (h : l[i]? = some x) : (l.take (i + 1)).foldl f b = f ((l.take i).foldl f b) x:=by
  rw [List.take_succ,h,List.foldl_append]
  rfl
structure Spr (H0 H H2 : Hp) (p L : Addr) (g : Nat → List Nat) (one : List Nat) (b a : Nat) (es more : Es) (ys : List V) : Prop where
  sx : SameX p H H2
  l : H2 L = some (.lst ys)
  ln : LN H2 ys (more.map (·.1))
  wa : WayAt H0 H2 p g one b a (es ++ more)
  nw : ∀ kvs,H2 p = some (.dT kvs) → ∀ kv ∈ kvs,kv.2 ≠ .ref L
  ny : ∀ y ∈ ys,y ≠ .ref L
theorem LN.other {H : Hp} {L : Addr} {o : HO} : ∀ {ys : List V} {M : List (List Nat)},LN H ys M → (∀ y ∈ ys,y ≠ .ref L) → LN (upd H L o) ys M
  | _,_,.nil,_ => .nil
  | _,_,.cons ⟨b,e,q⟩ t,h => .cons ⟨b,e,by rw [upd_ne (fun z => h _ List.mem_cons_self (by rw [e,z]))]; exact q⟩ (LN.other t fun y hy => h y (List.mem_cons_of_mem _ hy))
theorem Spr.same {H0 H H2 H3 : Hp} {p L : Addr} {g : Nat → List Nat} {one : List Nat} {b a : Nat} {es more : Es} {ys : List V} (s : Same H2 H3) (h : Spr H0 H H2 p L g one b a es more ys) : Spr H0 H H3 p L g one b a es more ys:=by
  obtain ⟨h1,h2,h3,h4,h5,h6⟩:=h
  obtain ⟨kvs,e,_⟩:=h4.here
  refine ⟨fun x o n e => s _ _ (h1 x o n e),s _ _ h2,h3.same s,h4.same s,fun kvs' e' => ?_,h6⟩
  rw [s _ _ e] at e'
  cases e'
  exact h5 _ e
theorem mem_more {es more : Es} {x : List Nat × List (Nat × Nat)} {c : List Nat} (h : c ∈ (es ++ more).map (·.1)) : c ∈ (es ++ (more ++ [x])).map (·.1):=by
  rw [← List.append_assoc,List.map_append]
  exact List.mem_append_left _ h
theorem put_at {H : Hp} {a : Addr} {o : HO} (_ : H a = none) : upd H a o a = some o:=upd_same
theorem take_mem {α : Type} {l : List α} {i : Nat} {c x : α} (hi : l[i]? = some c) (h : x ∈ l.take (i + 1)) : x ∈ l.take i ∨ x = c:=by
  rw [List.take_succ,hi,List.mem_append] at h
  rcases h with h | h
  · exact .inl h
  · exact .inr (by simpa using h)
section
variable {P : Program} {w : World} {K : PySem.W.Frag} {mg : Str → Option Value} {base : Heap} {f : Addr} {fd : FuncData}
abbrev s_spread : Stmt:=top 42
theorem sc_spread : FnScope ["above","ways","newest","reached","climb","exchange","found"] ["above","ways","newest"] (defScope s_spread):=⟨rfl,rfl,rfl,by decide +kernel,rfl,by decide +kernel,by decide +kernel⟩
def sp_spread : Sp:=fun vs H Q _ => ∃ (D p l n a b : Nat) (H0 : Hp) (R : Nat → Nat → Bool) (one : List Nat) (es : Es) (xs : List V) (ns : List (List Nat)),vs = [.ref D,.ref p,.ref l] ∧ AbvAt H D n (gA n R) ∧ Good n R ∧ n ≤ 24 ∧ a < n ∧ (∀ x,H x = none → H0 x = none) ∧
  WayAt H0 H p (gA n R) one b a es ∧ H l = some (.lst xs) ∧ LN H xs ns ∧ (∀ c ∈ ns,c ∈ es.map (·.1)) ∧
  ∀ L ys more H',H L = none → Spr H0 H H' p L (gA n R) one b a es more ys → (∀ c ∈ ns,∀ e ∈ exBy (gA n R) c,c.set e.1 e.2 ∈ (es ++ more).map (·.1)) → more = spreadF (gA n R) es ns → Q (.ref L) H'
theorem ok_spread (F : Fun K "spread" "spread" s_spread f fd) (T : Txt mg) (c_exchanges_by : Cal P w K mg base "exchanges_by" ["above","climb"] 2 (sp_exch_by K)) (c_after_exchange : Cal P w K mg base "after_exchange" ["climb","exchange"] 1 (sp_after K)) :
    FnOk P w K mg base CX0 3 f fd ["above","ways","newest"] sp_spread:=by
  refine F.ok sc_spread (fun vs H Q E h => ?_) (fun cdv A outer s H vs Q E hr h => ?_)
  · obtain ⟨D,p,l,n,a,b,H0,R,one,es,xs,ns,rfl,_⟩:=h
    rfl
  · obtain ⟨D,p,l,n,a,b,H0,R,one,es,xs,ns,rfl,hA,G,hn,ha,h0,hW,hl,hL,hns,kk⟩:=h
    have nd:=sc_spread.nd
    have hq0:=hr.units
    have hu : (A.deeper (envOfC "spread" (defScope s_spread) s.heap.objs.size f cdv)).units + 1 < cLine:=by omega
    obtain ⟨kvs0,hp0,hk0⟩:=id hW.here
    refine ⟨_,(pss_cons (ps_set (i:=3) nd rfl (Or.inl rfl) (pe_lst pa_nil))
      (pss_cons (ps_for PassesOwn.never rfl (pi_listK (K:=K) rfl (pv 2)) (pg_name (i:=4) nd rfl (Or.inl rfl))
      (pss_one (ps_for PassesOwn.never rfl (pi_listK (K:=K) rfl (pe_callC c_exchanges_by hr rfl (pa_cons (pv 0) (pa_cons (pv 4) pa_nil)))) (pg_name (i:=5) nd rfl (Or.inl rfl))
      (pss_cons (ps_set (i:=6) nd rfl (Or.inl rfl) (pe_callC c_after_exchange hr rfl (pa_cons (pv 4) (pa_cons (pv 5) pa_nil))))
      (pss_one (ps_if (pt_cmpR (op_notInD hu) (pe_callTy (call_tupleK (K:=K) rfl) rfl T.tuple bt_tuple (pa_cons (pv 6) pa_nil)) (pv 1) (by with_unfolding_all rfl)) (pss_cons (ps_dput hu (pv 1) (pe_callTy (call_tupleK (K:=K) rfl) rfl T.tuple bt_tuple (pa_cons (pv 6) pa_nil)) (pe_op op_cat (pe_dget hu (pv 1) (pe_callTy (call_tupleK (K:=K) rfl) rfl T.tuple bt_tuple (pa_cons (pv 4) pa_nil)) (fun _ _ => rfl)) (pe_lst (pa_cons (pv 5) pa_nil))) rfl)
      (pss_one (ps_expr (pe_bmK (K:=K) rfl PySem.F.plainAttrs_list PySem.F.slot_list_append PySem.F.type_list_append mt_append (pv 3) (pa_cons (pv 6) pa_nil))))) pss_nil))))))
      (pss_one (ps_ret (pv 3))))),?_⟩
    refine ⟨by show 0 ≤ sizeLine; decide,fun L hLn => ?_⟩
    have sL:=Same.put (o:=.lst []) hLn
    refine ⟨_,rfl,l,rfl,⟨_,SqL.of (sL _ _ hl)⟩,for_list (K:=K) (a:=l) (xs:=xs) (fun i σ H2 => ∃ v4 v5 v6 ys more,σ = [some (.ref D),some (.ref p),some (.ref l),some (.ref L),v4,v5,v6] ∧ Spr H0 H H2 p L (gA n R) one b a es more ys ∧ (∀ c ∈ ns.take i,∀ e ∈ exBy (gA n R) c,c.set e.1 e.2 ∈ (es ++ more).map (·.1)) ∧ more = (ns.take i).foldl (fun more c => (exBy (gA n R) c).foldl (stepE es c) more) [])
      ⟨none,none,none,[],[],rfl,⟨sL.x p,upd_same,.nil,by rw [List.append_nil]; exact hW.same sL,?_,fun y hy => nomatch hy⟩,fun c hc => by simp at hc,rfl⟩ (fun i σ H2 _ ⟨_,_,_,_,_,_,hS,_⟩ => SqL.of (hS.sx.lst hp0 hl)) ?_ ?_⟩
    · intro kvs e kv hkv
      rw [sL _ _ hp0] at e
      cases e
      obtain ⟨i,hi,ei⟩:=List.getElem_of_mem hkv
      obtain ⟨ee,_,_,t,us,q1,_,q2,_⟩:=paired_get hk0 (show kvs0[i]? = some kv by rw [List.getElem?_eq_getElem hi,ei])
      intro z
      rw [q1] at z
      cases z
      rw [hLn] at q2
      cases q2
    · rintro i y σ H2 hy ⟨v4,v5,v6,ys,more,rfl,hS,hcl,hmo⟩
      obtain ⟨c,ct,hci,hyi,hct⟩:=hL.get (List.getElem?_eq_some_iff.mp hy).1
      rw [hy] at hyi
      cases hyi
      have hcm : c ∈ ns:=List.mem_of_getElem? hci
      have hct2:=hS.sx.lst hp0 hct
      obtain ⟨ec,hec,ece⟩:=List.mem_map.mp (hns c hcm)
      have hcC : Cl.IsC (gA n R) b a c:=by rw [← ece]; exact (hW.go ec hec).1
      have cN:=isC_climbN hcC ha
      have clen:=isC_len G hcC ha
      have hup:=upC_le n R a
      refine ⟨_,rfl,_,rfl,D,ct,n,gA n R,c,rfl,hS.sx.abv hp0 hA,gA_lt,gA_len hn,SqL.of hct2,cN.lt,by omega,fun E us H3 s3 hE qE hul hpE => ?_⟩
      have hS3:=hS.same s3
      obtain ⟨more0,em0⟩ : ∃ more0,more0 = more:=⟨_,rfl⟩
      refine ⟨_,rfl,⟨_,SqL.of qE⟩,for_list (K:=K) (a:=E) (xs:=us) (fun j σ H4 => ∃ v5 v6 ys more,σ = [some (.ref D),some (.ref p),some (.ref l),some (.ref L),some (.ref ct),v5,v6] ∧ Spr H0 H H4 p L (gA n R) one b a es more ys ∧ (∀ c ∈ ns.take i,∀ e ∈ exBy (gA n R) c,c.set e.1 e.2 ∈ (es ++ more).map (·.1)) ∧ (∀ e ∈ (exBy (gA n R) c).take j,c.set e.1 e.2 ∈ (es ++ more).map (·.1)) ∧ H4 E = some (.lst us) ∧ Paired (pairV H4) (exBy (gA n R) c) us ∧ more = ((exBy (gA n R) c).take j).foldl (stepE es c) more0)
        ⟨v5,v6,ys,more,rfl,hS3,hcl,fun e he => by simp at he,qE,hpE,em0.symm⟩ (fun j σ H4 _ ⟨_,_,_,_,_,_,_,_,q,_⟩ => SqL.of q) ?_ ?_⟩
      · rintro j y σ H4 hy4 ⟨w5,w6,ys4,more4,rfl,hS4,hcl4,hin4,qE4,hpE4,hm4⟩
        obtain ⟨pr,hprj,te,rfl,gte⟩:=paired_get hpE4 hy4
        have hpm : pr ∈ exBy (gA n R) c:=List.mem_of_getElem? hprj
        obtain ⟨m1,m2,_⟩:=mem_exBy (pl:=pr.1) (x:=pr.2) hpm
        have hct4:=hS4.sx.lst hp0 hct
        refine ⟨_,rfl,_,rfl,ct,te,pr.1,pr.2,c,rfl,SqL.of hct4,SqT.of gte,by omega,fun Fd H5 s5 hF qF => ?_⟩
        rw [set_cut (by omega)] at qF
        have hS5:=hS4.same s5
        obtain ⟨kvs5,hp5,hk5⟩:=id hS5.wa.here
        refine ⟨_,rfl,Fd,_,rfl,.inl ⟨SqL.of qF,fun T1 hT1 => ?_⟩⟩
        have sT1:=Same.put (o:=.tup ((c.set pr.1 pr.2).map nV)) hT1
        have hS6:=hS5.same sT1
        have hp6:=sT1 _ _ hp5
        refine ⟨_,rfl,p,_,rfl,DGet.t hp6 (tupKC upd_same),_,rfl,?_⟩
        by_cases hin : c.set pr.1 pr.2 ∈ (es ++ more4).map (·.1)
        · obtain ⟨_,_,_,_,ev,_⟩:=way_some hk5 hin
          rw [ev]
          refine iteF ⟨_,_,ys4,more4,rfl,hS6,hcl4,fun e he => ?_,sT1 _ _ (s5 _ _ qE4),pairsV.same (s5.trans sT1) hpE4,by rw [foldl_take hprj,← hm4]; unfold stepE; rw [if_pos hin]⟩
          rcases take_mem hprj he with he | rfl
          · exact hin4 e he
          · exact hin
        · rw [way_none hk5 hin]
          have hcin : c ∈ (es ++ more4).map (·.1):=by
            rw [List.map_append]
            exact List.mem_append_left _ (hns c hcm)
          have hct6:=sT1 _ _ (s5 _ _ hct4)
          refine iteT ⟨_,rfl,_,rfl,ct,_,rfl,.inl ⟨SqL.of hct6,fun T2 hT2 => ?_⟩⟩
          have sT2:=Same.put (o:=.tup (c.map nV)) hT2
          have s57:=sT1.trans sT2
          obtain ⟨ps,wt,wus,hpe,ev,w0,gw,hpw⟩:=way_some hk5 hcin
          refine ⟨p,.ref wt,rfl,by rw [← ev]; exact DGet.t (s57 _ _ hp5) (tupKC upd_same),?_⟩
          refine ⟨_,rfl,by show 1 ≤ sizeLine; decide,fun q hq => ?_⟩
          have s58:=s57.trans (Same.put (o:=.lst [.ref te]) hq)
          obtain ⟨_,hlead,hlen⟩:=hS5.wa.go _ hpe
          have hlen : ps.length < (es ++ more4).length:=hlen
          have hbig : (es ++ more4).length < 16777216:=Nat.lt_of_le_of_lt (hS5.wa.len G) (ways_small G hn ha)
          have hwl : wus.length = ps.length:=hpw.length.symm
          have hkl : kvs5.length = (es ++ more4).length:=hk5.length.symm
          have hyl : ys4.length = more4.length:=by rw [hS5.ln.length,List.length_map]
          have hel : (es ++ more4).length = es.length + more4.length:=List.length_append
          refine ⟨wt,q,wus,_,rfl,rfl,s58 _ _ gw,upd_same,Nat.le_of_lt (big24 (by show wus.length + 1 < _; omega)),fun r hr' => ?_⟩
          have s59:=s58.trans (Same.put (o:=.lst (wus ++ [.ref te])) hr')
          refine ⟨_,rfl,_,rfl,Fd,_,rfl,.inl ⟨SqL.of (s59 _ _ qF),fun T3 hT3 => ?_⟩⟩
          have sT3:=Same.put (o:=.tup ((c.set pr.1 pr.2).map nV)) hT3
          have s60:=s59.trans sT3
          have gr:=sT3 _ _ upd_same
          have gT:=tupKC (put_at (o:=.tup ((c.set pr.1 pr.2).map nV)) hT3)
          have hrL : r ≠ L:=fun z => by
            have:=s58 _ _ hS5.l
            rw [← z,hr'] at this
            cases this
          have hFL : Fd ≠ L:=fun z => by
            have:=hS4.l
            rw [← z,hF] at this
            cases this
          have hr0 : H0 r = none:=h0 r (by
            cases e : H r with
            | none => rfl
            | some o =>
              by_cases z : r = p
              · have:=s58 _ _ hp5
                rw [← z,hr'] at this
                cases this
              · have:=s58 _ _ (hS5.sx _ _ z e)
                rw [hr'] at this
                cases this)
          have hte : H5 te = some (.tup [.int (pr.1 : Int),.int (pr.2 : Int)]):=s5 _ _ gte
          generalize upd (upd (upd (upd (upd H5 T1 _) T2 _) q _) r _) T3 _ = H9 at s60 gr gT ⊢
          clear hT3 sT3 s59 s58 s57 hT2 sT2 hr' hq
          have hS9:=hS5.same s60
          have hp9:=s60 _ _ hp5
          refine ⟨p,_,rfl,DPut.t hp9 gT (big24 (by omega)),?_⟩
          have gpL : p ≠ L:=ne_of hp9 hS9.l (fun z => nomatch z)
          have sxp : SameX p H9 (upd H9 p (.dT (putK kvs5 (kC (c.set pr.1 pr.2)) (.ref r)))):=fun x o n e => by rw [upd_ne n]; exact e
          have gL10:=sxp.lst hp9 hS9.l
          have hwa:=hS9.wa.put hp9 (c:=c.set pr.1 pr.2) (ps:=ps ++ [pr]) (r:=r) (us:=wus ++ [.ref te]) hin (exch_isC hcC hpm) (hlead.snoc hpm) (by rw [List.length_append,List.length_singleton]; omega) hr0 gr (Paired.snoc (pairsV.same s60 hpw) ⟨te,rfl,s60 _ _ hte⟩)
          have hin9:=hS9.nw
          refine ⟨_,rfl,.inl ⟨rfl,_,SqL.of gL10⟩,_,rfl,L,ys4,.ref Fd,rfl,rfl,gL10,big24 (by omega),?_⟩
          have nw10 : ∀ kvs,(upd H9 p (.dT (putK kvs5 (kC (c.set pr.1 pr.2)) (.ref r)))) p = some (.dT kvs) → ∀ kv ∈ kvs,kv.2 ≠ .ref L:=fun kvs e kv hkv => by
            rw [upd_same] at e
            cases e
            rw [putK_new _ (way_none hk5 hin)] at hkv
            rcases List.mem_append.mp hkv with hkv | hkv
            · exact hin9 _ hp9 kv hkv
            · have : kv = (kC (c.set pr.1 pr.2),.ref r):=by simpa using hkv
              rw [this]
              intro z
              injection z with z
              exact hrL z
          have ny11 : ∀ y ∈ ys4 ++ [V.ref Fd],y ≠ .ref L:=fun y hy => by
            rcases List.mem_append.mp hy with hy | hy
            · exact hS9.ny y hy
            · have : y = .ref Fd:=by simpa using hy
              rw [this]
              intro z
              injection z with z
              exact hFL z
          refine ⟨_,_,ys4 ++ [.ref Fd],more4 ++ [(c.set pr.1 pr.2,ps ++ [pr])],rfl,⟨fun x o n e => ?_,upd_same,?_,?_,fun kvs e => nw10 kvs (by rw [← e,upd_ne gpL]),ny11⟩,fun d hd e he => mem_more (hcl4 d hd e he),fun e he => ?_,?_,?_,by rw [foldl_take hprj,← hm4]; unfold stepE; rw [if_neg hin,wayOf_mem hS5.wa.nd hpe]⟩
          · rw [upd_ne (ne_of_none e hLn),upd_ne n]
            exact hS9.sx _ _ n e
          · rw [List.map_append]
            refine LN.other (LN.append (sxp.ln hp9 hS9.ln) (.cons ⟨Fd,rfl,sxp.lst hp9 (s60 _ _ qF)⟩ .nil)) ny11
          · rw [← List.append_assoc]
            exact hwa.other gL10 nw10
          · rcases take_mem hprj he with he | rfl
            · exact mem_more (hin4 e he)
            · rw [← List.append_assoc,List.map_append]
              exact List.mem_append_right _ (by simp)
          · have : E ≠ L:=fun z => by
              have:=hS.l
              rw [← z,hE] at this
              cases this
            rw [upd_ne this]
            exact sxp.lst hp9 (s60 _ _ (s5 _ _ qE4))
          · exact pairsV_upd gL10 (sxp.pairs hp9 (pairsV.same s60 (pairsV.same s5 hpE4)))
      · rintro σ H4 ⟨w5,w6,ys4,more4,rfl,hS4,hcl4,hin4,qE4,hpE4,hm4⟩
        have hul' : us.length = (exBy (gA n R) c).length:=hpE4.length.symm
        refine ⟨_,_,_,ys4,more4,rfl,hS4,fun d hd e he => ?_,by rw [foldl_take hci,← hmo,← em0,hm4,hul',List.take_length]⟩
        rcases take_mem hci hd with hd | rfl
        · exact hcl4 d hd e he
        · refine hin4 e ?_
          have : us.length = (exBy (gA n R) d).length:=hpE4.length.symm
          rw [this,List.take_length]
          exact he
    · rintro σ H2 ⟨v4,v5,v6,ys,more,rfl,hS,hcl,hmo⟩
      have el : xs.length = ns.length:=hL.length
      rw [el,List.take_length] at hcl hmo
      exact ⟨_,rfl,kk L ys more H2 hLn hS hcl hmo⟩
end
def endsB (zs ws : List Int) : Bool:=decide (zs.getD 0 0 = ws.getD 0 0) && decide (zs.getD (zs.length - 1) 0 = ws.getD (ws.length - 1) 0)
theorem last_int {zs : List Int} (h : zs ≠ []) : atI (zs.map V.int) (-1) = some (.int (zs.getD (zs.length - 1) 0)):=by
  obtain ⟨pre,x,rfl⟩ : ∃ pre x,zs = pre ++ [x]:=⟨zs.dropLast,zs.getLast h,(List.dropLast_concat_getLast h).symm⟩
  rw [List.map_append]
  have:=atI_last (pre.map V.int) (.int x)
  rw [List.getD_eq_getElem?_getD]
  simpa using this
theorem first_int {zs : List Int} (h : zs ≠ []) : atI (zs.map V.int) 0 = some (.int (zs.getD 0 0)):=by
  cases zs with
  | nil => exact absurd rfl h
  | cons x r => exact atI_nat (j:=0) rfl
theorem getD_castI (cs : List Nat) (i : Nat) : (cs.map fun x : Nat => (x : Int)).getD i 0 = ((cs.getD i 0 : Nat) : Int):=by
  rw [List.getD_eq_getElem?_getD,List.getD_eq_getElem?_getD,List.getElem?_map]
  cases cs[i]? <;> simp
theorem isC_ends {g : Nat → List Nat} {b a : Nat} {c : List Nat} (h : Cl.IsC g b a c) : c.getD 0 0 = a ∧ c.getD (c.length - 1) 0 = b:=by
  have h1:=h.hd
  have h2:=h.last
  constructor
  · cases c with
    | nil => cases h1
    | cons x r => cases h1; rfl
  · rw [List.getLast?_eq_getElem?] at h2
    rw [List.getD_eq_getElem?_getD,h2]
    rfl
theorem ends_isC {g : Nat → List Nat} {b a b' a' : Nat} {c c' : List Nat} (h : Cl.IsC g b a c) (h' : Cl.IsC g b' a' c') (e : endsB (c.map fun x : Nat => (x : Int)) (c'.map fun x : Nat => (x : Int)) = true) : a' = a ∧ b' = b:=by
  unfold endsB at e
  rw [Bool.and_eq_true,decide_eq_true_iff,decide_eq_true_iff,List.length_map,List.length_map,getD_castI,getD_castI,getD_castI,getD_castI,(isC_ends h).1,(isC_ends h).2,(isC_ends h').1,(isC_ends h').2] at e
  omega
theorem toNat_cast (cs : List Nat) : (cs.map fun x : Nat => (x : Int)).map Int.toNat = cs:=by
  rw [List.map_map]
  exact List.map_id' cs
theorem climb_ne {n : Nat} {R : Nat → Nat → Bool} {zs : List Int} (h : climbB n R zs = true) : zs ≠ []:=fun e => by
  rw [e] at h
  cases h
def LedEnd (other : List Nat) (s : Es × List (List Nat)) : Prop:=s.2 = [] ∨ other ∈ s.1.map (·.1)
instance (other : List Nat) (s : Es × List (List Nat)) : Decidable (LedEnd other s):=inferInstanceAs (Decidable (_ ∨ _))
def ledStep (g : Nat → List Nat) (other : List Nat) (s : Es × List (List Nat)) : Es × List (List Nat):=if LedEnd other s then s else (s.1 ++ spreadF g s.1 s.2,(spreadF g s.1 s.2).map (·.1))
def ledAt (g : Nat → List Nat) (other one : List Nat) : Nat → Es × List (List Nat)
  | 0 => ([(one,[])],[one])
  | k + 1 => ledStep g other (ledAt g other one k)
theorem ledAt_stay {g : Nat → List Nat} {other one : List Nat} {k : Nat} (h : LedEnd other (ledAt g other one k)) : ∀ j,ledAt g other one (k + j) = ledAt g other one k
  | 0 => rfl
  | j + 1 => by
    show ledStep g other (ledAt g other one (k + j)) = _
    rw [ledAt_stay h j]
    unfold ledStep
    rw [if_pos h]
def LedTo (g : Nat → List Nat) (one other : List Nat) (o : Option (List (Nat × Nat))) : Prop := ∃ k,LedEnd other (ledAt g other one k) ∧ o = if other ∈ (ledAt g other one k).1.map (·.1) then some (wayOf (ledAt g other one k).1 other) else none
theorem LedTo.uniq {g : Nat → List Nat} {one other : List Nat} {o o' : Option (List (Nat × Nat))} (h : LedTo g one other o) (h' : LedTo g one other o') : o = o':=by
  obtain ⟨k,e,rfl⟩:=h
  obtain ⟨m,e',rfl⟩:=h'
  have : ledAt g other one k = ledAt g other one m:=by
    rcases Nat.le_total k m with q | q
    · have:=ledAt_stay e (m - k)
      rw [show k + (m - k) = m by omega] at this
      exact this.symm
    · have:=ledAt_stay e' (k - m)
      rw [show m + (k - m) = k by omega] at this
      exact this
  rw [this]
theorem WayAt.first {H0 H : Hp} {pd v : Addr} {g : Nat → List Nat} {c : List Nat} {b a : Nat} (g0 : H0 v = none) (gv : H v = some (.lst [])) (hvp : v ≠ pd) (hC : Cl.IsC g b a c) : WayAt H0 (upd H pd (.dT [(kC c,.ref v)])) pd g c b a [(c,[])]:=by
  refine ⟨⟨_,upd_same,.cons ⟨rfl,v,[],rfl,g0,by rw [upd_ne hvp]; exact gv,.nil⟩ .nil⟩,by simp,fun e he => ?_⟩
  have : e = (c,[]):=by simpa using he
  rw [this]
  exact ⟨hC,rfl,by show 0 < 1; decide⟩
structure LedI (c' : List Nat) (H0 H : Hp) (pd r : Addr) (n : Nat) (R : Nat → Nat → Bool) (c : List Nat) (b a : Nat) (es : Es) (xs : List V) (ns : List (List Nat)) : Prop where
  sm : Same H0 H
  pn : H0 pd = none
  run : ∃ k,ledAt (gA n R) c' c k = (es,ns)
  wa : WayAt H0 H pd (gA n R) c b a es
  l : H r = some (.lst xs)
  ln : LN H xs ns
  mem : ∀ x ∈ ns,x ∈ es.map (·.1)
  one : c ∈ es.map (·.1)
  cl : ∀ x ∈ es.map (·.1),x ∉ ns → ∀ e ∈ exBy (gA n R) x,x.set e.1 e.2 ∈ es.map (·.1)
section
variable {P : Program} {w : World} {K : PySem.W.Frag} {mg : Str → Option Value} {base : Heap} {f : Addr} {fd : FuncData}
abbrev s_need_like_ends : Stmt:=top 35
theorem sc_need_like_ends : FnScope ["one","other"] ["one","other"] (defScope s_need_like_ends):=⟨rfl,rfl,rfl,by decide +kernel,rfl,by decide +kernel,by decide +kernel⟩
def sp_like_ends (K : PySem.W.Frag) : Sp:=fun vs H Q _ => ∃ (t u : Nat) (zs ws : List Int),vs = [.ref t,.ref u] ∧ SqL K H t (zs.map V.int) ∧ SqL K H u (ws.map V.int) ∧ zs ≠ [] ∧ ws ≠ [] ∧ endsB zs ws = true ∧ ∀ H',Same H H' → Q .non H'
theorem ok_need_like_ends (F : Fun K "need_like_ends" "need_like_ends" s_need_like_ends f fd) (T : Txt mg) : FnOk P w K mg base CX0 1 f fd ["one","other"] (sp_like_ends K):=by
  refine F.ok sc_need_like_ends (fun vs H Q E h => ?_) (fun cdv A outer s H vs Q E hr h => ?_)
  · obtain ⟨t,u,zs,ws,rfl,_⟩:=h
    rfl
  · obtain ⟨t,u,zs,ws,rfl,hT,hU,n1,n2,he,kk⟩:=h
    have nd:=sc_need_like_ends.nd
    unfold endsB at he
    rw [Bool.and_eq_true,decide_eq_true_iff,decide_eq_true_iff] at he
    refine ⟨_,(pss_one (ps_if (PW.pt (pw_or (pt_cmpR op_ne (pe_ix (ix_listK (K:=K) rfl) (pv 0) pe_int (fun _ _ => rfl)) (pe_ix (ix_listK (K:=K) rfl) (pv 1) pe_int (fun _ _ => rfl)) (nomark _)) (pw_or1 (pt_cmpR op_ne (pe_ix (ix_listK (K:=K) rfl) (pv 0) (pe_un un_neg pe_int) (fun _ _ => rfl)) (pe_ix (ix_listK (K:=K) rfl) (pv 1) (pe_un un_neg pe_int) (fun _ _ => rfl)) (nomark _))))) (pss_one ps_never) pss_nil)),?_⟩
    refine ⟨_,rfl,t,_,0,.int (zs.getD 0 0),rfl,rfl,hT,first_int n1,_,rfl,u,_,0,.int (ws.getD 0 0),rfl,rfl,hU,first_int n2,rfl,_,rfl,?_⟩
    rw [he.1,decide_eq_true rfl]
    refine iteF ?_
    refine ⟨_,rfl,1,rfl,t,_,_,.int (zs.getD (zs.length - 1) 0),rfl,rfl,hT,last_int n1,_,rfl,1,rfl,u,_,_,.int (ws.getD (ws.length - 1) 0),rfl,rfl,hU,last_int n2,rfl,_,rfl,?_⟩
    rw [he.2,decide_eq_true rfl]
    exact iteF (kk _ (Same.refl _))
abbrev s_need_two_climbs : Stmt:=top 36
theorem sc_need_two_climbs : FnScope ["order","one","other"] ["order","one","other"] (defScope s_need_two_climbs):=⟨rfl,rfl,rfl,by decide +kernel,rfl,by decide +kernel,by decide +kernel⟩
def sp_two_climbs (K : PySem.W.Frag) (C : Addr) : Sp:=fun vs H Q _ => ∃ (p t u n : Nat) (R : Nat → Nat → Bool) (zs ws : List Int),vs = [.ref p,.ref t,.ref u] ∧ OrdAt C H p n R ∧ n ≤ 24 ∧ SqL K H t (zs.map V.int) ∧ SqL K H u (ws.map V.int) ∧ zs.length ≤ 1000 ∧ ws.length ≤ 1000 ∧
  climbB n R zs = true ∧ climbB n R ws = true ∧ endsB zs ws = true ∧ ∀ H',Same H H' → Q .non H'
theorem ok_need_two_climbs {C : Addr} (F : Fun K "need_two_climbs" "need_two_climbs" s_need_two_climbs f fd) (T : Txt mg) (TC : ClsOk K C) (c_need_climb : Cal P w K mg base "need_climb" ["order","things"] 5 (sp_need_climb K C)) (c_need_like_ends : Cal P w K mg base "need_like_ends" ["one","other"] 1 (sp_like_ends K)) :
    FnOk P w K mg base CX0 6 f fd ["order","one","other"] (sp_two_climbs K C):=by
  refine F.ok sc_need_two_climbs (fun vs H Q E h => ?_) (fun cdv A outer s H vs Q E hr h => ?_)
  · obtain ⟨p,t,u,n,R,zs,ws,rfl,_⟩:=h
    rfl
  · obtain ⟨p,t,u,n,R,zs,ws,rfl,hO,hn,hT,hU,hzl,hwl,c1,c2,ce,kk⟩:=h
    have nd:=sc_need_two_climbs.nd
    refine ⟨_,(pss_cons (ps_expr (pe_callC c_need_climb hr rfl (pa_cons (pv 0) (pa_cons (pv 1) pa_nil))))
      (pss_cons (ps_expr (pe_callC c_need_climb hr rfl (pa_cons (pv 0) (pa_cons (pv 2) pa_nil))))
      (pss_one (ps_expr (pe_callC c_need_like_ends hr rfl (pa_cons (pv 1) (pa_cons (pv 2) pa_nil))))))),?_⟩
    refine ⟨_,rfl,_,rfl,p,t,n,R,zs,rfl,hO,hn,hT,hzl,c1,fun H1 s1 => ?_⟩
    refine ⟨_,rfl,_,rfl,p,u,n,R,ws,rfl,hO.same' s1,hn,s1.seq hU,hwl,c2,fun H2 s2 => ?_⟩
    have s12:=s1.trans s2
    exact ⟨_,rfl,_,rfl,t,u,zs,ws,rfl,s12.seq hT,s12.seq hU,climb_ne c1,climb_ne c2,ce,fun H3 s3 => kk _ (s12.trans s3)⟩
abbrev s_led : Stmt:=top 43
theorem sc_led : FnScope ["order","one","other","above","ways","reached"] ["order","one","other"] (defScope s_led):=⟨rfl,rfl,rfl,by decide +kernel,rfl,by decide +kernel,by decide +kernel⟩
def sp_led (K : PySem.W.Frag) (C : Addr) : Sp:=fun vs H Q _ => ∃ (p t u n : Nat) (R : Nat → Nat → Bool) (zs ws : List Int),vs = [.ref p,.ref t,.ref u] ∧ OrdAt C H p n R ∧ Good n R ∧ n ≤ 24 ∧ H t = some (.lst (zs.map V.int)) ∧ H u = some (.lst (ws.map V.int)) ∧ zs.length ≤ 1000 ∧ ws.length ≤ 1000 ∧
  climbB n R zs = true ∧ climbB n R ws = true ∧ endsB zs ws = true ∧ (∀ r us ps H',Same H H' → H r = none → H' r = some (.lst us) → Paired (pairV H') ps us → Leads (gA n R) (zs.map Int.toNat) ps (ws.map Int.toNat) → LedTo (gA n R) (zs.map Int.toNat) (ws.map Int.toNat) (some ps) → Q (.ref r) H') ∧ (∀ H',Same H H' → (∀ ps,¬ Leads (gA n R) (zs.map Int.toNat) ps (ws.map Int.toNat)) → Q .non H')
theorem ok_led {C : Addr} (F : Fun K "led" "led" s_led f fd) (T : Txt mg) (TC : ClsOk K C) (c_need_two_climbs : Cal P w K mg base "need_two_climbs" ["order","one","other"] 6 (sp_two_climbs K C)) (c_steps_above : Cal P w K mg base "steps_above" ["order"] 4 (sp_steps_above C))
    (c_spread : Cal P w K mg base "spread" ["above","ways","newest"] 3 sp_spread) : FnOk P w K mg base CX0 7 f fd ["order","one","other"] (sp_led K C):=by
  refine F.ok sc_led (fun vs H Q E h => ?_) (fun cdv A outer s H vs Q E hr h => ?_)
  · obtain ⟨p,t,u,n,R,zs,ws,rfl,_⟩:=h
    rfl
  · obtain ⟨p,t,u,n,R,zs,ws,rfl,hO,G,hn,hT,hU,hzl,hwl,c1,c2,ce,kl,kn⟩:=h
    have nd:=sc_led.nd
    have hq0:=hr.units
    have hu : (A.deeper (envOfC "led" (defScope s_led) s.heap.objs.size f cdv)).units + 1 < cLine:=by omega
    have hu0 : (A.deeper (envOfC "led" (defScope s_led) s.heap.objs.size f cdv)).units < cLine:=by omega
    refine ⟨_,(pss_cons (ps_expr (pe_callC c_need_two_climbs hr rfl (pa_cons (pv 0) (pa_cons (pv 1) (pa_cons (pv 2) pa_nil (star_of (fun _ _ h => nomatch h))) (star_of (fun _ _ h => nomatch h))) (star_of (fun _ _ h => nomatch h)))))
      (pss_cons (ps_set (i:=3) nd rfl (Or.inl rfl) (pe_callC c_steps_above hr rfl (pa_cons (pv 0) pa_nil)))
      (pss_cons (ps_set (i:=4) nd rfl (Or.inl rfl) (pe_dispT hu0 (pe_callTy (call_tupleK (K:=K) rfl) rfl T.tuple bt_tuple (pa_cons (pv 1) pa_nil)) (pe_lst pa_nil)))
      (pss_cons (ps_set (i:=5) nd rfl (Or.inl rfl) (pe_lst (pa_cons (pv 1) pa_nil)))
      (pss_cons (ps_while PassesOwn.never (PW.pt (pw_and (pt_cmpR op_gt (pe_callB (call_lenK (K:=K) rfl) rfl T.len PySem.boot_len (pa_cons (pv 5) pa_nil)) pe_int (nomark _)) (pw_and1 (pt_cmpR (op_notInD hu) (pe_callTy (call_tupleK (K:=K) rfl) rfl T.tuple bt_tuple (pa_cons (pv 2) pa_nil)) (pv 4) (by with_unfolding_all rfl)))))
      (pss_one (ps_set (i:=5) nd rfl (Or.inl rfl) (pe_callC c_spread hr rfl (pa_cons (pv 3) (pa_cons (pv 4) (pa_cons (pv 5) pa_nil (star_of (fun _ _ h => nomatch h))) (star_of (fun _ _ h => nomatch h))) (star_of (fun _ _ h => nomatch h)))))))
      (pss_one (ps_ret (pe_dget1 hu (pv 4) (pe_callTy (call_tupleK (K:=K) rfl) rfl T.tuple bt_tuple (pa_cons (pv 2) pa_nil)) ⟨rfl,rfl,rfl,rfl⟩)))))))),?_⟩
    refine ⟨_,rfl,_,rfl,_,rfl,p,t,u,n,R,zs,ws,rfl,hO,hn,SqL.of hT,SqL.of hU,hzl,hwl,c1,c2,ce,fun H1 s1 => ?_⟩
    obtain ⟨c,a,b,rfl,ha,hC⟩:=isC_of c1
    obtain ⟨c',a',b',rfl,ha',hC'⟩:=isC_of c2
    obtain ⟨rfl,rfl⟩:=ends_isC hC hC' ce
    rw [toNat_cast,toNat_cast] at kl kn
    rw [ints_nV] at hT hU
    refine ⟨_,rfl,p,n,R,rfl,hO.same' s1,hn,fun D H2 s2 hD hA => ?_⟩
    have s12:=s1.trans s2
    refine fun pd hpd => ⟨_,rfl,t,_,rfl,.inl ⟨SqL.of (Same.put hpd _ _ (s12 _ _ hT)),fun T1 hT1 => ?_⟩⟩
    refine ⟨by show 0 ≤ sizeLine; decide,fun v hv => ?_⟩
    have sp:=Same.put (o:=.dT []) hpd
    have sT:=Same.put (o:=.tup (c.map nV)) hT1
    have sv:=Same.put (o:=.lst []) hv
    have gp:=sv _ _ (sT _ _ (put_at (o:=.dT []) hpd))
    have gT:=sv _ _ (put_at (o:=.tup (c.map nV)) hT1)
    have gv:=put_at (o:=.lst []) hv
    have s25:=(sp.trans sT).trans sv
    have hv0 : H v = none:=s12.free ((sp.trans sT).free hv)
    generalize upd (upd (upd H2 pd _) T1 _) v _ = H5 at gp gT gv s25 ⊢
    clear sv sT hv hT1
    refine ⟨gp,T1,kC c,rfl,tupKC gT,?_⟩
    have hW:=WayAt.first (H0:=H) (pd:=pd) hv0 gv (ne_of gv gp (fun z => nomatch z)) hC
    have s26 : Same H2 (upd H5 pd (.dT [(kC c,.ref v)])):=fun x o e => by rw [upd_ne (ne_of_none e hpd)]; exact s25 _ _ e
    refine ⟨_,rfl,by show 1 ≤ sizeLine; decide,fun r hr' => ?_⟩
    have sr:=Same.put (o:=.lst [.ref t]) hr'
    have t7:=s12.trans (s26.trans sr)
    have hI : LedI c' H _ pd r n R c b' a' [(c,[])] [.ref t] [c]:=⟨t7,s12.free hpd,⟨0,rfl⟩,hW.same sr,put_at (o:=.lst [.ref t]) hr',.cons ⟨t,rfl,t7 _ _ hT⟩ .nil,fun x hx => hx,by simp,fun x hx hno => absurd hx hno⟩
    have hA7:=(s26.trans sr) 
    have hA8:=hA.gA.same hA7
    refine ⟨fun m σ H8 => ∃ es r xs ns,m = 2 * (waysR n R b' a' - es.length) + min ns.length 1 ∧ σ = [some (.ref p),some (.ref t),some (.ref u),some (.ref D),some (.ref pd),some (.ref r)] ∧ LedI c' H H8 pd r n R c b' a' es xs ns ∧ AbvAt H8 D n (gA n R),⟨_,_,r,_,_,rfl,rfl,hI,hA8⟩,?_⟩
    clear hI hA8 hA7 t7 sr hr' s26 hW gp gT gv s25 sp hpd
    rintro m σ H8 ⟨es,r,xs,ns,rfl,rfl,hI,hA8⟩
    obtain ⟨kvs,hp8,hk8⟩:=id hI.wa.here
    have hlx : xs.length = ns.length:=hI.ln.length
    have hU8:=hI.sm _ _ hU
    have fin : ∀ H9,Same H8 H9 → (c' ∈ es.map (·.1) ∨ ns = []) → tRet (tDGet1 (tVar 4) (tCB (rTupleOf K) (tCons (tVar 2) tNil))) { nx:=fun x H' => Q V.non H',rt:=Q } [some (.ref p),some (.ref t),some (.ref u),some (.ref D),some (.ref pd),some (.ref r)] H9:=by
      intro H9 s9 hor
      refine ⟨_,rfl,pd,rfl,.inr ⟨_,.inl (s9 _ _ hp8)⟩,_,rfl,u,_,rfl,.inl ⟨SqL.of (s9 _ _ hU8),fun T9 hT9 => ?_⟩⟩
      have sT9:=s9.trans (Same.put (o:=.tup (c'.map nV)) hT9)
      refine ⟨_,DGet.t (sT9 _ _ hp8) (tupKC upd_same),?_⟩
      by_cases hin : c' ∈ es.map (·.1)
      · obtain ⟨ps,wt,us,hpe,ev,w0,gw,hpw⟩:=way_some hk8 hin
        rw [ev]
        obtain ⟨k,hk⟩:=hI.run
        exact kl wt us ps _ (hI.sm.trans sT9) w0 (sT9 _ _ gw) (pairsV.same sT9 hpw) (hI.wa.go _ hpe).2.1 ⟨k,by rw [hk]; exact .inr hin,by rw [hk]; show some ps = _; rw [if_pos hin,wayOf_mem hI.wa.nd hpe]⟩
      · rw [way_none hk8 hin]
        refine kn _ (hI.sm.trans sT9) fun ps hl => hin ?_
        have hns : ns = []:=hor.resolve_left hin
        refine Leads.stays (S:=fun x => x ∈ es.map (·.1)) (fun x hx e he => hI.cl x hx (by rw [hns]; simp) e he) hl hI.one
    refine ⟨_,rfl,r,xs,rfl,.inl (SqL.of hI.l),_,_,rfl,rfl,_,rfl,ite2 (fun h => ?_) (fun h => ?_)⟩
    · have hpos : 0 < ns.length:=by have:=of_decide_eq_true h; omega
      refine ⟨_,rfl,u,_,rfl,.inl ⟨SqL.of hU8,fun T9 hT9 => ?_⟩⟩
      have sT9:=Same.put (o:=.tup (c'.map nV)) hT9
      refine ⟨_,rfl,pd,_,rfl,DGet.t (sT9 _ _ hp8) (tupKC upd_same),_,rfl,?_⟩
      by_cases hin : c' ∈ es.map (·.1)
      · obtain ⟨_,_,_,_,ev,_⟩:=way_some hk8 hin
        rw [ev]
        exact iteF (fin _ sT9 (.inl hin))
      · rw [way_none hk8 hin]
        refine iteT ⟨_,fun σ' H' h => h,?_⟩
        refine ⟨_,rfl,_,rfl,_,rfl,D,pd,r,n,a',b',H,R,c,es,xs,ns,rfl,hA8.same sT9,G,hn,ha',fun x hx => (hI.sm.trans sT9).free hx,hI.wa.same sT9,sT9 _ _ hI.l,hI.ln.same sT9,hI.mem,fun L ys more H' hL hS hcl hmo => ?_⟩
        have hlen:=hS.wa.len G
        rw [List.length_append] at hlen
        have hp9:=sT9 _ _ hp8
        refine ⟨_,?_,es ++ more,L,ys,more.map (·.1),rfl,rfl,⟨fun x o e => ?_,hI.pn,?_,hS.wa,hS.l,hS.ln,fun x hx => ?_,?_,fun x hx hno e he => ?_⟩,hS.sx.abv hp9 (hA8.same sT9)⟩
        · rw [List.length_append,List.length_map]
          omega
        · by_cases z : x = pd
          · rw [z,hI.pn] at e
            cases e
          · exact hS.sx _ _ z (sT9 _ _ (hI.sm _ _ e))
        · obtain ⟨k,hk⟩:=hI.run
          refine ⟨k + 1,?_⟩
          show ledStep _ _ (ledAt _ _ _ k) = _
          rw [hk,hmo]
          unfold ledStep
          rw [if_neg (fun z => z.elim (fun z => by rw [show ns = [] from z] at hpos; cases hpos) hin)]
        · rw [List.map_append]
          exact List.mem_append_right _ hx
        · rw [List.map_append]
          exact List.mem_append_left _ hI.one
        · rw [List.map_append,List.mem_append] at hx
          have hx:=hx.resolve_right hno
          by_cases hxn : x ∈ ns
          · exact hcl x hxn e he
          · rw [List.map_append]
            exact List.mem_append_left _ (hI.cl x hx hxn e he)
    · have : ns = []:=by
        have h' : ¬ (0 : Int) < (xs.length : Int):=fun z => h (decide_eq_true z)
        exact List.eq_nil_of_length_eq_zero (by omega)
      exact fin _ (Same.refl _) (.inr this)
end
theorem gA_congr {n : Nat} {R R' : Nat → Nat → Bool} (h : ∀ a b,a < n → b < n → R a b = R' a b) : gA n R = gA n R':=by
  have hb : ∀ a b,a < n → b < n → belR R a b = belR R' a b:=fun a b h1 h2 => by unfold belR; rw [h a b h1 h2]
  funext a
  unfold gA
  by_cases ha : a < n
  · rw [if_pos ha,if_pos ha]
    unfold abv
    refine List.filter_congr fun x hx => ?_
    have hx:=List.mem_range.mp hx
    unfold stepR
    rw [hb a x ha hx]
    congr 2
    rw [Bool.eq_iff_iff,List.any_eq_true,List.any_eq_true]
    refine exists_congr fun t => and_congr_right fun ht => ?_
    have ht:=List.mem_range.mp ht
    rw [hb a t ha ht,hb t x ht hx]
  · rw [if_neg ha,if_neg ha]
end My
namespace L2
open PySem PySem.Spec PyProof.Rows
section
variable {prog : Program} {w : World} {A : Around} {E : Value → Shared → Prop} {s : Shared} {c1 c2 : Bool} {z TI TO i1 i2 l1 l2 T0 : Addr} {k1 k2 : Nat} {xs ys : Array Value} {x y : Value} {b : Bool} {o0 : Obj}
end
section
variable {X : Cx} {pins : List (Addr × Obj)} {σ : St} {H H' : Hp} {s : Shared} {h' : Heap}
end
section
variable {M : Model} {A : Around} {E : Value → Shared → Prop} {s : Shared} {base : Heap} {env : Env} {outer : List Env} {L e T : Addr} {oe : Obj} {vs : Array Value} {cls head fl : Value} {dx : Option Addr} {Q : Unit → Shared → Prop}
end
section
variable {P : Program} {w : World} {K : PySem.W.Frag} {mg : Str → Option Value} {base : Heap} {N : List Str} {qual : Str} {scope : Scope} {f : Addr} {cd : Value} {A : Around} {outer : List Env} {s : Shared} {H : Hp} {E : XK}
end
end L2
namespace L2
open PySem PySem.Spec PyProof.Rows PySem.W
section
variable {prog : Program} {w : World} {A : Around} {E : Value → Shared → Prop} {h : Heap} {g : Array GenState} {d : Drawn} {t : Nat} {os : OsState} {K : Frag} {e D : Addr} {oe : Obj} {od : Option Obj} {name : Str} {g0 a0 : Value}
end
section
variable {X : Cx} {E : XK} {x : Str} {C : Addr} {bmB : List Value} {B newId initId : String} {np cpos pos : Pos} {e0 : Expr} {es : List Expr} {ta : TA}
end
section
variable {X : Cx} {pins pins' : List (Addr × Obj)} {σ : St} {H H1 H2 : Hp} {s : Shared} {XE : XK}
end
section
variable {X : Cx} {XE : XK} {body suite : List Stmt} {b0 : Stmt} {c n : Str} {np hpos pos : Pos} {i : Nat} {Dc : Addr} {tb ts : TS}
end
section
variable {X : Cx} {x : Str} {ps : List Str} {k k' : Nat} {sp : Sp} {e : Expr} {es : List Expr} {t : TA} {p pos : Pos} {E : XK}
end
section
variable {prog : Program} {w : World} {A : Around} {E : Value → Shared → Prop} {h : Heap} {g : Array GenState} {d : Drawn} {t : Nat} {os : OsState}
variable {nm q : Str} {C N : Addr} {bs bm bmB : List Value} {hdct : Bool} {sn : List Str} {sub : List Value} {ab : Bool} {col : Option Bool} {dd : Option Addr} {k0 k1 k2 k3 k5 : Option Value} {B newId initId : String}
end
section
variable {M : Model} {A : Around} {E : Value → Shared → Prop} {env : Env}
variable {nm q : Str} {C N : Addr} {bs bm : List Value} {hdct : Bool} {sn : List Str} {sub : List Value} {ab : Bool} {col : Option Bool} {dd : Option Addr} {k0 k1 k2 k3 k5 : Option Value} {newId : String}
end
section
variable {prog : Program} {w : World} {A : Around} {E : Value → Shared → Prop} {h : Heap} {g : Array GenState} {d : Drawn} {t : Nat} {os : OsState}
variable {nm q : Str} {C N : Addr} {bs bm bmB : List Value} {hdct : Bool} {sn : List Str} {sub : List Value} {ab : Bool} {col : Option Bool} {dd : Option Addr} {k0 k1 k2 k3 k5 : Option Value} {B newId initId : String}
end
end L2
namespace L2
open PySem PySem.Spec PyProof.Rows PySem.W
open Builtin Builtin.ObjectAttr
section
variable {prog : Program} {w : World} {A : Around} {E : Value → Shared → Prop} {h : Heap} {g : Array GenState} {d : Drawn} {t : Nat} {os : OsState} {K : Frag} {e C D : Addr} {cd : ClassData} {sl : Array (Option Value)} {vs : Array Value} {name : Str} {v : Value}
end
section
variable {X : Cx} {pins : List (Addr × Obj)} {σ : St} {H : Hp} {s : Shared}
end
section
variable {X : Cx} {E : XK} {x : Str} {C fI : Addr} {fd : FuncData} {ps : List Str} {k : Nat} {sp : Sp} {np cpos pos : Pos} {e0 : Expr} {es : List Expr} {ta : TA}
end
section
variable {X : Cx} {o value : Expr} {ta tv : TE} {f : Str} {pos pos' : Pos}
end
section
variable {X : Cx} {e : Expr} {te : TE} {a : Str} {j} {p1 p2 pos : Pos}
end
section
variable {X : Cx} {c : Str} {C0 : Addr} {np apos pos : Pos} {e0 : Expr} {es : List Expr} {ta : TA}
end
section
variable {X : Cx} {o : Expr} {te : TE} {f : Str} {pos : Pos}
end
section
variable {X : Cx} {E : XK} {x : Str} {C : Addr} {ps : List Str} {k k' : Nat} {sp : Sp} {np cpos pos : Pos} {e0 : Expr} {es : List Expr} {ta : TA}
end
section
variable {P : Program} {w : World} {K : PySem.W.Frag} {mg : Str → Option Value} {base : Heap} {N : List Str} {qual : Str} {scope : Scope} {f : Addr} {cd : Value} {A : Around} {outer : List Env} {s : Shared} {H : Hp} {E : XK}
end
section
variable {X : Cx} {e : Expr} {te : TE} {a : Str} {j} {p1 p2 pos : Pos}
end
section
variable {X : Cx} {a b : Expr} {rest : List Expr} {ta : TE} {pos : Pos}
end
def rEqNil (K : PySem.W.Frag) : R2:=fun x y H Q => ∃ a b xs,x = .ref a ∧ y = .ref b ∧ SqL K H a xs ∧ SqL K H b [] ∧ Q (.bl xs.isEmpty) H
theorem op_eqNil {X : Cx} {K : PySem.W.Frag} (h : X.K = K) (hu : X.A.units + 1 < cLine) : OpR X (compareOp .Eq) (rEqNil K):=by
  subst h
  intro pins s σ H x y v u Q I rx ry h
  obtain ⟨a,b,xs,rfl,rfl,ha,hb,q⟩:=h
  cases rx
  cases ry
  obtain ⟨its,r,t1,_⟩:=I.list ha
  obtain ⟨its2,r',t2,_⟩:=I.list hb
  cases r'
  cases xs with
  | nil =>
    cases r
    have hh:=SeqAt.RcAt.lists (A:=X.A) (s:=s) (e:=fun _ => true) t1.isList t2.isList rfl (by omega) fun j g1 g2 => by simp at g1
    exact hh _ _ _ _ ⟨.bl true,H,I,rfl,q⟩
  | cons y ys =>
    have hh:=SeqAt.RcAt.lists_lengths (A:=X.A) (s:=s) t1.isList t2.isList (by cases r; simp) (by omega)
    exact hh _ _ _ _ ⟨.bl false,H,I,rfl,q⟩
end L2
namespace My
open PySem PySem.Spec PyProof.Rows L2
theorem its_pairs {K : PySem.W.Frag} {H : Hp} {ps : List (Nat × Nat)} {us ws : List V} (h1 : Paired (pairV H) ps us) (h2 : Paired (pairV H) ps ws) : Its2 K H 1 us ws fun _ => true:=by
  refine ⟨by rw [← Paired.length h1,← Paired.length h2],fun j x y hx hy => ?_⟩
  obtain ⟨q,e1,t,rfl,e3⟩:=paired_get h1 hx
  obtain ⟨q',e1',u,rfl,e3'⟩:=paired_get h2 hy
  rw [e1] at e1'
  cases e1'
  have:=EqV.tup (K:=K) (H:=H) 0 t u _ _ (fun _ => true) (SqT.of e3) (SqT.of e3') rfl fun k x y hx hy => by
    rw [hx] at hy
    cases hy
    match k,hx with
    | 0,hx => cases hx; have:=EqV.int (K:=K) (H:=H) 0 (q.1 : Int) (q.1 : Int); rw [beq_self_eq_true] at this; exact this
    | 1,hx => cases hx; have:=EqV.int (K:=K) (H:=H) 0 (q.2 : Int) (q.2 : Int); rw [beq_self_eq_true] at this; exact this
  exact this
theorem all_true (n : Nat) : (List.range n).all (fun _ => true) = true:=by simp
theorem its_two {K : PySem.W.Frag} {H : Hp} {h1 h2 t u : Addr} {c d : List Nat} (a1 : H h1 = some (.lst (c.map nV))) (a2 : H h2 = some (.lst (d.map nV))) (b1 : H t = some (.lst (c.map nV))) (b2 : H u = some (.lst (d.map nV))) : Its2 K H 1 [.ref h1,.ref h2] [.ref t,.ref u] fun _ => true:=by
  refine ⟨rfl,fun j x y hx hy => ?_⟩
  have self : ∀ {a b : Addr} {c : List Nat},H a = some (.lst (c.map nV)) → H b = some (.lst (c.map nV)) → EqV K H 1 (.ref a) (.ref b) true:=fun {a b c} q1 q2 => by
    have:=eqV_nats (K:=K) (SqL.of q1) (SqL.of q2)
    rw [decide_eq_true rfl] at this
    exact this
  match j,hx,hy with
  | 0,hx,hy => cases hx; cases hy; exact self a1 b1
  | 1,hx,hy => cases hx; cases hy; exact self a2 b2
theorem ends_of_isC {g : Nat → List Nat} {b a : Nat} {c d : List Nat} (h : Cl.IsC g b a c) (h' : Cl.IsC g b a d) : endsB (c.map fun x : Nat => (x : Int)) (d.map fun x : Nat => (x : Int)) = true:=by
  unfold endsB
  rw [List.length_map,List.length_map,getD_castI,getD_castI,getD_castI,getD_castI,(isC_ends h).1,(isC_ends h).2,(isC_ends h').1,(isC_ends h').2]
  simp
section
variable {P : Program} {w : World} {K : PySem.W.Frag} {mg : Str → Option Value} {base : Heap} {f : Addr} {fd : FuncData}
abbrev s_law_right : Stmt:=top 66
theorem sc_law_right : FnScope ["_law_order_here","_law_known","_law_one","_law_other","_law_due","_law_handed_here","_law_told","_law_first"] ["_law_order_here","_law_known","_law_one","_law_other","_law_due"] (defScope s_law_right):=⟨rfl,rfl,rfl,by decide +kernel,rfl,by decide +kernel,by decide +kernel⟩
def sp_right32 (K : PySem.W.Frag) (C : Addr) : Sp:=fun vs H Q _ => ∃ (p kn t u a b : Nat) (M : List Nat) (us : List V) (cs ds : List Nat) (R : Nat → Nat → Bool) (db : Bool),vs = [.ref p,.ref kn,.ref t,.ref u,.bl db] ∧ OrdAt C H p M.length R ∧ Good M.length R ∧ (∀ a b,a < M.length → b < M.length → R a b = Ev.leM M a b) ∧ Ev.Lat M ∧ SqL K H kn us ∧ Paired (pairV H) (stepsM M) us ∧ H t = some (.lst (cs.map nV)) ∧ H u = some (.lst (ds.map nV)) ∧ a < M.length ∧ Cl.IsC (gA M.length (Ev.leM M)) b a cs ∧ Cl.IsC (gA M.length (Ev.leM M)) b a ds ∧ (db = true → ∃ ps,Leads (gA M.length (Ev.leM M)) cs ps ds) ∧
  ∀ H',Same H H' → Q (.bl true) H'
theorem ok_right32 {C : Addr} (F : Fun K "_law_right" "_law_right" s_law_right f fd) (T : Txt mg) (TC : ClsOk K C) (c_led : Cal P w K mg base "led" ["order","one","other"] 7 (sp_led K C)) (c_law_leads : Cal P w K mg base "_law_leads" ["_law_known","_law_one","_law_other","_law_told"] 2 (sp_leads K)) : FnOk P w K mg base CX0 8 f fd ["_law_order_here","_law_known","_law_one","_law_other","_law_due"] (sp_right32 K C):=by
  refine F.ok sc_law_right (fun vs H Q E h => ?_) (fun cdv A outer s H vs Q E hr h => ?_)
  · obtain ⟨p,kn,t,u,a,b,M,us,cs,ds,R,db,rfl,_⟩:=h
    rfl
  · obtain ⟨p,kn,t,u,a,b,M,us,cs,ds,R,db,rfl,hO,G,hR,hM,hkn,hkp,hT,hU,ha,hC,hD,hdb,kk⟩:=h
    have nd:=sc_law_right.nd
    have hu0:=hr.units
    have hu1 : (A.deeper (envOfC "_law_right" (defScope s_law_right) s.heap.objs.size f cdv)).units + 1 + 0 < cLine:=by omega
    have hu1' : (A.deeper (envOfC "_law_right" (defScope s_law_right) s.heap.objs.size f cdv)).units + 1 < cLine:=by omega
    have hu2 : (A.deeper (envOfC "_law_right" (defScope s_law_right) s.heap.objs.size f cdv)).units + 1 + 1 < cLine:=by omega
    have eg:=gA_congr hR
    have hm24:=hM.len
    have cN:=isC_climbN hC ha
    have hCR : Cl.IsC (gA M.length R) b a cs:=by rw [eg]; exact hC
    have hDR : Cl.IsC (gA M.length R) b a ds:=by rw [eg]; exact hD
    have c1:=(isC_climbN hCR ha).climbB
    have c2:=(isC_climbN hDR ha).climbB
    have ce:=ends_of_isC hC hD
    have hup:=upC_le M.length R a
    have lc:=isC_len' G hCR ha
    have ld:=isC_len' G hDR ha
    have hTi:=hT
    have hUi:=hU
    rw [← ints_nV] at hTi hUi
    refine ⟨_,(pss_cons (ps_set (i:=5) nd rfl (Or.inl rfl) (pe_lst (pa_cons (pe_callTy (call_listK (K:=K) rfl) rfl T.list bt_list (pa_cons (pv 2) pa_nil)) (pa_cons (pe_callTy (call_listK (K:=K) rfl) rfl T.list bt_list (pa_cons (pv 3) pa_nil)) pa_nil))))
      (pss_cons (ps_set (i:=6) nd rfl (Or.inl rfl) (pe_callC c_led hr rfl (pa_cons (pv 0) (pa_cons (pe_ix (ix_listK (K:=K) rfl) (pv 5) pe_int (fun _ _ => rfl)) (pa_cons (pe_ix (ix_listK (K:=K) rfl) (pv 5) pe_int (fun _ _ => rfl)) pa_nil (star_of (fun _ _ h => nomatch h))) (star_of (fun _ _ h => nomatch h))) (star_of (fun _ _ h => nomatch h)))))
      (pss_cons (ps_if (pt_cmpR (op_neS (K:=K) true 1 rfl hu2) (pv 5) (pe_lst (pa_cons (pv 2) (pa_cons (pv 3) pa_nil))) (nomark _)) (pss_one (ps_ret pe_bl)) pss_nil)
      (pss_cons (ps_if (pt_cmpR op_isN (pv 6) pe_non (nomark _)) (pss_one (ps_ret (pe_not (pv 4)))) pss_nil)
      (pss_cons (ps_if (PW.pt (pw_or (pt_not (pt_val (pe_callB (call_isinstK (K:=K) "list" rfl) rfl T.isinstance boot_isinstance (pa_cons (pv 6) (pa_cons (pe_bltn (v:=.ty "list") rfl T.list bt_list rfl) pa_nil))))) (pw_or1 (pt_cmpR op_ne (pe_cmpR (op_eqL (K:=K) 0 rfl hu1) (pv 2) (pv 3) (nomark _)) (pe_cmpR (op_eqNil (K:=K) rfl hu1') (pv 6) (pe_lst pa_nil) (nomark _)) (nomark _))))) (pss_one (ps_ret pe_bl)) pss_nil)
      (pss_cons (ps_if (pt_not (pt_val (pe_callC c_law_leads hr rfl (pa_cons (pv 1) (pa_cons (pv 2) (pa_cons (pv 3) (pa_cons (pv 6) pa_nil (star_of (fun _ _ h => nomatch h))) (star_of (fun _ _ h => nomatch h))) (star_of (fun _ _ h => nomatch h))) (star_of (fun _ _ h => nomatch h)))))) (pss_one (ps_ret pe_bl)) pss_nil)
      (pss_cons (ps_set (i:=7) nd rfl (Or.inl rfl) (pe_callTy (call_listK (K:=K) rfl) rfl T.list bt_list (pa_cons (pv 6) pa_nil)))
      (pss_cons (ps_expr (pe_bm0K (K:=K) rfl PySem.F.plainAttrs_list PySem.F.slot_list_clear PySem.F.type_list_clear mt_clear (pv 6)))
      (pss_one (ps_ret (pe_and (pe_cmpR (op_eqS (K:=K) true 1 rfl hu2) (pv 5) (pe_lst (pa_cons (pv 2) (pa_cons (pv 3) pa_nil))) (nomark _)) (pe_one (pe_cmpR (op_eqS (K:=K) true 1 rfl hu2) (pe_callC c_led hr rfl (pa_cons (pv 0) (pa_cons (pv 2) (pa_cons (pv 3) pa_nil (star_of (fun _ _ h => nomatch h))) (star_of (fun _ _ h => nomatch h))) (star_of (fun _ _ h => nomatch h)))) (pv 7) (nomark _)))))))))))))),?_⟩
    refine ⟨_,rfl,t,_,rfl,.inl (SqL.of hT),fun h1 hh1 => ⟨_,rfl,u,_,rfl,.inl (SqL.of (Same.put hh1 _ _ hU)),fun h2 hh2 => ⟨by show 2 ≤ sizeLine; decide,fun hl hhl => ?_⟩⟩⟩
    have sh1:=Same.put (o:=.lst (cs.map nV)) hh1
    have sh2:=Same.put (o:=.lst (ds.map nV)) hh2
    have shl:=Same.put (o:=.lst [.ref h1,.ref h2]) hhl
    have s1:=(sh1.trans sh2).trans shl
    have gh1:=shl _ _ (sh2 _ _ (put_at (o:=.lst (cs.map nV)) hh1))
    have gh2:=shl _ _ (put_at (o:=.lst (ds.map nV)) hh2)
    have ghl:=put_at (o:=.lst [.ref h1,.ref h2]) hhl
    dsimp only [gName]
    generalize upd (upd (upd H h1 _) h2 _) hl _ = H1 at s1 gh1 gh2 ghl ⊢
    clear shl sh1 sh2 hhl hh2 hh1
    have gh1i:=gh1
    have gh2i:=gh2
    rw [← ints_nV] at gh1i gh2i
    refine ⟨_,rfl,_,rfl,hl,_,0,.ref h1,rfl,rfl,SqL.of ghl,atI_nat (j:=0) rfl,_,rfl,hl,_,1,.ref h2,rfl,rfl,SqL.of ghl,atI_nat (j:=1) rfl,p,h1,h2,M.length,R,_,_,rfl,hO.same' s1,G,hm24,gh1i,gh2i,by rw [List.length_map]; omega,by rw [List.length_map]; omega,c1,c2,ce,fun r ws ps H2 s2 hrn gr hpw hld hto => ?_,fun H2 s2 hno => ?_⟩
    · rw [toNat_cast,toNat_cast,eg] at hld
      rw [toNat_cast,toNat_cast] at hto
      have t2:=s1.trans s2
      refine ⟨_,rfl,_,rfl,_,rfl,by show 2 ≤ sizeLine; decide,fun l2 hl2 => ?_⟩
      have s3:=s2.trans (Same.put (o:=.lst [.ref t,.ref u]) hl2)
      have t3:=s1.trans s3
      refine ⟨hl,l2,_,_,_,rfl,rfl,SqL.of (s3 _ _ ghl),SqL.of upd_same,its_two (s3 _ _ gh1) (s3 _ _ gh2) (t3 _ _ hT) (t3 _ _ hU),_,rfl,iteF ?_⟩
      have gr3:=Same.put (o:=.lst [.ref t,.ref u]) hl2 _ _ gr
      have hpw3:=pairsV.same (Same.put (o:=.lst [.ref t,.ref u]) hl2) hpw
      refine ⟨_,rfl,rfl,_,rfl,iteF ?_⟩
      refine ⟨_,rfl,_,_,_,rfl,.lst gr3,rfl,_,rfl,iteF ?_⟩
      refine ⟨_,rfl,_,rfl,eqL_nats (SqL.of (t3 _ _ hT)) (SqL.of (t3 _ _ hU)) ?_⟩
      generalize upd H2 l2 (.lst [.ref t,.ref u]) = H3 at s3 t3 gr3 hpw3 ⊢
      have hwl : ws.length = ps.length:=hpw3.length.symm
      have eqe : decide (cs = ds) = ws.isEmpty:=by
        by_cases e : cs = ds
        · subst e
          have h0 : LedTo (gA M.length R) cs cs (some []):=⟨0,.inr (by simp [ledAt]),by simp [ledAt,wayOf]⟩
          have e0:=hto.uniq h0
          injection e0 with e0
          rw [e0] at hwl
          rw [List.eq_nil_of_length_eq_zero hwl,decide_eq_true rfl]
          rfl
        · rw [decide_eq_false e]
          cases ws with
          | cons _ _ => rfl
          | nil =>
            have : ps = []:=List.eq_nil_of_length_eq_zero hwl.symm
            rw [this] at hld
            exact absurd hld e
      refine ⟨_,rfl,by show 0 ≤ sizeLine; decide,fun l3 hl3 => ?_⟩
      have s4:=Same.put (o:=.lst []) hl3
      refine ⟨r,l3,ws,rfl,rfl,SqL.of (s4 _ _ gr3),SqL.of upd_same,rfl,false,by rw [eqe,decide_eq_true rfl]; rfl,iteF ?_⟩
      have t4:=t3.trans s4
      have gr4:=s4 _ _ gr3
      have hpw4:=pairsV.same s4 hpw3
      refine ⟨_,rfl,_,rfl,_,rfl,_,rfl,kn,t,u,r,M,us,ws,cs,ds,ps,rfl,hM,t4.seq hkn,pairsV.same t4 hkp,t4 _ _ hT,t4 _ _ hU,gr4,hpw4,by omega,cN.lt,hld,fun H5 s5 => ⟨_,rfl,iteF ?_⟩⟩
      have gr5:=s5 _ _ gr4
      have hpw5:=pairsV.same s5 hpw4
      refine ⟨_,rfl,r,_,rfl,.inl (SqL.of gr5),fun Fd hFd => ?_⟩
      have sF:=Same.put (o:=.lst ws) hFd
      have gF:=put_at (o:=.lst ws) hFd
      have gr6:=sF _ _ gr5
      have hpw6:=pairsV.same sF hpw5
      have s16:=s3.trans (s4.trans (s5.trans sF))
      have hFr : Fd ≠ r:=fun z => by rw [z,gr5] at hFd; cases hFd
      generalize upd H5 Fd (.lst ws) = H6 at sF gF gr6 hpw6 s16 ⊢
      refine ⟨_,rfl,.inl ⟨rfl,_,SqL.of gr6⟩,r,ws,rfl,rfl,gr6,?_⟩
      have s17 : Same H1 (upd H6 r (.lst [])):=fun b o e => by
        rw [upd_ne (ne_of_none e hrn)]
        exact s16 _ _ e
      have gF7 : (upd H6 r (.lst [])) Fd = some (.lst ws):=by rw [upd_ne hFr]; exact gF
      have hpw7:=pairsV_upd (ys:=[]) gr6 hpw6
      generalize upd H6 r (.lst []) = H7 at s17 gF7 hpw7 ⊢
      have t7:=s1.trans s17
      refine ⟨_,rfl,_,rfl,_,rfl,by show 2 ≤ sizeLine; decide,fun l4 hl4 => ?_⟩
      have s8:=Same.put (o:=.lst [.ref t,.ref u]) hl4
      have s18:=s17.trans s8
      have t8:=s1.trans s18
      refine ⟨hl,l4,_,_,_,rfl,rfl,SqL.of (s18 _ _ ghl),SqL.of upd_same,its_two (s18 _ _ gh1) (s18 _ _ gh2) (t8 _ _ hT) (t8 _ _ hU),true,rfl,iteT ?_⟩
      refine ⟨_,rfl,_,rfl,_,rfl,p,t,u,M.length,R,_,_,rfl,hO.same' t8,G,hm24,t8 _ _ hTi,t8 _ _ hUi,by rw [List.length_map]; omega,by rw [List.length_map]; omega,c1,c2,ce,fun r2 ws2 ps2 H9 s9 hr2 gr2 hpw2 hld2 hto2 => ?_,fun H9 s9 hno => ?_⟩
      · rw [toNat_cast,toNat_cast] at hto2
        have e2:=hto2.uniq hto
        injection e2 with e2
        subst e2
        have gF9:=s9 _ _ (s8 _ _ gF7)
        have hpw9:=pairsV.same s9 (pairsV.same s8 hpw7)
        refine ⟨_,rfl,r2,Fd,_,_,_,rfl,rfl,SqL.of gr2,SqL.of gF9,its_pairs hpw2 hpw9,?_⟩
        rw [all_true]
        exact kk _ (t8.trans s9)
      · rw [toNat_cast,toNat_cast,eg] at hno
        exact absurd hld (hno ps)
    · rw [toNat_cast,toNat_cast,eg] at hno
      have t2:=s1.trans s2
      refine ⟨_,rfl,_,rfl,_,rfl,by show 2 ≤ sizeLine; decide,fun l2 hl2 => ?_⟩
      have s3:=s2.trans (Same.put (o:=.lst [.ref t,.ref u]) hl2)
      have t3:=s1.trans s3
      refine ⟨hl,l2,_,_,_,rfl,rfl,SqL.of (s3 _ _ ghl),SqL.of upd_same,its_two (s3 _ _ gh1) (s3 _ _ gh2) (t3 _ _ hT) (t3 _ _ hU),_,rfl,iteF ?_⟩
      refine ⟨_,rfl,rfl,_,rfl,iteT ?_⟩
      have : db = false:=by
        cases db with
        | false => rfl
        | true => obtain ⟨ps,hp⟩:=hdb rfl; exact absurd hp (hno ps)
      subst this
      exact ⟨_,rfl,_,rfl,kk _ t3⟩
end
def Un (n : Nat) (R : Nat → Nat → Bool) (a b c : Nat) : Prop:=R a c = true ∧ ∃ m x j y,IsM n R b c m ∧ IsJ n R a m x ∧ IsJ n R a b j ∧ IsM n R j c y ∧ x ≠ y
def Lex (a b c a' b' c' : Nat) : Prop:=a < a' ∨ (a = a' ∧ (b < b' ∨ (b = b' ∧ c < c')))
structure First (n : Nat) (U : Nat → Nat → Nat → Prop) (a b c : Nat) : Prop where
  la : a < n
  lb : b < n
  lc : c < n
  is : U a b c
  no : ∀ a' b' c',a' < n → b' < n → c' < n → Lex a' b' c' a b c → ¬ U a' b' c'
def UnV (n : Nat) (U : Nat → Nat → Nat → Prop) (v : V) (H : Hp) : Prop:=(v = .non ∧ ∀ a b c,a < n → b < n → c < n → ¬ U a b c) ∨ ∃ t a b c : Nat,v = .ref t ∧ H t = some (.tup [.int a,.int b,.int c]) ∧ First n U a b c
section
variable {P : Program} {w : World} {K : PySem.W.Frag} {mg : Str → Option Value} {base : Heap} {f : Addr} {fd : FuncData}
end
theorem good_le {M : List Nat} (hM : Ev.Lat M) : Good M.length (Ev.leM M):=by
  refine ⟨fun a ha => Ev.leM_refl _ _,fun a b ha hb h1 h2 => Ev.leM_antisymm hM.nd ha hb h1 h2,fun a b ha hb => ?_,fun a b ha hb => ?_⟩
  · obtain ⟨c,hc,h⟩:=hM.joinEx ha hb
    exact ⟨c,hc,h⟩
  · obtain ⟨c,hc,_,h⟩:=hM.meetEx ha hb
    exact ⟨c,hc,fun x _ => h x⟩
theorem joinFn {M : List Nat} (L : Ev.Lat M) : ∃ J : Nat → Nat → Nat,∀ a b,a < M.length → b < M.length → IsJ M.length (Ev.leM M) a b (J a b) :=
  ⟨fun a b => if h : a < M.length ∧ b < M.length then Classical.choose (L.joinEx h.1 h.2) else 0,fun a b ha hb => by
    have h:=Classical.choose_spec (L.joinEx ha hb)
    simp only [ha,hb,and_self,dite_true]
    exact ⟨h.1,h.2⟩⟩
theorem meetFn {M : List Nat} (L : Ev.Lat M) : ∃ J : Nat → Nat → Nat,∀ a b,a < M.length → b < M.length → IsM M.length (Ev.leM M) a b (J a b) :=
  ⟨fun a b => if h : a < M.length ∧ b < M.length then Classical.choose (L.meetEx h.1 h.2) else 0,fun a b ha hb => by
    have h:=Classical.choose_spec (L.meetEx ha hb)
    simp only [ha,hb,and_self,dite_true]
    exact ⟨h.1,fun x _ => h.2.2 x⟩⟩
theorem un_iff {n : Nat} {R : Nat → Nat → Bool} {J N : Nat → Nat → Nat} (G : Good n R) (hJ : ∀ a b,a < n → b < n → IsJ n R a b (J a b)) (hN : ∀ a b,a < n → b < n → IsM n R a b (N a b)) {a b c : Nat} (ha : a < n) (hb : b < n) (hc : c < n) :
    Un n R a b c ↔ R a c = true ∧ J a (N b c) ≠ N (J a b) c:=by
  have h1:=hN b c hb hc
  have h2:=hJ a _ ha h1.1
  have h3:=hJ a b ha hb
  have h4:=hN _ c h3.1 hc
  constructor
  · rintro ⟨h,m,x,j,y,k1,k2,k3,k4,ne⟩
    refine ⟨h,?_⟩
    obtain rfl:=k1.uniq G h1
    obtain rfl:=k3.uniq G h3
    rw [h2.uniq G k2,h4.uniq G k4]
    exact ne
  · rintro ⟨h,ne⟩
    exact ⟨h,_,_,_,_,h1,h2,h3,h4,ne⟩
def TabL (H : Hp) (D : Addr) (n : Nat) (g : Nat → Nat → V) : Prop := ∃ as : List Addr,H D = some (.lst (as.map V.ref)) ∧ as.length = n ∧ ∀ (i : Nat) a,as[i]? = some a → H a = some (.lst ((List.range n).map (g i)))
theorem TabL.same {H H' : Hp} {D : Addr} {n : Nat} {g : Nat → Nat → V} (s : Same H H') (h : TabL H D n g) : TabL H' D n g:=by
  obtain ⟨as,e,l,q⟩:=h
  exact ⟨as,s _ _ e,l,fun i a ha => s _ _ (q i a ha)⟩
theorem TabL.get {H : Hp} {D : Addr} {n : Nat} {g : Nat → Nat → V} (h : TabL H D n g) {i : Nat} (hi : i < n) : ∃ vs b,H D = some (.lst vs) ∧ vs[i]? = some (.ref b) ∧ H b = some (.lst ((List.range n).map (g i))):=by
  obtain ⟨as,e,l,q⟩:=h
  have ha : as[i]? = some as[i]:=List.getElem?_eq_getElem (by omega)
  exact ⟨_,as[i],e,by rw [List.getElem?_map,ha]; rfl,q _ _ ha⟩
section
variable {P : Program} {w : World} {K : PySem.W.Frag} {mg : Str → Option Value} {base : Heap} {f : Addr} {fd : FuncData}
abbrev s_law_uneven : Stmt:=top 61
theorem sc_law_uneven : FnScope ["_law_masks","_law_count","_law_joins","_law_meets","_law_a","_law_b","_law_c","_law_low"] ["_law_masks"] (defScope s_law_uneven):=⟨rfl,rfl,rfl,by decide +kernel,rfl,by decide +kernel,by decide +kernel⟩
def sp_unevenM (K : PySem.W.Frag) : Sp:=fun vs H Q _ => ∃ (m : Nat) (M : List Nat),vs = [.ref m] ∧ SqL K H m (M.map nV) ∧ Ev.Lat M ∧ ∀ v H',Same H H' → UnV M.length (Un M.length (Ev.leM M)) v H' → Q v H'
theorem ok_unevenM (F : Fun K "_law_uneven" "_law_uneven" s_law_uneven f fd) (T : Txt mg) (c_law_join : Cal P w K mg base "_law_join" ["_law_masks","_law_a","_law_b"] 1 (sp_joinM K)) (c_law_meet : Cal P w K mg base "_law_meet" ["_law_masks","_law_a","_law_b"] 1 (sp_meetM K)) :
    FnOk P w K mg base CX0 2 f fd ["_law_masks"] (sp_unevenM K):=by
  refine F.ok sc_law_uneven (fun vs H Q E h => ?_) (fun cdv A outer s H vs Q E hr h => ?_)
  · obtain ⟨m,M,rfl,_⟩:=h
    rfl
  · obtain ⟨m,M,rfl,hm,L,kk⟩:=h
    have nd:=sc_law_uneven.nd
    have en : (((M.map nV).length : Int)).toNat = M.length:=by rw [Int.toNat_natCast,List.length_map]
    have hn:=L.len
    have G:=good_le L
    obtain ⟨J,hJ⟩:=joinFn L
    obtain ⟨N,hN⟩:=meetFn L
    refine ⟨_,(pss_cons (ps_set (i:=1) nd rfl (Or.inr rfl) (pe_callB (call_lenK (K:=K) rfl) rfl T.len PySem.boot_len (pa_cons (pv 0) pa_nil)))
      (pss_cons (ps_setC1 (i:=2) nd rfl rfl (own:=["_law_a"]) (fr:=[("_law_count", 1),("_law_masks", 0)]) rfl (blkOk1 (v := "_law_a") (defScope s_law_uneven) ["_law_masks","_law_count","_law_joins","_law_meets","_law_a","_law_b","_law_c","_law_low"] rfl rfl (by decide +kernel) (fun _ _ => rfl) (fun _ => rfl)) (pi_range1 rfl T.range (pa_cons (pv 1) pa_nil)) (fun _ _ _ _ => ⟨(pg_name (i:=0) (by decide +kernel : (["_law_a","_law_count","_law_masks"] : List Str).Nodup) rfl (Or.inr rfl)),pif_nil,(pe_comp (own:=["_law_b"]) (fr:=[("_law_masks", 2),("_law_a", 0)]) rfl (blkOkIn ["_law_a","_law_count","_law_masks"] rfl rfl (by decide +kernel)) (pi_range1 rfl T.range (pa_cons (pv 1) pa_nil)) (fun _ _ _ _ => ⟨(pg_name (i:=0) (by decide +kernel : (["_law_b","_law_masks","_law_a"] : List Str).Nodup) rfl (Or.inl rfl)),pif_nil,(pe_callC c_law_join hr rfl (pa_cons (pv 1) (pa_cons (pv 2) (pa_cons (pv 0) pa_nil (star_of (fun _ _ h => nomatch h))) (star_of (fun _ _ h => nomatch h))) (star_of (fun _ _ h => nomatch h))))⟩))⟩))
      (pss_cons (ps_setC1 (i:=3) nd rfl rfl (own:=["_law_a"]) (fr:=[("_law_count", 1),("_law_masks", 0)]) rfl (blkOk1 (v := "_law_a") (defScope s_law_uneven) ["_law_masks","_law_count","_law_joins","_law_meets","_law_a","_law_b","_law_c","_law_low"] rfl rfl (by decide +kernel) (fun _ _ => rfl) (fun _ => rfl)) (pi_range1 rfl T.range (pa_cons (pv 1) pa_nil)) (fun _ _ _ _ => ⟨(pg_name (i:=0) (by decide +kernel : (["_law_a","_law_count","_law_masks"] : List Str).Nodup) rfl (Or.inr rfl)),pif_nil,(pe_comp (own:=["_law_b"]) (fr:=[("_law_masks", 2),("_law_a", 0)]) rfl (blkOkIn ["_law_a","_law_count","_law_masks"] rfl rfl (by decide +kernel)) (pi_range1 rfl T.range (pa_cons (pv 1) pa_nil)) (fun _ _ _ _ => ⟨(pg_name (i:=0) (by decide +kernel : (["_law_b","_law_masks","_law_a"] : List Str).Nodup) rfl (Or.inl rfl)),pif_nil,(pe_callC c_law_meet hr rfl (pa_cons (pv 1) (pa_cons (pv 2) (pa_cons (pv 0) pa_nil (star_of (fun _ _ h => nomatch h))) (star_of (fun _ _ h => nomatch h))) (star_of (fun _ _ h => nomatch h))))⟩))⟩))
      (pss_cons (ps_for PassesOwn.never rfl (pi_range1 rfl T.range (pa_cons (pv 1) pa_nil)) (pg_name (i:=4) nd rfl (Or.inl rfl))
      (pss_one (ps_for PassesOwn.never rfl (pi_range1 rfl T.range (pa_cons (pv 1) pa_nil)) (pg_name (i:=5) nd rfl (Or.inl rfl))
      (pss_one (ps_for PassesOwn.never rfl (pi_range1 rfl T.range (pa_cons (pv 1) pa_nil)) (pg_name (i:=6) nd rfl (Or.inl rfl))
      (pss_cons (ps_set (i:=7) nd rfl (Or.inl rfl) (pe_ix (ix_listK (K:=K) rfl) (pe_ix (ix_listK (K:=K) rfl) (pv 2) (pv 4) (fun _ _ => rfl)) (pe_ix (ix_listK (K:=K) rfl) (pe_ix (ix_listK (K:=K) rfl) (pv 3) (pv 5) (fun _ _ => rfl)) (pv 6) (fun _ _ => rfl)) (fun _ _ => rfl)))
      (pss_one (ps_if (PW.pt (pw_and (pt_cmpR op_eq (pe_ix (ix_listK (K:=K) rfl) (pe_ix (ix_listK (K:=K) rfl) (pv 2) (pv 4) (fun _ _ => rfl)) (pv 6) (fun _ _ => rfl)) (pv 6) (nomark _)) (pw_and1 (pt_cmpR op_ne (pv 7) (pe_ix (ix_listK (K:=K) rfl) (pe_ix (ix_listK (K:=K) rfl) (pv 3) (pe_ix (ix_listK (K:=K) rfl) (pe_ix (ix_listK (K:=K) rfl) (pv 2) (pv 4) (fun _ _ => rfl)) (pv 5) (fun _ _ => rfl)) (fun _ _ => rfl)) (pv 6) (fun _ _ => rfl)) (nomark _))))) (pss_one (ps_ret (pe_tup (pa_cons (pv 4) (pa_cons (pv 5) (pa_cons (pv 6) pa_nil (star_of (fun _ _ h => nomatch h))) (star_of (fun _ _ h => nomatch h))) (star_of (fun _ _ h => nomatch h)))))) pss_nil))))))))
      (pss_one (ps_ret pe_non)))))),?_⟩
    refine ⟨_,rfl,m,_,rfl,.inl hm,?_⟩
    refine ⟨_,rfl,_,rfl,by rw [List.length_map]; exact (n62 (by omega)).1,by rw [List.length_map]; exact (n62 (by omega)).2,fun D hD => comp_fresh (fun a => (List.range M.length).map fun b => nV (J a b)) src_range hD (by rw [en]; exact sl24 hn) (fun i H2 Kt hi hs hk => ?_) (fun H2 as hs2 hl hla _ _ hc => ?_)⟩
    · rw [en] at hi
      refine ⟨_,rfl,_,rfl,by rw [List.length_map]; exact (n62 (by omega)).1,by rw [List.length_map]; exact (n62 (by omega)).2,fun D2 hD2 => comp_all (fun b => nV (J i b)) src_range hD2 (by rw [en]; exact sl24 hn) (fun b H3 Kt2 hb hs3 hk3 => ?_) (fun H3 hs3 hl3 => hk D2 H3 hs3 hD2 (by rw [en] at hl3; exact hl3))⟩
      rw [en] at hb
      refine ⟨_,rfl,_,rfl,_,rfl,m,i,b,M,by simp,hs3.seq (hs.seq hm),L,hi,hb,fun c H4 s4 hc hcp => ?_⟩
      have e : c = J i b:=IsJ.uniq G ⟨hc,hcp⟩ (hJ i b hi hb)
      subst e
      exact hk3 _ s4
    rw [en] at hla
    have tJ : TabL H2 D M.length fun a b => nV (J a b):=⟨as,hl,hla,hc⟩
    refine ⟨_,rfl,_,rfl,by rw [List.length_map]; exact (n62 (by omega)).1,by rw [List.length_map]; exact (n62 (by omega)).2,fun E hE => comp_fresh (fun a => (List.range M.length).map fun b => nV (N a b)) src_range hE (by rw [en]; exact sl24 hn) (fun i H3 Kt hi hs hk => ?_) (fun H3 as' hs3 hl' hla' _ _ hc' => ?_)⟩
    · rw [en] at hi
      refine ⟨_,rfl,_,rfl,by rw [List.length_map]; exact (n62 (by omega)).1,by rw [List.length_map]; exact (n62 (by omega)).2,fun D2 hD2 => comp_all (fun b => nV (N i b)) src_range hD2 (by rw [en]; exact sl24 hn) (fun b H4 Kt2 hb hs4 hk4 => ?_) (fun H4 hs4 hl4 => hk D2 H4 hs4 hD2 (by rw [en] at hl4; exact hl4))⟩
      rw [en] at hb
      refine ⟨_,rfl,_,rfl,_,rfl,m,i,b,M,by simp,hs4.seq (hs.seq (hs2.seq hm)),L,hi,hb,fun c H5 s5 hc hcp => ?_⟩
      have e : c = N i b:=IsM.uniq G ⟨hc,fun x _ => hcp x⟩ (hN i b hi hb)
      subst e
      exact hk4 _ s5
    rw [en] at hla'
    have tN : TabL H3 E M.length fun a b => nV (N a b):=⟨as',hl',hla',hc'⟩
    have tJ3:=tJ.same hs3
    have s03:=hs2.trans hs3
    refine ⟨_,rfl,_,rfl,by rw [List.length_map]; exact (n62 (by omega)).1,by rw [List.length_map]; exact (n62 (by omega)).2,for_range (lo:=0) (n:=(((M.map nV).length : Int)).toNat) (fun i σ H4 => ∃ (v4 v5 v6 v7 : Option V),σ = [some (.ref m),some (.int (M.map nV).length),some (.ref D),some (.ref E),v4,v5,v6,v7] ∧ Same H3 H4 ∧ ∀ a b c,a < i → b < M.length → c < M.length → ¬ Un M.length (Ev.leM M) a b c)
      ⟨none,none,none,none,rfl,Same.refl _,fun a b c h => by omega⟩ ?_ ?_⟩
    · rintro i σ H4 hi ⟨v4,v5,v6,v7,rfl,s4,no1⟩
      rw [en] at hi
      refine ⟨_,rfl,_,rfl,by rw [List.length_map]; exact (n62 (by omega)).1,by rw [List.length_map]; exact (n62 (by omega)).2,for_range (lo:=0) (n:=(((M.map nV).length : Int)).toNat) (fun j σ H5 => ∃ (v5 v6 v7 : Option V),σ = [some (.ref m),some (.int (M.map nV).length),some (.ref D),some (.ref E),some (.int (0 + (i : Int))),v5,v6,v7] ∧ Same H3 H5 ∧ ∀ b c,b < j → c < M.length → ¬ Un M.length (Ev.leM M) i b c)
        ⟨v5,v6,v7,rfl,s4,fun b c h => by omega⟩ ?_ ?_⟩
      · rintro j σ H5 hj ⟨v5,v6,v7,rfl,s5,no2⟩
        rw [en] at hj
        refine ⟨_,rfl,_,rfl,by rw [List.length_map]; exact (n62 (by omega)).1,by rw [List.length_map]; exact (n62 (by omega)).2,for_range (lo:=0) (n:=(((M.map nV).length : Int)).toNat) (fun k σ H6 => ∃ (v6 v7 : Option V),σ = [some (.ref m),some (.int (M.map nV).length),some (.ref D),some (.ref E),some (.int (0 + (i : Int))),some (.int (0 + (j : Int))),v6,v7] ∧ Same H3 H6 ∧ ∀ c,c < k → ¬ Un M.length (Ev.leM M) i j c)
          ⟨v6,v7,rfl,s5,fun c h => by omega⟩ ?_ ?_⟩
        · rintro k σ H6 hk ⟨v6,v7,rfl,s6,no3⟩
          rw [en] at hk
          have next : ¬ Un M.length (Ev.leM M) i j k → ∀ c,c < k + 1 → ¬ Un M.length (Ev.leM M) i j c:=fun h c hc => by
            by_cases e : c = k
            · subst e; exact h
            · exact no3 c (by omega)
          have u:=un_iff G hJ hN hi hj hk
          have hm1:=(hN j k hj hk).1
          have hj1:=(hJ i j hi hj).1
          obtain ⟨xs,rb,x1,x2,x3⟩:=(tJ3.same s6).get hi
          obtain ⟨ys,sb,y1,y2,y3⟩:=(tN.same s6).get hj
          obtain ⟨zs,tb,z1,z2,z3⟩:=(tN.same s6).get hj1
          refine ⟨_,rfl,_,rfl,D,_,_,.ref rb,rfl,rfl,SqL.of x1,at0 x2,_,rfl,_,rfl,E,_,_,.ref sb,rfl,rfl,SqL.of y1,at0 y2,_,rfl,sb,_,_,.int (N j k),rfl,rfl,SqL.of y3,at0 (map_get hk),rb,_,_,.int (J i (N j k)),rfl,rfl,SqL.of x3,atI_nat (map_get hm1),?_⟩
          refine ⟨_,rfl,_,rfl,D,_,_,.ref rb,rfl,rfl,SqL.of x1,at0 x2,_,rfl,rb,_,_,.int (J i k),rfl,rfl,SqL.of x3,at0 (map_get hk),_,rfl,rfl,_,rfl,?_⟩
          have ed : decide (V.int (J i k : Int) = V.int (0 + (k : Int))) = Ev.leM M i k:=by
            rw [Int.zero_add]
            exact (hJ i k hi hk).eq_iff G hi hk
          rw [ed]
          refine ite2 (fun h => ?_) (fun h => ?_)
          · refine ⟨_,rfl,_,rfl,_,rfl,_,rfl,D,_,_,.ref rb,rfl,rfl,SqL.of x1,at0 x2,_,rfl,rb,_,_,.int (J i j),rfl,rfl,SqL.of x3,at0 (map_get hj),E,_,_,.ref tb,rfl,rfl,SqL.of z1,atI_nat z2,_,rfl,tb,_,_,.int (N (J i j) k),rfl,rfl,SqL.of z3,at0 (map_get hk),rfl,_,rfl,?_⟩
            refine ite2 (fun h2 => ?_) (fun h2 => ?_)
            · have ne : J i (N j k) ≠ N (J i j) k:=fun z => by rw [z] at h2; simp at h2
              refine ⟨_,rfl,_,rfl,_,rfl,by show 3 ≤ sizeLine; decide,fun t ht => kk _ _ (s03.trans (s6.trans (Same.put ht))) (.inr ⟨t,i,j,k,rfl,by rw [upd_same,Int.zero_add,Int.zero_add,Int.zero_add],hi,hj,hk,u.mpr ⟨h,ne⟩,fun a' b' c' ha hb hc l => ?_⟩)⟩
              rcases l with l | ⟨rfl,l | ⟨rfl,l⟩⟩
              · exact no1 a' b' c' l hb hc
              · exact no2 b' c' l hc
              · exact no3 c' l
            · refine ⟨_,_,rfl,s6,next fun z => ?_⟩
              have ne:=(u.mp z).2
              exact absurd (by rw [decide_eq_false (fun q => by injection q with q; omega)]; rfl) h2
          · exact iteF ⟨_,_,rfl,s6,next fun z => h z.1⟩
        · rintro σ H6 ⟨v6,v7,rfl,s6,no3⟩
          rw [en] at no3
          refine ⟨_,_,_,rfl,s6,fun b c hb hc => ?_⟩
          by_cases e : b = j
          · subst e; exact no3 c hc
          · exact no2 b c (by omega) hc
      · rintro σ H5 ⟨v5,v6,v7,rfl,s5,no2⟩
        rw [en] at no2
        refine ⟨_,_,_,_,rfl,s5,fun a b c ha hb hc => ?_⟩
        by_cases e : a = i
        · subst e; exact no2 b c hb hc
        · exact no1 a b c (by omega) hb hc
    · rintro σ H4 ⟨v4,v5,v6,v7,rfl,s4,no1⟩
      rw [en] at no1
      exact kk _ _ (s03.trans s4) (.inl ⟨rfl,no1⟩)
end
section
variable {n : Nat} {R : Nat → Nat → Bool}
theorem md_of (G : Good n R) (no : ∀ a b c,a < n → b < n → c < n → ¬ Un n R a b c) : ∃ J N,Md n R J N:=by
  have hJ : ∃ J : Nat → Nat → Nat,∀ a b,a < n → b < n → IsJ n R a b (J a b):=⟨fun a b => if h : a < n ∧ b < n then Classical.choose (G.join a b h.1 h.2) else 0,fun a b ha hb => by
    have h:=Classical.choose_spec (G.join a b ha hb)
    simp only [ha,hb,and_self,dite_true]
    exact h⟩
  have hN : ∃ N : Nat → Nat → Nat,∀ a b,a < n → b < n → IsM n R a b (N a b):=⟨fun a b => if h : a < n ∧ b < n then Classical.choose (G.meet a b h.1 h.2) else 0,fun a b ha hb => by
    have h:=Classical.choose_spec (G.meet a b ha hb)
    simp only [ha,hb,and_self,dite_true]
    exact h⟩
  obtain ⟨J,hJ⟩:=hJ
  obtain ⟨N,hN⟩:=hN
  refine ⟨J,N,G,hJ,hN,fun a b c ha hb hc hac => ?_⟩
  apply Decidable.byContradiction
  intro ne
  have h1:=hN b c hb hc
  have h3:=hJ a b ha hb
  exact no a b c ha hb hc ⟨hac,_,_,_,_,h1,hJ a _ ha h1.1,h3,hN _ c h3.1 hc,ne⟩
end
theorem sum_cast : ∀ rs : List Nat,(rs.map fun r => ((2 ^ r : Nat) : Int)).sum = (((rs.map fun r => 2 ^ r).sum : Nat) : Int)
  | [] => rfl
  | r :: rs => by
    simp only [List.map_cons,List.sum_cons]
    rw [sum_cast rs]
    push_cast
    rfl
theorem getD_map {α β : Type} {g : α → β} {l : List α} {i : Nat} {d : α} {e : β} (h : i < l.length) : (l.map g).getD i e = g (l.getD i d):=by
  rw [List.getD_eq_getElem?_getD,List.getD_eq_getElem?_getD,List.getElem?_map,List.getElem?_eq_getElem h]; rfl
theorem range_getD {α β : Type} (g : α → β) (l : List α) (d : α) : (List.range l.length).map (fun i => g (l.getD i d)) = l.map g:=by
  apply List.ext_getElem
  · simp
  · intro i h1 h2
    have h : i < l.length:=by simpa using h1
    simp only [List.getElem_map,List.getElem_range]
    rw [List.getD_eq_getElem?_getD,List.getElem?_eq_getElem h]
    rfl
abbrev bits : List Nat:=[0,1,1,0,1,0,0,1]
section
variable {P : Program} {w : World} {K : PySem.W.Frag} {mg : Str → Option Value} {base : Heap} {f : Addr} {fd : FuncData}
abbrev s_law_fields : Stmt:=top 53
theorem sc_law_fields : FnScope ["_law_found","_law_k","_law_rows"] [] (defScope s_law_fields):=⟨rfl,rfl,rfl,by decide +kernel,rfl,by decide +kernel,by decide +kernel⟩
def sp_fields : Sp:=fun vs H Q _ => vs = [] ∧ ∀ l H',Same H H' → H l = none → H' l = some (.lst (Ev.fieldsM.map nV)) → Q (.ref l) H'
def F0 : List Nat:=[1,255] ++ ((List.range 7).map fun i => 1 ||| 2 ^ (1 + i))
set_option maxHeartbeats 1000000 in
theorem ok_fields (F : Fun K "_law_fields" "_law_fields" s_law_fields f fd) (T : Txt mg) : FnOk P w K mg base CX0 1 f fd [] sp_fields:=by
  refine F.ok sc_law_fields (fun vs H Q E h => ?_) (fun cdv A outer s H vs Q E hr h => ?_)
  · obtain ⟨rfl,_⟩:=h
    rfl
  · obtain ⟨rfl,kk⟩:=h
    have nd:=sc_law_fields.nd
    refine ⟨_,(pss_cons (ps_set (i:=0) nd rfl (Or.inl rfl) (pe_op op_cat (pe_lst (pa_cons pe_int (pa_cons pe_int pa_nil))) (pe_comp (own:=["_law_k"]) (fr:=[]) rfl (blkOk (defScope s_law_fields) ["_law_found","_law_k","_law_rows"] rfl rfl (by decide +kernel)) (pi_range2 rfl T.range (pa_cons pe_int (pa_cons pe_int pa_nil))) (fun _ _ _ _ => ⟨(pg_name (i:=0) (by decide +kernel : (["_law_k"] : List Str).Nodup) rfl (Or.inl rfl)),pif_nil,(pe_op op_or pe_int (pe_op op_shl pe_int (pv 0)))⟩))))
      (pss_cons (ps_for PassesOwn.never rfl (pi_range2 rfl T.range (pa_cons pe_int (pa_cons pe_int pa_nil))) (pg_name (i:=1) nd rfl (Or.inr rfl))
      (pss_cons (ps_setC (i:=2) nd rfl rfl (own:=["_law_row"]) (fr:=[("_law_k", 1)]) rfl (blkOk (defScope s_law_fields) ["_law_found","_law_k","_law_rows"] rfl rfl (by decide +kernel)) (pi_range1 rfl T.range (pa_cons pe_int pa_nil)) (fun _ _ _ _ => ⟨(pg_name (i:=0) (by decide +kernel : (["_law_row","_law_k"] : List Str).Nodup) rfl (Or.inl rfl)),(pif_one (pt_cmpR op_eq (pe_ix (ix_listK (K:=K) rfl) (pe_lst (pa_ints [0,1,1,0,1,0,0,1] rfl)) (pe_op op_and (pv 0) (pv 1)) (fun _ _ => rfl)) pe_int (nomark _))),(pv 0)⟩))
      (pss_one (ps_expr (pe_bmK (K:=K) rfl PySem.F.plainAttrs_list PySem.F.slot_list_append PySem.F.type_list_append mt_append (pv 0) (pa_cons (pe_callB (call_sumK (K:=K) rfl rfl) rfl T.sum boot_sum (pa_cons (pe_comp (own:=["_law_row"]) (fr:=[]) rfl (blkOk (defScope s_law_fields) ["_law_found","_law_k","_law_rows"] rfl rfl (by decide +kernel)) (pi_listK (K:=K) rfl (pv 2)) (fun _ _ _ _ => ⟨(pg_name (i:=0) (by decide +kernel : (["_law_row"] : List Str).Nodup) rfl (Or.inl rfl)),pif_nil,(pe_op op_shl pe_int (pv 0))⟩)) pa_nil)) pa_nil))))))
      (pss_one (ps_ret (pv 0))))),?_⟩
    refine ⟨by show 2 ≤ sizeLine; decide,fun p1 hp1 => ?_⟩
    refine ⟨1,8,rfl,⟨by decide,by decide,by decide,by decide⟩,fun D hD => comp_all (fun i => nV (1 ||| 2 ^ (1 + i))) src_range hD (by show 7 < sizeLine; decide) (fun i H2 Kt hi hs hk => ?_) (fun H2 hs hl => ?_)⟩
    · refine ⟨_,rfl,_,_,rfl,rfl,⟨by omega,by have : i < 7:=hi; omega,by decide⟩,_,_,rfl,rfl,?_⟩
      have e : (1 : Int) * 2 ^ (1 + (i : Int)).toNat = ((2 ^ (1 + i) : Nat) : Int):=by
        have e1 : (1 + (i : Int)).toNat = 1 + i:=by omega
        rw [e1]; push_cast; omega
      dsimp only
      rw [e]
      have e2 : Builtin.bitOr (1 : Int) ((2 ^ (1 + i) : Nat) : Int) = ((1 ||| 2 ^ (1 + i) : Nat) : Int):=orN 1 _
      rw [e2]
      exact hk _ (Same.refl _)
    have h1' : H2 p1 = some (.lst [.int 1,.int 255]):=hs _ _ upd_same
    have s1 : Same H H2:=(Same.put hp1).trans hs
    refine ⟨p1,D,_,_,rfl,rfl,h1',hl,by show 9 ≤ sizeLine; decide,fun L hL => ?_⟩
    have hL0 : H L = none:=s1.free hL
    refine ⟨1,8,rfl,⟨by decide,by decide,by decide,by decide⟩,for_range (lo:=1) (n:=7) (fun i σ H3 => ∃ v1 v2,σ = [some (.ref L),v1,v2] ∧ Same H H3 ∧
      H3 L = some (.lst ((F0 ++ (List.range i).map fun k => (((List.range 8).filter fun r => bits.getD (r &&& (1 + k)) 0 == 0).map fun r => 2 ^ r).sum).map nV))) ⟨none,none,rfl,s1.trans (Same.put hL),by rw [upd_same]; rfl⟩ ?_ ?_⟩
    · rintro i σ H3 hi ⟨v1,v2,rfl,s3,hl3⟩
      refine ⟨8,rfl,by decide,by decide,fun D2 hD2 => comp_val (fun r => bits.getD (r &&& (1 + i)) 0 == 0) nV src_range hD2 (by show 8 < sizeLine; decide) (fun j H4 Kt Kf hj hs hkt hkf => ?_) (fun H4 hs4 hl4 => ?_)⟩
      · have hj8 : j < 8:=hj
        refine ⟨by show 8 ≤ sizeLine; decide,fun q hq => ?_⟩
        have eb : Builtin.bitAnd (0 + (j : Int)) (1 + (i : Int)) = ((j &&& (1 + i) : Nat) : Int):=by
          rw [Int.zero_add]
          exact andN j (1 + i)
        have hx : j &&& (1 + i) < bits.length:=Nat.lt_of_le_of_lt Nat.and_le_left (by show j < 8; exact hj8)
        refine ⟨_,rfl,_,rfl,_,_,rfl,rfl,q,bits.map nV,_,nV (bits.getD (j &&& (1 + i)) 0),rfl,rfl,SqL.of upd_same,?_,rfl,_,rfl,?_⟩
        · rw [eb]
          exact atI_nat (by rw [List.getElem?_map,List.getElem?_eq_getElem hx,List.getD_eq_getElem?_getD,List.getElem?_eq_getElem hx]; rfl)
        · have ed : decide (nV (bits.getD (j &&& (1 + i)) 0) = V.int 0) = (bits.getD (j &&& (1 + i)) 0 == 0):=by
            rw [Bool.eq_iff_iff]
            simp only [decide_eq_true_iff,beq_iff_eq]
            constructor
            · intro h; injection h with h; omega
            · intro h; rw [h]; rfl
          rw [ed]
          refine ite2 (fun h => ?_) (fun h => ?_)
          · refine ⟨_,rfl,?_⟩
            rw [Int.zero_add]
            exact hkt _ h (Same.put hq)
          · exact hkf _ (by simpa using h) (Same.put hq)
      · have hl3':=hs4 _ _ hl3
        change H4 D2 = some (.lst (((List.range 8).filter fun r => bits.getD (r &&& (1 + i)) 0 == 0).map nV)) at hl4
        refine ⟨_,rfl,.inl ⟨rfl,_,SqL.of hl3'⟩,?_⟩
        refine ⟨_,rfl,D2,rfl,⟨_,SqL.of hl4⟩,fun D3 hD3 => comp_all (fun j => .int ((2 ^ (((List.range 8).filter fun r => bits.getD (r &&& (1 + i)) 0 == 0).getD j 0) : Nat) : Int)) (src_list (SqL.of hl4)) hD3 ?_ (fun j H5 Kt hj hs hk => ?_) (fun H5 hs5 hl5 => ?_)⟩
        · rw [List.length_map]
          exact Nat.lt_of_le_of_lt (List.length_filter_le _ _) (by show 8 < sizeLine; decide)
        · have hj' : j < ((List.range 8).filter fun r => bits.getD (r &&& (1 + i)) 0 == 0).length:=by simpa using hj
          have hr : ((List.range 8).filter fun r => bits.getD (r &&& (1 + i)) 0 == 0).getD j 0 < 8:=by
            rw [List.getD_eq_getElem?_getD,List.getElem?_eq_getElem hj']
            have:=(List.mem_filter.mp (List.getElem_mem hj')).1
            simpa using this
          refine ⟨_,rfl,_,_,rfl,getD_map (d:=0) hj',⟨by omega,by omega,by decide⟩,?_⟩
          have e : (1 : Int) * 2 ^ ((((List.range 8).filter fun r => bits.getD (r &&& (1 + i)) 0 == 0).getD j 0 : Nat) : Int).toNat = ((2 ^ (((List.range 8).filter fun r => bits.getD (r &&& (1 + i)) 0 == 0).getD j 0) : Nat) : Int):=by
            rw [Int.toNat_natCast]; push_cast; omega
          dsimp only
          rw [e]
          exact hk _ (Same.refl _)
        · have en : (((List.range 8).filter fun r => bits.getD (r &&& (1 + i)) 0 == 0).map nV).length = ((List.range 8).filter fun r => bits.getD (r &&& (1 + i)) 0 == 0).length:=List.length_map _
          rw [en,range_getD (fun r => V.int ((2 ^ r : Nat) : Int))] at hl5
          have el : ((List.range 8).filter fun r => bits.getD (r &&& (1 + i)) 0 == 0).map (fun r => V.int ((2 ^ r : Nat) : Int)) = (((List.range 8).filter fun r => bits.getD (r &&& (1 + i)) 0 == 0).map fun r => ((2 ^ r : Nat) : Int)).map V.int:=by rw [List.map_map]; rfl
          rw [el] at hl5
          refine ⟨D3,_,rfl,SqL.of hl5,?_,fun x hx => ?_,?_⟩
          · rw [List.length_map]
            exact Nat.le_trans (List.length_filter_le _ _) (by simp)
          · obtain ⟨r,hr,rfl⟩:=List.mem_map.mp hx
            have h8 : r < 8:=by simpa using (List.mem_filter.mp hr).1
            have h2 : 2 ^ r ≤ 2 ^ 8:=Nat.pow_le_pow_right (by decide) (by omega)
            exact ⟨Int.natCast_nonneg _,Int.le_trans (Int.ofNat_le.mpr h2) (by decide)⟩
          · rw [sum_cast]
            refine ⟨L,_,_,rfl,rfl,hs5 _ _ hl3',?_,?_⟩
            · rw [List.length_map,List.length_append,List.length_map,List.length_range]
              have : F0.length = 9:=rfl
              exact slk (by omega)
            · refine ⟨_,_,rfl,?_,?_⟩
              · intro b o e
                rw [upd_ne (fun z => by rw [z,hL0] at e; cases e)]
                exact hs5 _ _ (hs4 _ _ (s3 _ _ e))
              · have er : List.range (i + 1) = List.range i ++ [i]:=List.range_succ
                rw [upd_same,er]
                simp only [List.map_append,List.map_cons,List.map_nil,List.append_assoc]
    · rintro σ H3 ⟨v1,v2,rfl,s3,hl3⟩
      exact ⟨_,rfl,kk L H3 s3 hL0 hl3⟩
end
theorem emodN (x : Int) (k : Nat) (hk : 0 < k) : ∃ r : Nat,r < k ∧ x % (k : Int) = (r : Int) :=
  ⟨(x % (k : Int)).toNat,by have h1:=Int.emod_nonneg x (show (k : Int) ≠ 0 by omega); have h2:=Int.emod_lt_of_pos x (show (0 : Int) < k by omega); omega,by have h1:=Int.emod_nonneg x (show (k : Int) ≠ 0 by omega); omega⟩
theorem flower_ok : ∀ r,r < 5 → Ev.flower (1 + r) ≠ [] ∧ (Ev.flower (1 + r)).length ≤ 100 ∧ ∀ x ∈ Ev.flower (1 + r),x < 2 ^ 40:=by decide +kernel
theorem lower_ok : ∀ a,a < 5 → ∀ b,b < 5 → Ev.stackM (Ev.flower (1 + a)) (Ev.flower (1 + b)) 10 ≠ [] ∧ (Ev.stackM (Ev.flower (1 + a)) (Ev.flower (1 + b)) 10).length ≤ 100:=by decide +kernel
theorem row_ok : ∀ r,r < 6 → (Ev.rowM (1 + r)).length ≤ 100 ∧ ∀ x ∈ Ev.rowM (1 + r),x < 2 ^ 40:=by decide +kernel
theorem ring_ok : ∀ r,r < 2 → Ev.ringM r ≠ [] ∧ (Ev.ringM r).length ≤ 100 ∧ ∀ x ∈ Ev.ringM r,x < 2 ^ 40:=by decide +kernel
section
variable {P : Program} {w : World} {K : PySem.W.Frag} {mg : Str → Option Value} {base : Heap} {f : Addr} {fd : FuncData}
abbrev s_law_kind : Stmt:=top 54
theorem sc_law_kind : FnScope ["_law_draws_here","_law_family","_law_way","_law_one","_law_other","_law_some","_law_lower","_law_row","_law_ring"] ["_law_draws_here","_law_family"] (defScope s_law_kind):=⟨rfl,rfl,rfl,by decide +kernel,rfl,by decide +kernel,by decide +kernel⟩
def sp_kind (K : PySem.W.Frag) : Sp:=fun vs H Q _ => ∃ (a : Nat) (ns : List Int) (fam : Int),vs = [.ref a,.int fam] ∧ H a = some (.lst (ns.map V.int)) ∧ ns.length = 8 ∧ ∀ l M H',Same H H' → H l = none → H' l = some (.lst (M.map nV)) → Ev.Lat M → Q (.ref l) H'
set_option maxHeartbeats 0 in
theorem ok_kind (F : Fun K "_law_kind" "_law_kind" s_law_kind f fd) (T : Txt mg) (c_law_flower : Cal P w K mg base "_law_flower" ["_law_many"] 1 sp_flower) (c_law_stack : Cal P w K mg base "_law_stack" ["_law_one","_law_other","_law_places"] 1 (sp_stack K))
    (c_law_fields : Cal P w K mg base "_law_fields" [] 1 sp_fields) (c_law_beside : Cal P w K mg base "_law_beside" ["_law_one","_law_other"] 1 (sp_beside K)) (c_law_shut : Cal P w K mg base "_law_shut" ["_law_masks","_law_both"] 1 (sp_shut K)) :
    FnOk P w K mg base CX0 2 f fd ["_law_draws_here","_law_family"] (sp_kind K):=by
  refine F.ok sc_law_kind (fun vs H Q E h => ?_) (fun cdv A outer s H vs Q E hr h => ?_)
  · obtain ⟨a,ns,fam,rfl,_⟩:=h
    rfl
  · obtain ⟨a,ns,fam,rfl,ha,hlen,kk⟩:=h
    have nd:=sc_law_kind.nd
    obtain ⟨d0,d1,d2,d3,d4,d5,d6,d7,rfl⟩ : ∃ d0 d1 d2 d3 d4 d5 d6 d7,ns = [d0,d1,d2,d3,d4,d5,d6,d7]:=by
      match ns,hlen with
      | [d0,d1,d2,d3,d4,d5,d6,d7],_ => exact ⟨_,_,_,_,_,_,_,_,rfl⟩
    obtain ⟨r1,hr1,e1⟩:=emodN d1 5 (by decide)
    obtain ⟨r2,hr2,e2⟩:=emodN d2 5 (by decide)
    obtain ⟨f1a,f1b,f1c⟩:=flower_ok r1 hr1
    obtain ⟨f2a,f2b,f2c⟩:=flower_ok r2 hr2
    refine ⟨_,(pss_cons (ps_set (i:=2) nd rfl (Or.inl rfl) (pe_op op_mod (pe_ix (ix_listK (K:=K) rfl) (pv 0) pe_int (fun _ _ => rfl)) pe_int))
      (pss_cons (ps_set (i:=3) nd rfl (Or.inl rfl) (pe_callC c_law_flower hr rfl (pa_cons (pe_op op_add pe_int (pe_op op_mod (pe_ix (ix_listK (K:=K) rfl) (pv 0) pe_int (fun _ _ => rfl)) pe_int)) pa_nil)))
      (pss_cons (ps_set (i:=4) nd rfl (Or.inl rfl) (pe_callC c_law_flower hr rfl (pa_cons (pe_op op_add pe_int (pe_op op_mod (pe_ix (ix_listK (K:=K) rfl) (pv 0) pe_int (fun _ _ => rfl)) pe_int)) pa_nil)))
      (pss_cons (ps_if (pt_cmpR op_eq (pv 2) pe_int (nomark _)) (pss_cons (ps_set (i:=6) nd rfl (Or.inl rfl) (pe_callC c_law_stack hr rfl (pa_cons (pv 3) (pa_cons (pv 4) (pa_cons pe_int pa_nil (star_of (fun _ _ h => nomatch h))) (star_of (fun _ _ h => nomatch h))) (star_of (fun _ _ h => nomatch h)))))
      (pss_one (ps_ret (pe_callC c_law_stack hr rfl (pa_cons (pv 6) (pa_cons (pe_callC c_law_flower hr rfl (pa_cons (pe_op op_add pe_int (pe_op op_mod (pe_ix (ix_listK (K:=K) rfl) (pv 0) pe_int (fun _ _ => rfl)) pe_int)) pa_nil)) (pa_cons pe_int pa_nil (star_of (fun _ _ h => nomatch h))) (star_of (fun _ _ h => nomatch h))) (star_of (fun _ _ h => nomatch h))))))) pss_nil)
      (pss_cons (ps_if (pt_cmpR op_eq (pv 2) pe_int (nomark _)) (pss_one (ps_ret (pe_callC0 c_law_fields hr rfl))) pss_nil)
      (pss_cons (ps_if (pt_cmpR op_eq (pv 2) pe_int (nomark _)) (pss_cons (ps_set (i:=7) nd rfl (Or.inl rfl) (pe_slice (sl_listK (K:=K) rfl) (pe_lst (pa_ints [0,1,3,7] rfl)) po_none (po_some (pe_op op_add pe_int (pe_op op_mod (pe_ix (ix_listK (K:=K) rfl) (pv 0) pe_int (fun _ _ => rfl)) pe_int)))))
      (pss_cons (ps_if (pt_cmpR op_eq (pe_op op_mod (pe_ix (ix_listK (K:=K) rfl) (pv 0) pe_int (fun _ _ => rfl)) pe_int) pe_int (nomark _)) (pss_one (ps_ret (pe_callC c_law_beside hr rfl (pa_cons (pv 7) (pa_cons (pe_slice (sl_listK (K:=K) rfl) (pe_lst (pa_ints [0,1,3,7,15,31] rfl)) po_none (po_some (pe_op op_add pe_int (pe_op op_mod (pe_ix (ix_listK (K:=K) rfl) (pv 0) pe_int (fun _ _ => rfl)) pe_int)))) pa_nil))))) pss_nil)
      (pss_one (ps_ret (pe_callC c_law_beside hr rfl (pa_cons (pv 7) (pa_cons (pe_callC c_law_flower hr rfl (pa_cons (pe_op op_add pe_int (pe_op op_mod (pe_ix (ix_listK (K:=K) rfl) (pv 0) pe_int (fun _ _ => rfl)) pe_int)) pa_nil)) pa_nil))))))) pss_nil)
      (pss_cons (ps_if (pt_cmpR op_eq (pv 2) pe_int (nomark _)) (pss_cons (ps_set (i:=8) nd rfl (Or.inl rfl) (pe_ix (ix_listK (K:=K) rfl) (pe_lst (pa_cons (pe_lst (pa_ints [0,1,2,6,7] rfl)) (pa_cons (pe_lst (pa_ints [0,1,3,4,12,15] rfl)) pa_nil))) (pe_op op_mod (pe_ix (ix_listK (K:=K) rfl) (pv 0) pe_int (fun _ _ => rfl)) pe_int) (fun _ _ => rfl)))
      (pss_cons (ps_if (pt_cmpR op_eq (pe_op op_mod (pe_ix (ix_listK (K:=K) rfl) (pv 0) pe_int (fun _ _ => rfl)) pe_int) pe_int (nomark _)) (pss_one (ps_ret (pe_callC c_law_beside hr rfl (pa_cons (pe_slice (sl_listK (K:=K) rfl) (pe_lst (pa_ints [0,1,3,7] rfl)) po_none (po_some (pe_op op_add pe_int (pe_op op_mod (pe_ix (ix_listK (K:=K) rfl) (pv 0) pe_int (fun _ _ => rfl)) pe_int)))) (pa_cons (pv 8) pa_nil))))) pss_nil)
      (pss_one (ps_ret (pe_callC c_law_stack hr rfl (pa_cons (pv 8) (pa_cons (pv 4) (pa_cons pe_int pa_nil (star_of (fun _ _ h => nomatch h))) (star_of (fun _ _ h => nomatch h))) (star_of (fun _ _ h => nomatch h)))))))) pss_nil)
      (pss_cons (ps_setC (i:=5) nd rfl rfl (own:=["_law_k"]) (fr:=[("_law_family", 1)]) rfl (blkOk (defScope s_law_kind) ["_law_draws_here","_law_family","_law_way","_law_one","_law_other","_law_some","_law_lower","_law_row","_law_ring"] rfl rfl (by decide +kernel)) (pi_range1 rfl T.range (pa_cons pe_int pa_nil)) (fun _ _ _ _ => ⟨(pg_name (i:=0) (by decide +kernel : (["_law_k","_law_family"] : List Str).Nodup) rfl (Or.inl rfl)),(pif_one (pt_cmpR op_eq (pe_op op_and (pe_op op_shr (pv 1) (pv 0)) pe_int) pe_int (nomark _))),(pv 0)⟩))
      (pss_one (ps_ret (pe_callC c_law_shut hr rfl (pa_cons (pe_op op_cat (pe_lst (pa_cons pe_int pa_nil)) (pv 5)) (pa_cons (pe_cmpR (op_inK (K:=K) rfl) (pv 2) (pe_tup (pa_cons pe_int (pa_cons pe_int pa_nil))) (by with_unfolding_all rfl)) pa_nil))))))))))))),?_⟩
    -- way,one,other
    refine ⟨_,rfl,a,_,0,_,rfl,rfl,SqL.of ha,rfl,_,_,rfl,rfl,(by show (0 : Int) < 8; decide),?_⟩
    refine ⟨_,rfl,a,_,1,_,rfl,rfl,SqL.of ha,rfl,_,_,rfl,rfl,(by show (0 : Int) < 5; decide),_,_,rfl,rfl,1 + r1,by rw [show d1 % 5 = (r1 : Int) from e1]; simp,by omega,by omega,fun o1 H1 s1 ho1 q1 => ?_⟩
    refine ⟨_,rfl,a,_,2,_,rfl,rfl,SqL.of (s1 _ _ ha),rfl,_,_,rfl,rfl,(by show (0 : Int) < 5; decide),_,_,rfl,rfl,1 + r2,by rw [show d2 % 5 = (r2 : Int) from e2]; simp,by omega,by omega,fun o2 H2 s2 ho2 q2 => ?_⟩
    have s02:=s1.trans s2
    have ha2:=s02 _ _ ha
    have q12:=s2 _ _ q1
    -- way == 3
    refine ⟨_,rfl,rfl,_,rfl,ite2 (fun _ => ?_) (fun _ => ?_)⟩
    · obtain ⟨r3,hr3,e3⟩:=emodN d3 4 (by decide)
      obtain ⟨f3a,f3b,f3c⟩:=flower_ok r3 (by omega)
      obtain ⟨l1,l2⟩:=lower_ok r1 hr1 r2 hr2
      refine ⟨_,rfl,_,rfl,o1,o2,10,_,_,rfl,q12,q2,f1a,f1b,f2b,f2c,by decide,fun o3 H3 s3 ho3 q3 => ?_⟩
      refine ⟨_,rfl,_,rfl,a,_,3,_,rfl,rfl,SqL.of (s3 _ _ ha2),rfl,_,_,rfl,rfl,(by show (0 : Int) < 4; decide),_,_,rfl,rfl,1 + r3,by rw [show d3 % 4 = (r3 : Int) from e3]; simp,by omega,by omega,fun o4 H4 s4 ho4 q4 => ?_⟩
      refine ⟨o3,o4,20,_,_,rfl,s4 _ _ q3,q4,l1,l2,f3b,f3c,by decide,fun o5 H5 s5 ho5 q5 => ?_⟩
      have s04:=(s02.trans s3).trans s4
      exact kk o5 _ H5 (s04.trans s5) (s04.free ho5) q5 (Ev.lat3 r1 hr1 r2 hr2 r3 hr3)
    -- way == 4
    refine ⟨_,rfl,rfl,_,rfl,ite2 (fun _ => ?_) (fun _ => ?_)⟩
    · exact ⟨rfl,fun o3 H3 s3 ho3 q3 => kk o3 _ H3 (s02.trans s3) (s02.free ho3) q3 Ev.lat4⟩
    -- way == 5
    refine ⟨_,rfl,rfl,_,rfl,ite2 (fun _ => ?_) (fun _ => ?_)⟩
    · obtain ⟨t1,ht1,g1⟩:=emodN d1 4 (by decide)
      have g1' : 1 + d1 % 4 = ((1 + t1 : Nat) : Int):=by rw [show d1 % 4 = (t1 : Int) from g1]; push_cast; rfl
      obtain ⟨w1,w2⟩:=row_ok t1 (by omega)
      refine ⟨by show 4 ≤ sizeLine; decide,fun p1 hp1 => ?_⟩
      refine ⟨_,rfl,a,_,1,_,rfl,rfl,SqL.of (Same.put hp1 _ _ ha2),rfl,_,_,rfl,rfl,(by show (0 : Int) < 4; decide),_,_,rfl,rfl,_,rfl,p1,_,rfl,SqL.of upd_same,fun p2 hp2 => ?_⟩
      have er : cutV (([0,1,3,7] : List Int).map V.int) none (some (1 + d1 % 4)) = (Ev.rowM (1 + t1)).map nV:=by
        rw [g1',cutTo]
        have : ∀ t,t < 4 → (([0,1,3,7] : List Int).map V.int).take (1 + t) = (Ev.rowM (1 + t)).map nV:=by decide
        exact this t1 ht1
      rw [er]
      generalize hB : upd _ p2 _ = B
      have sB : Same H2 B:=by rw [← hB]; exact (Same.put hp1).trans (Same.put hp2)
      have hrow : B p2 = some (.lst ((Ev.rowM (1 + t1)).map nV)):=by rw [← hB,upd_same]
      have s0B:=s02.trans sB
      refine ⟨_,rfl,a,_,3,_,rfl,rfl,SqL.of (sB _ _ ha2),rfl,_,_,rfl,rfl,(by show (0 : Int) < 2; decide),rfl,_,rfl,ite2 (fun _ => ?_) (fun _ => ?_)⟩
      · obtain ⟨t2,ht2,g2⟩:=emodN d2 6 (by decide)
        have g2' : 1 + d2 % 6 = ((1 + t2 : Nat) : Int):=by rw [show d2 % 6 = (t2 : Int) from g2]; push_cast; rfl
        obtain ⟨w3,w4⟩:=row_ok t2 ht2
        refine ⟨_,rfl,by show 6 ≤ sizeLine; decide,fun p3 hp3 => ?_⟩
        refine ⟨_,rfl,a,_,2,_,rfl,rfl,SqL.of (Same.put hp3 _ _ (sB _ _ ha2)),rfl,_,_,rfl,rfl,(by show (0 : Int) < 6; decide),_,_,rfl,rfl,_,rfl,p3,_,rfl,SqL.of upd_same,fun p4 hp4 => ?_⟩
        have er2 : cutV (([0,1,3,7,15,31] : List Int).map V.int) none (some (1 + d2 % 6)) = (Ev.rowM (1 + t2)).map nV:=by
          rw [g2',cutTo]
          have : ∀ t,t < 6 → (([0,1,3,7,15,31] : List Int).map V.int).take (1 + t) = (Ev.rowM (1 + t)).map nV:=by decide
          exact this t2 ht2
        rw [er2]
        refine ⟨p2,p4,_,_,rfl,Same.put hp4 _ _ (Same.put hp3 _ _ hrow),upd_same,w1,w3,w4,fun o5 H5 s5 ho5 q5 => ?_⟩
        have s04:=(s0B.trans (Same.put hp3)).trans ((Same.put hp4).trans s5)
        refine kk o5 _ H5 s04 (Same.free ?_ ho5) q5 (Ev.lat5a t1 ht1 t2 ht2)
        exact (s0B.trans (Same.put hp3)).trans (Same.put hp4)
      · obtain ⟨t2,ht2,g2⟩:=emodN d2 4 (by decide)
        obtain ⟨f3a,f3b,f3c⟩:=flower_ok t2 (by omega)
        refine ⟨_,rfl,_,rfl,a,_,2,_,rfl,rfl,SqL.of (sB _ _ ha2),rfl,_,_,rfl,rfl,(by show (0 : Int) < 4; decide),_,_,rfl,rfl,1 + t2,by rw [show d2 % 4 = (t2 : Int) from g2]; simp,by omega,by omega,fun o4 H4 s4 ho4 q4 => ?_⟩
        refine ⟨p2,o4,_,_,rfl,s4 _ _ hrow,q4,w1,f3b,f3c,fun o5 H5 s5 ho5 q5 => ?_⟩
        have s04:=s0B.trans s4
        exact kk o5 _ H5 (s04.trans s5) (s04.free ho5) q5 (Ev.lat5b t1 ht1 t2 ht2)
    -- way == 6
    refine ⟨_,rfl,rfl,_,rfl,ite2 (fun _ => ?_) (fun _ => ?_)⟩
    · obtain ⟨t1,ht1,g1⟩:=emodN d1 2 (by decide)
      obtain ⟨y1,y2,y3⟩:=ring_ok t1 ht1
      refine ⟨by show 5 ≤ sizeLine; decide,fun p1 hp1 => ⟨by show 6 ≤ sizeLine; decide,fun p2 hp2 => ⟨by show 2 ≤ sizeLine; decide,fun p3 hp3 => ?_⟩⟩⟩
      generalize hB : upd (upd (upd H2 p1 _) p2 _) p3 _ = B
      have sB : Same H2 B:=by rw [← hB]; exact ((Same.put hp1).trans (Same.put hp2)).trans (Same.put hp3)
      have h3 : B p3 = some (.lst [.ref p1,.ref p2]):=by rw [← hB,upd_same]
      have h1 : B p1 = some (.lst ((Ev.ringM 0).map nV)):=by rw [← hB]; exact Same.put hp3 _ _ (Same.put hp2 _ _ upd_same)
      have h2 : B p2 = some (.lst ((Ev.ringM 1).map nV)):=by rw [← hB]; exact Same.put hp3 _ _ upd_same
      obtain ⟨pr,hpr,hring⟩ : ∃ pr,atI [V.ref p1,V.ref p2] (t1 : Int) = some (.ref pr) ∧ B pr = some (.lst ((Ev.ringM t1).map nV)):=by
        match t1,ht1 with
        | 0,_ => exact ⟨p1,rfl,h1⟩
        | 1,_ => exact ⟨p2,rfl,h2⟩
      have s0B:=s02.trans sB
      refine ⟨_,rfl,a,_,1,_,rfl,rfl,SqL.of (sB _ _ ha2),rfl,_,_,rfl,rfl,(by show (0 : Int) < 2; decide),p3,_,_,.ref pr,rfl,rfl,SqL.of h3,by rw [show d1 % 2 = (t1 : Int) from g1]; exact hpr,?_⟩
      refine ⟨_,rfl,a,_,3,_,rfl,rfl,SqL.of (sB _ _ ha2),rfl,_,_,rfl,rfl,(by show (0 : Int) < 2; decide),rfl,_,rfl,ite2 (fun _ => ?_) (fun _ => ?_)⟩
      · obtain ⟨t2,ht2,g2⟩:=emodN d2 4 (by decide)
        have g2' : 1 + d2 % 4 = ((1 + t2 : Nat) : Int):=by rw [show d2 % 4 = (t2 : Int) from g2]; push_cast; rfl
        obtain ⟨w1,w2⟩:=row_ok t2 (by omega)
        refine ⟨by show 4 ≤ sizeLine; decide,fun p4 hp4 => ?_⟩
        refine ⟨_,rfl,a,_,2,_,rfl,rfl,SqL.of (Same.put hp4 _ _ (sB _ _ ha2)),rfl,_,_,rfl,rfl,(by show (0 : Int) < 4; decide),_,_,rfl,rfl,_,rfl,p4,_,rfl,SqL.of upd_same,fun p5 hp5 => ?_⟩
        have er : cutV (([0,1,3,7] : List Int).map V.int) none (some (1 + d2 % 4)) = (Ev.rowM (1 + t2)).map nV:=by
          rw [g2',cutTo]
          have : ∀ t,t < 4 → (([0,1,3,7] : List Int).map V.int).take (1 + t) = (Ev.rowM (1 + t)).map nV:=by decide
          exact this t2 ht2
        rw [er]
        refine ⟨_,rfl,p5,pr,_,_,rfl,upd_same,Same.put hp5 _ _ (Same.put hp4 _ _ hring),w1,y2,y3,fun o5 H5 s5 ho5 q5 => ?_⟩
        have s04:=(s0B.trans (Same.put hp4)).trans ((Same.put hp5).trans s5)
        refine kk o5 _ H5 s04 (Same.free ?_ ho5) q5 (Ev.lat6a t2 ht2 t1 ht1)
        exact (s0B.trans (Same.put hp4)).trans (Same.put hp5)
      · refine ⟨_,rfl,_,rfl,pr,o2,10,_,_,rfl,hring,sB _ _ q2,y1,y2,f2b,f2c,by decide,fun o5 H5 s5 ho5 q5 => ?_⟩
        exact kk o5 _ H5 (s0B.trans s5) (s0B.free ho5) q5 (Ev.lat6b r2 hr2 t1 ht1)
    -- sets drawn by bits
    refine ⟨15,rfl,by decide,by decide,fun D hD => comp_val (fun j => decide (V.int (Builtin.bitAnd (fam / 2 ^ (0 + (j : Int)).toNat) 1) = V.int 1)) nV src_range hD (by show 15 < sizeLine; decide) (fun j H3 Kt Kf hj hs hkt hkf => ?_) (fun H3 hs3 hl3 => ?_)⟩
    · refine ⟨_,rfl,_,rfl,_,_,rfl,rfl,by omega,_,_,rfl,rfl,rfl,_,rfl,ite2 (fun h => ?_) (fun h => ?_)⟩
      · refine ⟨_,rfl,?_⟩
        rw [Int.zero_add]
        exact hkt _ h (Same.refl _)
      · exact hkf _ (by simpa using h) (Same.refl _)
    · change H3 D = some (.lst (((List.range 15).filter fun j : Nat => decide (V.int (Builtin.bitAnd (fam / 2 ^ (0 + (j : Int)).toNat) 1) = V.int 1)).map nV)) at hl3
      generalize hS : (List.range 15).filter (fun j : Nat => decide (V.int (Builtin.bitAnd (fam / 2 ^ (0 + (j : Int)).toNat) 1) = V.int 1)) = SM at hl3
      have famS : Fam (15 :: SM):=by
        refine ⟨List.nodup_cons.mpr ⟨fun h => ?_,?_⟩,fun x hx => ?_⟩
        · rw [← hS] at h
          have:=(List.mem_filter.mp h).1
          simp at this
        · rw [← hS]; exact List.nodup_range.filter _
        · rcases List.mem_cons.mp hx with rfl | hx
          · decide
          · rw [← hS] at hx
            have:=(List.mem_filter.mp hx).1
            simp at this
            omega
      have hlS : SM.length ≤ 15:=by have:=famS.len; simp at this; omega
      refine ⟨by show 1 ≤ sizeLine; decide,fun p1 hp1 => ⟨_,rfl,p1,D,_,_,rfl,rfl,upd_same,Same.put hp1 _ _ hl3,by rw [List.length_map]; exact Nat.le_of_lt (sl24 (by show 1 + SM.length ≤ 24; omega)),fun p2 hp2 => ?_⟩⟩
      refine ⟨_,rfl,by show 2 ≤ sizeLine; decide,fun p3 hp3 => ⟨p3,_,rfl,.inr (SqT.of upd_same),rfl,rfl,?_⟩⟩
      have h4 : (upd (upd (upd H3 p1 (.lst [V.int 15])) p2 (.lst ([V.int 15] ++ SM.map nV))) p3 (.tup [V.int 2,V.int 7])) p2 = some (.lst ((15 :: SM).map nV)):=Same.put hp3 _ _ upd_same
      refine ⟨p2,15 :: SM,_,rfl,h4,famS,List.mem_cons_self,fun o5 M H5 s5 ho5 q5 hM => ?_⟩
      have s03:=s02.trans hs3
      have s06:=(((s03.trans (Same.put hp1)).trans (Same.put hp2)).trans (Same.put hp3)).trans s5
      refine kk o5 M H5 s06 (Same.free ?_ ho5) q5 hM
      exact ((s03.trans (Same.put hp1)).trans (Same.put hp2)).trans (Same.put hp3)
end
section
variable {P : Program} {w : World} {K : PySem.W.Frag} {mg : Str → Option Value} {base : Heap} {f : Addr} {fd : FuncData}
abbrev s_law_climb : Stmt:=top 62
theorem sc_law_climb : FnScope ["_law_known","_law_masks","_law_a","_law_b","_law_draws_here","_law_found","_law_k","_law_some"] ["_law_known","_law_masks","_law_a","_law_b","_law_draws_here"] (defScope s_law_climb):=⟨rfl,rfl,rfl,by decide +kernel,rfl,by decide +kernel,by decide +kernel⟩
def sp_climbM (K : PySem.W.Frag) : Sp:=fun vs H Q _ => ∃ (kn m a b d : Nat) (M : List Nat) (us : List V) (ds : List Int),vs = [.ref kn,.ref m,.int a,.int b,.ref d] ∧ SqL K H kn us ∧ Paired (pairV H) (stepsM M) us ∧ us.length ≤ 576 ∧ SqL K H m (M.map nV) ∧ Ev.Lat M ∧ a < M.length ∧ b < M.length ∧ Ev.leM M a b = true ∧ SqL K H d (ds.map V.int) ∧ 6 ≤ ds.length ∧
  ∀ L cs H',Same H H' → H L = none → H' L = some (.lst (cs.map nV)) → cs.length ≤ 25 → ClimbN M.length (Ev.leM M) cs → Cl.IsC (gA M.length (Ev.leM M)) b a cs → Q (.ref L) H'
theorem ok_climbM (F : Fun K "_law_climb" "_law_climb" s_law_climb f fd) (T : Txt mg) (c_law_at_most : Cal P w K mg base "_law_at_most" ["_law_masks","_law_a","_law_b"] 1 (sp_at_most K)) :
    FnOk P w K mg base CX0 2 f fd ["_law_known","_law_masks","_law_a","_law_b","_law_draws_here"] (sp_climbM K):=by
  refine F.ok sc_law_climb (fun vs H Q E h => ?_) (fun cdv A outer s H vs Q E hr h => ?_)
  · obtain ⟨kn,m,a,b,d,M,us,ds,rfl,_⟩:=h
    rfl
  · obtain ⟨kn,m,a,b,d,M,us,ds,rfl,hkn,hkp,hul,hm,hM,ha,hb,hab,hd,hdl,kk⟩:=h
    have nd:=sc_law_climb.nd
    have hpl : us.length = (stepsM M).length:=(Paired.length hkp).symm
    refine ⟨_,(pss_cons (ps_set (i:=5) nd rfl (Or.inr rfl) (pe_lst (pa_cons (pv 2) pa_nil)))
      (pss_cons (ps_for PassesOwn.never rfl (pi_range1 rfl T.range (pa_cons pe_int pa_nil)) (pg_name (i:=6) nd rfl (Or.inl rfl))
      (pss_cons (ps_setC (i:=7) nd rfl rfl (own:=["_law_c","_law_d"]) (fr:=[("_law_found", 5),("_law_masks", 1),("_law_b", 3)]) rfl (blkOk (defScope s_law_climb) ["_law_known","_law_masks","_law_a","_law_b","_law_draws_here","_law_found","_law_k","_law_some"] rfl rfl (by decide +kernel)) (pi_listK (K:=K) rfl (pv 0)) (fun _ _ _ _ => ⟨(pg_pair (K:=K) (i:=0) (j:=1) rfl rfl (by decide +kernel : (["_law_c","_law_d","_law_found","_law_masks","_law_b"] : List Str).Nodup) rfl rfl rfl rfl),(pif_one (PW.pt (pw_and (pt_cmpR op_eq (pv 0) (pe_ix (ix_listK (K:=K) rfl) (pv 2) (pe_un un_neg pe_int) (fun _ _ => rfl)) (nomark _)) (pw_and1 (pt_val (pe_callC c_law_at_most hr rfl (pa_cons (pv 3) (pa_cons (pv 1) (pa_cons (pv 4) pa_nil (star_of (fun _ _ h => nomatch h))) (star_of (fun _ _ h => nomatch h))) (star_of (fun _ _ h => nomatch h))))))))),(pv 1)⟩))
      (pss_one (ps_if (pt_cmpR op_ne (pe_ix (ix_listK (K:=K) rfl) (pv 5) (pe_un un_neg pe_int) (fun _ _ => rfl)) (pv 3) (nomark _)) (pss_one (ps_expr (pe_bmK (K:=K) rfl PySem.F.plainAttrs_list PySem.F.slot_list_append PySem.F.type_list_append mt_append (pv 5) (pa_cons (pe_ix (ix_listK (K:=K) rfl) (pv 7) (pe_op op_mod (pe_op op_add (pe_op op_fdiv (pe_ix (ix_listK (K:=K) rfl) (pv 4) (pe_op op_mod (pv 6) pe_int) (fun _ _ => rfl)) (pe_op op_add (pv 6) pe_int)) (pv 6)) (pe_callB (call_lenK (K:=K) rfl) rfl T.len PySem.boot_len (pa_cons (pv 7) pa_nil))) (fun _ _ => rfl)) pa_nil)))) pss_nil))))
      (pss_one (ps_ret (pv 5))))),?_⟩
    refine ⟨_,rfl,by show 1 ≤ sizeLine; decide,fun L hL => ?_⟩
    refine ⟨24,rfl,by decide,by decide,for_range (lo:=0) (n:=(24 : Int).toNat) (fun i σ H2 => ∃ (v6 v7 : Option V) (cs : List Nat) (z : Nat),σ = [some (.ref kn),some (.ref m),some (.int (a : Int)),some (.int (b : Int)),some (.ref d),some (.ref L),v6,v7] ∧ Same H H2 ∧ H2 L = some (.lst ((cs ++ [z]).map nV)) ∧ cs.length ≤ i ∧ ClimbN M.length (Ev.leM M) (cs ++ [z]) ∧ Ev.leM M z b = true ∧ (cs ++ [z]).head? = some a ∧ (z = b ∨ cs.length = i))
      ⟨none,none,[],a,rfl,Same.put hL,upd_same,Nat.le_refl _,ClimbN.one ha,hab,rfl,.inr rfl⟩ ?_ ?_⟩
    · rintro i σ H2 hi ⟨v6,v7,cs,z,rfl,s2,hl,hcl,hC,hzb,hhd,hzo⟩
      have hi24 : i < 24:=hi
      have hz : z < M.length:=hC.lt z (by simp)
      have elast : atI ((cs ++ [z]).map nV) (-1) = some (nV z):=by
        rw [atI_neg1 (by simp)]
        simp
      have hkp2:=pairsV.same s2 hkp
      have hpq : ∀ j,j < us.length → ∃ t,us[j]? = some (.ref t) ∧ H2 t = some (.tup [.int (((stepsM M).getD j (0,0)).1 : Int),.int (((stepsM M).getD j (0,0)).2 : Int)]):=fun j hj => by
        obtain ⟨q,hq,t,e1,e2⟩:=paired_get hkp2 (show us[j]? = some us[j] from List.getElem?_eq_getElem hj)
        exact ⟨t,by rw [List.getElem?_eq_getElem hj,e1],by rw [List.getD_eq_getElem?_getD,hq]; exact e2⟩
      refine ⟨_,rfl,kn,rfl,⟨_,s2.seq hkn⟩,fun D hD => comp_val (fun j => decide (((stepsM M).getD j (0,0)).1 = z) && Ev.leM M ((stepsM M).getD j (0,0)).2 b) (fun j => nV ((stepsM M).getD j (0,0)).2) (src_pairs (s2.seq hkn) hpq) hD (small1000 (by omega)) (fun j H3 Kt Kf hj hs hkt hkf => ?_) (fun H3 hs hl3 => ?_)⟩
      · have hqm:=mem_stepsM (p:=(stepsM M).getD j (0,0)) (by rw [List.getD_eq_getElem?_getD,List.getElem?_eq_getElem (by omega)]; exact List.getElem_mem _)
        refine ⟨_,rfl,_,rfl,_,rfl,L,_,_,_,rfl,rfl,SqL.of (hs _ _ hl),elast,rfl,_,rfl,?_⟩
        have ed : decide (V.int (((stepsM M).getD j (0,0)).1 : Int) = nV z) = decide (((stepsM M).getD j (0,0)).1 = z):=by
          apply decide_eq_decide.mpr
          constructor
          · intro h; injection h with h; omega
          · intro h; rw [h]
        rw [ed]
        refine ite2 (fun h1 => ?_) (fun h1 => ?_)
        · refine ⟨_,rfl,_,rfl,_,rfl,m,((stepsM M).getD j (0,0)).2,b,M,rfl,(s2.trans hs).seq hm,hqm.2.1,hb,fun H4 s4 => ⟨_,rfl,?_⟩⟩
          refine ite2 (fun h2 => ?_) (fun h2 => ?_)
          · exact ⟨_,rfl,hkt _ (by rw [h1,h2]; rfl) s4⟩
          · exact hkf _ (by rw [h1,Bool.true_and]; simpa using h2) s4
        · refine iteF (hkf _ ?_ (Same.refl _))
          have h2 : decide (((stepsM M).getD j (0,0)).1 = z) = false:=by simpa using h1
          rw [h2,Bool.false_and]
      · have hl':=hs _ _ hl
        have t3:=s2.trans hs
        have eS : ((List.range us.length).filter fun j => decide (((stepsM M).getD j (0,0)).1 = z) && Ev.leM M ((stepsM M).getD j (0,0)).2 b).map (fun j => nV ((stepsM M).getD j (0,0)).2) = (((stepsM M).filter fun q => decide (q.1 = z) && Ev.leM M q.2 b).map Prod.snd).map nV:=by
          rw [hpl,← range_filter_map (fun q : Nat × Nat => decide (q.1 = z) && Ev.leM M q.2 b) (0,0) (stepsM M),List.map_map,List.map_map]
          rfl
        rw [eS] at hl3
        generalize hS : ((stepsM M).filter fun q => decide (q.1 = z) && Ev.leM M q.2 b).map Prod.snd = S at hl3
        have memS : ∀ x ∈ S,x < M.length ∧ stepR M.length (Ev.leM M) z x = true ∧ Ev.leM M x b = true:=fun x hx => by
          rw [← hS] at hx
          obtain ⟨q,hq,rfl⟩:=List.mem_map.mp hx
          obtain ⟨h1,h2⟩:=List.mem_filter.mp hq
          rw [Bool.and_eq_true,decide_eq_true_iff] at h2
          obtain ⟨q1,q2⟩:=q
          obtain ⟨h2,h3⟩:=h2
          subst h2
          have:=(mem_stepsM_iff hM).mp h1
          exact ⟨this.2.1,this.2.2,h3⟩
        have lenS : S.length ≤ 576:=by
          rw [← hS,List.length_map]
          have:=List.length_filter_le (fun q : Nat × Nat => decide (q.1 = z) && Ev.leM M q.2 b) (stepsM M)
          omega
        refine ⟨_,rfl,_,rfl,L,_,_,_,rfl,rfl,SqL.of hl',elast,_,rfl,rfl,_,rfl,?_⟩
        have ed : (!decide (nV z = V.int (b : Int))) = !decide (z = b):=by
          congr 1
          apply decide_eq_decide.mpr
          constructor
          · intro h; injection h with h; omega
          · intro h; rw [h]
        rw [ed]
        refine ite2 (fun h1 => ?_) (fun h1 => ?_)
        · have hne : z ≠ b:=by simpa using h1
          have hS0 : 0 < S.length:=by
            obtain ⟨dd,hdd,hst,hdb⟩:=cover_ex hM (b:=b) hz (M.getD b 0) b (Nat.le_refl _) hb (by unfold belR; rw [hzb]; simp [hne]) (Ev.leM_refl _ _)
            have : dd ∈ S:=by
              rw [← hS]
              exact List.mem_map.mpr ⟨(z,dd),List.mem_filter.mpr ⟨(mem_stepsM_iff hM).mpr ⟨hz,hdd,hst⟩,by simp [hdb]⟩,rfl⟩
            exact List.length_pos_of_mem this
          refine ⟨_,rfl,.inl ⟨rfl,_,SqL.of hl'⟩,?_⟩
          obtain ⟨r6,h6,e6⟩:=emodN (0 + (i : Int)) 6 (by decide)
          have e6 : (0 + (i : Int)) % 6 = (r6 : Int):=e6
          obtain ⟨dv,edv⟩ : ∃ dv : Int,(ds.map V.int)[r6]? = some (.int dv):=⟨ds[r6]'(by omega),by rw [List.getElem?_map,List.getElem?_eq_getElem (by omega)]; rfl⟩
          refine ⟨_,rfl,_,rfl,_,rfl,_,_,rfl,rfl,by show (0 : Int) < 6; decide,d,_,_,.int dv,rfl,rfl,t3.seq hd,by show atI _ ((0 + (i : Int)) % 6) = _; rw [e6]; exact atI_nat edv,_,rfl,_,_,rfl,rfl,_,_,rfl,rfl,⟨by show (0 : Int) < 0 + (i : Int) + 1; omega,by show 0 + (i : Int) + 1 < 1073741824; omega⟩,_,rfl,_,_,rfl,rfl,?_⟩
          refine ⟨_,rfl,D,_,rfl,.inl (SqL.of hl3),_,_,rfl,rfl,by show (0 : Int) < ((S.map nV).length : Int); rw [List.length_map]; omega,?_⟩
          obtain ⟨rs,hrs,ers⟩:=emodN (dv / (0 + (i : Int) + 1) + (0 + (i : Int))) S.length hS0
          have hx : (S.map nV)[rs]? = some (nV (S.getD rs 0)):=nV_get hrs
          refine ⟨D,_,_,nV (S.getD rs 0),rfl,rfl,SqL.of hl3,by show atI _ ((dv / (0 + (i : Int) + 1) + (0 + (i : Int))) % ((S.map nV).length : Int)) = _; rw [List.length_map,ers]; exact atI_nat hx,?_⟩
          obtain ⟨m1,m2,m3⟩:=memS (S.getD rs 0) (mem_getD_nat hrs)
          refine ⟨L,_,nV (S.getD rs 0),rfl,rfl,hl',small1000 (by rw [List.length_map,List.length_append]; show cs.length + 1 ≤ 1000; omega),?_⟩
          refine ⟨_,_,cs ++ [z],S.getD rs 0,rfl,fun b o e => ?_,by rw [upd_same]; simp,by rw [List.length_append]; show cs.length + 1 ≤ i + 1; omega,hC.snoc m1 m2,m3,by rw [List.head?_append,hhd]; rfl,.inr (by rw [List.length_append,hzo.resolve_left hne]; rfl)⟩
          rw [upd_ne (fun z => by rw [z,hL] at e; cases e)]
          exact t3 _ _ e
        · exact ⟨_,_,cs,z,rfl,t3,hl',by omega,hC,hzb,hhd,.inl (by simpa using h1)⟩
    · rintro σ H2 ⟨v6,v7,cs,z,rfl,s2,hl,hcl,hC,hzb,hhd,hzo⟩
      have hcl : cs.length ≤ 24:=hcl
      have hz : Cl.IsC (gA M.length (Ev.leM M)) z a (cs ++ [z]):=⟨hhd,by simp,fun i hi => mem_gA.mpr ⟨hC.lt _ (mem_getD_nat (by omega)),hC.lt _ (mem_getD_nat hi),hC.st i hi⟩⟩
      have hzb' : z = b:=by
        rcases hzo with h | h
        · exact h
        · have h : cs.length = 24:=h
          have h1:=isC_len' (lat_good hM) hz ha
          have h2:=upC_le M.length (Ev.leM M) a
          have h3:=hM.len
          rw [List.length_append,h] at h1
          have h1 : 24 + 1 ≤ _:=h1
          omega
      rw [hzb'] at hz hl hC
      exact ⟨_,rfl,kk L (cs ++ [b]) H2 s2 hL hl (by rw [List.length_append]; show cs.length + 1 ≤ 25; omega) hC hz⟩
end
section
variable {P : Program} {w : World} {K : PySem.W.Frag} {mg : Str → Option Value} {base : Heap} {f : Addr} {fd : FuncData}
theorem erase_map (g : Nat → V) : ∀ (l : List Nat) (k : Nat),(l.map g).eraseIdx k = (l.eraseIdx k).map g
  | [],_ => rfl
  | _ :: _,0 => rfl
  | x :: l,k + 1 => by rw [List.map_cons,List.eraseIdx_cons_succ,List.eraseIdx_cons_succ,List.map_cons,erase_map g l k]
theorem erase_perm : ∀ (l : List Nat) (k : Nat) (h : k < l.length),(l[k] :: l.eraseIdx k).Perm l
  | x :: l,0,_ => List.Perm.refl _
  | x :: l,k + 1,h => (List.Perm.swap x (l[k]'(Nat.lt_of_succ_lt_succ h)) (l.eraseIdx k)).trans (List.Perm.cons x (erase_perm l k (Nat.lt_of_succ_lt_succ h)))
abbrev s_law_order : Stmt:=top 55
theorem sc_law_order : FnScope ["_law_script","_law_at","_law_draws_here","_law_family","_law_left","_law_found","_law_k"] ["_law_script","_law_at"] (defScope s_law_order):=⟨rfl,rfl,rfl,by decide +kernel,rfl,by decide +kernel,by decide +kernel⟩
def sp_order (K : PySem.W.Frag) : Sp:=fun vs H Q _ => ∃ (a : Nat) (ns : List Int) (k : Nat),vs = [.ref a,.int k] ∧ SqL K H a (ns.map V.int) ∧ ∀ l M H',Same H H' → H l = none → H' l = some (.lst (M.map nV)) → Ev.Lat M → Q (.ref l) H'
theorem ok_order (F : Fun K "_law_order" "_law_order" s_law_order f fd) (T : Txt mg) (c_law_cell_at : Cal P w K mg base "_law_cell_at" ["_law_script","_law_k"] 1 (sp_cell_at K)) (c_law_draws : Cal P w K mg base "_law_draws" ["_law_cell","_law_many"] 2 sp_draws)
    (c_law_kind : Cal P w K mg base "_law_kind" ["_law_draws_here","_law_family"] 2 (sp_kind K)) : FnOk P w K mg base CX0 3 f fd ["_law_script","_law_at"] (sp_order K):=by
  refine F.ok sc_law_order (fun vs H Q E h => ?_) (fun cdv A outer s H vs Q E hr h => ?_)
  · obtain ⟨a,ns,k,rfl,_⟩:=h
    rfl
  · obtain ⟨a,ns0,k,rfl,hS,kk⟩:=h
    have nd:=sc_law_order.nd
    refine ⟨_,(pss_cons (ps_set (i:=2) nd rfl (Or.inl rfl) (pe_callC c_law_draws hr rfl (pa_cons (pe_callC c_law_cell_at hr rfl (pa_cons (pv 0) (pa_cons (pv 1) pa_nil))) (pa_cons pe_int pa_nil))))
      (pss_cons (ps_set (i:=3) nd rfl (Or.inl rfl) (pe_ix (ix_listK (K:=K) rfl) (pe_callC c_law_draws hr rfl (pa_cons (pe_callC c_law_cell_at hr rfl (pa_cons (pv 0) (pa_cons (pe_op op_add (pv 1) pe_int) pa_nil))) (pa_cons pe_int pa_nil))) pe_int (fun _ _ => rfl)))
      (pss_cons (ps_if (pt_cmpR op_eq (pe_op op_mod (pe_ix (ix_listK (K:=K) rfl) (pv 2) pe_int (fun _ _ => rfl)) pe_int) pe_int (nomark _)) (pss_one (ps_set (i:=3) nd rfl (Or.inl rfl) (pe_op op_and (pv 3) (pe_ix (ix_listK (K:=K) rfl) (pv 2) pe_int (fun _ _ => rfl))))) pss_nil)
      (pss_cons (ps_set (i:=4) nd rfl (Or.inl rfl) (pe_callC c_law_kind hr rfl (pa_cons (pv 2) (pa_cons (pv 3) pa_nil))))
      (pss_cons (ps_set (i:=5) nd rfl (Or.inl rfl) (pe_lst pa_nil))
      (pss_cons (ps_for PassesOwn.never rfl (pi_range1 rfl T.range (pa_cons (pe_callB (call_lenK (K:=K) rfl) rfl T.len PySem.boot_len (pa_cons (pv 4) pa_nil)) pa_nil)) (pg_name (i:=6) nd rfl (Or.inl rfl))
      (pss_one (ps_expr (pe_bmK (K:=K) rfl PySem.F.plainAttrs_list PySem.F.slot_list_append PySem.F.type_list_append mt_append (pv 5) (pa_cons (pe_bmK (K:=K) rfl PySem.F.plainAttrs_list PySem.F.slot_list_pop PySem.F.type_list_pop mt_popAt (pv 4) (pa_cons (pe_op op_mod (pe_op op_add (pe_op op_fdiv (pe_ix (ix_listK (K:=K) rfl) (pv 2) pe_int (fun _ _ => rfl)) pe_int) (pe_op op_mul (pv 6) (pe_ix (ix_listK (K:=K) rfl) (pv 2) pe_int (fun _ _ => rfl)))) (pe_callB (call_lenK (K:=K) rfl) rfl T.len PySem.boot_len (pa_cons (pv 4) pa_nil))) pa_nil)) pa_nil)))))
      (pss_one (ps_ret (pv 5))))))))),?_⟩
    refine ⟨_,rfl,_,rfl,a,k,ns0,rfl,hS,fun c1 H1 s1 => ⟨c1,8,rfl,by decide,fun d ds H2 s2 hd q2 hlen hsm => ?_⟩⟩
    have s02:=s1.trans s2
    refine ⟨_,rfl,_,rfl,_,_,rfl,rfl,a,k + 1,ns0,by simp,s02.seq hS,fun c2 H3 s3 => ⟨c2,1,rfl,by decide,fun e ds2 H4 s4 he q4 hlen2 hsm2 => ?_⟩⟩
    obtain ⟨f0,rfl⟩ : ∃ f0,ds2 = [f0]:=by
      match ds2,hlen2 with
      | [f0],_ => exact ⟨f0,rfl⟩
    refine ⟨e,_,0,_,rfl,rfl,SqL.of q4,rfl,?_⟩
    obtain ⟨d0,d1',d2',d3,d4,d5,d6,d7,rfl⟩ : ∃ d0 d1 d2 d3 d4 d5 d6 d7,ds = [d0,d1,d2,d3,d4,d5,d6,d7]:=by
      match ds,hlen with
      | [d0,d1,d2,d3,d4,d5,d6,d7],_ => exact ⟨_,_,_,_,_,_,_,_,rfl⟩
    have s04:=(s02.trans s3).trans s4
    have qd:=s4 _ _ (s3 _ _ q2)
    have hdH : H d = none:=s1.free hd
    refine ⟨_,rfl,d,_,4,_,rfl,rfl,SqL.of qd,rfl,_,_,rfl,rfl,(by show (0 : Int) < 2; decide),rfl,_,rfl,ite2 (fun _ => ⟨_,rfl,_,rfl,d,_,5,_,rfl,rfl,SqL.of qd,rfl,_,_,rfl,rfl,?_⟩) (fun _ => ?_)⟩
    all_goals
      refine ⟨_,rfl,_,rfl,d,_,_,rfl,qd,rfl,fun L1 M H5 s5 hL1 q5 hM => ?_⟩
      refine ⟨by show 0 ≤ sizeLine; decide,fun L2 hL2 => ?_⟩
      have ln:=hM.len
      have en : (((M.map nV).length : Int)).toNat = M.length:=by rw [Int.toNat_natCast,List.length_map]
      have hL1H : H L1 = none:=s04.free hL1
      have hL2H : H L2 = none:=(s04.trans s5).free hL2
      have d1 : d ≠ L1:=fun z => by rw [z,hL1] at qd; cases qd
      have d2 : d ≠ L2:=fun z => by rw [← z,s5 _ _ qd] at hL2; cases hL2
      have d12 : L1 ≠ L2:=fun z => by rw [← z,q5] at hL2; cases hL2
      have sk : ∀ {H3 : Hp} {l : Addr} {o : HO},H l = none → Same H H3 → Same H (upd H3 l o):=fun hl s3 b o e => by
        rw [upd_ne (fun z => by rw [z,hl] at e; cases e)]
        exact s3 _ _ e
      refine ⟨_,rfl,L1,_,rfl,.inl (SqL.of (Same.put hL2 _ _ q5)),_,rfl,by rw [List.length_map]; exact (n62 (by omega)).1,by rw [List.length_map]; exact (n62 (by omega)).2,for_range (lo:=0) (n:=(((M.map nV).length : Int)).toNat)
        (fun i σ H6 => ∃ (v3 v6 : Option V) (M1 M2 : List Nat),σ = [some (.ref a),some (.int k),some (.ref d),v3,some (.ref L1),some (.ref L2),v6] ∧ Same H H6 ∧ H6 d = some (.lst (([d0,d1',d2',d3,d4,d5,d6,d7] : List Int).map V.int)) ∧ H6 L1 = some (.lst (M1.map nV)) ∧ H6 L2 = some (.lst (M2.map nV)) ∧ M2.length = i ∧ (M2 ++ M1).Perm M)
        ⟨_,none,M,[],rfl,sk hL2H (s04.trans s5),by rw [upd_ne d2]; exact s5 _ _ qd,by rw [upd_ne d12]; exact q5,upd_same,rfl,List.Perm.refl _⟩ ?_ ?_⟩
      · rintro i σ H6 hi ⟨v3,v6,M1,M2,rfl,s6,qd6,q1,q2,hl2,hp⟩
        rw [en] at hi
        have hlen : M2.length + M1.length = M.length:=by rw [← hp.length_eq,List.length_append]
        obtain ⟨r,hr,er⟩:=emodN (d6 / 7 + (0 + (i : Int)) * d7) M1.length (by omega)
        have er' : (d6 / 7 + (0 + (i : Int)) * d7) % ((M1.map nV).length : Int) = (r : Int):=by rw [List.length_map]; exact er
        have q2u : (upd H6 L1 (.lst ((M1.eraseIdx r).map nV))) L2 = some (.lst (M2.map nV)):=by rw [upd_ne d12.symm]; exact q2
        refine ⟨_,rfl,.inl ⟨rfl,_,SqL.of q2⟩,_,rfl,.inl ⟨rfl,_,SqL.of q1⟩,_,rfl,d,_,6,_,rfl,rfl,SqL.of qd6,rfl,_,_,rfl,rfl,⟨by decide,by decide⟩,_,rfl,_,rfl,d,_,7,_,rfl,rfl,SqL.of qd6,rfl,_,_,rfl,rfl,.inl ⟨by omega,by omega⟩,_,_,rfl,rfl,_,rfl,L1,_,rfl,.inl (SqL.of q1),_,_,rfl,rfl,by rw [List.length_map]; omega,?_⟩
        refine ⟨L1,_,_,r,nV M1[r],rfl,rfl,q1,?_,?_,?_,by rw [List.getElem?_map,List.getElem?_eq_getElem hr]; rfl,?_⟩
        · rw [er']; omega
        · rw [er']; omega
        · rw [er',seqIndex_of (by omega) (by rw [List.length_map]; omega)]; simp
        rw [erase_map]
        refine ⟨L2,_,_,rfl,rfl,q2u,by rw [List.length_map]; exact sl24 (by omega),?_⟩
        refine ⟨_,_,M1.eraseIdx r,M2 ++ [M1[r]],rfl,sk hL2H (sk hL1H s6),by rw [upd_ne d2,upd_ne d1]; exact qd6,by rw [upd_ne d12,upd_same],by rw [upd_same,List.map_append]; rfl,by rw [List.length_append,hl2]; rfl,?_⟩
        rw [List.append_assoc]
        exact (List.Perm.append_left M2 (erase_perm M1 r hr)).trans hp
      · rintro σ H6 ⟨v3,v6,M1,M2,rfl,s6,qd6,q1,q2,hl2,hp⟩
        rw [en] at hl2
        have hlen : M2.length + M1.length = M.length:=by rw [← hp.length_eq,List.length_append]
        have e0 : M1 = []:=List.eq_nil_of_length_eq_zero (by omega)
        rw [e0,List.append_nil] at hp
        exact ⟨_,rfl,kk L2 M2 H6 s6 hL2H q2 (hM.perm hp.symm)⟩
end
theorem cut_ints (ns : List Int) (lo hi : Option Int) : ∃ ms : List Int,cutV (ns.map V.int) lo hi = ms.map V.int ∧ ms.length ≤ ns.length:=by
  unfold cutV
  refine ⟨_,by rw [← List.map_drop,← List.map_take],?_⟩
  rw [List.length_take,List.length_drop]
  omega
theorem min_bot {M : List Nat} (L : Ev.Lat M) {x : Nat} (hx : x ∈ M) (hmin : ∀ y ∈ M,x ≤ y) : ∀ y ∈ M,Ev.Sub x y:=fun y hy => by
  have h1:=L.meet x hx y hy
  have h2:=hmin _ h1
  have h3:=(Ev.Sub.and_left x y).le
  have e : x &&& y = x:=by omega
  exact e
theorem cut_from {ds : List Int} {k : Nat} (h : k ≤ ds.length) : cutV (ds.map V.int) (some (k : Int)) none = (ds.drop k).map V.int:=by rw [cutFrom,List.map_drop]
section
variable {P : Program} {w : World} {K : PySem.W.Frag} {mg : Str → Option Value} {base : Heap} {f : Addr} {fd : FuncData}
abbrev s_law : Stmt:=top 67
theorem sc_law : FnScope ["_law_script","_law_masks","_law_known","_law_count","_law_pairs","_law_order_here","_law_even","_law_cell","_law_draws_here","_law_a","_law_b","_law_one","_law_other","_law_due"] ["_law_script"] (defScope s_law):=⟨rfl,rfl,rfl,by decide +kernel,rfl,by decide +kernel,by decide +kernel⟩
theorem ok_law {C : Addr} (F : Fun K "law" "law" s_law f fd) (T : Txt mg) (TC : ClsOk K C) (c_law_order : Cal P w K mg base "_law_order" ["_law_script","_law_at"] 3 (sp_order K)) (c_law_cell_at : Cal P w K mg base "_law_cell_at" ["_law_script","_law_k"] 1 (sp_cell_at K))
    (c_law_draws : Cal P w K mg base "_law_draws" ["_law_cell","_law_many"] 2 sp_draws) (c_law_handed : Cal P w K mg base "_law_handed" ["_law_masks","_law_draws_here"] 3 (sp_handed K)) (c_law_steps : Cal P w K mg base "_law_steps" ["_law_masks"] 2 (sp_steps K)) (c_law_uneven : Cal P w K mg base "_law_uneven" ["_law_masks"] 2 (sp_unevenM K))
    (c_law_meet : Cal P w K mg base "_law_meet" ["_law_masks","_law_a","_law_b"] 1 (sp_meetM K)) (c_law_climb : Cal P w K mg base "_law_climb" ["_law_known","_law_masks","_law_a","_law_b","_law_draws_here"] 2 (sp_climbM K)) (c_law_come : Cal P w K mg base "_law_come" ["_law_known","_law_one","_law_count"] 3 (sp_come K)) (c_law_right : Cal P w K mg base "_law_right" ["_law_order_here","_law_known","_law_one","_law_other","_law_due"] 8 (sp_right32 K C))
    (c_Order : CalMk P w K mg base C "Order" ["self","count","pairs"] 5 (sp_init K C)) : FnOk P w K mg base CX0 9 f fd ["_law_script"] (sp_law K):=by
  refine F.ok sc_law (fun vs H Q E h => ?_) (fun cdv A outer s H vs Q E hr h => ?_)
  · obtain ⟨a,ns,rfl,_⟩:=h
    rfl
  · obtain ⟨a,ns,rfl,hS,hns,kk⟩:=h
    have nd:=sc_law.nd
    have hu0:=hr.units
    have hu1 : (A.deeper (envOfC "law" (defScope s_law) s.heap.objs.size f cdv)).units + 1 + 1 < cLine:=by omega
    refine ⟨_,(pss_cons (ps_set (i:=1) nd rfl (Or.inl rfl) (pe_callC c_law_order hr rfl (pa_cons (pv 0) (pa_cons pe_int pa_nil))))
      (pss_cons (ps_set (i:=2) nd rfl (Or.inl rfl) (pe_callC c_law_steps hr rfl (pa_cons (pv 1) pa_nil)))
      (pss_cons (ps_set (i:=3) nd rfl (Or.inl rfl) (pe_callB (call_lenK (K:=K) rfl) rfl T.len PySem.boot_len (pa_cons (pv 1) pa_nil)))
      (pss_cons (ps_set (i:=4) nd rfl (Or.inl rfl) (pe_callC c_law_handed hr rfl (pa_cons (pv 1) (pa_cons (pe_callC c_law_draws hr rfl (pa_cons (pe_callC c_law_cell_at hr rfl (pa_cons (pv 0) (pa_cons pe_int pa_nil))) (pa_cons pe_int pa_nil))) pa_nil))))
      (pss_cons (ps_set (i:=5) nd rfl (Or.inl rfl) (pe_makeC c_Order hr rfl (pa_cons (pv 3) (pa_cons (pv 4) pa_nil))))
      (pss_cons (ps_set (i:=6) nd rfl (Or.inl rfl) (pe_cmpR op_isN (pe_callC c_law_uneven hr rfl (pa_cons (pv 1) pa_nil)) pe_non (nomark _)))
      (pss_cons (ps_for PassesOwn.never rfl (pi_listK (K:=K) rfl (pe_op op_cat (pe_lst (pa_cons pe_int (pa_cons pe_int pa_nil))) (pe_slice (sl_listK (K:=K) rfl) (pv 0) (po_some pe_int) (po_some pe_int)))) (pg_name (i:=7) nd rfl (Or.inl rfl))
      (pss_cons (ps_set (i:=8) nd rfl (Or.inl rfl) (pe_callC c_law_draws hr rfl (pa_cons (pv 7) (pa_cons pe_int pa_nil))))
      (pss_cons (ps_set (i:=9) nd rfl (Or.inl rfl) (pe_bmK (K:=K) rfl PySem.F.plainAttrs_list PySem.F.slot_list_index PySem.F.type_list_index (mt_indexK (K:=K) rfl) (pv 1) (pa_cons (pe_callB (call_minK (K:=K) rfl rfl) rfl T.min boot_min (pa_cons (pv 1) pa_nil)) pa_nil)))
      (pss_cons (ps_set (i:=10) nd rfl (Or.inl rfl) (pe_bmK (K:=K) rfl PySem.F.plainAttrs_list PySem.F.slot_list_index PySem.F.type_list_index (mt_indexK (K:=K) rfl) (pv 1) (pa_cons (pe_callB (call_maxK (K:=K) rfl rfl) rfl T.max boot_max (pa_cons (pv 1) pa_nil)) pa_nil)))
      (pss_cons (ps_if (pt_cmpR op_eq (pe_op op_mod (pe_ix (ix_listK (K:=K) rfl) (pv 8) pe_int (fun _ _ => rfl)) pe_int) pe_int (nomark _)) (pss_cons (ps_set (i:=10) nd rfl (Or.inl rfl) (pe_op op_mod (pe_ix (ix_listK (K:=K) rfl) (pv 8) pe_int (fun _ _ => rfl)) (pv 3)))
      (pss_one (ps_set (i:=9) nd rfl (Or.inl rfl) (pe_callC c_law_meet hr rfl (pa_cons (pv 1) (pa_cons (pv 10) (pa_cons (pe_op op_mod (pe_ix (ix_listK (K:=K) rfl) (pv 8) pe_int (fun _ _ => rfl)) (pv 3)) pa_nil (star_of (fun _ _ h => nomatch h))) (star_of (fun _ _ h => nomatch h))) (star_of (fun _ _ h => nomatch h))))))) pss_nil)
      (pss_cons (ps_set (i:=11) nd rfl (Or.inl rfl) (pe_callC c_law_climb hr rfl (pa_cons (pv 2) (pa_cons (pv 1) (pa_cons (pv 9) (pa_cons (pv 10) (pa_cons (pv 8) pa_nil (star_of (fun _ _ h => nomatch h))) (star_of (fun _ _ h => nomatch h))) (star_of (fun _ _ h => nomatch h))) (star_of (fun _ _ h => nomatch h))) (star_of (fun _ _ h => nomatch h)))))
      (pss_cons (ps_set (i:=12) nd rfl (Or.inl rfl) (pe_callC c_law_climb hr rfl (pa_cons (pv 2) (pa_cons (pv 1) (pa_cons (pv 9) (pa_cons (pv 10) (pa_cons (pe_slice (sl_listK (K:=K) rfl) (pv 8) (po_some pe_int) po_none) pa_nil (star_of (fun _ _ h => nomatch h))) (star_of (fun _ _ h => nomatch h))) (star_of (fun _ _ h => nomatch h))) (star_of (fun _ _ h => nomatch h))) (star_of (fun _ _ h => nomatch h)))))
      (pss_cons (ps_set (i:=13) nd rfl (Or.inl rfl) (pe_cmpR (op_inT (K:=K) 1 rfl hu1) (pv 12) (pe_callC c_law_come hr rfl (pa_cons (pv 2) (pa_cons (pv 11) (pa_cons (pv 3) pa_nil (star_of (fun _ _ h => nomatch h))) (star_of (fun _ _ h => nomatch h))) (star_of (fun _ _ h => nomatch h)))) (by with_unfolding_all rfl)))
      (pss_one (ps_if (PW.pt (pw_or (PW.pt (pw_and (pt_val (pv 6)) (pw_and1 (pt_not (pt_val (pv 13)))))) (pw_or1 (pt_not (pt_val (pe_callC c_law_right hr rfl (pa_cons (pv 5) (pa_cons (pv 2) (pa_cons (pv 11) (pa_cons (pv 12) (pa_cons (pv 13) pa_nil (star_of (fun _ _ h => nomatch h))) (star_of (fun _ _ h => nomatch h))) (star_of (fun _ _ h => nomatch h))) (star_of (fun _ _ h => nomatch h))) (star_of (fun _ _ h => nomatch h))))))))) (pss_one (ps_ret pe_bl)) pss_nil))))))))))
      (pss_one (ps_ret pe_bl))))))))),?_⟩
    refine ⟨_,rfl,a,ns,0,rfl,hS,fun m M H0 s0 hm0 qm0 hM => ?_⟩
    refine ⟨_,rfl,m,M,rfl,SqL.of qm0,hM.len,fun kn us0 H1 s1 hkn qk0 hul0 hkp0 => ?_⟩
    have s01:=s0.trans s1
    have qm:=s1 _ _ qm0
    refine ⟨_,rfl,m,_,rfl,.inl (SqL.of qm),?_⟩
    rw [List.length_map]
    refine ⟨_,rfl,_,rfl,a,2,ns,rfl,s01.seq hS,fun c H2 s2 => ⟨c,8,rfl,by decide,fun d ds H3 s3 hd q3 hdl hsm => ?_⟩⟩
    have s13:=s2.trans s3
    refine ⟨m,d,M,ds,rfl,SqL.of (s13 _ _ qm),SqL.of q3,hdl,hM.pos,hM.len,fun L us ps H4 s4 hL q4 hul hpp hand => ?_⟩
    have s14:=s13.trans s4
    have qm4:=s14 _ _ qm
    refine ⟨_,rfl,_,rfl,fun x dx hx hdx hne => ?_⟩
    have s45 : Same H4 (upd (upd H4 dx (.own x)) x (.ins C dx [])):=fun b o e => by
      rw [upd_ne (ne_of_none e hx),upd_ne (ne_of_none e hdx)]
      exact e
    refine ⟨x,dx,M.length,L,ps,rfl,upd_same,⟨us,SqL.of (s45 _ _ q4),pairsV.same s45 hpp⟩,hM.pos,hM.len,hand.lt,good_of hM hand,fun H5 R fr hC hO => ⟨rfl,?_⟩⟩
    have s46 : Same H4 H5:=fun b o e => fr b o (s45 _ _ e) (ne_of_none e hx)
    have hR:=clos_eq hM hand hC
    have G:=good_of hM hand R hC
    have s15:=s14.trans s46
    have s05 : Same H H5:=s01.trans s15
    have qm5:=s46 _ _ qm4
    have qk5:=s15 _ _ qk0
    have hkp5:=pairsV.same s15 hkp0
    refine ⟨_,rfl,m,M,rfl,SqL.of qm5,hM,fun ve H5' s5' hve => ⟨rfl,?_⟩⟩
    have hev : decide (ve = V.non) = true → ∃ J N,Md M.length (Ev.leM M) J N:=fun h => by
      have h:=of_decide_eq_true h
      subst h
      rcases hve with ⟨_,no⟩ | ⟨_,_,_,_,e,_⟩
      · exact md_of (lat_good hM) no
      · cases e
    generalize decide (ve = V.non) = ev at hev ⊢
    have s05':=s05.trans s5'
    refine ⟨by show 2 ≤ sizeLine; decide,fun p1 hp1 => ⟨_,rfl,_,rfl,_,rfl,a,_,rfl,(s05'.trans (Same.put hp1)).seq hS,fun p2 hp2 => ?_⟩⟩
    obtain ⟨ms,ems,hms⟩:=cut_ints ns (some 3) (some 11)
    rw [ems]
    refine ⟨p1,p2,_,_,rfl,rfl,Same.put hp2 _ _ upd_same,upd_same,by rw [List.length_map]; show 2 + ms.length ≤ sizeLine; exact Nat.le_of_lt (slk (by omega)),fun p3 hp3 => ?_⟩
    generalize hB : upd (upd (upd H5' p1 _) p2 _) p3 _ = B
    have sB : Same H5 B:=by rw [← hB]; exact s5'.trans (((Same.put hp1).trans (Same.put hp2)).trans (Same.put hp3))
    have hl3 : B p3 = some (.lst (([0,7] ++ ms).map V.int)):=by rw [← hB,upd_same,List.map_append]; rfl
    clear hB
    refine ⟨p3,rfl,⟨_,SqL.of hl3⟩,for_list (K:=K) (a:=p3) (xs:=([0,7] ++ ms).map V.int) (fun i σ H6 => ∃ (v7 v8 v9 v10 v11 v12 v13 : Option V),σ = [some (.ref a),some (.ref m),some (.ref kn),some (.int (M.length : Int)),some (.ref L),some (.ref x),some (.bl ev),v7,v8,v9,v10,v11,v12,v13] ∧ Same B H6)
      ⟨none,none,none,none,none,none,none,rfl,Same.refl _⟩ (fun i σ H6 _ ⟨_,_,_,_,_,_,_,_,s6⟩ => SqL.of (s6 _ _ hl3)) ?_ ?_⟩
    · rintro i y σ H6 hy ⟨v7,v8,v9,v10,v11,v12,v13,rfl,s6⟩
      obtain ⟨zc,rfl⟩ : ∃ z,y = V.int z:=by
        rw [List.getElem?_map] at hy
        cases e : ([0,7] ++ ms)[i]? with
        | none => rw [e] at hy; cases hy
        | some z => rw [e] at hy; exact ⟨z,(Option.some.inj hy).symm⟩
      have t6:=sB.trans s6
      have hm24:=hM.len
      have hpos:=hM.pos
      refine ⟨_,rfl,zc,16,rfl,by decide,fun d ds H7 s7 hd q7 hdl hsm => ?_⟩
      have t7:=t6.trans s7
      have hm7 : SqL K H7 m (M.map nV):=SqL.of (t7 _ _ qm5)
      have mi7:=masks_ints hm7
      have pos7 : 0 < (M.map fun x : Nat => (x : Int)).length:=by rw [List.length_map]; exact hM.pos
      refine ⟨_,rfl,.inl ⟨rfl,_,hm7⟩,_,rfl,m,_,rfl,mi7,pos7,fun mi hmi hmin => ⟨m,_,mi,rfl,rfl,mi7,hmi,?_⟩⟩
      refine ⟨_,rfl,.inl ⟨rfl,_,hm7⟩,_,rfl,m,_,rfl,mi7,pos7,fun ma hma hmax => ⟨m,_,ma,rfl,rfl,mi7,hma,?_⟩⟩
      obtain ⟨x0,hx0,rfl⟩:=List.mem_map.mp hmi
      obtain ⟨x1,hx1,rfl⟩:=List.mem_map.mp hma
      obtain ⟨ia,ga⟩:=idx_cast hx0
      obtain ⟨ib,gb⟩:=idx_cast hx1
      have hbot : Ev.Sub x0 x1:=min_bot hM hx0 (fun y hy => by have:=hmin (y : Int) (List.mem_map.mpr ⟨y,hy,rfl⟩); omega) x1 hx1
      generalize (M.map fun x : Nat => (x : Int)).idxOf (x0 : Int) = A0 at ia ga ⊢
      generalize (M.map fun x : Nat => (x : Int)).idxOf (x1 : Int) = B0 at ib gb ⊢
      have hAB : Ev.leM M A0 B0 = true:=by rw [Ev.leM_iff,ga,gb]; exact hbot
      clear hmi hma hmin hmax mi7
      have dget : ∀ j,j < 16 → ∃ z : Int,(ds.map V.int)[j]? = some (.int z):=fun j hj => ⟨ds[j]'(by omega),by rw [List.getElem?_map,List.getElem?_eq_getElem (by omega)]; rfl⟩
      obtain ⟨d12,hd12⟩:=dget 12 (by decide)
      obtain ⟨d13,hd13⟩:=dget 13 (by decide)
      obtain ⟨d14,hd14⟩:=dget 14 (by decide)
      dsimp only [gName]
      show tSeq _ _ _ [some (.ref a),some (.ref m),some (.ref kn),some (.int (M.length : Int)),some (.ref L),some (.ref x),some (.bl ev),some (.int zc),some (.ref d),some (.int (A0 : Int)),some (.int (B0 : Int)),v11,v12,v13] _
      refine seqCutI (ι:=Nat × Nat) (fun q H' => q.1 < M.length ∧ q.2 < M.length ∧ Ev.leM M q.1 q.2 = true ∧ Same H7 H') (fun q => [some (.ref a),some (.ref m),some (.ref kn),some (.int (M.length : Int)),some (.ref L),some (.ref x),some (.bl ev),some (.int zc),some (.ref d),some (.int (q.1 : Int)),some (.int (q.2 : Int)),v11,v12,v13]) (fun D' hrt hD' => ?_) ?_
      · refine ⟨_,rfl,d,_,12,.int d12,rfl,rfl,SqL.of q7,atI_nat (j:=12) hd12,_,_,rfl,rfl,by show (0 : Int) < 3; decide,rfl,_,rfl,?_⟩
        refine ite2 (fun h1 => ?_) (fun h1 => ?_)
        · obtain ⟨rb,hrb,erb⟩:=emodN d13 M.length hM.pos
          obtain ⟨rc,hrc,erc⟩:=emodN d14 M.length hM.pos
          refine ⟨_,rfl,d,_,13,.int d13,rfl,rfl,SqL.of q7,atI_nat (j:=13) hd13,_,rfl,_,_,rfl,rfl,by show (0 : Int) < (M.length : Int); omega,?_⟩
          refine ⟨_,rfl,_,rfl,_,rfl,d,_,14,.int d14,rfl,rfl,SqL.of q7,atI_nat (j:=14) hd14,_,rfl,_,_,rfl,rfl,by show (0 : Int) < (M.length : Int); omega,?_⟩
          dsimp only
          rw [erb,erc]
          refine ⟨m,rb,rc,M,rfl,hm7,hM,hrb,hrc,fun mt H8 s8 hmt hmt' => ?_⟩
          have e1:=hmt' mt
          rw [Ev.leM_refl] at e1
          have e2 : Ev.leM M mt rb = true:=by
            have:=e1.symm
            rw [Bool.and_eq_true] at this
            exact this.1
          exact hD' (mt,rb) H8 ⟨hmt,hrb,e2,s8⟩
        · exact hD' (A0,B0) H7 ⟨ia,ib,hAB,Same.refl _⟩
      rintro ⟨a',b'⟩ H8 ⟨ha',hb',hab',s8⟩
      have t8:=t7.trans s8
      have q8:=s8 _ _ q7
      refine ⟨_,rfl,_,rfl,_,rfl,_,rfl,_,rfl,kn,m,a',b',d,M,us0,ds,rfl,SqL.of (t8 _ _ qk5),pairsV.same t8 hkp5,hul0,SqL.of (t8 _ _ qm5),hM,ha',hb',hab',SqL.of q8,by omega,fun t cs H9 s9 ht q9 hcl hCl hC1 => ?_⟩
      have t9:=t8.trans s9
      have q9d:=s9 _ _ q8
      refine ⟨_,rfl,_,rfl,_,rfl,_,rfl,_,rfl,_,rfl,d,_,rfl,SqL.of q9d,fun p4 hp4 => ?_⟩
      have e6 : cutV (ds.map V.int) (some 6) none = (ds.drop 6).map V.int:=cut_from (k:=6) (by omega)
      rw [e6]
      have s10:=Same.put (o:=.lst ((ds.drop 6).map V.int)) hp4
      have t10:=t9.trans s10
      refine ⟨kn,m,a',b',p4,M,us0,ds.drop 6,rfl,SqL.of (t10 _ _ qk5),pairsV.same t10 hkp5,hul0,SqL.of (t10 _ _ qm5),hM,ha',hb',hab',SqL.of upd_same,by rw [List.length_drop]; omega,fun u dd H11 s11 hu' q11 hdl' hDl hC2 => ?_⟩
      have t11:=t10.trans s11
      have qt11:=s11 _ _ (s10 _ _ q9)
      refine ⟨_,rfl,_,rfl,_,rfl,_,rfl,kn,t,a',b',M,us0,cs,rfl,hM,SqL.of (t11 _ _ qk5),pairsV.same t11 hkp5,hul0,qt11,ha',hC1,fun L2 ys ds2 H12 s12 gl2 ln2 hiff => ?_⟩
      have qu12:=s12 _ _ q11
      refine ⟨L2,ys,lstEq H12 dd,rfl,SqL.of gl2,lists_ref ln2,lists_eqV (SqL.of qu12) ln2,?_⟩
      rw [if_neg Bool.false_ne_true,lists_any dd ln2]
      have t12:=t11.trans s12
      have qt12:=s12 _ _ qt11
      have hdue : decide (dd ∈ ds2) = true → ∃ ps,Leads (gA M.length (Ev.leM M)) cs ps dd:=fun h => (hiff dd).mp (of_decide_eq_true h)
      have hdue' : ev = true → decide (dd ∈ ds2) = true:=fun h => by
        obtain ⟨J,N,E⟩:=hev h
        exact decide_eq_true ((hiff dd).mpr (connect hM E hb' _ a' cs dd (Nat.le_refl _) ha' hC1 hC2))
      generalize decide (dd ∈ ds2) = db at hdue hdue' ⊢
      have b12 : Same B H12:=s6.trans (s7.trans (s8.trans (s9.trans (s10.trans (s11.trans s12)))))
      refine ⟨_,rfl,ev,rfl,?_⟩
      cases ev with
      | false =>
        refine iteF ?_
        exact ⟨_,rfl,_,rfl,_,rfl,_,rfl,_,rfl,x,kn,t,u,a',b',M,us0,cs,dd,R,db,rfl,hO.same' t12,G,hR,hM,SqL.of (t12 _ _ qk5),pairsV.same t12 hkp5,qt12,qu12,ha',hC1,hC2,hdue,fun H13 s13 => ⟨_,rfl,iteF ⟨_,_,_,_,_,_,_,rfl,b12.trans s13⟩⟩⟩
      | true =>
        have hdb:=hdue' rfl
        subst hdb
        refine iteT ⟨_,rfl,true,rfl,?_⟩
        exact ⟨_,rfl,_,rfl,_,rfl,_,rfl,_,rfl,x,kn,t,u,a',b',M,us0,cs,dd,R,true,rfl,hO.same' t12,G,hR,hM,SqL.of (t12 _ _ qk5),pairsV.same t12 hkp5,qt12,qu12,ha',hC1,hC2,hdue,fun H13 s13 => ⟨_,rfl,iteF ⟨_,_,_,_,_,_,_,rfl,b12.trans s13⟩⟩⟩
    · rintro σ H6 ⟨v7,v8,v9,v10,v11,v12,v13,rfl,s6⟩
      exact kk _
end
end My
def PySem.W.Fast.tw11067103656240261560 : PySem.Program:=PySem.Challenge.pw_evenclimb_k32_climbs_led
theorem PySem.W.Fast.te11067103656240261560 : PySem.Challenge.pw_evenclimb_k32_climbs_led = PySem.W.Fast.tw11067103656240261560 := rfl
theorem PySem.W.Fast.te11639220423186525634 : True := trivial
theorem PySem.W.Fast.tw4159326322385514250 : True := trivial
theorem PySem.W.Fast.tw1345666985855227465 : True := trivial
theorem PySem.W.Fast.tw12153799309626707221 : True := trivial
theorem PySem.W.Fast.tw4539011181545839137 : True := trivial
theorem PySem.W.Fast.tw2185719027168401301 : True := trivial
theorem PySem.W.Fast.tw12538268508450856954 : True := trivial
theorem PySem.W.Fast.tw2154025605780362676 : True := trivial
theorem PySem.W.Fast.tw3740764225803987932 : True := trivial
theorem PySem.W.Fast.tw1952809476899863117 : True := trivial
theorem PySem.W.Fast.tw168086761129917110 : True := trivial
theorem PySem.W.Fast.tw5291265666875194296 : True := trivial
theorem PySem.W.Fast.tw262489646566571965 : True := trivial
theorem PySem.W.Fast.tw13723272274438496230 : True := trivial
theorem PySem.W.Fast.tw9198541440680399478 : True := trivial
theorem PySem.W.Fast.tw1099807782856174059 : True := trivial
theorem PySem.W.Fast.tw11614450546893974119 : True := trivial
theorem PySem.W.Fast.tw17470075396457488788 : True := trivial
theorem PySem.W.Fast.tw11876833589104754304 : True := trivial
theorem PySem.W.Fast.tw5381452787563279642 : True := trivial
theorem PySem.W.Fast.tw16792553005311046656 : True := trivial
theorem PySem.W.Fast.tw9834486698060933417 : True := trivial
theorem PySem.W.Fast.tw15210570939732692313 : True := trivial
theorem PySem.W.Fast.tw1969276963517797612 : True := trivial
theorem PySem.W.Fast.tw8951972018154294751 : True := trivial
theorem PySem.W.Fast.tw1137898637227088094 : True := trivial
theorem PySem.W.Fast.tw1148313632878444592 : True := trivial
theorem PySem.W.Fast.tw16684064834144791501 : True := trivial
theorem PySem.W.Fast.tw2632793510591807442 : True := trivial
theorem PySem.W.Fast.tw10188384481867881433 : True := trivial
namespace My
open PySem PySem.Spec PyProof.Rows L2
set_option maxHeartbeats 0 in
theorem all_mk {l : PySem.W.OpenLaw} {w : World} {K : PySem.W.Frag} {h : Heap} {mg : Str → Option Value} {fa C : Addr} (X : K.In h) (G : h.Ns mainGlobals mg) (hfa : mg "law" = some (.ref fa)) (tx : TxtAt K)
    (cO : ClsAt K "Order" "Order.__init__" s_Order_init C) (nC : PySem.W.findIn K (.ref C) "count" = some none) (nP : PySem.W.findIn K (.ref C) "pairs" = some none) (nR : PySem.W.findIn K (.ref C) "reach" = some none) (nJ : PySem.W.findIn K (.ref C) "joins" = some none) (nM : PySem.W.findIn K (.ref C) "meets" = some none)
    (f_is_whole : FunAt K "is_whole" s_is_whole)
    (f_is_thing : FunAt K "is_thing" s_is_thing)
    (f_need_thing : FunAt K "need_thing" s_need_thing)
    (f_need_count : FunAt K "need_count" s_need_count)
    (f_need_pairs : FunAt K "need_pairs" s_need_pairs)
    (f_own_row : FunAt K "own_row" s_own_row)
    (f_either : FunAt K "either" s_either)
    (f_shared : FunAt K "shared" s_shared)
    (f_column : FunAt K "column" s_column)
    (f_reach_of : FunAt K "reach_of" s_reach_of)
    (f_twos : FunAt K "twos" s_twos)
    (f_need_one_way : FunAt K "need_one_way" s_need_one_way)
    (f_ends_with : FunAt K "ends_with" s_ends_with)
    (f_ends_of : FunAt K "ends_of" s_ends_of)
    (f_need_ends : FunAt K "need_ends" s_need_ends)
    (f_pairs_of : FunAt K "pairs_of" s_pairs_of)
    (f_is_below : FunAt K "is_below" s_is_below)
    (f_is_step : FunAt K "is_step" s_is_step)
    (f_law_cell_at : FunAt K "_law_cell_at" s_law_cell_at)
    (f_law_mixed : FunAt K "_law_mixed" s_law_mixed)
    (f_law_draws : FunAt K "_law_draws" s_law_draws)
    (f_law_flower : FunAt K "_law_flower" s_law_flower)
    (f_law_stack : FunAt K "_law_stack" s_law_stack)
    (f_law_beside : FunAt K "_law_beside" s_law_beside)
    (f_law_at_most : FunAt K "_law_at_most" s_law_at_most)
    (f_law_steps : FunAt K "_law_steps" s_law_steps)
    (f_law_handed : FunAt K "_law_handed" s_law_handed)
    (f_steps : FunAt K "steps" s_steps)
    (f_law_shut : FunAt K "_law_shut" s_law_shut)
    (f_steps_above : FunAt K "steps_above" s_steps_above)
    (f_is_chain : FunAt K "is_chain" s_is_chain)
    (f_is_climb : FunAt K "is_climb" s_is_climb)
    (f_law_meet : FunAt K "_law_meet" s_law_meet)
    (f_law_join : FunAt K "_law_join" s_law_join)
    (f_need_climb : FunAt K "need_climb" s_need_climb)
    (f_exchanges_at : FunAt K "exchanges_at" s_exchanges_at)
    (f_exchanges_by : FunAt K "exchanges_by" s_exchanges_by)
    (f_after_exchange : FunAt K "after_exchange" s_after_exchange)
    (f_law_after : FunAt K "_law_after" s_law_after)
    (f_law_come : FunAt K "_law_come" s_law_come)
    (f_law_whole : FunAt K "_law_whole" s_law_whole)
    (f_law_leads : FunAt K "_law_leads" s_law_leads)
    (f_spread : FunAt K "spread" s_spread)
    (f_need_like_ends : FunAt K "need_like_ends" s_need_like_ends)
    (f_need_two_climbs : FunAt K "need_two_climbs" s_need_two_climbs)
    (f_led : FunAt K "led" s_led)
    (f_law_right : FunAt K "_law_right" s_law_right)
    (f_law_uneven : FunAt K "_law_uneven" s_law_uneven)
    (f_law_fields : FunAt K "_law_fields" s_law_fields)
    (f_law_kind : FunAt K "_law_kind" s_law_kind)
    (f_law_climb : FunAt K "_law_climb" s_law_climb)
    (f_law_order : FunAt K "_law_order" s_law_order)
    (f_law : FunAt K "law" s_law) :
    ∃ fd : FuncData,(∀ (s : Shared) (v : Value),BindsTo s fd ⟨[v],[]⟩ [("_law_script", v)]) ∧ ∀ base : Heap,K.In base → base.Ns mainGlobals mg → FnOk l.prog w K mg base CX0 9 fa fd ["_law_script"] (sp_law K):=by
  have T:=tx.txt X G
  have TC : ClsOk K C:=⟨cO.cl,nC,nP,nR,nJ,nM⟩
  obtain ⟨f,fd,a,F⟩:=f_law.ex
  have e:=hfa.symm.trans (PySem.W.mg_of X G a)
  cases e
  obtain ⟨oc,od,kV,doc,pm,an,cdv,ct,osl,rfl,lk,hcd⟩:=id F.ex
  refine ⟨PySem.W.fnOf "law" "law" (defArgs s_law) (defBody s_law) (defScope s_law) .none kV doc pm an cdv ct,fun s v => .of_eq rfl,fun base _ _ => ?_⟩
  have c_is_whole : Cal l.prog w K mg base "is_whole" ["value"] 1 sp_is_whole:=f_is_whole.cal X G (fun _ _ _ _ _ _ us hl => match us,hl with | [_],_ => rfl) (fun F => ok_is_whole F T)
  have c_is_thing : Cal l.prog w K mg base "is_thing" ["count","number"] 2 sp_is_thing:=f_is_thing.cal X G (fun _ _ _ _ _ _ us hl => match us,hl with | [_,_],_ => rfl) (fun F => ok_is_thing F T c_is_whole)
  have c_need_thing : Cal l.prog w K mg base "need_thing" ["count","number"] 3 sp_need_thing:=f_need_thing.cal X G (fun _ _ _ _ _ _ us hl => match us,hl with | [_,_],_ => rfl) (fun F => ok_need_thing F T c_is_thing)
  have c_need_count : Cal l.prog w K mg base "need_count" ["count"] 2 sp_need_count:=f_need_count.cal X G (fun _ _ _ _ _ _ us hl => match us,hl with | [_],_ => rfl) (fun F => ok_need_count F T c_is_whole)
  have c_need_pairs : Cal l.prog w K mg base "need_pairs" ["count","pairs"] 4 (sp_need_pairs K):=f_need_pairs.cal X G (fun _ _ _ _ _ _ us hl => match us,hl with | [_,_],_ => rfl) (fun F => ok_need_pairs F T c_need_thing)
  have c_own_row : Cal l.prog w K mg base "own_row" ["count","thing"] 1 sp_own_row:=f_own_row.cal X G (fun _ _ _ _ _ _ us hl => match us,hl with | [_,_],_ => rfl) (fun F => ok_own_row F T)
  have c_either : Cal l.prog w K mg base "either" ["one","other"] 1 sp_either:=f_either.cal X G (fun _ _ _ _ _ _ us hl => match us,hl with | [_,_],_ => rfl) (fun F => ok_either F T)
  have c_shared : Cal l.prog w K mg base "shared" ["one","other"] 1 sp_shared:=f_shared.cal X G (fun _ _ _ _ _ _ us hl => match us,hl with | [_,_],_ => rfl) (fun F => ok_shared F T)
  have c_column : Cal l.prog w K mg base "column" ["rows","place"] 1 sp_column:=f_column.cal X G (fun _ _ _ _ _ _ us hl => match us,hl with | [_,_],_ => rfl) (fun F => ok_column F T)
  have c_reach_of : Cal l.prog w K mg base "reach_of" ["count","pairs"] 2 (sp_reach_of K):=f_reach_of.cal X G (fun _ _ _ _ _ _ us hl => match us,hl with | [_,_],_ => rfl) (fun F => ok_reach_of F T c_own_row c_either)
  have c_twos : Cal l.prog w K mg base "twos" ["count"] 1 sp_twos:=f_twos.cal X G (fun _ _ _ _ _ _ us hl => match us,hl with | [_],_ => rfl) (fun F => ok_twos F T)
  have c_need_one_way : Cal l.prog w K mg base "need_one_way" ["count","reach"] 2 sp_need_one_way:=f_need_one_way.cal X G (fun _ _ _ _ _ _ us hl => match us,hl with | [_,_],_ => rfl) (fun F => ok_need_one_way F T c_twos)
  have c_ends_with : Cal l.prog w K mg base "ends_with" ["rows","things","thing"] 2 (sp_ends_with K):=f_ends_with.cal X G (fun _ _ _ _ _ _ us hl => match us,hl with | [_,_,_],_ => rfl) (fun F => ok_ends_with F T c_shared)
  have c_ends_of : Cal l.prog w K mg base "ends_of" ["rows"] 3 (sp_ends_of K):=f_ends_of.cal X G (fun _ _ _ _ _ _ us hl => match us,hl with | [_],_ => rfl) (fun F => ok_ends_of F T c_ends_with)
  have c_need_ends : Cal l.prog w K mg base "need_ends" ["count","joins","meets"] 2 sp_need_ends:=f_need_ends.cal X G (fun _ _ _ _ _ _ us hl => match us,hl with | [_,_,_],_ => rfl) (fun F => ok_need_ends F T c_twos)
  have c_pairs_of : Cal l.prog w K mg base "pairs_of" ["count","reach"] 1 sp_pairs_of:=f_pairs_of.cal X G (fun _ _ _ _ _ _ us hl => match us,hl with | [_,_],_ => rfl) (fun F => ok_pairs_of F T)
  have c_Order : CalMk l.prog w K mg base C "Order" ["self","count","pairs"] 5 (sp_init K C):=cO.cal X G (fun _ _ _ _ _ _ us hl => match us,hl with | [_,_,_],_ => rfl) (fun F => ok_init F T TC c_need_count c_need_pairs c_reach_of c_need_one_way c_ends_of c_column c_need_ends c_pairs_of)
  have c_is_below : Cal l.prog w K mg base "is_below" ["order","a","b"] 1 (sp_is_below C):=f_is_below.cal X G (fun _ _ _ _ _ _ us hl => match us,hl with | [_,_,_],_ => rfl) (fun F => ok_is_below F T TC)
  have c_is_step : Cal l.prog w K mg base "is_step" ["order","a","b"] 2 (sp_is_step C):=f_is_step.cal X G (fun _ _ _ _ _ _ us hl => match us,hl with | [_,_,_],_ => rfl) (fun F => ok_is_step F T TC c_is_below)
  have c_law_cell_at : Cal l.prog w K mg base "_law_cell_at" ["_law_script","_law_k"] 1 (sp_cell_at K):=f_law_cell_at.cal X G (fun _ _ _ _ _ _ us hl => match us,hl with | [_,_],_ => rfl) (fun F => ok_cell_at F T)
  have c_law_mixed : Cal l.prog w K mg base "_law_mixed" ["_law_cell","_law_place"] 1 sp_mixed:=f_law_mixed.cal X G (fun _ _ _ _ _ _ us hl => match us,hl with | [_,_],_ => rfl) (fun F => ok_mixed F T)
  have c_law_draws : Cal l.prog w K mg base "_law_draws" ["_law_cell","_law_many"] 2 sp_draws:=f_law_draws.cal X G (fun _ _ _ _ _ _ us hl => match us,hl with | [_,_],_ => rfl) (fun F => ok_draws F T c_law_mixed)
  have c_law_flower : Cal l.prog w K mg base "_law_flower" ["_law_many"] 1 sp_flower:=f_law_flower.cal X G (fun _ _ _ _ _ _ us hl => match us,hl with | [_],_ => rfl) (fun F => ok_flower F T)
  have c_law_stack : Cal l.prog w K mg base "_law_stack" ["_law_one","_law_other","_law_places"] 1 (sp_stack K):=f_law_stack.cal X G (fun _ _ _ _ _ _ us hl => match us,hl with | [_,_,_],_ => rfl) (fun F => ok_stack F T)
  have c_law_beside : Cal l.prog w K mg base "_law_beside" ["_law_one","_law_other"] 1 (sp_beside K):=f_law_beside.cal X G (fun _ _ _ _ _ _ us hl => match us,hl with | [_,_],_ => rfl) (fun F => ok_beside F T)
  have c_law_at_most : Cal l.prog w K mg base "_law_at_most" ["_law_masks","_law_a","_law_b"] 1 (sp_at_most K):=f_law_at_most.cal X G (fun _ _ _ _ _ _ us hl => match us,hl with | [_,_,_],_ => rfl) (fun F => ok_at_most F T)
  have c_law_steps : Cal l.prog w K mg base "_law_steps" ["_law_masks"] 2 (sp_steps K):=f_law_steps.cal X G (fun _ _ _ _ _ _ us hl => match us,hl with | [_],_ => rfl) (fun F => ok_steps F T c_law_at_most)
  have c_law_handed : Cal l.prog w K mg base "_law_handed" ["_law_masks","_law_draws_here"] 3 (sp_handed K):=f_law_handed.cal X G (fun _ _ _ _ _ _ us hl => match us,hl with | [_,_],_ => rfl) (fun F => ok_handed F T c_law_steps c_law_at_most)
  have c_steps : Cal l.prog w K mg base "steps" ["order"] 3 (sp_steps_of C):=f_steps.cal X G (fun _ _ _ _ _ _ us hl => match us,hl with | [_],_ => rfl) (fun F => ok_steps_of F T TC c_is_step)
  have c_law_shut : Cal l.prog w K mg base "_law_shut" ["_law_masks","_law_both"] 1 (sp_shut K):=f_law_shut.cal X G (fun _ _ _ _ _ _ us hl => match us,hl with | [_,_],_ => rfl) (fun F => ok_shut F T)
  have c_steps_above : Cal l.prog w K mg base "steps_above" ["order"] 4 (sp_steps_above C):=f_steps_above.cal X G (fun _ _ _ _ _ _ us hl => match us,hl with | [_],_ => rfl) (fun F => ok_steps_above F T TC c_steps)
  have c_is_chain : Cal l.prog w K mg base "is_chain" ["order","things"] 3 (sp_is_chain K C):=f_is_chain.cal X G (fun _ _ _ _ _ _ us hl => match us,hl with | [_,_],_ => rfl) (fun F => ok_is_chain F T TC c_is_thing c_is_below)
  have c_is_climb : Cal l.prog w K mg base "is_climb" ["order","things"] 4 (sp_is_climb K C):=f_is_climb.cal X G (fun _ _ _ _ _ _ us hl => match us,hl with | [_,_],_ => rfl) (fun F => ok_is_climb F T TC c_is_chain c_is_step)
  have c_law_meet : Cal l.prog w K mg base "_law_meet" ["_law_masks","_law_a","_law_b"] 1 (sp_meetM K):=f_law_meet.cal X G (fun _ _ _ _ _ _ us hl => match us,hl with | [_,_,_],_ => rfl) (fun F => ok_meetM F T)
  have c_law_join : Cal l.prog w K mg base "_law_join" ["_law_masks","_law_a","_law_b"] 1 (sp_joinM K):=f_law_join.cal X G (fun _ _ _ _ _ _ us hl => match us,hl with | [_,_,_],_ => rfl) (fun F => ok_joinM F T)
  have c_need_climb : Cal l.prog w K mg base "need_climb" ["order","things"] 5 (sp_need_climb K C):=f_need_climb.cal X G (fun _ _ _ _ _ _ us hl => match us,hl with | [_,_],_ => rfl) (fun F => ok_need_climb F T TC c_is_climb)
  have c_exchanges_at : Cal l.prog w K mg base "exchanges_at" ["above","climb","place"] 1 (sp_exch_at K):=f_exchanges_at.cal X G (fun _ _ _ _ _ _ us hl => match us,hl with | [_,_,_],_ => rfl) (fun F => ok_exch_at F T)
  have c_exchanges_by : Cal l.prog w K mg base "exchanges_by" ["above","climb"] 2 (sp_exch_by K):=f_exchanges_by.cal X G (fun _ _ _ _ _ _ us hl => match us,hl with | [_,_],_ => rfl) (fun F => ok_exch_by F T c_exchanges_at)
  have c_after_exchange : Cal l.prog w K mg base "after_exchange" ["climb","exchange"] 1 (sp_after K):=f_after_exchange.cal X G (fun _ _ _ _ _ _ us hl => match us,hl with | [_,_],_ => rfl) (fun F => ok_after F T)
  have c_law_after : Cal l.prog w K mg base "_law_after" ["_law_known","_law_climb_here","_law_count"] 2 (sp_after32 K):=f_law_after.cal X G (fun _ _ _ _ _ _ us hl => match us,hl with | [_,_,_],_ => rfl) (fun F => ok_after32 F T)
  have c_law_come : Cal l.prog w K mg base "_law_come" ["_law_known","_law_one","_law_count"] 3 (sp_come K):=f_law_come.cal X G (fun _ _ _ _ _ _ us hl => match us,hl with | [_,_,_],_ => rfl) (fun F => ok_come F T c_law_after)
  have c_law_whole : Cal l.prog w K mg base "_law_whole" ["_law_found"] 1 sp_whole:=f_law_whole.cal X G (fun _ _ _ _ _ _ us hl => match us,hl with | [_],_ => rfl) (fun F => ok_whole F T)
  have c_law_leads : Cal l.prog w K mg base "_law_leads" ["_law_known","_law_one","_law_other","_law_told"] 2 (sp_leads K):=f_law_leads.cal X G (fun _ _ _ _ _ _ us hl => match us,hl with | [_,_,_,_],_ => rfl) (fun F => ok_leads F T c_law_whole)
  have c_spread : Cal l.prog w K mg base "spread" ["above","ways","newest"] 3 sp_spread:=f_spread.cal X G (fun _ _ _ _ _ _ us hl => match us,hl with | [_,_,_],_ => rfl) (fun F => ok_spread F T c_exchanges_by c_after_exchange)
  have c_need_like_ends : Cal l.prog w K mg base "need_like_ends" ["one","other"] 1 (sp_like_ends K):=f_need_like_ends.cal X G (fun _ _ _ _ _ _ us hl => match us,hl with | [_,_],_ => rfl) (fun F => ok_need_like_ends F T)
  have c_need_two_climbs : Cal l.prog w K mg base "need_two_climbs" ["order","one","other"] 6 (sp_two_climbs K C):=f_need_two_climbs.cal X G (fun _ _ _ _ _ _ us hl => match us,hl with | [_,_,_],_ => rfl) (fun F => ok_need_two_climbs F T TC c_need_climb c_need_like_ends)
  have c_led : Cal l.prog w K mg base "led" ["order","one","other"] 7 (sp_led K C):=f_led.cal X G (fun _ _ _ _ _ _ us hl => match us,hl with | [_,_,_],_ => rfl) (fun F => ok_led F T TC c_need_two_climbs c_steps_above c_spread)
  have c_law_right : Cal l.prog w K mg base "_law_right" ["_law_order_here","_law_known","_law_one","_law_other","_law_due"] 8 (sp_right32 K C):=f_law_right.cal X G (fun _ _ _ _ _ _ us hl => match us,hl with | [_,_,_,_,_],_ => rfl) (fun F => ok_right32 F T TC c_led c_law_leads)
  have c_law_uneven : Cal l.prog w K mg base "_law_uneven" ["_law_masks"] 2 (sp_unevenM K):=f_law_uneven.cal X G (fun _ _ _ _ _ _ us hl => match us,hl with | [_],_ => rfl) (fun F => ok_unevenM F T c_law_join c_law_meet)
  have c_law_fields : Cal l.prog w K mg base "_law_fields" [] 1 sp_fields:=f_law_fields.cal X G (fun _ _ _ _ _ _ us hl => match us,hl with | [],_ => rfl) (fun F => ok_fields F T)
  have c_law_kind : Cal l.prog w K mg base "_law_kind" ["_law_draws_here","_law_family"] 2 (sp_kind K):=f_law_kind.cal X G (fun _ _ _ _ _ _ us hl => match us,hl with | [_,_],_ => rfl) (fun F => ok_kind F T c_law_flower c_law_stack c_law_fields c_law_beside c_law_shut)
  have c_law_climb : Cal l.prog w K mg base "_law_climb" ["_law_known","_law_masks","_law_a","_law_b","_law_draws_here"] 2 (sp_climbM K):=f_law_climb.cal X G (fun _ _ _ _ _ _ us hl => match us,hl with | [_,_,_,_,_],_ => rfl) (fun F => ok_climbM F T c_law_at_most)
  have c_law_order : Cal l.prog w K mg base "_law_order" ["_law_script","_law_at"] 3 (sp_order K):=f_law_order.cal X G (fun _ _ _ _ _ _ us hl => match us,hl with | [_,_],_ => rfl) (fun F => ok_order F T c_law_cell_at c_law_draws c_law_kind)
  exact (ok_law F T TC c_law_order c_law_cell_at c_law_draws c_law_handed c_law_steps c_law_uneven c_law_meet c_law_climb c_law_come c_law_right c_Order).mono (by decide)
end My
open PySem PySem.W PyProof.Rows
set_option maxRecDepth 100000 in
set_option maxHeartbeats 0 in
theorem PySem.Challenge.cw_evenclimb_k32_climbs_led_holds : PySem.Challenge.rw_evenclimb_k32_climbs_led.Holds := by
  w_on; o_law; k_head; (case hw => w_witness2)
  k_fill
  refine My.walk (l:=PySem.Challenge.rw_evenclimb_k32_climbs_led) rfl rfl (fun w h Y => PySem.W.kIn_of Y) ?F
  case F =>
    intro w mg fa h KX G hmg
    refine' My.all_mk KX G hmg ?tx ?cO ?nC ?nP ?nR ?nJ ?nM ?f_is_whole ?f_is_thing ?f_need_thing ?f_need_count ?f_need_pairs ?f_own_row ?f_either ?f_shared ?f_column ?f_reach_of ?f_twos ?f_need_one_way ?f_ends_with ?f_ends_of ?f_need_ends ?f_pairs_of ?f_is_below ?f_is_step ?f_law_cell_at ?f_law_mixed ?f_law_draws ?f_law_flower ?f_law_stack ?f_law_beside ?f_law_at_most ?f_law_steps ?f_law_handed ?f_steps ?f_law_shut ?f_steps_above ?f_is_chain ?f_is_climb ?f_law_meet ?f_law_join ?f_need_climb ?f_exchanges_at ?f_exchanges_by ?f_after_exchange ?f_law_after ?f_law_come ?f_law_whole ?f_law_leads ?f_spread ?f_need_like_ends ?f_need_two_climbs ?f_led ?f_law_right ?f_law_uneven ?f_law_fields ?f_law_kind ?f_law_climb ?f_law_order ?f_law
    (case tx => (refine' My.TxtAt.mk' ?l1 ?l2 ?l3 ?l4 ?l5 ?l6 ?l7 ?l8 ?l9 ?l10 ?l11 ?l12 ?l13 ?l14 ?l15 ?l16 ?m); (case l1 => k_is); (case l2 => k_is); (case l3 => k_is); (case l4 => k_is); (case l5 => k_is); (case l6 => k_is); (case l7 => k_is); (case l8 => k_is); (case l9 => k_is); (case l10 => k_is); (case l11 => k_is); (case l12 => k_is); (case l13 => k_is); (case l14 => k_is); (case l15 => k_is); (case l16 => k_is); (case m => k_is); skip)
    (case cO => (refine' My.ClsAt.mk' ?ns ?pg ?hd ?po ?sa ?mk ?kc ?a ?i ?l ?c ?k); (case ns => k_is); (case pg => k_is); (case hd => k_is); (case po => k_is); (case sa => k_is); (case mk => k_is); (case kc => k_is); (case a => k_is); (case i => k_is); (case l => k_is); (case c => k_is); (case k => k_is))
    (case nC => k_is)
    (case nP => k_is)
    (case nR => k_is)
    (case nJ => k_is)
    (case nM => k_is)
    (case f_is_whole => (refine' My.FunAt.mk' ?a ?l ?c ?k); (case a => k_is); (case l => k_is); (case c => k_is); (case k => k_is))
    (case f_is_thing => (refine' My.FunAt.mk' ?a ?l ?c ?k); (case a => k_is); (case l => k_is); (case c => k_is); (case k => k_is))
    (case f_need_thing => (refine' My.FunAt.mk' ?a ?l ?c ?k); (case a => k_is); (case l => k_is); (case c => k_is); (case k => k_is))
    (case f_need_count => (refine' My.FunAt.mk' ?a ?l ?c ?k); (case a => k_is); (case l => k_is); (case c => k_is); (case k => k_is))
    (case f_need_pairs => (refine' My.FunAt.mk' ?a ?l ?c ?k); (case a => k_is); (case l => k_is); (case c => k_is); (case k => k_is))
    (case f_own_row => (refine' My.FunAt.mk' ?a ?l ?c ?k); (case a => k_is); (case l => k_is); (case c => k_is); (case k => k_is))
    (case f_either => (refine' My.FunAt.mk' ?a ?l ?c ?k); (case a => k_is); (case l => k_is); (case c => k_is); (case k => k_is))
    (case f_shared => (refine' My.FunAt.mk' ?a ?l ?c ?k); (case a => k_is); (case l => k_is); (case c => k_is); (case k => k_is))
    (case f_column => (refine' My.FunAt.mk' ?a ?l ?c ?k); (case a => k_is); (case l => k_is); (case c => k_is); (case k => k_is))
    (case f_reach_of => (refine' My.FunAt.mk' ?a ?l ?c ?k); (case a => k_is); (case l => k_is); (case c => k_is); (case k => k_is))
    (case f_twos => (refine' My.FunAt.mk' ?a ?l ?c ?k); (case a => k_is); (case l => k_is); (case c => k_is); (case k => k_is))
    (case f_need_one_way => (refine' My.FunAt.mk' ?a ?l ?c ?k); (case a => k_is); (case l => k_is); (case c => k_is); (case k => k_is))
    (case f_ends_with => (refine' My.FunAt.mk' ?a ?l ?c ?k); (case a => k_is); (case l => k_is); (case c => k_is); (case k => k_is))
    (case f_ends_of => (refine' My.FunAt.mk' ?a ?l ?c ?k); (case a => k_is); (case l => k_is); (case c => k_is); (case k => k_is))
    (case f_need_ends => (refine' My.FunAt.mk' ?a ?l ?c ?k); (case a => k_is); (case l => k_is); (case c => k_is); (case k => k_is))
    (case f_pairs_of => (refine' My.FunAt.mk' ?a ?l ?c ?k); (case a => k_is); (case l => k_is); (case c => k_is); (case k => k_is))
    (case f_is_below => (refine' My.FunAt.mk' ?a ?l ?c ?k); (case a => k_is); (case l => k_is); (case c => k_is); (case k => k_is))
    (case f_is_step => (refine' My.FunAt.mk' ?a ?l ?c ?k); (case a => k_is); (case l => k_is); (case c => k_is); (case k => k_is))
    (case f_law_cell_at => (refine' My.FunAt.mk' ?a ?l ?c ?k); (case a => k_is); (case l => k_is); (case c => k_is); (case k => k_is))
    (case f_law_mixed => (refine' My.FunAt.mk' ?a ?l ?c ?k); (case a => k_is); (case l => k_is); (case c => k_is); (case k => k_is))
    (case f_law_draws => (refine' My.FunAt.mk' ?a ?l ?c ?k); (case a => k_is); (case l => k_is); (case c => k_is); (case k => k_is))
    (case f_law_flower => (refine' My.FunAt.mk' ?a ?l ?c ?k); (case a => k_is); (case l => k_is); (case c => k_is); (case k => k_is))
    (case f_law_stack => (refine' My.FunAt.mk' ?a ?l ?c ?k); (case a => k_is); (case l => k_is); (case c => k_is); (case k => k_is))
    (case f_law_beside => (refine' My.FunAt.mk' ?a ?l ?c ?k); (case a => k_is); (case l => k_is); (case c => k_is); (case k => k_is))
    (case f_law_at_most => (refine' My.FunAt.mk' ?a ?l ?c ?k); (case a => k_is); (case l => k_is); (case c => k_is); (case k => k_is))
    (case f_law_steps => (refine' My.FunAt.mk' ?a ?l ?c ?k); (case a => k_is); (case l => k_is); (case c => k_is); (case k => k_is))
    (case f_law_handed => (refine' My.FunAt.mk' ?a ?l ?c ?k); (case a => k_is); (case l => k_is); (case c => k_is); (case k => k_is))
    (case f_steps => (refine' My.FunAt.mk' ?a ?l ?c ?k); (case a => k_is); (case l => k_is); (case c => k_is); (case k => k_is))
    (case f_law_shut => (refine' My.FunAt.mk' ?a ?l ?c ?k); (case a => k_is); (case l => k_is); (case c => k_is); (case k => k_is))
    (case f_steps_above => (refine' My.FunAt.mk' ?a ?l ?c ?k); (case a => k_is); (case l => k_is); (case c => k_is); (case k => k_is))
    (case f_is_chain => (refine' My.FunAt.mk' ?a ?l ?c ?k); (case a => k_is); (case l => k_is); (case c => k_is); (case k => k_is))
    (case f_is_climb => (refine' My.FunAt.mk' ?a ?l ?c ?k); (case a => k_is); (case l => k_is); (case c => k_is); (case k => k_is))
    (case f_law_meet => (refine' My.FunAt.mk' ?a ?l ?c ?k); (case a => k_is); (case l => k_is); (case c => k_is); (case k => k_is))
    (case f_law_join => (refine' My.FunAt.mk' ?a ?l ?c ?k); (case a => k_is); (case l => k_is); (case c => k_is); (case k => k_is))
    (case f_need_climb => (refine' My.FunAt.mk' ?a ?l ?c ?k); (case a => k_is); (case l => k_is); (case c => k_is); (case k => k_is))
    (case f_exchanges_at => (refine' My.FunAt.mk' ?a ?l ?c ?k); (case a => k_is); (case l => k_is); (case c => k_is); (case k => k_is))
    (case f_exchanges_by => (refine' My.FunAt.mk' ?a ?l ?c ?k); (case a => k_is); (case l => k_is); (case c => k_is); (case k => k_is))
    (case f_after_exchange => (refine' My.FunAt.mk' ?a ?l ?c ?k); (case a => k_is); (case l => k_is); (case c => k_is); (case k => k_is))
    (case f_law_after => (refine' My.FunAt.mk' ?a ?l ?c ?k); (case a => k_is); (case l => k_is); (case c => k_is); (case k => k_is))
    (case f_law_come => (refine' My.FunAt.mk' ?a ?l ?c ?k); (case a => k_is); (case l => k_is); (case c => k_is); (case k => k_is))
    (case f_law_whole => (refine' My.FunAt.mk' ?a ?l ?c ?k); (case a => k_is); (case l => k_is); (case c => k_is); (case k => k_is))
    (case f_law_leads => (refine' My.FunAt.mk' ?a ?l ?c ?k); (case a => k_is); (case l => k_is); (case c => k_is); (case k => k_is))
    (case f_spread => (refine' My.FunAt.mk' ?a ?l ?c ?k); (case a => k_is); (case l => k_is); (case c => k_is); (case k => k_is))
    (case f_need_like_ends => (refine' My.FunAt.mk' ?a ?l ?c ?k); (case a => k_is); (case l => k_is); (case c => k_is); (case k => k_is))
    (case f_need_two_climbs => (refine' My.FunAt.mk' ?a ?l ?c ?k); (case a => k_is); (case l => k_is); (case c => k_is); (case k => k_is))
    (case f_led => (refine' My.FunAt.mk' ?a ?l ?c ?k); (case a => k_is); (case l => k_is); (case c => k_is); (case k => k_is))
    (case f_law_right => (refine' My.FunAt.mk' ?a ?l ?c ?k); (case a => k_is); (case l => k_is); (case c => k_is); (case k => k_is))
    (case f_law_uneven => (refine' My.FunAt.mk' ?a ?l ?c ?k); (case a => k_is); (case l => k_is); (case c => k_is); (case k => k_is))
    (case f_law_fields => (refine' My.FunAt.mk' ?a ?l ?c ?k); (case a => k_is); (case l => k_is); (case c => k_is); (case k => k_is))
    (case f_law_kind => (refine' My.FunAt.mk' ?a ?l ?c ?k); (case a => k_is); (case l => k_is); (case c => k_is); (case k => k_is))
    (case f_law_climb => (refine' My.FunAt.mk' ?a ?l ?c ?k); (case a => k_is); (case l => k_is); (case c => k_is); (case k => k_is))
    (case f_law_order => (refine' My.FunAt.mk' ?a ?l ?c ?k); (case a => k_is); (case l => k_is); (case c => k_is); (case k => k_is))
    (case f_law => (refine' My.FunAt.mk' ?a ?l ?c ?k); (case a => k_is); (case l => k_is); (case c => k_is); (case k => k_is))
