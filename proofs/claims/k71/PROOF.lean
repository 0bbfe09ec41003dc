import PyProof.Rows.All
import KE.KIntText
import Lean
import OpenK.AllK
import PyProof.EqAt
import PyProof.EqKinds
import PyProof.FString
import PyProof.NeKinds
import PyProof.Rows.SetFrom
import PyProof.Rows.StrItems
import PyProof.Rows.StrSplitCount
import PyProof.StrBlockH
import PyProof.StrWalks
import PyProof.TupleCall
import Wide.All
import Wide.FinOn
import PySem.Challenge.RW_evenclimb_k71_orders_as_texts
-- CHANGE: your row's module here, as the last of these rows
set_option Elab.async false
set_option linter.all false
set_option maxRecDepth 100000
set_option genSizeOf false
namespace L2
open PySem PySem.Spec PyProof.Rows
abbrev Key := Sum Int Str
def isB : Int → Value → Bool
  | k, .bool b => k == (if b then 1 else 0)
  | _, _ => false
def keyIs : Key → Value → Bool
  | .inl k, v => Value.isInt k v || isB k v
  | .inr x, v => Value.isStrOf x v
def keyH (w : World) : Key → Int
  | .inl k => hashInt k
  | .inr x => hashStr w x
theorem isB_shape {k : Int} {v : Value} (h : isB k v = true) : ∃ b : Bool, k = (if b then 1 else 0) ∧ v = Value.bool b := by
  cases v with
  | bool b => exact ⟨b, by simpa [isB] using h, rfl⟩
  | _ => simp [isB] at h
theorem keyIs_shape : ∀ {k : Key} {v : Value}, keyIs k v = true → (∃ i t, k = Sum.inl i ∧ v = Value.int i t) ∨ (∃ x t, k = Sum.inr x ∧ v = Value.str x t) ∨ (∃ b : Bool, k = Sum.inl (if b then 1 else 0) ∧ v = Value.bool b)
  | .inl i, v, h => by
    rcases (Bool.or_eq_true _ _).mp (show (Value.isInt i v || isB i v) = true from h) with h | h
    · obtain ⟨t, e⟩ := Value.isInt_shape (k := i) (v := v) h
      exact .inl ⟨i, t, rfl, e⟩
    · obtain ⟨b, e, e'⟩ := isB_shape h
      exact .inr (.inr ⟨b, by rw [e], e'⟩)
  | .inr x, v, h => by
    obtain ⟨t, e⟩ := Value.isStrOf_shape (x := x) (v := v) h
    exact .inr (.inl ⟨x, t, rfl, e⟩)
theorem keyIs_int (i : Int) (t : Tok) : keyIs (.inl i) (.int i t) = true := by simp [keyIs, Value.isInt]
theorem keyIs_str (x : Str) (t : Tok) : keyIs (.inr x) (.str x t) = true := by simp [keyIs, Value.isStrOf]
theorem keyIs_bl (b : Bool) : keyIs (.inl (if b then 1 else 0)) (.bool b) = true := by cases b <;> simp [keyIs, isB]
theorem hash_bool {prog : Program} {w : World} {A : Around} {E : Value → Shared → Prop} {s : Shared} {b : Bool} {Q : Int → Shared → Prop} (h : Q (hashInt (if b then 1 else 0)) { s with toks := s.toks + 1 }) :
    wpAny (model prog w) A (pyHash (.bool b)) Q E s := by
  have hr := rawHash_range (if b then 1 else 0)
  have hT : s.TypeIs (.bool b) "bool" := rfl
  unfold pyHash
  have hv : [Value.bool b].any Value.onHeap = false := rfl
  refine wpAny_bind ?_
  rw [cRoomFor, if_neg (by rw [hv]; exact Bool.false_ne_true)]; refine wpAny_pure ?_
  refine wpAny_bind (wpAny_specialOf hT F.slot_bool_hash.lookup ?_)
  show wpAny _ _ (if (some (Value.builtin "int.__hash__") == some Value.none) = true then _ else _) Q E s
  rw [if_neg (by rw [beq_builtin_none]; exact Bool.false_ne_true)]
  refine wpAny_bind (wpAny_specialOf hT F.slot_bool_hash.lookup ?_)
  show wpAny _ _ (callSpecialIfBoundUnlessNone? (.bool b) "__hash__" _ >>= _) Q E s
  refine wpAny_bind (wpAny_callSpecialIfBoundUnlessNone?_slot hT F.slot_bool_hash
    (wpAny_call_entry F.slot_bool_hash hT entry_int_hash
      (show wpAny _ _ (do ret (← mkInt (rawHash (if b then 1 else 0)))) _ _ s from wpAny_ret_mkInt ?_) (args_int_hash _)))
  show wpAny _ _ (if (decide (-(2 : Int) ^ 63 ≤ rawHash (if b then 1 else 0)) && decide (rawHash (if b then 1 else 0) < 2 ^ 63)) = true then _ else _) Q E _
  rw [if_pos (by rw [decide_eq_true hr.1, decide_eq_true hr.2]; rfl)]
  exact wpAny_pure h
theorem key_ll (a b : Int) : decide ((Sum.inl a : Key) = Sum.inl b) = (a == b) := by
  by_cases e : a = b
  · subst e; simp
  · have h : ¬ (Sum.inl a : Key) = Sum.inl b := fun q => e (Sum.inl.inj q)
    rw [decide_eq_false h]
    exact (beq_eq_false_iff_ne.mpr e).symm
theorem key_rr (a b : Str) : decide ((Sum.inr a : Key) = Sum.inr b) = decide (a = b) := by
  by_cases e : a = b
  · subst e; simp
  · have h : ¬ (Sum.inr a : Key) = Sum.inr b := fun q => e (Sum.inr.inj q)
    rw [decide_eq_false h, decide_eq_false e]
theorem key_lr (a : Int) (b : Str) : decide ((Sum.inl a : Key) = Sum.inr b) = false := decide_eq_false (fun q => nomatch q)
theorem key_rl (a : Str) (b : Int) : decide ((Sum.inr a : Key) = Sum.inl b) = false := decide_eq_false (fun q => nomatch q)

def mixKind (prog : Program) (w : World) : PySem.KeyKind prog w Key where
  is := keyIs
  hash := keyH w
  inj := fun v a b ha hb => by
    rcases keyIs_shape ha with ⟨i, t, rfl, rfl⟩ | ⟨x, t, rfl, rfl⟩ | ⟨x, rfl, rfl⟩
    · rcases keyIs_shape hb with ⟨j, u, rfl, e⟩ | ⟨y, u, rfl, e⟩ | ⟨y, rfl, e⟩
      · injection e with e1 _; rw [e1]
      · exact nomatch e
      · exact nomatch e
    · rcases keyIs_shape hb with ⟨j, u, rfl, e⟩ | ⟨y, u, rfl, e⟩ | ⟨y, rfl, e⟩
      · exact nomatch e
      · injection e with e1 _; rw [e1]
      · exact nomatch e
    · rcases keyIs_shape hb with ⟨j, u, rfl, e⟩ | ⟨y, u, rfl, e⟩ | ⟨y, rfl, e⟩
      · exact nomatch e
      · exact nomatch e
      · injection e with e1; rw [e1]
  byValue := fun k v h => by
    rcases keyIs_shape h with ⟨i, t, rfl, rfl⟩ | ⟨x, t, rfl, rfl⟩ | ⟨x, rfl, rfl⟩ <;> rfl
  pyHash := fun hv h => by
    rcases keyIs_shape hv with ⟨i, t, rfl, rfl⟩ | ⟨x, t, rfl, rfl⟩ | ⟨x, rfl, rfl⟩
    · exact wpAny_pyHash_int h
    · exact wpAny_pyHash_str h
    · exact hash_bool h
  eqBool := fun hu hv h => by
    rcases keyIs_shape hu with ⟨i, t, rfl, rfl⟩ | ⟨x, t, rfl, rfl⟩ | ⟨x, rfl, rfl⟩
    · rcases keyIs_shape hv with ⟨j, u, rfl, rfl⟩ | ⟨y, u, rfl, rfl⟩ | ⟨y, rfl, rfl⟩
      · rw [key_ll] at h; exact wpAny_eqBool_int h
      · rw [key_lr] at h; exact SeqAt.EqAt.int_str i t y u _ _ _ _ h
      · rw [key_ll] at h; exact SeqAt.EqAt.int_bool i t y _ _ _ _ h
    · rcases keyIs_shape hv with ⟨j, u, rfl, rfl⟩ | ⟨y, u, rfl, rfl⟩ | ⟨y, rfl, rfl⟩
      · rw [key_rl] at h; exact SeqAt.EqAt.str_int x t j u _ _ _ _ h
      · rw [key_rr] at h; exact wpAny_eqBool_str h
      · rw [key_rl] at h; exact SeqAt.EqAt.str_bool x t y _ _ _ _ h
    · rcases keyIs_shape hv with ⟨j, u, rfl, rfl⟩ | ⟨y, u, rfl, rfl⟩ | ⟨y, rfl, rfl⟩
      · rw [key_ll] at h; exact SeqAt.EqAt.bool_int x j u _ _ _ _ h
      · rw [key_lr] at h; exact SeqAt.EqAt.bool_str x y u _ _ _ _ h
      · rw [key_ll] at h
        have e : ((if x then (1 : Int) else 0) == (if y then (1 : Int) else 0)) = (x == y) := by cases x <;> cases y <;> rfl
        rw [e] at h
        exact SeqAt.EqAt.bool_bool x y _ _ _ _ h
  «strs» := fun k x t v h => by
    rcases keyIs_shape h with ⟨i, u, rfl, e⟩ | ⟨y, u, rfl, e⟩ | ⟨y, rfl, e⟩
    · exact nomatch e
    · injection e with e1 _
      subst e1
      cases v <;> rfl
    · exact nomatch e

theorem mixKind_int (prog : Program) (w : World) (i : Int) (t : Tok) : (mixKind prog w).is (.inl i) (.int i t) = true := keyIs_int i t
theorem mixKind_str (prog : Program) (w : World) (x : Str) (t : Tok) : (mixKind prog w).is (.inr x) (.str x t) = true := keyIs_str x t
end L2

namespace L2
open PySem PySem.Spec PyProof.Rows
inductive V where
  | non | bl (b : Bool) | int (i : Int) | str (x : Str) | byt (b : Array UInt8) | flt (b : UInt64) | ref (a : Addr) | ty (n : String)
  deriving DecidableEq

def RelV : V → Value → Prop
  | .non, u => u = Value.none
  | .bl b, u => u = Value.bool b
  | .int i, u => ∃ t, u = Value.int i t
  | .str x, u => ∃ t, u = Value.str x t
  | .byt b, u => ∃ t, u = Value.bytes b t
  | .flt b, u => ∃ t, u = Value.float b t
  | .ref a, u => u = Value.ref a
  | .ty n, u => u = Value.type n

abbrev Vals : List V → List Value → Prop := Paired RelV
theorem Vals.length {xs : List V} {us : List Value} (r : Vals xs us) : xs.length = us.length := Paired.length r
theorem Vals.get : ∀ {xs : List V} {us : List Value} {i : Nat} {x : V}, Vals xs us → xs[i]? = some x → ∃ u, us[i]? = some u ∧ RelV x u
  | _, _, _, _, .nil, e => by simp at e
  | _, _, 0, _, .cons r _, e => by simp at e; subst e; exact ⟨_, rfl, r⟩
  | _, _, i + 1, x, .cons _ t, e => by
    obtain ⟨u, h1, h2⟩ := Vals.get (i := i) (x := x) t (by simpa using e)
    exact ⟨u, by simpa using h1, h2⟩
theorem Vals.set {x : V} {u : Value} (r : RelV x u) : ∀ {xs : List V} {us : List Value} (i : Nat), Vals xs us → Vals (xs.set i x) (us.set i u)
  | _, _, _, .nil => .nil
  | _, _, 0, .cons _ t => .cons r t
  | _, _, i + 1, .cons q t => .cons q (Vals.set r i t)
theorem Vals.append : ∀ {xs ys : List V} {us ws : List Value}, Vals xs us → Vals ys ws → Vals (xs ++ ys) (us ++ ws)
  | _, _, _, _, .nil, s => s
  | _, _, _, _, .cons r t, s => .cons r (Vals.append t s)
theorem Vals.take : ∀ {xs : List V} {us : List Value} (n : Nat), Vals xs us → Vals (xs.take n) (us.take n)
  | _, _, 0, _ => .nil
  | _, _, _ + 1, .nil => .nil
  | _, _, n + 1, .cons r t => .cons r (Vals.take n t)
theorem Vals.drop : ∀ {xs : List V} {us : List Value} (n : Nat), Vals xs us → Vals (xs.drop n) (us.drop n)
  | _, _, 0, r => r
  | _, _, _ + 1, .nil => .nil
  | _, _, n + 1, .cons _ t => Vals.drop n t
theorem Vals.none_of : ∀ {xs : List V} {us : List Value} {i : Nat}, Vals xs us → xs[i]? = none → us[i]? = none := fun {xs us i} r e => by
  have h1 := r.length
  have h2 : xs.length ≤ i := List.getElem?_eq_none_iff.mp e
  exact List.getElem?_eq_none_iff.mpr (by omega)

def RelO : Option V → Option Value → Prop
  | some v, some u => RelV v u
  | none, none => True
  | _, _ => False
def KV {κ : Type} : List (κ × V) → List (κ × Value) → Prop := Paired fun (p : κ × V) (q : κ × Value) => p.1 = q.1 ∧ RelV p.2 q.2
def kV : Key → V
  | .inl i => .int i
  | .inr x => .str x
inductive HO where
  | lst (xs : List V)
  | tup (xs : List V)
  | dK (kvs : List (Key × V)) | dT (kvs : List (List Key × V))
  | set (S : Int → Bool) (n : Nat)
  | ins (C dx : Addr) (fs : List (Str × V))
  | own (x : Addr)
  | xd (fs : List (Str × V))
  | met (f x : Addr)
  | rng (lo hi : Int)
  | frz (o : Obj) (u : HO)
  | tbl (ps : Array Value)
  | lam (pos : Pos) (qual : Str)
  | ext (φ : Heap → Prop)
def kVr (k : Key) (v : V) : Prop := v = kV k ∨ ∃ b : Bool, v = .bl b ∧ k = .inl (if b then 1 else 0)
abbrev kVs : List Key → List V → Prop := Paired kVr
def TupKey (H : Addr → Option HO) (b : Addr) (ks : List Key) : Prop := ∃ ws, kVs ks ws ∧ H b = some (.tup ws)
abbrev Hp := Addr → Option HO
def upd (H : Hp) (a : Addr) (o : HO) : Hp := fun b => if b = a then some o else H b
theorem upd_same {H : Hp} {a : Addr} {o : HO} : upd H a o a = some o := by unfold upd; rw [if_pos rfl]
theorem upd_ne {H : Hp} {a b : Addr} {o : HO} (h : b ≠ a) : upd H a o b = H b := by unfold upd; rw [if_neg h]
theorem upd_upd {H : Hp} {a : Addr} {o u : HO} : upd (upd H a o) a u = upd H a u := by
  funext b; unfold upd; split <;> rfl
theorem ne_of {H : Hp} {a b : Addr} {o u : HO} (h : H a = some o) (h' : H b = some u) (d : o ≠ u) : a ≠ b := by
  intro e; subst e; rw [h] at h'; exact d (Option.some.inj h')
theorem ne_of_none {H : Hp} {a b : Addr} {o : HO} (h : H a = some o) (h' : H b = none) : a ≠ b := by
  intro e; subst e; rw [h] at h'; cases h'

section
variable (P : Program) (w : World)
def ObjOk (H : Hp) (h : Heap) (a : Addr) : HO → Prop
  | .lst xs => xs.length ≤ sizeLine ∧ ∃ (its : List Value) (n : Nat), Vals xs its ∧ h.get? a = some { cls := .type "list", data := .seq its.toArray n }
  | .tup xs => xs.length ≤ sizeLine ∧ ∃ its : List Value, Vals xs its ∧ IsTup h a its.toArray ∧ ∃ o, h.get? a = some o ∧ o.dict = none
  | .dK kvs => kvs.length ≤ sizeLine ∧ (a == sysModules) = false ∧ ∃ vs, KV kvs vs ∧ h.DictOf (mixKind P w) a vs
  | .dT kvs => kvs.length ≤ sizeLine ∧ (a == sysModules) = false ∧ ∃ xs : List (List Key × Addr × Value),
      Paired (fun (p : List Key × V) (q : List Key × Addr × Value) => p.1 = q.1 ∧ TupKey H q.2.1 p.1 ∧ RelV p.2 q.2.2) kvs xs ∧
      ∃ o es ep, h.get? a = some o ∧ o.ExactDict ∧ o.data = .dict es ep ∧ es.toList = xs.map (entryOfKey (tupleKind (mixKind P w))) ∧ (xs.map (·.1)).Nodup
  | .set S n => h.SetOf (intKind P w) a S n
  | .ins C dx fs => H dx = some (.own a) ∧ fs.length ≤ 1000 ∧ dx ≠ a ∧ h.get? a = some (PySem.W.instObj C dx) ∧
      ∃ mA, h.Ns1 dx mA ∧ (∀ f, RelO (fs.lookup f) (mA f)) ∧ PySem.Within mA (fs.map (·.1))
  | .own _ => ∃ o, h.get? a = some o
  | .xd fs => ∃ mA, h.Ns1 a mA ∧ ∀ f, RelO (fs.lookup f) (mA f)
  | .rng lo hi => ∃ t u v, h.get? a = some { cls := .type "range", data := .fields #[.int lo t, .int hi u, .int 1 v] }
  | .frz o u => h.get? a = some o ∧ ObjOk H h a u
  | .tbl ps => h.get? a = some { cls := .none, data := .fields ps }
  | .lam pos qual => ∃ ps, h.get? a = some { cls := .none, data := .fields ps } ∧ TriplesOk ps.toList ∧ ∀ cv, codeAmong pos ps.toList = some cv → ∃ c o u vs t, cv = .ref c ∧ H c = some (.frz o u) ∧ o.data = .fields vs ∧ vs[1]? = some (.str qual t)
  | .met f x => h.get? a = some (PySem.W.methodObj (.ref f) (.ref x))
  | .ext φ => φ h ∧ (∃ o, h.get? a = some o) ∧ ∀ h1 h2 : Heap, φ h1 → (∀ o, h1.get? a = some o → h2.get? a = some o) → φ h2
def HOk (H : Hp) (h : Heap) : Prop := ∀ a o, H a = some o → ObjOk P w H h a o
end

section
variable {P : Program} {w : World} {H H' : Hp} {h h' : Heap} {a : Addr} {o : HO}
theorem ObjOk.lt (x : ObjOk P w H h a o) : a < h.objs.size := by
  cases o with
  | lst xs => obtain ⟨_, _, _, _, e⟩ := x; exact Heap.lt_size e
  | tup xs => obtain ⟨_, _, _, p, _⟩ := x; exact p.lt
  | dK kvs => obtain ⟨_, _, _, _, o, _, _, e, _⟩ := x; exact Heap.lt_size e
  | dT kvs => obtain ⟨_, _, _, _, o, _, _, e, _⟩ := x; exact Heap.lt_size e
  | set S n => obtain ⟨o, _, _, _, e, _⟩ := x; exact Heap.lt_size e
  | ins C dx fs => obtain ⟨_, _, _, e, _⟩ := x; exact Heap.lt_size e
  | own y => obtain ⟨_, e⟩ := x; exact Heap.lt_size e
  | xd fs => obtain ⟨_, ⟨_, _, _, e, _⟩, _⟩ := x; exact Heap.lt_size e
  | rng lo hi => obtain ⟨_, _, _, e⟩ := x; exact Heap.lt_size e
  | frz ob u => obtain ⟨e, _⟩ := x; exact Heap.lt_size e
  | tbl ps => exact Heap.lt_size (show h.get? a = some _ from x)
  | lam pos qual => obtain ⟨_, e, _⟩ := x; exact Heap.lt_size e
  | met f y => exact Heap.lt_size (show h.get? a = some _ from x)
  | ext φ => obtain ⟨_, ⟨_, e⟩, _⟩ := x; exact Heap.lt_size e
theorem Paired.mapP {α β : Type} {F G : α → β → Prop} : ∀ {l₁ : List α} {l₂ : List β}, Paired F l₁ l₂ → (∀ a b, F a b → G a b) → Paired G l₁ l₂
  | _, _, .nil, _ => .nil
  | _, _, .cons r t, f => .cons (f _ _ r) (Paired.mapP t f)
theorem ObjOk.stay (x : ObjOk P w H h a o) (k : ∀ b u, (b = a ∨ H b = some (.own a)) → h.get? b = some u → h'.get? b = some u)
    (ho : ∀ b, H b = some (.own a) → H' b = some (.own a)) (ht : ∀ b xs, H b = some (.tup xs) → H' b = some (.tup xs)) (hz : ∀ b ob u, H b = some (.frz ob u) → H' b = some (.frz ob u)) : ObjOk P w H' h' a o := by
  induction o with
  | lst xs => obtain ⟨z, its, n, r, e⟩ := x; exact ⟨z, its, n, r, k _ _ (.inl rfl) e⟩
  | tup xs => obtain ⟨z, its, r, ⟨ob, e, c⟩, od, e2, d⟩ := x; exact ⟨z, its, r, ⟨ob, k _ _ (.inl rfl) e, c⟩, od, k _ _ (.inl rfl) e2, d⟩
  | dK kvs => obtain ⟨z, y, vs, r, ob, es, ep, e, c⟩ := x; exact ⟨z, y, vs, r, ob, es, ep, k _ _ (.inl rfl) e, c⟩
  | dT kvs =>
    obtain ⟨z, y, xs, r, ob, es, ep, e, c⟩ := x
    exact ⟨z, y, xs, Paired.mapP r fun p q z => ⟨z.1, (let ⟨ws, k1, k2⟩ := z.2.1; ⟨ws, k1, ht _ _ k2⟩), z.2.2⟩, ob, es, ep, k _ _ (.inl rfl) e, c⟩
  | set S n => obtain ⟨ob, es, ep, t, e, c⟩ := x; exact ⟨ob, es, ep, t, k _ _ (.inl rfl) e, c⟩
  | ins C dx fs =>
    obtain ⟨d, z, ne, e, mA, ⟨od, es, ep, e2, c⟩, r⟩ := x
    exact ⟨ho _ d, z, ne, k _ _ (.inl rfl) e, mA, ⟨od, es, ep, k _ _ (.inr d) e2, c⟩, r⟩
  | own y => obtain ⟨ob, e⟩ := x; exact ⟨ob, k _ _ (.inl rfl) e⟩
  | xd fs => obtain ⟨mA, ⟨od, es, ep, e, c⟩, r⟩ := x; exact ⟨mA, ⟨od, es, ep, k _ _ (.inl rfl) e, c⟩, r⟩
  | rng lo hi => obtain ⟨t, u, v, e⟩ := x; exact ⟨t, u, v, k _ _ (.inl rfl) e⟩
  | frz ob u ih => obtain ⟨e, q⟩ := x; exact ⟨k _ _ (.inl rfl) e, ih q⟩
  | tbl ps =>
    have e : h.get? a = some { cls := .none, data := .fields ps } := x
    show h'.get? a = some { cls := .none, data := .fields ps }
    exact k a _ (.inl rfl) e
  | lam pos qual => obtain ⟨ps, e, t, q⟩ := x; exact ⟨ps, k _ _ (.inl rfl) e, t, fun cv z => let ⟨c, o, u, vs, t, q1, q2, q3⟩ := q cv z; ⟨c, o, u, vs, t, q1, hz _ _ _ q2, q3⟩⟩
  | met f y =>
    have e : h.get? a = some (PySem.W.methodObj (.ref f) (.ref y)) := x
    show h'.get? a = some (PySem.W.methodObj (.ref f) (.ref y))
    exact k a _ (.inl rfl) e
  | ext φ => obtain ⟨p, ⟨o, e⟩, st⟩ := x; exact ⟨st _ _ p fun o q => k _ _ (.inl rfl) q, ⟨o, k _ _ (.inl rfl) e⟩, st⟩
theorem HOk.lt (x : HOk P w H h) (e : H a = some o) : a < h.objs.size := (x a o e).lt
theorem HOk.fresh (x : HOk P w H h) (e : h.objs.size ≤ a) : H a = none := by
  cases q : H a with
  | none => rfl
  | some u => exact absurd (Nat.lt_of_lt_of_le (x.lt q) e) (Nat.lt_irrefl _)
theorem HOk.kept (x : HOk P w H h) (k : ∀ b u, h.get? b = some u → h'.get? b = some u) : HOk P w H h' := fun a o e =>
  (x a o e).stay (fun b u _ q => k b u q) (fun _ q => q) (fun _ _ q => q) fun _ _ _ q => q
theorem HOk.laid (x : HOk P w H h) (k : ∀ b u, h.get? b = some u → h'.get? b = some u) (hp : h.objs.size ≤ a) (new : ObjOk P w (upd H a o) h' a o) : HOk P w (upd H a o) h' := fun b u e => by
  have hn := x.fresh hp
  by_cases hb : b = a
  · subst hb; rw [upd_same] at e; cases e; exact new
  · rw [upd_ne hb] at e
    exact (x b u e).stay (fun c v _ q => k c v q) (fun c q => by rw [upd_ne (ne_of_none q hn)]; exact q) (fun c xs q => by rw [upd_ne (ne_of_none q hn)]; exact q) fun c ob u q => by rw [upd_ne (ne_of_none q hn)]; exact q
end
def Rd (H : Hp) (a : Addr) (u : HO) : Prop := H a = some u ∨ ∃ o, H a = some (.frz o u)
theorem Rd.of {H : Hp} {a : Addr} {u : HO} (h : H a = some u) : Rd H a u := .inl h
theorem Rd.ok {P : Program} {w : World} {H : Hp} {h : Heap} {a : Addr} {u : HO} (r : Rd H a u) (x : HOk P w H h) : ObjOk P w H h a u := by
  rcases r with r | ⟨o, r⟩
  · exact x a u r
  · obtain ⟨_, q⟩ := x a _ r
    exact q
def Mut : Option HO → Prop
  | some (.lst _) => True
  | some (.dK _) => True
  | some (.dT _) => True
  | some (.set _ _) => True
  | some (.ins _ _ _) => True
  | some (.ext _) => True
  | some (.lam _ _) => True
  | _ => False
section
variable {P : Program} {w : World} {H : Hp} {h h' : Heap} {x e : Addr} {o' : HO}
theorem HOk.write (ok : HOk P w H h) (mu : Mut (H x)) (he : e = x ∨ H e = some (.own x)) (k : ∀ b u, b ≠ e → h.get? b = some u → h'.get? b = some u) (heo : ∃ u, h'.get? e = some u)
    (new : ObjOk P w (upd H x o') h' x o') : HOk P w (upd H x o') h' := fun b u q => by
  have nown : ∀ c y, H c = some (.own y) → c ≠ x := fun c y r z => by subst z; rw [r] at mu; exact mu
  have ntup : ∀ c xs, H c = some (.tup xs) → c ≠ x := fun c xs r z => by subst z; rw [r] at mu; exact mu
  have nfrz : ∀ c ob u, H c = some (.frz ob u) → c ≠ x := fun c ob u r z => by subst z; rw [r] at mu; exact mu
  by_cases hb : b = x
  · subst hb; rw [upd_same] at q; cases q; exact new
  · rw [upd_ne hb] at q
    by_cases hbe : b = e
    · have q' : H b = some (.own x) := by
        rcases he with z | z
        · exact absurd (hbe.trans z) hb
        · rw [hbe]; exact z
      rw [q] at q'; cases q'
      obtain ⟨v, hv⟩ := heo
      exact ⟨v, by rw [hbe]; exact hv⟩
    · refine (ok b u q).stay (fun c v hc r => k c v ?_ r) (fun c r => by rw [upd_ne (nown c b r)]; exact r) (fun c xs r => by rw [upd_ne (ntup c xs r)]; exact r) fun c ob u r => by rw [upd_ne (nfrz c ob u r)]; exact r
      rcases hc with rfl | hc
      · exact hbe
      · rintro rfl
        rcases he with z | z
        · exact nown c b hc z
        · rw [hc] at z; cases z; exact hb rfl
end
structure Un (fs ex : List Addr) (H H' : Hp) (h h' : Heap) : Prop where
  keep : ∀ b o, h.get? b = some o → H b = none → b ∉ fs → b ∉ ex → h'.get? b = some o
  slot : ∀ b o, h.get? b = some o → H b = none → b ∈ fs → b ∉ ex → ∃ sl, h'.get? b = some { o with slots := sl }
  free : ∀ b o, h.get? b = some o → H b = none → b ∉ ex → H' b = none
  there : ∀ b o, h.get? b = some o → b ∉ ex → ∃ o', h'.get? b = some o'
  tups : ∀ b xs, H b = some (.tup xs) → H' b = some (.tup xs)
  frzs : ∀ b o u, H b = some (.frz o u) → H' b = some (.frz o u)
  tbls : ∀ b ps, H b = some (.tbl ps) → ∃ more, H' b = some (.tbl (ps ++ more))
section
variable {fs fs' ex ex' : List Addr} {H H1 H2 : Hp} {h h1 h2 h' : Heap} {a x e : Addr} {o : HO}
theorem Un.any (u : Un fs ex H H1 h h1) {b : Addr} {ob : Obj} (q : h.get? b = some ob) (n : H b = none) (hx : b ∉ ex) : ∃ sl, h1.get? b = some { ob with slots := sl } := by
  by_cases hb : b ∈ fs
  · exact u.slot b ob q n hb hx
  · exact ⟨ob.slots, u.keep b ob q n hb hx⟩
theorem Un.trans (a : Un fs ex H H1 h h1) (b : Un fs ex H1 H2 h1 h2) : Un fs ex H H2 h h2 where
  keep := fun c ob q n hc hx => b.keep c ob (a.keep c ob q n hc hx) (a.free c ob q n hx) hc hx
  slot := fun c ob q n hc hx => by
    obtain ⟨sl, e1⟩ := a.slot c ob q n hc hx
    obtain ⟨sl', e2⟩ := b.slot c _ e1 (a.free c ob q n hx) hc hx
    exact ⟨sl', e2⟩
  free := fun c ob q n hx => by
    obtain ⟨o', e1⟩ := a.there c ob q hx
    exact b.free c o' e1 (a.free c ob q n hx) hx
  there := fun c ob q hx => by
    obtain ⟨o', e1⟩ := a.there c ob q hx
    exact b.there c o' e1 hx
  tups := fun c xs q => b.tups c xs (a.tups c xs q)
  frzs := fun c ob xs q => b.frzs c ob xs (a.frzs c ob xs q)
  tbls := fun c ps q => by
    obtain ⟨m1, e1⟩ := a.tbls c ps q
    obtain ⟨m2, e2⟩ := b.tbls c _ e1
    exact ⟨m1 ++ m2, by rw [e2, Array.append_assoc]⟩
theorem Un.kept (k : ∀ b u, h.get? b = some u → h'.get? b = some u) : Un fs ex H H h h' :=
  ⟨fun b ob q _ _ _ => k b ob q, fun b ob q _ _ _ => ⟨ob.slots, k b ob q⟩, fun _ _ _ n _ => n, fun b ob q _ => ⟨ob, k b ob q⟩, fun _ _ q => q, fun _ _ _ q => q, fun _ ps q => ⟨#[], by rw [q]; simp⟩⟩
theorem Un.refl : Un fs ex H H h h := Un.kept fun _ _ q => q
theorem Un.laid (k : ∀ b u, h.get? b = some u → h'.get? b = some u) (hp : h.objs.size ≤ a) (hn : H a = none) : Un fs ex H (upd H a o) h h' where
  keep := fun b u q _ _ _ => k b u q
  slot := fun b u q _ _ _ => ⟨u.slots, k b u q⟩
  free := fun b u q n _ => by rw [upd_ne (Nat.ne_of_lt (Nat.lt_of_lt_of_le (Heap.lt_size q) hp))]; exact n
  there := fun b u q _ => ⟨u, k b u q⟩
  tups := fun b xs q => by rw [upd_ne (ne_of_none q hn)]; exact q
  frzs := fun b u xs q => by rw [upd_ne (ne_of_none q hn)]; exact q
  tbls := fun b ps q => ⟨#[], by rw [upd_ne (ne_of_none q hn), q]; simp⟩
theorem Un.write (mu : Mut (H x)) (he : e = x ∨ H e = some (.own x)) (k : ∀ b u, b ≠ e → h.get? b = some u → h'.get? b = some u) (heo : ∃ u, h'.get? e = some u) : Un fs ex H (upd H x o) h h' := by
  have hx : ∀ b, H b = none → b ≠ x := fun b n z => by subst z; rw [n] at mu; exact mu
  have hb : ∀ b, H b = none → b ≠ e := fun b n z => by
    subst z
    rcases he with r | r
    · exact hx b n r
    · rw [n] at r; cases r
  have hm : ∀ b u, H b = some u → ¬ Mut (some u) → b ≠ x := fun b u q nm z => by subst z; rw [q] at mu; exact nm mu
  refine ⟨fun b u q n _ _ => k b u (hb b n) q, fun b u q n _ _ => ⟨u.slots, k b u (hb b n) q⟩, fun b u q n _ => by rw [upd_ne (hx b n)]; exact n, fun b u q _ => ?_,
    fun b xs q => by rw [upd_ne (hm b _ q fun z => z)]; exact q, fun b u xs q => by rw [upd_ne (hm b _ q fun z => z)]; exact q, fun b ps q => ⟨#[], by rw [upd_ne (hm b _ q fun z => z), q]; simp⟩⟩
  by_cases hbe : b = e
  · subst hbe; exact heo
  · exact ⟨u, k b u hbe q⟩
theorem Un.mono (u : Un fs ex H H1 h h1) (hs : ∀ b ∈ fs, b ∈ fs') (hx : ∀ b ∈ ex, b ∈ ex') : Un fs' ex' H H1 h h1 :=
  ⟨fun b ob q n hb he => u.keep b ob q n (fun z => hb (hs b z)) fun z => he (hx b z), fun _ _ q n _ he => u.any q n fun z => he (hx _ z), fun b ob q n he => u.free b ob q n fun z => he (hx b z), fun b ob q he => u.there b ob q fun z => he (hx b z), u.tups, u.frzs, u.tbls⟩
end
def trk (h : Heap) (H : Hp) : List Addr := (List.range h.objs.size).filter fun a => (H a).isSome
def hidT (h : Heap) (H : Hp) : Heap := PySem.W.hideAll h (trk h H)
theorem hidT_size (h : Heap) (H : Hp) : (hidT h H).objs.size = h.objs.size := PySem.W.hideAll_size _ _
theorem hidT_get {h : Heap} {H : Hp} {b : Addr} {o : Obj} (e : h.get? b = some o) (n : H b = none) : (hidT h H).get? b = some o :=
  PySem.W.hideAll_get _ e fun hm => by
    have q : (H b).isSome = true := (List.mem_filter.mp hm).2
    rw [n] at q; simp at q
theorem of_hidT {h : Heap} {H : Hp} {b : Addr} {o : Obj} (e : (hidT h H).get? b = some o) : h.get? b = some o ∧ H b = none := by
  have e' : h.get? b = some o := PySem.W.of_hideAll (trk h H) e
  refine ⟨e', ?_⟩
  cases q : H b with
  | none => rfl
  | some x =>
    have hm : b ∈ trk h H := List.mem_filter.mpr ⟨List.mem_range.mpr (Heap.lt_size e'), by simp [q]⟩
    have z : (hidT h H).get? b = none := PySem.W.hideAll_none (trk h H) hm
    rw [z] at e; cases e
def allNews (g h : Heap) (L : Addr) : List (Addr × Obj) := (List.range h.objs.size).filterMap fun a => if a = L ∨ (g.get? a).isSome = true then none else (h.get? a).map fun o => (a, o)
def rest (g h : Heap) (L d : Addr) : List (Addr × Obj) := (allNews g h L).filter fun p => decide (p.1 ≠ d)
end L2

namespace L2
open PySem PySem.Spec PyProof.Rows
structure Mod (K : PySem.W.Frag) (mg : Str → Option Value) (base : Heap) : Prop where
  kin : K.In base
  glob : base.Ns mainGlobals mg
  blt : ∃ mb, base.Ns builtinsNs mb ∧ ∀ x : Str, x ≠ "__name__" → mb x = bootBuiltins x
  nolimit : base.NoLimit
structure Cx where
  prog : Program
  w : World
  K : PySem.W.Frag
  mg : Str → Option Value
  base : Heap
  A : Around
  N : List Str
  s₀ : Shared
  H₀ : Hp
  env : Env
  outer : List Env
  stack : List Env
  ex : List Addr
  fn : Str → Bool
  calm : Bool
  pn : List (Addr × Obj)
  xe : Value → Shared → Prop
def frs (l : List Env) : List Addr := l.filterMap (·.frame)
abbrev Cx.fs (X : Cx) : List Addr := frs X.outer

def Vis (sc : Scope) (x : Str) : Prop := sc.names.lookup x = some .local ∨ sc.names.lookup x = some .cell ∨ sc.names.lookup x = some .free
def Loc (sc : Scope) (x : Str) : Prop := sc.names.lookup x = some .local ∨ sc.names.lookup x = some .cell
def Look (env : Env) (h : Heap) (m : Str → Option Value) (x : Str) (u : Value) : Prop :=
  (env.kindOf x = some .local ∧ m x = some u) ∨ ((env.kindOf x = some .cell ∨ env.kindOf x = some .free) ∧ ∃ c, env.cells.lookup x = some c ∧ h.IsCell c (some u))

structure Cx.Ok (X : Cx) : Prop where
  mod : Mod X.K X.mg X.base
  kind : X.env.scope.kind = .function
  glob : X.env.globals = mainGlobals
  blt : X.env.builtins = builtinsNs
  above : X.s₀.heap.objs.size ≤ X.env.locals
  inj : ∀ x y c, X.env.cells.lookup x = some c → X.env.cells.lookup y = some c → x = y
  has : ∀ x, (X.env.kindOf x = some .cell ∨ X.env.kindOf x = some .free) → ∃ c, X.env.cells.lookup x = some c
  cab : ∀ x c, X.fn x = true → X.env.cells.lookup x = some c → X.s₀.heap.objs.size ≤ c
  hd : X.calm = true → X.A.handled = none
  frames : X.A.frames = some X.stack
  stk : X.stack = X.outer ∨ (X.stack = X.env :: X.outer ∧ X.env.frame = some X.env.locals)
  exf : ∀ b ∈ X.ex, b ≠ X.env.locals ∧ ∀ x c, X.env.cells.lookup x = some c → c ≠ b
  bs : ∀ b o, X.base.get? b = some o → X.s₀.heap.get? b = some o ∧ X.H₀ b = none
  bsz : X.base.objs.size ≤ X.s₀.heap.objs.size
  noex : ∀ b o, X.base.get? b = some o → b ∉ X.ex
  exfs : ∀ b ∈ X.ex, b ∉ X.fs
  funs : X.s₀.heap.FunFrames X.base X.outer
  frf : ∀ b ∈ X.fs, X.H₀ b = none

structure Inv (X : Cx) (pins : List (Addr × Obj)) (σ : List (Option V)) (H : Hp) (s : Shared) : Prop where
  ok : X.Ok
  os : s.os = X.s₀.os
  bare : AllBare s.gens
  base : Un X.fs X.ex X.H₀ H X.s₀.heap s.heap
  loc : ∃ m, s.heap.Ns X.env.locals m ∧ ∀ (i : Nat) (x : Str) (v : V), X.N[i]? = some x → σ[i]? = some (some v) → Vis X.env.scope x → ∃ u, RelV v u ∧ Look X.env s.heap m x u
  cell : ∀ x c, X.env.cells.lookup x = some c → ∃ v, s.heap.IsCell c v
  free : H X.env.locals = none
  freeC : ∀ x c, X.env.cells.lookup x = some c → H c = none
  pin : ∀ p ∈ X.pn ++ pins, s.heap.get? p.1 = some p.2 ∧ H p.1 = none ∧ p.1 ≠ X.env.locals ∧ p.1 ∉ X.fs ∧ ∀ v, p.2.data ≠ .cell v
  hok : HOk X.prog X.w H s.heap
  len : σ.length = X.N.length

section
variable {X : Cx} {pins : List (Addr × Obj)} {σ : List (Option V)} {H H' : Hp} {s : Shared} {h' : Heap}

theorem Cx.Ok.nofr (ok : X.Ok) {b : Addr} {o : Obj} (e : X.base.get? b = some o) : b ∉ X.fs := fun hb => by
  have := (ok.funs.mem hb).1
  rw [e] at this; cases this
theorem Inv.bs (I : Inv X pins σ H s) : ∀ b o, X.base.get? b = some o → s.heap.get? b = some o ∧ H b = none := fun b o e =>
  ⟨I.base.keep b o (I.ok.bs b o e).1 (I.ok.bs b o e).2 (I.ok.nofr e) (I.ok.noex b o e), I.base.free b o (I.ok.bs b o e).1 (I.ok.bs b o e).2 (I.ok.noex b o e)⟩
theorem Inv.bk (I : Inv X pins σ H s) : ∀ b o, X.base.get? b = some o → s.heap.get? b = some o := fun b o e => (I.bs b o e).1
theorem Inv.mod (I : Inv X pins σ H s) : Mod X.K X.mg X.base := I.ok.mod
theorem Inv.kIn (I : Inv X pins σ H s) : X.K.In s.heap := I.ok.mod.kin.keeps I.bk
theorem Inv.nolimit (I : Inv X pins σ H s) : s.heap.NoLimit := I.ok.mod.nolimit.keeps I.bk
theorem Inv.fr (I : Inv X pins σ H s) : ∃ m, Fr X.base X.env.locals s.heap m :=
  let ⟨m, hn, _⟩ := I.loc
  ⟨m, hn, I.bk, Nat.le_trans I.ok.bsz I.ok.above⟩
theorem Inv.lt (I : Inv X pins σ H s) : X.env.locals < s.heap.objs.size := let ⟨_, hn, _⟩ := I.loc; hn.lt
theorem Inv.sz (I : Inv X pins σ H s) : X.s₀.heap.objs.size ≤ s.heap.objs.size := Nat.le_trans I.ok.above (Nat.le_of_lt I.lt)
theorem Inv.nofs (I : Inv X pins σ H s) {a : Addr} (h : s.heap.objs.size ≤ a) : a ∉ X.fs := fun hb => by
  obtain ⟨_, o, ho, _⟩ := I.ok.funs.mem hb
  exact absurd (Nat.lt_of_lt_of_le (Heap.lt_size ho) (Nat.le_trans I.sz h)) (Nat.lt_irrefl _)
theorem Inv.cne (I : Inv X pins σ H s) : ∀ x c, X.env.cells.lookup x = some c → c ≠ X.env.locals := fun x c e z => by
  obtain ⟨v, o, ho, hd⟩ := I.cell x c e
  obtain ⟨m, ⟨o', es, ep, ho', hd', _⟩, _⟩ := I.loc
  rw [z, ho'] at ho; cases ho; rw [hd'] at hd; cases hd
theorem Inv.funs (I : Inv X pins σ H s) : s.heap.FunFrames X.base X.outer := by
  have all : ∀ (l : List Env), (∀ b ∈ frs l, b ∈ X.fs) → X.s₀.heap.FunFrames X.base l → s.heap.FunFrames X.base l := by
    intro l
    induction l with
    | nil => intro _ _; trivial
    | cons env r ih =>
      intro hs hl
      obtain ⟨hk, ⟨L, o, hf, hn, ho, hd⟩, hr⟩ := hl
      have hL : L ∈ X.fs := hs L (by unfold frs; rw [List.filterMap_cons, hf]; exact List.mem_cons_self)
      obtain ⟨sl, e⟩ := I.base.slot L o ho (I.ok.frf L hL) hL fun z => I.ok.exfs L z hL
      exact ⟨hk, ⟨L, _, hf, hn, e, hd⟩, ih (fun b hb => hs b (by unfold frs; rw [List.filterMap_cons, hf]; exact List.mem_cons_of_mem _ hb)) hr⟩
  exact all X.outer (fun _ hb => hb) I.ok.funs
theorem Inv.stack (I : Inv X pins σ H s) : s.heap.FunFrames X.base X.stack := by
  rcases I.ok.stk with e | ⟨e, hf⟩
  · rw [e]; exact I.funs
  · rw [e]
    obtain ⟨m, hn, _⟩ := I.loc
    refine .cons (by rw [I.ok.kind]; decide) hf hn ?_ I.funs
    exact Heap.get?_none_of_le (Nat.le_trans I.ok.bsz I.ok.above)
theorem Inv.stkSub (I : Inv X pins σ H s) : ∀ b ∈ frs X.stack, b ∈ X.env.locals :: X.fs := fun b hb => by
  rcases I.ok.stk with e | ⟨e, hf⟩
  · rw [e] at hb; exact List.mem_cons_of_mem _ hb
  · rw [e] at hb
    unfold frs at hb
    rw [List.filterMap_cons, hf] at hb
    exact hb
theorem Inv.stkFree (I : Inv X pins σ H s) : ∀ b ∈ frs X.stack, H b = none := fun b hb => by
  rcases List.mem_cons.mp (I.stkSub b hb) with e | hb
  · rw [e]; exact I.free
  · obtain ⟨_, o, ho, _⟩ := I.ok.funs.mem hb
    exact I.base.free b o ho (I.ok.frf b hb) fun z => I.ok.exfs b z hb
theorem Inv.step {g' : Array GenState} {t' : Nat} {d' : Drawn} {ch : List Addr} (I : Inv X pins σ H s)
    (hch : ∀ b ∈ ch, (b ∈ X.ex ∨ X.s₀.heap.objs.size ≤ b) ∧ b ≠ X.env.locals ∧ (∀ x c, X.env.cells.lookup x = some c → c ≠ b) ∧ ∀ p ∈ X.pn ++ pins, p.1 ≠ b)
    (keep : ∀ b o, b ≠ X.env.locals → b ∉ X.fs → b ∉ ch → s.heap.get? b = some o → H b = none → h'.get? b = some o)
    (slot : ∀ b o, b ≠ X.env.locals → b ∈ X.fs → b ∉ ch → s.heap.get? b = some o → H b = none → ∃ sl, h'.get? b = some { o with slots := sl }) (free : ∀ b o, b ∉ ch → s.heap.get? b = some o → H b = none → H' b = none)
    (there : ∀ b o, b ∉ ch → s.heap.get? b = some o → ∃ o', h'.get? b = some o')
    (tups : ∀ b xs, H b = some (.tup xs) → H' b = some (.tup xs)) (frzs : ∀ b o u, H b = some (.frz o u) → H' b = some (.frz o u)) (tbls : ∀ b ps, H b = some (.tbl ps) → ∃ more, H' b = some (.tbl (ps ++ more)))
    (ns : ∀ m, s.heap.Ns X.env.locals m → h'.Ns X.env.locals m) (hok : HOk X.prog X.w H' h') (hg : AllBare g') :
    Inv X pins σ H' { s with heap := h', gens := g', drawn := d', toks := t' } := by
  have neL : ∀ b o, X.s₀.heap.get? b = some o → b ≠ X.env.locals := fun b o e => Nat.ne_of_lt (Nat.lt_of_lt_of_le (Heap.lt_size e) I.ok.above)
  have neC : ∀ b o, X.s₀.heap.get? b = some o → b ∉ X.ex → b ∉ ch := fun b o e hx hb => by
    rcases (hch b hb).1 with z | z
    · exact hx z
    · exact absurd (Nat.lt_of_lt_of_le (Heap.lt_size e) z) (Nat.lt_irrefl _)
  have cellK : ∀ x c, X.env.cells.lookup x = some c → ∀ v, s.heap.IsCell c v → h'.IsCell c v := fun x c e v ⟨o, ho, hd⟩ => by
    have nch : c ∉ ch := fun z => (hch c z).2.2.1 x c e rfl
    by_cases hc : c ∈ X.fs
    · obtain ⟨sl, q⟩ := slot c o (I.cne x c e) hc nch ho (I.freeC x c e)
      exact ⟨_, q, hd⟩
    · exact ⟨o, keep c o (I.cne x c e) hc nch ho (I.freeC x c e), hd⟩
  refine ⟨I.ok, I.os, hg, ⟨fun b o e n hb hx => ?_, fun b o e n hb hx => ?_, fun b o e n hx => ?_, fun b o e hx => ?_, fun b xs e => tups b xs (I.base.tups b xs e), fun b o xs e => frzs b o xs (I.base.frzs b o xs e), fun b ps e => ?_⟩, ?_, fun x c e => ?_, ?_, fun x c e => ?_, fun p hp => ?_, hok, I.len⟩
  · exact keep b o (neL b o e) hb (neC b o e hx) (I.base.keep b o e n hb hx) (I.base.free b o e n hx)
  · obtain ⟨sl, e1⟩ := I.base.slot b o e n hb hx
    obtain ⟨sl', e2⟩ := slot b _ (neL b o e) hb (neC b o e hx) e1 (I.base.free b o e n hx)
    exact ⟨sl', e2⟩
  · obtain ⟨o', e1⟩ := I.base.there b o e hx
    exact free b o' (neC b o e hx) e1 (I.base.free b o e n hx)
  · obtain ⟨o', e1⟩ := I.base.there b o e hx
    exact there b o' (neC b o e hx) e1
  · obtain ⟨m1, e1⟩ := I.base.tbls b ps e
    obtain ⟨m2, e2⟩ := tbls b _ e1
    exact ⟨m1 ++ m2, by rw [e2, Array.append_assoc]⟩
  · obtain ⟨m, hn, hl⟩ := I.loc
    refine ⟨m, ns m hn, fun i x v e1 e2 e3 => ?_⟩
    obtain ⟨u, r, l⟩ := hl i x v e1 e2 e3
    refine ⟨u, r, ?_⟩
    rcases l with l | ⟨k, c, e, z⟩
    · exact .inl l
    · exact .inr ⟨k, c, e, cellK x c e _ z⟩
  · obtain ⟨v, z⟩ := I.cell x c e
    exact ⟨v, cellK x c e v z⟩
  · obtain ⟨m, ⟨o, _, _, ho, _⟩, _⟩ := I.loc
    exact free _ o (fun z => (hch _ z).2.1 rfl) ho I.free
  · obtain ⟨v, o, ho, hd⟩ := I.cell x c e
    exact free c o (fun z => (hch c z).2.2.1 x c e rfl) ho (I.freeC x c e)
  · obtain ⟨e, n, ne, nf, d⟩ := I.pin p hp
    have nch : p.1 ∉ ch := fun z => (hch p.1 z).2.2.2 p hp rfl
    exact ⟨keep p.1 p.2 ne nf nch e n, free p.1 p.2 nch e n, ne, nf, d⟩
theorem Inv.un {t' : Nat} (I : Inv X pins σ H s) (u : Un X.fs [] H H' s.heap h') (hok : HOk X.prog X.w H' h') : Inv X pins σ H' { s with heap := h', toks := t' } := by
  obtain ⟨m, ⟨o, es, ep, ho, r⟩, _⟩ := id I.loc
  obtain ⟨sl, hL⟩ := u.any ho I.free (by simp)
  exact I.step (g' := s.gens) (d' := s.drawn) (ch := []) (fun _ z => nomatch z) (fun b o _ hb _ e n => u.keep b o e n hb (by simp)) (fun b o _ hb _ e n => u.slot b o e n hb (by simp)) (fun b o _ e n => u.free b o e n (by simp)) (fun b o _ e => u.there b o e (by simp)) u.tups u.frzs u.tbls (fun m' hm => by
    obtain ⟨o', es', ep', ho', r'⟩ := hm
    rw [ho] at ho'; cases ho'
    exact ⟨_, es', ep', hL, r'⟩) hok I.bare
theorem Inv.call {g' : Array GenState} {t' : Nat} {d' : Drawn} {ch : List Addr} (I : Inv X pins σ H s) (u : Un (frs X.stack) ch H H' s.heap h') (hok : HOk X.prog X.w H' h') (hg : AllBare g')
    (hch : ∀ b ∈ ch, (b ∈ X.ex ∨ X.s₀.heap.objs.size ≤ b) ∧ b ≠ X.env.locals ∧ (∀ x c, X.env.cells.lookup x = some c → c ≠ b) ∧ ∀ p ∈ X.pn ++ pins, p.1 ≠ b) :
    Inv X pins σ H' { s with heap := h', gens := g', drawn := d', toks := t' } := by
  obtain ⟨m, ⟨o, es, ep, ho, r⟩, _⟩ := id I.loc
  obtain ⟨sl, hL⟩ := u.any ho I.free fun z => (hch _ z).2.1 rfl
  exact I.step (ch := ch) hch (fun b o hL hb hc e n => u.keep b o e n (fun z => (List.mem_cons.mp (I.stkSub b z)).elim hL hb) hc) (fun b o _ _ hc e n => u.any e n hc) (fun b o hc e n => u.free b o e n hc) (fun b o hc e => u.there b o e hc) u.tups u.frzs u.tbls (fun m' hm => by
    obtain ⟨o', es', ep', ho', r'⟩ := hm
    rw [ho] at ho'; cases ho'
    exact ⟨_, es', ep', hL, r'⟩) hok hg
theorem Inv.turned {t' : Nat} {it : Addr} (I : Inv X pins σ H s) (k : ∀ b o, b ≠ it → s.heap.get? b = some o → h'.get? b = some o) (hn : H it = none) (hL : it ≠ X.env.locals)
    (h1 : it ∈ X.ex ∨ X.s₀.heap.objs.size ≤ it) (h2 : ∀ x c, X.env.cells.lookup x = some c → c ≠ it) (h3 : ∀ p ∈ X.pn ++ pins, p.1 ≠ it) : Inv X pins σ H { s with heap := h', toks := t' } := by
  have nit : ∀ b u, H b = some u → b ≠ it := fun b u e z => by rw [z, hn] at e; cases e
  refine I.step (g' := s.gens) (d' := s.drawn) (ch := [it]) (fun b hb => ?_) (fun b o _ _ hc e _ => k b o (fun z => hc (by simp [z])) e) (fun b o _ _ hc e _ => ⟨o.slots, k b o (fun z => hc (by simp [z])) e⟩) (fun _ _ _ _ n => n)
    (fun b o hc e => ⟨o, k b o (fun z => hc (by simp [z])) e⟩) (fun _ _ e => e) (fun _ _ _ e => e) (fun b ps e => ⟨#[], by rw [e]; simp⟩) (fun m hm => ?_) (fun b u e => ?_) I.bare
  · have e : b = it := by simpa using hb
    subst e
    exact ⟨h1, hL, h2, h3⟩
  · obtain ⟨o, es, ep, ho, r⟩ := hm
    exact ⟨o, es, ep, k _ o (Ne.symm hL) ho, r⟩
  · refine (I.hok b u e).stay (fun c v hc q => k c v ?_ q) (fun _ q => q) (fun _ _ q => q) fun _ _ _ q => q
    rcases hc with z | z
    · rw [z]; exact nit b u e
    · exact nit c _ z
theorem Inv.tok (I : Inv X pins σ H s) (t : Nat) : Inv X pins σ H { s with toks := t } := I.un (h' := s.heap) (t' := t) Un.refl I.hok
theorem Inv.kept {t' : Nat} (I : Inv X pins σ H s) (k : ∀ b u, s.heap.get? b = some u → h'.get? b = some u) : Inv X pins σ H { s with heap := h', toks := t' } := I.un (Un.kept k) (I.hok.kept k)
theorem Inv.laid {a : Addr} {o : HO} {t' : Nat} (I : Inv X pins σ H s) (k : ∀ b u, s.heap.get? b = some u → h'.get? b = some u) (hp : s.heap.objs.size ≤ a) (new : ObjOk X.prog X.w (upd H a o) h' a o) :
    Inv X pins σ (upd H a o) { s with heap := h', toks := t' } := I.un (Un.laid k hp (I.hok.fresh hp)) (I.hok.laid k hp new)
theorem Inv.write {x e : Addr} {o : HO} {t' : Nat} (I : Inv X pins σ H s) (mu : Mut (H x)) (he : e = x ∨ H e = some (.own x)) (k : ∀ b u, b ≠ e → s.heap.get? b = some u → h'.get? b = some u) (heo : ∃ u, h'.get? e = some u)
    (new : ObjOk X.prog X.w (upd H x o) h' x o) : Inv X pins σ (upd H x o) { s with heap := h', toks := t' } := I.un (Un.write mu he k heo) (I.hok.write mu he k heo new)
theorem Inv.weak {σ' : List (Option V)} (I : Inv X pins σ H s) (hl : σ'.length = σ.length) (w : ∀ (i : Nat) v, σ'[i]? = some (some v) → σ[i]? = some (some v)) : Inv X pins σ' H s :=
  ⟨I.ok, I.os, I.bare, I.base, let ⟨m, hn, hl'⟩ := I.loc; ⟨m, hn, fun i x v e1 e2 e3 => hl' i x v e1 (w i v e2) e3⟩, I.cell, I.free, I.freeC, I.pin, I.hok, hl.trans I.len⟩
theorem Inv.pins_of {pins' : List (Addr × Obj)} (I : Inv X pins σ H s) (h : ∀ p ∈ pins', s.heap.get? p.1 = some p.2 ∧ H p.1 = none ∧ p.1 ≠ X.env.locals ∧ p.1 ∉ X.fs ∧ ∀ v, p.2.data ≠ .cell v) : Inv X pins' σ H s :=
  ⟨I.ok, I.os, I.bare, I.base, I.loc, I.cell, I.free, I.freeC, fun p hp => (List.mem_append.mp hp).elim (fun z => I.pin p (List.mem_append_left _ z)) (h p), I.hok, I.len⟩

theorem nodup_ix {N : List Str} (hN : N.Nodup) {i j : Nat} {x : Str} (a : N[i]? = some x) (b : N[j]? = some x) : i = j := by
  obtain ⟨h1, e1⟩ := List.getElem?_eq_some_iff.mp a
  obtain ⟨h2, e2⟩ := List.getElem?_eq_some_iff.mp b
  exact (List.getElem_inj hN).mp (e1.trans e2.symm)
theorem store_ok2 {M : Model} {A : Around} {E : Value → Shared → Prop} {i : Nat} {x : Str} {v : V} {u : Value} {Q : Unit → Shared → Prop} (I : Inv X pins σ H s) (hN : X.N.Nodup) (hi : X.N[i]? = some x) (hx : Loc X.env.scope x) (r : RelV v u)
    (h : ∀ s', Inv X pins (σ.set i (some v)) H s' → (∃ a, Heap.SameBut a s.heap s'.heap ∧ (a = X.env.locals ∨ X.env.cells.lookup x = some a)) → Q () s') (hf : X.fn x = true ∨ X.env.scope.names.lookup x = some .local := by first | exact .inl rfl | exact .inr rfl | assumption) : wpAny M A (storeName X.env x u) Q E s := by
  obtain ⟨m, hn, hl⟩ := id I.loc
  have hcls : (X.env.scope.kind == .class || (X.env.scope.kind == .module && X.env.locals != X.env.globals)) = false := by rw [I.ok.kind]; rfl
  have hiσ : i < σ.length := by rw [I.len]; exact (List.getElem?_eq_some_iff.mp hi).1
  have cne := I.cne
  have tracked : ∀ {a : Addr} {h' : Heap}, (∃ o, s.heap.get? a = some o ∧ H a = none) → Heap.SameBut a s.heap h' → HOk X.prog X.w H h' := fun {a h'} ha hs b ob e => by
    obtain ⟨_, _, hfree⟩ := ha
    refine (I.hok b ob e).stay (fun c w' hc q => (hs.2 c ?_).trans q) (fun _ q => q) (fun _ _ q => q) fun _ _ _ q => q
    rintro rfl
    rcases hc with rfl | hc
    · rw [hfree] at e; cases e
    · rw [hfree] at hc; cases hc
  rcases hx with hk | hk
  · refine wpAny_storeName_local hk hn (fun h' hn' hs => ?_) hcls
    obtain ⟨oL, _, _, hoL, _⟩ := id hn
    refine h _ ⟨I.ok, I.os, I.bare, ⟨fun b o e n hb hx => ?_, fun b o e n hb hx => ?_, I.base.free, fun b o e hx => ?_, I.base.tups, I.base.frzs, I.base.tbls⟩, ⟨_, hn', fun j y v' e1 e2 e3 => ?_⟩, fun y c e => ?_, I.free, I.freeC, fun p hp => ?_, tracked ⟨oL, hoL, I.free⟩ hs, by simpa using I.len⟩ ⟨_, hs, .inl rfl⟩
    · exact (hs.2 b (Nat.ne_of_lt (Nat.lt_of_lt_of_le (Heap.lt_size e) I.ok.above))).trans (I.base.keep b o e n hb hx)
    · obtain ⟨sl, e1⟩ := I.base.slot b o e n hb hx
      exact ⟨sl, (hs.2 b (Nat.ne_of_lt (Nat.lt_of_lt_of_le (Heap.lt_size e) I.ok.above))).trans e1⟩
    · obtain ⟨o', e1⟩ := I.base.there b o e hx
      exact ⟨o', (hs.2 b (Nat.ne_of_lt (Nat.lt_of_lt_of_le (Heap.lt_size e) I.ok.above))).trans e1⟩
    · by_cases hj : j = i
      · subst hj
        rw [hi] at e1; cases e1
        rw [List.getElem?_set_self hiσ] at e2
        cases e2
        exact ⟨u, r, .inl ⟨hk, by simp⟩⟩
      · rw [List.getElem?_set_ne (Ne.symm hj)] at e2
        obtain ⟨u', r', q⟩ := hl j y v' e1 e2 e3
        refine ⟨u', r', ?_⟩
        rcases q with ⟨k, e⟩ | ⟨k, c, e, z⟩
        · refine .inl ⟨k, ?_⟩
          have : y ≠ x := fun e => hj (nodup_ix hN e1 (e ▸ hi))
          simp [this, e]
        · exact .inr ⟨k, c, e, z.sameBut hs (cne y c e)⟩
    · obtain ⟨w', z⟩ := I.cell y c e
      exact ⟨w', z.sameBut hs (cne y c e)⟩
    · obtain ⟨e, n, ne, nf, d⟩ := I.pin p hp
      exact ⟨(hs.2 p.1 ne).trans e, n, ne, nf, d⟩
  · have hfn : X.fn x = true := by
      rcases hf with z | z
      · exact z
      · rw [z] at hk; cases hk
    obtain ⟨c, hc⟩ := I.ok.has x (.inl hk)
    obtain ⟨w', z⟩ := I.cell x c hc
    refine wpAny_storeName_cell I.ok.kind hk hc z (fun h' hc' hs => ?_)
    obtain ⟨oc, hoc, hocd⟩ := id z
    refine h { s with heap := h' } ⟨I.ok, I.os, I.bare, ⟨fun b o e n hb hx => ?_, fun b o e n hb hx => ?_, I.base.free, fun b o e hx => ?_, I.base.tups, I.base.frzs, I.base.tbls⟩, ⟨m, hn.sameBut hs (Ne.symm (cne x c hc)), fun j y v' e1 e2 e3 => ?_⟩, fun y c' e => ?_, I.free, I.freeC, fun p hp => ?_, tracked ⟨oc, hoc, I.freeC x c hc⟩ hs, by simpa using I.len⟩ ⟨c, hs, .inr hc⟩
    · exact (hs.2 b (Nat.ne_of_lt (Nat.lt_of_lt_of_le (Heap.lt_size e) (I.ok.cab x c hfn hc)))).trans (I.base.keep b o e n hb hx)
    · obtain ⟨sl, e1⟩ := I.base.slot b o e n hb hx
      exact ⟨sl, (hs.2 b (Nat.ne_of_lt (Nat.lt_of_lt_of_le (Heap.lt_size e) (I.ok.cab x c hfn hc)))).trans e1⟩
    · obtain ⟨o', e1⟩ := I.base.there b o e hx
      exact ⟨o', (hs.2 b (Nat.ne_of_lt (Nat.lt_of_lt_of_le (Heap.lt_size e) (I.ok.cab x c hfn hc)))).trans e1⟩
    · by_cases hj : j = i
      · subst hj
        rw [hi] at e1; cases e1
        rw [List.getElem?_set_self hiσ] at e2
        cases e2
        exact ⟨u, r, .inr ⟨.inl hk, c, hc, hc'⟩⟩
      · rw [List.getElem?_set_ne (Ne.symm hj)] at e2
        obtain ⟨u', r', q⟩ := hl j y v' e1 e2 e3
        refine ⟨u', r', ?_⟩
        rcases q with q | ⟨k, c', e, z'⟩
        · exact .inl q
        · refine .inr ⟨k, c', e, z'.sameBut hs ?_⟩
          rintro rfl
          exact hj (nodup_ix hN e1 (I.ok.inj _ _ _ e hc ▸ hi))
    · by_cases hcc : c' = c
      · subst hcc; exact ⟨_, hc'⟩
      · obtain ⟨w2, z2⟩ := I.cell y c' e
        exact ⟨w2, z2.sameBut hs hcc⟩
    · obtain ⟨e, n, ne, nf, d⟩ := I.pin p hp
      refine ⟨(hs.2 p.1 ?_).trans e, n, ne, nf, d⟩
      intro q
      rw [q, hoc] at e
      have q' : oc = p.2 := Option.some.inj e
      exact d w' (by rw [← q']; exact hocd)
theorem store_ok {M : Model} {A : Around} {E : Value → Shared → Prop} {i : Nat} {x : Str} {v : V} {u : Value} {Q : Unit → Shared → Prop} (I : Inv X pins σ H s) (hN : X.N.Nodup) (hi : X.N[i]? = some x) (hx : Loc X.env.scope x) (r : RelV v u)
    (h : ∀ s', Inv X pins (σ.set i (some v)) H s' → Q () s') (hf : X.fn x = true ∨ X.env.scope.names.lookup x = some .local := by first | exact .inl rfl | exact .inr rfl | assumption) : wpAny M A (storeName X.env x u) Q E s :=
  store_ok2 I hN hi hx r (fun s' I' _ => h s' I') hf
theorem Inv.call' {s' : Shared} {ch : List Addr} (I : Inv X pins σ H s) (ho : s'.os = s.os) (u : Un (frs X.stack) ch H H' s.heap s'.heap) (hok : HOk X.prog X.w H' s'.heap) (hg : AllBare s'.gens)
    (hch : ∀ b ∈ ch, (b ∈ X.ex ∨ X.s₀.heap.objs.size ≤ b) ∧ b ≠ X.env.locals ∧ (∀ x c, X.env.cells.lookup x = some c → c ≠ b) ∧ ∀ p ∈ X.pn ++ pins, p.1 ≠ b) : Inv X pins σ H' s' := by
  obtain ⟨h', g', d', t', o'⟩ := s'
  have e : o' = s.os := ho
  subst e
  exact I.call (g' := g') (t' := t') (d' := d') u hok hg hch
end
abbrev XK := Value → Option Addr → Hp → Prop
abbrev St := List (Option V)
abbrev VK := V → Hp → Prop
abbrev TE := St → Hp → VK → Prop
abbrev TT := St → Hp → (Bool → Hp → Prop) → Prop
abbrev TA := St → Hp → (List V → Hp → Prop) → Prop
structure Ends where
  nx : St → Hp → Prop
  rt : VK
  bk : St → Hp → Prop := fun _ _ => False
  ct : St → Hp → Prop := fun _ _ => False
abbrev TS := Ends → St → Hp → Prop

def EP (X : Cx) (pins : List (Addr × Obj)) (σ : St) (Q : VK) (u : Value) (s' : Shared) : Prop := ∃ v H', Inv X pins σ H' s' ∧ RelV v u ∧ Q v H'
def TP (X : Cx) (pins : List (Addr × Obj)) (σ : St) (Q : Bool → Hp → Prop) (b : Bool) (s' : Shared) : Prop := ∃ H', Inv X pins σ H' s' ∧ Q b H'
def AP (X : Cx) (pins : List (Addr × Obj)) (σ : St) (Q : List V → Hp → Prop) (us : List Value) (s' : Shared) : Prop := ∃ vs H', Inv X pins σ H' s' ∧ Vals vs us ∧ Q vs H'
def SP (X : Cx) (pins : List (Addr × Obj)) (D : Ends) (f : Flow) (s' : Shared) : Prop :=
  match f with
  | .next => ∃ σ' H', Inv X pins σ' H' s' ∧ D.nx σ' H'
  | .brk => ∃ σ' H', Inv X pins σ' H' s' ∧ D.bk σ' H'
  | .cont => ∃ σ' H', Inv X pins σ' H' s' ∧ D.ct σ' H'
  | .ret u => ∃ v σ' H', Inv X pins σ' H' s' ∧ RelV v u ∧ D.rt v H'

def PE (X : Cx) (e : Expr) (t : TE) : Prop :=
  ∀ (pins : List (Addr × Obj)) (s : Shared) (σ : St) (H : Hp) (Q : VK), Inv X pins σ H s → t σ H Q → wpAny (model X.prog X.w) X.A (eval e X.env) (EP X pins σ Q) X.xe s
def PT (X : Cx) (e : Expr) (t : TT) : Prop :=
  ∀ (pins : List (Addr × Obj)) (s : Shared) (σ : St) (H : Hp) (Q : Bool → Hp → Prop), Inv X pins σ H s → t σ H Q → wpAny (model X.prog X.w) X.A (isTrue e X.env (eval e X.env)) (TP X pins σ Q) X.xe s
def PW (X : Cx) (e : Expr) (t : TT) : Prop :=
  ∀ (whole : Sem Value) (pins : List (Addr × Obj)) (s : Shared) (σ : St) (H : Hp) (Q : Bool → Hp → Prop), Inv X pins σ H s → t σ H Q → wpAny (model X.prog X.w) X.A (isTrue e X.env whole) (TP X pins σ Q) X.xe s
theorem PW.pt {X : Cx} {e : Expr} {t : TT} (h : PW X e t) : PT X e t := h _
def PA (X : Cx) (es : List Expr) (t : TA) : Prop :=
  ∀ (pos : Pos) (pins : List (Addr × Obj)) (s : Shared) (σ : St) (H : Hp) (Q : List V → Hp → Prop), Inv X pins σ H s → t σ H Q → wpAny (model X.prog X.w) X.A (spliced (backTo pos (starEach es X.env))) (AP X pins σ Q) X.xe s
def PS (X : Cx) (st : Stmt) (t : TS) : Prop :=
  ∀ (pins : List (Addr × Obj)) (s : Shared) (σ : St) (H : Hp) (D : Ends), Inv X pins σ H s → t D σ H → wpAny (model X.prog X.w) X.A (exec st X.env) (SP X pins D) X.xe s
def PSs (X : Cx) (st : List Stmt) (t : TS) : Prop :=
  ∀ (pins : List (Addr × Obj)) (s : Shared) (σ : St) (H : Hp) (D : Ends), Inv X pins σ H s → t D σ H → wpAny (model X.prog X.w) X.A (execs st X.env) (SP X pins D) X.xe s
theorem thn {α : Type} {t : Sem α} {Q Q' : α → Shared → Prop} {M : Model} {A : Around} {E : Value → Shared → Prop} {s : Shared} (h : wpAny M A t Q E s) (hQ : ∀ a s, Q a s → Q' a s) : wpAny M A t Q' E s := wpAny_mono h hQ fun _ _ x => x
end L2

namespace L2
open PySem PySem.Spec PyProof.Rows
section
variable {X : Cx}
def tVar (i : Nat) : TE := fun σ H Q => ∃ v, σ[i]? = some (some v) ∧ Q v H
def tC (v : V) : TE := fun _ H Q => Q v H
theorem pe_var {i : Nat} {x : Str} {pos : Pos} (hN : X.N[i]? = some x) (hv : Vis X.env.scope x) (hd : (x == ("__debug__" : Str)) = false := by decide) (hcd : (x == ("__classdict__" : Str)) = false := by decide) : PE X (.Name x pos) (tVar i) := by
  intro pins s σ H Q I h
  obtain ⟨v, e, h⟩ := h
  obtain ⟨m, hn, hl⟩ := I.loc
  obtain ⟨u, r, l⟩ := hl i x v hN e hv
  have fin : EP X pins σ Q u s := ⟨v, H, I, r, h⟩
  rcases l with ⟨hk, hm⟩ | ⟨hk, c, hc, hcell⟩
  · exact wpAny_Name (wpAny_loadName_local I.ok.kind hk hn hm fin) hd
  · rcases hk with hk | hk
    · exact wpAny_Name (wpAny_loadName_cell I.ok.kind hk hc hcell fin) hd
    · exact wpAny_Name (wpAny_loadName_free I.ok.kind hk hc hcell fin hcd) hd
theorem pe_int {i j pos} : PE X (.Constant (.int i) j pos) (tC (.int i)) := fun _ _ _ H _ I h => wpAny_Constant_int ⟨.int i, H, I.tok _, ⟨_, rfl⟩, h⟩
theorem pe_bl {b j pos} : PE X (.Constant (.bool b) j pos) (tC (.bl b)) := fun _ _ _ H _ I h => Constant_bool ⟨.bl b, H, I, rfl, h⟩
theorem pe_non {j pos} : PE X (.Constant .none j pos) (tC .non) := fun _ _ _ H _ I h => Constant_none ⟨.non, H, I, rfl, h⟩
theorem pe_str {x j pos} : PE X (.Constant (.str x) j pos) (tC (.str x)) := fun _ _ _ H _ I h => Calls.Constant_str ⟨.str x, H, I.tok _, ⟨_, rfl⟩, h⟩
def Gl (X : Cx) (x : Str) : Prop := X.env.kindOf x = some .globalImplicit
theorem ld_glob {E : Value → Shared → Prop} {pins : List (Addr × Obj)} {s : Shared} {σ : St} {H : Hp} {x : Str} {u : Value} {pos : Pos} {Q : Value → Shared → Prop} (I : Inv X pins σ H s) (hg : Gl X x) (hm : X.mg x = some u) (h : Q u s)
    (hd : (x == ("__debug__" : Str)) = false := by decide) : wpAny (model X.prog X.w) X.A (eval (.Name x pos) X.env) Q E s :=
  Calls.Name_function_global I.ok.kind hg (Calls.loadGlobal_global (by rw [I.ok.glob]; exact I.mod.glob.keeps I.bk) hm h) hd
theorem ld_blt {E : Value → Shared → Prop} {pins : List (Addr × Obj)} {s : Shared} {σ : St} {H : Hp} {x : Str} {u : Value} {pos : Pos} {Q : Value → Shared → Prop} (I : Inv X pins σ H s) (hg : Gl X x) (hm : X.mg x = none) (hv : bootBuiltins x = some u) (h : Q u s)
    (hn : x ≠ "__name__" := by decide) (hd : (x == ("__debug__" : Str)) = false := by decide) : wpAny (model X.prog X.w) X.A (eval (.Name x pos) X.env) Q E s := by
  obtain ⟨mb, h1, h2⟩ := I.mod.blt
  exact Calls.Name_function_global I.ok.kind hg (Calls.loadGlobal_builtin (by rw [I.ok.glob]; exact I.mod.glob.keeps I.bk) hm (by rw [I.ok.blt]; exact h1.keeps I.bk) ((h2 x hn).trans hv) h) hd
theorem pe_glob {x : Str} {v : V} {u : Value} {pos : Pos} (hg : Gl X x) (hm : X.mg x = some u) (r : RelV v u) (hd : (x == ("__debug__" : Str)) = false := by decide) : PE X (.Name x pos) (tC v) :=
  fun _ _ _ H _ I h => ld_glob I hg hm ⟨v, H, I, r, h⟩ hd
theorem pe_bltn {x : Str} {v : V} {u : Value} {pos : Pos} (hg : Gl X x) (hm : X.mg x = none) (hv : bootBuiltins x = some u) (r : RelV v u) (hn : x ≠ "__name__" := by decide) (hd : (x == ("__debug__" : Str)) = false := by decide) : PE X (.Name x pos) (tC v) :=
  fun _ _ _ H _ I h => ld_blt I hg hm hv ⟨v, H, I, r, h⟩ hn hd
variable {a b : Expr} {ta tb : TE} {pos : Pos}
def tB (t : TE) : TT := fun σ H Q => t σ H fun x H1 => ∃ c, x = .bl c ∧ Q c H1
theorem pt_val {e : Expr} {t : TE} (h : PE X e t) (he : ∀ whole, isTrue e X.env whole = (do let v ← whole; standAt e.pos; holding [v] (truthy v)) := by intro _; rfl) : PT X e (tB t) := by
  intro pins s σ H Q I hw
  refine isTrue_plain (thn (h pins s σ H _ I hw) fun v s1 ⟨x, H1, I1, r1, q1⟩ => ?_) (he _)
  obtain ⟨d, rfl, q⟩ := q1
  cases r1
  exact wpAny_truthy_bool ⟨H1, I1, q⟩
variable {tA tB' : TT} {rest : List Expr}
def tAnd (t u : TT) : TT := fun σ H Q => t σ H fun c H1 => if c = true then u σ H1 Q else Q false H1
def tOr (t u : TT) : TT := fun σ H Q => t σ H fun c H1 => if c = true then Q true H1 else u σ H1 Q
def tNot (t : TT) : TT := fun σ H Q => t σ H fun c H1 => Q (!c) H1
theorem pw_and1 (ha : PT X a tA) : PW X (.BoolOp .And [a] pos) tA := by
  intro wh pins s σ H Q I h
  refine isTrue_and (thn (ha pins s σ H Q I h) fun c s1 e => ?_)
  cases c with
  | true => exact isTrue_and_nil e
  | false => exact e
theorem pw_or1 (ha : PT X a tA) : PW X (.BoolOp .Or [a] pos) tA := by
  intro wh pins s σ H Q I h
  refine isTrue_or (thn (ha pins s σ H Q I h) fun c s1 e => ?_)
  cases c with
  | false => exact isTrue_or_nil e
  | true => exact e
theorem pw_and (ha : PT X a tA) (hb : PW X (.BoolOp .And (b :: rest) pos) tB') : PW X (.BoolOp .And (a :: b :: rest) pos) (tAnd tA tB') := by
  intro wh pins s σ H Q I h
  refine isTrue_and (thn (ha pins s σ H _ I h) fun c s1 ⟨H1, I1, q1⟩ => ?_)
  cases c with
  | true => exact hb wh pins s1 σ H1 Q I1 q1
  | false => exact ⟨H1, I1, q1⟩
theorem pw_or (ha : PT X a tA) (hb : PW X (.BoolOp .Or (b :: rest) pos) tB') : PW X (.BoolOp .Or (a :: b :: rest) pos) (tOr tA tB') := by
  intro wh pins s σ H Q I h
  refine isTrue_or (thn (ha pins s σ H _ I h) fun c s1 ⟨H1, I1, q1⟩ => ?_)
  cases c with
  | true => exact ⟨H1, I1, q1⟩
  | false => exact hb wh pins s1 σ H1 Q I1 q1
theorem pt_not (ha : PT X a tA) : PT X (.UnaryOp .Not a pos) (tNot tA) := by
  intro pins s σ H Q I h
  exact isTrue_not (ha pins s σ H (fun c H1 => Q (!c) H1) I h)
def tAndV (ta tb : TE) : TE := fun σ H Q => ta σ H fun x H1 => ∃ c, x = .bl c ∧ if c = true then tb σ H1 Q else Q (.bl false) H1
def tOrV (ta tb : TE) : TE := fun σ H Q => ta σ H fun x H1 => ∃ c, x = .bl c ∧ if c = true then Q (.bl true) H1 else tb σ H1 Q
def tNotV (ta : TE) : TE := fun σ H Q => ta σ H fun x H1 => ∃ c, x = .bl c ∧ Q (.bl (!c)) H1
theorem pe_one {op} {t : TE} (h : PE X a t) : PE X (.BoolOp op [a] pos) t := fun pins s σ H Q I hw => BoolOp_one (h pins s σ H Q I hw)
theorem pe_and (ha : PE X a ta) (hb : PE X (.BoolOp .And (b :: rest) pos) tb) : PE X (.BoolOp .And (a :: b :: rest) pos) (tAndV ta tb) := by
  intro pins s σ H Q I h
  refine BoolOp_and (thn (ha pins s σ H _ I h) fun v s1 ⟨x, H1, I1, r1, q1⟩ => ?_)
  obtain ⟨c, rfl, q1⟩ := q1
  cases r1
  refine wpAny_truthy_bool ?_
  cases c with
  | true => exact hb pins s1 σ H1 Q I1 q1
  | false => exact ⟨.bl false, H1, I1, rfl, q1⟩
theorem pe_or (ha : PE X a ta) (hb : PE X (.BoolOp .Or (b :: rest) pos) tb) : PE X (.BoolOp .Or (a :: b :: rest) pos) (tOrV ta tb) := by
  intro pins s σ H Q I h
  refine BoolOp_or (thn (ha pins s σ H _ I h) fun v s1 ⟨x, H1, I1, r1, q1⟩ => ?_)
  obtain ⟨c, rfl, q1⟩ := q1
  cases r1
  refine wpAny_truthy_bool ?_
  cases c with
  | false => exact hb pins s1 σ H1 Q I1 q1
  | true => exact ⟨.bl true, H1, I1, rfl, q1⟩
theorem pe_not (ha : PE X a ta) : PE X (.UnaryOp .Not a pos) (tNotV ta) := by
  intro pins s σ H Q I h
  refine UnaryOp_ (thn (ha pins s σ H _ I h) fun v s1 ⟨x, H1, I1, r1, q1⟩ => ?_)
  obtain ⟨c, rfl, q1⟩ := q1
  cases r1
  exact not_of (wpAny_truthy_bool ⟨.bl (!c), H1, I1, rfl, q1⟩)
end
end L2

namespace L2
open PySem PySem.Spec PyProof.Rows
def SqL (K : PySem.W.Frag) (H : Hp) (a : Addr) (xs : List V) : Prop :=
  Rd H a (.lst xs) ∨
    ∃ (o : Obj) (its : Array Value) (n : Nat), K.lookup a = some o ∧ o.cls = .type "list" ∧ o.dict = none ∧ o.data = .seq its n ∧ its.size ≤ sizeLine ∧ Vals xs its.toList
def SqT (K : PySem.W.Frag) (H : Hp) (a : Addr) (xs : List V) : Prop :=
  Rd H a (.tup xs) ∨
    ∃ (o : Obj) (its : Array Value) (n : Nat), K.lookup a = some o ∧ o.cls = .type "tuple" ∧ o.data = .seq its n ∧ its.size ≤ sizeLine ∧ Vals xs its.toList
def absV : Value → Option V
  | .none => some .non
  | .bool b => some (.bl b)
  | .int i _ => some (.int i)
  | .str x _ => some (.str x)
  | .bytes b _ => some (.byt b)
  | .float b _ => some (.flt b)
  | .ref a => some (.ref a)
  | .type n => some (.ty n)
  | _ => none
theorem RelV.abs {x : V} {u : Value} (r : RelV x u) : absV u = some x := by
  cases x with
  | non => cases r; rfl
  | bl _ => cases r; rfl
  | int _ => obtain ⟨t, rfl⟩ := r; rfl
  | str _ => obtain ⟨t, rfl⟩ := r; rfl
  | byt _ => obtain ⟨t, rfl⟩ := r; rfl
  | flt _ => obtain ⟨t, rfl⟩ := r; rfl
  | ref _ => cases r; rfl
  | ty _ => cases r; rfl
theorem RelV.inj {x y : V} {u : Value} (r : RelV x u) (q : RelV y u) : x = y := Option.some.inj (r.abs.symm.trans q.abs)
theorem Vals.inj : ∀ {xs ys : List V} {us : List Value}, Vals xs us → Vals ys us → xs = ys
  | _, _, _, .nil, .nil => rfl
  | _, _, _, .cons r t, .cons r' t' => by rw [r.inj r', Vals.inj t t']
section
variable {X : Cx} {pins : List (Addr × Obj)} {σ : St} {H : Hp} {s : Shared} {a : Addr} {xs ys : List V}
theorem SqL.of {K : PySem.W.Frag} (h : H a = some (.lst xs)) : SqL K H a xs := .inl (.inl h)
theorem SqT.of {K : PySem.W.Frag} (h : H a = some (.tup xs)) : SqT K H a xs := .inl (.inl h)
theorem Inv.list (I : Inv X pins σ H s) (h : SqL X.K H a xs) : ∃ its : List Value, Vals xs its ∧ PlainL s.heap a its.toArray ∧ xs.length ≤ sizeLine := by
  rcases h with h | ⟨o, its, n, hk, hc, hd, hs, hz, r⟩
  · obtain ⟨z, its, n, r, e⟩ := h.ok I.hok
    exact ⟨its, r, ⟨_, n, e, rfl, rfl, rfl⟩, z⟩
  · refine ⟨its.toList, r, ⟨o, n, I.kIn a o hk, hc, hd, by simpa using hs⟩, ?_⟩
    have e := r.length
    simp only [Array.length_toList] at e
    omega
theorem Inv.tuple (I : Inv X pins σ H s) (h : SqT X.K H a xs) : ∃ its : List Value, Vals xs its ∧ IsTup s.heap a its.toArray ∧ xs.length ≤ sizeLine := by
  rcases h with h | ⟨o, its, n, hk, hc, hs, hz, r⟩
  · obtain ⟨z, its, r, p, _⟩ := h.ok I.hok
    exact ⟨its, r, p, z⟩
  · refine ⟨its.toList, r, ⟨o, I.kIn a o hk, hc, n, by simpa using hs⟩, ?_⟩
    have e := r.length
    simp only [Array.length_toList] at e
    omega
theorem Inv.list_inj (I : Inv X pins σ H s) (h : SqL X.K H a xs) (h' : SqL X.K H a ys) : xs = ys := by
  obtain ⟨its, r, ⟨o, n, e, _, _, d⟩, _⟩ := I.list h
  obtain ⟨its', r', ⟨o', n', e', _, _, d'⟩, _⟩ := I.list h'
  rw [e] at e'; cases e'
  rw [d] at d'
  injection d' with d1 _
  have : its = its' := by simpa using congrArg Array.toList d1
  subst this
  exact r.inj r'
theorem Inv.tuple_inj (I : Inv X pins σ H s) (h : SqT X.K H a xs) (h' : SqT X.K H a ys) : xs = ys := by
  obtain ⟨its, r, ⟨o, e, _, n, d⟩, _⟩ := I.tuple h
  obtain ⟨its', r', ⟨o', e', _, n', d'⟩, _⟩ := I.tuple h'
  rw [e] at e'; cases e'
  rw [d] at d'
  injection d' with d1 _
  have : its = its' := by simpa using congrArg Array.toList d1
  subst this
  exact r.inj r'
end
abbrev Cx.wish (X : Cx) (E : Value → Shared → Prop) : Cx := { X with xe := E }
abbrev Cx.nox (X : Cx) : Cx := X.wish fun _ _ => False
theorem Cx.Ok.wish {X : Cx} (ok : X.Ok) (E : Value → Shared → Prop) : (X.wish E).Ok :=
  ⟨ok.mod, ok.kind, ok.glob, ok.blt, ok.above, ok.inj, ok.has, ok.cab, ok.hd, ok.frames, ok.stk, ok.exf, ok.bs, ok.bsz, ok.noex, ok.exfs, ok.funs, ok.frf⟩
theorem Cx.Ok.unwish {X : Cx} {E : Value → Shared → Prop} (ok : (X.wish E).Ok) : X.Ok :=
  ⟨ok.mod, ok.kind, ok.glob, ok.blt, ok.above, ok.inj, ok.has, ok.cab, ok.hd, ok.frames, ok.stk, ok.exf, ok.bs, ok.bsz, ok.noex, ok.exfs, ok.funs, ok.frf⟩
section
variable {X : Cx} {pins : List (Addr × Obj)} {σ : St} {H : Hp} {s : Shared} {E : Value → Shared → Prop}
theorem Inv.wish (I : Inv X pins σ H s) (E : Value → Shared → Prop) : Inv (X.wish E) pins σ H s := ⟨I.ok.wish E, I.os, I.bare, I.base, I.loc, I.cell, I.free, I.freeC, I.pin, I.hok, I.len⟩
theorem Inv.unwish (I : Inv (X.wish E) pins σ H s) : Inv X pins σ H s := ⟨I.ok.unwish, I.os, I.bare, I.base, I.loc, I.cell, I.free, I.freeC, I.pin, I.hok, I.len⟩
theorem SP.unwish {D : Ends} {f : Flow} {s' : Shared} (h : SP (X.wish E) pins D f s') : SP X pins D f s' := by
  cases f with
  | next => obtain ⟨σ', H', I, q⟩ := h; exact ⟨σ', H', I.unwish, q⟩
  | brk => obtain ⟨σ', H', I, q⟩ := h; exact ⟨σ', H', I.unwish, q⟩
  | cont => obtain ⟨σ', H', I, q⟩ := h; exact ⟨σ', H', I.unwish, q⟩
  | ret u => obtain ⟨v, σ', H', I, r, q⟩ := h; exact ⟨v, σ', H', I.unwish, r, q⟩
theorem PE.nox {e : Expr} {t : TE} (h : PE X.nox e t) : PE X e t := fun pins s σ H Q I hw =>
  wpAny_mono (h pins s σ H Q (I.wish _) hw) (fun _ _ ⟨v, H', I', r, q⟩ => ⟨v, H', I'.unwish, r, q⟩) fun _ _ z => False.elim z
theorem PT.nox {e : Expr} {t : TT} (h : PT X.nox e t) : PT X e t := fun pins s σ H Q I hw =>
  wpAny_mono (h pins s σ H Q (I.wish _) hw) (fun _ _ ⟨H', I', q⟩ => ⟨H', I'.unwish, q⟩) fun _ _ z => False.elim z
theorem PSs.nox {st : List Stmt} {t : TS} (h : PSs X.nox st t) : PSs X st t := fun pins s σ H D I hw =>
  wpAny_mono (h pins s σ H D (I.wish _) hw) (fun _ _ q => q.unwish) fun _ _ z => False.elim z
end
section
variable {X : Cx} {st : Stmt} {rest : List Stmt} {t u : TS} {e : Expr} {te : TE} {pos : Pos}
def tNext : TS := fun D σ H => D.nx σ H
def tSeq (t u : TS) : TS := fun D σ H => t { D with nx := u D } σ H
theorem pss_nil : PSs X [] tNext := fun _ _ σ H _ I h => wpAny_execs_nil ⟨σ, H, I, h⟩
theorem pss_cons (h1 : PS X st t) (h2 : PSs X rest u) : PSs X (st :: rest) (tSeq t u) := by
  intro pins s σ H D I h
  refine wpAny_execs_cons (thn (h1 pins s σ H { D with nx := u D } I h) fun f s1 q => ?_)
  cases f with
  | next =>
    obtain ⟨σ', H', I', q⟩ := q
    exact h2 pins s1 σ' H' D I' q
  | ret v => exact q
  | brk => exact q
  | cont => exact q
theorem pss_one (h1 : PS X st t) : PSs X [st] t := by
  intro pins s σ H D I h
  refine wpAny_execs_cons (thn (h1 pins s σ H D I h) fun f s1 q => ?_)
  cases f with
  | next => exact wpAny_execs_nil q
  | ret v => exact q
  | brk => exact q
  | cont => exact q
theorem Inv.quiet {pins : List (Addr × Obj)} {σ : St} {H : Hp} {s : Shared} (I : Inv X pins σ H s) : interactive X.env = false := by simp [interactive, I.ok.kind]
def tDrop (te : TE) : TS := fun D σ H => te σ H fun _ H1 => D.nx σ H1
theorem ps_expr (he : PE X e te) (hs : swapsWith e none pos.line X.env = pure false := by rfl) : PS X (.Expr e pos) (tDrop te) := by
  intro pins s σ H D I h
  exact wpAny_Expr_any (thn (he pins s σ H _ I h) fun v s1 ⟨x, H1, I1, r1, q1⟩ => ⟨σ, H1, I1, q1⟩) I.quiet hs
def tRet (te : TE) : TS := fun D σ H => te σ H D.rt
theorem ps_ret (he : PE X e te) : PS X (.Return (some e) pos) (tRet te) := by
  intro pins s σ H D I h
  exact wpAny_Return_some (thn (he pins s σ H _ I h) fun v s1 ⟨x, H1, I1, r1, q1⟩ => ⟨x, σ, H1, I1, r1, q1⟩)
def tIfS (c : TT) (t u : TS) : TS := fun D σ H => c σ H fun b H1 => if b = true then t D σ H1 else u D σ H1
theorem ps_if {c : Expr} {a b : List Stmt} {tc : TT} (hc : PT X c tc) (ha : PSs X a t) (hb : PSs X b u) : PS X (.If c a b pos) (tIfS tc t u) := by
  intro pins s σ H D I h
  refine wpAny_If (thn (hc pins s σ H _ I h) fun d s1 ⟨H1, I1, q1⟩ => ?_)
  cases d with
  | true => exact ha pins s1 σ H1 D I1 q1
  | false => exact hb pins s1 σ H1 D I1 q1
def tNever : TS := fun _ _ _ => False
theorem ps_never : PS X st tNever := fun _ _ _ _ _ _ h => h.elim
end
abbrev TG := V → St → Hp → (St → Hp → Prop) → Prop
abbrev TGs := List V → St → Hp → (St → Hp → Prop) → Prop
def PG (X : Cx) (target : Expr) (t : TG) : Prop :=
  ∀ (pins : List (Addr × Obj)) (s : Shared) (σ : St) (H : Hp) (v : V) (u : Value) (Q : St → Hp → Prop), Inv X pins σ H s → RelV v u → t v σ H Q →
    wpAny (model X.prog X.w) X.A (assign target X.env u) (fun _ s' => ∃ σ' H', Inv X pins σ' H' s' ∧ Q σ' H') X.xe s
def PGs (X : Cx) (ts : List Expr) (t : TGs) : Prop :=
  ∀ (pins : List (Addr × Obj)) (s : Shared) (σ : St) (H : Hp) (vs : List V) (us : List Value) (Q : St → Hp → Prop), Inv X pins σ H s → Vals vs us → t vs σ H Q →
    wpAny (model X.prog X.w) X.A (assignInOrder ((assignEach ts X.env).map (·.2)) us) (fun _ s' => ∃ σ' H', Inv X pins σ' H' s' ∧ Q σ' H') X.xe s
abbrev TSet := V → V → V → Hp → (Hp → Prop) → Prop
def PSet (X : Cx) (t : TSet) : Prop :=
  ∀ (pins : List (Addr × Obj)) (s : Shared) (σ : St) (H : Hp) (o i v : V) (ov iv u : Value) (Q : Hp → Prop), Inv X pins σ H s → RelV o ov → RelV i iv → RelV v u → t o i v H Q →
    wpAny (model X.prog X.w) X.A (setItem ov iv u) (fun _ s' => ∃ H', Inv X pins σ H' s' ∧ Q H') X.xe s
section
variable {X : Cx} {pos : Pos}
def gName (i : Nat) : TG := fun v σ H Q => Q (σ.set i (some v)) H
theorem pg_name {i : Nat} {x : Str} (hN : X.N.Nodup) (hi : X.N[i]? = some x) (hx : Loc X.env.scope x) (hf : X.fn x = true ∨ X.env.scope.names.lookup x = some .local := by first | exact .inl rfl | exact .inr rfl | assumption) : PG X (.Name x pos) (gName i) := by
  intro pins s σ H v u Q I r h
  exact wpAny_assign_Name (store_ok I hN hi hx r (fun s' I' => ⟨_, H, I', h⟩) hf)
def gNil : TGs := fun vs σ H Q => vs = [] ∧ Q σ H
def gCons (t : TG) (u : TGs) : TGs := fun vs σ H Q => ∃ v r, vs = v :: r ∧ t v σ H fun σ' H' => u r σ' H' Q
theorem pgs_nil : PGs X [] gNil := by
  intro pins s σ H vs us Q I r h
  obtain ⟨e, h⟩ := h
  subst e
  cases r
  exact assignInOrder_nil ⟨σ, H, I, h⟩
theorem pgs_cons {e : Expr} {es : List Expr} {t : TG} {u : TGs} (h1 : PG X e t) (h2 : PGs X es u)
    (hs : (assignEach (e :: es) X.env).map (·.2) = assign e X.env :: (assignEach es X.env).map (·.2) := by rfl) : PGs X (e :: es) (gCons t u) := by
  intro pins s σ H vs us Q I r h
  obtain ⟨v, vr, e1, h⟩ := h
  subst e1
  cases r with
  | cons r rr =>
    rw [hs]
    refine assignInOrder_cons (thn (h1 pins s σ H _ _ _ I r h) fun _ s1 ⟨σ1, H1, I1, q1⟩ => ?_)
    exact h2 pins s1 σ1 H1 _ _ Q I1 rr q1
def gTup (K : PySem.W.Frag) (n : Nat) (t : TGs) : TG := fun v σ H Q => ∃ a xs, v = .ref a ∧ SqT K H a xs ∧ xs.length = n ∧ t xs σ H Q
theorem pg_tup {es : List Expr} {k : Nat} {t : TGs} {n : Nat} (hc : X.calm = true) (h : PGs X es t)
    (hn : (assignEach es X.env).length = n := by rfl) (hst : (assignEach es X.env).findIdx? (·.1) = none := by rfl) : PG X (.Tuple es k pos) (gTup X.K n t) := by
  intro pins s σ H v u Q I r hw
  obtain ⟨a, xs, e1, hq, hl, hw⟩ := hw
  subst e1
  cases r
  obtain ⟨its, rv, ht, hz⟩ := I.tuple hq
  refine assign_Tuple_tuple (I.ok.hd hc) ht (by simp [hn, ← hl, rv.length]) hst fun h' hx => ?_
  have I1 : Inv X pins σ H { s with heap := h' } := I.kept (t' := s.toks) fun b o e => hx b o (Nat.ne_of_lt (Heap.lt_size e)) e
  exact h pins _ σ H xs _ Q I1 (by simpa using rv) hw
def gSub (to ti : TE) (t : TSet) : TG := fun v σ H Q => to σ H fun o H1 => ti σ H1 fun i H2 => t o i v H2 fun H3 => Q σ H3
theorem pg_sub {o i : Expr} {to ti : TE} {t : TSet} (ho : PE X o to) (hi : PE X i ti) (hs : PSet X t)
    (ha : ∀ v, assign (.Subscript o i pos) X.env v = (do
      let ov ← holding [v] (eval o X.env)
      let iv ← holding [v, ov] (eval i X.env)
      standAt pos
      holding [v, ov, iv] (setItem ov iv v)
      release [v, ov, iv] []) := by intro _; rfl) : PG X (.Subscript o i pos) (gSub to ti t) := by
  intro pins s σ H v u Q I r h
  rw [ha]
  refine wpAny_bind (wpAny_holding (thn (ho pins s σ H _ I h) fun ov s1 ⟨x, H1, I1, r1, q1⟩ => ?_))
  refine wpAny_bind (wpAny_holding (thn (hi pins s1 σ H1 _ I1 q1) fun iv s2 ⟨y, H2, I2, r2, q2⟩ => ?_))
  refine wpAny_bind (wpAny_standAt (wpAny_bind (wpAny_holding (thn (hs pins s2 σ H2 x y v ov iv u _ I2 r1 r2 r q2) fun _ s3 ⟨H3, I3, q3⟩ => ?_))))
  exact wpAny_release ⟨σ, H3, I3, q3⟩
def tAsg (te : TE) (g : TG) : TS := fun D σ H => te σ H fun x H1 => g x σ H1 D.nx
theorem ps_asg {tg e : Expr} {te : TE} {g : TG} (he : PE X e te) (hg : PG X tg g) (hs : swapsWithSole [tg] e pos.line X.env = pure false := by rfl) (hw : swappedStores [tg] e X.env = pure none := by rfl)
    (h1 : (assignEach [tg] X.env).map (·.2) = [assign tg X.env] := by rfl) : PS X (.Assign [tg] e pos) (tAsg te g) := by
  intro pins s σ H D I h
  refine wpAny_Assign_stores (thn (he pins s σ H _ I h) fun v s1 ⟨x, H1, I1, r1, q1⟩ => ?_) hs hw
  rw [h1]
  exact thn (hg pins s1 σ H1 x v _ I1 r1 q1) fun _ s2 q => q
theorem ps_set {i : Nat} {x : Str} {e : Expr} {te : TE} {pos' : Pos} (hN : X.N.Nodup) (hi : X.N[i]? = some x) (hx : Loc X.env.scope x) (he : PE X e te) (hs : swapsWith e (some (.Name x pos')) pos.line X.env = pure false := by rfl) (hf : X.fn x = true ∨ X.env.scope.names.lookup x = some .local := by first | exact .inl rfl | exact .inr rfl | assumption) :
    PS X (.Assign [.Name x pos'] e pos) (tAsg te (gName i)) := by
  intro pins s σ H D I h
  refine wpAny_Assign_Name (thn (he pins s σ H _ I h) fun v s1 ⟨y, H1, I1, r1, q1⟩ => ?_) hs
  exact store_ok I1 hN hi hx r1 (fun s2 I2 => ⟨_, H1, I2, q1⟩) hf
end
section
variable {X : Cx} {pos : Pos}
def tWhile (c : TT) (tb : TS) : TS := fun D σ H => ∃ W : Nat → St → Hp → Prop, (∃ m, W m σ H) ∧ ∀ m σ H, W m σ H →
  c σ H fun b H1 => if b = true then ∃ N : St → Hp → Prop, (∀ σ' H', N σ' H' → ∃ m', m' < m ∧ W m' σ' H') ∧ tb { D with nx := N, ct := N, bk := D.nx } σ H1 else D.nx σ H1
theorem ps_while {c : Expr} {body : List Stmt} {tc : TT} {tb : TS} (hp : PassesOwn (model X.prog X.w) X.A X.env X.xe) (hc : PT X c tc) (hb : PSs X body tb) : PS X (.While c body [] pos) (tWhile tc tb) := by
  intro pins s σ H D I h
  obtain ⟨W, ⟨m0, w0⟩, turn⟩ := h
  refine wpAny_While (codeAny_whileLoop (fun n s' => ∃ σ' H', Inv X pins σ' H' s' ∧ W n σ' H') ?_ m0 ⟨σ, H, I, w0⟩)
  rintro n s1 ⟨σ1, H1, I1, w1⟩
  refine wpAny_passesOwn hp (thn (hc pins s1 σ1 H1 _ I1 (turn n σ1 H1 w1)) fun b s2 ⟨H2, I2, q2⟩ => ?_)
  cases b with
  | true =>
    obtain ⟨N, hN, q2⟩ := q2
    rw [if_pos rfl]
    refine wpAny_passesOwn hp (thn (hb pins s2 σ1 H2 _ I2 q2) fun f s3 q3 => ?_)
    cases f with
    | next =>
      obtain ⟨σ3, H3, I3, n3⟩ := q3
      obtain ⟨m', hm, w3⟩ := hN σ3 H3 n3
      exact ⟨m', hm, σ3, H3, I3, w3⟩
    | cont =>
      obtain ⟨σ3, H3, I3, n3⟩ := q3
      obtain ⟨m', hm, w3⟩ := hN σ3 H3 n3
      exact ⟨m', hm, σ3, H3, I3, w3⟩
    | brk => exact q3
    | ret v => exact q3
  | false =>
    rw [if_neg Bool.false_ne_true]
    exact wpAny_execs_nil ⟨σ1, H2, I2, q2⟩
end
structure It where
  go : Nat → Hp → Prop
  yld : Nat → Hp → V → Hp → Prop
  stop : Nat → Hp → Prop
def FpOk (X : Cx) (pins : List (Addr × Obj)) (H : Hp) (b : Addr) : Prop :=
  H b = none ∧ b ≠ X.env.locals ∧ b ∉ X.fs ∧ (b ∈ X.ex ∨ X.s₀.heap.objs.size ≤ b) ∧ (∀ x c, X.env.cells.lookup x = some c → c ≠ b) ∧ ∀ p ∈ X.pn ++ pins, p.1 ≠ b
theorem Inv.fpOk {X : Cx} {pins : List (Addr × Obj)} {σ : St} {H H' : Hp} {s : Shared} {b : Addr} (I : Inv X pins σ H s) (hb : s.heap.objs.size ≤ b) (hn : H' b = none) : FpOk X pins H' b := by
  refine ⟨hn, Nat.ne_of_gt (Nat.lt_of_lt_of_le I.lt hb), I.nofs hb, .inr (Nat.le_trans I.sz hb), fun x c e z => ?_, fun p hp z => ?_⟩
  · obtain ⟨v, q⟩ := I.cell x c e
    exact absurd (Nat.lt_of_lt_of_le q.lt (by rw [z]; exact hb)) (Nat.lt_irrefl _)
  · exact absurd (Nat.lt_of_lt_of_le (Heap.lt_size (I.pin p hp).1) (by rw [z]; exact hb)) (Nat.lt_irrefl _)
structure Turn (P : Program) (w : World) (K : PySem.W.Frag) (tg : Expr) (J : It) (fp : List Addr) (it : Addr) (tn : Nat → Heap → Prop) : Prop where
  mem : it ∈ fp
  obj : ∀ i h, tn i h → ∀ b ∈ fp, ∃ o, h.get? b = some o ∧ ∀ v, o.data ≠ .cell v
  keep : ∀ i h h', tn i h → (∀ b ∈ fp, ∀ o, h.get? b = some o → h'.get? b = some o) → tn i h'
  item : ∀ (X : Cx), X.prog = P → X.w = w → X.K = K → X.calm = true → ∀ (i : Nat) (pins : List (Addr × Obj)) (s : Shared) (σ : St) (H : Hp) (E : Value → Shared → Prop), Inv X pins σ H s → (∀ b ∈ fp, FpOk X pins H b) → tn i s.heap → J.go i H →
    wpAny (model P w) X.A (pyNext (.ref it)) (fun r s1 => ∃ u, r = some u ∧
      wpAny (model P w) X.A (letOwnedTupleGo tg (.ref it) u) (fun _ s2 => ∃ x H', Inv X pins σ H' s2 ∧ RelV x u ∧ J.yld i H x H' ∧ tn (i + 1) s2.heap ∧ ∀ b ∈ fp, H' b = none) E s1) E s
  done : ∀ (X : Cx), X.prog = P → X.w = w → X.K = K → X.calm = true → ∀ (i : Nat) (pins : List (Addr × Obj)) (s : Shared) (σ : St) (H : Hp) (E : Value → Shared → Prop), Inv X pins σ H s → (∀ b ∈ fp, FpOk X pins H b) → tn i s.heap → J.stop i H →
    wpAny (model P w) X.A (pyNext (.ref it)) (fun r s1 => r = none ∧ Inv X pins σ H s1) E s
  self : ∀ (A : Around) (i : Nat) (s : Shared) (Q : Value → Shared → Prop) (E : Value → Shared → Prop), tn i s.heap → Q (.ref it) s → wpAny (model P w) A (pyIter (.ref it)) Q E s
abbrev TI := St → Hp → (It → Hp → Prop) → Prop
def PIE (X : Cx) (pins : List (Addr × Obj)) (σ : St) (tg : Expr) (R : It → Hp → Prop) (itv : Value) (s2 : Shared) : Prop :=
  ∃ (it : Addr) (fp : List Addr) (tn : Nat → Heap → Prop) (J : It) (H' : Hp), itv = .ref it ∧ Inv X pins σ H' s2 ∧ Turn X.prog X.w X.K tg J fp it tn ∧ tn 0 s2.heap ∧ (∀ b ∈ fp, FpOk X pins H' b) ∧ R J H'
def PI (X : Cx) (tg iter : Expr) (wi : TI) : Prop :=
  ∀ (pins : List (Addr × Obj)) (s : Shared) (σ : St) (H : Hp) (R : It → Hp → Prop), Inv X pins σ H s → wi σ H R →
    wpAny (model X.prog X.w) X.A (eval iter X.env) (fun v s1 => wpAny (model X.prog X.w) X.A (pyIter v) (PIE X pins σ tg R) X.xe s1) X.xe s
theorem go_of {M : Model} {A : Around} {E : Value → Shared → Prop} {s : Shared} {tg : Expr} {it : Addr} {u : Value} {o : Obj} {n : String} {vs : Array Value} {Q : Unit → Shared → Prop} (ho : s.heap.get? it = some o) (hc : o.cls = .type n) (hd : o.data = .fields vs)
    (hn : ["enumerate", "zip", "dict_itemiterator", "dict_reverseitemiterator", "odict_iterator", "itertools.zip_longest", "itertools.pairwise"].contains n = false) (hQ : Q () s) : wpAny M A (letOwnedTupleGo tg (.ref it) u) Q E s := by
  unfold letOwnedTupleGo
  cases tg <;> first
    | exact wpAny_pure hQ
    | (cases u <;> first
        | exact wpAny_pure hQ
        | (refine wpAny_bind (wpAny_load ho ?_)
           rw [hc, hd]
           show wpAny M A (if (["enumerate", "zip", "dict_itemiterator", "dict_reverseitemiterator", "odict_iterator", "itertools.zip_longest", "itertools.pairwise"].contains n && vs[0]? == some (rawInt _)) = true then _ else _) Q E s
           rw [if_neg (by intro h; rw [hn, Bool.false_and] at h; cases h)]
           exact wpAny_pure hQ))
def Itl (K : PySem.W.Frag) (a : Addr) : It :=
  ⟨fun i H => ∃ xs x, SqL K H a xs ∧ xs[i]? = some x, fun i H x H' => H' = H ∧ ∀ xs, SqL K H a xs → xs[i]? = some x, fun i H => ∃ xs, SqL K H a xs ∧ xs.length ≤ i⟩
def Itt (K : PySem.W.Frag) (a : Addr) : It :=
  ⟨fun i H => ∃ xs x, SqT K H a xs ∧ xs[i]? = some x, fun i H x H' => H' = H ∧ ∀ xs, SqT K H a xs → xs[i]? = some x, fun i H => ∃ xs, SqT K H a xs ∧ xs.length ≤ i⟩
def Itr (lo : Int) (n : Nat) : It := ⟨fun i _ => i < n, fun i H x H' => H' = H ∧ x = .int (lo + i), fun i _ => n ≤ i⟩
theorem turn_list {P : Program} {w : World} {K : PySem.W.Frag} {tg : Expr} (a it : Addr) : Turn P w K tg (Itl K a) [it] it (fun i h => h.IsListIter it a i) where
  mem := by simp
  obj := fun i h st b hb => by
    have e : b = it := by simpa using hb
    subst e
    obtain ⟨o, e, c, d⟩ := st
    exact ⟨o, e, fun v z => by rw [d] at z; cases z⟩
  keep := fun i h h' st k => st.at fun o e => k it (by simp) o e
  item := by
    intro X hP hw hK hc i pins s σ H E I hf st hg
    subst hP hw hK
    obtain ⟨xs, x, hq, hx⟩ := hg
    obtain ⟨its, rv, p, hz⟩ := I.list hq
    obtain ⟨u, hu, ru⟩ := rv.get hx
    obtain ⟨f0, f1, f2, f3, f4, f5⟩ := hf it (by simp)
    refine wpAny_pyNext_list_item st p.isList (x := u) (by simpa using hu) fun h' st' sb => ?_
    have I1 : Inv X pins σ H { s with heap := h' } := I.turned (t' := s.toks) (fun b o hb e => (sb.2 b hb).trans e) f0 f1 f3 f4 f5
    obtain ⟨o, e, c, d⟩ := id st'
    exact ⟨u, rfl, go_of (s := { s with heap := h' }) e c d (by decide) ⟨x, H, I1, ru, ⟨rfl, fun ys hy => by rw [I.list_inj hy hq]; exact hx⟩, st', fun b hb => (hf b hb).1⟩⟩
  done := by
    intro X hP hw hK hc i pins s σ H E I hf st hg
    subst hP hw hK
    obtain ⟨xs, hq, hx⟩ := hg
    obtain ⟨its, rv, p, hz⟩ := I.list hq
    obtain ⟨f0, f1, f2, f3, f4, f5⟩ := hf it (by simp)
    have hl := rv.length
    exact wpAny_pyNext_list_end (I.ok.hd hc) st p.isList (by simp; omega) fun h' eb => ⟨rfl, I.turned (t' := s.toks) (fun b o hb e => eb b o hb e) f0 f1 f3 f4 f5⟩
  self := fun _ _ _ _ _ st h => wpAny_pyIter_listiter st h
theorem turn_tuple {P : Program} {w : World} {K : PySem.W.Frag} {tg : Expr} (a it : Addr) : Turn P w K tg (Itt K a) [it] it (fun i h => h.IsTupleIter it a i) where
  mem := by simp
  obj := fun i h st b hb => by
    have e : b = it := by simpa using hb
    subst e
    obtain ⟨o, e, c, d⟩ := st
    exact ⟨o, e, fun v z => by rw [d] at z; cases z⟩
  keep := fun i h h' st k => st.at fun o e => k it (by simp) o e
  item := by
    intro X hP hw hK hc i pins s σ H E I hf st hg
    subst hP hw hK
    obtain ⟨xs, x, hq, hx⟩ := hg
    obtain ⟨its, rv, p, hz⟩ := I.tuple hq
    obtain ⟨u, hu, ru⟩ := rv.get hx
    obtain ⟨f0, f1, f2, f3, f4, f5⟩ := hf it (by simp)
    refine wpAny_pyNext_tuple_item st (show s.heap.IsTuple a its.toArray from p) (x := u) (by simpa using hu) fun h' st' sb => ?_
    have I1 : Inv X pins σ H { s with heap := h' } := I.turned (t' := s.toks) (fun b o hb e => (sb.2 b hb).trans e) f0 f1 f3 f4 f5
    obtain ⟨o, e, c, d⟩ := id st'
    exact ⟨u, rfl, go_of (s := { s with heap := h' }) e c d (by decide) ⟨x, H, I1, ru, ⟨rfl, fun ys hy => by rw [I.tuple_inj hy hq]; exact hx⟩, st', fun b hb => (hf b hb).1⟩⟩
  done := by
    intro X hP hw hK hc i pins s σ H E I hf st hg
    subst hP hw hK
    obtain ⟨xs, hq, hx⟩ := hg
    obtain ⟨its, rv, p, hz⟩ := I.tuple hq
    obtain ⟨f0, f1, f2, f3, f4, f5⟩ := hf it (by simp)
    have hl := rv.length
    exact wpAny_pyNext_tuple_end (I.ok.hd hc) st (show s.heap.IsTuple a its.toArray from p) (by simp; omega) fun h' eb => ⟨rfl, I.turned (t' := s.toks) (fun b o hb e => eb b o hb e) f0 f1 f3 f4 f5⟩
  self := fun _ _ _ _ _ st h => wpAny_pyIter_tupleiter st h
theorem turn_range {P : Program} {w : World} {K : PySem.W.Frag} {tg : Expr} (it : Addr) (lo : Int) (n : Nat) : Turn P w K tg (Itr lo n) [it] it (fun i h => IsRangeIter h it (lo + (i : Nat) * 1) ((n : Int) - (i : Nat)) 1) where
  mem := by simp
  obj := fun i h st b hb => by
    have e : b = it := by simpa using hb
    subst e
    exact ⟨_, st, fun v z => by
      have z' : Data.fields _ = Data.cell v := z
      cases z'⟩
  keep := fun i h h' st k => k it (by simp) _ st
  item := by
    intro X hP hw hK hc i pins s σ H E I hf st hg
    subst hP hw hK
    obtain ⟨f0, f1, f2, f3, f4, f5⟩ := hf it (by simp)
    have W := Walks.range (prog := X.prog) (w := X.w) (I.ok.hd hc) it lo 1 n
    refine W.item i s _ _ hg st fun v h' tk hv st' kk => ?_
    obtain ⟨t, rfl⟩ := hv
    have I1 : Inv X pins σ H { s with heap := h', toks := tk } := I.turned (fun b o hb e => kk b o (by simpa using hb) e) f0 f1 f3 f4 f5
    refine ⟨_, rfl, go_of (s := { s with heap := h', toks := tk }) (n := "range_iterator") st' rfl rfl (by decide) ⟨.int (lo + i), H, I1, ⟨t, ?_⟩, ⟨rfl, rfl⟩, st', fun b hb => (hf b hb).1⟩⟩
    rw [Int.mul_one]
  done := by
    intro X hP hw hK hc i pins s σ H E I hf st hg
    subst hP hw hK
    obtain ⟨f0, f1, f2, f3, f4, f5⟩ := hf it (by simp)
    exact wpAny_pyNext_range_end (I.ok.hd hc) st (by have : n ≤ i := hg; omega) fun h' eb => ⟨rfl, I.turned (t' := s.toks) (fun b o hb e => eb b o hb e) f0 f1 f3 f4 f5⟩
  self := fun _ _ _ _ _ st h => wpAny_pyIter_rangeiter st h
end L2

namespace L2
open PySem PySem.Spec PyProof.Rows
section
variable {X : Cx} {tg : Expr}
def iList (K : PySem.W.Frag) (tl : TE) : TI := fun σ H R => tl σ H fun x H1 => ∃ a, x = .ref a ∧ (∃ xs, SqL K H1 a xs) ∧ R (Itl K a) H1
def iTup (K : PySem.W.Frag) (tl : TE) : TI := fun σ H R => tl σ H fun x H1 => ∃ a, x = .ref a ∧ (∃ xs, SqT K H1 a xs) ∧ R (Itt K a) H1
theorem pi_list {l : Expr} {tl : TE} (hl : PE X l tl) : PI X tg l (iList X.K tl) := by
  intro pins s σ H R I h
  refine thn (hl pins s σ H _ I h) fun v s1 ⟨x, H1, I1, r1, q1⟩ => ?_
  obtain ⟨a, e, ⟨xs, hq⟩, q⟩ := q1
  subst e
  cases r1
  obtain ⟨its, rv, p, hz⟩ := I1.list hq
  refine wpAny_pyIter_list p.isList ?_
  refine ⟨s1.heap.objs.size, [s1.heap.objs.size], _, _, H1, rfl, I1.kept (t' := s1.toks) fun b o e => Heap.get?_push_of_some _ e, turn_list a _, ⟨_, Heap.get?_push_size _ rfl, rfl, rfl⟩, fun b hb => ?_, q⟩
  have e : b = s1.heap.objs.size := by simpa using hb
  subst e
  exact I1.fpOk (Nat.le_refl _) (I1.hok.fresh (Nat.le_refl _))
theorem pi_tup {l : Expr} {tl : TE} (hl : PE X l tl) : PI X tg l (iTup X.K tl) := by
  intro pins s σ H R I h
  refine thn (hl pins s σ H _ I h) fun v s1 ⟨x, H1, I1, r1, q1⟩ => ?_
  obtain ⟨a, e, ⟨xs, hq⟩, q⟩ := q1
  subst e
  cases r1
  obtain ⟨its, rv, p, hz⟩ := I1.tuple hq
  refine wpAny_pyIter_tuple (show s1.heap.IsTuple a its.toArray from p) ?_
  refine ⟨s1.heap.objs.size, [s1.heap.objs.size], _, _, H1, rfl, I1.kept (t' := s1.toks) fun b o e => Heap.get?_push_of_some _ e, turn_tuple a _, ⟨_, Heap.get?_push_size _ rfl, rfl, rfl⟩, fun b hb => ?_, q⟩
  have e : b = s1.heap.objs.size := by simpa using hb
  subst e
  exact I1.fpOk (Nat.le_refl _) (I1.hok.fresh (Nat.le_refl _))
theorem range_it {pins : List (Addr × Obj)} {σ : St} {H : Hp} {s : Shared} {R : It → Hp → Prop} {E : Value → Shared → Prop} {lo hi : Int} {t u v : Tok} {tk : Nat} (I : Inv X pins σ H s) (h1 : -(2 ^ 62) ≤ lo) (h2 : lo < 2 ^ 62) (h3 : -(2 ^ 62) ≤ hi) (h4 : hi < 2 ^ 62)
    (q : R (Itr lo (hi - lo).toNat) H) : wpAny (model X.prog X.w) X.A (pyIter (.ref s.heap.objs.size)) (PIE X pins σ tg R) E { s with heap := s.heap.push { cls := .type "range", data := .fields #[.int lo t, .int hi u, .int 1 v] }, toks := tk } := by
  refine wpAny_pyIter_range (IsRange.new ..) (small_one h1 h2 h3 h4) ?_
  have I1 : Inv X pins σ H { s with heap := s.heap.push { cls := .type "range", data := .fields #[.int lo t, .int hi u, .int 1 v] }, toks := tk } := I.kept fun b o e => Heap.get?_push_of_some _ e
  refine ⟨(s.heap.push { cls := .type "range", data := .fields #[.int lo t, .int hi u, .int 1 v] }).objs.size, [(s.heap.push { cls := .type "range", data := .fields #[.int lo t, .int hi u, .int 1 v] }).objs.size], _, _, H, rfl,
    I1.kept (t' := tk) fun b o e => Heap.get?_push_of_some _ e, turn_range _ lo (hi - lo).toNat, ?_, fun b hb => ?_, q⟩
  · have e1 : lo + ((0 : Nat) : Int) * 1 = lo := by simp
    have e2 : (((hi - lo).toNat : Nat) : Int) - ((0 : Nat) : Int) = Builtin.Range.rangeSize lo hi 1 := by rw [rangeSize_one]; split <;> omega
    show IsRangeIter _ _ (lo + ((0 : Nat) : Int) * 1) ((((hi - lo).toNat : Nat) : Int) - ((0 : Nat) : Int)) 1
    rw [e1, e2]
    exact Heap.get?_push_size _ rfl
  · have e : b = (s.heap.push { cls := .type "range", data := .fields #[.int lo t, .int hi u, .int 1 v] }).objs.size := by simpa using hb
    subst e
    exact I1.fpOk (Nat.le_refl _) (I1.hok.fresh (Nat.le_refl _))
def iRng1 (ta : TA) : TI := fun σ H R => ta σ H fun vs H1 => ∃ j : Int, vs = [.int j] ∧ -(2 ^ 62) ≤ j ∧ j < 2 ^ 62 ∧ R (Itr 0 j.toNat) H1
def iRng2 (ta : TA) : TI := fun σ H R => ta σ H fun vs H1 => ∃ i j : Int, vs = [.int i, .int j] ∧ (-(2 ^ 62) ≤ i ∧ i < 2 ^ 62 ∧ -(2 ^ 62) ≤ j ∧ j < 2 ^ 62) ∧ R (Itr i (j - i).toNat) H1
theorem pi_range1 {a : Expr} {ta : TA} {p pos : Pos} (hg : Gl X "range") (hm : X.mg "range" = none) (ha : PA X [a] ta) (hs : starEach [a] X.env = [(false, eval a X.env)] := by rfl) : PI X tg (.Call (.Name "range" p) [a] [] pos) (iRng1 ta) := by
  intro pins s σ H R I h
  refine Call_ (ld_blt I hg hm boot_range (PyProof.Rows.callWith_type1 (thn (ha pos pins s σ H _ I h) fun us s1 ⟨vs, H1, I1, r1, q1⟩ => ?_) hs rfl))
  obtain ⟨j, e, q1, q2, q⟩ := q1
  subst e
  cases r1 with
  | cons r rr =>
    cases rr
    obtain ⟨t, rfl⟩ := r
    exact call_range_1 (range_it I1 (by omega) (by omega) q1 q2 (by simpa using q))
theorem pi_range2 {a b : Expr} {ta : TA} {p pos : Pos} (hg : Gl X "range") (hm : X.mg "range" = none) (ha : PA X [a, b] ta) (hs : starEach [a, b] X.env = [(false, eval a X.env), (false, eval b X.env)] := by rfl) (hs2 : starEach [b] X.env = [(false, eval b X.env)] := by rfl) :
    PI X tg (.Call (.Name "range" p) [a, b] [] pos) (iRng2 ta) := by
  intro pins s σ H R I h
  refine Call_ (ld_blt I hg hm boot_range (PyProof.Rows.callWith_type1 (thn (ha pos pins s σ H _ I h) fun us s1 ⟨vs, H1, I1, r1, q1⟩ => ?_) (by rw [hs, hs2]) (by rw [hs2]; rfl)))
  obtain ⟨i, j, e, ⟨q1, q2, q3, q4⟩, q⟩ := q1
  subst e
  cases r1 with
  | cons r rr =>
    cases rr with
    | cons r' rr =>
      cases rr
      obtain ⟨t, rfl⟩ := r
      obtain ⟨t', rfl⟩ := r'
      exact call_range_2 (range_it I1 q1 q2 q3 q4 q)
def tFor (wi : TI) (g : TG) (tb : TS) : TS := fun D σ H => wi σ H fun J H1 => ∃ W : Nat → Nat → St → Hp → Prop, (∃ m, W 0 m σ H1) ∧ ∀ i m σ H, W i m σ H →
  (J.stop i H ∧ D.nx σ H) ∨ (J.go i H ∧ ∃ N : St → Hp → Prop, (∀ σ' H', N σ' H' → ∃ m', m' < m ∧ W (i + 1) m' σ' H') ∧ ∀ x H', J.yld i H x H' → g x σ H' fun σ2 H2 => tb { D with nx := N, ct := N, bk := D.nx } σ2 H2)
def pinsAt (fp : List Addr) (h : Heap) : List (Addr × Obj) := fp.filterMap fun b => (h.get? b).map fun o => (b, o)
theorem mem_pinsAt {fp : List Addr} {h : Heap} {b : Addr} {o : Obj} (hb : b ∈ fp) (e : h.get? b = some o) : (b, o) ∈ pinsAt fp h := List.mem_filterMap.mpr ⟨b, hb, by rw [e]; rfl⟩
theorem of_pinsAt {fp : List Addr} {h : Heap} {p : Addr × Obj} (hp : p ∈ pinsAt fp h) : p.1 ∈ fp ∧ h.get? p.1 = some p.2 := by
  obtain ⟨b, hb, e⟩ := List.mem_filterMap.mp hp
  cases q : h.get? b with
  | none => rw [q] at e; cases e
  | some o =>
    rw [q] at e
    have e' : (b, o) = p := Option.some.inj e
    subst e'
    exact ⟨hb, q⟩
theorem Inv.pinned {pins : List (Addr × Obj)} {σ : St} {H : Hp} {s : Shared} {fp : List Addr} (I : Inv X pins σ H s) (hf : ∀ b ∈ fp, FpOk X pins H b) (ho : ∀ b ∈ fp, ∃ o, s.heap.get? b = some o ∧ ∀ v, o.data ≠ .cell v) : Inv X (pins ++ pinsAt fp s.heap) σ H s :=
  I.pins_of fun p hp => (List.mem_append.mp hp).elim (fun z => I.pin p (List.mem_append_right _ z)) fun z => by
    obtain ⟨hb, e⟩ := of_pinsAt z
    obtain ⟨f0, f1, f2, _⟩ := hf p.1 hb
    obtain ⟨o, e', d⟩ := ho p.1 hb
    rw [e] at e'; cases e'
    exact ⟨e, f0, f1, f2, d⟩
theorem Inv.unpinned {pins pl : List (Addr × Obj)} {σ : St} {H : Hp} {s : Shared} (I : Inv X (pins ++ pl) σ H s) : Inv X pins σ H s := I.pins_of fun p hp => I.pin p (List.mem_append_right _ (List.mem_append_left _ hp))
theorem ps_for {iter : Expr} {body : List Stmt} {wi : TI} {g : TG} {tb : TS} {pos : Pos} (hp : PassesOwn (model X.prog X.w) X.A X.env X.xe) (hc : X.calm = true) (hi : PI X tg iter wi) (hg : PG X tg g) (hb : PSs X body tb)
    (hs : ∀ x, foldedSetIterable iter X.env x = pure x := by intro _; rfl) : PS X (.For tg iter body [] pos) (tFor wi g tb) := by
  intro pins s σ H D I h
  refine wpAny_For (thn (hi pins s σ H _ I h) fun v s1 h1 => thn h1 fun itv s2 h2 => ?_) hs
  obtain ⟨it, fp, tn, J, H2, e, I2, T, st2, f2, W, ⟨m0, w0⟩, turn⟩ := h2
  subst e
  -- what stays true of the iterator's objects through the loop
  have stat : ∀ {H' : Hp}, (∀ b ∈ fp, H' b = none) → ∀ b ∈ fp, FpOk X pins H' b := fun hn b hb => ⟨hn b hb, (f2 b hb).2⟩
  refine codeAny_forLoop_any (fun n s' => ∃ i σ' H', Inv X pins σ' H' s' ∧ tn i s'.heap ∧ (∀ b ∈ fp, H' b = none) ∧ W i n σ' H') ?_ m0 ⟨0, σ, H2, I2, st2, fun b hb => (f2 b hb).1, w0⟩
  rintro n s3 ⟨i, σ3, H3, I3, st3, fr3, w3⟩
  rcases turn i n σ3 H3 w3 with ⟨stop, qn⟩ | ⟨go, N, hN, step⟩
  · refine wpAny_passesOwn hp (thn (T.done X rfl rfl rfl hc i pins s3 σ3 H3 X.xe I3 (stat fr3) st3 stop) fun r s4 ⟨hr, I4⟩ => ?_)
    subst hr
    exact wpAny_execs_nil ⟨σ3, H3, I4, qn⟩
  · refine wpAny_passesOwn hp (thn (T.item X rfl rfl rfl hc i pins s3 σ3 H3 X.xe I3 (stat fr3) st3 go) fun r s4 ⟨u, hr, h4⟩ => ?_)
    subst hr
    refine wpAny_passesOwn hp (thn h4 fun _ s5 ⟨x, H5, I5, r5, y5, st5, fr5⟩ => ?_)
    have I5' := I5.pinned (stat fr5) (T.obj _ _ st5)
    refine wpAny_passesOwn hp (thn (hg _ s5 σ3 H5 x u _ I5' r5 (step x H5 y5)) fun _ s6 ⟨σ6, H6, I6, q6⟩ => ?_)
    refine wpAny_passesOwn hp (thn (hb _ s6 σ6 H6 _ I6 q6) fun f s7 q7 => ?_)
    have again : ∀ {σ7 : St} {H7 : Hp}, Inv X (pins ++ pinsAt fp s5.heap) σ7 H7 s7 → N σ7 H7 → ∃ m, m < n ∧ ∃ i σ' H', Inv X pins σ' H' s7 ∧ tn i s7.heap ∧ (∀ b ∈ fp, H' b = none) ∧ W i m σ' H' := fun {σ7 H7} I7 n7 => by
      obtain ⟨m', hm, w7⟩ := hN σ7 H7 n7
      refine ⟨m', hm, i + 1, σ7, H7, I7.unpinned, T.keep _ _ _ st5 fun b hb o e => (I7.pin (b, o) (List.mem_append_right _ (List.mem_append_right _ (mem_pinsAt hb e)))).1, fun b hb => ?_, w7⟩
      obtain ⟨o, e, d⟩ := T.obj _ _ st5 b hb
      exact (I7.pin (b, o) (List.mem_append_right _ (List.mem_append_right _ (mem_pinsAt hb e)))).2.1
    cases f with
    | next => obtain ⟨σ7, H7, I7, n7⟩ := q7; exact again I7 n7
    | cont => obtain ⟨σ7, H7, I7, n7⟩ := q7; exact again I7 n7
    | brk => obtain ⟨σ7, H7, I7, q7⟩ := q7; exact ⟨σ7, H7, I7.unpinned, q7⟩
    | ret v => obtain ⟨x7, σ7, H7, I7, r7, q7⟩ := q7; exact ⟨x7, σ7, H7, I7.unpinned, r7, q7⟩
end
theorem for_list {K : PySem.W.Frag} {a : Addr} {xs : List V} {g : TG} {tb : TS} {D : Ends} {σ : St} {H : Hp} (Pv : Nat → St → Hp → Prop) (h0 : Pv 0 σ H) (hl : ∀ i σ H, i ≤ xs.length → Pv i σ H → SqL K H a xs)
    (hs : ∀ i x σ H, xs[i]? = some x → Pv i σ H → g x σ H fun σ2 H2 => tb { D with nx := Pv (i + 1), ct := Pv (i + 1), bk := D.nx } σ2 H2) (hd : ∀ σ H, Pv xs.length σ H → D.nx σ H) :
    ∃ W : Nat → Nat → St → Hp → Prop, (∃ m, W 0 m σ H) ∧ ∀ i m σ H, W i m σ H →
      ((Itl K a).stop i H ∧ D.nx σ H) ∨ ((Itl K a).go i H ∧ ∃ N : St → Hp → Prop, (∀ σ' H', N σ' H' → ∃ m', m' < m ∧ W (i + 1) m' σ' H') ∧ ∀ x H', (Itl K a).yld i H x H' → g x σ H' fun σ2 H2 => tb { D with nx := N, ct := N, bk := D.nx } σ2 H2) := by
  refine ⟨fun i m σ H => m = xs.length - i ∧ i ≤ xs.length ∧ Pv i σ H, ⟨xs.length, by simp, Nat.zero_le _, h0⟩, ?_⟩
  rintro i m σ H ⟨rfl, hi, p⟩
  have q := hl i σ H hi p
  by_cases hlt : i < xs.length
  · refine .inr ⟨⟨xs, xs[i], q, by simp [hlt]⟩, Pv (i + 1), fun σ' H' p' => ⟨xs.length - (i + 1), by omega, rfl, hlt, p'⟩, fun x H' y => ?_⟩
    obtain ⟨e, y⟩ := y
    subst e
    exact hs i x σ _ (y xs q) p
  · have e : i = xs.length := by omega
    subst e
    exact .inl ⟨⟨xs, q, Nat.le_refl _⟩, hd σ H p⟩
theorem for_range {lo : Int} {n : Nat} {g : TG} {tb : TS} {D : Ends} {σ : St} {H : Hp} (Pv : Nat → St → Hp → Prop) (h0 : Pv 0 σ H)
    (hs : ∀ i σ H, i < n → Pv i σ H → g (.int (lo + i)) σ H fun σ2 H2 => tb { D with nx := Pv (i + 1), ct := Pv (i + 1), bk := D.nx } σ2 H2) (hd : ∀ σ H, Pv n σ H → D.nx σ H) :
    ∃ W : Nat → Nat → St → Hp → Prop, (∃ m, W 0 m σ H) ∧ ∀ i m σ H, W i m σ H →
      ((Itr lo n).stop i H ∧ D.nx σ H) ∨ ((Itr lo n).go i H ∧ ∃ N : St → Hp → Prop, (∀ σ' H', N σ' H' → ∃ m', m' < m ∧ W (i + 1) m' σ' H') ∧ ∀ x H', (Itr lo n).yld i H x H' → g x σ H' fun σ2 H2 => tb { D with nx := N, ct := N, bk := D.nx } σ2 H2) := by
  refine ⟨fun i m σ H => m = n - i ∧ i ≤ n ∧ Pv i σ H, ⟨n, by simp, Nat.zero_le _, h0⟩, ?_⟩
  rintro i m σ H ⟨rfl, hi, p⟩
  by_cases hlt : i < n
  · refine .inr ⟨hlt, Pv (i + 1), fun σ' H' p' => ⟨n - (i + 1), by omega, rfl, hlt, p'⟩, fun x H' y => ?_⟩
    obtain ⟨e, y⟩ := y
    subst e y
    exact hs i σ _ hlt p
  · have e : i = n := by omega
    subst e
    exact .inl ⟨Nat.le_refl _, hd σ H p⟩
end L2

namespace L2
open PySem PySem.Spec PyProof.Rows

abbrev R2 := V → V → Hp → VK → Prop
def OpR (X : Cx) (f : Value → Value → Sem Value) (r : R2) : Prop :=
  ∀ (pins : List (Addr × Obj)) (s : Shared) (σ : St) (H : Hp) (x y : V) (v u : Value) (Q : VK), Inv X pins σ H s → RelV x v → RelV y u → r x y H Q →
    wpAny (model X.prog X.w) X.A (f v u) (EP X pins σ Q) X.xe s
def CallR (X : Cx) (f : Value) (r : List V → Hp → VK → Prop) : Prop :=
  ∀ (pins : List (Addr × Obj)) (s : Shared) (σ : St) (H : Hp) (xs : List V) (us : List Value) (Q : VK), Inv X pins σ H s → Vals xs us → r xs H Q →
    wpAny (model X.prog X.w) X.A (call f us) (EP X pins σ Q) X.xe s
def tOp (r : R2) (ta tb : TE) : TE := fun σ H Q => ta σ H fun x H1 => tb σ H1 fun y H2 => r x y H2 Q
def rI (C : Int → Int → Prop) (g : Int → Int → V) : R2 := fun x y H Q => ∃ i j, x = .int i ∧ y = .int j ∧ C i j ∧ Q (g i j) H
def rI0 (g : Int → Int → V) : R2 := fun x y H Q => ∃ i j, x = .int i ∧ y = .int j ∧ Q (g i j) H
section
variable {X : Cx} {a b c : Expr} {ta tb tc : TE} {pos : Pos}

theorem binT (ha : PE X a ta) (hb : PE X b tb) {pins : List (Addr × Obj)} {s : Shared} {σ : St} {H : Hp} {R : V → V → Hp → Prop} (I : Inv X pins σ H s)
    (h : ta σ H fun x H1 => tb σ H1 fun y H2 => R x y H2) {Q : Value → Shared → Prop} {f : Value → Value → Sem Value}
    (hf : ∀ v u s2 x y H2, Inv X pins σ H2 s2 → RelV x v → RelV y u → R x y H2 → wpAny (model X.prog X.w) X.A (f v u) Q X.xe s2) :
    wpAny (model X.prog X.w) X.A (eval a X.env) (fun v s₁ => wpAny (model X.prog X.w) X.A (eval b X.env) (fun u s₂ => wpAny (model X.prog X.w) X.A (f v u) Q X.xe s₂) X.xe s₁) X.xe s := by
  refine thn (ha pins s σ H _ I h) fun v s1 ⟨x, H1, I1, r1, q1⟩ => ?_
  refine thn (hb pins s1 σ H1 _ I1 q1) fun u s2 ⟨y, H2, I2, r2, q2⟩ => ?_
  exact hf v u s2 x y H2 I2 r1 r2 q2

theorem pe_op {op : Operator} {r : R2} (ho : OpR X (binaryOp op) r) (ha : PE X a ta) (hb : PE X b tb) : PE X (.BinOp a op b pos) (tOp r ta tb) := by
  intro pins s σ H Q I h
  exact wpAny_BinOp (binT ha hb I h fun v u s2 x y H2 I2 rx ry q => ho pins s2 σ H2 x y v u Q I2 rx ry q)
theorem opI {f : Value → Value → Sem Value} {C : Int → Int → Prop} {g : Int → Int → Int}
    (rule : ∀ (i j : Int) (t u : Tok) (s : Shared) (Q : Value → Shared → Prop) (E : Value → Shared → Prop), C i j → Q (.int (g i j) s.toks) { s with toks := s.toks + 1 } → wpAny (model X.prog X.w) X.A (f (.int i t) (.int j u)) Q E s) :
    OpR X f (rI C fun i j => .int (g i j)) := by
  intro pins s σ H x y v u Q I rx ry h
  obtain ⟨i, j, rfl, rfl, hc, q⟩ := h
  obtain ⟨t, rfl⟩ := rx
  obtain ⟨t', rfl⟩ := ry
  exact rule i j t t' s _ _ hc ⟨.int (g i j), H, I.tok _, ⟨_, rfl⟩, q⟩
theorem opI0 {f : Value → Value → Sem Value} {g : Int → Int → Int}
    (rule : ∀ (i j : Int) (t u : Tok) (s : Shared) (Q : Value → Shared → Prop) (E : Value → Shared → Prop), Q (.int (g i j) s.toks) { s with toks := s.toks + 1 } → wpAny (model X.prog X.w) X.A (f (.int i t) (.int j u)) Q E s) :
    OpR X f (rI0 fun i j => .int (g i j)) := by
  intro pins s σ H x y v u Q I rx ry h
  obtain ⟨i, j, rfl, rfl, q⟩ := h
  obtain ⟨t, rfl⟩ := rx
  obtain ⟨t', rfl⟩ := ry
  exact rule i j t t' s _ _ ⟨.int (g i j), H, I.tok _, ⟨_, rfl⟩, q⟩
theorem opB0 {f : Value → Value → Sem Value} {g : Int → Int → Bool}
    (rule : ∀ (i j : Int) (t u : Tok) (s : Shared) (Q : Value → Shared → Prop) (E : Value → Shared → Prop), Q (.bool (g i j)) s → wpAny (model X.prog X.w) X.A (f (.int i t) (.int j u)) Q E s) :
    OpR X f (rI0 fun i j => .bl (g i j)) := by
  intro pins s σ H x y v u Q I rx ry h
  obtain ⟨i, j, rfl, rfl, q⟩ := h
  obtain ⟨t, rfl⟩ := rx
  obtain ⟨t', rfl⟩ := ry
  exact rule i j t t' s _ _ ⟨.bl (g i j), H, I, rfl, q⟩

def CDiv (i j : Int) : Prop := 0 < j ∧ j < 1073741824
def CPow (i j : Int) : Prop := 0 ≤ j ∧ j ≤ 1000000 ∧ i.natAbs < 2 ^ 64
def CMul (i j : Int) : Prop := (-(2 ^ 64) < i ∧ i < 2 ^ 64) ∨ (-(2 ^ 64) < j ∧ j < 2 ^ 64)
theorem CMul.ok {i j : Int} (h : CMul i j) : IntMulOk i j := by
  rcases h with ⟨h1, h2⟩ | ⟨h1, h2⟩
  · exact .of_left (intBits_le_64 h1 h2)
  · exact .of_right (intBits_le_64 h1 h2)
theorem two_pow_nn (k : Nat) : (0 : Int) ≤ 2 ^ k := by
  rw [two_pow_cast]
  exact Int.natCast_nonneg _

theorem op_add : OpR X (binaryOp .Add) (rI0 fun i j => .int (i + j)) := opI0 fun _ _ _ _ _ _ _ q => add_int q
theorem op_sub : OpR X (binaryOp .Sub) (rI0 fun i j => .int (i - j)) := opI0 fun _ _ _ _ _ _ _ q => sub_int q
theorem op_mul : OpR X (binaryOp .Mult) (rI CMul fun i j => .int (i * j)) := opI fun _ _ _ _ _ _ _ hc q => mul_int q hc.ok
theorem op_fdiv : OpR X (binaryOp .FloorDiv) (rI CDiv fun i j => .int (i / j)) := opI fun i j _ _ _ _ _ hc q => by
  have h1 : (0 : Int) < j := hc.1
  have h2 : j < 1073741824 := hc.2
  exact floordiv_int (by omega) (by rw [Int.fdiv_eq_ediv_of_nonneg i (by omega)]; exact q) (.inl (PyProof.noPylong_small (by omega)))
theorem op_mod : OpR X (binaryOp .Mod) (rI (fun _ j => 0 < j) fun i j => .int (i % j)) := opI fun i j _ _ _ _ _ hc q => by
  have h1 : (0 : Int) < j := hc
  exact mod_int' (by omega) (by rw [Int.fmod_eq_emod_of_nonneg i (by omega)]; exact q)
theorem op_pow : OpR X (binaryOp .Pow) (rI CPow fun i j => .int (i ^ j.toNat)) := opI fun _ _ _ _ _ _ _ hc q => pow_int_small hc.1 hc.2.1 hc.2.2 q
theorem op_shl : OpR X (binaryOp .LShift) (rI CPow fun i j => .int (i * 2 ^ j.toNat)) := opI fun _ _ _ _ _ _ _ hc q => lshift_int_small hc.1 hc.2.1 hc.2.2 q
theorem op_shr : OpR X (binaryOp .RShift) (rI (fun _ j => 0 ≤ j) fun i j => .int (i / 2 ^ j.toNat)) := opI fun i j _ _ _ _ _ hc q =>
  rshift_int hc (by rw [Int.fdiv_eq_ediv_of_nonneg i (two_pow_nn _)]; exact q)
theorem op_and : OpR X (binaryOp .BitAnd) (rI0 fun i j => .int (Builtin.bitAnd i j)) := opI0 fun _ _ _ _ _ _ _ q => and_int q
theorem op_or : OpR X (binaryOp .BitOr) (rI0 fun i j => .int (Builtin.bitOr i j)) := opI0 fun _ _ _ _ _ _ _ q => or_int q
end
def scal : V → V → Bool
  | .non, .non => true | .non, .int _ => true | .int _, .non => true | .non, .bl _ => true | .bl _, .non => true | .non, .str _ => true | .str _, .non => true
  | .int _, .int _ => true | .bl _, .bl _ => true | .str _, .str _ => true | .byt _, .byt _ => true
  | .int _, .str _ => true | .str _, .int _ => true | .bl _, .str _ => true | .str _, .bl _ => true
  | _, _ => false
def rEq : R2 := fun x y H Q => scal x y = true ∧ Q (.bl (decide (x = y))) H
def rNe : R2 := fun x y H Q => scal x y = true ∧ Q (.bl (!decide (x = y))) H

theorem dec_int {i j : Int} : decide (V.int i = V.int j) = (i == j) := by
  rw [Bool.eq_iff_iff]
  simp
theorem dec_bl {i j : Bool} : decide (V.bl i = V.bl j) = (i == j) := by
  rw [Bool.eq_iff_iff]
  simp
theorem dec_str {i j : Str} : decide (V.str i = V.str j) = (i == j) := by
  rw [Bool.eq_iff_iff]
  simp
theorem dec_byt {i j : Array UInt8} : decide (V.byt i = V.byt j) = (i.toList == j.toList) := by
  rw [Bool.eq_iff_iff]
  cases i
  cases j
  simp

section
variable {X : Cx} {a b c : Expr} {ta tb tc : TE} {pos : Pos}
theorem fin_bl {pins : List (Addr × Obj)} {σ : St} {H : Hp} {s : Shared} {Q : VK} {k k' : Bool} (I : Inv X pins σ H s) (q : Q (.bl k) H) (e : k = k') : EP X pins σ Q (.bool k') s := by
  subst e
  exact ⟨.bl k, H, I, rfl, q⟩
theorem op_eq : OpR X (compareOp .Eq) rEq := by
  intro pins s σ H x y v u Q I rx ry h
  obtain ⟨hs, q⟩ := h
  cases x with
  | non =>
    cases rx
    cases y with
    | non => cases ry; exact PySem.EqNone.eq_none_none (fin_bl I q (by simp))
    | bl j => cases ry; exact PySem.EqNone.eq_none_bool (fin_bl I q (by simp))
    | int j => obtain ⟨t', rfl⟩ := ry; exact PySem.EqNone.eq_none_int (fin_bl I q (by simp))
    | str j => obtain ⟨t', rfl⟩ := ry; exact PySem.EqNone.eq_none_str (fin_bl I q (by simp))
    | _ => exact absurd (show false = true from hs) Bool.false_ne_true
  | bl i =>
    cases rx
    cases y with
    | non => cases ry; exact PySem.EqNone.eq_bool_none (fin_bl I q (by simp))
    | bl j => cases ry; exact eq_bool (fin_bl I q dec_bl)
    | str j => obtain ⟨t', rfl⟩ := ry; exact PySem.EqMixed.eq_bool_str (fin_bl I q (by simp))
    | _ => exact absurd (show false = true from hs) Bool.false_ne_true
  | int i =>
    obtain ⟨t, rfl⟩ := rx
    cases y with
    | non => cases ry; exact PySem.EqNone.eq_int_none (fin_bl I q (by simp))
    | int j => obtain ⟨t', rfl⟩ := ry; exact eq_int (fin_bl I q dec_int)
    | str j => obtain ⟨t', rfl⟩ := ry; exact PySem.EqMixed.eq_int_str (fin_bl I q (by simp))
    | _ => exact absurd (show false = true from hs) Bool.false_ne_true
  | str i =>
    obtain ⟨t, rfl⟩ := rx
    cases y with
    | non => cases ry; exact PySem.EqNone.eq_str_none (fin_bl I q (by simp))
    | bl j => cases ry; exact PySem.EqMixed.eq_str_bool (fin_bl I q (by simp))
    | int j => obtain ⟨t', rfl⟩ := ry; exact PySem.EqMixed.eq_str_int (fin_bl I q (by simp))
    | str j => obtain ⟨t', rfl⟩ := ry; exact eq_str (fin_bl I q dec_str)
    | _ => exact absurd (show false = true from hs) Bool.false_ne_true
  | byt i =>
    obtain ⟨t, rfl⟩ := rx
    cases y with
    | byt j => obtain ⟨t', rfl⟩ := ry; exact PySem.W.eq_bytes (fin_bl I q dec_byt)
    | _ => exact absurd (show false = true from hs) Bool.false_ne_true
  | _ => cases y <;> exact absurd (show false = true from hs) Bool.false_ne_true
theorem op_ne : OpR X (compareOp .NotEq) rNe := by
  intro pins s σ H x y v u Q I rx ry h
  obtain ⟨hs, q⟩ := h
  cases x with
  | non =>
    cases rx
    cases y with
    | non => cases ry; exact PySem.EqNone.ne_none_none (fin_bl I q (by simp))
    | bl j => cases ry; exact PySem.EqNone.ne_none_bool (fin_bl I q (by simp))
    | int j => obtain ⟨t', rfl⟩ := ry; exact PySem.EqNone.ne_none_int (fin_bl I q (by simp))
    | str j => obtain ⟨t', rfl⟩ := ry; exact PySem.EqNone.ne_none_str (fin_bl I q (by simp))
    | _ => exact absurd (show false = true from hs) Bool.false_ne_true
  | bl i =>
    cases rx
    cases y with
    | non => cases ry; exact PySem.EqNone.ne_bool_none (fin_bl I q (by simp))
    | bl j => cases ry; exact ne_bool (fin_bl I q (congrArg not dec_bl))
    | str j => obtain ⟨t', rfl⟩ := ry; exact PySem.EqMixed.ne_bool_str (fin_bl I q (by simp))
    | _ => exact absurd (show false = true from hs) Bool.false_ne_true
  | int i =>
    obtain ⟨t, rfl⟩ := rx
    cases y with
    | non => cases ry; exact PySem.EqNone.ne_int_none (fin_bl I q (by simp))
    | int j => obtain ⟨t', rfl⟩ := ry; exact ne_int (fin_bl I q (congrArg not dec_int))
    | str j => obtain ⟨t', rfl⟩ := ry; exact PySem.EqMixed.ne_int_str (fin_bl I q (by simp))
    | _ => exact absurd (show false = true from hs) Bool.false_ne_true
  | str i =>
    obtain ⟨t, rfl⟩ := rx
    cases y with
    | non => cases ry; exact PySem.EqNone.ne_str_none (fin_bl I q (by simp))
    | bl j => cases ry; exact PySem.EqMixed.ne_str_bool (fin_bl I q (by simp))
    | int j => obtain ⟨t', rfl⟩ := ry; exact PySem.EqMixed.ne_str_int (fin_bl I q (by simp))
    | str j => obtain ⟨t', rfl⟩ := ry; exact ne_str (fin_bl I q (congrArg not dec_str))
    | _ => exact absurd (show false = true from hs) Bool.false_ne_true
  | byt i =>
    obtain ⟨t, rfl⟩ := rx
    cases y with
    | byt j => obtain ⟨t', rfl⟩ := ry; exact PySem.W.ne_bytes (fin_bl I q (congrArg not dec_byt))
    | _ => exact absurd (show false = true from hs) Bool.false_ne_true
  | _ => cases y <;> exact absurd (show false = true from hs) Bool.false_ne_true

theorem op_lt : OpR X (compareOp .Lt) (rI0 fun i j => .bl (decide (i < j))) := opB0 fun _ _ _ _ _ _ _ q => lt_int q
theorem op_le : OpR X (compareOp .LtE) (rI0 fun i j => .bl (decide (i ≤ j))) := opB0 fun _ _ _ _ _ _ _ q => le_int q
theorem op_gt : OpR X (compareOp .Gt) (rI0 fun i j => .bl (decide (j < i))) := opB0 fun _ _ _ _ _ _ _ q => gt_int q
theorem op_ge : OpR X (compareOp .GtE) (rI0 fun i j => .bl (decide (j ≤ i))) := opB0 fun _ _ _ _ _ _ _ q => ge_int q
theorem op_in_str : OpR X (compareOp .In) (fun x y H Q => ∃ i j, x = .str i ∧ y = .str j ∧ Q (.bl (!(Builtin.Str.occurrences j i 0 j.length 1).isEmpty)) H) := by
  intro pins s σ H x y v u Q I rx ry h
  obtain ⟨i, j, rfl, rfl, q⟩ := h
  obtain ⟨t, rfl⟩ := rx
  obtain ⟨t', rfl⟩ := ry
  exact in_str (fin_bl I q rfl)
theorem op_isN : OpR X (compareOp .Is) (fun x y H Q => y = .non ∧ Q (.bl (decide (x = .non))) H) := by
  intro pins s σ H x y v u Q I rx ry h
  obtain ⟨rfl, q⟩ := h
  cases ry
  refine is_none_gen (fin_bl I q ?_)
  cases x <;> first
    | (cases rx; rfl)
    | (obtain ⟨t, rfl⟩ := rx; rfl)
theorem nomark (b : Expr) {op : CmpOp} (h : op ≠ .In := by decide) (h2 : op ≠ .NotIn := by decide) : behindInMarks op b = false := by
  have e1 : (op == CmpOp.In) = false := by cases op <;> first | rfl | exact absurd rfl h
  have e2 : (op == CmpOp.NotIn) = false := by cases op <;> first | rfl | exact absurd rfl h2
  cases b <;> simp [behindInMarks, e1, e2]
theorem pe_cmpR {op : CmpOp} {r : R2} (ho : OpR X (compareOp op) r) (ha : PE X a ta) (hb : PE X b tb) (hm : behindInMarks op b = false) : PE X (.Compare a [op] [b] pos) (tOp r ta tb) := by
  intro pins s σ H Q I h
  exact wpAny_Compare1 (binT ha hb I h fun v u s2 x y H2 I2 rx ry q => ho pins s2 σ H2 x y v u Q I2 rx ry q) hm
def tTest (t : TE) : TT := fun σ H Q => t σ H fun x H' => ∃ k, x = .bl k ∧ Q k H'
theorem pt_cmpR {op : CmpOp} {r : R2} (ho : OpR X (compareOp op) r) (ha : PE X a ta) (hb : PE X b tb) (hm : behindInMarks op b = false) : PT X (.Compare a [op] [b] pos) (tTest (tOp r ta tb)) := by
  intro pins s σ H Q I h
  refine wpAny_isTrue_Compare1 (thn (ha pins s σ H _ I h) fun v s1 ⟨x, H1, I1, r1, q1⟩ => thn (hb pins s1 σ H1 _ I1 q1) fun u s2 ⟨y, H2, I2, r2, q2⟩ =>
    thn (ho pins s2 σ H2 x y v u _ I2 r1 r2 q2) fun c s3 ⟨z, H3, I3, r3, k, e, q3⟩ => ?_) hm
  subst e
  cases r3
  exact wpAny_truthy_bool ⟨H3, I3, q3⟩
def tChain (r r' : R2) (ta tb tc : TE) : TE := fun σ H Q => ta σ H fun x H1 => tb σ H1 fun y H2 => r x y H2 fun z H3 => ∃ k, z = .bl k ∧
  (if k = true then tc σ H3 fun w' H4 => r' y w' H4 Q else Q (.bl false) H3)
theorem pe_chain {op op' : CmpOp} {r r' : R2} (ho : OpR X (compareOp op) r) (ho' : OpR X (compareOp op') r') (ha : PE X a ta) (hb : PE X b tb) (hc : PE X c tc)
    (hm : lastMarks [op, op'] [b, c] = false := by with_unfolding_all rfl) : PE X (.Compare a [op, op'] [b, c] pos) (tChain r r' ta tb tc) := by
  intro pins s σ H Q I h
  refine Compare_chain (thn (ha pins s σ H _ I h) fun v s1 ⟨x, H1, I1, r1, q1⟩ => chain_link (thn (hb pins s1 σ H1 _ I1 q1) fun u s2 ⟨y, H2, I2, r2, q2⟩ =>
    thn (ho pins s2 σ H2 x y v u _ I2 r1 r2 q2) fun d s3 ⟨z, H3, I3, r3, k, e, q3⟩ => ?_)) hm
  subst e
  cases r3
  refine wpAny_truthy_bool ?_
  cases k with
  | false => exact ite_ff ⟨.bl false, H3, I3, rfl, q3⟩
  | true => exact ite_tt (chain_last (thn (hc pins s3 σ H3 _ I3 q3) fun w' s4 ⟨z', H4, I4, r4, q4⟩ => ho' pins s4 σ H4 y z' u w' Q I4 r2 r4 q4))
theorem pt_chain {op op' : CmpOp} {r r' : R2} (ho : OpR X (compareOp op) r) (ho' : OpR X (compareOp op') r') (ha : PE X a ta) (hb : PE X b tb) (hc : PE X c tc)
    (hm : lastMarks [op, op'] [b, c] = false := by with_unfolding_all rfl) : PT X (.Compare a [op, op'] [b, c] pos) (tTest (tChain r r' ta tb tc)) := by
  intro pins s σ H Q I h
  refine isTrue_chain (thn (ha pins s σ H _ I h) fun v s1 ⟨x, H1, I1, r1, q1⟩ => test_link (thn (hb pins s1 σ H1 _ I1 q1) fun u s2 ⟨y, H2, I2, r2, q2⟩ =>
    thn (ho pins s2 σ H2 x y v u _ I2 r1 r2 q2) fun d s3 ⟨z, H3, I3, r3, k, e, q3⟩ => ?_)) hm
  subst e
  cases r3
  refine wpAny_truthy_bool ?_
  cases k with
  | false =>
    obtain ⟨k', e', q'⟩ := q3
    cases e'
    exact ite_ff ⟨H3, I3, q'⟩
  | true =>
    refine ite_tt (test_last (thn (hc pins s3 σ H3 _ I3 q3) fun w' s4 ⟨z', H4, I4, r4, q4⟩ => thn (ho' pins s4 σ H4 y z' u w' _ I4 r2 r4 q4) fun d' s5 ⟨z2, H5, I5, r5, k2, e2, q5⟩ => ?_))
    subst e2
    cases r5
    exact wpAny_truthy_bool ⟨H5, I5, q5⟩
theorem line63 : (sizeLine : Nat) < 2 ^ 63 := by rw [sizeLine_eq]; decide
theorem op_add_str : OpR X (binaryOp .Add) (fun x y H Q => ∃ i j, x = .str i ∧ y = .str j ∧ i.length + j.length ≤ sizeLine ∧ Q (.str (i ++ j)) H) := by
  intro pins s σ H x y v u Q I rx ry h
  obtain ⟨i, j, rfl, rfl, hz, q⟩ := h
  obtain ⟨t, rfl⟩ := rx
  obtain ⟨t', rfl⟩ := ry
  exact add_str (fun t' tk => ⟨.str (i ++ j), H, I.tok _, ⟨_, rfl⟩, q⟩) hz
theorem vals1 {x : V} {us : List Value} (r : Vals [x] us) : ∃ u, us = [u] ∧ RelV x u := by
  cases r with
  | cons r1 r2 => cases r2; exact ⟨_, rfl, r1⟩
theorem call_str_int : CallR X (.type "str") (fun xs H Q => ∃ i, xs = [.int i] ∧ i.natAbs.log2 < 1920 ∧ Q (.str (toString i)) H) := by
  intro pins s σ H xs us Q I r h
  obtain ⟨i, rfl, hz, q⟩ := h
  obtain ⟨u, rfl, t, rfl⟩ := vals1 r
  exact PySem.P.str_of_int hz ⟨.str _, H, I.tok _, ⟨_, rfl⟩, q⟩
end
end L2

namespace L2
open PySem PySem.Spec PyProof.Rows
structure ObjM (h : Heap) (x dx C : Addr) (mA : Str → Option Value) : Prop where
  obj : h.get? x = some (PySem.W.instObj C dx)
  ns : h.Ns1 dx mA
  ne : dx ≠ x

theorem lookIn_ns {h : Heap} {dx : Addr} {mA : Str → Option Value} (n : h.Ns1 dx mA) : ∃ od, h.get? dx = some od ∧ ∀ name, PySem.W.lookIn name od = some (mA name) := by
  obtain ⟨o, es, ep, ho, hd, hk, _, hm⟩ := n
  refine ⟨o, ho, fun name => ?_⟩
  have e := hm name
  unfold nsFind findBy at e
  rw [← Array.find?_toList] at e
  unfold PySem.W.lookIn
  rw [hd]
  dsimp only
  split
  · rename_i y q
    rw [q] at e
    exact congrArg some e
  · rename_i q
    rw [q] at e
    have a : es.toList.any (·.refKey) = false := by
      rw [List.any_eq_false]
      intro y hy
      obtain ⟨z, t, hkey⟩ := hk y (Array.mem_toList_iff.mp hy)
      simp [DictEntry.refKey, hkey]
    have a' : ¬ es.toList.any (·.refKey) = true := by rw [a]; exact Bool.false_ne_true
    rw [if_neg a']
    exact congrArg some e

theorem ObjM.look {h : Heap} {x dx C : Addr} {mA : Str → Option Value} (I : ObjM h x dx C mA) : ∃ od, PySem.W.InstAt h x (PySem.W.instObj C dx) C (some od) ∧ ∀ name, PySem.W.lookIn name od = some (mA name) :=
  let ⟨od, ho, hl⟩ := lookIn_ns I.ns
  ⟨od, ⟨I.obj, rfl, rfl, ho⟩, hl⟩

section
variable {prog : Program} {w : World} {A : Around} {E : Value → Shared → Prop} {s : Shared} {K : PySem.W.Frag} {x dx C f : Addr} {mA : Str → Option Value} {name : Str} {v : Value}

theorem get_map {expr : Bool} {Q : Value → Shared → Prop} (X : K.In s.heap) (I : ObjM s.heap x dx C mA) (hg : PySem.W.plainGet K C name = true) (hh : PySem.W.hasDictIn K C = true)
    (ha : PySem.W.findIn K (.ref C) name = some none) (hv : mA name = some v) (hv' : PySem.W.handedIn v = true) (h : Q v { s with toks := s.toks + 1 }) :
    wpAny (model prog w) A (getAttr (.ref x) name expr) Q E s := by
  obtain ⟨od, J, hl⟩ := I.look
  exact PySem.W.get_value X J (PySem.W.plainGet_of hg).1 (PySem.W.findObj_own hh ha rfl (by rw [hl, hv])) hv' h

theorem get_meth {pl : Sem Bool} {Q : Value × List Value → Shared → Prop} (X : K.In s.heap) (I : ObjM s.heap x dx C mA) (hg : PySem.W.plainGet K C name = true)
    (hf : PySem.W.findIn K (.ref C) name = some (some (.ref f))) (ht : PySem.W.isFn K (.ref f) = true) (hv : mA name = none) (h : Q (.ref f, [.ref x]) s) :
    wpAny (model prog w) A (getMethod (.ref x) name pl) Q E s := by
  obtain ⟨od, J, hl⟩ := I.look
  exact PySem.W.method_fn X J (PySem.W.plainGet_of hg).1 (PySem.W.plainGet_of hg).2 hf (beq_iff_eq.mp ht) (by show (PySem.W.lookIn name od).map (·.isSome) = some false; rw [hl, hv]; rfl) h

theorem set_map {ns : List Str} {Q : Unit → Shared → Prop} (X : K.In s.heap) (I : ObjM s.heap x dx C mA)
    (hs : PySem.W.findIn K (.ref C) "__setattr__" = some (some (.builtin "object.__setattr__"))) (hp : PySem.W.plainOver K C = true) (ht : PySem.W.takerIn K C name = some none) (hh : PySem.W.hasDictIn K C = true)
    (hw : PySem.Within mA ns) (hsz : ns.length ≤ sizeLine)
    (h : ∀ h', ObjM h' x dx C (fun y => if y = name then some v else mA y) → Heap.SameBut dx s.heap h' → Q () { s with heap := h', toks := s.toks + 2 }) :
    wpAny (model prog w) A (setAttr (.ref x) name v) Q E s := by
  obtain ⟨od, J, hl⟩ := I.look
  refine PySem.W.set_plain X J hs (PySem.W.osa_open (s := { s with toks := s.toks + 1 }) (r := none) X J hp ht fun b => ?_)
  obtain ⟨cd, hc, hd'⟩ := PySem.W.any_some hh
  have hx : s.heap.get? x = some ⟨.ref C, some dx, .plain, #[]⟩ := I.obj
  refine wpAny_bind (wpAny_pure (wpAny_bind (wpAny_bind (wpAny_loadPart hx (wpAny_bind (PySem.W.Looks.here (s := { s with toks := s.toks + 1 }) (PySem.W.looks_clsIn X hc) ?_))))))
  rw [hd']
  refine wpAny_pure (a := some dx) (wpAny_bind (wpAny_pure (wpAny_bind ?_)))
  refine wpAny_nsSet1 (s := { s with toks := s.toks + 1 }) I.ns fun h' hn2 hs2 => ?_
  obtain ⟨oD, esD, epD, hoD, hdD, hcD⟩ := hn2.count (PySem.Within.cons name v hw)
  refine wpAny_bind (wpAny_lookBehind hoD (by rw [hdD]; exact pastItsLine_dict (Nat.le_trans hcD (by rw [List.length_cons]; omega))) ?_)
  exact wpAny_pure (h _ ⟨(hs2.2 _ (Ne.symm I.ne)).trans I.obj, hn2, I.ne⟩ hs2)
theorem make_map {R : Result → Shared → Prop} {vs : List Value} {kw : List (Str × Value)} (X : K.In s.heap) (hm : PySem.W.makesIn K C = true)
    (hi : PySem.W.findIn K (.ref C) "__init__" = some (some (.ref f))) (hf : PySem.W.typeIn K (.ref f) = some (.type "function"))
    (h : codeAny (model prog w) (A.under (.builtin "type.__call__" ⟨.ref C :: vs, kw⟩)) (.call (.ref f) ⟨.ref (s.heap.objs.size + 1) :: vs, kw⟩) (PySem.W.InitBack (s.heap.objs.size + 1) R)
      { s with heap := (s.heap.push PySem.W.emptyDict).push (PySem.W.instObj C s.heap.objs.size) }) :
    codeAny (model prog w) A (.call (.ref C) ⟨vs, kw⟩) R s := by
  obtain ⟨hh, g, d, t, os⟩ := s
  exact PySem.W.make_core (PySem.W.makes_of X hm) (PySem.W.looks_findIn X hi) (fun self => PySem.W.bind_fn X self hf) (.inl rfl) h
end
def putF (f : Str) (v : V) : List (Str × V) → List (Str × V)
  | [] => [(f, v)]
  | (g, x) :: r => if g = f then (g, v) :: r else (g, x) :: putF f v r
theorem lookup_putF (f g : Str) (v : V) : ∀ fs : List (Str × V), (putF f v fs).lookup g = if g = f then some v else fs.lookup g
  | [] => by
    show List.lookup g [(f, v)] = _
    by_cases h : g = f
    · have hb : (g == f) = true := beq_iff_eq.mpr h
      simp only [List.lookup, hb, if_pos h]
    · have hb : (g == f) = false := beq_eq_false_iff_ne.mpr h
      simp only [List.lookup, hb, if_neg h]
  | (k, x) :: r => by
    have ih := lookup_putF f g v r
    rw [show putF f v ((k, x) :: r) = (if k = f then (k, v) :: r else (k, x) :: putF f v r) from rfl]
    by_cases hk : k = f
    · rw [if_pos hk]
      by_cases h : g = k
      · have hb : (g == k) = true := beq_iff_eq.mpr h
        simp only [List.lookup, hb, if_pos (h.trans hk)]
      · have hb : (g == k) = false := beq_eq_false_iff_ne.mpr h
        simp only [List.lookup, hb, if_neg (fun e : g = f => h (e.trans hk.symm))]
    · rw [if_neg hk]
      by_cases h : g = k
      · have hb : (g == k) = true := beq_iff_eq.mpr h
        simp only [List.lookup, hb, if_neg (fun e : g = f => hk (h.symm.trans e))]
      · have hb : (g == k) = false := beq_eq_false_iff_ne.mpr h
        simp only [List.lookup, hb]
        exact ih
theorem keys_putF (f : Str) (v : V) : ∀ fs : List (Str × V), f ∈ (putF f v fs).map (·.1) ∧ ∀ g, g ∈ fs.map (·.1) → g ∈ (putF f v fs).map (·.1)
  | [] => ⟨by simp [putF], fun g h => by simp at h⟩
  | (k, x) :: r => by
    obtain ⟨i1, i2⟩ := keys_putF f v r
    rw [show putF f v ((k, x) :: r) = (if k = f then (k, v) :: r else (k, x) :: putF f v r) from rfl]
    by_cases hk : k = f
    · rw [if_pos hk]
      subst hk
      exact ⟨by simp, fun g h => by simpa using h⟩
    · rw [if_neg hk]
      refine ⟨?_, fun g h => ?_⟩
      · rw [List.map_cons]
        exact List.mem_cons_of_mem _ i1
      · rw [List.map_cons] at h ⊢
        rcases List.mem_cons.mp h with e | e
        · exact List.mem_cons.mpr (.inl e)
        · exact List.mem_cons_of_mem _ (i2 g e)
theorem length_putF (f : Str) (v : V) : ∀ fs : List (Str × V), (putF f v fs).length ≤ fs.length + 1
  | [] => by simp [putF]
  | (k, x) :: r => by
    have ih := length_putF f v r
    rw [show putF f v ((k, x) :: r) = (if k = f then (k, v) :: r else (k, x) :: putF f v r) from rfl]
    by_cases hk : k = f
    · rw [if_pos hk, List.length_cons, List.length_cons]; omega
    · rw [if_neg hk, List.length_cons, List.length_cons]; omega

theorem RelO.some_of {v : V} {o : Option Value} (r : RelO (some v) o) : ∃ u, o = some u ∧ RelV v u := by
  cases o with
  | none => exact (show False from r).elim
  | some u => exact ⟨u, rfl, r⟩
theorem RelO.none_of {o : Option Value} (r : RelO none o) : o = none := by
  cases o with
  | none => rfl
  | some u => exact (show False from r).elim
theorem handed_of {v : V} {u : Value} (r : RelV v u) : PySem.W.handedIn u = true := by
  cases v with
  | non => cases (show u = Value.none from r); rfl
  | bl b => cases (show u = Value.bool b from r); rfl
  | int i => obtain ⟨t, e⟩ := (show ∃ t, u = Value.int i t from r); cases e; rfl
  | str x => obtain ⟨t, e⟩ := (show ∃ t, u = Value.str x t from r); cases e; rfl
  | byt b => obtain ⟨t, e⟩ := (show ∃ t, u = Value.bytes b t from r); cases e; rfl
  | flt b => obtain ⟨t, e⟩ := (show ∃ t, u = Value.float b t from r); cases e; rfl
  | ref a => cases (show u = Value.ref a from r); rfl
  | ty n => cases (show u = Value.type n from r); rfl

section
variable {P : Program} {w : World} {H H' : Hp} {h h' : Heap} {a C dx : Addr} {fs fs' : List (Str × V)}
theorem ins_get (hok : HOk P w H h) (e : H a = some (.ins C dx fs)) : ∃ mA, ObjM h a dx C mA ∧ (∀ f, RelO (fs.lookup f) (mA f)) ∧ PySem.Within mA (fs.map (·.1)) ∧ fs.length ≤ 1000 ∧ H dx = some (.own a) := by
  obtain ⟨d, z, ne, ob, mA, n, r, q⟩ := (show ObjOk P w H h a (.ins C dx fs) from hok a _ e)
  exact ⟨mA, ⟨ob, n, ne⟩, r, q, z, d⟩
end
structure Cls (K : PySem.W.Frag) (C : Addr) : Prop where
  pg : PySem.W.plainGet K C Str.empty = true
  hd : PySem.W.hasDictIn K C = true
  po : PySem.W.plainOver K C = true
  sa : PySem.W.findIn K (.ref C) "__setattr__" = some (some (.builtin "object.__setattr__"))
theorem Cls.get {K : PySem.W.Frag} {C : Addr} (c : Cls K C) (f : Str) : PySem.W.plainGet K C f = true := c.pg
def NoAttr (K : PySem.W.Frag) (C : Addr) (f : Str) : Prop := PySem.W.findIn K (.ref C) f = some none
theorem NoAttr.taker {K : PySem.W.Frag} {C : Addr} {f : Str} (n : NoAttr K C f) : PySem.W.takerIn K C f = some none := by
  unfold PySem.W.takerIn
  rw [show PySem.W.findIn K (.ref C) f = some none from n]
  rfl
structure Meth (K : PySem.W.Frag) (C : Addr) (m : Str) (f : Addr) : Prop where
  at_ : PySem.W.findIn K (.ref C) m = some (some (.ref f))
  fn : PySem.W.isFn K (.ref f) = true
  kp : PySem.W.keepIn K (.ref f) = true

section
variable {X : Cx} {pins : List (Addr × Obj)} {σ : St} {H : Hp} {s : Shared} {a C dx : Addr} {fs : List (Str × V)} {f : Str} {v : V} {A : Around} {E : Value → Shared → Prop}

theorem getattr_ok {b : Bool} {Q : Value → Shared → Prop} (I : Inv X pins σ H s) (e : H a = some (.ins C dx fs)) (c : Cls X.K C) (n : NoAttr X.K C f) (l : fs.lookup f = some v)
    (h : ∀ u s', Inv X pins σ H s' → RelV v u → Q u s') : wpAny (model X.prog X.w) A (getAttr (.ref a) f b) Q E s := by
  obtain ⟨mA, O, r, _, _, _⟩ := ins_get I.hok e
  obtain ⟨u, hu, ru⟩ := RelO.some_of (v := v) (o := mA f) (by rw [← l]; exact r f)
  exact get_map I.kIn O (c.get f) c.hd n hu (handed_of ru) (h u _ (I.tok _) ru)

theorem getmeth_ok {m : Str} {g : Addr} {pl : Sem Bool} {Q : Value × List Value → Shared → Prop} (I : Inv X pins σ H s) (e : H a = some (.ins C dx fs)) (c : Cls X.K C) (k : Meth X.K C m g) (l : fs.lookup m = none)
    (h : Q (.ref g, [.ref a]) s) : wpAny (model X.prog X.w) A (getMethod (.ref a) m pl) Q E s := by
  obtain ⟨mA, O, r, _, _, _⟩ := ins_get I.hok e
  have hn : mA m = none := RelO.none_of (by rw [← l]; exact r m)
  exact get_meth I.kIn O (c.get m) k.at_ k.fn hn h

theorem setattr_ok {y : V} {u : Value} {Q : Unit → Shared → Prop} (I : Inv X pins σ H s) (e : H a = some (.ins C dx fs)) (c : Cls X.K C) (n : NoAttr X.K C f) (hl : fs.length < 1000) (ry : RelV y u)
    (h : ∀ s', Inv X pins σ (upd H a (.ins C dx (putF f y fs))) s' → Q () s') : wpAny (model X.prog X.w) A (setAttr (.ref a) f u) Q E s := by
  obtain ⟨mA, O, r, wi, _, ho⟩ := ins_get I.hok e
  have hz : (fs.map (·.1)).length ≤ sizeLine := by rw [List.length_map, sizeLine_eq]; omega
  refine set_map I.kIn O c.sa c.po n.taker c.hd wi hz fun h' O' sb => h _ ?_
  have hd : ∃ o, h'.get? dx = some o := let ⟨o, _, _, e', _⟩ := O'.ns; ⟨o, e'⟩
  refine I.write (x := a) (e := dx) (by rw [e]; exact True.intro) (.inr ho) (fun b q hb z => (sb.2 b hb).trans z) hd ?_
  refine ⟨by rw [upd_ne O.ne]; exact ho, ?_, O.ne, O'.obj, _, O'.ns, fun g => ?_, fun g hg => ?_⟩
  · have := length_putF f y fs; omega
  · show RelO ((putF f y fs).lookup g) (if g = f then some u else mA g)
    rw [lookup_putF]
    by_cases q : g = f
    · rw [if_pos q, if_pos q]; exact ry
    · rw [if_neg q, if_neg q]; exact r g
  · by_cases q : g = f
    · rw [q]; exact (keys_putF f y fs).1
    · refine (keys_putF f y fs).2 g (wi g fun z => hg ?_)
      show (if g = f then some u else mA g) = none
      rw [if_neg q]; exact z
theorem Inv.made (I : Inv X pins σ H s) : Inv X pins σ (upd (upd H s.heap.objs.size (.own (s.heap.objs.size + 1))) (s.heap.objs.size + 1) (.ins C s.heap.objs.size []))
    { s with heap := (s.heap.push PySem.W.emptyDict).push (PySem.W.instObj C s.heap.objs.size) } := by
  have e1 : (s.heap.push PySem.W.emptyDict).get? s.heap.objs.size = some PySem.W.emptyDict := Heap.get?_push_size s.heap rfl
  have e2 : ((s.heap.push PySem.W.emptyDict).push (PySem.W.instObj C s.heap.objs.size)).get? (s.heap.objs.size + 1) = some (PySem.W.instObj C s.heap.objs.size) := by
    have := Heap.get?_push_size (s.heap.push PySem.W.emptyDict) (o := PySem.W.instObj C s.heap.objs.size) rfl
    rwa [Heap.size_push] at this
  have e3 : (s.heap.push PySem.W.emptyDict).Ns s.heap.objs.size (fun _ => none) := ⟨PySem.W.emptyDict, #[], _, e1, rfl, (fun e he => absurd he (by simp)), fun _ => rfl⟩
  have I1 := I.laid (a := s.heap.objs.size) (o := .own (s.heap.objs.size + 1)) (h' := s.heap.push PySem.W.emptyDict) (t' := s.toks) (fun b u q => Heap.get?_push_of_some _ q) (Nat.le_refl _) ⟨_, e1⟩
  refine I1.laid (a := s.heap.objs.size + 1) (o := .ins C s.heap.objs.size []) (t' := s.toks) (fun b u q => Heap.get?_push_of_some _ q) (Nat.le_of_eq (Heap.size_push _ _)) ?_
  have ne : s.heap.objs.size ≠ s.heap.objs.size + 1 := Nat.ne_of_lt (Nat.lt_succ_self _)
  refine ⟨by rw [upd_ne ne, upd_same], Nat.zero_le _, ne, e2, fun _ => none, (Heap.Ns1.of_empty e3).at fun o q => Heap.get?_push_of_some _ q, fun _ => True.intro, fun y hy => absurd rfl hy⟩
theorem attr_of {prog : Program} {w : World} {env : Env} {e : Expr} {f : Str} {pos : Pos} {s : Shared} {Q : Value → Shared → Prop} (hb : attributeBase e f env (eval e env) = eval e env)
    (h : wpAny (model prog w) A (eval e env) (fun o s₁ => wpAny (model prog w) A (getAttr o f true) Q E s₁) E s) : wpAny (model prog w) A (eval (.Attribute e f pos) env) Q E s :=
  Attribute_any_ h (by rw [arm_eval_Attribute, hb])
end
def tFld (K : PySem.W.Frag) (ta : TE) (f : Str) : TE := fun σ H Q => ta σ H fun x H1 => ∃ a C dx fs v, x = .ref a ∧ H1 a = some (.ins C dx fs) ∧ Cls K C ∧ NoAttr K C f ∧ fs.lookup f = some v ∧ Q v H1
def sFld (K : PySem.W.Frag) (ta tv : TE) (f : Str) : TS := fun D σ H => tv σ H fun y H1 => ta σ H1 fun x H2 => ∃ a C dx fs, x = .ref a ∧ H2 a = some (.ins C dx fs) ∧ Cls K C ∧ NoAttr K C f ∧ fs.length < 1000 ∧
  D.nx σ (upd H2 a (.ins C dx (putF f y fs)))
section
variable {X : Cx} {o e value : Expr} {f : Str} {pos pos' tpos : Pos} {ta tv : TE}
theorem pe_fld (he : PE X e ta) (hb : attributeBase e f X.env (eval e X.env) = eval e X.env) : PE X (.Attribute e f pos) (tFld X.K ta f) := by
  intro pins s σ H Q I h
  refine attr_of hb (thn (he pins s σ H _ I h) fun u s1 ⟨x, H1, I1, rx, a, C, dx, fs, v, ex, ea, c, n, l, q⟩ => ?_)
  subst ex
  obtain rfl : u = Value.ref a := rx
  exact getattr_ok I1 ea c n l fun u' s2 I2 ru => ⟨v, H1, I2, ru, q⟩
theorem ps_fld (ha : PE X o ta) (hv : PE X value tv) (hs : swapsWith value (some (.Attribute o f pos')) pos.line X.env = pure false) : PS X (.Assign [.Attribute o f pos'] value pos) (sFld X.K ta tv f) := by
  intro pins s σ H D I h
  refine plainObj_wpAny_Assign_Attribute (thn (hv pins s σ H _ I h) fun u s1 ⟨y, H1, I1, ry, q⟩ => thn (ha pins s1 σ H1 _ I1 q) fun ov s2 ⟨x, H2, I2, rx, a, C, dx, fs, ex, ea, c, n, l, q2⟩ => ?_) hs
  subst ex
  obtain rfl : ov = Value.ref a := rx
  exact setattr_ok I2 ea c n l ry fun s3 I3 => ⟨σ, _, I3, q2⟩
end
section
variable {X : Cx} {pins : List (Addr × Obj)} {σ : St} {H : Hp} {s : Shared} {A : Around} {E : Value → Shared → Prop} {Q : Value → Shared → Prop} {c : Value} {b : Bool}
inductive TyOf (K : PySem.W.Frag) (H : Hp) : V → Value → Prop where
  | non : TyOf K H .non (.type "NoneType")
  | bl (x : Bool) : TyOf K H (.bl x) (.type "bool")
  | int (i : Int) : TyOf K H (.int i) (.type "int")
  | str (x : Str) : TyOf K H (.str x) (.type "str")
  | flt (x : UInt64) : TyOf K H (.flt x) (.type "float")
  | lst {a : Addr} {xs : List V} (e : H a = some (.lst xs)) : TyOf K H (.ref a) (.type "list")
  | frz {a : Addr} {o : Obj} {xs : List V} (e : H a = some (.frz o (.lst xs))) : TyOf K H (.ref a) (.type "list")
  | tup {a : Addr} {xs : List V} (e : H a = some (.tup xs)) : TyOf K H (.ref a) (.type "tuple")
  | dK {a : Addr} {kvs : List (Key × V)} (e : H a = some (.dK kvs)) : TyOf K H (.ref a) (.type "dict")
  | dT {a : Addr} {kvs : List (List Key × V)} (e : H a = some (.dT kvs)) : TyOf K H (.ref a) (.type "dict")
  | ins {a C dx : Addr} {fs : List (Str × V)} (e : H a = some (.ins C dx fs)) (cl : Cls K C) (ha : PySem.W.findIn K (.ref C) "__class__" = some (some (.builtin "object.__class__")))
      (hn : PySem.W.specialIn K (.builtin "object.__class__") "__get__" = some (some (.builtin "getset_descriptor.__get__"))) (htk : PySem.W.takesIn K (.builtin "object.__class__") = some true)
      (hm : PySem.W.mroIn K C (.type "object") = some true) : TyOf K H (.ref a) (.ref C)
theorem isinst_ok {x : V} {u t : Value} (I : Inv X pins σ H s) (rx : RelV x u) (ty : TyOf X.K H x t) (e : PySem.W.kitOne X.K t c = some b) (h : ∀ tk, Q (.bool b) { s with toks := tk }) :
    wpAny (model X.prog X.w) A (call (.builtin "isinstance") [u, c]) Q E s := by
  cases ty with
  | non => cases (show u = Value.none from rx); exact PySem.W.kia_one PySem.W.kitx_none I.kIn True.intro e (fun z => nomatch z) h
  | bl y => cases (show u = Value.bool y from rx); exact PySem.W.kia_one PySem.W.kitx_bool I.kIn True.intro e (fun z => nomatch z) h
  | int i => obtain ⟨t, q⟩ := (show ∃ t, u = Value.int i t from rx); cases q; exact PySem.W.kia_one PySem.W.kitx_int I.kIn True.intro e (fun z => nomatch z) h
  | str y => obtain ⟨t, q⟩ := (show ∃ t, u = Value.str y t from rx); cases q; exact PySem.W.kia_one PySem.W.kitx_str I.kIn True.intro e (fun z => nomatch z) h
  | flt y => obtain ⟨t, q⟩ := (show ∃ t, u = Value.float y t from rx); cases q; exact PySem.W.kia_one PySem.W.kitx_float I.kIn True.intro e (fun z => nomatch z) h
  | @lst a xs ea =>
    cases (show u = Value.ref a from rx)
    obtain ⟨_, _, n, _, h1⟩ := (show ObjOk X.prog X.w H s.heap a (.lst xs) from I.hok a _ ea)
    exact PySem.W.kia_one PySem.W.kitx_list I.kIn ⟨_, h1, rfl⟩ e (fun z => nomatch z) h
  | @frz a ob xs ea =>
    cases (show u = Value.ref a from rx)
    obtain ⟨_, _, _, n, _, h1⟩ := (show ObjOk X.prog X.w H s.heap a (.frz ob (.lst xs)) from I.hok a _ ea)
    exact PySem.W.kia_one PySem.W.kitx_list I.kIn ⟨_, h1, rfl⟩ e (fun z => nomatch z) h
  | @tup a xs ea =>
    cases (show u = Value.ref a from rx)
    obtain ⟨_, _, _, p, _⟩ := (show ObjOk X.prog X.w H s.heap a (.tup xs) from I.hok a _ ea)
    obtain ⟨o, h1, h2, _⟩ := p
    exact PySem.W.kia_one PySem.W.kitx_tuple I.kIn ⟨o, h1, h2⟩ e (fun z => nomatch z) h
  | @dK a kvs ea =>
    cases (show u = Value.ref a from rx)
    obtain ⟨_, _, vs, _, p⟩ := (show ObjOk X.prog X.w H s.heap a (.dK kvs) from I.hok a _ ea)
    obtain ⟨o, es, ep, h1, h2, _⟩ := p
    exact PySem.W.kia_one PySem.W.kitx_dict I.kIn ⟨o, h1, h2.1⟩ e (fun z => nomatch z) h
  | @dT a kvs ea =>
    cases (show u = Value.ref a from rx)
    obtain ⟨_, _, xs, _, o, es, ep, h1, h2, _⟩ := (show ObjOk X.prog X.w H s.heap a (.dT kvs) from I.hok a _ ea)
    exact PySem.W.kia_one PySem.W.kitx_dict I.kIn ⟨o, h1, h2.1⟩ e (fun z => nomatch z) h
  | @ins a C dx fs ea cl ha hn htk hm =>
    cases (show u = Value.ref a from rx)
    obtain ⟨mA, O, _⟩ := ins_get I.hok ea
    obtain ⟨od, J, _⟩ := O.look
    exact PySem.W.kia_one (PySem.W.kitx_own (cl.get _) cl.hd ha hn htk hm) I.kIn J e (fun z => nomatch z) h
end
end L2

namespace L2
open PySem PySem.Spec PyProof.Rows
structure Room (k : Nat) (A : Around) : Prop where
  hd : A.handled = none
  dp : A.depth + 3 * k + 5 < recursionLimit
  un : A.units + 16 * k + 200 < cLine
  gd : A.guards = some []
theorem Room.mono {j k : Nat} {A : Around} (r : Room k A) (h : j ≤ k) : Room j A := ⟨r.hd, by have := r.dp; omega, by have := r.un; omega, r.gd⟩
theorem Room.deeper {k : Nat} {A : Around} (r : Room (k + 1) A) (env : Env) : Room k (A.deeper env) :=
  ⟨r.hd, by have := r.dp; show A.depth + 1 + 3 * k + 5 < _; omega, by have := r.un; show A.units + 3 + 16 * k + 200 < _; omega, r.gd⟩
theorem Room.in1 {k : Nat} {A : Around} (r : Room (k + 1) A) : Room k A.in1 :=
  ⟨r.hd, by have := r.dp; show A.depth + 3 * k + 5 < _; omega, by have := r.un; show A.units + 1 + 16 * k + 200 < _; omega, r.gd⟩
theorem make_depth {A : Around} {C : Addr} {us : List Value} {kw : List (Str × Value)} : (A.under (.builtin "type.__call__" ⟨.ref C :: us, kw⟩)).depth = A.depth + 1 := by
  first | rfl | simp [Around.under, Code.weight, Code.isCreation, Code.isGuard, Code.isCaller, Code.frames, Code.isFrame, guardIds]
theorem make_units {A : Around} {C : Addr} {us : List Value} {kw : List (Str × Value)} : (A.under (.builtin "type.__call__" ⟨.ref C :: us, kw⟩)).units = A.units + 1 := by
  first | rfl | simp [Around.under, Code.cUnits, Code.frames, Code.isFrame]
theorem make_guards {A : Around} {C : Addr} {us : List Value} {kw : List (Str × Value)} : (A.under (.builtin "type.__call__" ⟨.ref C :: us, kw⟩)).guards = A.guards := by
  first | rfl | (cases h : A.guards <;> simp [Around.under, Code.guards, pushGuards, Code.isGuard, guardIds, h])
theorem Room.make {k : Nat} {A : Around} (r : Room (k + 1) A) (C : Addr) (us : List Value) (kw : List (Str × Value)) : Room k (A.under (.builtin "type.__call__" ⟨.ref C :: us, kw⟩)) :=
  ⟨r.hd, by have := r.dp; rw [make_depth]; omega, by have := r.un; rw [make_units]; omega, by rw [make_guards]; exact r.gd⟩
theorem Room.depth {k : Nat} {A : Around} (r : Room k A) : A.depth < recursionLimit := by have := r.dp; omega
theorem Room.units {k : Nat} {A : Around} (r : Room k A) : A.units + 64 < cLine := by have := r.un; omega
def tNil : TA := fun _ H Q => Q [] H
def tCons (ta : TE) (tr : TA) : TA := fun σ H Q => ta σ H fun x H1 => tr σ H1 fun xs H2 => Q (x :: xs) H2
section
variable {X : Cx} {e : Expr} {es : List Expr} {te : TE} {t : TA} {pos : Pos}
theorem pa_nil : PA X [] tNil := fun _ _ _ _ H Q I h => Calls.spliced_nil ⟨[], H, I, .nil, h⟩
theorem pa_cons (ha : PE X e te) (hr : PA X es t) (hs : starEach (e :: es) X.env = (false, eval e X.env) :: starEach es X.env := by rfl) : PA X (e :: es) (tCons te t) := by
  intro pos pins s σ H Q I h
  rw [hs]
  show wpAny _ _ (spliced ((false, eval e X.env) :: backTo pos (starEach es X.env))) _ _ s
  refine Calls.spliced_cons (thn (ha pins s σ H _ I h) fun u s1 ⟨x, H1, I1, r1, q1⟩ => ?_)
  exact thn (hr pos pins s1 σ H1 _ I1 q1) fun us s2 ⟨xs, H2, I2, r2, q2⟩ => ⟨x :: xs, H2, I2, .cons r1 r2, q2⟩
def tTup (t : TA) : TE := fun σ H Q => t σ H fun xs H1 => xs.length ≤ sizeLine ∧ ∀ p, H1 p = none → Q (.ref p) (upd H1 p (.tup xs))
def tLst (t : TA) : TE := fun σ H Q => t σ H fun xs H1 => xs.length ≤ sizeLine ∧ ∀ p, H1 p = none → Q (.ref p) (upd H1 p (.lst xs))
theorem pe_tup {x1} (h : PA X es t) : PE X (.Tuple es x1 pos) (tTup t) := by
  intro pins s σ H Q I hq
  refine wpAny_Tuple_spliced (thn (h pos pins s σ H _ I hq) fun us s1 ⟨xs, H1, I1, r, z, q⟩ => ⟨by rw [← r.length]; exact z, ?_⟩)
  have hf : H1 s1.heap.objs.size = none := I1.hok.fresh (Nat.le_refl _)
  refine ⟨.ref s1.heap.objs.size, upd H1 s1.heap.objs.size (.tup xs), I1.laid (t' := s1.toks) (fun b u e => Heap.get?_push_of_some _ e) (Nat.le_refl _) ?_, rfl, q _ hf⟩
  exact ⟨z, us, r, ⟨_, Heap.get?_push_size _ rfl, rfl, _, rfl⟩, _, Heap.get?_push_size _ rfl, rfl⟩
theorem pe_lst (h : PA X es t) : PE X (.List es pos) (tLst t) := by
  intro pins s σ H Q I hq
  refine wpAny_List_spliced (thn (h pos pins s σ H _ I hq) fun us s1 ⟨xs, H1, I1, r, z, q⟩ => ⟨by rw [← r.length]; exact z, ?_⟩)
  have hf : H1 s1.heap.objs.size = none := I1.hok.fresh (Nat.le_refl _)
  refine ⟨.ref s1.heap.objs.size, upd H1 s1.heap.objs.size (.lst xs), I1.laid (t' := s1.toks) (fun b u e => Heap.get?_push_of_some _ e) (Nat.le_refl _) ?_, rfl, q _ hf⟩
  exact ⟨z, us, 0, r, Heap.get?_push_size _ rfl⟩
end
abbrev Sp := List V → Hp → VK → XK → Prop
abbrev CXT := List Env → Hp → Shared → XK → Value → Shared → Prop
structure Env0 (P : Program) (w : World) (K : PySem.W.Frag) (mg : Str → Option Value) (base : Heap) (A : Around) (outer : List Env) (s : Shared) (H : Hp) : Prop where
  frames : A.frames = some outer
  mod : Mod K mg base
  bs : ∀ b o, base.get? b = some o → s.heap.get? b = some o ∧ H b = none
  bsz : base.objs.size ≤ s.heap.objs.size
  funs : s.heap.FunFrames base outer
  frf : ∀ b ∈ frs outer, H b = none
  hok : HOk P w H s.heap
  bare : AllBare s.gens
def CE (outer : List Env) (P : Program) (w : World) (H : Hp) (s : Shared) (Q : VK) (u : Value) (s' : Shared) : Prop :=
  ∃ v H', s'.os = s.os ∧ AllBare s'.gens ∧ Un (frs outer) [] H H' s.heap s'.heap ∧ HOk P w H' s'.heap ∧ RelV v u ∧ Q v H'
def CR (CX : CXT) (outer : List Env) (P : Program) (w : World) (H : Hp) (s : Shared) (Q : VK) (E : XK) (r : Result) (s' : Shared) : Prop :=
  match r with
  | .ok (.ret u) => CE outer P w H s Q u s'
  | .ok _ => False
  | .error e => CX outer H s E e s'
structure FnOk (P : Program) (w : World) (K : PySem.W.Frag) (mg : Str → Option Value) (base : Heap) (CX : CXT) (k : Nat) (f : Addr) (fd : FuncData) (ps : List Str) (sp : Sp) : Prop where
  len : ∀ vs H Q E, sp vs H Q E → vs.length = ps.length
  run : ∀ (A : Around) (outer : List Env) (s : Shared) (H : Hp) (args : Args) (us : List Value) (vs : List V) (Q : VK) (E : XK), Room k A → Env0 P w K mg base A outer s H → BindsTo s fd args (ps.zip us) → Vals vs us → sp vs H Q E →
    codeAny (model P w) A (.call (.ref f) args) (CR CX outer P w H s Q E) s
theorem FnOk.mono {P : Program} {w : World} {K : PySem.W.Frag} {mg : Str → Option Value} {base : Heap} {CX : CXT} {j k : Nat} {f : Addr} {fd : FuncData} {ps : List Str} {sp : Sp} (F : FnOk P w K mg base CX j f fd ps sp) (h : j ≤ k) :
    FnOk P w K mg base CX k f fd ps sp := ⟨F.len, fun A outer s H args us vs Q E hr => F.run A outer s H args us vs Q E (hr.mono h)⟩
theorem FnOk.imp {P : Program} {w : World} {K : PySem.W.Frag} {mg : Str → Option Value} {base : Heap} {CX : CXT} {k : Nat} {f : Addr} {fd : FuncData} {ps : List Str} {sp sp' : Sp} (F : FnOk P w K mg base CX k f fd ps sp)
    (h : ∀ vs H Q E, sp' vs H Q E → sp vs H Q E) : FnOk P w K mg base CX k f fd ps sp' :=
  ⟨fun vs H Q E q => F.len vs H Q E (h _ _ _ _ q), fun A outer s H args us vs Q E hr he hb hv hs => F.run A outer s H args us vs Q E hr he hb hv (h _ _ _ _ hs)⟩

theorem Env0.make {P : Program} {w : World} {K : PySem.W.Frag} {mg : Str → Option Value} {base : Heap} {A : Around} {outer : List Env} {s : Shared} {H : Hp} (e : Env0 P w K mg base A outer s H) (C : Addr) (us : List Value) (kw : List (Str × Value)) :
    Env0 P w K mg base (A.under (.builtin "type.__call__" ⟨.ref C :: us, kw⟩)) outer s H := ⟨by first | exact e.frames | (simpa [Around.under, Code.envs, Code.isFrame, pushEnvs] using e.frames), e.mod, e.bs, e.bsz, e.funs, e.frf, e.hok, e.bare⟩
theorem Env0.in1 {P : Program} {w : World} {K : PySem.W.Frag} {mg : Str → Option Value} {base : Heap} {A : Around} {outer : List Env} {s : Shared} {H : Hp} (e : Env0 P w K mg base A outer s H) :
    Env0 P w K mg base A.in1 outer s H := ⟨e.frames, e.mod, e.bs, e.bsz, e.funs, e.frf, e.hok, e.bare⟩

section
variable {X : Cx} {pins : List (Addr × Obj)} {σ : St} {H : Hp} {s s' : Shared}
theorem Inv.env0 (I : Inv X pins σ H s) : Env0 X.prog X.w X.K X.mg X.base X.A X.stack s H :=
  ⟨I.ok.frames, I.ok.mod, I.bs, Nat.le_trans I.ok.bsz I.sz, I.stack, I.stkFree, I.hok, I.bare⟩
theorem Inv.after {Q : VK} {u : Value} (I : Inv X pins σ H s) (h : CE X.stack X.prog X.w H s Q u s') : EP X pins σ Q u s' := by
  obtain ⟨v, H', os, bare, un, hok, r, q⟩ := h
  obtain ⟨hh, g, d, t, os'⟩ := s'
  obtain rfl : os' = s.os := os
  exact ⟨v, H', I.call (h' := hh) (g' := g) (d' := d) (t' := t) (ch := []) un hok bare (fun b z => absurd z (by simp)), r, q⟩
end
def tCall (sp : Sp) (dvs : List V) (E : XK) (t : TA) : TE := fun σ H Q => t σ H fun vs H1 => sp (vs ++ dvs) H1 Q E
def tMeth (C : Addr) (m : Str) (sp : Sp) (dvs : List V) (E : XK) (ta : TE) (t : TA) : TE := fun σ H Q => ta σ H fun x H1 => ∃ a dx fs, x = .ref a ∧ H1 a = some (.ins C dx fs) ∧ fs.lookup m = none ∧
  t σ H1 fun vs H2 => sp (x :: (vs ++ dvs)) H2 Q E
def tMake (C : Addr) (sp : Sp) (dvs : List V) (E : XK) (t : TA) : TE := fun σ H Q => t σ H fun vs H1 => ∀ x dx, H1 x = none → H1 dx = none → dx ≠ x →
  sp (.ref x :: (vs ++ dvs)) (upd (upd H1 dx (.own x)) x (.ins C dx [])) (fun v H2 => v = .non ∧ Q (.ref x) H2) E
def Binds (K : PySem.W.Frag) (fd : FuncData) (ps : List Str) (ds : List Value) : Prop :=
  ∀ (s : Shared) (us : List Value), K.In s.heap → (us ++ ds).length = ps.length → BindsTo s fd ⟨us, []⟩ (ps.zip (us ++ ds))
theorem Binds.all {K : PySem.W.Frag} {fd : FuncData} {ps : List Str} (h : ∀ us : List Value, us.length = ps.length → bindArgs fd ⟨us, []⟩ = pure (ps.zip us)) : Binds K fd ps [] := fun s us _ hl => by
  rw [List.append_nil] at hl ⊢
  exact .of_eq (h us hl)
def Passes (CX : CXT) (X : Cx) (E : XK) : Prop := ∀ (pins : List (Addr × Obj)) (σ : St) (H : Hp) (s : Shared) (e : Value) (s' : Shared), Inv X pins σ H s → CX X.stack H s E e s' → X.xe e s'

section
variable {X : Cx} {CX : CXT} {k : Nat} {f C : Addr} {fd : FuncData} {ps : List Str} {sp : Sp} {dvs : List V} {ds : List Value} {E : XK} {x m : Str} {p pos apos : Pos} {e o : Expr} {es : List Expr} {ta : TE} {t : TA}
theorem run_fn {pins : List (Addr × Obj)} {σ : St} {H : Hp} {s : Shared} {Q : VK} {us : List Value} {vs : List V} (F : FnOk X.prog X.w X.K X.mg X.base CX k f fd ps sp) (hr : Room k X.A) (hb : Binds X.K fd ps ds) (hd : Vals dvs ds) (hx : Passes CX X E)
    (I : Inv X pins σ H s) (r : Vals vs us) (h : sp (vs ++ dvs) H Q E) : wpAny (model X.prog X.w) X.A (call (.ref f) us) (EP X pins σ Q) X.xe s := by
  have r2 : Vals (vs ++ dvs) (us ++ ds) := r.append hd
  have hl : (us ++ ds).length = ps.length := by rw [← r2.length]; exact F.len _ _ _ _ h
  refine wpAny_call (codeAny_mono (F.run X.A X.stack s H ⟨us, []⟩ (us ++ ds) (vs ++ dvs) Q E hr I.env0 (hb s us I.kIn hl) r2 h) fun r s' hq => ?_)
  cases r with
  | error e => exact hx pins σ H s e s' I hq
  | ok fl =>
    cases fl with
    | ret u => exact I.after hq
    | next => exact False.elim hq
    | brk => exact False.elim hq
    | cont => exact False.elim hq

theorem pe_call (F : FnOk X.prog X.w X.K X.mg X.base CX k f fd ps sp) (hr : Room k X.A) (hg : Gl X x) (hm : X.mg x = some (.ref f)) (hk : PySem.W.keepIn X.K (.ref f) = true) (hb : Binds X.K fd ps ds) (hd : Vals dvs ds) (hx : Passes CX X E)
    (ha : PA X (e :: es) t) (hdb : (x == ("__debug__" : Str)) = false := by decide) (he : starEach (e :: es) X.env = (false, eval e X.env) :: starEach es X.env := by rfl) (hpl : (backTo pos (starEach es X.env)).any (·.1) = false := by rfl) :
    PE X (.Call (.Name x p) (e :: es) [] pos) (tCall sp dvs E t) := by
  intro pins s σ H Q I h
  refine wpAny_Call_Name_kw (ld_glob I hg hm ?_ hdb)
  refine PySem.W.callWith_K (h₀ := X.base) I.ok.mod.kin hk (thn (ha pos pins s σ H _ I h) fun us s1 ⟨vs, H1, I1, r, q⟩ => ⟨I1.kIn, ?_⟩) he hpl
  exact run_fn F hr hb hd hx I1 r q
theorem pe_meth {pl : Sem Bool} (he : PE X o ta) (c : Cls X.K C) (hm : Meth X.K C m f) (F : FnOk X.prog X.w X.K X.mg X.base CX k f fd ps sp) (hr : Room k X.A) (hb : Binds X.K fd ps ds) (hd : Vals dvs ds) (hx : Passes CX X E) (ha : PA X (e :: es) t)
    (hst : starEach (e :: es) X.env = (false, eval e X.env) :: starEach es X.env := by rfl) (hpl : (backTo pos (starEach es X.env)).any (·.1) = false := by rfl)
    (ht : eval (.Call (.Attribute o m apos) (e :: es) [] pos) X.env = (do
      let ov ← eval o X.env
      standAt apos.atName
      let (f, first) ← holding [ov] (getMethod ov m pl)
      callWith pos f first (backTo pos (starEach (e :: es) X.env)) (backToKw pos (keywordEach [] X.env))) := by rfl) :
    PE X (.Call (.Attribute o m apos) (e :: es) [] pos) (tMeth C m sp dvs E ta t) := by
  intro pins s σ H Q I h
  refine PySem.W.methodCall_KW (pl := pl) (thn (he pins s σ H _ I h) fun u s1 ⟨x, H1, I1, rx, a, dx, fs, ex, ea, l, q⟩ => ?_) ht
  subst ex
  obtain rfl : u = Value.ref a := rx
  refine getmeth_ok I1 ea c hm l ?_
  refine PySem.W.callWith_K (first := [.ref a]) (h₀ := X.base) I.ok.mod.kin hm.kp (thn (ha pos pins s1 σ H1 _ I1 q) fun us s2 ⟨vs, H2, I2, r, q2⟩ => ⟨I2.kIn, ?_⟩) hst hpl
  exact run_fn (us := .ref a :: us) (vs := .ref a :: vs) F hr hb hd hx I2 (.cons rfl r) q2
theorem pe_meth0 {pl : Sem Bool} (he : PE X o ta) (c : Cls X.K C) (hm : Meth X.K C m f) (F : FnOk X.prog X.w X.K X.mg X.base CX k f fd ps sp) (hr : Room k X.A) (hb : Binds X.K fd ps ds) (hd : Vals dvs ds) (hx : Passes CX X E)
    (ht : eval (.Call (.Attribute o m apos) [] [] pos) X.env = (do
      let ov ← eval o X.env
      standAt apos.atName
      let (f, first) ← holding [ov] (getMethod ov m pl)
      callWith pos f first (backTo pos (starEach [] X.env)) (backToKw pos (keywordEach [] X.env))) := by rfl) :
    PE X (.Call (.Attribute o m apos) [] [] pos) (tMeth C m sp dvs E ta tNil) := by
  intro pins s σ H Q I h
  refine PySem.W.methodCall_KW (pl := pl) (thn (he pins s σ H _ I h) fun u s1 ⟨x, H1, I1, rx, a, dx, fs, ex, ea, l, q⟩ => ?_) ht
  subst ex
  obtain rfl : u = Value.ref a := rx
  refine getmeth_ok I1 ea c hm l ?_
  exact PySem.W.callWith_K0 (first := [.ref a]) I1.kIn hm.kp (run_fn (us := [.ref a]) (vs := [.ref a]) F hr hb hd hx I1 (.cons rfl .nil) q)
structure Mk (K : PySem.W.Frag) (C f : Addr) : Prop where
  makes : PySem.W.makesIn K C = true
  init : PySem.W.findIn K (.ref C) "__init__" = some (some (.ref f))
  fn : PySem.W.isFn K (.ref f) = true
  kp : PySem.W.keepIn K (.ref C) = true

theorem run_make {pins : List (Addr × Obj)} {σ : St} {H : Hp} {s : Shared} {Q : VK} {us : List Value} {vs : List V} (M : Mk X.K C f) (F : FnOk X.prog X.w X.K X.mg X.base CX k f fd ps sp) (hr : Room (k + 1) X.A) (hb : Binds X.K fd ps ds) (hd : Vals dvs ds)
    (hx : Passes CX X E) (I : Inv X pins σ H s) (r : Vals vs us)
    (h : ∀ x dx, H x = none → H dx = none → dx ≠ x → sp (.ref x :: (vs ++ dvs)) (upd (upd H dx (.own x)) x (.ins C dx [])) (fun v H2 => v = .non ∧ Q (.ref x) H2) E) :
    wpAny (model X.prog X.w) X.A (call (.ref C) us) (EP X pins σ Q) X.xe s := by
  have hq := h (s.heap.objs.size + 1) s.heap.objs.size (I.hok.fresh (Nat.le_succ _)) (I.hok.fresh (Nat.le_refl _)) (Nat.ne_of_lt (Nat.lt_succ_self _))
  have I2 := Inv.made (C := C) I
  have r2 : Vals (V.ref (s.heap.objs.size + 1) :: (vs ++ dvs)) (Value.ref (s.heap.objs.size + 1) :: (us ++ ds)) := .cons rfl (r.append hd)
  have hl : (Value.ref (s.heap.objs.size + 1) :: us ++ ds).length = ps.length := by
    have e := r2.length
    rw [F.len _ _ _ _ hq] at e
    exact e.symm
  refine wpAny_call (make_map (f := f) I.kIn M.makes M.init (beq_iff_eq.mp M.fn) (codeAny_mono (F.run _ X.stack _ _ ⟨Value.ref (s.heap.objs.size + 1) :: us, []⟩ (Value.ref (s.heap.objs.size + 1) :: (us ++ ds)) _ _ E (hr.make C us [])
    (I2.env0.make C us []) (hb _ (Value.ref (s.heap.objs.size + 1) :: us) I2.kIn hl) r2 hq) fun r s' hq' => ?_))
  cases r with
  | error e => exact hx pins σ _ _ e s' I2 hq'
  | ok fl =>
    cases fl with
    | ret u =>
      obtain ⟨v, H', I3, rv, ev, q3⟩ := I2.after hq'
      subst ev
      exact ⟨rv, ⟨V.ref (s.heap.objs.size + 1), H', I3, rfl, q3⟩⟩
    | next => exact False.elim hq'
    | brk => exact False.elim hq'
    | cont => exact False.elim hq'
theorem pe_make (M : Mk X.K C f) (F : FnOk X.prog X.w X.K X.mg X.base CX k f fd ps sp) (hr : Room (k + 1) X.A) (hg : Gl X x) (hm : X.mg x = some (.ref C)) (hb : Binds X.K fd ps ds) (hd : Vals dvs ds) (hx : Passes CX X E)
    (ha : PA X (e :: es) t) (hdb : (x == ("__debug__" : Str)) = false := by decide) (he : starEach (e :: es) X.env = (false, eval e X.env) :: starEach es X.env := by rfl) (hpl : (backTo pos (starEach es X.env)).any (·.1) = false := by rfl) :
    PE X (.Call (.Name x p) (e :: es) [] pos) (tMake C sp dvs E t) := by
  intro pins s σ H Q I h
  refine wpAny_Call_Name_kw (ld_glob I hg hm ?_ hdb)
  refine PySem.W.callWith_K (h₀ := X.base) I.ok.mod.kin M.kp (thn (ha pos pins s σ H _ I h) fun us s1 ⟨vs, H1, I1, r, q⟩ => ⟨I1.kIn, ?_⟩) he hpl
  exact run_make M F hr hb hd hx I1 r q
end
section
variable {X : Cx} {CX : CXT} {k : Nat} {f C : Addr} {fd : FuncData} {ps ks : List Str} {sp : Sp} {E : XK} {x m : Str} {p pos apos kpos : Pos} {e o : Expr} {es : List Expr} {kws : List Keyword} {te ta : TE} {t tk : TA} {nm : Option Str}
variable {g : List Value → List Value → List Value} {gV : List V → List V → List V}
end
structure FnScope (N P : List Str) (sc : Scope) : Prop where
  kind : sc.kind = .function
  co : sc.isCoroutine = false
  gen : sc.isGenerator = false
  nd : N.Nodup
  pre : N.take P.length = P
  par : ∀ x ∈ P, sc.names.lookup x = some .local ∨ sc.names.lookup x = some .cell
  nofree : ∀ y ∈ sc.names, y.2 ≠ .free

theorem bindL_out {kindOf : Str → Option NameKind} {x : Str} : ∀ {binds : List (Str × Value)} {m : Str → Option Value}, (∀ v, (x, v) ∉ binds) → bindL kindOf binds m x = m x
  | [], _, _ => rfl
  | (n, v) :: r, m, h => by
    unfold bindL
    rw [bindL_out fun w hw => h w (List.mem_cons_of_mem _ hw)]
    split
    · have : x ≠ n := by rintro rfl; exact h v List.mem_cons_self
      simp [this]
    · rfl
theorem bindC_out {kindOf : Str → Option NameKind} {x : Str} : ∀ {binds : List (Str × Value)} {m : Str → Option Value}, (∀ v, (x, v) ∉ binds) → bindC kindOf binds m x = m x
  | [], _, _ => rfl
  | (n, v) :: r, m, h => by
    unfold bindC
    rw [bindC_out fun w hw => h w (List.mem_cons_of_mem _ hw)]
    split
    · rfl
    · have : x ≠ n := by rintro rfl; exact h v List.mem_cons_self
      simp [this]
theorem bindL_get {kindOf : Str → Option NameKind} {x : Str} {v : Value} : ∀ {P : List Str} {vs : List Value} {i : Nat} {m : Str → Option Value}, P.Nodup → P[i]? = some x → vs[i]? = some v → kindOf x = some .local →
    bindL kindOf (P.zip vs) m x = some v
  | [], _, _, _, _, h, _, _ => by simp at h
  | _ :: _, [], _, _, _, _, h, _ => by simp at h
  | p :: P, w :: vs, 0, m, nd, h1, h2, hk => by
    simp at h1 h2; subst h1; subst h2
    show bindL kindOf ((p, w) :: P.zip vs) m p = _
    unfold bindL
    rw [bindL_out fun v hv => (List.nodup_cons.mp nd).1 (List.of_mem_zip hv).1, if_pos hk]
    simp
  | p :: P, w :: vs, i + 1, m, nd, h1, h2, hk => by
    show bindL kindOf ((p, w) :: P.zip vs) m x = _
    unfold bindL
    exact bindL_get (i := i) (List.nodup_cons.mp nd).2 (by simpa using h1) (by simpa using h2) hk
theorem bindC_get {kindOf : Str → Option NameKind} {x : Str} {v : Value} : ∀ {P : List Str} {vs : List Value} {i : Nat} {m : Str → Option Value}, P.Nodup → P[i]? = some x → vs[i]? = some v → kindOf x ≠ some .local →
    bindC kindOf (P.zip vs) m x = some v
  | [], _, _, _, _, h, _, _ => by simp at h
  | _ :: _, [], _, _, _, _, h, _ => by simp at h
  | p :: P, w :: vs, 0, m, nd, h1, h2, hk => by
    simp at h1 h2; subst h1; subst h2
    show bindC kindOf ((p, w) :: P.zip vs) m p = _
    unfold bindC
    rw [bindC_out fun v hv => (List.nodup_cons.mp nd).1 (List.of_mem_zip hv).1, if_neg hk]
    simp
  | p :: P, w :: vs, i + 1, m, nd, h1, h2, hk => by
    show bindC kindOf ((p, w) :: P.zip vs) m x = _
    unfold bindC
    exact bindC_get (i := i) (List.nodup_cons.mp nd).2 (by simpa using h1) (by simpa using h2) hk
def start (N : List Str) (vs : List V) : St := vs.map some ++ List.replicate (N.length - vs.length) none
def cxOf (CX : CXT) (P : Program) (w : World) (K : PySem.W.Frag) (mg : Str → Option Value) (base : Heap) (N : List Str) (qual : Str) (scope : Scope) (f : Addr) (cd : Value) (A : Around) (outer : List Env) (s : Shared) (H : Hp) (E : XK) : Cx where
  prog := P
  w := w
  K := K
  mg := mg
  base := base
  A := A.deeper (envOfC qual scope s.heap.objs.size f cd)
  N := N
  s₀ := s
  H₀ := H
  env := envOfC qual scope s.heap.objs.size f cd
  outer := outer
  stack := envOfC qual scope s.heap.objs.size f cd :: outer
  ex := []
  calm := true
  fn := fun _ => true
  pn := []
  xe := fun e s' => wpAny (model P w) (A.deeper (envOfC qual scope s.heap.objs.size f cd)) (leaving (envOfC qual scope s.heap.objs.size f cd) e) (fun _ s'' => CX outer H s E e s'') (fun e' s'' => CX outer H s E e' s'') s'

theorem cell_has {sc : Scope} {n : Nat} {x : Str} (h : sc.names.lookup x = some .cell) : ∃ c, (cellsFrom n sc.names []).lookup x = some c := by
  have q := PySem.W.cellsFrom_some sc.names n [] (.inl h)
  exact Option.isSome_iff_exists.mp q

theorem inv_start {CX : CXT} {P : Program} {w : World} {K : PySem.W.Frag} {mg : Str → Option Value} {base : Heap} {N ps : List Str} {qual : Str} {scope : Scope} {f : Addr} {cd : Value} {A : Around} {outer : List Env} {s s1 : Shared} {H : Hp} {E : XK} {us : List Value} {vs : List V}
    (S : FnScope N ps scope) (hd : A.handled = none) (e0 : Env0 P w K mg base A outer s H) (hl : vs.length = ps.length) (r : Vals vs us)
    (x : InCallC s s.heap.objs.size (bindL (envOfC qual scope s.heap.objs.size f cd).kindOf (ps.zip us) fun _ => none) (cellsFrom (s.heap.objs.size + 1) scope.names []) (bindC (envOfC qual scope s.heap.objs.size f cd).kindOf (ps.zip us) fun _ => none) s1) :
    Inv (cxOf CX P w K mg base N qual scope f cd A outer s H E) [] (start N vs) H s1 := by
  have hpl : ps.length ≤ N.length := by have := congrArg List.length S.pre; rw [List.length_take] at this; omega
  obtain ⟨h1, tk, rfl, hk⟩ := x.done
  have noA : ∀ b : Addr, b ∉ (cxOf CX P w K mg base N qual scope f cd A outer s H E).ex := fun b z => absurd (show b ∈ ([] : List Addr) from z) (by simp)
  refine ⟨⟨e0.mod, S.kind, rfl, rfl, Nat.le_refl _, fun y z c h1 h2 => ?_, fun y hy => ?_, fun y c _ h => ?_, fun _ => hd, Around.frames_deeper e0.frames, .inr ⟨rfl, rfl⟩, fun b z => absurd z (noA b), e0.bs, e0.bsz, fun b _ _ => noA b, fun b z => absurd z (noA b), e0.funs, e0.frf⟩,
    rfl, e0.bare, Un.kept hk, ⟨_, x.toInCall.ns, fun i y v h1 h2 h3 => ?_⟩, fun y c h => ⟨_, x.cell y c h⟩, e0.hok.fresh (Nat.le_refl _), fun y c h => ?_, fun p hp => absurd (show p ∈ ([] : List (Addr × Obj)) from hp) (by simp), e0.hok.kept hk, ?_⟩
  · exact name_of_addr x.apart (PySem.mem_of_lookup h1) (PySem.mem_of_lookup h2)
  · have hy : scope.names.lookup y = some .cell ∨ scope.names.lookup y = some .free := hy
    rcases hy with hy | hy
    · exact cell_has hy
    · exact absurd rfl (S.nofree _ (PySem.mem_of_lookup hy))
  · exact Nat.le_of_lt (x.above y c (PySem.mem_of_lookup h))
  · have hi : i < vs.length := by
      unfold start at h2
      by_cases hi : i < vs.length
      · exact hi
      · rw [List.getElem?_append_right (by simpa using hi)] at h2
        rw [List.getElem?_replicate] at h2
        split at h2 <;> cases h2
    have ha : vs[i]? = some v := by
      unfold start at h2
      rw [List.getElem?_append_left (by simpa using hi), List.getElem?_map] at h2
      cases e : vs[i]? with
      | none => rw [e] at h2; cases h2
      | some a => rw [e] at h2; cases h2; rfl
    obtain ⟨u, hu, rv⟩ := r.get ha
    have hp : ps[i]? = some y := by
      rw [← S.pre, List.getElem?_take_of_lt (by omega)]; exact h1
    have ndP : ps.Nodup := by rw [← S.pre]; exact S.nd.sublist (List.take_sublist _ _)
    refine ⟨u, rv, ?_⟩
    rcases S.par y (List.mem_of_getElem? hp) with k | k
    · exact .inl ⟨k, bindL_get ndP hp hu k⟩
    · obtain ⟨c, e⟩ := cell_has (n := s.heap.objs.size + 1) k
      refine .inr ⟨.inl k, c, e, ?_⟩
      have q := x.cell y c e
      rw [bindC_get ndP hp hu (by show scope.names.lookup y ≠ _; rw [k]; decide)] at q
      exact q
  · exact e0.hok.fresh (Nat.le_of_lt (x.above y c (PySem.mem_of_lookup h)))
  · unfold start
    show _ = N.length
    rw [List.length_append, List.length_map, List.length_replicate]
    omega
theorem fn_of {CX : CXT} {P : Program} {w : World} {K : PySem.W.Frag} {mg : Str → Option Value} {base : Heap} {k : Nat} {f : Addr} {name qual : Str} {params : Arguments} {body : List Stmt} {scope : Scope} {dV kV doc pm cdv ct oc : Value} {an od : Option Addr}
    {osl : Array (Option Value)} {N ps : List Str} {sp : Sp} (lk : K.lookup f = some ⟨oc, od, .func (PySem.W.fnOf name qual params body scope dV kV doc pm an cdv ct), osl⟩) (hcd : PySem.W.codeIn K cdv qual = true) (S : FnScope N ps scope)
    (len : ∀ vs H Q E, sp vs H Q E → vs.length = ps.length)
    (hbody : ∀ (A : Around) (outer : List Env) (s : Shared) (H : Hp) (vs : List V) (Q : VK) (E : XK), Room k (A.deeper (envOfC qual scope s.heap.objs.size f cdv)) → sp vs H Q E →
      ∃ t, PSs (cxOf CX P w K mg base N qual scope f cdv A outer s H E) body t ∧ t { nx := fun _ H' => Q .non H', rt := Q } (start N vs) H) :
    FnOk P w K mg base CX (k + 1) f (PySem.W.fnOf name qual params body scope dV kV doc pm an cdv ct) ps sp := by
  refine ⟨len, fun A outer s H args us vs Q E hr e0 hb r hsp => ?_⟩
  have hl := len _ _ _ _ hsp
  have KX : K.In s.heap := e0.mod.kin.keeps fun b o e => (e0.bs b o e).1
  have lim : s.heap.NoLimit := e0.mod.nolimit.keeps fun b o e => (e0.bs b o e).1
  have hkind : ∀ y ∈ ps.zip us, scope.names.lookup y.1 = some .local ∨ (scope.names.lookup y.1 = some .cell ∧ ((cellsFrom (s.heap.objs.size + 1) scope.names []).lookup y.1).isSome = true) := fun ⟨n, v⟩ hy => by
    rcases S.par n (List.of_mem_zip hy).1 with q | q
    · exact .inl q
    · exact .inr ⟨q, PySem.W.cellsFrom_some _ _ _ (.inl q)⟩
  refine codeAny_call_function hr.depth (KX _ _ lk) rfl S.co S.gen rfl (PySem.W.codeRec_of KX hcd) (hb _ _ _ _ ?_)
  refine wpAny_newFunctionEnv_cells S.kind hkind fun env he s1 x => ?_
  subst he
  refine ⟨lim.keeps x.toInCall.keep, codeAny_func ?_⟩
  obtain ⟨t, ht, hq⟩ := hbody A outer s H vs Q E (hr.deeper _) hsp
  have I : Inv (cxOf CX P w K mg base N qual scope f cdv A outer s H E) [] (start N vs) H s1 := inv_start S hr.hd e0 hl r x
  refine wpAny_mono (ht [] s1 (start N vs) H _ I hq) (fun fl s' hs => ?_) fun e s' hs => hs
  have fin : ∀ {σ' : St} {H' : Hp} {v : V} {u : Value}, Inv (cxOf CX P w K mg base N qual scope f cdv A outer s H E) [] σ' H' s' → RelV v u → Q v H' → CE outer P w H s Q u s' :=
    fun {σ' H' v u} J rv q => ⟨v, H', J.os, J.bare, J.base, J.hok, rv, q⟩
  cases fl with
  | ret u =>
    obtain ⟨v, σ', H', J, rv, q⟩ := hs
    exact fin J rv q
  | next =>
    obtain ⟨σ', H', J, q⟩ := hs
    exact fin (v := V.non) (u := Value.none) J rfl q
  | brk =>
    obtain ⟨_, _, _, q⟩ := hs
    exact False.elim q
  | cont =>
    obtain ⟨_, _, _, q⟩ := hs
    exact False.elim q
end L2

namespace L2
open PySem PySem.Spec PyProof.Rows
section
variable {X : Cx} {x : Str} {p pos : Pos} {e : Expr} {es : List Expr} {t : TA} {id T : String} {r : List V → Hp → VK → Prop}

def tCB (r : List V → Hp → VK → Prop) (t : TA) : TE := fun σ H Q => t σ H fun vs H1 => r vs H1 Q
theorem pe_callB (hc : CallR X (.builtin id) r) (hg : Gl X x) (hm : X.mg x = none) (hv : bootBuiltins x = some (.builtin id)) (ha : PA X (e :: es) t) (hn : x ≠ "__name__" := by decide) (hdb : (x == ("__debug__" : Str)) = false := by decide)
    (he : starEach (e :: es) X.env = (false, eval e X.env) :: starEach es X.env := by rfl) (hpl : (backTo pos (starEach es X.env)).any (·.1) = false := by rfl) : PE X (.Call (.Name x p) (e :: es) [] pos) (tCB r t) := by
  intro pins s σ H Q I h
  refine wpAny_Call_Name_kw (ld_blt I hg hm hv ?_ hn hdb)
  exact PyProof.Rows.callWith_builtin1 (thn (ha pos pins s σ H _ I h) fun us s1 ⟨vs, H1, I1, r1, q1⟩ => hc pins s1 σ H1 vs us Q I1 r1 q1) he hpl
theorem pe_callTy (hc : CallR X (.type T) r) (hg : Gl X x) (hm : X.mg x = none) (hv : bootBuiltins x = some (.type T)) (ha : PA X (e :: es) t) (hn : x ≠ "__name__" := by decide) (hdb : (x == ("__debug__" : Str)) = false := by decide)
    (he : starEach (e :: es) X.env = (false, eval e X.env) :: starEach es X.env := by rfl) (hpl : (backTo pos (starEach es X.env)).any (·.1) = false := by rfl) : PE X (.Call (.Name x p) (e :: es) [] pos) (tCB r t) := by
  intro pins s σ H Q I h
  refine wpAny_Call_Name_kw (ld_blt I hg hm hv ?_ hn hdb)
  exact PyProof.Rows.callWith_type1 (thn (ha pos pins s σ H _ I h) fun us s1 ⟨vs, H1, I1, r1, q1⟩ => hc pins s1 σ H1 vs us Q I1 r1 q1) he hpl
end
end L2

namespace HT
open PySem PyProof.Rows
section
open PySem.SeqAt
open PySem.AutoSeq1 (wpAny_loadPart')
open PySem.MeetsSeq PySem.MeetsSeq2 PySem.MeetsSeq3

end

section
variable {prog : Program} {w : World} {A : Around} {E : Value → Shared → Prop} {s : Shared}

def sIx (n d : Nat) : Option Int → Nat
  | none => d
  | some v => if v < 0 then (v + (n : Int)).toNat else min v.toNat n
theorem sIx_none (n d : Nat) : sIx n d none = d := rfl
theorem sIx_nat (n d k : Nat) : sIx n d (some (k : Int)) = min k n := by
  show (if (k : Int) < 0 then ((k : Int) + (n : Int)).toNat else min (k : Int).toNat n) = min k n
  rw [if_neg (by omega), Int.toNat_natCast]
end
end HT

namespace L2
open PySem PySem.Spec PyProof.Rows
abbrev TO := St → Hp → (Option Int → Hp → Prop) → Prop
def PO (X : Cx) (e : Option Expr) (t : TO) : Prop :=
  ∀ (pins : List (Addr × Obj)) (s : Shared) (σ : St) (H : Hp) (Q : Option Int → Hp → Prop), Inv X pins σ H s → t σ H Q →
    wpAny (model X.prog X.w) X.A (evalPart e X.env) (fun u s' => ∃ o H', Inv X pins σ H' s' ∧ IsPart u o ∧ Q o H') X.xe s
def tNoPart : TO := fun _ H Q => Q none H
def tPart (t : TE) : TO := fun σ H Q => t σ H fun x H1 => ∃ i, x = .int i ∧ Q (some i) H1

section
variable {X : Cx} {e : Expr} {te : TE} {lo hi : Option Expr} {tl th : TO} {pos p2 : Pos}

theorem po_none : PO X none tNoPart := by
  intro pins s σ H Q I h
  rw [evalPart_none]
  exact wpAny_pure ⟨none, H, I, .none, h⟩
theorem po_some (h : PE X e te) : PO X (some e) (tPart te) := by
  intro pins s σ H Q I hw
  rw [evalPart_some]
  refine thn (h pins s σ H _ I hw) fun u s1 ⟨x, H1, I1, r1, q1⟩ => ?_
  obtain ⟨i, rfl, q⟩ := q1
  obtain ⟨t, rfl⟩ := r1
  exact ⟨some i, H1, I1, .int i t, q⟩
def SlR (X : Cx) (r : V → Option Int → Option Int → Hp → VK → Prop) : Prop :=
  ∀ (pins : List (Addr × Obj)) (s : Shared) (σ : St) (H : Hp) (x : V) (v vl vu : Value) (lo hi : Option Int) (sl : Addr) (Q : VK), Inv X pins σ H s → RelV x v → s.heap.IsSliceOf sl vl vu .none → IsPart vl lo → IsPart vu hi → r x lo hi H Q →
    ∃ T id, typeLookup (.type T) "__getitem__" = pure (some (.builtin id)) ∧ s.TypeIs v T ∧ wpAny (model X.prog X.w) X.A (getItem v (.ref sl)) (EP X pins σ Q) X.xe s
def tSl (r : V → Option Int → Option Int → Hp → VK → Prop) (te : TE) (tl th : TO) : TE := fun σ H Q => te σ H fun x H1 => tl σ H1 fun l H2 => th σ H2 fun u H3 => r x l u H3 Q
theorem pe_slice {r : V → Option Int → Option Int → Hp → VK → Prop} (hr : SlR X r) (he : PE X e te) (hl : PO X lo tl) (hu : PO X hi th) : PE X (.Subscript e (.Slice lo hi none p2) pos) (tSl r te tl th) := by
  intro pins s σ H Q I h
  refine Subscript_ (thn (he pins s σ H _ I h) fun v s1 ⟨x, H1, I1, r1, q1⟩ => ?_)
  refine wpAny_Slice (thn (hl pins s1 σ H1 _ I1 q1) fun vl s2 ⟨l, H2, I2, pl, q2⟩ => thn (hu pins s2 σ H2 _ I2 q2) fun vu s3 ⟨u, H3, I3, pu, q3⟩ => ?_)
  rw [evalPart_none]
  refine wpAny_pure ?_
  have I4 : Inv X pins σ H3 { s3 with heap := s3.heap.push { cls := .type "slice", data := .fields #[vl, vu, .none] } } := I3.kept (t' := s3.toks) fun b ob q => Heap.get?_push_of_some _ q
  obtain ⟨T, id, hT, ht, hg⟩ := hr pins { s3 with heap := s3.heap.push { cls := .type "slice", data := .fields #[vl, vu, .none] } } σ H3 x v vl vu l u s3.heap.objs.size Q I4 r1 (Heap.IsSliceOf.new ..) pl pu q3
  show wpAny (model X.prog X.w) X.A (subscriptTail e (.Slice lo hi none p2) v (.ref s3.heap.objs.size)) (EP X pins σ Q) X.xe { s3 with heap := s3.heap.push { cls := .type "slice", data := .fields #[vl, vu, .none] } }
  exact tail_any (ops := [.ref s3.heap.objs.size, v]) ht hT hg (by with_unfolding_all rfl)
def cutV (xs : List V) (lo hi : Option Int) : List V := (xs.drop (HT.sIx xs.length 0 lo)).take (HT.sIx xs.length xs.length hi - HT.sIx xs.length 0 lo)
theorem cutV_length (xs : List V) (lo hi : Option Int) : (cutV xs lo hi).length ≤ xs.length := by
  unfold cutV
  rw [List.length_take, List.length_drop]
  omega
end
end L2

namespace L2
open PySem PySem.Spec PyProof.Rows
def ixN (n : Nat) (i : Int) : Option Nat := if 0 ≤ i then (if i < n then some i.toNat else none) else if -(n : Int) ≤ i then some (i + n).toNat else none
def atI {α : Type} (xs : List α) (i : Int) : Option α := (ixN xs.length i).bind fun j => xs[j]?
theorem ixN_seq {n : Nat} {i : Int} {j : Nat} (h : ixN n i = some j) : seqIndex? i n = some j ∧ j < n ∧ -(n : Int) ≤ i ∧ i < n := by
  unfold ixN at h
  by_cases h0 : 0 ≤ i
  · rw [if_pos h0] at h
    by_cases h1 : i < n
    · rw [if_pos h1] at h
      have e : i.toNat = j := Option.some.inj h
      exact ⟨by rw [seqIndex_of h0 h1, e], by omega, by omega, h1⟩
    · rw [if_neg h1] at h; cases h
  · rw [if_neg h0] at h
    by_cases h1 : -(n : Int) ≤ i
    · rw [if_pos h1] at h
      have e : (i + n).toNat = j := Option.some.inj h
      exact ⟨by rw [seqIndex_neg (by omega) h1, e], by omega, h1, by omega⟩
    · rw [if_neg h1] at h; cases h
theorem atI_get {α : Type} {xs : List α} {i : Int} {v : α} (h : atI xs i = some v) : ∃ j, seqIndex? i xs.length = some j ∧ xs[j]? = some v ∧ j < xs.length ∧ -(xs.length : Int) ≤ i ∧ i < xs.length := by
  unfold atI at h
  cases e : ixN xs.length i with
  | none => rw [e] at h; cases h
  | some j =>
    rw [e] at h
    obtain ⟨h1, h2, h3, h4⟩ := ixN_seq e
    exact ⟨j, h1, h, h2, h3, h4⟩
theorem atI_nat {α : Type} {xs : List α} {j : Nat} {v : α} (h : xs[j]? = some v) : atI xs (j : Int) = some v := by
  have hj : j < xs.length := (List.getElem?_eq_some_iff.mp h).1
  have e : ixN xs.length (j : Int) = some j := by
    unfold ixN
    rw [if_pos (by omega), if_pos (by omega)]; simp
  unfold atI; rw [e]; exact h
def PlainIx (b : Expr) : Prop := ∀ o i, subscripted b false o i = operate [o, i] (getItem o i)
def IxR (X : Cx) (r : R2) : Prop :=
  ∀ (value slice : Expr) (pins : List (Addr × Obj)) (s : Shared) (σ : St) (H : Hp) (x y : V) (v u : Value) (Q : VK), Inv X pins σ H s → RelV x v → RelV y u → r x y H Q →
    subscripted slice false v u = operate [v, u] (getItem v u) → wpAny (model X.prog X.w) X.A (subscriptTail value slice v u) (EP X pins σ Q) X.xe s
def MtR (X : Cx) (id : String) (r : V → List V → Hp → VK → Prop) : Prop :=
  ∀ (pins : List (Addr × Obj)) (s : Shared) (σ : St) (H : Hp) (x : V) (xs : List V) (v : Value) (us : List Value) (Q : VK), Inv X pins σ H s → RelV x v → Vals xs us → r x xs H Q →
    wpAny (model X.prog X.w) X.A (call (.builtin id) (v :: us)) (EP X pins σ Q) X.xe s
section
variable {X : Cx} {a b : Expr} {ta tb : TE} {pos : Pos}
theorem pe_ix {r : R2} (hr : IxR X r) (ha : PE X a ta) (hb : PE X b tb) (hs : PlainIx b) : PE X (.Subscript a b pos) (tOp r ta tb) := by
  intro pins s σ H Q I h
  exact Subscript_ (binT ha hb I h fun v u s2 x y H2 I2 rx ry q => hr a b pins s2 σ H2 x y v u Q I2 rx ry q (hs _ _))

def rIxL (K : PySem.W.Frag) : R2 := fun x y H Q => ∃ p xs i v, x = .ref p ∧ y = .int i ∧ SqL K H p xs ∧ atI xs i = some v ∧ Q v H
def rIxT (K : PySem.W.Frag) : R2 := fun x y H Q => ∃ p xs i v, x = .ref p ∧ y = .int i ∧ SqT K H p xs ∧ atI xs i = some v ∧ Q v H
def rIxS : R2 := fun x y H Q => ∃ z i c, x = .str z ∧ y = .int i ∧ z.length ≤ sizeLine ∧ atI z.cps.toList i = some c ∧ Q (.str ⟨#[c]⟩) H
theorem ix_list : IxR X (rIxL X.K) := by
  intro value slice pins s σ H x y v u Q I rx ry h hs
  obtain ⟨p, xs, i, z, rfl, rfl, hq, he, q⟩ := h
  cases rx
  obtain ⟨t, rfl⟩ := ry
  obtain ⟨its, r, pl, hz⟩ := I.list hq
  obtain ⟨j, h1, h2, h3, h4, h5⟩ := atI_get he
  obtain ⟨w, ew, rw'⟩ := r.get h2
  have hl := r.length
  have hn := line63
  have fin : EP X pins σ Q w s := ⟨z, H, I, rw', q⟩
  by_cases h0 : 0 ≤ i
  · have hj : i.toNat = j := by
      rw [seqIndex_of h0 h5] at h1
      exact Option.some.inj h1
    exact item_listR pl.isList h0 (by omega) (by rw [hj]; simpa using ew) fin hs
  · have hj : (i + (its.toArray.size : Int)).toNat = j := by
      rw [seqIndex_neg (by omega) h4] at h1
      rw [List.size_toArray, ← hl]
      exact Option.some.inj h1
    exact subscriptTail_builtinR (x := w) pl.isList.typeIs slot_list_getitem.lookup
      (wpAny_getItem_list_neg (Q := fun r s' => r = w ∧ EP X pins σ Q r s') pl.isList (by omega) (by rw [List.size_toArray] <;> omega) (by omega) (by rw [hj]; simpa using ew) ⟨rfl, fin⟩) hs
theorem ix_tup : IxR X (rIxT X.K) := by
  intro value slice pins s σ H x y v u Q I rx ry h hs
  obtain ⟨p, xs, i, z, rfl, rfl, hq, he, q⟩ := h
  cases rx
  obtain ⟨t, rfl⟩ := ry
  obtain ⟨its, r, pl, hz⟩ := I.tuple hq
  obtain ⟨j, h1, h2, h3, h4, h5⟩ := atI_get he
  obtain ⟨w, ew, rw'⟩ := r.get h2
  have hl := r.length
  have hn := line63
  have fin : EP X pins σ Q w s := ⟨z, H, I, rw', q⟩
  exact subscriptTail_builtinR (x := w) pl.typeIs slot_tuple_getitem.lookup
    (getItem_tuple (j := j) (Q := fun r s' => r = w ∧ EP X pins σ Q r s') pl (by omega) (by omega) (by rw [List.size_toArray, ← hl]; exact h1) (by simpa using ew) ⟨rfl, fin⟩) hs
theorem ix_str : IxR X rIxS := by
  intro value slice pins s σ H x y v u Q I rx ry h hs
  obtain ⟨z, i, c, rfl, rfl, hz, he, q⟩ := h
  obtain ⟨t, rfl⟩ := rx
  obtain ⟨t', rfl⟩ := ry
  obtain ⟨j, h1, h2, h3, h4, h5⟩ := atI_get he
  have hl : z.cps.toList.length = z.length := by simp [Str.length]
  rw [hl] at h1 h4 h5
  have hn := line63
  exact tail_any (typeIs_str s z t) slot_str_getitem.lookup (getItem_str (c := c) (by
    have e1 : decide (i < -(2 ^ 63 : Int)) = false := decide_eq_false (by omega)
    have e2 : decide (i ≥ 2 ^ 63) = false := decide_eq_false (by omega)
    rw [e1, e2, Bool.or_false]) (by rw [h1]; simpa using h2) ⟨.str ⟨#[c]⟩, H, I.tok _, ⟨_, rfl⟩, q⟩) hs
theorem mapSeq_set (its : List Value) (n j : Nat) (u : Value) : Obj.mapSeq (·.setIfInBounds j u) { cls := .type "list", data := .seq its.toArray n } = { cls := .type "list", data := .seq (its.set j u).toArray n } := by
  simp [Obj.mapSeq]
theorem Inv.lst {pins : List (Addr × Obj)} {σ : St} {H : Hp} {s : Shared} {p : Addr} {xs : List V} (I : Inv X pins σ H s) (h : H p = some (.lst xs)) :
    ∃ (its : List Value) (n : Nat), Vals xs its ∧ s.heap.get? p = some { cls := .type "list", data := .seq its.toArray n } ∧ xs.length ≤ sizeLine := by
  obtain ⟨z, its, n, r, e⟩ := I.hok p _ h
  exact ⟨its, n, r, e, z⟩
theorem Inv.lstUpd {pins : List (Addr × Obj)} {σ : St} {H : Hp} {s : Shared} {p : Addr} {xs ys : List V} {its its' : List Value} {n n' : Nat} {f : Obj → Obj} (I : Inv X pins σ H s) (h : H p = some (.lst xs))
    (ho : s.heap.get? p = some { cls := .type "list", data := .seq its.toArray n }) (hf : f { cls := .type "list", data := .seq its.toArray n } = { cls := .type "list", data := .seq its'.toArray n' }) (r : Vals ys its') (hz : ys.length ≤ sizeLine) (t : Nat) :
    Inv X pins σ (upd H p (.lst ys)) { s with heap := s.heap.update p f, toks := t } := by
  have e : (s.heap.update p f).get? p = some { cls := .type "list", data := .seq its'.toArray n' } := by
    rw [Heap.get?_update_self f ho (by rw [hf] <;> rfl), hf]
  refine I.write (x := p) (e := p) (by rw [h]; trivial) (.inl rfl) (fun b u hb q => (Heap.get?_update_other _ _ (Ne.symm hb)).trans q) ⟨_, e⟩ ?_
  exact ⟨hz, its', n', r, e⟩
def rSetL : V → V → V → Hp → (Hp → Prop) → Prop := fun o i v H Q => ∃ p xs k j, o = .ref p ∧ i = .int k ∧ H p = some (.lst xs) ∧ ixN xs.length k = some j ∧ Q (upd H p (.lst (xs.set j v)))
theorem set_list : PSet X rSetL := by
  intro pins s σ H o i v ov iv u Q I ro ri rv h
  obtain ⟨p, xs, k, j, rfl, rfl, hp, hj, q⟩ := h
  cases ro
  obtain ⟨t, rfl⟩ := ri
  obtain ⟨its, n, r, ho, hz⟩ := I.lst hp
  obtain ⟨h1, h2, h3, h4⟩ := ixN_seq hj
  have hl := r.length
  have hn := line63
  have I' : Inv X pins σ (upd H p (.lst (xs.set j v))) { s with heap := s.heap.update p (Obj.mapSeq (·.setIfInBounds j u)) } :=
    I.lstUpd hp ho (mapSeq_set its n j u) (r.set rv j) (by rw [List.length_set]; exact hz) s.toks
  by_cases h0 : 0 ≤ k
  · have hk : k.toNat = j := by
      rw [seqIndex_of h0 h4] at h1
      exact Option.some.inj h1
    exact PySem.W.ki_setAt ho h0 (by omega) (by rw [List.size_toArray, ← hl]; exact h4) (by rw [hk]; exact ⟨_, I', q⟩)
  · have hk : (k + (its.toArray.size : Int)).toNat = j := by
      rw [seqIndex_neg (by omega) h3] at h1
      rw [List.size_toArray, ← hl]
      exact Option.some.inj h1
    exact PySem.W.ki_setBack ho (by omega) (by rw [List.size_toArray, ← hl]; exact h3) (by omega) (by rw [hk]; exact ⟨_, I', q⟩)
theorem slice_bounds (lo hi : Option Int) (n : Nat) : (sliceBounds lo hi none n).1 = ((HT.sIx n 0 lo : Nat) : Int) ∧ (sliceBounds lo hi none n).2.1 = ((HT.sIx n n hi : Nat) : Int) ∧ (sliceBounds lo hi none n).2.2 = 1 := by
  refine ⟨?_, ?_, rfl⟩
  · cases lo with
    | none => simp [sliceBounds, HT.sIx]
    | some i =>
      simp only [sliceBounds, HT.sIx, Option.getD_none, show (1 : Int) > 0 by decide, if_true]
      by_cases h : i < 0
      · simp only [h, if_true] <;> omega
      · simp only [h, if_false] <;> omega
  · cases hi with
    | none => simp [sliceBounds, HT.sIx]
    | some i =>
      simp only [sliceBounds, HT.sIx, Option.getD_none, show (1 : Int) > 0 by decide, if_true]
      by_cases h : i < 0
      · simp only [h, if_true] <;> omega
      · simp only [h, if_false] <;> omega
theorem slicePick_cut (its : List Value) (lo hi : Option Int) : slicePick its.toArray lo hi none = ((its.drop (HT.sIx its.length 0 lo)).take (HT.sIx its.length its.length hi - HT.sIx its.length 0 lo)).toArray := by
  obtain ⟨h1, h2, h3⟩ := slice_bounds lo hi its.toArray.size
  unfold slicePick
  rw [h1, h2, h3]
  simp only [sliceRange_one, pick_run, List.size_toArray] <;> rfl
def rSlL (K : PySem.W.Frag) : V → Option Int → Option Int → Hp → VK → Prop := fun x lo hi H Q => ∃ a xs, x = .ref a ∧ SqL K H a xs ∧ ∀ p, H p = none → Q (.ref p) (upd H p (.lst (cutV xs lo hi)))
theorem sl_list : SlR X (rSlL X.K) := by
  intro pins s σ H x v vl vu lo hi sl Q I rx hs pl pu h
  obtain ⟨a, xs, rfl, hx, q⟩ := h
  cases rx
  obtain ⟨its, r, ht, hz⟩ := I.list hx
  have hlen := r.length
  refine ⟨"list", _, slot_list_getitem.lookup, ht.isList.typeIs, ?_⟩
  refine wpAny_getItem_list_slice ht.isList hs pl pu .none (by simp) ?_ (by rw [List.size_toArray] <;> omega)
  rw [slicePick_cut, ← hlen]
  refine ⟨.ref s.heap.objs.size, _, I.laid (t' := s.toks) (o := .lst (cutV xs lo hi)) (fun b ob q => Heap.get?_push_of_some _ q) (Nat.le_refl _) ?_, rfl, q _ (I.hok.fresh (Nat.le_refl _))⟩
  exact ⟨Nat.le_trans (cutV_length xs lo hi) hz, _, 0, (r.drop (HT.sIx xs.length 0 lo)).take (HT.sIx xs.length xs.length hi - HT.sIx xs.length 0 lo), Heap.get?_push_size _ rfl⟩
theorem call_len_seq : CallR X (.builtin "len") (fun xs H Q => ∃ p ys, xs = [.ref p] ∧ (SqL X.K H p ys ∨ SqT X.K H p ys) ∧ Q (.int ys.length) H) := by
  intro pins s σ H xs us Q I r h
  obtain ⟨p, ys, rfl, hq, q⟩ := h
  obtain ⟨u, rfl, rx⟩ := vals1 r
  cases rx
  have hn := line63
  rcases hq with hq | hq
  · obtain ⟨its, r', pl, hz⟩ := I.list hq
    have hlen := r'.length
    exact Calls.call_len_list pl.isList (by simp only [List.size_toArray] <;> omega) ⟨.int ys.length, H, I.tok _, ⟨s.toks + 1, by rw [List.size_toArray, hlen]⟩, q⟩
  · obtain ⟨its, r', pl, hz⟩ := I.tuple hq
    have hlen := r'.length
    exact len_tuple pl (by simp only [List.size_toArray] <;> omega) ⟨.int ys.length, H, I.tok _, ⟨s.toks + 1, by rw [List.size_toArray, hlen]⟩, q⟩
theorem call_tuple_of : CallR X (.type "tuple") (fun xs H Q => ∃ p ys, xs = [.ref p] ∧ ((SqL X.K H p ys ∧ ∀ l, H l = none → Q (.ref l) (upd H l (.tup ys))) ∨ (SqT X.K H p ys ∧ Q (.ref p) H))) := by
  intro pins s σ H xs us Q I r h
  obtain ⟨p, ys, rfl, h⟩ := h
  obtain ⟨u, rfl, rx⟩ := vals1 r
  cases rx
  rcases h with ⟨hq, q⟩ | ⟨hq, q⟩
  · obtain ⟨its, r', pl, hz⟩ := I.list hq
    have hlen := r'.length
    refine call_tuple_list pl.isList (fun h' kp => ?_) (by simp only [List.size_toArray] <;> omega)
    have I1 : Inv X pins σ H { s with heap := h' } := I.kept (t' := s.toks) kp
    have I2 : Inv X pins σ (upd H h'.objs.size (.tup ys)) { s with heap := h'.push { cls := .type "tuple", data := .seq its.toArray } } :=
      I1.laid (t' := s.toks) (fun b o e => Heap.get?_push_of_some _ e) (Nat.le_refl _) (show ObjOk X.prog X.w _ _ _ (.tup ys) from ⟨hz, its, r', IsTup.new _ _, _, Heap.get?_push_size _ rfl, rfl⟩)
    exact ⟨.ref h'.objs.size, _, I2, rfl, q _ (I1.hok.fresh (Nat.le_refl _))⟩
  · obtain ⟨its, r', pl, hz⟩ := I.tuple hq
    exact call_tuple_same pl ⟨.ref p, H, I, rfl, q⟩
def tyV (K : PySem.W.Frag) (T : String) (x : V) (H : Hp) : Prop := match x with
  | .str _ => T = "str"
  | .int _ => T = "int"
  | .ref p => (T = "list" ∧ ∃ xs, SqL K H p xs) ∨ (T = "tuple" ∧ ∃ o, K.lookup p = some o ∧ o.cls = .type "tuple" ∧ o.dict = none) ∨
      (T = "dict" ∧ ((∃ kvs, H p = some (.dK kvs)) ∨ ∃ kvs, H p = some (.dT kvs))) ∨ (T = "set" ∧ ∃ S n, H p = some (.set S n)) ∨ (T = "tuple" ∧ ∃ xs, H p = some (.tup xs))
  | _ => False
theorem tyV_is {pins : List (Addr × Obj)} {σ : St} {H : Hp} {s : Shared} {T : String} {x : V} {v : Value} (I : Inv X pins σ H s) (r : RelV x v) (ty : tyV X.K T x H) :
    s.TypeIs v T ∧ ∀ a, v = .ref a → ∃ ob, s.heap.get? a = some ob ∧ ob.dict = none := by
  cases x with
  | str z =>
    obtain ⟨t, rfl⟩ := r
    cases (show T = "str" from ty)
    exact ⟨typeIs_str s z t, fun _ e => nomatch e⟩
  | int i =>
    obtain ⟨t, rfl⟩ := r
    cases (show T = "int" from ty)
    exact ⟨typeIs_int s i t, fun _ e => nomatch e⟩
  | ref p =>
    cases r
    rcases ty with ⟨rfl, xs, hq⟩ | ⟨rfl, o, hk, hc, hd⟩ | ⟨rfl, hk⟩ | ⟨rfl, S, n, hk⟩ | ⟨rfl, zs, hk⟩
    · obtain ⟨its, _, pl, _⟩ := I.list hq
      refine ⟨pl.isList.typeIs, fun a e => ?_⟩
      cases e
      obtain ⟨o, n, e, c, hd, _⟩ := pl
      exact ⟨o, e, hd⟩
    · refine ⟨⟨o, I.kIn p o hk, hc⟩, fun a e => ?_⟩
      cases e
      exact ⟨o, I.kIn _ o hk, hd⟩
    · have z : ∃ o, s.heap.get? p = some o ∧ o.ExactDict := by
        rcases hk with ⟨kvs, hk⟩ | ⟨kvs, hk⟩
        · obtain ⟨_, _, _, _, o, _, _, e, ex, _⟩ := I.hok p _ hk
          exact ⟨o, e, ex⟩
        · obtain ⟨_, _, _, _, o, _, _, e, ex, _⟩ := I.hok p _ hk
          exact ⟨o, e, ex⟩
      obtain ⟨o, e, ex⟩ := z
      refine ⟨⟨o, e, ex.1⟩, fun a e2 => ?_⟩
      cases e2
      exact ⟨o, e, ex.2.1⟩
    · obtain ⟨o, _, _, _, e, ex, _⟩ := I.hok p _ hk
      refine ⟨⟨o, e, ex.1⟩, fun a e2 => ?_⟩
      cases e2
      exact ⟨o, e, ex.2.1⟩
    · obtain ⟨_, _, _, ⟨o2, e2, c2, _⟩, o, e, hd⟩ := (show ObjOk X.prog X.w H s.heap p (.tup zs) from I.hok p _ hk)
      refine ⟨⟨o2, e2, c2⟩, fun a e3 => ?_⟩
      cases e3
      exact ⟨o, e, hd⟩
  | _ => exact False.elim ty
def tBM (K : PySem.W.Frag) (T : String) (r : V → List V → Hp → VK → Prop) (to : TE) (t : TA) : TE := fun σ H Q => to σ H fun x H1 => tyV K T x H1 ∧ t σ H1 fun xs H2 => r x xs H2 Q
variable {o e : Expr} {es : List Expr} {to : TE} {t : TA} {name : Str} {apos cpos : Pos} {T id : String} {r : V → List V → Hp → VK → Prop}
theorem pe_bm (pa : PlainAttrs T) (slot : Slot T name id) (hty : typeOf (.builtin id) = pure (.type "method_descriptor")) (hm : MtR X id r) (ho : PE X o to) (ha : PA X (e :: es) t)
    (hbase : attributeBase o name X.env (eval o X.env) = eval o X.env := by rfl)
    (hfew : ((backTo cpos (starEach (e :: es) X.env)).all (fun x => !x.1) && (backToKw cpos (keywordEach [] X.env)).all (fun x => x.1.isSome)
      && decide ((e :: es).length + ([] : List Keyword).length + (if ([] : List Keyword).isEmpty then 0 else 1) < 30)) = true := by rfl)
    (hline : (apos.endLine == cpos.line) = true := by rfl) (hs : starEach (e :: es) X.env = (false, eval e X.env) :: starEach es X.env := by rfl) (hplain : (backTo cpos (starEach es X.env)).any (·.1) = false := by rfl) :
    PE X (.Call (.Attribute o name apos) (e :: es) [] cpos) (tBM X.K T r to t) := by
  intro pins s σ H Q I h
  refine wpAny_Call_method_late hbase hfew hline rfl (thn (ho pins s σ H _ I h) fun v s1 ⟨x, H1, I1, r1, ty, q1⟩ => ?_)
  obtain ⟨h1, h2⟩ := tyV_is I1 r1 ty
  refine ⟨T, id, pa, slot, hty, h1, h2, ?_⟩
  have hA := ha cpos pins s1 σ H1 _ I1 q1
  rw [hs] at hA ⊢
  refine Calls.callWith_builtin (by show (false || (backTo cpos (starEach es X.env)).any (·.1)) = false; rw [hplain] <;> rfl) (Calls.evalArgs_plain ?_)
  exact thn hA fun us s2 ⟨vs, H2, I2, r2, q2⟩ => hm pins s2 σ H2 x vs v us Q I2 r1 r2 q2
end
end L2

namespace L2
open PySem PySem.Spec PyProof.Rows

def MtM (X : Cx) (id : String) (r : V → List V → Hp → VK → Prop) : Prop :=
  ∀ (pins : List (Addr × Obj)) (s : Shared) (σ : St) (H : Hp) (x : V) (xs : List V) (v : Value) (us : List Value) (Q : VK), Inv X pins σ H s → RelV x v → Vals xs us → r x xs H Q →
    wpAny (model X.prog X.w) X.A (call (.builtin id) (v :: us)) (EP X pins σ Q) X.xe s
theorem Vals.one {x : V} {us : List Value} (h : Vals [x] us) : ∃ u, us = [u] ∧ RelV x u := by
  cases h with
  | cons r t => cases t; exact ⟨_, rfl, r⟩
theorem Vals.two {x y : V} {us : List Value} (h : Vals [x, y] us) : ∃ u v, us = [u, v] ∧ RelV x u ∧ RelV y v := by
  cases h with
  | cons r t =>
    obtain ⟨v, rfl, q⟩ := Vals.one t
    exact ⟨_, _, rfl, r, q⟩
theorem Vals.zero : ∀ {us : List Value}, Vals [] us → us = []
  | _, .nil => rfl
theorem Vals.eraseIdx : ∀ {xs : List V} {us : List Value} (i : Nat), Vals xs us → Vals (xs.eraseIdx i) (us.eraseIdx i)
  | _, _, _, .nil => .nil
  | _, _, 0, .cons _ t => t
  | _, _, i + 1, .cons r t => .cons r (Vals.eraseIdx i t)
theorem Vals.reverse {xs : List V} {us : List Value} (h : Vals xs us) : Vals xs.reverse us.reverse := by
  induction h with
  | nil => exact .nil
  | cons r t ih => rw [List.reverse_cons, List.reverse_cons]; exact Vals.append ih (.cons r .nil)
section
variable {X : Cx} {pins : List (Addr × Obj)} {σ : St} {H : Hp} {s : Shared} {l b : Addr} {xs ys zs : List V}
theorem Inv.lset {its its' : List Value} {n : Nat} {f : Array Value → Array Value} {t' : Nat} (I : Inv X pins σ H s) (hH : H l = some (.lst xs))
    (e : s.heap.get? l = some { cls := .type "list", data := .seq its.toArray n }) (hf : f its.toArray = its'.toArray) (hv : Vals ys its') (hz : ys.length ≤ sizeLine) :
    Inv X pins σ (upd H l (.lst ys)) { s with heap := s.heap.update l (Obj.mapSeq f), toks := t' } := by
  have q := PySem.IsL.update e f
  rw [hf] at q
  refine I.write (x := l) (e := l) (by rw [hH]; exact trivial) (.inl rfl) (fun b' u hb hu => (Heap.get?_update_other s.heap (Obj.mapSeq f) (Ne.symm hb)).trans hu) ⟨_, q⟩ ?_
  exact ⟨hz, its', _, hv, q⟩
theorem Inv.lnew {its : List Value} {t' : Nat} (I : Inv X pins σ H s) (hv : Vals ys its) (hz : ys.length ≤ sizeLine) :
    Inv X pins σ (upd H s.heap.objs.size (.lst ys)) { s with heap := s.heap.push { cls := .type "list", data := .seq its.toArray }, toks := t' } :=
  I.laid (fun _ _ q => Heap.get?_push_of_some _ q) (Nat.le_refl _) ⟨hz, its, 0, hv, Heap.get?_push_size _ rfl⟩
theorem Inv.fresh (I : Inv X pins σ H s) : H s.heap.objs.size = none := I.hok.fresh (Nat.le_refl _)
theorem Inv.lstM (I : Inv X pins σ H s) (hH : H l = some (.lst xs)) : xs.length ≤ sizeLine ∧ ∃ (its : List Value) (n : Nat), Vals xs its ∧ xs.length = its.length ∧ s.heap.get? l = some { cls := .type "list", data := .seq its.toArray n } := by
  obtain ⟨z, its, n, r, e⟩ := I.hok l _ hH
  exact ⟨z, its, n, r, r.length, e⟩

theorem notLongL {n : Nat} (h : n ≤ sizeLine) : Builtin.List.listTooLong n = false := by
  unfold Builtin.List.listTooLong
  exact decide_eq_false (by omega)
end

section
variable {X : Cx}
def rAppend : V → List V → Hp → VK → Prop := fun x vs H Q => ∃ l xs y, x = .ref l ∧ vs = [y] ∧ H l = some (.lst xs) ∧ xs.length < sizeLine ∧ Q .non (upd H l (.lst (xs ++ [y])))
theorem mt_append : MtM X "list.append" rAppend := by
  intro pins s σ H x vs v us Q I rx rv h
  obtain ⟨l, xs, y, rfl, rfl, hH, hz, q⟩ := h
  cases rx
  obtain ⟨u, rfl, ru⟩ := rv.one
  obtain ⟨z, its, n, r, hl, e⟩ := I.lstM hH
  refine call_meets F.slot_list_append ⟨_, e, rfl⟩ F.entry_list_append (F.args_list_append_2 _ _) (PySem.list_append l its.toArray n u (by rw [List.size_toArray]; omega)) ⟨e, ?_⟩
  refine ⟨.non, _, I.lset (its' := its ++ [u]) hH e (by simp) (r.append (.cons ru .nil)) ?_, rfl, q⟩
  rw [List.length_append, List.length_singleton]
  omega

def rExtend : V → List V → Hp → VK → Prop := fun x vs H Q => ∃ l b xs zs, x = .ref l ∧ vs = [.ref b] ∧ H l = some (.lst xs) ∧ H b = some (.lst zs) ∧ xs.length + zs.length ≤ sizeLine ∧ Q .non (upd H l (.lst (xs ++ zs)))
theorem mt_extend : MtM X "list.extend" rExtend := by
  intro pins s σ H x vs v us Q I rx rv h
  obtain ⟨l, b, xs, zs, rfl, rfl, hH, hB, hz, q⟩ := h
  cases rx
  obtain ⟨u, rfl, ru⟩ := rv.one
  cases ru
  obtain ⟨z, its, n, r, hl, e⟩ := I.lstM hH
  obtain ⟨z2, its2, n2, r2, hl2, e2⟩ := I.lstM hB
  have hsz : its.toArray.size + its2.toArray.size ≤ sizeLine := by rw [List.size_toArray, List.size_toArray]; omega
  have hlong : ¬ (!its.toArray.isEmpty && Builtin.List.listTooLong (its.toArray.size + its2.toArray.size)) = true := by
    rw [notLongL hsz, Bool.and_false]
    exact Bool.false_ne_true
  refine call_meets F.slot_list_extend ⟨_, e, rfl⟩ F.entry_list_extend (F.args_list_extend_2 _ _)
    (AutoSeq1.list_extend_list_list_0 l its.toArray n b its2.toArray n2 hlong (by rw [List.size_toArray]; omega) (by omega)) ⟨e, e2, ?_⟩
  refine ⟨.non, _, I.lset (its' := its ++ its2) hH e (by simp) (r.append r2) ?_, rfl, q⟩
  rw [List.length_append]
  omega

def rCat : R2 := fun x y H Q => ∃ l b xs zs, x = .ref l ∧ y = .ref b ∧ H l = some (.lst xs) ∧ H b = some (.lst zs) ∧ xs.length + zs.length ≤ sizeLine ∧ ∀ p, H p = none → Q (.ref p) (upd H p (.lst (xs ++ zs)))
theorem op_cat : OpR X (binaryOp .Add) rCat := by
  intro pins s σ H x y v u Q I rx ry h
  obtain ⟨l, b, xs, zs, rfl, rfl, hH, hB, hz, q⟩ := h
  cases rx
  cases ry
  obtain ⟨z, its, n, r, hl, e⟩ := I.lstM hH
  obtain ⟨z2, its2, n2, r2, hl2, e2⟩ := I.lstM hB
  refine PySem.P.add_list e e2 ?_ (by rw [List.size_toArray, List.size_toArray]; omega)
  have ea : its.toArray ++ its2.toArray = (its ++ its2).toArray := by simp
  rw [ea]
  exact ⟨.ref _, _, I.lnew (t' := s.toks) (r.append r2) (by rw [List.length_append]; omega), rfl, q _ I.fresh⟩
end
section
variable {prog : Program} {w : World} {A : Around} {E : Value → Shared → Prop} {s : Shared}
end

section
variable {X : Cx}
end
end L2

namespace L2
open PySem PySem.Spec PyProof.Rows
section
variable {κ : Type} [DecidableEq κ]
def valV (kvs : List (κ × V)) (k : κ) : Option V := (kvs.find? fun kv => decide (kv.1 = k)).map (·.2)
def putK (kvs : List (κ × V)) (k : κ) (v : V) : List (κ × V) :=
  if (kvs.any fun kv => decide (kv.1 = k)) = true then kvs.map (fun kv => if kv.1 = k then (kv.1, v) else kv) else kvs ++ [(k, v)]
def dropK (kvs : List (κ × V)) (k : κ) : List (κ × V) := kvs.filter fun kv => decide (kv.1 ≠ k)

theorem valV_pos {p : κ × V} {r : List (κ × V)} {k : κ} (e : p.1 = k) : valV (p :: r) k = some p.2 := by simp [valV, List.find?_cons, e]
theorem valV_neg {p : κ × V} {r : List (κ × V)} {k : κ} (e : ¬ p.1 = k) : valV (p :: r) k = valV r k := by simp [valV, List.find?_cons, e]
theorem valV_any (k : κ) : ∀ kvs : List (κ × V), (kvs.any fun kv => decide (kv.1 = k)) = (valV kvs k).isSome
  | [] => rfl
  | p :: r => by
    rw [List.any_cons]
    by_cases e : p.1 = k
    · simp only [valV_pos e, decide_eq_true e, Bool.true_or, Option.isSome_some]
    · rw [valV_neg e, decide_eq_false e, Bool.false_or]; exact valV_any k r
theorem valV_snoc (k j : κ) (y : V) : ∀ kvs : List (κ × V), valV kvs k = none → valV (kvs ++ [(k, y)]) j = if j = k then some y else valV kvs j
  | [], _ => by
    by_cases e : k = j
    · rw [if_pos e.symm]; exact valV_pos (p := (k, y)) e
    · rw [if_neg (fun z => e z.symm)]; exact valV_neg (p := (k, y)) e
  | p :: r, hn => by
    rw [List.cons_append]
    have hk : ¬ p.1 = k := fun z => by rw [valV_pos z] at hn; cases hn
    rw [valV_neg hk] at hn
    have ih := valV_snoc k j y r hn
    by_cases e : p.1 = j
    · rw [valV_pos e, valV_pos e, if_neg (fun z => hk (e.trans z))]
    · rw [valV_neg e, valV_neg e, ih]
theorem length_putK (kvs : List (κ × V)) (k : κ) (v : V) : (putK kvs k v).length ≤ kvs.length + 1 := by
  unfold putK
  split
  · rw [List.length_map]; omega
  · rw [List.length_append, List.length_cons, List.length_nil]; omega
theorem putK_new {kvs : List (κ × V)} {k : κ} (v : V) (h : valV kvs k = none) : putK kvs k v = kvs ++ [(k, v)] := by
  unfold putK
  rw [valV_any, h]
  exact if_neg (by decide)

theorem RelO.isSome_eq {o : Option V} {u : Option Value} (r : RelO o u) : o.isSome = u.isSome := by
  cases o with
  | none => cases u with
    | none => rfl
    | some _ => exact (show False from r).elim
  | some _ => cases u with
    | none => exact (show False from r).elim
    | some _ => rfl
theorem RelO.getD {o : Option V} {u : Option Value} {d : V} {d' : Value} (r : RelO o u) (rd : RelV d d') : RelV (o.getD d) (u.getD d') := by
  cases o with
  | none => cases u with
    | none => exact rd
    | some _ => exact (show False from r).elim
  | some _ => cases u with
    | none => exact (show False from r).elim
    | some _ => exact r
theorem KV.val {kvs : List (κ × V)} {vs : List (κ × Value)} (r : KV kvs vs) (k : κ) : RelO (valV kvs k) (valueAt vs k) := by
  unfold KV at r
  induction r with
  | nil => exact True.intro
  | @cons p q ps qs h t ih =>
    obtain ⟨h1, h2⟩ := h
    by_cases e : p.1 = k
    · have e' : q.1 = k := h1.symm.trans e
      have b : valueAt (q :: qs) k = some q.2 := by simp [valueAt, List.find?_cons, e']
      rw [valV_pos e, b]; exact h2
    · have e' : ¬ q.1 = k := fun z => e (h1.trans z)
      have b : valueAt (q :: qs) k = valueAt qs k := by simp [valueAt, List.find?_cons, e']
      rw [valV_neg e, b]; exact ih
theorem KV.any {kvs : List (κ × V)} {vs : List (κ × Value)} (r : KV kvs vs) (k : κ) : (kvs.any fun kv => decide (kv.1 = k)) = vs.any fun kv => decide (kv.1 = k) := by
  unfold KV at r
  induction r with
  | nil => rfl
  | cons h t ih => rw [List.any_cons, List.any_cons, ih, h.1]
theorem KV.repl {kvs : List (κ × V)} {vs : List (κ × Value)} (r : KV kvs vs) (k : κ) {y : V} {u : Value} (ry : RelV y u) :
    KV (kvs.map fun kv => if kv.1 = k then (kv.1, y) else kv) (vs.map fun kv => if kv.1 = k then (kv.1, u) else kv) := by
  unfold KV at r ⊢
  induction r with
  | nil => exact .nil
  | @cons p q ps qs h t ih =>
    rw [List.map_cons, List.map_cons]
    refine .cons ?_ ih
    obtain ⟨h1, h2⟩ := h
    by_cases e : p.1 = k
    · rw [if_pos e, if_pos (h1.symm.trans e)]; exact ⟨h1, ry⟩
    · rw [if_neg e, if_neg (fun z => e (h1.trans z))]; exact ⟨h1, h2⟩
theorem KV.put {kvs : List (κ × V)} {vs : List (κ × Value)} (r : KV kvs vs) (k : κ) {y : V} {u : Value} (ry : RelV y u) : KV (putK kvs k y) (stored vs k u) := by
  unfold putK stored
  rw [r.any k]
  by_cases e : (vs.any fun kv => decide (kv.1 = k)) = true
  · rw [if_pos e, if_pos e]; exact r.repl k ry
  · rw [if_neg e, if_neg e]; exact Paired.snoc r ⟨rfl, ry⟩
theorem KV.drop {kvs : List (κ × V)} {vs : List (κ × Value)} (r : KV kvs vs) (k : κ) : KV (dropK kvs k) (without vs k) := by
  unfold KV at r ⊢
  unfold dropK without
  induction r with
  | nil => exact .nil
  | @cons p q ps qs h t ih =>
    obtain ⟨h1, h2⟩ := h
    rw [List.filter_cons, List.filter_cons]
    by_cases e : p.1 = k
    · have a : ¬ decide (p.1 ≠ k) = true := by simp [e]
      have b : ¬ decide (q.1 ≠ k) = true := by simp [h1.symm.trans e]
      rw [if_neg a, if_neg b]; exact ih
    · have e' : ¬ q.1 = k := fun z => e (h1.trans z)
      have a : decide (p.1 ≠ k) = true := by simp [e]
      have b : decide (q.1 ≠ k) = true := by simp [e']
      rw [if_pos a, if_pos b]; exact .cons ⟨h1, h2⟩ ih
theorem KV.keys {kvs : List (κ × V)} {vs : List (κ × Value)} (r : KV kvs vs) : kvs.map (·.1) = vs.map (·.1) := by
  unfold KV at r
  induction r with
  | nil => rfl
  | cons h t ih => rw [List.map_cons, List.map_cons, ih, h.1]
theorem KV.length {kvs : List (κ × V)} {vs : List (κ × Value)} (r : KV kvs vs) : kvs.length = vs.length := Paired.length r
end
theorem kV_is {P : Program} {w : World} {k : Key} {u : Value} (r : RelV (kV k) u) : (mixKind P w).is k u = true := by
  cases k with
  | inl i => obtain ⟨t, e⟩ := (show ∃ t, u = Value.int i t from r); subst e; exact mixKind_int P w i t
  | inr x => obtain ⟨t, e⟩ := (show ∃ t, u = Value.str x t from r); subst e; exact mixKind_str P w x t
theorem kVr_is {P : Program} {w : World} {k : Key} {v : V} {u : Value} (q : kVr k v) (r : RelV v u) : (mixKind P w).is k u = true := by
  rcases q with e | ⟨b, e, ek⟩
  · subst e; exact kV_is r
  · subst e; subst ek; cases (show u = Value.bool b from r); exact keyIs_bl b
theorem items_are {P : Program} {w : World} : ∀ {ks : List Key} {ws : List V} {us : List Value}, kVs ks ws → Vals ws us → ItemsAre (mixKind P w) ks us
  | _, _, _, .nil, .nil => .nil
  | _, _, _, .cons q t, .cons h t' => .cons (kVr_is q h) (items_are t t')
abbrev KT (H : Hp) : List (List Key × V) → List (List Key × Addr × Value) → Prop := Paired fun p q => p.1 = q.1 ∧ TupKey H q.2.1 p.1 ∧ RelV p.2 q.2.2
theorem KT.val {H : Hp} {kvs : List (List Key × V)} {xs : List (List Key × Addr × Value)} (r : KT H kvs xs) (k : List Key) : RelO (valV kvs k) ((atKey xs k).map (·.2)) := by
  induction r with
  | nil => exact True.intro
  | @cons p q ps qs h t ih =>
    obtain ⟨h1, _, h2⟩ := h
    by_cases e : p.1 = k
    · have e' : q.1 = k := h1.symm.trans e
      have b : atKey (q :: qs) k = some q.2 := by simp [atKey, List.find?_cons, e']
      rw [valV_pos e, b]; exact h2
    · have e' : ¬ q.1 = k := fun z => e (h1.trans z)
      have b : atKey (q :: qs) k = atKey qs k := by simp [atKey, List.find?_cons, e']
      rw [valV_neg e, b]; exact ih
theorem KT.repl {H : Hp} {kvs : List (List Key × V)} {xs : List (List Key × Addr × Value)} (r : KT H kvs xs) (k : List Key) {y : V} {u : Value} (ry : RelV y u) :
    KT H (kvs.map fun kv => if kv.1 = k then (kv.1, y) else kv) (xs.map (putAt k u)) := by
  induction r with
  | nil => exact .nil
  | @cons p q ps qs h t ih =>
    rw [List.map_cons, List.map_cons]
    refine .cons ?_ ih
    obtain ⟨h1, h2, h3⟩ := h
    unfold putAt
    by_cases e : p.1 = k
    · rw [if_pos e, if_pos (h1.symm.trans e)]; exact ⟨h1, h2, ry⟩
    · rw [if_neg e, if_neg (fun z => e (h1.trans z))]; exact ⟨h1, h2, h3⟩
theorem KT.put {H : Hp} {kvs : List (List Key × V)} {xs : List (List Key × Addr × Value)} (r : KT H kvs xs) (k : List Key) {b : Addr} {y : V} {u : Value} (hb : TupKey H b k) (ry : RelV y u) :
    KT H (putK kvs k y) (storedH xs k b u) := by
  have e : (kvs.any fun kv => decide (kv.1 = k)) = (atKey xs k).isSome := by
    rw [valV_any, (r.val k).isSome_eq, Option.isSome_map]
  unfold putK storedH
  rw [e]
  by_cases q : (atKey xs k).isSome = true
  · rw [if_pos q, if_pos q]; exact r.repl k ry
  · rw [if_neg q, if_neg q]; exact Paired.snoc r ⟨rfl, hb, ry⟩
theorem KT.keeps {H H' : Hp} {kvs : List (List Key × V)} {xs : List (List Key × Addr × Value)} (r : KT H kvs xs) (ht : ∀ b ys, H b = some (.tup ys) → H' b = some (.tup ys)) : KT H' kvs xs :=
  Paired.mapP r fun _ _ z => ⟨z.1, (let ⟨ws, k1, k2⟩ := z.2.1; ⟨ws, k1, ht _ _ k2⟩), z.2.2⟩

section
variable {P : Program} {w : World} {H : Hp} {h : Heap} {a : Addr}
theorem rd_of {u : HO} (ok : HOk P w H h) (e : Rd H a u) : ObjOk P w H h a u := e.ok ok
theorem dk_rd {kvs : List (Key × V)} (ok : HOk P w H h) (e : Rd H a (.dK kvs)) : kvs.length ≤ sizeLine ∧ (a == sysModules) = false ∧ ∃ vs, KV kvs vs ∧ h.DictOf (mixKind P w) a vs :=
  show ObjOk P w H h a (.dK kvs) from rd_of ok e
theorem dk_of {kvs : List (Key × V)} (ok : HOk P w H h) (e : H a = some (.dK kvs)) : kvs.length ≤ sizeLine ∧ (a == sysModules) = false ∧ ∃ vs, KV kvs vs ∧ h.DictOf (mixKind P w) a vs := dk_rd ok (.inl e)
theorem key_of {ks : List Key} (ok : HOk P w H h) (e : TupKey H a ks) : (tupleKind (mixKind P w)).is h ks a := by
  obtain ⟨ws, q, e⟩ := e
  obtain ⟨_, its, r, ⟨o, h1, h2, n, h3⟩, _⟩ := (show ObjOk P w H h a (.tup ws) from ok a _ e)
  exact ⟨o, its.toArray, n, h1, h2, h3, by simpa using items_are q r⟩
theorem dt_rd {kvs : List (List Key × V)} (ok : HOk P w H h) (e : Rd H a (.dT kvs)) : kvs.length ≤ sizeLine ∧ (a == sysModules) = false ∧
    ∃ xs, KT H kvs xs ∧ h.DictOfH (tupleKind (mixKind P w)) a xs := by
  obtain ⟨z, y, xs, r, o, es, ep, h1, h2, h3, h4, h5⟩ := (show ObjOk P w H h a (.dT kvs) from rd_of ok e)
  refine ⟨z, y, xs, r, o, es, ep, h1, h2, h3, h4, fun x hx => ?_, h5⟩
  have all : ∀ {l : List (List Key × V)} {m : List (List Key × Addr × Value)}, KT H l m → ∀ x ∈ m, (tupleKind (mixKind P w)).is h x.1 x.2.1 := by
    intro l m q
    induction q with
    | nil => intro x hx; exact nomatch hx
    | @cons p q ps qs hq t ih =>
      intro x hx
      rcases List.mem_cons.mp hx with e | hx
      · subst e
        exact key_of ok (by rw [← hq.1]; exact hq.2.1)
      · exact ih x hx
  exact all r x hx
theorem dt_of {kvs : List (List Key × V)} (ok : HOk P w H h) (e : H a = some (.dT kvs)) : kvs.length ≤ sizeLine ∧ (a == sysModules) = false ∧
    ∃ xs, KT H kvs xs ∧ h.DictOfH (tupleKind (mixKind P w)) a xs := dt_rd ok (.inl e)
end
def DGet (H : Hp) (a : Addr) (y : V) (r : Option V) : Prop :=
  (∃ kvs k, Rd H a (.dK kvs) ∧ y = kV k ∧ r = valV kvs k) ∨ ∃ kvs k b, Rd H a (.dT kvs) ∧ y = .ref b ∧ TupKey H b k ∧ r = valV kvs k
def DPut (H : Hp) (a : Addr) (y v : V) (H' : Hp) : Prop :=
  (∃ kvs k, H a = some (.dK kvs) ∧ y = kV k ∧ kvs.length < sizeLine ∧ H' = upd H a (.dK (putK kvs k v))) ∨
  ∃ kvs k b, H a = some (.dT kvs) ∧ y = .ref b ∧ TupKey H b k ∧ kvs.length < sizeLine ∧ H' = upd H a (.dT (putK kvs k v))
theorem DGet.k {H : Hp} {a : Addr} {kvs : List (Key × V)} {k : Key} (e : H a = some (.dK kvs)) : DGet H a (kV k) (valV kvs k) := .inl ⟨kvs, k, .inl e, rfl, rfl⟩
theorem DGet.t {H : Hp} {a b : Addr} {kvs : List (List Key × V)} {k : List Key} (e : H a = some (.dT kvs)) (eb : TupKey H b k) : DGet H a (.ref b) (valV kvs k) := .inr ⟨kvs, k, b, .inl e, rfl, eb, rfl⟩
theorem DPut.k {H : Hp} {a : Addr} {kvs : List (Key × V)} {k : Key} {v : V} (e : H a = some (.dK kvs)) (hl : kvs.length < sizeLine) : DPut H a (kV k) v (upd H a (.dK (putK kvs k v))) := .inl ⟨kvs, k, e, rfl, hl, rfl⟩
theorem DPut.t {H : Hp} {a b : Addr} {kvs : List (List Key × V)} {k : List Key} {v : V} (e : H a = some (.dT kvs)) (eb : TupKey H b k) (hl : kvs.length < sizeLine) :
    DPut H a (.ref b) v (upd H a (.dT (putK kvs k v))) := .inr ⟨kvs, k, b, e, rfl, eb, hl, rfl⟩


section
variable {X : Cx} {pins : List (Addr × Obj)} {σ : St} {H : Hp} {s : Shared} {a : Addr} {y v : V} {u r : Value} {o : Option V} {A : Around} {E : Value → Shared → Prop}

theorem Inv.big (I : Inv X pins σ H s) : sysModules < s.heap.objs.size := by
  have h : mainGlobals < s.heap.objs.size := (I.mod.glob.keeps I.bk).lt
  exact Nat.lt_trans (by decide) h
theorem d_write {h' : Heap} {t' : Nat} {ob : HO} (I : Inv X pins σ H s) (mu : Mut (H a)) (hs : Heap.SameBut a s.heap h') (he : ∃ q, h'.get? a = some q) (new : ObjOk X.prog X.w (upd H a ob) h' a ob) :
    Inv X pins σ (upd H a ob) { s with heap := h', toks := t' } :=
  I.write (x := a) (e := a) mu (.inl rfl) (fun b q hb z => (hs.2 b hb).trans z) he new
theorem dk_new {P : Program} {w : World} {H' : Hp} {h' : Heap} {kvs : List (Key × V)} {vs : List (Key × Value)} (z : kvs.length ≤ sizeLine) (hd : (a == sysModules) = false) (rel : KV kvs vs) (dd : h'.DictOf (mixKind P w) a vs) :
    ObjOk P w H' h' a (.dK kvs) := ⟨z, hd, vs, rel, dd⟩
theorem d_setItem {H' : Hp} {Q : Unit → Shared → Prop} (hu : A.units + 1 < cLine) (I : Inv X pins σ H s) (g : DPut H a y v H') (ry : RelV y u) (rv : RelV v r) (h : ∀ s', Inv X pins σ H' s' → Q () s') :
    wpAny (model X.prog X.w) A (setItem (.ref a) u r) Q E s := by
  rcases g with ⟨kvs, k, e, ey, l, eH⟩ | ⟨kvs, k, b, e, ey, eb, l, eH⟩
  · subst ey eH
    obtain ⟨z, hd, vs, rel, dd⟩ := dk_of I.hok e
    have hz : vs.length ≤ sizeLine := by rw [← rel.length]; exact z
    have hl : (putK kvs k v).length ≤ sizeLine := by have := length_putK kvs k v; omega
    refine wpAny_setItem_pairs (hsz := hz) (kV_is ry) dd fun h' dd' hs => h _ ?_
    have he : ∃ q, h'.get? a = some q := let ⟨q, _, _, hq, _⟩ := dd'; ⟨q, hq⟩
    exact d_write I (by rw [e]; exact True.intro) hs he (dk_new hl hd (rel.put k rv) dd')
  · subst ey eH
    cases (show u = Value.ref b from ry)
    obtain ⟨z, hd, xs, rel, dd⟩ := dt_of I.hok e
    have hz : xs.length ≤ sizeLine := by rw [← Paired.length rel]; exact z
    have hl : (putK kvs k v).length ≤ sizeLine := by have := length_putK kvs k v; omega
    refine wpAny_setItem_heap (hsz := hz) (tupleKind_room_in1 hu) (key_of I.hok eb) dd fun h' dd' hs => h _ ?_
    obtain ⟨q, es, ep, hq, h2, h3, h4, _, h5⟩ := dd'
    refine d_write I (by rw [e]; exact True.intro) hs ⟨q, hq⟩ ⟨hl, hd, _, (rel.put k eb rv).keeps fun c ys ec => ?_, q, es, ep, hq, h2, h3, h4, h5⟩
    rw [upd_ne (ne_of ec e (fun z => nomatch z))]
    exact ec
end

section
variable {X : Cx} {pins : List (Addr × Obj)} {σ : St} {H : Hp} {s : Shared} {a : Addr} {kvs : List (Key × V)} {k : Key} {u : Value} {A : Around} {E : Value → Shared → Prop}
end
def sDPut (td ty tv : TE) : TS := fun D σ H => tv σ H fun v H1 => td σ H1 fun x H2 => ty σ H2 fun y H3 => ∃ a H4, x = .ref a ∧ DPut H3 a y v H4 ∧ D.nx σ H4
section
variable {X : Cx} {o i e value : Expr} {pos pos' tpos : Pos} {td ty tv : TE}
theorem ps_dput (hu : X.A.units + 1 < cLine) (ho : PE X o td) (hi : PE X i ty) (hv : PE X value tv) (hs : swapsWith value (some (.Subscript o i pos')) pos.line X.env = pure false) :
    PS X (.Assign [.Subscript o i pos'] value pos) (sDPut td ty tv) := by
  intro pins s σ H D I h
  refine wpAny_Assign_Subscript (thn (hv pins s σ H _ I h) fun r s1 ⟨v, H1, I1, rv, q1⟩ => thn (ho pins s1 σ H1 _ I1 q1) fun u s2 ⟨x, H2, I2, rx, q2⟩ => thn (hi pins s2 σ H2 _ I2 q2) fun iv s3 ⟨y, H3, I3, ry, a, H4, ex, g, q3⟩ => ?_) hs
  subst ex
  obtain rfl : u = Value.ref a := rx
  exact d_setItem hu I3 g ry rv fun s4 I4 => ⟨σ, H4, I4, q3⟩
end
theorem dt_empty {P : Program} {w : World} {H : Hp} (h : Heap) (hb : sysModules < h.objs.size) : ObjOk P w H (h.push { cls := .type "dict", data := .dict #[] }) h.objs.size (.dT []) :=
  ⟨Nat.zero_le _, beq_eq_false_iff_ne.mpr (Ne.symm (Nat.ne_of_lt hb)), [], .nil, _, #[], 0, Heap.get?_push_size _ rfl, ⟨rfl, rfl, rfl⟩, rfl, rfl, List.nodup_nil⟩
def tDNewT : TE := fun _ H Q => ∀ p, H p = none → Q (.ref p) (upd H p (.dT []))
section
variable {X : Cx} {pos : Pos}
theorem pe_dnewT : PE X (.Dict [] [] pos) tDNewT := fun pins s σ H Q I h =>
  wpAny_Dict_empty ⟨.ref s.heap.objs.size, _, I.laid (a := s.heap.objs.size) (o := .dT []) (t' := s.toks) (fun _ _ q => Heap.get?_push_of_some _ q) (Nat.le_refl _) (dt_empty s.heap I.big), rfl, h _ (I.hok.fresh (Nat.le_refl _))⟩
end
structure M1 (X : Cx) (o : Expr) (m : Str) (apos : Pos) (e : Expr) (cpos : Pos) : Prop where
  base : attributeBase o m X.env (eval o X.env) = eval o X.env
  few : ((backTo cpos (starEach [e] X.env)).all (fun x => !x.1) && (backToKw cpos (keywordEach [] X.env)).all (fun x => x.1.isSome)
    && decide (([e] : List Expr).length + ([] : List Keyword).length + (if ([] : List Keyword).isEmpty then 0 else 1) < 30)) = true
  line : (apos.endLine == cpos.line) = true
  trees : backTo cpos (starEach [e] X.env) = [(false, eval e X.env)]
def IsD (H : Hp) (a : Addr) : Prop := (∃ kvs, Rd H a (.dK kvs)) ∨ ∃ kvs, Rd H a (.dT kvs)
theorem isD_at {X : Cx} {pins : List (Addr × Obj)} {σ : St} {H : Hp} {s : Shared} {a : Addr} (I : Inv X pins σ H s) (d : IsD H a) :
    s.TypeIs (.ref a) "dict" ∧ (∀ b, Value.ref a = .ref b → ∃ ob, s.heap.get? b = some ob ∧ ob.dict = none) ∧ (a == sysModules) = false := by
  rcases d with ⟨kvs, e⟩ | ⟨kvs, e⟩
  · obtain ⟨_, hd, vs, _, dd⟩ := dk_rd I.hok e
    refine ⟨dd.typeIs, fun b q => ?_, hd⟩
    cases q
    obtain ⟨ob, _, _, h1, h2, _⟩ := dd
    exact ⟨ob, h1, h2.2.1⟩
  · obtain ⟨_, hd, xs, _, dd⟩ := dt_rd I.hok e
    refine ⟨dd.typeIs, fun b q => ?_, hd⟩
    cases q
    obtain ⟨ob, _, _, h1, h2, _⟩ := dd
    exact ⟨ob, h1, h2.2.1⟩

section
variable {X : Cx} {pins : List (Addr × Obj)} {σ : St} {H : Hp} {s : Shared} {a : Addr} {y d : V} {u r : Value} {o : Option V} {A : Around} {E : Value → Shared → Prop}
theorem d_get1 {Q : Value → Shared → Prop} (hu : A.units + 1 < cLine) (I : Inv X pins σ H s) (g : DGet H a y o) (ry : RelV y u) (h : ∀ w' s', Inv X pins σ H s' → RelV (o.getD .non) w' → Q w' s') :
    wpAny (model X.prog X.w) A (call (.builtin "dict.get") [.ref a, u]) Q E s := by
  rcases g with ⟨kvs, k, e, ey, l⟩ | ⟨kvs, k, b, e, ey, eb, l⟩
  · subst ey
    obtain ⟨z, hd, vs, rel, dd⟩ := dk_rd I.hok e
    refine call_meetsIn PySem.F.slot_dict_get dd.typeIs PySem.F.entry_dict_get (PySem.F.args_dict_get_2 _ _) (meets_dict_get (mixKind X.prog X.w) a (kV_is ry) hd) ⟨_, dd.mapOf, h _ _ (I.tok _) ?_⟩
    rw [l]
    exact (rel.val k).getD rfl
  · subst ey
    cases (show u = Value.ref b from ry)
    obtain ⟨z, hd, xs, rel, dd⟩ := dt_rd I.hok e
    refine call_meetsIn PySem.F.slot_dict_get dd.typeIs PySem.F.entry_dict_get (PySem.F.args_dict_get_2 _ _) (meetsH_dict_get (tupleKind (mixKind X.prog X.w)) a b hd) ⟨tupleKind_room_in1 hu, k, xs, key_of I.hok eb, dd, h _ _ (I.tok _) ?_⟩
    rw [l]
    exact (rel.val k).getD rfl
end

def tDGet1 (td ty : TE) : TE := fun σ H Q => td σ H fun x H1 => ∃ a, x = .ref a ∧ IsD H1 a ∧ ty σ H1 fun y H2 => ∃ o, DGet H2 a y o ∧ Q (o.getD .non) H2
section
variable {X : Cx} {o e f : Expr} {apos cpos : Pos} {td ty tx : TE}
theorem pe_dget1 (hu : X.A.units + 1 < cLine) (ho : PE X o td) (he : PE X e ty) (m : M1 X o "get" apos e cpos) : PE X (.Call (.Attribute o "get" apos) [e] [] cpos) (tDGet1 td ty) := by
  intro pins s σ H Q I h
  refine wpAny_Call_method m.base m.few m.line PySem.F.plainAttrs_dict PySem.F.slot_dict_get PySem.F.type_dict_get (thn (ho pins s σ H _ I h) fun u s1 ⟨x, H1, I1, rx, a, ex, d, q1⟩ => ?_)
  subst ex
  obtain rfl : u = Value.ref a := rx
  obtain ⟨t1, t2, _⟩ := isD_at I1 d
  refine ⟨t1, t2, ?_⟩
  rw [m.trees]
  refine Calls.callWith_builtin rfl (Calls.evalArgs_plain (Calls.spliced_cons (thn (he pins s1 σ H1 _ I1 q1) fun iv s2 ⟨y, H2, I2, ry, ov, g, q2⟩ => Calls.spliced_nil ?_)))
  exact d_get1 hu I2 g ry fun w' s3 I3 rw' => ⟨_, H2, I3, rw', q2⟩
end
section
variable {X : Cx} {pins : List (Addr × Obj)} {σ : St} {H : Hp} {s : Shared} {a : Addr} {kvs : List (Key × V)} {A : Around} {E : Value → Shared → Prop}
end


section
variable {X : Cx} {pins : List (Addr × Obj)} {σ : St} {H : Hp} {s : Shared} {a : Addr} {y : V} {u : Value} {A : Around} {E : Value → Shared → Prop}
end
end L2

namespace Att
open PySem PySem.W PySem.Calls PyProof.Rows
theorem ints_of_wellAll {P : Params} {h : Heap} : ∀ (ns : List Int) (vs : List Value), WellAll P h vs (ns.map WData.int) → IntsAre vs ns := by
  intro ns
  induction ns with
  | nil =>
    intro vs w
    rw [List.map_nil] at w
    cases w
    exact .nil
  | cons n ns ih =>
    intro vs w
    rw [List.map_cons] at w
    cases w with
    | cons a b =>
      cases a
      exact .cons _ _ (ih _ b)

theorem script_of {l : OpenLaw} {n : Nat} (hn : l.most = some n) {P : Params} {h : Heap} {args : List WData} {vals : List Value}
    (hpre : l.row.toRowW.claim.pre args = true) (hwl : WellAll P h vals args) :
    ∃ a vs ns, vals = [Value.ref a] ∧ args = [WData.list (ns.map WData.int)] ∧ h.get? a = some { cls := .type "list", data := .seq vs.toArray } ∧ IntsAre vs ns ∧ ns.length ≤ n := by
  have hsh : WShape.hasAll [] args [.list .int] = true := (pre_splitW hpre).1
  have hc : l.pre.holds [] { args := args } = true := (pre_splitW hpre).2
  obtain ⟨d, r, rfl, h1, h2⟩ := hasAllW_cons hsh
  obtain rfl := hasAllW_nil h2
  obtain ⟨xs, rfl, h3⟩ := hasW_list h1
  obtain ⟨ns, rfl⟩ := items_int h3
  have hlen : ns.length ≤ n := by
    unfold OpenLaw.pre at hc
    have h4 : (WTm.not (.lt (.lit (.int (n : Int))) (.len (.arg 0)))).holds [] { args := [.list (ns.map .int)] } = true := by
      have h4 := (holds_andW hc).1
      rw [hn] at h4
      exact h4
    have h5 := condW_of h4 (w_not (w_lt w_lit (w_len_list (w_arg rfl))))
    rw [List.length_map] at h5
    refine Nat.le_of_not_lt fun q => ?_
    have q' : (n : Int) < ((ns.length : Nat) : Int) := by omega
    first
      | (rw [decide_eq_true q'] at h5; exact absurd h5 (by decide))
      | (simp at h5; omega)
  cases hwl with
  | cons w1 w2 =>
    cases w2
    cases w1 with
    | list ho hall => exact ⟨_, _, ns, rfl, rfl, ho, ints_of_wellAll ns _ hall, hlen⟩

theorem post_true (l : OpenLaw) (args : List WData) : l.row.toRowW.claim.post args (.bool true) args = true :=
  postW_of (r := l.row.toRowW) (X := (true == true))
    (show WShape.has [] (.bool true) .bool = true by first | rfl | decide | simp [WShape.has, WShape.arms, WShape.armsAll])
    (show (WTm.eq .res (.lit (.bool true))).value [] { args := args, res := some (.bool true), after := args } = some (.bool (true == true)) from w_eq_bool (w_res rfl) w_lit) rfl
theorem attach_call {l : OpenLaw} {n : Nat} {q : Program} {loose : List Str} {XP : (Str → Option Value) → Heap → Prop} {YP : World → Heap → Prop} {d : DefRec}
    (hn : l.most = some n) (hdf : d.params.defaults = [])
    (call : ∀ (w : World) (s₀ s₁ : Shared) (mg mb : Str → Option Value) (fa : Addr) (o : Obj) (pm cd doc : Value) (a : Addr) (vs : List Value) (ns : List Int),
      Ground q loose [] XP w s₀ mg mb s₁.heap → YP w s₁.heap →
      s₁.heap.get? fa = some o → o.data = .func (docDef d.name d.params d.body d.scope pm cd doc) → s₁.heap.CodeRec cd d.name → mg d.name = some (.ref fa) →
      s₁.heap.get? a = some { cls := .type "list", data := .seq vs.toArray } → IntsAre vs ns → ns.length ≤ n → s₁.gens = #[] →
      codeAny (model l.prog w) callerA (.call (.ref fa) ⟨[.ref a], []⟩) (fun r s' => r = .ok (.ret (.bool true)) ∧ OldK s₁.heap s'.heap ∧ s'.os = s₁.os ∧ AllBare s'.gens) s₁) :
    WalkO q loose XP YP l.row.toRowW d [] (fun f vs => PySem.call f vs) := by
  intro w s₀ s₁ mg mb G Y fa o pm cd doc dV kV ho hd hcd hD hmg hg args vals as hpre hlay hrd hwl hlo
  obtain rfl : dV = .none := Dflts.none hD hdf
  obtain rfl : kV = .none := Dflts.noKw hD
  obtain ⟨a, vs, ns, rfl, rfl, hobj, hints, hlen⟩ := script_of hn hpre hwl
  refine enter_call (codeAny_mono (call w s₀ s₁ mg mb fa o pm cd doc a vs ns G Y ho (fd_plain hd) hcd hmg hobj hints hlen hg) fun r s' hq => ?_)
  obtain ⟨rfl, h2, h3, h4⟩ := hq
  exact ⟨.inl ⟨.bool true, .bool true, [], rfl, fun _ => rfl, .bool true, post_true l _, fun _ => ⟨List.Pairwise.nil, fun _ hm => (nomatch hm)⟩⟩, h2, h3, h4⟩
section
variable {prog : Program} {w : World} {A : Around} {E : Value → Shared → Prop} {s : Shared} {K : Frag}
end
end Att

namespace L2
open PySem PySem.Spec PyProof.Rows

theorem vals_ints : ∀ {vs : List Value} {ns : List Int}, IntsAre vs ns → Vals (ns.map V.int) vs
  | _, _, .nil => .nil
  | _, _, .cons n t h => .cons ⟨t, rfl⟩ (vals_ints h)
def Only (H : Hp) : Prop := ∀ b, H b = none ∨ ∃ o xs, H b = some (.frz o (.lst xs))
theorem law_call {P : Program} {w : World} {K : PySem.W.Frag} {mg mb : Str → Option Value} {CX : CXT} {k : Nat} {fa a : Addr} {fd : FuncData} {x : Str} {sp : Sp} {s₁ : Shared} {vs : List Value} {ns : List Int}
    (KX : K.In s₁.heap) (hns : s₁.heap.Ns mainGlobals mg) (hb : s₁.heap.Ns builtinsNs mb) (hbb : ∀ x : Str, x ≠ "__name__" → mb x = bootBuiltins x) (hlim : s₁.heap.NoLimit) (hg : s₁.gens = #[])
    (ha : s₁.heap.get? a = some { cls := .type "list", data := .seq vs.toArray }) (hi : IntsAre vs ns) (hl : ns.length ≤ sizeLine) (hr : Room k callerA)
    (F : ∀ base : Heap, K.In base → base.Ns mainGlobals mg → FnOk P w K mg base CX k fa fd [x] sp) (hbind : ∀ (s : Shared) (u : Value), BindsTo s fd ⟨[u], []⟩ [(x, u)])
    (hsp : ∀ H : Hp, Only H → SqL K H a (ns.map V.int) → sp [.ref a] H (fun v _ => v = .bl true) fun _ _ _ => False)
    (hCX : ∀ H e s', CX [] H s₁ (fun _ _ _ => False) e s' → False) :
    codeAny (model P w) callerA (.call (.ref fa) ⟨[.ref a], []⟩) (fun r s' => r = .ok (.ret (.bool true)) ∧ OldK s₁.heap s'.heap ∧ s'.os = s₁.os ∧ AllBare s'.gens) s₁ := by
  have rv := vals_ints hi
  have lenV := hi.length
  -- from an abstract heap in which nothing but the script may be tracked
  have core : ∀ H : Hp, Only H → SqL K H a (ns.map V.int) → HOk P w H s₁.heap → (∀ b, H b ≠ none → b = a) → (H a ≠ none → K.lookup a = none) →
      codeAny (model P w) callerA (.call (.ref fa) ⟨[.ref a], []⟩) (fun r s' => r = .ok (.ret (.bool true)) ∧ OldK s₁.heap s'.heap ∧ s'.os = s₁.os ∧ AllBare s'.gens) s₁ := by
    intro H hO hS hok hA hK
    have base_of : ∀ {b : Addr} {o : Obj}, s₁.heap.get? b = some o → H b = none → (hidT s₁.heap H).get? b = some o := fun e n => hidT_get e n
    have noA : ∀ {b : Addr} {o : Obj} {es : Array DictEntry} {ep : Nat}, s₁.heap.get? b = some o → o.data = .dict es ep → H b = none := fun {b o es ep} e d => by
      cases q : H b with
      | none => rfl
      | some u =>
        have e' : b = a := hA b (by rw [q]; simp)
        subst e'
        rw [ha] at e; cases e
        have d' : Data.seq vs.toArray _ = Data.dict es ep := d
        cases d'
    have nsK : ∀ {b : Addr} {m : Str → Option Value}, s₁.heap.Ns b m → (hidT s₁.heap H).Ns b m := fun {b m} ⟨o, es, ep, e, d, r⟩ => ⟨o, es, ep, base_of e (noA e d), d, r⟩
    have hKb : K.In (hidT s₁.heap H) := fun b o e => base_of (KX b o e) (by
      cases q : H b with
      | none => rfl
      | some u =>
        have e' : b = a := hA b (by rw [q]; simp)
        subst e'
        rw [hK (by rw [q]; simp)] at e; cases e)
    have hM : Mod K mg (hidT s₁.heap H) := ⟨hKb, nsK hns, ⟨mb, nsK hb, hbb⟩, let ⟨mc, h1, h2⟩ := hlim; ⟨mc, nsK h1, h2⟩⟩
    have e0 : Env0 P w K mg (hidT s₁.heap H) callerA [] s₁ H := ⟨rfl, hM, fun b o e => of_hidT e, Nat.le_of_eq (hidT_size _ _), trivial, fun b hb => absurd (show b ∈ ([] : List Addr) from hb) (by simp), hok, .of_eq hg⟩
    refine codeAny_mono ((F _ hKb (nsK hns)).run callerA [] s₁ H ⟨[.ref a], []⟩ [.ref a] [.ref a] _ _ hr e0 (hbind s₁ (.ref a)) (.cons rfl .nil) (hsp H hO hS)) fun r s' h => ?_
    cases r with
    | error e => exact (hCX H e s' h).elim
    | ok fl =>
      cases fl with
      | next => exact False.elim h
      | brk => exact False.elim h
      | cont => exact False.elim h
      | ret u =>
        obtain ⟨v, H', os, bare, un, hok', r', q⟩ := h
        have q' : v = .bl true := q
        subst q'
        obtain rfl : u = Value.bool true := r'
        refine ⟨rfl, OldK.of_keep fun b o e => ?_, os, bare⟩
        cases q : H b with
        | none => exact un.keep b o e q (by intro z; exact absurd (show b ∈ ([] : List Addr) from z) (by simp)) (by simp)
        | some u =>
          rcases hO b with z | ⟨ob, xs, z⟩
          · rw [q] at z; cases z
          · have z2 := un.frzs b ob _ z
            obtain ⟨e1, _⟩ := hok b _ z
            obtain ⟨e2, _⟩ := hok' b _ z2
            rw [e] at e1; cases e1
            exact e2
  cases hk : K.lookup a with
  | some o =>
    -- the script is one of the module's own objects
    have e := KX a o hk
    rw [ha] at e
    cases e
    refine core (fun _ => none) (fun _ => .inl rfl) (.inr ⟨_, vs.toArray, _, hk, rfl, rfl, rfl, by rw [List.size_toArray, lenV]; exact hl, by simpa using rv⟩) (fun b u z => by have z' : (none : Option HO) = some u := z; cases z') (fun b z => absurd rfl z) fun z => absurd rfl z
  | none =>
    refine core (fun b => if b = a then some (.frz { cls := .type "list", data := .seq vs.toArray } (.lst (ns.map V.int))) else none) (fun b => ?_) (.inl (.inr ⟨{ cls := .type "list", data := .seq vs.toArray }, if_pos rfl⟩)) (fun b u z => ?_) (fun b z => ?_) fun _ => hk
    · by_cases hb : b = a
      · exact .inr ⟨_, _, if_pos hb⟩
      · exact .inl (if_neg hb)
    · by_cases hb : b = a
      · have z' := (if_pos hb).symm.trans z
        cases z'
        subst hb
        exact ⟨ha, by rw [List.length_map]; exact hl, vs, _, rv, ha⟩
      · have z' := (if_neg hb).symm.trans z
        cases z'
    · by_cases hb : b = a
      · exact hb
      · exact absurd (if_neg hb) z
end L2

namespace L2
open PySem PySem.Spec PyProof.Rows

theorem walk_of {l : PySem.W.OpenLaw} {n k : Nat} {q : Program} {loose : List Str} {XP : (Str → Option Value) → Heap → Prop} {YP : World → Heap → Prop} {d : DefRec} {K : Params → PySem.W.Frag} {CX : World → CXT} {sp : World → Sp} {x : Str}
    (hn : l.most = some n) (hn2 : n ≤ sizeLine) (hdf : d.params.defaults = []) (hr : Room k callerA)
    (hY : ∀ (w : World) (h : Heap), YP w h → (K w.params).In h)
    (F : ∀ (w : World) (mg : Str → Option Value) (fa : Addr) (h : Heap), (K w.params).In h → h.Ns mainGlobals mg → mg d.name = some (.ref fa) →
      ∃ fd : FuncData, (∀ (s : Shared) (u : Value), BindsTo s fd ⟨[u], []⟩ [(x, u)]) ∧
        ∀ base : Heap, (K w.params).In base → base.Ns mainGlobals mg → FnOk l.prog w (K w.params) mg base (CX w) k fa fd [x] (sp w))
    (hsp : ∀ (w : World) (H : Hp) (a : Addr) (ns : List Int), ns.length ≤ n → Only H → SqL (K w.params) H a (ns.map V.int) → sp w [.ref a] H (fun v _ => v = .bl true) fun _ _ _ => False)
    (hCX : ∀ (w : World) (H : Hp) (s : Shared) (e : Value) (s' : Shared), CX w [] H s (fun _ _ _ => False) e s' → False) :
    PySem.W.WalkO q loose XP YP l.row.toRowW d [] (fun f vs => PySem.call f vs) := by
  refine Att.attach_call hn hdf fun w s₀ s₁ mg mb fa o pm cd doc a vs ns G Y ho hd hcd hmg hobj hints hlen hg => ?_
  have KX := hY w _ Y
  obtain ⟨fd, hb, hF⟩ := F w mg fa _ KX G.T.g hmg
  exact law_call KX G.T.g G.T.b G.T.builtins G.T.nolimit hg hobj hints (Nat.le_trans hlen hn2) hr hF hb (fun H hO hS => hsp w H a ns hlen hO hS) fun H e s' => hCX w H s₁ e s'
end L2
namespace L2
open PySem PySem.Spec PyProof.Rows
def inClass (s : Stmt) (j : Nat) : Stmt := match s with
  | .ClassDef _ _ _ body _ _ _ _ _ _ _ => body.getD j (.Pass ⟨0, 0, 0, 0⟩)
  | _ => .Pass ⟨0, 0, 0, 0⟩
def defArgs (s : Stmt) : Arguments := match s with
  | .FunctionDef _ a _ _ _ _ _ _ _ _ => a
  | _ => { posonlyargs := [], args := [], vararg := none, kwonlyargs := [], kw_defaults := [], kwarg := none, defaults := [] }
def defBody (s : Stmt) : List Stmt := match s with
  | .FunctionDef _ _ b _ _ _ _ _ _ _ => b
  | _ => []
def defScope (s : Stmt) : Scope := match s with
  | .FunctionDef _ _ _ _ _ _ sc _ _ _ => sc
  | _ => { kind := .function, names := [], isGenerator := false, isCoroutine := false }
abbrev CX0 : CXT := fun _ _ _ _ _ _ => False
abbrev E0 : XK := fun _ _ _ => False
theorem pass0 {X : Cx} : Passes CX0 X E0 := fun _ _ _ _ _ _ _ h => h.elim
structure Fun (K : PySem.W.Frag) (x qual : Str) (st : Stmt) (f : Addr) (fd : FuncData) : Prop where
  ex : ∃ (oc : Value) (od : Option Addr) (kV doc pm : Value) (an : Option Addr) (cdv ct : Value) (osl : Array (Option Value)),
    fd = PySem.W.fnOf x qual (defArgs st) (defBody st) (defScope st) .none kV doc pm an cdv ct ∧ K.lookup f = some ⟨oc, od, .func fd, osl⟩ ∧ PySem.W.codeIn K cdv qual = true
  kp : PySem.W.keepIn K (.ref f) = true
section
variable {P : Program} {w : World} {K : PySem.W.Frag} {mg : Str → Option Value} {base : Heap}
theorem Fun.ok {x qual : Str} {st : Stmt} {f : Addr} {fd : FuncData} {N ps : List Str} {k : Nat} {sp : Sp} (F : Fun K x qual st f fd) (S : FnScope N ps (defScope st)) (len : ∀ vs H Q E, sp vs H Q E → vs.length = ps.length)
    (hbody : ∀ (cdv : Value) (A : Around) (outer : List Env) (s : Shared) (H : Hp) (vs : List V) (Q : VK) (E : XK), Room k (A.deeper (envOfC qual (defScope st) s.heap.objs.size f cdv)) → sp vs H Q E →
      ∃ t, PSs (cxOf CX0 P w K mg base N qual (defScope st) f cdv A outer s H E).nox (defBody st) t ∧ t { nx := fun _ H' => Q .non H', rt := Q } (start N vs) H) : FnOk P w K mg base CX0 (k + 1) f fd ps sp := by
  obtain ⟨oc, od, kV, doc, pm, an, cdv, ct, osl, rfl, lk, hcd⟩ := F.ex
  refine fn_of lk hcd S len fun A outer s H vs Q E hr hsp => ?_
  obtain ⟨t, h, q⟩ := hbody cdv A outer s H vs Q E hr hsp
  exact ⟨t, h.nox, q⟩
theorem Fun.binds {x qual : Str} {st : Stmt} {f : Addr} {fd : FuncData} {ps : List Str} (F : Fun K x qual st f fd)
    (h : ∀ (kV doc pm : Value) (an : Option Addr) (cdv ct : Value) (us : List Value), us.length = ps.length → bindArgs (PySem.W.fnOf x qual (defArgs st) (defBody st) (defScope st) .none kV doc pm an cdv ct) ⟨us, []⟩ = pure (ps.zip us)) : Binds K fd ps [] := by
  obtain ⟨oc, od, kV, doc, pm, an, cdv, ct, osl, rfl, lk, hcd⟩ := F.ex
  exact .all (h kV doc pm an cdv ct)
theorem fun_mk {x qual : Str} {st : Stmt} {f : Addr} {oc : Value} {od an : Option Addr} {osl : Array (Option Value)} {kV doc pm cdv ct : Value} (l : K.lookup f = some ⟨oc, od, .func (PySem.W.fnOf x qual (defArgs st) (defBody st) (defScope st) .none kV doc pm an cdv ct), osl⟩)
    (c : PySem.W.codeIn K cdv qual = true) (k : PySem.W.keepIn K (.ref f) = true) : Fun K x qual st f (PySem.W.fnOf x qual (defArgs st) (defBody st) (defScope st) .none kV doc pm an cdv ct) := ⟨⟨oc, od, kV, doc, pm, an, cdv, ct, osl, rfl, l, c⟩, k⟩
end
theorem hu_of {A : Around} {k : Nat} (hr : Room k A) : A.units + 1 < cLine := Nat.lt_of_le_of_lt (Nat.add_le_add_left (by decide : 1 ≤ 64) _) hr.units
theorem small1000 {n : Nat} (h : n ≤ 1000) : n < sizeLine := Nat.lt_of_le_of_lt h (by decide)
section
variable {X : Cx}
theorem pv (i : Nat) {x : Str} {pos : Pos} (hN : X.N[i]? = some x := by rfl) (hv : Vis X.env.scope x := by first | exact Or.inl rfl | exact Or.inr (Or.inl rfl) | exact Or.inr (Or.inr rfl)) (hd : (x == ("__debug__" : Str)) = false := by decide)
    (hcd : (x == ("__classdict__" : Str)) = false := by decide) : PE X (.Name x pos) (tVar i) := pe_var hN hv hd hcd
end
theorem iteF {A B : Prop} (h : B) : if false = true then A else B := by
  rw [if_neg Bool.false_ne_true]
  exact h
theorem iteT {A B : Prop} (h : A) : if true = true then A else B := by
  rw [if_pos rfl]
  exact h
theorem ite2 {c A B : Prop} [Decidable c] (h1 : c → A) (h2 : ¬ c → B) : if c then A else B := by
  by_cases h : c
  · rw [if_pos h]
    exact h1 h
  · rw [if_neg h]
    exact h2 h
theorem iteNS {c A B : Prop} [Decidable c] (hc : c) (h : B) : if (!decide c) = true then A else B := by
  rw [decide_eq_true hc]
  exact iteF h
def Same (H H' : Hp) : Prop := ∀ b o, H b = some o → H' b = some o
theorem Same.refl (H : Hp) : Same H H := fun _ _ h => h
theorem Same.trans {H H1 H2 : Hp} (a : Same H H1) (b : Same H1 H2) : Same H H2 := fun c o h => b c o (a c o h)
theorem Same.free {H H' : Hp} (e : Same H H') {l : Addr} (h : H' l = Option.none) : H l = Option.none := by
  cases q : H l with
  | none => rfl
  | some o =>
    rw [e l o q] at h
    cases h
theorem Same.seq {K : PySem.W.Frag} {H H' : Hp} {a : Addr} {xs : List V} (e : Same H H') (h : SqL K H a xs) : SqL K H' a xs := by
  rcases h with (h | ⟨o, h⟩) | h
  · exact .inl (.inl (e _ _ h))
  · exact .inl (.inr ⟨o, e _ _ h⟩)
  · exact .inr h
section
variable {κ : Type} [DecidableEq κ]
end
end L2

set_option Elab.async false
set_option linter.all false
set_option maxRecDepth 100000
namespace L2
open PySem PySem.Spec PyProof.Rows
def closL (cells : List (Str × Addr)) : List (Str × NameKind) → List (Str × Addr) → List (Str × Addr)
  | [], acc => acc
  | (n, k) :: r, acc => closL cells r (if (k == NameKind.free) = true then (n, (cells.lookup n).getD 0) :: acc else acc)
theorem closL_of {cells : List (Str × Addr)} {x : Str} {c : Addr} : ∀ {names : List (Str × NameKind)} {acc : List (Str × Addr)}, (closL cells names acc).lookup x = some c →
    acc.lookup x = some c ∨ ((x, NameKind.free) ∈ names ∧ c = (cells.lookup x).getD 0)
  | [], acc, h => .inl h
  | (n, k) :: r, acc, h => by
    unfold closL at h
    rcases closL_of h with h1 | ⟨h1, e⟩
    · clear h
      split at h1
      · rename_i hk
        rw [List.lookup_cons] at h1
        cases hx : x == n with
        | true =>
          rw [hx] at h1
          have hx' : x = n := by simpa using hx
          have hk' : k = .free := by simpa using hk
          subst hx' hk'
          exact .inr ⟨List.mem_cons_self, (Option.some.inj h1).symm⟩
        | false =>
          rw [hx] at h1
          exact .inl h1
      · exact .inl h1
    · exact .inr ⟨List.mem_cons_of_mem _ h1, e⟩
theorem closL_keeps {cells : List (Str × Addr)} {x : Str} : ∀ {names : List (Str × NameKind)} {acc : List (Str × Addr)} {c : Addr}, acc.lookup x = some c → ∃ c', (closL cells names acc).lookup x = some c'
  | [], _, c, h => ⟨c, h⟩
  | (n, k) :: r, acc, c, h => by
    unfold closL
    split
    · cases hx : x == n with
      | true => exact closL_keeps (c := (cells.lookup n).getD 0) (by rw [List.lookup_cons, hx])
      | false => exact closL_keeps (c := c) (by rw [List.lookup_cons, hx]; exact h)
    · exact closL_keeps h
theorem closL_has {cells : List (Str × Addr)} {x : Str} : ∀ {names : List (Str × NameKind)} {acc : List (Str × Addr)}, (x, NameKind.free) ∈ names → ∃ c, (closL cells names acc).lookup x = some c
  | [], _, h => nomatch h
  | (n, k) :: r, acc, h => by
    unfold closL
    rcases List.mem_cons.mp h with e | h
    · injection e with e1 e2
      subst e1; subst e2
      exact closL_keeps (c := (cells.lookup x).getD 0) (by simp)
    · exact closL_has h
theorem closFor {scope : Scope} {env : Env} (h : ∀ x ∈ scope.names, x.2 = .free → ∃ c, env.cells.lookup x.1 = some c) : closureFor scope env = pure (closL env.cells scope.names []) := by
  have go : ∀ (names : List (Str × NameKind)) (acc : List (Str × Addr)), (∀ x ∈ names, x.2 = .free → ∃ c, env.cells.lookup x.1 = some c) →
      (forIn names acc fun x cs => if (x.2 == NameKind.free) = true then do let c ← cellOf env x.1; pure (ForInStep.yield ((x.1, c) :: cs)) else pure (ForInStep.yield cs) : Sem (List (Str × Addr))) = pure (closL env.cells names acc) := by
    intro names
    induction names with
    | nil => intro acc _; rfl
    | cons x r ih =>
      intro acc hx
      obtain ⟨n, k⟩ := x
      rw [List.forIn_cons]
      unfold closL
      cases hk : k == NameKind.free with
      | true =>
        obtain ⟨c, hc⟩ := hx (n, k) List.mem_cons_self (by simpa using hk)
        simp only [hk, if_true, cellOf, hc, pure_bind, Option.getD_some]
        exact ih _ fun y hy => hx y (List.mem_cons_of_mem _ hy)
      | false =>
        simp only [hk, Bool.false_eq_true, if_false, pure_bind]
        exact ih _ fun y hy => hx y (List.mem_cons_of_mem _ hy)
  have e := go scope.names [] h
  have e2 : closureFor scope env = (forIn scope.names [] fun x cs => if (x.2 == NameKind.free) = true then do let c ← cellOf env x.1; pure (ForInStep.yield ((x.1, c) :: cs)) else pure (ForInStep.yield cs) : Sem (List (Str × Addr))) >>= fun cs => pure cs := by
    rfl
  rw [e2, e]
  rfl

theorem lookup_relabel_free {env : Env} : ∀ {names : List (Str × NameKind)} {x : Str}, names.lookup x = some .free →
    (names.map fun (n, k) => if (k == NameKind.free && env.scope.kind == .function && env.kindOf n == some .cell) then (n, NameKind.cell) else (n, k)).lookup x = some .cell ∨
    (names.map fun (n, k) => if (k == NameKind.free && env.scope.kind == .function && env.kindOf n == some .cell) then (n, NameKind.cell) else (n, k)).lookup x = some .free
  | [], _, h => by simp at h
  | (n, k) :: r, x, h => by
    have ih := @lookup_relabel_free env r x
    show List.lookup x ((if (k == NameKind.free && env.scope.kind == .function && env.kindOf n == some .cell) = true then (n, NameKind.cell) else (n, k)) :: _) = _ ∨ List.lookup x ((if (k == NameKind.free && env.scope.kind == .function && env.kindOf n == some .cell) = true then (n, NameKind.cell) else (n, k)) :: _) = _
    cases hx : x == n with
    | true =>
      simp only [List.lookup_cons, hx] at h
      cases h
      by_cases hc : (NameKind.free == NameKind.free && env.scope.kind == .function && env.kindOf n == some .cell) = true
      · rw [if_pos hc]; simp [List.lookup_cons, hx]
      · rw [if_neg hc]; simp [List.lookup_cons, hx]
    | false =>
      simp only [List.lookup_cons, hx] at h
      by_cases hc : (k == NameKind.free && env.scope.kind == .function && env.kindOf n == some .cell) = true
      · rw [if_pos hc]; simp only [List.lookup_cons, hx]; exact ih h
      · rw [if_neg hc]; simp only [List.lookup_cons, hx]; exact ih h
theorem mem_relabel_free {env : Env} : ∀ {names : List (Str × NameKind)} {x : Str}, (∀ y ∈ names, y.2 ≠ .cell) →
    ((names.map fun (n, k) => if (k == NameKind.free && env.scope.kind == .function && env.kindOf n == some .cell) then (n, NameKind.cell) else (n, k)).lookup x = some .cell ∨
    (names.map fun (n, k) => if (k == NameKind.free && env.scope.kind == .function && env.kindOf n == some .cell) then (n, NameKind.cell) else (n, k)).lookup x = some .free) → (x, NameKind.free) ∈ names
  | [], _, _, h => by simp at h
  | (n, k) :: r, x, hn, h => by
    have ih := @mem_relabel_free env r x fun y hy => hn y (List.mem_cons_of_mem _ hy)
    change List.lookup x ((if (k == NameKind.free && env.scope.kind == .function && env.kindOf n == some .cell) = true then (n, NameKind.cell) else (n, k)) :: _) = _ ∨ List.lookup x ((if (k == NameKind.free && env.scope.kind == .function && env.kindOf n == some .cell) = true then (n, NameKind.cell) else (n, k)) :: _) = _ at h
    cases hx : x == n with
    | true =>
      have e : x = n := by simpa using hx
      subst e
      by_cases hc : (k == NameKind.free && env.scope.kind == .function && env.kindOf x == some .cell) = true
      · have hk : k = .free := by
          have := (Bool.and_eq_true _ _ ▸ hc : _ ∧ _).1
          have := (Bool.and_eq_true _ _ ▸ this : _ ∧ _).1
          simpa using this
        subst hk
        exact List.mem_cons_self
      · rw [if_neg hc] at h
        simp only [List.lookup_cons, hx] at h
        rcases h with h | h
        · cases h; exact absurd rfl (hn _ List.mem_cons_self)
        · cases h; exact List.mem_cons_self
    | false =>
      by_cases hc : (k == NameKind.free && env.scope.kind == .function && env.kindOf n == some .cell) = true
      · rw [if_pos hc] at h; simp only [List.lookup_cons, hx] at h; exact List.mem_cons_of_mem _ (ih h)
      · rw [if_neg hc] at h; simp only [List.lookup_cons, hx] at h; exact List.mem_cons_of_mem _ (ih h)
def blk (X : Cx) (scope : Scope) (N' : List Str) (C : Addr) (s₀ : Shared) (H₀ : Hp) (fp : List Addr) : Cx :=
  { X with N := N', s₀ := s₀, H₀ := H₀, env := compEnvC scope (closL X.env.cells scope.names []) C X.env, outer := X.stack, stack := X.stack, ex := fp, fn := fun _ => false, pn := [], xe := fun _ _ => False }
structure BlkOk (X : Cx) (scope : Scope) (fr : List (Str × Nat)) : Prop where
  kind : scope.kind = .function
  nocell : ∀ y ∈ scope.names, y.2 ≠ .cell
  names : ∀ y ∈ scope.names, y.2 = .local → scope.names.lookup y.1 = some .local
  free : ∀ y ∈ scope.names, y.2 = .free → X.env.scope.names.lookup y.1 = some .cell ∨ X.env.scope.names.lookup y.1 = some .free
  ix : ∀ p ∈ fr, X.N[p.2]? = some p.1 ∧ scope.names.lookup p.1 = some .free
def blkσ (no : Nat) (fr : List (Str × Nat)) (σ : St) : St := List.replicate no none ++ fr.map fun p => σ.getD p.2 none
def Wk (σ σ' : St) : Prop := σ.length = σ'.length ∧ ∀ (i : Nat) v, σ[i]? = some (some v) → σ'[i]? = some (some v)
theorem Wk.refl (σ : St) : Wk σ σ := ⟨rfl, fun _ _ h => h⟩
theorem Wk.set {σ σ' : St} {i : Nat} {x : Option V} (h : Wk σ σ') (hi : σ[i]? = some none) : Wk σ (σ'.set i x) := by
  refine ⟨by rw [List.length_set]; exact h.1, fun j v e => ?_⟩
  have hj : j ≠ i := by rintro rfl; rw [hi] at e; cases e
  rw [List.getElem?_set_ne (Ne.symm hj)]
  exact h.2 j v e

section
variable {X : Cx} {pins : List (Addr × Obj)} {σ : St} {H : Hp} {s : Shared} {scope : Scope} {fr : List (Str × Nat)} {own : List Str} {fp : List Addr}

theorem BlkOk.cell (B : BlkOk X scope fr) (ok : X.Ok) : ∀ x ∈ scope.names, x.2 = .free → ∃ c, X.env.cells.lookup x.1 = some c := fun x hx hk => ok.has x.1 (B.free x hx hk)
theorem BlkOk.sub (B : BlkOk X scope fr) (ok : X.Ok) {x : Str} {c : Addr} (h : (closL X.env.cells scope.names []).lookup x = some c) : X.env.cells.lookup x = some c := by
  rcases closL_of h with h | ⟨hm, e⟩
  · simp at h
  · obtain ⟨c', hc⟩ := B.cell ok _ hm rfl
    rw [e, hc]; rfl

theorem blk_ok (B : BlkOk X scope fr) (I : Inv X pins σ H s) (hf : ∀ b ∈ fp, FpOk X pins H b) (hfs : ∀ b ∈ fp, b < s.heap.objs.size) {N' : List Str} : (blk X scope N' s.heap.objs.size s H fp).Ok where
  mod := I.ok.mod
  kind := B.kind
  glob := I.ok.glob
  blt := I.ok.blt
  above := Nat.le_refl _
  inj := fun x y c h1 h2 => I.ok.inj x y c (B.sub I.ok h1) (B.sub I.ok h2)
  has := fun x h => closL_has (mem_relabel_free B.nocell h)
  cab := fun x c h => by cases h
  hd := I.ok.hd
  frames := I.ok.frames
  stk := .inl rfl
  exf := fun b hb => ⟨Nat.ne_of_lt (hfs b hb), fun x c h => (hf b hb).2.2.2.2.1 x c (B.sub I.ok h)⟩
  bs := I.bs
  bsz := Nat.le_trans I.ok.bsz I.sz
  noex := fun b o e hb => by
    rcases (hf b hb).2.2.2.1 with h | h
    · exact I.ok.noex b o e h
    · exact absurd (Nat.lt_of_lt_of_le (Heap.lt_size e) (Nat.le_trans I.ok.bsz h)) (Nat.lt_irrefl _)
  exfs := fun b hb h => by
    rcases List.mem_cons.mp (I.stkSub b h) with e | h
    · exact (hf b hb).2.1 e
    · exact (hf b hb).2.2.1 h
  funs := I.stack
  frf := I.stkFree

theorem blk_start (B : BlkOk X scope fr) (I : Inv X pins σ H s) (hf : ∀ b ∈ fp, FpOk X pins H b) (hfs : ∀ b ∈ fp, b < s.heap.objs.size) {h1 : Heap} {m : Str → Option Value} {tk : Nat} (hn : h1.Ns s.heap.objs.size m)
    (hk : ∀ b o, s.heap.get? b = some o → h1.get? b = some o) : Inv (blk X scope (own ++ fr.map (·.1)) s.heap.objs.size s H fp) [] (blkσ own.length fr σ) H { s with heap := h1, toks := tk } where
  ok := blk_ok B I hf hfs
  os := rfl
  bare := I.bare
  base := Un.kept hk
  loc := by
    refine ⟨m, hn, fun i x v e1 e2 e3 => ?_⟩
    change (own ++ fr.map (·.1))[i]? = some x at e1
    unfold blkσ at e2
    by_cases hi : i < own.length
    · rw [List.getElem?_append_left (by simpa using hi), List.getElem?_replicate] at e2
      split at e2 <;> cases e2
    · rw [List.getElem?_append_right (by simpa using Nat.le_of_not_lt hi), List.getElem?_map] at e1
      rw [List.getElem?_append_right (by simpa using Nat.le_of_not_lt hi), List.getElem?_map, List.length_replicate] at e2
      cases hp : fr[i - own.length]? with
      | none => rw [hp] at e1; cases e1
      | some p =>
        rw [hp] at e1 e2
        simp only [Option.map_some, Option.some.injEq] at e1 e2
        obtain ⟨i1, i2⟩ := B.ix p (List.mem_of_getElem? hp)
        subst e1
        have e2' : σ[p.2]? = some (some v) := by
          rw [List.getD_eq_getElem?_getD] at e2
          cases q : σ[p.2]? with
          | none => rw [q] at e2; cases e2
          | some z => rw [q] at e2; exact congrArg some e2
        have kX : X.env.kindOf p.1 = some .cell ∨ X.env.kindOf p.1 = some .free := B.free (p.1, .free) (PySem.mem_of_lookup i2) rfl
        obtain ⟨m', hn', hl'⟩ := I.loc
        have vis : Vis X.env.scope p.1 := .inr kX
        obtain ⟨u, r, l⟩ := hl' p.2 p.1 v i1 e2' vis
        refine ⟨u, r, .inr ⟨lookup_relabel_free i2, ?_⟩⟩
        rcases l with ⟨k, _⟩ | ⟨_, c, hc, z⟩
        · rcases kX with q | q <;> (rw [k] at q; cases q)
        · obtain ⟨c', hc'⟩ := closL_has (cells := X.env.cells) (acc := []) (PySem.mem_of_lookup i2)
          have := B.sub I.ok hc'
          rw [hc] at this; cases this
          exact ⟨c, hc', z.keeps hk⟩
  cell := fun x c h => by
    obtain ⟨v, z⟩ := I.cell x c (B.sub I.ok h)
    exact ⟨v, z.keeps hk⟩
  free := I.hok.fresh (Nat.le_refl _)
  freeC := fun x c h => I.freeC x c (B.sub I.ok h)
  pin := fun p hp => absurd (show p ∈ ([] : List (Addr × Obj)) from hp) (by simp)
  hok := I.hok.kept hk
  len := by
    unfold blkσ
    show _ = (own ++ fr.map (·.1)).length
    simp
theorem blk_end {s' : Shared} {H' : Hp} {σ' : St} {pY : List (Addr × Obj)} {N' : List Str} (I : Inv X pins σ H s) (hf : ∀ b ∈ fp, FpOk X pins H b) (J : Inv (blk X scope N' s.heap.objs.size s H fp) pY σ' H' s') : Inv X pins σ H' s' :=
  I.call' J.os J.base J.hok J.bare fun b hb => ⟨(hf b hb).2.2.2.1, (hf b hb).2.1, (hf b hb).2.2.2.2.1, (hf b hb).2.2.2.2.2⟩
end
def PIf (Y : Cx) (ifs : List Expr) (t : TT) : Prop :=
  ∀ (pins : List (Addr × Obj)) (s : Shared) (σ : St) (H : Hp) (Q : Bool → Hp → Prop), Inv Y pins σ H s → t σ H Q →
    wpAny (model Y.prog Y.w) Y.A (forIn ifs true fun c r => if r = true then do let ok ← isTrue c Y.env (eval c Y.env); pure (ForInStep.yield ok) else pure (ForInStep.yield r)) (TP Y pins σ Q) Y.xe s
def tYes : TT := fun _ H Q => Q true H
theorem pif_nil {Y : Cx} : PIf Y [] tYes := fun _ _ _ H _ I h => wpAny_tests_nil ⟨H, I, h⟩
theorem pif_one {Y : Cx} {c : Expr} {t : TT} (h : PT Y c t) : PIf Y [c] t := fun pins s σ H Q I hq => wpAny_tests_one (h pins s σ H Q I hq)
def CompW (J : It) (g : TG) (tc : TT) (te : TE) (σ₀ : St) (D : Addr) (Q : Hp → Prop) (H : Hp) : Prop :=
  ∃ W : Nat → Nat → List V → Hp → Prop, (∃ m, W 0 m [] H) ∧ ∀ i m ys H, W i m ys H →
    (J.stop i H ∧ Q H) ∨ (J.go i H ∧ ∃ N : List V → Hp → Prop, (∀ ys' H', N ys' H' → ∃ m', m' < m ∧ W (i + 1) m' ys' H') ∧ ∀ x H', J.yld i H x H' → g x σ₀ H' fun σ2 H2 => Wk σ₀ σ2 ∧
      tc σ2 H2 fun b H3 => if b = true then te σ2 H3 fun y H4 => H4 D = some (.lst ys) ∧ ys.length < sizeLine ∧ N (ys ++ [y]) (upd H4 D (.lst (ys ++ [y]))) else N ys H3)

theorem Inv.weakW {X : Cx} {pins : List (Addr × Obj)} {σ σ' : St} {H : Hp} {s : Shared} (I : Inv X pins σ' H s) (h : Wk σ σ') : Inv X pins σ H s := I.weak h.1 h.2

theorem comp_loop {Y : Cx} {elt tg iter : Expr} {ifs : List Expr} {scope : Scope} {pos : Pos} {it D : Addr} {fp : List Addr} {tn : Nat → Heap → Prop} {J : It} {g : TG} {tc : TT} {te : TE} {σ₀ : St} {H : Hp} {s : Shared} {Q : Hp → Prop}
    (hc : Y.calm = true) (T : Turn Y.prog Y.w Y.K tg J fp it tn) (hg : PG Y tg g) (hif : PIf Y ifs tc) (he : PE Y elt te)
    (I : Inv Y [] σ₀ H s) (st : tn 0 s.heap) (hf : ∀ b ∈ fp, FpOk Y [] H b) (hw : CompW J g tc te σ₀ D Q H) (hx : Y.xe = fun _ _ => False) :
    codeAny (model Y.prog Y.w) Y.A (.compLoop (.ListComp elt [⟨tg, iter, ifs, 0⟩] scope pos) 0 (.ref it) (.ref D) Y.env) (fun r s' => ∃ H', r = .ok .next ∧ Inv Y [] σ₀ H' s' ∧ Q H') s := by
  obtain ⟨W, ⟨m0, w0⟩, turn⟩ := hw
  have stat : ∀ {H' : Hp}, (∀ b ∈ fp, H' b = none) → ∀ b ∈ fp, FpOk Y [] H' b := fun hn b hb => ⟨hn b hb, (hf b hb).2⟩
  refine codeAny_loop rfl (fun n s' => ∃ i ys H', Inv Y [] σ₀ H' s' ∧ tn i s'.heap ∧ (∀ b ∈ fp, H' b = none) ∧ W i n ys H') ?_ m0 ⟨0, [], H, I, st, fun b hb => (hf b hb).1, w0⟩
  rintro n s3 ⟨i, ys, H3, I3, st3, fr3, w3⟩
  show wpAny _ Y.A ((compTurn (.ListComp elt [⟨tg, iter, ifs, 0⟩] scope pos) 0 (.ref it) (.ref D) Y.env).onRaise (fun x => do noteFrame x Y.env; theTreesLotGoes x)) _ _ s3
  refine wpAny_noted ?_
  rw [compTurn_list]
  refine wpAny_bind (wpAny_standAt (wpAny_bind ?_))
  have toE : ∀ {α : Type} {t : Sem α} {P : α → Shared → Prop} {E : Value → Shared → Prop} {s : Shared}, wpAny (model Y.prog Y.w) Y.A t P Y.xe s → wpAny (model Y.prog Y.w) Y.A t P E s := fun {α t P E s} h => by
    rw [hx] at h
    exact wpAny_mono h (fun _ _ q => q) fun _ _ q => q.elim
  rcases turn i n ys H3 w3 with ⟨stop, qn⟩ | ⟨go, N, hN, step⟩
  · refine thn (T.done Y rfl rfl rfl hc i [] s3 σ₀ H3 _ I3 (stat fr3) st3 stop) fun r s4 ⟨hr, I4⟩ => ?_
    subst hr
    exact wpAny_pure ⟨H3, rfl, I4, qn⟩
  · refine thn (T.item Y rfl rfl rfl hc i [] s3 σ₀ H3 _ I3 (stat fr3) st3 go) fun r s4 ⟨u, hr, h4⟩ => ?_
    subst hr
    refine wpAny_bind (thn h4 fun _ s5 ⟨x, H5, I5, r5, y5, st5, fr5⟩ => ?_)
    have I5' := I5.pinned (stat fr5) (T.obj _ _ st5)
    refine wpAny_bind (toE (thn (hg _ s5 σ₀ H5 x u _ I5' r5 (step x H5 y5)) fun _ s6 ⟨σ6, H6, I6, wk6, q6⟩ => ?_))
    have again : ∀ {s7 : Shared} {σ7 : St} {ys7 : List V} {H7 : Hp}, Inv Y ([] ++ pinsAt fp s5.heap) σ7 H7 s7 → Wk σ₀ σ7 → N ys7 H7 → ∃ m, m < n ∧ ∃ i ys H', Inv Y [] σ₀ H' s7 ∧ tn i s7.heap ∧ (∀ b ∈ fp, H' b = none) ∧ W i m ys H' := fun {s7 σ7 ys7 H7} I7 wk7 n7 => by
      obtain ⟨m', hm, w7⟩ := hN ys7 H7 n7
      refine ⟨m', hm, i + 1, ys7, H7, (I7.unpinned).weakW wk7, T.keep _ _ _ st5 fun b hb o e => (I7.pin (b, o) (List.mem_append_right _ (List.mem_append_right _ (mem_pinsAt hb e)))).1, fun b hb => ?_, w7⟩
      obtain ⟨o, e, d⟩ := T.obj _ _ st5 b hb
      exact (I7.pin (b, o) (List.mem_append_right _ (List.mem_append_right _ (mem_pinsAt hb e)))).2.1
    refine wpAny_bind (wpAny_mono (hif _ s6 σ6 H6 _ I6 q6) (fun ok s7 ⟨H7, I7, q7⟩ => ?_) fun _ _ q => by rw [hx] at q; exact q.elim)
    cases ok with
    | false => exact wpAny_pure ⟨rfl, again I7 wk6 q7⟩
    | true =>
      refine wpAny_bind (wpAny_bind (wpAny_mono (he _ s7 σ6 H7 _ I7 q7) (fun v s8 ⟨y, H8, I8, r8, hD, hz, n8⟩ => ?_) fun _ _ q => by rw [hx] at q; exact q.elim))
      refine wpAny_bind (wpAny_mono (mt_append _ s8 σ6 H8 (.ref D) [y] (.ref D) [v] (fun _ H9 => N (ys ++ [y]) H9) I8 rfl (.cons r8 .nil) ⟨D, ys, y, rfl, rfl, hD, hz, n8⟩) (fun z s9 ⟨_, H9, I9, _, n9⟩ => ?_) fun _ _ q => by rw [hx] at q; exact q.elim)
      exact wpAny_pure (wpAny_pure ⟨rfl, again I9 wk6 n9⟩)

def tComp (wi : TI) (no : Nat) (fr : List (Str × Nat)) (g : TG) (tc : TT) (te : TE) : TE := fun σ H Q => wi σ H fun J H1 => ∀ D, H1 D = none → CompW J g tc te (blkσ no fr σ) D (fun H' => Q (.ref D) H') (upd H1 D (.lst []))

section
variable {X : Cx} {elt tg iter : Expr} {ifs : List Expr} {scope : Scope} {pos : Pos} {own : List Str} {fr : List (Str × Nat)} {wi : TI} {g : TG} {tc : TT} {te : TE}

theorem comp_core {pins : List (Addr × Obj)} {σ : St} {H2 : Hp} {s2 : Shared} {it : Addr} {fp : List Addr} {tn : Nat → Heap → Prop} {J : It} {Qd : V → Hp → Prop} {RR : Value → Addr → Result → Shared → Prop} {E : Value → Shared → Prop}
    (hc : X.calm = true) (B : BlkOk X scope fr)
    (hb : ∀ (C : Addr) (s₀ : Shared) (H₀ : Hp) (fp : List Addr), PG (blk X scope (own ++ fr.map (·.1)) C s₀ H₀ fp) tg g ∧ PIf (blk X scope (own ++ fr.map (·.1)) C s₀ H₀ fp) ifs tc ∧ PE (blk X scope (own ++ fr.map (·.1)) C s₀ H₀ fp) elt te)
    (I2 : Inv X pins σ H2 s2) (T : Turn X.prog X.w X.K tg J fp it tn) (st2 : tn 0 s2.heap) (f2 : ∀ b ∈ fp, FpOk X pins H2 b)
    (hw : ∀ D, H2 D = none → CompW J g tc te (blkσ own.length fr σ) D (fun H' => Qd (.ref D) H') (upd H2 D (.lst [])))
    (hR : ∀ (D C : Addr) (s' : Shared) (H' : Hp) (m : Str → Option Value), Inv X pins σ H' s' → s'.heap.Ns C m → H' C = none → C ≠ X.env.locals → X.s₀.heap.objs.size ≤ C → (∀ x c, X.env.cells.lookup x = some c → c ≠ C) → (∀ p ∈ X.pn ++ pins, p.1 ≠ C) →
      Qd (.ref D) H' → RR (.ref D) C (.ok .next) s') :
    wpAny (model X.prog X.w) X.A (newList []) (fun acc s₃ => wpAny (model X.prog X.w) X.A (newFunctionEnv scope X.env.globals (closL X.env.cells scope.names []) [] X.env.qual none .none (some X.env)) (fun cenv s₄ =>
      codeAny (model X.prog X.w) X.A (.compStart (.ListComp elt [⟨tg, iter, ifs, 0⟩] scope pos) 0 (.ref it) acc { cenv with scope := relabel scope X.env }) (RR acc cenv.locals) s₄) E s₃) E s2 := by
  refine wpAny_newObj_type (wpAny_newFunctionEnv B.nocell (by intro y hy; simp at hy) (fun h₁ hns₁ hsb₁ => ?_) B.kind)
  dsimp only at hns₁ hsb₁ ⊢
  have hD : H2 s2.heap.objs.size = none := I2.fresh
  have I3 : Inv X pins σ (upd H2 s2.heap.objs.size (.lst [])) { s2 with heap := s2.heap.push { cls := .type "list", data := .seq ([] : List Value).toArray }, toks := s2.toks } := I2.lnew .nil (by simp)
  have lt2 : ∀ b ∈ fp, b < s2.heap.objs.size := fun b hb => by obtain ⟨o, e, _⟩ := T.obj _ _ st2 b hb; exact Heap.lt_size e
  have f3 : ∀ b ∈ fp, FpOk X pins (upd H2 s2.heap.objs.size (.lst [])) b := fun b hb => ⟨by rw [upd_ne (Nat.ne_of_lt (lt2 b hb))]; exact (f2 b hb).1, (f2 b hb).2⟩
  generalize hs3 : ({ s2 with heap := s2.heap.push { cls := .type "list", data := .seq ([] : List Value).toArray }, toks := s2.toks } : Shared) = s3 at I3
  have e3 : s3.heap = s2.heap.push { cls := .type "list", data := .seq ([] : List Value).toArray } := by rw [← hs3]
  have lt3 : ∀ b ∈ fp, b < s3.heap.objs.size := fun b hb => by rw [e3, Heap.size_push]; exact Nat.lt_succ_of_lt (lt2 b hb)
  have eC : (s2.heap.push { cls := .type "list", dict := none, data := .seq ([] : List Value).toArray }).objs.size = s3.heap.objs.size := by rw [e3]
  have old : ∀ b o, s3.heap.get? b = some o → h₁.get? b = some o := fun b o e => by
    have hb : b < s3.heap.objs.size := Heap.lt_size e
    rw [e3] at e
    exact hsb₁.extBut b o (by rw [eC]; exact Nat.ne_of_lt hb) (Heap.get?_push_of_some _ e)
  rw [eC] at hns₁ ⊢
  have IY : Inv (blk X scope (own ++ fr.map (·.1)) s3.heap.objs.size s3 (upd H2 s2.heap.objs.size (.lst [])) fp) [] (blkσ own.length fr σ) (upd H2 s2.heap.objs.size (.lst [])) { s3 with heap := h₁, toks := s2.toks + ([] : List (Str × Value)).length } :=
    blk_start (own := own) B I3 f3 lt3 hns₁ old
  have st3 : tn 0 h₁ := T.keep _ _ _ st2 fun b hb o e => old b o (by rw [e3]; exact Heap.get?_push_of_some _ e)
  have fY : ∀ b ∈ fp, FpOk (blk X scope (own ++ fr.map (·.1)) s3.heap.objs.size s3 (upd H2 s2.heap.objs.size (.lst [])) fp) [] (upd H2 s2.heap.objs.size (.lst [])) b := fun b hb =>
    ⟨(f3 b hb).1, Nat.ne_of_lt (lt3 b hb), (IY.ok.exfs b hb), .inl hb, (IY.ok.exf b hb).2, fun p hp => absurd (show p ∈ ([] : List (Addr × Obj)) from hp) (by simp)⟩
  obtain ⟨b1, b2, b3⟩ := hb s3.heap.objs.size s3 (upd H2 s2.heap.objs.size (.lst [])) fp
  have loop := comp_loop (Y := blk X scope (own ++ fr.map (·.1)) s3.heap.objs.size s3 (upd H2 s2.heap.objs.size (.lst [])) fp) (iter := iter) (scope := scope) (pos := pos) hc T b1 b2 b3 IY st3 fY (hw _ hD) rfl
  have loop2 : codeAny (model X.prog X.w) X.A (.compLoop (.ListComp elt [⟨tg, iter, ifs, 0⟩] scope pos) 0 (.ref it) (.ref s2.heap.objs.size) (compEnvC scope (closL X.env.cells scope.names []) s3.heap.objs.size X.env)) (RR (.ref s2.heap.objs.size) s3.heap.objs.size) { s3 with heap := h₁, toks := s2.toks + ([] : List (Str × Value)).length } := by
    refine codeAny_mono loop fun r s' ⟨H', hr, J', q⟩ => ?_
    subst hr
    obtain ⟨m', hn', _⟩ := id J'.loc
    refine hR s2.heap.objs.size s3.heap.objs.size s' H' m' (blk_end I3 f3 J') hn' J'.free (Nat.ne_of_gt I3.lt) I3.sz (fun x c e => ?_) (fun p hp z => ?_) q
    · obtain ⟨v, z⟩ := I3.cell x c e
      exact Nat.ne_of_lt z.lt
    · exact absurd (Heap.lt_size (I3.pin p hp).1) (by rw [z]; exact Nat.lt_irrefl _)
  have es : ({ s2 with heap := h₁, toks := s2.toks + ([] : List (Str × Value)).length } : Shared) = { s3 with heap := h₁, toks := s2.toks + ([] : List (Str × Value)).length } := by rw [← hs3]
  rw [es]
  exact codeAny_compStart_list loop2 (T.self X.A 0 _ _ _ st3 loop2)
theorem pe_comp (hc : X.calm = true) (B : BlkOk X scope fr) (hi : PI X tg iter wi)
    (hb : ∀ (C : Addr) (s₀ : Shared) (H₀ : Hp) (fp : List Addr), PG (blk X scope (own ++ fr.map (·.1)) C s₀ H₀ fp) tg g ∧ PIf (blk X scope (own ++ fr.map (·.1)) C s₀ H₀ fp) ifs tc ∧ PE (blk X scope (own ++ fr.map (·.1)) C s₀ H₀ fp) elt te)
    (hs : ∀ x, foldedSetIterable iter X.env x = pure x := by intro _; rfl) : PE X (.ListComp elt [⟨tg, iter, ifs, 0⟩] scope pos) (tComp wi own.length fr g tc te) := by
  intro pins s σ H Q I h
  rw [eval_ListComp]
  refine wpAny_comprehension_free (use := none) rfl hs (closFor (B.cell I.ok)) B.kind B.names (thn (hi pins s σ H _ I h) fun v s1 h1 => thn h1 fun itv s2 h2 => ?_)
  obtain ⟨it, fp, tn, J, H2, e, I2, T, st2, f2, hD⟩ := h2
  subst e
  refine comp_core (own := own) (Qd := Q) (RR := fun acc C => compPost (model X.prog X.w) X.A X.xe none (EP X pins σ Q) acc C) hc B hb I2 T st2 f2 hD ?_
  intro D C s' H' m I' hn hC c1 c2 c3 c4 q
  exact ⟨m, hn, fun h' sb => ⟨.ref D, H', I'.turned (t' := s'.toks) (fun b o hb e => sb.extBut b o hb e) hC (Ne.symm c1).symm (.inr c2) c3 c4, rfl, q⟩⟩
theorem ps_setC {i : Nat} {x : Str} {py spos : Pos} (hN : X.N.Nodup) (hx : X.N[i]? = some x) (hl : X.env.scope.names.lookup x = some .local) (hc : X.calm = true) (B : BlkOk X scope fr) (hi : PI X tg iter wi)
    (hb : ∀ (C : Addr) (s₀ : Shared) (H₀ : Hp) (fp : List Addr), PG (blk X scope (own ++ fr.map (·.1)) C s₀ H₀ fp) tg g ∧ PIf (blk X scope (own ++ fr.map (·.1)) C s₀ H₀ fp) ifs tc ∧ PE (blk X scope (own ++ fr.map (·.1)) C s₀ H₀ fp) elt te)
    (hsw : swapsWith (.ListComp elt [⟨tg, iter, ifs, 0⟩] scope pos) (some (.Name x py)) spos.line X.env = pure true := by rfl)
    (hs : ∀ x, foldedSetIterable iter X.env x = pure x := by intro _; rfl) : PS X (.Assign [.Name x py] (.ListComp elt [⟨tg, iter, ifs, 0⟩] scope pos) spos) (tAsg (tComp wi own.length fr g tc te) (gName i)) := by
  intro pins s σ H D0 I h
  rw [exec_Assign_Name_used _ _ _ _ hsw]
  refine wpAny_bind (wpAny_standAt (wpAny_bind ?_))
  show wpAny _ X.A (do let _ ← comprehension (.ListComp elt [⟨tg, iter, ifs, 0⟩] scope pos) scope X.env _ (newList []) false (eval iter X.env) (some (assign (.Name x py) X.env))) _ _ s
  refine wpAny_bind (wpAny_mono (wpAny_comprehension_free (use := some (assign (.Name x py) X.env)) (Q := fun _ s' => SP X pins D0 .next s') rfl hs (closFor (B.cell I.ok)) B.kind B.names
    (thn (hi pins s σ H _ I h) fun v s1 h1 => thn h1 fun itv s2 h2 => ?_)) (fun _ s' hq => wpAny_pure (wpAny_pure hq)) fun _ _ e => e)
  obtain ⟨it, fp, tn, J, H2, e, I2, T, st2, f2, hD⟩ := h2
  subst e
  refine comp_core (own := own) (Qd := fun v H' => gName i v σ H' D0.nx) (RR := fun acc C => compPost (model X.prog X.w) X.A X.xe (some (assign (.Name x py) X.env)) (fun _ s' => SP X pins D0 .next s') acc C) hc B hb I2 T st2 f2 hD ?_
  intro D C s' H' m I' hn hC c1 c2 c3 c4 q
  show wpAny _ X.A (assign (.Name x py) X.env (.ref D)) _ _ _
  refine wpAny_assign_Name (store_ok2 I' hN hx (.inl hl) (v := .ref D) rfl (fun s'' I'' ⟨a, sb, ha⟩ => ?_) (.inr hl))
  have hCa : C ≠ a := by
    rcases ha with rfl | ha
    · exact c1
    · exact fun e => c3 x a ha e.symm
  refine ⟨m, hn.sameBut sb hCa, fun h' sb' => ?_⟩
  exact ⟨_, H', I''.turned (t' := s''.toks) (fun b o hb e => sb'.extBut b o hb e) hC c1 (.inr c2) c3 c4, q⟩
end
end L2

set_option Elab.async false
set_option linter.all false
set_option maxRecDepth 100000
namespace L2
open PySem PySem.Spec PyProof.Rows
def SqIter (b : Bool) (h : Heap) (it a : Addr) (i : Nat) : Prop := match b with
  | true => h.IsListIter it a i
  | false => h.IsTupleIter it a i
def IsSq (b : Bool) (h : Heap) (a : Addr) (items : Array Value) : Prop := match b with
  | true => h.IsList a items
  | false => h.IsTuple a items
theorem SqIter.at {b : Bool} {h h' : Heap} {it a : Addr} {i : Nat} (x : SqIter b h it a i) (k : ∀ o, h.get? it = some o → h'.get? it = some o) : SqIter b h' it a i := by
  cases b with
  | true => exact Heap.IsListIter.at x k
  | false => exact Heap.IsTupleIter.at x k
theorem IsSq.at {b : Bool} {h h' : Heap} {a : Addr} {items : Array Value} (x : IsSq b h a items) (k : ∀ o, h.get? a = some o → h'.get? a = some o) : IsSq b h' a items := by
  cases b with
  | true => exact Heap.IsList.at x k
  | false => obtain ⟨o, e, r⟩ := x; exact ⟨o, k o e, r⟩
theorem SqIter.obj {b : Bool} {h : Heap} {it a : Addr} {i : Nat} (x : SqIter b h it a i) : ∃ o, h.get? it = some o ∧ ∀ v, o.data ≠ .cell v := by
  cases b with
  | true => obtain ⟨o, e, c, d⟩ := x; exact ⟨o, e, fun v z => by rw [d] at z; cases z⟩
  | false => obtain ⟨o, e, c, d⟩ := x; exact ⟨o, e, fun v z => by rw [d] at z; cases z⟩
theorem IsSq.lt {b : Bool} {h : Heap} {a : Addr} {items : Array Value} (x : IsSq b h a items) : a < h.objs.size := by
  cases b with
  | true => obtain ⟨o, e, _⟩ := x; exact Heap.lt_size e
  | false => obtain ⟨o, e, _⟩ := x; exact Heap.lt_size e

section
variable {prog : Program} {w : World} {A : Around} {E : Value → Shared → Prop} {s : Shared}

theorem nextOf_tup {it l : Addr} {i : Nat} {items : Array Value} {x : Value} {Q : Value → Shared → Prop} (hit : s.heap.IsTupleIter it l i) (hl : s.heap.IsTuple l items) (hx : items[i]? = some x)
    (hQ : ∀ h', h'.IsTupleIter it l (i + 1) → Heap.SameBut it s.heap h' → Q x { s with heap := h' }) : wpAny (model prog w) A (Builtin.SmallTypes.nextOf (.ref it)) Q E s := by
  obtain ⟨o, ho, hc, hd⟩ := id hit
  obtain ⟨ol, hol, _, nl, hdl⟩ := hl
  unfold Builtin.SmallTypes.nextOf
  refine wpAny_bind (wpAny_callSpecial?_slot (name := Str.ofString "__next__") hit.typeIs F.slot_tuple_iterator_next (wpAny_call_entry F.slot_tuple_iterator_next hit.typeIs F.entry_tuple_iterator_next ?_ (F.args_tuple_iterator_next_1 _)))
  show wpAny _ _ (field (.ref it) 0 >>= _) _ _ s
  refine wpAny_bind (wpAny_field ho hd (x := .ref l) rfl ?_)
  show wpAny _ _ (if (Value.ref l == Value.none) = true then _ else _) _ _ s
  rw [if_neg (show ¬ ((Value.ref l == Value.none) = true) from Bool.false_ne_true)]
  show wpAny _ _ (field (.ref it) 1 >>= _) _ _ s
  refine wpAny_bind (wpAny_field ho hd (x := .int i 0) rfl ?_)
  show wpAny _ _ (seqItems? (.ref l) >>= _) _ _ s
  refine wpAny_bind (wpAny_seqItems hol hdl ?_)
  simp only [Int.toNat_natCast, hx]
  refine wpAny_bind (wpAny_setField ho hd (by simp) (wpAny_pure ⟨x, rfl, wpAny_pure (hQ _ ?_ (Heap.SameBut.update ..))⟩))
  exact ⟨_, Heap.get?_update_self _ ho (Obj.isFreed_of_fields (Obj.data_mapFields hd _)), (Obj.cls_mapFields ..).trans hc, by rw [Obj.data_mapFields hd]; simp [rawInt]⟩
theorem nextOf_tupEnd {it l : Addr} {i : Nat} {items : Array Value} {Q : Value → Shared → Prop} (hh : A.handled = none) (hit : s.heap.IsTupleIter it l i) (hl : s.heap.IsTuple l items) (hx : items[i]? = none)
    (hE : ∀ h' e, Heap.ExtBut it s.heap h' → (∃ o, h'.get? e = some o ∧ o.cls = .type "StopIteration") → E (.ref e) { s with heap := h' }) : wpAny (model prog w) A (Builtin.SmallTypes.nextOf (.ref it)) Q E s := by
  obtain ⟨o, ho, hc, hd⟩ := id hit
  obtain ⟨ol, hol, _, nl, hdl⟩ := hl
  unfold Builtin.SmallTypes.nextOf
  refine wpAny_bind (wpAny_callSpecial?_slot (name := Str.ofString "__next__") hit.typeIs F.slot_tuple_iterator_next (wpAny_call_entry F.slot_tuple_iterator_next hit.typeIs F.entry_tuple_iterator_next ?_ (F.args_tuple_iterator_next_1 _)))
  show wpAny _ _ (field (.ref it) 0 >>= _) _ _ s
  refine wpAny_bind (wpAny_field ho hd (x := .ref l) rfl ?_)
  show wpAny _ _ (if (Value.ref l == Value.none) = true then _ else _) _ _ s
  rw [if_neg (show ¬ ((Value.ref l == Value.none) = true) from Bool.false_ne_true)]
  show wpAny _ _ (field (.ref it) 1 >>= _) _ _ s
  refine wpAny_bind (wpAny_field ho hd (x := .int i 0) rfl ?_)
  show wpAny _ _ (seqItems? (.ref l) >>= _) _ _ s
  refine wpAny_bind (wpAny_seqItems hol hdl ?_)
  simp only [Int.toNat_natCast, hx]
  refine wpAny_bind (wpAny_rule (wpAny_bind (wpAny_setField ho hd (by simp) ?_)))
  show wpAny _ _ (newExc (.type "StopIteration") [] >>= _) _ _ _
  refine wpAny_bind ?_
  simp only [newExc, newTuple]
  refine wpAny_bind (wpAny_newObj_type ?_ (by size_fits))
  refine wpAny_bind (m := firstArgMember _ _) (wpAny_of_eq (a := Value.none) (by first | rfl | (simp only [firstArgMember]; rfl)) ?_)
  refine wpAny_newObj_type ?_ (by size_fits)
  simp only [raiseNew]
  refine wpAny_bind (wpAny_handled ?_)
  first | rw [show A.in1.handled = none from hh] | rw [hh]
  refine wpAny_bind (wpAny_pure (wpAny_throw ?_))
  exact hE _ _ (((Heap.SameBut.update ..).extBut.push _).push _) ⟨_, Heap.get?_push_size _ rfl, rfl⟩
theorem nextSq {b : Bool} {it l : Addr} {i : Nat} {items : Array Value} {x : Value} {Q : Value → Shared → Prop} (hit : SqIter b s.heap it l i) (hl : IsSq b s.heap l items) (hx : items[i]? = some x)
    (hQ : ∀ h', SqIter b h' it l (i + 1) → Heap.SameBut it s.heap h' → Q x { s with heap := h' }) : wpAny (model prog w) A (Builtin.SmallTypes.nextOf (.ref it)) Q E s := by
  cases b with
  | true => exact wpAny_nextOf_list_item hit hl hx hQ
  | false => exact nextOf_tup hit hl hx hQ
theorem nextSqEnd {b : Bool} {it l : Addr} {i : Nat} {items : Array Value} {Q : Value → Shared → Prop} (hh : A.handled = none) (hit : SqIter b s.heap it l i) (hl : IsSq b s.heap l items) (hx : items[i]? = none)
    (hE : ∀ h' e, Heap.ExtBut it s.heap h' → (∃ o, h'.get? e = some o ∧ o.cls = .type "StopIteration") → E (.ref e) { s with heap := h' }) : wpAny (model prog w) A (Builtin.SmallTypes.nextOf (.ref it)) Q E s := by
  cases b with
  | true => exact wpAny_nextOf_list_end hh hit hl hx hE
  | false => exact nextOf_tupEnd hh hit hl hx hE
end

abbrev IsZipB (h : Heap) (z TI TO : Addr) (f0 : Value) (b : Bool) : Prop :=
  h.get? z = some { cls := .type "zip", dict := none, data := .fields #[f0, .bool b, .bool false, .ref TI, .ref TO], slots := #[] }
section
variable {prog : Program} {w : World} {A : Around} {E : Value → Shared → Prop} {s : Shared} {c1 c2 : Bool} {z TI TO i1 i2 l1 l2 : Addr} {k1 k2 : Nat} {xs ys : Array Value} {x y a b : Value}

theorem zipGoF {f0 : Value} {bb : Bool} {Q : Value → Shared → Prop} (D : ZipApart z TI TO i1 i2 l1 l2) (hz : IsZipB s.heap z TI TO f0 bb) (hfree : ∀ {A' : Around} {E' : Value → Shared → Prop} {Q' : Bool → Shared → Prop}, Q' true s → wpAny (model prog w) A' (Builtin.SmallTypes.ownedTupleIsFree (.ref z)) Q' E' s) (hTI : IsPair s.heap TI (.ref i1) (.ref i2)) (hTO : IsPair s.heap TO a b)
    (h1 : SqIter c1 s.heap i1 l1 k1) (h2 : SqIter c2 s.heap i2 l2 k2) (hl1 : IsSq c1 s.heap l1 xs) (hl2 : IsSq c2 s.heap l2 ys) (hx : xs[k1]? = some x) (hy : ys[k2]? = some y)
    (hQ : ∀ h', IsZip h' z TI TO (rawInt s.heap.objs.size) → IsPair h' TO x y → SqIter c1 h' i1 l1 (k1 + 1) → SqIter c2 h' i2 l2 (k2 + 1) → IsPair h' s.heap.objs.size x y → h'.objs.size = s.heap.objs.size + 1 →
      (∀ c o, c ≠ z → c ≠ TO → c ≠ i1 → c ≠ i2 → s.heap.get? c = some o → h'.get? c = some o) → Q (.ref s.heap.objs.size) { s with heap := h' }) :
    wpAny (model prog w) A (Builtin.«zip.__next__» ⟨[.ref z], []⟩) (fun fin s' => ∃ v, fin = .done (.ret v) ∧ Q v s') E s := by
  show wpAny _ _ (field (.ref z) 2 >>= _) _ _ _
  refine wpAny_bind (wpAny_field hz rfl (x := .bool false) rfl ?_)
  show wpAny _ _ (field (.ref z) 3 >>= _) _ _ _
  refine wpAny_bind (wpAny_field hz rfl (x := .ref TI) rfl ?_)
  refine wpAny_bind (wpAny_seqItems hTI rfl ?_)
  show wpAny _ _ (Builtin.SmallTypes.ownedTupleIsFree (.ref z) >>= _) _ _ _
  refine wpAny_bind (hfree ?_)
  simp only [if_true]
  refine wpAny_bind (wpAny_rule ?_)
  refine wpAny_bind (wpAny_field hz rfl (x := .ref TO) rfl ?_)
  refine wpAny_bind (wpAny_setField_rec hz (by simp) fun g1 hz1 e1 => ?_)
  replace hz1 : IsZipB g1 z TI TO .ellipsis bb := hz1
  refine wpAny_bind ?_
  simp only [List.zipIdx_cons, List.zipIdx_nil, List.forIn_cons, List.forIn_nil]
  refine wpAny_bind (wpAny_bind (wpAny_onRaise ?_))
  show wpAny _ _ (Builtin.SmallTypes.nextOf (.ref i1) >>= _) _ _ _
  refine wpAny_bind (nextSq (h1.at fun o q => e1.extBut _ o D.i1z q) (hl1.at fun o q => e1.extBut _ o D.l1z q) hx fun g2 h1' e2 => wpAny_pure ?_)
  have hTO2 : IsPair g2 TO a b := e2.extBut _ _ D.TOi1 (e1.extBut _ _ D.TOz hTO)
  refine wpAny_bind (wpAny_seqItems hTO2 rfl ?_)
  refine wpAny_bind (wpAny_updateSeq_pair hTO2 fun g3 hTO3 e3 => ?_)
  replace hTO3 : IsPair g3 TO x b := hTO3
  refine wpAny_bind (wpAny_letGo (wpAny_pure ?_))
  refine wpAny_bind (wpAny_bind (wpAny_onRaise ?_))
  show wpAny _ _ (Builtin.SmallTypes.nextOf (.ref i2) >>= _) _ _ _
  have up2 : ∀ o, s.heap.get? i2 = some o → g3.get? i2 = some o := fun o q => e3.extBut _ o D.TOi2.symm (e2.extBut _ o D.i12.symm (e1.extBut _ o D.i2z q))
  have up3 : ∀ o, s.heap.get? l2 = some o → g3.get? l2 = some o := fun o q => e3.extBut _ o D.l2TO (e2.extBut _ o D.l2i1 (e1.extBut _ o D.l2z q))
  refine wpAny_bind (nextSq (h2.at up2) (hl2.at up3) hy fun g4 h2' e4 => wpAny_pure ?_)
  have hTO4 : IsPair g4 TO x b := e4.extBut _ _ D.TOi2 hTO3
  refine wpAny_bind (wpAny_seqItems hTO4 rfl ?_)
  refine wpAny_bind (wpAny_updateSeq_pair hTO4 fun g5 hTO5 e5 => ?_)
  replace hTO5 : IsPair g5 TO x y := hTO5
  refine wpAny_bind (wpAny_letGo (wpAny_pure (wpAny_pure ?_)))
  refine wpAny_bind (wpAny_seqItems hTO5 rfl ?_)
  refine wpAny_bind (wpAny_newTuple ?_)
  have sz : g5.objs.size = s.heap.objs.size := by rw [e5.1, e4.1, e3.1, e2.1, e1.1]
  have hz5 : IsZipB g5 z TI TO .ellipsis bb := e5.extBut _ _ D.TOz.symm (e4.extBut _ _ D.i2z.symm (e3.extBut _ _ D.TOz.symm (e2.extBut _ _ D.i1z.symm hz1)))
  have k5 : ∀ c o, c ≠ z → c ≠ TO → c ≠ i1 → c ≠ i2 → s.heap.get? c = some o → g5.get? c = some o := fun c o q1 q2 q3 q4 q =>
    e5.extBut _ _ q2 (e4.extBut _ _ q4 (e3.extBut _ _ q2 (e2.extBut _ _ q3 (e1.extBut _ _ q1 q))))
  have h15 : SqIter c1 g5 i1 l1 (k1 + 1) := h1'.at fun o q => e5.extBut _ o D.TOi1.symm (e4.extBut _ o D.i12 (e3.extBut _ o D.TOi1.symm q))
  have h25 : SqIter c2 g5 i2 l2 (k2 + 1) := h2'.at fun o q => e5.extBut _ o D.TOi2.symm q
  have zlt : z < g5.objs.size := Heap.lt_size hz5
  show wpAny _ _ (Builtin.SmallTypes.ownedTupleHandOut (.ref z) (.ref g5.objs.size) >>= _) _ _ _
  refine wpAny_bind ?_
  unfold Builtin.SmallTypes.ownedTupleHandOut
  have hz6 : IsZipB (g5.push { cls := .type "tuple", data := .seq #[x, y] }) z TI TO .ellipsis bb := Heap.get?_push_of_some _ hz5
  refine wpAny_bind (wpAny_setField_rec hz6 (by simp) fun g7 hz7 e7 => ?_)
  replace hz7 : IsZipB g7 z TI TO (rawInt g5.objs.size) bb := hz7
  refine wpAny_setField_rec hz7 (by simp) fun g8 hz8 e8 => ?_
  replace hz8 : IsZip g8 z TI TO (rawInt g5.objs.size) := hz8
  have up : ∀ c o, c ≠ z → g5.get? c = some o → g8.get? c = some o := fun c o q1 q => e8.extBut _ _ q1 (e7.extBut _ _ q1 (Heap.get?_push_of_some _ q))
  have hT8 : IsPair g8 g5.objs.size x y := e8.extBut _ _ (Nat.ne_of_gt zlt) (e7.extBut _ _ (Nat.ne_of_gt zlt) (Heap.get?_push_size _ rfl))
  have z8 : g8.objs.size = g5.objs.size + 1 := by rw [e8.1, e7.1, Heap.size_push]
  rw [sz] at hz8 hT8 z8
  refine wpAny_pure ⟨_, rfl, ?_⟩
  show Q (.ref g5.objs.size) _
  rw [sz]
  exact hQ g8 hz8 (up _ _ D.TOz hTO5) (h15.at fun o q => up _ o D.i1z q) (h25.at fun o q => up _ o D.i2z q) hT8 z8 fun c o q1 q2 q3 q4 q => up c o q1 (k5 c o q1 q2 q3 q4 q)

theorem zipStopF {f0 : Value} {bb : Bool} {Q : Fin → Shared → Prop} (hh : A.handled = none) (D : ZipApart z TI TO i1 i2 l1 l2) (hz : IsZipB s.heap z TI TO f0 bb) (hfree : ∀ {A' : Around} {E' : Value → Shared → Prop} {Q' : Bool → Shared → Prop}, Q' true s → wpAny (model prog w) A' (Builtin.SmallTypes.ownedTupleIsFree (.ref z)) Q' E' s) (hTI : IsPair s.heap TI (.ref i1) (.ref i2)) (hTO : IsPair s.heap TO a b)
    (h1 : SqIter c1 s.heap i1 l1 k1) (h2 : SqIter c2 s.heap i2 l2 k2) (hl1 : IsSq c1 s.heap l1 xs) (hl2 : IsSq c2 s.heap l2 ys) (hend : xs[k1]? = none ∨ ys[k2]? = none)
    (hE : ∀ h' e, (∀ c o, c ≠ z → c ≠ TO → c ≠ i1 → c ≠ i2 → s.heap.get? c = some o → h'.get? c = some o) → (∃ o, h'.get? e = some o ∧ o.cls = .type "StopIteration") → E (.ref e) { s with heap := h' }) :
    wpAny (model prog w) A (Builtin.«zip.__next__» ⟨[.ref z], []⟩) Q E s := by
  show wpAny _ _ (field (.ref z) 2 >>= _) _ _ _
  refine wpAny_bind (wpAny_field hz rfl (x := .bool false) rfl ?_)
  show wpAny _ _ (field (.ref z) 3 >>= _) _ _ _
  refine wpAny_bind (wpAny_field hz rfl (x := .ref TI) rfl ?_)
  refine wpAny_bind (wpAny_seqItems hTI rfl ?_)
  show wpAny _ _ (Builtin.SmallTypes.ownedTupleIsFree (.ref z) >>= _) _ _ _
  refine wpAny_bind (hfree ?_)
  simp only [if_true]
  refine wpAny_bind (wpAny_rule ?_)
  refine wpAny_bind (wpAny_field hz rfl (x := .ref TO) rfl ?_)
  refine wpAny_bind (wpAny_setField_rec hz (by simp) fun g1 hz1 e1 => ?_)
  replace hz1 : IsZipB g1 z TI TO .ellipsis bb := hz1
  refine wpAny_bind ?_
  simp only [List.zipIdx_cons, List.zipIdx_nil, List.forIn_cons, List.forIn_nil]
  refine wpAny_bind (wpAny_bind (wpAny_onRaise ?_))
  show wpAny _ _ (Builtin.SmallTypes.nextOf (.ref i1) >>= _) _ _ _
  have u1 : ∀ o, s.heap.get? i1 = some o → g1.get? i1 = some o := fun o q => e1.extBut _ o D.i1z q
  have u2 : ∀ o, s.heap.get? l1 = some o → g1.get? l1 = some o := fun o q => e1.extBut _ o D.l1z q
  cases hx : xs[k1]? with
  | none =>
    refine wpAny_bind (nextSqEnd hh (h1.at u1) (hl1.at u2) hx fun g2 e e2 he => ?_)
    obtain ⟨oe, hoe, hce⟩ := he
    have hz2 : IsZipB g2 z TI TO .ellipsis bb := e2 _ _ D.i1z.symm hz1
    have hez : e ≠ z := fun q => by subst q; rw [hz2] at hoe; cases hoe; simp at hce
    exact wpAny_setField_rec hz2 (by simp) fun g3 _ e3 => hE g3 e (fun c o q1 _ q3 _ q => e3.extBut _ _ q1 (e2 _ _ q3 (e1.extBut _ _ q1 q))) ⟨oe, e3.extBut _ _ hez hoe, hce⟩
  | some x =>
    have hy : ys[k2]? = none := by rcases hend with h | h; rw [hx] at h; cases h; exact h
    refine wpAny_bind (nextSq (h1.at u1) (hl1.at u2) hx fun g2 h1' e2 => wpAny_pure ?_)
    have hTO2 : IsPair g2 TO a b := e2.extBut _ _ D.TOi1 (e1.extBut _ _ D.TOz hTO)
    refine wpAny_bind (wpAny_seqItems hTO2 rfl ?_)
    refine wpAny_bind (wpAny_updateSeq_pair hTO2 fun g3 hTO3 e3 => ?_)
    refine wpAny_bind (wpAny_letGo (wpAny_pure ?_))
    refine wpAny_bind (wpAny_bind (wpAny_onRaise ?_))
    show wpAny _ _ (Builtin.SmallTypes.nextOf (.ref i2) >>= _) _ _ _
    have up2 : ∀ o, s.heap.get? i2 = some o → g3.get? i2 = some o := fun o q => e3.extBut _ o D.TOi2.symm (e2.extBut _ o D.i12.symm (e1.extBut _ o D.i2z q))
    have up3 : ∀ o, s.heap.get? l2 = some o → g3.get? l2 = some o := fun o q => e3.extBut _ o D.l2TO (e2.extBut _ o D.l2i1 (e1.extBut _ o D.l2z q))
    refine wpAny_bind (nextSqEnd hh (h2.at up2) (hl2.at up3) hy fun g4 e e4 he => ?_)
    obtain ⟨oe, hoe, hce⟩ := he
    have hz4 : IsZipB g4 z TI TO .ellipsis bb := e4 _ _ D.i2z.symm (e3.extBut _ _ D.TOz.symm (e2.extBut _ _ D.i1z.symm hz1))
    have hez : e ≠ z := fun q => by subst q; rw [hz4] at hoe; cases hoe; simp at hce
    exact wpAny_setField_rec hz4 (by simp) fun g5 _ e5 => hE g5 e (fun c o q1 q2 q3 q4 q => e5.extBut _ _ q1 (e4 _ _ q4 (e3.extBut _ _ q2 (e2.extBut _ _ q3 (e1.extBut _ _ q1 q))))) ⟨oe, e5.extBut _ _ hez hoe, hce⟩

theorem zipNextF {f0 : Value} {bb : Bool} {Q : Option Value → Shared → Prop} (D : ZipApart z TI TO i1 i2 l1 l2) (hz : IsZipB s.heap z TI TO f0 bb) (hfree : ∀ {A' : Around} {E' : Value → Shared → Prop} {Q' : Bool → Shared → Prop}, Q' true s → wpAny (model prog w) A' (Builtin.SmallTypes.ownedTupleIsFree (.ref z)) Q' E' s) (hTI : IsPair s.heap TI (.ref i1) (.ref i2)) (hTO : IsPair s.heap TO a b)
    (h1 : SqIter c1 s.heap i1 l1 k1) (h2 : SqIter c2 s.heap i2 l2 k2) (hl1 : IsSq c1 s.heap l1 xs) (hl2 : IsSq c2 s.heap l2 ys) (hx : xs[k1]? = some x) (hy : ys[k2]? = some y)
    (hQ : ∀ h', IsZip h' z TI TO (rawInt s.heap.objs.size) → IsPair h' TO x y → SqIter c1 h' i1 l1 (k1 + 1) → SqIter c2 h' i2 l2 (k2 + 1) → IsPair h' s.heap.objs.size x y → h'.objs.size = s.heap.objs.size + 1 →
      (∀ c o, c ≠ z → c ≠ TO → c ≠ i1 → c ≠ i2 → s.heap.get? c = some o → h'.get? c = some o) → Q (some (.ref s.heap.objs.size)) { s with heap := h' }) :
    wpAny (model prog w) A (pyNext (.ref z)) Q E s := by
  have hT : s.TypeIs (.ref z) "zip" := ⟨_, hz, rfl⟩
  unfold pyNext
  exact wpAny_bind (wpAny_attempt (wpAny_callSpecial?_slot (name := Str.ofString "__next__") hT F.slot_zip_next (wpAny_call_entry F.slot_zip_next hT F.entry_zip_next
    (zipGoF D hz hfree hTI hTO h1 h2 hl1 hl2 hx hy fun h' a1 a2 a3 a4 a5 a6 a7 => wpAny_pure (hQ h' a1 a2 a3 a4 a5 a6 a7)) (F.args_zip_next_1 _))))
theorem zipEndF {f0 : Value} {bb : Bool} {Q : Option Value → Shared → Prop} (hh : A.handled = none) (D : ZipApart z TI TO i1 i2 l1 l2) (hz : IsZipB s.heap z TI TO f0 bb) (hfree : ∀ {A' : Around} {E' : Value → Shared → Prop} {Q' : Bool → Shared → Prop}, Q' true s → wpAny (model prog w) A' (Builtin.SmallTypes.ownedTupleIsFree (.ref z)) Q' E' s) (hTI : IsPair s.heap TI (.ref i1) (.ref i2)) (hTO : IsPair s.heap TO a b)
    (h1 : SqIter c1 s.heap i1 l1 k1) (h2 : SqIter c2 s.heap i2 l2 k2) (hl1 : IsSq c1 s.heap l1 xs) (hl2 : IsSq c2 s.heap l2 ys) (hend : xs[k1]? = none ∨ ys[k2]? = none)
    (hQ : ∀ h', (∀ c o, c ≠ z → c ≠ TO → c ≠ i1 → c ≠ i2 → s.heap.get? c = some o → h'.get? c = some o) → Q none { s with heap := h' }) : wpAny (model prog w) A (pyNext (.ref z)) Q E s := by
  have hT : s.TypeIs (.ref z) "zip" := ⟨_, hz, rfl⟩
  unfold pyNext
  refine wpAny_bind (wpAny_attempt (wpAny_callSpecial?_slot (name := Str.ofString "__next__") hT F.slot_zip_next (wpAny_call_entry F.slot_zip_next hT F.entry_zip_next (zipStopF hh D hz hfree hTI hTO h1 h2 hl1 hl2 hend fun h' e hk he => ?_) (F.args_zip_next_1 _))))
  obtain ⟨o, ho, hc⟩ := he
  refine wpAny_bind (wpAny_isInstance (T := "StopIteration") (b := true) ⟨o, ho, hc⟩ isSubtype_stop ?_)
  exact wpAny_pure (hQ _ hk)
theorem freeNone (hz : IsZip s.heap z TI TO .none) {A' : Around} {E' : Value → Shared → Prop} {Q' : Bool → Shared → Prop} (h : Q' true s) : wpAny (model prog w) A' (Builtin.SmallTypes.ownedTupleIsFree (.ref z)) Q' E' s := by
  unfold Builtin.SmallTypes.ownedTupleIsFree
  exact wpAny_bind (wpAny_field hz rfl (x := .none) rfl (wpAny_pure h))
theorem zipNext {Q : Option Value → Shared → Prop} (D : ZipApart z TI TO i1 i2 l1 l2) (hz : IsZip s.heap z TI TO .none) (hTI : IsPair s.heap TI (.ref i1) (.ref i2)) (hTO : IsPair s.heap TO a b)
    (h1 : SqIter c1 s.heap i1 l1 k1) (h2 : SqIter c2 s.heap i2 l2 k2) (hl1 : IsSq c1 s.heap l1 xs) (hl2 : IsSq c2 s.heap l2 ys) (hx : xs[k1]? = some x) (hy : ys[k2]? = some y)
    (hQ : ∀ h', IsZip h' z TI TO (rawInt s.heap.objs.size) → IsPair h' TO x y → SqIter c1 h' i1 l1 (k1 + 1) → SqIter c2 h' i2 l2 (k2 + 1) → IsPair h' s.heap.objs.size x y → h'.objs.size = s.heap.objs.size + 1 →
      (∀ c o, c ≠ z → c ≠ TO → c ≠ i1 → c ≠ i2 → s.heap.get? c = some o → h'.get? c = some o) → Q (some (.ref s.heap.objs.size)) { s with heap := h' }) :
    wpAny (model prog w) A (pyNext (.ref z)) Q E s := zipNextF D hz (freeNone hz) hTI hTO h1 h2 hl1 hl2 hx hy hQ
theorem zipEnd {Q : Option Value → Shared → Prop} (hh : A.handled = none) (D : ZipApart z TI TO i1 i2 l1 l2) (hz : IsZip s.heap z TI TO .none) (hTI : IsPair s.heap TI (.ref i1) (.ref i2)) (hTO : IsPair s.heap TO a b)
    (h1 : SqIter c1 s.heap i1 l1 k1) (h2 : SqIter c2 s.heap i2 l2 k2) (hl1 : IsSq c1 s.heap l1 xs) (hl2 : IsSq c2 s.heap l2 ys) (hend : xs[k1]? = none ∨ ys[k2]? = none)
    (hQ : ∀ h', (∀ c o, c ≠ z → c ≠ TO → c ≠ i1 → c ≠ i2 → s.heap.get? c = some o → h'.get? c = some o) → Q none { s with heap := h' }) : wpAny (model prog w) A (pyNext (.ref z)) Q E s := zipEndF hh D hz (freeNone hz) hTI hTO h1 h2 hl1 hl2 hend hQ
end
end L2

set_option Elab.async false
set_option linter.all false
set_option maxRecDepth 100000
namespace L2
open PySem PySem.Spec PyProof.Rows
def Sq (b : Bool) (K : PySem.W.Frag) (H : Hp) (a : Addr) (xs : List V) : Prop := match b with
  | true => SqL K H a xs
  | false => SqT K H a xs
section
variable {X : Cx} {pins : List (Addr × Obj)} {σ : St} {H : Hp} {s : Shared} {a : Addr} {xs ys : List V} {c : Bool}
theorem Inv.sq (I : Inv X pins σ H s) (h : Sq c X.K H a xs) : ∃ its : List Value, Vals xs its ∧ IsSq c s.heap a its.toArray ∧ xs.length ≤ sizeLine := by
  cases c with
  | true => obtain ⟨its, r, p, z⟩ := I.list h; exact ⟨its, r, p.isList, z⟩
  | false => obtain ⟨its, r, p, z⟩ := I.tuple h; exact ⟨its, r, p, z⟩
theorem Inv.sq_inj (I : Inv X pins σ H s) (h : Sq c X.K H a xs) (h' : Sq c X.K H a ys) : xs = ys := by
  cases c with
  | true => exact I.list_inj h h'
  | false => exact I.tuple_inj h h'
theorem Inv.sq_apart (I : Inv X pins σ H s) (h : Sq c X.K H a xs) {b : Addr} (f : FpOk X pins H b) : a ≠ b := by
  intro e
  subst e
  have base : ∀ o, X.K.lookup a = some o → False := fun o q => by
    have e1 := I.ok.mod.kin a o q
    rcases f.2.2.2.1 with z | z
    · exact I.ok.noex a o e1 z
    · exact absurd (Nat.lt_of_lt_of_le (Heap.lt_size e1) (Nat.le_trans I.ok.bsz z)) (Nat.lt_irrefl _)
  cases c with
  | true =>
    rcases h with (h | ⟨o, h⟩) | ⟨o, _, _, h, _⟩
    · rw [f.1] at h; cases h
    · rw [f.1] at h; cases h
    · exact base o h
  | false =>
    rcases h with (h | ⟨o, h⟩) | ⟨o, _, _, h, _⟩
    · rw [f.1] at h; cases h
    · rw [f.1] at h; cases h
    · exact base o h
theorem Inv.turnedNew {h' : Heap} {t' : Nat} {ch : List Addr} {T : Addr} {o : HO} (I : Inv X pins σ H s) (hch : ∀ b ∈ ch, FpOk X pins H b)
    (k : ∀ b u, b ∉ ch → s.heap.get? b = some u → h'.get? b = some u) (hT : s.heap.objs.size ≤ T) (new : ObjOk X.prog X.w (upd H T o) h' T o) : Inv X pins σ (upd H T o) { s with heap := h', toks := t' } := by
  have hTn : H T = none := I.hok.fresh hT
  have ntr : ∀ b u, H b = some u → b ∉ ch := fun b u e z => by rw [(hch b z).1] at e; cases e
  have hb : ∀ b u, s.heap.get? b = some u → b ≠ T := fun b u e => Nat.ne_of_lt (Nat.lt_of_lt_of_le (Heap.lt_size e) hT)
  refine I.step (g' := s.gens) (d' := s.drawn) (ch := ch) (fun b hb => ⟨(hch b hb).2.2.2.1, (hch b hb).2.1, (hch b hb).2.2.2.2.1, (hch b hb).2.2.2.2.2⟩) (fun b u _ _ hc e _ => k b u hc e) (fun b u _ _ hc e _ => ⟨u.slots, k b u hc e⟩)
    (fun b u _ e n => by rw [upd_ne (hb b u e)]; exact n) (fun b u hc e => ⟨u, k b u hc e⟩) (fun b ys e => by rw [upd_ne (ne_of_none e hTn)]; exact e) (fun b u ys e => by rw [upd_ne (ne_of_none e hTn)]; exact e)
    (fun b ps e => ⟨#[], by rw [upd_ne (ne_of_none e hTn), e]; simp⟩) (fun m hm => ?_) (fun b u e => ?_) I.bare
  · obtain ⟨o', es, ep, ho, r⟩ := hm
    exact ⟨o', es, ep, k _ o' (fun z => (hch _ z).2.1 rfl) ho, r⟩
  · by_cases hbT : b = T
    · subst hbT; rw [upd_same] at e; cases e; exact new
    · rw [upd_ne hbT] at e
      refine (I.hok b u e).stay (fun c v hc q => k c v ?_ q) (fun c q => by rw [upd_ne (ne_of_none q hTn)]; exact q) (fun c ys q => by rw [upd_ne (ne_of_none q hTn)]; exact q) fun c ob u q => by rw [upd_ne (ne_of_none q hTn)]; exact q
      rcases hc with z | z
      · rw [z]; exact ntr b u e
      · exact ntr c _ z
theorem Inv.turnedL {h' : Heap} {t' : Nat} {ch : List Addr} (I : Inv X pins σ H s) (hch : ∀ b ∈ ch, FpOk X pins H b)
    (k : ∀ b u, b ∉ ch → s.heap.get? b = some u → h'.get? b = some u) : Inv X pins σ H { s with heap := h', toks := t' } := by
  have ntr : ∀ b u, H b = some u → b ∉ ch := fun b u e z => by rw [(hch b z).1] at e; cases e
  refine I.step (g' := s.gens) (d' := s.drawn) (ch := ch) (fun b hb => ⟨(hch b hb).2.2.2.1, (hch b hb).2.1, (hch b hb).2.2.2.2.1, (hch b hb).2.2.2.2.2⟩) (fun b u _ _ hc e _ => k b u hc e) (fun b u _ _ hc e _ => ⟨u.slots, k b u hc e⟩)
    (fun b u _ e n => n) (fun b u hc e => ⟨u, k b u hc e⟩) (fun b ys e => e) (fun b u ys e => e) (fun b ps e => ⟨#[], by rw [e]; simp⟩) (fun m hm => ?_) (fun b u e => ?_) I.bare
  · obtain ⟨o', es, ep, ho, r⟩ := hm
    exact ⟨o', es, ep, k _ o' (fun z => (hch _ z).2.1 rfl) ho, r⟩
  · refine (I.hok b u e).stay (fun c v hc q => k c v ?_ q) (fun c q => q) (fun c ys q => q) fun c ob u q => q
    rcases hc with z | z
    · rw [z]; exact ntr b u e
    · exact ntr c _ z
end
def Itz (K : PySem.W.Frag) (c1 c2 : Bool) (l1 l2 : Addr) : It :=
  ⟨fun i H => ∃ xs ys x y, Sq c1 K H l1 xs ∧ Sq c2 K H l2 ys ∧ xs[i]? = some x ∧ ys[i]? = some y,
   fun i H v H' => ∃ T x y, v = .ref T ∧ H T = none ∧ H' = upd H T (.tup [x, y]) ∧ (∀ xs, Sq c1 K H l1 xs → xs[i]? = some x) ∧ ∀ ys, Sq c2 K H l2 ys → ys[i]? = some y,
   fun i H => ∃ xs ys, Sq c1 K H l1 xs ∧ Sq c2 K H l2 ys ∧ (xs.length ≤ i ∨ ys.length ≤ i)⟩
structure ZipRec (c1 c2 : Bool) (z TI TO i1 i2 l1 l2 : Addr) (i : Nat) (h : Heap) : Prop where
  hz : IsZip h z TI TO .none
  ti : IsPair h TI (.ref i1) (.ref i2)
  to : ∃ a b, IsPair h TO a b
  h1 : SqIter c1 h i1 l1 i
  h2 : SqIter c2 h i2 l2 i
theorem pair_ok {P : Program} {w : World} {H : Hp} {h : Heap} {T : Addr} {x y : V} {u v : Value} (e : IsPair h T u v) (r1 : RelV x u) (r2 : RelV y v) : ObjOk P w H h T (.tup [x, y]) :=
  ⟨by show 2 ≤ sizeLine; decide, [u, v], .cons r1 (.cons r2 .nil), ⟨_, e, rfl, _, rfl⟩, _, e, rfl⟩
theorem turn_zip {P : Program} {w : World} {K : PySem.W.Frag} {elts : List Expr} {k : Nat} {pos : Pos} {c1 c2 : Bool} {z TI TO i1 i2 : Addr} (l1 l2 : Addr)
    (nd : TI ≠ z ∧ TO ≠ z ∧ i1 ≠ z ∧ i2 ≠ z ∧ TI ≠ TO ∧ TI ≠ i1 ∧ TI ≠ i2 ∧ TO ≠ i1 ∧ TO ≠ i2 ∧ i1 ≠ i2) :
    Turn P w K (.Tuple elts k pos) (Itz K c1 c2 l1 l2) [z, TI, TO, i1, i2] z (ZipRec c1 c2 z TI TO i1 i2 l1 l2) where
  mem := by simp
  obj := fun i h st b hb => by
    have fld : ∀ {a : Addr} {o : Obj}, h.get? a = some o → (∀ v, o.data ≠ .cell v) → ∃ o, h.get? a = some o ∧ ∀ v, o.data ≠ .cell v := fun e d => ⟨_, e, d⟩
    simp only [List.mem_cons, List.not_mem_nil, or_false] at hb
    rcases hb with rfl | rfl | rfl | rfl | rfl
    · exact ⟨_, st.hz, fun v q => by cases (show Data.fields _ = Data.cell v from q)⟩
    · exact ⟨_, st.ti, fun v q => by cases (show Data.seq _ _ = Data.cell v from q)⟩
    · obtain ⟨_, _, e⟩ := st.to
      exact ⟨_, e, fun v q => by cases (show Data.seq _ _ = Data.cell v from q)⟩
    · exact st.h1.obj
    · exact st.h2.obj
  keep := fun i h h' st kk => ⟨kk z (by simp) _ st.hz, kk TI (by simp) _ st.ti, let ⟨a, b, e⟩ := st.to; ⟨a, b, kk TO (by simp) _ e⟩, st.h1.at fun o e => kk i1 (by simp) o e, st.h2.at fun o e => kk i2 (by simp) o e⟩
  item := by
    intro X hP hw hK hc i pins s σ H E I hf st hg
    subst hP hw hK
    obtain ⟨xs, ys, x, y, q1, q2, hx, hy⟩ := hg
    obtain ⟨it1, rv1, p1, z1⟩ := I.sq q1
    obtain ⟨it2, rv2, p2, z2⟩ := I.sq q2
    obtain ⟨u, hu, ru⟩ := rv1.get hx
    obtain ⟨v, hv, rv⟩ := rv2.get hy
    obtain ⟨a, b, hTO⟩ := st.to
    obtain ⟨n1, n2, n3, n4, n5, n6, n7, n8, n9, n10⟩ := nd
    have D : ZipApart z TI TO i1 i2 l1 l2 := ⟨n1, n2, n3, n4, n5, n6, n7, n8, n9, n10, I.sq_apart q1 (hf z (by simp)), I.sq_apart q1 (hf TO (by simp)), I.sq_apart q1 (hf i1 (by simp)), I.sq_apart q1 (hf i2 (by simp)),
      I.sq_apart q2 (hf z (by simp)), I.sq_apart q2 (hf TO (by simp)), I.sq_apart q2 (hf i1 (by simp)), I.sq_apart q2 (hf i2 (by simp))⟩
    refine zipNext D st.hz st.ti hTO st.h1 st.h2 p1 p2 (by simpa using hu) (by simpa using hv) fun h' a1 a2 a3 a4 a5 a6 a7 => ?_
    refine ⟨_, rfl, wpAny_letOwnedTupleGo_zip a1 fun h2 b1 b2 => ?_⟩
    have hzlt : z < s.heap.objs.size := Heap.lt_size st.hz
    have hTI2 : IsPair h2 TI (.ref i1) (.ref i2) := b2.extBut _ _ n1 (a7 _ _ n1 n5 n6 n7 st.ti)
    have keep : ∀ b u, b ∉ [z, TO, i1, i2] → s.heap.get? b = some u → h2.get? b = some u := fun b u hb e => by
      simp only [List.mem_cons, List.not_mem_nil, or_false, not_or] at hb
      exact b2.extBut _ _ hb.1 (a7 b u hb.1 hb.2.1 hb.2.2.1 hb.2.2.2 e)
    have hT2 : IsPair h2 s.heap.objs.size u v := b2.extBut _ _ (Nat.ne_of_gt hzlt) a5
    have sub4 : ∀ b ∈ [z, TO, i1, i2], b ∈ [z, TI, TO, i1, i2] := fun b hb => by
      simp only [List.mem_cons, List.not_mem_nil, or_false] at hb ⊢
      rcases hb with h | h | h | h <;> simp [h]
    have I2 : Inv X pins σ (upd H s.heap.objs.size (.tup [x, y])) { s with heap := h2, toks := s.toks } :=
      I.turnedNew (fun b hb => hf b (sub4 b hb)) keep (Nat.le_refl _) (pair_ok hT2 ru rv)
    refine ⟨.ref s.heap.objs.size, _, I2, rfl, ⟨_, x, y, rfl, I.fresh, rfl, fun zs hz => by rw [I.sq_inj hz q1]; exact hx, fun zs hz => by rw [I.sq_inj hz q2]; exact hy⟩,
      ⟨b1, hTI2, ⟨u, v, b2.extBut _ _ n2 a2⟩, a3.at fun o e => b2.extBut _ o n3 e, a4.at fun o e => b2.extBut _ o n4 e⟩, fun b hb => ?_⟩
    have hlt : b < s.heap.objs.size := by
      have live : ∀ b ∈ [z, TI, TO, i1, i2], b < s.heap.objs.size := fun b hb => by
        simp only [List.mem_cons, List.not_mem_nil, or_false] at hb
        rcases hb with rfl | rfl | rfl | rfl | rfl
        · exact hzlt
        · exact Heap.lt_size st.ti
        · exact Heap.lt_size hTO
        · obtain ⟨o, e, _⟩ := st.h1.obj; exact Heap.lt_size e
        · obtain ⟨o, e, _⟩ := st.h2.obj; exact Heap.lt_size e
      exact live b hb
    rw [upd_ne (Nat.ne_of_lt hlt)]
    exact (hf b hb).1
  done := by
    intro X hP hw hK hc i pins s σ H E I hf st hg
    subst hP hw hK
    obtain ⟨xs, ys, q1, q2, hend⟩ := hg
    obtain ⟨it1, rv1, p1, z1⟩ := I.sq q1
    obtain ⟨it2, rv2, p2, z2⟩ := I.sq q2
    obtain ⟨a, b, hTO⟩ := st.to
    obtain ⟨n1, n2, n3, n4, n5, n6, n7, n8, n9, n10⟩ := nd
    have D : ZipApart z TI TO i1 i2 l1 l2 := ⟨n1, n2, n3, n4, n5, n6, n7, n8, n9, n10, I.sq_apart q1 (hf z (by simp)), I.sq_apart q1 (hf TO (by simp)), I.sq_apart q1 (hf i1 (by simp)), I.sq_apart q1 (hf i2 (by simp)),
      I.sq_apart q2 (hf z (by simp)), I.sq_apart q2 (hf TO (by simp)), I.sq_apart q2 (hf i1 (by simp)), I.sq_apart q2 (hf i2 (by simp))⟩
    have e1 := rv1.length
    have e2 := rv2.length
    have hend' : it1.toArray[i]? = none ∨ it2.toArray[i]? = none := by
      rcases hend with h | h
      · exact .inl (by simp; omega)
      · exact .inr (by simp; omega)
    refine zipEnd (I.ok.hd hc) D st.hz st.ti hTO st.h1 st.h2 p1 p2 hend' fun h' kk => ⟨rfl, ?_⟩
    have sub4 : ∀ b ∈ [z, TO, i1, i2], b ∈ [z, TI, TO, i1, i2] := fun b hb => by
      simp only [List.mem_cons, List.not_mem_nil, or_false] at hb ⊢
      rcases hb with h | h | h | h <;> simp [h]
    exact I.turnedL (t' := s.toks) (ch := [z, TO, i1, i2]) (fun b hb => hf b (sub4 b hb)) fun b u hb e => by
      simp only [List.mem_cons, List.not_mem_nil, or_false, not_or] at hb
      exact kk b u hb.1 hb.2.1 hb.2.2.1 hb.2.2.2 e
  self := fun _ _ _ _ _ st h => wpAny_pyIter_zip st.hz h
def itObj (c : Bool) (l : Addr) : Obj := { cls := .type (match c with | true => "list_iterator" | false => "tuple_iterator"), data := .fields #[.ref l, .int 0 0] }
theorem sqIter_new {c : Bool} {h : Heap} {it l : Addr} (e : h.get? it = some (itObj c l)) : SqIter c h it l 0 := by
  cases c with
  | true => exact ⟨_, e, rfl, rfl⟩
  | false => exact ⟨_, e, rfl, rfl⟩
section
variable {prog : Program} {w : World} {A : Around} {E : Value → Shared → Prop} {s : Shared}
theorem iterTo {c : Bool} {l : Addr} {items : Array Value} {Q : Value → Shared → Prop} (hl : IsSq c s.heap l items)
    (hQ : Q (.ref s.heap.objs.size) { s with heap := s.heap.push (itObj c l) }) : wpAny (model prog w) A (pyIter (.ref l)) Q E s := by
  cases c with
  | true => exact wpAny_pyIter_list hl hQ
  | false => exact wpAny_pyIter_tuple hl hQ
end
abbrev zh1 (c1 : Bool) (h : Heap) (l1 : Addr) : Heap := h.push (itObj c1 l1)
abbrev zh2 (c1 c2 : Bool) (h : Heap) (l1 l2 : Addr) : Heap := (zh1 c1 h l1).push (itObj c2 l2)
abbrev zh3 (c1 c2 : Bool) (h : Heap) (l1 l2 : Addr) : Heap := (zh2 c1 c2 h l1 l2).push { cls := .type "tuple", data := .seq #[.ref h.objs.size, .ref (zh1 c1 h l1).objs.size] }
abbrev zh4 (c1 c2 : Bool) (h : Heap) (l1 l2 : Addr) : Heap := (zh3 c1 c2 h l1 l2).push { cls := .type "tuple", data := .seq #[.none, .none] }
abbrev zh5 (c1 c2 : Bool) (h : Heap) (l1 l2 : Addr) : Heap := (zh4 c1 c2 h l1 l2).push { cls := .type "zip", data := .fields #[.none, .bool false, .bool false, .ref (zh2 c1 c2 h l1 l2).objs.size, .ref (zh3 c1 c2 h l1 l2).objs.size] }
theorem meets_zip (c1 c2 : Bool) (l1 l2 : Addr) (xs ys : Array Value) :
    Meets (Builtin.«zip.__new__» ⟨[.type "zip", .ref l1, .ref l2], []⟩) (fun _ R s => IsSq c1 s.heap l1 xs ∧ IsSq c2 s.heap l2 ys ∧
      R (.ok (.ret (.ref (zh4 c1 c2 s.heap l1 l2).objs.size))) { s with heap := zh5 c1 c2 s.heap l1 l2 }) :=
  .of_wp fun prog w A R s h => by
    obtain ⟨hp, g, d, tk, os⟩ := s
    obtain ⟨hl1, hl2, h⟩ := h
    have hsub := sub_zip
    have hL1 : IsSq c1 (Shared.heap ⟨hp, g, d, tk, os⟩) l1 xs := hl1
    have hL2 : IsSq c2 (Shared.heap ⟨hp.push (itObj c1 l1), g, d, tk, os⟩) l2 ys := hl2.at fun o e => Heap.get?_push_of_some _ e
    wp_walk using iterTo hL1, iterTo hL2
    exact ⟨_, rfl, h⟩
section
variable {prog : Program} {w : World} {A : Around} {E : Value → Shared → Prop} {s : Shared}
theorem callZip {c1 c2 : Bool} {l1 l2 : Addr} {xs ys : Array Value} {Q : Value → Shared → Prop} (hl1 : IsSq c1 s.heap l1 xs) (hl2 : IsSq c2 s.heap l2 ys)
    (h : ∀ h', ZipRec c1 c2 (s.heap.objs.size + 4) (s.heap.objs.size + 2) (s.heap.objs.size + 3) s.heap.objs.size (s.heap.objs.size + 1) l1 l2 0 h' → h'.objs.size = s.heap.objs.size + 5 →
      (∀ c o, s.heap.get? c = some o → h'.get? c = some o) → Q (.ref (s.heap.objs.size + 4)) { s with heap := h' }) :
    wpAny (model prog w) A (call (.type "zip") [.ref l1, .ref l2]) Q E s := by
  refine callType_new F.called_zip (by decide) (F.typeCall_zip_2 _ _) (F.newCall_zip_2 _ _) (fun obj => F.args_object_init_3 obj _ _) F.entry_zip_new (meets_zip c1 c2 l1 l2 xs ys) ⟨hl1, hl2, ?_⟩
  have z1 : (zh1 c1 s.heap l1).objs.size = s.heap.objs.size + 1 := Heap.size_push ..
  have z2 : (zh2 c1 c2 s.heap l1 l2).objs.size = s.heap.objs.size + 2 := by rw [Heap.size_push, z1]
  have z3 : (zh3 c1 c2 s.heap l1 l2).objs.size = s.heap.objs.size + 3 := by rw [Heap.size_push, z2]
  have z4 : (zh4 c1 c2 s.heap l1 l2).objs.size = s.heap.objs.size + 4 := by rw [Heap.size_push, z3]
  have z5 : (zh5 c1 c2 s.heap l1 l2).objs.size = s.heap.objs.size + 5 := by rw [Heap.size_push, z4]
  have g5 : (zh5 c1 c2 s.heap l1 l2).get? (zh4 c1 c2 s.heap l1 l2).objs.size = some _ := Heap.get?_push_size _ rfl
  have g4 : (zh5 c1 c2 s.heap l1 l2).get? (zh3 c1 c2 s.heap l1 l2).objs.size = some _ := Heap.get?_push_of_some _ (Heap.get?_push_size _ rfl)
  have g3 : (zh5 c1 c2 s.heap l1 l2).get? (zh2 c1 c2 s.heap l1 l2).objs.size = some _ := Heap.get?_push_of_some _ (Heap.get?_push_of_some _ (Heap.get?_push_size _ rfl))
  have g2 : (zh5 c1 c2 s.heap l1 l2).get? (zh1 c1 s.heap l1).objs.size = some _ := Heap.get?_push_of_some _ (Heap.get?_push_of_some _ (Heap.get?_push_of_some _ (Heap.get?_push_size _ rfl)))
  have g1 : (zh5 c1 c2 s.heap l1 l2).get? s.heap.objs.size = some _ := Heap.get?_push_of_some _ (Heap.get?_push_of_some _ (Heap.get?_push_of_some _ (Heap.get?_push_of_some _ (Heap.get?_push_size _ rfl))))
  show _ ∧ _
  rw [z2, z3, z4] at g5
  rw [z1, z2] at g3
  rw [z3] at g4
  rw [z1] at g2
  rw [z4]
  exact ⟨⟨_, g5, rfl⟩, h _ ⟨g5, g3, ⟨_, _, g4⟩, sqIter_new g1, sqIter_new g2⟩ z5 fun c o x =>
    Heap.get?_push_of_some _ (Heap.get?_push_of_some _ (Heap.get?_push_of_some _ (Heap.get?_push_of_some _ (Heap.get?_push_of_some _ x))))⟩
end

section
variable {X : Cx} {elts : List Expr} {k : Nat} {tpos : Pos}
def iZip (K : PySem.W.Frag) (c1 c2 : Bool) (ta : TA) : TI := fun σ H R => ta σ H fun vs H1 => ∃ l1 l2 xs ys, vs = [.ref l1, .ref l2] ∧ Sq c1 K H1 l1 xs ∧ Sq c2 K H1 l2 ys ∧ R (Itz K c1 c2 l1 l2) H1
theorem pi_zip (c1 c2 : Bool) {a b : Expr} {ta : TA} {p pos : Pos} (hg : Gl X "zip") (hm : X.mg "zip" = none) (ha : PA X [a, b] ta) (hs : starEach [a, b] X.env = [(false, eval a X.env), (false, eval b X.env)] := by rfl) (hs2 : starEach [b] X.env = [(false, eval b X.env)] := by rfl) :
    PI X (.Tuple elts k tpos) (.Call (.Name "zip" p) [a, b] [] pos) (iZip X.K c1 c2 ta) := by
  intro pins s σ H R I h
  refine Call_ (ld_blt I hg hm (show bootBuiltins "zip" = some (.type "zip") by decide +kernel) (PyProof.Rows.callWith_type1 (thn (ha pos pins s σ H _ I h) fun us s1 ⟨vs, H1, I1, r1, q1⟩ => ?_) (by rw [hs, hs2]) (by rw [hs2]; rfl)))
  obtain ⟨l1, l2, xs, ys, e, q1, q2, q⟩ := q1
  subst e
  obtain ⟨u, v, rfl, ru, rv⟩ := Vals.two r1
  cases ru
  cases rv
  obtain ⟨it1, _, p1, _⟩ := I1.sq q1
  obtain ⟨it2, _, p2, _⟩ := I1.sq q2
  refine callZip p1 p2 fun h' zr hz hk => wpAny_pyIter_zip zr.hz ?_
  have I2 : Inv X pins σ H1 { s1 with heap := h', toks := s1.toks } := I1.kept hk
  have nd : ∀ n : Nat, n + 2 ≠ n + 4 ∧ n + 3 ≠ n + 4 ∧ n ≠ n + 4 ∧ n + 1 ≠ n + 4 ∧ n + 2 ≠ n + 3 ∧ n + 2 ≠ n ∧ n + 2 ≠ n + 1 ∧ n + 3 ≠ n ∧ n + 3 ≠ n + 1 ∧ n ≠ n + 1 := fun n => by omega
  refine ⟨_, _, _, _, H1, rfl, I2, turn_zip l1 l2 (nd s1.heap.objs.size), zr, fun b hb => ?_, q⟩
  simp only [List.mem_cons, List.not_mem_nil, or_false] at hb
  have ge : s1.heap.objs.size ≤ b := by rcases hb with rfl | rfl | rfl | rfl | rfl <;> omega
  exact I1.fpOk ge (I1.hok.fresh ge)
end
theorem draws_sq {prog : Program} {w : World} {A : Around} (hh : A.handled = none) (c : Bool) (it l : Addr) (hne : l ≠ it) (items : Array Value) :
    Draws prog w A it [it, l] items.size (fun i v => items[i]? = some v) (fun i h => SqIter c h it l i ∧ IsSq c h l items) where
  live := fun _ _ st => let ⟨o, ho, _⟩ := st.1.obj; ⟨o, ho⟩
  frame := fun _ _ _ st hk => ⟨st.1.at fun o e => hk it (by simp) o e, st.2.at fun o e => hk l (by simp) o e⟩
  item := fun i s Q E hi st hQ => nextSq st.1 st.2 (x := items[i]) (by simp [hi]) fun h' hit' hs' => hQ _ h' s.toks (by simp [hi]) ⟨hit', st.2.at fun o e => hs'.extBut _ o hne e⟩ hs'
  done := fun s Q E st hE => nextSqEnd hh st.1 st.2 (by simp) hE
theorem meets_enum (c : Bool) (l : Addr) (items : Array Value) :
    Meets (Builtin.«enumerate.__new__» ⟨[.type "enumerate", .ref l], []⟩) (fun _ R s => IsSq c s.heap l items ∧
      R (.ok (.ret (.ref (s.heap.push (itObj c l)).objs.size))) { s with heap := (s.heap.push (itObj c l)).push { cls := .type "enumerate", data := .fields #[.none, .bool false, .ref s.heap.objs.size, rawInt 0, .none, .none] } }) :=
  .of_wp fun prog w A R s h => by
    obtain ⟨hp, g, d, tk, os⟩ := s
    obtain ⟨hl, h⟩ := h
    have hsub := sub_enumerate
    have hL : IsSq c (Shared.heap ⟨hp, g, d, tk, os⟩) l items := hl
    wp_walk
    refine wpAny_stack_any fun st => wpAny_pure ?_
    split
    · rename_i cc _ _ _ _ _
      cases (cc == Value.type "enumerate")
      · wp_walk using iterTo hL
        exact ⟨_, rfl, h⟩
      · wp_walk using iterTo hL
        exact ⟨_, rfl, h⟩
    · wp_walk using iterTo hL
      exact ⟨_, rfl, h⟩
structure EnumRec (c : Bool) (e it l : Addr) (i : Nat) (h : Heap) : Prop where
  he : ∃ old, IsEnum h e it i old
  h1 : SqIter c h it l i
theorem callEnum {prog : Program} {w : World} {A : Around} {E : Value → Shared → Prop} {s : Shared} {c : Bool} {l : Addr} {items : Array Value} {Q : Value → Shared → Prop} (hl : IsSq c s.heap l items)
    (h : ∀ h', EnumRec c (s.heap.objs.size + 1) s.heap.objs.size l 0 h' → h'.objs.size = s.heap.objs.size + 2 → (∀ b o, s.heap.get? b = some o → h'.get? b = some o) → Q (.ref (s.heap.objs.size + 1)) { s with heap := h' }) :
    wpAny (model prog w) A (call (.type "enumerate") [.ref l]) Q E s := by
  refine callType_new F.called_enumerate (by decide) (F.typeCall_enumerate_1 _) (F.newCall_enumerate_1 _) (fun obj => F.args_object_init_2 obj _) F.entry_enumerate_new (meets_enum c l items) ⟨hl, ?_⟩
  have hz : (s.heap.push (itObj c l)).objs.size = s.heap.objs.size + 1 := Heap.size_push ..
  have g2 : ((s.heap.push (itObj c l)).push { cls := .type "enumerate", data := .fields #[.none, .bool false, .ref s.heap.objs.size, rawInt 0, .none, .none] }).get? (s.heap.push (itObj c l)).objs.size = some _ := Heap.get?_push_size _ rfl
  have g1 : ((s.heap.push (itObj c l)).push { cls := .type "enumerate", data := .fields #[.none, .bool false, .ref s.heap.objs.size, rawInt 0, .none, .none] }).get? s.heap.objs.size = some (itObj c l) := Heap.get?_push_of_some _ (Heap.get?_push_size _ rfl)
  show _ ∧ _
  rw [hz] at g2 ⊢
  exact ⟨⟨_, g2, rfl⟩, h _ ⟨⟨.none, g2⟩, sqIter_new g1⟩ (by rw [Heap.size_push, hz]) fun b o e => Heap.get?_push_of_some _ (Heap.get?_push_of_some _ e)⟩
def Ite (K : PySem.W.Frag) (c : Bool) (l : Addr) : It :=
  ⟨fun i H => ∃ xs x, Sq c K H l xs ∧ xs[i]? = some x,
   fun i H v H' => ∃ T x, v = .ref T ∧ H T = none ∧ H' = upd H T (.tup [.int i, x]) ∧ ∀ xs, Sq c K H l xs → xs[i]? = some x,
   fun i H => ∃ xs, Sq c K H l xs ∧ xs.length = i⟩
theorem turn_enum {P : Program} {w : World} {K : PySem.W.Frag} {elts : List Expr} {k : Nat} {pos : Pos} {c : Bool} {e it : Addr} (l : Addr) (ne : e ≠ it) :
    Turn P w K (.Tuple elts k pos) (Ite K c l) [e, it] e (EnumRec c e it l) where
  mem := by simp
  obj := fun i h st b hb => by
    simp only [List.mem_cons, List.not_mem_nil, or_false] at hb
    rcases hb with rfl | rfl
    · obtain ⟨old, q⟩ := st.he
      exact ⟨_, q, fun v q => by cases (show Data.fields _ = Data.cell v from q)⟩
    · exact st.h1.obj
  keep := fun i h h' st kk => ⟨let ⟨old, q⟩ := st.he; ⟨old, kk e (by simp) _ q⟩, st.h1.at fun o q => kk it (by simp) o q⟩
  item := by
    intro X hP hw hK hc i pins s σ H E I hf st hg
    subst hP hw hK
    obtain ⟨xs, x, q1, hx⟩ := hg
    obtain ⟨its, rv, p, z⟩ := I.sq q1
    obtain ⟨u, hu, ru⟩ := rv.get hx
    obtain ⟨old, he⟩ := st.he
    have n1 : l ≠ e := I.sq_apart q1 (hf e (by simp))
    have n2 : l ≠ it := I.sq_apart q1 (hf it (by simp))
    have hil : i < its.length := by rw [← rv.length]; exact (List.getElem?_eq_some_iff.mp hx).1
    have hh : X.A.in1.handled = none := I.ok.hd hc
    refine wpAny_pyNext_enum_itemD (draws_sq hh c it l n2 its.toArray) he ⟨st.h1, p⟩ (by simpa using hil) ne (by simp [ne, Ne.symm n1]) fun x' h' tk hP ho hs' hT hsz hk => ?_
    have ex : x' = u := by
      have hu' : its.toArray[i]? = some u := by simpa using hu
      rw [hu'] at hP
      exact (Option.some.inj hP).symm
    subst ex
    refine ⟨_, rfl, wpAny_letOwnedTupleGo_enum ho fun h2 b1 b2 => ?_⟩
    have elt : e < s.heap.objs.size := Heap.lt_size he
    obtain ⟨oi, ei, _⟩ := st.h1.obj
    have ilt : it < s.heap.objs.size := Heap.lt_size ei
    have keep : ∀ b u, b ∉ [e, it] → s.heap.get? b = some u → h2.get? b = some u := fun b u hb q => by
      simp only [List.mem_cons, List.not_mem_nil, or_false, not_or] at hb
      exact b2.extBut _ _ hb.1 (hk b u hb.1 hb.2 q)
    have hT2 : IsPair h2 s.heap.objs.size (.int i tk) x' := b2.extBut _ _ (Nat.ne_of_gt elt) hT
    have I2 : Inv X pins σ (upd H s.heap.objs.size (.tup [.int i, x])) { s with heap := h2, toks := tk + 1 } := I.turnedNew hf keep (Nat.le_refl _) (pair_ok hT2 ⟨tk, rfl⟩ ru)
    refine ⟨.ref s.heap.objs.size, _, I2, rfl, ⟨_, x, rfl, I.fresh, rfl, fun zs hz => by rw [I.sq_inj hz q1]; exact hx⟩, ⟨⟨x', by simpa using b1⟩, hs'.1.at fun o q => b2.extBut _ o (Ne.symm ne) q⟩, fun b hb => ?_⟩
    have hlt : b < s.heap.objs.size := by
      simp only [List.mem_cons, List.not_mem_nil, or_false] at hb
      rcases hb with rfl | rfl
      · exact elt
      · exact ilt
    rw [upd_ne (Nat.ne_of_lt hlt)]
    exact (hf b hb).1
  done := by
    intro X hP hw hK hc i pins s σ H E I hf st hg
    subst hP hw hK
    obtain ⟨xs, q1, hend⟩ := hg
    obtain ⟨its, rv, p, z⟩ := I.sq q1
    obtain ⟨old, he⟩ := st.he
    have n2 : l ≠ it := I.sq_apart q1 (hf it (by simp))
    have el : i = its.toArray.size := by rw [← hend, rv.length]; simp
    have hh : X.A.in1.handled = none := I.ok.hd hc
    refine wpAny_pyNext_enum_endD (draws_sq hh c it l n2 its.toArray) he (by rw [← el]; exact ⟨st.h1, p⟩) fun h' hx => ⟨rfl, ?_⟩
    exact I.turnedL (t' := s.toks) (ch := [e, it]) hf fun b u hb q => by
      simp only [List.mem_cons, List.not_mem_nil, or_false, not_or] at hb
      exact hx b u hb.2 q
  self := fun _ _ _ _ _ st h => let ⟨_, he⟩ := st.he; wpAny_pyIter_enum he h
section
variable {X : Cx} {elts : List Expr} {k : Nat} {tpos : Pos}
def iEnum (K : PySem.W.Frag) (c : Bool) (ta : TA) : TI := fun σ H R => ta σ H fun vs H1 => ∃ l xs, vs = [.ref l] ∧ Sq c K H1 l xs ∧ R (Ite K c l) H1
theorem pi_enum (c : Bool) {a : Expr} {ta : TA} {p pos : Pos} (hg : Gl X "enumerate") (hm : X.mg "enumerate" = none) (ha : PA X [a] ta) (hs : starEach [a] X.env = [(false, eval a X.env)] := by rfl) :
    PI X (.Tuple elts k tpos) (.Call (.Name "enumerate" p) [a] [] pos) (iEnum X.K c ta) := by
  intro pins s σ H R I h
  refine Call_ (ld_blt I hg hm (show bootBuiltins "enumerate" = some (.type "enumerate") by decide +kernel) (PyProof.Rows.callWith_type1 (thn (ha pos pins s σ H _ I h) fun us s1 ⟨vs, H1, I1, r1, q1⟩ => ?_) hs rfl))
  obtain ⟨l, xs, e, q1, q⟩ := q1
  subst e
  obtain ⟨u, rfl, ru⟩ := Vals.one r1
  cases ru
  obtain ⟨its, _, p1, _⟩ := I1.sq q1
  refine callEnum p1 fun h' er hz hk => let ⟨_, he⟩ := er.he; wpAny_pyIter_enum he ?_
  have I2 : Inv X pins σ H1 { s1 with heap := h', toks := s1.toks } := I1.kept hk
  refine ⟨_, _, _, _, H1, rfl, I2, turn_enum l (show s1.heap.objs.size + 1 ≠ s1.heap.objs.size by omega), er, fun b hb => ?_, q⟩
  simp only [List.mem_cons, List.not_mem_nil, or_false] at hb
  have ge : s1.heap.objs.size ≤ b := by rcases hb with rfl | rfl <;> omega
  exact I1.fpOk ge (I1.hok.fresh ge)
end
end L2

set_option Elab.async false
set_option linter.all false
set_option maxRecDepth 100000
namespace L2
open PySem PySem.Spec PyProof.Rows
theorem Same.put {H : Hp} {a : Addr} {o : HO} (h : H a = none) : Same H (upd H a o) := fun b u e => by rw [upd_ne (ne_of_none e h)]; exact e
def SameX (D : Addr) (H H' : Hp) : Prop := ∀ b o, b ≠ D → H b = some o → H' b = some o
theorem Same.x {H H' : Hp} (s : Same H H') (D : Addr) : SameX D H H' := fun b o _ e => s b o e
theorem SameX.put {D : Addr} {H : Hp} {o : HO} : SameX D H (upd H D o) := fun b u hb e => by rw [upd_ne hb]; exact e
theorem SameX.trans {D : Addr} {H H1 H2 : Hp} (a : SameX D H H1) (b : SameX D H1 H2) : SameX D H H2 := fun c o hc e => b c o hc (a c o hc e)
theorem SameX.of {D : Addr} {H H' : Hp} (h : H D = none) (s : SameX D H H') : Same H H' := fun b o e => s b o (ne_of_none e h) e
theorem Same.sq {K : PySem.W.Frag} {H H' : Hp} {a : Addr} {xs : List V} {c : Bool} (e : Same H H') (h : Sq c K H a xs) : Sq c K H' a xs := by
  cases c with
  | true => exact e.seq h
  | false =>
    rcases h with (h | ⟨o, h⟩) | h
    · exact .inl (.inl (e _ _ h))
    · exact .inl (.inr ⟨o, e _ _ h⟩)
    · exact .inr h
theorem Same.sqT {K : PySem.W.Frag} {H H' : Hp} {a : Addr} {xs : List V} (e : Same H H') (h : SqT K H a xs) : SqT K H' a xs := e.sq (c := false) h
structure SrcOk (J : It) (g : TG) (σ₀ : St) (H1 : Hp) (n : Nat) (sl : Nat → St) : Prop where
  go : ∀ i H, i < n → Same H1 H → J.go i H
  stop : ∀ H, Same H1 H → J.stop n H
  step : ∀ i H x H' (K : St → Hp → Prop), i < n → Same H1 H → J.yld i H x H' → (∀ H2, Same H H2 → K (sl i) H2) → g x σ₀ H' fun σ2 H2 => Wk σ₀ σ2 ∧ K σ2 H2
theorem src_range {lo : Int} {n : Nat} {ρ : St} {H1 : Hp} : SrcOk (Itr lo n) (gName 0) (none :: ρ) H1 n (fun i => some (.int (lo + i)) :: ρ) where
  go := fun i H hi _ => hi
  stop := fun H _ => Nat.le_refl n
  step := fun i H x H' K hi hs hy hk => by
    obtain ⟨rfl, rfl⟩ := hy
    exact ⟨Wk.set (Wk.refl _) rfl, hk _ (Same.refl _)⟩
theorem src_list {K : PySem.W.Frag} {a : Addr} {xs : List V} {ρ : St} {H1 : Hp} (h : SqL K H1 a xs) : SrcOk (Itl K a) (gName 0) (none :: ρ) H1 xs.length (fun i => some (xs.getD i .non) :: ρ) where
  go := fun i H hi hs => ⟨xs, xs[i], hs.seq h, List.getElem?_eq_getElem hi⟩
  stop := fun H hs => ⟨xs, hs.seq h, Nat.le_refl _⟩
  step := fun i H x H' K hi hs hy hk => by
    obtain ⟨rfl, hx⟩ := hy
    have e := hx xs (hs.seq h)
    have e2 : xs.getD i .non = x := by rw [List.getD_eq_getElem?_getD, e]; rfl
    refine ⟨Wk.set (Wk.refl _) rfl, ?_⟩
    have := hk _ (Same.refl _)
    rw [e2] at this
    exact this
theorem src_tup {K : PySem.W.Frag} {a : Addr} {xs : List V} {ρ : St} {H1 : Hp} (h : SqT K H1 a xs) : SrcOk (Itt K a) (gName 0) (none :: ρ) H1 xs.length (fun i => some (xs.getD i .non) :: ρ) where
  go := fun i H hi hs => ⟨xs, xs[i], hs.sqT h, List.getElem?_eq_getElem hi⟩
  stop := fun H hs => ⟨xs, hs.sqT h, Nat.le_refl _⟩
  step := fun i H x H' K hi hs hy hk => by
    obtain ⟨rfl, hx⟩ := hy
    have e := hx xs (hs.sqT h)
    have e2 : xs.getD i .non = x := by rw [List.getD_eq_getElem?_getD, e]; rfl
    refine ⟨Wk.set (Wk.refl _) rfl, ?_⟩
    have := hk _ (Same.refl _)
    rw [e2] at this
    exact this
theorem src_zip {K : PySem.W.Frag} {c1 c2 : Bool} {a b : Addr} {xs ys : List V} {n : Nat} {ρ : St} {H1 : Hp} (h1 : Sq c1 K H1 a xs) (h2 : Sq c2 K H1 b ys) (hn : n = min xs.length ys.length) :
    SrcOk (Itz K c1 c2 a b) (gTup K 2 (gCons (gName 0) (gCons (gName 1) gNil))) (none :: none :: ρ) H1 n (fun i => some (xs.getD i .non) :: some (ys.getD i .non) :: ρ) where
  go := fun i H hi hs => ⟨xs, ys, xs[i]'(by omega), ys[i]'(by omega), hs.sq h1, hs.sq h2, List.getElem?_eq_getElem (by omega), List.getElem?_eq_getElem (by omega)⟩
  stop := fun H hs => ⟨xs, ys, hs.sq h1, hs.sq h2, by omega⟩
  step := fun i H v H' Kk hi hs hy hk => by
    obtain ⟨T, x, y, rfl, hT, rfl, hx, hy⟩ := hy
    have e1 := hx xs (hs.sq h1)
    have e2 := hy ys (hs.sq h2)
    have e3 : xs.getD i .non = x := by rw [List.getD_eq_getElem?_getD, e1]; rfl
    have e4 : ys.getD i .non = y := by rw [List.getD_eq_getElem?_getD, e2]; rfl
    refine ⟨T, [x, y], rfl, .inl (.inl upd_same), rfl, x, [y], rfl, y, [], rfl, rfl, ?_⟩
    have := hk (upd H T (.tup [x, y])) (Same.put hT)
    rw [e3, e4] at this
    exact ⟨Wk.set (Wk.set (Wk.refl _) rfl) rfl, this⟩

theorem comp_rel {J : It} {g : TG} {tc : TT} {te : TE} {σ₀ : St} {D : Addr} {Q : Hp → Prop} {H1 : Hp} {n : Nat} {sl : Nat → St} (keep : Nat → Bool) (Rl : Nat → V → Hp → Prop) (S : SrcOk J g σ₀ H1 n sl) (hD : H1 D = none) (hn : n < sizeLine)
    (mono : ∀ i v H H', SameX D H H' → Rl i v H → Rl i v H')
    (step : ∀ i H (Kt : V → Hp → Prop) (Kf : Hp → Prop), i < n → Same H1 H → (∃ ys, H D = some (.lst ys)) → (∀ v H', keep i = true → Same H H' → Rl i v H' → Kt v H') → (∀ H', keep i = false → Same H H' → Kf H') →
      tc (sl i) H fun b H3 => if b = true then te (sl i) H3 Kt else Kf H3)
    (fin : ∀ H' ys, Same H1 H' → H' D = some (.lst ys) → Paired (fun i v => Rl i v H') ((List.range n).filter keep) ys → Q H') : CompW J g tc te σ₀ D Q (upd H1 D (.lst [])) := by
  refine ⟨fun i m ys H => m = n - i ∧ i ≤ n ∧ Same H1 H ∧ H D = some (.lst ys) ∧ Paired (fun i v => Rl i v H) ((List.range i).filter keep) ys, ⟨n, by omega, by omega, Same.put hD, upd_same, .nil⟩, ?_⟩
  rintro i m ys H ⟨hm, hi, hs, hl, hp⟩
  have hlen : ys.length ≤ i := by
    have := Paired.length hp
    rw [← this]
    exact Nat.le_trans (List.length_filter_le _ _) (by simp)
  by_cases e : i = n
  · subst e
    exact .inl ⟨S.stop H hs, fin H ys hs hl hp⟩
  · have hin : i < n := by omega
    refine .inr ⟨S.go i H hin hs, fun ys' H' => i + 1 ≤ n ∧ Same H1 H' ∧ H' D = some (.lst ys') ∧ Paired (fun i v => Rl i v H') ((List.range (i + 1)).filter keep) ys', fun ys' H' h => ⟨n - (i + 1), by omega, rfl, h⟩, fun x H' hy => ?_⟩
    refine S.step i H x H' (fun σ2 H2 => tc σ2 H2 fun b H3 => if b = true then te σ2 H3 fun y H4 => H4 D = some (.lst ys) ∧ ys.length < sizeLine ∧ _ else _) hin hs hy fun H2 s2 => ?_
    have up : ∀ {H' : Hp}, Same H2 H' → Paired (fun i v => Rl i v H') ((List.range i).filter keep) ys := fun {H'} s' => Paired.mapP hp fun a b r => mono a b _ _ ((s2.trans s').x D) r
    refine step i H2 _ _ hin (hs.trans s2) ⟨ys, s2 _ _ hl⟩ (fun v H4 hk s4 r => ?_) fun H4 hk s4 => ?_
    · have hl4 : H4 D = some (.lst ys) := s4 _ _ (s2 _ _ hl)
      refine ⟨hl4, by omega, hin, ?_, upd_same, ?_⟩
      · exact SameX.of hD (((hs.trans (s2.trans s4)).x D).trans SameX.put)
      · rw [List.range_succ, List.filter_append]
        have e1 : [i].filter keep = [i] := by simp [hk]
        rw [e1]
        exact PySem.Paired.snoc (Paired.mapP (up s4) fun a b q => mono a b _ _ SameX.put q) (mono _ _ _ _ SameX.put r)
    · refine ⟨hin, hs.trans (s2.trans s4), s4 _ _ (s2 _ _ hl), ?_⟩
      rw [List.range_succ, List.filter_append]
      have e1 : [i].filter keep = [] := by simp [hk]
      rw [e1, List.append_nil]
      exact up s4

theorem paired_map {α : Type} {f : α → V} : ∀ {l : List α} {ys : List V}, Paired (fun i v => v = f i) l ys → ys = l.map f
  | _, _, .nil => rfl
  | _, _, .cons h t => by rw [h, paired_map t]; rfl
theorem comp_val {J : It} {g : TG} {tc : TT} {te : TE} {σ₀ : St} {D : Addr} {Q : Hp → Prop} {H1 : Hp} {n : Nat} {sl : Nat → St} (keep : Nat → Bool) (f : Nat → V) (S : SrcOk J g σ₀ H1 n sl) (hD : H1 D = none) (hn : n < sizeLine)
    (step : ∀ i H (Kt : V → Hp → Prop) (Kf : Hp → Prop), i < n → Same H1 H → (∀ H', keep i = true → Same H H' → Kt (f i) H') → (∀ H', keep i = false → Same H H' → Kf H') →
      tc (sl i) H fun b H3 => if b = true then te (sl i) H3 Kt else Kf H3)
    (fin : ∀ H', Same H1 H' → H' D = some (.lst (((List.range n).filter keep).map f)) → Q H') : CompW J g tc te σ₀ D Q (upd H1 D (.lst [])) :=
  comp_rel keep (fun i v _ => v = f i) S hD hn (fun _ _ _ _ _ h => h) (fun i H Kt Kf hi hs _ h1 h2 => step i H Kt Kf hi hs (fun H' hk s' => h1 _ H' hk s' rfl) h2)
    fun H' ys hs hl hp => fin H' hs (by rw [hl, paired_map hp])
theorem filter_true {α : Type} (l : List α) : l.filter (fun _ => true) = l := List.filter_eq_self.mpr fun _ _ => rfl
theorem comp_all {J : It} {g : TG} {te : TE} {σ₀ : St} {D : Addr} {Q : Hp → Prop} {H1 : Hp} {n : Nat} {sl : Nat → St} (f : Nat → V) (S : SrcOk J g σ₀ H1 n sl) (hD : H1 D = none) (hn : n < sizeLine)
    (step : ∀ i H (Kt : V → Hp → Prop), i < n → Same H1 H → (∀ H', Same H H' → Kt (f i) H') → te (sl i) H Kt)
    (fin : ∀ H', Same H1 H' → H' D = some (.lst ((List.range n).map f)) → Q H') : CompW J g tYes te σ₀ D Q (upd H1 D (.lst [])) :=
  comp_val (fun _ => true) f S hD hn (fun i H Kt Kf hi hs h1 _ => iteT (A := te (sl i) H Kt) (B := Kf H) (step i H Kt hi hs fun H' s' => h1 H' rfl s')) fun H' hs hl => fin H' hs (by rw [hl, filter_true])
theorem comp_allR {J : It} {g : TG} {te : TE} {σ₀ : St} {D : Addr} {Q : Hp → Prop} {H1 : Hp} {n : Nat} {sl : Nat → St} (Rl : Nat → V → Hp → Prop) (S : SrcOk J g σ₀ H1 n sl) (hD : H1 D = none) (hn : n < sizeLine)
    (mono : ∀ i v H H', SameX D H H' → Rl i v H → Rl i v H')
    (step : ∀ i H (Kt : V → Hp → Prop), i < n → Same H1 H → (∃ ys, H D = some (.lst ys)) → (∀ v H', Same H H' → Rl i v H' → Kt v H') → te (sl i) H Kt)
    (fin : ∀ H' ys, Same H1 H' → H' D = some (.lst ys) → Paired (fun i v => Rl i v H') (List.range n) ys → Q H') : CompW J g tYes te σ₀ D Q (upd H1 D (.lst [])) :=
  comp_rel (fun _ => true) Rl S hD hn mono (fun i H Kt Kf hi hs hy h1 _ => iteT (A := te (sl i) H Kt) (B := Kf H) (step i H Kt hi hs hy fun v H' s' r => h1 v H' rfl s' r)) fun H' ys hs hl hp => fin H' ys hs hl (by rw [filter_true] at hp; exact hp)
theorem comp_fresh {J : It} {g : TG} {te : TE} {σ₀ : St} {D : Addr} {Q : Hp → Prop} {H1 : Hp} {n : Nat} {sl : Nat → St} (c : Nat → List V) (S : SrcOk J g σ₀ H1 n sl) (hD : H1 D = none) (hn : n < sizeLine)
    (step : ∀ i H (Kt : V → Hp → Prop), i < n → Same H1 H → (∀ a H', Same H H' → H a = none → H' a = some (.lst (c i)) → Kt (.ref a) H') → te (sl i) H Kt)
    (fin : ∀ H' (as : List Addr), Same H1 H' → H' D = some (.lst (as.map V.ref)) → as.length = n → as.Nodup → (∀ a ∈ as, H1 a = none ∧ a ≠ D) → (∀ (i : Nat) a, as[i]? = some a → H' a = some (.lst (c i))) → Q H') :
    CompW J g tYes te σ₀ D Q (upd H1 D (.lst [])) := by
  refine ⟨fun i m ys H => m = n - i ∧ i ≤ n ∧ Same H1 H ∧ H D = some (.lst ys) ∧ ∃ as : List Addr, ys = as.map V.ref ∧ as.length = i ∧ as.Nodup ∧ (∀ a ∈ as, H1 a = none ∧ a ≠ D) ∧ ∀ (j : Nat) a, as[j]? = some a → H a = some (.lst (c j)),
    ⟨n, by omega, by omega, Same.put hD, upd_same, [], rfl, rfl, List.nodup_nil, fun _ h => (nomatch h), fun j a h => by simp at h⟩, ?_⟩
  rintro i m ys H ⟨hm, hi, hs, hl, as, rfl, h1, h2, h3, h4⟩
  by_cases e : i = n
  · subst e
    exact .inl ⟨S.stop H hs, fin H as hs hl h1 h2 h3 h4⟩
  · have hin : i < n := by omega
    refine .inr ⟨S.go i H hin hs, fun ys' H' => i + 1 ≤ n ∧ Same H1 H' ∧ H' D = some (.lst ys') ∧ ∃ as : List Addr, ys' = as.map V.ref ∧ as.length = i + 1 ∧ as.Nodup ∧ (∀ a ∈ as, H1 a = none ∧ a ≠ D) ∧ ∀ (j : Nat) a, as[j]? = some a → H' a = some (.lst (c j)),
      fun ys' H' h => ⟨n - (i + 1), by omega, rfl, h⟩, fun x H' hy => ?_⟩
    refine S.step i H x H' (fun σ2 H2 => tYes σ2 H2 fun b H3 => if b = true then te σ2 H3 fun y H4 => H4 D = some (.lst (as.map V.ref)) ∧ (as.map V.ref).length < sizeLine ∧ _ else _) hin hs hy fun H2 s2 => ?_
    dsimp only [tYes]
    rw [if_pos rfl]
    refine step i H2 _ hin (hs.trans s2) fun a H4 s4 ha hc => ?_
    have hl4 : H4 D = some (.lst (as.map V.ref)) := s4 _ _ (s2 _ _ hl)
    have haD : a ≠ D := fun e => by rw [e, s2 _ _ hl] at ha; cases ha
    have anot : a ∉ as := fun hm => by
      obtain ⟨j, hj, e⟩ := List.getElem_of_mem hm
      have := s2 _ _ (h4 j a (by rw [List.getElem?_eq_getElem hj, e]))
      rw [ha] at this; cases this
    refine ⟨hl4, by simp; omega, hin, SameX.of hD (((hs.trans (s2.trans s4)).x D).trans SameX.put), upd_same, as ++ [a], by simp, by simp [h1], ?_, ?_, ?_⟩
    · exact List.nodup_append.mpr ⟨h2, by simp, fun x hx y hy => by simp at hy; subst hy; exact fun e => anot (e ▸ hx)⟩
    · intro b hb
      rcases List.mem_append.mp hb with hb | hb
      · exact h3 b hb
      · simp at hb
        subst hb
        exact ⟨(hs.trans s2).free ha, haD⟩
    · intro j b hj
      by_cases hjl : j < as.length
      · rw [List.getElem?_append_left hjl] at hj
        have q := h4 j b hj
        have hbD : b ≠ D := (h3 b (List.mem_of_getElem? hj)).2
        rw [upd_ne hbD]
        exact s4 _ _ (s2 _ _ q)
      · have hj2 : (as ++ [a])[j]? = some b := hj
        rw [List.getElem?_append_right (by omega)] at hj2
        have e0 : j = as.length := by
          by_cases z : j - as.length = 0
          · omega
          · rw [List.getElem?_eq_none (by simp; omega)] at hj2; cases hj2
        subst e0
        simp at hj2
        subst hj2
        rw [upd_ne haD, h1]
        exact hc
def Pu (pre : List V → Hp → Prop) (post : List V → Hp → V → Hp → Prop) : Sp := fun vs H Q _ => pre vs H ∧ ∀ v H', Same H H' → post vs H v H' → Q v H'
end L2

set_option Elab.async false
set_option linter.all false
set_option maxRecDepth 100000
namespace L2
open PySem PySem.Spec PyProof.Rows
def blkChk (sc osc : Scope) (N : List Str) (fr : List (Str × Nat)) : Bool :=
  sc.kind == .function && sc.names.all (fun y => y.2 != .cell && (y.2 != .local || sc.names.lookup y.1 == some .local) && (y.2 != .free || osc.names.lookup y.1 == some .cell || osc.names.lookup y.1 == some .free)) &&
  fr.all fun p => N[p.2]? == some p.1 && sc.names.lookup p.1 == some .free
theorem blkOk {X : Cx} {scope : Scope} {fr : List (Str × Nat)} (osc : Scope) (N : List Str) (h1 : X.env.scope = osc) (h2 : X.N = N) (h : blkChk scope osc N fr = true) : BlkOk X scope fr := by
  unfold blkChk at h
  rw [Bool.and_eq_true, Bool.and_eq_true] at h
  obtain ⟨⟨a, b⟩, c⟩ := h
  rw [List.all_eq_true] at b c
  subst h1 h2
  refine ⟨by simpa using a, fun y hy e => ?_, fun y hy e => ?_, fun y hy e => ?_, fun p hp => ?_⟩
  · have := b y hy
    rw [e] at this
    simp at this
  · have := b y hy
    rw [e] at this
    simpa using this
  · have := b y hy
    rw [e] at this
    simpa using this
  · have := c p hp
    simpa using this
structure Cal (P : Program) (w : World) (K : PySem.W.Frag) (mg : Str → Option Value) (base : Heap) (x : Str) (ps : List Str) (k : Nat) (sp : Sp) : Prop where
  ex : ∃ (f : Addr) (fd : FuncData), FnOk P w K mg base CX0 k f fd ps sp ∧ mg x = some (.ref f) ∧ PySem.W.keepIn K (.ref f) = true ∧ Binds K fd ps []
section
variable {X : Cx} {x : Str} {ps : List Str} {k k' : Nat} {sp : Sp} {e : Expr} {es : List Expr} {t : TA} {p pos : Pos}
theorem pe_callC (c : Cal X.prog X.w X.K X.mg X.base x ps k sp) (hr : Room k' X.A) (hg : Gl X x) (ha : PA X (e :: es) t) (hk : k ≤ k' := by decide) (hdb : (x == ("__debug__" : Str)) = false := by decide)
    (he : starEach (e :: es) X.env = (false, eval e X.env) :: starEach es X.env := by rfl) (hpl : (backTo pos (starEach es X.env)).any (·.1) = false := by rfl) : PE X (.Call (.Name x p) (e :: es) [] pos) (tCall sp [] E0 t) := by
  obtain ⟨f, fd, F, hm, kp, b⟩ := c.ex
  exact pe_call F (hr.mono hk) hg hm kp b .nil pass0 ha hdb he hpl
end
theorem call_isinst {X : Cx} (T : String) : CallR X (.builtin "isinstance") (fun xs H Q => ∃ x t b, xs = [x, .ty T] ∧ TyOf X.K H x t ∧ PySem.W.kitOne X.K t (.type T) = some b ∧ Q (.bl b) H) := by
  intro pins s σ H xs us Q I r h
  obtain ⟨x, t, b, rfl, ty, e, q⟩ := h
  obtain ⟨u, v, rfl, ru, rv⟩ := Vals.two r
  cases rv
  exact isinst_ok I ru ty e fun tk => ⟨.bl b, H, I.tok _, rfl, q⟩
theorem bt_bool : bootBuiltins "bool" = some (.type "bool") := by decide +kernel
theorem bt_str : bootBuiltins "str" = some (.type "str") := by decide +kernel
theorem bt_int : bootBuiltins "int" = some (.type "int") := by decide +kernel
theorem bt_list : bootBuiltins "list" = some (.type "list") := by decide +kernel
theorem bt_tuple : bootBuiltins "tuple" = some (.type "tuple") := by decide +kernel
section
variable {X : Cx} {K : PySem.W.Frag}
theorem ix_listK (h : X.K = K) : IxR X (rIxL K) := h ▸ ix_list
theorem ix_tupK (h : X.K = K) : IxR X (rIxT K) := h ▸ ix_tup
theorem sl_listK (h : X.K = K) : SlR X (rSlL K) := h ▸ sl_list
def rLen (K : PySem.W.Frag) : List V → Hp → VK → Prop := fun xs H Q => ∃ p ys, xs = [.ref p] ∧ (SqL K H p ys ∨ SqT K H p ys) ∧ Q (.int ys.length) H
theorem call_lenK (h : X.K = K) : CallR X (.builtin "len") (rLen K) := h ▸ call_len_seq
def rTupleOf (K : PySem.W.Frag) : List V → Hp → VK → Prop := fun xs H Q => ∃ p ys, xs = [.ref p] ∧ ((SqL K H p ys ∧ ∀ l, H l = none → Q (.ref l) (upd H l (.tup ys))) ∨ (SqT K H p ys ∧ Q (.ref p) H))
theorem call_tupleK (h : X.K = K) : CallR X (.type "tuple") (rTupleOf K) := h ▸ call_tuple_of
def rIsInst (K : PySem.W.Frag) (T : String) : List V → Hp → VK → Prop := fun xs H Q => ∃ x t b, xs = [x, .ty T] ∧ TyOf K H x t ∧ PySem.W.kitOne K t (.type T) = some b ∧ Q (.bl b) H
theorem call_isinstK (T : String) (h : X.K = K) : CallR X (.builtin "isinstance") (rIsInst K T) := h ▸ call_isinst T
variable {tg : Expr} {l : Expr} {tl : TE} {elts : List Expr} {k : Nat} {tpos pos p apos cpos : Pos} {a b o e : Expr} {es : List Expr} {ta : TA} {te tv to : TE} {f : Str}
theorem pi_listK (h : X.K = K) (hl : PE X l tl) : PI X tg l (iList K tl) := h ▸ pi_list hl
theorem pi_tupK (h : X.K = K) (hl : PE X l tl) : PI X tg l (iTup K tl) := h ▸ pi_tup hl
theorem pi_zipK (c1 c2 : Bool) (h : X.K = K) (hg : Gl X "zip") (hm : X.mg "zip" = none) (ha : PA X [a, b] ta) (hs : starEach [a, b] X.env = [(false, eval a X.env), (false, eval b X.env)] := by rfl) (hs2 : starEach [b] X.env = [(false, eval b X.env)] := by rfl) :
    PI X (.Tuple elts k tpos) (.Call (.Name "zip" p) [a, b] [] pos) (iZip K c1 c2 ta) := h ▸ pi_zip c1 c2 hg hm ha hs hs2
theorem pi_enumK (c : Bool) (h : X.K = K) (hg : Gl X "enumerate") (hm : X.mg "enumerate" = none) (ha : PA X [a] ta) (hs : starEach [a] X.env = [(false, eval a X.env)] := by rfl) :
    PI X (.Tuple elts k tpos) (.Call (.Name "enumerate" p) [a] [] pos) (iEnum K c ta) := h ▸ pi_enum c hg hm ha hs
theorem pe_fldK (h : X.K = K) (he : PE X e te) (hb : attributeBase e f X.env (eval e X.env) = eval e X.env) : PE X (.Attribute e f pos) (tFld K te f) := h ▸ pe_fld he hb
theorem ps_fldK {value : Expr} {pos' : Pos} (h : X.K = K) (ha : PE X o te) (hv : PE X value tv) (hs : swapsWith value (some (.Attribute o f pos')) pos.line X.env = pure false) : PS X (.Assign [.Attribute o f pos'] value pos) (sFld K te tv f) := h ▸ ps_fld ha hv hs
variable {name : Str} {T id : String} {r : V → List V → Hp → VK → Prop} {t : TA}
theorem pe_bmK (h : X.K = K) (pa : PlainAttrs T) (slot : Slot T name id) (hty : typeOf (.builtin id) = pure (.type "method_descriptor")) (hm : MtR X id r) (ho : PE X o to) (ha : PA X (e :: es) t)
    (h1 : attributeBase o name X.env (eval o X.env) = eval o X.env := by rfl)
    (h2 : ((backTo cpos (starEach (e :: es) X.env)).all (fun x => !x.1) && (backToKw cpos (keywordEach [] X.env)).all (fun x => x.1.isSome) && decide ((e :: es).length + ([] : List Keyword).length + (if ([] : List Keyword).isEmpty then 0 else 1) < 30)) = true := by rfl)
    (h3 : (apos.endLine == cpos.line) = true := by rfl) (h4 : starEach (e :: es) X.env = (false, eval e X.env) :: starEach es X.env := by rfl) (h5 : (backTo cpos (starEach es X.env)).any (·.1) = false := by rfl) :
    PE X (.Call (.Attribute o name apos) (e :: es) [] cpos) (tBM K T r to t) := h ▸ pe_bm pa slot hty hm ho ha h1 h2 h3 h4 h5
theorem pg_pair {x y : Str} {i j : Nat} {p1 p2 : Pos} (h : X.K = K) (hc : X.calm = true) (hN : X.N.Nodup) (hi : X.N[i]? = some x) (hj : X.N[j]? = some y) (hx : X.env.scope.names.lookup x = some .local) (hy : X.env.scope.names.lookup y = some .local) :
    PG X (.Tuple [.Name x p1, .Name y p2] k tpos) (gTup K 2 (gCons (gName i) (gCons (gName j) gNil))) :=
  h ▸ pg_tup hc (pgs_cons (pg_name hN hi (Or.inl hx) (Or.inr hx)) (pgs_cons (pg_name hN hj (Or.inl hy) (Or.inr hy)) pgs_nil))
end
def Its (c : Bool) (K : PySem.W.Frag) (a : Addr) : It := match c with
  | true => Itl K a
  | false => Itt K a
def iSq (K : PySem.W.Frag) (c : Bool) (tl : TE) : TI := fun σ H R => tl σ H fun x H1 => ∃ a, x = .ref a ∧ (∃ xs, Sq c K H1 a xs) ∧ R (Its c K a) H1
def rIxSq (K : PySem.W.Frag) (c : Bool) : R2 := fun x y H Q => ∃ p xs i v, x = .ref p ∧ y = .int i ∧ Sq c K H p xs ∧ atI xs i = some v ∧ Q v H
section
variable {X : Cx} {K : PySem.W.Frag} {tg l : Expr} {tl : TE}
theorem pi_sqK (c : Bool) (h : X.K = K) (hl : PE X l tl) : PI X tg l (iSq K c tl) := by
  cases c with
  | true => exact pi_listK h hl
  | false => exact pi_tupK h hl
theorem ix_sqK (c : Bool) (h : X.K = K) : IxR X (rIxSq K c) := by
  cases c with
  | true => exact ix_listK h
  | false => exact ix_tupK h
theorem src_sq {c : Bool} {a : Addr} {xs : List V} {ρ : St} {H1 : Hp} (h : Sq c K H1 a xs) : SrcOk (Its c K a) (gName 0) (none :: ρ) H1 xs.length (fun i => some (xs.getD i .non) :: ρ) := by
  cases c with
  | true => exact src_list h
  | false => exact src_tup h
end
section
variable {K : PySem.W.Frag} {g : TG} {tb : TS} {D : Ends} {σ : St} {H : Hp}
theorem for_enum {c : Bool} {l : Addr} {xs : List V} (Pv : Nat → St → Hp → Prop) (h0 : Pv 0 σ H) (hl : ∀ i σ H, Pv i σ H → Sq c K H l xs)
    (hs : ∀ i x σ H T, xs[i]? = some x → H T = none → Pv i σ H → g (.ref T) σ (upd H T (.tup [.int i, x])) fun σ2 H2 => tb { D with nx := Pv (i + 1), ct := Pv (i + 1), bk := D.nx } σ2 H2) (hd : ∀ σ H, Pv xs.length σ H → D.nx σ H) :
    ∃ W : Nat → Nat → St → Hp → Prop, (∃ m, W 0 m σ H) ∧ ∀ i m σ H, W i m σ H →
      ((Ite K c l).stop i H ∧ D.nx σ H) ∨ ((Ite K c l).go i H ∧ ∃ N : St → Hp → Prop, (∀ σ' H', N σ' H' → ∃ m', m' < m ∧ W (i + 1) m' σ' H') ∧ ∀ x H', (Ite K c l).yld i H x H' → g x σ H' fun σ2 H2 => tb { D with nx := N, ct := N, bk := D.nx } σ2 H2) := by
  refine ⟨fun i m σ H => m = xs.length - i ∧ i ≤ xs.length ∧ Pv i σ H, ⟨xs.length, by simp, Nat.zero_le _, h0⟩, ?_⟩
  rintro i m σ H ⟨rfl, hi, p⟩
  have q := hl i σ H p
  by_cases hlt : i < xs.length
  · refine .inr ⟨⟨xs, xs[i], q, by simp [hlt]⟩, Pv (i + 1), fun σ' H' p' => ⟨xs.length - (i + 1), by omega, rfl, hlt, p'⟩, fun x H' y => ?_⟩
    obtain ⟨T, x, rfl, hT, rfl, hx⟩ := y
    exact hs i x σ H T (hx xs q) hT p
  · have e : i = xs.length := by omega
    subst e
    exact .inl ⟨⟨xs, q, rfl⟩, hd σ H p⟩
end
theorem star_of {e : Expr} {es : List Expr} {env : Env} (h : ∀ v p, e ≠ .Starred v p) : starEach (e :: es) env = (false, eval e env) :: starEach es env := by
  cases e <;> first | rfl | exact absurd rfl (h _ _)
def intOf : Expr → Option Int
  | .Constant (.int i) _ _ => some i
  | _ => none
def intsOf : List Expr → Option (List Int)
  | [] => some []
  | e :: r => (intOf e).bind fun i => (intsOf r).map (i :: ·)
theorem intOf_eq {e : Expr} {i : Int} (h : intOf e = some i) : ∃ k p, e = .Constant (.int i) k p := by
  cases e with
  | Constant c k p =>
    cases c with
    | int j => cases h; exact ⟨k, p, rfl⟩
    | _ => cases h
  | _ => cases h
theorem pa_ints {X : Cx} : ∀ {es : List Expr} (is : List Int), intsOf es = some is → PA X es (fun _ H Q => Q (is.map V.int) H) := by
  intro es
  induction es with
  | nil =>
    intro is h
    cases h
    exact pa_nil
  | cons e r ih =>
    intro is h
    have h' : (intOf e).bind (fun i => (intsOf r).map (i :: ·)) = some is := h
    cases q1 : intOf e with
    | none => rw [q1] at h'; cases h'
    | some i =>
      obtain ⟨k, p, rfl⟩ := intOf_eq q1
      rw [q1] at h'
      cases q : intsOf r with
      | none => rw [Option.bind_some, q] at h'; cases h'
      | some js =>
        rw [Option.bind_some, q] at h'
        cases h'
        exact pa_cons pe_int (ih js q)
end L2

set_option Elab.async false
set_option linter.all false
set_option maxRecDepth 100000
namespace L2
open PySem PySem.Spec PyProof.Rows
end L2

set_option Elab.async false
set_option linter.all false
set_option maxRecDepth 100000
namespace L2
open PySem PySem.Spec PyProof.Rows
theorem range_allB (bs : List Bool) : ((List.range bs.length).all fun i => (bs[i]?).getD true) = bs.all id := by
  rw [Bool.eq_iff_iff, List.all_eq_true, List.all_eq_true]
  constructor
  · intro h b hb
    obtain ⟨i, hi, e⟩ := List.getElem_of_mem hb
    have := h i (by simpa using hi)
    rw [List.getElem?_eq_getElem hi, e] at this
    exact this
  · intro h i hi
    have hi' : i < bs.length := by simpa using hi
    rw [List.getElem?_eq_getElem hi']
    exact h _ (List.getElem_mem hi')
theorem range_anyB (bs : List Bool) : ((List.range bs.length).any fun i => (bs[i]?).getD false) = bs.any id := by
  rw [Bool.eq_iff_iff, List.any_eq_true, List.any_eq_true]
  constructor
  · rintro ⟨i, hi, e⟩
    have hi' : i < bs.length := by simpa using hi
    rw [List.getElem?_eq_getElem hi'] at e
    exact ⟨_, List.getElem_mem hi', e⟩
  · rintro ⟨b, hb, e⟩
    obtain ⟨i, hi, e'⟩ := List.getElem_of_mem hb
    exact ⟨i, by simpa using hi, by rw [List.getElem?_eq_getElem hi, e']; exact e⟩
def rAll (K : PySem.W.Frag) : List V → Hp → VK → Prop := fun xs H Q => ∃ (p : Addr) (bs : List Bool), xs = [.ref p] ∧ SqL K H p (bs.map V.bl) ∧ Q (.bl (bs.all id)) H
def rAny (K : PySem.W.Frag) : List V → Hp → VK → Prop := fun xs H Q => ∃ (p : Addr) (bs : List Bool), xs = [.ref p] ∧ SqL K H p (bs.map V.bl) ∧ Q (.bl (bs.any id)) H
theorem bools_get {bs : List Bool} {its : List Value} (rv : Vals (bs.map V.bl) its) {i : Nat} {v : Value} (h : its[i]? = some v) : ∃ b, bs[i]? = some b ∧ v = .bool b := by
  have hi : i < its.length := (List.getElem?_eq_some_iff.mp h).1
  have hlen : its.length = bs.length := by rw [← rv.length, List.length_map]
  obtain ⟨w', h1, h2⟩ := rv.get (i := i) (x := .bl (bs[i]'(by omega))) (by simp [show i < bs.length by omega])
  rw [h] at h1
  cases h1
  exact ⟨_, List.getElem?_eq_getElem (by omega), h2⟩
theorem call_allI {X : Cx} (hc : X.calm = true) : CallR X (.builtin "all") (rAll X.K) := by
  intro pins s σ H xs us Q I r h
  obtain ⟨p, bs, rfl, hq, q⟩ := h
  obtain ⟨u, rfl, ru⟩ := Vals.one r
  cases ru
  obtain ⟨its, rv, pl, hz⟩ := I.list hq
  have hlen : its.length = bs.length := by rw [← rv.length, List.length_map]
  have hp : p < s.heap.objs.size := by obtain ⟨o, _, e, _⟩ := pl; exact Heap.lt_size e
  refine call_all_walk (wpAny_pyIter_list pl.isList ?_)
  have hh : X.A.in1.handled = none := I.ok.hd hc
  refine ⟨s.heap.objs.size, _, _, _, _, _, fun i => (bs[i]?).getD true, rfl, Walks.list hh s.heap.objs.size p (Nat.ne_of_lt hp) its.toArray, ⟨⟨_, Heap.get?_push_size _ rfl, rfl, rfl⟩, pl.isList.at fun o e => Heap.get?_push_of_some _ e⟩, fun i v s' Q' E' hP hQ => ?_, fun h' tk hk => ?_⟩
  · obtain ⟨b, e, rfl⟩ := bools_get rv (by simpa using hP)
    simp only [e, Option.getD_some] at hQ
    exact wpAny_truthy_bool hQ
  · have e : ((List.range its.toArray.size).all fun i => (bs[i]?).getD true) = bs.all id := by
      rw [List.size_toArray, hlen]; exact range_allB bs
    rw [e]
    have I2 : Inv X pins σ H { s with heap := h', toks := tk } := by
      refine I.kept fun b o e => hk b o ?_ (Heap.get?_push_of_some _ e)
      simp only [List.mem_cons, List.not_mem_nil, or_false]
      exact Nat.ne_of_lt (Heap.lt_size e)
    exact ⟨.bl (bs.all id), H, I2, rfl, q⟩
theorem call_anyI {X : Cx} (hc : X.calm = true) : CallR X (.builtin "any") (rAny X.K) := by
  intro pins s σ H xs us Q I r h
  obtain ⟨p, bs, rfl, hq, q⟩ := h
  obtain ⟨u, rfl, ru⟩ := Vals.one r
  cases ru
  obtain ⟨its, rv, pl, hz⟩ := I.list hq
  have hlen : its.length = bs.length := by rw [← rv.length, List.length_map]
  have hp : p < s.heap.objs.size := by obtain ⟨o, _, e, _⟩ := pl; exact Heap.lt_size e
  refine call_any_walk (wpAny_pyIter_list pl.isList ?_)
  have hh : X.A.in1.handled = none := I.ok.hd hc
  refine ⟨s.heap.objs.size, _, _, _, _, _, fun i => (bs[i]?).getD false, rfl, Walks.list hh s.heap.objs.size p (Nat.ne_of_lt hp) its.toArray, ⟨⟨_, Heap.get?_push_size _ rfl, rfl, rfl⟩, pl.isList.at fun o e => Heap.get?_push_of_some _ e⟩, fun i v s' Q' E' hP hQ => ?_, fun h' tk hk => ?_⟩
  · obtain ⟨b, e, rfl⟩ := bools_get rv (by simpa using hP)
    simp only [e, Option.getD_some] at hQ
    exact wpAny_truthy_bool hQ
  · have e : ((List.range its.toArray.size).any fun i => (bs[i]?).getD false) = bs.any id := by
      rw [List.size_toArray, hlen]; exact range_anyB bs
    rw [e]
    have I2 : Inv X pins σ H { s with heap := h', toks := tk } := by
      refine I.kept fun b o e => hk b o ?_ (Heap.get?_push_of_some _ e)
      simp only [List.mem_cons, List.not_mem_nil, or_false]
      exact Nat.ne_of_lt (Heap.lt_size e)
    exact ⟨.bl (bs.any id), H, I2, rfl, q⟩
theorem call_allK {X : Cx} {K : PySem.W.Frag} (h : X.K = K) (hc : X.calm = true) : CallR X (.builtin "all") (rAll K) := h ▸ call_allI hc
theorem call_anyK {X : Cx} {K : PySem.W.Frag} (h : X.K = K) (hc : X.calm = true) : CallR X (.builtin "any") (rAny K) := h ▸ call_anyI hc
end L2

set_option Elab.async false
set_option linter.all false
set_option maxRecDepth 100000
namespace L2
open PySem PySem.Spec PyProof.Rows
inductive EqV (K : PySem.W.Frag) (H : Hp) : Nat → V → V → Bool → Prop
  | int (n : Nat) (i j : Int) : EqV K H n (.int i) (.int j) (i == j)
  | bl (n : Nat) (i j : Bool) : EqV K H n (.bl i) (.bl j) (i == j)
  | same (n : Nat) (a : Addr) : EqV K H n (.ref a) (.ref a) true
  | tup (n : Nat) (a b : Addr) (xs ys : List V) (e : Nat → Bool) : SqT K H a xs → SqT K H b ys → xs.length = ys.length → (∀ (j : Nat) x y, xs[j]? = some x → ys[j]? = some y → EqV K H n x y (e j)) → EqV K H (n + 1) (.ref a) (.ref b) ((List.range xs.length).all e)
  | lst (n : Nat) (a b : Addr) (xs ys : List V) (e : Nat → Bool) : SqL K H a xs → SqL K H b ys → xs.length = ys.length → (∀ (j : Nat) x y, xs[j]? = some x → ys[j]? = some y → EqV K H n x y (e j)) → EqV K H (n + 1) (.ref a) (.ref b) ((List.range xs.length).all e)
  | lens (n : Nat) (a b : Addr) (xs ys : List V) : SqL K H a xs → SqL K H b ys → xs.length ≠ ys.length → EqV K H (n + 1) (.ref a) (.ref b) false
section
variable {X : Cx} {pins : List (Addr × Obj)} {σ : St} {H : Hp} {s : Shared}
theorem Inv.listInj (I : Inv X pins σ H s) {a : Addr} {xs ys : List V} (h : SqL X.K H a xs) (h' : SqL X.K H a ys) : ∃ its, Vals xs its ∧ Vals ys its := by
  obtain ⟨its, r, ⟨o, n, e, d1, d2, d3⟩, _⟩ := I.list h
  obtain ⟨its', r', ⟨o', n', e', f1, f2, f3⟩, _⟩ := I.list h'
  rw [e] at e'
  cases e'
  rw [d3] at f3
  injection f3 with q1 q2
  have : its = its' := by simpa using q1
  subst this
  exact ⟨its, r, r'⟩
theorem EqV.sameVal (I : Inv X pins σ H s) {n : Nat} {x y : V} {b : Bool} (h : EqV X.K H n x y b) : ∀ {v : Value}, RelV x v → RelV y v → b = true := by
  induction h with
  | int n i j =>
    rintro v ⟨t, rfl⟩ ⟨u, e⟩
    cases e
    simp
  | bl n i j =>
    intro v h1 h2
    cases h1
    cases h2
    simp
  | same n a => intros; rfl
  | tup n a b xs ys e h1 h2 hl hi ih =>
    intro v r1 r2
    cases r1
    cases r2
    have := I.tuple_inj h1 h2
    subst this
    obtain ⟨its, r, _, _⟩ := I.tuple h1
    rw [List.all_eq_true]
    intro j hj
    have hj' : j < xs.length := by simpa using hj
    obtain ⟨w', _, q⟩ := r.get (List.getElem?_eq_getElem hj')
    exact ih j _ _ (List.getElem?_eq_getElem hj') (List.getElem?_eq_getElem hj') q q
  | lst n a b xs ys e h1 h2 hl hi ih =>
    intro v r1 r2
    cases r1
    cases r2
    obtain ⟨its, r, r'⟩ := I.listInj h1 h2
    rw [List.all_eq_true]
    intro j hj
    have hj' : j < xs.length := by simpa using hj
    obtain ⟨w', z1, q⟩ := r.get (List.getElem?_eq_getElem hj')
    obtain ⟨w'', z2, q'⟩ := r'.get (List.getElem?_eq_getElem (show j < ys.length by omega))
    rw [z1] at z2
    cases z2
    exact ih j _ _ (List.getElem?_eq_getElem hj') (List.getElem?_eq_getElem _) q q'
  | lens n a b xs ys h1 h2 hl =>
    intro v r1 r2
    cases r1
    cases r2
    obtain ⟨its, r, r'⟩ := I.listInj h1 h2
    exact absurd (r.length.trans r'.length.symm) hl
theorem EqV.at (I : Inv X pins σ H s) {n : Nat} {x y : V} {b : Bool} (h : EqV X.K H n x y b) : ∀ {A : Around} {v u : Value}, A.units + n < cLine → RelV x v → RelV y u → SeqAt.EqAt A s v u b := by
  induction h with
  | int n i j =>
    rintro A v u hu ⟨t, rfl⟩ ⟨t', rfl⟩
    exact SeqAt.EqAt.int_int i t j t'
  | bl n i j =>
    intro A v u hu h1 h2
    cases h1
    cases h2
    exact SeqAt.EqAt.bool_bool i j
  | same n a =>
    intro A v u hu h1 h2
    cases h1
    cases h2
    exact SeqAt.EqAt.same _
  | tup n a b xs ys e h1 h2 hl hi ih =>
    intro A v u hu r1 r2
    by_cases hab : v = u
    · have := EqV.sameVal I (.tup n a b xs ys e h1 h2 hl hi) r1 (hab ▸ r2)
      rw [this, hab]
      exact SeqAt.EqAt.same _
    · cases r1
      cases r2
      obtain ⟨its, r, t1, _⟩ := I.tuple h1
      obtain ⟨its2, r', t2, _⟩ := I.tuple h2
      refine SeqAt.EqAt.of_refs (fun z => hab (by rw [z])) ?_
      have hh := SeqAt.RcAt.tuples (A := A) (s := s) (e := e) t1 t2 (by omega) fun j g1 g2 => ?_
      · have el : its.toArray.size = its2.toArray.size := by simp; rw [← r.length, ← r'.length]; exact hl
        have e2 : ((List.range (min its.toArray.size its2.toArray.size)).all e && its.toArray.size == its2.toArray.size) = (List.range xs.length).all e := by
          rw [← el, Nat.min_self, beq_self_eq_true, Bool.and_true]
          congr 2
          simp [← r.length]
        rw [e2] at hh
        exact hh
      · have j1 : j < xs.length := by rw [r.length]; simpa using g1
        have j2 : j < ys.length := by omega
        obtain ⟨w', z1, q⟩ := r.get (List.getElem?_eq_getElem j1)
        obtain ⟨w'', z2, q'⟩ := r'.get (List.getElem?_eq_getElem j2)
        have e1 : its.toArray[j] = w' := by have := (List.getElem?_eq_some_iff.mp z1).2; simpa using this
        have e2 : its2.toArray[j] = w'' := by have := (List.getElem?_eq_some_iff.mp z2).2; simpa using this
        rw [e1, e2]
        exact ih j _ _ (List.getElem?_eq_getElem j1) (List.getElem?_eq_getElem j2) (by show A.units + 1 + n < cLine; omega) q q'
  | lst n a b xs ys e h1 h2 hl hi ih =>
    intro A v u hu r1 r2
    by_cases hab : v = u
    · have := EqV.sameVal I (.lst n a b xs ys e h1 h2 hl hi) r1 (hab ▸ r2)
      rw [this, hab]
      exact SeqAt.EqAt.same _
    · cases r1
      cases r2
      obtain ⟨its, r, t1, _⟩ := I.list h1
      obtain ⟨its2, r', t2, _⟩ := I.list h2
      refine SeqAt.EqAt.of_refs (fun z => hab (by rw [z])) ?_
      have el : its.toArray.size = its2.toArray.size := by simp; rw [← r.length, ← r'.length]; exact hl
      have hh := SeqAt.RcAt.lists (A := A) (s := s) (e := e) t1.isList t2.isList el (by omega) fun j g1 g2 => ?_
      · have e2 : (List.range its.toArray.size).all e = (List.range xs.length).all e := by
          congr 2
          simp [← r.length]
        rw [e2] at hh
        exact hh
      · have j1 : j < xs.length := by rw [r.length]; simpa using g1
        have j2 : j < ys.length := by omega
        obtain ⟨w', z1, q⟩ := r.get (List.getElem?_eq_getElem j1)
        obtain ⟨w'', z2, q'⟩ := r'.get (List.getElem?_eq_getElem j2)
        have e1 : its.toArray[j] = w' := by have := (List.getElem?_eq_some_iff.mp z1).2; simpa using this
        have e2 : its2.toArray[j] = w'' := by have := (List.getElem?_eq_some_iff.mp z2).2; simpa using this
        rw [e1, e2]
        exact ih j _ _ (List.getElem?_eq_getElem j1) (List.getElem?_eq_getElem j2) (by show A.units + 1 + n < cLine; omega) q q'
  | lens n a b xs ys h1 h2 hl =>
    intro A v u hu r1 r2
    by_cases hab : v = u
    · have := EqV.sameVal I (.lens n a b xs ys h1 h2 hl) r1 (hab ▸ r2)
      cases this
    · cases r1
      cases r2
      obtain ⟨its, r, t1, _⟩ := I.list h1
      obtain ⟨its2, r', t2, _⟩ := I.list h2
      refine SeqAt.EqAt.of_refs (fun z => hab (by rw [z])) (SeqAt.RcAt.lists_lengths t1.isList t2.isList ?_ (by omega))
      have : its.length ≠ its2.length := by rw [← r.length, ← r'.length]; exact hl
      simpa using this
end
end L2

set_option Elab.async false
set_option linter.all false
set_option maxRecDepth 100000
namespace L2
open PySem PySem.Spec PyProof.Rows
section
variable {prog : Program} {w : World} {A : Around} {E : Value → Shared → Prop}
variable {s : Shared}
end
end L2

set_option linter.all false
namespace Ev
def Sub (x y : Nat) : Prop := x &&& y = x
instance (x y : Nat) : Decidable (Sub x y) := inferInstanceAs (Decidable (_ = _))
theorem Sub.rfl' (x : Nat) : Sub x x := Nat.and_self x
theorem Sub.trans {x y z : Nat} (a : Sub x y) (b : Sub y z) : Sub x z := by
  unfold Sub at *
  rw [← a, Nat.and_assoc, b]
theorem Sub.antisymm {x y : Nat} (a : Sub x y) (b : Sub y x) : x = y := by
  unfold Sub at *
  rw [← a, Nat.and_comm, b]
theorem Sub.le {x y : Nat} (a : Sub x y) : x ≤ y := by
  unfold Sub at a
  rw [← a]; exact Nat.and_le_right
theorem Sub.and_left (x y : Nat) : Sub (x &&& y) x := by
  unfold Sub
  rw [Nat.and_assoc, Nat.and_comm y x, ← Nat.and_assoc, Nat.and_self]
theorem Sub.and_right (x y : Nat) : Sub (x &&& y) y := by
  unfold Sub
  rw [Nat.and_assoc, Nat.and_self]
theorem Sub.and_iff {x a b : Nat} : Sub x (a &&& b) ↔ Sub x a ∧ Sub x b := by
  constructor
  · intro h
    exact ⟨h.trans (Sub.and_left a b), h.trans (Sub.and_right a b)⟩
  · rintro ⟨h1, h2⟩
    unfold Sub at *
    rw [← Nat.and_assoc, h1, h2]
structure Lat (M : List Nat) : Prop where
  nd : M.Nodup
  len : M.length ≤ 24
  meet : ∀ x ∈ M, ∀ y ∈ M, x &&& y ∈ M
  top : ∃ t ∈ M, ∀ x ∈ M, Sub x t

theorem Lat.pos {M : List Nat} (L : Lat M) : 0 < M.length := by
  obtain ⟨t, ht, _⟩ := L.top
  exact List.length_pos_of_mem ht

theorem Lat.perm {M M' : List Nat} (L : Lat M) (p : M.Perm M') : Lat M' where
  nd := p.nodup_iff.mp L.nd
  len := by rw [← p.length_eq]; exact L.len
  meet := fun x hx y hy => p.mem_iff.mp (L.meet x (p.mem_iff.mpr hx) y (p.mem_iff.mpr hy))
  top := by
    obtain ⟨t, ht, h⟩ := L.top
    exact ⟨t, p.mem_iff.mp ht, fun x hx => h x (p.mem_iff.mpr hx)⟩
def leM (M : List Nat) (i j : Nat) : Bool := decide (Sub (M.getD i 0) (M.getD j 0))
theorem leM_iff {M : List Nat} {i j : Nat} : leM M i j = true ↔ Sub (M.getD i 0) (M.getD j 0) := by simp [leM]
theorem leM_refl (M : List Nat) (i : Nat) : leM M i i = true := leM_iff.mpr (Sub.rfl' _)
theorem leM_trans {M : List Nat} {i j k : Nat} (a : leM M i j = true) (b : leM M j k = true) : leM M i k = true := leM_iff.mpr ((leM_iff.mp a).trans (leM_iff.mp b))
theorem getD_mem {M : List Nat} {i : Nat} (h : i < M.length) : M.getD i 0 ∈ M := by
  rw [List.getD_eq_getElem?_getD, List.getElem?_eq_getElem h]; exact List.getElem_mem h
theorem getD_of_mem {M : List Nat} {x : Nat} (h : x ∈ M) : ∃ i, i < M.length ∧ M.getD i 0 = x := by
  obtain ⟨i, hi, e⟩ := List.getElem_of_mem h
  exact ⟨i, hi, by rw [List.getD_eq_getElem?_getD, List.getElem?_eq_getElem hi]; exact e⟩
theorem getD_inj {M : List Nat} (nd : M.Nodup) {i j : Nat} (hi : i < M.length) (hj : j < M.length) (e : M.getD i 0 = M.getD j 0) : i = j := by
  rw [List.getD_eq_getElem?_getD, List.getD_eq_getElem?_getD, List.getElem?_eq_getElem hi, List.getElem?_eq_getElem hj] at e
  exact (List.getElem_inj nd).mp e
theorem leM_antisymm {M : List Nat} (nd : M.Nodup) {i j : Nat} (hi : i < M.length) (hj : j < M.length) (a : leM M i j = true) (b : leM M j i = true) : i = j :=
  getD_inj nd hi hj ((leM_iff.mp a).antisymm (leM_iff.mp b))

theorem Lat.meetEx {M : List Nat} (L : Lat M) {a b : Nat} (ha : a < M.length) (hb : b < M.length) : ∃ c, c < M.length ∧ M.getD c 0 = M.getD a 0 &&& M.getD b 0 ∧ ∀ x, leM M x c = (leM M x a && leM M x b) := by
  obtain ⟨c, hc, e⟩ := getD_of_mem (L.meet _ (getD_mem ha) _ (getD_mem hb))
  refine ⟨c, hc, e, fun x => ?_⟩
  rw [Bool.eq_iff_iff, Bool.and_eq_true, leM_iff, leM_iff, leM_iff, e]
  exact Sub.and_iff

theorem foldAnd {M : List Nat} (hm : ∀ x ∈ M, ∀ y ∈ M, x &&& y ∈ M) : ∀ (S : List Nat) (t : Nat), (∀ x ∈ S, x ∈ M) → t ∈ M →
    S.foldl (· &&& ·) t ∈ M ∧ Sub (S.foldl (· &&& ·) t) t ∧ (∀ x ∈ S, Sub (S.foldl (· &&& ·) t) x) ∧ ∀ y, Sub y t → (∀ x ∈ S, Sub y x) → Sub y (S.foldl (· &&& ·) t)
  | [], t, _, ht => ⟨ht, Sub.rfl' t, fun _ h => (nomatch h), fun _ h _ => h⟩
  | s :: S, t, hS, ht => by
    have hs : s ∈ M := hS s List.mem_cons_self
    obtain ⟨h1, h2, h3, h4⟩ := foldAnd hm S (t &&& s) (fun x hx => hS x (List.mem_cons_of_mem _ hx)) (hm t ht s hs)
    rw [List.foldl_cons]
    refine ⟨h1, h2.trans (Sub.and_left t s), fun x hx => ?_, fun y hy hx => h4 y (Sub.and_iff.mpr ⟨hy, hx s List.mem_cons_self⟩) fun x h => hx x (List.mem_cons_of_mem _ h)⟩
    rcases List.mem_cons.mp hx with rfl | hx
    · exact h2.trans (Sub.and_right t x)
    · exact h3 x hx

theorem Lat.joinEx {M : List Nat} (L : Lat M) {a b : Nat} (ha : a < M.length) (hb : b < M.length) : ∃ c, c < M.length ∧ ∀ x, x < M.length → leM M c x = (leM M a x && leM M b x) := by
  obtain ⟨t, ht, htop⟩ := L.top
  let S := M.filter fun x => decide (Sub (M.getD a 0) x) && decide (Sub (M.getD b 0) x)
  obtain ⟨h1, h2, h3, h4⟩ := foldAnd L.meet S t (fun x hx => (List.mem_filter.mp hx).1) ht
  obtain ⟨c, hc, e⟩ := getD_of_mem h1
  refine ⟨c, hc, fun x hx => ?_⟩
  have inS : ∀ y ∈ S, Sub (M.getD a 0) y ∧ Sub (M.getD b 0) y := fun y hy => by
    have := (List.mem_filter.mp hy).2
    simpa [Bool.and_eq_true] using this
  have ka : Sub (M.getD a 0) (S.foldl (· &&& ·) t) := h4 _ (htop _ (getD_mem ha)) fun y hy => (inS y hy).1
  have kb : Sub (M.getD b 0) (S.foldl (· &&& ·) t) := h4 _ (htop _ (getD_mem hb)) fun y hy => (inS y hy).2
  rw [Bool.eq_iff_iff, Bool.and_eq_true, leM_iff, leM_iff, leM_iff, e]
  constructor
  · intro h
    exact ⟨ka.trans h, kb.trans h⟩
  · rintro ⟨h, h'⟩
    exact h3 _ (List.mem_filter.mpr ⟨getD_mem hx, by rw [Bool.and_eq_true]; exact ⟨decide_eq_true h, decide_eq_true h'⟩⟩)
structure Clos (n : Nat) (ps : List (Nat × Nat)) (R : Nat → Nat → Bool) : Prop where
  refl : ∀ a, a < n → R a a = true
  has : ∀ p ∈ ps, R p.1 p.2 = true
  trans : ∀ a b c, a < n → b < n → c < n → R a b = true → R b c = true → R a c = true
  least : ∀ T : Nat → Nat → Bool, (∀ a, a < n → T a a = true) → (∀ p ∈ ps, T p.1 p.2 = true) → (∀ a b c, a < n → b < n → c < n → T a b = true → T b c = true → T a c = true) →
    ∀ a b, a < n → b < n → R a b = true → T a b = true

structure WInv (n : Nat) (ps : List (Nat × Nat)) (m : Nat) (R : Nat → Nat → Bool) : Prop where
  refl : ∀ a, a < n → R a a = true
  has : ∀ p ∈ ps, R p.1 p.2 = true
  tr : ∀ k, k < m → ∀ a b, a < n → b < n → R a k = true → R k b = true → R a b = true
  least : ∀ T : Nat → Nat → Bool, (∀ a, a < n → T a a = true) → (∀ p ∈ ps, T p.1 p.2 = true) → (∀ a b c, a < n → b < n → c < n → T a b = true → T b c = true → T a c = true) →
    ∀ a b, a < n → b < n → R a b = true → T a b = true

def wstep (R : Nat → Nat → Bool) (m : Nat) : Nat → Nat → Bool := fun a b => R a b || (R a m && R m b)
theorem wstep_iff {R : Nat → Nat → Bool} {m a b : Nat} : wstep R m a b = true ↔ R a b = true ∨ (R a m = true ∧ R m b = true) := by simp [wstep]
theorem WInv.step {n m : Nat} {ps : List (Nat × Nat)} {R : Nat → Nat → Bool} (W : WInv n ps m R) (hm : m < n) : WInv n ps (m + 1) (wstep R m) where
  refl := fun a ha => wstep_iff.mpr (.inl (W.refl a ha))
  has := fun p hp => wstep_iff.mpr (.inl (W.has p hp))
  tr := fun k hk a b ha hb h1 h2 => by
    rw [wstep_iff] at *
    by_cases e : k = m
    · subst e
      have h1' : R a k = true := h1.elim id (·.1)
      have h2' : R k b = true := h2.elim id (·.2)
      exact .inr ⟨h1', h2'⟩
    · have hk' : k < m := by omega
      rcases h1 with h1 | ⟨h1, h1'⟩
      · rcases h2 with h2 | ⟨h2, h2'⟩
        · exact .inl (W.tr k hk' a b ha hb h1 h2)
        · exact .inr ⟨W.tr k hk' a m ha hm h1 h2, h2'⟩
      · rcases h2 with h2 | ⟨h2, h2'⟩
        · exact .inr ⟨h1, W.tr k hk' m b hm hb h1' h2⟩
        · exact .inr ⟨h1, h2'⟩
  least := fun T t1 t2 t3 a b ha hb h => by
    rcases wstep_iff.mp h with h | ⟨h, h'⟩
    · exact W.least T t1 t2 t3 a b ha hb h
    · exact t3 a m b ha hm hb (W.least T t1 t2 t3 a m ha hm h) (W.least T t1 t2 t3 m b hm hb h')
theorem WInv.done {n : Nat} {ps : List (Nat × Nat)} {R : Nat → Nat → Bool} (W : WInv n ps n R) : Clos n ps R :=
  ⟨W.refl, W.has, fun a b c ha hb hc h1 h2 => W.tr b hb a c ha hc h1 h2, W.least⟩
def base (ps : List (Nat × Nat)) : Nat → Nat → Bool := fun a b => a == b || ps.any fun p => p.1 == a && p.2 == b
theorem base_iff {ps : List (Nat × Nat)} {a b : Nat} : base ps a b = true ↔ a = b ∨ (a, b) ∈ ps := by
  simp only [base, Bool.or_eq_true, beq_iff_eq, List.any_eq_true, Bool.and_eq_true]
  constructor
  · rintro (h | ⟨⟨x, y⟩, hp, rfl, rfl⟩)
    · exact .inl h
    · exact .inr hp
  · rintro (h | h)
    · exact .inl h
    · exact .inr ⟨(a, b), h, rfl, rfl⟩
theorem WInv.start {n : Nat} {ps : List (Nat × Nat)} (hp : ∀ p ∈ ps, p.1 < n ∧ p.2 < n) : WInv n ps 0 (base ps) where
  refl := fun a _ => base_iff.mpr (.inl rfl)
  has := fun p hp => base_iff.mpr (.inr hp)
  tr := fun k hk => by omega
  least := fun T t1 t2 _ a b ha _ h => by
    rcases base_iff.mp h with rfl | h
    · exact t1 a ha
    · exact t2 _ h
def stepM (M : List Nat) (a b : Nat) : Prop := a ≠ b ∧ leM M a b = true ∧ ∀ c, c < M.length → leM M a c = true → leM M c b = true → c = a ∨ c = b
theorem Clos.eq_leM {M : List Nat} {ps : List (Nat × Nat)} {R : Nat → Nat → Bool} (nd : M.Nodup) (C : Clos M.length ps R) (h1 : ∀ p ∈ ps, leM M p.1 p.2 = true)
    (h2 : ∀ a b, a < M.length → b < M.length → stepM M a b → (a, b) ∈ ps) : ∀ a b, a < M.length → b < M.length → R a b = leM M a b := by
  have go : ∀ (d a b : Nat), a < M.length → b < M.length → M.getD b 0 - M.getD a 0 = d → leM M a b = true → R a b = true := by
    intro d
    induction d using Nat.strongRecOn with
    | _ d ih =>
      intro a b ha hb hd hl
      by_cases e : a = b
      · subst e; exact C.refl a ha
      · by_cases hs : stepM M a b
        · exact C.has _ (h2 a b ha hb hs)
        · have hc : ∃ c, c < M.length ∧ leM M a c = true ∧ leM M c b = true ∧ c ≠ a ∧ c ≠ b := by
            apply Classical.byContradiction
            intro hn
            refine hs ⟨e, hl, fun c hc h1 h2 => ?_⟩
            apply Classical.byContradiction
            intro hcc
            exact hn ⟨c, hc, h1, h2, fun z => hcc (.inl z), fun z => hcc (.inr z)⟩
          obtain ⟨c, hc, l1, l2, n1, n2⟩ := hc
          have i1 := (leM_iff.mp l1).le
          have i2 := (leM_iff.mp l2).le
          have j1 : M.getD a 0 ≠ M.getD c 0 := fun z => n1 (getD_inj nd hc ha z.symm)
          have j2 : M.getD c 0 ≠ M.getD b 0 := fun z => n2 (getD_inj nd hc hb z)
          exact C.trans a c b ha hc hb (ih _ (by omega) a c ha hc rfl l1) (ih _ (by omega) c b hc hb rfl l2)
  intro a b ha hb
  rw [Bool.eq_iff_iff]
  exact ⟨fun h => C.least (leM M) (fun a _ => leM_refl M a) h1 (fun a b c _ _ _ => leM_trans) a b ha hb h, fun h => go _ a b ha hb rfl h⟩
instance (M : List Nat) : Decidable (Lat M) :=
  decidable_of_iff (M.Nodup ∧ M.length ≤ 24 ∧ (∀ x ∈ M, ∀ y ∈ M, x &&& y ∈ M) ∧ ∃ t ∈ M, ∀ x ∈ M, Sub x t)
    ⟨fun ⟨a, b, c, d⟩ => ⟨a, b, c, d⟩, fun ⟨a, b, c, d⟩ => ⟨a, b, c, d⟩⟩
end Ev

set_option Elab.async false
set_option linter.all false
set_option maxRecDepth 100000
namespace My
open PySem PySem.Spec PyProof.Rows L2
def top (i : Nat) : Stmt := PySem.Challenge.pw_evenclimb_k71_orders_as_texts.main.body.getD i (.Pass ⟨0, 0, 0, 0⟩)
structure Txt (mg : Str → Option Value) : Prop where
  len : mg "len" = none
  range : mg "range" = none
  zip : mg "zip" = none
  enumerate : mg "enumerate" = none
  tuple : mg "tuple" = none
  list : mg "list" = none
  int : mg "int" = none
  bool : mg "bool" = none
  str : mg "str" = none
  isinstance : mg "isinstance" = none
  sum : mg "sum" = none
  any : mg "any" = none
  all : mg "all" = none
  sorted : mg "sorted" = none
  min : mg "min" = none
  max : mg "max" = none
  most : ∃ t, mg "MOST_THINGS" = some (.int 24 t)
section
variable {P : Program} {w : World} {K : PySem.W.Frag} {mg : Str → Option Value} {base : Heap} {f : Addr} {fd : FuncData}

abbrev s_is_whole : Stmt := top 10
theorem sc_is_whole : FnScope ["value"] ["value"] (defScope s_is_whole) := ⟨rfl, rfl, rfl, by decide +kernel, rfl, by decide +kernel, by decide +kernel⟩
def sp_is_whole : Sp := Pu (fun vs _ => ∃ i, vs = [.int i]) fun _ _ v _ => v = .bl true
theorem ok_is_whole (F : Fun K "is_whole" "is_whole" s_is_whole f fd) (T : Txt mg) : FnOk P w K mg base CX0 1 f fd ["value"] sp_is_whole := by
  refine F.ok sc_is_whole (fun vs H Q E h => ?_) (fun cdv A outer s H vs Q E hr h => ?_)
  · obtain ⟨⟨i, rfl⟩, _⟩ := h
    rfl
  · obtain ⟨⟨i, rfl⟩, k⟩ := h
    have nd := sc_is_whole.nd
    refine ⟨_, (pss_one (ps_ret (pe_and (pe_callB (call_isinstK (K := K) "int" rfl) rfl T.isinstance boot_isinstance (pa_cons (pv 0) (pa_cons (pe_bltn (v := .ty "int") rfl T.int bt_int rfl) pa_nil))) (pe_one (pe_not (pe_callB (call_isinstK (K := K) "bool" rfl) rfl T.isinstance boot_isinstance (pa_cons (pv 0) (pa_cons (pe_bltn (v := .ty "bool") rfl T.bool bt_bool rfl) pa_nil)))))))), ?_⟩
    refine ⟨_, rfl, _, _, _, rfl, .int i, rfl, true, rfl, iteT ?_⟩
    exact ⟨_, rfl, _, _, _, rfl, .int i, rfl, false, rfl, k _ _ (Same.refl _) rfl⟩

abbrev s_is_thing : Stmt := top 11
theorem sc_is_thing : FnScope ["count", "number"] ["count", "number"] (defScope s_is_thing) := ⟨rfl, rfl, rfl, by decide +kernel, rfl, by decide +kernel, by decide +kernel⟩
def sp_is_thing : Sp := Pu (fun vs _ => ∃ n i, vs = [.int n, .int i]) fun vs _ v _ => ∀ n i, vs = [.int n, .int i] → v = .bl (decide (0 ≤ i ∧ i < n))
theorem ok_is_thing (F : Fun K "is_thing" "is_thing" s_is_thing f fd) (T : Txt mg) (c_is_whole : Cal P w K mg base "is_whole" ["value"] 1 sp_is_whole) : FnOk P w K mg base CX0 2 f fd ["count", "number"] sp_is_thing := by
  refine F.ok sc_is_thing (fun vs H Q E h => ?_) (fun cdv A outer s H vs Q E hr h => ?_)
  · obtain ⟨⟨n, i, rfl⟩, _⟩ := h
    rfl
  · obtain ⟨⟨n, i, rfl⟩, k⟩ := h
    have nd := sc_is_thing.nd
    refine ⟨_, (pss_one (ps_ret (pe_and (pe_callC c_is_whole hr rfl (pa_cons (pv 1) pa_nil)) (pe_one (pe_chain op_le op_lt pe_int (pv 1) (pv 0)))))), ?_⟩
    refine ⟨_, rfl, ⟨i, rfl⟩, fun v H1 s1 hv => ?_⟩
    subst hv
    refine ⟨true, rfl, iteT ?_⟩
    refine ⟨_, rfl, _, _, rfl, rfl, _, rfl, ite2 (fun h1 => ?_) (fun h1 => ?_)⟩
    · refine ⟨_, rfl, _, _, rfl, rfl, k _ _ s1 ?_⟩
      intro n' i' e
      cases e
      rw [show decide (0 ≤ i ∧ i < n) = decide (i < n) from by
        rw [decide_eq_true_iff] at h1
        exact decide_eq_decide.mpr ⟨fun h => h.2, fun h => ⟨h1, h⟩⟩]
    · refine k _ _ s1 ?_
      intro n' i' e
      cases e
      rw [decide_eq_false (fun h => h1 (decide_eq_true h.1))]

abbrev s_need_thing : Stmt := top 12
theorem sc_need_thing : FnScope ["count", "number"] ["count", "number"] (defScope s_need_thing) := ⟨rfl, rfl, rfl, by decide +kernel, rfl, by decide +kernel, by decide +kernel⟩
def sp_need_thing : Sp := Pu (fun vs _ => ∃ n i : Int, vs = [.int n, .int i] ∧ 0 ≤ i ∧ i < n) fun _ _ v _ => v = .non
theorem ok_need_thing (F : Fun K "need_thing" "need_thing" s_need_thing f fd) (T : Txt mg) (c_is_thing : Cal P w K mg base "is_thing" ["count", "number"] 2 sp_is_thing) : FnOk P w K mg base CX0 3 f fd ["count", "number"] sp_need_thing := by
  refine F.ok sc_need_thing (fun vs H Q E h => ?_) (fun cdv A outer s H vs Q E hr h => ?_)
  · obtain ⟨⟨n, i, rfl, _⟩, _⟩ := h
    rfl
  · obtain ⟨⟨n, i, rfl, h0, h1⟩, k⟩ := h
    have nd := sc_need_thing.nd
    refine ⟨_, (pss_one (ps_if (pt_not (pt_val (pe_callC c_is_thing hr rfl (pa_cons (pv 0) (pa_cons (pv 1) pa_nil))))) (pss_one ps_never) pss_nil)), ?_⟩
    refine ⟨_, rfl, _, rfl, ⟨n, i, rfl⟩, fun v H1 s1 hv => ?_⟩
    rw [hv n i rfl, decide_eq_true (show 0 ≤ i ∧ i < n from ⟨h0, h1⟩)]
    exact ⟨true, rfl, iteF (k _ _ s1 rfl)⟩

abbrev s_need_count : Stmt := top 13
theorem sc_need_count : FnScope ["count"] ["count"] (defScope s_need_count) := ⟨rfl, rfl, rfl, by decide +kernel, rfl, by decide +kernel, by decide +kernel⟩
def sp_need_count : Sp := Pu (fun vs _ => ∃ n : Int, vs = [.int n] ∧ 1 ≤ n ∧ n ≤ 24) fun _ _ v _ => v = .non
theorem ok_need_count (F : Fun K "need_count" "need_count" s_need_count f fd) (T : Txt mg) (c_is_whole : Cal P w K mg base "is_whole" ["value"] 1 sp_is_whole) : FnOk P w K mg base CX0 2 f fd ["count"] sp_need_count := by
  refine F.ok sc_need_count (fun vs H Q E h => ?_) (fun cdv A outer s H vs Q E hr h => ?_)
  · obtain ⟨⟨n, rfl, _⟩, _⟩ := h
    rfl
  · obtain ⟨⟨n, rfl, h0, h1⟩, k⟩ := h
    have nd := sc_need_count.nd
    obtain ⟨t24, e24⟩ := T.most
    refine ⟨_, (pss_one (ps_if (PW.pt (pw_or (pt_not (pt_val (pe_callC c_is_whole hr rfl (pa_cons (pv 0) pa_nil)))) (pw_or1 (pt_not (pt_chain op_le op_le pe_int (pv 0) (pe_glob (v := .int 24) rfl e24 ⟨_, rfl⟩)))))) (pss_one ps_never) pss_nil)), ?_⟩
    refine ⟨_, rfl, ⟨n, rfl⟩, fun v H1 s1 hv => ?_⟩
    subst hv
    refine ⟨true, rfl, iteF ?_⟩
    refine ⟨_, rfl, _, _, rfl, rfl, _, rfl, ?_⟩
    rw [if_pos (decide_eq_true h0)]
    refine ⟨_, _, rfl, rfl, _, rfl, ?_⟩
    rw [decide_eq_true h1]
    exact iteF (k _ _ s1 rfl)
end
end My

set_option Elab.async false
set_option linter.all false
set_option maxRecDepth 100000
namespace My
open PySem PySem.Spec PyProof.Rows L2
def pairV (H : Hp) (p : Nat × Nat) (v : V) : Prop := ∃ t, v = .ref t ∧ H t = some (.tup [.int p.1, .int p.2])
def PairsL (K : PySem.W.Frag) (H : Hp) (a : Addr) (ps : List (Nat × Nat)) : Prop := ∃ vs, SqL K H a vs ∧ Paired (pairV H) ps vs
def TT (H : Hp) (v : V) (n : Nat) (g : Nat → Nat → V) : Prop := ∃ a vs, v = .ref a ∧ H a = some (.tup vs) ∧ Paired (fun i u => ∃ b, u = .ref b ∧ H b = some (.tup ((List.range n).map (g i)))) (List.range n) vs
theorem pairV.same {H H' : Hp} (s : Same H H') {p : Nat × Nat} {v : V} (h : pairV H p v) : pairV H' p v := let ⟨t, e, q⟩ := h; ⟨t, e, s _ _ q⟩
theorem pairsV.same {H H' : Hp} (s : Same H H') {ps : List (Nat × Nat)} {vs : List V} (h : Paired (pairV H) ps vs) : Paired (pairV H') ps vs := Paired.mapP h fun _ _ q => q.same s
theorem PairsL.same {K : PySem.W.Frag} {H H' : Hp} {a : Addr} {ps : List (Nat × Nat)} (s : Same H H') (h : PairsL K H a ps) : PairsL K H' a ps := let ⟨vs, e, q⟩ := h; ⟨vs, s.seq e, pairsV.same s q⟩
theorem TT.same {H H' : Hp} (s : Same H H') {v : V} {n : Nat} {g : Nat → Nat → V} (h : TT H v n g) : TT H' v n g :=
  let ⟨a, vs, e, q, r⟩ := h; ⟨a, vs, e, s _ _ q, Paired.mapP r fun _ _ ⟨b, e, q⟩ => ⟨b, e, s _ _ q⟩⟩
theorem paired_get {α β : Type} {F : α → β → Prop} : ∀ {l : List α} {m : List β} {i : Nat} {y : β}, Paired F l m → m[i]? = some y → ∃ x, l[i]? = some x ∧ F x y
  | _, _, _, _, .nil, h => by simp at h
  | _, _, 0, _, .cons r _, h => by simp at h; subst h; exact ⟨_, rfl, r⟩
  | _, _, i + 1, y, .cons _ t, h => by
    obtain ⟨x, h1, h2⟩ := paired_get (i := i) (y := y) t (by simpa using h)
    exact ⟨x, by simpa using h1, h2⟩
theorem paired_get' {α β : Type} {F : α → β → Prop} : ∀ {l : List α} {m : List β} {i : Nat} {x : α}, Paired F l m → l[i]? = some x → ∃ y, m[i]? = some y ∧ F x y
  | _, _, _, _, .nil, h => by simp at h
  | _, _, 0, _, .cons r _, h => by simp at h; subst h; exact ⟨_, rfl, r⟩
  | _, _, i + 1, y, .cons _ t, h => by
    obtain ⟨x, h1, h2⟩ := paired_get' (i := i) (x := y) t (by simpa using h)
    exact ⟨x, by simpa using h1, h2⟩
theorem TT.row {H : Hp} {v : V} {n : Nat} {g : Nat → Nat → V} (h : TT H v n g) {i : Nat} (hi : i < n) : ∃ a vs b, v = .ref a ∧ H a = some (.tup vs) ∧ vs.length = n ∧ vs[i]? = some (.ref b) ∧ H b = some (.tup ((List.range n).map (g i))) := by
  obtain ⟨a, vs, e, q, r⟩ := h
  obtain ⟨y, h1, b, rfl, h2⟩ := paired_get' (i := i) (x := i) r (by simp [hi])
  exact ⟨a, vs, b, e, q, by simpa using (Paired.length r).symm, h1, h2⟩
theorem at_row {n : Nat} {g : Nat → V} {j : Nat} (hj : j < n) : atI ((List.range n).map g) (j : Int) = some (g j) := atI_nat (by simp [hj])
theorem sl24 {n : Nat} (h : n ≤ 24) : n < sizeLine := Nat.lt_of_le_of_lt h (by decide)
theorem slk {n : Nat} (h : n ≤ 100000) : n < sizeLine := Nat.lt_of_le_of_lt h (by decide)
theorem n62 {n : Nat} (h : n ≤ 100000) : -(2 ^ 62) ≤ (n : Int) ∧ (n : Int) < 2 ^ 62 := by omega
theorem decV {t i : Nat} : decide (V.int (t : Int) = V.int (0 + (i : Int))) = decide (t = i) := by
  apply decide_eq_decide.mpr
  constructor
  · intro h; injection h with h; omega
  · intro h; subst h; simp
section
variable {P : Program} {w : World} {K : PySem.W.Frag} {mg : Str → Option Value} {base : Heap} {f : Addr} {fd : FuncData}

abbrev s_need_pairs : Stmt := top 14
theorem sc_need_pairs : FnScope ["count", "pairs", "pair"] ["count", "pairs"] (defScope s_need_pairs) := ⟨rfl, rfl, rfl, by decide +kernel, rfl, by decide +kernel, by decide +kernel⟩
def sp_need_pairs (K : PySem.W.Frag) : Sp := Pu (fun vs H => ∃ (n a : Nat) (ps : List (Nat × Nat)), vs = [.int n, .ref a] ∧ PairsL K H a ps ∧ ∀ p ∈ ps, p.1 < n ∧ p.2 < n) fun _ _ v _ => v = .non
theorem ok_need_pairs (F : Fun K "need_pairs" "need_pairs" s_need_pairs f fd) (T : Txt mg) (c_need_thing : Cal P w K mg base "need_thing" ["count", "number"] 3 sp_need_thing) : FnOk P w K mg base CX0 4 f fd ["count", "pairs"] (sp_need_pairs K) := by
  refine F.ok sc_need_pairs (fun vs H Q E h => ?_) (fun cdv A outer s H vs Q E hr h => ?_)
  · obtain ⟨⟨n, a, ps, rfl, _⟩, _⟩ := h
    rfl
  · obtain ⟨⟨n, a, ps, rfl, ⟨vs, hl, hp⟩, hb⟩, k⟩ := h
    have nd := sc_need_pairs.nd
    refine ⟨_, (pss_one (ps_for PassesOwn.never rfl (pi_listK (K := K) rfl (pv 1)) (pg_name (i := 2) nd rfl (Or.inl rfl))
      (pss_cons (ps_expr (pe_callC c_need_thing hr rfl (pa_cons (pv 0) (pa_cons (pe_ix (ix_tupK (K := K) rfl) (pv 2) pe_int (fun _ _ => rfl)) pa_nil))))
      (pss_one (ps_expr (pe_callC c_need_thing hr rfl (pa_cons (pv 0) (pa_cons (pe_ix (ix_tupK (K := K) rfl) (pv 2) pe_int (fun _ _ => rfl)) pa_nil)))))))), ?_⟩
    refine ⟨_, rfl, a, rfl, ⟨_, hl⟩, for_list (K := K) (a := a) (xs := vs) (fun i σ H2 => ∃ v, σ = [some (.int n), some (.ref a), v] ∧ Same H H2) ⟨none, rfl, Same.refl _⟩ (fun i σ H2 _ ⟨_, _, s2⟩ => s2.seq hl) ?_ ?_⟩
    · rintro i y σ H2 hi ⟨v, rfl, s2⟩
      obtain ⟨p, hp1, t, rfl, ht⟩ := paired_get hp hi
      obtain ⟨b1, b2⟩ := hb p (List.mem_of_getElem? hp1)
      refine ⟨_, rfl, _, rfl, t, _, 0, _, rfl, rfl, .inl (.inl (s2 _ _ ht)), rfl, ⟨n, _, rfl, by omega, by omega⟩, fun v3 H3 s3 _ => ?_⟩
      refine ⟨_, rfl, _, rfl, t, _, 1, _, rfl, rfl, .inl (.inl ((s2.trans s3) _ _ ht)), rfl, ⟨n, _, rfl, by omega, by omega⟩, fun v4 H4 s4 _ => ?_⟩
      exact ⟨_, rfl, (s2.trans s3).trans s4⟩
    · rintro σ H2 ⟨v, rfl, s2⟩
      exact k _ _ s2 rfl

abbrev s_own_row : Stmt := top 15
theorem sc_own_row : FnScope ["count", "thing"] ["count", "thing"] (defScope s_own_row) := ⟨rfl, rfl, rfl, by decide +kernel, rfl, by decide +kernel, by decide +kernel⟩
def rowV (n : Nat) (p : Nat → Bool) : List V := (List.range n).map fun b => V.bl (p b)
def sp_own_row : Sp := Pu (fun vs H => ∃ n t : Nat, vs = [.int n, .int t] ∧ n ≤ 24) fun vs H v H' => ∀ n t : Nat, vs = [.int n, .int t] → ∃ a, v = .ref a ∧ H a = none ∧ H' a = some (.lst (rowV n fun b => decide (t = b)))
theorem ok_own_row (F : Fun K "own_row" "own_row" s_own_row f fd) (T : Txt mg) : FnOk P w K mg base CX0 1 f fd ["count", "thing"] sp_own_row := by
  refine F.ok sc_own_row (fun vs H Q E h => ?_) (fun cdv A outer s H vs Q E hr h => ?_)
  · obtain ⟨⟨n, t, rfl, _⟩, _⟩ := h
    rfl
  · obtain ⟨⟨n, t, rfl, hn⟩, k⟩ := h
    have nd := sc_own_row.nd
    refine ⟨_, (pss_one (ps_ret (pe_comp (own := ["other"]) (fr := [("thing", 1)]) rfl (blkOk (defScope s_own_row) ["count", "thing"] rfl rfl (by decide +kernel)) (pi_range1 rfl T.range (pa_cons (pv 0) pa_nil)) (fun _ _ _ _ => ⟨(pg_name (i := 0) (by decide +kernel : (["other", "thing"] : List Str).Nodup) rfl (Or.inl rfl)), pif_nil, (pe_cmpR op_eq (pv 1) (pv 0) (nomark _))⟩)))), ?_⟩
    refine ⟨_, rfl, n, rfl, (n62 (by omega)).1, (n62 (by omega)).2, fun D hD => comp_all (fun i => .bl (decide (t = i))) src_range hD (sl24 (by simpa using hn)) (fun i H2 Kt hi hs hk => ?_) (fun H' hs hl => ?_)⟩
    · refine ⟨_, rfl, _, rfl, rfl, ?_⟩
      rw [decV]
      exact hk _ (Same.refl _)
    · refine k _ _ hs ?_
      intro n' t' e
      cases e
      exact ⟨D, rfl, hD, by rw [hl]; simp [rowV]⟩
end
end My

set_option Elab.async false
set_option linter.all false
set_option maxRecDepth 100000
namespace My
open PySem PySem.Spec PyProof.Rows L2
theorem rowV_len (n : Nat) (p : Nat → Bool) : (rowV n p).length = n := by simp [rowV]
theorem rowV_getD {n : Nat} {p : Nat → Bool} {i : Nat} (h : i < n) : (rowV n p).getD i .non = .bl (p i) := by simp [rowV, h]
theorem rowV_set {n : Nat} {p : Nat → Bool} {j : Nat} : (rowV n p).set j (.bl true) = rowV n fun b => if b = j then true else p b := by
  apply List.ext_getElem
  · simp [rowV]
  · intro i h1 h2
    simp only [rowV, List.getElem_set, List.getElem_map, List.getElem_range]
    by_cases e : j = i
    · simp [e]
    · have : ¬ i = j := fun z => e z.symm
      simp [e, this]
theorem rowV_congr {n : Nat} {p q : Nat → Bool} (h : ∀ b, b < n → p b = q b) : rowV n p = rowV n q := by
  unfold rowV
  apply List.map_congr_left
  intro b hb
  rw [h b (by simpa using hb)]
section
variable {P : Program} {w : World} {K : PySem.W.Frag} {mg : Str → Option Value} {base : Heap} {f : Addr} {fd : FuncData}

abbrev s_either : Stmt := top 16
theorem sc_either : FnScope ["one", "other"] ["one", "other"] (defScope s_either) := ⟨rfl, rfl, rfl, by decide +kernel, rfl, by decide +kernel, by decide +kernel⟩
def sp_either : Sp := Pu (fun vs H => ∃ (x y n : Nat) (p q : Nat → Bool), vs = [.ref x, .ref y] ∧ H x = some (.lst (rowV n p)) ∧ H y = some (.lst (rowV n q)) ∧ n ≤ 24)
  fun vs H v H' => ∀ (x y n : Nat) (p q : Nat → Bool), vs = [.ref x, .ref y] → H x = some (.lst (rowV n p)) → H y = some (.lst (rowV n q)) → ∃ a, v = .ref a ∧ H a = none ∧ H' a = some (.lst (rowV n fun b => p b || q b))
theorem rowV_inj {n m : Nat} {p q : Nat → Bool} (h : rowV n p = rowV m q) : n = m ∧ ∀ b, b < n → p b = q b := by
  have e : n = m := by have := congrArg List.length h; rwa [rowV_len, rowV_len] at this
  subst e
  refine ⟨rfl, fun b hb => ?_⟩
  have := congrArg (fun l => l.getD b V.non) h
  simp only [rowV_getD hb] at this
  injection this
theorem ok_either (F : Fun K "either" "either" s_either f fd) (T : Txt mg) : FnOk P w K mg base CX0 1 f fd ["one", "other"] sp_either := by
  refine F.ok sc_either (fun vs H Q E h => ?_) (fun cdv A outer s H vs Q E hr h => ?_)
  · obtain ⟨⟨x, y, n, p, q, rfl, _⟩, _⟩ := h
    rfl
  · obtain ⟨⟨x, y, n, p, q, rfl, hx, hy, hn⟩, k⟩ := h
    have nd := sc_either.nd
    refine ⟨_, (pss_one (ps_ret (pe_comp (own := ["a", "b"]) (fr := []) rfl (blkOk (defScope s_either) ["one", "other"] rfl rfl (by decide +kernel)) (pi_zipK (K := K) true true rfl rfl T.zip (pa_cons (pv 0) (pa_cons (pv 1) pa_nil))) (fun _ _ _ _ => ⟨(pg_pair (K := K) (i := 0) (j := 1) rfl rfl (by decide +kernel : (["a", "b"] : List Str).Nodup) rfl rfl rfl rfl), pif_nil, (pe_or (pv 0) (pe_one (pv 1)))⟩)))), ?_⟩
    refine ⟨_, rfl, _, rfl, x, y, _, _, rfl, SqL.of hx, SqL.of hy, fun D hD => comp_all (fun i => .bl (p i || q i)) (src_zip (c1 := true) (c2 := true) (SqL.of hx) (SqL.of hy) (n := n) (by simp [rowV_len])) hD (sl24 hn) (fun i H2 Kt hi hs hk => ?_) (fun H' hs hl => ?_)⟩
    · refine ⟨_, rfl, p i, rowV_getD hi, ite2 (fun h => ?_) (fun h => ?_)⟩
      · have := hk _ (Same.refl _)
        simpa [h] using this
      · refine ⟨_, rfl, ?_⟩
        have := hk _ (Same.refl _)
        rw [rowV_getD hi]
        simpa [h] using this
    · refine k _ _ hs ?_
      intro x' y' n' p' q' e h1 h2
      cases e
      rw [hx] at h1
      rw [hy] at h2
      injection h1 with h1
      injection h1 with h1
      injection h2 with h2
      injection h2 with h2
      obtain ⟨rfl, e1⟩ := rowV_inj h1
      obtain ⟨_, e2⟩ := rowV_inj h2
      refine ⟨D, rfl, hD, ?_⟩
      rw [hl]
      show some (HO.lst (rowV n fun i => p i || q i)) = _
      rw [rowV_congr fun b hb => by rw [e1 b hb, e2 b hb]]

abbrev s_shared : Stmt := top 17
theorem sc_shared : FnScope ["one", "other"] ["one", "other"] (defScope s_shared) := ⟨rfl, rfl, rfl, by decide +kernel, rfl, by decide +kernel, by decide +kernel⟩
def sp_shared : Sp := Pu (fun vs H => ∃ (x y n : Nat) (p q : Nat → Bool), vs = [.ref x, .ref y] ∧ H x = some (.tup (rowV n p)) ∧ H y = some (.tup (rowV n q)) ∧ n ≤ 24)
  fun vs H v H' => ∀ (x y n : Nat) (p q : Nat → Bool), vs = [.ref x, .ref y] → H x = some (.tup (rowV n p)) → H y = some (.tup (rowV n q)) → ∃ a, v = .ref a ∧ H a = none ∧ H' a = some (.tup (rowV n fun b => p b && q b))
theorem ok_shared (F : Fun K "shared" "shared" s_shared f fd) (T : Txt mg) : FnOk P w K mg base CX0 1 f fd ["one", "other"] sp_shared := by
  refine F.ok sc_shared (fun vs H Q E h => ?_) (fun cdv A outer s H vs Q E hr h => ?_)
  · obtain ⟨⟨x, y, n, p, q, rfl, _⟩, _⟩ := h
    rfl
  · obtain ⟨⟨x, y, n, p, q, rfl, hx, hy, hn⟩, k⟩ := h
    have nd := sc_shared.nd
    refine ⟨_, (pss_one (ps_ret (pe_callTy (call_tupleK (K := K) rfl) rfl T.tuple bt_tuple (pa_cons (pe_comp (own := ["a", "b"]) (fr := []) rfl (blkOk (defScope s_shared) ["one", "other"] rfl rfl (by decide +kernel)) (pi_zipK (K := K) false false rfl rfl T.zip (pa_cons (pv 0) (pa_cons (pv 1) pa_nil))) (fun _ _ _ _ => ⟨(pg_pair (K := K) (i := 0) (j := 1) rfl rfl (by decide +kernel : (["a", "b"] : List Str).Nodup) rfl rfl rfl rfl), pif_nil, (pe_and (pv 0) (pe_one (pv 1)))⟩)) pa_nil)))), ?_⟩
    refine ⟨_, rfl, _, rfl, x, y, _, _, rfl, SqT.of hx, SqT.of hy, fun D hD => comp_all (fun i => .bl (p i && q i)) (src_zip (c1 := false) (c2 := false) (SqT.of hx) (SqT.of hy) (n := n) (by simp [rowV_len])) hD (sl24 hn) (fun i H2 Kt hi hs hk => ?_) (fun H' hs hl => ?_)⟩
    · refine ⟨_, rfl, p i, rowV_getD hi, ite2 (fun h => ?_) (fun h => ?_)⟩
      · refine ⟨_, rfl, ?_⟩
        have := hk _ (Same.refl _)
        rw [rowV_getD hi]
        simpa [h] using this
      · have := hk _ (Same.refl _)
        simpa [h] using this
    · refine ⟨D, _, rfl, .inl ⟨SqL.of hl, fun l hl' => ?_⟩⟩
      have hlH : H l = none := hs.free hl'
      refine k _ _ (hs.trans (Same.put hl')) ?_
      intro x' y' n' p' q' e h1 h2
      cases e
      rw [hx] at h1
      rw [hy] at h2
      injection h1 with h1
      injection h1 with h1
      injection h2 with h2
      injection h2 with h2
      obtain ⟨rfl, e1⟩ := rowV_inj h1
      obtain ⟨_, e2⟩ := rowV_inj h2
      refine ⟨l, rfl, hlH, ?_⟩
      rw [upd_same]
      show some (HO.tup (rowV n fun i => p i && q i)) = _
      rw [rowV_congr fun b hb => by rw [e1 b hb, e2 b hb]]

abbrev s_column : Stmt := top 18
theorem sc_column : FnScope ["rows", "place"] ["rows", "place"] (defScope s_column) := ⟨rfl, rfl, rfl, by decide +kernel, rfl, by decide +kernel, by decide +kernel⟩
def sp_column : Sp := Pu (fun vs H => ∃ (v : V) (n j : Nat) (g : Nat → Nat → V), vs = [v, .int j] ∧ TT H v n g ∧ j < n ∧ n ≤ 24)
  fun vs H v H' => ∀ (u : V) (n j : Nat) (g : Nat → Nat → V), vs = [u, .int j] → TT H u n g → j < n → ∃ a, v = .ref a ∧ H a = none ∧ H' a = some (.tup ((List.range n).map fun i => g i j))
theorem TT.inj {H : Hp} {v : V} {n m : Nat} {g g' : Nat → Nat → V} (h : TT H v n g) (h' : TT H v m g') : n = m ∧ ∀ i j, i < n → j < n → g i j = g' i j := by
  obtain ⟨a, vs, e, q, r⟩ := id h
  obtain ⟨a', vs', e', q', r'⟩ := id h'
  rw [e] at e'
  injection e' with e'
  subst e'
  rw [q] at q'
  injection q' with q'
  injection q' with q'
  subst q'
  have en : n = m := by
    have h1 := Paired.length r
    have h2 := Paired.length r'
    simp at h1 h2
    omega
  subst en
  refine ⟨rfl, fun i j hi hj => ?_⟩
  obtain ⟨y, h1, b, rfl, h2⟩ := paired_get' (i := i) (x := i) r (by simp [hi])
  obtain ⟨y', h1', b', rfl, h2'⟩ := paired_get' (i := i) (x := i) r' (by simp [hi])
  rw [h1] at h1'
  injection h1' with h1'
  injection h1' with h1'
  subst h1'
  rw [h2] at h2'
  injection h2' with h2'
  injection h2' with h2'
  have := congrArg (fun l => l.getD j V.non) h2'
  simpa [hj] using this
theorem ok_column (F : Fun K "column" "column" s_column f fd) (T : Txt mg) : FnOk P w K mg base CX0 1 f fd ["rows", "place"] sp_column := by
  refine F.ok sc_column (fun vs H Q E h => ?_) (fun cdv A outer s H vs Q E hr h => ?_)
  · obtain ⟨⟨v, n, j, g, rfl, _⟩, _⟩ := h
    rfl
  · obtain ⟨⟨v, n, j, g, rfl, ht, hj, hn⟩, k⟩ := h
    have nd := sc_column.nd
    obtain ⟨a, us, rfl, hq, hr'⟩ := id ht
    have hlen : us.length = n := by simpa using (Paired.length hr').symm
    refine ⟨_, (pss_one (ps_ret (pe_callTy (call_tupleK (K := K) rfl) rfl T.tuple bt_tuple (pa_cons (pe_comp (own := ["row"]) (fr := [("place", 1)]) rfl (blkOk (defScope s_column) ["rows", "place"] rfl rfl (by decide +kernel)) (pi_tupK (K := K) rfl (pv 0)) (fun _ _ _ _ => ⟨(pg_name (i := 0) (by decide +kernel : (["row", "place"] : List Str).Nodup) rfl (Or.inl rfl)), pif_nil, (pe_ix (ix_tupK (K := K) rfl) (pv 0) (pv 1) (fun _ _ => rfl))⟩)) pa_nil)))), ?_⟩
    refine ⟨_, rfl, a, rfl, ⟨_, SqT.of hq⟩, fun D hD => comp_all (fun i => g i j) (src_tup (SqT.of hq)) hD (sl24 (by omega)) (fun i H2 Kt hi hs hk => ?_) (fun H' hs hl => ?_)⟩
    · obtain ⟨y, h1, b, rfl, h2⟩ := paired_get' (i := i) (x := i) hr' (List.getElem?_range (by omega))
      refine ⟨_, rfl, _, rfl, b, _, j, _, (by rw [List.getD_eq_getElem?_getD, h1]; rfl), rfl, SqT.of (hs _ _ h2), at_row hj, hk _ (Same.refl _)⟩
    · refine ⟨D, _, rfl, .inl ⟨SqL.of hl, fun l hl' => ?_⟩⟩
      refine k _ _ (hs.trans (Same.put hl')) ?_
      intro u' n' j' g' e h1 h2
      injection e with e1 e2
      injection e2 with e2 _
      injection e2 with e2
      have ej : j = j' := by omega
      subst ej
      rw [← e1] at h1
      obtain ⟨rfl, eg⟩ := ht.inj h1
      refine ⟨l, rfl, hs.free hl', ?_⟩
      rw [upd_same, hlen]
      congr 2
      exact List.map_congr_left fun i hi => eg i j (by simpa using hi) hj
end
end My

set_option Elab.async false
set_option linter.all false
set_option maxRecDepth 100000
namespace My
open PySem PySem.Spec PyProof.Rows L2
theorem nodup_ix' {N : List Addr} (hN : N.Nodup) {i j : Nat} {x : Addr} (a : N[i]? = some x) (b : N[j]? = some x) : i = j := by
  obtain ⟨h1, e1⟩ := List.getElem?_eq_some_iff.mp a
  obtain ⟨h2, e2⟩ := List.getElem?_eq_some_iff.mp b
  exact (List.getElem_inj hN).mp (e1.trans e2.symm)
theorem nodup_set : ∀ {as : List Addr} {t b : Nat}, as.Nodup → b ∉ as → (as.set t b).Nodup
  | [], _, _, _, _ => by simp
  | a :: r, 0, b, nd, hb => List.nodup_cons.mpr ⟨fun h => hb (List.mem_cons_of_mem _ h), (List.nodup_cons.mp nd).2⟩
  | a :: r, t + 1, b, nd, hb => by
    rw [List.set_cons_succ]
    refine List.nodup_cons.mpr ⟨fun h => ?_, nodup_set (List.nodup_cons.mp nd).2 fun h => hb (List.mem_cons_of_mem _ h)⟩
    rcases List.mem_or_eq_of_mem_set h with h | h
    · exact (List.nodup_cons.mp nd).1 h
    · subst h; exact hb List.mem_cons_self
structure RowsAt (H0 H : Hp) (r n : Nat) (as : List Addr) (R : Nat → Nat → Bool) : Prop where
  same : Same H0 H
  lst : H r = some (.lst (as.map V.ref))
  len : as.length = n
  nd : as.Nodup
  newr : H0 r = none
  new : ∀ a ∈ as, H0 a = none ∧ a ≠ r
  row : ∀ (i : Nat) a, as[i]? = some a → H a = some (.lst (rowV n (R i)))
theorem RowsAt.congr {H0 H : Hp} {r n : Nat} {as : List Addr} {R R' : Nat → Nat → Bool} (W : RowsAt H0 H r n as R) (h : ∀ a b, a < n → b < n → R a b = R' a b) : RowsAt H0 H r n as R' :=
  { W with row := fun i a e => (W.row i a e).trans (by rw [rowV_congr fun b hb => h i b (by rw [← W.len]; exact (List.getElem?_eq_some_iff.mp e).1) hb]) }
theorem RowsAt.get {H0 H : Hp} {r n : Nat} {as : List Addr} {R : Nat → Nat → Bool} (W : RowsAt H0 H r n as R) {i : Nat} (hi : i < n) : ∃ a, as[i]? = some a ∧ (as.map V.ref)[i]? = some (.ref a) ∧ a ∈ as ∧ H a = some (.lst (rowV n (R i))) := by
  have h : i < as.length := by rw [W.len]; exact hi
  exact ⟨as[i], List.getElem?_eq_getElem h, by simp [h], List.getElem_mem h, W.row i _ (List.getElem?_eq_getElem h)⟩
theorem RowsAt.grow {H0 H H' : Hp} {r n : Nat} {as : List Addr} {R : Nat → Nat → Bool} (W : RowsAt H0 H r n as R) (s : Same H H') : RowsAt H0 H' r n as R :=
  { W with same := W.same.trans s, lst := s _ _ W.lst, row := fun i a e => s _ _ (W.row i a e) }
theorem RowsAt.put {H0 H : Hp} {r n : Nat} {as : List Addr} {R : Nat → Nat → Bool} (W : RowsAt H0 H r n as R) {i j a : Nat} (ha : as[i]? = some a) :
    RowsAt H0 (upd H a (.lst ((rowV n (R i)).set j (.bl true)))) r n as (fun x y => if x = i ∧ y = j then true else R x y) := by
  have am : a ∈ as := List.mem_of_getElem? ha
  refine { W with same := fun b o e => ?_, lst := ?_, row := fun k b e => ?_ }
  · rw [upd_ne (fun z => by rw [z, (W.new a am).1] at e; cases e)]
    exact W.same _ _ e
  · rw [upd_ne (Ne.symm (W.new a am).2)]
    exact W.lst
  · by_cases hk : k = i
    · subst hk
      rw [ha] at e
      cases e
      rw [upd_same, rowV_set]
      congr 2
      apply rowV_congr
      intro b hb
      simp
    · have hba : b ≠ a := by
        rintro rfl
        exact hk (nodup_ix' W.nd e ha)
      rw [upd_ne hba, W.row k b e]
      congr 2
      apply rowV_congr
      intro c hc
      rw [if_neg (fun z => hk z.1)]
theorem RowsAt.swap {H0 H : Hp} {r n : Nat} {as : List Addr} {R : Nat → Nat → Bool} (W : RowsAt H0 H r n as R) {t b : Nat} {p : Nat → Bool} (ht : t < n) (hb : H0 b = none) (hbr : b ≠ r) (hba : b ∉ as) (hp : H b = some (.lst (rowV n p))) :
    RowsAt H0 (upd H r (.lst ((as.map V.ref).set t (.ref b)))) r n (as.set t b) (fun x y => if x = t then p y else R x y) := by
  refine ⟨fun c o e => ?_, ?_, by rw [List.length_set]; exact W.len, ?_, W.newr, fun c hc => ?_, fun k c e => ?_⟩
  · rw [upd_ne (fun z => by rw [z, W.newr] at e; cases e)]
    exact W.same _ _ e
  · rw [upd_same, List.map_set]
  · exact nodup_set W.nd hba
  · rcases List.mem_or_eq_of_mem_set hc with h | h
    · exact W.new c h
    · subst h; exact ⟨hb, hbr⟩
  · by_cases hk : t = k
    · subst hk
      have hlt : t < as.length := by rw [W.len]; exact ht
      rw [List.getElem?_set_self hlt] at e
      cases e
      rw [upd_ne hbr, hp]
      congr 2
      apply rowV_congr
      intro y _
      rw [if_pos rfl]
    · rw [List.getElem?_set_ne hk] at e
      rw [upd_ne (W.new c (List.mem_of_getElem? e)).2, W.row k c e]
      congr 2
      apply rowV_congr
      intro y _
      rw [if_neg (fun z => hk z.symm)]
theorem base_nil (a b : Nat) : Ev.base [] a b = decide (a = b) := by rw [Bool.eq_iff_iff, Ev.base_iff]; simp
theorem base_snoc (ps : List (Nat × Nat)) (p : Nat × Nat) (a b : Nat) : Ev.base (ps ++ [p]) a b = if a = p.1 ∧ b = p.2 then true else Ev.base ps a b := by
  rw [Bool.eq_iff_iff, Ev.base_iff]
  by_cases h : a = p.1 ∧ b = p.2
  · rw [if_pos h]
    obtain ⟨rfl, rfl⟩ := h
    simp
  · rw [if_neg h, Ev.base_iff]
    simp only [List.mem_append, List.mem_singleton]
    constructor
    · rintro (h1 | h1 | h1)
      · exact .inl h1
      · exact .inr h1
      · subst h1; exact absurd ⟨rfl, rfl⟩ h
    · rintro (h1 | h1)
      · exact .inl h1
      · exact .inr (.inl h1)
end My

set_option Elab.async false
set_option linter.all false
set_option maxRecDepth 100000
namespace My
open PySem PySem.Spec PyProof.Rows L2
section
variable {P : Program} {w : World} {K : PySem.W.Frag} {mg : Str → Option Value} {base : Heap} {f : Addr} {fd : FuncData}
theorem ixN_nat {n j : Nat} (h : j < n) : ixN n (j : Int) = some j := by
  unfold ixN
  rw [if_pos (by omega), if_pos (by omega)]
  simp
abbrev blF (R : Nat → Nat → Bool) : Nat → Nat → V := fun a b => .bl (R a b)

abbrev s_reach_of : Stmt := top 19
theorem sc_reach_of : FnScope ["count", "pairs", "rows", "pair", "middle", "thing"] ["count", "pairs"] (defScope s_reach_of) := ⟨rfl, rfl, rfl, by decide +kernel, rfl, by decide +kernel, by decide +kernel⟩
def sp_reach_of (K : PySem.W.Frag) : Sp := fun vs H Q _ => ∃ (n a : Nat) (ps : List (Nat × Nat)), vs = [.int n, .ref a] ∧ PairsL K H a ps ∧ n ≤ 24 ∧ (∀ p ∈ ps, p.1 < n ∧ p.2 < n) ∧
  ∀ v H' R, Same H H' → Ev.Clos n ps R → TT H' v n (blF R) → Q v H'
theorem at0 {α : Type} {xs : List α} {j : Nat} {v : α} (h : xs[j]? = some v) : atI xs (0 + (j : Int)) = some v := by rw [Int.zero_add]; exact atI_nat h
theorem ixN0 {n j : Nat} (h : j < n) : ixN n (0 + (j : Int)) = some j := by rw [Int.zero_add]; exact ixN_nat h
theorem rowV_get {n : Nat} {p : Nat → Bool} {j : Nat} (h : j < n) : (rowV n p)[j]? = some (.bl (p j)) := by simp [rowV, h]
theorem ok_reach_of (F : Fun K "reach_of" "reach_of" s_reach_of f fd) (T : Txt mg) (c_own_row : Cal P w K mg base "own_row" ["count", "thing"] 1 sp_own_row) (c_either : Cal P w K mg base "either" ["one", "other"] 1 sp_either) :
    FnOk P w K mg base CX0 2 f fd ["count", "pairs"] (sp_reach_of K) := by
  refine F.ok sc_reach_of (fun vs H Q E h => ?_) (fun cdv A outer s H vs Q E hr h => ?_)
  · obtain ⟨n, a, ps, rfl, _⟩ := h
    rfl
  · obtain ⟨n, a, ps, rfl, ⟨us, hul, hup⟩, hn, hb, k⟩ := h
    have nd := sc_reach_of.nd
    have en : ((n : Int)).toNat = n := Int.toNat_natCast n
    refine ⟨_, (pss_cons (ps_setC (i := 2) nd rfl rfl (own := ["thing"]) (fr := [("count", 0)]) rfl (blkOk (defScope s_reach_of) ["count", "pairs", "rows", "pair", "middle", "thing"] rfl rfl (by decide +kernel)) (pi_range1 rfl T.range (pa_cons (pv 0) pa_nil)) (fun _ _ _ _ => ⟨(pg_name (i := 0) (by decide +kernel : (["thing", "count"] : List Str).Nodup) rfl (Or.inl rfl)), pif_nil, (pe_callC c_own_row hr rfl (pa_cons (pv 1) (pa_cons (pv 0) pa_nil)))⟩))
      (pss_cons (ps_for PassesOwn.never rfl (pi_listK (K := K) rfl (pv 1)) (pg_name (i := 3) nd rfl (Or.inl rfl))
      (pss_one (ps_asg pe_bl (pg_sub (pe_ix (ix_listK (K := K) rfl) (pv 2) (pe_ix (ix_tupK (K := K) rfl) (pv 3) pe_int (fun _ _ => rfl)) (fun _ _ => rfl)) (pe_ix (ix_tupK (K := K) rfl) (pv 3) pe_int (fun _ _ => rfl)) set_list))))
      (pss_cons (ps_for PassesOwn.never rfl (pi_range1 rfl T.range (pa_cons (pv 0) pa_nil)) (pg_name (i := 4) nd rfl (Or.inl rfl))
      (pss_one (ps_for PassesOwn.never rfl (pi_range1 rfl T.range (pa_cons (pv 0) pa_nil)) (pg_name (i := 5) nd rfl (Or.inl rfl))
      (pss_one (ps_if (pt_val (pe_ix (ix_listK (K := K) rfl) (pe_ix (ix_listK (K := K) rfl) (pv 2) (pv 5) (fun _ _ => rfl)) (pv 4) (fun _ _ => rfl))) (pss_one (ps_asg (pe_callC c_either hr rfl (pa_cons (pe_ix (ix_listK (K := K) rfl) (pv 2) (pv 5) (fun _ _ => rfl)) (pa_cons (pe_ix (ix_listK (K := K) rfl) (pv 2) (pv 4) (fun _ _ => rfl)) pa_nil))) (pg_sub (pv 2) (pv 5) set_list))) pss_nil)))))
      (pss_one (ps_ret (pe_callTy (call_tupleK (K := K) rfl) rfl T.tuple bt_tuple (pa_cons (pe_comp (own := ["row"]) (fr := []) rfl (blkOk (defScope s_reach_of) ["count", "pairs", "rows", "pair", "middle", "thing"] rfl rfl (by decide +kernel)) (pi_listK (K := K) rfl (pv 2)) (fun _ _ _ _ => ⟨(pg_name (i := 0) (by decide +kernel : (["row"] : List Str).Nodup) rfl (Or.inl rfl)), pif_nil, (pe_callTy (call_tupleK (K := K) rfl) rfl T.tuple bt_tuple (pa_cons (pv 0) pa_nil))⟩)) pa_nil))))))), ?_⟩
    refine ⟨_, rfl, n, rfl, (n62 (by omega)).1, (n62 (by omega)).2, fun D hD => comp_fresh (fun i => rowV n fun b => decide (i = b)) src_range hD (sl24 (by simpa using hn)) (fun i H2 Kt hi hs hk => ?_) (fun H1 as hs hl h1 h2 h3 h4 => ?_)⟩
    · refine ⟨_, rfl, _, rfl, ⟨n, i, by simp, hn⟩, fun v H3 s3 hv => ?_⟩
      obtain ⟨b, rfl, hb1, hb2⟩ := hv n i (by simp)
      exact hk b H3 s3 hb1 hb2
    have W0 : RowsAt H H1 D n as (Ev.base []) := ⟨hs, hl, h1.trans en, h2, hD, h3, fun i b e => (h4 i b e).trans (by rw [rowV_congr fun c hc => (base_nil i c).symm])⟩
    -- for pair in pairs
    refine ⟨_, rfl, a, rfl, ⟨_, hs.seq hul⟩, for_list (K := K) (a := a) (xs := us) (fun i σ H2 => ∃ v3, σ = [some (.int n), some (.ref a), some (.ref D), v3, none, none] ∧ RowsAt H H2 D n as (Ev.base (ps.take i)))
      ⟨none, rfl, by simpa using W0⟩ (fun i σ H2 _ ⟨_, _, W⟩ => W.same.seq hul) ?_ ?_⟩
    · rintro i y σ H2 hi ⟨v3, rfl, W⟩
      obtain ⟨p, hp1, t, rfl, ht⟩ := paired_get hup hi
      obtain ⟨b1, b2⟩ := hb p (List.mem_of_getElem? hp1)
      obtain ⟨r, r1, r2, r3, r4⟩ := W.get b1
      refine ⟨_, rfl, _, rfl, t, _, 0, _, rfl, rfl, SqT.of (W.same _ _ ht), rfl, D, _, _, _, rfl, rfl, SqL.of W.lst, atI_nat r2, _, rfl, t, _, 1, _, rfl, rfl, SqT.of (W.same _ _ ht), rfl, r, _, _, p.2, rfl, rfl, r4, ?_, ?_⟩
      · rw [rowV_len]; exact ixN_nat b2
      · refine ⟨_, rfl, (W.put r1).congr fun x y _ _ => ?_⟩
        have et : ps.take (i + 1) = ps.take i ++ [p] := by rw [List.take_add_one, hp1]; rfl
        rw [et, base_snoc]
    · rintro σ H2 ⟨v3, rfl, W⟩
      have el : us.length = ps.length := (Paired.length hup).symm
      rw [el, List.take_length] at W
      have hlen : us.length = ps.length := (Paired.length hup).symm
      -- for middle in range(count)
      refine ⟨_, rfl, n, rfl, (n62 (by omega)).1, (n62 (by omega)).2, for_range (lo := 0) (n := ((n : Int)).toNat) (fun m σ H2 => ∃ v3 v4 v5 as R, σ = [some (.int n), some (.ref a), some (.ref D), v3, v4, v5] ∧ RowsAt H H2 D n as R ∧ Ev.WInv n ps m R)
        ⟨v3, none, none, as, _, rfl, W, Ev.WInv.start hb⟩ ?_ ?_⟩
      · rintro m σ H2 hm ⟨v3, v4, v5, as, R, rfl, W, WI⟩
        have hmn : m < n := by omega
        -- for thing in range(count)
        refine ⟨_, rfl, n, rfl, (n62 (by omega)).1, (n62 (by omega)).2, for_range (lo := 0) (n := ((n : Int)).toNat) (fun t σ H2 => ∃ v5 as, σ = [some (.int n), some (.ref a), some (.ref D), v3, some (.int (0 + m)), v5] ∧
          RowsAt H H2 D n as (fun x y => if x < t then Ev.wstep R m x y else R x y)) ⟨v5, as, rfl, W.congr fun x y _ _ => by rw [if_neg (Nat.not_lt_zero x)]⟩ ?_ ?_⟩
        · rintro t σ H3 ht ⟨v5, as, rfl, W⟩
          have htn : t < n := by omega
          obtain ⟨rt, t1, t2, t3, t4⟩ := W.get htn
          obtain ⟨rm, m1, m2, m3, m4⟩ := W.get hmn
          refine ⟨_, rfl, _, rfl, D, _, _, _, rfl, rfl, SqL.of W.lst, at0 t2, _, rfl, rt, _, _, _, rfl, rfl, SqL.of t4, at0 (rowV_get hmn), _, rfl, ite2 (fun h => ?_) (fun h => ?_)⟩
          · rw [if_neg (Nat.lt_irrefl t)] at h
            refine ⟨_, rfl, _, rfl, D, _, _, _, rfl, rfl, SqL.of W.lst, at0 t2, _, rfl, _, rfl, D, _, _, _, rfl, rfl, SqL.of W.lst, at0 m2, ⟨rt, rm, n, _, _, rfl, t4, m4, hn⟩, fun v H4 s4 hv => ?_⟩
            obtain ⟨b, rfl, q1, q2⟩ := hv rt rm n _ _ rfl t4 m4
            have W4 := W.grow s4
            have hbD : b ≠ D := fun e => by rw [e, W.lst] at q1; cases q1
            have hba : b ∉ as := fun hm => by
              obtain ⟨j, hj, e⟩ := List.getElem_of_mem hm
              have := W.row j b (by rw [List.getElem?_eq_getElem hj, e])
              rw [q1] at this; cases this
            refine ⟨_, rfl, _, rfl, D, _, _, t, rfl, rfl, W4.lst, ?_, ?_⟩
            · rw [List.length_map, W4.len]; exact ixN0 htn
            · refine ⟨_, _, rfl, (W4.swap htn (W.same.free q1) hbD hba q2).congr fun x y hx hy => ?_⟩
              by_cases e : x = t
              · subst e
                rw [if_pos rfl, if_neg (Nat.lt_irrefl x), if_pos (Nat.lt_succ_self x)]
                have em : (if m < x then Ev.wstep R m m y else R m y) = R m y := by
                  split
                  · unfold Ev.wstep
                    cases R m y <;> simp
                  · rfl
                rw [em]
                unfold Ev.wstep
                rw [h, Bool.true_and]
              · rw [if_neg e]
                by_cases hxt : x < t
                · rw [if_pos hxt, if_pos (by omega)]
                · rw [if_neg hxt, if_neg (by omega)]
          · rw [if_neg (Nat.lt_irrefl t)] at h
            refine ⟨_, as, rfl, W.congr fun x y hx hy => ?_⟩
            by_cases e : x = t
            · subst e
              rw [if_neg (Nat.lt_irrefl x), if_pos (Nat.lt_succ_self x)]
              unfold Ev.wstep
              have h' : R x m = false := by simpa using h
              rw [h', Bool.false_and, Bool.or_false]
            · by_cases hxt : x < t
              · rw [if_pos hxt, if_pos (by omega)]
              · rw [if_neg hxt, if_neg (by omega)]
        · rintro σ H3 ⟨v5, as, rfl, W⟩
          exact ⟨_, _, _, as, Ev.wstep R m, rfl, W.congr fun x y hx _ => by rw [if_pos (by omega)], WI.step hmn⟩
      · rintro σ H2 ⟨v3, v4, v5, as, R, rfl, W, WI⟩
        rw [en] at WI
        -- return tuple([tuple(row) for row in rows])
        refine ⟨_, rfl, D, rfl, ⟨_, SqL.of W.lst⟩, fun D2 hD2 => comp_allR (fun i v H => ∃ b, v = .ref b ∧ b ≠ D2 ∧ H b = some (.tup (rowV n (R i)))) (src_list (SqL.of W.lst)) hD2 (sl24 (by rw [List.length_map, W.len]; exact hn))
          (fun i v H H' s ⟨b, e, hb, q⟩ => ⟨b, e, hb, s _ _ hb q⟩) (fun i H3 Kt hi hs hy hk => ?_) (fun H3 ys hs hl hp => ?_)⟩
        · rw [List.length_map, W.len] at hi
          obtain ⟨r, r1, r2, r3, r4⟩ := W.get hi
          obtain ⟨zs, hz⟩ := hy
          refine ⟨_, rfl, r, _, by rw [List.getD_eq_getElem?_getD, r2]; rfl, .inl ⟨SqL.of (hs _ _ r4), fun l hl' => ?_⟩⟩
          exact hk _ _ (Same.put hl') ⟨l, rfl, (fun e => by rw [e, hz] at hl'; cases hl'), upd_same⟩
        · refine ⟨D2, _, rfl, .inl ⟨SqL.of hl, fun l hl' => ?_⟩⟩
          have en2 : (as.map V.ref).length = n := by rw [List.length_map, W.len]
          rw [en2] at hp
          refine k _ _ R ((W.same.trans hs).trans (Same.put hl')) WI.done ⟨l, ys, rfl, upd_same, Paired.mapP hp fun i u ⟨b, e, _, q⟩ => ⟨b, e, Same.put hl' _ _ q⟩⟩
end
end My

set_option Elab.async false
set_option linter.all false
set_option maxRecDepth 100000
namespace My
open PySem PySem.Spec PyProof.Rows L2
theorem pairsV_upd {H : Hp} {L : Addr} {xs ys : List V} (hL : H L = some (.lst xs)) {ps : List (Nat × Nat)} {us : List V} (h : Paired (pairV H) ps us) : Paired (pairV (upd H L (.lst ys))) ps us :=
  Paired.mapP h fun _ _ ⟨t, e, q⟩ => ⟨t, e, by rw [upd_ne (ne_of q hL (fun z => nomatch z))]; exact q⟩
theorem paired_append {α β : Type} {F : α → β → Prop} : ∀ {a b : List α} {c d : List β}, Paired F a c → Paired F b d → Paired F (a ++ b) (c ++ d)
  | _, _, _, _, .nil, h => h
  | _, _, _, _, .cons r t, h => .cons r (paired_append t h)
theorem paired_mapL {α β γ : Type} {F : γ → β → Prop} {g : α → γ} : ∀ {a : List α} {c : List β}, Paired (fun x y => F (g x) y) a c → Paired F (a.map g) c
  | _, _, .nil => .nil
  | _, _, .cons r t => .cons r (paired_mapL t)
theorem range_flat {α : Type} (i : Nat) (h : Nat → List α) : (List.range (i + 1)).flatMap h = (List.range i).flatMap h ++ h i := by
  rw [List.range_succ, List.flatMap_append]
  simp
def twosL (n : Nat) : List (Nat × Nat) := (List.range n).flatMap fun l => (List.range (n - (l + 1))).map fun j => (l, l + 1 + j)
theorem mem_twosL {n : Nat} {p : Nat × Nat} (h : p ∈ twosL n) : p.1 < p.2 ∧ p.2 < n := by
  unfold twosL at h
  rw [List.mem_flatMap] at h
  obtain ⟨l, hl, h⟩ := h
  rw [List.mem_map] at h
  obtain ⟨j, hj, rfl⟩ := h
  simp at hl hj ⊢
  omega
def pairsL (n : Nat) (R : Nat → Nat → Bool) : List (Nat × Nat) := (List.range n).flatMap fun l => ((List.range n).filter fun h => !decide (l = h) && R l h).map fun h => (l, h)
section
variable {P : Program} {w : World} {K : PySem.W.Frag} {mg : Str → Option Value} {base : Heap} {f : Addr} {fd : FuncData}

abbrev s_twos : Stmt := top 20
theorem sc_twos : FnScope ["count", "told", "low"] ["count"] (defScope s_twos) := ⟨rfl, rfl, rfl, by decide +kernel, rfl, by decide +kernel, by decide +kernel⟩
def sp_twos : Sp := fun vs H Q _ => ∃ n : Nat, vs = [.int n] ∧ n ≤ 24 ∧ ∀ l us H', Same H H' → H' l = some (.lst us) → Paired (pairV H') (twosL n) us → Q (.ref l) H'
theorem ok_twos (F : Fun K "twos" "twos" s_twos f fd) (T : Txt mg) : FnOk P w K mg base CX0 1 f fd ["count"] sp_twos := by
  refine F.ok sc_twos (fun vs H Q E h => ?_) (fun cdv A outer s H vs Q E hr h => ?_)
  · obtain ⟨n, rfl, _⟩ := h
    rfl
  · obtain ⟨n, rfl, hn, k⟩ := h
    have nd := sc_twos.nd
    have en : ((n : Int)).toNat = n := Int.toNat_natCast n
    refine ⟨_, (pss_cons (ps_set (i := 1) nd rfl (Or.inl rfl) (pe_lst pa_nil))
      (pss_cons (ps_for PassesOwn.never rfl (pi_range1 rfl T.range (pa_cons (pv 0) pa_nil)) (pg_name (i := 2) nd rfl (Or.inr rfl))
      (pss_one (ps_expr (pe_bmK (K := K) rfl PySem.F.plainAttrs_list PySem.F.slot_list_extend PySem.F.type_list_extend mt_extend (pv 1) (pa_cons (pe_comp (own := ["high"]) (fr := [("low", 2)]) rfl (blkOk (defScope s_twos) ["count", "told", "low"] rfl rfl (by decide +kernel)) (pi_range2 rfl T.range (pa_cons (pe_op op_add (pv 2) pe_int) (pa_cons (pv 0) pa_nil))) (fun _ _ _ _ => ⟨(pg_name (i := 0) (by decide +kernel : (["high", "low"] : List Str).Nodup) rfl (Or.inl rfl)), pif_nil, (pe_tup (pa_cons (pv 1) (pa_cons (pv 0) pa_nil)))⟩)) pa_nil)))))
      (pss_one (ps_ret (pv 1))))), ?_⟩
    refine ⟨by show 0 ≤ sizeLine; decide, fun L hL => ?_⟩
    refine ⟨_, rfl, n, rfl, (n62 (by omega)).1, (n62 (by omega)).2, for_range (lo := 0) (n := ((n : Int)).toNat) (fun i σ H2 => ∃ v2 us, σ = [some (.int n), some (.ref L), v2] ∧ Same H H2 ∧ H2 L = some (.lst us) ∧ us.length ≤ 24 * i ∧
      Paired (pairV H2) ((List.range i).flatMap fun l => (List.range (n - (l + 1))).map fun j => (l, l + 1 + j)) us) ⟨none, [], rfl, Same.put hL, upd_same, by simp, .nil⟩ ?_ ?_⟩
    · rintro i σ H2 hi ⟨v2, us, rfl, s2, hl, hlen, hp⟩
      have hin : i < n := by omega
      refine ⟨_, rfl, .inl ⟨rfl, _, SqL.of hl⟩, ?_⟩
      refine ⟨_, rfl, _, _, rfl, rfl, _, rfl, (0 + (i : Int) + 1), n, rfl, ⟨by omega, by omega, by omega, by omega⟩, fun D hD => ?_⟩
      refine comp_allR (fun j v H => ∃ t, v = .ref t ∧ t ≠ D ∧ H t = some (.tup [.int i, .int ((i + 1 + j : Nat) : Int)])) src_range hD (sl24 (by omega)) (fun j v H H' s ⟨b, e, hb, q⟩ => ⟨b, e, hb, s _ _ hb q⟩) (fun j H3 Kt hj hs hy hk => ?_) (fun H3 ys hs hl3 hp3 => ?_)
      · obtain ⟨zs, hz⟩ := hy
        refine ⟨_, rfl, _, rfl, by show 2 ≤ sizeLine; decide, fun t ht => ?_⟩
        refine hk _ _ (Same.put ht) ⟨t, rfl, (fun e => by rw [e, hz] at ht; cases ht), ?_⟩
        rw [upd_same]
        congr 4
        · omega
        · congr 1
          push_cast
          omega
      · have hDL : D ≠ L := fun e => by rw [e, hl] at hD; cases hD
        have hly : ys.length = n - (i + 1) := by
          have := Paired.length hp3
          simp at this
          omega
        refine ⟨L, D, us, ys, rfl, rfl, hs _ _ hl, hl3, by have := @slk 100000 (by omega); omega, ?_⟩
        refine ⟨_, us ++ ys, rfl, ?_, upd_same, by rw [List.length_append]; omega, ?_⟩
        · intro b o e
          rw [upd_ne (fun z => by rw [z, hL] at e; cases e)]
          exact hs _ _ (s2 _ _ e)
        · rw [range_flat]
          refine pairsV_upd (hs _ _ hl) (paired_append (pairsV.same hs hp) (paired_mapL ?_))
          have ec : ((n : Int) - (0 + (i : Int) + 1)).toNat = n - (i + 1) := by omega
          rw [ec] at hp3
          exact Paired.mapP hp3 fun j v ⟨t, e, _, q⟩ => ⟨t, e, q⟩
    · rintro σ H2 ⟨v2, us, rfl, s2, hl, hlen, hp⟩
      rw [en] at hp
      exact ⟨_, rfl, k L us H2 s2 hl hp⟩

abbrev s_need_one_way : Stmt := top 21
theorem sc_need_one_way : FnScope ["count", "reach", "two"] ["count", "reach"] (defScope s_need_one_way) := ⟨rfl, rfl, rfl, by decide +kernel, rfl, by decide +kernel, by decide +kernel⟩
def sp_need_one_way : Sp := fun vs H Q _ => ∃ (n : Nat) (v : V) (R : Nat → Nat → Bool), vs = [.int n, v] ∧ TT H v n (blF R) ∧ n ≤ 24 ∧ (∀ a b, a < b → b < n → ¬ (R a b = true ∧ R b a = true)) ∧ ∀ H', Same H H' → Q .non H'
theorem ok_need_one_way (F : Fun K "need_one_way" "need_one_way" s_need_one_way f fd) (T : Txt mg) (c_twos : Cal P w K mg base "twos" ["count"] 1 sp_twos) : FnOk P w K mg base CX0 2 f fd ["count", "reach"] sp_need_one_way := by
  refine F.ok sc_need_one_way (fun vs H Q E h => ?_) (fun cdv A outer s H vs Q E hr h => ?_)
  · obtain ⟨n, v, R, rfl, _⟩ := h
    rfl
  · obtain ⟨n, v, R, rfl, ht, hn, ha, k⟩ := h
    have nd := sc_need_one_way.nd
    refine ⟨_, (pss_one (ps_for PassesOwn.never rfl (pi_listK (K := K) rfl (pe_callC c_twos hr rfl (pa_cons (pv 0) pa_nil))) (pg_name (i := 2) nd rfl (Or.inl rfl))
      (pss_one (ps_if (PW.pt (pw_and (pt_val (pe_ix (ix_tupK (K := K) rfl) (pe_ix (ix_tupK (K := K) rfl) (pv 1) (pe_ix (ix_tupK (K := K) rfl) (pv 2) pe_int (fun _ _ => rfl)) (fun _ _ => rfl)) (pe_ix (ix_tupK (K := K) rfl) (pv 2) pe_int (fun _ _ => rfl)) (fun _ _ => rfl))) (pw_and1 (pt_val (pe_ix (ix_tupK (K := K) rfl) (pe_ix (ix_tupK (K := K) rfl) (pv 1) (pe_ix (ix_tupK (K := K) rfl) (pv 2) pe_int (fun _ _ => rfl)) (fun _ _ => rfl)) (pe_ix (ix_tupK (K := K) rfl) (pv 2) pe_int (fun _ _ => rfl)) (fun _ _ => rfl)))))) (pss_one ps_never) pss_nil)))), ?_⟩
    refine ⟨_, rfl, n, rfl, hn, fun l us H1 s1 hl hp => ⟨l, rfl, ⟨_, SqL.of hl⟩, for_list (K := K) (a := l) (xs := us) (fun i σ H2 => ∃ v2, σ = [some (.int n), some v, v2] ∧ Same H1 H2) ⟨none, rfl, Same.refl _⟩ (fun i σ H2 _ ⟨_, _, s2⟩ => SqL.of (s2 _ _ hl)) ?_ ?_⟩⟩
    · rintro i y σ H2 hi ⟨v2, rfl, s2⟩
      obtain ⟨p, hp1, t, rfl, htt⟩ := paired_get hp hi
      obtain ⟨b1, b2⟩ := mem_twosL (List.mem_of_getElem? hp1)
      obtain ⟨a, vs, r1, rfl, q1, q2, q3, q4⟩ := (ht.same (s1.trans s2)).row (show p.1 < n by omega)
      obtain ⟨a', vs', r2, e', q1', q2', q3', q4'⟩ := (ht.same (s1.trans s2)).row b2
      cases e'
      rw [q1] at q1'
      cases q1'
      have htt2 := s2 _ _ htt
      refine ⟨_, rfl, _, rfl, t, _, 0, _, rfl, rfl, SqT.of htt2, rfl, a, _, _, _, rfl, rfl, SqT.of q1, atI_nat q3, _, rfl, t, _, 1, _, rfl, rfl, SqT.of htt2, rfl, r1, _, _, _, rfl, rfl, SqT.of q4, at_row b2, _, rfl, ite2 (fun h => ?_) (fun h => ?_)⟩
      · refine ⟨_, rfl, _, rfl, t, _, 1, _, rfl, rfl, SqT.of htt2, rfl, a, _, _, _, rfl, rfl, SqT.of q1, atI_nat q3', _, rfl, t, _, 0, _, rfl, rfl, SqT.of htt2, rfl, r2, _, _, _, rfl, rfl, SqT.of q4', at_row (show p.1 < n by omega), _, rfl, ite2 (fun h' => ?_) (fun h' => ?_)⟩
        · exact absurd ⟨h, h'⟩ (ha _ _ b1 b2)
        · exact ⟨_, rfl, s2⟩
      · refine iteF ?_
        exact ⟨_, rfl, s2⟩
    · rintro σ H2 ⟨v2, rfl, s2⟩
      exact k _ (s1.trans s2)
end
end My

set_option Elab.async false
set_option linter.all false
set_option maxRecDepth 100000
namespace My
open PySem PySem.Spec PyProof.Rows L2
def keyRow (n : Nat) (p : Nat → Bool) : List Key := (List.range n).map fun b => Sum.inl (if p b then 1 else 0)
theorem keyRow_inj {n : Nat} {p q : Nat → Bool} (h : keyRow n p = keyRow n q) : ∀ b, b < n → p b = q b := by
  intro b hb
  have := congrArg (fun l => l[b]?) h
  simp only [keyRow, List.getElem?_map, List.getElem?_range hb, Option.map_some, Option.some.injEq, Sum.inl.injEq] at this
  cases hp : p b <;> cases hq : q b <;> simp [hp, hq] at this ⊢
theorem keyRow_congr {n : Nat} {p q : Nat → Bool} (h : ∀ b, b < n → p b = q b) : keyRow n p = keyRow n q := by
  unfold keyRow
  apply List.map_congr_left
  intro b hb
  rw [h b (by simpa using hb)]
theorem kVs_row (p : Nat → Bool) : ∀ l : List Nat, kVs (l.map fun b => (Sum.inl (if p b then 1 else 0) : Key)) (l.map fun b => V.bl (p b))
  | [] => .nil
  | b :: r => .cons (.inr ⟨p b, rfl, rfl⟩) (kVs_row p r)
theorem tupKey {H : Hp} {b : Addr} {n : Nat} {p : Nat → Bool} (h : H b = some (.tup (rowV n p))) : TupKey H b (keyRow n p) := ⟨_, kVs_row p _, h⟩
def kvsL (n : Nat) (R : Nat → Nat → Bool) : Nat → List (List Key × V)
  | 0 => []
  | i + 1 => kvsL n R i ++ [(keyRow n (R i), .int i)]
theorem kvsL_len (n : Nat) (R : Nat → Nat → Bool) : ∀ i, (kvsL n R i).length = i
  | 0 => rfl
  | i + 1 => by rw [kvsL, List.length_append, kvsL_len n R i]; rfl
theorem mem_not (l : List (List Key × V)) {k k' : List Key} {v : V} (e : ¬ k' = k) (h : valV l k = none) : valV (l ++ [(k', v)]) k = none := by
  induction l with
  | nil => exact valV_neg (p := (k', v)) e
  | cons p r ih =>
    rw [List.cons_append]
    by_cases q : p.1 = k
    · rw [valV_pos q] at h; cases h
    · rw [valV_neg q] at h ⊢; exact ih h
theorem kvsL_none {n : Nat} {R : Nat → Nat → Bool} {k : List Key} : ∀ {i : Nat}, (∀ c, c < i → keyRow n (R c) ≠ k) → valV (kvsL n R i) k = none
  | 0, _ => rfl
  | i + 1, h => by
    have ih := kvsL_none (n := n) (R := R) (k := k) (i := i) fun c hc => h c (by omega)
    have hk : valV (kvsL n R i) k = none := ih
    rw [kvsL]
    have e : ¬ keyRow n (R i) = k := h i (by omega)
    exact mem_not (kvsL n R i) e hk
theorem kvsL_some {n : Nat} {R : Nat → Nat → Bool} (dis : ∀ i j, i < n → j < n → (∀ b, b < n → R i b = R j b) → i = j) {c : Nat} (hc : c < n) : ∀ {i : Nat}, i ≤ n → c < i → valV (kvsL n R i) (keyRow n (R c)) = some (.int c)
  | 0, _, h => by omega
  | i + 1, hi, h => by
    rw [kvsL, valV_snoc _ _ _ _ (kvsL_none fun d hd e => by have := dis d i (by omega) (by omega) (keyRow_inj e); omega)]
    by_cases e : c = i
    · subst e; rw [if_pos rfl]
    · rw [if_neg (fun z => e (dis c i hc (by omega) (keyRow_inj z)))]
      exact kvsL_some dis hc (by omega) (by omega)
def endV (n : Nat) (R : Nat → Nat → Bool) (a b : Nat) : V := (valV (kvsL n R n) (keyRow n fun x => R a x && R b x)).getD .non
theorem endV_some {n : Nat} {R : Nat → Nat → Bool} (dis : ∀ i j, i < n → j < n → (∀ b, b < n → R i b = R j b) → i = j) {a b c : Nat} (hc : c < n) (h : ∀ x, x < n → R c x = (R a x && R b x)) : endV n R a b = .int c := by
  unfold endV
  rw [← keyRow_congr h, kvsL_some dis hc (Nat.le_refl _) hc]
  rfl
section
variable {P : Program} {w : World} {K : PySem.W.Frag} {mg : Str → Option Value} {base : Heap} {f : Addr} {fd : FuncData}
def RowsT (H : Hp) (n : Nat) (R : Nat → Nat → Bool) (us : List V) : Prop := Paired (fun i u => ∃ b, u = .ref b ∧ H b = some (.tup (rowV n (R i)))) (List.range n) us
theorem RowsT.same {H H' : Hp} {n : Nat} {R : Nat → Nat → Bool} {us : List V} (s : Same H H') (h : RowsT H n R us) : RowsT H' n R us := Paired.mapP h fun _ _ ⟨b, e, q⟩ => ⟨b, e, s _ _ q⟩
theorem RowsT.len {H : Hp} {n : Nat} {R : Nat → Nat → Bool} {us : List V} (h : RowsT H n R us) : us.length = n := by simpa using (Paired.length h).symm
theorem RowsT.get {H : Hp} {n : Nat} {R : Nat → Nat → Bool} {us : List V} (h : RowsT H n R us) {i : Nat} (hi : i < n) : ∃ b, us[i]? = some (.ref b) ∧ H b = some (.tup (rowV n (R i))) := by
  obtain ⟨y, h1, b, rfl, h2⟩ := paired_get' (i := i) (x := i) h (List.getElem?_range hi)
  exact ⟨b, h1, h2⟩

abbrev s_ends_with : Stmt := top 22
theorem sc_ends_with : FnScope ["rows", "things", "thing"] ["rows", "things", "thing"] (defScope s_ends_with) := ⟨rfl, rfl, rfl, by decide +kernel, rfl, by decide +kernel, by decide +kernel⟩
def sp_ends_with (K : PySem.W.Frag) : Sp := fun vs H Q _ => ∃ (c : Bool) (a d t n : Nat) (us : List V) (R : Nat → Nat → Bool) (kvs : List (List Key × V)), vs = [.ref a, .ref d, .int t] ∧ Sq c K H a us ∧ RowsT H n R us ∧ H d = some (.dT kvs) ∧ t < n ∧ n ≤ 24 ∧
  ∀ l H', Same H H' → H l = none → H' l = some (.tup ((List.range n).map fun j => (valV kvs (keyRow n fun b => R t b && R j b)).getD .non)) → Q (.ref l) H'
theorem ok_ends_with (F : Fun K "ends_with" "ends_with" s_ends_with f fd) (T : Txt mg) (c_shared : Cal P w K mg base "shared" ["one", "other"] 1 sp_shared) : FnOk P w K mg base CX0 2 f fd ["rows", "things", "thing"] (sp_ends_with K) := by
  refine F.ok sc_ends_with (fun vs H Q E h => ?_) (fun cdv A outer s H vs Q E hr h => ?_)
  · obtain ⟨c, a, d, t, n, us, R, kvs, rfl, _⟩ := h
    rfl
  · obtain ⟨c, a, d, t, n, us, R, kvs, rfl, hq, hrow, hd, ht, hn, k⟩ := h
    have nd := sc_ends_with.nd
    have hu := hu_of hr
    refine ⟨_, (pss_one (ps_ret (pe_callTy (call_tupleK (K := K) rfl) rfl T.tuple bt_tuple (pa_cons (pe_comp (own := ["row"]) (fr := [("things", 1), ("rows", 0), ("thing", 2)]) rfl (blkOk (defScope s_ends_with) ["rows", "things", "thing"] rfl rfl (by decide +kernel)) (pi_sqK (K := K) c rfl (pv 0)) (fun _ _ _ _ => ⟨(pg_name (i := 0) (by decide +kernel : (["row", "things", "rows", "thing"] : List Str).Nodup) rfl (Or.inl rfl)), pif_nil, (pe_dget1 hu (pv 1) (pe_callC c_shared hr rfl (pa_cons (pe_ix (ix_sqK (K := K) c rfl) (pv 2) (pv 3) (fun _ _ => rfl)) (pa_cons (pv 0) pa_nil))) ⟨rfl, rfl, rfl, rfl⟩)⟩)) pa_nil)))), ?_⟩
    refine ⟨_, rfl, a, rfl, ⟨_, hq⟩, fun D hD => comp_all (fun j => (valV kvs (keyRow n fun b => R t b && R j b)).getD .non) (src_sq hq) hD (sl24 (by rw [hrow.len]; exact hn)) (fun i H2 Kt hi hs hk => ?_) (fun H' hs hl => ?_)⟩
    · rw [hrow.len] at hi
      obtain ⟨bt, t1, t2⟩ := hrow.get ht
      obtain ⟨bi, i1, i2⟩ := hrow.get hi
      refine ⟨_, rfl, d, rfl, .inr ⟨kvs, .inl (hs _ _ hd)⟩, ?_⟩
      refine ⟨_, rfl, _, rfl, a, us, _, _, rfl, rfl, hs.sq hq, atI_nat t1, _, rfl, ⟨bt, bi, n, R t, R i, by rw [List.getD_eq_getElem?_getD, i1]; rfl, hs _ _ t2, hs _ _ i2, hn⟩, fun v H3 s3 hv => ?_⟩
      obtain ⟨b, rfl, q1, q2⟩ := hv bt bi n (R t) (R i) (by rw [List.getD_eq_getElem?_getD, i1]; rfl) (hs _ _ t2) (hs _ _ i2)
      exact ⟨_, DGet.t (s3 _ _ (hs _ _ hd)) (tupKey q2), hk _ s3⟩
    · refine ⟨D, _, rfl, .inl ⟨SqL.of hl, fun l hl' => ?_⟩⟩
      rw [hrow.len]
      exact k l _ (hs.trans (Same.put hl')) (hs.free hl') upd_same

abbrev s_ends_of : Stmt := top 23
theorem sc_ends_of : FnScope ["rows", "things", "thing", "row"] ["rows"] (defScope s_ends_of) := ⟨rfl, rfl, rfl, by decide +kernel, rfl, by decide +kernel, by decide +kernel⟩
def sp_ends_of (K : PySem.W.Frag) : Sp := fun vs H Q _ => ∃ (c : Bool) (a n : Nat) (us : List V) (R : Nat → Nat → Bool), vs = [.ref a] ∧ Sq c K H a us ∧ RowsT H n R us ∧ n ≤ 24 ∧ (∀ i j, i < n → j < n → (∀ b, b < n → R i b = R j b) → i = j) ∧
  ∀ v H', Same H H' → TT H' v n (endV n R) → Q v H'
theorem ok_ends_of (F : Fun K "ends_of" "ends_of" s_ends_of f fd) (T : Txt mg) (c_ends_with : Cal P w K mg base "ends_with" ["rows", "things", "thing"] 2 (sp_ends_with K)) : FnOk P w K mg base CX0 3 f fd ["rows"] (sp_ends_of K) := by
  refine F.ok sc_ends_of (fun vs H Q E h => ?_) (fun cdv A outer s H vs Q E hr h => ?_)
  · obtain ⟨c, a, n, us, R, rfl, _⟩ := h
    rfl
  · obtain ⟨c, a, n, us, R, rfl, hq, hrow, hn, dis, k⟩ := h
    have nd := sc_ends_of.nd
    have hu := hu_of hr
    have hlen := hrow.len
    refine ⟨_, (pss_cons (ps_set (i := 1) nd rfl (Or.inr rfl) pe_dnewT)
      (pss_cons (ps_for PassesOwn.never rfl (pi_enumK (K := K) c rfl rfl T.enumerate (pa_cons (pv 0) pa_nil)) (pg_pair (K := K) (i := 2) (j := 3) rfl rfl nd rfl rfl rfl rfl)
      (pss_one (ps_dput hu (pv 1) (pv 3) (pv 2) rfl)))
      (pss_one (ps_ret (pe_callTy (call_tupleK (K := K) rfl) rfl T.tuple bt_tuple (pa_cons (pe_comp (own := ["thing"]) (fr := [("rows", 0), ("things", 1)]) rfl (blkOk (defScope s_ends_of) ["rows", "things", "thing", "row"] rfl rfl (by decide +kernel)) (pi_range1 rfl T.range (pa_cons (pe_callB (call_lenK (K := K) rfl) rfl T.len PySem.boot_len (pa_cons (pv 0) pa_nil)) pa_nil)) (fun _ _ _ _ => ⟨(pg_name (i := 0) (by decide +kernel : (["thing", "rows", "things"] : List Str).Nodup) rfl (Or.inl rfl)), pif_nil, (pe_callC c_ends_with hr rfl (pa_cons (pv 1) (pa_cons (pv 2) (pa_cons (pv 0) pa_nil (star_of (fun _ _ h => nomatch h))) (star_of (fun _ _ h => nomatch h))) (star_of (fun _ _ h => nomatch h))))⟩)) pa_nil)))))), ?_⟩
    intro d hd
    -- for thing, row in enumerate(rows): things[row] = thing
    refine ⟨_, rfl, a, us, rfl, (Same.put hd).sq hq, for_enum (K := K) (c := c) (l := a) (xs := us) (fun i σ H2 => ∃ v2 v3, σ = [some (.ref a), some (.ref d), v2, v3] ∧ Same H H2 ∧ H2 d = some (.dT (kvsL n R i)) ∧ i ≤ n)
      ⟨none, none, rfl, Same.put hd, upd_same, Nat.zero_le _⟩ (fun i σ H2 ⟨_, _, _, s2, _⟩ => s2.sq hq) ?_ ?_⟩
    · rintro i x σ H2 t hx ht ⟨v2, v3, rfl, s2, h2, hi⟩
      have hin : i < n := by rw [← hlen]; exact (List.getElem?_eq_some_iff.mp hx).1
      obtain ⟨bi, i1, i2⟩ := hrow.get hin
      rw [i1] at hx
      cases hx
      refine ⟨t, _, rfl, SqT.of upd_same, rfl, _, _, rfl, _, _, rfl, rfl, ?_⟩
      have hdt : d ≠ t := fun e => by rw [← e, h2] at ht; cases ht
      have h2' : (upd H2 t (.tup [.int i, .ref bi])) d = some (.dT (kvsL n R i)) := by rw [upd_ne hdt]; exact h2
      have i3 : (upd H2 t (.tup [.int i, .ref bi])) bi = some (.tup (rowV n (R i))) := Same.put ht _ _ (s2 _ _ i2)
      have hnone : valV (kvsL n R i) (keyRow n (R i)) = none := kvsL_none fun c' hc' e => by have := dis c' i (by omega) hin (keyRow_inj e); omega
      refine ⟨_, rfl, _, rfl, _, rfl, d, _, rfl, DPut.t h2' (tupKey i3) (by rw [kvsL_len]; exact sl24 (by omega)), ?_⟩
      refine ⟨_, _, rfl, ?_, ?_, hin⟩
      · intro b o e
        rw [upd_ne (fun z => by rw [z, hd] at e; cases e)]
        exact Same.put ht _ _ (s2 _ _ e)
      · rw [upd_same, putK_new _ hnone]
        rfl
    · rintro σ H2 ⟨v2, v3, rfl, s2, h2, hi⟩
      rw [hlen] at h2
      -- return tuple([ends_with(rows, things, thing) for thing in range(len(rows))])
      have hq2 : SqL K H2 a us ∨ SqT K H2 a us := by
        have := s2.sq hq
        cases c with
        | true => exact .inl this
        | false => exact .inr this
      refine ⟨_, rfl, a, us, rfl, hq2, us.length, rfl, (n62 (by omega)).1, (n62 (by omega)).2, fun D hD => ?_⟩
      rw [hlen]
      refine comp_allR (fun i v H => ∃ b, v = .ref b ∧ b ≠ D ∧ H b = some (.tup ((List.range n).map (endV n R i)))) src_range hD (sl24 (by simpa using hn)) (fun i v H H' s ⟨b, e, hb, q⟩ => ⟨b, e, hb, s _ _ hb q⟩) (fun i H3 Kt hi hs hy hk => ?_) (fun H3 ys hs hl hp => ?_)
      · have hin : i < n := by simpa using hi
        obtain ⟨zs, hz⟩ := hy
        refine ⟨_, rfl, _, rfl, _, rfl, c, a, d, i, n, us, R, _, by simp, hs.sq (s2.sq hq), (hrow.same s2).same hs, hs _ _ h2, hin, hn, fun l H4 s4 h4 q4 => ?_⟩
        exact hk _ H4 s4 ⟨l, rfl, (fun e => by rw [e, hz] at h4; cases h4), q4⟩
      · refine ⟨D, _, rfl, .inl ⟨SqL.of hl, fun l hl' => ?_⟩⟩
        have en : ((n : Int)).toNat = n := Int.toNat_natCast n
        rw [en] at hp
        exact k _ _ ((s2.trans hs).trans (Same.put hl')) ⟨l, ys, rfl, upd_same, Paired.mapP hp fun i u ⟨b, e, _, q⟩ => ⟨b, e, Same.put hl' _ _ q⟩⟩
end
end My

set_option Elab.async false
set_option linter.all false
set_option maxRecDepth 100000
namespace My
open PySem PySem.Spec PyProof.Rows L2
theorem map_get {α : Type} {n : Nat} {g : Nat → α} {j : Nat} (h : j < n) : ((List.range n).map g)[j]? = some (g j) := by simp [h]
section
variable {P : Program} {w : World} {K : PySem.W.Frag} {mg : Str → Option Value} {base : Heap} {f : Addr} {fd : FuncData}
abbrev s_need_ends : Stmt := top 24
theorem sc_need_ends : FnScope ["count", "joins", "meets", "two"] ["count", "joins", "meets"] (defScope s_need_ends) := ⟨rfl, rfl, rfl, by decide +kernel, rfl, by decide +kernel, by decide +kernel⟩
def sp_need_ends : Sp := fun vs H Q _ => ∃ (n : Nat) (v u : V) (g g' : Nat → Nat → V), vs = [.int n, v, u] ∧ TT H v n g ∧ TT H u n g' ∧ n ≤ 24 ∧ (∀ a b, a < n → b < n → g a b ≠ .non ∧ g' a b ≠ .non) ∧ ∀ H', Same H H' → Q .non H'
theorem ok_need_ends (F : Fun K "need_ends" "need_ends" s_need_ends f fd) (T : Txt mg) (c_twos : Cal P w K mg base "twos" ["count"] 1 sp_twos) : FnOk P w K mg base CX0 2 f fd ["count", "joins", "meets"] sp_need_ends := by
  refine F.ok sc_need_ends (fun vs H Q E h => ?_) (fun cdv A outer s H vs Q E hr h => ?_)
  · obtain ⟨n, v, u, g, g', rfl, _⟩ := h
    rfl
  · obtain ⟨n, v, u, g, g', rfl, ht, ht', hn, ha, k⟩ := h
    have nd := sc_need_ends.nd
    refine ⟨_, (pss_one (ps_for PassesOwn.never rfl (pi_listK (K := K) rfl (pe_callC c_twos hr rfl (pa_cons (pv 0) pa_nil))) (pg_name (i := 3) nd rfl (Or.inl rfl))
      (pss_one (ps_if (PW.pt (pw_or (pt_cmpR op_isN (pe_ix (ix_tupK (K := K) rfl) (pe_ix (ix_tupK (K := K) rfl) (pv 1) (pe_ix (ix_tupK (K := K) rfl) (pv 3) pe_int (fun _ _ => rfl)) (fun _ _ => rfl)) (pe_ix (ix_tupK (K := K) rfl) (pv 3) pe_int (fun _ _ => rfl)) (fun _ _ => rfl)) pe_non (nomark _)) (pw_or1 (pt_cmpR op_isN (pe_ix (ix_tupK (K := K) rfl) (pe_ix (ix_tupK (K := K) rfl) (pv 2) (pe_ix (ix_tupK (K := K) rfl) (pv 3) pe_int (fun _ _ => rfl)) (fun _ _ => rfl)) (pe_ix (ix_tupK (K := K) rfl) (pv 3) pe_int (fun _ _ => rfl)) (fun _ _ => rfl)) pe_non (nomark _))))) (pss_one ps_never) pss_nil)))), ?_⟩
    refine ⟨_, rfl, n, rfl, hn, fun l us H1 s1 hl hp => ⟨l, rfl, ⟨_, SqL.of hl⟩, for_list (K := K) (a := l) (xs := us) (fun i σ H2 => ∃ v2, σ = [some (.int n), some v, some u, v2] ∧ Same H1 H2) ⟨none, rfl, Same.refl _⟩ (fun i σ H2 _ ⟨_, _, s2⟩ => SqL.of (s2 _ _ hl)) ?_ ?_⟩⟩
    · rintro i y σ H2 hi ⟨v2, rfl, s2⟩
      obtain ⟨p, hp1, t, rfl, htt⟩ := paired_get hp hi
      obtain ⟨b1, b2⟩ := mem_twosL (List.mem_of_getElem? hp1)
      have hp0 : p.1 < n := by omega
      obtain ⟨a, vs, r1, rfl, q1, q2, q3, q4⟩ := (ht.same (s1.trans s2)).row hp0
      obtain ⟨a', vs', r2, rfl, q1', q2', q3', q4'⟩ := (ht'.same (s1.trans s2)).row hp0
      have htt2 := s2 _ _ htt
      obtain ⟨n1, n2⟩ := ha _ _ hp0 b2
      refine ⟨_, rfl, _, rfl, t, _, 0, _, rfl, rfl, SqT.of htt2, rfl, a, _, _, _, rfl, rfl, SqT.of q1, atI_nat q3, _, rfl, t, _, 1, _, rfl, rfl, SqT.of htt2, rfl, r1, _, _, _, rfl, rfl, SqT.of q4, at_row b2, rfl, _, rfl, ?_⟩
      rw [decide_eq_false n1]
      refine iteF ?_
      refine ⟨_, rfl, _, rfl, t, _, 0, _, rfl, rfl, SqT.of htt2, rfl, a', _, _, _, rfl, rfl, SqT.of q1', atI_nat q3', _, rfl, t, _, 1, _, rfl, rfl, SqT.of htt2, rfl, r2, _, _, _, rfl, rfl, SqT.of q4', at_row b2, rfl, _, rfl, ?_⟩
      rw [decide_eq_false n2]
      refine iteF ?_
      exact ⟨_, rfl, s2⟩
    · rintro σ H2 ⟨v2, rfl, s2⟩
      exact k _ (s1.trans s2)

abbrev s_pairs_of : Stmt := top 25
theorem sc_pairs_of : FnScope ["count", "reach", "told", "low"] ["count", "reach"] (defScope s_pairs_of) := ⟨rfl, rfl, rfl, by decide +kernel, rfl, by decide +kernel, by decide +kernel⟩
def PairsT (H : Hp) (v : V) (ps : List (Nat × Nat)) : Prop := ∃ a us, v = .ref a ∧ H a = some (.tup us) ∧ Paired (pairV H) ps us
theorem PairsT.same {H H' : Hp} {v : V} {ps : List (Nat × Nat)} (s : Same H H') (h : PairsT H v ps) : PairsT H' v ps := let ⟨a, us, e, q, r⟩ := h; ⟨a, us, e, s _ _ q, pairsV.same s r⟩
def sp_pairs_of : Sp := fun vs H Q _ => ∃ (n : Nat) (v : V) (R : Nat → Nat → Bool), vs = [.int n, v] ∧ TT H v n (blF R) ∧ n ≤ 24 ∧ ∀ u H', Same H H' → PairsT H' u (pairsL n R) → Q u H'
theorem ok_pairs_of (F : Fun K "pairs_of" "pairs_of" s_pairs_of f fd) (T : Txt mg) : FnOk P w K mg base CX0 1 f fd ["count", "reach"] sp_pairs_of := by
  refine F.ok sc_pairs_of (fun vs H Q E h => ?_) (fun cdv A outer s H vs Q E hr h => ?_)
  · obtain ⟨n, v, R, rfl, _⟩ := h
    rfl
  · obtain ⟨n, v, R, rfl, ht, hn, k⟩ := h
    have nd := sc_pairs_of.nd
    have en : ((n : Int)).toNat = n := Int.toNat_natCast n
    refine ⟨_, (pss_cons (ps_set (i := 2) nd rfl (Or.inl rfl) (pe_lst pa_nil))
      (pss_cons (ps_for PassesOwn.never rfl (pi_range1 rfl T.range (pa_cons (pv 0) pa_nil)) (pg_name (i := 3) nd rfl (Or.inr rfl))
      (pss_one (ps_expr (pe_bmK (K := K) rfl PySem.F.plainAttrs_list PySem.F.slot_list_extend PySem.F.type_list_extend mt_extend (pv 2) (pa_cons (pe_comp (own := ["high"]) (fr := [("low", 3), ("reach", 1)]) rfl (blkOk (defScope s_pairs_of) ["count", "reach", "told", "low"] rfl rfl (by decide +kernel)) (pi_range1 rfl T.range (pa_cons (pv 0) pa_nil)) (fun _ _ _ _ => ⟨(pg_name (i := 0) (by decide +kernel : (["high", "low", "reach"] : List Str).Nodup) rfl (Or.inl rfl)), (pif_one (PW.pt (pw_and (pt_cmpR op_ne (pv 1) (pv 0) (nomark _)) (pw_and1 (pt_val (pe_ix (ix_tupK (K := K) rfl) (pe_ix (ix_tupK (K := K) rfl) (pv 2) (pv 1) (fun _ _ => rfl)) (pv 0) (fun _ _ => rfl))))))), (pe_tup (pa_cons (pv 1) (pa_cons (pv 0) pa_nil)))⟩)) pa_nil)))))
      (pss_one (ps_ret (pe_callTy (call_tupleK (K := K) rfl) rfl T.tuple bt_tuple (pa_cons (pv 2) pa_nil)))))), ?_⟩
    refine ⟨by show 0 ≤ sizeLine; decide, fun L hL => ?_⟩
    refine ⟨_, rfl, n, rfl, (n62 (by omega)).1, (n62 (by omega)).2, for_range (lo := 0) (n := ((n : Int)).toNat) (fun i σ H2 => ∃ v3 us, σ = [some (.int n), some v, some (.ref L), v3] ∧ Same H H2 ∧ H2 L = some (.lst us) ∧ us.length ≤ 24 * i ∧
      Paired (pairV H2) ((List.range i).flatMap fun l => ((List.range n).filter fun h => !decide (l = h) && R l h).map fun h => (l, h)) us) ⟨none, [], rfl, Same.put hL, upd_same, by simp, .nil⟩ ?_ ?_⟩
    · rintro i σ H2 hi ⟨v3, us, rfl, s2, hl, hlen, hp⟩
      have hin : i < n := by omega
      refine ⟨_, rfl, .inl ⟨rfl, _, SqL.of hl⟩, ?_⟩
      refine ⟨_, rfl, n, rfl, (n62 (by omega)).1, (n62 (by omega)).2, fun D hD => ?_⟩
      refine comp_rel (fun j => !decide (i = j) && R i j) (fun j v H => ∃ t, v = .ref t ∧ t ≠ D ∧ H t = some (.tup [.int i, .int (j : Int)])) src_range hD (sl24 (by omega)) (fun j v H H' s ⟨b, e, hb, q⟩ => ⟨b, e, hb, s _ _ hb q⟩) (fun j H3 Kt Kf hj hs hy hkt hkf => ?_) (fun H3 ys hs hl3 hp3 => ?_)
      · have hjn : j < n := by omega
        obtain ⟨zs, hz⟩ := hy
        obtain ⟨a, vs, r1, rfl, q1, q2, q3, q4⟩ := (ht.same (s2.trans hs)).row hin
        refine ⟨_, rfl, _, rfl, rfl, _, rfl, ?_⟩
        have ed : (!decide (V.int (0 + (i : Int)) = V.int (0 + (j : Int)))) = !decide (i = j) := by
          congr 1
          rw [Int.zero_add]
          exact decV
        rw [ed]
        refine ite2 (fun h => ?_) (fun h => ?_)
        · refine ⟨_, rfl, _, rfl, a, _, _, _, rfl, rfl, SqT.of q1, at0 q3, _, rfl, r1, _, _, _, rfl, rfl, SqT.of q4, at0 (map_get hjn), _, rfl, ite2 (fun h' => ?_) (fun h' => ?_)⟩
          · refine ⟨_, rfl, _, rfl, by show 2 ≤ sizeLine; decide, fun t ht => ?_⟩
            refine hkt _ _ (by rw [h, h', Bool.true_and]) (Same.put ht) ⟨t, rfl, (fun e => by rw [e, hz] at ht; cases ht), ?_⟩
            rw [upd_same, Int.zero_add, Int.zero_add]
          · exact hkf _ (by rw [h, Bool.true_and]; simpa using h') (Same.refl _)
        · refine iteF ?_
          have h2 : (!decide (i = j)) = false := by simpa using h
          exact hkf _ (by rw [h2, Bool.false_and]) (Same.refl _)
      · have hDL : D ≠ L := fun e => by rw [e, hl] at hD; cases hD
        rw [en] at hp3
        have hly : ys.length ≤ n := by
          have h1 := Paired.length hp3
          have h2 := List.length_filter_le (fun j => !decide (i = j) && R i j) (List.range n)
          rw [List.length_range] at h2
          omega
        refine ⟨L, D, us, ys, rfl, rfl, hs _ _ hl, hl3, by have := @slk 100000 (by omega); omega, ?_⟩
        refine ⟨_, us ++ ys, rfl, ?_, upd_same, by rw [List.length_append]; omega, ?_⟩
        · intro b o e
          rw [upd_ne (fun z => by rw [z, hL] at e; cases e)]
          exact hs _ _ (s2 _ _ e)
        · rw [range_flat]
          refine pairsV_upd (hs _ _ hl) (paired_append (pairsV.same hs hp) (paired_mapL ?_))
          exact Paired.mapP hp3 fun j v ⟨t, e, _, q⟩ => ⟨t, e, q⟩
    · rintro σ H2 ⟨v2, us, rfl, s2, hl, hlen, hp⟩
      rw [en] at hp
      refine ⟨_, rfl, L, us, rfl, .inl ⟨SqL.of hl, fun l hl' => ?_⟩⟩
      exact k _ _ (s2.trans (Same.put hl')) ⟨l, us, rfl, upd_same, pairsV.same (Same.put hl') hp⟩
end
end My

set_option Elab.async false
set_option linter.all false
set_option maxRecDepth 100000
namespace My
open PySem PySem.Spec PyProof.Rows L2
structure Good (n : Nat) (R : Nat → Nat → Bool) : Prop where
  refl : ∀ a, a < n → R a a = true
  anti : ∀ a b, a < n → b < n → R a b = true → R b a = true → a = b
  join : ∀ a b, a < n → b < n → ∃ c, c < n ∧ ∀ x, x < n → R c x = (R a x && R b x)
  meet : ∀ a b, a < n → b < n → ∃ c, c < n ∧ ∀ x, x < n → R x c = (R x a && R x b)
theorem Good.dis {n : Nat} {R : Nat → Nat → Bool} (G : Good n R) : ∀ i j, i < n → j < n → (∀ b, b < n → R i b = R j b) → i = j := fun i j hi hj h =>
  G.anti i j hi hj (by rw [h j hj]; exact G.refl j hj) (by rw [← h i hi]; exact G.refl i hi)
theorem Good.dis' {n : Nat} {R : Nat → Nat → Bool} (G : Good n R) : ∀ i j, i < n → j < n → (∀ b, b < n → R b i = R b j) → i = j := fun i j hi hj h =>
  G.anti i j hi hj (by rw [← h i hi]; exact G.refl i hi) (by rw [h j hj]; exact G.refl j hj)
def flds (n : Nat) (vp vr vj vm : V) : List (Str × V) := putF "meets" vm (putF "joins" vj (putF "reach" vr (putF "pairs" vp (putF "count" (.int n) []))))
def OrdAt (C : Addr) (H : Hp) (p n : Nat) (R : Nat → Nat → Bool) : Prop := ∃ dx vp vr vj vm, H p = some (.ins C dx (flds n vp vr vj vm)) ∧ PairsT H vp (pairsL n R) ∧ TT H vr n (blF R) ∧ TT H vj n (endV n R) ∧ TT H vm n (endV n fun a b => R b a)
structure ClsOk (K : PySem.W.Frag) (C : Addr) : Prop where
  cl : Cls K C
  nC : NoAttr K C "count"
  nP : NoAttr K C "pairs"
  nR : NoAttr K C "reach"
  nJ : NoAttr K C "joins"
  nM : NoAttr K C "meets"
theorem TT.ins {H : Hp} {p C dx : Addr} {fs : List (Str × V)} {o : HO} (hp : H p = some (.ins C dx fs)) {v : V} {n : Nat} {g : Nat → Nat → V} (h : TT H v n g) : TT (upd H p o) v n g :=
  let ⟨a, vs, e, q, r⟩ := h
  ⟨a, vs, e, by rw [upd_ne (ne_of q hp (fun z => nomatch z))]; exact q, Paired.mapP r fun _ _ ⟨b, e, q⟩ => ⟨b, e, by rw [upd_ne (ne_of q hp (fun z => nomatch z))]; exact q⟩⟩
theorem PairsT.ins {H : Hp} {p C dx : Addr} {fs : List (Str × V)} {o : HO} (hp : H p = some (.ins C dx fs)) {v : V} {ps : List (Nat × Nat)} (h : PairsT H v ps) : PairsT (upd H p o) v ps :=
  let ⟨a, vs, e, q, r⟩ := h
  ⟨a, vs, e, by rw [upd_ne (ne_of q hp (fun z => nomatch z))]; exact q, Paired.mapP r fun _ _ ⟨b, e, q⟩ => ⟨b, e, by rw [upd_ne (ne_of q hp (fun z => nomatch z))]; exact q⟩⟩
section
variable {P : Program} {w : World} {K : PySem.W.Frag} {mg : Str → Option Value} {base : Heap} {f : Addr} {fd : FuncData}
abbrev s_Order_init : Stmt := inClass (top 26) 0
theorem sc_Order_init : FnScope ["self", "count", "pairs", "reach", "joins", "meets"] ["self", "count", "pairs"] (defScope s_Order_init) := ⟨rfl, rfl, rfl, by decide +kernel, rfl, by decide +kernel, by decide +kernel⟩
def sp_init (K : PySem.W.Frag) (C : Addr) : Sp := fun vs H Q _ => ∃ (p dx n a : Nat) (ps : List (Nat × Nat)), vs = [.ref p, .int n, .ref a] ∧ H p = some (.ins C dx []) ∧ PairsL K H a ps ∧ 1 ≤ n ∧ n ≤ 24 ∧ (∀ p ∈ ps, p.1 < n ∧ p.2 < n) ∧ (∀ R, Ev.Clos n ps R → Good n R) ∧
  ∀ H' R, (∀ b o, H b = some o → b ≠ p → H' b = some o) → Ev.Clos n ps R → OrdAt C H' p n R → Q .non H'
theorem ok_init {C : Addr} (F : Fun K "__init__" "Order.__init__" s_Order_init f fd) (T : Txt mg) (TC : ClsOk K C)
    (c_need_count : Cal P w K mg base "need_count" ["count"] 2 sp_need_count) (c_need_pairs : Cal P w K mg base "need_pairs" ["count", "pairs"] 4 (sp_need_pairs K)) (c_reach_of : Cal P w K mg base "reach_of" ["count", "pairs"] 2 (sp_reach_of K))
    (c_need_one_way : Cal P w K mg base "need_one_way" ["count", "reach"] 2 sp_need_one_way) (c_ends_of : Cal P w K mg base "ends_of" ["rows"] 3 (sp_ends_of K)) (c_column : Cal P w K mg base "column" ["rows", "place"] 1 sp_column)
    (c_need_ends : Cal P w K mg base "need_ends" ["count", "joins", "meets"] 2 sp_need_ends) (c_pairs_of : Cal P w K mg base "pairs_of" ["count", "reach"] 1 sp_pairs_of) : FnOk P w K mg base CX0 5 f fd ["self", "count", "pairs"] (sp_init K C) := by
  refine F.ok sc_Order_init (fun vs H Q E h => ?_) (fun cdv A outer s H vs Q E hr h => ?_)
  · obtain ⟨p, dx, n, a, ps, rfl, _⟩ := h
    rfl
  · obtain ⟨p, dx, n, a, ps, rfl, hp, hps, h1, hn, hb, hg, k⟩ := h
    have nd := sc_Order_init.nd
    have en : ((n : Int)).toNat = n := Int.toNat_natCast n
    refine ⟨_, (pss_cons (ps_expr (pe_callC c_need_count hr rfl (pa_cons (pv 1) pa_nil)))
      (pss_cons (ps_expr (pe_callC c_need_pairs hr rfl (pa_cons (pv 1) (pa_cons (pv 2) pa_nil))))
      (pss_cons (ps_set (i := 3) nd rfl (Or.inr rfl) (pe_callC c_reach_of hr rfl (pa_cons (pv 1) (pa_cons (pv 2) pa_nil))))
      (pss_cons (ps_expr (pe_callC c_need_one_way hr rfl (pa_cons (pv 1) (pa_cons (pv 3) pa_nil))))
      (pss_cons (ps_set (i := 4) nd rfl (Or.inl rfl) (pe_callC c_ends_of hr rfl (pa_cons (pv 3) pa_nil)))
      (pss_cons (ps_set (i := 5) nd rfl (Or.inl rfl) (pe_callC c_ends_of hr rfl (pa_cons (pe_comp (own := ["thing"]) (fr := [("reach", 3)]) rfl (blkOk (defScope s_Order_init) ["self", "count", "pairs", "reach", "joins", "meets"] rfl rfl (by decide +kernel)) (pi_range1 rfl T.range (pa_cons (pv 1) pa_nil)) (fun _ _ _ _ => ⟨(pg_name (i := 0) (by decide +kernel : (["thing", "reach"] : List Str).Nodup) rfl (Or.inl rfl)), pif_nil, (pe_callC c_column hr rfl (pa_cons (pv 1) (pa_cons (pv 0) pa_nil)))⟩)) pa_nil)))
      (pss_cons (ps_expr (pe_callC c_need_ends hr rfl (pa_cons (pv 1) (pa_cons (pv 4) (pa_cons (pv 5) pa_nil (star_of (fun _ _ h => nomatch h))) (star_of (fun _ _ h => nomatch h))) (star_of (fun _ _ h => nomatch h)))))
      (pss_cons (ps_fldK (K := K) rfl (pv 0) (pv 1) rfl)
      (pss_cons (ps_fldK (K := K) rfl (pv 0) (pe_callC c_pairs_of hr rfl (pa_cons (pv 1) (pa_cons (pv 3) pa_nil))) rfl)
      (pss_cons (ps_fldK (K := K) rfl (pv 0) (pv 3) rfl)
      (pss_cons (ps_fldK (K := K) rfl (pv 0) (pv 4) rfl)
      (pss_one (ps_fldK (K := K) rfl (pv 0) (pv 5) rfl))))))))))))), ?_⟩
    refine ⟨_, rfl, ⟨n, rfl, by omega, by omega⟩, fun v1 H1 s1 _ => ?_⟩
    refine ⟨_, rfl, _, rfl, ⟨n, a, ps, rfl, hps.same s1, hb⟩, fun v2 H2 s2 _ => ?_⟩
    have s02 := s1.trans s2
    refine ⟨_, rfl, _, rfl, n, a, ps, rfl, hps.same s02, hn, hb, fun vr H3 R s3 hC ht => ?_⟩
    have G := hg R hC
    refine ⟨_, rfl, _, rfl, n, vr, R, rfl, ht, hn, fun x y hx hy ⟨h1, h2⟩ => absurd (G.anti x y (by omega) hy h1 h2) (by omega), fun H4 s4 => ?_⟩
    obtain ⟨ra, us, rfl, q1, q2⟩ := id (ht.same s4)
    refine ⟨_, rfl, false, ra, n, us, R, rfl, SqT.of q1, q2, hn, G.dis, fun vj H5 s5 htj => ?_⟩
    -- meets = ends_of([column(reach, thing) for thing in range(count)])
    refine ⟨_, rfl, n, rfl, (n62 (by omega)).1, (n62 (by omega)).2, fun D hD => ?_⟩
    refine comp_allR (fun i v H => ∃ b, v = .ref b ∧ b ≠ D ∧ H b = some (.tup (rowV n fun j => R j i))) src_range hD (sl24 (by omega)) (fun i v H H' s ⟨b, e, hb, q⟩ => ⟨b, e, hb, s _ _ hb q⟩) (fun i H6 Kt hi hs hy hk => ?_) (fun H6 ys hs hl hp6 => ?_)
    · obtain ⟨zs, hz⟩ := hy
      have hin : i < n := by omega
      have ht6 := ((ht.same s4).same s5).same hs
      refine ⟨_, rfl, _, rfl, ⟨_, n, i, _, by simp, ht6, hin, hn⟩, fun v H7 s7 hv => ?_⟩
      obtain ⟨b, rfl, b1, b2⟩ := hv _ n i _ (by simp) ht6 hin
      exact hk _ H7 s7 ⟨b, rfl, (fun e => by rw [e, hz] at b1; cases b1), b2⟩
    rw [en] at hp6
    have rows6 : RowsT H6 n (fun a b => R b a) ys := Paired.mapP hp6 fun i u ⟨b, e, _, q⟩ => ⟨b, e, q⟩
    refine ⟨true, D, n, ys, _, rfl, SqL.of hl, rows6, hn, G.dis', fun vm H7 s7 htm => ?_⟩
    have htj7 := (htj.same hs).same s7
    have s07 : Same H H7 := ((((s02.trans s3).trans s4).trans s5).trans hs).trans s7
    refine ⟨_, rfl, _, rfl, _, rfl, n, vj, vm, _, _, rfl, htj7, htm, hn, fun x y hx hy => ?_, fun H8 s8 => ?_⟩
    · obtain ⟨c, hc, hj⟩ := G.join x y hx hy
      obtain ⟨d, hd, hm⟩ := G.meet x y hx hy
      rw [endV_some G.dis hc hj, endV_some G.dis' hd hm]
      exact ⟨(fun z => nomatch z), (fun z => nomatch z)⟩
    have s08 := s07.trans s8
    have hp8 : H8 p = some (.ins C dx []) := s08 _ _ hp
    have htr8 : TT H8 (.ref ra) n (blF R) := ((((ht.same s4).same s5).same hs).same s7).same s8
    -- self.count = count
    refine ⟨_, rfl, _, rfl, p, C, dx, [], rfl, hp8, TC.cl, TC.nC, by show 0 < 1000; decide, ?_⟩
    -- self.pairs = pairs_of(count, reach)
    refine ⟨_, rfl, _, rfl, n, _, R, rfl, htr8.ins hp8, hn, fun vp H9 s9 hpp => ?_⟩
    have hp9 := s9 _ _ (upd_same (H := H8) (a := p) (o := .ins C dx (putF "count" (.int n) [])))
    have htr9 := (htr8.ins hp8 (o := .ins C dx (putF "count" (.int n) []))).same s9
    have htj9 := ((htj7.same s8).ins hp8 (o := .ins C dx (putF "count" (.int n) []))).same s9
    have htm9 := ((htm.same s8).ins hp8 (o := .ins C dx (putF "count" (.int n) []))).same s9
    have l1 : (putF "count" (V.int n) []).length ≤ 1 := length_putF _ _ _
    have l2 : (putF "pairs" vp (putF "count" (V.int n) [])).length ≤ 2 := Nat.le_trans (length_putF _ _ _) (by omega)
    have l3 : (putF "reach" (V.ref ra) (putF "pairs" vp (putF "count" (V.int n) []))).length ≤ 3 := Nat.le_trans (length_putF _ _ _) (by omega)
    have l4 : (putF "joins" vj (putF "reach" (V.ref ra) (putF "pairs" vp (putF "count" (V.int n) [])))).length ≤ 4 := Nat.le_trans (length_putF _ _ _) (by omega)
    refine ⟨_, rfl, p, C, dx, _, rfl, hp9, TC.cl, TC.nP, by omega, ?_⟩
    refine ⟨_, rfl, _, rfl, p, C, dx, _, rfl, upd_same, TC.cl, TC.nR, by omega, ?_⟩
    refine ⟨_, rfl, _, rfl, p, C, dx, _, rfl, upd_same, TC.cl, TC.nJ, by omega, ?_⟩
    refine ⟨_, rfl, _, rfl, p, C, dx, _, rfl, upd_same, TC.cl, TC.nM, by omega, ?_⟩
    rw [upd_upd, upd_upd, upd_upd]
    refine k _ R (fun b o e hbp => ?_) hC ⟨dx, vp, _, vj, vm, upd_same, hpp.ins hp9, htr9.ins hp9, htj9.ins hp9, htm9.ins hp9⟩
    rw [upd_ne hbp]
    refine s9 _ _ ?_
    rw [upd_ne hbp]
    exact s08 _ _ e
end
end My

set_option Elab.async false
set_option linter.all false
set_option maxRecDepth 100000
namespace My
open PySem PySem.Spec PyProof.Rows L2
structure CalMk (P : Program) (w : World) (K : PySem.W.Frag) (mg : Str → Option Value) (base : Heap) (C : Addr) (x : Str) (ps : List Str) (k : Nat) (sp : Sp) : Prop where
  ex : ∃ (f : Addr) (fd : FuncData), FnOk P w K mg base CX0 k f fd ps sp ∧ Mk K C f ∧ mg x = some (.ref C) ∧ Binds K fd ps []
section
variable {X : Cx} {C : Addr} {x : Str} {ps : List Str} {k k' : Nat} {sp : Sp} {e : Expr} {es : List Expr} {t : TA} {p pos : Pos}
theorem pe_makeC (c : CalMk X.prog X.w X.K X.mg X.base C x ps k sp) (hr : Room k' X.A) (hg : Gl X x) (ha : PA X (e :: es) t) (hk : k + 1 ≤ k' := by decide) (hdb : (x == ("__debug__" : Str)) = false := by decide)
    (he : starEach (e :: es) X.env = (false, eval e X.env) :: starEach es X.env := by rfl) (hpl : (backTo pos (starEach es X.env)).any (·.1) = false := by rfl) : PE X (.Call (.Name x p) (e :: es) [] pos) (tMake C sp [] E0 t) := by
  obtain ⟨f, fd, F, M, hm, b⟩ := c.ex
  exact pe_make M F (hr.mono hk) hg hm b .nil pass0 ha hdb he hpl
end
def sp_law (K : PySem.W.Frag) : Sp := fun vs H Q _ => ∃ (a : Nat) (ns : List Int), vs = [.ref a] ∧ SqL K H a (ns.map V.int) ∧ ns.length ≤ 63 ∧ ∀ H', Q (.bl true) H'
end My

set_option Elab.async false
set_option linter.all false
set_option maxRecDepth 100000
namespace My
open PySem PySem.Spec PyProof.Rows L2
structure FunAt (K : PySem.W.Frag) (x : Str) (st : Stmt) : Prop where
  ex : ∃ (f : Addr) (fd : FuncData), PySem.W.nsIn K mainGlobals x = some (some (.ref f)) ∧ Fun K x x st f fd
theorem FunAt.mk' {K : PySem.W.Frag} {x : Str} {st : Stmt} {f : Addr} {oc : Value} {od an : Option Addr} {osl : Array (Option Value)} {kV doc pm cdv ct : Value} (a : PySem.W.nsIn K mainGlobals x = some (some (.ref f)))
    (l : K.lookup f = some ⟨oc, od, .func (PySem.W.fnOf x x (defArgs st) (defBody st) (defScope st) .none kV doc pm an cdv ct), osl⟩) (c : PySem.W.codeIn K cdv x = true) (k : PySem.W.keepIn K (.ref f) = true) : FunAt K x st := ⟨f, _, a, fun_mk l c k⟩
abbrev BindOk (x : Str) (st : Stmt) (ps : List Str) : Prop := ∀ (kV doc pm : Value) (an : Option Addr) (cdv ct : Value) (us : List Value), us.length = ps.length → bindArgs (PySem.W.fnOf x x (defArgs st) (defBody st) (defScope st) .none kV doc pm an cdv ct) ⟨us, []⟩ = pure (ps.zip us)
theorem FunAt.cal {P : Program} {w : World} {K : PySem.W.Frag} {mg : Str → Option Value} {base h : Heap} {x : Str} {st : Stmt} {ps : List Str} {k : Nat} {sp : Sp} (A : FunAt K x st) (X : K.In h) (G : h.Ns mainGlobals mg) (hb : BindOk x st ps)
    (ok : ∀ {f : Addr} {fd : FuncData}, Fun K x x st f fd → FnOk P w K mg base CX0 k f fd ps sp) : Cal P w K mg base x ps k sp := by
  obtain ⟨f, fd, a, F⟩ := A.ex
  exact ⟨f, fd, ok F, PySem.W.mg_of X G a, F.kp, F.binds hb⟩
structure ClsAt (K : PySem.W.Frag) (x qual : Str) (st : Stmt) (C : Addr) : Prop where
  ns : PySem.W.nsIn K mainGlobals x = some (some (.ref C))
  cl : Cls K C
  ex : ∃ (f : Addr) (fd : FuncData), Fun K "__init__" qual st f fd ∧ Mk K C f
theorem ClsAt.mk' {K : PySem.W.Frag} {x qual : Str} {st : Stmt} {C f : Addr} {oc : Value} {od an : Option Addr} {osl : Array (Option Value)} {kV doc pm cdv ct : Value} (ns : PySem.W.nsIn K mainGlobals x = some (some (.ref C)))
    (pg : PySem.W.plainGet K C Str.empty = true) (hd : PySem.W.hasDictIn K C = true) (po : PySem.W.plainOver K C = true) (sa : PySem.W.findIn K (.ref C) "__setattr__" = some (some (.builtin "object.__setattr__"))) (mk : PySem.W.makesIn K C = true) (kc : PySem.W.keepIn K (.ref C) = true)
    (a : PySem.W.findIn K (.ref C) "__init__" = some (some (.ref f))) (i : PySem.W.isFn K (.ref f) = true)
    (l : K.lookup f = some ⟨oc, od, .func (PySem.W.fnOf "__init__" qual (defArgs st) (defBody st) (defScope st) .none kV doc pm an cdv ct), osl⟩) (c : PySem.W.codeIn K cdv qual = true) (k : PySem.W.keepIn K (.ref f) = true) : ClsAt K x qual st C :=
  ⟨ns, ⟨pg, hd, po, sa⟩, f, _, fun_mk l c k, ⟨mk, a, i, kc⟩⟩
theorem ClsAt.cal {P : Program} {w : World} {K : PySem.W.Frag} {mg : Str → Option Value} {base h : Heap} {x qual : Str} {st : Stmt} {C : Addr} {ps : List Str} {k : Nat} {sp : Sp} (A : ClsAt K x qual st C) (X : K.In h) (G : h.Ns mainGlobals mg)
    (hb : ∀ (kV doc pm : Value) (an : Option Addr) (cdv ct : Value) (us : List Value), us.length = ps.length → bindArgs (PySem.W.fnOf "__init__" qual (defArgs st) (defBody st) (defScope st) .none kV doc pm an cdv ct) ⟨us, []⟩ = pure (ps.zip us))
    (ok : ∀ {f : Addr} {fd : FuncData}, Fun K "__init__" qual st f fd → FnOk P w K mg base CX0 k f fd ps sp) : CalMk P w K mg base C x ps k sp := by
  obtain ⟨f, fd, F, M⟩ := A.ex
  exact ⟨f, fd, ok F, M, PySem.W.mg_of X G A.ns, F.binds hb⟩
structure TxtAt (K : PySem.W.Frag) : Prop where
  len : PySem.W.nsIn K mainGlobals "len" = some none
  range : PySem.W.nsIn K mainGlobals "range" = some none
  zip : PySem.W.nsIn K mainGlobals "zip" = some none
  enumerate : PySem.W.nsIn K mainGlobals "enumerate" = some none
  tuple : PySem.W.nsIn K mainGlobals "tuple" = some none
  list : PySem.W.nsIn K mainGlobals "list" = some none
  int : PySem.W.nsIn K mainGlobals "int" = some none
  bool : PySem.W.nsIn K mainGlobals "bool" = some none
  str : PySem.W.nsIn K mainGlobals "str" = some none
  isinstance : PySem.W.nsIn K mainGlobals "isinstance" = some none
  sum : PySem.W.nsIn K mainGlobals "sum" = some none
  any : PySem.W.nsIn K mainGlobals "any" = some none
  all : PySem.W.nsIn K mainGlobals "all" = some none
  sorted : PySem.W.nsIn K mainGlobals "sorted" = some none
  min : PySem.W.nsIn K mainGlobals "min" = some none
  max : PySem.W.nsIn K mainGlobals "max" = some none
  most : ∃ t, PySem.W.nsIn K mainGlobals "MOST_THINGS" = some (some (.int 24 t))
theorem TxtAt.txt {K : PySem.W.Frag} {mg : Str → Option Value} {h : Heap} (A : TxtAt K) (X : K.In h) (G : h.Ns mainGlobals mg) : Txt mg :=
  ⟨PySem.W.mg_none_of X G A.len, PySem.W.mg_none_of X G A.range, PySem.W.mg_none_of X G A.zip, PySem.W.mg_none_of X G A.enumerate, PySem.W.mg_none_of X G A.tuple, PySem.W.mg_none_of X G A.list, PySem.W.mg_none_of X G A.int, PySem.W.mg_none_of X G A.bool, PySem.W.mg_none_of X G A.str,
    PySem.W.mg_none_of X G A.isinstance, PySem.W.mg_none_of X G A.sum, PySem.W.mg_none_of X G A.any, PySem.W.mg_none_of X G A.all, PySem.W.mg_none_of X G A.sorted, PySem.W.mg_none_of X G A.min, PySem.W.mg_none_of X G A.max, let ⟨t, e⟩ := A.most; ⟨t, PySem.W.mg_of X G e⟩⟩
theorem TxtAt.mk' {K : PySem.W.Frag} {t : Tok} (l1 : PySem.W.nsIn K mainGlobals "len" = some none) (l2 : PySem.W.nsIn K mainGlobals "range" = some none) (l3 : PySem.W.nsIn K mainGlobals "zip" = some none) (l4 : PySem.W.nsIn K mainGlobals "enumerate" = some none)
    (l5 : PySem.W.nsIn K mainGlobals "tuple" = some none) (l6 : PySem.W.nsIn K mainGlobals "list" = some none) (l7 : PySem.W.nsIn K mainGlobals "int" = some none) (l8 : PySem.W.nsIn K mainGlobals "bool" = some none) (l9 : PySem.W.nsIn K mainGlobals "str" = some none)
    (l10 : PySem.W.nsIn K mainGlobals "isinstance" = some none) (l11 : PySem.W.nsIn K mainGlobals "sum" = some none) (l12 : PySem.W.nsIn K mainGlobals "any" = some none) (l13 : PySem.W.nsIn K mainGlobals "all" = some none) (l14 : PySem.W.nsIn K mainGlobals "sorted" = some none) (l15 : PySem.W.nsIn K mainGlobals "min" = some none) (l16 : PySem.W.nsIn K mainGlobals "max" = some none) (m : PySem.W.nsIn K mainGlobals "MOST_THINGS" = some (some (.int 24 t))) : TxtAt K := ⟨l1, l2, l3, l4, l5, l6, l7, l8, l9, l10, l11, l12, l13, l14, l15, l16, t, m⟩
theorem walk {l : PySem.W.OpenLaw} {q : Program} {loose : List Str} {XP : (Str → Option Value) → Heap → Prop} {YP : World → Heap → Prop} {d : DefRec} {K : Params → PySem.W.Frag} (hn : l.most = some 63) (hdf : d.params.defaults = [])
    (hY : ∀ (w : World) (h : Heap), YP w h → (K w.params).In h)
    (F : ∀ (w : World) (mg : Str → Option Value) (fa : Addr) (h : Heap), (K w.params).In h → h.Ns mainGlobals mg → mg d.name = some (.ref fa) →
      ∃ fd : FuncData, (∀ (s : Shared) (u : Value), BindsTo s fd ⟨[u], []⟩ [("_law_script", u)]) ∧ ∀ base : Heap, (K w.params).In base → base.Ns mainGlobals mg → FnOk l.prog w (K w.params) mg base CX0 9 fa fd ["_law_script"] (sp_law (K w.params))) :
    PySem.W.WalkO q loose XP YP l.row.toRowW d [] (fun f vs => PySem.call f vs) :=
  L2.walk_of (n := 63) (k := 9) (x := "_law_script") (CX := fun _ => CX0) (sp := fun w => sp_law (K w.params)) hn (by decide) hdf ⟨rfl, by decide, by decide, rfl⟩ hY F (fun _ _ a ns hl _ hS => ⟨a, ns, rfl, hS, hl, fun _ => rfl⟩) fun _ _ _ _ _ z => z
end My

set_option Elab.async false
set_option linter.all false
set_option maxRecDepth 100000
namespace L2
open PySem PySem.Spec PyProof.Rows PySem.Builtin PySem.Builtin.Str
theorem strs_of_vals : ∀ {ts : List Str} {us : List Value}, Vals (ts.map V.str) us → ∃ l : List (Str × Tok), us = strValues l ∧ l.map (·.1) = ts
  | [], _, h => by cases h; exact ⟨[], rfl, rfl⟩
  | t :: ts, _, h => by
    cases h with
    | cons h r =>
      obtain ⟨k, rfl⟩ := h
      obtain ⟨l, rfl, e⟩ := strs_of_vals r
      exact ⟨(t, k) :: l, rfl, by rw [List.map_cons, e]⟩
theorem vals_of_strs : ∀ (l : List (Str × Tok)), Vals ((l.map (·.1)).map V.str) (strValues l)
  | [] => .nil
  | (x, t) :: l => .cons ⟨t, rfl⟩ (vals_of_strs l)
theorem joinOk_of {sep : Str} {texts : List Str} (h : (texts.map fun t => t.length + sep.length).sum ≤ sizeLine) : JoinOk sep texts = true := by
  unfold JoinOk
  rw [List.foldl_toArray]
  have go : ∀ (l : List Str) (n : Nat), l.foldl (fun a b => a + b.length + sep.length) n = n + (l.map fun t => t.length + sep.length).sum := by
    intro l
    induction l with
    | nil => intro n; simp
    | cons t l ih => intro n; rw [List.foldl_cons, ih, List.map_cons, List.sum_cons]; omega
  rw [go]
  rw [Nat.zero_add]
  show (!decide (_ > sizeLine)) = true
  rw [decide_eq_false (Nat.not_lt.mpr h)]
  rfl
def rJoin (K : PySem.W.Frag) : V → List V → Hp → VK → Prop := fun x vs H Q => ∃ (sep : Str) (l : Addr) (ts : List Str), x = .str sep ∧ vs = [.ref l] ∧ SqL K H l (ts.map V.str) ∧ (ts.map fun t => t.length + sep.length).sum ≤ sizeLine ∧ Q (.str (Txt.join sep ts)) H
theorem mt_join {X : Cx} {K : PySem.W.Frag} (hK : X.K = K) : MtR X "str.join" (rJoin K) := by
  subst hK
  intro pins s σ H x vs v us Q I rx rv h
  obtain ⟨sep, l, ts, rfl, rfl, hq, hz, q⟩ := h
  obtain ⟨t, rfl⟩ := rx
  obtain ⟨u, rfl, ru⟩ := rv.one
  cases ru
  obtain ⟨its, r, pl, _⟩ := I.list hq
  obtain ⟨ls, rfl, e⟩ := strs_of_vals r
  exact SC.join pl.isList e (joinOk_of hz) fun t' k => ⟨.str (Txt.join sep ts), H, I.tok _, ⟨_, rfl⟩, q⟩
def rSplit : V → List V → Hp → VK → Prop := fun x vs H Q => ∃ (z y : Str), x = .str z ∧ vs = [.str y] ∧ (y.length == 0) = false ∧ z.length ≤ 1000000 ∧ ∀ l, H l = none → Q (.ref l) (upd H l (.lst ((Txt.split z y).map V.str)))
theorem mt_split {X : Cx} : MtR X "str.split" rSplit := by
  intro pins s σ H x vs v us Q I rx rv h
  obtain ⟨z, y, rfl, rfl, hy, hz, q⟩ := h
  have hp : (partsBetween z (occurrences z y 0 z.length (z.length + 1)) y.length).length ≤ sizeLine := by
    rw [len_partsBetween, sizeLine_eq]
    have := StrLaws.occ_length_le z y 0 z.length (z.length + 1)
    omega
  have hz : z.length ≤ sizeLine := by rw [sizeLine_eq]; omega
  obtain ⟨t, rfl⟩ := rx
  obtain ⟨u, rfl, ⟨t', rfl⟩⟩ := rv.one
  have fin : ∀ (ls : List (Str × Tok)) (k : Nat), ls.map (·.1) = Txt.split z y → (Txt.split z y).length ≤ sizeLine → EP X pins σ Q (.ref s.heap.objs.size) { s with toks := k, heap := s.heap.push { cls := .type "list", data := .seq (strValues ls).toArray } } := fun ls k e hl => by
    refine ⟨.ref s.heap.objs.size, _, I.laid (t' := k) (fun b o e => Heap.get?_push_of_some _ e) (Nat.le_refl _) (show ObjOk X.prog X.w _ _ _ (.lst ((Txt.split z y).map V.str)) from ⟨by rw [List.length_map]; exact hl, strValues ls, _, by rw [← e]; exact vals_of_strs ls, Heap.get?_push_size _ rfl⟩), rfl, q _ (I.hok.fresh (Nat.le_refl _))⟩
  have one : ∀ k, Txt.split z y = [z] → EP X pins σ Q (.ref s.heap.objs.size) { s with toks := k, heap := s.heap.push { cls := .type "list", data := .seq (strValues [(z, t)]).toArray } } := fun k e => fin [(z, t)] k (by rw [e]; rfl) (by rw [e]; show 1 ≤ sizeLine; decide)
  cases h1 : (decide (z.length < y.length) || decide (strKind z < strKind y))
  · cases hf : (occurrences z y 0 z.length (z.length + 1)).isEmpty
    · have e : Txt.split z y = partsBetween z (occurrences z y 0 z.length (z.length + 1)) y.length := (if_neg (ne_true_of_eq_false h1)).trans (if_neg (ne_true_of_eq_false hf))
      refine call_meets PySem.F.slot_str_split (typeIs_str _ _ _) PySem.F.entry_str_split (PySem.F.args_str_split_2 _ _) (meets_str_split_sep z y t t' h1 hy hf hz hp) ?_
      show wants (EP X pins σ Q) X.xe _ { s with toks := _, heap := s.heap.push { cls := .type "list", data := .seq (strsFrom s.toks (partsBetween z (occurrences z y 0 z.length (z.length + 1)) y.length)).toArray } }
      rw [strsFrom_eq]
      exact fin (numbered s.toks _) _ ((numbered_texts _ _).trans e.symm) (by rw [e]; exact hp)
    · exact call_meets PySem.F.slot_str_split (typeIs_str _ _ _) PySem.F.entry_str_split (PySem.F.args_str_split_2 _ _) (meets_str_split_not_found z y t t' h1 hy hf) (one s.toks ((if_neg (ne_true_of_eq_false h1)).trans (if_pos hf)))
  · exact call_meets PySem.F.slot_str_split (typeIs_str _ _ _) PySem.F.entry_str_split (PySem.F.args_str_split_2 _ _) (meets_str_split_cannot_occur z y t t' h1) (one s.toks (if_pos h1))
end L2

set_option Elab.async false
set_option linter.all false
set_option maxRecDepth 100000
namespace L2
open PySem PySem.Spec PyProof.Rows
theorem call_intS {X : Cx} : CallR X (.type "int") (fun xs H Q => ∃ (x : Str) (n : Int), xs = [.str x] ∧ PySem.intText? x = some n ∧ x.length ≤ 640 ∧ Q (.int n) H) := by
  intro pins s σ H xs us Q I r h
  obtain ⟨x, n, rfl, hn, hl, q⟩ := h
  obtain ⟨u, rfl, ru⟩ := vals1 r
  obtain ⟨t, rfl⟩ := ru
  exact PySem.W.KIN.call_text hn hl ⟨.int n, H, I.tok _, ⟨_, rfl⟩, q⟩
end L2

set_option Elab.async false
set_option linter.all false
set_option maxRecDepth 100000
namespace L2
open PySem PySem.Spec PyProof.Rows
def tFii (ta tb : TE) (c : Str) : TE := fun σ H Q => ta σ H fun x H1 => ∃ i : Int, x = .int i ∧ i.natAbs.log2 < 1920 ∧ tb σ H1 fun y H2 => ∃ k : Int, y = .int k ∧ k.natAbs.log2 < 1920 ∧ Q (.str ((toString i : Str) ++ c ++ (toString k : Str))) H2
theorem str_empty_append (a : Str) : Str.empty ++ a = a := by
  cases a with
  | mk c =>
    show (⟨#[] ++ c⟩ : Str) = ⟨c⟩
    simp
section
variable {X : Cx} {e1 e2 : Expr} {ta tb : TE} {c : Str} {j} {p1 p2 p3 pos : Pos}
theorem pe_fii (ha : PE X e1 ta) (hb : PE X e2 tb) (hc : c.length ≤ 1000 := by decide) : PE X (.JoinedStr [.FormattedValue e1 (-1) none p1, .Constant (.str c) j p2, .FormattedValue e2 (-1) none p3] pos) (tFii ta tb c) := by
  intro pins s σ H Q I h
  have hz := sizeLine_eq
  refine wpAny_JoinedStr ?_
  show wpAny _ _ (eval (.FormattedValue e1 (-1) none p1) X.env) _ _ _
  refine wpAny_FormattedValue_plain (thn (ha pins _ σ H _ I h) fun v s1 ⟨x, H1, I1, rx, i, ex, hl, h2⟩ => ?_)
  subst ex
  obtain ⟨t, rfl⟩ := (show ∃ t, v = Value.int i t from rx)
  have l1 := int_text_length_le (by decide) hl
  refine wpAny_formatField_int hl ⟨_, _, rfl, ?_, ?_⟩
  · rw [str_empty_append]; exact int_text_fits hl
  rw [str_empty_append]
  show wpAny _ _ (eval (.Constant (.str c) j p2) X.env) _ _ _
  refine Calls.Constant_str ⟨c, _, rfl, ?_, ?_⟩
  · rw [Str.length_append, PySem.ofString_length]; omega
  show wpAny _ _ (eval (.FormattedValue e2 (-1) none p3) X.env) _ _ _
  refine wpAny_FormattedValue_plain (thn (hb pins _ σ H1 _ ((I1.tok _).tok _) h2) fun v s2 ⟨y, H2, I2, ry, k, ey, hk, q⟩ => ?_)
  subst ey
  obtain ⟨t2, rfl⟩ := (show ∃ t, v = Value.int k t from ry)
  have l2 := int_text_length_le (by decide) hk
  have hlen : ((toString i : Str) ++ c ++ (toString k : Str)).length ≤ sizeLine := by
    rw [Str.length_append, Str.length_append, PySem.ofString_length, PySem.ofString_length]; omega
  exact wpAny_formatField_int hk ⟨_, _, rfl, hlen, hlen, .str _, H2, (I2.tok _).tok _, ⟨_, rfl⟩, q⟩
end
end L2

set_option Elab.async false
set_option linter.all false
set_option maxRecDepth 100000
namespace L2
open PySem PySem.Spec PyProof.Rows PySem.Builtin PySem.Builtin.Str
theorem cut_uniq {c : Nat} : ∀ {p q A B : List Nat}, c ∉ p → c ∉ q → p ++ c :: A = q ++ c :: B → p = q ∧ A = B
  | [], [], _, _, _, _, h => by
    simp only [List.nil_append, List.cons.injEq] at h
    exact ⟨rfl, h.2⟩
  | [], y :: q, _, _, _, hq, h => by
    simp only [List.nil_append, List.cons_append, List.cons.injEq] at h
    exact absurd (List.mem_cons.mpr (.inl h.1)) hq
  | x :: p, [], _, _, hp, _, h => by
    simp only [List.nil_append, List.cons_append, List.cons.injEq] at h
    exact absurd (List.mem_cons.mpr (.inl h.1.symm)) hp
  | x :: p, y :: q, _, _, hp, hq, h => by
    simp only [List.cons_append, List.cons.injEq] at h
    obtain ⟨e1, e2⟩ := cut_uniq (fun z => hp (List.mem_cons_of_mem _ z)) (fun z => hq (List.mem_cons_of_mem _ z)) h.2
    exact ⟨by rw [h.1, e1], e2⟩
theorem str_eq_of {a b : Str} (h : a.cps.toList = b.cps.toList) : a = b := by
  cases a with
  | mk x => cases b with
    | mk y =>
      have : x = y := Array.toList_inj.mp h
      rw [this]
def FreeOf (c : Nat) (p : Str) : Prop := c ∉ p.cps.toList
theorem join_cons2 (c : Nat) (p q : Str) (r : List Str) : (Str.join ⟨#[c]⟩ (p :: q :: r)).cps.toList = p.cps.toList ++ c :: (Str.join ⟨#[c]⟩ (q :: r)).cps.toList := by
  show (p ++ ⟨#[c]⟩ ++ Str.join ⟨#[c]⟩ (q :: r)).cps.toList = _
  rw [show ∀ a b : Str, (a ++ b).cps = a.cps ++ b.cps from fun _ _ => rfl, show ∀ a b : Str, (a ++ b).cps = a.cps ++ b.cps from fun _ _ => rfl]
  simp
theorem join_inj {c : Nat} : ∀ {ps qs : List Str}, ps ≠ [] → qs ≠ [] → (∀ p ∈ ps, FreeOf c p) → (∀ q ∈ qs, FreeOf c q) → Str.join ⟨#[c]⟩ ps = Str.join ⟨#[c]⟩ qs → ps = qs
  | [], _, h, _, _, _, _ => absurd rfl h
  | _ :: _, [], _, h, _, _, _ => absurd rfl h
  | [p], [q], _, _, _, _, h => by rw [show p = q from h]
  | [p], q :: q' :: r, _, _, hp, _, h => by
    have e := congrArg (fun s : Str => s.cps.toList) h
    rw [join_cons2] at e
    exact absurd (show c ∈ p.cps.toList by rw [show p.cps.toList = _ from e]; simp) (hp p (List.mem_singleton.mpr rfl))
  | p :: p' :: r, [q], _, _, _, hq, h => by
    have e := congrArg (fun s : Str => s.cps.toList) h
    rw [join_cons2] at e
    exact absurd (show c ∈ q.cps.toList by rw [← show _ = q.cps.toList from e]; simp) (hq q (List.mem_singleton.mpr rfl))
  | p :: p' :: r, q :: q' :: r', _, _, hp, hq, h => by
    have e := congrArg (fun s : Str => s.cps.toList) h
    simp only [join_cons2] at e
    obtain ⟨e1, e2⟩ := cut_uniq (hp p (List.mem_cons_self ..)) (hq q (List.mem_cons_self ..)) e
    rw [str_eq_of e1, join_inj (by simp) (by simp) (fun z hz => hp z (List.mem_cons_of_mem _ hz)) (fun z hz => hq z (List.mem_cons_of_mem _ hz)) (str_eq_of e2)]
theorem split_join {c : Nat} {ps : List Str} (h0 : ps ≠ []) (h : ∀ p ∈ ps, FreeOf c p) : Txt.split (Txt.join ⟨#[c]⟩ ps) ⟨#[c]⟩ = ps := by
  rw [show Txt.join ⟨#[c]⟩ ps = Str.join ⟨#[c]⟩ ps from PySem.StrLaws.glued_eq_join _ _]
  refine join_inj (c := c) ?_ h0 (fun q hq => PySem.StrLaws.split_free _ c q hq) h (PySem.StrLaws.join_split _ _)
  intro e
  have := split_pos (Str.join ⟨#[c]⟩ ps) ⟨#[c]⟩
  rw [e] at this
  exact absurd this (by decide)
theorem num_signs (n : Nat) : ((toString ((n : Nat) : Int) : Str)).cps.toList = (Nat.toDigits 10 n).map Char.toNat := PySem.W.KIN.signs_num n
theorem num_digit {n c : Nat} (h : c ∈ ((toString ((n : Nat) : Int) : Str)).cps.toList) : 48 ≤ c ∧ c ≤ 57 := by
  rw [num_signs] at h
  obtain ⟨ch, hch, e⟩ := List.mem_map.mp h
  have r := digit_range (Nat.isDigit_of_mem_toDigits (by decide) (by decide) hch)
  rw [← e]
  exact r
theorem num_free {n c : Nat} (h : c < 48 ∨ 57 < c) : FreeOf c (toString ((n : Nat) : Int) : Str) := fun z => by
  have := num_digit z
  omega
theorem pair_join (a b : Str) : a ++ "<" ++ b = Txt.join ⟨#[60]⟩ [a, b] := by
  rw [show Txt.join ⟨#[60]⟩ [a, b] = Str.join ⟨#[60]⟩ [a, b] from PySem.StrLaws.glued_eq_join _ _]
  rfl
theorem split_pair (a b : Nat) : Txt.split ((toString (a : Int) : Str) ++ "<" ++ (toString (b : Int) : Str)) "<" = [(toString (a : Int) : Str), (toString (b : Int) : Str)] := by
  rw [pair_join, show ("<" : Str) = ⟨#[60]⟩ from rfl]
  exact split_join (by simp) fun p hp => by
    rcases List.mem_cons.mp hp with rfl | hp
    · exact num_free (by omega)
    · rw [List.mem_singleton.mp hp]; exact num_free (by omega)
end L2

set_option Elab.async false
set_option linter.all false
set_option maxRecDepth 100000
namespace L2
open PySem PySem.Spec PyProof.Rows
def Itx (x : Str) : It := ⟨fun i _ => i < x.cps.size, fun i H v H' => H' = H ∧ ∃ c, x.cps[i]? = some c ∧ v = .str ⟨#[c]⟩, fun i _ => i = x.cps.size⟩
theorem turn_ascii {P : Program} {w : World} {K : PySem.W.Frag} {tg : Expr} (x : Str) (t : Tok) (it : Addr) : Turn P w K tg (Itx x) [it] it (fun i h => h.IsStrIter it "str_ascii_iterator" x t i) where
  mem := by simp
  obj := fun i h st b hb => by
    have e : b = it := by simpa using hb
    subst e
    obtain ⟨o, e, c, d⟩ := st
    exact ⟨o, e, fun v z => by rw [d] at z; cases z⟩
  keep := fun i h h' st k => by
    obtain ⟨o, e, c, d⟩ := st
    exact ⟨o, k it (by simp) o e, c, d⟩
  item := by
    intro X hP hw hK hc i pins s σ H E I hf st hg
    subst hP hw hK
    have hi : i < x.cps.size := hg
    obtain ⟨f0, f1, f2, f3, f4, f5⟩ := hf it (by simp)
    refine wpAny_pyNext_ascii_item st (Array.getElem?_eq_getElem hi) fun h' st' sb => ?_
    have I1 : Inv X pins σ H { s with heap := h', toks := s.toks + 1 } := I.turned (fun b o hb e => (sb.2 b hb).trans e) f0 f1 f3 f4 f5
    obtain ⟨o, e, c, d⟩ := id st'
    exact ⟨_, rfl, go_of (s := { s with heap := h', toks := s.toks + 1 }) e c d (by decide) ⟨.str ⟨#[x.cps[i]]⟩, H, I1, ⟨_, rfl⟩, ⟨rfl, _, Array.getElem?_eq_getElem hi, rfl⟩, st', fun b hb => (hf b hb).1⟩⟩
  done := by
    intro X hP hw hK hc i pins s σ H E I hf st hg
    subst hP hw hK
    have hg : i = x.cps.size := hg
    obtain ⟨f0, f1, f2, f3, f4, f5⟩ := hf it (by simp)
    exact wpAny_pyNext_ascii_end (I.ok.hd hc) st (by rw [hg]; simp) fun h' eb => ⟨rfl, I.turned (t' := s.toks) (fun b o hb e => eb b o hb e) f0 f1 f3 f4 f5⟩
  self := fun _ _ _ _ _ st h => wpAny_pyIter_striter_ascii st h
theorem turn_wide {P : Program} {w : World} {K : PySem.W.Frag} {tg : Expr} (x : Str) (t : Tok) (it : Addr) : Turn P w K tg (Itx x) [it] it (fun i h => h.IsStrIter it "str_iterator" x t i) where
  mem := by simp
  obj := fun i h st b hb => by
    have e : b = it := by simpa using hb
    subst e
    obtain ⟨o, e, c, d⟩ := st
    exact ⟨o, e, fun v z => by rw [d] at z; cases z⟩
  keep := fun i h h' st k => by
    obtain ⟨o, e, c, d⟩ := st
    exact ⟨o, k it (by simp) o e, c, d⟩
  item := by
    intro X hP hw hK hc i pins s σ H E I hf st hg
    subst hP hw hK
    have hi : i < x.cps.size := hg
    obtain ⟨f0, f1, f2, f3, f4, f5⟩ := hf it (by simp)
    refine wpAny_pyNext_wide_item st (Array.getElem?_eq_getElem hi) fun h' st' sb => ?_
    have I1 : Inv X pins σ H { s with heap := h', toks := s.toks + 1 } := I.turned (fun b o hb e => (sb.2 b hb).trans e) f0 f1 f3 f4 f5
    obtain ⟨o, e, c, d⟩ := id st'
    exact ⟨_, rfl, go_of (s := { s with heap := h', toks := s.toks + 1 }) e c d (by decide) ⟨.str ⟨#[x.cps[i]]⟩, H, I1, ⟨_, rfl⟩, ⟨rfl, _, Array.getElem?_eq_getElem hi, rfl⟩, st', fun b hb => (hf b hb).1⟩⟩
  done := by
    intro X hP hw hK hc i pins s σ H E I hf st hg
    subst hP hw hK
    have hg : i = x.cps.size := hg
    obtain ⟨f0, f1, f2, f3, f4, f5⟩ := hf it (by simp)
    exact wpAny_pyNext_wide_end (I.ok.hd hc) st (by rw [hg]; simp) fun h' eb => ⟨rfl, I.turned (t' := s.toks) (fun b o hb e => eb b o hb e) f0 f1 f3 f4 f5⟩
  self := fun _ _ _ _ _ st h => wpAny_pyIter_striter_wide st h
def iStr (tl : TE) : TI := fun σ H R => tl σ H fun v H1 => ∃ x, v = .str x ∧ R (Itx x) H1
section
variable {X : Cx} {tg : Expr}
theorem pi_str {l : Expr} {tl : TE} (hl : PE X l tl) : PI X tg l (iStr tl) := by
  intro pins s σ H R I h
  refine thn (hl pins s σ H _ I h) fun v s1 ⟨y, H1, I1, r1, q1⟩ => ?_
  obtain ⟨x, e, q⟩ := q1
  subst e
  obtain ⟨t, rfl⟩ := r1
  cases ha : x.cps.all (· < 128)
  · refine wpAny_pyIter_wide ha ?_
    refine ⟨s1.heap.objs.size, [s1.heap.objs.size], _, _, H1, rfl, I1.kept (t' := s1.toks) fun b o e => Heap.get?_push_of_some _ e, turn_wide x t _, ⟨_, Heap.get?_push_size _ rfl, rfl, rfl⟩, fun b hb => ?_, q⟩
    have e : b = s1.heap.objs.size := by simpa using hb
    subst e
    exact I1.fpOk (Nat.le_refl _) (I1.hok.fresh (Nat.le_refl _))
  · refine wpAny_pyIter_ascii ha ?_
    refine ⟨s1.heap.objs.size, [s1.heap.objs.size], _, _, H1, rfl, I1.kept (t' := s1.toks) fun b o e => Heap.get?_push_of_some _ e, turn_ascii x t _, ⟨_, Heap.get?_push_size _ rfl, rfl, rfl⟩, fun b hb => ?_, q⟩
    have e : b = s1.heap.objs.size := by simpa using hb
    subst e
    exact I1.fpOk (Nat.le_refl _) (I1.hok.fresh (Nat.le_refl _))
end
theorem src_str {x : Str} {ρ : L2.St} {H1 : Hp} : SrcOk (Itx x) (gName 0) (none :: ρ) H1 x.cps.size (fun i => some (.str ⟨#[x.cps.getD i 0]⟩) :: ρ) where
  go := fun i H hi hs => hi
  stop := fun H hs => rfl
  step := fun i H v H' Kk hi hs hy hk => by
    obtain ⟨rfl, c, hc, rfl⟩ := hy
    have e : x.cps.getD i 0 = c := by rw [Array.getD_eq_getD_getElem?, hc]; rfl
    have := hk _ (Same.refl _)
    rw [e] at this
    exact ⟨Wk.set (Wk.refl _) rfl, this⟩
end L2

set_option Elab.async false
set_option linter.all false
set_option maxRecDepth 100000
set_option maxHeartbeats 1000000
namespace My
open PySem PySem.Spec PyProof.Rows L2
abbrev nS (n : Nat) : Str := (toString ((n : Nat) : Int) : Str)
abbrev figs : Str := "0123456789"
theorem fig_in : ∀ c, 48 ≤ c → c ≤ 57 → (!(Builtin.Str.occurrences figs ⟨#[c]⟩ 0 figs.length 1).isEmpty) = true := by
  intro c h1 h2
  have : ∀ d < 10, (!(Builtin.Str.occurrences figs ⟨#[48 + d]⟩ 0 figs.length 1).isEmpty) = true := by decide +kernel
  have e := this (c - 48) (by omega)
  rw [show 48 + (c - 48) = c by omega] at e
  exact e
theorem nS_ne (n : Nat) : nS n ≠ "" := fun e => by
  have h := congrArg (fun s : Str => s.cps.toList) e
  rw [show (nS n).cps.toList = _ from num_signs n] at h
  have h2 := toDigits_len_ge 10 n
  have h3 : (Nat.toDigits 10 n) = [] := List.map_eq_nil_iff.mp h
  rw [h3] at h2
  exact absurd h2 (by decide)
theorem first_digit : ∀ n : Nat, 0 < n → ∃ c r, Nat.toDigits 10 n = c :: r ∧ c.toNat ≠ 48 := by
  intro n
  induction n using Nat.strongRecOn with
  | _ n ih =>
    intro h0
    by_cases h : n < 10
    · rw [Nat.toDigits_of_lt_base h]
      exact ⟨_, _, rfl, (show ∀ m < 10, 0 < m → (Nat.digitChar m).toNat ≠ 48 by decide) n h h0⟩
    · have hm : n % 10 < 10 := Nat.mod_lt n (by decide)
      have t : Nat.toDigits 10 (n / 10) ++ Nat.toDigits 10 (n % 10) = Nat.toDigits 10 (10 * (n / 10) + n % 10) := Nat.toDigits_append_toDigits (by decide) (by omega) hm
      rw [Nat.div_add_mod] at t
      obtain ⟨c, r, e, hc⟩ := ih (n / 10) (by omega) (by omega)
      exact ⟨c, _, by rw [← t, e, List.cons_append], hc⟩
theorem nS_len {n : Nat} (h : n < 100000) : (nS n).length ≤ 11 := by
  have h1 := PySem.W.KT.len_num (show (0 : Int) ≤ (n : Int) by omega) (show (n : Int) < 10 ^ 10 by omega)
  exact Nat.le_trans h1 (by decide)
theorem pS_len {a b : Nat} (ha : a < 100000) (hb : b < 100000) : (nS a ++ "<" ++ nS b).length ≤ 23 := by
  have h1 := nS_len ha
  have h2 := nS_len hb
  rw [Str.length_append, Str.length_append]
  have h3 : ("<" : Str).length = 1 := rfl
  omega
theorem nS_int {n : Nat} (h : n < 100000) : PySem.intText? (nS n) = some (n : Int) := PySem.W.KIN.num_reads (show (0 : Int) ≤ (n : Int) by omega) (show (n : Int) < 10 ^ 10 by omega)
theorem all_true (n : Nat) : ((List.range n).map fun _ => V.bl true) = ((List.range n).map fun _ => true).map V.bl := by rw [List.map_map]; rfl
section
variable {P : Program} {w : World} {K : PySem.W.Frag} {mg : Str → Option Value} {base : Heap} {f : Addr} {fd : FuncData}
abbrev s_is_number : Stmt := top 33
theorem sc_is_number : FnScope ["word"] ["word"] (defScope s_is_number) := ⟨rfl, rfl, rfl, by decide +kernel, rfl, by decide +kernel, by decide +kernel⟩
def sp_is_number : Sp := fun vs H Q _ => ∃ n : Nat, vs = [.str (nS n)] ∧ n < 100000 ∧ ∀ H', Same H H' → Q (.bl true) H'
theorem ok_is_number (F : Fun K "is_number" "is_number" s_is_number f fd) (T : Txt mg) (v_FIGURES : ∃ t, mg "FIGURES" = some (.str "0123456789" t)) : FnOk P w K mg base CX0 1 f fd ["word"] sp_is_number := by
  refine F.ok sc_is_number (fun vs H Q E h => ?_) (fun cdv A outer s H vs Q E hr h => ?_)
  · obtain ⟨n, rfl, _⟩ := h
    rfl
  · obtain ⟨n, rfl, hn, kk⟩ := h
    have nd := sc_is_number.nd
    obtain ⟨tF, eF⟩ := v_FIGURES
    refine ⟨_, (pss_cons (ps_if (PW.pt (pw_or (pt_cmpR op_eq (pv 0) pe_str (nomark _)) (pw_or1 (pt_not (pt_val (pe_callB (call_allK (K := K) rfl rfl) rfl T.all boot_all (pa_cons (pe_comp (own := ["sign"]) (fr := []) rfl (blkOk (defScope s_is_number) ["word"] rfl rfl (by decide +kernel)) (pi_str (pv 0)) (fun _ _ _ _ => ⟨(pg_name (i := 0) (by decide +kernel : (["sign"] : List Str).Nodup) rfl (Or.inl rfl)), pif_nil, (pe_cmpR op_in_str (pv 0) (pe_glob (v := .str figs) rfl eF ⟨_, rfl⟩) (by with_unfolding_all rfl))⟩)) pa_nil))))))) (pss_one (ps_ret pe_bl)) pss_nil)
      (pss_one (ps_ret (pe_or (pe_cmpR op_eq (pv 0) pe_str (nomark _)) (pe_one (pe_cmpR op_ne (pe_ix ix_str (pv 0) pe_int (fun _ _ => rfl)) pe_str (nomark _))))))), ?_⟩
    have hne := nS_ne n
    have hsz : (nS n).cps.size < sizeLine := by
      have h1 := PySem.W.KT.len_num (show (0 : Int) ≤ (n : Int) by omega) (show (n : Int) < 10 ^ 10 by omega)
      exact Nat.lt_of_le_of_lt h1 (by decide)
    refine ⟨_, rfl, rfl, _, rfl, ?_⟩
    rw [decide_eq_false (show ¬ V.str (nS n) = V.str "" from fun e => hne (V.str.inj e))]
    refine iteF ?_
    refine ⟨_, rfl, _, rfl, fun D hD => comp_all (fun _ => .bl true) src_str hD hsz (fun i H3 Kt hi hs hk => ?_) (fun H3 hs hl => ?_)⟩
    · refine ⟨_, rfl, _, _, rfl, rfl, ?_⟩
      have hm : (nS n).cps.getD i 0 ∈ (nS n).cps.toList := by
        rw [Array.getD_eq_getD_getElem?, Array.getElem?_eq_getElem hi]
        exact Array.mem_toList_iff.mpr (Array.getElem_mem hi)
      obtain ⟨d1, d2⟩ := num_digit hm
      rw [fig_in _ d1 d2]
      exact hk _ (Same.refl _)
    · rw [all_true] at hl
      refine ⟨D, _, rfl, SqL.of hl, ?_⟩
      rw [show ((List.range (nS n).cps.size).map fun _ => true).all id = true by simp]
      refine ⟨_, rfl, iteF ?_⟩
      by_cases h0 : n = 0
      · subst h0
        refine ⟨_, rfl, rfl, _, rfl, ?_⟩
        rw [decide_eq_true (show V.str (nS 0) = V.str "0" from rfl)]
        exact iteT (kk _ hs)
      · obtain ⟨c, r, e, hc⟩ := first_digit n (by omega)
        have e2 : (nS n).cps.toList = c.toNat :: r.map Char.toNat := by rw [show (nS n).cps.toList = _ from num_signs n, e]; rfl
        have n0 : ¬ V.str (nS n) = V.str "0" := fun z => by
          have z2 := congrArg (fun s : Str => s.cps.toList) (V.str.inj z)
          rw [show (nS n).cps.toList = _ from e2] at z2
          have z3 := List.head_eq_of_cons_eq z2
          exact hc z3
        refine ⟨_, rfl, rfl, _, rfl, ?_⟩
        rw [decide_eq_false n0]
        refine iteF ⟨_, rfl, _, 0, c.toNat, rfl, rfl, Nat.le_of_lt hsz, by rw [e2]; exact atI_nat (j := 0) rfl, rfl, ?_⟩
        rw [decide_eq_false (show ¬ V.str ⟨#[c.toNat]⟩ = V.str "0" from fun z => hc (by
          have z2 := congrArg (fun s : Str => s.cps.toList) (V.str.inj z)
          exact List.head_eq_of_cons_eq z2))]
        exact kk _ hs
abbrev s_is_pair : Stmt := top 34
theorem sc_is_pair : FnScope ["word", "numbers"] ["word"] (defScope s_is_pair) := ⟨rfl, rfl, rfl, by decide +kernel, rfl, by decide +kernel, by decide +kernel⟩
def sp_is_pair : Sp := fun vs H Q _ => ∃ a b : Nat, vs = [.str (nS a ++ "<" ++ nS b)] ∧ a < 100000 ∧ b < 100000 ∧ ∀ H', Same H H' → Q (.bl true) H'
theorem ok_is_pair (F : Fun K "is_pair" "is_pair" s_is_pair f fd) (T : Txt mg) (c_is_number : Cal P w K mg base "is_number" ["word"] 1 sp_is_number) : FnOk P w K mg base CX0 2 f fd ["word"] sp_is_pair := by
  refine F.ok sc_is_pair (fun vs H Q E h => ?_) (fun cdv A outer s H vs Q E hr h => ?_)
  · obtain ⟨a, b, rfl, _⟩ := h
    rfl
  · obtain ⟨a, b, rfl, ha, hb, kk⟩ := h
    have nd := sc_is_pair.nd
    refine ⟨_, (pss_cons (ps_set (i := 1) nd rfl (Or.inl rfl) (pe_bmK (K := K) rfl PySem.F.plainAttrs_str PySem.F.slot_str_split PySem.F.type_str_split mt_split (pv 0) (pa_cons pe_str pa_nil)))
      (pss_one (ps_ret (pe_and (pe_cmpR op_eq (pe_callB (call_lenK (K := K) rfl) rfl T.len PySem.boot_len (pa_cons (pv 1) pa_nil)) pe_int (nomark _)) (pe_one (pe_callB (call_allK (K := K) rfl rfl) rfl T.all boot_all (pa_cons (pe_comp (own := ["number"]) (fr := []) rfl (blkOk (defScope s_is_pair) ["word", "numbers"] rfl rfl (by decide +kernel)) (pi_listK (K := K) rfl (pv 1)) (fun _ _ _ _ => ⟨(pg_name (i := 0) (by decide +kernel : (["number"] : List Str).Nodup) rfl (Or.inl rfl)), pif_nil, (pe_callC c_is_number hr rfl (pa_cons (pv 0) pa_nil))⟩)) pa_nil))))))), ?_⟩
    refine ⟨_, rfl, rfl, _, _, rfl, rfl, rfl, Nat.le_trans (pS_len ha hb) (by decide), fun l hl => ?_⟩
    rw [show Txt.split (nS a ++ "<" ++ nS b) "<" = [nS a, nS b] from split_pair a b]
    dsimp only [gName]
    have s1 := Same.put hl (o := .lst ([nS a, nS b].map V.str))
    refine ⟨_, rfl, l, _, rfl, .inl (SqL.of upd_same), rfl, _, rfl, iteT ?_⟩
    refine ⟨_, rfl, l, rfl, ⟨_, SqL.of upd_same⟩, fun D hD => comp_all (fun _ => .bl true) (src_list (SqL.of upd_same)) hD (by show 2 < sizeLine; decide) (fun i H3 Kt hi hs hk => ?_) (fun H3 hs hl3 => ?_)⟩
    · have hi : i < 2 := hi
      match i, hi with
      | 0, _ => exact ⟨_, rfl, a, rfl, ha, fun H4 s4 => hk _ s4⟩
      | 1, _ => exact ⟨_, rfl, b, rfl, hb, fun H4 s4 => hk _ s4⟩
    · rw [all_true] at hl3
      exact ⟨D, _, rfl, SqL.of hl3, kk _ (s1.trans hs)⟩
abbrev s_read_pair : Stmt := top 35
theorem sc_read_pair : FnScope ["word", "numbers"] ["word"] (defScope s_read_pair) := ⟨rfl, rfl, rfl, by decide +kernel, rfl, by decide +kernel, by decide +kernel⟩
def sp_read_pair : Sp := fun vs H Q _ => ∃ a b : Nat, vs = [.str (nS a ++ "<" ++ nS b)] ∧ a < 100000 ∧ b < 100000 ∧ ∀ t H', Same H H' → H' t = some (.tup [.int a, .int b]) → Q (.ref t) H'
theorem ok_read_pair (F : Fun K "read_pair" "read_pair" s_read_pair f fd) (T : Txt mg) : FnOk P w K mg base CX0 1 f fd ["word"] sp_read_pair := by
  refine F.ok sc_read_pair (fun vs H Q E h => ?_) (fun cdv A outer s H vs Q E hr h => ?_)
  · obtain ⟨a, b, rfl, _⟩ := h
    rfl
  · obtain ⟨a, b, rfl, ha, hb, kk⟩ := h
    have nd := sc_read_pair.nd
    refine ⟨_, (pss_cons (ps_set (i := 1) nd rfl (Or.inl rfl) (pe_bmK (K := K) rfl PySem.F.plainAttrs_str PySem.F.slot_str_split PySem.F.type_str_split mt_split (pv 0) (pa_cons pe_str pa_nil)))
      (pss_one (ps_ret (pe_tup (pa_cons (pe_callTy call_intS rfl T.int bt_int (pa_cons (pe_ix (ix_listK (K := K) rfl) (pv 1) pe_int (fun _ _ => rfl)) pa_nil)) (pa_cons (pe_callTy call_intS rfl T.int bt_int (pa_cons (pe_ix (ix_listK (K := K) rfl) (pv 1) pe_int (fun _ _ => rfl)) pa_nil)) pa_nil)))))), ?_⟩
    refine ⟨_, rfl, rfl, _, _, rfl, rfl, rfl, Nat.le_trans (pS_len ha hb) (by decide), fun l hl => ?_⟩
    rw [show Txt.split (nS a ++ "<" ++ nS b) "<" = [nS a, nS b] from split_pair a b]
    dsimp only [gName]
    have s1 := Same.put hl (o := .lst ([nS a, nS b].map V.str))
    have l1 := nS_len ha
    have l2 := nS_len hb
    refine ⟨_, rfl, l, _, 0, _, rfl, rfl, SqL.of upd_same, atI_nat (j := 0) rfl, nS a, _, rfl, nS_int ha, by omega, _, rfl, l, _, 1, _, rfl, rfl, SqL.of upd_same, atI_nat (j := 1) rfl, nS b, _, rfl, nS_int hb, by omega, by show 2 ≤ sizeLine; decide, fun t ht => kk t _ (s1.trans (Same.put ht)) upd_same⟩
end
end My

set_option Elab.async false
set_option linter.all false
set_option maxRecDepth 100000
namespace My
open PySem PySem.Spec PyProof.Rows L2
theorem TT.get {H : Hp} {v : V} {n : Nat} {g : Nat → Nat → V} (h : TT H v n g) {i : Nat} (hi : i < n) : ∃ a vs b, v = .ref a ∧ H a = some (.tup vs) ∧ vs[i]? = some (.ref b) ∧ H b = some (.tup ((List.range n).map (g i))) := by
  obtain ⟨a, vs, e, q, r⟩ := h
  have hl : vs.length = n := by have := Paired.length r; simpa using this.symm
  obtain ⟨x, hx, b, eb, qb⟩ := paired_get r (show vs[i]? = some vs[i] from List.getElem?_eq_getElem (by omega))
  have : x = i := by
    rw [List.getElem?_range hi] at hx
    cases hx; rfl
  subst this
  exact ⟨a, vs, b, e, q, by rw [List.getElem?_eq_getElem (by omega), eb], qb⟩
theorem flds_reach (n : Nat) (vp vr vj vm : V) : (flds n vp vr vj vm).lookup ("reach" : Str) = some vr := by
  unfold flds
  rw [lookup_putF, if_neg (by decide +kernel), lookup_putF, if_neg (by decide +kernel), lookup_putF, if_pos rfl]
theorem flds_count' (n : Nat) (vp vr vj vm : V) : (flds n vp vr vj vm).lookup ("count" : Str) = some (.int n) := by
  unfold flds
  rw [lookup_putF, if_neg (by decide +kernel), lookup_putF, if_neg (by decide +kernel), lookup_putF, if_neg (by decide +kernel), lookup_putF, if_neg (by decide +kernel), lookup_putF, if_pos rfl]
theorem flds_pairs' (n : Nat) (vp vr vj vm : V) : (flds n vp vr vj vm).lookup ("pairs" : Str) = some vp := by
  unfold flds
  rw [lookup_putF, if_neg (by decide +kernel), lookup_putF, if_neg (by decide +kernel), lookup_putF, if_neg (by decide +kernel), lookup_putF, if_pos rfl]
theorem OrdAt.same' {C : Addr} {H H' : Hp} {p n : Nat} {R : Nat → Nat → Bool} (s : Same H H') (h : OrdAt C H p n R) : OrdAt C H' p n R := by
  obtain ⟨dx, vp, vr, vj, vm, a, b, c, d, e⟩ := h
  exact ⟨dx, vp, vr, vj, vm, s _ _ a, b.same s, c.same s, d.same s, e.same s⟩
def belR (R : Nat → Nat → Bool) (a b : Nat) : Bool := !decide (a = b) && R a b
def stepR (n : Nat) (R : Nat → Nat → Bool) (a b : Nat) : Bool := belR R a b && !(List.range n).any fun t => belR R a t && belR R t b
end My

set_option Elab.async false
set_option linter.all false
set_option maxRecDepth 100000
namespace My
open PySem PySem.Spec PyProof.Rows L2
section
variable {P : Program} {w : World} {K : PySem.W.Frag} {mg : Str → Option Value} {base : Heap} {f : Addr} {fd : FuncData}
abbrev s_is_below : Stmt := top 28
theorem sc_is_below : FnScope ["order", "a", "b"] ["order", "a", "b"] (defScope s_is_below) := ⟨rfl, rfl, rfl, by decide +kernel, rfl, by decide +kernel, by decide +kernel⟩
def sp_is_below (C : Addr) : Sp := fun vs H Q _ => ∃ (p n a b : Nat) (R : Nat → Nat → Bool), vs = [.ref p, .int a, .int b] ∧ OrdAt C H p n R ∧ a < n ∧ b < n ∧ ∀ H', Same H H' → Q (.bl (belR R a b)) H'
theorem ok_is_below {C : Addr} (F : Fun K "is_below" "is_below" s_is_below f fd) (T : Txt mg) (TC : ClsOk K C) : FnOk P w K mg base CX0 1 f fd ["order", "a", "b"] (sp_is_below C) := by
  refine F.ok sc_is_below (fun vs H Q E h => ?_) (fun cdv A outer s H vs Q E hr h => ?_)
  · obtain ⟨p, n, a, b, R, rfl, _⟩ := h
    rfl
  · obtain ⟨p, n, a, b, R, rfl, hO, ha, hb, kk⟩ := h
    have nd := sc_is_below.nd
    refine ⟨_, (pss_one (ps_ret (pe_and (pe_cmpR op_ne (pv 1) (pv 2) (nomark _)) (pe_one (pe_ix (ix_tupK (K := K) rfl) (pe_ix (ix_tupK (K := K) rfl) (pe_fldK (K := K) rfl (pv 0) rfl) (pv 1) (fun _ _ => rfl)) (pv 2) (fun _ _ => rfl)))))), ?_⟩
    have ed : (!decide (V.int (a : Int) = V.int (b : Int))) = !decide (a = b) := by
      congr 1
      exact decide_eq_decide.mpr ⟨fun h => by injection h with h; omega, fun h => by rw [h]⟩
    refine ⟨_, rfl, _, rfl, rfl, _, rfl, ?_⟩
    rw [ed]
    refine ite2 (fun h => ?_) (fun h => ?_)
    · obtain ⟨dx, vp, vr, vj, vm, o1, _, o3, _, _⟩ := hO
      obtain ⟨ra, us, rb, rfl, q1, q2, q3⟩ := o3.get ha
      refine ⟨_, rfl, p, C, dx, _, _, rfl, o1, TC.cl, TC.nR, flds_reach _ _ _ _ _, _, rfl, ra, us, _, .ref rb, rfl, rfl, SqT.of q1, atI_nat q2, _, rfl, rb, _, _, .bl (R a b), rfl, rfl, SqT.of q3, atI_nat (map_get hb), ?_⟩
      have := kk _ (Same.refl _)
      unfold belR at this
      rw [h, Bool.true_and] at this
      exact this
    · have h2 : (!decide (a = b)) = false := by simpa using h
      have := kk _ (Same.refl _)
      unfold belR at this
      rw [h2, Bool.false_and] at this
      exact this
end
end My

set_option Elab.async false
set_option linter.all false
set_option maxRecDepth 100000
namespace My
open PySem PySem.Spec PyProof.Rows L2
section
variable {P : Program} {w : World} {K : PySem.W.Frag} {mg : Str → Option Value} {base : Heap} {f : Addr} {fd : FuncData}
abbrev s_is_step : Stmt := top 29
theorem sc_is_step : FnScope ["order", "a", "b"] ["order", "a", "b"] (defScope s_is_step) := ⟨rfl, rfl, rfl, by decide +kernel, rfl, by decide +kernel, by decide +kernel⟩
def sp_is_step (C : Addr) : Sp := fun vs H Q _ => ∃ (p n a b : Nat) (R : Nat → Nat → Bool), vs = [.ref p, .int a, .int b] ∧ OrdAt C H p n R ∧ n ≤ 24 ∧ a < n ∧ b < n ∧ ∀ H', Same H H' → Q (.bl (stepR n R a b)) H'
theorem ok_is_step {C : Addr} (F : Fun K "is_step" "is_step" s_is_step f fd) (T : Txt mg) (TC : ClsOk K C) (c_is_below : Cal P w K mg base "is_below" ["order", "a", "b"] 1 (sp_is_below C)) : FnOk P w K mg base CX0 2 f fd ["order", "a", "b"] (sp_is_step C) := by
  refine F.ok sc_is_step (fun vs H Q E h => ?_) (fun cdv A outer s H vs Q E hr h => ?_)
  · obtain ⟨p, n, a, b, R, rfl, _⟩ := h
    rfl
  · obtain ⟨p, n, a, b, R, rfl, hO, hn, ha, hb, kk⟩ := h
    have nd := sc_is_step.nd
    refine ⟨_, (pss_cons (ps_if (pt_not (pt_val (pe_callC c_is_below hr rfl (pa_cons (pv 0) (pa_cons (pv 1) (pa_cons (pv 2) pa_nil (star_of (fun _ _ h => nomatch h))) (star_of (fun _ _ h => nomatch h))) (star_of (fun _ _ h => nomatch h)))))) (pss_one (ps_ret pe_bl)) pss_nil)
      (pss_one (ps_ret (pe_not (pe_callB (call_anyK (K := K) rfl rfl) rfl T.any boot_any (pa_cons (pe_comp (own := ["thing"]) (fr := [("order", 0), ("a", 1), ("b", 2)]) rfl (blkOk (defScope s_is_step) ["order", "a", "b"] rfl rfl (by decide +kernel)) (pi_range1 rfl T.range (pa_cons (pe_fldK (K := K) rfl (pv 0) rfl) pa_nil)) (fun _ _ _ _ => ⟨(pg_name (i := 0) (by decide +kernel : (["thing", "order", "a", "b"] : List Str).Nodup) rfl (Or.inl rfl)), pif_nil, (pe_and (pe_callC c_is_below hr rfl (pa_cons (pv 1) (pa_cons (pv 2) (pa_cons (pv 0) pa_nil (star_of (fun _ _ h => nomatch h))) (star_of (fun _ _ h => nomatch h))) (star_of (fun _ _ h => nomatch h)))) (pe_one (pe_callC c_is_below hr rfl (pa_cons (pv 1) (pa_cons (pv 0) (pa_cons (pv 3) pa_nil (star_of (fun _ _ h => nomatch h))) (star_of (fun _ _ h => nomatch h))) (star_of (fun _ _ h => nomatch h))))))⟩)) pa_nil)))))), ?_⟩
    refine ⟨_, rfl, _, rfl, _, rfl, p, n, a, b, R, rfl, hO, ha, hb, fun H1 s1 => ⟨_, rfl, ?_⟩⟩
    cases hab : belR R a b with
    | false =>
      refine iteT ?_
      have := kk _ s1
      unfold stepR at this
      rw [hab, Bool.false_and] at this
      exact this
    | true =>
      refine iteF ?_
      obtain ⟨dx, vp, vr, vj, vm, o1, _, _, _, _⟩ := hO.same' s1
      have en : ((n : Int)).toNat = n := Int.toNat_natCast n
      refine ⟨_, rfl, p, C, dx, _, _, rfl, o1, TC.cl, TC.nC, flds_count' _ _ _ _ _, _, rfl, (n62 (by omega)).1, (n62 (by omega)).2, fun D hD => ?_⟩
      refine comp_all (fun j => .bl (belR R a j && belR R j b)) src_range hD (by rw [en]; exact sl24 hn) (fun j H3 Kt hj hs hk => ?_) (fun H3 hs hl => ?_)
      · rw [en] at hj
        refine ⟨_, rfl, _, rfl, _, rfl, p, n, a, j, R, by simp, (hO.same' s1).same' hs, ha, hj, fun H4 s4 => ⟨_, rfl, ?_⟩⟩
        cases h1 : belR R a j with
        | false =>
          refine iteF ?_
          have := hk _ s4
          rw [h1, Bool.false_and] at this
          exact this
        | true =>
          refine iteT ⟨_, rfl, _, rfl, _, rfl, p, n, j, b, R, by simp, ((hO.same' s1).same' hs).same' s4, hj, hb, fun H5 s5 => ?_⟩
          have := hk _ (s4.trans s5)
          rw [h1, Bool.true_and] at this
          exact this
      · rw [en] at hl
        refine ⟨D, (List.range n).map (fun j => belR R a j && belR R j b), rfl, SqL.of (by rw [hl, List.map_map]; rfl), _, rfl, ?_⟩
        have := kk _ (s1.trans hs)
        unfold stepR at this
        rw [hab, Bool.true_and] at this
        have e : ((List.range n).map fun j => belR R a j && belR R j b).any id = (List.range n).any fun t => belR R a t && belR R t b := by rw [List.any_map]; rfl
        rw [e]
        exact this
end
end My

set_option Elab.async false
set_option linter.all false
set_option maxRecDepth 100000
namespace My
open PySem PySem.Spec PyProof.Rows L2
def HSq (c : Bool) (H : Hp) (a : Addr) (xs : List V) : Prop := match c with
  | true => H a = some (.lst xs)
  | false => H a = some (.tup xs)
theorem HSq.sq {c : Bool} {K : PySem.W.Frag} {H : Hp} {a : Addr} {xs : List V} (h : HSq c H a xs) : Sq c K H a xs := by
  cases c with
  | true => exact SqL.of h
  | false => exact SqT.of h
theorem HSq.same {c : Bool} {H H' : Hp} {a : Addr} {xs : List V} (s : Same H H') (h : HSq c H a xs) : HSq c H' a xs := by
  cases c with
  | true => exact s _ _ h
  | false => exact s _ _ h
def Leaf (x : V) : Prop := (∃ i, x = .int i) ∨ x = .non ∨ (∃ b, x = .bl b) ∨ ∃ t, x = .str t
def Like (R : Hp → V → V → Prop) (H : Hp) (x y : V) : Prop := (Leaf x ∧ x = y) ∨ ∃ (c : Bool) (a b : Nat) (xs ys : List V), x = .ref a ∧ y = .ref b ∧ HSq c H a xs ∧ HSq c H b ys ∧ Paired (R H) xs ys ∧ xs.length ≤ 1000
end My

set_option Elab.async false
set_option linter.all false
set_option maxRecDepth 100000
namespace My
open PySem PySem.Spec PyProof.Rows L2
theorem paired_both {α β γ : Type} {F : α → β → Prop} {G : α → γ → Prop} {R : β → γ → Prop} (h : ∀ p x y, F p x → G p y → R x y) : ∀ {ps : List α} {xs : List β} {ys : List γ}, Paired F ps xs → Paired G ps ys → Paired R xs ys
  | _, _, _, .nil, .nil => .nil
  | _, _, _, .cons a t, .cons b u => .cons (h _ _ _ a b) (paired_both h t u)
def Fls : Hp → V → V → Prop := fun _ _ _ => False
abbrev R1 := Like Fls
abbrev R2' := Like R1
abbrev R3 := Like R2'
theorem Like.mono {R : Hp → V → V → Prop} (mono : ∀ H H' x y, Same H H' → R H x y → R H' x y) : ∀ H H' x y, Same H H' → Like R H x y → Like R H' x y := by
  rintro H H' x y s (h | ⟨c, a, b, xs, ys, e1, e2, h1, h2, h3, h4⟩)
  · exact .inl h
  · exact .inr ⟨c, a, b, xs, ys, e1, e2, h1.same s, h2.same s, Paired.mapP h3 fun _ _ q => mono _ _ _ _ s q, h4⟩
theorem fls_mono : ∀ H H' x y, Same H H' → Fls H x y → Fls H' x y := fun _ _ _ _ _ h => h
theorem pair_like {H : Hp} {p : Nat × Nat} {x y : V} (h1 : pairV H p x) (h2 : pairV H p y) : R2' H x y := by
  obtain ⟨t, rfl, q⟩ := h1
  obtain ⟨u, rfl, r⟩ := h2
  exact .inr ⟨false, t, u, _, _, rfl, rfl, q, r, .cons (.inl ⟨.inl ⟨_, rfl⟩, rfl⟩) (.cons (.inl ⟨.inl ⟨_, rfl⟩, rfl⟩) .nil), by show 2 ≤ 1000; decide⟩
theorem OrdAt.same {C : Addr} {H H' : Hp} {p n : Nat} {R : Nat → Nat → Bool} (s : Same H H') (h : OrdAt C H p n R) : OrdAt C H' p n R := by
  obtain ⟨dx, vp, vr, vj, vm, a, b, c, d, e⟩ := h
  exact ⟨dx, vp, vr, vj, vm, s _ _ a, b.same s, c.same s, d.same s, e.same s⟩
theorem TT.lst {H : Hp} {L : Addr} {xs ys : List V} (hL : H L = some (.lst xs)) {v : V} {n : Nat} {g : Nat → Nat → V} (h : TT H v n g) : TT (upd H L (.lst ys)) v n g := by
  obtain ⟨a, vs, e, q, r⟩ := h
  exact ⟨a, vs, e, by rw [upd_ne (ne_of q hL (fun z => nomatch z))]; exact q, Paired.mapP r fun _ _ ⟨b, e, q⟩ => ⟨b, e, by rw [upd_ne (ne_of q hL (fun z => nomatch z))]; exact q⟩⟩
theorem PairsT.lst {H : Hp} {L : Addr} {xs ys : List V} (hL : H L = some (.lst xs)) {v : V} {ps : List (Nat × Nat)} (h : PairsT H v ps) : PairsT (upd H L (.lst ys)) v ps := by
  obtain ⟨a, vs, e, q, r⟩ := h
  exact ⟨a, vs, e, by rw [upd_ne (ne_of q hL (fun z => nomatch z))]; exact q, pairsV_upd hL r⟩
theorem OrdAt.lst {C : Addr} {H : Hp} {L : Addr} {xs ys : List V} (hL : H L = some (.lst xs)) {p n : Nat} {R : Nat → Nat → Bool} (h : OrdAt C H p n R) : OrdAt C (upd H L (.lst ys)) p n R := by
  obtain ⟨dx, vp, vr, vj, vm, a, b, c, d, e⟩ := h
  exact ⟨dx, vp, vr, vj, vm, by rw [upd_ne (ne_of a hL (fun z => nomatch z))]; exact a, b.lst hL, c.lst hL, d.lst hL, e.lst hL⟩
theorem flds_count (n : Nat) (vp vr vj vm : V) : (flds n vp vr vj vm).lookup ("count" : Str) = some (.int n) := by
  unfold flds
  rw [lookup_putF, if_neg (by decide +kernel), lookup_putF, if_neg (by decide +kernel), lookup_putF, if_neg (by decide +kernel), lookup_putF, if_neg (by decide +kernel), lookup_putF, if_pos rfl]
theorem flds_pairs (n : Nat) (vp vr vj vm : V) : (flds n vp vr vj vm).lookup ("pairs" : Str) = some vp := by
  unfold flds
  rw [lookup_putF, if_neg (by decide +kernel), lookup_putF, if_neg (by decide +kernel), lookup_putF, if_neg (by decide +kernel), lookup_putF, if_pos rfl]
theorem pairsL_congr {n : Nat} {R R' : Nat → Nat → Bool} (h : ∀ a b, a < n → b < n → R a b = R' a b) : pairsL n R = pairsL n R' := by
  unfold pairsL
  have : ∀ l ∈ List.range n, (((List.range n).filter fun h => !decide (l = h) && R l h).map fun h => (l, h)) = (((List.range n).filter fun h => !decide (l = h) && R' l h).map fun h => (l, h)) := by
    intro l hl
    congr 1
    apply List.filter_congr
    intro x hx
    rw [h l x (by simpa using hl) (by simpa using hx)]
  rw [List.flatMap_def, List.flatMap_def, List.map_congr_left this]
def OrdIs (C : Addr) (H : Hp) (p : Nat) (M : List Nat) : Prop := ∃ R, OrdAt C H p M.length R ∧ ∀ a b, a < M.length → b < M.length → R a b = Ev.leM M a b
theorem OrdIs.same {C : Addr} {H H' : Hp} {p : Nat} {M : List Nat} (s : Same H H') (h : OrdIs C H p M) : OrdIs C H' p M := by
  obtain ⟨R, a, b⟩ := h
  exact ⟨R, a.same s, b⟩
theorem OrdIs.lst {C : Addr} {H : Hp} {L : Addr} {xs ys : List V} (hL : H L = some (.lst xs)) {p : Nat} {M : List Nat} (h : OrdIs C H p M) : OrdIs C (upd H L (.lst ys)) p M := by
  obtain ⟨R, a, b⟩ := h
  exact ⟨R, a.lst hL, b⟩
end My

set_option Elab.async false
set_option linter.all false
set_option maxRecDepth 100000
namespace My
open PySem PySem.Spec PyProof.Rows L2
theorem range_filter_map {α : Type} (k : α → Bool) (d : α) (l : List α) : ((List.range l.length).filter fun i => k (l.getD i d)).map (fun i => l.getD i d) = l.filter k := by
  have e : l = (List.range l.length).map fun i => l.getD i d := by
    apply List.ext_getElem
    · simp
    · intro i h1 h2
      simp [List.getD_eq_getElem?_getD, List.getElem?_eq_getElem h1]
  conv => rhs; rw [e]
  rw [List.filter_map]
  rfl
theorem paired_zs {α β : Type} {F : α → β → Prop} : ∀ {ps : List α} {us : List β}, Paired F ps us → ∃ zs : List (α × β), ps = zs.map Prod.fst ∧ us = zs.map Prod.snd ∧ ∀ z ∈ zs, F z.1 z.2
  | _, _, .nil => ⟨[], rfl, rfl, fun _ h => nomatch h⟩
  | _, _, .cons (a := a) (b := b) r t => by
    obtain ⟨zs, e1, e2, h⟩ := paired_zs t
    refine ⟨(a, b) :: zs, by rw [e1]; rfl, by rw [e2]; rfl, fun z hz => ?_⟩
    rcases List.mem_cons.mp hz with rfl | hz
    · exact r
    · exact h z hz
theorem paired_of_zs {α β : Type} {F : α → β → Prop} : ∀ {zs : List (α × β)}, (∀ z ∈ zs, F z.1 z.2) → Paired F (zs.map Prod.fst) (zs.map Prod.snd)
  | [], _ => .nil
  | z :: zs, h => .cons (h z List.mem_cons_self) (paired_of_zs fun y hy => h y (List.mem_cons_of_mem _ hy))
theorem paired_filter {F : Nat × Nat → V → Prop} (k : Nat × Nat → Bool) {ps : List (Nat × Nat)} {us : List V} (h : Paired F ps us) :
    Paired F (ps.filter k) (((List.range us.length).filter fun i => k (ps.getD i (0, 0))).map fun i => us.getD i .non) := by
  obtain ⟨zs, rfl, rfl, hz⟩ := paired_zs h
  have e1 : (zs.map Prod.fst).filter k = (zs.filter (k ∘ Prod.fst)).map Prod.fst := by rw [List.filter_map]
  have e2 : ((List.range (zs.map Prod.snd).length).filter fun i => k ((zs.map Prod.fst).getD i (0, 0))).map (fun i => (zs.map Prod.snd).getD i V.non) = (zs.filter (k ∘ Prod.fst)).map Prod.snd := by
    rw [← range_filter_map (k ∘ Prod.fst) ((0, 0), V.non) zs, List.map_map, List.length_map]
    have g1 : ∀ i, (zs.map Prod.fst).getD i (0, 0) = (zs.getD i ((0, 0), V.non)).1 := fun i => by
      rw [List.getD_eq_getElem?_getD, List.getD_eq_getElem?_getD, List.getElem?_map]
      cases zs[i]? <;> rfl
    have g2 : ∀ i, (zs.map Prod.snd).getD i V.non = (zs.getD i ((0, 0), V.non)).2 := fun i => by
      rw [List.getD_eq_getElem?_getD, List.getD_eq_getElem?_getD, List.getElem?_map]
      cases zs[i]? <;> rfl
    simp only [g1, g2]
    rfl
  rw [e1, e2]
  exact paired_of_zs fun z hz' => hz z (List.mem_filter.mp hz').1
def stepsR (n : Nat) (R : Nat → Nat → Bool) : List (Nat × Nat) := (pairsL n R).filter fun q => stepR n R q.1 q.2
theorem mem_pairsL {n : Nat} {R : Nat → Nat → Bool} {q : Nat × Nat} (h : q ∈ pairsL n R) : q.1 < n ∧ q.2 < n ∧ q.1 ≠ q.2 ∧ R q.1 q.2 = true := by
  unfold pairsL at h
  rw [List.mem_flatMap] at h
  obtain ⟨l, hl, hq⟩ := h
  rw [List.mem_map] at hq
  obtain ⟨x, hx, rfl⟩ := hq
  rw [List.mem_filter] at hx
  obtain ⟨h1, h2⟩ := hx
  simp at hl h1 h2
  exact ⟨hl, h1, h2.1, h2.2⟩
theorem len_pairsL {n : Nat} {R : Nat → Nat → Bool} (hn : n ≤ 24) : (pairsL n R).length ≤ 576 := by
  unfold pairsL
  rw [List.length_flatMap]
  have h : ∀ (l : List Nat), ((l.map fun a => (((List.range n).filter fun h => !decide (a = h) && R a h).map fun h => (a, h)).length).sum) ≤ 24 * l.length := by
    intro l
    induction l with
    | nil => simp
    | cons x l ih =>
      rw [List.map_cons, List.sum_cons, List.length_cons]
      have h1 := List.length_filter_le (fun h => !decide (x = h) && R x h) (List.range n)
      rw [List.length_range] at h1
      rw [List.length_map]
      omega
  have := h (List.range n)
  rw [List.length_range] at this
  omega
end My

set_option Elab.async false
set_option linter.all false
set_option maxRecDepth 100000
namespace My
open PySem PySem.Spec PyProof.Rows L2
section
variable {P : Program} {w : World} {K : PySem.W.Frag} {mg : Str → Option Value} {base : Heap} {f : Addr} {fd : FuncData}
abbrev s_steps : Stmt := top 30
theorem sc_steps : FnScope ["order"] ["order"] (defScope s_steps) := ⟨rfl, rfl, rfl, by decide +kernel, rfl, by decide +kernel, by decide +kernel⟩
def sp_steps_of (C : Addr) : Sp := fun vs H Q _ => ∃ (p n : Nat) (R : Nat → Nat → Bool), vs = [.ref p] ∧ OrdAt C H p n R ∧ n ≤ 24 ∧
  ∀ l us H', Same H H' → H l = none → H' l = some (.lst us) → us.length ≤ 576 → Paired (pairV H') (stepsR n R) us → Q (.ref l) H'
theorem ok_steps_of {C : Addr} (F : Fun K "steps" "steps" s_steps f fd) (T : Txt mg) (TC : ClsOk K C) (c_is_step : Cal P w K mg base "is_step" ["order", "a", "b"] 2 (sp_is_step C)) : FnOk P w K mg base CX0 3 f fd ["order"] (sp_steps_of C) := by
  refine F.ok sc_steps (fun vs H Q E h => ?_) (fun cdv A outer s H vs Q E hr h => ?_)
  · obtain ⟨p, n, R, rfl, _⟩ := h
    rfl
  · obtain ⟨p, n, R, rfl, hO, hn, kk⟩ := h
    have nd := sc_steps.nd
    obtain ⟨dx, vp, vr, vj, vm, o1, o2, _⟩ := id hO
    obtain ⟨ta, us, rfl, q1, q2⟩ := o2
    have hul : us.length ≤ 576 := by have := Paired.length q2; have := len_pairsL (n := n) (R := R) hn; omega
    refine ⟨_, (pss_one (ps_ret (pe_comp (own := ["pair"]) (fr := [("order", 0)]) rfl (blkOk (defScope s_steps) ["order"] rfl rfl (by decide +kernel)) (pi_tupK (K := K) rfl (pe_fldK (K := K) rfl (pv 0) rfl)) (fun _ _ _ _ => ⟨(pg_name (i := 0) (by decide +kernel : (["pair", "order"] : List Str).Nodup) rfl (Or.inl rfl)), (pif_one (pt_val (pe_callC c_is_step hr rfl (pa_cons (pv 1) (pa_cons (pe_ix (ix_tupK (K := K) rfl) (pv 0) pe_int (fun _ _ => rfl)) (pa_cons (pe_ix (ix_tupK (K := K) rfl) (pv 0) pe_int (fun _ _ => rfl)) pa_nil (star_of (fun _ _ h => nomatch h))) (star_of (fun _ _ h => nomatch h))) (star_of (fun _ _ h => nomatch h)))))), (pv 0)⟩)))), ?_⟩
    refine ⟨_, rfl, p, C, dx, _, _, rfl, o1, TC.cl, TC.nP, flds_pairs' _ _ _ _ _, ta, rfl, ⟨_, SqT.of q1⟩, fun D hD => ?_⟩
    refine comp_val (fun i => stepR n R ((pairsL n R).getD i (0, 0)).1 ((pairsL n R).getD i (0, 0)).2) (fun i => us.getD i .non) (src_tup (SqT.of q1)) hD (slk (by omega)) (fun i H3 Kt Kf hi hs hkt hkf => ?_) (fun H3 hs hl => ?_)
    · obtain ⟨q, eq1, t, eq2, eq3⟩ := paired_get q2 (show us[i]? = some us[i] from List.getElem?_eq_getElem hi)
      obtain ⟨m1, m2, _, _⟩ := mem_pairsL (List.mem_of_getElem? eq1)
      have e1 : us.getD i .non = .ref t := by rw [List.getD_eq_getElem?_getD, List.getElem?_eq_getElem hi, eq2]; rfl
      have e2 : (pairsL n R).getD i (0, 0) = q := by rw [List.getD_eq_getElem?_getD, eq1]; rfl
      have ht := hs _ _ eq3
      refine ⟨_, rfl, _, rfl, t, _, 0, .int q.1, e1, rfl, SqT.of ht, rfl, _, rfl, t, _, 1, .int q.2, e1, rfl, SqT.of ht, rfl, p, n, q.1, q.2, R, rfl, hO.same' hs, hn, m1, m2, fun H4 s4 => ⟨_, rfl, ite2 (fun h => ?_) (fun h => ?_)⟩⟩
      · exact ⟨_, rfl, hkt _ (by rw [e2]; exact h) s4⟩
      · exact hkf _ (by rw [e2]; simpa using h) s4
    · refine kk D _ H3 hs hD hl ?_ ?_
      · rw [List.length_map]
        exact Nat.le_trans (List.length_filter_le _ _) (by rw [List.length_range]; exact hul)
      · exact pairsV.same hs (paired_filter (fun q => stepR n R q.1 q.2) q2)
end
end My

set_option Elab.async false
set_option linter.all false
set_option maxRecDepth 100000
namespace My
open PySem PySem.Spec PyProof.Rows L2
theorem andN (x y : Nat) : Builtin.bitAnd (x : Int) (y : Int) = ((x &&& y : Nat) : Int) := by rw [bitAnd_pp (by omega) (by omega)]; simp
theorem orN (x y : Nat) : Builtin.bitOr (x : Int) (y : Int) = ((x ||| y : Nat) : Int) := by
  rw [bitOr_and, andN]
  have := nat_or_add_and x y
  omega
abbrev nV (x : Nat) : V := .int (x : Int)
section
variable {P : Program} {w : World} {K : PySem.W.Frag} {mg : Str → Option Value} {base : Heap} {f : Addr} {fd : FuncData}
abbrev s_law_cell_at : Stmt := top 39
theorem sc_law_cell_at : FnScope ["_law_script", "_law_k"] ["_law_script", "_law_k"] (defScope s_law_cell_at) := ⟨rfl, rfl, rfl, by decide +kernel, rfl, by decide +kernel, by decide +kernel⟩
def sp_cell_at (K : PySem.W.Frag) : Sp := fun vs H Q _ => ∃ (a k : Nat) (ns : List Int), vs = [.ref a, .int k] ∧ SqL K H a (ns.map V.int) ∧ ∀ i H', Same H H' → Q (.int i) H'
theorem ok_cell_at (F : Fun K "_law_cell_at" "_law_cell_at" s_law_cell_at f fd) (T : Txt mg) : FnOk P w K mg base CX0 1 f fd ["_law_script", "_law_k"] (sp_cell_at K) := by
  refine F.ok sc_law_cell_at (fun vs H Q E h => ?_) (fun cdv A outer s H vs Q E hr h => ?_)
  · obtain ⟨a, k, ns, rfl, _⟩ := h
    rfl
  · obtain ⟨a, k, ns, rfl, hS, kk⟩ := h
    have nd := sc_law_cell_at.nd
    refine ⟨_, (pss_cons (ps_if (pt_cmpR op_lt (pv 1) (pe_callB (call_lenK (K := K) rfl) rfl T.len PySem.boot_len (pa_cons (pv 0) pa_nil)) (nomark _)) (pss_one (ps_ret (pe_ix (ix_listK (K := K) rfl) (pv 0) (pv 1) (fun _ _ => rfl)))) pss_nil)
      (pss_one (ps_ret pe_int))), ?_⟩
    refine ⟨_, rfl, _, rfl, a, _, rfl, .inl hS, _, _, rfl, rfl, _, rfl, ite2 (fun h => ?_) (fun h => ?_)⟩
    · rw [decide_eq_true_iff, List.length_map] at h
      have hk : k < ns.length := by omega
      exact ⟨_, rfl, _, rfl, a, _, k, .int ns[k], rfl, rfl, hS, atI_nat (by simp [hk]), kk _ _ (Same.refl _)⟩
    · exact kk _ _ (Same.refl _)

abbrev s_law_mixed : Stmt := top 40
theorem sc_law_mixed : FnScope ["_law_cell", "_law_place", "_law_number"] ["_law_cell", "_law_place"] (defScope s_law_mixed) := ⟨rfl, rfl, rfl, by decide +kernel, rfl, by decide +kernel, by decide +kernel⟩
def sp_mixed : Sp := fun vs H Q _ => ∃ (c : Int) (p : Nat), vs = [.int c, .int p] ∧ p ≤ 1000 ∧ ∀ i H', 0 ≤ i → i < 2147483648 → Same H H' → Q (.int i) H'
theorem ok_mixed (F : Fun K "_law_mixed" "_law_mixed" s_law_mixed f fd) (T : Txt mg) : FnOk P w K mg base CX0 1 f fd ["_law_cell", "_law_place"] sp_mixed := by
  refine F.ok sc_law_mixed (fun vs H Q E h => ?_) (fun cdv A outer s H vs Q E hr h => ?_)
  · obtain ⟨c, p, rfl, _⟩ := h
    rfl
  · obtain ⟨c, p, rfl, hp, kk⟩ := h
    have nd := sc_law_mixed.nd
    have m1 : ∀ x : Int, 0 ≤ x % 2147483629 ∧ x % 2147483629 < 2147483629 := fun x => ⟨Int.emod_nonneg x (by decide), Int.emod_lt_of_pos x (by decide)⟩
    have m2 : ∀ x : Int, 0 ≤ x % 2147483587 ∧ x % 2147483587 < 2147483587 := fun x => ⟨Int.emod_nonneg x (by decide), Int.emod_lt_of_pos x (by decide)⟩
    have cm : ∀ x y : Int, CMul (x % 2147483629) y := fun x y => .inl ⟨by have := m1 x; omega, by have := m1 x; omega⟩
    refine ⟨_, (pss_cons (ps_set (i := 2) nd rfl (Or.inl rfl) (pe_op op_mod (pe_op op_add (pe_op op_add (pe_op op_mul (pe_op op_mod (pv 0) pe_int) pe_int) (pe_op op_mul pe_int (pv 1))) pe_int) pe_int))
      (pss_cons (ps_set (i := 2) nd rfl (Or.inl rfl) (pe_op op_mod (pe_op op_add (pe_op op_add (pe_op op_mul (pv 2) (pv 2)) (pe_op op_mul pe_int (pv 1))) pe_int) pe_int))
      (pss_one (ps_ret (pe_op op_mod (pe_op op_add (pe_op op_mul (pv 2) (pv 2)) pe_int) pe_int))))), ?_⟩
    refine ⟨_, rfl, _, _, rfl, rfl, (by show (0 : Int) < 2147483629; decide), _, _, rfl, rfl, cm _ _, _, rfl, _, _, rfl, rfl, .inl ⟨by decide, by decide⟩, _, _, rfl, rfl, _, _, rfl, rfl, _, _, rfl, rfl, (by show (0 : Int) < 2147483629; decide), ?_⟩
    refine ⟨_, rfl, _, rfl, _, _, rfl, rfl, cm _ _, _, rfl, _, _, rfl, rfl, .inl ⟨by decide, by decide⟩, _, _, rfl, rfl, _, _, rfl, rfl, _, _, rfl, rfl, (by show (0 : Int) < 2147483629; decide), ?_⟩
    refine ⟨_, rfl, _, rfl, _, _, rfl, rfl, cm _ _, _, _, rfl, rfl, _, _, rfl, rfl, (by show (0 : Int) < 2147483587; decide), ?_⟩
    exact kk _ _ (m2 _).1 (by have := (m2 ((((c % 2147483629 * 16807 + 69621 * (p : Int) + 11) % 2147483629 * ((c % 2147483629 * 16807 + 69621 * (p : Int) + 11) % 2147483629) + 48271 * (p : Int) + 7) % 2147483629) * (((c % 2147483629 * 16807 + 69621 * (p : Int) + 11) % 2147483629 * ((c % 2147483629 * 16807 + 69621 * (p : Int) + 11) % 2147483629) + 48271 * (p : Int) + 7) % 2147483629) + 69621)).2; omega) (Same.refl _)

abbrev s_law_draws : Stmt := top 41
theorem sc_law_draws : FnScope ["_law_cell", "_law_many", "_law_found", "_law_left", "_law_k"] ["_law_cell", "_law_many"] (defScope s_law_draws) := ⟨rfl, rfl, rfl, by decide +kernel, rfl, by decide +kernel, by decide +kernel⟩
def Small (ns : List Int) : Prop := ∀ x ∈ ns, 0 ≤ x ∧ x < 2147483648
def sp_draws : Sp := fun vs H Q _ => ∃ (c : Int) (m : Nat), vs = [.int c, .int m] ∧ m ≤ 1000 ∧ ∀ l ns H', Same H H' → H l = none → H' l = some (.lst (ns.map V.int)) → ns.length = m → Small ns → Q (.ref l) H'
theorem ok_draws (F : Fun K "_law_draws" "_law_draws" s_law_draws f fd) (T : Txt mg) (c_law_mixed : Cal P w K mg base "_law_mixed" ["_law_cell", "_law_place"] 1 sp_mixed) : FnOk P w K mg base CX0 2 f fd ["_law_cell", "_law_many"] sp_draws := by
  refine F.ok sc_law_draws (fun vs H Q E h => ?_) (fun cdv A outer s H vs Q E hr h => ?_)
  · obtain ⟨c, m, rfl, _⟩ := h
    rfl
  · obtain ⟨c, m, rfl, hm, kk⟩ := h
    have nd := sc_law_draws.nd
    have em : ((m : Int)).toNat = m := Int.toNat_natCast m
    refine ⟨_, (pss_cons (ps_set (i := 2) nd rfl (Or.inl rfl) (pe_lst pa_nil))
      (pss_cons (ps_set (i := 3) nd rfl (Or.inl rfl) (pe_op op_sub (pv 0) (pe_op op_pow pe_int pe_int)))
      (pss_cons (ps_for PassesOwn.never rfl (pi_range1 rfl T.range (pa_cons (pv 1) pa_nil)) (pg_name (i := 4) nd rfl (Or.inl rfl))
      (pss_one (ps_if (pt_cmpR op_ge (pv 3) pe_int (nomark _)) (pss_cons (ps_expr (pe_bmK (K := K) rfl PySem.F.plainAttrs_list PySem.F.slot_list_append PySem.F.type_list_append mt_append (pv 2) (pa_cons (pe_op op_mod (pv 3) pe_int) pa_nil)))
      (pss_one (ps_set (i := 3) nd rfl (Or.inl rfl) (pe_op op_fdiv (pv 3) pe_int)))) (pss_one (ps_expr (pe_bmK (K := K) rfl PySem.F.plainAttrs_list PySem.F.slot_list_append PySem.F.type_list_append mt_append (pv 2) (pa_cons (pe_callC c_law_mixed hr rfl (pa_cons (pv 0) (pa_cons (pv 4) pa_nil))) pa_nil)))))))
      (pss_one (ps_ret (pv 2)))))), ?_⟩
    refine ⟨by show 0 ≤ sizeLine; decide, fun L hL => ?_⟩
    refine ⟨_, rfl, _, _, rfl, rfl, ⟨by decide, by decide, by decide⟩, _, _, rfl, rfl, ?_⟩
    refine ⟨_, rfl, m, rfl, (n62 (by omega)).1, (n62 (by omega)).2, for_range (lo := 0) (n := ((m : Int)).toNat) (fun i σ H2 => ∃ (v4 : Option V) (x : Int) (ns : List Int), σ = [some (.int c), some (.int m), some (.ref L), some (.int x), v4] ∧ Same H H2 ∧ H2 L = some (.lst (ns.map V.int)) ∧ ns.length = i ∧ Small ns)
      ⟨none, _, [], rfl, Same.put hL, upd_same, rfl, fun _ h => nomatch h⟩ ?_ ?_⟩
    · rintro i σ H2 hi ⟨v4, x, ns, rfl, s2, hl, hlen, hsm⟩
      have sn : ∀ y : Int, 0 ≤ y → y < 2147483648 → Small (ns ++ [y]) := fun y h0 h1 z hz => by
        rcases List.mem_append.mp hz with hz | hz
        · exact hsm z hz
        · simp at hz; subst hz; exact ⟨h0, h1⟩
      have sk : ∀ {H3 : Hp} {o : HO}, Same H2 H3 → Same H (upd H3 L o) := fun s3 b o e => by
        rw [upd_ne (fun z => by rw [z, hL] at e; cases e)]
        exact s3 _ _ (s2 _ _ e)
      have hz : (ns.map V.int).length < sizeLine := by rw [List.length_map]; exact slk (by omega)
      refine ⟨_, rfl, _, _, rfl, rfl, _, rfl, ite2 (fun h => ?_) (fun h => ?_)⟩
      · have q := Int.emod_nonneg x (show (1000003 : Int) ≠ 0 by decide)
        have q' := Int.emod_lt_of_pos x (show (0 : Int) < 1000003 by decide)
        refine ⟨_, rfl, .inl ⟨rfl, _, SqL.of hl⟩, _, rfl, _, _, rfl, rfl, (by show (0 : Int) < 1000003; decide), L, _, _, rfl, rfl, hl, hz, ?_⟩
        refine ⟨_, rfl, _, _, rfl, rfl, ⟨by decide, by decide⟩, ?_⟩
        exact ⟨_, _, ns ++ [x % 1000003], rfl, sk (Same.refl _), by rw [upd_same]; simp, by simp [hlen], sn _ q (by omega)⟩
      · refine ⟨_, rfl, .inl ⟨rfl, _, SqL.of hl⟩, _, rfl, _, rfl, c, i, by simp, by omega, fun y H3 y0 y1 s3 => ?_⟩
        exact ⟨L, _, _, rfl, rfl, s3 _ _ hl, hz, _, x, ns ++ [y], rfl, sk s3, by rw [upd_same]; simp, by simp [hlen], sn _ y0 y1⟩
    · rintro σ H2 ⟨v4, x, ns, rfl, s2, hl, hlen, hsm⟩
      exact ⟨_, rfl, kk L ns H2 s2 hL hl (hlen.trans em) hsm⟩
end
end My

set_option Elab.async false
set_option linter.all false
set_option maxRecDepth 100000
namespace L2
open PySem PySem.Spec PyProof.Rows
def Rise (xs : Array Nat) : Prop := ∀ i j, i < j → j < xs.size → xs.getD i 0 < xs.getD j 0
theorem getD_any {xs : Array Nat} {i : Nat} (h : i < xs.size) (a b : Nat) : xs.getD i a = xs.getD i b := by
  simp [Array.getD, h]
theorem below_go {xs : Array Nat} {j : Nat} (hr : Rise xs) : ∀ (fuel lo hi : Nat), lo ≤ hi → hi ≤ xs.size → hi - lo ≤ fuel → (∀ i, i < lo → xs.getD i 0 < j) → (∀ i, hi ≤ i → i < xs.size → j ≤ xs.getD i 0) →
    SetTable.below.go xs j fuel lo hi ≤ xs.size ∧ (∀ i, i < SetTable.below.go xs j fuel lo hi → xs.getD i 0 < j) ∧ (∀ i, SetTable.below.go xs j fuel lo hi ≤ i → i < xs.size → j ≤ xs.getD i 0)
  | 0, lo, hi, h1, h2, h3, h4, h5 => by
    have : lo = hi := by omega
    subst this
    exact ⟨h2, h4, h5⟩
  | fuel + 1, lo, hi, h1, h2, h3, h4, h5 => by
    unfold SetTable.below.go
    by_cases hlt : lo < hi
    · rw [if_pos hlt]
      have hm : (lo + hi) / 2 < xs.size := by omega
      dsimp only
      rw [getD_any hm j 0]
      by_cases hc : xs.getD ((lo + hi) / 2) 0 < j
      · rw [if_pos hc]
        refine below_go hr fuel _ _ (by omega) h2 (by omega) (fun i hi' => ?_) h5
        by_cases e : i = (lo + hi) / 2
        · rw [e]; exact hc
        · exact Nat.lt_trans (hr i _ (by omega) hm) hc
      · rw [if_neg hc]
        refine below_go hr fuel _ _ (by omega) (by omega) (by omega) h4 (fun i hi' hl => ?_)
        by_cases e : i = (lo + hi) / 2
        · rw [e]; omega
        · have := hr ((lo + hi) / 2) i (by omega) hl
          omega
    · rw [if_neg hlt]
      have : lo = hi := by omega
      subst this
      exact ⟨h2, h4, h5⟩
theorem below_spec {xs : Array Nat} {j : Nat} (hr : Rise xs) : SetTable.below xs j ≤ xs.size ∧ (∀ i, i < SetTable.below xs j → xs.getD i 0 < j) ∧ (∀ i, SetTable.below xs j ≤ i → i < xs.size → j ≤ xs.getD i 0) := by
  unfold SetTable.below
  exact below_go hr _ _ _ (Nat.zero_le _) (Nat.le_refl _) (by omega) (fun i h => absurd h (by omega)) (fun i h1 h2 => absurd h1 (by omega))
theorem below_next {xs : Array Nat} (hr : Rise xs) {i : Nat} (hi : i < xs.size) : SetTable.below xs (xs.getD i 0 + 1) = i + 1 := by
  obtain ⟨h1, h2, h3⟩ := below_spec (j := xs.getD i 0 + 1) hr
  generalize SetTable.below xs (xs.getD i 0 + 1) = b at h1 h2 h3
  rcases Nat.lt_trichotomy b (i + 1) with h | h | h
  · have := h3 i (by omega) hi
    omega
  · exact h
  · have h4 := h2 (i + 1) h
    have h5 := hr i (i + 1) (by omega) (by omega)
    omega
theorem below_zero {xs : Array Nat} (hr : Rise xs) : SetTable.below xs 0 = 0 := by
  obtain ⟨h1, h2, h3⟩ := below_spec (j := 0) hr
  generalize SetTable.below xs 0 = b at h1 h2 h3
  rcases Nat.eq_zero_or_pos b with h | h
  · exact h
  · exact absurd (h2 0 h) (by omega)
theorem insertAt_size {α : Type} (xs : Array α) (p : Nat) (x : α) (hp : p ≤ xs.size) : (SetTable.insertAt xs p x).size = xs.size + 1 := by
  unfold SetTable.insertAt
  simp
  omega
theorem insertAt_list {α : Type} (xs : Array α) (p : Nat) (x : α) : (SetTable.insertAt xs p x).toList = xs.toList.take p ++ x :: xs.toList.drop p := by
  unfold SetTable.insertAt
  simp [List.take_of_length_le]
theorem insertAt_perm {α : Type} (xs : Array α) (p : Nat) (x : α) : (SetTable.insertAt xs p x).toList.Perm (x :: xs.toList) := by
  rw [insertAt_list]
  refine List.perm_middle.trans ?_
  rw [List.take_append_drop]
theorem insertAt_get (xs : Array Nat) (p x i : Nat) (hp : p ≤ xs.size) : (SetTable.insertAt xs p x).getD i 0 = if i < p then xs.getD i 0 else if i = p then x else xs.getD (i - 1) 0 := by
  have e : ∀ (ys : Array Nat) (i : Nat), ys.getD i 0 = ys.toList.getD i 0 := fun ys i => by simp [Array.getD, List.getD_eq_getElem?_getD]; split <;> simp [*]
  rw [e, e, e, insertAt_list, List.getD_eq_getElem?_getD, List.getD_eq_getElem?_getD, List.getD_eq_getElem?_getD]
  have hl : (xs.toList.take p).length = p := by rw [List.length_take]; simp; omega
  by_cases h1 : i < p
  · rw [if_pos h1, List.getElem?_append_left (by omega), List.getElem?_take_of_lt h1]
  · rw [if_neg h1, List.getElem?_append_right (by omega), hl]
    by_cases h2 : i = p
    · rw [if_pos h2, h2, Nat.sub_self]
      rfl
    · rw [if_neg h2]
      obtain ⟨k, hk⟩ : ∃ k, i - p = k + 1 := ⟨i - p - 1, by omega⟩
      rw [hk, List.getElem?_cons_succ, List.getElem?_drop]
      congr 2
      omega
theorem rise_insert {xs : Array Nat} {j : Nat} (hr : Rise xs) (hj : xs[SetTable.below xs j]? ≠ some j) : Rise (SetTable.insertAt xs (SetTable.below xs j) j) := by
  obtain ⟨h1, h2, h3⟩ := below_spec (j := j) hr
  have h3' : ∀ i, SetTable.below xs j ≤ i → i < xs.size → j < xs.getD i 0 := fun i a b => by
    rcases Nat.lt_or_eq_of_le (h3 i a b) with h | h
    · exact h
    · exfalso
      by_cases e : i = SetTable.below xs j
      · apply hj
        rw [← e, Array.getElem?_eq_getElem b]
        simp [Array.getD, b] at h
        rw [h]
      · have hb : SetTable.below xs j < xs.size := by omega
        have q1 := h3 (SetTable.below xs j) (Nat.le_refl _) hb
        have q2 := hr (SetTable.below xs j) i (by omega) b
        omega
  generalize SetTable.below xs j = p at h1 h2 h3 h3'
  intro a b hab hb
  rw [insertAt_size _ _ _ h1] at hb
  rw [insertAt_get _ _ _ _ h1, insertAt_get _ _ _ _ h1]
  by_cases a1 : a < p
  · rw [if_pos a1]
    by_cases b1 : b < p
    · rw [if_pos b1]; exact hr a b hab (by omega)
    · rw [if_neg b1]
      by_cases b2 : b = p
      · rw [if_pos b2]; exact h2 a a1
      · rw [if_neg b2]
        exact Nat.lt_trans (h2 a a1) (h3' (b - 1) (by omega) (by omega))
  · rw [if_neg a1]
    have b1 : ¬ b < p := by omega
    have b2 : ¬ b = p := by omega
    rw [if_neg b1, if_neg b2]
    by_cases a2 : a = p
    · rw [if_pos a2]
      exact h3' (b - 1) (by omega) (by omega)
    · rw [if_neg a2]
      exact hr (a - 1) (b - 1) (by omega) (by omega)
end L2

set_option Elab.async false
set_option linter.all false
set_option maxRecDepth 100000
namespace L2
open PySem PySem.Spec PyProof.Rows
theorem rise_of_pairwise {l : List Nat} (h : l.Pairwise (· < ·)) : Rise l.toArray := by
  intro i j hij hj
  have hj' : j < l.length := by simpa using hj
  have := List.pairwise_iff_getElem.mp h i j (by omega) hj' hij
  simp [Array.getD, hj', show i < l.length by omega]
  exact this
theorem rise_nil : Rise #[] := fun i j _ h => absurd h (by simp)
theorem laid_rise {mask finger moves : Nat} {led plain : Bool} {hs : Array Int} {t : SetTable} {order : Array Nat} (h : SetTable.laid mask finger moves led plain hs = some (t, order)) : Rise t.place ∧ t.dummies = #[] ∧ t.led = led ∧ t.plain = plain := by
  unfold SetTable.laid at h
  cases e : SetTable.layClean mask hs with
  | none => rw [e] at h; cases h
  | some owner =>
    rw [e] at h
    injection h with h
    injection h with h1 h2
    rw [← h1]
    refine ⟨?_, rfl, rfl, rfl⟩
    apply rise_of_pairwise
    rw [List.pairwise_map, List.pairwise_filterMap]
    refine List.pairwise_lt_range.imp fun {a b} hab x hx y hy => ?_
    cases ea : owner.getD a none with
    | none => rw [ea] at hx; cases hx
    | some p =>
      cases eb : owner.getD b none with
      | none => rw [eb] at hy; cases hy
      | some q =>
        rw [ea] at hx
        rw [eb] at hy
        cases hx
        cases hy
        exact hab
theorem slot_nd {t : SetTable} (hd : t.dummies = #[]) (j : Nat) : t.slot j = .empty ∧ t.place[SetTable.below t.place j]? ≠ some j ∨ ∃ i, t.slot j = .live i := by
  unfold SetTable.slot
  dsimp only
  by_cases e : (t.place[SetTable.below t.place j]? == some j) = true
  · rw [if_pos e]
    exact .inr ⟨_, rfl⟩
  · rw [if_neg e]
    refine .inl ⟨?_, fun z => e (by rw [z]; simp)⟩
    rw [hd]
    rfl
theorem go_free {t : SetTable} {h : Int} (hd : t.dummies = #[]) : ∀ (fuel : Nat) (p : SetTable.Probe) (j : Nat) (d : Option Nat), p.dummy = none → SetTable.probe.go t (fun _ => h + 1) h fuel p = some (.empty j d) → d = none ∧ t.place[SetTable.below t.place j]? ≠ some j
  | 0, p, j, d, _, e => by cases e
  | fuel + 1, p, j, d, hp, e => by
    unfold SetTable.probe.go at e
    rcases slot_nd hd p.j with ⟨q, q'⟩ | ⟨i, q⟩
    · rw [q] at e
      injection e with e
      injection e with e1 e2
      rw [← e1, ← e2]
      exact ⟨hp, q'⟩
    · rw [q] at e
      dsimp only at e
      have hne : ((h + 1) == h) = false := by
        rw [beq_eq_false_iff_ne]
        omega
      rw [hne] at e
      refine go_free hd fuel _ j d ?_ e
      unfold SetTable.advance
      split <;> exact hp
theorem free_spec {t : SetTable} {h : Int} {s : Nat} {w : Bool} (hd : t.dummies = #[]) (e : t.freeSlot h = some (s, w)) : w = false ∧ t.place[SetTable.below t.place s]? ≠ some s := by
  unfold SetTable.freeSlot SetTable.probe at e
  generalize eg : SetTable.probe.go t (fun _ => h + 1) h (10 * SetTable.turns t.mask) (t.probeStart h) = g at e
  match g, e with
  | some (.empty j d), e =>
    obtain ⟨rfl, q⟩ := go_free hd _ _ j d rfl eg
    injection e with e
    injection e with e1 e2
    rw [← e1, ← e2]
    exact ⟨rfl, q⟩
structure TabOk (t : SetTable) : Prop where
  nd : t.dummies = #[]
  rise : t.plain = true → Rise t.place
theorem tab_fresh (f m : Nat) (led : Bool) : TabOk (SetTable.fresh f m led) := ⟨rfl, fun _ => rise_nil⟩
theorem tab_standIn {t : SetTable} (n : Nat) : TabOk (t.standIn n) ∧ (t.standIn n).led = t.led := ⟨⟨rfl, fun h => by cases h⟩, rfl⟩
theorem lay_ok {t : SetTable} {es : Array (Int × Value)} {h : Int} {x : Value} (ok : TabOk t) : TabOk (layNew t es h x).2.1 ∧ (layNew t es h x).2.1.led = t.led ∧ (layNew t es h x).1.toList.Perm ((h, x) :: es.toList) ∧ (layNew t es h x).2.2.1 = false := by
  unfold layNew
  cases e : t.freeSlot h with
  | none =>
    refine ⟨(tab_standIn _).1, rfl, ?_, rfl⟩
    dsimp only
    rw [Array.toList_push]
    exact (List.perm_append_singleton _ _)
  | some q =>
    obtain ⟨s, w⟩ := q
    obtain ⟨rfl, hs⟩ := free_spec ok.nd e
    dsimp only [SetTable.put]
    have hhas : SetTable.has t.dummies s = false := by rw [ok.nd]; rfl
    rw [hhas]
    simp only [Bool.false_eq_true, if_false]
    refine ⟨?_, ?_, insertAt_perm _ _ _, True.intro⟩
    · unfold SetTable.orStandIn
      by_cases hf : ({ t with place := SetTable.insertAt t.place (SetTable.below t.place s) s } : SetTable).fits (SetTable.insertAt es (SetTable.below t.place s) (h, x)).size = true
      · rw [if_pos hf]
        exact ⟨ok.nd, fun hp => rise_insert (ok.rise hp) hs⟩
      · rw [if_neg hf]
        exact (tab_standIn _).1
    · unfold SetTable.orStandIn
      by_cases hf : ({ t with place := SetTable.insertAt t.place (SetTable.below t.place s) s } : SetTable).fits (SetTable.insertAt es (SetTable.below t.place s) (h, x)).size = true
      · rw [if_pos hf]
      · rw [if_neg hf]
        rfl
theorem range_get {α : Type} : ∀ l : List α, (List.range l.length).filterMap (fun i => l[i]?) = l
  | [] => rfl
  | x :: l => by
    rw [List.length_cons, List.range_succ_eq_map, List.filterMap_cons]
    simp only [List.getElem?_cons_zero, List.filterMap_map]
    congr 1
    exact range_get l
theorem relay_ok {t : SetTable} {es : Array (Int × Value)} {n : Nat} (ok : TabOk t) : TabOk (relayAll t es n).2.1 ∧ (relayAll t es n).2.1.led = t.led ∧ (relayAll t es n).1.toList.Perm es.toList := by
  unfold relayAll
  cases e : t.relaid (es.map (·.1)) n with
  | none => exact ⟨(tab_standIn _).1, rfl, .refl _⟩
  | some q =>
    obtain ⟨t', order⟩ := q
    obtain ⟨h1, h2, h3, h4⟩ := laid_rise e
    dsimp only
    split
    · rename_i hc
      rw [Bool.and_eq_true] at hc
      refine ⟨⟨h2, fun _ => h1⟩, h3, ?_⟩
      have hp : order.toList.Perm (List.range es.size) := List.isPerm_iff.mp hc.1
      rw [Array.toList_filterMap]
      refine (hp.filterMap _).trans ?_
      have : (List.range es.size).filterMap (fun i => es[i]?) = es.toList := by
        have := range_get es.toList
        simpa using this
      rw [this]
    · exact ⟨(tab_standIn _).1, rfl, .refl _⟩
end L2

set_option Elab.async false
set_option linter.all false
set_option maxRecDepth 100000
namespace L2
open PySem PySem.Spec PyProof.Rows
def numOfV : Value → Int
  | .int k _ => k
  | _ => 0
abbrev numsOf (es : Array (Int × Value)) : List Int := es.toList.map fun e => numOfV e.2
structure SetE (prog : Program) (w : World) (es : Array (Int × Value)) (t : SetTable) (ks : List Int) : Prop where
  el : ElemsOf (intKind prog w) es.toList
  fits : t.fits es.size = true
  tab : TabOk t
  led : t.led = !w.params.followText "set-order"
  perm : (numsOf es).Perm ks
  nd : ks.Nodup
def SetG (prog : Program) (w : World) (h : Heap) (a : Addr) (ks : List Int) : Prop :=
  ∃ o es ep t, h.get? a = some o ∧ o.ExactSet ∧ o.data = .set es ep t ∧ SetE prog w es t ks
section
variable {prog : Program} {w : World} {A : Around} {E : Value → Shared → Prop} {s : Shared}
theorem elem_int {l : List (Int × Value)} (h : ElemsOf (intKind prog w) l) {e : Int × Value} (he : e ∈ l) : ∃ k t, e.2 = .int k t := by
  obtain ⟨⟨k, hk, _⟩, _⟩ := h e he
  obtain ⟨t, q⟩ := Value.isInt_shape hk
  exact ⟨k, t, q⟩
theorem SetE.size {es : Array (Int × Value)} {t : SetTable} {ks : List Int} (h : SetE prog w es t ks) : es.size = ks.length := by
  rw [← h.perm.length_eq, List.length_map, Array.length_toList]
theorem SetE.mem {es : Array (Int × Value)} {t : SetTable} {ks : List Int} (h : SetE prog w es t ks) {k : Int} : k ∈ ks ↔ ∃ e ∈ es.toList, Value.isInt k e.2 = true := by
  rw [← h.perm.mem_iff, List.mem_map]
  constructor
  · rintro ⟨e, he, q⟩
    obtain ⟨k', t', q'⟩ := elem_int h.el he
    rw [q'] at q
    have : k' = k := q
    subst this
    exact ⟨e, he, by rw [q']; simp [Value.isInt]⟩
  · rintro ⟨e, he, q⟩
    obtain ⟨t', q'⟩ := Value.isInt_shape q
    exact ⟨e, he, by rw [q']; rfl⟩
def putNum (ks : List Int) (k : Int) : List Int := if k ∈ ks then ks else ks ++ [k]
theorem SetE.lay {es : Array (Int × Value)} {t : SetTable} {ks : List Int} (h : SetE prog w es t ks) {k : Int} {tk : Tok} (hk : k ∉ ks) : SetE prog w (layNew t es (hashInt k) (.int k tk)).1 (layNew t es (hashInt k) (.int k tk)).2.1 (ks ++ [k]) := by
  obtain ⟨h1, h2, h3, _⟩ := lay_ok (es := es) (h := hashInt k) (x := Value.int k tk) h.tab
  refine ⟨fun e he => ?_, layNew_fits _ _ _ _, h1, h2.trans h.led, ?_, ?_⟩
  · rcases List.mem_cons.mp (h3.mem_iff.mp he) with q | q
    · rw [q]
      exact ⟨⟨k, by simp [intKind, Value.isInt], rfl⟩, rfl⟩
    · exact h.el e q
  · refine (h3.map _).trans ?_
    rw [List.map_cons]
    exact ((h.perm.cons _).trans (List.perm_append_singleton _ _).symm)
  · rw [List.nodup_append]
    refine ⟨h.nd, by simp, fun x hx y hy z => hk ?_⟩
    rw [← (show y = k by simpa using hy), ← z]
    exact hx
theorem SetE.relay {es : Array (Int × Value)} {t : SetTable} {ks : List Int} (h : SetE prog w es t ks) (n : Nat) : SetE prog w (relayAll t es n).1 (relayAll t es n).2.1 ks := by
  obtain ⟨h1, h2, h3⟩ := relay_ok (es := es) (n := n) h.tab
  exact ⟨fun e he => h.el e (h3.mem_iff.mp he), relayAll_fits _ _ _, h1, h2.trans h.led, (h3.map _).trans h.perm, h.nd⟩
theorem stored {a : Addr} {o : Obj} {es es' : Array (Int × Value)} {ep : Nat} {t t' : SetTable} {ks : List Int} (ho : s.heap.get? a = some o) (hx : o.ExactSet) (hd : o.data = .set es ep t) (h : SetE prog w es' t' ks) :
    ∃ o' ep', (s.heap.update a (Obj.putSet es' t')).get? a = some o' ∧ o'.ExactSet ∧ o'.data = .set es' ep' t' := by
  refine ⟨_, ep + 1, Heap.get?_update_self _ ho (by rw [putSet_of es' t' hd] <;> rfl), ?_, ?_⟩
  · rw [putSet_of es' t' hd]; exact hx
  · rw [putSet_of es' t' hd]
theorem add_tail {a : Addr} {o : Obj} {es es' : Array (Int × Value)} {ep : Nat} {t t' : SetTable} {ks : List Int} {g : Bool → Sem Unit} {wd : Bool} {R : Option Bool → Shared → Prop} (hg : ∀ (b : Bool) (s' : Shared) (Q' : Unit → Shared → Prop), Q' () s' → wpAny (model prog w) A (g b) Q' E s')
    (ho : s.heap.get? a = some o) (hx : o.ExactSet) (hd : o.data = .set es ep t) (H : SetE prog w es' t' ks) (hb : ks.length < scanBound) (h : ∀ h', Heap.SameBut a s.heap h' → SetG prog w h' a ks → R (some true) { s with heap := h' }) :
    wpAny (model prog w) A (do
        storeSet a es' t'
        if (!wd && t'.tooFull) = true then do
            g (relayAll t' es' (SetTable.grown es'.size)).2.2
            storeSet a (relayAll t' es' (SetTable.grown es'.size)).1 (relayAll t' es' (SetTable.grown es'.size)).2.1
            pure (some true)
          else pure (some true)) R E s := by
  have z1 : es'.size < scanBound := by rw [H.size]; exact hb
  obtain ⟨o1, ep1, p1, p2, p3⟩ := stored ho hx hd H
  have b1 := Heap.SameBut.update s.heap a (Obj.putSet es' t')
  refine wpAny_bind (wpAny_storeSet_of ho hd ?_ (fits_of_scanBound z1))
  by_cases c : (!wd && t'.tooFull) = true
  · rw [if_pos c]
    have H2 := H.relay (SetTable.grown es'.size)
    have z2 : (relayAll t' es' (SetTable.grown es'.size)).1.size < scanBound := by rw [H2.size]; exact hb
    refine wpAny_bind (hg _ _ _ (wpAny_bind (wpAny_storeSet_of p1 p3 (wpAny_pure ?_) (fits_of_scanBound z2))))
    obtain ⟨o2, ep2, r1, r2, r3⟩ := stored (s := { s with heap := s.heap.update a (Obj.putSet es' t') }) p1 p2 p3 H2
    exact h _ (b1.trans (Heap.SameBut.update _ a _)) ⟨o2, _, ep2, _, r1, r2, r3, H2⟩
  · rw [if_neg c]
    exact wpAny_pure (h _ b1 ⟨o1, _, ep1, _, p1, p2, p3, H⟩)
theorem add_num {a : Addr} {ks : List Int} {k : Int} {tk : Tok} {Q : Bool → Shared → Prop} (hG : SetG prog w s.heap a ks) (hroom : ks.length + 1 < scanBound)
    (h : ∀ b h', Heap.SameBut a s.heap h' → SetG prog w h' a (putNum ks k) → Q b { s with heap := h' }) : wpAny (model prog w) A (setAddHashed a (.int k tk) (hashInt k)) Q E s := by
  obtain ⟨o, es, ep, t, ho, hx, hd, H⟩ := id hG
  have key : (intKind prog w).is k (Value.int k tk) = true := intKind_is _ _ _ _
  have zb : es.size < scanBound := by rw [H.size]; omega
  unfold setAddHashed setAddHashedIn
  refine wpAny_holding (wpAny_bind (wpAny_setState_of ho hd H.fits ?_))
  dsimp only
  rw [byScan_of (knd := intKind prog w) (x := Value.int k tk) rfl zb H.el]
  simp only [↓reduceIte]
  unfold setAddByScan
  refine wpAny_bind (wpAny_bind (wpAny_rule (wpAny_bind (wpAny_setScan_of (knd := intKind prog w) key ho hd H.fits H.el ?_))))
  by_cases hk : k ∈ ks
  · obtain ⟨e, he, q⟩ := H.mem.mp hk
    cases hr : es.toList.findIdx? (fun e => (intKind prog w).is k e.2) with
    | none =>
      have := List.findIdx?_eq_none_iff.mp hr e he
      rw [show (intKind prog w).is k e.2 = Value.isInt k e.2 from rfl, q] at this
      cases this
    | some j =>
      refine wpAny_pure (wpAny_pure ?_)
      have e0 : s = { s with heap := s.heap } := by cases s; rfl
      rw [e0]
      refine h false s.heap (Heap.SameBut.refl a s.heap) ?_
      unfold putNum
      rw [if_pos hk]
      exact hG
  · have hr : es.toList.findIdx? (fun e => (intKind prog w).is k e.2) = none := by
      rw [List.findIdx?_eq_none_iff]
      intro e he
      cases q : (intKind prog w).is k e.2 with
      | false => rfl
      | true => exact absurd (H.mem.mpr ⟨e, he, q⟩) hk
    rw [hr]
    dsimp only
    have H1 := H.lay (tk := tk) hk
    have hw := (lay_ok (es := es) (h := hashInt k) (x := Value.int k tk) H.tab).2.2.2
    have fin : ∀ h', Heap.SameBut a s.heap h' → SetG prog w h' a (ks ++ [k]) → Q true { s with heap := h' } := fun h' b g => h true h' b (by unfold putNum; rw [if_neg hk]; exact g)
    have hb' : (ks ++ [k]).length < scanBound := by rw [List.length_append]; exact hroom
    show wpAny _ _ ((match layNew t es (hashInt k) (Value.int k tk) with | (es, t, wasDummy, gave) => _) >>= _) _ _ _
    generalize layNew t es (hashInt k) (Value.int k tk) = N at H1 hw ⊢
    obtain ⟨es1, t1, wd, gave⟩ := N
    dsimp only at H1 hw ⊢
    refine wpAny_bind ?_
    have on : ∀ (b : Bool) (s' : Shared) (Q' : Unit → Shared → Prop), Q' () s' → wpAny (model prog w) A (match b with | true => rule "set.scan.the-table-gave-way" | false => pure ()) Q' E s' := fun b s' Q' q => by
      cases b
      · exact wpAny_pure q
      · exact wpAny_rule q
    refine on gave s _ ?_
    by_cases hp : t1.plain = true
    · rw [if_pos hp]
      refine wpAny_bind ?_
      rw [hashByValue_scannable 8 (x := Value.int k tk) rfl]
      refine wpAny_pure ?_
      simp only [plainKind, ↓reduceIte]
      exact add_tail on ho hx hd H1 hb' fun h' b g => wpAny_pure (fin h' b g)
    · rw [if_neg hp]
      refine wpAny_bind (wpAny_pure ?_)
      simp only [↓reduceIte]
      exact add_tail on ho hx hd H1 hb' fun h' b g => wpAny_pure (fin h' b g)
end
end L2

set_option Elab.async false
set_option linter.all false
set_option maxRecDepth 100000
set_option maxHeartbeats 3200000
namespace L2
open PySem PySem.Spec PyProof.Rows
def numsTo (val : Nat → Int) (i : Nat) : List Int := ((List.range i).map val).foldl putNum []
theorem numsTo_succ (val : Nat → Int) (i : Nat) : numsTo val (i + 1) = putNum (numsTo val i) (val i) := by
  unfold numsTo
  rw [List.range_succ, List.map_append, List.foldl_append]
  rfl
theorem putNum_len (ks : List Int) (k : Int) : (putNum ks k).length ≤ ks.length + 1 := by
  unfold putNum
  split
  · omega
  · rw [List.length_append]
    exact Nat.le_refl _
theorem numsTo_len (val : Nat → Int) : ∀ i, (numsTo val i).length ≤ i
  | 0 => Nat.le_refl _
  | i + 1 => by
    rw [numsTo_succ]
    have h1 := putNum_len (numsTo val i) (val i)
    have h2 := numsTo_len val i
    omega
theorem SetG.moved {prog : Program} {w : World} {h h' : Heap} {a : Addr} {ks : List Int} (hG : SetG prog w h a ks) (k : ∀ o, h.get? a = some o → h'.get? a = some o) : SetG prog w h' a ks :=
  let ⟨o, es, ep, t, ho, q⟩ := hG; ⟨o, es, ep, t, k o ho, q⟩
section
variable {prog : Program} {w : World} {A : Around} {R : Result → Shared → Prop} {it : Addr} {fp wr : List Addr} {Gn : Array GenState → Array GenState → Prop} {n : Nat} {P : Nat → Value → Prop} {St : Nat → Shared → Prop}
theorem fill_loop (W : WalksS prog w A.in1 it fp wr Gn n P St) (a : Addr) (ha : a ∉ fp) (val : Nat → Int) (hv : ∀ i v, P i v → ∃ t, v = .int (val i) t) (hb : n + 1 < scanBound) :
    ∀ (k i : Nat) (s : Shared), n - i = k → i ≤ n → St i s → SetG prog w s.heap a (numsTo val i) → (∀ s', PySem.Moved (a :: wr) Gn s s' → SetG prog w s'.heap a (numsTo val n) → R (.ok (.ret .none)) s') →
      codeAny (model prog w) A (.builtin "set.update.loop" ⟨[.ref a, .ref it], []⟩) R s
  | 0, i, s, hk, hi, hst, hG, hR => by
    have ei : i = n := by omega
    subst ei
    have haw : a ∉ wr := fun h => ha (W.sub _ h)
    refine (codeAny_builtin F.entry_set_update_loop ?_)
    rw [show _ = _ from Around.under_plainId F.plain_set_update_loop _]
    show wpAny _ A.in1 (pyNext (.ref it) >>= _) _ _ s
    refine wpAny_bind (W.done s _ _ hst fun s1 hm => wpAny_pure (hR s1 (hm.mono fun b hb => List.mem_cons_of_mem _ hb) (hG.moved fun o e => hm.heap a o haw e)))
  | k + 1, i, s, hk, hi, hst, hG, hR => by
    have haw : a ∉ wr := fun h => ha (W.sub _ h)
    have hlt : i < n := by omega
    refine (codeAny_builtin F.entry_set_update_loop ?_)
    rw [show _ = _ from Around.under_plainId F.plain_set_update_loop _]
    show wpAny _ A.in1 (pyNext (.ref it) >>= _) _ _ s
    refine wpAny_bind (W.item i s _ _ hlt hst fun v s1 hP hst1 hm => ?_)
    obtain ⟨t, rfl⟩ := hv i v hP
    have hG1 : SetG prog w s1.heap a (numsTo val i) := hG.moved fun o e => hm.heap a o haw e
    have hl := numsTo_len val i
    show wpAny _ A.in1 (holding [Value.int (val i) t] (setAdd a (.int (val i) t)) >>= _) _ _ s1
    refine wpAny_bind (wpAny_holding ?_)
    unfold setAdd
    refine wpAny_holding (wpAny_bind ((intKind prog w).pyHash (k := val i) (intKind_is _ _ _ _) ?_))
    refine add_num (s := { s1 with toks := s1.toks + 1 }) hG1 (by omega) fun b h1 hsb hG2 => ?_
    refine wpAny_pure ⟨plainId_quiet F.plain_set_update_loop _, fill_loop W a ha val hv hb k (i + 1) _ (by omega) hlt (W.frame _ s1 _ _ hst1 (Nat.le_succ _) fun c hc o e => ?_) (by rw [numsTo_succ]; exact hG2) fun s2 hm2 hG3 => ?_⟩
    · rw [hsb.2 c (fun h => ha (by rw [← h]; exact hc))]
      exact e
    · refine hR s2 (PySem.Moved.trans W.gtrans ((hm.mono fun b hb => List.mem_cons_of_mem _ hb).then_heap (Nat.le_succ _) fun c o hc e => ?_) hm2) hG3
      rw [hsb.2 c (fun h => hc (by rw [h]; exact List.mem_cons_self))]
      exact e
end
section
variable {prog : Program} {w : World} {A : Around} {E : Value → Shared → Prop} {s : Shared}
abbrev newSetO (w : World) : Obj := { cls := .type "set", dict := none, data := .set #[] 0 (.fresh 0 0 (!w.params.followText "set-order")) }
theorem newSetG {h : Heap} {a : Addr} (e : h.get? a = some (newSetO w)) : SetG prog w h a [] :=
  ⟨_, #[], 0, _, e, ⟨rfl, rfl, rfl⟩, rfl, fun e he => by simp at he, rfl, tab_fresh _ _ _, rfl, by simp, by simp⟩
theorem set_new (x : Value) {Q1 : Value → Shared → Prop} (h : Q1 (.ref s.heap.objs.size) { s with heap := s.heap.push (newSetO w) }) :
    codeAny (model prog w) A (.call (.builtin "set.__new__") ⟨[.type "set", x], []⟩) (wants Q1 E) s := by
  refine codeAny_of_tree (?_ : wpAny _ A.in1 (do checkBuiltinCall "set.__new__" ⟨[.type "set", x], []⟩; again (.builtin "set.__new__" ⟨[.type "set", x], []⟩)) _ _ s)
  refine wpAny_bind (wpAny_of_eq (F.newCall_set_1 x) (wpAny_pure ⟨plainId_quiet F.plain_set_new _, (codeAny_builtin F.entry_set_new ?_)⟩))
  rw [show _ = _ from Around.under_plainId F.plain_set_new _]
  unfold Builtin.«set.__new__» Builtin.Frozenset.newClass
  have hsub := sub_set_self
  obtain ⟨hp, g, d, tk, os⟩ := s
  dsimp only
  wp_walk
  refine wpAny_askSetting (wpAny_pure ?_)
  dsimp only
  simp only [newObj]
  exact wpAny_bind (wpAny_alloc (wpAny_pure (wpAny_pure h)))
theorem set_of_list {l : Addr} {its : Array Value} {ns : List Int} {Q : Value → Shared → Prop} (hh : A.handled = none) (hL : s.heap.IsList l its) (hI : IntsAre its.toList ns) (hb : its.size + 1 < scanBound)
    (h : ∀ (h' : Heap) (tk : Nat), SetG prog w h' s.heap.objs.size (numsTo (fun i => ns.getD i 0) its.size) → (∀ b o, b < s.heap.objs.size → s.heap.get? b = some o → h'.get? b = some o) → Q (.ref s.heap.objs.size) { s with heap := h', toks := tk }) :
    wpAny (model prog w) A (call (.type "set") [.ref l]) Q E s := by
  obtain ⟨c, tl, hmro⟩ := F.called_set.mro
  have hmade := F.called_set.made
  have hsub := F.called_set.sub
  refine wpAny_call (codeAny_of_tree (?_ : wpAny _ _ (callAny (.type "set") _) _ _ _))
  refine wpAny_pure ⟨Code.quiet_builtin _ (by decide +kernel), (codeAny_builtin F.entry_type_call ?_)⟩
  rw [show _ = _ from Around.under_plain (weight_type_call_type "set" [.ref l] []) rfl]
  have hnT := F.called_set.notType
  have hcC := F.called_set.canCreate
  have hct := F.typeCall_set_1 (.ref l)
  repeat any_goals first | assumption | wp_step
  refine codeAny_mono (set_new (.ref l) (E := E) (Q1 := fun obj s1 => obj = .ref s.heap.objs.size ∧ s1 = { s with heap := s.heap.push (newSetO w) }) ⟨rfl, rfl⟩) fun r s1 hr => ?_
  cases r with
  | error e => exact hr
  | ok fl =>
    cases fl with
    | ret obj =>
      obtain ⟨rfl, rfl⟩ := hr
      have gS : (s.heap.push (newSetO w)).get? s.heap.objs.size = some (newSetO w) := Heap.get?_push_size _ rfl
      have hT : Shared.TypeIs { s with heap := s.heap.push (newSetO w) } (.ref s.heap.objs.size) "set" := ⟨_, gS, rfl⟩
      have hli := F.called_set.init.lookup
      have hbi := F.called_set.init.bind (.ref s.heap.objs.size)
      repeat any_goals first | assumption | wp_step
      refine codeAny_mono (codeAny_call_builtin (R := wants (fun r s2 => r = .none ∧ ∃ h' tk, s2 = { s with heap := h', toks := tk } ∧ SetG prog w h' s.heap.objs.size (numsTo (fun i => ns.getD i 0) its.size) ∧
          (∀ b o, b < s.heap.objs.size → s.heap.get? b = some o → h'.get? b = some o)) E) F.called_set.init.plain F.entry_set_init (check_set_init_1 hT ?_)) fun r2 s2 hr2 => ?_
      · obtain ⟨⟨ocl, odi, oda, osl⟩, hol, hcl, nl, hdl⟩ := hL
        simp only at hcl hdl
        subst hcl hdl
        have hlS : l < s.heap.objs.size := Heap.lt_size hol
        have hol1 : (s.heap.push (newSetO w)).get? l = some { cls := .type "list", dict := odi, data := .seq its nl, slots := osl } := Heap.get?_push_of_some _ hol
        have hL1 : (s.heap.push (newSetO w)).IsList l its := ⟨_, hol1, rfl, nl, rfl⟩
        have q1 := F.sub_list_set
        have q2 := F.sub_list_frozenset
        have q3 : (Value.type "list" == Value.type "dict") = false := by decide
        unfold Builtin.«set.__init__» noKeywords Builtin.Frozenset.updateFrom
        generalize hPI : pyIter = PI
        wp_walk
        subst hPI
        refine wpAny_pyIter_list hL1 (wpAny_bind (wpAny_runValue ?_))
        have h3 : A.in1.in1.in1.handled = none := by simp [hh]
        have esz : (s.heap.push (newSetO w)).objs.size = s.heap.objs.size + 1 := Heap.size_push ..
        have nI : l ≠ (s.heap.push (newSetO w)).objs.size := by rw [esz]; exact Nat.ne_of_lt (Nat.lt_succ_of_lt hlS)
        have nF : s.heap.objs.size ∉ [(s.heap.push (newSetO w)).objs.size, l] := by
          rw [esz]
          intro z
          rcases List.mem_cons.mp z with z | z
          · exact absurd z (Nat.ne_of_lt (Nat.lt_succ_self _))
          · exact absurd (List.mem_singleton.mp z) (Nat.ne_of_gt hlS)
        refine fill_loop ((Walks.list h3 _ l nI its).toS) s.heap.objs.size nF (fun i => ns.getD i 0) (fun i v hv => IntsAre.int_at hI i v (by rw [Array.getElem?_toList]; exact hv)) hb its.size 0 _ (by omega) (Nat.zero_le _) ⟨⟨_, Heap.get?_push_size _ rfl, rfl, rfl⟩, (hL1.push _)⟩ (newSetG (Heap.get?_push_of_some _ gS)) ?_
        intro s3 hm hG
        obtain ⟨h', g', d', tk', os'⟩ := s3
        have eg : g' = s.gens := hm.gens
        have ed : d' = s.drawn := hm.drawn
        have eo : os' = s.os := hm.os
        subst eg ed eo
        refine wpAny_pure (?_ : wpAny _ _ (ret Value.none) _ _ _)
        refine wpAny_pure ⟨rfl, h', tk', rfl, hG, fun b o hb e => ?_⟩
        refine hm.heap b o (fun z => ?_) (Heap.get?_push_of_some _ (Heap.get?_push_of_some _ e))
        rcases List.mem_cons.mp z with z | z
        · exact absurd z (Nat.ne_of_lt hb)
        · have := List.mem_singleton.mp z
          rw [esz] at this
          exact absurd this (Nat.ne_of_lt (Nat.lt_succ_of_lt hb))
      · cases r2 with
        | error e => exact hr2
        | ok fl2 =>
          cases fl2 with
          | ret r =>
            obtain ⟨rfl, h', tk, rfl, hG, hk⟩ := hr2
            repeat any_goals first | assumption | wp_step
            exact h _ _ hG hk
          | _ => exact hr2.elim
    | _ => exact hr.elim
end
end L2

set_option Elab.async false
set_option linter.all false
set_option maxRecDepth 100000
set_option maxHeartbeats 3200000
namespace L2
open PySem PySem.Spec PyProof.Rows
theorem slot_si_next : Slot "set_iterator" "__next__" "set_iterator.__next__" := .of (owner := "set_iterator") (n := "__next__") (by rw [typeLookup_type, builtinLookup_eq_fast]; kernel_rfl) (by decide +kernel) (by decide +kernel) (by decide +kernel) (by first | exact .inl (by decide +kernel) | exact .inr (by decide +kernel)) (by rw [isSubtype_type]; kernel_rfl)
theorem entry_si_next : entryFor table "set_iterator.__next__" = some Builtin.«set_iterator.__next__» := entryFor_of_tree (by kernel_rfl)
theorem slot_si_iter : Slot "set_iterator" "__iter__" "set_iterator.__iter__" := .of (owner := "set_iterator") (n := "__iter__") (by rw [typeLookup_type, builtinLookup_eq_fast]; kernel_rfl) (by decide +kernel) (by decide +kernel) (by decide +kernel) (by first | exact .inl (by decide +kernel) | exact .inr (by decide +kernel)) (by rw [isSubtype_type]; kernel_rfl)
theorem entry_si_iter : entryFor table "set_iterator.__iter__" = some Builtin.«dict_keyiterator.__iter__» := entryFor_alias (id' := "dict_keyiterator.__iter__") (by kernel_rfl) (by first | rfl | decide +kernel) (by decide +kernel) (by kernel_rfl)
theorem entry_set_iter : entryFor table "set.__iter__" = some Builtin.«frozenset.__iter__» := entryFor_alias (id' := "frozenset.__iter__") (by kernel_rfl) (by first | rfl | decide +kernel) (by decide +kernel) (by kernel_rfl)
theorem owner_si : Manifest.owners.lookup (String.ofList ['r', 'o', 't', 'a', 'r', 'e', 't', 'i', '_', 't', 'e', 's'].reverse) = some Manifest.sig_set_iterator := by kernel_rfl
abbrev SetIt (h : Heap) (it : Addr) (f0 : Value) (i : Nat) (a : Addr) (n ep : Nat) : Prop :=
  h.get? it = some { cls := .type "set_iterator", dict := none, data := .fields #[f0, rawInt i, .ref a, rawInt n, rawInt ep], slots := #[] }
section
variable {prog : Program} {w : World} {A : Around} {E : Value → Shared → Prop} {s : Shared} {it a : Addr} {i n ep : Nat} {es : Array (Int × Value)} {t : SetTable} {o : Obj} {x : Value}
theorem args_si_next (v : Value) : argsOk "set_iterator.__next__" ⟨[v], []⟩ := by
  unfold argsOk
  rw [signature?_of (id := "set_iterator.__next__") (n := ['_', '_', 't', 'x', 'e', 'n', '_', '_']) (o := ['r', 'o', 't', 'a', 'r', 'e', 't', 'i', '_', 't', 'e', 's']) (by kernel_rfl) owner_si]
  kernel_rfl
theorem args_si_iter (v : Value) : argsOk "set_iterator.__iter__" ⟨[v], []⟩ := by
  unfold argsOk
  rw [signature?_of (id := "set_iterator.__iter__") (n := ['_', '_', 'r', 'e', 't', 'i', '_', '_']) (o := ['r', 'o', 't', 'a', 'r', 'e', 't', 'i', '_', 't', 'e', 's']) (by kernel_rfl) owner_si]
  kernel_rfl
theorem si_item {sl nx : Nat} {Q : Option Value → Shared → Prop} (hit : SetIt s.heap it (rawInt sl) i a es.size ep) (ho : s.heap.get? a = some o) (hd : o.data = .set es ep t) (hf : t.fits es.size = true)
    (hn : ∀ {A' : Around} {E' : Value → Shared → Prop} {Q' : Option (Value × Nat) → Shared → Prop}, Q' (some (x, nx)) s → wpAny (model prog w) A' (setNext a sl i ep) Q' E' s)
    (hQ : ∀ h', SetIt h' it (rawInt nx) (i + 1) a es.size ep → Heap.SameBut it s.heap h' → Q (some x) { s with heap := h' }) : wpAny (model prog w) A (pyNext (.ref it)) Q E s := by
  have hT : s.TypeIs (.ref it) "set_iterator" := ⟨_, hit, rfl⟩
  unfold pyNext
  refine wpAny_bind (wpAny_attempt (wpAny_callSpecial?_slot (name := Str.ofString "__next__") hT slot_si_next (wpAny_call_entry slot_si_next hT entry_si_next ?_ (args_si_next _))))
  show wpAny _ _ (fieldsOf (.ref it) >>= _) _ _ s
  refine wpAny_bind (wpAny_fieldsOf hit rfl ?_)
  show wpAny _ _ (setEntries a >>= _) _ _ s
  refine wpAny_bind (wpAny_setEntries_of ho hd hf ?_)
  dsimp only
  rw [if_neg (by simp)]
  show wpAny _ _ (setNext a (sl : Int).toNat (i : Int).toNat (ep : Int).toNat >>= _) _ _ s
  rw [Int.toNat_natCast, Int.toNat_natCast, Int.toNat_natCast]
  refine wpAny_bind (hn ?_)
  dsimp only
  refine wpAny_bind (wpAny_setField_rec hit (by simp) fun h1 hit1 e1 => wpAny_bind (wpAny_setField_rec (s := { s with heap := h1 }) hit1 (by simp) fun h2 hit2 e2 => ?_))
  exact wpAny_pure ⟨x, rfl, wpAny_pure (hQ h2 hit2 (e1.trans e2))⟩
theorem stop_here {B : Around} {Q : Fin → Shared → Prop} {E' : Value → Shared → Prop} (hh : B.handled = none) (h : ∀ h' e, (∀ b o, s.heap.get? b = some o → h'.get? b = some o) → (∃ o, h'.get? e = some o ∧ o.cls = .type "StopIteration") → E' (.ref e) { s with heap := h' }) :
    wpAny (model prog w) B (do let x ← newExc (.type "StopIteration") []; raiseNew x) Q E' s := by
  refine wpAny_bind ?_
  simp only [newExc, newTuple]
  refine wpAny_bind (wpAny_newObj_type ?_ (by size_fits))
  refine wpAny_bind (m := firstArgMember _ _) (wpAny_of_eq (a := Value.none) (by first | rfl | (simp only [firstArgMember]; rfl)) ?_)
  refine wpAny_newObj_type ?_ (by size_fits)
  simp only [raiseNew]
  refine wpAny_bind (wpAny_handled ?_)
  rw [hh]
  refine wpAny_bind (wpAny_pure (wpAny_throw ?_))
  exact h _ _ (fun b o e => Heap.get?_push_of_some _ (Heap.get?_push_of_some _ e)) ⟨_, Heap.get?_push_size _ rfl, rfl⟩
theorem si_end {sl : Nat} {Q : Option Value → Shared → Prop} (hh : A.handled = none) (hit : SetIt s.heap it (rawInt sl) i a es.size ep) (ho : s.heap.get? a = some o) (hd : o.data = .set es ep t) (hf : t.fits es.size = true)
    (hn : ∀ {A' : Around} {E' : Value → Shared → Prop} {Q' : Option (Value × Nat) → Shared → Prop}, Q' none s → wpAny (model prog w) A' (setNext a sl i ep) Q' E' s)
    (hQ : ∀ h', (∀ b o, b ≠ it → s.heap.get? b = some o → h'.get? b = some o) → Q none { s with heap := h' }) : wpAny (model prog w) A (pyNext (.ref it)) Q E s := by
  have hT : s.TypeIs (.ref it) "set_iterator" := ⟨_, hit, rfl⟩
  unfold pyNext
  refine wpAny_bind (wpAny_attempt (wpAny_callSpecial?_slot (name := Str.ofString "__next__") hT slot_si_next (wpAny_call_entry slot_si_next hT entry_si_next ?_ (args_si_next _))))
  show wpAny _ _ (fieldsOf (.ref it) >>= _) _ _ s
  refine wpAny_bind (wpAny_fieldsOf hit rfl ?_)
  show wpAny _ _ (setEntries a >>= _) _ _ s
  refine wpAny_bind (wpAny_setEntries_of ho hd hf ?_)
  dsimp only
  rw [if_neg (by simp)]
  show wpAny _ _ (setNext a (sl : Int).toNat (i : Int).toNat (ep : Int).toNat >>= _) _ _ s
  rw [Int.toNat_natCast, Int.toNat_natCast, Int.toNat_natCast]
  refine wpAny_bind (hn ?_)
  dsimp only
  refine wpAny_bind (wpAny_setField_rec hit (by simp) fun h1 _ e1 => stop_here (s := { s with heap := h1 }) (by first | exact hh | (show A.handled = none; exact hh)) fun h2 e k2 he => ?_)
  obtain ⟨oe, hoe, hce⟩ := he
  refine wpAny_bind (wpAny_isInstance (T := "StopIteration") (b := true) ⟨oe, hoe, hce⟩ isSubtype_stop (wpAny_pure (hQ h2 fun b o hb e' => k2 b o (e1.extBut b o hb e'))))
end
end L2

set_option Elab.async false
set_option linter.all false
set_option maxRecDepth 100000
set_option maxHeartbeats 3200000
namespace L2
open PySem PySem.Spec PyProof.Rows
theorem erase_perm {α : Type} : ∀ (l : List α) (i : Nat) (h : i < l.length), (l[i] :: l.eraseIdx i).Perm l
  | x :: l, 0, _ => .refl _
  | x :: l, i + 1, h => by
    rw [List.eraseIdx_cons_succ, List.getElem_cons_succ]
    exact (List.Perm.swap _ _ _).trans ((erase_perm l i (by simpa using h)).cons x)
theorem pick_go {α : Type} (f : Nat → Nat) : ∀ (fuel k : Nat) (left : List α) (out : Array α), left.length ≤ fuel → (pickOrder.go f fuel k left out).toList.Perm (out.toList ++ left)
  | 0, k, left, out, h => by
    have : left = [] := List.eq_nil_of_length_eq_zero (by omega)
    subst this
    unfold pickOrder.go
    rw [List.append_nil]
  | fuel + 1, k, left, out, h => by
    unfold pickOrder.go
    cases left with
    | nil => simp
    | cons y r =>
      have hi : f k % (y :: r).length < (y :: r).length := Nat.mod_lt _ (by simp)
      rw [List.getElem?_eq_getElem hi]
      dsimp only
      refine (pick_go f fuel (k + 1) _ _ (by rw [List.length_eraseIdx_of_lt hi]; omega)).trans ?_
      rw [Array.toList_push, List.append_assoc]
      refine List.Perm.append_left _ ?_
      exact erase_perm _ _ hi
theorem pick_perm {α : Type} (f : Nat → Nat) (xs : Array α) : (pickOrder f xs).toList.Perm xs.toList := by
  unfold pickOrder
  have := pick_go f xs.size 0 xs.toList #[] (by simp)
  simpa using this
section
variable {prog : Program} {w : World} {A : Around} {E : Value → Shared → Prop} {s : Shared} {it a : Addr} {i n ep : Nat} {es : Array (Int × Value)} {t : SetTable} {o : Obj} {x : Value}
theorem by_text {Q : Bool → Shared → Prop} (h : Q (w.params.followText "set-order") s) : wpAny (model prog w) A setsByText Q E s := by
  unfold setsByText
  exact wpAny_bind (wpAny_askSetting (wpAny_pure h))
theorem next_tab {sl : Nat} {Q : Option (Value × Nat) → Shared → Prop} (ho : s.heap.get? a = some o) (hd : o.data = .set es ep t) (hf : t.fits es.size = true) (hT : w.params.followText "set-order" = false) (hp : (!t.plain && decide (es.size > 1)) = false) (hl : t.led = true)
    (h : Q (match es[SetTable.below t.place sl]?, t.place[SetTable.below t.place sl]? with | some (_, x), some j => some (x, j + 1) | _, _ => none) s) : wpAny (model prog w) A (setNext a sl i ep) Q E s := by
  unfold setNext
  refine wpAny_bind (wpAny_setState_of ho hd hf (wpAny_bind (by_text ?_)))
  rw [hT]
  show wpAny _ _ (if (!t.plain && decide (es.size > 1)) = true then _ else _) _ _ _
  rw [hp]
  show wpAny _ _ ((if (!t.led && !es.isEmpty) = true then unsupported _ else pure ()) >>= _) _ _ _
  rw [hl]
  exact wpAny_bind (wpAny_pure (wpAny_pure h))
theorem next_text {sl : Nat} {Q : Option (Value × Nat) → Shared → Prop} (ho : s.heap.get? a = some o) (hd : o.data = .set es ep t) (hf : t.fits es.size = true) (hT : w.params.followText "set-order" = true)
    (h : Q (((pickOrder (w.params.setOrder a ep) es)[i]?).map fun e => (e.2, sl)) s) : wpAny (model prog w) A (setNext a sl i ep) Q E s := by
  unfold setNext
  refine wpAny_bind (wpAny_setState_of ho hd hf (wpAny_bind (by_text ?_)))
  rw [hT]
  rw [if_pos rfl]
  dsimp only
  rw [if_neg (by simp)]
  refine wpAny_bind ?_
  unfold setWalk
  refine wpAny_bind (wpAny_setState_of ho hd hf (wpAny_bind (by_text ?_)))
  rw [hT]
  show wpAny _ _ (do let y ← ask; pure (pickOrder (y.params.setOrder a ep) es)) _ _ _
  exact wpAny_bind (wpAny_askSetting (wpAny_pure (wpAny_pure h)))
theorem any_choose {src : Source} {k : Nat} {Q : Nat → Shared → Prop} (hk : k ≠ 0) (h : ∀ j d', j < k → Q j { s with drawn := d' }) : wpAny (model prog w) A (choose src k) Q E s := fun Γ p _ => by
  unfold choose
  rw [Sem.wp_choose]
  exact ⟨hk, h _ _ (Nat.mod_lt _ (Nat.pos_of_ne_zero hk))⟩
theorem draw_order {α : Type} : ∀ (k : Nat) (xs : List α) (s : Shared) (Q : List α → Shared → Prop), k = xs.length → (∀ ys d', ys.Perm xs → Q ys { s with drawn := d' }) → wpAny (model prog w) A (drawOrder k xs) Q E s
  | 0, xs, s, Q, hk, h => by
    have : xs = [] := List.eq_nil_of_length_eq_zero hk.symm
    subst this
    unfold drawOrder
    have := h [] s.drawn (.refl _)
    exact wpAny_pure this
  | k + 1, [], s, Q, hk, h => by cases hk
  | k + 1, y :: r, s, Q, hk, h => by
    unfold drawOrder
    refine wpAny_bind (any_choose (by simp) fun j d' hj => ?_)
    rw [List.getElem?_eq_getElem hj]
    dsimp only
    refine wpAny_bind (draw_order k _ _ _ (by rw [List.length_eraseIdx_of_lt hj, ← hk]; rfl) fun ys d2 hp => ?_)
    exact wpAny_pure (h _ d2 ((hp.cons _).trans (erase_perm _ _ hj)))
theorem si_itemC {T : Addr} {items : Array Value} {p : Nat} {hx : Int} {Q : Option Value → Shared → Prop} (hit : SetIt s.heap it (.ref T) i a es.size ep) (hT' : s.heap.get? T = some { cls := .type "tuple", data := .seq items }) (ho : s.heap.get? a = some o) (hd : o.data = .set es ep t) (hf : t.fits es.size = true) (h1 : items[i]? = some (rawInt p)) (h2 : es[p]? = some (hx, x))
    (hQ : ∀ h', SetIt h' it (.ref T) (i + 1) a es.size ep → Heap.SameBut it s.heap h' → Q (some x) { s with heap := h' }) : wpAny (model prog w) A (pyNext (.ref it)) Q E s := by
  have hT : s.TypeIs (.ref it) "set_iterator" := ⟨_, hit, rfl⟩
  unfold pyNext
  refine wpAny_bind (wpAny_attempt (wpAny_callSpecial?_slot (name := Str.ofString "__next__") hT slot_si_next (wpAny_call_entry slot_si_next hT entry_si_next ?_ (args_si_next _))))
  show wpAny _ _ (fieldsOf (.ref it) >>= _) _ _ s
  refine wpAny_bind (wpAny_fieldsOf hit rfl ?_)
  show wpAny _ _ (setEntries a >>= _) _ _ s
  refine wpAny_bind (wpAny_setEntries_of ho hd hf ?_)
  dsimp only
  rw [if_neg (by simp)]
  show wpAny _ _ (seqItems? (.ref T) >>= _) _ _ s
  refine wpAny_bind (wpAny_seqItems hT' rfl ?_)
  dsimp only
  rw [Int.toNat_natCast, h1]
  show wpAny _ _ (setNextDrawn a (p : Int).toNat (ep : Int).toNat >>= _) _ _ s
  rw [Int.toNat_natCast, Int.toNat_natCast]
  refine wpAny_bind ?_
  unfold setNextDrawn
  refine wpAny_bind (wpAny_setState_of ho hd hf ?_)
  dsimp only
  rw [if_neg (by simp), h2]
  refine wpAny_pure (wpAny_bind (wpAny_setField_rec hit (by simp) fun h1 hit1 e1 => ?_))
  exact wpAny_pure ⟨x, rfl, wpAny_pure (hQ h1 hit1 e1)⟩
theorem si_endC {T : Addr} {items : Array Value} {Q : Option Value → Shared → Prop} (hh : A.handled = none) (hit : SetIt s.heap it (.ref T) i a es.size ep) (hT' : s.heap.get? T = some { cls := .type "tuple", data := .seq items }) (ho : s.heap.get? a = some o) (hd : o.data = .set es ep t) (hf : t.fits es.size = true) (h1 : items[i]? = none)
    (hQ : ∀ h', (∀ b o, b ≠ it → s.heap.get? b = some o → h'.get? b = some o) → Q none { s with heap := h' }) : wpAny (model prog w) A (pyNext (.ref it)) Q E s := by
  have hT : s.TypeIs (.ref it) "set_iterator" := ⟨_, hit, rfl⟩
  unfold pyNext
  refine wpAny_bind (wpAny_attempt (wpAny_callSpecial?_slot (name := Str.ofString "__next__") hT slot_si_next (wpAny_call_entry slot_si_next hT entry_si_next ?_ (args_si_next _))))
  show wpAny _ _ (fieldsOf (.ref it) >>= _) _ _ s
  refine wpAny_bind (wpAny_fieldsOf hit rfl ?_)
  show wpAny _ _ (setEntries a >>= _) _ _ s
  refine wpAny_bind (wpAny_setEntries_of ho hd hf ?_)
  dsimp only
  rw [if_neg (by simp)]
  show wpAny _ _ (seqItems? (.ref T) >>= _) _ _ s
  refine wpAny_bind (wpAny_seqItems hT' rfl ?_)
  dsimp only
  rw [Int.toNat_natCast, h1]
  refine wpAny_bind (wpAny_setField_rec hit (by simp) fun g1 hit1 e1 => wpAny_bind (wpAny_setField_rec (s := { s with heap := g1 }) hit1 (by simp) fun g2 _ e2 => stop_here (s := { s with heap := g2 }) (by first | exact hh | (show A.handled = none; exact hh)) fun g3 e k3 he => ?_))
  obtain ⟨oe, hoe, hce⟩ := he
  refine wpAny_bind (wpAny_isInstance (T := "StopIteration") (b := true) ⟨oe, hoe, hce⟩ isSubtype_stop (wpAny_pure (hQ g3 fun b o hb e' => k3 b o (e2.extBut b o hb (e1.extBut b o hb e')))))
end
end L2

set_option Elab.async false
set_option linter.all false
set_option maxRecDepth 100000
set_option maxHeartbeats 3200000
namespace L2
open PySem PySem.Spec PyProof.Rows
inductive SMode where
  | tab
  | text
  | draw (T : Addr) (ps : List Nat)
def slotAt (ps : Array Nat) : Nat → Nat
  | 0 => 0
  | i + 1 => ps.getD i 0 + 1
def SSt (m : SMode) (it a : Addr) (o : Obj) (es : Array (Int × Value)) (ep : Nat) (t : SetTable) (i : Nat) (h : Heap) : Prop := h.get? a = some o ∧ match m with
  | .tab => SetIt h it (rawInt (slotAt t.place i)) i a es.size ep
  | .text => SetIt h it (rawInt (0 : Nat)) i a es.size ep
  | .draw T ps => SetIt h it (.ref T) i a es.size ep ∧ h.get? T = some { cls := .type "tuple", data := .seq (ps.map fun p : Nat => rawInt p).toArray }
def SVs (w : World) (m : SMode) (a : Addr) (es : Array (Int × Value)) (ep : Nat) : List Value := match m with
  | .tab => es.toList.map (·.2)
  | .text => (pickOrder (w.params.setOrder a ep) es).toList.map (·.2)
  | .draw _ ps => ps.map fun p => (es.getD p (0, .none)).2
def SOk (w : World) (m : SMode) (es : Array (Int × Value)) (t : SetTable) : Prop := match m with
  | .tab => w.params.followText "set-order" = false ∧ (!t.plain && decide (es.size > 1)) = false ∧ t.led = true ∧ Rise t.place
  | .text => w.params.followText "set-order" = true
  | .draw _ ps => ps.Perm (List.range es.size)
def sfp (m : SMode) (it a : Addr) : List Addr := match m with
  | .draw T _ => [it, a, T]
  | _ => [it, a]
theorem map_getD_range {es : Array (Int × Value)} : (List.range es.size).map (fun p => (es.getD p (0, Value.none)).2) = es.toList.map (·.2) := by
  apply List.ext_getElem
  · simp
  · intro i h1 h2
    have hi : i < es.size := by simpa using h1
    simp [Array.getD, hi]
theorem svs_perm {w : World} {m : SMode} {a : Addr} {es : Array (Int × Value)} {ep : Nat} {t : SetTable} (h : SOk w m es t) : (SVs w m a es ep).Perm (es.toList.map (·.2)) := by
  cases m with
  | tab => exact .refl _
  | text => exact (pick_perm _ es).map _
  | draw T ps =>
    have := List.Perm.map (fun p => (es.getD p (0, Value.none)).2) h
    rw [map_getD_range] at this
    exact this
theorem svs_len {w : World} {m : SMode} {a : Addr} {es : Array (Int × Value)} {ep : Nat} {t : SetTable} (h : SOk w m es t) : (SVs w m a es ep).length = es.size := by
  rw [(svs_perm h).length_eq, List.length_map, Array.length_toList]
section
variable {prog : Program} {w : World} {A : Around} {m : SMode} {it a : Addr} {ep : Nat} {es : Array (Int × Value)} {t : SetTable} {o : Obj}
theorem slot_below (hr : Rise t.place) {i : Nat} (hi : i ≤ t.place.size) : SetTable.below t.place (slotAt t.place i) = i := by
  cases i with
  | zero => exact below_zero hr
  | succ i => exact below_next hr (by omega)
theorem set_walk (hh : A.handled = none) (hd : o.data = .set es ep t) (hf : t.fits es.size = true) (ok : SOk w m es t) (hne : it ≠ a) (hT : ∀ T ps, m = .draw T ps → T ≠ it) : Walks prog w A it (sfp m it a) [it] es.size (fun i v => (SVs w m a es ep)[i]? = some v) (SSt m it a o es ep t) where
  sub := fun b hb => by
    have : b = it := List.mem_singleton.mp hb
    subst this
    cases m <;> simp [sfp]
  frame := fun i h h' st k => by
    obtain ⟨h1, h2⟩ := st
    cases m with
    | tab => exact ⟨k a (by simp [sfp]) _ h1, k it (by simp [sfp]) _ h2⟩
    | text => exact ⟨k a (by simp [sfp]) _ h1, k it (by simp [sfp]) _ h2⟩
    | draw T ps => exact ⟨k a (by simp [sfp]) _ h1, k it (by simp [sfp]) _ h2.1, k T (by simp [sfp]) _ h2.2⟩
  item := fun i s Q E hi st hQ => by
    have hps : t.place.size = es.size := by
      unfold SetTable.fits at hf
      rw [Bool.and_eq_true, beq_iff_eq] at hf
      exact hf.1
    obtain ⟨h1, h2⟩ := st
    have other : ∀ h', Heap.SameBut it s.heap h' → ∀ b o, b ∉ [it] → s.heap.get? b = some o → h'.get? b = some o := fun h' e b o hb q => e.extBut b o (fun z => hb (by rw [z]; simp)) q
    have same : s = { s with toks := s.toks } := by cases s; rfl
    cases m with
    | tab =>
      obtain ⟨o1, o2, o3, o4⟩ := ok
      have eb := slot_below o4 (i := i) (by omega)
      refine si_item (x := es[i].2) (nx := t.place.getD i 0 + 1) h2 h1 hd hf (fun {A' E' Q'} q => next_tab h1 hd hf o1 o2 o3 ?_) fun h' hit e => hQ es[i].2 h' s.toks ?_ ⟨other h' e a _ (by simpa using fun z => hne z.symm) h1, hit⟩ (other h' e)
      · rw [eb, Array.getElem?_eq_getElem hi, Array.getElem?_eq_getElem (by omega)]
        have e2 : t.place.getD i 0 = t.place[i]'(by omega) := by simp [Array.getD, show i < t.place.size by omega]
        rw [e2] at q
        exact q
      · show (es.toList.map (·.2))[i]? = _
        rw [List.getElem?_map, Array.getElem?_toList, Array.getElem?_eq_getElem hi]
        rfl
    | text =>
      have hl : i < (pickOrder (w.params.setOrder a ep) es).size := by
        have := (pick_perm (w.params.setOrder a ep) es).length_eq
        rw [Array.length_toList, Array.length_toList] at this
        omega
      refine si_item (x := ((pickOrder (w.params.setOrder a ep) es)[i]).2) (nx := 0) h2 h1 hd hf (fun {A' E' Q'} q => next_text h1 hd hf ok ?_) fun h' hit e => hQ _ h' s.toks ?_ ⟨other h' e a _ (by simpa using fun z => hne z.symm) h1, hit⟩ (other h' e)
      · rw [Array.getElem?_eq_getElem hl]
        exact q
      · show ((pickOrder (w.params.setOrder a ep) es).toList.map (·.2))[i]? = _
        rw [List.getElem?_map, Array.getElem?_toList, Array.getElem?_eq_getElem hl]
        rfl
    | draw T ps =>
      have hpl : ps.length = es.size := by rw [List.Perm.length_eq ok, List.length_range]
      have hp : ps[i] < es.size := List.mem_range.mp (List.Perm.mem_iff ok |>.mp (List.getElem_mem (by omega)))
      refine si_itemC (p := ps[i]) (hx := es[ps[i]].1) (x := es[ps[i]].2) h2.1 h2.2 h1 hd hf ?_ ?_ fun h' hit e => hQ _ h' s.toks ?_ ⟨other h' e a _ (by simpa using fun z => hne z.symm) h1, hit, other h' e T _ (by simpa using hT T ps rfl) h2.2⟩ (other h' e)
      · simp [show i < ps.length by omega]
      · rw [Array.getElem?_eq_getElem hp]
      · show (ps.map fun p => (es.getD p (0, Value.none)).2)[i]? = _
        rw [List.getElem?_map, List.getElem?_eq_getElem (by omega)]
        simp [Array.getD, hp]
  done := fun s Q E st hQ => by
    have hps : t.place.size = es.size := by
      unfold SetTable.fits at hf
      rw [Bool.and_eq_true, beq_iff_eq] at hf
      exact hf.1
    obtain ⟨h1, h2⟩ := st
    have fin : ∀ h', (∀ b o, b ≠ it → s.heap.get? b = some o → h'.get? b = some o) → Q none { s with heap := h' } := fun h' k => hQ h' s.toks fun b o hb q => k b o (fun z => hb (by rw [z]; simp)) q
    cases m with
    | tab =>
      obtain ⟨o1, o2, o3, o4⟩ := ok
      have eb := slot_below o4 (i := es.size) (by omega)
      refine si_end hh h2 h1 hd hf (fun {A' E' Q'} q => next_tab h1 hd hf o1 o2 o3 ?_) fin
      rw [eb, Array.getElem?_eq_none (Nat.le_refl _)]
      exact q
    | text =>
      refine si_end hh h2 h1 hd hf (fun {A' E' Q'} q => next_text h1 hd hf ok ?_) fin
      have := (pick_perm (w.params.setOrder a ep) es).length_eq
      rw [Array.length_toList, Array.length_toList] at this
      rw [Array.getElem?_eq_none (by omega)]
      exact q
    | draw T ps =>
      have hpl : ps.length = es.size := by rw [List.Perm.length_eq ok, List.length_range]
      refine si_endC hh h2.1 h2.2 h1 hd hf ?_ fin
      simp [hpl]
  self := fun i s Q E st hQ => by
    have hit : ∃ f0, SetIt s.heap it f0 i a es.size ep := by
      obtain ⟨_, h2⟩ := st
      cases m with
      | tab => exact ⟨_, h2⟩
      | text => exact ⟨_, h2⟩
      | draw T ps => exact ⟨_, h2.1⟩
    obtain ⟨f0, hit⟩ := hit
    have hT : s.TypeIs (.ref it) "set_iterator" := ⟨_, hit, rfl⟩
    exact wpAny_pyIter_slot hT slot_si_iter (wpAny_call_entry slot_si_iter hT entry_si_iter (show wpAny _ _ (ret (.ref it)) _ _ s from wpAny_pure ⟨_, rfl, "set_iterator", _, hT, slot_si_next.lookup, hQ⟩) (args_si_iter _))
end
end L2

set_option Elab.async false
set_option linter.all false
set_option maxRecDepth 100000
set_option maxHeartbeats 3200000
namespace L2
open PySem PySem.Spec PyProof.Rows
section
variable {prog : Program} {w : World} {A : Around} {E : Value → Shared → Prop} {s : Shared} {a : Addr} {ep : Nat} {es : Array (Int × Value)} {t : SetTable} {o : Obj} {ks : List Int}
theorem iter_set {Q : Value → Shared → Prop} (ho : s.heap.get? a = some o) (hx : o.ExactSet) (hd : o.data = .set es ep t) (H : SetE prog w es t ks) (hz : es.size ≤ 1000)
    (hQ : ∀ (m : SMode) (it : Addr) (h' : Heap) d', SOk w m es t → SSt m it a o es ep t 0 h' → it ≠ a → (∀ T ps, m = .draw T ps → T ≠ it) → s.heap.objs.size ≤ it → (∀ T ps, m = .draw T ps → s.heap.objs.size ≤ T) → (∀ b o, s.heap.get? b = some o → h'.get? b = some o) → Q (.ref it) { s with heap := h', drawn := d' }) :
    wpAny (model prog w) A (pyIter (.ref a)) Q E s := by
  have hT : s.TypeIs (.ref a) "set" := ⟨o, ho, hx.1⟩
  refine wpAny_pyIter_slot hT F.slot_set_iter (wpAny_call_entry F.slot_set_iter hT entry_set_iter ?_ (F.args_set_iter_1 _))
  unfold Builtin.«frozenset.__iter__»
  have hsz : ∀ {s1 : Shared} {f0 : Value} {Q1 : Fin → Shared → Prop}, s1.heap.get? a = some o → (Q1 (.done (.ret (.ref s1.heap.objs.size))) { s1 with heap := s1.heap.push { cls := .type "set_iterator", data := .fields #[f0, rawInt (0 : Nat), .ref a, rawInt es.size, rawInt ep] } }) → wpAny (model prog w) A.in1 (do let e ← setEpoch a; let v ← newFields "set_iterator" [f0, rawInt 0, .ref a, rawInt es.size, rawInt e]; ret v) Q1 E s1 := fun {s1 f0 Q1} h1 q => by
    refine wpAny_bind (wpAny_setEpoch_of h1 hd H.fits (wpAny_bind ?_))
    simp only [newFields]
    refine wpAny_newObj_type ?_ (by size_fits)
    exact wpAny_pure q
  show wpAny _ _ (Builtin.Frozenset.sizeOf a >>= _) _ _ s
  unfold Builtin.Frozenset.sizeOf
  refine wpAny_bind (wpAny_bind (wpAny_setEntries_of ho hd H.fits (wpAny_pure ?_)))
  refine wpAny_bind ?_
  unfold setDrawn
  refine wpAny_bind (wpAny_setState_of ho hd H.fits (wpAny_bind (by_text (wpAny_pure ?_))))
  show wpAny _ _ (if (!w.params.followText "set-order" && (!t.plain && decide (es.size > 1))) = true then _ else _) _ _ s
  have hlt : a < s.heap.objs.size := Heap.lt_size ho
  have same : s = { s with drawn := s.drawn } := by cases s; rfl
  have hit0 : ∀ (f0 : Value), SetIt (s.heap.push { cls := .type "set_iterator", data := .fields #[f0, rawInt (0 : Nat), .ref a, rawInt es.size, rawInt ep] }) s.heap.objs.size f0 0 a es.size ep := fun f0 => Heap.get?_push_size _ rfl
  by_cases hc : (!w.params.followText "set-order" && (!t.plain && decide (es.size > 1))) = true
  · rw [if_pos hc]
    have hsl : ∀ k, k ≤ 1000 → k ≤ sizeLine := fun k hk => Nat.le_of_lt (small1000 hk)
    refine wpAny_bind (draw_order es.size (List.range es.size) s _ (by simp) fun ps d' hp => wpAny_bind (wpAny_newTuple ?_ (by rw [List.length_map, hp.length_eq, List.length_range]; exact hsl _ hz)))
    refine hsz (s1 := { s with drawn := d', heap := s.heap.push { cls := .type "tuple", data := .seq (ps.map fun i : Nat => rawInt i).toArray } }) (f0 := .ref s.heap.objs.size) (Heap.get?_push_of_some _ ho) ?_
    refine ⟨_, rfl, "set_iterator", _, ⟨_, Heap.get?_push_size _ rfl, rfl⟩, slot_si_next.lookup, ?_⟩
    have e1 : (s.heap.push { cls := .type "tuple", data := .seq (ps.map fun i : Nat => rawInt i).toArray }).objs.size = s.heap.objs.size + 1 := Heap.size_push ..
    refine hQ (.draw s.heap.objs.size ps) _ _ d' hp ⟨Heap.get?_push_of_some _ (Heap.get?_push_of_some _ ho), Heap.get?_push_size _ rfl, Heap.get?_push_of_some _ (Heap.get?_push_size _ rfl)⟩ ?_ (fun T ps' z => ?_) ?_ (fun T ps' z => ?_) fun b o' e => Heap.get?_push_of_some _ (Heap.get?_push_of_some _ e)
    · show (s.heap.push _).objs.size ≠ a
      rw [e1]
      exact Nat.ne_of_gt (Nat.lt_succ_of_lt hlt)
    · cases z
      show s.heap.objs.size ≠ (s.heap.push _).objs.size
      rw [e1]
      exact Nat.ne_of_lt (Nat.lt_succ_self _)
    · show s.heap.objs.size ≤ (s.heap.push _).objs.size
      rw [e1]
      exact Nat.le_succ _
    · cases z
      exact Nat.le_refl _
  · rw [if_neg hc]
    refine wpAny_bind (wpAny_pure (hsz ho ?_))
    refine ⟨_, rfl, "set_iterator", _, ⟨_, Heap.get?_push_size _ rfl, rfl⟩, slot_si_next.lookup, ?_⟩
    have keep : ∀ b o', s.heap.get? b = some o' → (s.heap.push { cls := .type "set_iterator", data := .fields #[rawInt (0 : Nat), rawInt (0 : Nat), .ref a, rawInt es.size, rawInt ep] }).get? b = some o' := fun b o' e => Heap.get?_push_of_some _ e
    by_cases hT2 : w.params.followText "set-order" = true
    · exact hQ .text _ _ s.drawn hT2 ⟨keep a o ho, hit0 _⟩ (Nat.ne_of_gt hlt) (fun T ps z => nomatch z) (Nat.le_refl _) (fun T ps z => nomatch z) keep
    · have hT2 : w.params.followText "set-order" = false := by simpa using hT2
      rw [hT2] at hc
      have hc : (!t.plain && decide (es.size > 1)) = false := by simpa using hc
      have hps : t.place.size = es.size := by
        have := H.fits
        unfold SetTable.fits at this
        rw [Bool.and_eq_true, beq_iff_eq] at this
        exact this.1
      have hr : Rise t.place := by
        cases hp : t.plain with
        | true => exact H.tab.rise hp
        | false =>
          rw [hp] at hc
          have : ¬ es.size > 1 := by simpa using hc
          intro i j hij hj
          omega
      exact hQ .tab _ _ s.drawn ⟨hT2, hc, by rw [H.led, hT2]; rfl, hr⟩ ⟨keep a o ho, hit0 _⟩ (Nat.ne_of_gt hlt) (fun T ps z => nomatch z) (Nat.le_refl _) (fun T ps z => nomatch z) keep
theorem hint_set {Q : Bool → Shared → Prop} (ho : s.heap.get? a = some o) (hx : o.ExactSet) (h : Q false s) : wpAny (model prog w) A (Builtin.List.listLengthHint (.ref a)) Q E s := by
  have hT : s.TypeIs (.ref a) "set" := ⟨o, ho, hx.1⟩
  unfold Builtin.List.listLengthHint
  refine wpAny_bind (wpAny_specialOf hT F.slot_set_len.lookup ?_)
  generalize hid : ("set.__len__" : String) = id0
  wp_delta
  rw [show splitId id0 = some ("set", "__len__") from by subst hid; decide +kernel]
  subst hid
  refine wpAny_bind (wpAny_isInstance (T := "set") (b := true) hT sub_set_self ?_)
  refine wpAny_ite_split (fun hq => absurd hq (by decide)) (fun _ => wpAny_ite_split (fun _ => ?_) (fun hq => absurd (by decide +kernel) hq))
  exact wpAny_bind (wpAny_typeOf hT (wpAny_pure h))
theorem ints_all : ∀ vs : List Value, (∀ v ∈ vs, ∃ k t, v = .int k t) → IntsAre vs (vs.map numOfV)
  | [], _ => .nil
  | v :: vs, h => by
    obtain ⟨k, t, rfl⟩ := h v List.mem_cons_self
    exact .cons k t (ints_all vs fun v hv => h v (List.mem_cons_of_mem _ hv))
theorem collect_set {R : List Value → Shared → Prop} (hh : A.handled = none) (hG : SetG prog w s.heap a ks) (hz : ks.length ≤ 1000)
    (h : ∀ vs ns h' d' tk, IntsAre vs ns → ns.Perm ks → (∀ b o, s.heap.get? b = some o → h'.get? b = some o) → s.toks ≤ tk → R vs { s with heap := h', drawn := d', toks := tk }) : wpAny (model prog w) A (collect (.ref a)) R E s := by
  obtain ⟨o, es, ep, t, ho, hx, hd, H⟩ := hG
  have hT : s.TypeIs (.ref a) "set" := ⟨o, ho, hx.1⟩
  have hes : es.size ≤ 1000 := by rw [H.size]; exact hz
  have hlt : a < s.heap.objs.size := Heap.lt_size ho
  unfold collect
  refine wpAny_bind (wpAny_runValue (codeAny_builtin entry_proto_collect' ?_))
  show wpAny _ _ (newList [] >>= fun l => again (.builtin "list.__iadd__" ⟨[l, .ref a], []⟩)) _ _ s
  have old : ∀ b o', s.heap.get? b = some o' → (s.heap.push (seqObj "list" #[] 0)).get? b = some o' := fun b o' e => Heap.get?_push_of_some _ e
  have gL : (s.heap.push (seqObj "list" #[] 0)).get? s.heap.objs.size = some (seqObj "list" #[] 0) := Heap.get?_push_size _ rfl
  have esz : (s.heap.push (seqObj "list" #[] 0)).objs.size = s.heap.objs.size + 1 := Heap.size_push ..
  have haL : s.heap.objs.size ≠ a := Nat.ne_of_gt hlt
  have add : codeAny (model prog w) A (.builtin "list.__iadd__" ⟨[.ref s.heap.objs.size, .ref a], []⟩) (fun r s' => r = .ok (.ret (.ref s.heap.objs.size)) ∧ ∃ h' d' tk acc c' ns, s' = { s with heap := h', drawn := d', toks := tk } ∧ (∀ b o, s.heap.get? b = some o → h'.get? b = some o) ∧
      h'.get? s.heap.objs.size = some { cls := .type "list", dict := none, data := .seq acc c', slots := #[] } ∧ IntsAre acc.toList ns ∧ ns.Perm ks ∧ s.toks ≤ tk) { s with heap := s.heap.push (seqObj "list" #[] 0) } := by
    refine codeAny_builtin entry_list_iadd' ?_
    show wpAny _ A.in1 (Builtin.List.listExtendWith (.ref s.heap.objs.size) (.ref a) (.ref s.heap.objs.size)) _ _ _
    unfold Builtin.List.listExtendWith
    refine wpAny_bind (wpAny_typeOf (T := "set") ⟨o, old a o ho, hx.1⟩ ?_)
    have q1 : Builtin.List.listSameRef (.ref s.heap.objs.size) (.ref a) = false := by simp [Builtin.List.listSameRef, haL]
    have q2 : (Value.type "set" == Value.type "list") = false := by decide
    have q3 : (Value.type "set" == Value.type "tuple") = false := by decide
    simp only [q1, q2, q3, Bool.or_false, Bool.false_eq_true, if_false]
    refine wpAny_bind (iter_set (s := { s with heap := s.heap.push (seqObj "list" #[] 0) }) (old a o ho) hx hd H hes fun m it h1 d1 ok st hita hTi hge hgT k1 => ?_)
    refine wpAny_bind (wpAny_holding (hint_set (s := { s with heap := h1, drawn := d1 }) (k1 a o (old a o ho)) hx ?_))
    have hge : s.heap.objs.size + 1 ≤ it := by rw [← esz]; exact hge
    have hLi : s.heap.objs.size ≠ it := Nat.ne_of_lt hge
    have hLf : s.heap.objs.size ∉ sfp m it a := by
      cases m with
      | tab => simp [sfp, hLi, haL]
      | text => simp [sfp, hLi, haL]
      | draw T ps =>
        have : s.heap.objs.size + 1 ≤ T := by rw [← esz]; exact hgT T ps rfl
        have : s.heap.objs.size ≠ T := Nat.ne_of_lt this
        simp [sfp, hLi, haL, this]
    have W := (set_walk (prog := prog) (A := A.in1) (by first | exact hh | (show A.handled = none; exact hh)) hd H.fits ok hita hTi).toS
    have key : ∀ (h2 : Heap) (c : Nat), SSt m it a o es ep t 0 h2 → (∀ b o, s.heap.get? b = some o → h2.get? b = some o) → h2.get? s.heap.objs.size = some { cls := .type "list", data := .seq #[] c } →
        codeAny (model prog w) A (.builtin "list.extend.loop" ⟨[.ref s.heap.objs.size, .ref it, .ref s.heap.objs.size], []⟩) (fun r s' => r = .ok (.ret (.ref s.heap.objs.size)) ∧ ∃ h' d' tk acc c' ns, s' = { s with heap := h', drawn := d', toks := tk } ∧ (∀ b o, s.heap.get? b = some o → h'.get? b = some o) ∧
          h'.get? s.heap.objs.size = some { cls := .type "list", dict := none, data := .seq acc c', slots := #[] } ∧ IntsAre acc.toList ns ∧ ns.Perm ks ∧ s.toks ≤ tk) { s with heap := h2, drawn := d1 } := fun h2 c st2 k2 g2 => by
      refine codeAny_extend_loopS W (Nat.le_of_lt (small1000 hes)) s.heap.objs.size hLf (.ref s.heap.objs.size) es.size 0 _ #[] c rfl (Nat.zero_le _) st2 g2 (ItemsOf.nil _) fun s' acc c' hm gS hacc => ?_
      obtain ⟨h', g', d', tk', os'⟩ := s'
      have eg : g' = s.gens := hm.gens
      have eo : os' = s.os := hm.os
      subst eg eo
      have eacc : acc.toList = SVs w m a es ep := by
        apply List.ext_getElem?
        intro j
        rw [Array.getElem?_toList]
        by_cases hj : j < acc.size
        · have := hacc.2 j acc[j] (Array.getElem?_eq_getElem hj)
          rw [this, Array.getElem?_eq_getElem hj]
        · have hl := svs_len (a := a) (ep := ep) ok
          have h0 := hacc.1
          rw [Array.getElem?_eq_none (by omega), List.getElem?_eq_none (by omega)]
      have hp := svs_perm (a := a) (ep := ep) ok
      refine ⟨rfl, h', d', tk', acc, c', acc.toList.map numOfV, rfl, fun b o' e => ?_, gS, ints_all _ fun v hv => ?_, ?_, hm.toks⟩
      · have hb := Heap.lt_size e
        refine hm.heap b o' (fun z => ?_) (k2 b o' e)
        rcases List.mem_cons.mp z with z | z
        · exact absurd z (Nat.ne_of_lt hb)
        · exact absurd (List.mem_singleton.mp z) (Nat.ne_of_lt (Nat.lt_of_lt_of_le (Nat.lt_succ_of_lt hb) hge))
      · rw [eacc] at hv
        obtain ⟨e, he, rfl⟩ := List.mem_map.mp (hp.mem_iff.mp hv)
        exact elem_int H.el he
      · rw [eacc]
        refine (hp.map numOfV).trans ?_
        rw [List.map_map]
        exact H.perm
    have k1' : ∀ b o', s.heap.get? b = some o' → h1.get? b = some o' := fun b o' e => k1 b o' (old b o' e)
    have g1 : h1.get? s.heap.objs.size = some { cls := .type "list", data := .seq #[] 0 } := k1 _ _ gL
    refine wpAny_ite_split (fun _ => ?_) (fun _ => wpAny_pure ⟨plainId_quiet F.plain_extend_loop _, key h1 0 st k1' g1⟩)
    refine wpAny_bind (wpAny_rule (wpAny_bind ?_))
    show wpAny _ _ (updateSeq s.heap.objs.size (·.push .none) >>= fun _ => updateSeq s.heap.objs.size (·.pop)) _ _ _
    refine wpAny_bind (wpAny_updateSeq g1 rfl ?_)
    have g2 := Heap.get?_update_self (Obj.mapSeq (·.push Value.none)) g1 rfl
    refine wpAny_updateSeq (hz := by seq_fits) g2 rfl ?_
    have g3 := Heap.get?_update_self (Obj.mapSeq (·.pop)) g2 rfl
    have oth : ∀ b o', b ≠ s.heap.objs.size → h1.get? b = some o' → ((h1.update s.heap.objs.size (Obj.mapSeq (·.push Value.none))).update s.heap.objs.size (Obj.mapSeq (·.pop))).get? b = some o' := fun b o' hb e => (Heap.get?_update_other _ _ (Ne.symm hb)).trans ((Heap.get?_update_other _ _ (Ne.symm hb)).trans e)
    refine wpAny_pure ⟨plainId_quiet F.plain_extend_loop _, key _ _ ?_ (fun b o' e => oth b o' (Nat.ne_of_lt (Heap.lt_size e)) (k1' b o' e)) g3⟩
    obtain ⟨st1, st2⟩ := st
    cases m with
    | tab => exact ⟨oth _ _ (Ne.symm haL) st1, oth _ _ (Ne.symm hLi) st2⟩
    | text => exact ⟨oth _ _ (Ne.symm haL) st1, oth _ _ (Ne.symm hLi) st2⟩
    | draw T ps =>
      have hT3 : s.heap.objs.size + 1 ≤ T := by rw [← esz]; exact hgT T ps rfl
      exact ⟨oth _ _ (Ne.symm haL) st1, oth _ _ (Ne.symm hLi) st2.1, oth _ _ (Nat.ne_of_gt hT3) st2.2⟩
  refine wpAny_bind (wpAny_newList (wpAny_pure ⟨Code.quiet_builtin _ (by decide +kernel), codeAny_mono add fun r s' hr => ?_⟩))
  obtain ⟨rfl, h', d', tk, acc, c', ns, rfl, hk, hS, hi, hp, htk⟩ := hr
  show wpAny _ A (load s.heap.objs.size >>= fun o => match o.data with | .seq xs _ => pure xs.toList | _ => unsupported "internal:collect") _ _ _
  refine wpAny_bind (wpAny_load hS ?_)
  exact wpAny_pure (h _ ns h' d' tk hi hp hk htk)
end
end L2

set_option Elab.async false
set_option linter.all false
set_option maxRecDepth 100000
namespace L2
open PySem PySem.Spec PyProof.Rows
def CodeO (o : Obj) (qual : Str) : Prop := ∃ vs t, o.data = .fields vs ∧ vs[1]? = some (.str qual t)
def LamO (p : Addr) (qual : Str) (params : Arguments) (body : Expr) (scope : Scope) (cl : List (Str × Addr)) (c : Addr) : HO :=
  .ext fun h => ∃ pm ctv, h.get? p = some (PySem.W.kla_obj "<lambda>" qual params body scope cl pm c ctv)
structure LamAt (H : Hp) (p : Addr) (qual : Str) (params : Arguments) (body : Expr) (scope : Scope) (cl : List (Str × Addr)) : Prop where
  ex : ∃ c o u, H c = some (.frz o u) ∧ CodeO o qual ∧ H p = some (LamO p qual params body scope cl c)
section
variable {P : Program} {w : World} {H H' : Hp} {h : Heap} {p : Addr} {qual : Str} {params : Arguments} {body : Expr} {scope : Scope} {cl : List (Str × Addr)}
theorem LamAt.same (L : LamAt H p qual params body scope cl) (s : Same H H') : LamAt H' p qual params body scope cl :=
  let ⟨c, o, u, h1, h2, h3⟩ := L.ex; ⟨c, o, u, s _ _ h1, h2, s _ _ h3⟩
theorem LamAt.get (L : LamAt H p qual params body scope cl) (ok : HOk P w H h) : ∃ c pm ctv, h.get? p = some (PySem.W.kla_obj "<lambda>" qual params body scope cl pm c ctv) ∧ h.CodeRec (.ref c) qual := by
  obtain ⟨c, o, u, h1, ⟨vs, t, d1, d2⟩, h3⟩ := L.ex
  obtain ⟨⟨pm, ctv, e⟩, _⟩ := (show ObjOk P w H h p (LamO p qual params body scope cl c) from ok p _ h3)
  obtain ⟨e2, _⟩ := ok c _ h1
  exact ⟨c, pm, ctv, e, c, o, vs, t, rfl, e2, d1, d2⟩
end
section
variable {X : Cx} {c P : Addr} {params : Arguments} {body : Expr} {scope : Scope} {pos : Pos}
end
end L2

set_option Elab.async false
set_option linter.all false
set_option maxRecDepth 100000
namespace L2
open PySem PySem.Spec PyProof.Rows
section
variable {P : Program} {w : World} {K : PySem.W.Frag} {mg : Str → Option Value} {base : Heap} {A : Around} {outer : List Env} {s : Shared} {H : Hp} {p c : Addr} {qual : Str} {params : Arguments} {body : Expr} {scope : Scope} {cl : List (Str × Addr)}
  {ps fr : List Str} {vs : List V} {us : List Value} {zs : St} {pm ctv : Value} {Q : VK} {t : TE}
end
section
variable {X : Cx} {pins : List (Addr × Obj)} {σ : St} {H : Hp} {s : Shared} {p : Addr} {qual : Str} {params : Arguments} {body : Expr} {scope : Scope} {ps : List Str} {fr : List (Str × Nat)} {A : Around} {t : TE} {Q : VK} {vs : List V} {us : List Value} {E : Value → Shared → Prop}
end
end L2

set_option Elab.async false
set_option linter.all false
set_option maxRecDepth 100000
set_option maxHeartbeats 1000000
namespace L2
open PySem PySem.Spec PyProof.Rows
theorem intsOfV : ∀ {ns : List Int} {vs : List Value}, Vals (ns.map V.int) vs → IntsAre vs ns
  | [], _, .nil => .nil
  | n :: ns, _, .cons r t => by
    obtain ⟨k, rfl⟩ := r
    exact .cons n k (intsOfV t)
section
variable {prog : Program} {w : World} {A : Around} {E : Value → Shared → Prop} {s : Shared} {a kS : Addr} {e1 : Nat} {keys : Array Value} {its : List Value} {kz : List Int}
end
def SrcV (K : PySem.W.Frag) (H : Hp) (v : V) (xs : List V) : Prop :=
  (∃ r n, v = .ref r ∧ H r = some (.rng 0 n) ∧ -(2 ^ 62) ≤ n ∧ n < 2 ^ 62 ∧ xs = (List.range n.toNat).map fun (i : Nat) => V.int i) ∨ (∃ r, v = .ref r ∧ SqL K H r xs)
section
variable {X : Cx} {pins : List (Addr × Obj)} {σ : St} {H : Hp} {s : Shared} {A : Around} {E : Value → Shared → Prop}
end
end L2

set_option Elab.async false
set_option linter.all false
set_option maxRecDepth 100000
set_option maxHeartbeats 1000000
namespace L2
open PySem PySem.Spec PyProof.Rows
section
variable {X : Cx} {pins : List (Addr × Obj)} {σ : St} {G0 : Hp} {s : Shared} {A : Around} {E : Value → Shared → Prop} {a kS p : Addr} {e1 : Nat} {qual x : Str} {params : Arguments} {body : Expr} {scope : Scope} {fr : List (Str × Nat)} {tb : TE}
  {xs : List V} {its : List Value} {R : PySem.Fin → Shared → Prop} {Kp : Nat → V → Hp → Prop}
end
end L2

set_option Elab.async false
set_option linter.all false
set_option maxRecDepth 100000
set_option maxHeartbeats 1000000
namespace L2
open PySem PySem.Spec PyProof.Rows
section
variable {X : Cx} {pins : List (Addr × Obj)} {σ : St} {H : Hp} {s : Shared} {qual x : Str} {params : Arguments} {body : Expr} {scope : Scope} {fr : List (Str × Nat)} {tb : TE} {p : Addr} {v : V} {u : Value} {xs : List V} {kz : List Int} {Q : VK} {E : Value → Shared → Prop}
end
section
variable {X : Cx} {x : Str} {params : Arguments} {body e : Expr} {scope : Scope} {fr : List (Str × Nat)} {tb ti : TE} {c P : Addr} {p0 lpos kpos pos : Pos}
def oneV (B : V → Hp → Prop) : List V → Hp → Prop := fun vs H => match vs with
  | [v] => B v H
  | _ => False
theorem oneV.get {B : V → Hp → Prop} {vs : List V} {H : Hp} (h : oneV B vs H) : ∃ v, vs = [v] ∧ B v H := by
  unfold oneV at h
  split at h
  · exact ⟨_, rfl, h⟩
  · exact h.elim
theorem SrcV.same {K : PySem.W.Frag} {H H' : Hp} {v : V} {xs : List V} (h : SrcV K H v xs) (s : Same H H') : SrcV K H' v xs := by
  rcases h with ⟨r, n, h1, h2, h3⟩ | ⟨r, h1, h2⟩
  · exact .inl ⟨r, n, h1, s _ _ h2, h3⟩
  · exact .inr ⟨r, h1, s.seq h2⟩
end
end L2

set_option Elab.async false
set_option linter.all false
set_option maxRecDepth 100000
namespace L2
open PySem PySem.Spec PyProof.Rows
structure BlkOk1 (X : Cx) (scope : Scope) (v : Str) (fr : List (Str × Nat)) : Prop where
  kind : scope.kind = .function
  one : ∀ y ∈ scope.names, y.2 = .cell → y.1 = v
  vis : scope.names.lookup v = some .cell
  names : ∀ y ∈ scope.names, y.2 = .local → scope.names.lookup y.1 = some .local
  free : ∀ y ∈ scope.names, y.2 = .free → y.1 ≠ v ∧ (X.env.scope.names.lookup y.1 = some .cell ∨ X.env.scope.names.lookup y.1 = some .free)
  ix : ∀ p ∈ fr, X.N[p.2]? = some p.1 ∧ scope.names.lookup p.1 = some .free
  lay : ∀ L acc, cellsFrom L scope.names acc = (v, L) :: acc
  push : ∀ h, pushCells h scope.names = h.push { cls := .type "cell", data := .cell none }
section
variable {X : Cx} {pins : List (Addr × Obj)} {σ : St} {H : Hp} {s : Shared} {scope : Scope} {v : Str} {fr : List (Str × Nat)} {own : List Str} {fp : List Addr}
theorem BlkOk1.cell (B : BlkOk1 X scope v fr) (ok : X.Ok) : ∀ x ∈ scope.names, x.2 = .free → ∃ c, X.env.cells.lookup x.1 = some c := fun x hx hk => ok.has x.1 (B.free x hx hk).2
theorem BlkOk1.sub (B : BlkOk1 X scope v fr) (ok : X.Ok) {x : Str} {c : Addr} (h : (closL X.env.cells scope.names []).lookup x = some c) : X.env.cells.lookup x = some c := by
  rcases closL_of h with h | ⟨hm, e⟩
  · simp at h
  · obtain ⟨c', hc⟩ := B.cell ok _ hm rfl
    rw [e, hc]; rfl
theorem BlkOk1.two (B : BlkOk1 X scope v fr) (ok : X.Ok) {C : Addr} {x : Str} {c : Addr} (h : List.lookup x ((v, C) :: closL X.env.cells scope.names []) = some c) : (x = v ∧ c = C) ∨ (x ≠ v ∧ (closL X.env.cells scope.names []).lookup x = some c ∧ X.env.cells.lookup x = some c) := by
  rw [List.lookup_cons] at h
  cases hx : x == v with
  | true => rw [hx] at h; exact .inl ⟨by simpa using hx, (Option.some.inj h).symm⟩
  | false => rw [hx] at h; exact .inr ⟨by simpa using hx, h, B.sub ok h⟩
end

section
variable {X : Cx} {elt tg iter : Expr} {ifs : List Expr} {scope : Scope} {pos : Pos} {v : Str} {own : List Str} {fr : List (Str × Nat)} {wi : TI} {g : TG} {tc : TT} {te : TE}
end
end L2

set_option Elab.async false
set_option linter.all false
set_option maxRecDepth 100000
namespace L2
open PySem PySem.Spec PyProof.Rows
end L2

set_option Elab.async false
set_option linter.all false
set_option maxRecDepth 100000
namespace L2
open PySem PySem.Spec PyProof.Rows
end L2

set_option Elab.async false
set_option linter.all false
set_option maxRecDepth 100000
namespace L2
open PySem PySem.Spec PyProof.Rows
section
variable {P : Program} {w : World} {K : PySem.W.Frag} {mg : Str → Option Value} {base : Heap}
end
end L2

set_option Elab.async false
set_option linter.all false
set_option maxRecDepth 100000
set_option maxHeartbeats 1000000
namespace L2
open PySem PySem.Spec PyProof.Rows
section
open PySem.SeqAt
open PySem.AutoSeq1 (wpAny_loadPart')
open PySem.MeetsSeq PySem.MeetsSeq2 PySem.MeetsSeq3
theorem IntsAre.at {vs : List Value} {ns : List Int} (h : IntsAre vs ns) {i : Nat} (hi : i < ns.length) : ∃ t, vs[i]? = some (.int ns[i] t) := by
  obtain ⟨t, e⟩ := h.get i _ (List.getElem?_eq_getElem hi)
  exact ⟨t, e⟩
end
end L2

set_option Elab.async false
set_option linter.all false
set_option maxRecDepth 100000
set_option maxHeartbeats 1000000
namespace L2
open PySem PySem.Spec PyProof.Rows
section
variable {prog : Program} {w : World} {A : Around} {E : Value → Shared → Prop} {s : Shared}
variable {a₀ : Array Keyed}
end
end L2

set_option Elab.async false
set_option linter.all false
set_option maxRecDepth 100000
set_option maxHeartbeats 1000000
namespace L2
open PySem PySem.Spec PyProof.Rows
section
variable {X : Cx}
end
end L2

set_option Elab.async false
set_option linter.all false
set_option maxRecDepth 100000
set_option maxHeartbeats 3200000
namespace L2
open PySem PySem.Spec PyProof.Rows
def gallop' : Bool → Keyed → Array Keyed → Nat → Nat → Nat → StateT SortSt Sem (Option Nat) := sortPriv% PySem.Builtin.gallop
def mergeLo' : Array Keyed → Array Keyed → StateT SortSt Sem (Array Keyed) := sortPriv% PySem.Builtin.mergeLo
def mergeHi' : Array Keyed → Array Keyed → StateT SortSt Sem (Array Keyed) := sortPriv% PySem.Builtin.mergeHi
section
variable {prog : Program} {w : World} {A : Around} {E : Value → Shared → Prop} {s : Shared} {κ : SortKind} {g : Keyed → Prop} {N : Nat} {pd : Array (Nat × Nat × Nat)}
structure Safe (κ : SortKind) (g : Keyed → Prop) (N : Nat) (pd : Array (Nat × Nat × Nat)) (st : SortSt) : Prop where
  kind : kindOf st = κ
  failed : failedOf st = none
  size : (arrOf st).size = N
  all : ∀ p ∈ arrOf st, g p
  pend : pendingOf st = pd
def LtOk (prog : Program) (w : World) (A : Around) (s : Shared) (κ : SortKind) (g : Keyed → Prop) : Prop := ∀ x y, g x → g y → ∃ b : Bool, ∀ {E : Value → Shared → Prop} (Q : Bool → Shared → Prop), Q b s → wpAny (model prog w) A (keyLt' κ x.1 y.1) Q E s
theorem wpS_ltS {x y : Keyed} {st : SortSt} {Q : Option Bool → SortSt → Prop} (ok : LtOk prog w A s κ g) (S : Safe κ g N pd st) (gx : g x) (gy : g y) (h : ∀ b, Q (some b) st) : wpS (model prog w) A E s ((sortPriv% PySem.Builtin.lt) x y) Q st := by
  show wpS _ _ _ _ (lt' x y) _ _
  obtain ⟨b, hb⟩ := ok x y gx gy
  rw [lt'_eq]
  refine wpS_bind (wpS_get ?_)
  rw [S.kind]
  refine wpS_bind (wpS_lift (wpAny_attempt (hb _ ⟨rfl, ?_⟩)))
  exact wpS_pure (h b)
theorem wpS_elemS {arr : Array Keyed} {i : Nat} {st : SortSt} {Q : Keyed → SortSt → Prop} (ga : ∀ p ∈ arr, g p) (hi : i < arr.size) (h : ∀ p, g p → Q p st) : wpS (model prog w) A E s ((sortPriv% PySem.Builtin.elem) arr i) Q st := by
  show wpS _ _ _ _ (elem' arr i) _ _
  rw [elem'_eq, getElem?_pos arr i hi]
  exact wpS_pure (h _ (ga _ (Array.getElem_mem hi)))
theorem wpS_ltAtS {i j : Nat} {st : SortSt} {Q : Option Bool → SortSt → Prop} (ok : LtOk prog w A s κ g) (S : Safe κ g N pd st) (hi : i < N) (hj : j < N) (h : ∀ b, Q (some b) st) : wpS (model prog w) A E s (ltAt' i j) Q st := by
  rw [ltAt'_eq]
  refine wpS_bind (wpS_get ?_)
  show wpS _ _ _ _ (do let x ← elem' (arrOf st) i; let y ← elem' (arrOf st) j; lt' x y) Q st
  exact wpS_bind (wpS_elemS S.all (by rw [S.size]; exact hi) fun x gx => wpS_bind (wpS_elemS S.all (by rw [S.size]; exact hj) fun y gy => wpS_ltS ok S gx gy h))
theorem Safe.arr {st : SortSt} {xs : Array Keyed} (S : Safe κ g N pd st) (h : xs.Perm (arrOf st)) : Safe κ g N pd (setArr st xs) :=
  ⟨S.kind, S.failed, h.size_eq.trans S.size, fun p hp => S.all p (h.mem_iff.mp hp), S.pend⟩
theorem wpS_revS {i j : Nat} {st : SortSt} {Q : Unit → SortSt → Prop} (S : Safe κ g N pd st) (h : ∀ st', Safe κ g N pd st' → Q () st') : wpS (model prog w) A E s (reverseSlice' i j) Q st := by
  rw [reverseSlice'_eq]
  exact wpS_modify (h _ (S.arr (mirror_perm _ _ _ _)))
theorem wpS_moveS {i j : Nat} {st : SortSt} {Q : Unit → SortSt → Prop} (S : Safe κ g N pd st) (h : ∀ st', Safe κ g N pd st' → Q () st') : wpS (model prog w) A E s (moveDown' i j) Q st := by
  rw [moveDown'_eq]
  exact wpS_modify (h _ (S.arr (bubble_perm _ _ _)))
theorem wpS_ruleS {r : String} {st : SortSt} {Q : Unit → SortSt → Prop} (h : Q () st) : wpS (model prog w) A E s (liftM (rule r) : StateT SortSt Sem Unit) Q st := wpS_lift (wpAny_rule ⟨rfl, h⟩)
theorem wpS_gallop {left : Bool} {key : Keyed} {arr : Array Keyed} {base n hint : Nat} {st : SortSt} {Q : Option Nat → SortSt → Prop} (ok : LtOk prog w A s κ g) (S : Safe κ g N pd st) (gk : g key) (ga : ∀ p ∈ arr, g p) (h1 : hint < n) (h2 : base + n ≤ arr.size)
    (h : ∀ k, k ≤ n → Q (some k) st) : wpS (model prog w) A E s ((sortPriv% PySem.Builtin.gallop) left key arr base n hint) Q st := by
  show wpS _ _ _ _ (gallop' left key arr base n hint) _ _
  have B : ∀ i (Q : Option Bool → SortSt → Prop), i < n → (∀ b, Q (some b) st) → wpS (model prog w) A E s (do
      let x ← elem' arr (base + i)
      if left = true then lt' x key
      else do
        let y ← lt' key x
        pure (Option.map (fun x => !x) y)) Q st := by
    intro i Q hi hq
    refine wpS_bind (wpS_elemS ga (by omega) fun x gx => ?_)
    cases left
    · simp only [Bool.false_eq_true, if_false]
      exact wpS_bind (wpS_ltS ok S gk gx fun b => wpS_pure (hq _))
    · simp only [if_true]
      exact wpS_ltS ok S gx gk hq
  refine wpS_bind (B _ _ h1 fun right => ?_)
  dsimp only
  split
  · refine wpS_bind (wpS_mono (wpS_forRange (I := fun _ c st' => st = st' ∧ ∃ l r, c = (none, l, r)) (Q := fun c st' => st = st' ∧ ∃ l r, c = (none, l, r)) ?_ (fun _ _ z => z) ⟨rfl, 0, 1, rfl⟩) ?_)
    · rintro i c st' _ _ ⟨rfl, l, r, rfl⟩
      dsimp only
      split
      · exact wpS_pure ⟨rfl, l, r, rfl⟩
      · refine wpS_bind (B _ _ (by omega) fun b => ?_)
        dsimp only
        split
        · exact wpS_pure ⟨rfl, _, _, rfl⟩
        · exact wpS_pure ⟨rfl, _, _, rfl⟩
    · rintro c st' ⟨rfl, l, r, rfl⟩
      try dsimp only
      refine wpS_bind (wpS_mono (wpS_forRange (I := fun _ c st' => st = st' ∧ ∃ l r, c = (none, l, r) ∧ r ≤ n) (Q := fun c st' => st = st' ∧ ∃ l r, c = (none, l, r) ∧ r ≤ n) ?_ (fun _ _ z => z) ⟨rfl, _, _, rfl, by omega⟩) ?_)
      · rintro i c st' _ _ ⟨rfl, l, r, rfl, hr⟩
        dsimp only
        split
        · exact wpS_pure ⟨rfl, l, r, rfl, hr⟩
        · refine wpS_bind (B _ _ (by omega) fun b => ?_)
          dsimp only
          split
          · exact wpS_pure ⟨rfl, _, _, rfl, hr⟩
          · exact wpS_pure ⟨rfl, _, _, rfl, by omega⟩
      · rintro c st' ⟨rfl, l, r, rfl, hr⟩
        exact wpS_pure (h r hr)
  · refine wpS_bind (wpS_mono (wpS_forRange (I := fun _ c st' => st = st' ∧ ∃ l r, c = (none, l, r)) (Q := fun c st' => st = st' ∧ ∃ l r, c = (none, l, r)) ?_ (fun _ _ z => z) ⟨rfl, 0, 1, rfl⟩) ?_)
    · rintro i c st' _ _ ⟨rfl, l, r, rfl⟩
      dsimp only
      split
      · exact wpS_pure ⟨rfl, l, r, rfl⟩
      · refine wpS_bind (B _ _ (by omega) fun b => ?_)
        dsimp only
        split
        · exact wpS_pure ⟨rfl, _, _, rfl⟩
        · exact wpS_pure ⟨rfl, _, _, rfl⟩
    · rintro c st' ⟨rfl, l, r, rfl⟩
      try dsimp only
      refine wpS_bind (wpS_mono (wpS_forRange (I := fun _ c st' => st = st' ∧ ∃ l r, c = (none, l, r) ∧ r ≤ n) (Q := fun c st' => st = st' ∧ ∃ l r, c = (none, l, r) ∧ r ≤ n) ?_ (fun _ _ z => z) ⟨rfl, _, _, rfl, by omega⟩) ?_)
      · rintro i c st' _ _ ⟨rfl, l, r, rfl, hr⟩
        dsimp only
        split
        · exact wpS_pure ⟨rfl, l, r, rfl, hr⟩
        · refine wpS_bind (B _ _ (by omega) fun b => ?_)
          dsimp only
          split
          · exact wpS_pure ⟨rfl, _, _, rfl, hr⟩
          · exact wpS_pure ⟨rfl, _, _, rfl, by omega⟩
      · rintro c st' ⟨rfl, l, r, rfl, hr⟩
        exact wpS_pure (h r hr)
theorem wpS_countS {lo nrem : Nat} {st : SortSt} {Q : Option Nat → SortSt → Prop} (ok : LtOk prog w A s κ g) (S : Safe κ g N pd st) (h1 : 1 ≤ nrem) (h2 : lo + nrem ≤ N)
    (h : ∀ k st', 1 ≤ k → k ≤ nrem → Safe κ g N pd st' → Q (some k) st') : wpS (model prog w) A E s (countRun' lo nrem) Q st := by
  try dsimp only
  refine wpS_bind (wpS_mono (wpS_forRange (I := fun i c st' => Safe κ g N pd st' ∧ ∃ m, c = (none, m) ∧ 1 ≤ m ∧ m ≤ i ∧ m ≤ nrem) (Q := fun c st' => Safe κ g N pd st' ∧ ∃ m, c = (none, m) ∧ 1 ≤ m ∧ m ≤ nrem) ?_ (fun _ _ ⟨z, m, e, z1, _, z2⟩ => ⟨z, m, e, z1, z2⟩) ⟨by assumption, _, rfl, by omega, by omega, by omega⟩) ?_)
  · rintro i c st' _ hi ⟨S', m, rfl, z1, z2, z3⟩
    dsimp only
    refine wpS_bind (wpS_ltAtS ok S' (by omega) (by omega) fun b => ?_)
    dsimp only
    split
    · exact wpS_pure ⟨S', _, rfl, z1, z3⟩
    · exact wpS_pure ⟨S', _, rfl, by omega, by omega, by omega⟩
  rintro c st2 ⟨S2, m, rfl, z1, z2⟩
  clear S
  dsimp only
  split
  · exact wpS_pure (h _ _ z1 z2 S2)
  · rename_i hne
    have hne' : m ≠ nrem := fun e => hne (by simp [e])
    split
    · refine wpS_bind (wpS_ltAtS ok S2 (by omega) (by omega) fun b => ?_)
      dsimp only
      split
      · exact wpS_pure (h _ _ z1 z2 S2)
      · refine wpS_bind (wpS_revS S2 fun st3 S3 => ?_)
        clear S2
        try dsimp only
        refine wpS_bind (wpS_ruleS ?_)
        refine wpS_bind (wpS_mono (wpS_forRange (I := fun i c st' => Safe κ g N pd st' ∧ ∃ m q, c = (none, m, q) ∧ 1 ≤ m ∧ m ≤ i ∧ m ≤ nrem) (Q := fun c st' => Safe κ g N pd st' ∧ ∃ m q, c = (none, m, q) ∧ 1 ≤ m ∧ m ≤ nrem) ?_ (fun _ _ ⟨z, m, q, e, z1, _, z2⟩ => ⟨z, m, q, e, z1, z2⟩) ⟨by assumption, _, _, rfl, by omega, by omega, by omega⟩) ?_)
        · rintro i c st' _ hi ⟨S', m, q, rfl, z1, z2, z3⟩
          dsimp only
          refine wpS_bind (wpS_ltAtS ok S' (by omega) (by omega) fun b => ?_)
          dsimp only
          split
          · split
            · exact wpS_bind (wpS_revS S' fun st8 S8 => wpS_pure ⟨S8, _, _, rfl, by omega, by omega, by omega⟩)
            · exact wpS_pure ⟨S', _, _, rfl, by omega, by omega, by omega⟩
          · refine wpS_bind (wpS_ltAtS ok S' (by omega) (by omega) fun b2 => ?_)
            dsimp only
            split
            · exact wpS_pure ⟨S', _, _, rfl, by omega, by omega⟩
            · exact wpS_pure ⟨S', _, _, rfl, by omega, by omega, by omega⟩
        · rintro c st7 ⟨S7, m7, q7, rfl, x1, x2⟩
          dsimp only
          split
          · refine wpS_bind (wpS_revS S7 fun st6 S6 => ?_)
            clear S7
            try dsimp only
            refine wpS_bind (wpS_revS (by assumption) fun st8 S8 => ?_)
            try dsimp only
            refine wpS_bind (wpS_mono (wpS_forRange (I := fun i c st' => Safe κ g N pd st' ∧ ∃ m, c = (none, m) ∧ 1 ≤ m ∧ m ≤ i ∧ m ≤ nrem) (Q := fun c st' => Safe κ g N pd st' ∧ ∃ m, c = (none, m) ∧ 1 ≤ m ∧ m ≤ nrem) ?_ (fun _ _ ⟨z, m, e, z1, _, z2⟩ => ⟨z, m, e, z1, z2⟩) ⟨by assumption, _, rfl, by omega, by omega, by omega⟩) ?_)
            · rintro i c st' _ hi ⟨S', m, rfl, z1, z2, z3⟩
              dsimp only
              refine wpS_bind (wpS_ltAtS ok S' (by omega) (by omega) fun b => ?_)
              dsimp only
              split
              · exact wpS_pure ⟨S', _, rfl, z1, z3⟩
              · exact wpS_pure ⟨S', _, rfl, by omega, by omega, by omega⟩
            rintro c st9 ⟨S9, m9, rfl, y1, y2⟩
            exact wpS_pure (h _ _ y1 y2 S9)
          · try dsimp only
            refine wpS_bind (wpS_revS (by assumption) fun st8 S8 => ?_)
            try dsimp only
            refine wpS_bind (wpS_mono (wpS_forRange (I := fun i c st' => Safe κ g N pd st' ∧ ∃ m, c = (none, m) ∧ 1 ≤ m ∧ m ≤ i ∧ m ≤ nrem) (Q := fun c st' => Safe κ g N pd st' ∧ ∃ m, c = (none, m) ∧ 1 ≤ m ∧ m ≤ nrem) ?_ (fun _ _ ⟨z, m, e, z1, _, z2⟩ => ⟨z, m, e, z1, z2⟩) ⟨by assumption, _, rfl, by omega, by omega, by omega⟩) ?_)
            · rintro i c st' _ hi ⟨S', m, rfl, z1, z2, z3⟩
              dsimp only
              refine wpS_bind (wpS_ltAtS ok S' (by omega) (by omega) fun b => ?_)
              dsimp only
              split
              · exact wpS_pure ⟨S', _, rfl, z1, z3⟩
              · exact wpS_pure ⟨S', _, rfl, by omega, by omega, by omega⟩
            rintro c st9 ⟨S9, m9, rfl, y1, y2⟩
            exact wpS_pure (h _ _ y1 y2 S9)
    · try dsimp only
      refine wpS_bind (wpS_ruleS ?_)
      refine wpS_bind (wpS_mono (wpS_forRange (I := fun i c st' => Safe κ g N pd st' ∧ ∃ m q, c = (none, m, q) ∧ 1 ≤ m ∧ m ≤ i ∧ m ≤ nrem) (Q := fun c st' => Safe κ g N pd st' ∧ ∃ m q, c = (none, m, q) ∧ 1 ≤ m ∧ m ≤ nrem) ?_ (fun _ _ ⟨z, m, q, e, z1, _, z2⟩ => ⟨z, m, q, e, z1, z2⟩) ⟨by assumption, _, _, rfl, by omega, by omega, by omega⟩) ?_)
      · rintro i c st' _ hi ⟨S', m, q, rfl, z1, z2, z3⟩
        dsimp only
        refine wpS_bind (wpS_ltAtS ok S' (by omega) (by omega) fun b => ?_)
        dsimp only
        split
        · split
          · exact wpS_bind (wpS_revS S' fun st8 S8 => wpS_pure ⟨S8, _, _, rfl, by omega, by omega, by omega⟩)
          · exact wpS_pure ⟨S', _, _, rfl, by omega, by omega, by omega⟩
        · refine wpS_bind (wpS_ltAtS ok S' (by omega) (by omega) fun b2 => ?_)
          dsimp only
          split
          · exact wpS_pure ⟨S', _, _, rfl, by omega, by omega⟩
          · exact wpS_pure ⟨S', _, _, rfl, by omega, by omega, by omega⟩
      · rintro c st7 ⟨S7, m7, q7, rfl, x1, x2⟩
        dsimp only
        split
        · refine wpS_bind (wpS_revS S7 fun st6 S6 => ?_)
          clear S7
          try dsimp only
          refine wpS_bind (wpS_revS (by assumption) fun st8 S8 => ?_)
          try dsimp only
          refine wpS_bind (wpS_mono (wpS_forRange (I := fun i c st' => Safe κ g N pd st' ∧ ∃ m, c = (none, m) ∧ 1 ≤ m ∧ m ≤ i ∧ m ≤ nrem) (Q := fun c st' => Safe κ g N pd st' ∧ ∃ m, c = (none, m) ∧ 1 ≤ m ∧ m ≤ nrem) ?_ (fun _ _ ⟨z, m, e, z1, _, z2⟩ => ⟨z, m, e, z1, z2⟩) ⟨by assumption, _, rfl, by omega, by omega, by omega⟩) ?_)
          · rintro i c st' _ hi ⟨S', m, rfl, z1, z2, z3⟩
            dsimp only
            refine wpS_bind (wpS_ltAtS ok S' (by omega) (by omega) fun b => ?_)
            dsimp only
            split
            · exact wpS_pure ⟨S', _, rfl, z1, z3⟩
            · exact wpS_pure ⟨S', _, rfl, by omega, by omega, by omega⟩
          rintro c st9 ⟨S9, m9, rfl, y1, y2⟩
          exact wpS_pure (h _ _ y1 y2 S9)
        · try dsimp only
          refine wpS_bind (wpS_revS (by assumption) fun st8 S8 => ?_)
          try dsimp only
          refine wpS_bind (wpS_mono (wpS_forRange (I := fun i c st' => Safe κ g N pd st' ∧ ∃ m, c = (none, m) ∧ 1 ≤ m ∧ m ≤ i ∧ m ≤ nrem) (Q := fun c st' => Safe κ g N pd st' ∧ ∃ m, c = (none, m) ∧ 1 ≤ m ∧ m ≤ nrem) ?_ (fun _ _ ⟨z, m, e, z1, _, z2⟩ => ⟨z, m, e, z1, z2⟩) ⟨by assumption, _, rfl, by omega, by omega, by omega⟩) ?_)
          · rintro i c st' _ hi ⟨S', m, rfl, z1, z2, z3⟩
            dsimp only
            refine wpS_bind (wpS_ltAtS ok S' (by omega) (by omega) fun b => ?_)
            dsimp only
            split
            · exact wpS_pure ⟨S', _, rfl, z1, z3⟩
            · exact wpS_pure ⟨S', _, rfl, by omega, by omega, by omega⟩
          rintro c st9 ⟨S9, m9, rfl, y1, y2⟩
          exact wpS_pure (h _ _ y1 y2 S9)
theorem wpS_binS {lo n k : Nat} {st : SortSt} {Q : Bool → SortSt → Prop} (ok : LtOk prog w A s κ g) (S : Safe κ g N pd st) (h2 : lo + n ≤ N)
    (h : ∀ st', Safe κ g N pd st' → Q true st') : wpS (model prog w) A E s (binarySort' lo n k) Q st := by
  refine wpS_bind (wpS_mono (wpS_forRange (I := fun _ c st' => Safe κ g N pd st' ∧ c = (none, ())) (Q := fun c st' => Safe κ g N pd st' ∧ c = (none, ())) ?_ (fun _ _ z => z) ⟨S, rfl⟩) ?_)
  · rintro i c st' _ hi ⟨S', rfl⟩
    refine wpS_bind (wpS_mono (wpS_forRange (I := fun _ c st' => Safe κ g N pd st' ∧ ∃ l r, c = (none, l, r) ∧ r ≤ i) (Q := fun c st' => Safe κ g N pd st' ∧ ∃ l r, c = (none, l, r) ∧ r ≤ i) ?_ (fun _ _ z => z) ⟨S', _, _, rfl, Nat.le_refl _⟩) ?_)
    · rintro i2 c st' _ _ ⟨S', l, r, rfl, hr⟩
      dsimp only
      split
      · exact wpS_pure ⟨S', l, r, rfl, hr⟩
      · refine wpS_bind (wpS_ltAtS ok S' (by omega) (by omega) fun b => ?_)
        dsimp only
        split
        · exact wpS_pure ⟨S', _, _, rfl, by omega⟩
        · exact wpS_pure ⟨S', _, _, rfl, hr⟩
    · rintro c st2 ⟨S2, l, r, rfl, hr⟩
      exact wpS_bind (wpS_moveS S2 fun st3 S3 => wpS_pure ⟨S3, rfl⟩)
  · rintro c st' ⟨S', rfl⟩
    exact wpS_pure (h _ S')
theorem wpS_ite {M : Model} {σ α : Type} {c : Prop} [Decidable c] {x y : StateT σ Sem α} {Q : α → σ → Prop} {st : σ} (h1 : c → wpS M A E s x Q st) (h2 : ¬c → wpS M A E s y Q st) : wpS M A E s (if c then x else y) Q st := by
  by_cases h : c
  · rw [if_pos h]; exact h1 h
  · rw [if_neg h]; exact h2 h
theorem wpS_iteB {M : Model} {σ α : Type} {i j : Nat} {x y : StateT σ Sem α} {Q : α → σ → Prop} {st : σ} (h1 : i = j → wpS M A E s x Q st) (h2 : i ≠ j → wpS M A E s y Q st) : wpS M A E s (if (i == j) = true then x else y) Q st :=
  wpS_ite (fun e => h1 (by simpa using e)) fun e => h2 (by simpa using e)
def GA (g : Keyed → Prop) (xs : Array Keyed) : Prop := ∀ p ∈ xs, g p
theorem GA.app {xs ys : Array Keyed} (h1 : GA g xs) (h2 : GA g ys) : GA g (xs ++ ys) := fun p hp => (Array.mem_append.mp hp).elim (h1 p) (h2 p)
theorem GA.psh {xs : Array Keyed} {x : Keyed} (h1 : GA g xs) (h2 : g x) : GA g (xs.push x) := fun p hp => (Array.mem_push.mp hp).elim (h1 p) fun e => e ▸ h2
theorem GA.ext {xs : Array Keyed} {i j : Nat} (h1 : GA g xs) : GA g (xs.extract i j) := fun p hp => h1 p (by
  obtain ⟨k, hk, e⟩ := Array.mem_iff_getElem.mp hp
  rw [Array.getElem_extract] at e
  exact e ▸ Array.getElem_mem _)
theorem GA.rev {xs : Array Keyed} (h1 : GA g xs) : GA g xs.reverse := fun p hp => h1 p (Array.mem_reverse.mp hp)
theorem GA.one {x : Keyed} (h : g x) : GA g #[x] := fun p hp => by
  rw [Array.mem_singleton] at hp
  exact hp ▸ h
def setMinGallop' : Nat → StateT SortSt Sem Unit := sortPriv% PySem.Builtin.setMinGallop
theorem wpS_setG {k : Nat} {st : SortSt} {Q : Unit → SortSt → Prop} (S : Safe κ g N pd st) (h : ∀ st', Safe κ g N pd st' → Q () st') : wpS (model prog w) A E s ((sortPriv% PySem.Builtin.setMinGallop) k) Q st := by
  show wpS _ _ _ _ (setMinGallop' k) _ _
  exact wpS_modify (h _ ⟨S.kind, S.failed, S.size, S.all, S.pend⟩)
theorem wpS_mergeLo {a b : Array Keyed} {st : SortSt} {Q : Array Keyed → SortSt → Prop} (ok : LtOk prog w A s κ g) (S : Safe κ g N pd st) (ga : ∀ p ∈ a, g p) (gb : ∀ p ∈ b, g p) (h1 : 1 ≤ a.size) (h2 : 1 ≤ b.size)
    (h : ∀ out st', GA g out → Safe κ g N pd st' → Q out st') : wpS (model prog w) A E s (mergeLo' a b) Q st := by
  have ga' : GA g a := ga
  have gb' : GA g b := gb
  refine wpS_bind (wpS_ruleS ?_)
  refine wpS_bind (wpS_elemS gb (by omega) fun p gp => ?_)
  dsimp only
  refine wpS_iteB (fun q1 => ?_) (fun q1 => ?_)
  · exact wpS_pure (h _ _ (by (with_reducible repeat (first | assumption | exact GA.ext ga' | exact GA.ext gb' | exact GA.one (by assumption) | refine GA.app ?_ ?_ | refine GA.psh ?_ ?_ | refine GA.rev ?_))) S)
  · refine wpS_iteB (fun q2 => ?_) (fun q2 => ?_)
    · exact wpS_pure (h _ _ (by (with_reducible repeat (first | assumption | exact GA.ext ga' | exact GA.ext gb' | exact GA.one (by assumption) | refine GA.app ?_ ?_ | refine GA.psh ?_ ?_ | refine GA.rev ?_))) S)
    · refine wpS_bind (wpS_get ?_)
      refine wpS_bind (wpS_mono (wpS_forRange (I := fun i c st' => Safe κ g N pd st' ∧ ∃ out ia ib r, c = (none, out, ia, ib, r) ∧ GA g out ∧ ia + 1 < a.size ∧ ib < b.size ∧ i + 1 ≤ ia + ib)
        (Q := fun c st' => Safe κ g N pd st' ∧ ∃ r x, c = (some r, x) ∧ GA g r) ?_ ?_ ⟨S, _, _, _, _, rfl, by (with_reducible repeat (first | assumption | exact GA.ext ga' | exact GA.ext gb' | exact GA.one (by assumption) | refine GA.app ?_ ?_ | refine GA.psh ?_ ?_ | refine GA.rev ?_)), by omega, by omega, by omega⟩) ?_)
      · rintro i c st1 _ hi ⟨S1, out, ia, ib, mg, rfl, go, z1, z2, z3⟩
        dsimp only
        refine wpS_bind (wpS_mono (wpS_forRange (I := fun i c st' => Safe κ g N pd st' ∧ ∃ out ia' ib' r, c = (none, out, ia', ib', r) ∧ GA g out ∧ ia' + 1 < a.size ∧ ib' < b.size ∧ ia + ib + min i 1 ≤ ia' + ib')
          (Q := fun c st' => Safe κ g N pd st' ∧ ((∃ r x, c = (some r, x) ∧ GA g r) ∨ ∃ out ia' ib' r, c = (none, out, ia', ib', r) ∧ GA g out ∧ ia' + 1 < a.size ∧ ib' < b.size ∧ ia + ib + 1 ≤ ia' + ib')) ?_ ?_ ⟨S1, _, _, _, _, rfl, go, z1, z2, by omega⟩) ?_)
        · rintro i2 c st2 _ hi2 ⟨S2, out2, ia2, ib2, ⟨ac, bc⟩, rfl, go2, y1, y2, y3⟩
          dsimp only
          repeat' (first
            | with_reducible refine wpS_iteB (fun _ => ?_) (fun _ => ?_)
            | with_reducible refine wpS_ite (fun _ => ?_) (fun _ => ?_)
            | with_reducible refine wpS_bind (wpS_elemS ga (by omega) fun _ _ => ?_)
            | with_reducible refine wpS_bind (wpS_elemS gb (by omega) fun _ _ => ?_)
            | with_reducible refine wpS_bind (wpS_ltS ok (by assumption) (by assumption) (by assumption) fun _ => ?_)
            | with_reducible refine wpS_bind (wpS_setG (by assumption) fun _ _ => ?_)
            | with_reducible refine wpS_bind (wpS_gallop ok (by assumption) (by assumption) ga (by omega) (by omega) fun _ _ => ?_)
            | with_reducible refine wpS_bind (wpS_gallop ok (by assumption) (by assumption) gb (by omega) (by omega) fun _ _ => ?_)
            | dsimp only
            | (refine wpS_pure ⟨by assumption, ?_⟩; first
                | exact .inl ⟨_, _, rfl, by (with_reducible repeat (first | assumption | exact GA.ext ga' | exact GA.ext gb' | exact GA.one (by assumption) | refine GA.app ?_ ?_ | refine GA.psh ?_ ?_ | refine GA.rev ?_))⟩
                | exact .inr ⟨_, _, _, _, rfl, by (with_reducible repeat (first | assumption | exact GA.ext ga' | exact GA.ext gb' | exact GA.one (by assumption) | refine GA.app ?_ ?_ | refine GA.psh ?_ ?_ | refine GA.rev ?_)), by omega, by omega, by omega⟩
                | exact ⟨_, _, _, _, rfl, by (with_reducible repeat (first | assumption | exact GA.ext ga' | exact GA.ext gb' | exact GA.one (by assumption) | refine GA.app ?_ ?_ | refine GA.psh ?_ ?_ | refine GA.rev ?_)), by omega, by omega, by omega⟩))
        · rintro c st2 ⟨S2, out2, ia2, ib2, r, rfl, go2, y1, y2, y3⟩
          exact ⟨S2, .inr ⟨_, _, _, _, rfl, go2, y1, y2, by omega⟩⟩
        · rintro c st2 ⟨S2, ⟨r, x, rfl, gr⟩ | ⟨out2, ia2, ib2, ⟨ac, bc⟩, rfl, go2, y1, y2, y3⟩⟩
          · exact wpS_pure ⟨S2, _, _, rfl, gr⟩
          · dsimp only
            refine wpS_bind (wpS_ruleS ?_)
            refine wpS_bind (wpS_mono (wpS_forRange (I := fun i c st' => Safe κ g N pd st' ∧ ∃ out ia' ib' r, c = (none, out, ia', ib', r) ∧ GA g out ∧ ia' + 1 < a.size ∧ ib' < b.size ∧ ia + ib + 1 ≤ ia' + ib')
              (Q := fun c st' => Safe κ g N pd st' ∧ ((∃ r x, c = (some r, x) ∧ GA g r) ∨ ∃ out ia' ib' r, c = (none, out, ia', ib', r) ∧ GA g out ∧ ia' + 1 < a.size ∧ ib' < b.size ∧ ia + ib + 1 ≤ ia' + ib')) ?_ ?_ ⟨S2, _, _, _, _, rfl, go2, y1, y2, y3⟩) ?_)
            · rintro i3 c st3 _ hi3 ⟨S3, out3, ia3, ib3, ⟨mg3, ac3, bc3⟩, rfl, go3, x1, x2, x3⟩
              dsimp only
              clear S1 S2 S go go2
              repeat' (first
                | with_reducible refine wpS_iteB (fun _ => ?_) (fun _ => ?_)
                | with_reducible refine wpS_ite (fun _ => ?_) (fun _ => ?_)
                | with_reducible refine wpS_bind (wpS_elemS ga (by omega) fun _ _ => ?_)
                | with_reducible refine wpS_bind (wpS_elemS gb (by omega) fun _ _ => ?_)
                | with_reducible refine wpS_bind (wpS_ltS ok (by assumption) (by assumption) (by assumption) fun _ => ?_)
                | with_reducible refine wpS_bind (wpS_setG (by assumption) fun _ _ => ?_)
                | with_reducible refine wpS_bind (wpS_gallop ok (by assumption) (by assumption) ga (by omega) (by omega) fun _ _ => ?_)
                | with_reducible refine wpS_bind (wpS_gallop ok (by assumption) (by assumption) gb (by omega) (by omega) fun _ _ => ?_)
                | dsimp only
                | (refine wpS_pure ⟨by assumption, ?_⟩; first
                    | exact .inl ⟨_, _, rfl, by (with_reducible repeat (first | assumption | exact GA.ext ga' | exact GA.ext gb' | exact GA.one (by assumption) | refine GA.app ?_ ?_ | refine GA.psh ?_ ?_ | refine GA.rev ?_))⟩
                    | exact .inr ⟨_, _, _, _, rfl, by (with_reducible repeat (first | assumption | exact GA.ext ga' | exact GA.ext gb' | exact GA.one (by assumption) | refine GA.app ?_ ?_ | refine GA.psh ?_ ?_ | refine GA.rev ?_)), by omega, by omega, by omega⟩
                    | exact ⟨_, _, _, _, rfl, by (with_reducible repeat (first | assumption | exact GA.ext ga' | exact GA.ext gb' | exact GA.one (by assumption) | refine GA.app ?_ ?_ | refine GA.psh ?_ ?_ | refine GA.rev ?_)), by omega, by omega, by omega⟩))
            · rintro c st2 ⟨S2, out2, ia2, ib2, r, rfl, go2, y1, y2, y3⟩
              exact ⟨S2, .inr ⟨_, _, _, _, rfl, go2, y1, y2, by omega⟩⟩
            · rintro c st3 ⟨S3, ⟨r, x, rfl, gr⟩ | ⟨out3, ia3, ib3, ⟨mg3, ac3, bc3⟩, rfl, go3, x1, x2, x3⟩⟩
              · exact wpS_pure ⟨S3, _, _, rfl, gr⟩
              · dsimp only
                exact wpS_bind (wpS_setG S3 fun st4 S4 => wpS_pure ⟨S4, _, _, _, _, rfl, go3, x1, x2, by omega⟩)
      · rintro c st2 ⟨S2, out2, ia2, ib2, r, rfl, go2, y1, y2, y3⟩
        exfalso
        omega
      · rintro c st2 ⟨S2, r, x, rfl, gr⟩
        exact wpS_pure (h _ _ gr S2)
end
end L2

set_option Elab.async false
set_option linter.all false
set_option maxRecDepth 100000
set_option maxHeartbeats 3200000
namespace L2
open PySem PySem.Spec PyProof.Rows
section
variable {prog : Program} {w : World} {A : Around} {E : Value → Shared → Prop} {s : Shared} {κ : SortKind} {g : Keyed → Prop} {N : Nat} {pd : Array (Nat × Nat × Nat)}
theorem wpS_iteB0 {M : Model} {σ α : Type} {i : Nat} {x y : StateT σ Sem α} {Q : α → σ → Prop} {st : σ} (h1 : i = 0 → wpS M A E s x Q st) (h2 : 1 ≤ i → wpS M A E s y Q st) : wpS M A E s (if (i == 0) = true then x else y) Q st :=
  wpS_iteB h1 fun e => h2 (by omega)
theorem wpS_iteB1 {M : Model} {σ α : Type} {i : Nat} {x y : StateT σ Sem α} {Q : α → σ → Prop} {st : σ} (h0 : 1 ≤ i) (h1 : i = 1 → wpS M A E s x Q st) (h2 : 2 ≤ i → wpS M A E s y Q st) : wpS M A E s (if (i == 1) = true then x else y) Q st :=
  wpS_iteB h1 fun e => h2 (by omega)
theorem wpS_iteGt {M : Model} {σ α : Type} {i j : Nat} {x y : StateT σ Sem α} {Q : α → σ → Prop} {st : σ} (h1 : j < i → wpS M A E s x Q st) (h2 : i ≤ j → wpS M A E s y Q st) : wpS M A E s (if i - j > 0 then x else y) Q st :=
  wpS_ite (fun e => h1 (by omega)) fun e => h2 (by omega)
theorem wpS_mergeHi {a b : Array Keyed} {st : SortSt} {Q : Array Keyed → SortSt → Prop} (ok : LtOk prog w A s κ g) (S : Safe κ g N pd st) (ga : ∀ p ∈ a, g p) (gb : ∀ p ∈ b, g p) (h1 : 1 ≤ a.size) (h2 : 1 ≤ b.size)
    (h : ∀ out st', GA g out → Safe κ g N pd st' → Q out st') : wpS (model prog w) A E s (mergeHi' a b) Q st := by
  have ga' : GA g a := ga
  have gb' : GA g b := gb
  refine wpS_bind (wpS_ruleS ?_)
  refine wpS_bind (wpS_elemS ga (by omega) fun p gp => ?_)
  dsimp only
  refine wpS_iteB (fun q1 => ?_) (fun q1 => ?_)
  · exact wpS_pure (h _ _ (by (with_reducible repeat (first | assumption | exact GA.ext ga' | exact GA.ext gb' | exact GA.one (by assumption) | refine GA.app ?_ ?_ | refine GA.psh ?_ ?_ | refine GA.rev ?_))) S)
  · refine wpS_iteB (fun q2 => ?_) (fun q2 => ?_)
    · exact wpS_pure (h _ _ (by (with_reducible repeat (first | assumption | exact GA.ext ga' | exact GA.ext gb' | exact GA.one (by assumption) | refine GA.app ?_ ?_ | refine GA.psh ?_ ?_ | refine GA.rev ?_))) S)
    · refine wpS_bind (wpS_get ?_)
      try dsimp only
      refine wpS_bind (wpS_mono (wpS_forRange (I := fun i c st' => Safe κ g N pd st' ∧ ∃ na' nb' out r, c = (none, na', nb', out, r) ∧ GA g out ∧ 1 ≤ na' ∧ 2 ≤ nb' ∧ na' ≤ a.size ∧ nb' ≤ b.size ∧ na' + nb' + i + 1 ≤ a.size + b.size)
        (Q := fun c st' => Safe κ g N pd st' ∧ ∃ r x, c = (some r, x) ∧ GA g r) ?_ ?_ ⟨S, _, _, _, _, rfl, by (with_reducible repeat (first | assumption | exact GA.ext ga' | exact GA.ext gb' | exact GA.one (by assumption) | refine GA.app ?_ ?_ | refine GA.psh ?_ ?_ | refine GA.rev ?_)), by omega, by omega, by omega, by omega, by omega⟩) ?_)
      · rintro i c st1 _ hi ⟨S1, na, nb, out, mg, rfl, go, z1, z2, z3, z4, z5⟩
        dsimp only
        refine wpS_bind (wpS_mono (wpS_forRange (I := fun i c st' => Safe κ g N pd st' ∧ ∃ na' nb' out r, c = (none, na', nb', out, r) ∧ GA g out ∧ 1 ≤ na' ∧ 2 ≤ nb' ∧ na' ≤ a.size ∧ nb' ≤ b.size ∧ na' + nb' + min i 1 ≤ na + nb)
          (Q := fun c st' => Safe κ g N pd st' ∧ ((∃ r x, c = (some r, x) ∧ GA g r) ∨ ∃ na' nb' out r, c = (none, na', nb', out, r) ∧ GA g out ∧ 1 ≤ na' ∧ 2 ≤ nb' ∧ na' ≤ a.size ∧ nb' ≤ b.size ∧ na' + nb' + 1 ≤ na + nb)) ?_ ?_ ⟨S1, _, _, _, _, rfl, go, z1, z2, z3, z4, by omega⟩) ?_)
        · rintro i2 c st2 _ hi2 ⟨S2, na2, nb2, out2, ⟨ac, bc⟩, rfl, go2, y1, y2, y3, y4, y5⟩
          dsimp only
          clear S S1 go h1 h2 q1 q2 z1 z2 z3 z4 z5 hi hi2
          obtain ⟨na2, rfl⟩ : ∃ k, na2 = k + 1 := ⟨na2 - 1, by omega⟩
          obtain ⟨nb2, rfl⟩ : ∃ k, nb2 = k + 1 + 1 := ⟨nb2 - 2, by omega⟩
          simp only [Nat.add_sub_cancel]
          clear y1 y2
          repeat' (first
            | with_reducible refine wpS_iteB0 (fun _ => ?_) (fun _ => ?_)
            | with_reducible refine wpS_iteB1 (by omega) (fun _ => ?_) (fun _ => ?_)
            | with_reducible refine wpS_iteB (fun _ => ?_) (fun _ => ?_)
            | with_reducible refine wpS_iteGt (fun _ => ?_) (fun _ => ?_)
            | with_reducible refine wpS_ite (fun _ => ?_) (fun _ => ?_)
            | with_reducible refine wpS_bind (wpS_elemS ga (by omega) fun _ _ => ?_)
            | with_reducible refine wpS_bind (wpS_elemS gb (by omega) fun _ _ => ?_)
            | with_reducible refine wpS_bind (wpS_ltS ok (by assumption) (by assumption) (by assumption) fun _ => ?_)
            | with_reducible refine wpS_bind (wpS_setG (by assumption) fun _ _ => ?_)
            | with_reducible refine wpS_bind (wpS_gallop ok (by assumption) (by assumption) ga (by omega) (by omega) fun _ _ => ?_)
            | with_reducible refine wpS_bind (wpS_gallop ok (by assumption) (by assumption) gb (by omega) (by omega) fun _ _ => ?_)
            | dsimp only
            | (refine wpS_pure ⟨by assumption, ?_⟩; first
                | exact .inl ⟨_, _, rfl, by (with_reducible repeat (first | assumption | exact GA.ext ga' | exact GA.ext gb' | exact GA.one (by assumption) | refine GA.app ?_ ?_ | refine GA.psh ?_ ?_ | refine GA.rev ?_))⟩
                | exact ⟨_, _, _, _, rfl, by (with_reducible repeat (first | assumption | exact GA.ext ga' | exact GA.ext gb' | exact GA.one (by assumption) | refine GA.app ?_ ?_ | refine GA.psh ?_ ?_ | refine GA.rev ?_)), by omega, by omega, by omega, by omega, by omega⟩
                | exact .inr ⟨_, _, _, _, rfl, by (with_reducible repeat (first | assumption | exact GA.ext ga' | exact GA.ext gb' | exact GA.one (by assumption) | refine GA.app ?_ ?_ | refine GA.psh ?_ ?_ | refine GA.rev ?_)), by omega, by omega, by omega, by omega, by omega⟩))
        · rintro c st2 ⟨S2, na2, nb2, out2, r, rfl, go2, y1, y2, y3, y4, y5⟩
          exact ⟨S2, .inr ⟨_, _, _, _, rfl, go2, y1, y2, y3, y4, by omega⟩⟩
        · rintro c st2 ⟨S2, ⟨r, x, rfl, gr⟩ | ⟨na2, nb2, out2, ⟨ac, bc⟩, rfl, go2, y1, y2, y3, y4, y5⟩⟩
          · exact wpS_pure ⟨S2, _, _, rfl, gr⟩
          · dsimp only
            refine wpS_bind (wpS_ruleS ?_)
            refine wpS_bind (wpS_mono (wpS_forRange (I := fun i c st' => Safe κ g N pd st' ∧ ∃ na' nb' out r, c = (none, na', nb', out, r) ∧ GA g out ∧ 1 ≤ na' ∧ 2 ≤ nb' ∧ na' ≤ a.size ∧ nb' ≤ b.size ∧ na' + nb' + 1 ≤ na + nb)
              (Q := fun c st' => Safe κ g N pd st' ∧ ((∃ r x, c = (some r, x) ∧ GA g r) ∨ ∃ na' nb' out r, c = (none, na', nb', out, r) ∧ GA g out ∧ 1 ≤ na' ∧ 2 ≤ nb' ∧ na' ≤ a.size ∧ nb' ≤ b.size ∧ na' + nb' + 1 ≤ na + nb)) ?_ ?_ ⟨S2, _, _, _, _, rfl, go2, y1, y2, y3, y4, y5⟩) ?_)
            · rintro i3 c st3 _ hi3 ⟨S3, na3, nb3, out3, ⟨mg3, ac3, bc3⟩, rfl, go3, x1, x2, x3, x4, x5⟩
              dsimp only
              clear S1 S2 S go go2 h1 h2 q1 q2 z1 z2 z3 z4 z5 y1 y2 y3 y4 y5 hi hi3
              obtain ⟨na3, rfl⟩ : ∃ k, na3 = k + 1 := ⟨na3 - 1, by omega⟩
              obtain ⟨nb3, rfl⟩ : ∃ k, nb3 = k + 1 + 1 := ⟨nb3 - 2, by omega⟩
              simp only [Nat.add_sub_cancel]
              clear x1 x2
              repeat' (first
                | with_reducible refine wpS_iteB0 (fun _ => ?_) (fun _ => ?_)
                | with_reducible refine wpS_iteB1 (by omega) (fun _ => ?_) (fun _ => ?_)
                | with_reducible refine wpS_iteB (fun _ => ?_) (fun _ => ?_)
                | with_reducible refine wpS_iteGt (fun _ => ?_) (fun _ => ?_)
                | with_reducible refine wpS_ite (fun _ => ?_) (fun _ => ?_)
                | with_reducible refine wpS_bind (wpS_elemS ga (by omega) fun _ _ => ?_)
                | with_reducible refine wpS_bind (wpS_elemS gb (by omega) fun _ _ => ?_)
                | with_reducible refine wpS_bind (wpS_ltS ok (by assumption) (by assumption) (by assumption) fun _ => ?_)
                | with_reducible refine wpS_bind (wpS_setG (by assumption) fun _ _ => ?_)
                | with_reducible refine wpS_bind (wpS_gallop ok (by assumption) (by assumption) ga (by omega) (by omega) fun _ _ => ?_)
                | with_reducible refine wpS_bind (wpS_gallop ok (by assumption) (by assumption) gb (by omega) (by omega) fun _ _ => ?_)
                | dsimp only
                | (refine wpS_pure ⟨by assumption, ?_⟩; first
                    | exact .inl ⟨_, _, rfl, by (with_reducible repeat (first | assumption | exact GA.ext ga' | exact GA.ext gb' | exact GA.one (by assumption) | refine GA.app ?_ ?_ | refine GA.psh ?_ ?_ | refine GA.rev ?_))⟩
                    | exact ⟨_, _, _, _, rfl, by (with_reducible repeat (first | assumption | exact GA.ext ga' | exact GA.ext gb' | exact GA.one (by assumption) | refine GA.app ?_ ?_ | refine GA.psh ?_ ?_ | refine GA.rev ?_)), by omega, by omega, by omega, by omega, by omega⟩
                    | exact .inr ⟨_, _, _, _, rfl, by (with_reducible repeat (first | assumption | exact GA.ext ga' | exact GA.ext gb' | exact GA.one (by assumption) | refine GA.app ?_ ?_ | refine GA.psh ?_ ?_ | refine GA.rev ?_)), by omega, by omega, by omega, by omega, by omega⟩))
            · rintro c st2 ⟨S2, na2, nb2, out2, r, rfl, go2, y1, y2, y3, y4, y5⟩
              exact ⟨S2, .inr ⟨_, _, _, _, rfl, go2, y1, y2, y3, y4, by omega⟩⟩
            · rintro c st3 ⟨S3, ⟨r, x, rfl, gr⟩ | ⟨na3, nb3, out3, ⟨mg3, ac3, bc3⟩, rfl, go3, x1, x2, x3, x4, x5⟩⟩
              · exact wpS_pure ⟨S3, _, _, rfl, gr⟩
              · dsimp only
                exact wpS_bind (wpS_setG S3 fun st4 S4 => wpS_pure ⟨S4, _, _, _, _, rfl, go3, x1, x2, x3, x4, by omega⟩)
      · rintro c st2 ⟨S2, na2, nb2, out2, r, rfl, go2, y1, y2, y3, y4, y5⟩
        exfalso
        omega
      · rintro c st2 ⟨S2, r, x, rfl, gr⟩
        exact wpS_pure (h _ _ gr S2)
end
end L2

set_option Elab.async false
set_option linter.all false
set_option maxRecDepth 100000
set_option maxHeartbeats 3200000
namespace L2
open PySem PySem.Spec PyProof.Rows
def Runs : List (Nat × Nat × Nat) → Nat → Nat → Prop
  | [], a, b => a = b
  | (s, n, _) :: r, a, b => s = a ∧ 1 ≤ n ∧ Runs r (a + n) b
theorem Runs.le : ∀ {l : List (Nat × Nat × Nat)} {a b : Nat}, Runs l a b → a ≤ b
  | [], _, _, h => Nat.le_of_eq h
  | (_, n, _) :: r, a, b, h => by
    have := Runs.le h.2.2
    omega
theorem Runs.app {s n p : Nat} : ∀ {l : List (Nat × Nat × Nat)} {a b : Nat}, Runs l a b → 1 ≤ n → Runs (l ++ [(b, n, p)]) a (b + n)
  | [], _, _, rfl, hn => ⟨rfl, hn, rfl⟩
  | (_, _, _) :: r, a, b, h, hn => ⟨h.1, h.2.1, Runs.app (s := s) h.2.2 hn⟩
theorem Runs.at : ∀ {l : List (Nat × Nat × Nat)} {a b i s n p s2 n2 p2 : Nat}, Runs l a b → l[i]? = some (s, n, p) → l[i + 1]? = some (s2, n2, p2) →
    s2 = s + n ∧ 1 ≤ n ∧ 1 ≤ n2 ∧ s2 + n2 ≤ b ∧ Runs ((l.set i (s, n + n2, p)).eraseIdx (i + 1)) a b
  | [], _, _, i, _, _, _, _, _, _, _, h1, _ => by simp at h1
  | (s0, n0, p0) :: r, a, b, 0, s, n, p, s2, n2, p2, h, h1, h2 => by
    simp only [List.getElem?_cons_zero, Option.some.injEq, Prod.mk.injEq] at h1
    obtain ⟨rfl, rfl, rfl⟩ := h1
    cases r with
    | nil => simp at h2
    | cons q r =>
      simp at h2
      subst h2
      obtain ⟨e1, e2, e3, e4, e5⟩ := h
      have := e5.le
      refine ⟨by omega, e2, e4, by omega, ?_⟩
      refine ⟨e1, by omega, ?_⟩
      rw [show a + (n0 + n2) = a + n0 + n2 by omega]
      exact e5
  | (s0, n0, p0) :: r, a, b, i + 1, s, n, p, s2, n2, p2, h, h1, h2 => by
    obtain ⟨e1, e2, e3⟩ := h
    have := Runs.at (i := i) e3 (by simpa using h1) (by simpa using h2)
    exact ⟨this.1, this.2.1, this.2.2.1, this.2.2.2.1, e1, e2, this.2.2.2.2⟩
theorem Runs.mod (f : Nat × Nat × Nat → Nat × Nat × Nat) (hf : ∀ x, (f x).1 = x.1 ∧ (f x).2.1 = x.2.1) : ∀ {l : List (Nat × Nat × Nat)} {a b i : Nat}, Runs l a b → Runs (l.modify i f) a b
  | [], _, _, i, h => by simpa using h
  | (s0, n0, p0) :: r, a, b, 0, h => by
    have := hf (s0, n0, p0)
    rw [List.modify_zero_cons]
    generalize f (s0, n0, p0) = y at this
    obtain ⟨y1, y2, y3⟩ := y
    obtain ⟨rfl, rfl⟩ := this
    exact h
  | (s0, n0, p0) :: r, a, b, i + 1, h => ⟨h.1, h.2.1, Runs.mod f hf h.2.2⟩
section
variable {prog : Program} {w : World} {A : Around} {E : Value → Shared → Prop} {s : Shared} {κ : SortKind} {g : Keyed → Prop} {N : Nat} {pd : Array (Nat × Nat × Nat)}
theorem wpS_setS {M : Model} {σ : Type} {st' : σ} {Q : PUnit → σ → Prop} {st : σ} (h : Q ⟨⟩ st') : wpS M A E s (set st' : StateT σ Sem PUnit) Q st := by
  unfold wpS; rw [StateT.run_set]; exact wpAny_pure ⟨rfl, h⟩
theorem GA.setB {xs : Array Keyed} {x : Keyed} {i : Nat} (h1 : GA g xs) (h2 : g x) : GA g (xs.setIfInBounds i x) := fun p hp => by
  obtain ⟨k, hk, e⟩ := Array.mem_iff_getElem.mp hp
  rw [Array.getElem_setIfInBounds] at e
  · split at e
    · exact e ▸ h2
    · exact e ▸ h1 _ (Array.getElem_mem _)
  · simpa using hk
theorem GA.fold {sa : Nat} : ∀ {l : List (Keyed × Nat)} {xs : Array Keyed}, GA g xs → (∀ p ∈ l, g p.1) → GA g (l.foldl (fun a x => a.setIfInBounds (sa + x.2) x.1) xs) ∧ (l.foldl (fun a x => a.setIfInBounds (sa + x.2) x.1) xs).size = xs.size
  | [], xs, h, _ => ⟨h, rfl⟩
  | p :: l, xs, h, hl => by
    have := GA.fold (sa := sa) (h.setB (i := sa + p.2) (hl p (List.mem_cons_self ..))) (fun q hq => hl q (List.mem_cons_of_mem _ hq))
    exact ⟨this.1, this.2.trans (Array.size_setIfInBounds ..)⟩
theorem wpS_mergeAt {i lo : Nat} {st : SortSt} {Q : Bool → SortSt → Prop} (ok : LtOk prog w A s κ g) (S : Safe κ g N pd st) (hR : Runs pd.toList 0 lo) (hlo : lo ≤ N) (hi : i + 1 < pd.size)
    (h : ∀ pd' st', Safe κ g N pd' st' → Runs pd'.toList 0 lo → 1 ≤ pd'.size → Q true st') : wpS (model prog w) A E s (mergeAt' i) Q st := by
  refine wpS_bind (wpS_get ?_)
  dsimp only
  obtain ⟨⟨sa, na, pw⟩, e1⟩ : ∃ x, pd[i]? = some x := ⟨_, getElem?_pos pd i (by omega)⟩
  obtain ⟨⟨sb, nb, pw2⟩, e2⟩ : ∃ x, pd[i + 1]? = some x := ⟨_, getElem?_pos pd (i + 1) (by omega)⟩
  obtain ⟨rfl, n1, n2, z1, R2⟩ := hR.at (i := i) (by simpa using e1) (by simpa using e2)
  have hp : (sortPriv% PySem.Builtin.SortState.pending) st = pd := S.pend
  rw [hp, e1, e2]
  dsimp only
  refine wpS_bind (wpS_setS ?_)
  have S2 : ∀ st' : SortSt, kindOf st' = kindOf st → failedOf st' = none → GA g (arrOf st') → (arrOf st').size = N → pendingOf st' = (pd.setIfInBounds i (sa, na + nb, pw)).eraseIdxIfInBounds (i + 1) → Safe κ g N ((pd.setIfInBounds i (sa, na + nb, pw)).eraseIdxIfInBounds (i + 1)) st' :=
    fun st' a1 a2 a3 a4 a5 => ⟨a1.trans S.kind, a2, a4, a3, a5⟩
  have R3 : Runs ((pd.setIfInBounds i (sa, na + nb, pw)).eraseIdxIfInBounds (i + 1)).toList 0 lo := by
    have : ((pd.setIfInBounds i (sa, na + nb, pw)).eraseIdxIfInBounds (i + 1)).toList = (pd.toList.set i (sa, na + nb, pw)).eraseIdx (i + 1) := by simp
    rw [this]
    exact R2
  have sz : 1 ≤ ((pd.setIfInBounds i (sa, na + nb, pw)).eraseIdxIfInBounds (i + 1)).size := by
    rw [← Array.length_toList]
    generalize ((pd.setIfInBounds i (sa, na + nb, pw)).eraseIdxIfInBounds (i + 1)).toList = l at R3
    cases l with
    | nil =>
      have : 0 = lo := R3
      omega
    | cons => simp
  have S3 := S2 (SortSt.mk' (kindOf st) (arrOf st) ((pd.setIfInBounds i (sa, na + nb, pw)).eraseIdxIfInBounds (i + 1)) (gallopOf st) (failedOf st)) rfl S.failed S.all S.size rfl
  have T : ∀ (k : Nat) (M : Array Keyed) (st4 : SortSt), GA g M → Safe κ g N ((pd.setIfInBounds i (sa, na + nb, pw)).eraseIdxIfInBounds (i + 1)) st4 → wpS (model prog w) A E s (do
      modify fun s => setArr s (List.foldl (fun a x => a.setIfInBounds (sa + k + x.2) x.1) (arrOf s) M.toList.zipIdx)
      let y ← get
      pure (failedOf y).isNone) Q st4 := by
    intro k M st4 gM S4
    refine wpS_bind (wpS_modify (wpS_bind (wpS_get (wpS_pure ?_))))
    have q := GA.fold (sa := sa + k) (l := M.toList.zipIdx) (xs := arrOf st4) S4.all (fun p hp => gM _ (by
      have := List.mem_zipIdx hp
      rw [this.2.2]
      simp))
    rw [show failedOf (setArr st4 _) = none from S4.failed]
    exact h _ _ ⟨S4.kind, S4.failed, q.2.trans S4.size, q.1, S4.pend⟩ R3 sz
  have hs : (arrOf st).size = N := S.size
  have hs' : ((sortPriv% PySem.Builtin.SortState.a) st).size = N := S.size
  refine wpS_bind (wpS_elemS S.all (by omega) fun p gp => ?_)
  refine wpS_bind (wpS_gallop ok S3 gp S.all (by omega) (by omega) fun k hk => ?_)
  dsimp only
  refine wpS_iteB (fun q1 => ?_) (fun q1 => ?_)
  · exact wpS_pure (h _ _ S3 R3 sz)
  · refine wpS_bind (wpS_elemS S.all (by omega) fun p2 gp2 => ?_)
    refine wpS_bind (wpS_gallop ok S3 gp2 S.all (by omega) (by omega) fun k2 hk2 => ?_)
    dsimp only
    refine wpS_iteB (fun q2 => ?_) (fun q2 => ?_)
    · exact wpS_pure (h _ _ S3 R3 sz)
    · have e3 : ((arrOf st).extract (sa + k) (sa + na)).size = na - k := by
        rw [Array.size_extract]
        omega
      have e4 : ((arrOf st).extract (sa + na) (sa + na + k2)).size = k2 := by
        rw [Array.size_extract]
        omega
      have e3' : (((sortPriv% PySem.Builtin.SortState.a) st).extract (sa + k) (sa + na)).size = na - k := e3
      have e4' : (((sortPriv% PySem.Builtin.SortState.a) st).extract (sa + na) (sa + na + k2)).size = k2 := e4
      have g3 : GA g ((arrOf st).extract (sa + k) (sa + na)) := GA.ext S.all
      have g4 : GA g ((arrOf st).extract (sa + na) (sa + na + k2)) := GA.ext S.all
      refine wpS_ite (fun _ => ?_) (fun _ => ?_)
      · exact wpS_bind (wpS_mergeLo ok S3 g3 g4 (by rw [e3]; omega) (by rw [e4]; omega) fun M st4 gM S4 => T k M st4 gM S4)
      · exact wpS_bind (wpS_mergeHi ok S3 g3 g4 (by rw [e3]; omega) (by rw [e4]; omega) fun M st4 gM S4 => T k M st4 gM S4)
theorem wpS_sortAll {st : SortSt} {Q : Unit → SortSt → Prop} (ok : LtOk prog w A s κ g) (S : Safe κ g N #[] st)
    (h : ∀ pd st', Safe κ g N pd st' → Q () st') : wpS (model prog w) A E s sortRuns' Q st := by
  refine wpS_bind (wpS_get ?_)
  have hs : ((sortPriv% PySem.Builtin.SortState.a) st).size = N := S.size
  dsimp only
  rw [hs]
  generalize (sortPriv% PySem.Builtin.minRun) N N 0 = mr
  refine wpS_bind (wpS_mono (wpS_forRange (I := fun x c st' => ∃ lo pd, c = (none, lo) ∧ Safe κ g N pd st' ∧ Runs pd.toList 0 lo ∧ lo ≤ N ∧ x ≤ lo) (Q := fun c st' => ∃ lo pd, c = (none, lo) ∧ Safe κ g N pd st' ∧ Runs pd.toList 0 lo ∧ lo ≤ N) ?step (fun c st' ⟨lo, pd, e, z1, z2, z3, _⟩ => ⟨lo, pd, e, z1, z2, z3⟩) ⟨0, #[], rfl, S, rfl, Nat.zero_le _, Nat.le_refl _⟩) ?post)
  case step =>
    rintro x c st1 _ hx ⟨lo, pd, rfl, S1, R1, hlo, hxl⟩
    dsimp only
    refine wpS_ite (fun q => ?_) (fun q => ?_)
    · exact wpS_pure ⟨lo, pd, rfl, S1, R1, hlo⟩
    · refine wpS_bind (wpS_countS ok S1 (by omega) (by omega) fun n st3 hn1 hn2 S3 => ?_)
      dsimp only
      refine wpS_ite (fun q2 => ?_) (fun q2 => ?_)
      · refine wpS_bind (wpS_ruleS ?_)
        refine wpS_bind (wpS_binS ok S3 (by omega) fun st3 S3 => ?_)
        refine wpS_ite (fun e => by simp at e) (fun _ => ?_)
        have hn3 : 1 ≤ min (N - lo) mr := by omega
        have hn4 : lo + min (N - lo) mr ≤ N := by omega
        generalize min (N - lo) mr = n at hn3 hn4
        refine wpS_bind (wpS_get ?_)
        cases hb : ((sortPriv% PySem.Builtin.SortState.pending) st3).back? with
        | none =>
          dsimp only
          refine wpS_bind (wpS_modify (wpS_pure ⟨_, _, rfl, ⟨S3.kind, S3.failed, S3.size, S3.all, rfl⟩, ?_, hn4, by omega⟩))
          show Runs ((pendingOf st3).push (lo, n, 0)).toList 0 (lo + n)
          rw [S3.pend, Array.toList_push]
          exact R1.app (s := 0) hn3
        | some y =>
          obtain ⟨s1, n1, p1⟩ := y
          dsimp only
          refine wpS_bind (wpS_mono (wpS_forRange (I := fun _ c st' => ∃ pd, c = (none, ()) ∧ Safe κ g N pd st' ∧ Runs pd.toList 0 lo) (Q := fun c st' => ∃ pd, c = (none, ()) ∧ Safe κ g N pd st' ∧ Runs pd.toList 0 lo) ?_ (fun _ _ z => z) ⟨pd, rfl, S3, R1⟩) ?_)
          · rintro _ c st4 _ _ ⟨pd4, rfl, S4, R4⟩
            refine wpS_bind (wpS_get ?_)
            have hp4 : (sortPriv% PySem.Builtin.SortState.pending) st4 = pd4 := S4.pend
            try dsimp only
            rw [hp4]
            by_cases q4 : pd4.size > 1
            · rw [if_pos q4]
              obtain ⟨⟨y1, y2, y3⟩, ey⟩ : ∃ y, pd4[pd4.size - 2]? = some y := ⟨_, getElem?_pos _ _ (by omega)⟩
              rw [ey]
              dsimp only
              refine wpS_ite (fun _ => wpS_pure ⟨pd4, rfl, S4, R4⟩) (fun _ => ?_)
              refine wpS_bind (wpS_mergeAt ok S4 R4 hlo (by omega) fun pd5 st5 S5 R5 _ => ?_)
              refine wpS_ite (fun e => by simp at e) fun _ => wpS_pure ⟨pd5, rfl, S5, R5⟩
            · rw [if_neg q4]
              exact wpS_pure ⟨pd4, rfl, S4, R4⟩
          · rintro c st4 ⟨pd4, rfl, S4, R4⟩
            dsimp only
            refine wpS_bind (wpS_modify (wpS_bind (wpS_modify (wpS_pure ⟨_, _, rfl, ⟨S4.kind, S4.failed, S4.size, S4.all, rfl⟩, ?_, hn4, by omega⟩))))
            show Runs (((pendingOf st4).modify ((pendingOf st4).size - 1) _).push (lo, n, 0)).toList 0 (lo + n)
            rw [S4.pend, Array.toList_push, Array.toList_modify]
            refine Runs.app (s := 0) ?_ hn3
            refine Runs.mod _ ?_ R4
            exact fun x => ⟨rfl, rfl⟩
      · have hn3 : 1 ≤ n := hn1
        have hn4 : lo + n ≤ N := by omega
        refine wpS_bind (wpS_get ?_)
        cases hb : ((sortPriv% PySem.Builtin.SortState.pending) st3).back? with
        | none =>
          dsimp only
          refine wpS_bind (wpS_modify (wpS_pure ⟨_, _, rfl, ⟨S3.kind, S3.failed, S3.size, S3.all, rfl⟩, ?_, hn4, by omega⟩))
          show Runs ((pendingOf st3).push (lo, n, 0)).toList 0 (lo + n)
          rw [S3.pend, Array.toList_push]
          exact R1.app (s := 0) hn3
        | some y =>
          obtain ⟨s1, n1, p1⟩ := y
          dsimp only
          refine wpS_bind (wpS_mono (wpS_forRange (I := fun _ c st' => ∃ pd, c = (none, ()) ∧ Safe κ g N pd st' ∧ Runs pd.toList 0 lo) (Q := fun c st' => ∃ pd, c = (none, ()) ∧ Safe κ g N pd st' ∧ Runs pd.toList 0 lo) ?_ (fun _ _ z => z) ⟨pd, rfl, S3, R1⟩) ?_)
          · rintro _ c st4 _ _ ⟨pd4, rfl, S4, R4⟩
            refine wpS_bind (wpS_get ?_)
            have hp4 : (sortPriv% PySem.Builtin.SortState.pending) st4 = pd4 := S4.pend
            try dsimp only
            rw [hp4]
            by_cases q4 : pd4.size > 1
            · rw [if_pos q4]
              obtain ⟨⟨y1, y2, y3⟩, ey⟩ : ∃ y, pd4[pd4.size - 2]? = some y := ⟨_, getElem?_pos _ _ (by omega)⟩
              rw [ey]
              dsimp only
              refine wpS_ite (fun _ => wpS_pure ⟨pd4, rfl, S4, R4⟩) (fun _ => ?_)
              refine wpS_bind (wpS_mergeAt ok S4 R4 hlo (by omega) fun pd5 st5 S5 R5 _ => ?_)
              refine wpS_ite (fun e => by simp at e) fun _ => wpS_pure ⟨pd5, rfl, S5, R5⟩
            · rw [if_neg q4]
              exact wpS_pure ⟨pd4, rfl, S4, R4⟩
          · rintro c st4 ⟨pd4, rfl, S4, R4⟩
            dsimp only
            refine wpS_bind (wpS_modify (wpS_bind (wpS_modify (wpS_pure ⟨_, _, rfl, ⟨S4.kind, S4.failed, S4.size, S4.all, rfl⟩, ?_, hn4, by omega⟩))))
            show Runs (((pendingOf st4).modify ((pendingOf st4).size - 1) _).push (lo, n, 0)).toList 0 (lo + n)
            rw [S4.pend, Array.toList_push, Array.toList_modify]
            refine Runs.app (s := 0) ?_ hn3
            refine Runs.mod _ ?_ R4
            exact fun x => ⟨rfl, rfl⟩
  case post =>
    rintro c st2 ⟨lo, pd, rfl, S2, R2, hlo⟩
    dsimp only
    refine wpS_bind (wpS_mono (wpS_forRange (I := fun _ c st' => ∃ pd, c = (none, ()) ∧ Safe κ g N pd st' ∧ Runs pd.toList 0 lo) (Q := fun c st' => ∃ pd, c = (none, ()) ∧ Safe κ g N pd st' ∧ Runs pd.toList 0 lo) ?_ (fun _ _ z => z) ⟨pd, rfl, S2, R2⟩) ?_)
    · rintro _ c st4 _ _ ⟨pd4, rfl, S4, R4⟩
      refine wpS_bind (wpS_get ?_)
      have hp4 : (sortPriv% PySem.Builtin.SortState.pending) st4 = pd4 := S4.pend
      try dsimp only
      rw [hp4]
      refine wpS_ite (fun _ => wpS_pure ⟨pd4, rfl, S4, R4⟩) (fun q4 => ?_)
      refine wpS_bind (wpS_mergeAt ok S4 R4 hlo ?_ fun pd5 st5 S5 R5 _ => ?_)
      · (repeat' split) <;> omega
      · refine wpS_ite (fun e => by simp at e) fun _ => wpS_pure ⟨pd5, rfl, S5, R5⟩
    · rintro c st4 ⟨pd4, rfl, S4, R4⟩
      exact wpS_pure (h _ _ S4)
theorem ltOk_int : LtOk prog w A s oneType' fun p => (∃ n t, p.1 = .int n t) ∧ ∃ n t, p.2 = .int n t := by
  rintro ⟨x1, x2⟩ ⟨y1, y2⟩ ⟨⟨n, t, rfl⟩, _⟩ ⟨⟨m, u, rfl⟩, _⟩
  exact ⟨decide (n < m), fun Q h => oneLt_int h⟩
theorem list_sort_big {a : Addr} {vs : List Value} {ns : List Int} {n : Nat} {P : PySem.Fin → Shared → Prop} (ho : s.heap.get? a = some (seqObj "list" vs.toArray n))
    (hI : IntsAre vs ns) (h2 : 2 ≤ vs.length) (hz : vs.length ≤ 2000)
    (h : ∀ (out : Array Value) (ns' : List Int), IntsAre out.toList ns' → ns'.length = ns.length → P (.done (.ret .none)) { s with heap := sortedHeap s.heap a vs out }) :
    wpAny (model prog w) A (Builtin.«list.sort» ⟨[.ref a], []⟩) P E s := by
  rw [list_sort_plain]
  have ha : a < s.heap.objs.size := Heap.lt_size ho
  refine wpAny_bind (listItems_at ho rfl ?_)
  refine wpAny_bind (listUpdate_at ho rfl ?_)
  obtain ⟨e1, ho1⟩ : ∃ e1, (s.heap.update a (Obj.mapSeq fun _ => #[])).get? a = some (seqObj "list" #[] e1) := ⟨_, get?_update_seq ho (fun _ => #[])⟩
  refine wpAny_bind (seqEpoch_at ho1 rfl ?_)
  refine wpAny_bind (wpAny_newTuple ?_)
  refine wpAny_bind (wpAny_newList ?_)
  refine wpAny_holding ?_
  have ho6 : (((s.heap.update a (Obj.mapSeq fun _ => #[])).push (seqObj "tuple" vs.toArray 0)).push (seqObj "list" #[] 0)).get? a = some (seqObj "list" #[] e1) :=
    Heap.get?_push_of_some _ (Heap.get?_push_of_some _ ho1)
  show wpAny (model prog w) A _ P E { s with heap := ((s.heap.update a (Obj.mapSeq fun _ => #[])).push (seqObj "tuple" vs.toArray 0)).push (seqObj "list" #[] 0) }
  dsimp only
  have hsz : ¬ vs.toArray.size < 2 := by simp; omega
  rw [if_neg hsz, if_neg hsz]
  obtain ⟨v₁, v₂, rest, rfl⟩ : ∃ v₁ v₂ rest, vs = v₁ :: v₂ :: rest := by
    match vs, h2 with
    | v₁ :: v₂ :: rest, _ => exact ⟨v₁, v₂, rest, rfl⟩
  rw [keyKind_ints hI]
  refine wpAny_bind (wpAny_pure ?_)
  refine wpAny_bind (wpAny_mono (wpS_sortAll (N := (v₁ :: v₂ :: rest).length) (st := SortSt.mk' oneType' ((v₁ :: v₂ :: rest).toArray.zip (v₁ :: v₂ :: rest).toArray) #[] 7 none)
    (Q := fun _ st' => ∃ pd, Safe oneType' (fun p => (∃ n t, p.1 = .int n t) ∧ ∃ n t, p.2 = .int n t) (v₁ :: v₂ :: rest).length pd st') ltOk_int
    ⟨rfl, rfl, pairsOf_size _, fun p hp => ?_, rfl⟩ fun pd st' z => ⟨pd, z⟩) ?_ fun _ _ e => e)
  · have hp2 : p ∈ pairsOf (v₁ :: v₂ :: rest) := hp
    have hp' : p ∈ (pairsOf (v₁ :: v₂ :: rest)).toList := Array.mem_toList_iff.mpr hp2
    rw [pairsOf_toList] at hp'
    have := mem_zip_self hp'
    exact ⟨hI.all _ this.2, this.1 ▸ hI.all _ this.2⟩
  · rintro ⟨⟨⟩, st'⟩ s' ⟨rfl, pd, S⟩
    dsimp only
    refine wpAny_bind (seqEpoch_at ho6 rfl ?_)
    refine wpAny_bind (listUpdate_at ho6 rfl ?_ (hsz2 := by refine Nat.le_trans (Nat.le_of_eq ((Array.size_map ..).trans S.size)) ?_; rw [sizeLine_eq]; omega))
    rw [S.failed]
    simp only [bne_self_eq_false, Bool.false_eq_true, if_false]
    have hall := intsAre_map ((arrOf st').map (·.2)).toList (by
      intro v hv
      simp only [Array.toList_map, List.mem_map] at hv
      obtain ⟨p, hp, rfl⟩ := hv
      exact (S.all p (by simpa using hp)).2)
    refine wpAny_pure (h _ _ hall ?_)
    rw [List.length_map, Array.length_toList, Array.size_map, S.size, hI.length]
theorem list_sort_any {a : Addr} {vs : List Value} {ns : List Int} {n : Nat} {P : PySem.Fin → Shared → Prop} (ho : s.heap.get? a = some (seqObj "list" vs.toArray n))
    (hI : IntsAre vs ns) (hz : vs.length ≤ 2000)
    (h : ∀ (out : Array Value) (ns' : List Int), IntsAre out.toList ns' → ns'.length = ns.length → (ns.length < 64 → ns'.Perm ns ∧ ns'.Pairwise (· ≤ ·)) → P (.done (.ret .none)) { s with heap := sortedHeap s.heap a vs out }) :
    wpAny (model prog w) A (Builtin.«list.sort» ⟨[.ref a], []⟩) P E s := by
  have hl := hI.length
  by_cases h64 : vs.length < 64
  · exact list_sort_tree ho hI h64 fun out ns' x1 x2 x3 => h out ns' x1 x2.length_eq fun _ => ⟨x2, x3⟩
  · exact list_sort_big ho hI (by omega) hz fun out ns' x1 x2 => h out ns' x1 x2 fun z => absurd z (by omega)
end
end L2

set_option Elab.async false
set_option linter.all false
set_option maxRecDepth 100000
set_option maxHeartbeats 3200000
namespace L2
open PySem PySem.Spec PyProof.Rows
theorem bt_setS : bootBuiltins "set" = some (.type "set") := by decide +kernel
theorem boot_sortedS : bootBuiltins "sorted" = some (.builtin "sorted") := by decide +kernel
def SetO (P : Program) (w : World) (p : Addr) (ks : List Int) : HO := .ext fun h => SetG P w h p ks
theorem seto_ok {P : Program} {w : World} {H : Hp} {h : Heap} {p : Addr} {ks : List Int} (hG : SetG P w h p ks) : ObjOk P w H h p (SetO P w p ks) :=
  ⟨hG, let ⟨o, _, _, _, e, _⟩ := hG; ⟨o, e⟩, fun h1 h2 g k => g.moved fun o e => k o e⟩
theorem putNum_mem {ks : List Int} {k x : Int} : x ∈ putNum ks k ↔ x ∈ ks ∨ x = k := by
  unfold putNum
  split
  · rename_i h
    exact ⟨.inl, fun z => z.elim id fun e => e ▸ h⟩
  · simp
theorem numsTo_mem (val : Nat → Int) {x : Int} : ∀ i, x ∈ numsTo val i ↔ ∃ j, j < i ∧ val j = x
  | 0 => by simp [numsTo]
  | i + 1 => by
    rw [numsTo_succ, putNum_mem, numsTo_mem val i]
    constructor
    · rintro (⟨j, h1, h2⟩ | h)
      · exact ⟨j, by omega, h2⟩
      · exact ⟨i, by omega, h.symm⟩
    · rintro ⟨j, h1, h2⟩
      by_cases e : j = i
      · exact .inr (by rw [← h2, e])
      · exact .inl ⟨j, by omega, h2⟩
section
variable {X : Cx} {K : PySem.W.Frag}
theorem Inv.drawnTo {pins : List (Addr × Obj)} {σ : St} {H : Hp} {s : Shared} {d' : Drawn} (I : Inv X pins σ H s) : Inv X pins σ H { s with drawn := d' } :=
  ⟨I.ok, I.os, I.bare, I.base, I.loc, I.cell, I.free, I.freeC, I.pin, I.hok, I.len⟩
def rSetOf (X : Cx) (K : PySem.W.Frag) : List V → Hp → VK → Prop := fun xs H Q => ∃ (l : Addr) (ns : List Int), xs = [.ref l] ∧ SqL K H l (ns.map V.int) ∧ ns.length ≤ 1000 ∧ ∀ p ks, H p = none → ks.Nodup → (∀ k, k ∈ ks ↔ k ∈ ns) → Q (.ref p) (upd H p (SetO X.prog X.w p ks))
theorem call_setOf (h : X.K = K) (hr : Room 0 X.A) : CallR X (.type "set") (rSetOf X K) := by
  subst h
  intro pins s σ H vs us Q I rv h
  obtain ⟨l, ns, rfl, hl, hz, q⟩ := h
  obtain ⟨u, rfl, ru⟩ := rv.one
  cases ru
  obtain ⟨its, r, pl, _⟩ := I.list hl
  have hI := intsOfV r
  have hlen : its.length = ns.length := by rw [← r.length, List.length_map]
  refine set_of_list hr.hd pl.isList (by simpa using hI) (by rw [List.size_toArray, hlen]; show ns.length + 1 < 4096; omega) fun h' tk hG hk => ?_
  have kept : ∀ b o, s.heap.get? b = some o → h'.get? b = some o := fun b o e => hk b o (Heap.lt_size e) e
  refine ⟨.ref s.heap.objs.size, _, I.laid (o := SetO X.prog X.w s.heap.objs.size _) kept (Nat.le_refl _) (seto_ok hG), rfl, q _ _ I.fresh ?_ fun k => ?_⟩
  · obtain ⟨_, _, _, _, _, _, _, H⟩ := hG
    exact H.nd
  · rw [numsTo_mem, List.size_toArray, hlen]
    constructor
    · rintro ⟨j, h1, h2⟩
      rw [← h2, List.getD_eq_getElem?_getD, List.getElem?_eq_getElem h1]
      exact List.getElem_mem h1
    · intro hk
      obtain ⟨j, h1, h2⟩ := List.getElem_of_mem hk
      exact ⟨j, h1, by rw [List.getD_eq_getElem?_getD, List.getElem?_eq_getElem h1]; exact h2⟩
def rSortSet (X : Cx) : List V → Hp → VK → Prop := fun xs H Q => ∃ (a : Addr) (ks : List Int), xs = [.ref a] ∧ H a = some (SetO X.prog X.w a ks) ∧ ks.length ≤ 1000 ∧ ∀ (p : Addr) (ms : List Int), H p = none → ms.length = ks.length → (ks.length < 64 → ms.Perm ks ∧ ms.Pairwise (· ≤ ·)) → Q (.ref p) (upd H p (.lst (ms.map V.int)))
theorem sorted_get {h : Heap} {a : Addr} {vs : List Value} {out : Array Value} {n : Nat} (e : h.get? a = some (seqObj "list" vs.toArray n)) : (∃ c, (sortedHeap h a vs out).get? a = some (seqObj "list" out c)) ∧ ∀ b o, b ≠ a → h.get? b = some o → (sortedHeap h a vs out).get? b = some o := by
  unfold sortedHeap
  obtain ⟨e1, h1⟩ : ∃ e1, (h.update a (Obj.mapSeq fun _ => (#[] : Array Value))).get? a = some (seqObj "list" #[] e1) := ⟨_, get?_update_seq e fun _ => #[]⟩
  refine ⟨⟨_, get?_update_seq (Heap.get?_push_of_some _ (Heap.get?_push_of_some _ h1)) fun _ => out⟩, fun b o hb q => ?_⟩
  rw [Heap.get?_update_ne _ _ _ _ hb]
  refine Heap.get?_push_of_some _ (Heap.get?_push_of_some _ ?_)
  rw [Heap.get?_update_ne _ _ _ _ hb]
  exact q
theorem call_sortSet (hr : Room 0 X.A) : CallR X (.builtin "sorted") (rSortSet X) := by
  intro pins s σ H vs us Q I rv h
  obtain ⟨a, ks, rfl, ha, hz, q⟩ := h
  obtain ⟨u, rfl, ru⟩ := rv.one
  cases ru
  have hG : SetG X.prog X.w s.heap a ks := (show ObjOk X.prog X.w H s.heap a (SetO X.prog X.w a ks) from I.hok a _ ha).1
  refine call_function_entry_kw kind_sorted plain_sorted entry_sorted (args_sorted1 (.ref a)) ?_
  unfold Builtin.«sorted»
  refine wpAny_bind (m := checkCount "sorted" 1 1 _) (wpAny_pure (wpAny_bind (collect_set (A := X.A.in1) hr.hd hG (by omega) fun vs ns h1 d1 tk hI hp k1 _ => wpAny_bind (wpAny_newList ?_ ?_))))
  · have I1 : Inv X pins σ H { s with heap := h1, drawn := d1, toks := tk } := (I.kept (t' := tk) k1).drawnTo
    have ea : (h1.push { cls := .type "list", data := .seq vs.toArray }).get? h1.objs.size = some (seqObj "list" vs.toArray 0) := Heap.get?_push_size _ rfl
    refine wpAny_bind (wpAny_holding (wpAny_call_entry_kw slot_list_sort ⟨_, ea, rfl⟩ entry_list_sort ?_ (args_list_sort _)))
    show wpAny (model X.prog X.w) X.A.in1.in1 (Builtin.«list.sort» ⟨[.ref h1.objs.size], []⟩) _ _ _
    have hvl : vs.length ≤ 1000 := by rw [hI.length, hp.length_eq]; exact hz
    refine list_sort_any (s := { s with heap := h1.push { cls := .type "list", data := .seq vs.toArray }, drawn := d1, toks := tk }) (vs := vs) (n := 0) ea hI (Nat.le_trans hvl (by decide)) fun out ns' hI' hp' hs' => ?_
    obtain ⟨⟨c, g1⟩, g2⟩ := sorted_get (out := out) ea
    have hol : out.toList.length ≤ sizeLine := by rw [hI'.length, hp', ← hI.length]; exact Nat.le_of_lt (small1000 (by omega))
    have I5 : Inv X pins σ (upd H h1.objs.size (.lst (ns'.map V.int))) { s with heap := sortedHeap (h1.push { cls := .type "list", data := .seq vs.toArray }) h1.objs.size vs out, drawn := d1, toks := tk } := by
      refine I1.laid (t' := tk) (fun b o e => ?_) (Nat.le_refl _) ⟨by rw [List.length_map, ← hI'.length]; exact hol, out.toList, c, vals_ints hI', by simpa using g1⟩
      exact g2 b o (Nat.ne_of_lt (Heap.lt_size e)) (Heap.get?_push_of_some _ e)
    exact ⟨_, rfl, wpAny_pure ⟨_, rfl, .ref h1.objs.size, _, I5, rfl, q _ ns' I1.fresh (hp'.trans hp.length_eq) fun z => ⟨(hs' (by rw [hp.length_eq]; exact z)).1.trans hp, (hs' (by rw [hp.length_eq]; exact z)).2⟩⟩⟩
  · rw [hI.length, hp.length_eq]
    exact Nat.le_of_lt (small1000 (by omega))
end
end L2

set_option Elab.async false
set_option linter.all false
set_option maxRecDepth 100000
set_option maxHeartbeats 4000000
namespace My
open PySem PySem.Spec PyProof.Rows L2
structure Fam (F : List Nat) : Prop where
  nd : F.Nodup
  meet : ∀ x ∈ F, ∀ y ∈ F, x &&& y ∈ F
  top : ∃ t ∈ F, ∀ x ∈ F, Ev.Sub x t
theorem Fam.lat {F : List Nat} (h : Fam F) (hl : F.length ≤ 24) : Ev.Lat F := ⟨h.nd, hl, h.meet, h.top⟩
theorem and_shift (x y m : Nat) : (x &&& m) &&& (y &&& m) = (x &&& y) &&& m := by
  apply Nat.eq_of_testBit_eq
  intro i
  simp only [Nat.testBit_and]
  cases x.testBit i <;> cases y.testBit i <;> cases m.testBit i <;> rfl
theorem and_shift1 (x y m : Nat) : (x &&& m) &&& y = (x &&& y) &&& m := by
  apply Nat.eq_of_testBit_eq
  intro i
  simp only [Nat.testBit_and]
  cases x.testBit i <;> cases y.testBit i <;> cases m.testBit i <;> rfl
theorem Fam.more {F G : List Nat} (h : Fam F) (m : Nat) (nd : G.Nodup) (hG : ∀ z, z ∈ G ↔ z ∈ F ∨ ∃ x ∈ F, z = x &&& m) : Fam G := by
  obtain ⟨t, ht, htop⟩ := h.top
  refine ⟨nd, fun x hx y hy => ?_, t, (hG t).mpr (.inl ht), fun x hx => ?_⟩
  · rw [hG] at hx hy ⊢
    rcases hx with hx | ⟨a, ha, rfl⟩ <;> rcases hy with hy | ⟨b, hb, rfl⟩
    · exact .inl (h.meet x hx y hy)
    · exact .inr ⟨x &&& b, h.meet x hx b hb, by rw [Nat.and_assoc]⟩
    · exact .inr ⟨a &&& y, h.meet a ha y hy, and_shift1 a y m⟩
    · exact .inr ⟨a &&& b, h.meet a ha b hb, and_shift a b m⟩
  · rw [hG] at hx
    rcases hx with hx | ⟨a, ha, rfl⟩
    · exact htop x hx
    · exact (Ev.Sub.and_left a m).trans (htop a ha)
theorem nat_list {ms : List Int} (h : ∀ k ∈ ms, 0 ≤ k) : ∃ G : List Nat, ms = G.map fun x : Nat => (x : Int) := by
  refine ⟨ms.map Int.toNat, ?_⟩
  rw [List.map_map]
  have : ms = ms.map id := (List.map_id ms).symm
  conv => lhs; rw [this]
  exact List.map_congr_left fun k hk => (Int.toNat_of_nonneg (h k hk)).symm
theorem nodup_lenI : ∀ {l1 l2 : List Int}, l1.Nodup → (∀ x ∈ l1, x ∈ l2) → l1.length ≤ l2.length
  | [], _, _, _ => Nat.zero_le _
  | x :: r, l2, nd, h => by
    have nd' := List.nodup_cons.mp nd
    have h1 := h x List.mem_cons_self
    have h2 := nodup_lenI (l1 := r) (l2 := l2.erase x) nd'.2 (fun y hy => (List.mem_erase_of_ne (fun (e : y = x) => nd'.1 (e ▸ hy))).mpr (h y (List.mem_cons_of_mem _ hy)))
    rw [List.length_erase_of_mem h1] at h2
    have h3 := List.length_pos_of_mem h1
    rw [List.length_cons]
    omega
def cutM (G : List Nat) (m : Nat) : List Int := (G ++ G.map fun x => x &&& m).map fun x : Nat => (x : Int)
theorem cutM_len (G : List Nat) (m : Nat) : (cutM G m).length = 2 * G.length := by simp [cutM]; omega
theorem cutM_vals (G : List Nat) (m : Nat) : G.map nV ++ (List.range (G.map nV).length).map (fun j => nV (G.getD j 0 &&& m)) = (cutM G m).map V.int := by
  unfold cutM
  rw [List.map_map, List.map_append]
  congr 1
  rw [List.map_map, List.length_map]
  apply List.ext_getElem
  · simp
  · intro i h1 h2
    simp only [List.length_map, List.length_range] at h1
    simp [List.getD_eq_getElem?_getD, List.getElem?_eq_getElem h1]
theorem Fam.grown {G : List Nat} (h : Fam G) {m : Nat} {ks ms : List Int} (nd : ks.Nodup) (hk : ∀ k, k ∈ ks ↔ k ∈ cutM G m) (hp : ms.Perm ks) :
    ∃ G' : List Nat, ms.map V.int = G'.map nV ∧ Fam G' ∧ G'.length = ms.length ∧ ∀ x ∈ G', x ∈ G ∨ ∃ y ∈ G, x = y &&& m := by
  have hm : ∀ k, k ∈ ms ↔ k ∈ cutM G m := fun k => hp.mem_iff.trans (hk k)
  obtain ⟨G', rfl⟩ := nat_list (ms := ms) fun k hk' => by
    obtain ⟨x, _, rfl⟩ := List.mem_map.mp ((hm k).mp hk')
    omega
  have nd' : G'.Nodup := by
    have := hp.nodup_iff.mpr nd
    exact List.Pairwise.imp (fun hne e => hne (by rw [e])) (List.pairwise_map.mp this)
  have hG : ∀ z, z ∈ G' ↔ z ∈ G ∨ ∃ x ∈ G, z = x &&& m := fun z => by
    have := hm (z : Int)
    unfold cutM at this
    have inj : ∀ l : List Nat, (z : Int) ∈ l.map (fun x : Nat => (x : Int)) ↔ z ∈ l := fun l => by
      rw [List.mem_map]
      exact ⟨fun ⟨x, h1, h2⟩ => by rw [← Int.natCast_inj.mp h2]; exact h1, fun h => ⟨z, h, rfl⟩⟩
    rw [inj, inj, List.mem_append, List.mem_map] at this
    rw [this]
    exact or_congr Iff.rfl ⟨fun ⟨x, h1, h2⟩ => ⟨x, h1, h2.symm⟩, fun ⟨x, h1, h2⟩ => ⟨x, h1, h2.symm⟩⟩
  exact ⟨G', by rw [List.map_map]; rfl, h.more m nd' hG, by simp, fun x hx => (hG x).mp hx⟩
theorem Same.none {H H' : Hp} {a : Addr} (s : Same H H') (h : H' a = .none) : H a = .none := by
  cases e : H a with
  | none => rfl
  | some o => rw [s a o e] at h; cases h
theorem nV_get3 {M : List Nat} {a : Nat} (h : a < M.length) : (M.map nV)[a]? = some (nV (M.getD a 0)) := by
  rw [List.getElem?_map, List.getElem?_eq_getElem h, List.getD_eq_getElem?_getD, List.getElem?_eq_getElem h]; rfl
section
variable {P : Program} {w : World} {K : PySem.W.Frag} {mg : Str → Option Value} {base : Heap} {f : Addr} {fd : FuncData}
abbrev s_law_masks : Stmt := top 43
theorem sc_law_masks : FnScope ["_law_numbers", "_law_wide", "_law_most", "_law_found", "_law_number", "_law_mask", "_law_grown"] ["_law_numbers", "_law_wide", "_law_most"] (defScope s_law_masks) := ⟨rfl, rfl, rfl, by decide +kernel, rfl, by decide +kernel, by decide +kernel⟩
def sp_masks3 (K : PySem.W.Frag) : Sp := fun vs H Q _ => ∃ (l wd most : Nat) (ns : List Int), vs = [.ref l, .int wd, .int most] ∧ SqL K H l (ns.map V.int) ∧ (∀ x ∈ ns, 0 ≤ x) ∧ wd ≤ 8 ∧ 1 ≤ most ∧ most ≤ 24 ∧
  ∀ L F H', Same H H' → H L = none → H' L = some (.lst (F.map nV)) → Fam F → F.length ≤ most → (∀ x ∈ F, x < 2 ^ wd) → Q (.ref L) H'
theorem ok_masks3 (F : Fun K "_law_masks" "_law_masks" s_law_masks f fd) (T : Txt mg) (g_set : mg "set" = none) : FnOk P w K mg base CX0 1 f fd ["_law_numbers", "_law_wide", "_law_most"] (sp_masks3 K) := by
  refine F.ok sc_law_masks (fun vs H Q E h => ?_) (fun cdv A outer s H vs Q E hr h => ?_)
  · obtain ⟨l, wd, most, ns, rfl, _⟩ := h
    rfl
  · obtain ⟨l, wd, most, ns, rfl, hl, hns, hwd, hm1, hm2, kk⟩ := h
    have nd := sc_law_masks.nd
    have hr0 := hr.mono (Nat.zero_le 0)
    refine ⟨_, (pss_cons (ps_set (i := 3) nd rfl (Or.inl rfl) (pe_lst (pa_cons (pe_op op_sub (pe_op op_shl pe_int (pv 1)) pe_int) pa_nil)))
      (pss_cons (ps_for PassesOwn.never rfl (pi_listK (K := K) rfl (pv 0)) (pg_name (i := 4) nd rfl (Or.inl rfl))
      (pss_cons (ps_set (i := 5) nd rfl (Or.inr rfl) (pe_op op_mod (pv 4) (pe_op op_shl pe_int (pv 1))))
      (pss_cons (ps_set (i := 6) nd rfl (Or.inl rfl) (pe_callB (call_sortSet hr0) rfl T.sorted boot_sortedS (pa_cons (pe_callTy (call_setOf (K := K) rfl hr0) rfl g_set bt_setS (pa_cons (pe_op op_cat (pv 3) (pe_comp (own := ["_law_one"]) (fr := [("_law_mask", 5)]) rfl (blkOk (defScope s_law_masks) ["_law_numbers", "_law_wide", "_law_most", "_law_found", "_law_number", "_law_mask", "_law_grown"] rfl rfl (by decide +kernel)) (pi_listK (K := K) rfl (pv 3)) (fun _ _ _ _ => ⟨(pg_name (i := 0) (by decide +kernel : (["_law_one", "_law_mask"] : List Str).Nodup) rfl (Or.inl rfl)), pif_nil, (pe_op op_and (pv 0) (pv 1))⟩))) pa_nil)) pa_nil)))
      (pss_one (ps_if (pt_cmpR op_le (pe_callB (call_lenK (K := K) rfl) rfl T.len PySem.boot_len (pa_cons (pv 6) pa_nil)) (pv 2) (nomark _)) (pss_one (ps_set (i := 3) nd rfl (Or.inl rfl) (pv 6))) pss_nil)))))
      (pss_one (ps_ret (pv 3))))), ?_⟩
    have ew : ((1 : Int) * 2 ^ ((wd : Int)).toNat) = ((2 ^ wd : Nat) : Int) := by rw [Int.toNat_natCast, Int.one_mul]; norm_cast
    have hp0 : 0 < 2 ^ wd := Nat.two_pow_pos wd
    have cp : CPow 1 (wd : Int) := ⟨by omega, by omega, by decide⟩
    refine ⟨_, rfl, _, _, rfl, rfl, cp, _, _, rfl, rfl, by show 1 ≤ sizeLine; decide, fun L hL => ?_⟩
    have e1 : ((1 : Int) * 2 ^ ((wd : Int)).toNat) - 1 = ((2 ^ wd - 1 : Nat) : Int) := by rw [ew]; omega
    have eL : HO.lst [V.int ((1 : Int) * 2 ^ ((wd : Int)).toNat - 1)] = .lst ([2 ^ wd - 1].map nV) := by rw [e1]; rfl
    refine ⟨_, rfl, l, rfl, ⟨_, (Same.put hL).seq hl⟩, for_list (K := K) (a := l) (xs := ns.map V.int) (fun i σ H2 => ∃ (v4 v5 v6 : Option V) (L2 : Addr) (G : List Nat), σ = [some (.ref l), some (.int wd), some (.int most), some (.ref L2), v4, v5, v6] ∧ Same H H2 ∧ H L2 = none ∧ H2 L2 = some (.lst (G.map nV)) ∧ Fam G ∧ G.length ≤ most ∧ ∀ x ∈ G, x < 2 ^ wd)
      ⟨none, none, none, L, [2 ^ wd - 1], rfl, Same.put hL, hL, upd_same.trans (congrArg some eL), ⟨by simp, by simp, _, List.mem_singleton.mpr rfl, by simp [Ev.Sub]⟩, hm1, by simp; omega⟩ (fun i σ H2 _ ⟨_, _, _, _, _, _, s2, _⟩ => s2.seq hl) ?_ ?_⟩
    · rintro i x σ H2 hx ⟨v4, v5, v6, L2, G, rfl, s2, hn2, hL2, hG, hGm, hGb⟩
      obtain ⟨z, hz, rfl⟩ := List.mem_map.mp (List.mem_of_getElem? hx)
      have hz0 := hns z hz
      obtain ⟨m, hm⟩ : ∃ m : Nat, z % ((1 : Int) * 2 ^ ((wd : Int)).toNat) = (m : Int) := ⟨(z % ((1 : Int) * 2 ^ ((wd : Int)).toNat)).toNat, (Int.toNat_of_nonneg (Int.emod_nonneg _ (by rw [ew]; omega))).symm⟩
      refine ⟨_, rfl, _, rfl, _, _, rfl, rfl, cp, _, _, rfl, rfl, by rw [ew]; omega, ?_⟩
      dsimp only
      rw [hm]
      refine ⟨_, rfl, _, rfl, L2, rfl, ⟨_, SqL.of hL2⟩, fun D hD => comp_all (fun j => nV (G.getD j 0 &&& m)) (src_list (SqL.of hL2)) hD (sl24 (by rw [List.length_map]; omega)) (fun j H3 Kt hj hs kt => ?_) (fun H3 hs3 hl3 => ?_)⟩
      · rw [List.length_map] at hj
        refine ⟨_, rfl, _, rfl, _, _, by rw [List.getD_eq_getElem?_getD, nV_get3 hj]; rfl, rfl, ?_⟩
        dsimp only
        rw [andN]
        exact kt _ (Same.refl _)
      · have hLD : D ≠ L2 := fun e => by rw [e, hL2] at hD; cases hD
        refine ⟨L2, D, _, _, rfl, rfl, hs3 _ _ hL2, hl3, Nat.le_of_lt (small1000 (by simp; omega)), fun p hp => ?_⟩
        rw [cutM_vals]
        have s4 := Same.put (o := .lst ((cutM G m).map V.int)) hp
        refine ⟨p, cutM G m, rfl, SqL.of upd_same, by rw [cutM_len]; omega, fun q ks hq hnd hks => ?_⟩
        have hkl : ks.length ≤ 2 * G.length := by
          rw [← cutM_len G m]
          exact nodup_lenI hnd fun k hk => (hks k).mp hk
        refine ⟨q, ks, rfl, upd_same, by omega, fun r ms hr _ hms => ?_⟩
        obtain ⟨hmp, _⟩ := hms (by omega)
        obtain ⟨G', eG, hG', hGl, hGx⟩ := hG.grown hnd hks hmp
        rw [eG]
        have s5 := Same.put (o := SetO P w q ks) hq
        have s6 := Same.put (o := .lst (G'.map nV)) hr
        have sA := ((s2.trans hs3).trans s4).trans (s5.trans s6)
        have hr0 : H r = none := Same.none (((s2.trans hs3).trans s4).trans s5) hr
        refine ⟨_, rfl, r, _, rfl, .inl (SqL.of upd_same), _, rfl, _, _, rfl, rfl, _, rfl, ite2 (fun h => ?_) (fun h => ?_)⟩
        · refine ⟨_, rfl, _, _, _, r, G', rfl, sA, hr0, upd_same, hG', ?_, fun x hx => ?_⟩
          · have := of_decide_eq_true h
            rw [List.length_map] at this
            omega
          · rcases hGx x hx with h1 | ⟨y, hy, rfl⟩
            · exact hGb x h1
            · exact Nat.lt_of_le_of_lt Nat.and_le_left (hGb y hy)
        · exact ⟨_, _, _, L2, G, rfl, sA, hn2, (hs3.trans (s4.trans (s5.trans s6))) _ _ hL2, hG, hGm, hGb⟩
    · rintro σ H2 ⟨v4, v5, v6, L2, G, rfl, s2, hn2, hL2, hG, hGm, hGb⟩
      exact ⟨_, rfl, kk L2 G H2 s2 hn2 hL2 hG hGm hGb⟩
end
end My

set_option Elab.async false
set_option linter.all false
set_option maxRecDepth 100000
namespace L2
open PySem PySem.Spec PyProof.Rows
end L2

set_option Elab.async false
set_option linter.all false
set_option maxRecDepth 100000
namespace L2
open PySem PySem.Spec PyProof.Rows
section
variable {prog : Program} {w : World} {A : Around} {E : Value → Shared → Prop} {s : Shared} {l : Addr} {xs : Array (Int × Tok)}
end
theorem pg_tupK {X : Cx} {K : PySem.W.Frag} {es : List Expr} {k : Nat} {t : TGs} {n : Nat} {pos : Pos} (hK : X.K = K) (hc : X.calm = true) (h : PGs X es t)
    (hn : (assignEach es X.env).length = n := by rfl) (hst : (assignEach es X.env).findIdx? (·.1) = none := by rfl) : PG X (.Tuple es k pos) (gTup K n t) := hK ▸ pg_tup hc h hn hst
def rInsert : V → List V → Hp → VK → Prop := fun x vs H Q => ∃ (l : Addr) (xs : List V) (i : Nat) (y : V), x = .ref l ∧ vs = [.int (i : Int), y] ∧ H l = some (.lst xs) ∧ i ≤ xs.length ∧ xs.length < sizeLine ∧ Q .non (upd H l (.lst (xs.take i ++ y :: xs.drop i)))
theorem Vals.takeI {xs : List V} {us : List Value} (h : Vals xs us) : ∀ k : Nat, Vals (xs.take k) (us.take k) := by
  induction h with
  | nil => intro k; simp; exact .nil
  | cons r _ ih =>
    intro k
    cases k with
    | zero => exact .nil
    | succ k => exact .cons r (ih k)
theorem Vals.dropI {xs : List V} {us : List Value} (h : Vals xs us) : ∀ k : Nat, Vals (xs.drop k) (us.drop k) := by
  induction h with
  | nil => intro k; simp; exact .nil
  | cons r t ih =>
    intro k
    cases k with
    | zero => exact .cons r t
    | succ k => exact ih k
theorem Vals.appI {xs ys : List V} {us ws : List Value} (h : Vals xs us) (h' : Vals ys ws) : Vals (xs ++ ys) (us ++ ws) := by
  induction h with
  | nil => exact h'
  | cons r _ ih => exact .cons r ih
theorem mt_insert {X : Cx} : MtM X "list.insert" rInsert := by
  intro pins s σ H x vs v us Q I rx rv h
  obtain ⟨l, xs, i, y, rfl, rfl, hH, hi, hz, q⟩ := h
  cases rx
  obtain ⟨u, u2, rfl, ru, ru2⟩ : ∃ u u2, us = [u, u2] ∧ RelV (.int (i : Int)) u ∧ RelV y u2 := by
    cases rv with
    | cons p q =>
      cases q with
      | cons p' q' =>
        cases q'
        exact ⟨_, _, rfl, p, p'⟩
  obtain ⟨t, rfl⟩ := ru
  obtain ⟨z, its, n, r, hl, e⟩ := I.lstM hH
  have hn := line63
  have hf : ¬ (!Builtin.List.listFitsIndex (i : Int)) = true := by
    rw [fitsIndex_both (by omega) (by omega)]; decide
  have hs1 : its.toArray.size ≤ sizeLine := by rw [List.size_toArray]; omega
  generalize hk : (i : Int) = k at hf ⊢
  refine call_meets F.slot_list_insert ⟨_, e, rfl⟩ F.entry_list_insert (F.args_list_insert_3 _ _ _)
    (AutoSeq1.list_insert_list_int_val_1 l its.toArray n k t u2 hf hs1) ⟨e, ?_⟩
  subst hk
  refine ⟨.non, _, I.lset (its' := its.take i ++ u2 :: its.drop i) hH e ?_ ((Vals.takeI r i).appI (.cons ru2 (Vals.dropI r i))) ?_, rfl, q⟩
  · have hmin : (if (i : Int) < 0 then ((i : Int) + (its.toArray.size : Int)).toNat else min (i : Int).toNat its.toArray.size) = i := by
      rw [if_neg (by omega), List.size_toArray, Int.toNat_natCast]; omega
    show (its.toArray.extract 0 (if (i : Int) < 0 then ((i : Int) + (its.toArray.size : Int)).toNat else min (i : Int).toNat its.toArray.size)).push u2 ++ its.toArray.extract (if (i : Int) < 0 then ((i : Int) + (its.toArray.size : Int)).toNat else min (i : Int).toNat its.toArray.size) = _
    rw [hmin]
    apply Array.toList_inj.mp
    simp
    exact List.take_of_length_le (by rw [List.length_drop]; omega)
  · simp only [List.length_append, List.length_cons, List.length_take, List.length_drop]
    omega
end L2

set_option Elab.async false
set_option linter.all false
set_option maxRecDepth 100000
set_option maxHeartbeats 4000000
namespace My
open PySem PySem.Spec PyProof.Rows L2
def bitsTo (p : Nat → Bool) : Nat → Nat
  | 0 => 0
  | j + 1 => if p j = true then bitsTo p j ||| 2 ^ j else bitsTo p j
theorem bitsTo_bit (p : Nat → Bool) : ∀ j t, (bitsTo p j).testBit t = (decide (t < j) && p t)
  | 0, t => by simp [bitsTo]
  | j + 1, t => by
    unfold bitsTo
    by_cases h : p j = true
    · rw [if_pos h, Nat.testBit_or, bitsTo_bit p j t, Nat.testBit_two_pow]
      by_cases e : j = t
      · subst e; simp [h]
      · have : (t < j + 1) ↔ t < j := by omega
        simp [e, this]
    · rw [if_neg h, bitsTo_bit p j t]
      by_cases e : t = j
      · subst e
        have : p t = false := by simpa using h
        simp [this]
      · have : (t < j + 1) ↔ t < j := by omega
        simp [this]
theorem bitsTo_lt (p : Nat → Bool) (j : Nat) : bitsTo p j < 2 ^ j := by
  apply Nat.lt_pow_two_of_testBit
  intro i hi
  rw [bitsTo_bit]
  have : ¬ i < j := by omega
  simp [this]
structure Ups (n : Nat) (R : Nat → Nat → Bool) (us : List Nat) : Prop where
  len : us.length = n
  bit : ∀ a b, a < n → b < n → (us.getD a 0).testBit b = R a b
  lt : ∀ a, a < n → us.getD a 0 < 2 ^ n
theorem Ups.of (n : Nat) (R : Nat → Nat → Bool) : Ups n R ((List.range n).map fun a => bitsTo (R a) n) := by
  have g : ∀ a, a < n → ((List.range n).map fun a => bitsTo (R a) n).getD a 0 = bitsTo (R a) n := fun a ha => by
    rw [List.getD_eq_getElem?_getD, List.getElem?_map, List.getElem?_range ha]; rfl
  refine ⟨by simp, fun a b ha hb => ?_, fun a ha => ?_⟩
  · rw [g a ha, bitsTo_bit]; simp [hb]
  · rw [g a ha]; exact bitsTo_lt _ _
theorem bitT (x b : Nat) : decide (V.int (Builtin.bitAnd ((x : Int) / 2 ^ (0 + (b : Int)).toNat) 1) = V.int 1) = x.testBit b := by
  have e1 : ((x : Int) / 2 ^ (0 + (b : Int)).toNat) = ((x / 2 ^ b : Nat) : Int) := by
    rw [Int.zero_add, Int.toNat_natCast]; push_cast; rfl
  rw [e1, show (1 : Int) = ((1 : Nat) : Int) from rfl, andN, Nat.and_one_is_mod, Nat.testBit_eq_decide_div_mod_eq]
  congr 1
  apply propext
  constructor
  · intro h
    have : ((x / 2 ^ b % 2 : Nat) : Int) = ((1 : Nat) : Int) := by injection h
    omega
  · intro h
    rw [h]
theorem bitT' (x b : Nat) : decide (V.int (Builtin.bitAnd ((x : Int) / 2 ^ ((b : Int)).toNat) 1) = V.int 1) = x.testBit b := by
  rw [← bitT x b, Int.zero_add]
theorem getDI3 {ns : List Int} {i : Nat} (h : i < ns.length) : (ns.map V.int)[i]? = some (.int (ns.getD i 0)) := by
  rw [List.getElem?_map, List.getElem?_eq_getElem h, List.getD_eq_getElem?_getD, List.getElem?_eq_getElem h]; rfl
theorem emodN3 (x : Int) (k : Nat) (hk : 0 < k) : ∃ r : Nat, r < k ∧ x % (k : Int) = (r : Int) :=
  ⟨(x % (k : Int)).toNat, by have h1 := Int.emod_nonneg x (show (k : Int) ≠ 0 by omega); have h2 := Int.emod_lt_of_pos x (show (0 : Int) < k by omega); omega, by have h1 := Int.emod_nonneg x (show (k : Int) ≠ 0 by omega); omega⟩
theorem insPerm {α : Type} (xs : List α) (r : Nat) (y : α) : (xs.take r ++ y :: xs.drop r).Perm (y :: xs) := by
  have := List.perm_middle (a := y) (l₁ := xs.take r) (l₂ := xs.drop r)
  rw [List.take_append_drop] at this
  exact this
section
variable {P : Program} {w : World} {K : PySem.W.Frag} {mg : Str → Option Value} {base : Heap} {f : Addr} {fd : FuncData}
abbrev s_law_ups : Stmt := top 47
theorem sc_law_ups : FnScope ["_law_family_here", "_law_numbers", "_law_turn", "_law_k", "_law_found", "_law_one", "_law_bits"] ["_law_family_here", "_law_numbers"] (defScope s_law_ups) := ⟨rfl, rfl, rfl, by decide +kernel, rfl, by decide +kernel, by decide +kernel⟩
def sp_ups (K : PySem.W.Frag) : Sp := fun vs H Q _ => ∃ (u d : Nat) (F : List Nat) (ns : List Int), vs = [.ref u, .ref d] ∧ SqL K H u (F.map nV) ∧ SqL K H d (ns.map V.int) ∧ F.length ≤ ns.length ∧ F.length ≤ 24 ∧
  ∀ L us M H', Same H H' → H L = none → H' L = some (.lst (us.map nV)) → M.Perm F → Ups M.length (Ev.leM M) us → Q (.ref L) H'
theorem ok_ups (F : Fun K "_law_ups" "_law_ups" s_law_ups f fd) (T : Txt mg) : FnOk P w K mg base CX0 1 f fd ["_law_family_here", "_law_numbers"] (sp_ups K) := by
  refine F.ok sc_law_ups (fun vs H Q E h => ?_) (fun cdv A outer s H vs Q E hr h => ?_)
  · obtain ⟨u, d, F, ns, rfl, _⟩ := h
    rfl
  · obtain ⟨u, d, F, ns, rfl, hu, hd, hl, hn, kk⟩ := h
    have nd := sc_law_ups.nd
    refine ⟨_, (pss_cons (ps_set (i := 2) nd rfl (Or.inl rfl) (pe_lst pa_nil))
      (pss_cons (ps_for PassesOwn.never rfl (pi_range1 rfl T.range (pa_cons (pe_callB (call_lenK (K := K) rfl) rfl T.len PySem.boot_len (pa_cons (pv 0) pa_nil)) pa_nil)) (pg_name (i := 3) nd rfl (Or.inl rfl))
      (pss_one (ps_expr (pe_bmK (K := K) rfl PySem.F.plainAttrs_list PySem.F.slot_list_insert PySem.F.type_list_insert mt_insert (pv 2) (pa_cons (pe_op op_mod (pe_ix (ix_listK (K := K) rfl) (pv 1) (pv 3) (fun _ _ => rfl)) (pe_op op_add (pv 3) pe_int)) (pa_cons (pe_ix (ix_listK (K := K) rfl) (pv 0) (pv 3) (fun _ _ => rfl)) pa_nil))))))
      (pss_cons (ps_set (i := 4) nd rfl (Or.inl rfl) (pe_lst pa_nil))
      (pss_cons (ps_for PassesOwn.never rfl (pi_listK (K := K) rfl (pv 2)) (pg_name (i := 5) nd rfl (Or.inl rfl))
      (pss_cons (ps_set (i := 6) nd rfl (Or.inl rfl) pe_int)
      (pss_cons (ps_for PassesOwn.never rfl (pi_range1 rfl T.range (pa_cons (pe_callB (call_lenK (K := K) rfl) rfl T.len PySem.boot_len (pa_cons (pv 2) pa_nil)) pa_nil)) (pg_name (i := 3) nd rfl (Or.inl rfl))
      (pss_one (ps_if (pt_cmpR op_eq (pe_op op_and (pe_ix (ix_listK (K := K) rfl) (pv 2) (pv 3) (fun _ _ => rfl)) (pv 5)) (pv 5) (nomark _)) (pss_one (ps_set (i := 6) nd rfl (Or.inl rfl) (pe_op op_or (pv 6) (pe_op op_shl pe_int (pv 3))))) pss_nil)))
      (pss_one (ps_expr (pe_bmK (K := K) rfl PySem.F.plainAttrs_list PySem.F.slot_list_append PySem.F.type_list_append mt_append (pv 4) (pa_cons (pv 6) pa_nil)))))))
      (pss_one (ps_ret (pv 4))))))), ?_⟩
    have en : (((F.map nV).length : Int)).toNat = F.length := by rw [Int.toNat_natCast, List.length_map]
    refine ⟨by show 0 ≤ sizeLine; decide, fun L hL => ?_⟩
    refine ⟨_, rfl, u, _, rfl, .inl ((Same.put hL).seq hu), _, rfl, by rw [List.length_map]; exact (n62 (by omega)).1, by rw [List.length_map]; exact (n62 (by omega)).2, for_range (lo := 0) (n := (((F.map nV).length : Int)).toNat) (fun i σ H2 => ∃ (v3 : Option V) (G : List Nat), σ = [some (.ref u), some (.ref d), some (.ref L), v3, none, none, none] ∧ Same H H2 ∧ H2 L = some (.lst (G.map nV)) ∧ G.Perm (F.take i)) ⟨none, [], rfl, Same.put hL, upd_same, by simp⟩ ?_ ?_⟩
    · rintro i σ H2 hi ⟨v3, G, rfl, s2, hl2, hG⟩
      rw [en] at hi
      obtain ⟨r, hr, er⟩ := emodN3 (ns.getD i 0) (i + 1) (by omega)
      have er' : ns.getD i 0 % (0 + (i : Int) + 1) = (r : Int) := by rw [← er]; push_cast; rw [Int.zero_add]
      have hGl : G.length = i := by rw [hG.length_eq, List.length_take]; omega
      refine ⟨_, rfl, .inl ⟨rfl, _, SqL.of hl2⟩, _, rfl, _, rfl, d, _, _, _, rfl, rfl, s2.seq hd, at0 (getDI3 (i := i) (by omega)), _, rfl, _, _, rfl, rfl, _, _, rfl, rfl, by omega, _, rfl, _, rfl, u, _, _, _, rfl, rfl, s2.seq hu, at0 (nV_get3 hi), L, _, r, _, rfl, by dsimp only; rw [er'], hl2, by rw [List.length_map]; omega, small1000 (by rw [List.length_map]; omega), ?_⟩
      refine ⟨_, G.take r ++ F.getD i 0 :: G.drop r, rfl, fun b o e => ?_, by rw [upd_same, List.map_append, List.map_cons, List.map_take, List.map_drop], ?_⟩
      · rw [upd_ne (ne_of_none e hL)]
        exact s2 _ _ e
      · rw [List.take_succ_eq_append_getElem hi]
        refine (insPerm G r _).trans ?_
        rw [List.getD_eq_getElem?_getD, List.getElem?_eq_getElem hi]
        refine List.Perm.trans (List.Perm.cons _ hG) ?_
        exact (List.perm_append_singleton _ _).symm
    · rintro σ H2 ⟨v3, M, rfl, s2, hl2, hM⟩
      rw [en, List.take_length] at hM
      have hMl : M.length ≤ 24 := by rw [hM.length_eq]; exact hn
      have em : (((M.map nV).length : Int)).toNat = M.length := by rw [Int.toNat_natCast, List.length_map]
      refine ⟨by show 0 ≤ sizeLine; decide, fun L2 hL2 => ?_⟩
      refine ⟨_, rfl, L, rfl, ⟨_, (Same.put hL2).seq (SqL.of hl2)⟩, for_list (K := K) (a := L) (xs := M.map nV) (fun i σ H3 => ∃ (v3 v5 v6 : Option V), σ = [some (.ref u), some (.ref d), some (.ref L), v3, some (.ref L2), v5, v6] ∧ Same H2 H3 ∧ H3 L2 = some (.lst (((List.range i).map fun a => bitsTo (Ev.leM M a) M.length).map nV))) ⟨_, none, none, rfl, Same.put hL2, upd_same⟩ (fun i σ H3 _ ⟨_, _, _, _, s3, _⟩ => s3.seq (SqL.of hl2)) ?_ ?_⟩
      · rintro i x σ H3 hx ⟨v3, v5, v6, rfl, s3, hl3⟩
        have hi : i < M.length := by have := (List.getElem?_eq_some_iff.mp hx).1; rwa [List.length_map] at this
        have ex : x = nV (M.getD i 0) := by rw [nV_get3 hi] at hx; exact (Option.some.inj hx).symm
        subst ex
        have hL3 := s3.seq (SqL.of (K := K) hl2)
        refine ⟨_, rfl, L, _, rfl, .inl hL3, _, rfl, by rw [List.length_map]; exact (n62 (by omega)).1, by rw [List.length_map]; exact (n62 (by omega)).2, for_range (lo := 0) (n := (((M.map nV).length : Int)).toNat) (fun j σ H4 => H4 = H3 ∧ ∃ v3 : Option V, σ = [some (.ref u), some (.ref d), some (.ref L), v3, some (.ref L2), some (nV (M.getD i 0)), some (nV (bitsTo (Ev.leM M i) j))]) ⟨rfl, v3, rfl⟩ ?_ ?_⟩
        · rintro j σ H4 hj ⟨rfl, v3, rfl⟩
          rw [em] at hj
          refine ⟨_, rfl, _, rfl, L, _, _, _, rfl, rfl, hL3, at0 (nV_get3 hj), _, rfl, _, _, rfl, rfl, _, rfl, rfl, _, rfl, ?_⟩
          have ea : decide (V.int (Builtin.bitAnd ((M.getD j 0 : Nat) : Int) ((M.getD i 0 : Nat) : Int)) = nV (M.getD i 0)) = Ev.leM M i j := by
            rw [andN, Ev.leM, Nat.and_comm]
            congr 1
            apply propext
            exact ⟨fun h => Int.natCast_inj.mp (V.int.inj h), fun h => by rw [show M.getD i 0 &&& M.getD j 0 = M.getD i 0 from h]⟩
          refine ite2 (fun h => ?_) (fun h => ?_)
          · have hle : Ev.leM M i j = true := ea ▸ h
            have eo : Builtin.bitOr ((bitsTo (Ev.leM M i) j : Nat) : Int) (1 * 2 ^ ((0 : Int) + (j : Int)).toNat) = ((bitsTo (Ev.leM M i) (j + 1) : Nat) : Int) := by
              rw [show bitsTo (Ev.leM M i) (j + 1) = bitsTo (Ev.leM M i) j ||| 2 ^ j by show (if _ then _ else _) = _; rw [if_pos hle], Int.zero_add, Int.toNat_natCast, Int.one_mul, show (2 : Int) ^ j = ((2 ^ j : Nat) : Int) by norm_cast, orN]
            refine ⟨_, rfl, _, rfl, _, _, rfl, rfl, ⟨by omega, by omega, by decide⟩, _, _, rfl, rfl, rfl, some (.int (0 + (j : Int))), ?_⟩
            dsimp only
            rw [eo]
            rfl
          · have hle : ¬ Ev.leM M i j = true := fun z => by rw [ea, z] at h; exact h rfl
            refine ⟨rfl, some (.int (0 + (j : Int))), ?_⟩
            rw [show bitsTo (Ev.leM M i) (j + 1) = bitsTo (Ev.leM M i) j by show (if _ then _ else _) = _; rw [if_neg hle]]
            rfl
        · rintro σ H4 ⟨rfl, v3, rfl⟩
          rw [em]
          refine ⟨_, rfl, .inl ⟨rfl, _, SqL.of hl3⟩, _, rfl, L2, _, _, rfl, rfl, hl3, small1000 (by simp; omega), ?_⟩
          refine ⟨_, _, _, rfl, fun b o e => ?_, ?_⟩
          · rw [upd_ne (ne_of_none e hL2)]
            exact s3 _ _ e
          · rw [upd_same, List.range_succ, List.map_append, List.map_append]; rfl
      · rintro σ H3 ⟨v3, v5, v6, rfl, s3, hl3⟩
        rw [List.length_map] at hl3
        refine ⟨_, rfl, kk L2 _ M H3 (s2.trans s3) (Same.none s2 hL2) hl3 hM (Ups.of _ _)⟩
end
end My

set_option Elab.async false
set_option linter.all false
set_option maxRecDepth 100000
set_option maxHeartbeats 1000000
namespace My
open PySem PySem.Spec PyProof.Rows L2
theorem bitF' (x b : Nat) : decide (V.int (Builtin.bitAnd ((x : Int) / 2 ^ ((b : Int)).toNat) 1) = V.int 0) = !x.testBit b := by
  have e1 : ((x : Int) / 2 ^ ((b : Int)).toNat) = ((x / 2 ^ b : Nat) : Int) := by
    rw [Int.toNat_natCast]; push_cast; rfl
  rw [e1, show (1 : Int) = ((1 : Nat) : Int) from rfl, andN, Nat.and_one_is_mod, Nat.testBit_eq_decide_div_mod_eq]
  have h2 : x / 2 ^ b % 2 = 0 ∨ x / 2 ^ b % 2 = 1 := by omega
  rcases h2 with h2 | h2 <;> rw [h2] <;> rfl
theorem Ups.len' {n : Nat} {R : Nat → Nat → Bool} {us : List Nat} (h : Ups n R us) : (((us.map nV).length : Int)).toNat = n := by rw [Int.toNat_natCast, List.length_map, h.len]
theorem Ups.get {n : Nat} {R : Nat → Nat → Bool} {us : List Nat} (h : Ups n R us) {a : Nat} (ha : a < n) : (us.map nV)[a]? = some (nV (us.getD a 0)) := nV_get3 (by rw [h.len]; exact ha)
def stB (n : Nat) (R : Nat → Nat → Bool) (a b : Nat) : Bool := !decide (a = b) && R a b && (((List.range n).filter fun c => R a c && R c b).length == 2)
section
variable {P : Program} {w : World} {K : PySem.W.Frag} {mg : Str → Option Value} {base : Heap} {f : Addr} {fd : FuncData}
abbrev s_law_pairs : Stmt := top 49
theorem sc_law_pairs : FnScope ["_law_ups_here", "_law_found", "_law_a"] ["_law_ups_here"] (defScope s_law_pairs) := ⟨rfl, rfl, rfl, by decide +kernel, rfl, by decide +kernel, by decide +kernel⟩
def sp_pairs3 (K : PySem.W.Frag) : Sp := fun vs H Q _ => ∃ (u n : Nat) (R : Nat → Nat → Bool) (us : List Nat), vs = [.ref u] ∧ SqL K H u (us.map nV) ∧ Ups n R us ∧ n ≤ 24 ∧
  ∀ l ws H', Same H H' → H l = none → H' l = some (.lst ws) → ws.length ≤ 576 → Paired (pairV H') (pairsL n R) ws → Q (.ref l) H'
theorem ok_pairs3 (F : Fun K "_law_pairs" "_law_pairs" s_law_pairs f fd) (T : Txt mg) : FnOk P w K mg base CX0 1 f fd ["_law_ups_here"] (sp_pairs3 K) := by
  refine F.ok sc_law_pairs (fun vs H Q E h => ?_) (fun cdv A outer s H vs Q E hr h => ?_)
  · obtain ⟨u, n, R, us, rfl, _⟩ := h
    rfl
  · obtain ⟨u, n, R, us, rfl, hu, hU, hn, kk⟩ := h
    have nd := sc_law_pairs.nd
    have en := hU.len'
    have b1 : -(2 ^ 62) ≤ ((us.map nV).length : Int) ∧ ((us.map nV).length : Int) < 2 ^ 62 := by rw [List.length_map, hU.len]; exact n62 (by omega)
    refine ⟨_, (pss_cons (ps_set (i := 1) nd rfl (Or.inl rfl) (pe_lst pa_nil))
      (pss_cons (ps_for PassesOwn.never rfl (pi_range1 rfl T.range (pa_cons (pe_callB (call_lenK (K := K) rfl) rfl T.len PySem.boot_len (pa_cons (pv 0) pa_nil)) pa_nil)) (pg_name (i := 2) nd rfl (Or.inr rfl))
      (pss_one (ps_set (i := 1) nd rfl (Or.inl rfl) (pe_op op_cat (pv 1) (pe_comp (own := ["_law_b"]) (fr := [("_law_a", 2), ("_law_ups_here", 0)]) rfl (blkOk (defScope s_law_pairs) ["_law_ups_here", "_law_found", "_law_a"] rfl rfl (by decide +kernel)) (pi_range1 rfl T.range (pa_cons (pe_callB (call_lenK (K := K) rfl) rfl T.len PySem.boot_len (pa_cons (pv 0) pa_nil)) pa_nil)) (fun _ _ _ _ => ⟨(pg_name (i := 0) (by decide +kernel : (["_law_b", "_law_a", "_law_ups_here"] : List Str).Nodup) rfl (Or.inl rfl)), (pif_one (PW.pt (pw_and (pt_cmpR op_ne (pv 1) (pv 0) (nomark _)) (pw_and1 (pt_cmpR op_eq (pe_op op_and (pe_op op_shr (pe_ix (ix_listK (K := K) rfl) (pv 2) (pv 1) (fun _ _ => rfl)) (pv 0)) pe_int) pe_int (nomark _)))))), (pe_tup (pa_cons (pv 1) (pa_cons (pv 0) pa_nil)))⟩))))))
      (pss_one (ps_ret (pv 1))))), ?_⟩
    refine ⟨by show 0 ≤ sizeLine; decide, fun L0 hL0 => ?_⟩
    refine ⟨_, rfl, u, _, rfl, .inl ((Same.put hL0).seq hu), _, rfl, b1.1, b1.2, for_range (lo := 0) (n := (((us.map nV).length : Int)).toNat) (fun i σ H2 => ∃ (v2 : Option V) (l : Addr) (ws : List V), σ = [some (.ref u), some (.ref l), v2] ∧ Same H H2 ∧ H l = none ∧ H2 l = some (.lst ws) ∧ ws.length ≤ 24 * i ∧
      Paired (pairV H2) ((List.range i).flatMap fun l => ((List.range n).filter fun h => !decide (l = h) && R l h).map fun h => (l, h)) ws) ⟨none, L0, [], rfl, Same.put hL0, hL0, upd_same, by simp, .nil⟩ ?_ ?_⟩
    · rintro i σ H2 hi ⟨v2, l, ws, rfl, s2, hl0, hl, hlen, hp⟩
      rw [en] at hi
      refine ⟨_, rfl, _, rfl, u, _, rfl, .inl (s2.seq hu), _, rfl, b1.1, b1.2, fun D hD => ?_⟩
      refine comp_rel (fun j => !decide (i = j) && R i j) (fun j v H => ∃ t, v = .ref t ∧ t ≠ D ∧ H t = some (.tup [.int i, .int (j : Int)])) src_range hD (by rw [en]; exact sl24 hn) (fun j v H H' s ⟨b, e, hb, q⟩ => ⟨b, e, hb, s _ _ hb q⟩) (fun j H3 Kt Kf hj hs hy hkt hkf => ?_) (fun H3 ys hs hl3 hp3 => ?_)
      · rw [en] at hj
        obtain ⟨zs, hz⟩ := hy
        refine ⟨_, rfl, _, rfl, rfl, _, rfl, ?_⟩
        have ed : (!decide (V.int (0 + (i : Int)) = V.int (0 + (j : Int)))) = !decide (i = j) := by
          congr 1
          rw [Int.zero_add]
          exact decV
        rw [ed]
        refine ite2 (fun h => ?_) (fun h => ?_)
        · refine ⟨_, rfl, _, rfl, u, _, _, _, rfl, rfl, hs.seq (s2.seq hu), at0 (hU.get hi), _, rfl, _, _, rfl, rfl, by omega, _, _, rfl, rfl, rfl, _, rfl, ?_⟩
          rw [bitT, hU.bit i j hi hj]
          refine ite2 (fun h' => ?_) (fun h' => ?_)
          · refine ⟨_, rfl, _, rfl, by show 2 ≤ sizeLine; decide, fun t ht => ?_⟩
            refine hkt _ _ (by rw [h, h', Bool.true_and]) (Same.put ht) ⟨t, rfl, (fun e => by rw [e, hz] at ht; cases ht), ?_⟩
            rw [upd_same, Int.zero_add, Int.zero_add]
          · exact hkf _ (by rw [h, Bool.true_and]; simpa using h') (Same.refl _)
        · refine iteF ?_
          have h2 : (!decide (i = j)) = false := by simpa using h
          exact hkf _ (by rw [h2, Bool.false_and]) (Same.refl _)
      · rw [en] at hp3
        have hly : ys.length ≤ n := by
          have h1 := Paired.length hp3
          have h2 := List.length_filter_le (fun j => !decide (i = j) && R i j) (List.range n)
          rw [List.length_range] at h2
          omega
        refine ⟨l, D, ws, ys, rfl, rfl, hs _ _ hl, hl3, by have := @slk 100000 (by omega); omega, fun q hq => ?_⟩
        refine ⟨_, q, ws ++ ys, rfl, (s2.trans hs).trans (Same.put hq), Same.none (s2.trans hs) hq, upd_same, by rw [List.length_append]; omega, ?_⟩
        rw [range_flat]
        refine pairsV.same (Same.put hq) (paired_append (pairsV.same hs hp) (paired_mapL ?_))
        exact Paired.mapP hp3 fun j v ⟨t, e, _, q⟩ => ⟨t, e, q⟩
    · rintro σ H2 ⟨v2, l, ws, rfl, s2, hl0, hl, hlen, hp⟩
      rw [en] at hp hlen
      exact ⟨_, rfl, kk l ws H2 s2 hl0 hl (by omega) hp⟩
abbrev s_law_is_step : Stmt := top 50
theorem sc_law_is_step : FnScope ["_law_ups_here", "_law_a", "_law_b"] ["_law_ups_here", "_law_a", "_law_b"] (defScope s_law_is_step) := ⟨rfl, rfl, rfl, by decide +kernel, rfl, by decide +kernel, by decide +kernel⟩
def sp_is_step3 (K : PySem.W.Frag) : Sp := fun vs H Q _ => ∃ (u a b n : Nat) (R : Nat → Nat → Bool) (us : List Nat), vs = [.ref u, .int a, .int b] ∧ SqL K H u (us.map nV) ∧ Ups n R us ∧ n ≤ 24 ∧ a < n ∧ b < n ∧ ∀ H', Same H H' → Q (.bl (stB n R a b)) H'
theorem ok_is_step3 (F : Fun K "_law_is_step" "_law_is_step" s_law_is_step f fd) (T : Txt mg) : FnOk P w K mg base CX0 1 f fd ["_law_ups_here", "_law_a", "_law_b"] (sp_is_step3 K) := by
  refine F.ok sc_law_is_step (fun vs H Q E h => ?_) (fun cdv A outer s H vs Q E hr h => ?_)
  · obtain ⟨u, a, b, n, R, us, rfl, _⟩ := h
    rfl
  · obtain ⟨u, a, b, n, R, us, rfl, hu, hU, hn, ha, hb, kk⟩ := h
    have nd := sc_law_is_step.nd
    have en := hU.len'
    have b1 : -(2 ^ 62) ≤ ((us.map nV).length : Int) ∧ ((us.map nV).length : Int) < 2 ^ 62 := by rw [List.length_map, hU.len]; exact n62 (by omega)
    refine ⟨_, (pss_cons (ps_if (PW.pt (pw_or (pt_cmpR op_eq (pv 1) (pv 2) (nomark _)) (pw_or1 (pt_cmpR op_eq (pe_op op_and (pe_op op_shr (pe_ix (ix_listK (K := K) rfl) (pv 0) (pv 1) (fun _ _ => rfl)) (pv 2)) pe_int) pe_int (nomark _))))) (pss_one (ps_ret pe_bl)) pss_nil)
      (pss_one (ps_ret (pe_cmpR op_eq (pe_callB (call_lenK (K := K) rfl) rfl T.len PySem.boot_len (pa_cons (pe_comp (own := ["_law_c"]) (fr := [("_law_ups_here", 0), ("_law_a", 1), ("_law_b", 2)]) rfl (blkOk (defScope s_law_is_step) ["_law_ups_here", "_law_a", "_law_b"] rfl rfl (by decide +kernel)) (pi_range1 rfl T.range (pa_cons (pe_callB (call_lenK (K := K) rfl) rfl T.len PySem.boot_len (pa_cons (pv 0) pa_nil)) pa_nil)) (fun _ _ _ _ => ⟨(pg_name (i := 0) (by decide +kernel : (["_law_c", "_law_ups_here", "_law_a", "_law_b"] : List Str).Nodup) rfl (Or.inl rfl)), (pif_one (PW.pt (pw_and (pt_cmpR op_eq (pe_op op_and (pe_op op_shr (pe_ix (ix_listK (K := K) rfl) (pv 1) (pv 2) (fun _ _ => rfl)) (pv 0)) pe_int) pe_int (nomark _)) (pw_and1 (pt_cmpR op_eq (pe_op op_and (pe_op op_shr (pe_ix (ix_listK (K := K) rfl) (pv 1) (pv 0) (fun _ _ => rfl)) (pv 3)) pe_int) pe_int (nomark _)))))), (pv 0)⟩)) pa_nil)) pe_int (nomark _))))), ?_⟩
    refine ⟨_, rfl, _, rfl, rfl, _, rfl, ite2 (fun h => ?_) (fun h => ?_)⟩
    · have e : a = b := by have := V.int.inj (of_decide_eq_true h); omega
      refine iteT ?_
      have := kk H (Same.refl _)
      rw [stB, decide_eq_true e] at this
      exact this
    · have e : ¬ a = b := fun e => h (by rw [e]; exact decide_eq_true rfl)
      refine ⟨_, rfl, _, rfl, u, _, _, _, rfl, rfl, hu, atI_nat (hU.get ha), _, rfl, _, _, rfl, rfl, by omega, _, _, rfl, rfl, rfl, _, rfl, ?_⟩
      rw [bitF', hU.bit a b ha hb]
      refine ite2 (fun h2 => ?_) (fun h2 => ?_)
      · have h3 : R a b = false := by simpa using h2
        have := kk H (Same.refl _)
        rw [stB, h3, Bool.and_false, Bool.false_and] at this
        exact this
      · have h3 : R a b = true := by simpa using h2
        refine ⟨_, rfl, u, _, rfl, .inl hu, _, rfl, b1.1, b1.2, fun D hD => comp_val (fun c => R a c && R c b) nV src_range hD (by rw [en]; exact sl24 hn) (fun j H3 Kt Kf hj hs hkt hkf => ?_) (fun H3 hs3 hl3 => ?_)⟩
        · rw [en] at hj
          refine ⟨_, rfl, _, rfl, u, _, _, _, rfl, rfl, hs.seq hu, atI_nat (hU.get ha), _, rfl, _, _, rfl, rfl, by omega, _, _, rfl, rfl, rfl, _, rfl, ?_⟩
          rw [bitT, hU.bit a j ha hj]
          refine ite2 (fun h4 => ?_) (fun h4 => ?_)
          · refine ⟨_, rfl, _, rfl, u, _, _, _, rfl, rfl, hs.seq hu, at0 (hU.get hj), _, rfl, _, _, rfl, rfl, by omega, _, _, rfl, rfl, rfl, _, rfl, ?_⟩
            rw [bitT', hU.bit j b hj hb]
            refine ite2 (fun h5 => ?_) (fun h5 => ?_)
            · refine ⟨_, rfl, ?_⟩
              rw [Int.zero_add]
              exact hkt _ (by rw [h4, h5]; rfl) (Same.refl _)
            · exact hkf _ (by rw [h4, Bool.true_and]; simpa using h5) (Same.refl _)
          · have h5 : R a j = false := by simpa using h4
            exact iteF (hkf _ (by rw [h5, Bool.false_and]) (Same.refl _))
        · refine ⟨D, _, rfl, .inl (SqL.of hl3), rfl, ?_⟩
          have := kk H3 hs3
          rw [stB, decide_eq_false e, h3, Bool.not_false, Bool.true_and, Bool.true_and] at this
          rw [List.length_map, en]
          have e2 : decide (V.int ((((List.range n).filter fun c => R a c && R c b).length : Nat) : Int) = V.int 2) = (((List.range n).filter fun c => R a c && R c b).length == 2) := by
            rw [Bool.eq_iff_iff, decide_eq_true_iff, beq_iff_eq]
            exact ⟨fun h => by have := V.int.inj h; omega, fun h => by rw [h]; rfl⟩
          rw [e2]
          exact this
end
end My

set_option Elab.async false
set_option linter.all false
set_option maxRecDepth 100000
set_option maxHeartbeats 4000000
namespace My
open PySem PySem.Spec PyProof.Rows L2
theorem seqCutS {t u : TS} {D : Ends} {σ : L2.St} {H : Hp} (C : L2.St → Hp → Prop) (main : ∀ D' : Ends, D'.rt = D.rt → (∀ σ' H', C σ' H' → D'.nx σ' H') → t D' σ H) (rest : ∀ σ' H', C σ' H' → u D σ' H') : tSeq t u D σ H :=
  main { D with nx := fun σ' H' => u D σ' H' } rfl rest
section
variable {P : Program} {w : World} {K : PySem.W.Frag} {mg : Str → Option Value} {base : Heap} {f : Addr} {fd : FuncData}
abbrev s_law_parity : Stmt := top 44
theorem sc_law_parity : FnScope ["_law_number", "_law_found"] ["_law_number"] (defScope s_law_parity) := ⟨rfl, rfl, rfl, by decide +kernel, rfl, by decide +kernel, by decide +kernel⟩
def sp_parity : Sp := fun vs H Q _ => ∃ n : Nat, vs = [.int n] ∧ ∀ i : Int, Q (.int i) H
theorem ok_parity (F : Fun K "_law_parity" "_law_parity" s_law_parity f fd) (T : Txt mg) : FnOk P w K mg base CX0 1 f fd ["_law_number"] sp_parity := by
  refine F.ok sc_law_parity (fun vs H Q E h => ?_) (fun cdv A outer s H vs Q E hr h => ?_)
  · obtain ⟨n, rfl, _⟩ := h
    rfl
  · obtain ⟨n, rfl, kk⟩ := h
    have nd := sc_law_parity.nd
    refine ⟨_, (pss_cons (ps_set (i := 1) nd rfl (Or.inl rfl) pe_int)
      (pss_cons (ps_while PassesOwn.never (pt_cmpR op_gt (pv 0) pe_int (nomark _))
      (pss_cons (ps_set (i := 1) nd rfl (Or.inl rfl) (pe_op op_mod (pe_op op_add (pv 1) (pv 0)) pe_int))
      (pss_one (ps_set (i := 0) nd rfl (Or.inl rfl) (pe_op op_fdiv (pv 0) pe_int)))))
      (pss_one (ps_ret (pv 1))))), ?_⟩
    refine ⟨fun m σ H2 => H2 = H ∧ ∃ i : Int, σ = [some (.int (m : Int)), some (.int i)], ⟨n, rfl, 0, rfl⟩, ?_⟩
    rintro m σ H2 ⟨rfl, i, rfl⟩
    refine ⟨_, rfl, _, _, rfl, rfl, _, rfl, ite2 (fun h => ?_) (fun h => ?_)⟩
    · have hm : 0 < m := by have := of_decide_eq_true h; omega
      refine ⟨_, fun σ' H' h => h, ?_⟩
      refine ⟨_, rfl, _, rfl, _, _, rfl, rfl, _, _, rfl, rfl, (by show (0 : Int) < 2; decide), _, rfl, _, _, rfl, rfl, ⟨by decide, by decide⟩, m / 2, by omega, rfl, (i + (m : Int)) % 2, ?_⟩
      rw [Int.natCast_ediv]
      rfl
    · exact ⟨_, rfl, kk i⟩
abbrev s_law_planes : Stmt := top 45
theorem sc_law_planes : FnScope ["_law_wide", "_law_found", "_law_sign", "_law_plane", "_law_row"] ["_law_wide"] (defScope s_law_planes) := ⟨rfl, rfl, rfl, by decide +kernel, rfl, by decide +kernel, by decide +kernel⟩
def sp_planes (K : PySem.W.Frag) : Sp := fun vs H Q _ => ∃ wd : Nat, vs = [.int wd] ∧ wd ≤ 3 ∧
  ∀ L F H', Same H H' → H L = none → H' L = some (.lst (F.map nV)) → Fam F → F.length ≤ 24 → (∀ x ∈ F, x < 256) → Q (.ref L) H'
theorem ok_planes (F : Fun K "_law_planes" "_law_planes" s_law_planes f fd) (T : Txt mg) (c_law_parity : Cal P w K mg base "_law_parity" ["_law_number"] 1 sp_parity) (c_law_masks : Cal P w K mg base "_law_masks" ["_law_numbers", "_law_wide", "_law_most"] 1 (sp_masks3 K)) : FnOk P w K mg base CX0 2 f fd ["_law_wide"] (sp_planes K) := by
  refine F.ok sc_law_planes (fun vs H Q E h => ?_) (fun cdv A outer s H vs Q E hr h => ?_)
  · obtain ⟨wd, rfl, _⟩ := h
    rfl
  · obtain ⟨wd, rfl, hwd, kk⟩ := h
    have nd := sc_law_planes.nd
    refine ⟨_, (pss_cons (ps_set (i := 1) nd rfl (Or.inl rfl) (pe_lst pa_nil))
      (pss_cons (ps_for PassesOwn.never rfl (pi_range2 rfl T.range (pa_cons pe_int (pa_cons (pe_op op_shl pe_int (pv 0)) pa_nil))) (pg_name (i := 2) nd rfl (Or.inl rfl))
      (pss_cons (ps_set (i := 3) nd rfl (Or.inl rfl) pe_int)
      (pss_cons (ps_for PassesOwn.never rfl (pi_range1 rfl T.range (pa_cons (pe_op op_shl pe_int (pv 0)) pa_nil)) (pg_name (i := 4) nd rfl (Or.inl rfl))
      (pss_one (ps_if (pt_cmpR op_eq (pe_callC c_law_parity hr rfl (pa_cons (pe_op op_and (pv 4) (pv 2)) pa_nil)) pe_int (nomark _)) (pss_one (ps_set (i := 3) nd rfl (Or.inl rfl) (pe_op op_or (pv 3) (pe_op op_shl pe_int (pv 4))))) pss_nil)))
      (pss_one (ps_expr (pe_bmK (K := K) rfl PySem.F.plainAttrs_list PySem.F.slot_list_append PySem.F.type_list_append mt_append (pv 1) (pa_cons (pv 3) pa_nil)))))))
      (pss_one (ps_ret (pe_callC c_law_masks hr rfl (pa_cons (pv 1) (pa_cons (pe_op op_shl pe_int (pv 0)) (pa_cons pe_int pa_nil (star_of (fun _ _ h => nomatch h))) (star_of (fun _ _ h => nomatch h))) (star_of (fun _ _ h => nomatch h)))))))), ?_⟩
    have hp1 : 2 ^ wd ≤ 8 := Nat.pow_le_pow_right (n := 2) (by decide) hwd
    have hp0 : 0 < 2 ^ wd := Nat.two_pow_pos wd
    have ew : ((1 : Int) * 2 ^ ((wd : Int)).toNat) = ((2 ^ wd : Nat) : Int) := by rw [Int.toNat_natCast, Int.one_mul]; norm_cast
    have cp : CPow 1 (wd : Int) := ⟨by omega, by omega, by decide⟩
    refine ⟨by show 0 ≤ sizeLine; decide, fun L hL => ?_⟩
    have ew1 : ((1 : Int) * 2 ^ ((wd : Int)).toNat - 1).toNat = 2 ^ wd - 1 := by rw [ew]; omega
    have ew0 : ((1 : Int) * 2 ^ ((wd : Int)).toNat).toNat = 2 ^ wd := by rw [ew]; omega
    refine ⟨_, rfl, _, _, rfl, rfl, cp, _, _, rfl, ⟨by decide, by decide, by rw [ew]; omega, by rw [ew]; omega⟩, for_range (lo := 1) (n := ((1 : Int) * 2 ^ ((wd : Int)).toNat - 1).toNat) (fun i σ H2 => ∃ (v2 v3 v4 : Option V) (xs : List Nat), σ = [some (.int wd), some (.ref L), v2, v3, v4] ∧ Same H H2 ∧ H2 L = some (.lst (xs.map nV)) ∧ xs.length = i) ⟨none, none, none, [], rfl, Same.put hL, upd_same, rfl⟩ ?_ ?_⟩
    · rintro i σ H2 hi ⟨v2, v3, v4, xs, rfl, s2, hl2, hx⟩
      rw [ew1] at hi
      have es : (1 : Int) + (i : Int) = ((1 + i : Nat) : Int) := by omega
      refine ⟨_, rfl, _, _, rfl, rfl, cp, _, rfl, by rw [ew]; omega, by rw [ew]; omega, for_range (lo := 0) (n := ((1 : Int) * 2 ^ ((wd : Int)).toNat).toNat) (fun j σ H3 => H3 = H2 ∧ ∃ (x : Nat) (v4 : Option V), σ = [some (.int wd), some (.ref L), some (.int (1 + (i : Int))), some (nV x), v4]) ⟨rfl, 0, v4, rfl⟩ ?_ ?_⟩
      · rintro j σ H3 hj ⟨rfl, x, v4, rfl⟩
        rw [ew0] at hj
        have ej : (0 : Int) + (j : Int) = (j : Int) := by omega
        have ea : Builtin.bitAnd (0 + (j : Int)) (1 + (i : Int)) = ((j &&& (1 + i) : Nat) : Int) := by rw [es, ej, andN]
        refine ⟨_, rfl, _, rfl, _, _, rfl, rfl, j &&& (1 + i), by rw [← ea]; rfl, fun y => ⟨rfl, _, rfl, ite2 (fun h => ?_) (fun h => ?_)⟩⟩
        · have eo : Builtin.bitOr ((x : Nat) : Int) (1 * 2 ^ ((0 : Int) + (j : Int)).toNat) = ((x ||| 2 ^ j : Nat) : Int) := by
            rw [ej, Int.toNat_natCast, Int.one_mul, show (2 : Int) ^ j = ((2 ^ j : Nat) : Int) by norm_cast, orN]
          refine ⟨_, rfl, _, rfl, _, _, rfl, rfl, ⟨by omega, by omega, by decide⟩, _, _, rfl, rfl, rfl, x ||| 2 ^ j, some (.int (0 + (j : Int))), ?_⟩
          dsimp only
          rw [eo]
          rfl
        · exact ⟨rfl, x, _, rfl⟩
      · rintro σ H3 ⟨rfl, x, v4, rfl⟩
        refine ⟨_, rfl, .inl ⟨rfl, _, SqL.of hl2⟩, _, rfl, L, _, _, rfl, rfl, hl2, small1000 (by rw [List.length_map]; omega), ?_⟩
        refine ⟨_, _, _, xs ++ [x], rfl, fun b o e => ?_, by rw [upd_same, List.map_append]; rfl, by simp [hx]⟩
        rw [upd_ne (ne_of_none e hL)]
        exact s2 _ _ e
    · rintro σ H2 ⟨v2, v3, v4, xs, rfl, s2, hl2, hx⟩
      refine ⟨_, rfl, _, rfl, _, _, rfl, rfl, cp, L, 2 ^ wd, 24, xs.map fun x : Nat => (x : Int), by dsimp only; rw [ew]; rfl, SqL.of (by rw [List.map_map]; exact hl2), by simp, hp1, by decide, by decide, fun L2 G H3 s3 hn3 hl3 hG hGl hGb => ?_⟩
      have h8 : 2 ^ 2 ^ wd ≤ 256 := Nat.pow_le_pow_right (n := 2) (by decide) hp1
      exact kk L2 G H3 (s2.trans s3) (Same.none s2 hn3) hl3 hG hGl fun x hx => Nat.lt_of_lt_of_le (hGb x hx) h8
end
end My

set_option Elab.async false
set_option linter.all false
set_option maxRecDepth 100000
set_option maxHeartbeats 1000000
namespace My
open PySem PySem.Spec PyProof.Rows L2
theorem paired_drop3 {α β : Type} {G : α → β → Prop} : ∀ {l : List α} {m : List β} (k : Nat), Paired G l m → Paired G (l.drop k) (m.drop k)
  | _, _, 0, h => h
  | _, _, _ + 1, .nil => .nil
  | _, _, k + 1, .cons _ t => paired_drop3 k t
theorem paired_take3 {α β : Type} {G : α → β → Prop} : ∀ {l : List α} {m : List β} (k : Nat), Paired G l m → Paired G (l.take k) (m.take k)
  | _, _, 0, _ => .nil
  | _, _, _ + 1, .nil => .nil
  | _, _, k + 1, .cons r t => .cons r (paired_take3 k t)
theorem mem_pairsL3 {n : Nat} {R : Nat → Nat → Bool} {p : Nat × Nat} : p ∈ pairsL n R ↔ p.1 < n ∧ p.2 < n ∧ p.1 ≠ p.2 ∧ R p.1 p.2 = true := by
  unfold pairsL
  rw [List.mem_flatMap]
  constructor
  · rintro ⟨l, hl, h⟩
    obtain ⟨k, hk, rfl⟩ := List.mem_map.mp h
    obtain ⟨h1, h2⟩ := List.mem_filter.mp hk
    rw [Bool.and_eq_true] at h2
    exact ⟨by simpa using hl, by simpa using h1, by simpa using h2.1, h2.2⟩
  · rintro ⟨h1, h2, h3, h4⟩
    exact ⟨p.1, by simpa using h1, List.mem_map.mpr ⟨p.2, List.mem_filter.mpr ⟨by simpa using h2, by rw [h4]; simp [h3]⟩, rfl⟩⟩
structure Hand3 (n : Nat) (R : Nat → Nat → Bool) (ps : List (Nat × Nat)) : Prop where
  lt : ∀ p ∈ ps, p.1 < n ∧ p.2 < n
  le : ∀ p ∈ ps, R p.1 p.2 = true
  all : ∀ a b, a < n → b < n → stB n R a b = true → (a, b) ∈ ps
theorem pairsL_len (n : Nat) (R : Nat → Nat → Bool) (hn : n ≤ 24) : (pairsL n R).length ≤ 24 * 24 := by
  have : ∀ k, ((List.range k).flatMap fun l => ((List.range n).filter fun h => !decide (l = h) && R l h).map fun h => (l, h)).length ≤ 24 * k := by
    intro k
    induction k with
    | zero => simp
    | succ k ih =>
      rw [range_flat, List.length_append, List.length_map]
      have h2 := List.length_filter_le (fun h => !decide (k = h) && R k h) (List.range n)
      rw [List.length_range] at h2
      omega
  have h := this n
  unfold pairsL
  omega
def HInv (H : Hp) (n : Nat) (R : Nat → Nat → Bool) (L lp : Addr) (wp : List V) (i : Nat) (H2 : Hp) : Prop := ∃ (ws : List V) (qs : List (Nat × Nat)), Same H H2 ∧ H2 L = some (.lst ws) ∧ H2 lp = some (.lst wp) ∧ ws.length ≤ i ∧
      Paired (pairV H2) (pairsL n R) wp ∧ Paired (pairV H2) qs ws ∧ (∀ q ∈ qs, q ∈ pairsL n R) ∧ ∀ j q, j < i → (pairsL n R)[j]? = some q → stB n R q.1 q.2 = true → q ∈ qs
section
variable {P : Program} {w : World} {K : PySem.W.Frag} {mg : Str → Option Value} {base : Heap} {f : Addr} {fd : FuncData}
abbrev s_law_handed : Stmt := top 51
theorem sc_law_handed : FnScope ["_law_ups_here", "_law_numbers", "_law_found", "_law_more", "_law_k", "_law_number", "_law_a", "_law_b"] ["_law_ups_here", "_law_numbers"] (defScope s_law_handed) := ⟨rfl, rfl, rfl, by decide +kernel, rfl, by decide +kernel, by decide +kernel⟩
def sp_handed3 (K : PySem.W.Frag) : Sp := fun vs H Q _ => ∃ (u d n : Nat) (R : Nat → Nat → Bool) (us : List Nat) (ns : List Int), vs = [.ref u, .ref d] ∧ SqL K H u (us.map nV) ∧ SqL K H d (ns.map V.int) ∧ Ups n R us ∧ 0 < n ∧ n ≤ 24 ∧ 0 < ns.length ∧ ns.length ≤ 1000 ∧ R 0 0 = true ∧
  ∀ l ws ps H', Same H H' → H l = none → H' l = some (.lst ws) → ws.length ≤ 1000 → Paired (pairV H') ps ws → Hand3 n R ps → Q (.ref l) H'
theorem ok_handed3 (F : Fun K "_law_handed" "_law_handed" s_law_handed f fd) (T : Txt mg) (c_law_pairs : Cal P w K mg base "_law_pairs" ["_law_ups_here"] 1 (sp_pairs3 K)) (c_law_is_step : Cal P w K mg base "_law_is_step" ["_law_ups_here", "_law_a", "_law_b"] 1 (sp_is_step3 K)) :
    FnOk P w K mg base CX0 2 f fd ["_law_ups_here", "_law_numbers"] (sp_handed3 K) := by
  refine F.ok sc_law_handed (fun vs H Q E h => ?_) (fun cdv A outer s H vs Q E hr h => ?_)
  · obtain ⟨u, d, n, R, us, ns, rfl, _⟩ := h
    rfl
  · obtain ⟨u, d, n, R, us, ns, rfl, hu, hd, hU, hpos, hn, hns0, hns1, hr00, kk⟩ := h
    have nd := sc_law_handed.nd
    refine ⟨_, (pss_cons (ps_set (i := 2) nd rfl (Or.inl rfl) (pe_lst pa_nil))
      (pss_cons (ps_set (i := 3) nd rfl (Or.inl rfl) pe_int)
      (pss_cons (ps_for PassesOwn.never rfl (pi_enumK (K := K) true rfl rfl T.enumerate (pa_cons (pe_callC c_law_pairs hr rfl (pa_cons (pv 0) pa_nil)) pa_nil)) (pg_tupK (K := K) rfl rfl (pgs_cons (pg_name (i := 4) nd rfl (Or.inl rfl)) (pgs_cons (pg_pair (K := K) (i := 6) (j := 7) rfl rfl nd rfl rfl rfl rfl) pgs_nil)))
      (pss_cons (ps_set (i := 5) nd rfl (Or.inl rfl) (pe_op op_add (pe_ix (ix_listK (K := K) rfl) (pv 1) (pe_op op_mod (pv 4) (pe_callB (call_lenK (K := K) rfl) rfl T.len PySem.boot_len (pa_cons (pv 1) pa_nil))) (fun _ _ => rfl)) (pe_op op_mul pe_int (pv 4))))
      (pss_one (ps_if (pt_val (pe_callC c_law_is_step hr rfl (pa_cons (pv 0) (pa_cons (pv 6) (pa_cons (pv 7) pa_nil (star_of (fun _ _ h => nomatch h))) (star_of (fun _ _ h => nomatch h))) (star_of (fun _ _ h => nomatch h))))) (pss_one (ps_expr (pe_bmK (K := K) rfl PySem.F.plainAttrs_list PySem.F.slot_list_insert PySem.F.type_list_insert mt_insert (pv 2) (pa_cons (pe_op op_mod (pe_op op_fdiv (pv 5) pe_int) (pe_op op_add (pe_callB (call_lenK (K := K) rfl) rfl T.len PySem.boot_len (pa_cons (pv 2) pa_nil)) pe_int)) (pa_cons (pe_tup (pa_cons (pv 6) (pa_cons (pv 7) pa_nil))) pa_nil))))) (pss_one (ps_if (PW.pt (pw_and (pt_cmpR op_eq (pe_op op_mod (pv 5) pe_int) pe_int (nomark _)) (pw_and1 (pt_cmpR op_lt (pv 3) pe_int (nomark _))))) (pss_cons (ps_expr (pe_bmK (K := K) rfl PySem.F.plainAttrs_list PySem.F.slot_list_insert PySem.F.type_list_insert mt_insert (pv 2) (pa_cons (pe_op op_mod (pe_op op_fdiv (pv 5) pe_int) (pe_op op_add (pe_callB (call_lenK (K := K) rfl) rfl T.len PySem.boot_len (pa_cons (pv 2) pa_nil)) pe_int)) (pa_cons (pe_tup (pa_cons (pv 6) (pa_cons (pv 7) pa_nil))) pa_nil))))
      (pss_one (ps_set (i := 3) nd rfl (Or.inl rfl) (pe_op op_add (pv 3) pe_int)))) pss_nil))))))
      (pss_cons (ps_if (pt_cmpR op_eq (pe_op op_mod (pe_ix (ix_listK (K := K) rfl) (pv 1) pe_int (fun _ _ => rfl)) pe_int) pe_int (nomark _)) (pss_one (ps_set (i := 2) nd rfl (Or.inl rfl) (pe_op op_cat (pv 2) (pe_slice (sl_listK (K := K) rfl) (pv 2) po_none (po_some pe_int))))) pss_nil)
      (pss_cons (ps_if (pt_cmpR op_eq (pe_op op_mod (pe_ix (ix_listK (K := K) rfl) (pv 1) pe_int (fun _ _ => rfl)) pe_int) pe_int (nomark _)) (pss_one (ps_expr (pe_bmK (K := K) rfl PySem.F.plainAttrs_list PySem.F.slot_list_append PySem.F.type_list_append mt_append (pv 2) (pa_cons (pe_tup (pa_cons pe_int (pa_cons pe_int pa_nil))) pa_nil)))) pss_nil)
      (pss_one (ps_ret (pv 2)))))))), ?_⟩
    refine ⟨by show 0 ≤ sizeLine; decide, fun L hL => ?_⟩
    have sL := Same.put hL (o := .lst ([] : List V))
    dsimp only [gName]
    show tSeq _ _ _ [some (.ref u), some (.ref d), some (.ref L), some (.int 0), none, none, none, none] _
    refine ⟨_, rfl, u, n, R, us, rfl, sL.seq hu, hU, hn, fun lp wp H1 s1 hlp0 hlp hwp hpp => ?_⟩
    have s01 := sL.trans s1
    have hL1 : H1 L = some (.lst []) := s1 _ _ upd_same
    have hne : lp ≠ L := fun e => by rw [e, upd_same] at hlp0; cases hlp0
    refine ⟨lp, wp, rfl, SqL.of hlp, for_enum (K := K) (c := true) (l := lp) (xs := wp) (fun i σ H2 => ∃ (v4 v5 v6 v7 : Option V) (m : Int) (ws : List V) (qs : List (Nat × Nat)), σ = [some (.ref u), some (.ref d), some (.ref L), some (.int m), v4, v5, v6, v7] ∧ Same H H2 ∧ H2 L = some (.lst ws) ∧ H2 lp = some (.lst wp) ∧ ws.length ≤ i ∧
      Paired (pairV H2) (pairsL n R) wp ∧ Paired (pairV H2) qs ws ∧ (∀ q ∈ qs, q ∈ pairsL n R) ∧ ∀ j q, j < i → (pairsL n R)[j]? = some q → stB n R q.1 q.2 = true → q ∈ qs)
      ⟨none, none, none, none, 0, [], [], rfl, s01, hL1, hlp, Nat.zero_le _, hpp, .nil, (fun q h => nomatch h), fun j q hj => by omega⟩ (fun i σ H2 ⟨_, _, _, _, _, _, _, _, _, _, h, _⟩ => SqL.of h) ?_ ?_⟩
    · rintro i x σ H2 Tt hx hTt ⟨v4, v5, v6, v7, m, ws, qs, rfl, s2, hl2, hlp2, hwl, hpp2, hpq, hqs, hst⟩
      have hi : i < wp.length := (List.getElem?_eq_some_iff.mp hx).1
      obtain ⟨q, hq, t, rfl, htq⟩ := paired_get hpp2 hx
      have sT := Same.put hTt (o := .tup [V.int (i : Int), .ref t])
      refine ⟨Tt, _, rfl, SqT.of upd_same, rfl, _, _, rfl, _, _, rfl, t, _, rfl, SqT.of (sT _ _ htq), rfl, _, _, rfl, _, _, rfl, rfl, rfl, ?_⟩
      dsimp only [gName]
      show tSeq _ _ _ [some (.ref u), some (.ref d), some (.ref L), some (.int m), some (.int (i : Int)), v5, some (.int (q.1 : Int)), some (.int (q.2 : Int))] _
      obtain ⟨hq1, hq2, hq3, hq4⟩ := mem_pairsL3.mp (List.mem_of_getElem? hq)
      obtain ⟨r, hr', er⟩ := emodN3 (i : Int) ns.length hns0
      have s2T := s2.trans sT
      refine ⟨_, rfl, _, rfl, _, rfl, d, _, rfl, .inl (s2T.seq hd), _, _, rfl, rfl, by rw [List.length_map]; omega, d, _, _, _, rfl, rfl, s2T.seq hd, by rw [List.length_map, er]; exact atI_nat (getDI3 hr'), _, rfl, _, _, rfl, rfl, ?_⟩
      refine ⟨.inl ⟨by decide, by decide⟩, _, _, rfl, rfl, ?_⟩
      dsimp only [gName]
      generalize hz : ns.getD r 0 + 7 * (i : Int) = z
      show tIfS _ _ _ _ [some (.ref u), some (.ref d), some (.ref L), some (.int m), some (.int (i : Int)), some (.int z), some (.int (q.1 : Int)), some (.int (q.2 : Int))] _
      have key : ∀ (H3 : Hp) (N : Hp → Prop), Same (upd H2 Tt (.tup [V.int (i : Int), .ref t])) H3 → (∀ H4, HInv H n R L lp wp (i + 1) H4 → N H4) →
          tBM K "list" rInsert (tVar 2) (tCons (tOp (rI (fun _ j => 0 < j) fun i j => V.int (i % j)) (tOp (rI CDiv fun i j => V.int (i / j)) (tVar 5) (tC (V.int 3))) (tOp (rI0 fun i j => V.int (i + j)) (tCB (rLen K) (tCons (tVar 2) tNil)) (tC (V.int 1)))) (tCons (tTup (tCons (tVar 6) (tCons (tVar 7) tNil))) tNil))
            [some (.ref u), some (.ref d), some (.ref L), some (.int m), some (.int (i : Int)), some (.int z), some (.int (q.1 : Int)), some (.int (q.2 : Int))] H3 fun _ H' => N H' := by
        intro H3 N s3 hN
        have sA := sT.trans s3
        have hl3 := sA _ _ hl2
        obtain ⟨k, hk, ek⟩ := emodN3 (z / 3) (ws.length + 1) (by omega)
        refine ⟨_, rfl, .inl ⟨rfl, _, SqL.of hl3⟩, _, rfl, _, _, rfl, rfl, ⟨by decide, by decide⟩, _, rfl, L, _, rfl, .inl (SqL.of hl3), _, _, rfl, rfl, _, _, rfl, rfl, by omega, _, rfl, _, rfl, by show 2 ≤ sizeLine; decide, fun y hy => ?_⟩
        have sY := Same.put hy (o := .tup [V.int (q.1 : Int), .int (q.2 : Int)])
        refine ⟨L, ws, k, .ref y, rfl, ?_, sY _ _ hl3, by omega, slk (by have := Paired.length hpp2; have : (pairsL n R).length ≤ 24 * 24 := pairsL_len n R hn; omega), ?_⟩
        · dsimp only
          rw [show z / 3 % ((ws.length : Int) + 1) = (k : Int) by rw [← ek]; push_cast; rfl]
        · have sZ := sA.trans sY
          have hlZ := sY _ _ hl3
          refine hN _ ⟨ws.take k ++ .ref y :: ws.drop k, qs.take k ++ q :: qs.drop k, fun b o e => ?_, upd_same, ?_, ?_, pairsV_upd hlZ (pairsV.same sZ hpp2), pairsV_upd hlZ ?_, fun p hp => ?_, fun j p hj hp hsp => ?_⟩
          · rw [upd_ne (ne_of_none e hL)]
            exact sZ _ _ (s2 _ _ e)
          · rw [upd_ne hne]
            exact sZ _ _ hlp2
          · rw [(insPerm ws k _).length_eq, List.length_cons]; omega
          · have hpZ := pairsV.same sZ hpq
            exact paired_append (paired_take3 k hpZ) (.cons ⟨y, rfl, upd_same⟩ (paired_drop3 k hpZ))
          · rcases List.mem_cons.mp ((insPerm qs k q).mem_iff.mp hp) with rfl | hp
            · exact List.mem_of_getElem? hq
            · exact hqs p hp
          · refine (insPerm qs k q).mem_iff.mpr ?_
            by_cases e : j = i
            · subst e
              rw [hq] at hp
              cases hp
              exact List.mem_cons_self
            · exact List.mem_cons_of_mem _ (hst j p (by omega) hp hsp)
      have stay : ∀ H3, Same (upd H2 Tt (.tup [V.int (i : Int), .ref t])) H3 → stB n R q.1 q.2 = false → HInv H n R L lp wp (i + 1) H3 := fun H3 s3 hnst => by
        have sA := sT.trans s3
        refine ⟨ws, qs, s2.trans sA, sA _ _ hl2, sA _ _ hlp2, by omega, pairsV.same sA hpp2, pairsV.same sA hpq, hqs, fun j p hj hp hsp => ?_⟩
        by_cases e : j = i
        · subst e
          rw [hq] at hp
          cases hp
          rw [hnst] at hsp
          cases hsp
        · exact hst j p (by omega) hp hsp
      refine ⟨_, rfl, _, rfl, _, rfl, u, q.1, q.2, n, R, us, rfl, s2T.seq hu, hU, hn, hq1, hq2, fun H3 s3 => ⟨_, rfl, ite2 (fun h => ?_) (fun h => ?_)⟩⟩
      · refine key H3 _ s3 fun H4 hI => ?_
        obtain ⟨ws', qs', hI⟩ := hI
        exact ⟨_, _, _, _, m, ws', qs', rfl, hI⟩
      · have hnst : stB n R q.1 q.2 = false := by simpa using h
        obtain ⟨ws', qs', hI⟩ := stay H3 s3 hnst
        refine ⟨_, rfl, _, _, rfl, rfl, (by show (0 : Int) < 3; decide), rfl, _, rfl, ite2 (fun h2 => ?_) (fun h2 => ?_)⟩
        · refine ⟨_, rfl, _, _, rfl, rfl, _, rfl, ite2 (fun h3 => ?_) (fun h3 => ?_)⟩
          · refine key H3 _ s3 fun H4 hI => ?_
            obtain ⟨ws', qs', hI⟩ := hI
            exact ⟨_, rfl, _, _, rfl, rfl, _, _, _, _, m + 1, ws', qs', rfl, hI⟩
          · exact ⟨_, _, _, _, m, ws', qs', rfl, hI⟩
        · exact iteF ⟨_, _, _, _, m, ws', qs', rfl, hI⟩
    · rintro σ H2 ⟨v4, v5, v6, v7, m, ws, qs, rfl, s2, hl2, hlp2, hwl, hpp2, hpq, hqs, hst⟩
      have hwl2 : ws.length ≤ 576 := by
        have h1 := Paired.length hpp2
        have h2 := pairsL_len n R hn
        omega
      have hand : Hand3 n R qs := ⟨fun p hp => ⟨(mem_pairsL3.mp (hqs p hp)).1, (mem_pairsL3.mp (hqs p hp)).2.1⟩, fun p hp => (mem_pairsL3.mp (hqs p hp)).2.2.2, fun a b ha hb hs => by
        have hm : (a, b) ∈ pairsL n R := by
          unfold stB at hs
          rw [Bool.and_eq_true, Bool.and_eq_true] at hs
          exact mem_pairsL3.mpr ⟨ha, hb, by simpa using hs.1.1, hs.1.2⟩
        obtain ⟨j, hj, e⟩ := List.getElem_of_mem hm
        exact hst j (a, b) (by rw [← Paired.length hpp2]; exact hj) (by rw [List.getElem?_eq_getElem hj, e]) hs⟩
      dsimp only
      show tSeq _ _ _ [some (.ref u), some (.ref d), some (.ref L), some (.int m), v4, v5, v6, v7] _
      refine seqCutS (fun σ H3 => ∃ (L3 : Addr) (ws3 : List V) (qs3 : List (Nat × Nat)), σ = [some (.ref u), some (.ref d), some (.ref L3), some (.int m), v4, v5, v6, v7] ∧ Same H H3 ∧ H L3 = none ∧ H3 L3 = some (.lst ws3) ∧ ws3.length ≤ 577 ∧ Paired (pairV H3) qs3 ws3 ∧ Hand3 n R qs3) (fun D' hD' next => ?_) ?_
      · refine ⟨_, rfl, d, _, 0, _, rfl, rfl, s2.seq hd, atI_nat (getDI3 (i := 0) (by omega)), _, _, rfl, rfl, (by show (0 : Int) < 4; decide), rfl, _, rfl, ite2 (fun h => ?_) (fun h => next _ _ ⟨L, ws, qs, rfl, s2, hL, hl2, by omega, hpq, hand⟩)⟩
        refine ⟨_, rfl, _, rfl, _, rfl, L, _, rfl, SqL.of hl2, fun p1 hp1 => ?_⟩
        have e1 : cutV ws none (some 1) = ws.take 1 := by
          unfold cutV
          rw [HT.sIx_none, show (1 : Int) = ((1 : Nat) : Int) from rfl, HT.sIx_nat, List.drop_zero, Nat.sub_zero]
          by_cases h : 1 ≤ ws.length
          · rw [Nat.min_eq_left h]
          · rw [Nat.min_eq_right (by omega), List.take_of_length_le (by omega), List.take_of_length_le (by omega)]
        rw [e1]
        have t1 := Same.put hp1 (o := .lst (ws.take 1))
        refine ⟨L, p1, _, _, rfl, rfl, t1 _ _ hl2, upd_same, by rw [List.length_take]; exact Nat.le_of_lt (slk (by omega)), fun p2 hp2 => ?_⟩
        have t2 := Same.put hp2 (o := .lst (ws ++ ws.take 1))
        refine next _ _ ⟨p2, ws ++ ws.take 1, qs ++ qs.take 1, rfl, s2.trans (t1.trans t2), Same.none (s2.trans t1) hp2, upd_same, by rw [List.length_append, List.length_take]; omega, pairsV.same (t1.trans t2) (paired_append hpq (paired_take3 1 hpq)), ?_⟩
        have mem : ∀ p, p ∈ qs ++ qs.take 1 → p ∈ qs := fun p hp => (List.mem_append.mp hp).elim id List.mem_of_mem_take
        exact ⟨fun p hp => hand.lt p (mem p hp), fun p hp => hand.le p (mem p hp), fun a b ha hb hs => List.mem_append_left _ (hand.all a b ha hb hs)⟩
      · rintro σ H3 ⟨L3, ws3, qs3, rfl, s3, hL3, hl3, hw3, hp3, hand3⟩
        show tSeq _ _ _ [some (.ref u), some (.ref d), some (.ref L3), some (.int m), v4, v5, v6, v7] _
        refine ⟨_, rfl, d, _, 0, _, rfl, rfl, s3.seq hd, atI_nat (getDI3 (i := 0) (by omega)), _, _, rfl, rfl, (by show (0 : Int) < 4; decide), rfl, _, rfl, ite2 (fun h => ?_) (fun h => ?_)⟩
        · refine ⟨_, rfl, .inl ⟨rfl, _, SqL.of hl3⟩, by show 2 ≤ sizeLine; decide, fun y hy => ?_⟩
          have sY := Same.put hy (o := .tup [V.int 0, .int 0])
          refine ⟨L3, ws3, _, rfl, rfl, sY _ _ hl3, slk (by omega), _, rfl, kk L3 (ws3 ++ [.ref y]) (qs3 ++ [(0, 0)]) _ (fun b o e => ?_) hL3 upd_same (by rw [List.length_append]; simp; omega) (pairsV_upd (sY _ _ hl3) (paired_append (pairsV.same sY hp3) (.cons ⟨y, rfl, upd_same⟩ .nil))) ?_⟩
          · rw [upd_ne (ne_of_none e hL3)]
            exact sY _ _ (s3 _ _ e)
          · refine ⟨fun p hp => ?_, fun p hp => ?_, fun a b ha hb hs => List.mem_append_left _ (hand3.all a b ha hb hs)⟩
            · rcases List.mem_append.mp hp with hp | hp
              · exact hand3.lt p hp
              · simp at hp; subst hp; exact ⟨hpos, hpos⟩
            · rcases List.mem_append.mp hp with hp | hp
              · exact hand3.le p hp
              · simp at hp; subst hp; exact hr00
        · exact ⟨_, rfl, kk L3 ws3 qs3 H3 s3 hL3 hl3 (by omega) hp3 hand3⟩
end
end My

set_option Elab.async false
set_option linter.all false
set_option maxRecDepth 100000
namespace My
open PySem PySem.Spec PyProof.Rows L2
theorem Good.trans {n : Nat} {R : Nat → Nat → Bool} (G : Good n R) {a b c : Nat} (ha : a < n) (hb : b < n) (hc : c < n) (h1 : R a b = true) (h2 : R b c = true) : R a c = true := by
  obtain ⟨m, hm, h⟩ := G.meet b c hb hc
  have e1 := h b hb
  rw [G.refl b hb, h2] at e1
  have e2 := h m hm
  rw [G.refl m hm] at e2
  have e3 : R m b = true := by
    cases e : R m b with
    | true => rfl
    | false => rw [e] at e2; cases e2
  have : b = m := G.anti b m hb hm (by rw [e1]; rfl) e3
  subst this
  have e4 := h a ha
  rw [h1] at e4
  simpa using e4.symm
def IsJ (n : Nat) (R : Nat → Nat → Bool) (a b c : Nat) : Prop := c < n ∧ ∀ x, x < n → R c x = (R a x && R b x)
def IsM (n : Nat) (R : Nat → Nat → Bool) (a b c : Nat) : Prop := c < n ∧ ∀ x, x < n → R x c = (R x a && R x b)
section
variable {n : Nat} {R : Nat → Nat → Bool} {a b c d : Nat}
theorem IsJ.up (G : Good n R) (ha : a < n) (hb : b < n) (h : IsJ n R a b c) : R a c = true ∧ R b c = true := by
  have := h.2 c h.1
  rw [G.refl c h.1] at this
  simpa using this.symm
end
theorem flds_joins (n : Nat) (vp vr vj vm : V) : (flds n vp vr vj vm).lookup ("joins" : Str) = some vj := by
  unfold flds
  rw [lookup_putF, if_neg (by decide +kernel), lookup_putF, if_pos rfl]
theorem flds_meets (n : Nat) (vp vr vj vm : V) : (flds n vp vr vj vm).lookup ("meets" : Str) = some vm := by
  unfold flds
  rw [lookup_putF, if_pos rfl]
end My

set_option Elab.async false
set_option linter.all false
set_option maxRecDepth 100000
set_option maxHeartbeats 1000000
namespace My
open PySem PySem.Spec PyProof.Rows L2
theorem two_of {l : List Nat} {a b : Nat} (nd : l.Nodup) (hab : a ≠ b) (ha : a ∈ l) (hb : b ∈ l) (h : ∀ c ∈ l, c = a ∨ c = b) : l.length = 2 := by
  have h1 : l.length ≤ 2 := by
    have : l.length ≤ [a, b].length := by
      have := List.Nodup.length_le_of_subset (l₁ := l) (l₂ := [a, b])
      exact nd.length_le_of_subset fun c hc => by rcases h c hc with rfl | rfl <;> simp
    simpa using this
  have h2 : 2 ≤ l.length := by
    have nd2 : [a, b].Nodup := by simp [hab]
    have : [a, b].length ≤ l.length := nd2.length_le_of_subset fun c hc => by
      rcases List.mem_cons.mp hc with rfl | hc
      · exact ha
      · simp at hc; subst hc; exact hb
    simpa using this
  omega
theorem stB_of {M : List Nat} {a b : Nat} (ha : a < M.length) (hb : b < M.length) (h : Ev.stepM M a b) : stB M.length (Ev.leM M) a b = true := by
  unfold stB
  rw [h.2.1, decide_eq_false h.1, Bool.not_false, Bool.true_and, Bool.true_and, beq_iff_eq]
  refine two_of (List.nodup_range.filter _) h.1 ?_ ?_ fun c hc => ?_
  · exact List.mem_filter.mpr ⟨by simpa using ha, by rw [Ev.leM_refl, h.2.1]; rfl⟩
  · exact List.mem_filter.mpr ⟨by simpa using hb, by rw [Ev.leM_refl, h.2.1]; rfl⟩
  · obtain ⟨h1, h2⟩ := List.mem_filter.mp hc
    rw [Bool.and_eq_true] at h2
    exact h.2.2 c (by simpa using h1) h2.1 h2.2
theorem Good.congr {n : Nat} {R R' : Nat → Nat → Bool} (G : Good n R) (h : ∀ a b, a < n → b < n → R' a b = R a b) : Good n R' := by
  refine ⟨fun a ha => by rw [h a a ha ha]; exact G.refl a ha, fun a b ha hb h1 h2 => G.anti a b ha hb (by rw [← h a b ha hb]; exact h1) (by rw [← h b a hb ha]; exact h2), fun a b ha hb => ?_, fun a b ha hb => ?_⟩
  · obtain ⟨c, hc, hx⟩ := G.join a b ha hb
    exact ⟨c, hc, fun x hx' => by rw [h c x hc hx', h a x ha hx', h b x hb hx']; exact hx x hx'⟩
  · obtain ⟨c, hc, hx⟩ := G.meet a b ha hb
    exact ⟨c, hc, fun x hx' => by rw [h x c hx' hc, h x a hx' ha, h x b hx' hb]; exact hx x hx'⟩
theorem good_lat {M : List Nat} (hM : Ev.Lat M) : Good M.length (Ev.leM M) := by
  refine ⟨fun a ha => Ev.leM_refl _ _, fun a b ha hb h1 h2 => Ev.leM_antisymm hM.nd ha hb h1 h2, fun a b ha hb => ?_, fun a b ha hb => ?_⟩
  · obtain ⟨c, hc, h⟩ := hM.joinEx ha hb
    exact ⟨c, hc, fun x hx => h x hx⟩
  · obtain ⟨c, hc, _, h⟩ := hM.meetEx ha hb
    exact ⟨c, hc, fun x hx => h x⟩
theorem clos_eq3 {M : List Nat} (hM : Ev.Lat M) {ps : List (Nat × Nat)} (hand : Hand3 M.length (Ev.leM M) ps) {R : Nat → Nat → Bool} (hC : Ev.Clos M.length ps R) : ∀ a b, a < M.length → b < M.length → R a b = Ev.leM M a b :=
  hC.eq_leM hM.nd hand.le fun a b ha hb h => hand.all a b ha hb (stB_of ha hb h)
def OrdOf (C : Addr) (H : Hp) (p n : Nat) (R : Nat → Nat → Bool) : Prop := ∃ R', OrdAt C H p n R' ∧ ∀ a b, a < n → b < n → R' a b = R a b
theorem OrdOf.same {C : Addr} {H H' : Hp} {p n : Nat} {R : Nat → Nat → Bool} (s : Same H H') (h : OrdOf C H p n R) : OrdOf C H' p n R := by
  obtain ⟨R', a, b⟩ := h
  exact ⟨R', a.same s, b⟩
end My

set_option Elab.async false
set_option linter.all false
set_option maxRecDepth 100000
namespace My
open PySem PySem.Spec PyProof.Rows L2
structure CalM (P : Program) (w : World) (K : PySem.W.Frag) (mg : Str → Option Value) (base : Heap) (C : Addr) (m : Str) (ps : List Str) (k : Nat) (sp : Sp) : Prop where
  ex : ∃ (f : Addr) (fd : FuncData), FnOk P w K mg base CX0 k f fd ps sp ∧ Meth K C m f ∧ Binds K fd ps []
section
variable {X : Cx} {C : Addr} {m : Str} {ps : List Str} {k k' : Nat} {sp : Sp} {e o : Expr} {es : List Expr} {ta : TE} {t : TA} {apos pos : Pos} {pl : Sem Bool}
theorem pe_methC (c : CalM X.prog X.w X.K X.mg X.base C m ps k sp) (cl : Cls X.K C) (hr : Room k' X.A) (he : PE X o ta) (ha : PA X (e :: es) t) (hk : k ≤ k' := by decide)
    (hst : starEach (e :: es) X.env = (false, eval e X.env) :: starEach es X.env := by rfl) (hpl : (backTo pos (starEach es X.env)).any (·.1) = false := by rfl)
    (ht : eval (.Call (.Attribute o m apos) (e :: es) [] pos) X.env = (do
      let ov ← eval o X.env
      standAt apos.atName
      let (f, first) ← holding [ov] (getMethod ov m pl)
      callWith pos f first (backTo pos (starEach (e :: es) X.env)) (backToKw pos (keywordEach [] X.env))) := by rfl) : PE X (.Call (.Attribute o m apos) (e :: es) [] pos) (tMeth C m sp [] E0 ta t) := by
  obtain ⟨f, fd, F, M, b⟩ := c.ex
  exact pe_meth he cl M F (hr.mono hk) b .nil pass0 ha hst hpl ht
theorem pe_methC0 (c : CalM X.prog X.w X.K X.mg X.base C m ps k sp) (cl : Cls X.K C) (hr : Room k' X.A) (he : PE X o ta) (hk : k ≤ k' := by decide)
    (ht : eval (.Call (.Attribute o m apos) [] [] pos) X.env = (do
      let ov ← eval o X.env
      standAt apos.atName
      let (f, first) ← holding [ov] (getMethod ov m pl)
      callWith pos f first (backTo pos (starEach [] X.env)) (backToKw pos (keywordEach [] X.env))) := by rfl) : PE X (.Call (.Attribute o m apos) [] [] pos) (tMeth C m sp [] E0 ta tNil) := by
  obtain ⟨f, fd, F, M, b⟩ := c.ex
  exact pe_meth0 he cl M F (hr.mono hk) b .nil pass0 ht
end
structure MethAt (K : PySem.W.Frag) (C : Addr) (m qual : Str) (st : Stmt) : Prop where
  ex : ∃ (f : Addr) (fd : FuncData), Fun K m qual st f fd ∧ Meth K C m f
theorem MethAt.mk' {K : PySem.W.Frag} {m qual : Str} {st : Stmt} {C f : Addr} {oc : Value} {od an : Option Addr} {osl : Array (Option Value)} {kV doc pm cdv ct : Value} (a : PySem.W.findIn K (.ref C) m = some (some (.ref f))) (i : PySem.W.isFn K (.ref f) = true)
    (l : K.lookup f = some ⟨oc, od, .func (PySem.W.fnOf m qual (defArgs st) (defBody st) (defScope st) .none kV doc pm an cdv ct), osl⟩) (c : PySem.W.codeIn K cdv qual = true) (k : PySem.W.keepIn K (.ref f) = true) : MethAt K C m qual st :=
  ⟨f, _, fun_mk l c k, ⟨a, i, k⟩⟩
theorem MethAt.cal {P : Program} {w : World} {K : PySem.W.Frag} {mg : Str → Option Value} {base : Heap} {m qual : Str} {st : Stmt} {C : Addr} {ps : List Str} {k : Nat} {sp : Sp} (A : MethAt K C m qual st)
    (hb : ∀ (kV doc pm : Value) (an : Option Addr) (cdv ct : Value) (us : List Value), us.length = ps.length → bindArgs (PySem.W.fnOf m qual (defArgs st) (defBody st) (defScope st) .none kV doc pm an cdv ct) ⟨us, []⟩ = pure (ps.zip us))
    (ok : ∀ {f : Addr} {fd : FuncData}, Fun K m qual st f fd → FnOk P w K mg base CX0 k f fd ps sp) : CalM P w K mg base C m ps k sp := by
  obtain ⟨f, fd, F, M⟩ := A.ex
  exact ⟨f, fd, ok F, M, F.binds hb⟩
section
variable {P : Program} {w : World} {K : PySem.W.Frag} {mg : Str → Option Value} {base : Heap} {f : Addr} {fd : FuncData}
abbrev s_Order_join : Stmt := inClass (top 26) 2
theorem sc_Order_join : FnScope ["self", "a", "b"] ["self", "a", "b"] (defScope s_Order_join) := ⟨rfl, rfl, rfl, by decide +kernel, rfl, by decide +kernel, by decide +kernel⟩
def sp_m_join (C : Addr) : Sp := fun vs H Q _ => ∃ (p n a b c : Nat) (R : Nat → Nat → Bool), vs = [.ref p, .int a, .int b] ∧ OrdAt C H p n R ∧ Good n R ∧ a < n ∧ b < n ∧ IsJ n R a b c ∧ ∀ H', Same H H' → Q (.int c) H'
theorem ok_m_join {C : Addr} (F : Fun K "join" "Order.join" s_Order_join f fd) (T : Txt mg) (TC : ClsOk K C) (c_need_thing : Cal P w K mg base "need_thing" ["count", "number"] 3 sp_need_thing) : FnOk P w K mg base CX0 4 f fd ["self", "a", "b"] (sp_m_join C) := by
  refine F.ok sc_Order_join (fun vs H Q E h => ?_) (fun cdv A outer s H vs Q E hr h => ?_)
  · obtain ⟨p, n, a, b, c, R, rfl, _⟩ := h
    rfl
  · obtain ⟨p, n, a, b, c, R, rfl, hO, G, ha, hb, hc, kk⟩ := h
    have nd := sc_Order_join.nd
    obtain ⟨dx, vp, vr, vj, vm, o1, _, _, o3, _⟩ := hO
    obtain ⟨ra, us, rb, rfl, q1, q2, q3⟩ := o3.get ha
    refine ⟨_, (pss_cons (ps_expr (pe_callC c_need_thing hr rfl (pa_cons (pe_fldK (K := K) rfl (pv 0) rfl) (pa_cons (pv 1) pa_nil))))
      (pss_cons (ps_expr (pe_callC c_need_thing hr rfl (pa_cons (pe_fldK (K := K) rfl (pv 0) rfl) (pa_cons (pv 2) pa_nil))))
      (pss_one (ps_ret (pe_ix (ix_tupK (K := K) rfl) (pe_ix (ix_tupK (K := K) rfl) (pe_fldK (K := K) rfl (pv 0) rfl) (pv 1) (fun _ _ => rfl)) (pv 2) (fun _ _ => rfl)))))), ?_⟩
    refine ⟨_, rfl, p, C, dx, _, _, rfl, o1, TC.cl, TC.nC, flds_count' _ _ _ _ _, _, rfl, ⟨n, a, rfl, by omega, by omega⟩, fun v1 H1 s1 _ => ?_⟩
    refine ⟨_, rfl, p, C, dx, _, _, rfl, s1 _ _ o1, TC.cl, TC.nC, flds_count' _ _ _ _ _, _, rfl, ⟨n, b, rfl, by omega, by omega⟩, fun v2 H2 s2 _ => ?_⟩
    have s02 := s1.trans s2
    have e : endV n R a b = .int c := endV_some G.dis hc.1 hc.2
    exact ⟨_, rfl, p, C, dx, _, _, rfl, s02 _ _ o1, TC.cl, TC.nJ, flds_joins _ _ _ _ _, _, rfl, ra, us, _, .ref rb, rfl, rfl, SqT.of (s02 _ _ q1), atI_nat q2, _, rfl, rb, _, _, .int c, rfl, rfl, SqT.of (s02 _ _ q3), atI_nat (by rw [map_get hb, e]), kk _ s02⟩
abbrev s_Order_meet : Stmt := inClass (top 26) 3
theorem sc_Order_meet : FnScope ["self", "a", "b"] ["self", "a", "b"] (defScope s_Order_meet) := ⟨rfl, rfl, rfl, by decide +kernel, rfl, by decide +kernel, by decide +kernel⟩
def sp_m_meet (C : Addr) : Sp := fun vs H Q _ => ∃ (p n a b c : Nat) (R : Nat → Nat → Bool), vs = [.ref p, .int a, .int b] ∧ OrdAt C H p n R ∧ Good n R ∧ a < n ∧ b < n ∧ IsM n R a b c ∧ ∀ H', Same H H' → Q (.int c) H'
theorem ok_m_meet {C : Addr} (F : Fun K "meet" "Order.meet" s_Order_meet f fd) (T : Txt mg) (TC : ClsOk K C) (c_need_thing : Cal P w K mg base "need_thing" ["count", "number"] 3 sp_need_thing) : FnOk P w K mg base CX0 4 f fd ["self", "a", "b"] (sp_m_meet C) := by
  refine F.ok sc_Order_meet (fun vs H Q E h => ?_) (fun cdv A outer s H vs Q E hr h => ?_)
  · obtain ⟨p, n, a, b, c, R, rfl, _⟩ := h
    rfl
  · obtain ⟨p, n, a, b, c, R, rfl, hO, G, ha, hb, hc, kk⟩ := h
    have nd := sc_Order_meet.nd
    obtain ⟨dx, vp, vr, vj, vm, o1, _, _, _, o3⟩ := hO
    obtain ⟨ra, us, rb, rfl, q1, q2, q3⟩ := o3.get ha
    refine ⟨_, (pss_cons (ps_expr (pe_callC c_need_thing hr rfl (pa_cons (pe_fldK (K := K) rfl (pv 0) rfl) (pa_cons (pv 1) pa_nil))))
      (pss_cons (ps_expr (pe_callC c_need_thing hr rfl (pa_cons (pe_fldK (K := K) rfl (pv 0) rfl) (pa_cons (pv 2) pa_nil))))
      (pss_one (ps_ret (pe_ix (ix_tupK (K := K) rfl) (pe_ix (ix_tupK (K := K) rfl) (pe_fldK (K := K) rfl (pv 0) rfl) (pv 1) (fun _ _ => rfl)) (pv 2) (fun _ _ => rfl)))))), ?_⟩
    refine ⟨_, rfl, p, C, dx, _, _, rfl, o1, TC.cl, TC.nC, flds_count' _ _ _ _ _, _, rfl, ⟨n, a, rfl, by omega, by omega⟩, fun v1 H1 s1 _ => ?_⟩
    refine ⟨_, rfl, p, C, dx, _, _, rfl, s1 _ _ o1, TC.cl, TC.nC, flds_count' _ _ _ _ _, _, rfl, ⟨n, b, rfl, by omega, by omega⟩, fun v2 H2 s2 _ => ?_⟩
    have s02 := s1.trans s2
    have e : endV n (fun a b => R b a) a b = .int c := endV_some G.dis' hc.1 hc.2
    exact ⟨_, rfl, p, C, dx, _, _, rfl, s02 _ _ o1, TC.cl, TC.nM, flds_meets _ _ _ _ _, _, rfl, ra, us, _, .ref rb, rfl, rfl, SqT.of (s02 _ _ q1), atI_nat q2, _, rfl, rb, _, _, .int c, rfl, rfl, SqT.of (s02 _ _ q3), atI_nat (by rw [map_get hb, e]), kk _ s02⟩
end
end My

set_option Elab.async false
set_option linter.all false
set_option maxRecDepth 100000
set_option maxHeartbeats 1000000
namespace My
open PySem PySem.Spec PyProof.Rows L2
def triV (H : Hp) (r : Nat × Nat × Nat) (v : V) : Prop := ∃ t, v = .ref t ∧ H t = some (.tup [.int (r.1 : Int), .int (r.2.1 : Int), .int (r.2.2 : Int)])
theorem triV.same {H H' : Hp} (s : Same H H') {r : Nat × Nat × Nat} {v : V} (h : triV H r v) : triV H' r v := by
  obtain ⟨t, e, q⟩ := h
  exact ⟨t, e, s _ _ q⟩
section
variable {P : Program} {w : World} {K : PySem.W.Frag} {mg : Str → Option Value} {base : Heap} {f : Addr} {fd : FuncData}
end
end My

set_option Elab.async false
set_option linter.all false
set_option maxRecDepth 100000
namespace L2
open PySem PySem.Spec PyProof.Rows
theorem src_pairs {K : PySem.W.Frag} {a : Addr} {us : List V} {xs ys : Nat → V} {ρ : St} {H1 : Hp} (h : SqL K H1 a us) (hp : ∀ i, i < us.length → ∃ t, us[i]? = some (.ref t) ∧ H1 t = some (.tup [xs i, ys i])) :
    SrcOk (Itl K a) (gTup K 2 (gCons (gName 0) (gCons (gName 1) gNil))) (none :: none :: ρ) H1 us.length (fun i => some (xs i) :: some (ys i) :: ρ) where
  go := fun i H hi hs => ⟨us, us[i], hs.seq h, List.getElem?_eq_getElem hi⟩
  stop := fun H hs => ⟨us, hs.seq h, Nat.le_refl _⟩
  step := fun i H x H' Kk hi hs hy hk => by
    obtain ⟨rfl, hx⟩ := hy
    have e := hx us (hs.seq h)
    obtain ⟨t, e1, e2⟩ := hp i hi
    rw [e1] at e
    cases e
    refine ⟨t, [xs i, ys i], rfl, .inl (.inl (hs _ _ e2)), rfl, xs i, [ys i], rfl, ys i, [], rfl, rfl, ?_⟩
    exact ⟨Wk.set (Wk.set (Wk.refl _) rfl) rfl, hk _ (Same.refl _)⟩
end L2

set_option Elab.async false
set_option linter.all false
set_option maxRecDepth 100000
set_option maxHeartbeats 1000000
namespace My
open PySem PySem.Spec PyProof.Rows L2
def pS (p : Nat × Nat) : Str := nS p.1 ++ "<" ++ nS p.2
def textW (n : Nat) (ps : List (Nat × Nat)) : List Str := nS n :: ps.map pS
def textOf (n : Nat) (ps : List (Nat × Nat)) : Str := Txt.join " " (textW n ps)
theorem num_log {n : Nat} (h : n < 100000) : ((n : Int)).natAbs.log2 < 1920 := by
  rw [Int.natAbs_natCast]
  by_cases h0 : n = 0
  · rw [h0]; decide
  · exact (Nat.log2_lt h0).mpr (Nat.lt_of_lt_of_le h (Nat.le_trans (by decide : 100000 ≤ 2 ^ 17) (Nat.pow_le_pow_right (by decide) (by decide))))
theorem pS_ix (ps : List (Nat × Nat)) : ((List.range ps.length).map fun i => V.str (pS (ps.getD i (0, 0)))) = (ps.map pS).map V.str := by
  rw [List.map_map]
  apply List.ext_getElem?
  intro i
  rw [List.getElem?_map, List.getElem?_map]
  by_cases h : i < ps.length
  · rw [List.getElem?_range h, List.getElem?_eq_getElem h, Option.map_some, Option.map_some, List.getD_eq_getElem?_getD, List.getElem?_eq_getElem h]
    rfl
  · rw [List.getElem?_eq_none (by simp; omega), List.getElem?_eq_none (by omega)]
    rfl
theorem sum_bound {α : Type} {g : α → Nat} {B : Nat} : ∀ (l : List α), (∀ x ∈ l, g x ≤ B) → (l.map g).sum ≤ l.length * B
  | [], _ => by simp
  | x :: l, h => by
    have h1 := h x (List.mem_cons_self ..)
    have h2 := sum_bound l fun y hy => h y (List.mem_cons_of_mem _ hy)
    rw [List.map_cons, List.sum_cons, List.length_cons, Nat.succ_mul]
    omega
theorem textW_sum {n : Nat} {ps : List (Nat × Nat)} (hn : n ≤ 24) (hl : ps.length ≤ 1000) (h : ∀ p ∈ ps, p.1 < n ∧ p.2 < n) : ((textW n ps).map fun t => t.length + (" " : Str).length).sum ≤ 30000 := by
  have e : (" " : Str).length = 1 := rfl
  refine Nat.le_trans (sum_bound (B := 24) _ fun t ht => ?_) ?_
  · rw [e]
    rcases List.mem_cons.mp ht with rfl | ht
    · have := nS_len (n := n) (by omega)
      omega
    · obtain ⟨p, hp, rfl⟩ := List.mem_map.mp ht
      obtain ⟨h1, h2⟩ := h p hp
      have := pS_len (a := p.1) (b := p.2) (by omega) (by omega)
      show (nS p.1 ++ "<" ++ nS p.2).length + 1 ≤ 24
      omega
  · show (nS n :: ps.map pS).length * 24 ≤ 30000
    rw [List.length_cons, List.length_map]
    omega
theorem textW_free {n : Nat} {ps : List (Nat × Nat)} : ∀ t ∈ textW n ps, FreeOf 32 t := fun t ht => by
  rcases List.mem_cons.mp ht with rfl | ht
  · exact num_free (by omega)
  · obtain ⟨p, hp, rfl⟩ := List.mem_map.mp ht
    intro z
    have z' : 32 ∈ (nS p.1 ++ "<" ++ nS p.2).cps.toList := z
    rw [show (nS p.1 ++ "<" ++ nS p.2).cps = (nS p.1).cps ++ ("<" : Str).cps ++ (nS p.2).cps from rfl, Array.toList_append, Array.toList_append, List.mem_append, List.mem_append] at z'
    rcases z' with (z' | z') | z'
    · exact num_free (n := p.1) (c := 32) (by omega) z'
    · exact absurd z' (by decide)
    · exact num_free (n := p.2) (c := 32) (by omega) z'
theorem split_text (n : Nat) (ps : List (Nat × Nat)) : Txt.split (textOf n ps) " " = textW n ps := by
  rw [show (" " : Str) = ⟨#[32]⟩ from rfl]
  exact split_join (c := 32) (by unfold textW; simp) textW_free
theorem text_len {n : Nat} {ps : List (Nat × Nat)} (hn : n ≤ 24) (hl : ps.length ≤ 1000) (h : ∀ p ∈ ps, p.1 < n ∧ p.2 < n) : (textOf n ps).length ≤ 1000000 := by
  have e : textOf n ps = Str.join " " (textW n ps) := PySem.StrLaws.glued_eq_join _ _
  rw [e]
  have h1 := PySem.StrLaws.join_length_le " " (textW n ps)
  have h2 := textW_sum hn hl h
  have h3 : ((textW n ps).map fun t => t.length + (" " : Str).length).sum = ((textW n ps).map (·.length)).sum + (textW n ps).length * (" " : Str).length := by
    generalize textW n ps = l
    induction l with
    | nil => simp
    | cons t l ih => rw [List.map_cons, List.sum_cons, List.map_cons, List.sum_cons, List.length_cons, Nat.succ_mul, ih]; omega
  omega
theorem cutFrom3 (xs : List V) (k : Nat) : cutV xs (some (k : Int)) none = xs.drop k := by
  unfold cutV
  rw [HT.sIx_none, HT.sIx_nat]
  by_cases h : k ≤ xs.length
  · rw [Nat.min_eq_left h, List.take_of_length_le (by simp)]
  · rw [Nat.min_eq_right (by omega), List.drop_length, List.drop_of_length_le (by omega)]; simp
section
variable {P : Program} {w : World} {K : PySem.W.Frag} {mg : Str → Option Value} {base : Heap} {f : Addr} {fd : FuncData}
abbrev s_order_text : Stmt := top 36
theorem sc_order_text : FnScope ["order"] ["order"] (defScope s_order_text) := ⟨rfl, rfl, rfl, by decide +kernel, rfl, by decide +kernel, by decide +kernel⟩
def sp_order_text (C : Addr) : Sp := fun vs H Q _ => ∃ (p n : Nat) (R : Nat → Nat → Bool), vs = [.ref p] ∧ OrdAt C H p n R ∧ n ≤ 24 ∧ ∀ H', Same H H' → Q (.str (textOf n (stepsR n R))) H'
theorem ok_order_text {C : Addr} (F : Fun K "order_text" "order_text" s_order_text f fd) (T : Txt mg) (TC : ClsOk K C) (c_steps : Cal P w K mg base "steps" ["order"] 3 (sp_steps_of C)) : FnOk P w K mg base CX0 4 f fd ["order"] (sp_order_text C) := by
  refine F.ok sc_order_text (fun vs H Q E h => ?_) (fun cdv A outer s H vs Q E hr h => ?_)
  · obtain ⟨p, n, R, rfl, _⟩ := h
    rfl
  · obtain ⟨p, n, R, rfl, hO, hn, kk⟩ := h
    have nd := sc_order_text.nd
    obtain ⟨dx, vp, vr, vj, vm, o1, _⟩ := id hO
    refine ⟨_, (pss_one (ps_ret (pe_bmK (K := K) rfl PySem.F.plainAttrs_str PySem.F.slot_str_join PySem.F.type_str_join (mt_join (K := K) rfl) pe_str (pa_cons (pe_op op_cat (pe_lst (pa_cons (pe_callTy call_str_int rfl T.str bt_str (pa_cons (pe_fldK (K := K) rfl (pv 0) rfl) pa_nil)) pa_nil)) (pe_comp (own := ["low", "high"]) (fr := []) rfl (blkOk (defScope s_order_text) ["order"] rfl rfl (by decide +kernel)) (pi_listK (K := K) rfl (pe_callC c_steps hr rfl (pa_cons (pv 0) pa_nil))) (fun _ _ _ _ => ⟨(pg_pair (K := K) (i := 0) (j := 1) rfl rfl (by decide +kernel : (["low", "high"] : List Str).Nodup) rfl rfl rfl rfl), pif_nil, (pe_fii (pv 0) (pv 1))⟩))) pa_nil)))), ?_⟩
    have hsl : (stepsR n R).length ≤ 1000 := Nat.le_trans (List.length_filter_le _ _) (Nat.le_trans (len_pairsL hn) (by decide))
    have hst : ∀ q ∈ stepsR n R, q.1 < n ∧ q.2 < n := fun q hq => by
      obtain ⟨h1, h2, _⟩ := mem_pairsL (List.mem_filter.mp hq).1
      exact ⟨h1, h2⟩
    refine ⟨rfl, _, rfl, p, C, dx, _, _, rfl, o1, TC.cl, TC.nC, flds_count' _ _ _ _ _, (n : Int), rfl, num_log (by omega), by show 1 ≤ sizeLine; decide, fun q hq => ?_⟩
    have s1 := Same.put hq (o := .lst [.str (nS n)])
    refine ⟨_, rfl, p, n, R, rfl, hO.same' s1, hn, fun l us H2 s2 hl0 hl hul hpu => ?_⟩
    have hql := Paired.length hpu
    refine ⟨l, rfl, ⟨_, SqL.of hl⟩, fun D hD => comp_all (fun i => .str (pS ((stepsR n R).getD i (0, 0)))) (src_pairs (xs := fun i => nV ((stepsR n R).getD i (0, 0)).1) (ys := fun i => nV ((stepsR n R).getD i (0, 0)).2) (SqL.of hl) (fun i hi => ?_)) hD (slk (by omega)) (fun i H3 Kt hi hs hk => ?_) (fun H3 hs hl3 => ?_)⟩
    · obtain ⟨c, hc, t, et, ht⟩ := paired_get hpu (List.getElem?_eq_getElem hi)
      have e : (stepsR n R).getD i (0, 0) = c := by rw [List.getD_eq_getElem?_getD, hc]; rfl
      rw [e]
      exact ⟨t, by rw [List.getElem?_eq_getElem hi, et], ht⟩
    · have hi' : i < (stepsR n R).length := by omega
      obtain ⟨h1, h2⟩ := hst ((stepsR n R).getD i (0, 0)) (by rw [List.getD_eq_getElem?_getD, List.getElem?_eq_getElem hi']; exact List.getElem_mem hi')
      exact ⟨_, rfl, _, rfl, num_log (by omega), _, rfl, _, rfl, num_log (by omega), hk _ (Same.refl _)⟩
    · rw [← hql, pS_ix] at hl3
      refine ⟨q, D, _, _, rfl, rfl, hs _ _ (s2 _ _ upd_same), hl3, ?_, fun L hL => ?_⟩
      · rw [List.length_map, List.length_map]
        have := @slk 100000 (by omega)
        show 1 + _ ≤ _
        omega
      · refine ⟨" ", L, textW n (stepsR n R), rfl, rfl, SqL.of upd_same, ?_, kk _ (s1.trans (s2.trans (hs.trans (Same.put hL))))⟩
        have := textW_sum hn hsl hst
        have h2 := @slk 100000 (by omega)
        omega
abbrev s_read_order : Stmt := top 37
theorem sc_read_order : FnScope ["text", "words", "place", "word"] ["text"] (defScope s_read_order) := ⟨rfl, rfl, rfl, by decide +kernel, rfl, by decide +kernel, by decide +kernel⟩
def sp_read_order (C : Addr) : Sp := fun vs H Q _ => ∃ (n : Nat) (ps : List (Nat × Nat)), vs = [.str (textOf n ps)] ∧ 1 ≤ n ∧ n ≤ 24 ∧ ps.length ≤ 1000 ∧ (∀ p ∈ ps, p.1 < n ∧ p.2 < n) ∧ (∀ R, Ev.Clos n ps R → Good n R) ∧
  ∀ z R H', Same H H' → Ev.Clos n ps R → OrdAt C H' z n R → Q (.ref z) H'
theorem ok_read_order {C : Addr} (F : Fun K "read_order" "read_order" s_read_order f fd) (T : Txt mg) (TC : ClsOk K C) (c_is_number : Cal P w K mg base "is_number" ["word"] 1 sp_is_number) (c_is_pair : Cal P w K mg base "is_pair" ["word"] 2 sp_is_pair) (c_read_pair : Cal P w K mg base "read_pair" ["word"] 1 sp_read_pair) (c_Order : CalMk P w K mg base C "Order" ["self", "count", "pairs"] 5 (sp_init K C)) : FnOk P w K mg base CX0 7 f fd ["text"] (sp_read_order C) := by
  refine F.ok sc_read_order (fun vs H Q E h => ?_) (fun cdv A outer s H vs Q E hr h => ?_)
  · obtain ⟨n, ps, rfl, _⟩ := h
    rfl
  · obtain ⟨n, ps, rfl, hn1, hn, hl, hlt, hG, kk⟩ := h
    have nd := sc_read_order.nd
    refine ⟨_, (pss_cons (ps_set (i := 1) nd rfl (Or.inl rfl) (pe_bmK (K := K) rfl PySem.F.plainAttrs_str PySem.F.slot_str_split PySem.F.type_str_split mt_split (pv 0) (pa_cons pe_str pa_nil)))
      (pss_cons (ps_if (pt_not (pt_val (pe_callC c_is_number hr rfl (pa_cons (pe_ix (ix_listK (K := K) rfl) (pv 1) pe_int (fun _ _ => rfl)) pa_nil)))) (pss_one ps_never) pss_nil)
      (pss_cons (ps_for PassesOwn.never rfl (pi_enumK (K := K) true rfl rfl T.enumerate (pa_cons (pv 1) pa_nil)) (pg_pair (K := K) (i := 2) (j := 3) rfl rfl nd rfl rfl rfl rfl)
      (pss_one (ps_if (PW.pt (pw_and (pt_cmpR op_gt (pv 2) pe_int (nomark _)) (pw_and1 (pt_not (pt_val (pe_callC c_is_pair hr rfl (pa_cons (pv 3) pa_nil))))))) (pss_one ps_never) pss_nil)))
      (pss_one (ps_ret (pe_makeC c_Order hr rfl (pa_cons (pe_callTy call_intS rfl T.int bt_int (pa_cons (pe_ix (ix_listK (K := K) rfl) (pv 1) pe_int (fun _ _ => rfl)) pa_nil)) (pa_cons (pe_comp (own := ["word"]) (fr := []) rfl (blkOk (defScope s_read_order) ["text", "words", "place", "word"] rfl rfl (by decide +kernel)) (pi_listK (K := K) rfl (pe_slice (sl_listK (K := K) rfl) (pv 1) (po_some pe_int) po_none)) (fun _ _ _ _ => ⟨(pg_name (i := 0) (by decide +kernel : (["word"] : List Str).Nodup) rfl (Or.inl rfl)), pif_nil, (pe_callC c_read_pair hr rfl (pa_cons (pv 0) pa_nil))⟩)) pa_nil)))))))), ?_⟩
    refine ⟨_, rfl, rfl, _, _, rfl, rfl, rfl, text_len hn hl hlt, fun l hl1 => ?_⟩
    rw [split_text]
    dsimp only [gName]
    have s1 := Same.put hl1 (o := .lst ((textW n ps).map V.str))
    have q1 : (upd H l (.lst ((textW n ps).map V.str))) l = some (.lst ((textW n ps).map V.str)) := upd_same
    generalize upd H l (.lst ((textW n ps).map V.str)) = H1 at s1 q1 ⊢
    show tSeq _ _ _ [some (.str (textOf n ps)), some (.ref l), none, none] _
    refine ⟨_, rfl, l, _, 0, _, rfl, rfl, SqL.of q1, atI_nat (j := 0) rfl, n, rfl, by omega, fun H2 s2 => ⟨_, rfl, iteF ?_⟩⟩
    have q2 := s2 _ _ q1
    show tSeq _ _ _ [some (.str (textOf n ps)), some (.ref l), none, none] _
    refine ⟨_, rfl, l, _, rfl, SqL.of q2, for_enum (K := K) (c := true) (l := l) (xs := (textW n ps).map V.str) (fun i σ H3 => ∃ (v2 v3 : Option V), σ = [some (.str (textOf n ps)), some (.ref l), v2, v3] ∧ Same H2 H3) ⟨none, none, rfl, Same.refl _⟩ (fun i σ H3 ⟨_, _, _, s3⟩ => SqL.of (s3 _ _ q2)) ?_ ?_⟩
    · rintro i x σ H3 Tt hx hTt ⟨v2, v3, rfl, s3⟩
      have sT := Same.put hTt (o := .tup [V.int (i : Int), x])
      refine ⟨Tt, _, rfl, SqT.of upd_same, rfl, _, _, rfl, _, _, rfl, rfl, ?_⟩
      dsimp only [gName]
      refine ⟨_, rfl, _, _, rfl, rfl, _, rfl, ?_⟩
      match i, hx with
      | 0, _ => exact iteF (iteF ⟨_, _, rfl, s3.trans sT⟩)
      | i + 1, hx =>
        rw [decide_eq_true (show (0 : Int) < ((i + 1 : Nat) : Int) by omega)]
        have hx' : ((ps.map pS).map V.str)[i]? = some x := hx
        rw [List.map_map, List.getElem?_map] at hx'
        cases hp : ps[i]? with
        | none => rw [hp] at hx'; cases hx'
        | some p =>
          rw [hp] at hx'
          cases hx'
          obtain ⟨h1, h2⟩ := hlt p (List.mem_of_getElem? hp)
          refine iteT ⟨_, rfl, p.1, p.2, rfl, by omega, by omega, fun H4 s4 => ⟨_, rfl, iteF ?_⟩⟩
          exact ⟨_, _, rfl, s3.trans (sT.trans s4)⟩
    · rintro σ H3 ⟨v2, v3, rfl, s3⟩
      have q3 := s3 _ _ q2
      have ln := nS_len (n := n) (by omega)
      refine ⟨_, rfl, l, _, 0, _, rfl, rfl, SqL.of q3, atI_nat (j := 0) rfl, nS n, (n : Int), rfl, nS_int (by omega), by omega, _, rfl, _, rfl, l, _, rfl, SqL.of q3, fun l2 hl2 => ?_⟩
      have t2 := Same.put hl2 (o := .lst ((ps.map pS).map V.str))
      have ec : cutV ((textW n ps).map V.str) (some 1) none = (ps.map pS).map V.str := by
        rw [show (some (1 : Int)) = some ((1 : Nat) : Int) from rfl, cutFrom3]
        rfl
      rw [ec]
      refine ⟨l2, rfl, ⟨_, SqL.of upd_same⟩, fun D hD => comp_allR (fun i v H => ∃ t, v = .ref t ∧ t ≠ D ∧ H t = some (.tup [.int ((ps.getD i (0, 0)).1 : Int), .int ((ps.getD i (0, 0)).2 : Int)])) (src_list (SqL.of upd_same)) hD (by rw [List.length_map, List.length_map]; exact slk (by omega)) (fun i v H H' s ⟨b, e, hb, q⟩ => ⟨b, e, hb, s _ _ hb q⟩) (fun i H5 Kt hi hs hy hk => ?_) (fun H5 ys hs hl5 hp5 => ?_)⟩
      · rw [List.length_map, List.length_map] at hi
        obtain ⟨zs, hz⟩ := hy
        have em : ps[i] = ps.getD i (0, 0) := by rw [List.getD_eq_getElem?_getD, List.getElem?_eq_getElem hi]; rfl
        obtain ⟨h1, h2⟩ := hlt (ps.getD i (0, 0)) (by rw [← em]; exact List.getElem_mem hi)
        have ew : ((ps.map pS).map V.str).getD i .non = .str (pS (ps.getD i (0, 0))) := by
          rw [List.map_map, List.getD_eq_getElem?_getD, List.getElem?_map, List.getElem?_eq_getElem hi, ← em]
          rfl
        refine ⟨_, rfl, (ps.getD i (0, 0)).1, (ps.getD i (0, 0)).2, by rw [ew]; rfl, by omega, by omega, fun t H6 s6 ht => hk _ _ s6 ⟨t, rfl, fun e => ?_, ht⟩⟩
        rw [e, s6 _ _ hz] at ht
        cases ht
      · rw [List.length_map, List.length_map] at hp5
        have sA : Same H H5 := s1.trans (s2.trans (s3.trans (t2.trans hs)))
        refine fun x dx hx hdx hne => ?_
        have s6 : Same H5 (upd (upd H5 dx (.own x)) x (.ins C dx [])) := fun b o e => by
          rw [upd_ne (ne_of_none e hx), upd_ne (ne_of_none e hdx)]
          exact e
        have hpp : Paired (pairV H5) ps ys := by
          have e : ps = (List.range ps.length).map fun i => ps.getD i (0, 0) := by
            apply List.ext_getElem
            · simp
            · intro i h1 h2
              simp [List.getD_eq_getElem?_getD, List.getElem?_eq_getElem h1]
          rw [e]
          refine paired_mapL (Paired.mapP hp5 fun i v ⟨t, e, _, q⟩ => ⟨t, e, q⟩)
        refine ⟨x, dx, n, D, ps, rfl, upd_same, ⟨ys, SqL.of (s6 _ _ hl5), pairsV.same s6 hpp⟩, hn1, hn, hlt, hG, fun H6 R fr hC hO => ⟨rfl, ?_⟩⟩
        exact kk x R H6 (sA.trans fun b o e => fr b o (s6 _ _ e) (ne_of_none e hx)) hC hO
end
end My

set_option Elab.async false
set_option linter.all false
set_option maxRecDepth 100000
namespace My
open PySem PySem.Spec PyProof.Rows L2
theorem two_iff {a b : Nat} (hab : a ≠ b) {l : List Nat} (nd : l.Nodup) (ha : a ∈ l) (hb : b ∈ l) : l.length = 2 ↔ ∀ t ∈ l, t = a ∨ t = b := by
  have hb1 : b ∈ l.erase a := nd.mem_erase_iff.mpr ⟨Ne.symm hab, hb⟩
  have l1 := List.length_erase_of_mem ha
  have l2 := List.length_erase_of_mem hb1
  have p1 := List.length_pos_of_mem ha
  have p2 := List.length_pos_of_mem hb1
  have nd1 := nd.erase a
  constructor
  · intro h t ht
    by_cases e1 : t = a
    · exact .inl e1
    by_cases e2 : t = b
    · exact .inr e2
    have m : t ∈ (l.erase a).erase b := nd1.mem_erase_iff.mpr ⟨e2, nd.mem_erase_iff.mpr ⟨e1, ht⟩⟩
    have := List.length_pos_of_mem m
    omega
  · intro h
    have e : (l.erase a).erase b = [] := List.eq_nil_iff_forall_not_mem.mpr fun t ht => by
      obtain ⟨n2, ht⟩ := nd1.mem_erase_iff.mp ht
      obtain ⟨n1, ht⟩ := nd.mem_erase_iff.mp ht
      rcases h t ht with e | e
      · exact n1 e
      · exact n2 e
    rw [e] at l2
    simp at l2
    omega
theorem stepR_stB {n : Nat} {R R' : Nat → Nat → Bool} (hr : ∀ a, a < n → R a a = true) (hR : ∀ a b, a < n → b < n → R' a b = R a b) {a b : Nat} (ha : a < n) (hb : b < n) : stepR n R' a b = stB n R a b := by
  unfold stepR stB belR
  by_cases hab : a = b
  · simp [hab]
  rw [hR a b ha hb]
  cases h : R a b with
  | false => simp
  | true =>
    rw [decide_eq_false hab]
    show (true && !_) = (true && _)
    rw [Bool.true_and, Bool.true_and, Bool.eq_iff_iff]
    have hF : ∀ t, t ∈ ((List.range n).filter fun c => R a c && R c b) ↔ t < n ∧ R a t = true ∧ R t b = true := fun t => by
      rw [List.mem_filter, Bool.and_eq_true, List.mem_range]
    have key := two_iff hab (l := (List.range n).filter fun c => R a c && R c b) (List.nodup_range.filter _) ((hF a).mpr ⟨ha, hr a ha, h⟩) ((hF b).mpr ⟨hb, h, hr b hb⟩)
    rw [beq_iff_eq, key]
    constructor
    · intro q t ht
      obtain ⟨t1, t2, t3⟩ := (hF t).mp ht
      by_cases e1 : t = a
      · exact .inl e1
      by_cases e2 : t = b
      · exact .inr e2
      exfalso
      have : ((List.range n).any fun t => (!decide (a = t) && R' a t) && (!decide (t = b) && R' t b)) = true := by
        rw [List.any_eq_true]
        exact ⟨t, List.mem_range.mpr t1, by rw [hR a t ha t1, hR t b t1 hb, t2, t3, decide_eq_false (Ne.symm e1), decide_eq_false e2]; rfl⟩
      rw [this] at q
      cases q
    · intro q
      cases e : (List.range n).any fun t => (!decide (a = t) && R' a t) && (!decide (t = b) && R' t b) with
      | false => rfl
      | true =>
        exfalso
        rw [List.any_eq_true] at e
        obtain ⟨t, ht, e⟩ := e
        have t1 := List.mem_range.mp ht
        rw [hR a t ha t1, hR t b t1 hb] at e
        simp only [Bool.and_eq_true, Bool.not_eq_true', decide_eq_false_iff_not] at e
        rcases q t ((hF t).mpr ⟨t1, e.1.2, e.2.2⟩) with z | z
        · exact e.1.1 z.symm
        · exact e.2.1 z
def stepsTo (n : Nat) (R : Nat → Nat → Bool) (k : Nat) : List (Nat × Nat) := (List.range k).flatMap fun a => ((List.range n).filter fun b => stB n R a b).map fun b => (a, b)
theorem stepsR_stB {n : Nat} {R R' : Nat → Nat → Bool} (hr : ∀ a, a < n → R a a = true) (hR : ∀ a b, a < n → b < n → R' a b = R a b) : stepsR n R' = stepsTo n R n := by
  unfold stepsR stepsTo
  rw [pairsL_congr hR]
  unfold pairsL
  rw [List.filter_flatMap]
  have : ∀ a ∈ List.range n, ((((List.range n).filter fun h => !decide (a = h) && R a h).map fun h => (a, h)).filter fun q => stepR n R' q.1 q.2) = (((List.range n).filter fun b => stB n R a b).map fun b => (a, b)) := by
    intro a ha
    have ha' := List.mem_range.mp ha
    rw [List.filter_map, List.filter_filter]
    congr 1
    apply List.filter_congr
    intro b hb
    have hb' := List.mem_range.mp hb
    show (stepR n R' a b && (!decide (a = b) && R a b)) = stB n R a b
    rw [stepR_stB hr hR ha' hb']
    unfold stB
    cases decide (a = b) <;> cases R a b <;> simp
  rw [List.flatMap_def, List.flatMap_def, List.map_congr_left this]
theorem mem_stepsTo {n k : Nat} {R : Nat → Nat → Bool} {p : Nat × Nat} : p ∈ stepsTo n R k ↔ p.1 < k ∧ p.2 < n ∧ stB n R p.1 p.2 = true := by
  unfold stepsTo
  rw [List.mem_flatMap]
  constructor
  · rintro ⟨l, hl, h⟩
    obtain ⟨j, hj, rfl⟩ := List.mem_map.mp h
    obtain ⟨h1, h2⟩ := List.mem_filter.mp hj
    exact ⟨by simpa using hl, by simpa using h1, h2⟩
  · rintro ⟨h1, h2, h3⟩
    exact ⟨p.1, by simpa using h1, List.mem_map.mpr ⟨p.2, List.mem_filter.mpr ⟨by simpa using h2, h3⟩, rfl⟩⟩
theorem hand_steps (n : Nat) (R : Nat → Nat → Bool) : Hand3 n R (stepsTo n R n) := by
  refine ⟨fun p hp => ?_, fun p hp => ?_, fun a b ha hb h => mem_stepsTo.mpr ⟨ha, hb, h⟩⟩
  · obtain ⟨h1, h2, _⟩ := mem_stepsTo.mp hp
    exact ⟨h1, h2⟩
  · obtain ⟨_, _, h3⟩ := mem_stepsTo.mp hp
    unfold stB at h3
    rw [Bool.and_eq_true, Bool.and_eq_true] at h3
    exact h3.1.2
theorem stepsTo_len {n k : Nat} (R : Nat → Nat → Bool) (hn : n ≤ 24) : (stepsTo n R k).length ≤ 24 * k := by
  induction k with
  | zero => simp [stepsTo]
  | succ k ih =>
    have e : stepsTo n R (k + 1) = stepsTo n R k ++ ((List.range n).filter fun b => stB n R k b).map fun b => (k, b) := by unfold stepsTo; rw [range_flat]
    have := List.length_filter_le (fun b => stB n R k b) (List.range n)
    rw [List.length_range] at this
    rw [e, List.length_append, List.length_map]
    omega
end My

set_option Elab.async false
set_option linter.all false
set_option maxRecDepth 100000
namespace My
open PySem PySem.Spec PyProof.Rows L2
section
variable {P : Program} {w : World} {K : PySem.W.Frag} {mg : Str → Option Value} {base : Heap} {f : Addr} {fd : FuncData}
abbrev s_law_same : Stmt := top 42
theorem sc_law_same : FnScope ["_law_found", "_law_due", "_law_k"] ["_law_found", "_law_due"] (defScope s_law_same) := ⟨rfl, rfl, rfl, by decide +kernel, rfl, by decide +kernel, by decide +kernel⟩
def sp_same (R : Hp → V → V → Prop) : Sp := fun vs H Q _ => ∃ x y, vs = [x, y] ∧ R H x y ∧ ∀ H', Same H H' → Q (.bl true) H'
set_option maxHeartbeats 0 in
theorem ok_same {k : Nat} {R : Hp → V → V → Prop} (mono : ∀ H H' x y, Same H H' → R H x y → R H' x y) (F : Fun K "_law_same" "_law_same" s_law_same f fd) (T : Txt mg) (c_law_same : Cal P w K mg base "_law_same" ["_law_found", "_law_due"] k (sp_same R)) :
    FnOk P w K mg base CX0 (k + 1) f fd ["_law_found", "_law_due"] (sp_same (Like R)) := by
  refine F.ok sc_law_same (fun vs H Q E h => ?_) (fun cdv A outer s H vs Q E hr h => ?_)
  · obtain ⟨x, y, rfl, _⟩ := h
    rfl
  · obtain ⟨x, y, rfl, hL, kk⟩ := h
    have nd := sc_law_same.nd
    obtain ⟨c, hL⟩ : ∃ c : Bool, (Leaf x ∧ x = y) ∨ ∃ (a b : Nat) (xs ys : List V), x = .ref a ∧ y = .ref b ∧ HSq c H a xs ∧ HSq c H b ys ∧ Paired (R H) xs ys ∧ xs.length ≤ 1000 := by
      rcases hL with h | ⟨c, h⟩
      · exact ⟨true, .inl h⟩
      · exact ⟨c, .inr h⟩
    refine ⟨_, (pss_cons (ps_if (PW.pt (pw_or (pt_val (pe_callB (call_isinstK (K := K) "tuple" rfl) rfl T.isinstance boot_isinstance (pa_cons (pv 1) (pa_cons (pe_bltn (v := .ty "tuple") rfl T.tuple bt_tuple rfl) pa_nil)))) (pw_or1 (pt_val (pe_callB (call_isinstK (K := K) "list" rfl) rfl T.isinstance boot_isinstance (pa_cons (pv 1) (pa_cons (pe_bltn (v := .ty "list") rfl T.list bt_list rfl) pa_nil))))))) (pss_cons (ps_if (PW.pt (pw_or (pt_cmpR op_ne (pe_callB (call_isinstK (K := K) "tuple" rfl) rfl T.isinstance boot_isinstance (pa_cons (pv 0) (pa_cons (pe_bltn (v := .ty "tuple") rfl T.tuple bt_tuple rfl) pa_nil))) (pe_callB (call_isinstK (K := K) "tuple" rfl) rfl T.isinstance boot_isinstance (pa_cons (pv 1) (pa_cons (pe_bltn (v := .ty "tuple") rfl T.tuple bt_tuple rfl) pa_nil))) (nomark _)) (pw_or1 (pt_cmpR op_ne (pe_callB (call_isinstK (K := K) "list" rfl) rfl T.isinstance boot_isinstance (pa_cons (pv 0) (pa_cons (pe_bltn (v := .ty "list") rfl T.list bt_list rfl) pa_nil))) (pe_callB (call_isinstK (K := K) "list" rfl) rfl T.isinstance boot_isinstance (pa_cons (pv 1) (pa_cons (pe_bltn (v := .ty "list") rfl T.list bt_list rfl) pa_nil))) (nomark _))))) (pss_one (ps_ret pe_bl)) pss_nil)
      (pss_cons (ps_if (pt_cmpR op_ne (pe_callB (call_lenK (K := K) rfl) rfl T.len PySem.boot_len (pa_cons (pv 0) pa_nil)) (pe_callB (call_lenK (K := K) rfl) rfl T.len PySem.boot_len (pa_cons (pv 1) pa_nil)) (nomark _)) (pss_one (ps_ret pe_bl)) pss_nil)
      (pss_cons (ps_for PassesOwn.never rfl (pi_range1 rfl T.range (pa_cons (pe_callB (call_lenK (K := K) rfl) rfl T.len PySem.boot_len (pa_cons (pv 1) pa_nil)) pa_nil)) (pg_name (i := 2) nd rfl (Or.inl rfl))
      (pss_one (ps_if (pt_not (pt_val (pe_callC c_law_same hr rfl (pa_cons (pe_ix (ix_sqK (K := K) c rfl) (pv 0) (pv 2) (fun _ _ => rfl)) (pa_cons (pe_ix (ix_sqK (K := K) c rfl) (pv 1) (pv 2) (fun _ _ => rfl)) pa_nil)) (Nat.le_refl _)))) (pss_one (ps_ret pe_bl)) pss_nil)))
      (pss_one (ps_ret pe_bl))))) pss_nil)
      (pss_cons (ps_if (pt_val (pe_callB (call_isinstK (K := K) "bool" rfl) rfl T.isinstance boot_isinstance (pa_cons (pv 1) (pa_cons (pe_bltn (v := .ty "bool") rfl T.bool bt_bool rfl) pa_nil)))) (pss_one (ps_ret (pe_and (pe_callB (call_isinstK (K := K) "bool" rfl) rfl T.isinstance boot_isinstance (pa_cons (pv 0) (pa_cons (pe_bltn (v := .ty "bool") rfl T.bool bt_bool rfl) pa_nil))) (pe_one (pe_cmpR op_eq (pv 0) (pv 1) (nomark _)))))) pss_nil)
      (pss_cons (ps_if (pt_val (pe_callB (call_isinstK (K := K) "int" rfl) rfl T.isinstance boot_isinstance (pa_cons (pv 1) (pa_cons (pe_bltn (v := .ty "int") rfl T.int bt_int rfl) pa_nil)))) (pss_one (ps_ret (pe_and (pe_callB (call_isinstK (K := K) "int" rfl) rfl T.isinstance boot_isinstance (pa_cons (pv 0) (pa_cons (pe_bltn (v := .ty "int") rfl T.int bt_int rfl) pa_nil))) (pe_and (pe_not (pe_callB (call_isinstK (K := K) "bool" rfl) rfl T.isinstance boot_isinstance (pa_cons (pv 0) (pa_cons (pe_bltn (v := .ty "bool") rfl T.bool bt_bool rfl) pa_nil)))) (pe_one (pe_cmpR op_eq (pv 0) (pv 1) (nomark _))))))) pss_nil)
      (pss_cons (ps_if (pt_val (pe_callB (call_isinstK (K := K) "str" rfl) rfl T.isinstance boot_isinstance (pa_cons (pv 1) (pa_cons (pe_bltn (v := .ty "str") rfl T.str bt_str rfl) pa_nil)))) (pss_one (ps_ret (pe_and (pe_callB (call_isinstK (K := K) "str" rfl) rfl T.isinstance boot_isinstance (pa_cons (pv 0) (pa_cons (pe_bltn (v := .ty "str") rfl T.str bt_str rfl) pa_nil))) (pe_one (pe_cmpR op_eq (pv 0) (pv 1) (nomark _)))))) pss_nil)
      (pss_one (ps_ret (pe_and (pe_cmpR op_isN (pv 1) pe_non (nomark _)) (pe_one (pe_cmpR op_isN (pv 0) pe_non (nomark _)))))))))), ?_⟩
    rcases hL with ⟨⟨i, rfl⟩ | rfl | ⟨b, rfl⟩ | ⟨t, rfl⟩, rfl⟩ | ⟨a, b, xs, ys, rfl, rfl, hx, hy, hp, hlen⟩
    · skip
      refine ⟨_, rfl, _, _, _, rfl, .int i, rfl, _, rfl, iteF ?_⟩
      refine ⟨_, rfl, _, _, _, rfl, .int i, rfl, _, rfl, iteF ?_⟩
      refine ⟨_, rfl, _, _, _, rfl, .int i, rfl, _, rfl, iteF ?_⟩
      refine ⟨_, rfl, _, _, _, rfl, .int i, rfl, _, rfl, iteT ?_⟩
      refine ⟨_, rfl, _, _, _, rfl, .int i, rfl, _, rfl, iteT ?_⟩
      refine ⟨_, rfl, _, _, _, rfl, .int i, rfl, _, rfl, _, rfl, iteT ?_⟩
      refine ⟨_, rfl, _, rfl, rfl, ?_⟩
      rw [decide_eq_true rfl]
      exact kk _ (Same.refl _)
    · skip
      refine ⟨_, rfl, _, _, _, rfl, .non, rfl, _, rfl, iteF ?_⟩
      refine ⟨_, rfl, _, _, _, rfl, .non, rfl, _, rfl, iteF ?_⟩
      refine ⟨_, rfl, _, _, _, rfl, .non, rfl, _, rfl, iteF ?_⟩
      refine ⟨_, rfl, _, _, _, rfl, .non, rfl, _, rfl, iteF ?_⟩
      refine ⟨_, rfl, _, _, _, rfl, .non, rfl, _, rfl, iteF ?_⟩
      refine ⟨_, rfl, rfl, _, rfl, ?_⟩
      rw [decide_eq_true rfl]
      refine iteT ⟨_, rfl, rfl, ?_⟩
      rw [decide_eq_true rfl]
      exact kk _ (Same.refl _)
    · skip
      refine ⟨_, rfl, _, _, _, rfl, .bl b, rfl, _, rfl, iteF ?_⟩
      refine ⟨_, rfl, _, _, _, rfl, .bl b, rfl, _, rfl, iteF ?_⟩
      refine ⟨_, rfl, _, _, _, rfl, .bl b, rfl, _, rfl, iteT ?_⟩
      refine ⟨_, rfl, _, _, _, rfl, .bl b, rfl, _, rfl, iteT ?_⟩
      refine ⟨_, rfl, _, rfl, rfl, ?_⟩
      rw [decide_eq_true rfl]
      exact kk _ (Same.refl _)
    · skip
      refine ⟨_, rfl, _, _, _, rfl, .str t, rfl, _, rfl, iteF ?_⟩
      refine ⟨_, rfl, _, _, _, rfl, .str t, rfl, _, rfl, iteF ?_⟩
      refine ⟨_, rfl, _, _, _, rfl, .str t, rfl, _, rfl, iteF ?_⟩
      refine ⟨_, rfl, _, _, _, rfl, .str t, rfl, _, rfl, iteF ?_⟩
      refine ⟨_, rfl, _, _, _, rfl, .str t, rfl, _, rfl, iteT ?_⟩
      refine ⟨_, rfl, _, _, _, rfl, .str t, rfl, _, rfl, iteT ?_⟩
      refine ⟨_, rfl, _, rfl, rfl, ?_⟩
      rw [decide_eq_true rfl]
      exact kk _ (Same.refl _)
    · have hlen2 : ys.length = xs.length := (Paired.length hp).symm
      have el : ((ys.length : Int)).toNat = ys.length := Int.toNat_natCast _
      have lx : SqL K H a xs ∨ SqT K H a xs := by
        cases c with
        | true => exact .inl (SqL.of hx)
        | false => exact .inr (SqT.of hx)
      have ly : SqL K H b ys ∨ SqT K H b ys := by
        cases c with
        | true => exact .inl (SqL.of hy)
        | false => exact .inr (SqT.of hy)
      have body : ∀ (D : Ends), D.rt = Q → (tFor (iRng1 (tCons (tCB (rLen K) (tCons (tVar 1) tNil)) tNil)) (gName 2)
          (tIfS (tNot (tB (tCall (sp_same R) [] E0 (tCons (tOp (rIxSq K c) (tVar 0) (tVar 2)) (tCons (tOp (rIxSq K c) (tVar 1) (tVar 2)) tNil))))) (tRet (tC (.bl false))) tNext)) { D with nx := fun σ H => tRet (tC (.bl true)) D σ H } [some (.ref a), some (.ref b), none] H := by
        intro D hD
        refine ⟨_, rfl, b, _, rfl, ly, _, rfl, (n62 (by omega)).1, (n62 (by omega)).2, for_range (lo := 0) (n := ((ys.length : Int)).toNat) (fun i σ H2 => ∃ v2, σ = [some (.ref a), some (.ref b), v2] ∧ Same H H2) ⟨none, rfl, Same.refl _⟩ ?_ ?_⟩
        · rintro i σ H2 hi ⟨v2, rfl, s2⟩
          rw [el] at hi
          obtain ⟨p, hp1, hp2⟩ := paired_get hp (show ys[i]? = some ys[i] from List.getElem?_eq_getElem hi)
          refine ⟨_, rfl, _, rfl, a, xs, _, p, rfl, rfl, s2.sq hx.sq, at0 hp1, _, rfl, _, rfl, b, ys, _, ys[i], rfl, rfl, s2.sq hy.sq, at0 (List.getElem?_eq_getElem hi), _, _, rfl, mono _ _ _ _ s2 hp2, fun H3 s3 => ⟨_, rfl, iteF ⟨_, rfl, s2.trans s3⟩⟩⟩
        · rintro σ H2 ⟨v2, rfl, s2⟩
          show D.rt (.bl true) H2
          rw [hD]
          exact kk _ s2
      have lens : ∀ (D : Ends), D.rt = Q → (tSeq (tIfS (tTest (tOp rNe (tCB (rLen K) (tCons (tVar 0) tNil)) (tCB (rLen K) (tCons (tVar 1) tNil)))) (tRet (tC (.bl false))) tNext)
          (tSeq (tFor (iRng1 (tCons (tCB (rLen K) (tCons (tVar 1) tNil)) tNil)) (gName 2)
            (tIfS (tNot (tB (tCall (sp_same R) [] E0 (tCons (tOp (rIxSq K c) (tVar 0) (tVar 2)) (tCons (tOp (rIxSq K c) (tVar 1) (tVar 2)) tNil))))) (tRet (tC (.bl false))) tNext)) (tRet (tC (.bl true))))) D [some (.ref a), some (.ref b), none] H := by
        intro D hD
        refine ⟨_, rfl, a, _, rfl, lx, _, rfl, b, _, rfl, ly, rfl, _, rfl, ?_⟩
        rw [hlen2]
        refine iteNS rfl ?_
        exact body D hD
      cases c with
      | true =>
        refine ⟨_, rfl, _, _, _, rfl, .lst hy, rfl, _, rfl, iteF ?_⟩
        refine ⟨_, rfl, _, _, _, rfl, .lst hy, rfl, _, rfl, iteT ?_⟩
        refine ⟨_, rfl, _, _, _, rfl, .lst hx, rfl, _, rfl, _, _, _, rfl, .lst hy, rfl, rfl, _, rfl, iteF ?_⟩
        refine ⟨_, rfl, _, _, _, rfl, .lst hx, rfl, _, rfl, _, _, _, rfl, .lst hy, rfl, rfl, _, rfl, iteF ?_⟩
        exact lens _ rfl
      | false =>
        refine ⟨_, rfl, _, _, _, rfl, .tup hy, rfl, _, rfl, iteT (iteT ?_)⟩
        refine ⟨_, rfl, _, _, _, rfl, .tup hx, rfl, _, rfl, _, _, _, rfl, .tup hy, rfl, rfl, _, rfl, iteF ?_⟩
        refine ⟨_, rfl, _, _, _, rfl, .tup hx, rfl, _, rfl, _, _, _, rfl, .tup hy, rfl, rfl, _, rfl, iteF ?_⟩
        exact lens _ rfl
end
theorem ok_same0 {P : Program} {w : World} {K : PySem.W.Frag} {mg : Str → Option Value} {base : Heap} {f : Addr} {fd : FuncData} : FnOk P w K mg base CX0 0 f fd ["_law_found", "_law_due"] (sp_same fun _ _ _ => False) :=
  ⟨fun _ _ _ _ ⟨_, _, _, h, _⟩ => h.elim, fun _ _ _ _ _ _ _ _ _ _ _ _ _ ⟨_, _, _, h, _⟩ => h.elim⟩
end My

set_option Elab.async false
set_option linter.all false
set_option maxRecDepth 100000
set_option maxHeartbeats 1000000
namespace My
open PySem PySem.Spec PyProof.Rows L2
abbrev R4 := Like R3
section
variable {P : Program} {w : World} {K : PySem.W.Frag} {mg : Str → Option Value} {base : Heap} {f : Addr} {fd : FuncData}
abbrev s_law_is : Stmt := top 52
theorem sc_law_is : FnScope ["_law_order", "_law_ups_here"] ["_law_order", "_law_ups_here"] (defScope s_law_is) := ⟨rfl, rfl, rfl, by decide +kernel, rfl, by decide +kernel, by decide +kernel⟩
def sp_is3 (K : PySem.W.Frag) (C : Addr) : Sp := fun vs H Q _ => ∃ (p u n : Nat) (R : Nat → Nat → Bool) (us : List Nat), vs = [.ref p, .ref u] ∧ OrdOf C H p n R ∧ SqL K H u (us.map nV) ∧ Ups n R us ∧ n ≤ 24 ∧ ∀ H', Same H H' → Q (.bl true) H'
theorem ok_is3 {C : Addr} (F : Fun K "_law_is" "_law_is" s_law_is f fd) (T : Txt mg) (TC : ClsOk K C) (c_law_pairs : Cal P w K mg base "_law_pairs" ["_law_ups_here"] 1 (sp_pairs3 K)) (c_law_same : Cal P w K mg base "_law_same" ["_law_found", "_law_due"] 4 (sp_same R4)) :
    FnOk P w K mg base CX0 5 f fd ["_law_order", "_law_ups_here"] (sp_is3 K C) := by
  refine F.ok sc_law_is (fun vs H Q E h => ?_) (fun cdv A outer s H vs Q E hr h => ?_)
  · obtain ⟨p, u, n, R, us, rfl, _⟩ := h
    rfl
  · obtain ⟨p, u, n, R, us, rfl, ⟨R', hO, hR⟩, hu, hU, hn, kk⟩ := h
    have nd := sc_law_is.nd
    obtain ⟨dx, vp, vr, vj, vm, o1, o2, _⟩ := id hO
    refine ⟨_, (pss_one (ps_ret (pe_callC c_law_same hr rfl (pa_cons (pe_tup (pa_cons (pe_fldK (K := K) rfl (pv 0) rfl) (pa_cons (pe_fldK (K := K) rfl (pv 0) rfl) pa_nil))) (pa_cons (pe_tup (pa_cons (pe_callB (call_lenK (K := K) rfl) rfl T.len PySem.boot_len (pa_cons (pv 1) pa_nil)) (pa_cons (pe_callTy (call_tupleK (K := K) rfl) rfl T.tuple bt_tuple (pa_cons (pe_callC c_law_pairs hr rfl (pa_cons (pv 1) pa_nil)) pa_nil)) pa_nil))) pa_nil))))), ?_⟩
    refine ⟨_, rfl, p, C, dx, _, _, rfl, o1, TC.cl, TC.nC, flds_count _ _ _ _ _, _, rfl, p, C, dx, _, _, rfl, o1, TC.cl, TC.nP, flds_pairs _ _ _ _ _, by show 2 ≤ sizeLine; decide, fun t ht => ?_⟩
    have s1 := Same.put ht (o := .tup [V.int (n : Int), vp])
    refine ⟨_, rfl, u, _, rfl, .inl (s1.seq hu), _, rfl, u, n, R, us, rfl, s1.seq hu, hU, hn, fun l ws H2 s2 hl0 hl hwl hpw => ?_⟩
    refine ⟨l, ws, rfl, .inl ⟨SqL.of hl, fun q hq => ?_⟩⟩
    have s3 := Same.put hq (o := .tup ws)
    refine ⟨by show 2 ≤ sizeLine; decide, fun t2 ht2 => ?_⟩
    have s4 := Same.put ht2 (o := .tup [V.int (((us.map nV).length : Nat) : Int), .ref q])
    have s14 := s2.trans (s3.trans s4)
    have s04 := s1.trans s14
    obtain ⟨a, xs, rfl, q1, q2⟩ := o2.same s04
    rw [pairsL_congr hR] at q2
    have hpw4 := pairsV.same (s3.trans s4) hpw
    have hxl : xs.length ≤ 1000 := by
      have h1 := Paired.length q2
      have h2 := Paired.length hpw4
      omega
    refine ⟨.ref t, .ref t2, rfl, .inr ⟨false, t, t2, _, _, rfl, rfl, s14 _ _ upd_same, upd_same, .cons (.inl ⟨.inl ⟨_, rfl⟩, ?_⟩) (.cons (.inr ⟨false, a, q, xs, ws, rfl, rfl, q1, s4 _ _ upd_same, ?_, hxl⟩) .nil), by show 2 ≤ 1000; decide⟩, fun H5 s5 => kk H5 (s04.trans s5)⟩
    · rw [List.length_map, hU.len]
    · exact paired_both (F := pairV _) (G := pairV _) (R := R2' _) (fun p x y h1 h2 => pair_like h1 h2) q2 hpw4
end
end My

set_option Elab.async false
set_option linter.all false
set_option maxRecDepth 100000
set_option maxHeartbeats 4000000
namespace My
open PySem PySem.Spec PyProof.Rows L2
theorem fam_chain : ∀ n, n < 6 → Fam ((List.range (1 + n)).map fun k => 2 ^ k - 1) ∧ ∀ x ∈ (List.range (1 + n)).map fun k => 2 ^ k - 1, x < 256 := by
  have h : ∀ n, n < 6 → ((List.range (1 + n)).map fun k => 2 ^ k - 1).Nodup ∧ (∀ x ∈ (List.range (1 + n)).map fun k => 2 ^ k - 1, ∀ y ∈ (List.range (1 + n)).map fun k => 2 ^ k - 1, x &&& y ∈ (List.range (1 + n)).map fun k => 2 ^ k - 1) ∧
      (∃ t ∈ (List.range (1 + n)).map fun k => 2 ^ k - 1, ∀ x ∈ (List.range (1 + n)).map fun k => 2 ^ k - 1, x &&& t = x) ∧ ∀ x ∈ (List.range (1 + n)).map fun k => 2 ^ k - 1, x < 256 := by decide +kernel
  intro n hn
  obtain ⟨h1, h2, h3, h4⟩ := h n hn
  exact ⟨⟨h1, h2, h3⟩, h4⟩
def starM (n : Nat) : List Nat := [0] ++ (List.range n).map (fun k => 2 ^ k) ++ [2 ^ n - 1]
theorem fam_star : ∀ n, n < 4 → Fam (starM (2 + n)) ∧ ∀ x ∈ starM (2 + n), x < 256 := by
  have h : ∀ n, n < 4 → (starM (2 + n)).Nodup ∧ (∀ x ∈ starM (2 + n), ∀ y ∈ starM (2 + n), x &&& y ∈ starM (2 + n)) ∧
      (∃ t ∈ starM (2 + n), ∀ x ∈ starM (2 + n), x &&& t = x) ∧ ∀ x ∈ starM (2 + n), x < 256 := by decide +kernel
  intro n hn
  obtain ⟨h1, h2, h3, h4⟩ := h n hn
  exact ⟨⟨h1, h2, h3⟩, h4⟩
def othersM : List (List Nat) := [[0, 1], [0, 1, 3], [0, 1, 2, 3], [0, 1, 2, 4, 7], [0, 1, 3, 7]]
theorem fam_other : ∀ O ∈ othersM, Fam O ∧ O.length ≤ 5 ∧ ∀ x ∈ O, x < 8 := by
  have h : ∀ O ∈ othersM, O.Nodup ∧ (∀ x ∈ O, ∀ y ∈ O, x &&& y ∈ O) ∧ (∃ t ∈ O, ∀ x ∈ O, x &&& t = x) ∧ O.length ≤ 5 ∧ ∀ x ∈ O, x < 8 := by decide +kernel
  intro O hO
  obtain ⟨h1, h2, h3, h4, h5⟩ := h O hO
  exact ⟨⟨h1, h2, h3⟩, h4, h5⟩
def besM (F O : List Nat) : List Nat := O.flatMap fun m => F.map fun x => x ||| m * 2 ^ 8
theorem or_meet {x y : Nat} (hx : x < 256) (hy : y < 256) (m k : Nat) : (x ||| m * 2 ^ 8) &&& (y ||| k * 2 ^ 8) = (x &&& y) ||| (m &&& k) * 2 ^ 8 := by
  apply Nat.eq_of_testBit_eq
  intro i
  simp only [← Nat.shiftLeft_eq, Nat.testBit_and, Nat.testBit_or, Nat.testBit_shiftLeft]
  by_cases hi : 8 ≤ i
  · have h1 : x.testBit i = false := Nat.testBit_lt_two_pow (Nat.lt_of_lt_of_le hx (Nat.pow_le_pow_right (n := 2) (i := 8) (by decide) hi))
    have h2 : y.testBit i = false := Nat.testBit_lt_two_pow (Nat.lt_of_lt_of_le hy (Nat.pow_le_pow_right (n := 2) (i := 8) (by decide) hi))
    simp [h1, h2, hi]
  · simp [hi]
theorem or_inj {x y m k : Nat} (hx : x < 256) (hy : y < 256) (h : x ||| m * 2 ^ 8 = y ||| k * 2 ^ 8) : x = y ∧ m = k := by
  have e : ∀ {z n : Nat}, z < 256 → z ||| n * 2 ^ 8 = 2 ^ 8 * n + z := fun {z n} hz => by
    rw [Nat.two_pow_add_eq_or_of_lt (i := 8) hz, Nat.or_comm, Nat.mul_comm]
  rw [e hx, e hy] at h
  omega
theorem Fam.bes {F O : List Nat} (hF : Fam F) (hb : ∀ x ∈ F, x < 256) (hO : Fam O) : Fam (besM F O) := by
  have mem : ∀ z, z ∈ besM F O ↔ ∃ m ∈ O, ∃ x ∈ F, z = x ||| m * 2 ^ 8 := fun z => by
    unfold besM
    rw [List.mem_flatMap]
    constructor
    · rintro ⟨m, hm, h⟩
      obtain ⟨x, hx, rfl⟩ := List.mem_map.mp h
      exact ⟨m, hm, x, hx, rfl⟩
    · rintro ⟨m, hm, x, hx, rfl⟩
      exact ⟨m, hm, List.mem_map.mpr ⟨x, hx, rfl⟩⟩
  refine ⟨?_, fun z hz z2 hz2 => ?_, ?_⟩
  · unfold besM List.Nodup
    rw [List.pairwise_flatMap]
    refine ⟨fun m _ => List.pairwise_map.mpr (hF.nd.imp_of_mem fun {x y} hx hy hne e => hne (or_inj (hb x hx) (hb y hy) e).1), hO.nd.imp fun hne z hz z2 hz2 e => ?_⟩
    obtain ⟨x, hx, rfl⟩ := List.mem_map.mp hz
    obtain ⟨y, hy, rfl⟩ := List.mem_map.mp hz2
    exact hne (or_inj (hb x hx) (hb y hy) e).2
  · obtain ⟨m, hm, x, hx, rfl⟩ := (mem z).mp hz
    obtain ⟨k, hk, y, hy, rfl⟩ := (mem z2).mp hz2
    rw [or_meet (hb x hx) (hb y hy)]
    exact (mem _).mpr ⟨m &&& k, hO.meet m hm k hk, x &&& y, hF.meet x hx y hy, rfl⟩
  · obtain ⟨t, ht, ht2⟩ := hF.top
    obtain ⟨u, hu, hu2⟩ := hO.top
    refine ⟨t ||| u * 2 ^ 8, (mem _).mpr ⟨u, hu, t, ht, rfl⟩, fun z hz => ?_⟩
    obtain ⟨m, hm, x, hx, rfl⟩ := (mem z).mp hz
    show _ &&& _ = _
    rw [or_meet (hb x hx) (hb t ht), ht2 x hx, hu2 m hm]
theorem besM_len (F O : List Nat) : (besM F O).length = O.length * F.length := by
  unfold besM
  induction O with
  | nil => simp
  | cons m O ih => rw [List.flatMap_cons, List.length_append, ih, List.length_map, List.length_cons, Nat.succ_mul]; omega
def listsOf : List Expr → Option (List (List Int))
  | [] => some []
  | .List es _ :: r => match intsOf es, listsOf r with
    | some is, some iss => some (is :: iss)
    | _, _ => none
  | _ => none
def tLLs : List (List Int) → TA
  | [] => tNil
  | is :: r => tCons (tLst fun _ H Q => Q (is.map V.int) H) (tLLs r)
theorem pa_lls {X : Cx} : ∀ {es : List Expr} (iss : List (List Int)), listsOf es = some iss → PA X es (tLLs iss)
  | [], _, h => by
    cases h
    exact pa_nil
  | e :: es, iss, h => by
    cases e
    case List es2 pos =>
      unfold listsOf at h
      cases h1 : intsOf es2 with
      | none => rw [h1] at h; simp at h
      | some is =>
        cases h2 : listsOf es with
        | none => rw [h1, h2] at h; simp at h
        | some iss2 =>
          rw [h1, h2] at h
          cases h
          exact pa_cons (pe_lst (pa_ints is h1)) (pa_lls iss2 h2) (star_of (fun _ _ h => nomatch h))
    all_goals (simp [listsOf] at h)
def FSt (H H1 : Hp) (d most : Nat) (kd : Nat) (Lp : Addr) (c : List V → Prop) (σ : L2.St) (H' : Hp) : Prop := ∃ (v5 v6 v7 v8 : Option V) (L : Addr) (xs : List V), σ = [some (.ref d), some (.int most), some (.int kd), some (.ref Lp), some (.ref L), v5, v6, v7, v8] ∧ Same H1 H' ∧ H L = none ∧ H' L = some (.lst xs) ∧ c xs
def fam1 (xs : List V) : Prop := ∃ G : List Nat, xs = G.map nV ∧ Fam G ∧ G.length ≤ 24 ∧ ∀ x ∈ G, x < 256
def fam2 (xs : List V) : Prop := ∃ G : List Nat, xs = G.map nV ∧ Fam G ∧ G.length ≤ 120
def fam3 (xs : List V) : Prop := xs.length ≤ 24 → ∃ G : List Nat, xs = G.map nV ∧ Fam G
theorem cutNN (xs : List V) (k m : Nat) (h : m ≤ xs.length) : cutV xs (some (k : Int)) (some (m : Int)) = (xs.drop k).take (m - k) := by
  unfold cutV
  rw [HT.sIx_nat, HT.sIx_nat, Nat.min_eq_left h]
  by_cases hk : k ≤ xs.length
  · rw [Nat.min_eq_left hk]
  · rw [Nat.min_eq_right (by omega), show m - k = 0 by omega, show m - xs.length = 0 by omega]; simp
set_option maxHeartbeats 1000000
section
variable {P : Program} {w : World} {K : PySem.W.Frag} {mg : Str → Option Value} {base : Heap} {f : Addr} {fd : FuncData}
abbrev s_law_family : Stmt := top 46
theorem sc_law_family : FnScope ["_law_draws_here", "_law_most", "_law_kind", "_law_plain", "_law_found", "_law_size", "_law_other", "_law_grown", "_law_mask"] ["_law_draws_here", "_law_most"] (defScope s_law_family) := ⟨rfl, rfl, rfl, by decide +kernel, rfl, by decide +kernel, by decide +kernel⟩
def sp_family (K : PySem.W.Frag) : Sp := fun vs H Q _ => ∃ (d most : Nat) (ns : List Int), vs = [.ref d, .int most] ∧ SqL K H d (ns.map V.int) ∧ Small ns ∧ ns.length = 40 ∧ 1 ≤ most ∧ most ≤ 24 ∧
  ∀ L F H', Same H H' → H L = none → H' L = some (.lst (F.map nV)) → Fam F → F.length ≤ most → Q (.ref L) H'
theorem ok_family (F : Fun K "_law_family" "_law_family" s_law_family f fd) (T : Txt mg) (g_set : mg "set" = none) (c_law_masks : Cal P w K mg base "_law_masks" ["_law_numbers", "_law_wide", "_law_most"] 1 (sp_masks3 K)) (c_law_planes : Cal P w K mg base "_law_planes" ["_law_wide"] 2 (sp_planes K)) : FnOk P w K mg base CX0 3 f fd ["_law_draws_here", "_law_most"] (sp_family K) := by
  refine F.ok sc_law_family (fun vs H Q E h => ?_) (fun cdv A outer s H vs Q E hr h => ?_)
  · obtain ⟨d, most, ns, rfl, _⟩ := h
    rfl
  · obtain ⟨d, most, ns, rfl, hd, hs, hl, hm1, hm2, kk⟩ := h
    have nd := sc_law_family.nd
    have hr0 := hr.mono (Nat.zero_le 2)
    refine ⟨_, (@pss_cons _ _ _ _ _ (ps_set (i := 2) nd rfl (Or.inl rfl) (pe_op op_mod (pe_ix (ix_listK (K := K) rfl) (pv 0) pe_int (fun _ _ => rfl)) pe_int))
      (@pss_cons _ _ _ _ _ (ps_set (i := 3) nd rfl (Or.inl rfl) (pe_callC c_law_masks hr rfl (pa_cons (pe_slice (sl_listK (K := K) rfl) (pv 0) (po_some pe_int) (po_some pe_int)) (pa_cons (pe_op op_add pe_int (pe_op op_mod (pe_ix (ix_listK (K := K) rfl) (pv 0) pe_int (fun _ _ => rfl)) pe_int)) (pa_cons (pv 1) pa_nil (star_of (fun _ _ h => nomatch h))) (star_of (fun _ _ h => nomatch h))) (star_of (fun _ _ h => nomatch h)))))
      (@pss_cons _ _ _ _ _ (ps_setC (i := 4) nd rfl rfl (own := ["_law_k"]) (fr := []) rfl (blkOk (defScope s_law_family) ["_law_draws_here", "_law_most", "_law_kind", "_law_plain", "_law_found", "_law_size", "_law_other", "_law_grown", "_law_mask"] rfl rfl (by decide +kernel)) (pi_range1 rfl T.range (pa_cons (pe_op op_add pe_int (pe_op op_mod (pe_ix (ix_listK (K := K) rfl) (pv 0) pe_int (fun _ _ => rfl)) pe_int)) pa_nil)) (fun _ _ _ _ => ⟨(pg_name (i := 0) (by decide +kernel : (["_law_k"] : List Str).Nodup) rfl (Or.inl rfl)), pif_nil, (pe_op op_sub (pe_op op_shl pe_int (pv 0)) pe_int)⟩))
      (@pss_cons _ _ _ _ _ (ps_if (pt_cmpR op_eq (pe_op op_mod (pe_ix (ix_listK (K := K) rfl) (pv 0) pe_int (fun _ _ => rfl)) pe_int) pe_int (nomark _)) (@pss_cons _ _ _ _ _ (ps_set (i := 5) nd rfl (Or.inl rfl) (pe_op op_add pe_int (pe_op op_mod (pe_ix (ix_listK (K := K) rfl) (pv 0) pe_int (fun _ _ => rfl)) pe_int)))
      (pss_one (ps_set (i := 4) nd rfl (Or.inl rfl) (pe_op op_cat (pe_op op_cat (pe_lst (pa_cons pe_int pa_nil)) (pe_comp (own := ["_law_k"]) (fr := []) rfl (blkOk (defScope s_law_family) ["_law_draws_here", "_law_most", "_law_kind", "_law_plain", "_law_found", "_law_size", "_law_other", "_law_grown", "_law_mask"] rfl rfl (by decide +kernel)) (pi_range1 rfl T.range (pa_cons (pv 5) pa_nil)) (fun _ _ _ _ => ⟨(pg_name (i := 0) (by decide +kernel : (["_law_k"] : List Str).Nodup) rfl (Or.inl rfl)), pif_nil, (pe_op op_shl pe_int (pv 0))⟩))) (pe_lst (pa_cons (pe_op op_sub (pe_op op_shl pe_int (pv 5)) pe_int) pa_nil)))))) pss_nil)
      (@pss_cons _ _ _ _ _ (ps_if (pt_cmpR op_eq (pe_op op_mod (pe_ix (ix_listK (K := K) rfl) (pv 0) pe_int (fun _ _ => rfl)) pe_int) pe_int (nomark _)) (pss_one (ps_set (i := 4) nd rfl (Or.inl rfl) (pe_callC c_law_planes hr rfl (pa_cons (pe_op op_add pe_int (pe_op op_mod (pe_ix (ix_listK (K := K) rfl) (pv 0) pe_int (fun _ _ => rfl)) pe_int)) pa_nil)))) pss_nil)
      (@pss_cons _ _ _ _ _ (ps_if (pt_cmpR op_gt (pv 2) pe_int (nomark _)) (@pss_cons _ _ _ _ _ (@ps_set _ _ 6 _ _ _ _ nd rfl (Or.inl rfl) (@pe_ix _ _ _ _ _ _ _ (ix_listK (K := K) rfl) (@pe_lst _ _ _ _ (@pa_lls _ _ [[0, 1], [0, 1, 3], [0, 1, 2, 3], [0, 1, 2, 4, 7], [0, 1, 3, 7]] rfl)) (pe_op op_mod (pe_ix (ix_listK (K := K) rfl) (pv 0) pe_int (fun _ _ => rfl)) pe_int) (fun _ _ => rfl)) (by rfl) (by first | exact .inl rfl | exact .inr rfl))
      (@pss_cons _ _ _ _ _ (ps_set (i := 7) nd rfl (Or.inl rfl) (pe_lst pa_nil))
      (@pss_cons _ _ _ _ _ (ps_for PassesOwn.never rfl (pi_listK (K := K) rfl (pv 6)) (pg_name (i := 8) nd rfl (Or.inr rfl))
      (pss_one (ps_set (i := 7) nd rfl (Or.inl rfl) (pe_op op_cat (pv 7) (pe_comp (own := ["_law_one"]) (fr := [("_law_mask", 8)]) rfl (blkOk (defScope s_law_family) ["_law_draws_here", "_law_most", "_law_kind", "_law_plain", "_law_found", "_law_size", "_law_other", "_law_grown", "_law_mask"] rfl rfl (by decide +kernel)) (pi_listK (K := K) rfl (pv 4)) (fun _ _ _ _ => ⟨(pg_name (i := 0) (by decide +kernel : (["_law_one", "_law_mask"] : List Str).Nodup) rfl (Or.inl rfl)), pif_nil, (pe_op op_or (pv 0) (pe_op op_shl (pv 1) pe_int))⟩))))))
      (pss_one (ps_set (i := 4) nd rfl (Or.inl rfl) (pv 7)))))) pss_nil)
      (@pss_cons _ _ _ _ _ (ps_if (pt_cmpR op_gt (pv 2) pe_int (nomark _)) (@pss_cons _ _ _ _ _ (ps_set (i := 8) nd rfl (Or.inr rfl) (pe_op op_mod (pe_ix (ix_listK (K := K) rfl) (pv 0) pe_int (fun _ _ => rfl)) pe_int))
      (pss_one (ps_set (i := 4) nd rfl (Or.inl rfl) (pe_callB (call_sortSet hr0) rfl T.sorted boot_sortedS (pa_cons (pe_callTy (call_setOf (K := K) rfl hr0) rfl g_set bt_setS (pa_cons (pe_op op_cat (pv 4) (pe_comp (own := ["_law_one"]) (fr := [("_law_mask", 8)]) rfl (blkOk (defScope s_law_family) ["_law_draws_here", "_law_most", "_law_kind", "_law_plain", "_law_found", "_law_size", "_law_other", "_law_grown", "_law_mask"] rfl rfl (by decide +kernel)) (pi_listK (K := K) rfl (pv 4)) (fun _ _ _ _ => ⟨(pg_name (i := 0) (by decide +kernel : (["_law_one", "_law_mask"] : List Str).Nodup) rfl (Or.inl rfl)), pif_nil, (pe_op op_and (pv 0) (pv 1))⟩))) pa_nil)) pa_nil))))) pss_nil)
      (@pss_cons _ _ _ _ _ (ps_if (PW.pt (pw_or (pt_cmpR op_lt (pv 2) pe_int (nomark _)) (pw_or1 (pt_cmpR op_gt (pe_callB (call_lenK (K := K) rfl) rfl T.len PySem.boot_len (pa_cons (pv 4) pa_nil)) (pv 1) (nomark _))))) (pss_one (ps_ret (pv 3))) pss_nil)
      (pss_one (ps_ret (pv 4))))))))))), ?_⟩
    obtain ⟨rk, hrk, ek⟩ := emodN3 (ns.getD 0 0) 10 (by decide)
    obtain ⟨r7, hr7, e7⟩ := emodN3 (ns.getD 10 0) 7 (by decide)
    obtain ⟨r6, hr6, e6⟩ := emodN3 (ns.getD 1 0) 6 (by decide)
    obtain ⟨r4, hr4, e4⟩ := emodN3 (ns.getD 1 0) 4 (by decide)
    obtain ⟨r2, hr2, e2⟩ := emodN3 (ns.getD 1 0) 2 (by decide)
    obtain ⟨r5, hr5, e5⟩ := emodN3 (ns.getD 3 0) 5 (by decide)
    obtain ⟨rm, hrm, em⟩ := emodN3 (ns.getD 4 0) 2048 (by decide)
    have ek : ns.getD 0 0 % 10 = (rk : Int) := ek
    have e7 : ns.getD 10 0 % 7 = (r7 : Int) := e7
    have e6 : ns.getD 1 0 % 6 = (r6 : Int) := e6
    have e4 : ns.getD 1 0 % 4 = (r4 : Int) := e4
    have e2 : ns.getD 1 0 % 2 = (r2 : Int) := e2
    have e5 : ns.getD 3 0 % 5 = (r5 : Int) := e5
    have em : ns.getD 4 0 % 2048 = (rm : Int) := em
    refine ⟨_, rfl, d, _, 0, _, rfl, rfl, hd, atI_nat (getDI3 (i := 0) (by omega)), _, _, rfl, rfl, (by show (0 : Int) < 10; decide), ?_⟩
    dsimp only [gName]
    rw [ek]
    show tSeq _ _ _ [some (.ref d), some (.int most), some (.int rk), none, none, none, none, none, none] _
    refine ⟨_, rfl, _, rfl, _, rfl, d, _, rfl, hd, fun p1 hp1 => ?_⟩
    rw [show cutV (ns.map V.int) (some 1) (some 10) = ((ns.drop 1).take 9).map V.int by rw [List.map_take, List.map_drop]; exact cutNN (ns.map V.int) 1 10 (by rw [List.length_map]; omega)]
    have sp1 := Same.put hp1 (o := .lst (((ns.drop 1).take 9).map V.int))
    refine ⟨_, rfl, d, _, 10, _, rfl, rfl, sp1.seq hd, atI_nat (getDI3 (i := 10) (by omega)), _, _, rfl, rfl, (by show (0 : Int) < 7; decide), _, _, rfl, rfl, _, rfl, p1, 2 + r7, most, (ns.drop 1).take 9, by dsimp only; rw [e7]; push_cast; rfl, SqL.of upd_same, fun x hx => (hs x (List.mem_of_mem_drop (List.mem_of_mem_take hx))).1, by omega, hm1, hm2, fun Lp Gp H1 s1 hLp hlp hGp hGpl _ => ?_⟩
    have s01 := sp1.trans s1
    have hLp0 : H Lp = none := Same.none sp1 hLp
    dsimp only [gName]
    show tSeq _ _ _ [some (.ref d), some (.int most), some (.int rk), some (.ref Lp), none, none, none, none, none] _
    refine ⟨_, rfl, d, _, 1, _, rfl, rfl, s01.seq hd, atI_nat (getDI3 (i := 1) (by omega)), _, _, rfl, rfl, (by show (0 : Int) < 6; decide), _, _, rfl, rfl, _, rfl, by rw [e6]; omega, by rw [e6]; omega, fun D hD => comp_all (fun j => nV (2 ^ j - 1)) src_range hD (by rw [e6]; exact sl24 (by omega)) (fun j H3 Kt hj hs kt => ?_) (fun H3 hs3 hl3 => ?_)⟩
    · rw [e6] at hj
      refine ⟨_, rfl, _, _, rfl, rfl, ⟨by omega, by omega, by decide⟩, _, _, rfl, rfl, ?_⟩
      dsimp only
      have : (1 : Int) * 2 ^ ((0 : Int) + (j : Int)).toNat - 1 = ((2 ^ j - 1 : Nat) : Int) := by
        have := Nat.two_pow_pos j
        rw [Int.zero_add, Int.toNat_natCast, Int.one_mul, Int.natCast_sub this]; push_cast; rfl
      rw [this]
      exact kt _ (Same.refl _)
    rw [e6] at hl3
    have c0 : FSt H H1 d most rk Lp fam1 [some (.ref d), some (.int most), some (.int rk), some (.ref Lp), some (.ref D), none, none, none, none] H3 := by
      refine ⟨none, none, none, none, D, _, rfl, hs3, Same.none s01 hD, hl3, _, ?_, (fam_chain r6 hr6).1, by simp; omega, (fam_chain r6 hr6).2⟩
      rw [show ((1 : Int) + (r6 : Int)).toNat = 1 + r6 by omega, List.map_map]; rfl
    dsimp only [gName]
    show tSeq _ _ _ [some (.ref d), some (.int most), some (.int rk), some (.ref Lp), some (.ref D), none, none, none, none] _
    refine seqCutS (FSt H H1 d most rk Lp fam1) (fun D' hD' next => ?_) ?_
    · refine ⟨_, rfl, d, _, 2, _, rfl, rfl, (s01.trans hs3).seq hd, atI_nat (getDI3 (i := 2) (by omega)), _, _, rfl, rfl, (by show (0 : Int) < 3; decide), rfl, _, rfl, ite2 (fun h => ?_) (fun h => next _ _ c0)⟩
      have s03 := s01.trans hs3
      refine ⟨_, rfl, d, _, 1, _, rfl, rfl, s03.seq hd, atI_nat (getDI3 (i := 1) (by omega)), _, _, rfl, rfl, (by show (0 : Int) < 4; decide), _, _, rfl, rfl, ?_⟩
      have e4' : (2 : Int) + ns.getD 1 0 % 4 = ((2 + r4 : Nat) : Int) := by rw [e4]; push_cast; rfl
      dsimp only [gName]
      rw [e4']
      show tAsg _ _ _ [some (.ref d), some (.int most), some (.int rk), some (.ref Lp), some (.ref D), some (.int ((2 + r4 : Nat) : Int)), none, none, none] _
      have sh : (1 : Int) * 2 ^ (((2 + r4 : Nat) : Int)).toNat - 1 = ((2 ^ (2 + r4) - 1 : Nat) : Int) := by
        have := Nat.two_pow_pos (2 + r4)
        rw [Int.toNat_natCast, Int.one_mul, Int.natCast_sub this]; push_cast; rfl
      refine ⟨by show 1 ≤ sizeLine; decide, fun q1 hq1 => ⟨_, rfl, _, rfl, (n62 (by omega)).1, (n62 (by omega)).2, fun D2 hD2 => comp_all (fun j => nV (2 ^ j)) src_range hD2 (by rw [Int.toNat_natCast]; exact sl24 (by omega)) (fun j H4 Kt hj hs kt => ?_) (fun H4 hs4 hl4 => ?_)⟩⟩
      · rw [Int.toNat_natCast] at hj
        refine ⟨_, rfl, _, _, rfl, rfl, ⟨by omega, by omega, by decide⟩, ?_⟩
        dsimp only
        rw [show (1 : Int) * 2 ^ ((0 : Int) + (j : Int)).toNat = ((2 ^ j : Nat) : Int) by rw [Int.zero_add, Int.toNat_natCast, Int.one_mul]; push_cast; rfl]
        exact kt _ (Same.refl _)
      · rw [Int.toNat_natCast] at hl4
        refine ⟨q1, D2, _, _, rfl, rfl, hs4 _ _ upd_same, hl4, by simp; exact Nat.le_of_lt (slk (by omega)), fun q2 hq2 => ?_⟩
        refine ⟨_, rfl, _, _, rfl, rfl, ⟨by omega, by omega, by decide⟩, _, _, rfl, rfl, by show 1 ≤ sizeLine; decide, fun q3 hq3 => ?_⟩
        refine ⟨q2, q3, _, _, rfl, rfl, Same.put hq3 _ _ upd_same, upd_same, by simp; exact Nat.le_of_lt (slk (by omega)), fun q4 hq4 => ?_⟩
        refine next _ _ ⟨_, none, none, none, q4, _, rfl, ((((hs3.trans (Same.put hq1)).trans hs4).trans (Same.put hq2)).trans (Same.put hq3)).trans (Same.put hq4), ?_, upd_same, starM (2 + r4), ?_, (fam_star r4 hr4).1, by simp [starM]; omega, (fam_star r4 hr4).2⟩
        · exact Same.none (((((s01.trans hs3).trans (Same.put hq1)).trans hs4).trans (Same.put hq2)).trans (Same.put hq3)) hq4
        · dsimp only
          rw [sh]
          simp [starM]
    rintro σ1 H4 ⟨v5, v6, v7, v8, L1, xs1, rfl, s4, hL1, hl1, hc1⟩
    have s04 := s01.trans s4
    show tSeq _ _ _ [some (.ref d), some (.int most), some (.int rk), some (.ref Lp), some (.ref L1), v5, v6, v7, v8] _
    refine seqCutS (FSt H H1 d most rk Lp fam1) (fun D' hD' next => ?_) ?_
    · refine ⟨_, rfl, d, _, 2, _, rfl, rfl, s04.seq hd, atI_nat (getDI3 (i := 2) (by omega)), _, _, rfl, rfl, (by show (0 : Int) < 3; decide), rfl, _, rfl, ite2 (fun h => ?_) (fun h => next _ _ ⟨v5, v6, v7, v8, L1, xs1, rfl, s4, hL1, hl1, hc1⟩)⟩
      refine ⟨_, rfl, d, _, 1, _, rfl, rfl, s04.seq hd, atI_nat (getDI3 (i := 1) (by omega)), _, _, rfl, rfl, (by show (0 : Int) < 2; decide), _, _, rfl, rfl, 2 + r2, by dsimp only; rw [e2]; push_cast; rfl, by omega, fun L2 G2 H5 s5 hL2 hl2 hG2 hG2l hG2b => ?_⟩
      exact next _ _ ⟨v5, v6, v7, v8, L2, _, rfl, s4.trans s5, Same.none s04 hL2, hl2, G2, rfl, hG2, hG2l, hG2b⟩
    rintro σ2 H5 ⟨v5, v6, v7, v8, L2, xs2, rfl, s5, hL2, hl2, G2, rfl, hG2, hG2l, hG2b⟩
    have s05 := s01.trans s5
    show tSeq _ _ _ [some (.ref d), some (.int most), some (.int rk), some (.ref Lp), some (.ref L2), v5, v6, v7, v8] _
    refine seqCutS (FSt H H1 d most rk Lp fam2) (fun D' hD' next => ?_) ?_
    · refine ⟨_, rfl, _, _, rfl, rfl, _, rfl, ite2 (fun h => ?_) (fun h => next _ _ ⟨v5, v6, v7, v8, L2, _, rfl, s5, hL2, hl2, G2, rfl, hG2, by omega⟩)⟩
      refine ⟨by show 2 ≤ sizeLine; decide, fun p1 hp1 => ⟨by show 3 ≤ sizeLine; decide, fun p2 hp2 => ⟨by show 4 ≤ sizeLine; decide, fun p3 hp3 => ⟨by show 5 ≤ sizeLine; decide, fun p4 hp4 => ⟨by show 4 ≤ sizeLine; decide, fun p5 hp5 => ⟨by show 5 ≤ sizeLine; decide, fun p6 hp6 => ?_⟩⟩⟩⟩⟩⟩
      generalize hB : upd (upd (upd (upd (upd (upd H5 p1 _) p2 _) p3 _) p4 _) p5 _) p6 _ = B
      have t1 := Same.put hp1 (o := .lst (([0, 1] : List Int).map V.int))
      have t2 := Same.put hp2 (o := .lst (([0, 1, 3] : List Int).map V.int))
      have t3 := Same.put hp3 (o := .lst (([0, 1, 2, 3] : List Int).map V.int))
      have t4 := Same.put hp4 (o := .lst (([0, 1, 2, 4, 7] : List Int).map V.int))
      have t5 := Same.put hp5 (o := .lst (([0, 1, 3, 7] : List Int).map V.int))
      have t6 := Same.put hp6 (o := .lst [V.ref p1, V.ref p2, V.ref p3, V.ref p4, V.ref p5])
      have sB : Same H5 B := by rw [← hB]; exact t1.trans (t2.trans (t3.trans (t4.trans (t5.trans t6))))
      have b6 : B p6 = some (.lst [V.ref p1, V.ref p2, V.ref p3, V.ref p4, V.ref p5]) := by rw [← hB]; exact upd_same
      have b5 : B p5 = some (.lst (([0, 1, 3, 7] : List Nat).map nV)) := by rw [← hB]; exact t6 _ _ upd_same
      have b4 : B p4 = some (.lst (([0, 1, 2, 4, 7] : List Nat).map nV)) := by rw [← hB]; exact t6 _ _ (t5 _ _ upd_same)
      have b3 : B p3 = some (.lst (([0, 1, 2, 3] : List Nat).map nV)) := by rw [← hB]; exact t6 _ _ (t5 _ _ (t4 _ _ upd_same))
      have b2 : B p2 = some (.lst (([0, 1, 3] : List Nat).map nV)) := by rw [← hB]; exact t6 _ _ (t5 _ _ (t4 _ _ (t3 _ _ upd_same)))
      have b1 : B p1 = some (.lst (([0, 1] : List Nat).map nV)) := by rw [← hB]; exact t6 _ _ (t5 _ _ (t4 _ _ (t3 _ _ (t2 _ _ upd_same))))
      obtain ⟨q, O, hq, hqB, hO⟩ : ∃ (q : Addr) (O : List Nat), [V.ref p1, V.ref p2, V.ref p3, V.ref p4, V.ref p5][r5]? = some (.ref q) ∧ B q = some (.lst (O.map nV)) ∧ O ∈ othersM := by
        match r5, hr5 with
        | 0, _ => exact ⟨p1, _, rfl, b1, by simp [othersM]⟩
        | 1, _ => exact ⟨p2, _, rfl, b2, by simp [othersM]⟩
        | 2, _ => exact ⟨p3, _, rfl, b3, by simp [othersM]⟩
        | 3, _ => exact ⟨p4, _, rfl, b4, by simp [othersM]⟩
        | 4, _ => exact ⟨p5, _, rfl, b5, by simp [othersM]⟩
      obtain ⟨hOf, hOl, hO8⟩ := fam_other O hO
      refine ⟨_, rfl, d, _, 3, _, rfl, rfl, (s05.trans sB).seq hd, atI_nat (getDI3 (i := 3) (by omega)), _, _, rfl, rfl, (by show (0 : Int) < 5; decide), p6, _, _, _, rfl, rfl, SqL.of b6, by rw [e5]; exact atI_nat hq, ?_⟩
      dsimp only [gName]
      show tSeq _ _ _ [some (.ref d), some (.int most), some (.int rk), some (.ref Lp), some (.ref L2), v5, some (.ref q), v7, v8] _
      refine ⟨by show 0 ≤ sizeLine; decide, fun g0 hg0 => ?_⟩
      dsimp only [gName]
      show tSeq _ _ _ [some (.ref d), some (.int most), some (.int rk), some (.ref Lp), some (.ref L2), v5, some (.ref q), some (.ref g0), v8] _
      have sg := Same.put hg0 (o := .lst ([] : List V))
      refine ⟨_, rfl, q, rfl, ⟨_, SqL.of (sg _ _ hqB)⟩, for_list (K := K) (a := q) (xs := O.map nV) (fun i σ H6 => ∃ (v8 : Option V) (gl : Addr), σ = [some (.ref d), some (.int most), some (.int rk), some (.ref Lp), some (.ref L2), v5, some (.ref q), some (.ref gl), v8] ∧ Same B H6 ∧ B gl = none ∧ H6 gl = some (.lst ((besM G2 (O.take i)).map nV)))
        ⟨v8, g0, rfl, sg, hg0, upd_same⟩ (fun i σ H6 _ ⟨_, _, _, s6, _⟩ => SqL.of (s6 _ _ hqB)) ?_ ?_⟩
      · rintro i x σ H6 hx ⟨v8, gl, rfl, s6, hgl, hg⟩
        have hi : i < O.length := by have := (List.getElem?_eq_some_iff.mp hx).1; rwa [List.length_map] at this
        have ex : x = nV (O.getD i 0) := by rw [nV_get3 hi] at hx; exact (Option.some.inj hx).symm
        subst ex
        have hO8' := hO8 _ (Ev.getD_mem hi)
        have hl6 : H6 L2 = some (.lst (G2.map nV)) := s6 _ _ (sB _ _ hl2)
        refine ⟨_, rfl, _, rfl, L2, rfl, ⟨_, SqL.of hl6⟩, fun D hD => comp_all (fun j => nV (G2.getD j 0 ||| O.getD i 0 * 2 ^ 8)) (src_list (SqL.of hl6)) hD (sl24 (by rw [List.length_map]; omega)) (fun j H7 Kt hj hs kt => ?_) (fun H7 hs7 hl7 => ?_)⟩
        · rw [List.length_map] at hj
          refine ⟨_, rfl, _, rfl, _, _, rfl, rfl, ⟨by decide, by decide, by rw [Int.natAbs_natCast]; omega⟩, _, _, by rw [List.getD_eq_getElem?_getD, nV_get3 hj]; rfl, rfl, ?_⟩
          dsimp only
          rw [show ((O.getD i 0 : Nat) : Int) * 2 ^ (8 : Int).toNat = ((O.getD i 0 * 2 ^ 8 : Nat) : Int) by push_cast; rfl, orN]
          exact kt _ (Same.refl _)
        · have hbl : (besM G2 (O.take i)).length ≤ 5 * 24 := by
            rw [besM_len, List.length_take]
            exact Nat.mul_le_mul (by omega) hG2l
          refine ⟨gl, D, _, _, rfl, rfl, hs7 _ _ hg, hl7, by simp; exact Nat.le_of_lt (slk (by omega)), fun g2 hg2 => ?_⟩
          refine ⟨_, g2, rfl, (s6.trans hs7).trans (Same.put hg2), Same.none (s6.trans hs7) hg2, ?_⟩
          rw [upd_same, List.take_succ_eq_append_getElem hi]
          have eb : besM G2 (O.take i ++ [O[i]]) = besM G2 (O.take i) ++ G2.map fun x => x ||| O[i] * 2 ^ 8 := by unfold besM; rw [List.flatMap_append, List.flatMap_singleton]
          rw [eb, List.map_append]
          congr 3
          rw [List.length_map, List.map_map]
          apply List.ext_getElem
          · simp
          · intro k h1 h2
            simp only [List.length_map, List.length_range] at h1
            simp [List.getD_eq_getElem?_getD, List.getElem?_eq_getElem h1, List.getElem?_eq_getElem hi]
      · rintro σ H6 ⟨v8, gl, rfl, s6, hgl, hg⟩
        rw [List.length_map, List.take_length] at hg
        refine ⟨_, rfl, next _ _ ⟨_, _, _, _, gl, _, rfl, (s5.trans sB).trans s6, Same.none (s05.trans sB) hgl, hg, besM G2 O, rfl, hG2.bes hG2b hOf, ?_⟩⟩
        rw [besM_len]
        exact Nat.le_trans (Nat.mul_le_mul hOl hG2l) (by decide)
    rintro σ3 H6 ⟨v5, v6, v7, v8, L3, xs3, rfl, s6, hL3, hl3', G3, rfl, hG3, hG3l⟩
    have s06 := s01.trans s6
    show tSeq _ _ _ [some (.ref d), some (.int most), some (.int rk), some (.ref Lp), some (.ref L3), v5, v6, v7, v8] _
    refine seqCutS (FSt H H1 d most rk Lp fam3) (fun D' hD' next => ?_) ?_
    · refine ⟨_, rfl, _, _, rfl, rfl, _, rfl, ite2 (fun h => ?_) (fun h => next _ _ ⟨v5, v6, v7, v8, L3, _, rfl, s6, hL3, hl3', fun _ => ⟨G3, rfl, hG3⟩⟩)⟩
      refine ⟨_, rfl, d, _, 4, _, rfl, rfl, s06.seq hd, atI_nat (getDI3 (i := 4) (by omega)), _, _, rfl, rfl, (by show (0 : Int) < 2048; decide), ?_⟩
      dsimp only [gName]
      rw [em]
      show tAsg _ _ _ [some (.ref d), some (.int most), some (.int rk), some (.ref Lp), some (.ref L3), v5, v6, v7, some (.int rm)] _
      refine ⟨_, rfl, _, rfl, L3, rfl, ⟨_, SqL.of hl3'⟩, fun D hD => comp_all (fun j => nV (G3.getD j 0 &&& rm)) (src_list (SqL.of hl3')) hD (by rw [List.length_map]; exact slk (by omega)) (fun j H7 Kt hj hs kt => ?_) (fun H7 hs7 hl7 => ?_)⟩
      · rw [List.length_map] at hj
        refine ⟨_, rfl, _, rfl, _, _, by rw [List.getD_eq_getElem?_getD, nV_get3 hj]; rfl, rfl, ?_⟩
        dsimp only
        rw [andN]
        exact kt _ (Same.refl _)
      · refine ⟨L3, D, _, _, rfl, rfl, hs7 _ _ hl3', hl7, by simp; exact Nat.le_of_lt (slk (by omega)), fun p hp => ?_⟩
        rw [cutM_vals]
        have s8 := Same.put (o := .lst ((cutM G3 rm).map V.int)) hp
        refine ⟨p, cutM G3 rm, rfl, SqL.of upd_same, by rw [cutM_len]; omega, fun q ks hq hnd hks => ?_⟩
        have hkl : ks.length ≤ 2 * G3.length := by
          rw [← cutM_len G3 rm]
          exact nodup_lenI hnd fun k hk => (hks k).mp hk
        refine ⟨q, ks, rfl, upd_same, by omega, fun r ms hr hml hms => ?_⟩
        have s9 := Same.put (o := SetO P w q ks) hq
        have s10 := Same.put (o := .lst (ms.map V.int)) hr
        refine next _ _ ⟨_, _, _, _, r, _, rfl, (s6.trans hs7).trans (s8.trans (s9.trans s10)), Same.none ((s06.trans hs7).trans (s8.trans s9)) hr, upd_same, fun hlen => ?_⟩
        rw [List.length_map] at hlen
        obtain ⟨hmp, _⟩ := hms (by omega)
        obtain ⟨G', eG, hG', _⟩ := hG3.grown hnd hks hmp
        exact ⟨G', eG, hG'⟩
    rintro σ4 H7 ⟨v5, v6, v7, v8, L4, xs4, rfl, s7, hL4, hl4, hc4⟩
    have s07 := s01.trans s7
    have hpl : Q (.ref Lp) H7 := kk Lp Gp H7 s07 hLp0 (s7 _ _ hlp) hGp hGpl
    refine ⟨_, rfl, _, _, rfl, rfl, _, rfl, ite2 (fun h => ?_) (fun h => ?_)⟩
    · exact iteT ⟨_, rfl, hpl⟩
    · refine ⟨_, rfl, L4, _, rfl, .inl (SqL.of hl4), _, rfl, _, _, rfl, rfl, _, rfl, ite2 (fun h2 => ?_) (fun h2 => ?_)⟩
      · exact ⟨_, rfl, hpl⟩
      · have hle : xs4.length ≤ most := by
          have : ¬ ((most : Int) < (xs4.length : Int)) := fun z => h2 (decide_eq_true z)
          omega
        obtain ⟨G4, rfl, hG4⟩ := hc4 (by omega)
        rw [List.length_map] at hle
        exact ⟨_, rfl, kk L4 G4 H7 s07 hL4 hl4 hG4 hle⟩
end
end My

set_option Elab.async false
set_option linter.all false
set_option maxRecDepth 100000
set_option maxHeartbeats 1000000
namespace My
open PySem PySem.Spec PyProof.Rows L2
section
variable {P : Program} {w : World} {K : PySem.W.Frag} {mg : Str → Option Value} {base : Heap} {f : Addr} {fd : FuncData}
abbrev s_law_drawn : Stmt := top 48
theorem sc_law_drawn : FnScope ["_law_cell", "_law_most", "_law_draws_here"] ["_law_cell", "_law_most"] (defScope s_law_drawn) := ⟨rfl, rfl, rfl, by decide +kernel, rfl, by decide +kernel, by decide +kernel⟩
def sp_drawn : Sp := fun vs H Q _ => ∃ (c : Int) (most : Nat), vs = [.int c, .int most] ∧ 1 ≤ most ∧ most ≤ 24 ∧
  ∀ L us M H', Same H H' → H L = none → H' L = some (.lst (us.map nV)) → Ev.Lat M → M.length ≤ most → Ups M.length (Ev.leM M) us → Q (.ref L) H'
theorem ok_drawn (F : Fun K "_law_drawn" "_law_drawn" s_law_drawn f fd) (T : Txt mg) (c_law_draws : Cal P w K mg base "_law_draws" ["_law_cell", "_law_many"] 2 sp_draws) (c_law_family : Cal P w K mg base "_law_family" ["_law_draws_here", "_law_most"] 3 (sp_family K)) (c_law_ups : Cal P w K mg base "_law_ups" ["_law_family_here", "_law_numbers"] 1 (sp_ups K)) : FnOk P w K mg base CX0 4 f fd ["_law_cell", "_law_most"] sp_drawn := by
  refine F.ok sc_law_drawn (fun vs H Q E h => ?_) (fun cdv A outer s H vs Q E hr h => ?_)
  · obtain ⟨c, most, rfl, _⟩ := h
    rfl
  · obtain ⟨c, most, rfl, hm1, hm2, kk⟩ := h
    have nd := sc_law_drawn.nd
    refine ⟨_, (pss_cons (ps_set (i := 2) nd rfl (Or.inl rfl) (pe_callC c_law_draws hr rfl (pa_cons (pv 0) (pa_cons pe_int pa_nil))))
      (pss_one (ps_ret (pe_callC c_law_ups hr rfl (pa_cons (pe_callC c_law_family hr rfl (pa_cons (pv 2) (pa_cons (pv 1) pa_nil))) (pa_cons (pe_slice (sl_listK (K := K) rfl) (pv 2) (po_some pe_int) (po_some pe_int)) pa_nil)))))), ?_⟩
    refine ⟨_, rfl, c, 40, rfl, by decide, fun d ns H1 s1 hd0 hd hnl hsm => ?_⟩
    dsimp only [gName]
    refine ⟨_, rfl, _, rfl, d, most, ns, rfl, SqL.of hd, hsm, hnl, hm1, hm2, fun L F H2 s2 hL hl hF hFl => ?_⟩
    refine ⟨_, rfl, _, rfl, _, rfl, d, _, rfl, SqL.of (s2 _ _ hd), fun p hp => ?_⟩
    rw [show cutV (ns.map V.int) (some 12) (some 36) = ((ns.drop 12).take 24).map V.int by rw [List.map_take, List.map_drop]; exact cutNN (ns.map V.int) 12 36 (by rw [List.length_map]; omega)]
    have s3 := Same.put hp (o := .lst (((ns.drop 12).take 24).map V.int))
    refine ⟨L, p, F, (ns.drop 12).take 24, rfl, SqL.of (s3 _ _ hl), SqL.of upd_same, by rw [List.length_take, List.length_drop]; omega, by omega, fun L3 us M H4 s4 hL3 hl3 hM hU => ?_⟩
    have s03 := (s1.trans s2).trans s3
    exact kk L3 us M H4 (s03.trans s4) (Same.none s03 hL3) hl3 ((hF.lat (by omega)).perm hM.symm) (by rw [hM.length_eq]; exact hFl) hU
end
end My

set_option Elab.async false
set_option linter.all false
set_option maxRecDepth 100000
set_option maxHeartbeats 1000000
namespace My
open PySem PySem.Spec PyProof.Rows L2
theorem cut_ints3 (ns : List Int) (lo hi : Option Int) : ∃ ms : List Int, cutV (ns.map V.int) lo hi = ms.map V.int ∧ ms.length ≤ ns.length := by
  unfold cutV
  refine ⟨_, by rw [← List.map_drop, ← List.map_take], ?_⟩
  rw [List.length_take, List.length_drop]
  omega
theorem cutTo3 (xs : List V) (k : Nat) : cutV xs none (some (k : Int)) = xs.take k := by
  unfold cutV
  rw [HT.sIx_none, HT.sIx_nat, List.drop_zero, Nat.sub_zero]
  by_cases h : k ≤ xs.length
  · rw [Nat.min_eq_left h]
  · rw [Nat.min_eq_right (by omega), List.take_of_length_le (by omega), List.take_of_length_le (by omega)]
section
variable {P : Program} {w : World} {K : PySem.W.Frag} {mg : Str → Option Value} {base : Heap} {f : Addr} {fd : FuncData}
abbrev s_law_text : Stmt := top 53
theorem sc_law_text : FnScope ["_law_ups_here", "_law_found", "_law_a"] ["_law_ups_here"] (defScope s_law_text) := ⟨rfl, rfl, rfl, by decide +kernel, rfl, by decide +kernel, by decide +kernel⟩
def sp_law_text (K : PySem.W.Frag) : Sp := fun vs H Q _ => ∃ (u n : Nat) (R : Nat → Nat → Bool) (us : List Nat), vs = [.ref u] ∧ SqL K H u (us.map nV) ∧ Ups n R us ∧ n ≤ 24 ∧ ∀ H', Same H H' → Q (.str (textOf n (stepsTo n R n))) H'
theorem ok_law_text (F : Fun K "_law_text" "_law_text" s_law_text f fd) (T : Txt mg) (c_law_is_step : Cal P w K mg base "_law_is_step" ["_law_ups_here", "_law_a", "_law_b"] 1 (sp_is_step3 K)) : FnOk P w K mg base CX0 2 f fd ["_law_ups_here"] (sp_law_text K) := by
  refine F.ok sc_law_text (fun vs H Q E h => ?_) (fun cdv A outer s H vs Q E hr h => ?_)
  · obtain ⟨u, n, R, us, rfl, _⟩ := h
    rfl
  · obtain ⟨u, n, R, us, rfl, hu, hU, hn, kk⟩ := h
    have nd := sc_law_text.nd
    have en := hU.len'
    have el : (((us.map nV).length : Nat) : Int) = (n : Int) := by rw [List.length_map, hU.len]
    have b1 : -(2 ^ 62) ≤ ((us.map nV).length : Int) ∧ ((us.map nV).length : Int) < 2 ^ 62 := by rw [List.length_map, hU.len]; exact n62 (by omega)
    refine ⟨_, (pss_cons (ps_set (i := 1) nd rfl (Or.inl rfl) (pe_lst (pa_cons (pe_callTy call_str_int rfl T.str bt_str (pa_cons (pe_callB (call_lenK (K := K) rfl) rfl T.len PySem.boot_len (pa_cons (pv 0) pa_nil)) pa_nil)) pa_nil)))
      (pss_cons (ps_for PassesOwn.never rfl (pi_range1 rfl T.range (pa_cons (pe_callB (call_lenK (K := K) rfl) rfl T.len PySem.boot_len (pa_cons (pv 0) pa_nil)) pa_nil)) (pg_name (i := 2) nd rfl (Or.inr rfl))
      (pss_one (ps_set (i := 1) nd rfl (Or.inl rfl) (pe_op op_cat (pv 1) (pe_comp (own := ["_law_b"]) (fr := [("_law_a", 2), ("_law_ups_here", 0)]) rfl (blkOk (defScope s_law_text) ["_law_ups_here", "_law_found", "_law_a"] rfl rfl (by decide +kernel)) (pi_range1 rfl T.range (pa_cons (pe_callB (call_lenK (K := K) rfl) rfl T.len PySem.boot_len (pa_cons (pv 0) pa_nil)) pa_nil)) (fun _ _ _ _ => ⟨(pg_name (i := 0) (by decide +kernel : (["_law_b", "_law_a", "_law_ups_here"] : List Str).Nodup) rfl (Or.inl rfl)), (pif_one (pt_val (pe_callC c_law_is_step hr rfl (pa_cons (pv 2) (pa_cons (pv 1) (pa_cons (pv 0) pa_nil (star_of (fun _ _ h => nomatch h))) (star_of (fun _ _ h => nomatch h))) (star_of (fun _ _ h => nomatch h)))))), (pe_op op_add_str (pe_op op_add_str (pe_callTy call_str_int rfl T.str bt_str (pa_cons (pv 1) pa_nil)) pe_str) (pe_callTy call_str_int rfl T.str bt_str (pa_cons (pv 0) pa_nil)))⟩))))))
      (pss_one (ps_ret (pe_bmK (K := K) rfl PySem.F.plainAttrs_str PySem.F.slot_str_join PySem.F.type_str_join (mt_join (K := K) rfl) pe_str (pa_cons (pv 1) pa_nil)))))), ?_⟩
    refine ⟨_, rfl, u, _, rfl, .inl hu, _, rfl, by rw [el]; exact num_log (by omega), by show 1 ≤ sizeLine; decide, fun L0 hL0 => ?_⟩
    rw [el]
    have s0 := Same.put hL0 (o := .lst [.str (nS n)])
    dsimp only [gName]
    show tSeq _ _ _ [some (.ref u), some (.ref L0), none] _
    refine ⟨_, rfl, u, _, rfl, .inl (s0.seq hu), _, rfl, b1.1, b1.2, for_range (lo := 0) (n := (((us.map nV).length : Int)).toNat) (fun i σ H2 => ∃ (v2 : Option V) (l : Addr), σ = [some (.ref u), some (.ref l), v2] ∧ Same H H2 ∧ H2 l = some (.lst ((textW n (stepsTo n R i)).map V.str))) ⟨none, L0, rfl, s0, upd_same⟩ ?_ ?_⟩
    · rintro i σ H2 hi ⟨v2, l, rfl, s2, hl2⟩
      rw [en] at hi
      dsimp only [gName]
      refine ⟨_, rfl, _, rfl, u, _, rfl, .inl (s2.seq hu), _, rfl, b1.1, b1.2, fun D hD => ?_⟩
      refine comp_val (fun j => stB n R i j) (fun j => .str (pS (i, j))) src_range hD (by rw [en]; exact sl24 hn) (fun j H3 Kt Kf hj hs hkt hkf => ?_) (fun H3 hs hl3 => ?_)
      · rw [en] at hj
        refine ⟨_, rfl, _, rfl, _, rfl, u, i, j, n, R, us, by rw [Int.zero_add, Int.zero_add]; rfl, (s2.trans hs).seq hu, hU, hn, hi, hj, fun H4 s4 => ⟨_, rfl, ?_⟩⟩
        refine ite2 (fun h => ?_) (fun h => hkf _ (by simpa using h) s4)
        have h1 := nS_len (n := i) (by omega)
        have h2 := nS_len (n := j) (by omega)
        have h3 := @slk 1000 (by omega)
        refine ⟨_, rfl, (i : Int), by rw [Int.zero_add], num_log (by omega), _, _, rfl, rfl, ?_, _, rfl, (j : Int), by rw [Int.zero_add], num_log (by omega), _, _, rfl, rfl, ?_, hkt _ h s4⟩
        · show (nS i).length + 1 ≤ _
          omega
        · show (nS i ++ "<").length + (nS j).length ≤ _
          rw [Str.length_append]
          show (nS i).length + 1 + _ ≤ _
          omega
      · rw [en] at hl3
        have hl2' := hs _ _ hl2
        refine ⟨l, D, _, _, rfl, rfl, hl2', hl3, ?_, fun L hL => ?_⟩
        · have h1 := stepsTo_len (n := n) (k := i) R hn
          have h2 := List.length_filter_le (fun j => stB n R i j) (List.range n)
          rw [List.length_range] at h2
          have h3 := @slk 100000 (by omega)
          unfold textW
          simp only [List.length_map, List.length_cons]
          omega
        · refine ⟨_, L, rfl, s2.trans (hs.trans (Same.put hL)), ?_⟩
          rw [upd_same]
          have e : stepsTo n R (i + 1) = stepsTo n R i ++ ((List.range n).filter fun b => stB n R i b).map fun b => (i, b) := by unfold stepsTo; rw [range_flat]
          unfold textW
          rw [e, List.map_append, ← List.cons_append, List.map_append (f := V.str), List.map_map, List.map_map]
          rfl
    · rintro σ H2 ⟨v2, l, rfl, s2, hl2⟩
      rw [en] at hl2
      have h1 := stepsTo_len (n := n) (k := n) R hn
      refine ⟨rfl, _, rfl, " ", l, textW n (stepsTo n R n), rfl, rfl, SqL.of hl2, ?_, kk _ s2⟩
      have := textW_sum (n := n) hn (ps := stepsTo n R n) (by omega) (hand_steps n R).lt
      have h2 := @slk 100000 (by omega)
      omega
abbrev s_law_spread : Stmt := top 54
theorem sc_law_spread : FnScope ["_law_ups_here", "_law_numbers"] ["_law_ups_here", "_law_numbers"] (defScope s_law_spread) := ⟨rfl, rfl, rfl, by decide +kernel, rfl, by decide +kernel, by decide +kernel⟩
def sp_law_spread (K : PySem.W.Frag) : Sp := fun vs H Q _ => ∃ (u d n : Nat) (R : Nat → Nat → Bool) (us : List Nat) (ns : List Int), vs = [.ref u, .ref d] ∧ SqL K H u (us.map nV) ∧ SqL K H d (ns.map V.int) ∧ Ups n R us ∧ 0 < n ∧ n ≤ 24 ∧ 0 < ns.length ∧ ns.length ≤ 1000 ∧ R 0 0 = true ∧
  ∀ ps H', Same H H' → ps.length ≤ 1000 → Hand3 n R ps → Q (.str (textOf n ps)) H'
theorem ok_law_spread (F : Fun K "_law_spread" "_law_spread" s_law_spread f fd) (T : Txt mg) (c_law_handed : Cal P w K mg base "_law_handed" ["_law_ups_here", "_law_numbers"] 2 (sp_handed3 K)) : FnOk P w K mg base CX0 3 f fd ["_law_ups_here", "_law_numbers"] (sp_law_spread K) := by
  refine F.ok sc_law_spread (fun vs H Q E h => ?_) (fun cdv A outer s H vs Q E hr h => ?_)
  · obtain ⟨u, d, n, R, us, ns, rfl, _⟩ := h
    rfl
  · obtain ⟨u, d, n, R, us, ns, rfl, hu, hd, hU, hn0, hn, hs0, hs1, hr0, kk⟩ := h
    have nd := sc_law_spread.nd
    have el : (((us.map nV).length : Nat) : Int) = (n : Int) := by rw [List.length_map, hU.len]
    refine ⟨_, (pss_one (ps_ret (pe_bmK (K := K) rfl PySem.F.plainAttrs_str PySem.F.slot_str_join PySem.F.type_str_join (mt_join (K := K) rfl) pe_str (pa_cons (pe_op op_cat (pe_lst (pa_cons (pe_callTy call_str_int rfl T.str bt_str (pa_cons (pe_callB (call_lenK (K := K) rfl) rfl T.len PySem.boot_len (pa_cons (pv 0) pa_nil)) pa_nil)) pa_nil)) (pe_comp (own := ["_law_a", "_law_b"]) (fr := []) rfl (blkOk (defScope s_law_spread) ["_law_ups_here", "_law_numbers"] rfl rfl (by decide +kernel)) (pi_listK (K := K) rfl (pe_callC c_law_handed hr rfl (pa_cons (pv 0) (pa_cons (pv 1) pa_nil)))) (fun _ _ _ _ => ⟨(pg_pair (K := K) (i := 0) (j := 1) rfl rfl (by decide +kernel : (["_law_a", "_law_b"] : List Str).Nodup) rfl rfl rfl rfl), pif_nil, (pe_op op_add_str (pe_op op_add_str (pe_callTy call_str_int rfl T.str bt_str (pa_cons (pv 0) pa_nil)) pe_str) (pe_callTy call_str_int rfl T.str bt_str (pa_cons (pv 1) pa_nil)))⟩))) pa_nil)))), ?_⟩
    refine ⟨rfl, _, rfl, u, _, rfl, .inl hu, _, rfl, by rw [el]; exact num_log (by omega), by show 1 ≤ sizeLine; decide, fun q hq => ?_⟩
    rw [el]
    have s1 := Same.put hq (o := .lst [.str (nS n)])
    refine ⟨_, rfl, _, rfl, u, d, n, R, us, ns, rfl, s1.seq hu, s1.seq hd, hU, hn0, hn, hs0, hs1, hr0, fun l ws ps H2 s2 hl0 hl hwl hpp hand => ?_⟩
    have hql := Paired.length hpp
    refine ⟨l, rfl, ⟨_, SqL.of hl⟩, fun D hD => comp_all (fun i => .str (pS (ps.getD i (0, 0)))) (src_pairs (xs := fun i => nV (ps.getD i (0, 0)).1) (ys := fun i => nV (ps.getD i (0, 0)).2) (SqL.of hl) (fun i hi => ?_)) hD (slk (by omega)) (fun i H3 Kt hi hs hk => ?_) (fun H3 hs hl3 => ?_)⟩
    · obtain ⟨c, hc, t, et, ht⟩ := paired_get hpp (List.getElem?_eq_getElem hi)
      have e : ps.getD i (0, 0) = c := by rw [List.getD_eq_getElem?_getD, hc]; rfl
      rw [e]
      exact ⟨t, by rw [List.getElem?_eq_getElem hi, et], ht⟩
    · have hi' : i < ps.length := by omega
      obtain ⟨g1, g2⟩ := hand.lt (ps.getD i (0, 0)) (by rw [List.getD_eq_getElem?_getD, List.getElem?_eq_getElem hi']; exact List.getElem_mem hi')
      have h1 := nS_len (n := (ps.getD i (0, 0)).1) (by omega)
      have h2 := nS_len (n := (ps.getD i (0, 0)).2) (by omega)
      have h3 := @slk 1000 (by omega)
      refine ⟨_, rfl, _, rfl, num_log (by omega), _, _, rfl, rfl, ?_, _, rfl, _, rfl, num_log (by omega), _, _, rfl, rfl, ?_, hk _ (Same.refl _)⟩
      · show (nS (ps.getD i (0, 0)).1).length + 1 ≤ _
        omega
      · show (nS (ps.getD i (0, 0)).1 ++ "<").length + (nS (ps.getD i (0, 0)).2).length ≤ _
        rw [Str.length_append]
        show (nS (ps.getD i (0, 0)).1).length + 1 + _ ≤ _
        omega
    · rw [← hql, pS_ix] at hl3
      refine ⟨q, D, _, _, rfl, rfl, hs _ _ (s2 _ _ upd_same), hl3, ?_, fun L hL => ?_⟩
      · rw [List.length_map, List.length_map]
        have := @slk 100000 (by omega)
        show 1 + _ ≤ _
        omega
      · refine ⟨" ", L, textW n ps, rfl, rfl, SqL.of upd_same, ?_, kk ps _ (s1.trans (s2.trans (hs.trans (Same.put hL)))) (by omega) hand⟩
        have := textW_sum hn (ps := ps) (by omega) hand.lt
        have h2 := @slk 100000 (by omega)
        omega
abbrev s_law : Stmt := top 55
theorem sc_law : FnScope ["_law_script", "_law_cell", "_law_ups_here", "_law_draws_here", "_law_order", "_law_text_here"] ["_law_script"] (defScope s_law) := ⟨rfl, rfl, rfl, by decide +kernel, rfl, by decide +kernel, by decide +kernel⟩
theorem ok_law {C : Addr} (F : Fun K "law" "law" s_law f fd) (T : Txt mg) (TC : ClsOk K C) (c_law_draws : Cal P w K mg base "_law_draws" ["_law_cell", "_law_many"] 2 sp_draws) (c_law_drawn : Cal P w K mg base "_law_drawn" ["_law_cell", "_law_most"] 4 sp_drawn)
    (c_law_handed : Cal P w K mg base "_law_handed" ["_law_ups_here", "_law_numbers"] 2 (sp_handed3 K)) (c_law_is : Cal P w K mg base "_law_is" ["_law_order", "_law_ups_here"] 5 (sp_is3 K C)) (c_law_text : Cal P w K mg base "_law_text" ["_law_ups_here"] 2 (sp_law_text K)) (c_law_spread : Cal P w K mg base "_law_spread" ["_law_ups_here", "_law_numbers"] 3 (sp_law_spread K))
    (c_order_text : Cal P w K mg base "order_text" ["order"] 4 (sp_order_text C)) (c_read_order : Cal P w K mg base "read_order" ["text"] 7 (sp_read_order C)) (c_Order : CalMk P w K mg base C "Order" ["self", "count", "pairs"] 5 (sp_init K C)) : FnOk P w K mg base CX0 8 f fd ["_law_script"] (sp_law K) := by
  refine F.ok sc_law (fun vs H Q E h => ?_) (fun cdv A outer s H vs Q E hr h => ?_)
  · obtain ⟨a, ns, rfl, _⟩ := h
    rfl
  · obtain ⟨a, ns, rfl, hS, hns, kk⟩ := h
    have nd := sc_law.nd
    refine ⟨_, (pss_cons (ps_for PassesOwn.never rfl (pi_listK (K := K) rfl (pe_op op_cat (pe_lst (pa_cons pe_int pa_nil)) (pe_slice (sl_listK (K := K) rfl) (pv 0) po_none (po_some pe_int)))) (pg_name (i := 1) nd rfl (Or.inl rfl))
      (pss_cons (ps_set (i := 2) nd rfl (Or.inl rfl) (pe_callC c_law_drawn hr rfl (pa_cons (pv 1) (pa_cons pe_int pa_nil))))
      (pss_cons (ps_set (i := 3) nd rfl (Or.inl rfl) (pe_slice (sl_listK (K := K) rfl) (pe_callC c_law_draws hr rfl (pa_cons (pv 1) (pa_cons pe_int pa_nil))) (po_some pe_int) po_none))
      (pss_cons (ps_set (i := 4) nd rfl (Or.inl rfl) (pe_makeC c_Order hr rfl (pa_cons (pe_callB (call_lenK (K := K) rfl) rfl T.len PySem.boot_len (pa_cons (pv 2) pa_nil)) (pa_cons (pe_callC c_law_handed hr rfl (pa_cons (pv 2) (pa_cons (pe_slice (sl_listK (K := K) rfl) (pv 3) po_none (po_some pe_int)) pa_nil))) pa_nil))))
      (pss_cons (ps_set (i := 5) nd rfl (Or.inl rfl) (pe_callC c_order_text hr rfl (pa_cons (pv 4) pa_nil)))
      (pss_cons (ps_if (PW.pt (pw_or (pt_not (pt_val (pe_callB (call_isinstK (K := K) "str" rfl) rfl T.isinstance boot_isinstance (pa_cons (pv 5) (pa_cons (pe_bltn (v := .ty "str") rfl T.str bt_str rfl) pa_nil))))) (pw_or (pt_cmpR op_ne (pv 5) (pe_callC c_law_text hr rfl (pa_cons (pv 2) pa_nil)) (nomark _)) (pw_or1 (pt_cmpR op_ne (pe_callC c_order_text hr rfl (pa_cons (pv 4) pa_nil)) (pv 5) (nomark _)))))) (pss_one (ps_ret pe_bl)) pss_nil)
      (pss_cons (ps_if (PW.pt (pw_or (pt_not (pt_val (pe_callC c_law_is hr rfl (pa_cons (pe_callC c_read_order hr rfl (pa_cons (pv 5) pa_nil)) (pa_cons (pv 2) pa_nil))))) (pw_or1 (pt_not (pt_val (pe_callC c_law_is hr rfl (pa_cons (pe_callC c_read_order hr rfl (pa_cons (pe_callC c_law_spread hr rfl (pa_cons (pv 2) (pa_cons (pe_slice (sl_listK (K := K) rfl) (pv 3) (po_some pe_int) po_none) pa_nil))) pa_nil)) (pa_cons (pv 2) pa_nil)))))))) (pss_one (ps_ret pe_bl)) pss_nil)
      (pss_one (ps_if (pt_not (pt_val (pe_callC c_law_is hr rfl (pa_cons (pv 4) (pa_cons (pv 2) pa_nil))))) (pss_one (ps_ret pe_bl)) pss_nil)))))))))
      (pss_one (ps_ret pe_bl))), ?_⟩
    refine ⟨by show 1 ≤ sizeLine; decide, fun p1 hp1 => ⟨_, rfl, _, rfl, a, _, rfl, (Same.put hp1).seq hS, fun p2 hp2 => ?_⟩⟩
    obtain ⟨ms, ems, hms⟩ := cut_ints3 ns none (some 8)
    rw [ems]
    refine ⟨p1, p2, _, _, rfl, rfl, Same.put hp2 _ _ upd_same, upd_same, by rw [List.length_map]; show 1 + ms.length ≤ sizeLine; exact Nat.le_of_lt (slk (by omega)), fun p3 hp3 => ?_⟩
    generalize hB : upd (upd (upd H p1 _) p2 _) p3 _ = B
    have sB : Same H B := by rw [← hB]; exact ((Same.put hp1).trans (Same.put hp2)).trans (Same.put hp3)
    have hl3 : B p3 = some (.lst (([0] ++ ms).map V.int)) := by rw [← hB, upd_same, List.map_append]; rfl
    refine ⟨p3, rfl, ⟨_, SqL.of hl3⟩, for_list (K := K) (a := p3) (xs := ([0] ++ ms).map V.int) (fun i σ H7 => ∃ (v1 v2 v3 v4 v5 : Option V), σ = [some (.ref a), v1, v2, v3, v4, v5] ∧ Same B H7)
      ⟨none, none, none, none, none, rfl, Same.refl _⟩ (fun i σ H7 _ ⟨_, _, _, _, _, _, s7⟩ => SqL.of (s7 _ _ hl3)) ?_ ?_⟩
    · rintro i y σ H1 hy ⟨v1, v2, v3, v4, v5, rfl, s1⟩
      obtain ⟨z, hz, rfl⟩ := List.mem_map.mp (List.mem_of_getElem? hy)
      dsimp only [gName]
      show tSeq _ _ _ [some (.ref a), some (.int z), v2, v3, v4, v5] _
      refine ⟨_, rfl, z, 24, rfl, by decide, by decide, fun u us M H2 s2 hu0 hu hM hMl hU => ?_⟩
      dsimp only [gName]
      show tSeq _ _ _ [some (.ref a), some (.int z), some (.ref u), v3, v4, v5] _
      have G := good_lat hM
      have hpos := hM.pos
      refine ⟨_, rfl, z, 64, rfl, by decide, fun d0 ds H3 s3 hd00 hd0 hdl hds => ?_⟩
      refine ⟨_, rfl, d0, _, rfl, SqL.of hd0, fun d hd' => ?_⟩
      rw [show cutV (ds.map V.int) (some 40) none = (ds.drop 40).map V.int by rw [List.map_drop]; exact cutFrom3 _ 40]
      dsimp only [gName]
      show tSeq _ _ _ [some (.ref a), some (.int z), some (.ref u), some (.ref d), v4, v5] _
      have t3 := s3.trans (Same.put hd' (o := .lst ((ds.drop 40).map V.int)))
      have hdl2 : (ds.drop 40).length = 24 := by rw [List.length_drop]; omega
      refine ⟨_, rfl, u, _, rfl, .inl (SqL.of (t3 _ _ hu)), _, rfl, _, rfl, _, rfl, d, _, rfl, SqL.of upd_same, fun d12 hd12 => ?_⟩
      rw [show cutV ((ds.drop 40).map V.int) none (some 12) = ((ds.drop 40).take 12).map V.int by rw [List.map_take]; exact cutTo3 _ 12]
      generalize hH4 : upd (upd H3 d _) d12 _ = H4
      have s4 : Same H2 H4 := by rw [← hH4]; exact t3.trans (Same.put hd12)
      have hd4 : H4 d = some (.lst ((ds.drop 40).map V.int)) := by rw [← hH4]; exact Same.put hd12 _ _ upd_same
      have hd12' : H4 d12 = some (.lst (((ds.drop 40).take 12).map V.int)) := by rw [← hH4]; exact upd_same
      refine ⟨u, d12, M.length, Ev.leM M, us, (ds.drop 40).take 12, rfl, SqL.of (s4 _ _ hu), SqL.of hd12', hU, hpos, hMl, by rw [List.length_take]; omega, by rw [List.length_take]; omega, Ev.leM_refl _ _, fun L ws ps H5 s5 hL0 hL hwl hpp hand => fun x dx hx hdx hne => ?_⟩
      have s56 : Same H5 (upd (upd H5 dx (.own x)) x (.ins C dx [])) := fun b o e => by
        rw [upd_ne (ne_of_none e hx), upd_ne (ne_of_none e hdx)]
        exact e
      refine ⟨x, dx, M.length, L, ps, by rw [List.length_map, hU.len]; rfl, upd_same, ⟨ws, SqL.of (s56 _ _ hL), pairsV.same s56 hpp⟩, hpos, hMl, hand.lt, fun R2 hC => G.congr (clos_eq3 hM hand hC), fun H6 R2 fr hC hO => ⟨rfl, ?_⟩⟩
      have s6 : Same H5 H6 := fun b o e => fr b o (s56 _ _ e) (ne_of_none e hx)
      have sA : Same H2 H6 := s4.trans (s5.trans s6)
      have hR2 := clos_eq3 hM hand hC
      have hOx : OrdOf C H6 x M.length (Ev.leM M) := ⟨R2, hO, hR2⟩
      have hd6 : H6 d = some (.lst ((ds.drop 40).map V.int)) := s6 _ _ (s5 _ _ hd4)
      have hu6 := sA _ _ hu
      have sB6 := s1.trans (s2.trans sA)
      have eS : stepsR M.length R2 = stepsTo M.length (Ev.leM M) M.length := stepsR_stB (fun a ha => G.refl a ha) hR2
      have hS1 := hand_steps M.length (Ev.leM M)
      have hSl : (stepsTo M.length (Ev.leM M) M.length).length ≤ 1000 := by
        have := stepsTo_len (n := M.length) (k := M.length) (Ev.leM M) hMl
        omega
      dsimp only [gName]
      show tSeq _ _ _ [some (.ref a), some (.int z), some (.ref u), some (.ref d), some (.ref x), v5] _
      refine ⟨_, rfl, x, M.length, R2, rfl, hO, hMl, fun H7 s7 => ?_⟩
      rw [eS]
      dsimp only [gName]
      show tSeq _ _ _ [some (.ref a), some (.int z), some (.ref u), some (.ref d), some (.ref x), some (.str (textOf M.length (stepsTo M.length (Ev.leM M) M.length)))] _
      refine ⟨_, rfl, _, _, _, rfl, .str _, rfl, _, rfl, iteF ?_⟩
      refine ⟨_, rfl, _, rfl, u, M.length, Ev.leM M, us, rfl, SqL.of (s7 _ _ hu6), hU, hMl, fun H8 s8 => ⟨rfl, _, rfl, ?_⟩⟩
      rw [decide_eq_true rfl]
      refine iteF ?_
      have s68 := s7.trans s8
      refine ⟨_, rfl, x, M.length, R2, rfl, hO.same' s68, hMl, fun H9 s9 => ⟨_, rfl, rfl, _, rfl, ?_⟩⟩
      rw [eS, decide_eq_true rfl]
      refine iteF ?_
      have s69 := s68.trans s9
      dsimp only
      show tSeq _ _ _ [some (.ref a), some (.int z), some (.ref u), some (.ref d), some (.ref x), some (.str (textOf M.length (stepsTo M.length (Ev.leM M) M.length)))] _
      refine ⟨_, rfl, M.length, _, rfl, hpos, hMl, hSl, hS1.lt, fun R3' hC3 => G.congr (clos_eq3 hM hS1 hC3), fun zz R3' H10 s10 hC3 hO3 => ?_⟩
      have s610 := s69.trans s10
      refine ⟨_, rfl, zz, u, M.length, Ev.leM M, us, rfl, ⟨R3', hO3, clos_eq3 hM hS1 hC3⟩, SqL.of (s610 _ _ hu6), hU, hMl, fun H11 s11 => ⟨_, rfl, iteF ?_⟩⟩
      have s611 := s610.trans s11
      refine ⟨_, rfl, _, rfl, _, rfl, d, _, rfl, SqL.of (s611 _ _ hd6), fun e12 he12 => ?_⟩
      rw [show cutV ((ds.drop 40).map V.int) (some 12) none = ((ds.drop 40).drop 12).map V.int from (cutFrom3 ((ds.drop 40).map V.int) 12).trans List.map_drop.symm]
      have t12 := s611.trans (Same.put he12 (o := .lst (((ds.drop 40).drop 12).map V.int)))
      refine ⟨u, e12, M.length, Ev.leM M, us, (ds.drop 40).drop 12, rfl, SqL.of (t12 _ _ hu6), SqL.of upd_same, hU, hpos, hMl, by rw [List.length_drop]; omega, by rw [List.length_drop]; omega, Ev.leM_refl _ _, fun ps2 H12 s12 hl2 hand2 => ?_⟩
      have s612 := t12.trans s12
      refine ⟨M.length, ps2, rfl, hpos, hMl, hl2, hand2.lt, fun R4' hC4 => G.congr (clos_eq3 hM hand2 hC4), fun zy R4' H13 s13 hC4 hO4 => ?_⟩
      have s613 := s612.trans s13
      refine ⟨_, rfl, zy, u, M.length, Ev.leM M, us, rfl, ⟨R4', hO4, clos_eq3 hM hand2 hC4⟩, SqL.of (s613 _ _ hu6), hU, hMl, fun H14 s14 => ⟨_, rfl, iteF ?_⟩⟩
      have s614 := s613.trans s14
      refine ⟨_, rfl, _, rfl, x, u, M.length, Ev.leM M, us, rfl, hOx.same s614, SqL.of (s614 _ _ hu6), hU, hMl, fun H15 s15 => ⟨_, rfl, iteF ?_⟩⟩
      exact ⟨_, _, _, _, _, rfl, sB6.trans (s614.trans s15)⟩
    · rintro σ H7 ⟨v1, v2, v3, v4, v5, rfl, s7⟩
      exact kk _
end
end My

def PySem.W.Fast.tw2925613337334376545 : PySem.Program := PySem.Challenge.pw_evenclimb_k71_orders_as_texts
theorem PySem.W.Fast.te2925613337334376545 : PySem.Challenge.pw_evenclimb_k71_orders_as_texts = PySem.W.Fast.tw2925613337334376545 := rfl
theorem PySem.W.Fast.te14164254802388383474 : True := trivial
theorem PySem.W.Fast.tw11593019413623749338 : True := trivial
theorem PySem.W.Fast.tw14285238209252581774 : True := trivial
theorem PySem.W.Fast.tw9640571921621369829 : True := trivial
theorem PySem.W.Fast.tw2006429273461060433 : True := trivial
theorem PySem.W.Fast.tw7071227200693314405 : True := trivial
theorem PySem.W.Fast.tw2543281799731176224 : True := trivial
theorem PySem.W.Fast.tw1755947723136463753 : True := trivial
theorem PySem.W.Fast.tw3134705296124741005 : True := trivial
theorem PySem.W.Fast.tw14622123870812886907 : True := trivial
theorem PySem.W.Fast.tw12257324886682415080 : True := trivial
theorem PySem.W.Fast.tw16527025785198246513 : True := trivial
theorem PySem.W.Fast.tw4921027686294498214 : True := trivial
theorem PySem.W.Fast.tw3483704475529560859 : True := trivial
theorem PySem.W.Fast.tw11915238768249923127 : True := trivial
set_option Elab.async false
set_option linter.all false
set_option maxRecDepth 100000
namespace My
open PySem PySem.Spec PyProof.Rows L2
set_option maxHeartbeats 0 in
theorem all_mk {l : PySem.W.OpenLaw} {w : World} {K : PySem.W.Frag} {h : Heap} {mg : Str → Option Value} {fa C : Addr} (X : K.In h) (G : h.Ns mainGlobals mg) (hfa : mg "law" = some (.ref fa)) (tx : TxtAt K)
    (cO : ClsAt K "Order" "Order.__init__" s_Order_init C) (nC : PySem.W.findIn K (.ref C) "count" = some none) (nP : PySem.W.findIn K (.ref C) "pairs" = some none) (nR : PySem.W.findIn K (.ref C) "reach" = some none) (nJ : PySem.W.findIn K (.ref C) "joins" = some none) (nM : PySem.W.findIn K (.ref C) "meets" = some none)
    (n_set : PySem.W.nsIn K mainGlobals "set" = some none)
    {t_FIGURES : Tok} (nv_FIGURES : PySem.W.nsIn K mainGlobals "FIGURES" = some (some (.str "0123456789" t_FIGURES)))
    (f_is_whole : FunAt K "is_whole" s_is_whole)
    (f_is_thing : FunAt K "is_thing" s_is_thing)
    (f_need_thing : FunAt K "need_thing" s_need_thing)
    (f_need_count : FunAt K "need_count" s_need_count)
    (f_need_pairs : FunAt K "need_pairs" s_need_pairs)
    (f_own_row : FunAt K "own_row" s_own_row)
    (f_either : FunAt K "either" s_either)
    (f_shared : FunAt K "shared" s_shared)
    (f_column : FunAt K "column" s_column)
    (f_reach_of : FunAt K "reach_of" s_reach_of)
    (f_twos : FunAt K "twos" s_twos)
    (f_need_one_way : FunAt K "need_one_way" s_need_one_way)
    (f_ends_with : FunAt K "ends_with" s_ends_with)
    (f_ends_of : FunAt K "ends_of" s_ends_of)
    (f_need_ends : FunAt K "need_ends" s_need_ends)
    (f_pairs_of : FunAt K "pairs_of" s_pairs_of)
    (f_is_number : FunAt K "is_number" s_is_number)
    (f_is_pair : FunAt K "is_pair" s_is_pair)
    (f_read_pair : FunAt K "read_pair" s_read_pair)
    (f_is_below : FunAt K "is_below" s_is_below)
    (f_is_step : FunAt K "is_step" s_is_step)
    (f_steps : FunAt K "steps" s_steps)
    (f_law_mixed : FunAt K "_law_mixed" s_law_mixed)
    (f_law_draws : FunAt K "_law_draws" s_law_draws)
    (f_law_masks : FunAt K "_law_masks" s_law_masks)
    (f_law_ups : FunAt K "_law_ups" s_law_ups)
    (f_law_pairs : FunAt K "_law_pairs" s_law_pairs)
    (f_law_is_step : FunAt K "_law_is_step" s_law_is_step)
    (f_law_parity : FunAt K "_law_parity" s_law_parity)
    (f_law_planes : FunAt K "_law_planes" s_law_planes)
    (f_law_handed : FunAt K "_law_handed" s_law_handed)
    (f_order_text : FunAt K "order_text" s_order_text)
    (f_read_order : FunAt K "read_order" s_read_order)
    (f_law_same : FunAt K "_law_same" s_law_same)
    (f_law_is : FunAt K "_law_is" s_law_is)
    (f_law_family : FunAt K "_law_family" s_law_family)
    (f_law_drawn : FunAt K "_law_drawn" s_law_drawn)
    (f_law_text : FunAt K "_law_text" s_law_text)
    (f_law_spread : FunAt K "_law_spread" s_law_spread)
    (f_law : FunAt K "law" s_law) :
    ∃ fd : FuncData, (∀ (s : Shared) (v : Value), BindsTo s fd ⟨[v], []⟩ [("_law_script", v)]) ∧ ∀ base : Heap, K.In base → base.Ns mainGlobals mg → FnOk l.prog w K mg base CX0 9 fa fd ["_law_script"] (sp_law K) := by
  have T := tx.txt X G
  have TC : ClsOk K C := ⟨cO.cl, nC, nP, nR, nJ, nM⟩
  obtain ⟨f, fd, a, F⟩ := f_law.ex
  have e := hfa.symm.trans (PySem.W.mg_of X G a)
  cases e
  obtain ⟨oc, od, kV, doc, pm, an, cdv, ct, osl, rfl, lk, hcd⟩ := id F.ex
  refine ⟨PySem.W.fnOf "law" "law" (defArgs s_law) (defBody s_law) (defScope s_law) .none kV doc pm an cdv ct, fun s v => .of_eq rfl, fun base _ _ => ?_⟩
  have g_set := PySem.W.mg_none_of X G n_set
  have v_FIGURES : ∃ t, mg "FIGURES" = some (.str "0123456789" t) := ⟨_, PySem.W.mg_of X G nv_FIGURES⟩
  have c_is_whole : Cal l.prog w K mg base "is_whole" ["value"] 1 sp_is_whole := f_is_whole.cal X G (fun _ _ _ _ _ _ us hl => match us, hl with | [_], _ => rfl) (fun F => ok_is_whole F T)
  have c_is_thing : Cal l.prog w K mg base "is_thing" ["count", "number"] 2 sp_is_thing := f_is_thing.cal X G (fun _ _ _ _ _ _ us hl => match us, hl with | [_, _], _ => rfl) (fun F => ok_is_thing F T c_is_whole)
  have c_need_thing : Cal l.prog w K mg base "need_thing" ["count", "number"] 3 sp_need_thing := f_need_thing.cal X G (fun _ _ _ _ _ _ us hl => match us, hl with | [_, _], _ => rfl) (fun F => ok_need_thing F T c_is_thing)
  have c_need_count : Cal l.prog w K mg base "need_count" ["count"] 2 sp_need_count := f_need_count.cal X G (fun _ _ _ _ _ _ us hl => match us, hl with | [_], _ => rfl) (fun F => ok_need_count F T c_is_whole)
  have c_need_pairs : Cal l.prog w K mg base "need_pairs" ["count", "pairs"] 4 (sp_need_pairs K) := f_need_pairs.cal X G (fun _ _ _ _ _ _ us hl => match us, hl with | [_, _], _ => rfl) (fun F => ok_need_pairs F T c_need_thing)
  have c_own_row : Cal l.prog w K mg base "own_row" ["count", "thing"] 1 sp_own_row := f_own_row.cal X G (fun _ _ _ _ _ _ us hl => match us, hl with | [_, _], _ => rfl) (fun F => ok_own_row F T)
  have c_either : Cal l.prog w K mg base "either" ["one", "other"] 1 sp_either := f_either.cal X G (fun _ _ _ _ _ _ us hl => match us, hl with | [_, _], _ => rfl) (fun F => ok_either F T)
  have c_shared : Cal l.prog w K mg base "shared" ["one", "other"] 1 sp_shared := f_shared.cal X G (fun _ _ _ _ _ _ us hl => match us, hl with | [_, _], _ => rfl) (fun F => ok_shared F T)
  have c_column : Cal l.prog w K mg base "column" ["rows", "place"] 1 sp_column := f_column.cal X G (fun _ _ _ _ _ _ us hl => match us, hl with | [_, _], _ => rfl) (fun F => ok_column F T)
  have c_reach_of : Cal l.prog w K mg base "reach_of" ["count", "pairs"] 2 (sp_reach_of K) := f_reach_of.cal X G (fun _ _ _ _ _ _ us hl => match us, hl with | [_, _], _ => rfl) (fun F => ok_reach_of F T c_own_row c_either)
  have c_twos : Cal l.prog w K mg base "twos" ["count"] 1 sp_twos := f_twos.cal X G (fun _ _ _ _ _ _ us hl => match us, hl with | [_], _ => rfl) (fun F => ok_twos F T)
  have c_need_one_way : Cal l.prog w K mg base "need_one_way" ["count", "reach"] 2 sp_need_one_way := f_need_one_way.cal X G (fun _ _ _ _ _ _ us hl => match us, hl with | [_, _], _ => rfl) (fun F => ok_need_one_way F T c_twos)
  have c_ends_with : Cal l.prog w K mg base "ends_with" ["rows", "things", "thing"] 2 (sp_ends_with K) := f_ends_with.cal X G (fun _ _ _ _ _ _ us hl => match us, hl with | [_, _, _], _ => rfl) (fun F => ok_ends_with F T c_shared)
  have c_ends_of : Cal l.prog w K mg base "ends_of" ["rows"] 3 (sp_ends_of K) := f_ends_of.cal X G (fun _ _ _ _ _ _ us hl => match us, hl with | [_], _ => rfl) (fun F => ok_ends_of F T c_ends_with)
  have c_need_ends : Cal l.prog w K mg base "need_ends" ["count", "joins", "meets"] 2 sp_need_ends := f_need_ends.cal X G (fun _ _ _ _ _ _ us hl => match us, hl with | [_, _, _], _ => rfl) (fun F => ok_need_ends F T c_twos)
  have c_pairs_of : Cal l.prog w K mg base "pairs_of" ["count", "reach"] 1 sp_pairs_of := f_pairs_of.cal X G (fun _ _ _ _ _ _ us hl => match us, hl with | [_, _], _ => rfl) (fun F => ok_pairs_of F T)
  have c_Order : CalMk l.prog w K mg base C "Order" ["self", "count", "pairs"] 5 (sp_init K C) := cO.cal X G (fun _ _ _ _ _ _ us hl => match us, hl with | [_, _, _], _ => rfl) (fun F => ok_init F T TC c_need_count c_need_pairs c_reach_of c_need_one_way c_ends_of c_column c_need_ends c_pairs_of)
  have c_is_number : Cal l.prog w K mg base "is_number" ["word"] 1 sp_is_number := f_is_number.cal X G (fun _ _ _ _ _ _ us hl => match us, hl with | [_], _ => rfl) (fun F => ok_is_number F T v_FIGURES)
  have c_is_pair : Cal l.prog w K mg base "is_pair" ["word"] 2 sp_is_pair := f_is_pair.cal X G (fun _ _ _ _ _ _ us hl => match us, hl with | [_], _ => rfl) (fun F => ok_is_pair F T c_is_number)
  have c_read_pair : Cal l.prog w K mg base "read_pair" ["word"] 1 sp_read_pair := f_read_pair.cal X G (fun _ _ _ _ _ _ us hl => match us, hl with | [_], _ => rfl) (fun F => ok_read_pair F T)
  have c_is_below : Cal l.prog w K mg base "is_below" ["order", "a", "b"] 1 (sp_is_below C) := f_is_below.cal X G (fun _ _ _ _ _ _ us hl => match us, hl with | [_, _, _], _ => rfl) (fun F => ok_is_below F T TC)
  have c_is_step : Cal l.prog w K mg base "is_step" ["order", "a", "b"] 2 (sp_is_step C) := f_is_step.cal X G (fun _ _ _ _ _ _ us hl => match us, hl with | [_, _, _], _ => rfl) (fun F => ok_is_step F T TC c_is_below)
  have c_steps : Cal l.prog w K mg base "steps" ["order"] 3 (sp_steps_of C) := f_steps.cal X G (fun _ _ _ _ _ _ us hl => match us, hl with | [_], _ => rfl) (fun F => ok_steps_of F T TC c_is_step)
  have c_law_mixed : Cal l.prog w K mg base "_law_mixed" ["_law_cell", "_law_place"] 1 sp_mixed := f_law_mixed.cal X G (fun _ _ _ _ _ _ us hl => match us, hl with | [_, _], _ => rfl) (fun F => ok_mixed F T)
  have c_law_draws : Cal l.prog w K mg base "_law_draws" ["_law_cell", "_law_many"] 2 sp_draws := f_law_draws.cal X G (fun _ _ _ _ _ _ us hl => match us, hl with | [_, _], _ => rfl) (fun F => ok_draws F T c_law_mixed)
  have c_law_masks : Cal l.prog w K mg base "_law_masks" ["_law_numbers", "_law_wide", "_law_most"] 1 (sp_masks3 K) := f_law_masks.cal X G (fun _ _ _ _ _ _ us hl => match us, hl with | [_, _, _], _ => rfl) (fun F => ok_masks3 F T g_set)
  have c_law_ups : Cal l.prog w K mg base "_law_ups" ["_law_family_here", "_law_numbers"] 1 (sp_ups K) := f_law_ups.cal X G (fun _ _ _ _ _ _ us hl => match us, hl with | [_, _], _ => rfl) (fun F => ok_ups F T)
  have c_law_pairs : Cal l.prog w K mg base "_law_pairs" ["_law_ups_here"] 1 (sp_pairs3 K) := f_law_pairs.cal X G (fun _ _ _ _ _ _ us hl => match us, hl with | [_], _ => rfl) (fun F => ok_pairs3 F T)
  have c_law_is_step : Cal l.prog w K mg base "_law_is_step" ["_law_ups_here", "_law_a", "_law_b"] 1 (sp_is_step3 K) := f_law_is_step.cal X G (fun _ _ _ _ _ _ us hl => match us, hl with | [_, _, _], _ => rfl) (fun F => ok_is_step3 F T)
  have c_law_parity : Cal l.prog w K mg base "_law_parity" ["_law_number"] 1 sp_parity := f_law_parity.cal X G (fun _ _ _ _ _ _ us hl => match us, hl with | [_], _ => rfl) (fun F => ok_parity F T)
  have c_law_planes : Cal l.prog w K mg base "_law_planes" ["_law_wide"] 2 (sp_planes K) := f_law_planes.cal X G (fun _ _ _ _ _ _ us hl => match us, hl with | [_], _ => rfl) (fun F => ok_planes F T c_law_parity c_law_masks)
  have c_law_handed : Cal l.prog w K mg base "_law_handed" ["_law_ups_here", "_law_numbers"] 2 (sp_handed3 K) := f_law_handed.cal X G (fun _ _ _ _ _ _ us hl => match us, hl with | [_, _], _ => rfl) (fun F => ok_handed3 F T c_law_pairs c_law_is_step)
  have c_order_text : Cal l.prog w K mg base "order_text" ["order"] 4 (sp_order_text C) := f_order_text.cal X G (fun _ _ _ _ _ _ us hl => match us, hl with | [_], _ => rfl) (fun F => ok_order_text F T TC c_steps)
  have c_read_order : Cal l.prog w K mg base "read_order" ["text"] 7 (sp_read_order C) := f_read_order.cal X G (fun _ _ _ _ _ _ us hl => match us, hl with | [_], _ => rfl) (fun F => ok_read_order F T TC c_is_number c_is_pair c_read_pair c_Order)
  have c0 : Cal l.prog w K mg base "_law_same" ["_law_found", "_law_due"] 0 (sp_same Fls) := f_law_same.cal X G (fun _ _ _ _ _ _ us hl => match us, hl with | [_, _], _ => rfl) (fun _ => ok_same0)
  have c1 : Cal l.prog w K mg base "_law_same" ["_law_found", "_law_due"] 1 (sp_same R1) := f_law_same.cal X G (fun _ _ _ _ _ _ us hl => match us, hl with | [_, _], _ => rfl) (fun F => ok_same fls_mono F T c0)
  have c2 : Cal l.prog w K mg base "_law_same" ["_law_found", "_law_due"] 2 (sp_same R2') := f_law_same.cal X G (fun _ _ _ _ _ _ us hl => match us, hl with | [_, _], _ => rfl) (fun F => ok_same (Like.mono fls_mono) F T c1)
  have c3 : Cal l.prog w K mg base "_law_same" ["_law_found", "_law_due"] 3 (sp_same R3) := f_law_same.cal X G (fun _ _ _ _ _ _ us hl => match us, hl with | [_, _], _ => rfl) (fun F => ok_same (Like.mono (Like.mono fls_mono)) F T c2)
  have c_law_same : Cal l.prog w K mg base "_law_same" ["_law_found", "_law_due"] 4 (sp_same R4) := f_law_same.cal X G (fun _ _ _ _ _ _ us hl => match us, hl with | [_, _], _ => rfl) (fun F => ok_same (Like.mono (Like.mono (Like.mono fls_mono))) F T c3)
  have c_law_is : Cal l.prog w K mg base "_law_is" ["_law_order", "_law_ups_here"] 5 (sp_is3 K C) := f_law_is.cal X G (fun _ _ _ _ _ _ us hl => match us, hl with | [_, _], _ => rfl) (fun F => ok_is3 F T TC c_law_pairs c_law_same)
  have c_law_family : Cal l.prog w K mg base "_law_family" ["_law_draws_here", "_law_most"] 3 (sp_family K) := f_law_family.cal X G (fun _ _ _ _ _ _ us hl => match us, hl with | [_, _], _ => rfl) (fun F => ok_family F T g_set c_law_masks c_law_planes)
  have c_law_drawn : Cal l.prog w K mg base "_law_drawn" ["_law_cell", "_law_most"] 4 sp_drawn := f_law_drawn.cal X G (fun _ _ _ _ _ _ us hl => match us, hl with | [_, _], _ => rfl) (fun F => ok_drawn F T c_law_draws c_law_family c_law_ups)
  have c_law_text : Cal l.prog w K mg base "_law_text" ["_law_ups_here"] 2 (sp_law_text K) := f_law_text.cal X G (fun _ _ _ _ _ _ us hl => match us, hl with | [_], _ => rfl) (fun F => ok_law_text F T c_law_is_step)
  have c_law_spread : Cal l.prog w K mg base "_law_spread" ["_law_ups_here", "_law_numbers"] 3 (sp_law_spread K) := f_law_spread.cal X G (fun _ _ _ _ _ _ us hl => match us, hl with | [_, _], _ => rfl) (fun F => ok_law_spread F T c_law_handed)
  exact (ok_law F T TC c_law_draws c_law_drawn c_law_handed c_law_is c_law_text c_law_spread c_order_text c_read_order c_Order).mono (by decide)
end My
open PySem PySem.W PyProof.Rows
set_option maxRecDepth 100000 in
set_option maxHeartbeats 0 in
theorem PySem.Challenge.cw_evenclimb_k71_orders_as_texts_holds : PySem.Challenge.rw_evenclimb_k71_orders_as_texts.Holds := by
  w_on; o_law; k_head; (case hw => w_witness2)
  k_fill
  refine My.walk (l := PySem.Challenge.rw_evenclimb_k71_orders_as_texts) rfl rfl (fun w h Y => PySem.W.kIn_of Y) ?F
  case F =>
    intro w mg fa h KX G hmg
    refine' My.all_mk KX G hmg ?tx ?cO ?nC ?nP ?nR ?nJ ?nM ?n_set ?nv_FIGURES ?f_is_whole ?f_is_thing ?f_need_thing ?f_need_count ?f_need_pairs ?f_own_row ?f_either ?f_shared ?f_column ?f_reach_of ?f_twos ?f_need_one_way ?f_ends_with ?f_ends_of ?f_need_ends ?f_pairs_of ?f_is_number ?f_is_pair ?f_read_pair ?f_is_below ?f_is_step ?f_steps ?f_law_mixed ?f_law_draws ?f_law_masks ?f_law_ups ?f_law_pairs ?f_law_is_step ?f_law_parity ?f_law_planes ?f_law_handed ?f_order_text ?f_read_order ?f_law_same ?f_law_is ?f_law_family ?f_law_drawn ?f_law_text ?f_law_spread ?f_law
    (case tx => (refine' My.TxtAt.mk' ?l1 ?l2 ?l3 ?l4 ?l5 ?l6 ?l7 ?l8 ?l9 ?l10 ?l11 ?l12 ?l13 ?l14 ?l15 ?l16 ?m); (case l1 => k_is); (case l2 => k_is); (case l3 => k_is); (case l4 => k_is); (case l5 => k_is); (case l6 => k_is); (case l7 => k_is); (case l8 => k_is); (case l9 => k_is); (case l10 => k_is); (case l11 => k_is); (case l12 => k_is); (case l13 => k_is); (case l14 => k_is); (case l15 => k_is); (case l16 => k_is); (case m => k_is); skip)
    (case cO => (refine' My.ClsAt.mk' ?ns ?pg ?hd ?po ?sa ?mk ?kc ?a ?i ?l ?c ?k); (case ns => k_is); (case pg => k_is); (case hd => k_is); (case po => k_is); (case sa => k_is); (case mk => k_is); (case kc => k_is); (case a => k_is); (case i => k_is); (case l => k_is); (case c => k_is); (case k => k_is))
    (case nC => k_is)
    (case nP => k_is)
    (case nR => k_is)
    (case nJ => k_is)
    (case nM => k_is)
    (case n_set => k_is)
    (case nv_FIGURES => k_is)
    (case f_is_whole => (refine' My.FunAt.mk' ?a ?l ?c ?k); (case a => k_is); (case l => k_is); (case c => k_is); (case k => k_is))
    (case f_is_thing => (refine' My.FunAt.mk' ?a ?l ?c ?k); (case a => k_is); (case l => k_is); (case c => k_is); (case k => k_is))
    (case f_need_thing => (refine' My.FunAt.mk' ?a ?l ?c ?k); (case a => k_is); (case l => k_is); (case c => k_is); (case k => k_is))
    (case f_need_count => (refine' My.FunAt.mk' ?a ?l ?c ?k); (case a => k_is); (case l => k_is); (case c => k_is); (case k => k_is))
    (case f_need_pairs => (refine' My.FunAt.mk' ?a ?l ?c ?k); (case a => k_is); (case l => k_is); (case c => k_is); (case k => k_is))
    (case f_own_row => (refine' My.FunAt.mk' ?a ?l ?c ?k); (case a => k_is); (case l => k_is); (case c => k_is); (case k => k_is))
    (case f_either => (refine' My.FunAt.mk' ?a ?l ?c ?k); (case a => k_is); (case l => k_is); (case c => k_is); (case k => k_is))
    (case f_shared => (refine' My.FunAt.mk' ?a ?l ?c ?k); (case a => k_is); (case l => k_is); (case c => k_is); (case k => k_is))
    (case f_column => (refine' My.FunAt.mk' ?a ?l ?c ?k); (case a => k_is); (case l => k_is); (case c => k_is); (case k => k_is))
    (case f_reach_of => (refine' My.FunAt.mk' ?a ?l ?c ?k); (case a => k_is); (case l => k_is); (case c => k_is); (case k => k_is))
    (case f_twos => (refine' My.FunAt.mk' ?a ?l ?c ?k); (case a => k_is); (case l => k_is); (case c => k_is); (case k => k_is))
    (case f_need_one_way => (refine' My.FunAt.mk' ?a ?l ?c ?k); (case a => k_is); (case l => k_is); (case c => k_is); (case k => k_is))
    (case f_ends_with => (refine' My.FunAt.mk' ?a ?l ?c ?k); (case a => k_is); (case l => k_is); (case c => k_is); (case k => k_is))
    (case f_ends_of => (refine' My.FunAt.mk' ?a ?l ?c ?k); (case a => k_is); (case l => k_is); (case c => k_is); (case k => k_is))
    (case f_need_ends => (refine' My.FunAt.mk' ?a ?l ?c ?k); (case a => k_is); (case l => k_is); (case c => k_is); (case k => k_is))
    (case f_pairs_of => (refine' My.FunAt.mk' ?a ?l ?c ?k); (case a => k_is); (case l => k_is); (case c => k_is); (case k => k_is))
    (case f_is_number => (refine' My.FunAt.mk' ?a ?l ?c ?k); (case a => k_is); (case l => k_is); (case c => k_is); (case k => k_is))
    (case f_is_pair => (refine' My.FunAt.mk' ?a ?l ?c ?k); (case a => k_is); (case l => k_is); (case c => k_is); (case k => k_is))
    (case f_read_pair => (refine' My.FunAt.mk' ?a ?l ?c ?k); (case a => k_is); (case l => k_is); (case c => k_is); (case k => k_is))
    (case f_is_below => (refine' My.FunAt.mk' ?a ?l ?c ?k); (case a => k_is); (case l => k_is); (case c => k_is); (case k => k_is))
    (case f_is_step => (refine' My.FunAt.mk' ?a ?l ?c ?k); (case a => k_is); (case l => k_is); (case c => k_is); (case k => k_is))
    (case f_steps => (refine' My.FunAt.mk' ?a ?l ?c ?k); (case a => k_is); (case l => k_is); (case c => k_is); (case k => k_is))
    (case f_law_mixed => (refine' My.FunAt.mk' ?a ?l ?c ?k); (case a => k_is); (case l => k_is); (case c => k_is); (case k => k_is))
    (case f_law_draws => (refine' My.FunAt.mk' ?a ?l ?c ?k); (case a => k_is); (case l => k_is); (case c => k_is); (case k => k_is))
    (case f_law_masks => (refine' My.FunAt.mk' ?a ?l ?c ?k); (case a => k_is); (case l => k_is); (case c => k_is); (case k => k_is))
    (case f_law_ups => (refine' My.FunAt.mk' ?a ?l ?c ?k); (case a => k_is); (case l => k_is); (case c => k_is); (case k => k_is))
    (case f_law_pairs => (refine' My.FunAt.mk' ?a ?l ?c ?k); (case a => k_is); (case l => k_is); (case c => k_is); (case k => k_is))
    (case f_law_is_step => (refine' My.FunAt.mk' ?a ?l ?c ?k); (case a => k_is); (case l => k_is); (case c => k_is); (case k => k_is))
    (case f_law_parity => (refine' My.FunAt.mk' ?a ?l ?c ?k); (case a => k_is); (case l => k_is); (case c => k_is); (case k => k_is))
    (case f_law_planes => (refine' My.FunAt.mk' ?a ?l ?c ?k); (case a => k_is); (case l => k_is); (case c => k_is); (case k => k_is))
    (case f_law_handed => (refine' My.FunAt.mk' ?a ?l ?c ?k); (case a => k_is); (case l => k_is); (case c => k_is); (case k => k_is))
    (case f_order_text => (refine' My.FunAt.mk' ?a ?l ?c ?k); (case a => k_is); (case l => k_is); (case c => k_is); (case k => k_is))
    (case f_read_order => (refine' My.FunAt.mk' ?a ?l ?c ?k); (case a => k_is); (case l => k_is); (case c => k_is); (case k => k_is))
    (case f_law_same => (refine' My.FunAt.mk' ?a ?l ?c ?k); (case a => k_is); (case l => k_is); (case c => k_is); (case k => k_is))
    (case f_law_is => (refine' My.FunAt.mk' ?a ?l ?c ?k); (case a => k_is); (case l => k_is); (case c => k_is); (case k => k_is))
    (case f_law_family => (refine' My.FunAt.mk' ?a ?l ?c ?k); (case a => k_is); (case l => k_is); (case c => k_is); (case k => k_is))
    (case f_law_drawn => (refine' My.FunAt.mk' ?a ?l ?c ?k); (case a => k_is); (case l => k_is); (case c => k_is); (case k => k_is))
    (case f_law_text => (refine' My.FunAt.mk' ?a ?l ?c ?k); (case a => k_is); (case l => k_is); (case c => k_is); (case k => k_is))
    (case f_law_spread => (refine' My.FunAt.mk' ?a ?l ?c ?k); (case a => k_is); (case l => k_is); (case c => k_is); (case k => k_is))
    (case f_law => (refine' My.FunAt.mk' ?a ?l ?c ?k); (case a => k_is); (case l => k_is); (case c => k_is); (case k => k_is))
