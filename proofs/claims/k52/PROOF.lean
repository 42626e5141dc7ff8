import PyProof.Rows.All
import Wide.All
import OpenK.AllK
import Wide.FinOn
import HandS.HeadHook1
import HandS.Head0
import HandS.Head1
import HandS.Head2
import HandS.HeadEnd
import HandS.Words
import KE.KStateDown
import HandS.Head3
import HandS.ForMost
import HandS.TupAny
import HandS.Wide
import HandS.WideBits
import HandS.Gcd
import HandS.Zip
import HandS.Rev
import HandS.Conv
import HandS.Deep
import HandS.TupLe
import HandS.IsInst
import HandS.Style
import PyProof.TypeEq
import PyProof.TypeOfCall
import KE.KMathG
import PyProof.InstEq
import KE.GoesMore
import HandS.Star
import HandS.TupSets
import HandS.TupMul
import PyProof.ReprLen
import PySem.Challenge.RW_flowpieces_k52_whole_tables_on_the_swing
set_option Elab.async false
section
set_option Elab.async false
set_option linter.all false
set_option maxRecDepth 100000
/-! what is looked at behind the head -/
namespace Dd
open PySem PySem.Spec PyProof.Rows L2
def cstAt (K : PySem.W.Frag) (x : Str) : Option (Int × Int) := match K.lookup (He.ga K x) with
  | some ⟨.type c, _, .seq its _, _⟩ => if c = "tuple" then (match its.toList with
    | [.int n _, .int m _] => some (n, m)
    | _ => none) else none
  | _ => none
def bltAt (K : PySem.W.Frag) (x : Str) : Option String := match PySem.W.nsIn K mainGlobals x with
  | some (some (.builtin b)) => some b
  | _ => none
abbrev AlX : Type := He.Al × List (Option (Int × Int)) × List (Option String)
def obsX (fa : List He.Fa) (fn : List He.FnD) (cs : List (Str × Int × Int)) (bs : List (Str × String)) (K : PySem.W.Frag) : AlX := (He.obsE fa fn K, cs.map fun p => cstAt K p.1, bs.map fun p => bltAt K p.1)
def valX (fn : List He.FnD) (cs : List (Str × Int × Int)) (bs : List (Str × String)) : AlX := (He.valE fn, cs.map fun p => some p.2, bs.map fun p => some p.2)
def obsXG (n : Nat) (fa : List He.Fa) (fn : List He.FnD) (cs : List (Str × Int × Int)) (bs : List (Str × String)) (g : Addr → Option Obj) : AlX := obsX fa fn cs bs (He.frG g (He.asG g n))
def hookX (n : Nat) (fa : List He.Fa) (fn : List He.FnD) (cs : List (Str × Int × Int)) (bs : List (Str × String)) : PySem.W.Hook where
  α := AlX
  obs := fun s => obsXG n fa fn cs bs s.heap.get?
  val := fun _ => valX fn cs bs
  says := fun _ h => ∃ K : PySem.W.Frag, K.In h ∧ obsX fa fn cs bs K = valX fn cs bs
  of := fun _ _ e => ⟨_, He.frG_in, e⟩
  keeps := fun _ _ _ ⟨K, hK, c⟩ k => ⟨K, PySem.W.Frag.In.keeps hK k, c⟩
theorem obsXG_eq {n : Nat} {fa : List He.Fa} {fn : List He.FnD} {cs : List (Str × Int × Int)} {bs : List (Str × String)} {g : Addr → Option Obj} {s : Shared} (h : ∀ a, g a = s.heap.get? a) : obsXG n fa fn cs bs g = (hookX n fa fn cs bs).obs s := by
  have e : g = s.heap.get? := funext h
  rw [e] <;> rfl
def fnS (p : Str × Stmt) : He.FnD := ⟨(p.1, none), p.1, p.1, defArgs p.2, defBody p.2, defScope p.2⟩
def faS (bns : List Str) (tn : List (Str × Stmt)) (cs : List (Str × Int × Int)) (is : List (Str × Int)) : List He.Fa := (bns.map .free ++ (tn.map (fun p => .glo p.1) ++ tn.map fun p => .keep p.1)) ++ (cs.map (fun p => .glo p.1) ++ is.map fun p => .int p.1 p.2)
end Dd
end
section
set_option Elab.async false
set_option linter.all false
set_option maxRecDepth 100000
set_option maxHeartbeats 0
open Dd PySem PySem.Spec PyProof.Rows L2
namespace K52
def bns : List Str := ["abs", "all", "any", "divmod", "enumerate", "int", "len", "max", "range", "sum", "tuple", "type", "zip"]
def ibs : List (Str × String) := [("gcd", "math.gcd")]
def cs : List (Str × Int × Int) := [("NIL", (0), (1))]
def is_ : List (Str × Int) := []
def topS (i : Nat) : Stmt := PySem.Challenge.pw_flowpieces_k52_whole_tables_on_the_swing.main.body.getD i (.Pass ⟨0, 0, 0, 0⟩)
def tn0 : List (Str × Stmt) := [("is_whole", topS 7), ("is_between", topS 8), ("is_letter", topS 9), ("is_pair", topS 10), ("is_fraction", topS 11), ("fraction_of", topS 12), ("added", topS 13), ("multiplied", topS 14), ("is_step", topS 16), ("is_piece", topS 17)]
def tn1 : List (Str × Stmt) := [("check_step", topS 18), ("step_has_two", topS 19), ("step_short", topS 20), ("trimmed", topS 22), ("poly_plus", topS 23), ("check_swung", topS 25), ("check_time", topS 26), ("swing_polynomials", topS 27), ("swing_numbers", topS 28), ("swing_fractions", topS 29)]
def tn2 : List (Str × Stmt) := [("as_powers", topS 30), ("swing_table", topS 31), ("swing_at", topS 32), ("_law_urn", topS 34), ("_law_dip", topS 35), ("_law_pick", topS 36), ("_law_low", topS 37), ("_law_plus", topS 38), ("_law_times", topS 39), ("_law_share", topS 40)]
def tn3 : List (Str × Stmt) := [("_law_pieces", topS 41), ("_law_rest", topS 42), ("_law_timed", topS 43), ("_law_undone", topS 44), ("_law_even", topS 45), ("_law_scale", topS 46), ("_law_led", topS 47), ("_law_polynomials", topS 48), ("_law_table", topS 49), ("_law_time", topS 50)]
def tn4 : List (Str × Stmt) := [("_law_swung", topS 51), ("_law_shown", topS 52), ("_law_worth", topS 53), ("_law_behind", topS 54), ("_law_right", topS 55), ("law", topS 56)]
def tn : List (Str × Stmt) := tn0 ++ (tn1 ++ (tn2 ++ (tn3 ++ (tn4))))
end K52
end
section
set_option Elab.async false
set_option linter.all false
set_option maxRecDepth 100000
set_option maxHeartbeats 0
open Dd PySem PySem.Spec PyProof.Rows L2
namespace K52
abbrev R : PySem.W.OpenRow := PySem.W.OpenLaw.row PySem.Challenge.rw_flowpieces_k52_whole_tables_on_the_swing
abbrev fa : List He.Fa := faS bns tn cs is_
abbrev fn : List He.FnD := tn.map fnS
abbrev hk : PySem.W.Hook := hookX 4 fa fn cs ibs
def ob (s : PySem.W.SharedT) : AlX := obsXG 4 fa fn cs ibs (HandSHeadRun.getT s)
theorem ob_eq (s : PySem.W.SharedT) : ob s = hk.obs s.abs := obsXG_eq (HandSHeadRun.getT_eq s)
def names0 : List PySem.Str := ["FlowError", "InvalidFraction", "InvalidStep", "NIL", "is_whole", "is_between", "is_letter", "is_pair", "is_fraction", "fraction_of", "added", "multiplied", "is_step", "is_piece", "check_step", "step_has_two", "step_short", "trimmed", "poly_plus", "check_swung"]
def names1 : List PySem.Str := ["check_time", "swing_polynomials", "swing_numbers", "swing_fractions", "as_powers", "swing_table", "swing_at", "_law_urn", "_law_dip", "_law_pick", "_law_low", "_law_plus", "_law_times", "_law_share", "_law_pieces", "_law_rest", "_law_timed", "_law_undone", "_law_even", "_law_scale"]
def names2 : List PySem.Str := ["_law_led", "_law_polynomials", "_law_table", "_law_time", "_law_swung", "_law_shown", "_law_worth", "_law_behind", "_law_right"]
def names : List PySem.Str := names0 ++ names1 ++ names2
theorem run (w : World) : HandSHeadRun.RunEqI R (PySem.W.view R.prog [0, 56]) hk ob 26840 names w := by
  unfold HandSHeadRun.RunEqI
  kernel_rfl
end K52
end
section
set_option Elab.async false
set_option linter.all false
set_option maxRecDepth 100000
/-! rules that the library lacks: t[::-1], math.lcm of wide ints, == of types -/
namespace Dd
open PySem PySem.Spec PyProof.Rows L2
section
variable {prog : Program} {w : World} {A : Around} {E : Value → Shared → Prop} {s : Shared}
theorem back_adjust (n : Nat) : Builtin.Slice.sliceAdjust none none (-1) (n : Int) = ((n : Int) - 1, -1) := by
  unfold Builtin.Slice.sliceAdjust
  simp
theorem back_places (n : Nat) : Builtin.Slice.slicePlaces ((n : Int) - 1) (-1) (-1) = n := by
  unfold Builtin.Slice.slicePlaces
  simp
  split <;> omega
theorem back_pick (xs : Array Value) : ((List.range xs.size).filterMap fun (k : Nat) => xs[(((xs.size : Int) - 1) + (k : Int) * (-1)).toNat]?).toArray = xs.toList.reverse.toArray := by
  congr 1
  have e : ∀ k ∈ List.range xs.size, (fun (k : Nat) => xs[(((xs.size : Int) - 1) + (k : Int) * (-1)).toNat]?) k = some (xs.toList.reverse.getD k .none) := by
    intro k hk
    have hk : k < xs.size := List.mem_range.mp hk
    have e2 : (((xs.size : Int) - 1) + (k : Int) * (-1)).toNat = xs.size - 1 - k := by omega
    show xs[(((xs.size : Int) - 1) + (k : Int) * (-1)).toNat]? = _
    rw [e2, List.getD_eq_getElem?_getD, List.getElem?_reverse (by simpa using hk), Array.getElem?_eq_getElem (by omega), Array.length_toList, Array.getElem?_toList, Array.getElem?_eq_getElem (by omega)]
    rfl
  have go : ∀ (l : List Nat), (∀ k ∈ l, (fun (k : Nat) => xs[(((xs.size : Int) - 1) + (k : Int) * (-1)).toNat]?) k = some (xs.toList.reverse.getD k .none)) →
      (l.filterMap fun (k : Nat) => xs[(((xs.size : Int) - 1) + (k : Int) * (-1)).toNat]?) = l.map fun k => xs.toList.reverse.getD k .none := by
    intro l h
    induction l with
    | nil => rfl
    | cons k r ih =>
      have h1 := h k (List.mem_cons_self ..)
      have h2 := ih fun j hj => h j (List.mem_cons_of_mem _ hj)
      show List.filterMap (fun (k : Nat) => xs[(((xs.size : Int) - 1) + (k : Int) * (-1)).toNat]?) (k :: r) = _
      rw [List.filterMap_cons, h2]
      simp only at h1 ⊢
      rw [h1]
      rfl
  rw [go _ e]
  apply List.ext_getElem?
  intro i
  rw [List.getElem?_map]
  by_cases h : i < xs.size
  · rw [List.getElem?_range h]
    show some (xs.toList.reverse.getD i .none) = _
    rw [List.getD_eq_getElem?_getD, List.getElem?_eq_getElem (by simpa using h)]
    rfl
  · rw [List.getElem?_eq_none (by simpa using h), List.getElem?_eq_none (by simpa using h)]
    rfl
theorem back_applied {sl : Addr} {n : Nat} {u : Tok} {Q : Int × Int × Nat → Shared → Prop} (hs : s.heap.IsSliceOf sl .none .none (.int (-1) u))
    (h : Q ((n : Int) - 1, -1, n) s) : wpAny (model prog w) A (Builtin.Slice.sliceApplied (.ref sl) (pure (n : Int))) Q E s := by
  obtain ⟨os, at_, cls, dat⟩ := id hs
  unfold Builtin.Slice.sliceApplied Builtin.Slice.sliceFields
  refine wpAny_bind (wpAny_bind (wpAny_field at_ dat (x := .none) rfl (wpAny_bind (wpAny_field at_ dat (x := .none) rfl (wpAny_bind (wpAny_field at_ dat (x := .int (-1) u) rfl (wpAny_pure ?_)))))))
  refine wpAny_bind (slicePart_int ?_)
  show wpAny _ _ (if ((-1 : Int) == 0) = true then _ else _) _ _ s
  rw [if_neg (by decide)]
  refine wpAny_bind (slicePart_none (wpAny_bind (slicePart_none (wpAny_bind (wpAny_pure ?_)))))
  show wpAny _ _ (match Builtin.Slice.sliceAdjust none none (-1) (n : Int) with | (lo, hi) => pure (lo, (-1 : Int), Builtin.Slice.slicePlaces lo hi (-1))) _ _ s
  rw [back_adjust]
  show wpAny _ _ (pure ((n : Int) - 1, (-1 : Int), Builtin.Slice.slicePlaces ((n : Int) - 1) (-1) (-1))) _ _ s
  rw [back_places]
  exact wpAny_pure h
theorem tuple_back {t sl : Addr} {items : Array Value} {u : Tok} {Q : Value → Shared → Prop} (ht : IsTup s.heap t items) (hs : s.heap.IsSliceOf sl .none .none (.int (-1) u))
    (h : Q (.ref s.heap.objs.size) { s with heap := s.heap.push { cls := .type "tuple", data := .seq items.toList.reverse.toArray } }) (hsz : items.size ≤ sizeLine) : wpAny (model prog w) A (getItem (.ref t) (.ref sl)) Q E s := by
  have fits : sizeOk (.seq items.toList.reverse.toArray) := by
    show items.toList.reverse.toArray.size ≤ sizeLine
    simpa using hsz
  obtain ⟨os, at_, cls, dat⟩ := id hs
  have isSl : s.TypeIs (.ref sl) "slice" := ⟨os, at_, cls⟩
  unfold getItem
  try with_reducible refine wpAny_holding ?_
  first | refine wpAny_bind (wpAny_pure ?_) | skip
  apply wpAny_bind
  apply wpAny_sequenceKey ht.typeIs (by decide)
  apply wpAny_bind
  apply wpAny_callSpecial?_slot (name := Str.ofString "__getitem__") ht.typeIs PyProof.Rows.slot_tuple_getitem
  apply wpAny_call_entry PyProof.Rows.slot_tuple_getitem ht.typeIs PyProof.Rows.entry_tuple_getitem _ (PyProof.Rows.args_tuple_getitem _ _)
  show wpAny _ _ (Builtin.Tuple.tupleItemsOf (.ref t) >>= _) _ _ s
  refine wpAny_bind (tupleItemsOf_ ht ?_)
  apply wpAny_bind
  apply wpAny_typeOf isSl
  rw [if_pos (by decide)]
  apply wpAny_bind
  apply back_applied hs
  have other : ¬ ((((items.size : Int) - 1) == 0 && (-1 : Int) == 1 && items.size == items.size) = true) := by simp
  show wpAny _ _ (if (((items.size : Int) - 1) == 0 && (-1 : Int) == 1 && items.size == items.size) = true then _ else _) _ _ s
  rw [if_neg other, back_pick]
  first
    | exact wpAny_bind (m := Builtin.Tuple.tupleExact _) (wpAny_newObj_type (wpAny_pure ⟨_, rfl, wpAny_pure h⟩) fits)
    | exact wpAny_bind (wpAny_bind (m := Builtin.Tuple.tupleExact _) (wpAny_newObj_type (wpAny_pure (wpAny_pure ⟨_, rfl, wpAny_pure h⟩)) fits))
    | exact wpAny_bind (m := Builtin.Tuple.tupleExact _) (wpAny_newObj_type (wpAny_bind (wpAny_pure (wpAny_pure ⟨_, rfl, wpAny_pure h⟩))) fits)

theorem lcm_wide {a b : Int} {t u : Tok} {Q : Value → Shared → Prop} (ha : a.natAbs.log2 < 13000) (hb : b.natAbs.log2 < 13000) (h : Q (.int ((Nat.lcm a.natAbs b.natAbs : Nat) : Int) s.toks) { s with toks := s.toks + 1 }) :
    wpAny (model prog w) A (call (.builtin "math.lcm") [.int a t, .int b u]) Q E s := by
  have one : Nat.lcm 1 a.natAbs = a.natAbs := by simp [Nat.lcm]
  have bits : ∀ {n m : Nat}, n.log2 < m → n < 2 ^ m := fun {n m} h => by
    by_cases z : n = 0
    · subst z; exact Nat.two_pow_pos m
    · exact (Nat.log2_lt z).mp h
  have small : (Nat.lcm a.natAbs b.natAbs).log2 < bitsLine := by
    have le : Nat.lcm a.natAbs b.natAbs ≤ a.natAbs * b.natAbs := Nat.div_le_self _ _
    by_cases z : Nat.lcm a.natAbs b.natAbs = 0
    · rw [z, Nat.log2_zero]; decide
    · have lt : (Nat.lcm a.natAbs b.natAbs).log2 < 26000 := by
        refine (Nat.log2_lt z).mpr ?_
        rw [show (26000 : Nat) = 13000 + 13000 from rfl, Nat.pow_add]
        exact Nat.lt_of_le_of_lt le (Nat.mul_lt_mul'' (bits ha) (bits hb))
      exact Nat.lt_trans lt (by decide)
  have m1 : (max 1 a.natAbs).log2 < 13000 := by
    by_cases z : a.natAbs = 0
    · rw [z]; decide
    · rw [Nat.max_eq_right (by omega)]; exact ha
  have m2 : (max a.natAbs b.natAbs).log2 < 13000 := by
    rcases Nat.le_total a.natAbs b.natAbs with z | z
    · rw [Nat.max_eq_right z]; exact hb
    · rw [Nat.max_eq_left z]; exact ha
  have g := PySem.W.mg_run_lcm a t b u (by omega) (by omega) (by rw [one]; exact small)
  rw [one] at g
  exact call_function_meets PySem.W.MGF.kind_lcm PySem.W.MGF.plain_lcm PySem.W.MGF.entry_lcm (PySem.W.MGF.args_lcm _ _) g.meets h
end

/-! ### != of types -/
theorem type_ne_slot : Slot "type" (cmpInfo .NotEq).2.1 "object.__ne__" :=
  .of (owner := "object") (n := "__ne__") (by rw [typeLookup_type, builtinLookup_eq_fast]; kernel_rfl) (by decide +kernel) (by decide +kernel) (by decide +kernel)
    (by first | exact .inl (by decide +kernel) | exact .inr (by decide +kernel)) (by rw [isSubtype_type]; kernel_rfl)
theorem type_ne_back : Slot "type" (cmpInfo .NotEq).2.2 "object.__ne__" := type_ne_slot
section
variable {m n : String}
theorem ne_same {Q : Fin → Shared → Prop} (hm : ∀ s : Shared, s.TypeIs (.type m) "type") (h : Q (.done (.ret (.bool false))) s) : wpAny (model prog w) A (Builtin.«object.__ne__» ⟨[.type m, .type m], []⟩) Q E s := by
  unfold Builtin.«object.__ne__»
  repeat (first
    | with_reducible refine wpAny_cRoomFor_or (.inl rfl) ?_
    | (refine wpAny_callSpecialIfBound?_slot (hm _) PySem.TypeEq.slot_type_eq (call_gives PySem.TypeEq.slot_type_eq (hm _) PySem.F.entry_object_eq (PySem.F.args_object_eq_2 _ _) (PySem.TypeEq.object_eq_same rfl (by simp)) ?_))
    | wp_step)
  show wpAny _ _ (truthy (.bool true) >>= fun b => ret (.bool (!b))) _ _ _
  exact wpAny_bind (wpAny_truthy_bool (wpAny_pure h))
theorem ne_other {Q : Fin → Shared → Prop} (hm : ∀ s : Shared, s.TypeIs (.type m) "type") (ne : (Value.type m == Value.type n) = false) (h : Q (.done (.ret .notImplemented)) s) : wpAny (model prog w) A (Builtin.«object.__ne__» ⟨[.type m, .type n], []⟩) Q E s := by
  unfold Builtin.«object.__ne__»
  repeat (first
    | with_reducible refine wpAny_cRoomFor_or (.inl rfl) ?_
    | (refine wpAny_callSpecialIfBound?_slot (hm _) PySem.TypeEq.slot_type_eq (call_gives PySem.TypeEq.slot_type_eq (hm _) PySem.F.entry_object_eq (PySem.F.args_object_eq_2 _ _) (PySem.TypeEq.object_eq_other rfl ne) ?_))
    | wp_step)
  show wpAny _ _ (ret .notImplemented) _ _ _
  exact wpAny_pure h
theorem type_ne_same {Q : Value → Shared → Prop} (hm : ∀ s : Shared, s.TypeIs (.type m) "type") (h : Q (.bool false) s) : wpAny (model prog w) A (compareOp .NotEq (.type m) (.type m)) Q E s := by
  show wpAny _ A (richCompare .NotEq _ _) Q E s
  exact wpAny_richCompare_same (T := "type") (hm s) (hm s) type_ne_slot
    (wpAny_call_entry type_ne_slot (hm s) PySem.F.cmpEntry_ne (ne_same hm ⟨_, rfl, (fun z => nomatch z), h⟩) (PySem.F.cmpArgs_ne _ _))
theorem type_ne_other {Q : Value → Shared → Prop} (hm : ∀ s : Shared, s.TypeIs (.type m) "type") (hn : ∀ s : Shared, s.TypeIs (.type n) "type") (ne : (Value.type m == Value.type n) = false) (h : Q (.bool true) s) : wpAny (model prog w) A (compareOp .NotEq (.type m) (.type n)) Q E s := by
  have ne' : (Value.type n == Value.type m) = false := by
    rw [Bool.eq_false_iff] at ne ⊢
    exact fun e => ne (by rw [beq_iff_eq] at e ⊢; exact e.symm)
  show wpAny _ A (richCompare .NotEq _ _) Q E s
  have s1 := type_ne_slot
  have s2 := type_ne_back
  rcases hi : cmpInfo CmpOp.NotEq with ⟨sym, f, r⟩
  rw [hi] at s1 s2
  simp only [richCompare, hi, (hm s).oneThing_none]
  try with_reducible refine wpAny_holding ?_
  apply wpAny_bind
  apply wpAny_cRoomFor_or (.inl rfl)
  refine wpAny_bind (wpAny_typeOf (hm s) (wpAny_bind (wpAny_typeOf (hn s) ?_)))
  simp only [bne_self_eq_false, Bool.false_eq_true, if_false, pure_bind, Bool.not_false, if_true]
  refine wpAny_bind (m := tryCompare (.type m) _ (.type n)) (wpAny_tryCompare_declines (hm s) s1 (wpAny_call_entry s1 (hm s) PySem.F.cmpEntry_ne (ne_other hm ne ⟨_, rfl, rfl, ?_⟩) (PySem.F.cmpArgs_ne _ _)))
  refine wpAny_bind (m := tryCompare (.type n) _ (.type m)) (wpAny_tryCompare_declines (hn s) s2 (wpAny_call_entry s2 (hn s) PySem.F.cmpEntry_ne (ne_other hn ne' ⟨_, rfl, rfl, ?_⟩) (PySem.F.cmpArgs_ne _ _)))
  have k : isSame (.type m) (.type n) = pure false := by rw [isSame_plain rfl, ne]
  first
    | exact wpAny_bind (wpAny_rule (wpAny_bind (wpAny_of_eq k (wpAny_pure h))))
    | (repeat (first | refine wpAny_of_eq k ?_ | wp_step); exact h)
end
section
variable {X : Cx}
theorem op_neTy {m n : String} (hm : ∀ s : Shared, s.TypeIs (.type m) "type") (hn : ∀ s : Shared, s.TypeIs (.type n) "type") {pins : List (Addr × Obj)} {s : Shared} {σ : L2.St} {H : Hp} {Q : VK} (I : Inv X pins σ H s) (q : Q (.bl (!decide (m = n))) H) :
    wpAny (model X.prog X.w) X.A (compareOp .NotEq (.type m) (.type n)) (EP X pins σ Q) X.xe s := by
  by_cases e : m = n
  · subst e
    exact type_ne_same hm ⟨.bl false, H, I, rfl, by simpa using q⟩
  · exact type_ne_other hm hn (by simpa using e) ⟨.bl true, H, I, rfl, by simpa [e] using q⟩
end
section
variable {X : Cx}
theorem op_eqTy {m n : String} (hm : ∀ s : Shared, s.TypeIs (.type m) "type") (hn : ∀ s : Shared, s.TypeIs (.type n) "type") {pins : List (Addr × Obj)} {s : Shared} {σ : L2.St} {H : Hp} {Q : VK} (I : Inv X pins σ H s) (q : Q (.bl (decide (m = n))) H) :
    wpAny (model X.prog X.w) X.A (compareOp .Eq (.type m) (.type n)) (EP X pins σ Q) X.xe s := by
  by_cases e : m = n
  · subst e
    exact PySem.TypeEq.eq_type_same hm ⟨.bl true, H, I, rfl, by simpa using q⟩
  · exact PySem.TypeEq.eq_type_other hm hn (by simpa using e) ⟨.bl false, H, I, rfl, by simpa [e] using q⟩
end
end Dd
end
section
set_option Elab.async false
set_option linter.all false
set_option maxRecDepth 100000
/-! enumerate(t) of a tuple -/
namespace Dd
open PySem PySem.Spec PyProof.Rows L2
/-- the heap behind enumerate(t) -/
def enumH (h : Heap) (t : Addr) : Heap := (h.push { cls := .type "tuple_iterator", data := .fields #[.ref t, .int 0 0] }).push { cls := .type "enumerate", data := .fields #[.none, .bool false, .ref h.objs.size, rawInt 0, .none, .none] }
theorem enum_new (t : Addr) (items : Array Value) : Meets (Builtin.«enumerate.__new__» ⟨[.type "enumerate", .ref t], []⟩) fun _ R s => s.heap.IsTuple t items ∧
    R (.ok (.ret (.ref (s.heap.push { cls := .type "tuple_iterator", data := .fields #[.ref t, .int 0 0] }).objs.size))) { s with heap := enumH s.heap t } :=
  .of_wp fun prog w A R s h => by
    obtain ⟨hp, g, d, tk, os⟩ := s
    obtain ⟨ht, h⟩ := h
    have sub := sub_enumerate
    have T : Heap.IsTuple (Shared.heap ⟨hp, g, d, tk, os⟩) t items := ht
    obtain ⟨o, ho, hc, hd⟩ := id ht
    have lp : ∀ {A : Around} {E : Value → Shared → Prop} {Q : Value → Shared → Prop}, Q (.type "tuple") ⟨hp, g, d, tk, os⟩ → wpAny (model prog w) A (typeOf (.ref t)) Q E ⟨hp, g, d, tk, os⟩ := fun q => wpAny_typeOf (T := "tuple") ⟨o, ho, hc⟩ q
    wp_walk using lp
    refine wpAny_stack_any fun st => wpAny_pure ?_
    split
    · rename_i c _ _ _ _ _
      cases (c == Value.type "enumerate")
      · wp_walk using lp, wpAny_pyIter_tuple T
        exact ⟨_, rfl, h⟩
      · wp_walk using lp, wpAny_pyIter_tuple T
        exact ⟨_, rfl, h⟩
    · wp_walk using lp, wpAny_pyIter_tuple T
      exact ⟨_, rfl, h⟩
section
variable {prog : Program} {w : World} {A : Around} {E : Value → Shared → Prop} {s : Shared}
theorem enum_call {t : Addr} {items : Array Value} {Q : Value → Shared → Prop} (T : s.heap.IsTuple t items)
    (h : ∀ h', IsEnum h' (s.heap.objs.size + 1) s.heap.objs.size 0 .none → h'.IsTupleIter s.heap.objs.size t 0 → h'.objs.size = s.heap.objs.size + 2 → (∀ b o, s.heap.get? b = some o → h'.get? b = some o) → Q (.ref (s.heap.objs.size + 1)) { s with heap := h' }) :
    wpAny (model prog w) A (call (.type "enumerate") [.ref t]) Q E s := by
  refine callType_new F.called_enumerate (by decide) (F.typeCall_enumerate_1 _) (F.newCall_enumerate_1 _) (fun obj => F.args_object_init_2 obj _) F.entry_enumerate_new (enum_new t items) ⟨T, ?_⟩
  have z : (s.heap.push { cls := .type "tuple_iterator", data := .fields #[.ref t, .int 0 0] }).objs.size = s.heap.objs.size + 1 := Heap.size_push ..
  have e : IsEnum (enumH s.heap t) (s.heap.objs.size + 1) s.heap.objs.size 0 .none := by
    have := Heap.get?_push_size (s.heap.push { cls := .type "tuple_iterator", data := .fields #[.ref t, .int 0 0] }) (o := { cls := .type "enumerate", data := .fields #[.none, .bool false, .ref s.heap.objs.size, rawInt 0, .none, .none] }) rfl
    rw [z] at this; exact this
  show _ ∧ _
  rw [z]
  exact ⟨⟨_, e, rfl⟩, h _ e ⟨_, Heap.get?_push_of_some _ (Heap.get?_push_size _ rfl), rfl, rfl⟩ (by rw [enumH, Heap.size_push, z]) fun b o x => Heap.get?_push_of_some _ (Heap.get?_push_of_some _ x)⟩
end
/-- the tuple at a, each item in a new pair with its place -/
def IteT (K : PySem.W.Frag) (a : Addr) : L2.It where
  go i H := ∃ (xs : List V) (x : V), SqT K H a xs ∧ xs[i]? = some x
  yld i H v H' := ∃ T x, v = .ref T ∧ H T = none ∧ H' = upd H T (.tup [.int (i : Nat), x]) ∧ ∀ xs, SqT K H a xs → xs[i]? = some x
  stop i H := ∃ xs : List V, SqT K H a xs ∧ xs.length ≤ i
theorem turn_enumT {P : Program} {w : World} {K : PySem.W.Frag} {elts : List Expr} {kk : Nat} {tpos : Pos} (a e it : Addr) (ae : a ≠ e) (ai : a ≠ it) :
    Turn P w K (.Tuple elts kk tpos) (IteT K a) [e, it] e (fun i h => (∃ old, IsEnum h e it ((i : Nat) : Int) old) ∧ h.IsTupleIter it a i ∧ e ≠ it) where
  mem := by simp
  obj i h st b hb := by
    obtain ⟨⟨old, he⟩, ⟨o, ho, hc, hd⟩, _⟩ := st
    rcases (by simpa using hb : b = e ∨ b = it) with rfl | rfl
    · exact ⟨_, he, fun v q => nomatch q⟩
    · exact ⟨o, ho, fun v q => by rw [hd] at q; cases q⟩
  keep i h h' st k := by
    obtain ⟨⟨old, he⟩, hi, ne⟩ := st
    exact ⟨⟨old, k e (by simp) _ he⟩, hi.at fun o q => k it (by simp) o q, ne⟩
  item := by
    intro X hP hw hK hc i pins s σ H E I hf st hg
    subst hP hw hK
    obtain ⟨⟨old, he⟩, hit, ne⟩ := st
    obtain ⟨xs, x, sq, hx⟩ := hg
    obtain ⟨its, rv, p, hz⟩ := I.tuple sq
    obtain ⟨u, hu, ru⟩ := rv.get hx
    have lt : e < s.heap.objs.size := Heap.lt_size he
    have ilt : it < s.heap.objs.size := by obtain ⟨_, q, _⟩ := hit; exact Heap.lt_size q
    have D := Draws.tuple (prog := X.prog) (w := X.w) (A := X.A.in1) (I.ok.hd hc) it a ai its.toArray
    have hi : i < its.toArray.size := by
      have := (List.getElem?_eq_some_iff.mp hu).1
      simpa using this
    refine wpAny_pyNext_enum_itemD D he ⟨hit, p⟩ hi ne (by simp [ne, Ne.symm ae]) fun y h' tk hy ho st' hT hsz hk => ?_
    obtain ⟨hit', _⟩ := st'
    have ey : y = u := by
      have : its.toArray[i]? = some u := by simpa using hu
      exact Option.some.inj (hy.symm.trans this)
    subst ey
    refine ⟨_, rfl, wpAny_letOwnedTupleGo_enum (s := { s with heap := h', toks := tk + 1 }) ho fun h2 he' sb => ?_⟩
    have hT2 : h2.get? s.heap.objs.size = some { cls := .type "tuple", data := .seq #[.int i tk, y] } := (sb.2 _ (Nat.ne_of_gt lt)).trans hT
    have new : ObjOk X.prog X.w (upd H s.heap.objs.size (.tup [.int (i : Nat), x])) h2 s.heap.objs.size (.tup [.int (i : Nat), x]) :=
      ⟨by show 2 ≤ sizeLine; decide, [.int i tk, y], .cons ⟨_, rfl⟩ (.cons ru .nil), ⟨_, hT2, rfl, _, rfl⟩⟩
    have I1 : Inv X pins σ (upd H s.heap.objs.size (.tup [.int (i : Nat), x])) { s with heap := h2, toks := tk + 1 } :=
      I.turnedNew (ch := [e, it]) (fun b ob hb q => (sb.2 b (fun z => hb (by simp [z]))).trans (hk b ob (fun z => hb (by simp [z])) (fun z => hb (by simp [z])) q)) hf (Nat.le_refl _) new
    refine ⟨.ref s.heap.objs.size, _, I1, rfl, ⟨_, x, rfl, I.hok.fresh (Nat.le_refl _), rfl, fun ys hy => by rw [I.tuple_inj hy sq]; exact hx⟩, ⟨⟨y, ?_⟩, hit'.at fun o q => (sb.2 it (Ne.symm ne)).trans q, ne⟩, fun b hb => ?_⟩
    · rw [show ((i + 1 : Nat) : Int) = (i : Int) + 1 by omega]; exact he'
    · have hb' : b < s.heap.objs.size := by
        rcases (by simpa using hb : b = e ∨ b = it) with rfl | rfl
        · exact lt
        · exact ilt
      rw [upd_ne (Nat.ne_of_lt hb')]
      exact (hf b hb).1
  done := by
    intro X hP hw hK hc i pins s σ H E I hf st hg
    subst hP hw hK
    obtain ⟨⟨old, he⟩, hit, ne⟩ := st
    obtain ⟨xs, sq, hx⟩ := hg
    obtain ⟨its, rv, p, hz⟩ := I.tuple sq
    obtain ⟨f0, f1, f2, f3, f4, f5⟩ := hf it (by simp)
    have len := rv.length
    have hT : s.TypeIs (.ref e) "enumerate" := ⟨_, he, rfl⟩
    have no : its.toArray[i]? = none := by simp; omega
    unfold pyNext
    refine wpAny_bind (wpAny_attempt (wpAny_callSpecial?_slot (name := Str.ofString "__next__") hT F.slot_enumerate_next
      (wpAny_call_entry F.slot_enumerate_next hT F.entry_enumerate_next ?_ (F.args_enumerate_next_1 _))))
    show wpAny _ _ (field (.ref e) 2 >>= _) _ _ _
    refine wpAny_bind (wpAny_field he rfl (x := .ref it) rfl ?_)
    refine wpAny_bind (RZ.nextOf_tuple_end (I.ok.hd hc) hit p no fun h' x eb hx' => ?_)
    obtain ⟨o, ho, hc'⟩ := hx'
    refine wpAny_bind (wpAny_isInstance (T := "StopIteration") (b := true) ⟨o, ho, hc'⟩ isSubtype_stop ?_)
    exact wpAny_pure ⟨rfl, I.turned (t' := s.toks) (fun b o hb q => eb b o hb q) f0 f1 f3 f4 f5⟩
  self := fun A i s Q E st h => let ⟨⟨_, he⟩, _⟩ := st; wpAny_pyIter_enum he h
def iEnumT (K : PySem.W.Frag) (ta : TA) : TI := fun σ H R => ta σ H fun vs H1 => ∃ a xs, vs = [.ref a] ∧ SqT K H1 a xs ∧ R (IteT K a) H1
theorem pi_enumT {X : Cx} {e : Expr} {ta : TA} {p pos tpos : Pos} {elts : List Expr} {kk : Nat} (hg : Gl X "enumerate") (hm : X.mg "enumerate" = none) (ha : PA X [e] ta) (hs : starEach [e] X.env = [(false, eval e X.env)]) :
    PI X (.Tuple elts kk tpos) (.Call (.Name "enumerate" p) [e] [] pos) (iEnumT X.K ta) where
  run pins s σ H R I h := by
    refine Call_ (ld_blt I hg hm boot_enumerate (PyProof.Rows.callWith_type1 (thn (ha.run pos pins s σ H _ I h) ?_) hs rfl))
    rintro us s1 ⟨vs, H1, I1, r1, a, xs, rfl, sq, q⟩
    obtain ⟨v, rfl, rv⟩ := vals1 r1
    cases (show v = Value.ref a from rv)
    obtain ⟨its, rv, p', hz⟩ := I1.tuple sq
    refine enum_call p' fun h' he hit hsz hk => wpAny_pyIter_enum he ?_
    have I2 : Inv X pins σ H1 { s1 with heap := h' } := I1.kept (t' := s1.toks) hk
    have lt : a < s1.heap.objs.size := by obtain ⟨_, e, _⟩ := id p'; exact Heap.lt_size e
    refine ⟨s1.heap.objs.size + 1, [s1.heap.objs.size + 1, s1.heap.objs.size], _, _, H1, rfl, I2, turn_enumT a (s1.heap.objs.size + 1) s1.heap.objs.size (Nat.ne_of_lt (Nat.lt_succ_of_lt lt)) (Nat.ne_of_lt lt), ⟨⟨.none, he⟩, hit, Nat.succ_ne_self _⟩, fun b hb => ?_, q⟩
    have le : s1.heap.objs.size ≤ b := by
      rcases (by simpa using hb : b = s1.heap.objs.size + 1 ∨ b = s1.heap.objs.size) with rfl | rfl
      · exact Nat.le_add_right _ _
      · exact Nat.le_refl _
    exact I1.fpOk le (I1.hok.fresh le)
end Dd
end
section
set_option Elab.async false
set_option linter.all false
set_option maxRecDepth 100000
/-! zip(*x) of tuples -/
namespace Dd
open PySem PySem.Spec PyProof.Rows L2
theorem zip_typeCall (vs : List Value) : checkTypeCall "zip" ⟨vs, []⟩ = pure () := by kernel_rfl
theorem zip_newCall : ∀ vs : List Value, 1 ≤ vs.length → vs.length ≤ 12 → checkBuiltinCall "zip.__new__" ⟨.type "zip" :: vs, []⟩ = pure ()
  | [_], _, _ => by kernel_rfl
  | [_, _], _, _ => by kernel_rfl
  | [_, _, _], _, _ => by kernel_rfl
  | [_, _, _, _], _, _ => by kernel_rfl
  | [_, _, _, _, _], _, _ => by kernel_rfl
  | [_, _, _, _, _, _], _, _ => by kernel_rfl
  | [_, _, _, _, _, _, _], _, _ => by kernel_rfl
  | [_, _, _, _, _, _, _, _], _, _ => by kernel_rfl
  | [_, _, _, _, _, _, _, _, _], _, _ => by kernel_rfl
  | [_, _, _, _, _, _, _, _, _, _], _, _ => by kernel_rfl
  | [_, _, _, _, _, _, _, _, _, _, _], _, _ => by kernel_rfl
  | [_, _, _, _, _, _, _, _, _, _, _, _], _, _ => by kernel_rfl
  | [], h, _ => by simp at h
  | _ :: _ :: _ :: _ :: _ :: _ :: _ :: _ :: _ :: _ :: _ :: _ :: _ :: _, _, h => by simp at h
theorem init_any (o : Value) (vs : List Value) : argsOk "object.__init__" ⟨o :: vs, []⟩ := by
  unfold argsOk; rw [signature?_of (id := "object.__init__") (n := ['_', '_', 't', 'i', 'n', 'i', '_', '_']) (o := ['t', 'c', 'e', 'j', 'b', 'o']) (by kernel_rfl) F.owner_object]; kernel_rfl
def pushIts (h : Heap) : List Addr → Heap
  | [] => h
  | t :: ts => pushIts (h.push { cls := .type "tuple_iterator", data := .fields #[.ref t, .int 0 0] }) ts
def refsFrom (m : Nat) : List Addr → List Value
  | [] => []
  | _ :: ts => .ref m :: refsFrom (m + 1) ts
section
variable {prog : Program} {w : World} {A : Around} {E : Value → Shared → Prop}
theorem iter_loop : ∀ (ts : List Addr) (acc : Array Value) (s : Shared) (Q : Array Value → Shared → Prop), (∀ t ∈ ts, ∃ items, s.heap.IsTuple t items) → Q (acc ++ (refsFrom s.heap.objs.size ts).toArray) { s with heap := pushIts s.heap ts } →
    wpAny (model prog w) A (forIn (ts.map Value.ref) acc fun x (r : Array Value) => do
      let v ← holding r.toList (pyIter x)
      pure (ForInStep.yield (r.push v))) Q E s
  | [], acc, s, Q, _, h => by
    simp only [List.map_nil, List.forIn_nil]
    exact wpAny_pure (by simpa [refsFrom, pushIts] using h)
  | t :: ts, acc, s, Q, ht, h => by
    obtain ⟨items, T⟩ := ht t (by simp)
    simp only [List.map_cons, List.forIn_cons]
    refine wpAny_bind (wpAny_bind (wpAny_holding (wpAny_pyIter_tuple T ?_)))
    refine wpAny_pure ?_
    refine iter_loop ts _ _ Q (fun u hu => ?_) ?_
    · obtain ⟨it, U⟩ := ht u (by simp [hu])
      exact ⟨it, U.push _⟩
    · have z : (s.heap.push { cls := .type "tuple_iterator", data := .fields #[.ref t, .int 0 0] }).objs.size = s.heap.objs.size + 1 := Heap.size_push ..
      have e : acc.push (Value.ref s.heap.objs.size) ++ (refsFrom (s.heap.push { cls := .type "tuple_iterator", data := .fields #[.ref t, .int 0 0] }).objs.size ts).toArray = acc ++ (refsFrom s.heap.objs.size (t :: ts)).toArray := by
        rw [z]
        show _ = acc ++ (Value.ref s.heap.objs.size :: refsFrom (s.heap.objs.size + 1) ts).toArray
        apply Array.toList_inj.mp
        simp
      first | exact e ▸ h | (rw [e]; exact h)
theorem iterAll_ok {ts : List Addr} {s : Shared} {Q : List Value → Shared → Prop} (ht : ∀ t ∈ ts, ∃ items, s.heap.IsTuple t items) (h : Q (refsFrom s.heap.objs.size ts) { s with heap := pushIts s.heap ts }) :
    wpAny (model prog w) A (Builtin.SmallTypes.iterAll (ts.map Value.ref)) Q E s := by
  unfold Builtin.SmallTypes.iterAll
  refine wpAny_bind (iter_loop ts #[] s _ ht ?_)
  exact wpAny_pure (by simpa using h)
end
theorem newClass_zip (vs : List Value) : Builtin.SmallTypes.newClass "zip" ⟨.type "zip" :: vs, []⟩ = pure (.type "zip", vs) := by kernel_rfl
theorem refs_len : ∀ (m : Nat) (ts : List Addr), (refsFrom m ts).length = ts.length
  | _, [] => rfl
  | m, _ :: ts => by show (refsFrom (m + 1) ts).length + 1 = ts.length + 1; rw [refs_len (m + 1) ts]
def zipH (h : Heap) (ts : List Addr) : Heap :=
  (((pushIts h ts).push { cls := .type "tuple", data := .seq (refsFrom h.objs.size ts).toArray }).push { cls := .type "tuple", data := .seq ((refsFrom h.objs.size ts).map fun _ => .none).toArray }).push
    { cls := .type "zip", data := .fields #[.none, .bool false, .bool false, .ref (pushIts h ts).objs.size, .ref ((pushIts h ts).objs.size + 1)] }
theorem zip_new (ts : List Addr) (hl : ts.length ≤ 1000) : Meets (Builtin.«zip.__new__» ⟨.type "zip" :: ts.map Value.ref, []⟩) fun _ R s => (∀ t ∈ ts, ∃ items, s.heap.IsTuple t items) ∧
    R (.ok (.ret (.ref ((pushIts s.heap ts).objs.size + 2)))) { s with heap := zipH s.heap ts } :=
  .of_wp fun prog w A R s h => by
    obtain ⟨ht, h⟩ := h
    unfold Builtin.«zip.__new__»
    refine wpAny_bind (wpAny_of_eq (newClass_zip _) ?_)
    try dsimp only
    rw [if_neg (by simp)]
    refine wpAny_bind (iterAll_ok ht ?_)
    have len := refs_len s.heap.objs.size ts
    have big : 1000 ≤ sizeLine := by rw [sizeLine_eq]; decide
    refine wpAny_bind (wpAny_newTuple ?_ (by rw [len]; omega))
    refine wpAny_bind (wpAny_newTuple ?_ (by rw [List.length_map, len]; omega))
    have z1 : ((pushIts s.heap ts).push { cls := .type "tuple", data := .seq (refsFrom s.heap.objs.size ts).toArray }).objs.size = (pushIts s.heap ts).objs.size + 1 := Heap.size_push ..
    have z2 : (((pushIts s.heap ts).push { cls := .type "tuple", data := .seq (refsFrom s.heap.objs.size ts).toArray }).push { cls := .type "tuple", data := .seq ((refsFrom s.heap.objs.size ts).map fun _ => .none).toArray }).objs.size = (pushIts s.heap ts).objs.size + 2 := by rw [Heap.size_push, z1]
    unfold Builtin.SmallTypes.newRecord
    refine wpAny_bind (wpAny_newObj_type ?_ (by show (5 : Nat) ≤ sizeLine + 2; omega))
    rw [z1, z2]
    exact wpAny_pure ⟨_, rfl, h⟩
theorem its_size : ∀ (ts : List Addr) (h : Heap), (pushIts h ts).objs.size = h.objs.size + ts.length
  | [], _ => rfl
  | t :: ts, h => by
    show (pushIts (h.push _) ts).objs.size = _
    rw [its_size ts, Heap.size_push, List.length_cons]
    omega
theorem its_keep : ∀ (ts : List Addr) (h : Heap) (c : Addr) (o : Obj), h.get? c = some o → (pushIts h ts).get? c = some o
  | [], _, _, _, e => e
  | t :: ts, h, c, o, e => its_keep ts _ c o (Heap.get?_push_of_some _ e)
theorem its_at : ∀ (ts : List Addr) (h : Heap) (k : Nat) (t : Addr), ts[k]? = some t → (pushIts h ts).IsTupleIter (h.objs.size + k) t 0
  | [], _, _, _, e => by simp at e
  | u :: ts, h, 0, t, e => by
    cases (show u = t by simpa using e)
    exact ⟨_, its_keep ts _ _ _ (Heap.get?_push_size _ rfl), rfl, rfl⟩
  | u :: ts, h, k + 1, t, e => by
    have := its_at ts (h.push { cls := .type "tuple_iterator", data := .fields #[.ref u, .int 0 0] }) k t (by simpa using e)
    rw [Heap.size_push] at this
    rw [show h.objs.size + (k + 1) = h.objs.size + 1 + k by omega]
    exact this
theorem refs_at : ∀ (m : Nat) (ts : List Addr) (k : Nat) (t : Addr), ts[k]? = some t → (refsFrom m ts)[k]? = some (.ref (m + k))
  | _, [], _, _, e => by simp at e
  | m, u :: ts, 0, t, e => rfl
  | m, u :: ts, k + 1, t, e => by
    have := refs_at (m + 1) ts k t (by simpa using e)
    rw [show m + (k + 1) = m + 1 + k by omega]
    exact this
/-- a zip object over the iterators told by the tuple at TI, its own tuple at TO; f0, f1: what it has handed out -/
def IsZ (h : Heap) (z TI TO : Addr) (f0 : Value) (f1 : Bool) : Prop := h.get? z = some { cls := .type "zip", dict := none, data := .fields #[f0, .bool f1, .bool false, .ref TI, .ref TO], slots := #[] }
section
variable {prog : Program} {w : World} {A : Around} {E : Value → Shared → Prop} {s : Shared}
theorem zip_call {ts : List Addr} {Q : Value → Shared → Prop} (l1 : 1 ≤ ts.length) (l2 : ts.length ≤ 12) (T : ∀ t ∈ ts, ∃ items, s.heap.IsTuple t items)
    (h : ∀ h', IsZ h' (s.heap.objs.size + ts.length + 2) (s.heap.objs.size + ts.length) (s.heap.objs.size + ts.length + 1) .none false → h'.get? (s.heap.objs.size + ts.length) = some { cls := .type "tuple", data := .seq (refsFrom s.heap.objs.size ts).toArray } →
      h'.get? (s.heap.objs.size + ts.length + 1) = some { cls := .type "tuple", data := .seq ((refsFrom s.heap.objs.size ts).map fun _ => .none).toArray } → (∀ (k : Nat) (t : Addr), ts[k]? = some t → h'.IsTupleIter (s.heap.objs.size + k) t 0) →
      h'.objs.size = s.heap.objs.size + ts.length + 3 → (∀ b o, s.heap.get? b = some o → h'.get? b = some o) → Q (.ref (s.heap.objs.size + ts.length + 2)) { s with heap := h' }) :
    wpAny (model prog w) A (call (.type "zip") (ts.map Value.ref)) Q E s := by
  have z0 := its_size ts s.heap
  have z1 : ((pushIts s.heap ts).push { cls := .type "tuple", data := .seq (refsFrom s.heap.objs.size ts).toArray }).objs.size = s.heap.objs.size + ts.length + 1 := by rw [Heap.size_push, z0]
  have z2 : (((pushIts s.heap ts).push { cls := .type "tuple", data := .seq (refsFrom s.heap.objs.size ts).toArray }).push { cls := .type "tuple", data := .seq ((refsFrom s.heap.objs.size ts).map fun _ => .none).toArray }).objs.size = s.heap.objs.size + ts.length + 2 := by rw [Heap.size_push, z1]
  have gz : IsZ (zipH s.heap ts) (s.heap.objs.size + ts.length + 2) (s.heap.objs.size + ts.length) (s.heap.objs.size + ts.length + 1) .none false := by
    have := Heap.get?_push_size (((pushIts s.heap ts).push { cls := .type "tuple", data := .seq (refsFrom s.heap.objs.size ts).toArray }).push { cls := .type "tuple", data := .seq ((refsFrom s.heap.objs.size ts).map fun _ => .none).toArray })
      (o := { cls := .type "zip", data := .fields #[.none, .bool false, .bool false, .ref (pushIts s.heap ts).objs.size, .ref ((pushIts s.heap ts).objs.size + 1)] }) rfl
    rw [z2] at this
    unfold IsZ zipH
    rw [this, z0]
  have gTO : (zipH s.heap ts).get? (s.heap.objs.size + ts.length + 1) = some { cls := .type "tuple", data := .seq ((refsFrom s.heap.objs.size ts).map fun _ => .none).toArray } := by
    have := Heap.get?_push_size ((pushIts s.heap ts).push { cls := .type "tuple", data := .seq (refsFrom s.heap.objs.size ts).toArray }) (o := { cls := .type "tuple", data := .seq ((refsFrom s.heap.objs.size ts).map fun _ => .none).toArray }) rfl
    rw [z1] at this
    exact Heap.get?_push_of_some _ this
  have gTI : (zipH s.heap ts).get? (s.heap.objs.size + ts.length) = some { cls := .type "tuple", data := .seq (refsFrom s.heap.objs.size ts).toArray } := by
    have := Heap.get?_push_size (pushIts s.heap ts) (o := { cls := .type "tuple", data := .seq (refsFrom s.heap.objs.size ts).toArray }) rfl
    rw [z0] at this
    exact Heap.get?_push_of_some _ (Heap.get?_push_of_some _ this)
  have up : ∀ b o, (pushIts s.heap ts).get? b = some o → (zipH s.heap ts).get? b = some o := fun b o e => Heap.get?_push_of_some _ (Heap.get?_push_of_some _ (Heap.get?_push_of_some _ e))
  refine callType_new F.called_zip (by decide) (zip_typeCall _) (zip_newCall _ (by rw [List.length_map]; exact l1) (by rw [List.length_map]; exact l2)) (fun o => init_any o _) F.entry_zip_new (zip_new ts (by omega)) ⟨T, ?_⟩
  show _ ∧ _
  rw [z0]
  refine ⟨⟨_, gz, rfl⟩, h _ gz gTI gTO (fun k t e => (its_at ts s.heap k t e).at fun o q => up _ o q) ?_ fun b o e => up b o (its_keep ts _ b o e)⟩
  rw [zipH, Heap.size_push, z2]
end
end Dd
end
section
set_option Elab.async false
set_option linter.all false
set_option maxRecDepth 100000
namespace Dd
open PySem PySem.Spec PyProof.Rows L2
theorem zip_newCall1 (v : Value) (vs : List Value) : checkBuiltinCall "zip.__new__" ⟨.type "zip" :: v :: vs, []⟩ = pure () := by
  unfold checkBuiltinCall
  trace_state
  kernel_rfl
end Dd
end
section
set_option Elab.async false
set_option linter.all false
set_option maxRecDepth 100000
namespace Dd
open PySem PySem.Spec PyProof.Rows L2
section
variable {prog : Program} {w : World} {A : Around} {E : Value → Shared → Prop} {s : Shared}
theorem ask_alive {a : Addr} {Q : Option Obj → Shared → Prop} (h : Q (s.heap.get? a) s) : wpAny (model prog w) A (loadIfAlive a) Q E s := fun Γ p _ => by
  unfold loadIfAlive
  rw [Sem.wp_loadIfAlive]
  exact (wpAny_pure (M := model prog w) (A := A) (E := E) h) Γ p ‹_›
/-- the state of a zip at its i-th turn -/
structure ZSt (z TI TO m : Addr) (ts : List Addr) (i : Nat) (h : Heap) : Prop where
  at_ : ∃ f0 f1, IsZ h z TI TO f0 f1 ∧ (f0 = .none ∨ ∃ a : Nat, f0 = rawInt (a : Int))
  ti : h.get? TI = some { cls := .type "tuple", data := .seq (refsFrom m ts).toArray }
  to : ∃ arr : Array Value, arr.size = ts.length ∧ h.get? TO = some { cls := .type "tuple", data := .seq arr }
  its : ∀ (k : Nat) (t : Addr), ts[k]? = some t → h.IsTupleIter (m + k) t i
theorem forIn_steps {M : Model} {γ β : Type} (body : γ → β → Sem (ForInStep β)) (I : Nat → β → Shared → Prop) (l : List γ) (step : ∀ (k : Nat) (v : γ) (b : β) (s : Shared) (Q : ForInStep β → Shared → Prop), l[k]? = some v → I k b s → (∀ b' s', I (k + 1) b' s' → Q (.yield b') s') → wpAny M A (body v b) Q E s)
    {Q : β → Shared → Prop} (done : ∀ b s, I l.length b s → Q b s) : ∀ (r : List γ) (k : Nat) (b : β) (s : Shared), l.drop k = r → k + r.length = l.length → I k b s → wpAny M A (forIn r b body) Q E s
  | [], k, b, s, _, e, h => by
    simp only [List.forIn_nil]
    refine wpAny_pure (done b s ?_)
    rw [← e]; simpa using h
  | v :: r, k, b, s, d, e, h => by
    have hv : l[k]? = some v := by
      have := congrArg (fun x => x[0]?) d
      simpa [List.getElem?_drop] using this
    simp only [List.forIn_cons]
    refine wpAny_bind (step k v b s _ hv h fun b' s' h' => ?_)
    refine forIn_steps body I l step done r (k + 1) b' s' ?_ (by rw [List.length_cons] at e; omega) h'
    rw [← List.drop_drop, d]; rfl
/-- what a turn finds: the i-th thing of each row -/
structure ZRow (z TO m : Addr) (ts : List Addr) (i : Nat) (x : Nat → Value) (h : Heap) : Prop where
  row : ∀ (k : Nat) (t : Addr), ts[k]? = some t → ∃ items, h.IsTuple t items ∧ items[i]? = some (x k) ∧ t ≠ z ∧ t ≠ TO ∧ ∀ j, j < ts.length → t ≠ m + j
  zi : ∀ j, j < ts.length → z ≠ m + j
  toi : ∀ j, j < ts.length → TO ≠ m + j
  zto : z ≠ TO
/-- in the midst of a turn: k rows have been looked at -/
structure ZMid (z TI TO m : Addr) (ts : List Addr) (i k : Nat) (h0 h : Heap) : Prop where
  its : ∀ (j : Nat) (t : Addr), ts[j]? = some t → h.IsTupleIter (m + j) t (if j < k then i + 1 else i)
  size : h.objs.size = h0.objs.size
  keep : ∀ c o, c ≠ TO → (∀ j, j < ts.length → c ≠ m + j) → h0.get? c = some o → h.get? c = some o
theorem draw_step {z TI TO m : Addr} {ts : List Addr} {i k : Nat} {x : Nat → Value} {h0 : Heap} {Q : Value → Shared → Prop} (R : ZRow z TO m ts i x h0) (hk : k < ts.length) (M : ZMid z TI TO m ts i k h0 s.heap)
    (h : ∀ h', ZMid z TI TO m ts i (k + 1) h0 h' → (∀ c o, c ≠ m + k → s.heap.get? c = some o → h'.get? c = some o) → Q (x k) { s with heap := h' }) : wpAny (model prog w) A (Builtin.SmallTypes.nextOf (.ref (m + k))) Q E s := by
  have hv : ts[k]? = some ts[k] := List.getElem?_eq_getElem hk
  obtain ⟨items, T, hx, _, to_, tm⟩ := R.row k _ hv
  have T' : s.heap.IsTuple ts[k] items := T.at fun o e => M.keep _ o to_ tm e
  have it := M.its k _ hv
  rw [if_neg (Nat.lt_irrefl k)] at it
  refine RZ.nextOf_tuple_item it T' hx fun h' it' sb => h h' ⟨fun j t e => ?_, by rw [sb.1, M.size], fun c o ct hc e => sb.extBut c o (hc k hk) (M.keep c o ct hc e)⟩ fun c o hc e => sb.extBut c o hc e
  by_cases c : j = k
  · subst c
    rw [hv] at e; cases e
    rw [if_pos (Nat.lt_succ_self j)]
    exact it'
  · have := M.its j t e
    have ne : m + j ≠ m + k := fun q => c (Nat.add_left_cancel q)
    by_cases l : j < k
    · rw [if_pos l] at this
      rw [if_pos (Nat.lt_succ_of_lt l)]
      exact this.at fun o q => sb.extBut _ o ne q
    · rw [if_neg l] at this
      rw [if_neg (by omega)]
      exact this.at fun o q => sb.extBut _ o ne q
theorem mark_used {z TI TO : Addr} {f0 : Value} {f1 : Bool} {Q : Bool → Shared → Prop} (hz : IsZ s.heap z TI TO f0 f1) (h : ∀ h', IsZ h' z TI TO f0 true → Heap.ExtBut z s.heap h' → h'.objs.size = s.heap.objs.size → Q false { s with heap := h' }) :
    wpAny (model prog w) A (do
      let v ← field (.ref z) 1
      if (v != .bool true) = true then do
          setField (.ref z) 1 (.bool true)
          pure false
        else pure false) Q E s := by
  refine wpAny_bind (wpAny_field hz rfl (x := .bool f1) rfl ?_)
  cases f1 with
  | false =>
    rw [if_pos (by decide)]
    refine wpAny_bind (wpAny_setField_rec hz (by simp) fun h₁ hz₁ hs₁ => wpAny_pure (h h₁ hz₁ hs₁.extBut hs₁.1))
  | true =>
    rw [if_neg (by decide)]
    exact wpAny_pure (h s.heap hz (fun _ _ _ e => e) rfl)
theorem is_free {z TI TO : Addr} {f0 : Value} {f1 : Bool} {Q : Bool → Shared → Prop} (hz : IsZ s.heap z TI TO f0 f1) (fr : f0 = .none ∨ ∃ a : Nat, f0 = rawInt (a : Int) ∧ s.heap.get? (a : Int).toNat = none) (h : Q true s) :
    wpAny (model prog w) A (Builtin.SmallTypes.ownedTupleIsFree (.ref z)) Q E s := by
  unfold Builtin.SmallTypes.ownedTupleIsFree
  refine wpAny_bind (wpAny_field hz rfl (x := f0) rfl ?_)
  rcases fr with rfl | ⟨a, rfl, ha⟩
  · exact wpAny_pure h
  · refine wpAny_bind (ask_alive ?_)
    rw [ha]
    simp only [Option.isNone_none, if_true]
    exact wpAny_pure h
theorem put_at {T : Addr} {arr : Array Value} {x : Value} {k : Nat} {Q : Unit → Shared → Prop} (z : arr.size ≤ 1000) (hT : s.heap.get? T = some { cls := .type "tuple", data := .seq arr })
    (h : ∀ h', h'.get? T = some { cls := .type "tuple", data := .seq (arr.setIfInBounds k x) } → Heap.SameBut T s.heap h' → Q () { s with heap := h' }) : wpAny (model prog w) A (updateSeq T (·.setIfInBounds k x)) Q E s := by
  have big : 1000 ≤ sizeLine := by rw [sizeLine_eq]; decide
  refine wpAny_updateSeq hT rfl (h _ ?_ (Heap.SameBut.update ..)) (hz := by omega) (_hz' := by rw [Array.size_setIfInBounds]; omega)
  rw [Heap.get?_update_self _ hT rfl]
  simp [Obj.mapSeq]
theorem zip_next {z TI TO m : Addr} {ts : List Addr} {i : Nat} {x : Nat → Value} {Q : Value → Shared → Prop} (ne : ts ≠ []) (small : ts.length ≤ 1000) (st : ZSt z TI TO m ts i s.heap) (R : ZRow z TO m ts i x s.heap) (tiz : TI ≠ z) (tito : TI ≠ TO) (tii : ∀ j, j < ts.length → TI ≠ m + j)
    (hQ : ∀ h', ZSt z TI TO m ts (i + 1) h' → h'.get? s.heap.objs.size = some { cls := .type "tuple", data := .seq ((List.range ts.length).map x).toArray } → h'.objs.size = s.heap.objs.size + 1 → (∀ c o, c ≠ z → c ≠ TO → (∀ j, j < ts.length → c ≠ m + j) → s.heap.get? c = some o → h'.get? c = some o) → Q (.ref s.heap.objs.size) { s with heap := h' }) :
    wpAny (model prog w) A (Builtin.«zip.__next__» ⟨[.ref z], []⟩) (fun fin s' => ∃ v, fin = .done (.ret v) ∧ Q v s') E s := by
  obtain ⟨f0, f1, hz, hf⟩ := st.at_
  show wpAny _ _ (field (.ref z) 2 >>= _) _ _ _
  refine wpAny_bind (wpAny_field hz rfl (x := .bool false) rfl ?_)
  show wpAny _ _ (field (.ref z) 3 >>= _) _ _ _
  refine wpAny_bind (wpAny_field hz rfl (x := .ref TI) rfl ?_)
  refine wpAny_bind (wpAny_seqItems st.ti rfl ?_)
  have nonempty : ¬ ((refsFrom m ts).toArray.isEmpty = true) := by
    cases ts with
    | nil => exact absurd rfl ne
    | cons t r => intro h; cases h
  dsimp only
  rw [if_neg nonempty]
  have cases_ : (f0 = .none ∨ ∃ a : Nat, f0 = rawInt (a : Int) ∧ s.heap.get? (a : Int).toNat = none) ∨ ∃ (a : Nat) (o : Obj), f0 = rawInt (a : Int) ∧ s.heap.get? (a : Int).toNat = some o := by
    rcases hf with rfl | ⟨a, rfl⟩
    · exact .inl (.inl rfl)
    · cases ha : s.heap.get? (a : Int).toNat with
      | none => exact .inl (.inr ⟨a, rfl, ha⟩)
      | some o => exact .inr ⟨a, o, rfl, ha⟩
  rcases cases_ with fr | ⟨a, o, rfl, ha⟩
  · refine wpAny_bind (is_free hz fr ?_)
    simp only [if_true]
    refine wpAny_bind (wpAny_rule ?_)
    refine wpAny_bind (wpAny_field hz rfl (x := .ref TO) rfl ?_)
    dsimp only
    refine wpAny_bind (wpAny_setField_rec hz (by simp) fun h1 hz1 hs1 => ?_)
    replace hz1 : IsZ h1 z TI TO .ellipsis f1 := hz1
    have k1 : ∀ c o, c ≠ z → s.heap.get? c = some o → h1.get? c = some o := fun c o n e => hs1.extBut c o n e
    have sz1 : h1.objs.size = s.heap.objs.size := hs1.1
    have R1 : ZRow z TO m ts i x h1 := ⟨fun k t e => by
      obtain ⟨items, T, hx, a1, a2, a3⟩ := R.row k t e
      exact ⟨items, T.at fun o q => k1 t o a1 q, hx, a1, a2, a3⟩, R.zi, R.toi, R.zto⟩
    have M0 : ZMid z TI TO m ts i 0 h1 h1 := ⟨fun j t e => by
      rw [if_neg (Nat.not_lt_zero j)]
      exact (st.its j t e).at fun o q => k1 _ o (fun q2 => R.zi j (List.getElem?_eq_some_iff.mp e).1 q2.symm) q, rfl, fun _ _ _ _ e => e⟩
    obtain ⟨arr, az, ga⟩ := st.to
    refine wpAny_bind ?_
    refine forIn_steps _ (fun k b s2 => b = (none, ()) ∧ ∃ h2 arr2, s2 = { s with heap := h2 } ∧ ZMid z TI TO m ts i k h1 h2 ∧ arr2.size = ts.length ∧ (∀ j, j < k → arr2[j]? = some (x j)) ∧ h2.get? TO = some { cls := .type "tuple", data := .seq arr2 }) (refsFrom m ts).zipIdx ?_ ?_ _ 0 _ _ rfl (by simp)
      ⟨rfl, h1, arr, rfl, M0, az, fun j hj => absurd hj (Nat.not_lt_zero j), k1 _ _ R.zto.symm ga⟩
    · rintro k ⟨v, kk⟩ b s2 Q2 hv ⟨rfl, h2, arr2, rfl, M, az2, px, gt⟩ hq
      rw [List.getElem?_zipIdx] at hv
      obtain ⟨v', hv', e2⟩ := Option.map_eq_some_iff.mp hv
      have hk : k < ts.length := by
        have := (List.getElem?_eq_some_iff.mp hv').1
        rwa [refs_len] at this
      have ev : v' = .ref (m + k) := by
        have := refs_at m ts k _ (List.getElem?_eq_getElem hk)
        rw [hv'] at this
        exact Option.some.inj this
      subst ev
      have e3 : v = .ref (m + k) ∧ kk = k := by
        have := Prod.mk.inj e2
        exact ⟨this.1.symm, by omega⟩
      obtain ⟨rfl, rfl⟩ := e3
      refine wpAny_bind (wpAny_onRaise ?_)
      show wpAny _ _ (Builtin.SmallTypes.nextOf (.ref (m + kk)) >>= fun y => pure (some y)) _ _ _
      refine wpAny_bind (draw_step (s := { s with heap := h2 }) R1 hk M fun h3 M3 k3 => wpAny_pure ?_)
      dsimp only
      have g3 := k3 _ _ (R.toi kk hk) gt
      refine wpAny_bind (wpAny_seqItems g3 rfl ?_)
      dsimp only
      refine wpAny_bind (put_at (by omega) g3 fun h4 g4 sb4 => ?_)
      refine wpAny_bind (wpAny_letGo (wpAny_pure ?_))
      refine hq _ _ ⟨rfl, h4, _, rfl, ⟨fun j t e => (M3.its j t e).at fun o q => sb4.extBut _ o (fun q2 => R.toi j (List.getElem?_eq_some_iff.mp e).1 q2.symm) q, by rw [sb4.1]; exact M3.size, fun c o ct hc e => sb4.extBut c o ct (M3.keep c o ct hc e)⟩, by rw [Array.size_setIfInBounds]; exact az2, fun j hj => ?_, g4⟩
      rw [Array.getElem?_setIfInBounds]
      by_cases c : kk = j
      · subst c
        rw [if_pos rfl, if_pos (by omega)]
      · rw [if_neg c]
        exact px j (by omega)
    · rintro b s2 ⟨rfl, h2, arr2, rfl, M, az2, px, gt⟩
      rw [List.length_zipIdx, refs_len] at M px
      dsimp only
      refine wpAny_bind (wpAny_seqItems gt rfl ?_)
      dsimp only
      have ea : arr2.toList = (List.range ts.length).map x := by
        apply List.ext_getElem?
        intro j
        rw [List.getElem?_map]
        by_cases c : j < ts.length
        · rw [List.getElem?_range c, Array.getElem?_toList, px j c]; rfl
        · rw [List.getElem?_eq_none (by simp; omega), List.getElem?_eq_none (by simp; omega)]; rfl
      rw [ea]
      refine wpAny_bind (wpAny_newTuple ?_ (by simp; have : 1000 ≤ sizeLine := by rw [sizeLine_eq]; decide
                                               omega))
      have sz : h2.objs.size = s.heap.objs.size := by rw [M.size, sz1]
      have hz5 : IsZ (h2.push { cls := .type "tuple", data := .seq ((List.range ts.length).map x).toArray }) z TI TO .ellipsis f1 := Heap.get?_push_of_some _ (M.keep _ _ R.zto R.zi hz1)
      refine wpAny_bind ?_
      unfold Builtin.SmallTypes.ownedTupleHandOut
      dsimp only
      refine wpAny_bind (wpAny_setField_rec hz5 (by simp) fun h6 hz6 hs6 => ?_)
      replace hz6 : IsZ h6 z TI TO (rawInt (h2.objs.size : Nat)) f1 := hz6
      refine wpAny_setField_rec hz6 (by simp) fun h7 hz7 hs7 => ?_
      replace hz7 : IsZ h7 z TI TO (rawInt (h2.objs.size : Nat)) false := hz7
      refine wpAny_pure ⟨_, rfl, ?_⟩
      have k5 : ∀ c o, c ≠ z → (h2.push { cls := .type "tuple", data := .seq ((List.range ts.length).map x).toArray }).get? c = some o → h7.get? c = some o := fun c o n e => hs7.extBut c o n (hs6.extBut c o n e)
      have zlt : z < h2.objs.size := Heap.lt_size (M.keep _ _ R.zto R.zi hz1)
      show Q (.ref h2.objs.size) { s with heap := h7 }
      rw [sz] at zlt ⊢
      refine hQ h7 ⟨⟨_, false, hz7, .inr ⟨_, rfl⟩⟩, k5 _ _ tiz (Heap.get?_push_of_some _ (M.keep _ _ tito tii (k1 _ _ tiz st.ti))), ⟨arr2, az2, k5 _ _ R.zto.symm (Heap.get?_push_of_some _ gt)⟩, fun j t e => ?_⟩ ?_ ?_ fun c o c1 c2 c3 e => k5 c o c1 (Heap.get?_push_of_some _ (M.keep c o c2 c3 (k1 c o c1 e)))
      · have hj := (List.getElem?_eq_some_iff.mp e).1
        have := M.its j t e
        rw [if_pos hj] at this
        exact this.at fun o q => k5 _ o (fun q2 => R.zi j hj q2.symm) (Heap.get?_push_of_some _ q)
      · have := Heap.get?_push_size h2 (o := { cls := .type "tuple", data := .seq ((List.range ts.length).map x).toArray }) rfl
        rw [sz] at this
        exact k5 _ _ (Nat.ne_of_gt zlt) this
      · rw [hs7.1, hs6.1, Heap.size_push, sz]
  · refine wpAny_bind ?_
    unfold Builtin.SmallTypes.ownedTupleIsFree
    refine wpAny_bind (wpAny_field hz rfl (x := rawInt a) rfl ?_)
    refine wpAny_bind (ask_alive ?_)
    · rw [ha]
      simp only [Option.isNone_some, Bool.false_eq_true, if_false]
      refine mark_used hz fun h1 hz1 k1 sz1 => ?_
      simp only [Bool.false_eq_true, if_false]
      have R1 : ZRow z TO m ts i x h1 := ⟨fun k t e => by
        obtain ⟨items, T, hx, a1, a2, a3⟩ := R.row k t e
        exact ⟨items, T.at fun o q => k1 t o a1 q, hx, a1, a2, a3⟩, R.zi, R.toi, R.zto⟩
      have M0 : ZMid z TI TO m ts i 0 h1 h1 := ⟨fun j t e => by
        rw [if_neg (Nat.not_lt_zero j)]
        exact (st.its j t e).at fun o q => k1 _ o (fun q2 => R.zi j (List.getElem?_eq_some_iff.mp e).1 q2.symm) q, rfl, fun _ _ _ _ e => e⟩
      obtain ⟨arr, az, ga⟩ := st.to
      refine wpAny_bind ?_
      rw [List.forIn_toArray]
      refine forIn_steps _ (fun k b s2 => b = (none, ((List.range k).map x).toArray) ∧ ∃ h2, s2 = { s with heap := h2 } ∧ ZMid z TI TO m ts i k h1 h2 ∧ h2.get? TO = some { cls := .type "tuple", data := .seq arr }) (refsFrom m ts) ?_ ?_ (refsFrom m ts) 0 _ _ rfl (by simp) ⟨rfl, h1, rfl, M0, k1 _ _ R.zto.symm ga⟩
      · rintro k v b s2 Q2 hv ⟨rfl, h2, rfl, M, gt⟩ hq
        have hk : k < ts.length := by
          have := (List.getElem?_eq_some_iff.mp hv).1
          rwa [refs_len] at this
        have ev : v = .ref (m + k) := by
          have := refs_at m ts k _ (List.getElem?_eq_getElem hk)
          rw [hv] at this
          exact Option.some.inj this
        subst ev
        refine wpAny_bind (wpAny_holding ?_)
        show wpAny _ _ (Builtin.SmallTypes.nextOf (.ref (m + k)) >>= fun y => pure (some y)) _ _ _
        refine wpAny_bind (draw_step (s := { s with heap := h2 }) R1 hk M fun h3 M3 kk => wpAny_pure ?_)
        refine wpAny_pure (hq _ _ ⟨?_, h3, rfl, M3, kk _ _ (R.toi k hk) gt⟩)
        rw [List.range_succ, List.map_append]
        simp
      · rintro b s2 ⟨rfl, h2, rfl, M, gt⟩
        rw [refs_len] at M ⊢
        dsimp only
        refine wpAny_bind (wpAny_newTuple ?_ (by simp; have : 1000 ≤ sizeLine := by rw [sizeLine_eq]; decide
                                                 omega))
        refine wpAny_pure ⟨_, rfl, ?_⟩
        have sz : h2.objs.size = s.heap.objs.size := by rw [M.size, sz1]
        show Q (.ref h2.objs.size) { s with heap := h2.push { cls := .type "tuple", data := .seq ((List.range ts.length).map x).toArray.toList.toArray } }
        rw [sz]
        have k2 : ∀ c o, c ≠ z → c ≠ TO → (∀ j, j < ts.length → c ≠ m + j) → s.heap.get? c = some o → (h2.push { cls := .type "tuple", data := .seq ((List.range ts.length).map x).toArray.toList.toArray }).get? c = some o := fun c o c1 ct c2 e =>
          Heap.get?_push_of_some _ (M.keep c o ct c2 (k1 c o c1 e))
        refine hQ _ ⟨⟨_, true, Heap.get?_push_of_some _ (M.keep _ _ R.zto R.zi hz1), .inr ⟨a, rfl⟩⟩, k2 _ _ tiz tito tii st.ti, ⟨arr, az, Heap.get?_push_of_some _ gt⟩, fun j t e => ?_⟩ ?_ (by rw [Heap.size_push, sz]) fun c o c1 c2 c3 e => k2 c o c1 c2 c3 e
        · have := M.its j t e
          rw [if_pos (List.getElem?_eq_some_iff.mp e).1] at this
          exact this.at fun o q => Heap.get?_push_of_some _ q
        · have := Heap.get?_push_size h2 (o := { cls := .type "tuple", data := .seq ((List.range ts.length).map x).toArray.toList.toArray }) rfl
          rw [sz] at this
          simpa using this
end
end Dd
end
section
set_option Elab.async false
set_option linter.all false
set_option maxRecDepth 100000
/-! zip(*x): its end; next as the loop asks it -/
namespace Dd
open PySem PySem.Spec PyProof.Rows L2
section
variable {prog : Program} {w : World} {A : Around} {E : Value → Shared → Prop} {s : Shared}
theorem zip_end {z TI TO m t : Addr} {r : List Addr} {i : Nat} {items : Array Value} {Q : PySem.Fin → Shared → Prop} (hh : A.handled = none) (st : ZSt z TI TO m (t :: r) i s.heap) (T : s.heap.IsTuple t items) (hx : items[i]? = none) (tz : t ≠ z) (zm : z ≠ m)
    (hE : ∀ h' e, (∀ c o, c ≠ z → c ≠ m → s.heap.get? c = some o → h'.get? c = some o) → (∃ o, h'.get? e = some o ∧ o.cls = .type "StopIteration") → E (.ref e) { s with heap := h' }) :
    wpAny (model prog w) A (Builtin.«zip.__next__» ⟨[.ref z], []⟩) Q E s := by
  obtain ⟨f0, f1, hz, hf⟩ := st.at_
  show wpAny _ _ (field (.ref z) 2 >>= _) _ _ _
  refine wpAny_bind (wpAny_field hz rfl (x := .bool false) rfl ?_)
  show wpAny _ _ (field (.ref z) 3 >>= _) _ _ _
  refine wpAny_bind (wpAny_field hz rfl (x := .ref TI) rfl ?_)
  refine wpAny_bind (wpAny_seqItems st.ti rfl ?_)
  dsimp only
  rw [if_neg (show ¬ ((refsFrom m (t :: r)).toArray.isEmpty = true) from fun h => by cases h)]
  have cases_ : (f0 = .none ∨ ∃ a : Nat, f0 = rawInt (a : Int) ∧ s.heap.get? (a : Int).toNat = none) ∨ ∃ (a : Nat) (o : Obj), f0 = rawInt (a : Int) ∧ s.heap.get? (a : Int).toNat = some o := by
    rcases hf with rfl | ⟨a, rfl⟩
    · exact .inl (.inl rfl)
    · cases ha : s.heap.get? (a : Int).toNat with
      | none => exact .inl (.inr ⟨a, rfl, ha⟩)
      | some o => exact .inr ⟨a, o, rfl, ha⟩
  have it : s.heap.IsTupleIter m t i := st.its 0 t rfl
  rcases cases_ with fr | ⟨a, o, rfl, ha⟩
  · refine wpAny_bind (is_free hz fr ?_)
    simp only [if_true]
    refine wpAny_bind (wpAny_rule ?_)
    refine wpAny_bind (wpAny_field hz rfl (x := .ref TO) rfl ?_)
    dsimp only
    refine wpAny_bind (wpAny_setField_rec hz (by simp) fun h1 hz1 hs1 => ?_)
    replace hz1 : IsZ h1 z TI TO .ellipsis f1 := hz1
    have k1 : ∀ c o, c ≠ z → s.heap.get? c = some o → h1.get? c = some o := fun c o n e => hs1.extBut c o n e
    refine wpAny_bind ?_
    show wpAny _ _ (forIn ((Value.ref m, 0) :: (refsFrom (m + 1) r).zipIdx 1) _ _) _ _ _
    simp only [List.forIn_cons]
    refine wpAny_bind (wpAny_bind (wpAny_onRaise ?_))
    show wpAny _ _ (Builtin.SmallTypes.nextOf (.ref m) >>= fun y => pure (some y)) _ _ _
    refine wpAny_bind (RZ.nextOf_tuple_end hh (it.at fun o q => k1 _ o zm.symm q) (T.at fun o q => k1 _ o tz q) hx fun h2 e k2 he => ?_)
    obtain ⟨oe, hoe, hce⟩ := he
    have hz2 : IsZ h2 z TI TO .ellipsis f1 := k2 _ _ zm hz1
    have ez : e ≠ z := fun q => by
      rw [q, show h2.get? z = some _ from hz2] at hoe
      cases hoe
      have := Value.type.inj hce
      exact absurd this (by decide)
    refine wpAny_setField_rec hz2 (by simp) fun h3 _ hs3 => hE h3 e (fun c o c1 c2 q => hs3.extBut _ _ c1 (k2 _ _ c2 (k1 _ _ c1 q))) ⟨oe, hs3.extBut _ _ ez hoe, hce⟩
  · refine wpAny_bind ?_
    unfold Builtin.SmallTypes.ownedTupleIsFree
    refine wpAny_bind (wpAny_field hz rfl (x := rawInt a) rfl ?_)
    refine wpAny_bind (ask_alive ?_)
    rw [ha]
    simp only [Option.isNone_some, Bool.false_eq_true, if_false]
    refine mark_used hz fun h1 hz1 k1 sz1 => ?_
    simp only [Bool.false_eq_true, if_false]
    refine wpAny_bind ?_
    rw [List.forIn_toArray]
    show wpAny _ _ (forIn (Value.ref m :: refsFrom (m + 1) r) _ _) _ _ _
    simp only [List.forIn_cons]
    refine wpAny_bind (wpAny_bind (wpAny_holding ?_))
    show wpAny _ _ (Builtin.SmallTypes.nextOf (.ref m) >>= fun y => pure (some y)) _ _ _
    refine wpAny_bind (RZ.nextOf_tuple_end hh (it.at fun o q => k1 _ o zm.symm q) (T.at fun o q => k1 _ o tz q) hx fun h2 e k2 he => ?_)
    exact hE h2 e (fun c o c1 c2 q => k2 _ _ c2 (k1 _ _ c1 q)) he
/-- next(z), as a loop asks it -/
theorem pyNext_zip {z TI TO m : Addr} {ts : List Addr} {i : Nat} {x : Nat → Value} {Q : Option Value → Shared → Prop} (ne : ts ≠ []) (small : ts.length ≤ 1000) (st : ZSt z TI TO m ts i s.heap) (R : ZRow z TO m ts i x s.heap) (tiz : TI ≠ z) (tito : TI ≠ TO) (tii : ∀ j, j < ts.length → TI ≠ m + j)
    (hQ : ∀ h', ZSt z TI TO m ts (i + 1) h' → h'.get? s.heap.objs.size = some { cls := .type "tuple", data := .seq ((List.range ts.length).map x).toArray } → h'.objs.size = s.heap.objs.size + 1 → (∀ c o, c ≠ z → c ≠ TO → (∀ j, j < ts.length → c ≠ m + j) → s.heap.get? c = some o → h'.get? c = some o) → Q (some (.ref s.heap.objs.size)) { s with heap := h' }) :
    wpAny (model prog w) A (pyNext (.ref z)) Q E s := by
  obtain ⟨f0, f1, hz, hf⟩ := st.at_
  have hT : s.TypeIs (.ref z) "zip" := ⟨_, hz, rfl⟩
  unfold pyNext
  exact wpAny_bind (wpAny_attempt (wpAny_callSpecial?_slot (name := Str.ofString "__next__") hT F.slot_zip_next
    (wpAny_call_entry F.slot_zip_next hT F.entry_zip_next (zip_next ne small st R tiz tito tii fun h' a1 a2 a3 a4 => wpAny_pure (hQ h' a1 a2 a3 a4)) (F.args_zip_next_1 _))))
theorem pyNext_zip_end {z TI TO m t : Addr} {r : List Addr} {i : Nat} {items : Array Value} {Q : Option Value → Shared → Prop} (hh : A.handled = none) (st : ZSt z TI TO m (t :: r) i s.heap) (T : s.heap.IsTuple t items) (hx : items[i]? = none) (tz : t ≠ z) (zm : z ≠ m)
    (hQ : ∀ h', (∀ c o, c ≠ z → c ≠ m → s.heap.get? c = some o → h'.get? c = some o) → Q none { s with heap := h' }) : wpAny (model prog w) A (pyNext (.ref z)) Q E s := by
  obtain ⟨f0, f1, hz, hf⟩ := st.at_
  have hT : s.TypeIs (.ref z) "zip" := ⟨_, hz, rfl⟩
  unfold pyNext
  refine wpAny_bind (wpAny_attempt (wpAny_callSpecial?_slot (name := Str.ofString "__next__") hT F.slot_zip_next
    (wpAny_call_entry F.slot_zip_next hT F.entry_zip_next (zip_end hh st T hx tz zm fun h' e hk he => ?_) (F.args_zip_next_1 _))))
  obtain ⟨o, ho, hc⟩ := he
  refine wpAny_bind (wpAny_isInstance (T := "StopIteration") (b := true) ⟨o, ho, hc⟩ isSubtype_stop ?_)
  exact wpAny_pure (hQ _ hk)
end
end Dd
end
section
set_option Elab.async false
set_option linter.all false
set_option maxRecDepth 100000
/-! zip(*x) as a walk -/
namespace Dd
open PySem PySem.Spec PyProof.Rows L2
theorem vals_idx : ∀ (xs : List V) (us : List Value), us.length = xs.length → (∀ (j : Nat) (u : Value), us[j]? = some u → ∃ x, xs[j]? = some x ∧ RelV x u) → Vals xs us
  | [], [], _, _ => .nil
  | [], _ :: _, h, _ => by simp at h
  | _ :: _, [], h, _ => by simp at h
  | x :: xs, u :: us, h, k => by
    obtain ⟨y, e, r⟩ := k 0 u rfl
    have e' : x = y := by simpa using e
    exact .cons (e' ▸ r) (vals_idx xs us (by simpa using h) fun j v hj => by simpa using k (j + 1) v (by simpa using hj))
/-- the tuples at these addresses: the i-th things of all of them, a new tuple each time -/
def ItN (K : PySem.W.Frag) (ts : List Addr) : L2.It where
  go i H := ∃ ys : List V, ys.length = ts.length ∧ ∀ (k : Nat) (a : Addr), ts[k]? = some a → ∃ xs y, SqT K H a xs ∧ xs[i]? = some y ∧ ys[k]? = some y
  yld i H v H' := ∃ T ys, v = .ref T ∧ H T = none ∧ H' = upd H T (.tup ys) ∧ ys.length = ts.length ∧ ∀ (k : Nat) (a : Addr) (xs : List V), ts[k]? = some a → SqT K H a xs → ∃ y, xs[i]? = some y ∧ ys[k]? = some y
  stop i H := ∃ a xs, ts[0]? = some a ∧ SqT K H a xs ∧ xs.length ≤ i
def zfp (m n : Nat) : List Addr := (m + n + 2) :: (m + n) :: (m + n + 1) :: (List.range n).map (m + ·)
theorem mem_zfp {m n : Nat} {b : Addr} : b ∈ zfp m n ↔ b = m + n + 2 ∨ b = m + n ∨ b = m + n + 1 ∨ ∃ j, j < n ∧ b = m + j := by
  unfold zfp
  simp only [List.mem_cons, List.mem_map, List.mem_range]
  constructor
  · rintro (h | h | h | ⟨j, hj, rfl⟩)
    · exact .inl h
    · exact .inr (.inl h)
    · exact .inr (.inr (.inl h))
    · exact .inr (.inr (.inr ⟨j, hj, rfl⟩))
  · rintro (h | h | h | ⟨j, hj, rfl⟩)
    · exact .inl h
    · exact .inr (.inl h)
    · exact .inr (.inr (.inl h))
    · exact .inr (.inr (.inr ⟨j, hj, rfl⟩))
theorem turn_zipN {P : Program} {w : World} {K : PySem.W.Frag} {y : Str} {yp : Pos} (m : Nat) (ts : List Addr) (ne : ts ≠ []) (le : ts.length ≤ 12) (below : ∀ t ∈ ts, Nat.lt t m) :
    Turn P w K (.Name y yp) (ItN K ts) (zfp m ts.length) (m + ts.length + 2) (fun i h => ZSt (m + ts.length + 2) (m + ts.length) (m + ts.length + 1) m ts i h) where
  mem := mem_zfp.mpr (.inl rfl)
  obj i h st b hb := by
    rcases mem_zfp.mp hb with rfl | rfl | rfl | ⟨j, hj, rfl⟩
    · obtain ⟨f0, f1, hz, _⟩ := st.at_
      exact ⟨_, hz, fun v q => nomatch q⟩
    · exact ⟨_, st.ti, fun v q => nomatch q⟩
    · obtain ⟨arr, _, g⟩ := st.to
      exact ⟨_, g, fun v q => nomatch q⟩
    · obtain ⟨o, ho, _, hd⟩ := st.its j _ (List.getElem?_eq_getElem hj)
      exact ⟨o, ho, fun v q => by rw [hd] at q; cases q⟩
  keep i h h' st k := by
    obtain ⟨f0, f1, hz, hf⟩ := st.at_
    obtain ⟨arr, az, g⟩ := st.to
    exact ⟨⟨f0, f1, k _ (mem_zfp.mpr (.inl rfl)) _ hz, hf⟩, k _ (mem_zfp.mpr (.inr (.inl rfl))) _ st.ti, ⟨arr, az, k _ (mem_zfp.mpr (.inr (.inr (.inl rfl)))) _ g⟩,
      fun j t e => (st.its j t e).at fun o q => k _ (mem_zfp.mpr (.inr (.inr (.inr ⟨j, (List.getElem?_eq_some_iff.mp e).1, rfl⟩)))) o q⟩
  item := by
    intro X hP hw hK hc i pins s σ H E I hf st hg
    subst hP hw hK
    obtain ⟨ys, ly, hy⟩ := hg
    have ex : ∀ k : Nat, ∃ u : Value, ∀ a, ts[k]? = some a → ∃ yv items, ys[k]? = some yv ∧ s.heap.IsTuple a items ∧ items[i]? = some u ∧ RelV yv u := fun k => by
      cases e : ts[k]? with
      | none => exact ⟨.none, fun a q => by cases q⟩
      | some a =>
        obtain ⟨xs, yv, sq, hx, hk⟩ := hy k a e
        obtain ⟨its, rv, p, _⟩ := I.tuple sq
        obtain ⟨u, hu, ru⟩ := rv.get hx
        exact ⟨u, fun a' q => by cases q; exact ⟨yv, its.toArray, hk, p, by simpa using hu, ru⟩⟩
    let x : Nat → Value := fun k => Classical.choose (ex k)
    have hx : ∀ k a, ts[k]? = some a → ∃ yv items, ys[k]? = some yv ∧ s.heap.IsTuple a items ∧ items[i]? = some (x k) ∧ RelV yv (x k) := fun k => Classical.choose_spec (ex k)
    have R : ZRow (m + ts.length + 2) (m + ts.length + 1) m ts i x s.heap := by
      refine ⟨fun k t e => ?_, fun j hj => ?_, fun j hj => ?_, ?_⟩
      · obtain ⟨yv, items, _, T, h1, _⟩ := hx k t e
        have lt := below t (List.mem_of_getElem? e)
        exact ⟨items, T, h1, Nat.ne_of_lt (Nat.lt_of_lt_of_le lt (by omega)), Nat.ne_of_lt (Nat.lt_of_lt_of_le lt (by omega)), fun j hj => Nat.ne_of_lt (Nat.lt_of_lt_of_le lt (by omega))⟩
      · exact Nat.ne_of_gt (by omega)
      · exact Nat.ne_of_gt (by omega)
      · exact Nat.ne_of_gt (by omega)
    refine pyNext_zip ne (by omega) st R (Nat.ne_of_lt (by omega)) (Nat.ne_of_lt (by omega)) (fun j hj => Nat.ne_of_gt (by omega)) fun h' st' hT sz hk => ?_
    refine ⟨_, rfl, ?_⟩
    unfold letOwnedTupleGo
    refine wpAny_pure ?_
    have vals : Vals ys ((List.range ts.length).map x) := vals_idx _ _ (by simp [ly]) fun j u hj => by
      rw [List.getElem?_map] at hj
      obtain ⟨j', e1, rfl⟩ := Option.map_eq_some_iff.mp hj
      have hj' : j < ts.length := by
        have := (List.getElem?_eq_some_iff.mp e1).1
        simpa using this
      rw [List.getElem?_range hj'] at e1
      cases e1
      obtain ⟨yv, items, h1, _, _, r⟩ := hx j _ (List.getElem?_eq_getElem hj')
      exact ⟨yv, h1, r⟩
    have big : 12 ≤ sizeLine := by rw [sizeLine_eq]; decide
    have new : ObjOk X.prog X.w (upd H s.heap.objs.size (.tup ys)) h' s.heap.objs.size (.tup ys) := ⟨by rw [ly]; omega, _, vals, ⟨_, hT, rfl, _, rfl⟩⟩
    have I1 : Inv X pins σ (upd H s.heap.objs.size (.tup ys)) { s with heap := h' } :=
      I.turnedNew (t' := s.toks) (ch := zfp m ts.length) (fun b ob hb q => hk b ob (fun z => hb (mem_zfp.mpr (.inl z))) (fun z => hb (mem_zfp.mpr (.inr (.inr (.inl z))))) (fun j hj z => hb (mem_zfp.mpr (.inr (.inr (.inr ⟨j, hj, z⟩))))) q) hf (Nat.le_refl _) new
    refine ⟨.ref s.heap.objs.size, _, I1, rfl, ⟨_, ys, rfl, I.hok.fresh (Nat.le_refl _), rfl, ly, fun k a xs e sq => ?_⟩, st', fun b hb => ?_⟩
    · obtain ⟨xs', yv, sq', h1, h2⟩ := hy k a e
      rw [I.tuple_inj sq sq']
      exact ⟨yv, h1, h2⟩
    · have lt : b < s.heap.objs.size := by
        rcases mem_zfp.mp hb with rfl | rfl | rfl | ⟨j, hj, rfl⟩
        · obtain ⟨f0, f1, hz, _⟩ := st.at_
          exact Heap.lt_size hz
        · exact Heap.lt_size st.ti
        · obtain ⟨arr, _, g⟩ := st.to
          exact Heap.lt_size g
        · obtain ⟨o, ho, _, hd⟩ := st.its j _ (List.getElem?_eq_getElem hj)
          exact Heap.lt_size ho
      rw [upd_ne (Nat.ne_of_lt lt)]
      exact (hf b hb).1
  done := by
    intro X hP hw hK hc i pins s σ H E I hf st hg
    subst hP hw hK
    obtain ⟨a, xs, h0, sq, hx⟩ := hg
    obtain ⟨its, rv, p, _⟩ := I.tuple sq
    have len := rv.length
    cases ts with
    | nil => exact absurd rfl ne
    | cons t r =>
      cases (show t = a by simpa using h0)
      have lt := below a (by simp)
      refine pyNext_zip_end (I.ok.hd hc) st p (i := i) (by simp; omega) (Nat.ne_of_lt (Nat.lt_of_lt_of_le lt (by rw [List.length_cons]; omega))) (Nat.ne_of_gt (by rw [List.length_cons]; omega)) fun h' hk => ⟨rfl, I.turnedL (t' := s.toks) (ch := zfp m (a :: r).length) (fun b ob hb q =>
        hk b ob (fun z => hb (mem_zfp.mpr (.inl z))) (fun z => hb (mem_zfp.mpr (.inr (.inr (.inr ⟨0, by simp, z⟩))))) q) hf⟩
  self := fun A i s Q E st h => by
    obtain ⟨f0, f1, hz, _⟩ := st.at_
    have hT : s.TypeIs (.ref (m + ts.length + 2)) "zip" := ⟨_, hz, rfl⟩
    refine wpAny_pyIter_slot hT F.slot_zip_iter (wpAny_call_entry F.slot_zip_iter hT F.entry_zip_iter ?_ (F.args_zip_iter_1 _))
    show wpAny _ _ (ret (.ref (m + ts.length + 2))) _ _ s
    exact wpAny_pure ⟨_, rfl, "zip", _, hT, F.slot_zip_next.lookup, h⟩
end Dd
end
section
set_option Elab.async false
set_option linter.all false
set_option maxRecDepth 100000
/-! for .. in zip(*x) -/
namespace Dd
open PySem PySem.Spec PyProof.Rows L2
theorem callWith_typeS {M : Model} {A : Around} {E : Value → Shared → Prop} {s : Shared} {pos : Pos} {T : String} {first : List Value} {args : List (Bool × Sem Value)} {Q : Value → Shared → Prop} (hst : args.any (·.1) = true)
    (h : wpAny M A (evalArgs (.type T) true args []) (fun a s₁ => wpAny M A (call (.type T) (first ++ a.pos) a.kw) Q E s₁) E s) : wpAny M A (callWith pos (.type T) first args []) Q E s := by
  unfold callWith
  refine wpAny_bind (wpAny_holding (wpAny_mono h (fun a s₁ h₁ => wpAny_bind (wpAny_standAt ?_)) fun _ _ x => x))
  simp only [hst, Bool.true_or]
  refine wpAny_bind (wpAny_pure ?_)
  dsimp only
  exact wpAny_bind (wpAny_operating (wpAny_mono h₁ (fun r s₂ hr => wpAny_bind (wpAny_holding (wpAny_point (wpAny_pure hr)))) fun _ _ x => x))
def iZips (K : PySem.W.Frag) (te : TE) : TI := fun σ H R => te σ H fun v H1 => ∃ a ts, v = .ref a ∧ SqT K H1 a (ts.map V.ref) ∧ ts ≠ [] ∧ ts.length ≤ 12 ∧ (∀ t ∈ ts, ∃ xs, SqT K H1 t xs) ∧ R (ItN K ts) H1
theorem refs_vals : ∀ {ts : List Addr} {us : List Value}, Vals (ts.map V.ref) us → us = ts.map Value.ref
  | [], _, .nil => rfl
  | t :: ts, _, .cons r h => by
    rw [refs_vals h]
    cases (show _ = Value.ref t from r)
    rfl
theorem pi_zips {X : Cx} {y : Str} {yp p sp pos : Pos} {e : Expr} {te : TE} (hg : Gl X "zip") (hm : X.mg "zip" = none) (he : PE X e te) : PI X (.Name y yp) (.Call (.Name "zip" p) [.Starred e sp] [] pos) (iZips X.K te) where
  run pins s σ H R I h := by
    refine Call_ (ld_blt I hg hm PyProof.Rows.boot_zip ?_)
    show wpAny _ _ (callWith pos (.type "zip") [] (backTo pos [(true, eval e X.env)]) []) _ _ _
    refine callWith_typeS rfl (PySem.W.ks_lone (thn (he.run pins s σ H _ I h) ?_))
    rintro v s1 ⟨w, H1, I1, r1, a, ts, rfl, sq, ne, le, rows, q⟩
    cases (show v = Value.ref a from r1)
    refine StX.star_any I1 (.inl sq) fun us s2 I2 rv => ?_
    rw [refs_vals rv]
    have T : ∀ t ∈ ts, ∃ items, s2.heap.IsTuple t items := fun t ht => by
      obtain ⟨xs, st⟩ := rows t ht
      obtain ⟨its, _, p, _⟩ := I2.tuple st
      exact ⟨_, p⟩
    have l1 : 1 ≤ ts.length := by
      cases ts with
      | nil => exact absurd rfl ne
      | cons t r => exact Nat.succ_le_succ (Nat.zero_le _)
    show wpAny _ _ (call (.type "zip") (ts.map Value.ref)) _ _ _
    refine zip_call l1 le T fun h' hz hTI hTO hits hsz hk => ?_
    have I3 : L2.Inv X pins σ H1 { s2 with heap := h' } := I2.kept (t' := s2.toks) hk
    have below : ∀ t ∈ ts, Nat.lt t s2.heap.objs.size := fun t ht => by
      obtain ⟨items, o, ho, _⟩ := T t ht
      exact Heap.lt_size ho
    have tn := turn_zipN (P := X.prog) (w := X.w) (K := X.K) (y := y) (yp := yp) s2.heap.objs.size ts ne le below
    have st : ZSt (s2.heap.objs.size + ts.length + 2) (s2.heap.objs.size + ts.length) (s2.heap.objs.size + ts.length + 1) s2.heap.objs.size ts 0 h' :=
      ⟨⟨_, _, hz, .inl rfl⟩, hTI, ⟨_, by rw [List.size_toArray, List.length_map, refs_len], hTO⟩, hits⟩
    refine tn.self _ 0 { s2 with heap := h' } _ _ st ?_
    refine ⟨_, _, _, _, H1, rfl, I3, tn, st, fun b hb => ?_, q⟩
    have ge : s2.heap.objs.size ≤ b := by
      rcases mem_zfp.mp hb with rfl | rfl | rfl | ⟨j, hj, rfl⟩
      · exact Nat.le_trans (Nat.le_add_right _ _) (Nat.le_add_right _ _)
      · exact Nat.le_add_right _ _
      · exact Nat.le_trans (Nat.le_add_right _ _) (Nat.le_add_right _ _)
      · exact Nat.le_add_right _ _
    exact I2.fpOk ge (I2.hok.fresh ge)
end Dd
end
section
set_option Elab.async false
set_option linter.all false
set_option maxRecDepth 100000
/-! rules that the library lacks: min and sorted of a list of tuples of ints, of any lengths -/
namespace Dd
open PySem PySem.Spec PyProof.Rows L2

/-! ### the order of lists of ints -/
theorem lex_irr : ∀ a : List Int, HT.lexLt a a = false
  | [] => rfl
  | x :: a => by rw [HT.lexLt_cons, if_pos rfl]; exact lex_irr a
theorem lex_trans : ∀ {a b c : List Int}, HT.lexLt a b = true → HT.lexLt b c = true → HT.lexLt a c = true
  | [], [], _, h, _ => by cases h
  | [], _ :: _, [], _, h => by cases h
  | [], _ :: _, _ :: _, _, _ => rfl
  | _ :: _, [], _, h, _ => by cases h
  | _ :: _, _ :: _, [], _, h => by cases h
  | x :: a, y :: b, z :: c, h, g => by
    rw [HT.lexLt_cons] at h g ⊢
    by_cases e1 : x = y
    · rw [if_pos e1] at h
      by_cases e2 : y = z
      · rw [if_pos e2] at g
        rw [if_pos (e1.trans e2)]
        exact lex_trans h g
      · rw [if_neg e2] at g
        rw [e1, if_neg e2]; exact g
    · rw [if_neg e1] at h
      have h := of_decide_eq_true h
      by_cases e2 : y = z
      · rw [← e2, if_neg e1]; exact decide_eq_true h
      · rw [if_neg e2] at g
        have g := of_decide_eq_true g
        rw [if_neg (by omega)]; exact decide_eq_true (by omega)
theorem lex_tri : ∀ (a b : List Int), HT.lexLt a b = true ∨ a = b ∨ HT.lexLt b a = true
  | [], [] => .inr (.inl rfl)
  | [], _ :: _ => .inl rfl
  | _ :: _, [] => .inr (.inr rfl)
  | x :: a, y :: b => by
    rw [HT.lexLt_cons, HT.lexLt_cons]
    by_cases e : x = y
    · subst e
      rw [if_pos rfl, if_pos rfl]
      rcases lex_tri a b with h | h | h
      · exact .inl h
      · exact .inr (.inl (by rw [h]))
      · exact .inr (.inr h)
    · rw [if_neg e, if_neg (fun z => e z.symm)]
      rcases Int.lt_trichotomy x y with h | h | h
      · exact .inl (decide_eq_true h)
      · exact absurd h e
      · exact .inr (.inr (decide_eq_true h))
theorem lex_asym {a b : List Int} (h : HT.lexLt a b = true) : HT.lexLt b a = false := by
  cases q : HT.lexLt b a with
  | false => rfl
  | true => have := lex_trans h q; rw [lex_irr] at this; cases this
/-- how many of some are less -/
def rkL (l : List (List Int)) (a : List Int) : Nat := l.countP fun z => HT.lexLt z a
theorem count_le {α : Type} {p q : α → Bool} : ∀ {l : List α}, (∀ x ∈ l, p x = true → q x = true) → l.countP p ≤ l.countP q
  | [], _ => Nat.le_refl _
  | x :: l, h => by
    have ih := count_le (l := l) fun y hy => h y (List.mem_cons_of_mem _ hy)
    have hx := h x List.mem_cons_self
    rw [List.countP_cons, List.countP_cons]
    cases e1 : p x <;> cases e2 : q x <;> simp_all <;> omega
theorem count_lt {α : Type} {p q : α → Bool} : ∀ {l : List α}, (∀ x ∈ l, p x = true → q x = true) → ∀ y ∈ l, p y = false → q y = true → l.countP p < l.countP q
  | x :: l, h, y, hy, e1, e2 => by
    have h' : ∀ x ∈ l, p x = true → q x = true := fun y hy => h y (List.mem_cons_of_mem _ hy)
    rw [List.countP_cons, List.countP_cons]
    rcases List.mem_cons.mp hy with rfl | hy
    · have := count_le h'
      rw [e1, e2]; simp; omega
    · have ih := count_lt h' y hy e1 e2
      have hx := h x List.mem_cons_self
      cases e1 : p x <;> cases e2 : q x <;> simp_all <;> omega
theorem rk_iff {l : List (List Int)} {a b : List Int} (ha : a ∈ l) : decide ((rkL l a : Int) < (rkL l b : Int)) = HT.lexLt a b := by
  cases q : HT.lexLt a b with
  | true =>
    refine decide_eq_true ?_
    have := count_lt (p := fun z => HT.lexLt z a) (q := fun z => HT.lexLt z b) (l := l) (fun x _ h => lex_trans h q) a ha (lex_irr a) q
    unfold rkL; omega
  | false =>
    refine decide_eq_false fun h => ?_
    have : rkL l b ≤ rkL l a := count_le fun x _ h => by
      rcases lex_tri a b with z | z | z
      · rw [q] at z; cases z
      · rw [z]; exact h
      · exact lex_trans h z
    omega
theorem rk_le {l : List (List Int)} {a b : List Int} (hb : b ∈ l) (h : rkL l a ≤ rkL l b) : HT.lexLt b a = false := by
  have := rk_iff (l := l) (a := b) (b := a) hb
  rw [← this]
  exact decide_eq_false (by omega)

/-! ### one comparison of the sort -/
section
variable {prog : Program} {w : World} {A : Around} {E : Value → Shared → Prop} {s : Shared}
theorem katL {b fin : Bool} {Q : Bool → Shared → Prop} {xs ys : List Value} {ns ms : List Int} (i : Nat) (hx : IntsAre xs ns) (hy : IntsAre ys ms) (hf : fin = decide (ns.length < ms.length)) (h : Q (HT.lexLt ns ms) s) : PySem.W.KatLex prog w A b fin Q (xs.zip ys) i s := by
  induction hx generalizing ys ms i with
  | nil =>
    cases hy with
    | nil =>
      subst hf
      exact PySem.W.kat_nil h
    | cons q u hy =>
      subst hf
      refine PySem.W.kat_nil ?_
      rw [show decide (([] : List Int).length < (q :: _).length) = true from by simp]
      exact h
  | @cons p t xs ns hx ih =>
    cases hy with
    | nil =>
      subst hf
      exact PySem.W.kat_nil h
    | @cons q u ys ms hy =>
      show PySem.W.KatLex prog w A b fin Q ((Value.int p t, Value.int q u) :: xs.zip ys) i s
      refine PySem.W.kat_cons (wpAny_eqBool_int ?_)
      rw [HT.lexLt_cons] at h
      by_cases e : p = q
      · subst e
        rw [if_pos rfl] at h
        rw [beq_self_eq_true]
        exact PySem.W.kat_yes (ih (i + 1) hy (by rw [hf]; simp) h)
      · rw [if_neg e] at h
        rw [show (p == q) = false from beq_eq_false_iff_ne.mpr e]
        exact PySem.W.kat_no (TS.oneLt_ints _ h)
/-- tuples of ints, none of them empty -/
def TupsL (h : Heap) (vs : List Value) : Prop := ∀ v, v ∈ vs → ∃ ns, TS.TupInts h v ns ∧ ns ≠ []
theorem TupsL.keeps {h h' : Heap} {vs : List Value} (x : TupsL h vs) (k : ∀ b o, h.get? b = some o → o.cls = .type "tuple" → h'.get? b = some o) : TupsL h' vs := fun v hv => by
  obtain ⟨ns, t, r⟩ := x v hv
  exact ⟨ns, t.keeps k, r⟩
theorem firstsL {h : Heap} : ∀ vs : List Value, TupsL h vs → ∃ fs, PySem.W.KatTups h vs fs ∧ fs.length = vs.length ∧ ∀ f, f ∈ fs → ∃ n t, f = Value.int n t
  | [], _ => ⟨[], .nil, rfl, fun _ z => nomatch z⟩
  | v :: vs, x => by
    obtain ⟨fs, k, hl, hi⟩ := firstsL vs fun u hu => x u (.tail _ hu)
    obtain ⟨ns, ⟨a, xs, rfl, ⟨o, ho, hc, n, hd⟩, i⟩, hn⟩ := x v (.head _)
    cases q : xs.toList with
    | nil => rw [q] at i; cases i; exact absurd rfl hn
    | cons y ys =>
      rw [q] at i
      cases i with
      | cons m t i =>
        refine ⟨.int m t :: fs, .cons ho hc hd ?_ k, by simp [hl], fun f hf => ?_⟩
        · rw [← Array.getElem?_toList, q]; rfl
        · rcases List.mem_cons.mp hf with rfl | hf
          · exact ⟨m, t, rfl⟩
          · exact hi f hf
theorem kindL {vs : List Value} (h2 : 2 ≤ vs.length) (x : TupsL s.heap vs) (l : List (List Int)) (r : Value → Int) (hr : ∀ v, v ∈ vs → ∀ ns, TS.TupInts s.heap v ns → ns ∈ l ∧ r v = rkL l ns) (Q : SortKind → Shared → Prop)
    (h : ∀ κ, TS.Cmp prog w A s κ (pairsOf vs) r → Q κ s) : wpAny (model prog w) A (keyKind' vs.toArray) Q E s := by
  obtain ⟨fs, k, hl, hi⟩ := firstsL vs x
  refine PySem.W.kat_kind (T := .type "int") k (by omega) (fun f hf => ?_) rfl (h _ ?_)
  · obtain ⟨n, t, rfl⟩ := hi f hf
    exact .of_pure rfl
  · intro p q hp hq Q' E' hQ
    rw [PyProof.Rows.pairsOf_toList] at hp hq
    have hp := (PyProof.Rows.mem_zip_self hp).2
    have hq := (PyProof.Rows.mem_zip_self hq).2
    obtain ⟨ns, tp, _⟩ := x _ hp
    obtain ⟨ms, tq, _⟩ := x _ hq
    obtain ⟨m1, e1⟩ := hr _ hp _ tp
    obtain ⟨m2, e2⟩ := hr _ hq _ tq
    rw [e1, e2, rk_iff m1] at hQ
    obtain ⟨a, xs, z1, ⟨o, ho, hc, n, hd⟩, i⟩ := tp
    obtain ⟨b, ys, z2, ⟨o', ho', hc', n', hd'⟩, i'⟩ := tq
    rw [z1, z2]
    refine PySem.W.kat_lt ho hd ho' hd' (katL 0 i i' ?_ hQ)
    rw [← i.length, ← i'.length, Array.length_toList, Array.length_toList]
end
end Dd
end
section
set_option Elab.async false
set_option linter.all false
set_option maxRecDepth 100000
namespace Dd
open PySem PySem.Spec PyProof.Rows L2

section
variable {prog : Program} {w : World} {A : Around} {E : Value → Shared → Prop} {s : Shared}
theorem sortListL {a : Addr} {vs : List Value} {n : Nat} {P : PySem.Fin → Shared → Prop} (ho : s.heap.get? a = some (seqObj "list" vs.toArray n)) (h64 : vs.length < 64) (x : TupsL s.heap vs) (l : List (List Int)) (r : Value → Int)
    (hr : ∀ v, v ∈ vs → ∀ ns, TS.TupInts s.heap v ns → ns ∈ l ∧ r v = rkL l ns)
    (h : ∀ out : Array Value, out.toList.Perm vs → out.toList.Pairwise (fun u v => r u ≤ r v) → P (.done (.ret .none)) { s with heap := sortedHeap s.heap a vs out }) :
    wpAny (model prog w) A (Builtin.«list.sort» ⟨[.ref a], []⟩) P E s := by
  have old : ∀ b o, s.heap.get? b = some o → o.cls = .type "tuple" → (TS.midHeap s.heap a vs).get? b = some o := fun b o e hc => by
    by_cases z : b = a
    · subst z
      have z2 : seqObj "list" vs.toArray n = o := Option.some.inj (ho.symm.trans e)
      rw [← z2] at hc
      have z3 : Value.type "list" = Value.type "tuple" := hc
      injection z3 with z3
      exact absurd z3 (by decide)
    · exact TS.midHeap_old z e
  refine SK.plain_sort (r := r) ho h64 (fun h2 Q hQ => kindL (s := { s with heap := TS.midHeap s.heap a vs }) h2 (x.keeps old) l r (fun v hv ns t => ?_) Q hQ) fun ps out h1 h2 h3 => ?_
  · obtain ⟨ns0, t0, _⟩ := x v hv
    have e : ns = ns0 := t.ints.symm.trans (t0.keeps old).ints
    rw [e]
    exact hr v hv ns0 t0
  · obtain ⟨p, o⟩ := TS.out_rank h1 h2 h3
    exact h out p o
theorem sortedL {l : Addr} {vs : List Value} {Q : Value → Shared → Prop} (hl : s.heap.IsList l vs.toArray) (h64 : vs.length < 64) (x : TupsL s.heap vs)
    (h : ∀ out : Array Value, out.toList.Perm vs → out.toList.Pairwise (fun u v => HT.lexLt (TS.intsOf s.heap v) (TS.intsOf s.heap u) = false) → Q (.ref (s.heap.objs.size + 1)) { s with heap := sortedAll s.heap vs out }) :
    wpAny (model prog w) A (call (.builtin "sorted") [.ref l]) Q E s := by
  refine Calls.call_function_entry kind_sorted plain_sorted entry_sorted (args_sorted1 _) ?_
  unfold Builtin.«sorted»
  refine wpAny_bind (m := checkCount "sorted" 1 1 _) (wpAny_pure (wpAny_bind (collect_list hl (wpAny_bind (wpAny_newList ?_ (by rw [sizeLine_eq]; omega))) (by rw [sizeLine_eq]; omega))))
  generalize eh1 : (s.heap.push (seqObj "list" #[] 0)).update s.heap.objs.size (Obj.mapSeq (· ++ vs.toArray)) = h1
  have z1 : h1.objs.size = s.heap.objs.size + 1 := by rw [← eh1, Heap.size_update, size_push']
  have at1 : (h1.push (seqObj "list" vs.toArray 0)).get? (s.heap.objs.size + 1) = some (seqObj "list" vs.toArray 0) := by
    rw [← z1]; exact Heap.get?_push_size _ rfl
  have old : ∀ b o, s.heap.get? b = some o → o.cls = .type "tuple" → (h1.push (seqObj "list" vs.toArray 0)).get? b = some o := fun b o q _ => by
    have lt : b < s.heap.objs.size := Heap.lt_size q
    rw [Heap.get?_push_ne _ _ _ (Nat.ne_of_lt (by rw [z1]; exact Nat.lt_succ_of_lt lt)), ← eh1, Heap.get?_update_ne _ _ _ _ (Nat.ne_of_lt lt), Heap.get?_push_ne _ _ _ (Nat.ne_of_lt lt)]
    exact q
  show wpAny _ _ _ _ _ { s with heap := h1.push (seqObj "list" vs.toArray 0) }
  rw [z1]
  generalize el : vs.map (TS.intsOf s.heap) = li
  have mem : ∀ v ∈ vs, TS.intsOf s.heap v ∈ li := fun v hv => el ▸ List.mem_map_of_mem hv
  refine wpAny_bind (wpAny_holding (wpAny_call_entry slot_list_sort ⟨_, at1, rfl⟩ entry_list_sort (sortListL at1 h64 (x.keeps old) li (fun v => rkL li (TS.intsOf s.heap v)) (fun v hv ns t => ?_) fun out a1 a2 => ⟨_, rfl, ?_⟩) (args_list_sort _)))
  · obtain ⟨ns0, t0, _⟩ := x v hv
    have e : ns = TS.intsOf s.heap v := t.ints.symm.trans ((t0.keeps old).ints.trans t0.ints.symm)
    rw [e]
    exact ⟨mem v hv, rfl⟩
  · refine wpAny_pure ⟨_, rfl, ?_⟩
    have := h out a1 (List.Pairwise.imp_of_mem (fun {u v} hu hv q => rk_le (l := li) (mem v (a1.mem_iff.mp hv)) (Int.ofNat_le.mp q)) a2)
    rw [← eh1]
    exact this
end

/-! ### the calls, by values -/
/-- tuples of these ints -/
def TupIs (K : PySem.W.Frag) (H : Hp) : List V → List (List Int) → Prop
  | [], l => l = []
  | x :: xs, l => ∃ ns r, l = ns :: r ∧ TupI K H x ns ∧ TupIs K H xs r
theorem tupIs_len {K : PySem.W.Frag} {H : Hp} : ∀ {xs : List V} {l : List (List Int)}, TupIs K H xs l → l.length = xs.length
  | [], l, h => by unfold TupIs at h; rw [h]; rfl
  | x :: xs, l, h => by
    unfold TupIs at h
    obtain ⟨ns, r, rfl, _, h⟩ := h
    simp [tupIs_len h]
theorem tupIs_get {K : PySem.W.Frag} {H : Hp} : ∀ {xs : List V} {l : List (List Int)} {i : Nat} {x : V}, TupIs K H xs l → xs[i]? = some x → ∃ ns, l[i]? = some ns ∧ TupI K H x ns
  | [], _, _, _, _, e => by cases e
  | y :: xs, l, 0, x, h, e => by
    unfold TupIs at h
    obtain ⟨ns, r, rfl, t, _⟩ := h
    cases e
    exact ⟨ns, rfl, t⟩
  | y :: xs, l, i + 1, x, h, e => by
    unfold TupIs at h
    obtain ⟨ns, r, rfl, _, h⟩ := h
    exact tupIs_get (i := i) h e
theorem tupIs_mem {K : PySem.W.Frag} {H : Hp} {xs : List V} {l : List (List Int)} {x : V} (h : TupIs K H xs l) (m : x ∈ xs) : ∃ ns, ns ∈ l ∧ TupI K H x ns := by
  obtain ⟨i, e⟩ := List.getElem?_of_mem m
  obtain ⟨ns, e2, t⟩ := tupIs_get h e
  exact ⟨ns, List.mem_of_getElem? e2, t⟩
section
variable {X : Cx} {pins : List (Addr × Obj)} {σ : L2.St} {H : Hp} {s : Shared}
theorem tupIs_map (I : Inv X pins σ H s) : ∀ {xs : List V} {us : List Value} {l : List (List Int)}, Vals xs us → TupIs X.K H xs l → us.map (TS.intsOf s.heap) = l
  | _, _, l, .nil, h => by unfold TupIs at h; rw [h]; rfl
  | _ :: _, u :: _, l, .cons r t, h => by
    unfold TupIs at h
    obtain ⟨ns, q, rfl, ⟨a, e, th⟩, h⟩ := h
    subst e
    have e2 : u = .ref a := r
    subst e2
    rw [List.map_cons, (tupI_raw I th).ints, tupIs_map I t h]
end
def rSortL (K : PySem.W.Frag) : List V → Hp → VK → Prop := fun vs H Q => ∃ (a : Addr) (xs : List V) (l : List (List Int)), vs = [V.ref a] ∧ SqL K H a xs ∧ xs.length < 64 ∧ TupIs K H xs l ∧ (∀ ns ∈ l, ns ≠ []) ∧
  ∀ (zs : List (V × List Int)) (p : Addr), zs.Perm (xs.zip l) → zs.Pairwise (fun u v => HT.lexLt v.2 u.2 = false) → H p = none → Q (.ref p) (upd H p (.lst (zs.map Prod.fst)))
theorem cr_sortL {X : Cx} : CallR X (.builtin "sorted") (rSortL X.K) := by
  intro pins s σ H vs us Q I r h
  obtain ⟨a, xs, l, rfl, hs, h64, hx, hne, q⟩ := h
  obtain ⟨its, rv, hl, hz⟩ := I.list hs
  rw [Vals.ref1 r]
  have refs : ∀ x ∈ xs, ∃ t, x = V.ref t := fun x m => by
    obtain ⟨ns, _, t, e, _⟩ := tupIs_mem hx m
    exact ⟨t, e⟩
  obtain ⟨e1, e2⟩ := bkV_refs rv refs
  have e3 := tupIs_map I rv hx
  have back : ∀ u ∈ its, ∃ t, u = Value.ref t ∧ V.ref t ∈ xs := fun u hu => by
    obtain ⟨t, rfl⟩ := e2 u hu
    exact ⟨t, rfl, by rw [e1]; exact List.mem_map.mpr ⟨_, hu, rfl⟩⟩
  refine sortedL hl.isList (by rw [← rv.length]; exact h64) (fun v hv => ?_) fun out h1 h2 => ?_
  · obtain ⟨t, rfl, m⟩ := back v hv
    obtain ⟨ns, mn, ⟨t', e, ht⟩⟩ := tupIs_mem hx m
    cases e
    exact ⟨ns, tupI_raw I ht, hne ns mn⟩
  · obtain ⟨ep, he⟩ := PyProof.Rows.sortedAll_at s.heap its out
    have h3 : ∀ u ∈ out.toList, ∃ a, u = Value.ref a := fun u hu => let ⟨t, e, _⟩ := back u (h1.mem_iff.mp hu); ⟨t, e⟩
    have len : (out.toList.map bkV).length ≤ sizeLine := by
      rw [List.length_map, h1.length_eq, ← rv.length]; exact hz
    have ez : (out.toList.map fun u => (bkV u, TS.intsOf s.heap u)).map Prod.fst = out.toList.map bkV := by rw [List.map_map]; rfl
    have := q (out.toList.map fun u => (bkV u, TS.intsOf s.heap u)) (s.heap.objs.size + 1) (by
      rw [e1, ← e3, List.zip_map']
      exact h1.map _) (by rw [List.pairwise_map]; exact h2) (I.hok.fresh (Nat.le_succ _))
    rw [ez] at this
    exact ⟨.ref _, upd H (s.heap.objs.size + 1) (.lst (out.toList.map bkV)), I.laid (t' := s.toks) (fun _ _ => PyProof.Rows.sortedAll_old) (Nat.le_succ _) ⟨len, out.toList, ep, bkV_vals h3, he⟩, rfl, this⟩
end Dd
end
section
set_option Elab.async false
set_option linter.all false
set_option maxRecDepth 100000
/-! min(xs), where the comparisons read the heap -/
namespace Dd
open PySem PySem.Spec PyProof.Rows L2
/-- all that stood stands, but what the walk writes -/
def Std (h0 : Heap) (wr : List Addr) (S : Addr) (h : Heap) : Prop := ∀ b o, b ∉ wr → b ≠ S → h0.get? b = some o → h.get? b = some o
section
variable {prog : Program} {w : World} {A : Around} {R : Result → Shared → Prop} {I : Addr} {fp wr : List Addr} {n : Nat} {P : Nat → Value → Prop} {St : Nat → Heap → Prop}
abbrev twoOb (v : Value) (c : Nat) : Obj := { cls := .type "list", dict := none, data := .seq #[v, v] c, slots := #[] }
/-- one comparison, in each heap in which h0 stands -/
def CmpH (prog : Program) (w : World) (A : Around) (ok : Heap → Prop) (P : Nat → Value → Prop) (bt : Nat → Nat → Bool) : Prop :=
  ∀ i j x y (s : Shared) (Q : Value → Shared → Prop) (E : Value → Shared → Prop), ok s.heap → P i x → P j y → Q (.bool (bt i j)) s → wpAny (model prog w) A (richCompare .Lt x y) Q E s
theorem minLoop {h0 : Heap} {bt : Nat → Nat → Bool} {S : Addr} (W : Walks prog w A.in1 I fp wr n P St) (cmp : CmpH prog w A.in1 (Std h0 wr S) P bt) (nf : S ∉ fp) : ∀ (k j : Nat) (s : Shared) (best : Value) (c : Nat),
    j + 1 + k = n → St (j + 1) s.heap → Std h0 wr S s.heap → P (argBest bt j) best → s.heap.get? S = some (twoOb best c) →
    (∀ v h' tk, P (argBest bt (n - 1)) v → Std h0 wr S h' → R (.ok (.ret v)) { s with heap := h', toks := tk }) →
    codeAny (model prog w) A (.builtin "min.loop" ⟨[.ref I, .none, .ref S], []⟩) R s := by
  have nw : S ∉ wr := fun z => nf (W.sub _ z)
  have nm : (toString "min" ++ toString ".loop" : String) = "min.loop" := by decide
  have off : ∀ {h : Heap} {o : Obj} {g : Obj → Obj}, h.get? S = some o → ∀ b, b ≠ S → (h.update S g).get? b = h.get? b := fun _ b hb => Heap.get?_update_other _ _ (Ne.symm hb)
  intro k
  induction k with
  | zero =>
    intro j s best c e st sd hb hS q
    refine codeAny_builtin F.entry_min_loop ?_
    rw [Around.under_plainId F.plain_min_loop _]
    show wpAny _ A.in1 (seqItems? (.ref S) >>= _) _ _ s
    refine wpAny_bind (wpAny_seqItems hS rfl (show wpAny _ A.in1 (tryCatch (pyNext (.ref I)) _ >>= _) _ _ s from wpAny_bind (wpAny_tryCatch (W.done s _ _ (by rw [← e]; exact st) fun h' tk kp => ?_))))
    have hS' := kp S _ nw hS
    show wpAny _ A.in1 (updateSeq S (fun _ => #[]) >>= _) _ _ _
    refine wpAny_bind (wpAny_updateSeq hS' rfl (wpAny_bind (wpAny_letGo (wpAny_pure ?_))))
    exact q best _ tk (by rw [← e]; exact hb) fun b o b1 b2 z => (off hS' b b2).trans (kp b o b1 (sd b o b1 b2 z))
  | succ k ih =>
    intro j s best c e st sd hb hS q
    refine codeAny_builtin F.entry_min_loop ?_
    rw [Around.under_plainId F.plain_min_loop _]
    show wpAny _ A.in1 (seqItems? (.ref S) >>= _) _ _ s
    refine wpAny_bind (wpAny_seqItems hS rfl (show wpAny _ A.in1 (tryCatch (pyNext (.ref I)) _ >>= _) _ _ s from wpAny_bind (wpAny_tryCatch (W.item (j + 1) s _ _ (by omega) st fun v h' tk pv st' kp => ?_))))
    have hS' := kp S _ nw hS
    have sd' : Std h0 wr S h' := fun b o b1 b2 z => kp b o b1 (sd b o b1 b2 z)
    show wpAny _ A.in1 (tryCatch (holding [v, v] (richCompare .Lt v best >>= _)) _ >>= _) _ _ _
    refine wpAny_bind (wpAny_tryCatch (wpAny_holding (wpAny_bind (cmp (j + 1) (argBest bt j) v best { s with heap := h', toks := tk } _ _ sd' pv hb (wpAny_bind (wpAny_holding (wpAny_truthy_bool (wpAny_bind (wpAny_letGo (wpAny_pure ?_))))))))))
    cases z : bt (j + 1) (argBest bt j) with
    | true =>
      simp only [if_true]
      refine wpAny_bind (wpAny_updateSeq hS' rfl (wpAny_bind (wpAny_letGo ?_)))
      rw [nm]
      refine wpAny_pure ⟨plainId_quiet F.plain_min_loop _, ih (j + 1) _ v _ (by omega) (W.frame _ _ _ st' fun b bf o y => ?_) (fun b o b1 b2 y => (off hS' b b2).trans (sd' b o b1 b2 y)) (by simp only [argBest, z, if_true]; exact pv) (Heap.get?_update_self _ hS' rfl) q⟩
      exact (off hS' b fun y2 => nf (y2 ▸ bf)).trans y
    | false =>
      simp only [Bool.false_eq_true, if_false]
      refine wpAny_bind (wpAny_letGo ?_)
      rw [nm]
      exact wpAny_pure ⟨plainId_quiet F.plain_min_loop _, ih (j + 1) _ best c (by omega) st' sd' (by simp only [argBest, z, Bool.false_eq_true, if_false]; exact hb) hS' q⟩
theorem minFirst {h0 : Heap} {bt : Nat → Nat → Bool} {S : Addr} (W : Walks prog w A.in1 I fp wr n P St) (cmp : CmpH prog w A.in1 (Std h0 wr S) P bt) (nf : S ∉ fp) (hn : 0 < n) {s : Shared} {c : Nat} (st : St 0 s.heap) (sd : Std h0 wr S s.heap)
    (hS : s.heap.get? S = some { cls := .type "list", dict := none, data := .seq #[] c, slots := #[] })
    (q : ∀ v h' tk, P (argBest bt (n - 1)) v → Std h0 wr S h' → R (.ok (.ret v)) { s with heap := h', toks := tk }) :
    codeAny (model prog w) A (.builtin "min.loop" ⟨[.ref I, .none, .ref S], []⟩) R s := by
  have nw : S ∉ wr := fun z => nf (W.sub _ z)
  have nm : (toString "min" ++ toString ".loop" : String) = "min.loop" := by decide
  refine codeAny_builtin F.entry_min_loop ?_
  rw [Around.under_plainId F.plain_min_loop _]
  show wpAny _ A.in1 (seqItems? (.ref S) >>= _) _ _ s
  refine wpAny_bind (wpAny_seqItems hS rfl (show wpAny _ A.in1 (tryCatch (pyNext (.ref I)) _ >>= _) _ _ s from wpAny_bind (wpAny_tryCatch (W.item 0 s _ _ hn st fun v h' tk pv st' kp => ?_))))
  have hS' := kp S _ nw hS
  have sd' : Std h0 wr S h' := fun b o b1 b2 z => kp b o b1 (sd b o b1 b2 z)
  have off : ∀ (g : Obj → Obj) b, b ≠ S → (h'.update S g).get? b = h'.get? b := fun g b hb => Heap.get?_update_other _ _ (Ne.symm hb)
  show wpAny _ A.in1 (updateSeq S (fun _ => #[v, v]) >>= _) _ _ _
  refine wpAny_bind (wpAny_updateSeq hS' rfl ?_)
  rw [nm]
  refine wpAny_pure ⟨plainId_quiet F.plain_min_loop _, minLoop W cmp nf (n - 1) 0 _ v _ (by omega) (W.frame _ _ _ st' fun b bf o y => ?_) (fun b o b1 b2 y => (off _ b b2).trans (sd' b o b1 b2 y)) pv (Heap.get?_update_self _ hS' rfl) q⟩
  exact (off _ b fun y2 => nf (y2 ▸ bf)).trans y
end
section
variable {prog : Program} {w : World} {A : Around} {E : Value → Shared → Prop} {s : Shared}
theorem minList {l : Addr} {its : Array Value} {bt : Nat → Nat → Bool} {Q : Value → Shared → Prop} (hh : A.handled = none) (hl : s.heap.IsList l its) (hn : 0 < its.size)
    (cmp : ∀ i j x y (s2 : Shared) (Q : Value → Shared → Prop) (E : Value → Shared → Prop), (∀ b o, s.heap.get? b = some o → s2.heap.get? b = some o) → its[i]? = some x → its[j]? = some y → Q (.bool (bt i j)) s2 → wpAny (model prog w) A.in1 (richCompare .Lt x y) Q E s2)
    (q : ∀ v h' tk, its[argBest bt (its.size - 1)]? = some v → (∀ b o, s.heap.get? b = some o → h'.get? b = some o) → Q v { s with heap := h', toks := tk }) : wpAny (model prog w) A (call (.builtin "min") [.ref l]) Q E s := by
  have nm : (toString "min" ++ toString ".loop" : String) = "min.loop" := by decide
  have lt : l < s.heap.objs.size := by
    obtain ⟨_, e, _⟩ := hl
    exact Heap.lt_size e
  refine call_function_tree F.kind_min F.plain_min F.entry_min (F.args_min1 _) ?_
  show wpAny _ A.in1 (Builtin.Builtins.bindParams "min" ["key", "default"] 0 ⟨[], []⟩ >>= _) _ _ s
  refine wpAny_bind (wpAny_of_eq (show Builtin.Builtins.bindParams "min" ["key", "default"] 0 ⟨[], []⟩ = pure [none, none] from rfl) (wpAny_bind (wpAny_pure (wpAny_bind (wpAny_pyIter_list hl (wpAny_bind (wpAny_newObj_type ?_)))))))
  generalize eh : s.heap.push { cls := .type "list_iterator", data := .fields #[.ref l, .int 0 0] } = h1
  have z1 : h1.objs.size = s.heap.objs.size + 1 := by rw [← eh, Heap.size_push]
  have old1 : ∀ b o, s.heap.get? b = some o → h1.get? b = some o := fun b o e => eh ▸ Heap.get?_push_of_some _ e
  have W := Walks.list (prog := prog) (w := w) (A := A.in1) hh s.heap.objs.size l (Nat.ne_of_lt lt) its
  have st1 : h1.IsListIter s.heap.objs.size l 0 ∧ h1.IsList l its := ⟨eh ▸ ⟨_, Heap.get?_push_size _ rfl, rfl, rfl⟩, eh ▸ hl.push _⟩
  have nf : h1.objs.size ∉ [s.heap.objs.size, l] := fun z => by
    rw [z1] at z
    rcases List.mem_cons.mp z with z | z
    · exact absurd z (Nat.ne_of_gt (Nat.lt_succ_self _))
    · rcases List.mem_cons.mp z with z | z
      · exact absurd z (Nat.ne_of_gt (Nat.lt_succ_of_lt lt))
      · cases z
  have sdo : ∀ {h2 : Heap}, Std h1 [s.heap.objs.size] h1.objs.size h2 → ∀ b o, s.heap.get? b = some o → h2.get? b = some o := fun {h2} sd b o e => by
    have lb : b < s.heap.objs.size := Heap.lt_size e
    refine sd b o (fun z => ?_) (by rw [z1]; exact Nat.ne_of_lt (Nat.lt_succ_of_lt lb)) (old1 b o e)
    rcases List.mem_cons.mp z with z | z
    · exact absurd z (Nat.ne_of_lt lb)
    · cases z
  rw [nm]
  refine wpAny_pure ⟨plainId_quiet F.plain_min_loop _, minFirst (h0 := h1) (bt := bt) W (fun i j x y s2 Q E sd px py hq => cmp i j x y s2 Q E (sdo sd) px py hq) nf hn (W.frame _ _ _ st1 fun b _ o e => Heap.get?_push_of_some _ e) (fun b o _ _ e => Heap.get?_push_of_some _ e) (Heap.get?_push_size _ rfl) fun v h' tk pv sd => ?_⟩
  exact q v h' tk pv (sdo sd)
end
def btL (l : List (List Int)) (i j : Nat) : Bool := HT.lexLt (l.getD i []) (l.getD j [])
def rMinL (K : PySem.W.Frag) : List V → Hp → VK → Prop := fun vs H Q => ∃ (a : Addr) (xs : List V) (l : List (List Int)), vs = [V.ref a] ∧ SqL K H a xs ∧ 0 < xs.length ∧ TupIs K H xs l ∧
  ∀ x, xs[argBest (btL l) (xs.length - 1)]? = some x → Q x H
theorem vals_get {xs : List V} {us : List Value} (r : Vals xs us) {i : Nat} {u : Value} (h : us[i]? = some u) : ∃ x, xs[i]? = some x ∧ RelV x u := by
  induction r generalizing i with
  | nil => cases h
  | cons r t ih =>
    cases i with
    | zero => cases h; exact ⟨_, rfl, r⟩
    | succ i => exact ih h
theorem cr_minL {X : Cx} (hc : X.calm = true) (hu : X.A.units + 64 < cLine) : CallR X (.builtin "min") (rMinL X.K) := by
  intro pins s σ H vs us Q I r h
  obtain ⟨a, xs, l, rfl, hs, hn, hx, q⟩ := h
  obtain ⟨its, rv, hl, hz⟩ := I.list hs
  rw [Vals.ref1 r]
  have sz : its.toArray.size = xs.length := by rw [List.size_toArray]; exact rv.length.symm
  have raw : ∀ (h : Heap), (∀ b o, s.heap.get? b = some o → h.get? b = some o) → ∀ i u, its.toArray[i]? = some u → TS.TupInts h u (l.getD i []) := fun h kp i u e => by
    obtain ⟨x, e2, rx⟩ := vals_get rv (by simpa using e)
    obtain ⟨ns, e3, ⟨t, rfl, ht⟩⟩ := tupIs_get hx e2
    have e4 : u = .ref t := rx
    subst e4
    rw [List.getD_eq_getElem?_getD, e3]
    exact (tupI_raw I ht).keeps fun b o z _ => kp b o z
  refine minList (bt := btL l) (I.ok.hd hc) hl.isList (by rw [sz]; exact hn) (fun i j x y s2 Q' E' kp px py hq => ?_) fun v h' tk e kp => ?_
  · obtain ⟨t1, v1, rfl, p1, i1⟩ := raw s2.heap kp i x px
    obtain ⟨t2, v2, rfl, p2, i2⟩ := raw s2.heap kp j y py
    exact HT.lt_tupInts p1 p2 i1 i2 (by show X.A.units + 1 < cLine; omega) hq
  · rw [sz] at e
    obtain ⟨x, e2, rx⟩ := vals_get rv (i := argBest (btL l) (xs.length - 1)) (by simpa using e)
    exact ⟨x, H, I.kept kp, rx, q x e2⟩
end Dd
end
section
set_option Elab.async false
set_option linter.all false
set_option maxRecDepth 100000
set_option maxHeartbeats 4000000
/-! tuple * 1, () * n: the tuple itself -/
namespace L2
open PySem PySem.Spec PyProof.Rows
theorem tuple_mul1 (l : Addr) (items : Array Value) (n : Nat) (dd : Option Addr) (sl : Array (Option Value)) (x : Int) (u : Tok) (c0 : (decide (x < -(2 ^ 63)) || decide (x ≥ 2 ^ 63)) = false) (c1 : (items.isEmpty || x == 1) = true) :
    Meets (Builtin.«tuple.__mul__» ⟨[.ref l, .int x u], []⟩) (fun _ R s => s.heap.get? l = some { cls := .type "tuple", dict := dd, data := .seq items n, slots := sl } ∧
      R (.ok (.ret (Value.ref l))) s) :=
  .of_wp fun prog w A R s h => by
    obtain ⟨hp, g, d, tk, os⟩ := s
    obtain ⟨hl, h⟩ := h
    have f1 := AutoSeq1.idx_int
    wp_walk using wpAny_loadPart' hl
    repeat (first
      | (refine wpAny_ite_false (decide_eq_false (by rw [c0]; exact Bool.false_ne_true)) ?_; wp_walk using wpAny_loadPart' hl)
      | (refine wpAny_ite_true (decide_eq_true (by rw [c1])) ?_; wp_walk using wpAny_loadPart' hl))
    exact ⟨_, rfl, h⟩
def rRepT1 (K : PySem.W.Frag) : R2 := fun x y H Q => ∃ l k xs, x = .ref l ∧ y = .int k ∧ SqT K H l xs ∧ (xs = [] ∨ k = 1) ∧ 0 ≤ k ∧ k ≤ 1000 ∧ Q (.ref l) H
section
variable {X : Cx}
theorem op_repT1 : OpR X (binaryOp .Mult) (rRepT1 X.K) := by
  intro pins s σ H x y v u Q I rx ry h
  obtain ⟨l, k, xs, rfl, rfl, hT, hne, h1, h2, q⟩ := h
  cases rx
  obtain ⟨t, rfl⟩ := ry
  obtain ⟨its, r, ⟨⟨cls, dd, data, sl⟩, ho, hc, n, hd⟩, hs⟩ := I.tuple hT
  simp only at hc hd
  subst hc hd
  have hle : its.length = xs.length := r.length.symm
  have c0 : (decide (k < -(2 ^ 63)) || decide (k ≥ 2 ^ 63)) = false := by
    rw [decide_eq_false (by omega), decide_eq_false (by omega)] <;> rfl
  have c1 : (its.toArray.isEmpty || k == 1) = true := by
    rcases hne with e | e
    · subst e
      have : its = [] := List.eq_nil_of_length_eq_zero hle
      subst this
      rfl
    · subst e
      rw [Bool.or_eq_true]
      exact .inr rfl
  refine wpAny_binaryOp_repeat_ref (T := "tuple") (U := "int") (by decide) ⟨_, ho, rfl⟩ (fun s' => typeIs_int s' k t) noFill_tuple_mul F.fills_int_mul F.slot_int_rmul repeat_tuple F.slot_int_index.lookup
    (call_meets F.slot_int_rmul (typeIs_int s k t) F.entry_int_rmul (F.args_int_rmul_2 _ _) (int_rmul_tuple k t l its.toArray n dd sl)
      ⟨ho, rfl, ⟨_, ho, rfl⟩, call_meets F.slot_tuple_mul ⟨_, ho, rfl⟩ F.entry_tuple_mul (F.args_tuple_mul_2 _ _) (tuple_mul1 l its.toArray n dd sl k t c0 c1) ⟨ho, ?_⟩⟩)
  exact ⟨.ref l, H, I, rfl, q⟩
theorem op_band1 : OpR X (binaryOp .BitAnd) (rI (fun i j => 0 ≤ i ∧ j = 1) fun i _ => V.int (i % 2)) := by
  intro pins s σ H x y v u Q I rx ry h
  obtain ⟨i, j, rfl, rfl, ⟨c1, rfl⟩, q⟩ := h
  obtain ⟨t, rfl⟩ := rx
  obtain ⟨t2, rfl⟩ := ry
  have e : Builtin.bitAnd i 1 = i % 2 := by
    unfold Builtin.bitAnd
    rw [decide_eq_true c1]
    show (((i.toNat &&& (1 : Int).toNat : Nat)) : Int) = _
    rw [show (1 : Int).toNat = 1 from rfl, Nat.and_one_is_mod]
    omega
  refine and_int ?_
  rw [e]
  exact ⟨.int (i % 2), H, I.kept (h' := s.heap) (t' := s.toks + 1) fun b u h => h, ⟨_, rfl⟩, q⟩
end
end L2
end
section
set_option Elab.async false
set_option linter.all false
set_option maxRecDepth 100000
/-! *a, b = tuple -/
namespace Dd
open PySem PySem.Spec PyProof.Rows L2
theorem unpack_star {prog : Program} {w : World} {A : Around} {E : Value → Shared → Prop} {s : Shared} {t : Addr} {items : Array Value} {Q : List Value → Shared → Prop} (hA : A.handled = none) (hT : s.heap.IsTuple t items) (h1 : 1 ≤ items.size) (h2 : items.size ≤ sizeLine)
    (h : ∀ (h' : Heap) (tk : Nat), (∀ b o, s.heap.get? b = some o → h'.get? b = some o) → Q ([] ++ [Value.ref h'.objs.size] ++ items.toList.drop (items.size - 1)) { heap := h'.push { cls := Value.type "list", data := Data.seq (items.toList.take (items.size - 1)).toArray }, gens := s.gens, drawn := s.drawn, toks := tk, os := s.os }) :
    wpAny (model prog w) A (unpackItems (.ref t) 2 (some 0)) Q E s := by
  have ht : s.TypeIs (.ref t) "tuple" := by
    obtain ⟨o, ho, hc, _⟩ := hT
    exact ⟨o, ho, hc⟩
  have lt : t < s.heap.objs.size := by
    obtain ⟨o, ho, hc, _⟩ := hT
    exact Heap.lt_size ho
  unfold unpackItems
  refine wpAny_bind ?_
  unfold notIterableAtAll
  refine wpAny_bind ?_
  refine wpAny_specialOf (T := "tuple") (r := some _) ht PyProof.Rows.slot_tuple_iter.lookup ?_
  refine wpAny_ite_true (by simp) ?_
  refine wpAny_pure ?_
  dsimp only
  refine wpAny_ite_false (by simp) ?_
  refine wpAny_bind (wpAny_holding (wpAny_pyIter_tuple hT ?_))
  refine wpAny_bind (wpAny_holding ?_)
  have d0 : draw (Value.ref s.heap.objs.size) 0 = pure [] := rfl
  rw [d0]
  refine wpAny_pure ?_
  refine wpAny_ite_false (by simp) ?_
  refine wpAny_bind (wpAny_holding ?_)
  refine W.kun_collect (T := "tuple_iterator") (k := 0) (ax := t) (.inr (.inr (.inr rfl))) (Walks.tuple (by exact hA) s.heap.objs.size t (Nat.ne_of_lt lt) items) ?_ (Nat.zero_le _) ?_ ?_ ?_ ?_ h2
  · rintro i u ⟨⟨o, ho, hc, _⟩, _⟩
    exact ⟨o, ho, hc⟩
  · refine ⟨⟨_, Heap.get?_push_size _ rfl, rfl, rfl⟩, ?_⟩
    obtain ⟨o, ho, hc⟩ := hT
    exact ⟨o, Heap.get?_push_of_some _ ho, hc⟩
  · rw [Heap.size_push]; exact Nat.lt_succ_self _
  · rw [Heap.size_push]; exact Nat.lt_succ_of_lt lt
  · intro h' tk keep
    have keep' : ∀ b o, s.heap.get? b = some o → h'.get? b = some o := fun b o hb => keep b o (Nat.ne_of_lt (Heap.lt_size hb)) (Heap.get?_push_of_some _ hb)
    have len : (List.drop 0 items.toList).length = items.size := by simp
    refine wpAny_ite_false (by rw [len]; exact decide_eq_false (by omega)) ?_
    rw [len, List.drop_zero]
    refine wpAny_bind (wpAny_newList ?_ ?_)
    · exact wpAny_pure (h h' tk keep')
    · rw [List.length_take]; exact Nat.le_trans (Nat.min_le_right _ _) (by simpa using h2)
theorem vals_snoc : ∀ {xs : List V} {z : V} {its : List Value}, Vals (xs ++ [z]) its → ∃ us w, its = us ++ [w] ∧ Vals xs us ∧ L2.RelV z w
  | [], z, _, .cons r .nil => ⟨[], _, rfl, .nil, r⟩
  | x :: xs, z, _, .cons r h => by
    obtain ⟨us, w, rfl, h2, r2⟩ := vals_snoc h
    exact ⟨_ :: us, w, rfl, .cons r h2, r2⟩
def gStar (K : PySem.W.Frag) (i j : Nat) : TG := fun v σ H Q => ∃ a xs z, v = .ref a ∧ SqT K H a (xs ++ [z]) ∧ ∀ l, H l = none → Q ((σ.set i (some (.ref l))).set j (some z)) (upd H l (.lst xs))
theorem pg_star {X : Cx} {x y : Str} {i j k : Nat} {px ps py pos : Pos} (hc : X.calm = true) (gx : PG X (.Name x px) (gName i)) (gy : PG X (.Name y py) (gName j)) : PG X (.Tuple [.Starred (.Name x px) ps, .Name y py] k pos) (gStar X.K i j) := by
  refine ⟨fun pins s σ H v u Q I r h => ?_⟩
  obtain ⟨a, xs, z, rfl, sq, q⟩ := h
  cases (show u = Value.ref a from r)
  obtain ⟨its, vals, it, sz⟩ := I.tuple sq
  obtain ⟨us, w, rfl, vu, rw_⟩ := vals_snoc vals
  have T : s.heap.IsTuple a (us ++ [w]).toArray := it
  have hsz : (us ++ [w]).toArray.size = us.length + 1 := by simp
  have hl : xs.length = us.length := vu.length
  rw [List.length_append, List.length_singleton] at sz
  rw [assign]
  refine wpAny_bind (wpAny_standAt ?_)
  unfold unpack
  refine wpAny_bind (wpAny_holding ?_)
  have e1 : assignEach [.Starred (.Name x px) ps, .Name y py] X.env = [(true, assign (.Name x px) X.env), (false, assign (.Name y py) X.env)] := by simp only [assignEach]
  rw [e1]
  show wpAny _ _ (unpackItems (.ref a) 2 (some 0)) _ _ _
  refine unpack_star (I.ok.hd hc) T (by rw [hsz]; omega) (by rw [hsz]; omega) fun h' tk keep => ?_
  have I2 := I.kept (h' := h') (t' := tk) keep
  have fr : H h'.objs.size = none := I2.hok.fresh (Nat.le_refl _)
  have I3 := I2.lnew (ys := xs) (its := us) (t' := tk) vu (by omega)
  have e2 : List.take ((us ++ [w]).toArray.size - 1) (us ++ [w]).toArray.toList = us := by rw [hsz]; simp
  have e3 : List.drop ((us ++ [w]).toArray.size - 1) (us ++ [w]).toArray.toList = [w] := by rw [hsz]; simp
  rw [e2, e3]
  show wpAny _ _ (assignInOrder [assign (.Name x px) X.env, assign (.Name y py) X.env] [Value.ref h'.objs.size, w]) _ _ _
  simp only [assignInOrder]
  refine wpAny_bind (wpAny_holding (wpAny_mono (gx.run pins _ σ _ (.ref h'.objs.size) _ (fun σ1 H1 => σ1 = σ.set i (some (.ref h'.objs.size)) ∧ H1 = upd H h'.objs.size (.lst xs)) I3 rfl ⟨rfl, rfl⟩) ?_ fun _ _ x => x))
  rintro _ s1 ⟨σ1, H1, I4, rfl, rfl⟩
  refine wpAny_bind (wpAny_mono (gy.run pins _ _ _ z w (fun σ1 H1 => σ1 = (σ.set i (some (.ref h'.objs.size))).set j (some z) ∧ H1 = upd H h'.objs.size (.lst xs)) I4 rw_ ⟨rfl, rfl⟩) ?_ fun _ _ x => x)
  rintro _ s2 ⟨σ2, H2, I5, rfl, rfl⟩
  exact wpAny_pure ⟨_, _, I5, q _ fr⟩
end Dd
end
section
set_option Elab.async false
set_option linter.all false
set_option maxRecDepth 100000
namespace Dd
open PySem PySem.Spec PyProof.Rows L2

/-- a value: tuples by what they hold, lists and dicts by their place in the store -/
inductive Dv where
  | non | bl (b : Bool) | int (i : Int) | str (s : Str) | tup (xs : List Dv) | loc (n : Nat) | num (n m : Int)
/-- what stands at a place of the store -/
inductive Ce where
  | lst (xs : List Dv) | ro (xs : List Dv) | dct (kvs : List (List Key × Dv))
abbrev Sto := List Ce

/-- the pairs of whole numbers that the module's own names hold -/
abbrev Cst := List (Addr × Int × Int)
mutual
def Rep (G : Cst) (μ : List Addr) (H : Hp) : Dv → V → Prop
  | .num n m, v => ∃ a, v = .ref a ∧ (H a = some (.tup [.int n, .int m]) ∨ (a, n, m) ∈ G)
  | .non, v => v = .non
  | .bl b, v => v = .bl b
  | .int i, v => v = .int i
  | .str s, v => v = .str s
  | .loc n, v => ∃ a, μ[n]? = some a ∧ v = .ref a
  | .tup ds, v => ∃ a vs, v = .ref a ∧ H a = some (.tup vs) ∧ RepL G μ H ds vs
def RepL (G : Cst) (μ : List Addr) (H : Hp) : List Dv → List V → Prop
  | [], vs => vs = []
  | d :: ds, vs => ∃ v r, vs = v :: r ∧ Rep G μ H d v ∧ RepL G μ H ds r
end
def RepK (G : Cst) (μ : List Addr) (H : Hp) : List (List Key × Dv) → List (List Key × V) → Prop
  | [], vs => vs = []
  | (k, d) :: ds, vs => ∃ v r, vs = (k, v) :: r ∧ Rep G μ H d v ∧ RepK G μ H ds r

section
variable {G : Cst} {μ μ' : List Addr} {H H' : Hp}
theorem repL_len : ∀ {ds : List Dv} {vs : List V}, RepL G μ H ds vs → vs.length = ds.length
  | [], vs, h => by unfold RepL at h; subst h; rfl
  | d :: ds, vs, h => by
    unfold RepL at h
    obtain ⟨v, r, rfl, _, h⟩ := h
    simp [repL_len h]
theorem repL_get : ∀ {ds : List Dv} {vs : List V} {i : Nat} {d : Dv}, RepL G μ H ds vs → ds[i]? = some d → ∃ v, vs[i]? = some v ∧ Rep G μ H d v
  | [], _, _, _, _, e => by simp at e
  | d :: ds, vs, 0, x, h, e => by
    unfold RepL at h
    obtain ⟨v, r, rfl, h1, _⟩ := h
    simp at e; subst e
    exact ⟨v, rfl, h1⟩
  | d :: ds, vs, i + 1, x, h, e => by
    unfold RepL at h
    obtain ⟨v, r, rfl, _, h⟩ := h
    obtain ⟨w, a, b⟩ := repL_get (i := i) h (by simpa using e)
    exact ⟨w, by simpa using a, b⟩
theorem repL_nil : RepL G μ H [] [] := by unfold RepL; rfl
theorem repL_cons {d : Dv} {ds : List Dv} {v : V} {vs : List V} (h : Rep G μ H d v) (t : RepL G μ H ds vs) : RepL G μ H (d :: ds) (v :: vs) := by
  unfold RepL; exact ⟨v, vs, rfl, h, t⟩
theorem repL_app : ∀ {ds es : List Dv} {vs ws : List V}, RepL G μ H ds vs → RepL G μ H es ws → RepL G μ H (ds ++ es) (vs ++ ws)
  | [], _, vs, ws, h, g => by unfold RepL at h; subst h; exact g
  | d :: ds, es, vs, ws, h, g => by
    unfold RepL at h
    obtain ⟨v, r, rfl, h1, h⟩ := h
    exact repL_cons h1 (repL_app h g)
theorem repL_drop : ∀ {ds : List Dv} {vs : List V} (n : Nat), RepL G μ H ds vs → RepL G μ H (ds.drop n) (vs.drop n)
  | _, _, 0, h => h
  | [], vs, n + 1, h => by unfold RepL at h; subst h; exact repL_nil
  | d :: ds, vs, n + 1, h => by
    unfold RepL at h
    obtain ⟨v, r, rfl, h1, h⟩ := h
    exact repL_drop n h
theorem repL_take : ∀ {ds : List Dv} {vs : List V} (n : Nat), RepL G μ H ds vs → RepL G μ H (ds.take n) (vs.take n)
  | _, _, 0, h => repL_nil
  | [], vs, n + 1, h => by unfold RepL at h; subst h; exact repL_nil
  | d :: ds, vs, n + 1, h => by
    unfold RepL at h
    obtain ⟨v, r, rfl, h1, h⟩ := h
    exact repL_cons h1 (repL_take n h)
theorem repL_set : ∀ {ds : List Dv} {vs : List V} {d : Dv} {v : V} (n : Nat), RepL G μ H ds vs → Rep G μ H d v → RepL G μ H (ds.set n d) (vs.set n v)
  | [], vs, _, _, n, h, _ => by unfold RepL at h; subst h; exact repL_nil
  | x :: ds, vs, d, v, 0, h, g => by
    unfold RepL at h
    obtain ⟨w, r, rfl, h1, h⟩ := h
    exact repL_cons g h
  | x :: ds, vs, d, v, n + 1, h, g => by
    unfold RepL at h
    obtain ⟨w, r, rfl, h1, h⟩ := h
    exact repL_cons h1 (repL_set n h g)
theorem repL_rev : ∀ {ds : List Dv} {vs : List V}, RepL G μ H ds vs → RepL G μ H ds.reverse vs.reverse
  | [], vs, h => by unfold RepL at h; subst h; exact repL_nil
  | d :: ds, vs, h => by
    unfold RepL at h
    obtain ⟨v, r, rfl, h1, h⟩ := h
    rw [List.reverse_cons, List.reverse_cons]
    exact repL_app (repL_rev h) (repL_cons h1 repL_nil)
theorem rep_int {i : Int} {v : V} : Rep G μ H (.int i) v ↔ v = .int i := by unfold Rep; rfl
theorem rep_bl {i : Bool} {v : V} : Rep G μ H (.bl i) v ↔ v = .bl i := by unfold Rep; rfl
theorem rep_str {i : Str} {v : V} : Rep G μ H (.str i) v ↔ v = .str i := by unfold Rep; rfl
theorem rep_non {v : V} : Rep G μ H .non v ↔ v = .non := by unfold Rep; rfl
theorem rep_tup {ds : List Dv} {v : V} : Rep G μ H (.tup ds) v ↔ ∃ a vs, v = .ref a ∧ H a = some (.tup vs) ∧ RepL G μ H ds vs := by unfold Rep; rfl
theorem rep_num {n m : Int} {v : V} : Rep G μ H (.num n m) v ↔ ∃ a, v = .ref a ∧ (H a = some (.tup [.int n, .int m]) ∨ (a, n, m) ∈ G) := by unfold Rep; rfl
theorem rep_loc {n : Nat} {v : V} : Rep G μ H (.loc n) v ↔ ∃ a, μ[n]? = some a ∧ v = .ref a := by unfold Rep; rfl
end

/-- from one state to the next: places are only added, what has no place stands, what gets a place was free -/
structure Nxt (μ : List Addr) (H : Hp) (μ' : List Addr) (H' : Hp) : Prop where
  pre : ∃ t, μ' = μ ++ t
  keep : ∀ b o, H b = some o → b ∉ μ → H' b = some o
  new : ∀ b, b ∈ μ' → b ∉ μ → H b = none
theorem Nxt.refl {μ H} : Nxt μ H μ H := ⟨⟨[], by simp⟩, fun _ _ h _ => h, fun _ h n => absurd h n⟩
theorem Nxt.trans {μ H μ1 H1 μ2 H2} (a : Nxt μ H μ1 H1) (b : Nxt μ1 H1 μ2 H2) : Nxt μ H μ2 H2 := by
  obtain ⟨t, rfl⟩ := a.pre
  obtain ⟨t', rfl⟩ := b.pre
  refine ⟨⟨t ++ t', by simp⟩, fun c o h n => ?_, fun c h n => ?_⟩
  · have n1 : c ∉ μ ++ t := fun z => by
      have := a.new c z n
      rw [h] at this; cases this
    exact b.keep c o (a.keep c o h n) n1
  · by_cases z : c ∈ μ ++ t
    · exact a.new c z n
    · cases q : H c with
      | none => rfl
      | some o =>
        have := b.new c h z
        rw [a.keep c o q n] at this; cases this
theorem Nxt.get {μ H μ' H'} (x : Nxt μ H μ' H') {n : Nat} {a : Addr} (h : μ[n]? = some a) : μ'[n]? = some a := by
  obtain ⟨t, rfl⟩ := x.pre
  exact List.getElem?_append_left (List.getElem?_eq_some_iff.mp h).1 ▸ h
/-- tuples have no place -/
def TupFree (μ : List Addr) (H : Hp) : Prop := ∀ a vs, H a = some (.tup vs) → a ∉ μ
mutual
theorem rep_nxt {G : Cst} {μ H μ' H'} (x : Nxt μ H μ' H') (f : TupFree μ H) : ∀ (d : Dv) (v : V), Rep G μ H d v → Rep G μ' H' d v
  | .non, v, h => by unfold Rep at h ⊢; exact h
  | .bl b, v, h => by unfold Rep at h ⊢; exact h
  | .int i, v, h => by unfold Rep at h ⊢; exact h
  | .str s, v, h => by unfold Rep at h ⊢; exact h
  | .num n m, v, h => by
    unfold Rep at h ⊢
    obtain ⟨a, e, h⟩ := h
    exact ⟨a, e, h.imp (fun h => x.keep a _ h (f a _ h)) id⟩
  | .loc n, v, h => by
    unfold Rep at h ⊢
    obtain ⟨a, h, e⟩ := h
    exact ⟨a, x.get h, e⟩
  | .tup ds, v, h => by
    unfold Rep at h ⊢
    obtain ⟨a, vs, e, h1, h2⟩ := h
    exact ⟨a, vs, e, x.keep a _ h1 (f a vs h1), repL_nxt x f ds vs h2⟩
theorem repL_nxt {G : Cst} {μ H μ' H'} (x : Nxt μ H μ' H') (f : TupFree μ H) : ∀ (ds : List Dv) (vs : List V), RepL G μ H ds vs → RepL G μ' H' ds vs
  | [], vs, h => by unfold RepL at h ⊢; exact h
  | d :: ds, vs, h => by
    unfold RepL at h ⊢
    obtain ⟨v, r, e, h1, h2⟩ := h
    exact ⟨v, r, e, rep_nxt x f d v h1, repL_nxt x f ds r h2⟩
end
theorem repK_nxt {G : Cst} {μ H μ' H'} (x : Nxt μ H μ' H') (f : TupFree μ H) : ∀ (ds : List (List Key × Dv)) (vs : List (List Key × V)), RepK G μ H ds vs → RepK G μ' H' ds vs
  | [], vs, h => by unfold RepK at h ⊢; exact h
  | (k, d) :: ds, vs, h => by
    unfold RepK at h ⊢
    obtain ⟨v, r, e, h1, h2⟩ := h
    exact ⟨v, r, e, rep_nxt x f d v h1, repK_nxt x f ds r h2⟩

def CeR (G : Cst) (μ : List Addr) (H : Hp) (a : Addr) : Ce → Prop
  | .lst xs => ∃ vs, H a = some (.lst vs) ∧ RepL G μ H xs vs
  | .ro xs => ∃ o vs, H a = some (.frz o (.lst vs)) ∧ RepL G μ H xs vs
  | .dct kvs => ∃ ws, H a = some (.dT ws) ∧ RepK G μ H kvs ws
theorem CeR.nt {G μ H a c} (h : CeR G μ H a c) : ∀ vs, H a ≠ some (.tup vs) := fun vs e => by
  cases c with
  | lst xs => obtain ⟨_, h, _⟩ := h; rw [h] at e; cases e
  | ro xs => obtain ⟨_, _, h, _⟩ := h; rw [h] at e; cases e
  | dct xs => obtain ⟨_, h, _⟩ := h; rw [h] at e; cases e
theorem CeR.there {G μ H a c} (h : CeR G μ H a c) : H a ≠ none := fun e => by
  cases c with
  | lst xs => obtain ⟨_, h, _⟩ := h; rw [h] at e; cases e
  | ro xs => obtain ⟨_, _, h, _⟩ := h; rw [h] at e; cases e
  | dct xs => obtain ⟨_, h, _⟩ := h; rw [h] at e; cases e
theorem CeR.nxt {G μ H μ' H' a c} (x : Nxt μ H μ' H') (f : TupFree μ H) (e : H' a = H a) (h : CeR G μ H a c) : CeR G μ' H' a c := by
  cases c with
  | lst xs => obtain ⟨vs, h, r⟩ := h; exact ⟨vs, e.trans h, repL_nxt x f _ _ r⟩
  | ro xs => obtain ⟨o, vs, h, r⟩ := h; exact ⟨o, vs, e.trans h, repL_nxt x f _ _ r⟩
  | dct xs => obtain ⟨vs, h, r⟩ := h; exact ⟨vs, e.trans h, repK_nxt x f _ _ r⟩

/-- the state: every place's thing stands at its address -/
structure Wld (G : Cst) (μ : List Addr) (H : Hp) (sto : Sto) : Prop where
  len : μ.length = sto.length
  nd : μ.Nodup
  cell : ∀ (n : Nat) (a : Addr) (c : Ce), μ[n]? = some a → sto[n]? = some c → CeR G μ H a c
variable {G : Cst}
section
variable {μ μ' : List Addr} {H H' : Hp} {sto : Sto}
theorem Wld.at (w : Wld G μ H sto) {n : Nat} {c : Ce} (h : sto[n]? = some c) : ∃ a, μ[n]? = some a ∧ CeR G μ H a c := by
  have hn : n < μ.length := by rw [w.len]; exact (List.getElem?_eq_some_iff.mp h).1
  exact ⟨μ[n], List.getElem?_eq_getElem hn, w.cell n _ c (List.getElem?_eq_getElem hn) h⟩
theorem Wld.mem (w : Wld G μ H sto) {a : Addr} (h : a ∈ μ) : ∃ (n : Nat) (c : Ce), μ[n]? = some a ∧ sto[n]? = some c ∧ CeR G μ H a c := by
  obtain ⟨n, hn, e⟩ := List.getElem_of_mem h
  have hs : n < sto.length := by rw [← w.len]; exact hn
  exact ⟨n, sto[n], by rw [List.getElem?_eq_getElem hn, e], List.getElem?_eq_getElem hs, w.cell n a _ (by rw [List.getElem?_eq_getElem hn, e]) (List.getElem?_eq_getElem hs)⟩
theorem Wld.tf (w : Wld G μ H sto) : TupFree μ H := fun a vs e h => by
  obtain ⟨n, c, _, _, q⟩ := w.mem h
  exact q.nt vs e
theorem Wld.fresh (w : Wld G μ H sto) {p : Addr} (h : H p = none) : p ∉ μ := fun z => by
  obtain ⟨n, c, _, _, q⟩ := w.mem z
  exact q.there h
theorem Wld.mono (w : Wld G μ H sto) (x : Nxt μ H μ' H') {d : Dv} {v : V} (h : Rep G μ H d v) : Rep G μ' H' d v := rep_nxt x w.tf d v h
theorem Wld.monoL (w : Wld G μ H sto) (x : Nxt μ H μ' H') {d : List Dv} {v : List V} (h : RepL G μ H d v) : RepL G μ' H' d v := repL_nxt x w.tf d v h
theorem Wld.inj (w : Wld G μ H sto) {n m : Nat} {a : Addr} (h : μ[n]? = some a) (h' : μ[m]? = some a) : n = m := by
  obtain ⟨h1, e1⟩ := List.getElem?_eq_some_iff.mp h
  obtain ⟨h2, e2⟩ := List.getElem?_eq_some_iff.mp h'
  exact (List.getElem_inj w.nd).mp (e1.trans e2.symm)

/-- a new object without a place (a tuple) -/
theorem nxt_tup (w : Wld G μ H sto) {p : Addr} {o : HO} (h : H p = none) : Nxt μ H μ (upd H p o) :=
  ⟨⟨[], by simp⟩, fun b u e _ => by rw [upd_ne (ne_of_none e h)]; exact e, fun b z n => absurd z n⟩
theorem wld_tup (w : Wld G μ H sto) {p : Addr} {o : HO} (h : H p = none) : Wld G μ (upd H p o) sto :=
  ⟨w.len, w.nd, fun n a c h1 h2 => (w.cell n a c h1 h2).nxt (nxt_tup w h) w.tf (by
    have := (w.cell n a c h1 h2).there
    rw [upd_ne (show a ≠ p from fun e => this (e ▸ h))])⟩
/-- a new object with a place -/
theorem nxt_new (w : Wld G μ H sto) {p : Addr} {o : HO} (h : H p = none) : Nxt μ H (μ ++ [p]) (upd H p o) :=
  ⟨⟨[p], rfl⟩, fun b u e _ => by rw [upd_ne (ne_of_none e h)]; exact e, fun b z n => by
    rcases List.mem_append.mp z with z | z
    · exact absurd z n
    · rw [List.mem_singleton.mp z]; exact h⟩
theorem wld_new (w : Wld G μ H sto) {p : Addr} {o : HO} {c : Ce} (h : H p = none) (hc : CeR G (μ ++ [p]) (upd H p o) p c) : Wld G (μ ++ [p]) (upd H p o) (sto ++ [c]) := by
  refine ⟨by simp [w.len], ?_, fun n a d h1 h2 => ?_⟩
  · rw [List.nodup_append]
    refine ⟨w.nd, by simp, fun a ha b hb e => ?_⟩
    rw [List.mem_singleton.mp hb] at e
    exact w.fresh h (e ▸ ha)
  · by_cases hn : n < μ.length
    · rw [List.getElem?_append_left hn] at h1
      rw [List.getElem?_append_left (by rw [← w.len]; exact hn)] at h2
      have t := (w.cell n a d h1 h2).there
      exact (w.cell n a d h1 h2).nxt (nxt_new w h) w.tf (by rw [upd_ne (show a ≠ p from fun e => t (e ▸ h))])
    · have hl : n = μ.length := by
        have := (List.getElem?_eq_some_iff.mp h1).1
        simp at this; omega
      subst hl
      rw [List.getElem?_append_right (Nat.le_refl _)] at h1
      rw [w.len, List.getElem?_append_right (Nat.le_refl _)] at h2
      simp at h1 h2
      subst h1; subst h2
      exact hc
/-- a write at a place -/
theorem nxt_wr (w : Wld G μ H sto) {p : Addr} {o : HO} (h : p ∈ μ) : Nxt μ H μ (upd H p o) :=
  ⟨⟨[], by simp⟩, fun b u e n => by rw [upd_ne (show b ≠ p from fun z => n (z ▸ h))]; exact e, fun b z n => absurd z n⟩
theorem wld_wr (w : Wld G μ H sto) {p : Addr} {o : HO} {c : Ce} {n : Nat} (h : μ[n]? = some p) (hc : CeR G μ (upd H p o) p c) : Wld G μ (upd H p o) (sto.set n c) := by
  have hp : p ∈ μ := List.mem_of_getElem? h
  refine ⟨by simp [w.len], w.nd, fun m a d h1 h2 => ?_⟩
  by_cases e : m = n
  · subst e
    rw [h] at h1; cases h1
    have hl : m < sto.length := by rw [← w.len]; exact (List.getElem?_eq_some_iff.mp h).1
    rw [List.getElem?_set_self hl] at h2
    cases h2
    exact hc
  · rw [List.getElem?_set_ne (Ne.symm e)] at h2
    exact (w.cell m a d h1 h2).nxt (nxt_wr w hp) w.tf (by rw [upd_ne (show a ≠ p from fun z => e (w.inj h1 (z ▸ h)))])
end

/-! ### the monad -/
inductive Res (α : Type) where
  | ok (a : α) (s : Sto) | exc (c : Nat) (d : Dv) (s : Sto) | bad
def M (α : Type) := Sto → Res α
def M.bind {α β : Type} (f : M α) (g : α → M β) : M β := fun s => match f s with
  | .ok a s' => g a s'
  | .exc c d s' => .exc c d s'
  | .bad => .bad
def M.pure {α : Type} (a : α) : M α := fun s => .ok a s
def fail {α : Type} : M α := fun _ => .bad
instance : Monad M where
  pure := M.pure
  bind := M.bind
theorem bind_def {α β : Type} (f : M α) (g : α → M β) (s : Sto) : (f >>= g) s = match f s with
  | .ok a s' => g a s'
  | .exc c d s' => .exc c d s'
  | .bad => .bad := rfl
theorem pure_def {α : Type} (a : α) (s : Sto) : (pure a : M α) s = .ok a s := rfl
theorem bind_ok {α β : Type} {f : M α} {g : α → M β} {s s2 : Sto} {b : β} (h : (f >>= g) s = .ok b s2) : ∃ a s1, f s = .ok a s1 ∧ g a s1 = .ok b s2 := by
  rw [bind_def] at h
  cases q : f s with
  | ok a s1 => rw [q] at h; exact ⟨a, s1, rfl, h⟩
  | exc c d s1 => rw [q] at h; cases h
  | bad => rw [q] at h; cases h
theorem bind_ok_of {α β : Type} {f : M α} {g : α → M β} {s s1 : Sto} {a : α} (h : f s = .ok a s1) : (f >>= g) s = g a s1 := by rw [bind_def, h]

abbrev DEnv := List (Option Dv)
def EnvR (G : Cst) (μ : List Addr) (H : Hp) (env : DEnv) (σ : L2.St) : Prop := env.length = σ.length ∧ ∀ (i : Nat) (d : Dv), env[i]? = some (some d) → ∃ v, σ[i]? = some (some v) ∧ Rep G μ H d v
section
variable {μ μ' : List Addr} {H H' : Hp} {sto : Sto} {env : DEnv} {σ : L2.St}
theorem EnvR.nxt (w : Wld G μ H sto) (x : Nxt μ H μ' H') (h : EnvR G μ H env σ) : EnvR G μ' H' env σ :=
  ⟨h.1, fun i d e => let ⟨v, a, b⟩ := h.2 i d e; ⟨v, a, w.mono x b⟩⟩
theorem EnvR.set (h : EnvR G μ H env σ) {d : Dv} {v : V} (r : Rep G μ H d v) (i : Nat) : EnvR G μ H (env.set i (some d)) (σ.set i (some v)) := by
  refine ⟨by simp [h.1], fun j e q => ?_⟩
  by_cases hj : i = j
  · subst hj
    have hl : i < env.length := by
      have := (List.getElem?_eq_some_iff.mp q).1
      simpa using this
    rw [List.getElem?_set_self hl] at q
    cases q
    exact ⟨v, List.getElem?_set_self (by rw [← h.1]; exact hl), r⟩
  · rw [List.getElem?_set_ne hj] at q
    rw [List.getElem?_set_ne hj]
    exact h.2 j e q
end

inductive Fl where
  | nx (e : DEnv) | rt (d : Dv) | bk (e : DEnv) | ct (e : DEnv)
def FlOk (G : Cst) (μ : List Addr) (H : Hp) (D : Ends) : Fl → Prop
  | .nx e => ∀ σ, EnvR G μ H e σ → D.nx σ H
  | .rt d => ∀ v, Rep G μ H d v → D.rt v H
  | .bk e => ∀ σ, EnvR G μ H e σ → D.bk σ H
  | .ct e => ∀ σ, EnvR G μ H e σ → D.ct σ H
theorem pe_imp {X : Cx} {e : Expr} {t t' : TE} (h : PE X e t) (i : ∀ σ H Q, t' σ H Q → t σ H Q) : PE X e t' := ⟨fun p s σ H Q I q => h.run p s σ H Q I (i σ H Q q)⟩
theorem pt_imp {X : Cx} {e : Expr} {t t' : TT} (h : PT X e t) (i : ∀ σ H Q, t' σ H Q → t σ H Q) : PT X e t' := ⟨fun p s σ H Q I q => h.run p s σ H Q I (i σ H Q q)⟩
theorem pw_imp {X : Cx} {e : Expr} {t t' : TT} (h : PW X e t) (i : ∀ σ H Q, t' σ H Q → t σ H Q) : PW X e t' := ⟨fun w p s σ H Q I q => h.run w p s σ H Q I (i σ H Q q)⟩
theorem pa_imp {X : Cx} {e : List Expr} {t t' : TA} (h : PA X e t) (i : ∀ σ H Q, t' σ H Q → t σ H Q) : PA X e t' := ⟨fun po p s σ H Q I q => h.run po p s σ H Q I (i σ H Q q)⟩
theorem ps_imp {X : Cx} {e : Stmt} {t t' : TS} (h : PS X e t) (i : ∀ D σ H, t' D σ H → t D σ H) : PS X e t' := ⟨fun p s σ H Q I q => h.run p s σ H Q I (i Q σ H q)⟩
theorem pss_imp {X : Cx} {e : List Stmt} {t t' : TS} (h : PSs X e t) (i : ∀ D σ H, t' D σ H → t D σ H) : PSs X e t' := ⟨fun p s σ H Q I q => h.run p s σ H Q I (i Q σ H q)⟩
end Dd
end
section
set_option Elab.async false
set_option linter.all false
set_option maxRecDepth 100000
namespace Dd
open PySem PySem.Spec PyProof.Rows L2

inductive Bo where | add | sub | mul | fdiv | mod | pow | band
inductive Co where | eq | ne | lt | le | gt | ge | is | isnot | isin | notin
inductive Bl where | len | abs | max2 | min2 | int1 | sum1 | tuple1 | list1 | divmod | repr1 | gcd | all1 | any1 | lcm | sorted1 | minl1
inductive Ty where | int_ | bool_ | str_ | tuple_ | list_ | none_ deriving DecidableEq
inductive Tg where | nm (i : Nat) | tp (is : List Nat) | tq (i : Nat) (js : List Nat)
mutual
inductive E where
  | var (i : Nat) | int (i : Int) | bl (b : Bool) | non | str (s : Str) | glb (x : Str)
  | tup (es : Es) | lst (es : Es) | num (a b : E)
  | bin (o : Bo) (a b : E) | neg (a : E) | cmp (o : Co) (a b : E) | chain (o1 o2 : Co) (a b c : E)
  | band (a b : E) | bor (a b : E) | bnot (a : E) | ite (t a b : E)
  | idx (a i : E) | sl (a : E) (lo hi : Oe)
  | call (f : Nat) (es : Es) | callk (f : Nat) (es ks : Es) (npos nks : Nat) (perm : List Nat)
  | blt (b : Bl) (es : Es)
  | comp (elt : E) (tg : Tg) (it : It) (cnd : Oe) (own : List Nat)
  | comp2 (elt : E) (tg : Tg) (it : It) (cnd : Oe) (tg1 : Tg) (it1 : It) (cnd1 : Oe) (own own1 : List Nat)
  | isty (pos : Bool) (t : Ty) (a : E) | rev (a : E) | isa (t : Ty) (a : E) | pop (a : E)
inductive Es where | nil | cons (e : E) (es : Es)
inductive Oe where | none | some (e : E)
inductive It where | seq (e : E) | rng1 (a : E) | rng2 (a b : E) | zip (a b : E) | enum (a : E) | rev (a : E) | zips (a : E)
end
mutual
inductive S where
  | asg (tg : Tg) (e : E) | asgC (i : Nat) (e : E) | sub (o i v : E) | par (i j : Nat) (a b : E) | aug (i : Nat) (o : Bo) (e : E)
  | asg2 (o i : E) (j : Nat) (e : E) | par3 (i j k : Nat) (a b c : E)
  | app (o e : E) | ex (e : E) | ret (e : E) | retN
  | ite (c : E) (a b : Ss) | whl (c : E) (b : Ss) | for_ (tg : Tg) (it : It) (b : Ss) | forU (is : List Nat) (it : It) (b : Ss) | starA (i j : Nat) (e : E) | asgU (is : List Nat) (e : E)
  | brk | cont | pass | never
inductive Ss where | nil | cons (s : S) (r : Ss)
end

/-! ### values -/
def small (n : Nat) : Bool := decide (n ≤ 1000000)
theorem small_ok {n : Nat} (h : small n = true) : n ≤ sizeLine := Nat.le_trans (of_decide_eq_true h) (by rw [sizeLine_eq]; decide)
theorem small_lt {n : Nat} (h : small n = true) : n < sizeLine := Nat.lt_of_le_of_lt (of_decide_eq_true h) (by rw [sizeLine_eq]; decide)

/-- data without places -/
def pyv : Dv → Option PyData
  | .non => some .none
  | .bl b => some (.bool b)
  | .int i => some (.int i)
  | .str s => some (.str s)
  | .loc _ => none
  | .num n m => some (.tuple [.int n, .int m])
  | .tup xs => (pyvs xs).map .tuple
where
  pyvs : List Dv → Option (List PyData)
  | [] => some []
  | d :: ds => match pyv d, pyvs ds with
    | some x, some xs => some (x :: xs)
    | _, _ => none
/-- data with lists, to a depth -/
def pyl (s : Sto) : Nat → Dv → Option PyData
  | _, .non => some .none
  | _, .bl b => some (.bool b)
  | _, .int i => some (.int i)
  | _, .str s => some (.str s)
  | _, .num n m => some (.tuple [.int n, .int m])
  | 0, _ => none
  | k + 1, .tup xs => (xs.mapM (pyl s k)).map .tuple
  | k + 1, .loc n => match s[n]? with
    | some (.lst xs) => (xs.mapM (pyl s k)).map .list
    | _ => none

def newC (c : Ce) : M Dv := fun s => .ok (.loc s.length) (s ++ [c])
def getC (n : Nat) : M Ce := fun s => match s[n]? with | some c => .ok c s | none => .bad
def setC (n : Nat) (c : Ce) : M Unit := fun s => if n < s.length then .ok () (s.set n c) else .bad
def newL (xs : List Dv) : M Dv := if small xs.length then newC (.lst xs) else fail
def mkT (xs : List Dv) : M Dv := if small xs.length then pure (.tup xs) else fail
/-- the items of a list (a place) -/
def lstOf (n : Nat) : M (List Dv) := do
  match ← getC n with
  | .lst xs => pure xs
  | .ro xs => pure xs
  | _ => fail
def rdSeq : Dv → M (List Dv)
  | .tup xs => pure xs
  | .num n m => pure [.int n, .int m]
  | .loc n => lstOf n
  | _ => fail
def intsD : List Dv → Option (List Int)
  | [] => some []
  | .int i :: r => (intsD r).map (i :: ·)
  | _ => none
def blsD : List Dv → Option (List Bool)
  | [] => some []
  | .bl i :: r => (blsD r).map (i :: ·)
  | _ => none

/-! ### operators -/
def mulOk (i j : Int) : Bool := decide (i.natAbs.log2 + j.natAbs.log2 < 1000000)
def opB : Bo → Dv → Dv → M Dv
  | .add, .int i, .int j => pure (.int (i + j))
  | .add, .tup xs, .tup ys => mkT (xs ++ ys)
  | .add, .str x, .str y => if small (x.length + y.length) then pure (.str (x ++ y)) else fail
  | .add, .loc n, .loc m => do
    match ← getC n, ← getC m with
    | .lst xs, .lst ys => newL (xs ++ ys)
    | _, _ => fail
  | .sub, .int i, .int j => pure (.int (i - j))
  | .mul, .int i, .int j => if mulOk i j then pure (.int (i * j)) else fail
  | .mul, .tup xs, .int k => if xs.isEmpty = true ∨ k = 1 then (if 0 ≤ k ∧ k ≤ 1000 then pure (.tup xs) else fail) else if 2 ≤ k ∧ k ≤ 1000 ∧ xs.length ≤ 1000 then mkT ((List.replicate k.toNat xs).flatten) else fail
  | .mul, .loc n, .int k => do
    match ← getC n with
    | .lst xs => if 0 ≤ k ∧ k ≤ 1000 ∧ xs.length ≤ 1000 then newL ((List.replicate k.toNat xs).flatten) else fail
    | _ => fail
  | .fdiv, .int i, .int j => if 0 < j ∧ j.natAbs.log2 < 9000 then pure (.int (i / j)) else fail
  | .mod, .int i, .int j => if 0 < j then pure (.int (i % j)) else fail
  | .band, .int i, .int j => if 0 ≤ i ∧ j = 1 then pure (.int (i % 2)) else fail
  | .pow, .int i, .int j => if 0 ≤ j ∧ j ≤ 1000 ∧ i.natAbs < 2 ^ 64 then pure (.int (i ^ j.toNat)) else fail
  | _, _, _ => fail
def lexD : List Int → List Int → Bool := HT.lexLt
def eqD1 (a b : Dv) : M Bool := match pyv a, pyv b with
  | some x, some y => if SeqAt.shaped x && SeqAt.shaped y then pure (PyData.eqv x y) else fail
  | _, _ => fun s => match pyl s 12 a, pyl s 12 b with
    | some x, some y => if SeqAt.shaped x && SeqAt.shaped y then .ok (PyData.eqv x y) s else .bad
    | _, _ => .bad
def eqD : Dv → Dv → M Bool
  | .str x, .str y => pure (decide (x = y))
  | a, b => eqD1 a b
/-- a flat value -/
def toV : Dv → Option V
  | .non => some .non
  | .bl b => some (.bl b)
  | .int i => some (.int i)
  | .str s => some (.str s)
  | _ => none
def toVs : List Dv → Option (List V)
  | [] => some []
  | d :: ds => match toV d, toVs ds with
    | some v, some vs => some (v :: vs)
    | _, _ => none
def inD (x : Dv) (xs : List Dv) : M Bool := match toV x, toVs xs with
  | some a, some as => pure (inV a as)
  | _, _ => fail
def nonD : Dv → Bool
  | .non => true
  | _ => false
def opC : Co → Dv → Dv → M Bool
  | .eq, a, b => eqD a b
  | .ne, a, b => do pure (!(← eqD a b))
  | .lt, .int i, .int j => pure (decide (i < j))
  | .le, .int i, .int j => pure (decide (i ≤ j))
  | .gt, .int i, .int j => pure (decide (j < i))
  | .ge, .int i, .int j => pure (decide (j ≤ i))
  | .lt, .tup xs, .tup ys => match intsD xs, intsD ys with
    | some is, some js => pure (HT.lexLt is js)
    | _, _ => fail
  | .is, .bl a, .bl b => pure (decide (a = b))
  | .isnot, .bl a, .bl b => pure (!decide (a = b))
  | .is, a, .non => pure (nonD a)
  | .isnot, a, .non => pure (!nonD a)
  | .isin, x, d => do
    let xs ← rdSeq d
    inD x xs
  | .notin, x, d => do
    let xs ← rdSeq d
    pure (!(← inD x xs))
  | _, _, _ => fail
def ixD {α : Type} (xs : List α) (i : Int) : Option α := atI xs i
def idxD : Dv → Dv → M Dv
  | d, .int i => do
    match atI (← rdSeq d) i with
    | some v => pure v
    | none => fail
  | _, _ => fail
def cutD {α : Type} (xs : List α) (lo hi : Option Int) : List α := (xs.drop (HT.sIx xs.length 0 lo)).take (HT.sIx xs.length xs.length hi - HT.sIx xs.length 0 lo)
def slD : Dv → Option Int → Option Int → M Dv
  | .tup xs, lo, hi => mkT (cutD xs lo hi)
  | .loc n, lo, hi => do
    let xs ← lstOf n
    newL (cutD xs lo hi)
  | _, _, _ => fail
def truth : Dv → M Bool
  | .non => pure false
  | .bl b => pure b
  | .int i => pure (i != 0)
  | .tup xs => pure (!xs.isEmpty)
  | .num _ _ => pure true
  | .loc n => do
    let xs ← lstOf n
    pure (!xs.isEmpty)
  | _ => fail
def tupsD : List Dv → Option (List (List Int))
  | [] => some []
  | .tup xs :: r => match intsD xs, tupsD r with
    | some is, some l => some (is :: l)
    | _, _ => none
  | _ => none
def insL (a : List Int) : List (List Int) → List (List Int)
  | [] => [a]
  | b :: l => if HT.lexLt b a then b :: insL a l else a :: b :: l
def isort (l : List (List Int)) : List (List Int) := l.foldr insL []
def minL (a : List Int) (l : List (List Int)) : List Int := l.foldl (fun m y => if HT.lexLt y m then y else m) a
def intsT (is : List Int) : Dv := .tup (is.map .int)
def bltD : Bl → List Dv → M Dv
  | .len, [d] => do
    let xs ← rdSeq d
    pure (.int xs.length)
  | .abs, [.int i] => pure (.int (if i < 0 then -i else i))
  | .max2, [.int i, .int j] => pure (.int (if j > i then j else i))
  | .min2, [.int i, .int j] => pure (.int (if j < i then j else i))
  | .int1, [.int i] => pure (.int i)
  | .int1, [.bl b] => pure (.int (if b then 1 else 0))
  | .sum1, [.loc n] => do
    match intsD (← lstOf n) with
    | some is => pure (.int is.sum)
    | none => fail
  | .tuple1, [.tup xs] => pure (.tup xs)
  | .tuple1, [.num n m] => pure (.num n m)
  | .tuple1, [.loc n] => do
    let xs ← lstOf n
    mkT xs
  | .list1, [d] => do
    let xs ← rdSeq d
    newL xs
  | .divmod, [.int i, .int j] => if 0 < j ∧ j < 1073741824 then pure (.tup [.int (i / j), .int (i % j)]) else fail
  | .gcd, [.int i, .int j] => pure (.int ((Nat.gcd i.natAbs j.natAbs : Nat) : Int))
  | .all1, [.loc n] => do
    match blsD (← lstOf n) with
    | some bs => pure (.bl (bs.all id))
    | none => fail
  | .any1, [.loc n] => do
    match blsD (← lstOf n) with
    | some bs => pure (.bl (bs.any id))
    | none => fail
  | .lcm, [.int i, .int j] => if i.natAbs.log2 < 13000 ∧ j.natAbs.log2 < 13000 then pure (.int ((Nat.lcm i.natAbs j.natAbs : Nat) : Int)) else fail
  | .sorted1, [.loc n] => do
    match tupsD (← lstOf n) with
    | some l => if l.length < 64 ∧ l.all (fun a => !a.isEmpty) = true then newL ((isort l).map intsT) else fail
    | none => fail
  | .minl1, [.loc n] => do
    match tupsD (← lstOf n) with
    | some (a :: l) => pure (intsT (minL a l))
    | _ => fail
  | .repr1, [d] => fun s => match pyl s 12 d with
    | some x => if x.showable && decide (x.shown.length ≤ 1000000) && decide (x.depth ≤ 30) then .ok (.str x.shown) s else .bad
    | none => .bad
  | _, _ => fail

/-- type(x) -/
def tyD : Dv → M Ty
  | .int _ => pure .int_
  | .bl _ => pure .bool_
  | .str _ => pure .str_
  | .non => pure .none_
  | .tup _ => pure .tuple_
  | .num _ _ => pure .tuple_
  | .loc n => do
    match ← getC n with
    | .lst _ => pure .list_
    | _ => fail
def isD (pos : Bool) (t : Ty) (d : Dv) : M Bool := do
  let u ← tyD d
  pure (decide (u = t) == pos)
/-- isinstance(x, T) -/
def isaD (t : Ty) (d : Dv) : M Bool := do
  let u ← tyD d
  pure (decide (u = t) || (decide (u = .bool_) && decide (t = .int_)))
/-- x.pop() -/
def popD : Dv → M Dv
  | .loc n => do
    match ← getC n with
    | .lst xs => match xs.getLast? with
      | some d => do
        setC n (.lst xs.dropLast)
        pure d
      | none => fail
    | _ => fail
  | _ => fail
/-- x[::-1] -/
def revD : Dv → M Dv
  | .tup xs => mkT xs.reverse
  | .loc n => do
    let xs ← lstOf n
    newL xs.reverse
  | _ => fail

/-! ### what is walked -/
inductive Src where
  | tup (xs : List Dv) | lst (n : Nat) | rng (lo : Int) (n : Nat) | zipL (n m : Nat) | zipT (xs ys : List Dv) | enumL (n : Nat) | revL (n k : Nat) | revT (xs : List Dv) | enumT (xs : List Dv) | zipN (rows : List (List Dv))
/-- the i-th things of all rows -/
def colAt : List (List Dv) → Nat → Option (List Dv)
  | [], _ => some []
  | r :: rs, i => match r[i]?, colAt rs i with
    | some d, some ds => some (d :: ds)
    | _, _ => none
def rowsD : List Dv → Option (List (List Dv))
  | [] => some []
  | .tup xs :: r => (rowsD r).map (xs :: ·)
  | _ => none
def nxt : Src → Nat → Sto → Option (Option Dv)
  | .tup xs, i, _ => some xs[i]?
  | .lst n, i, s => match s[n]? with
    | some (.lst xs) => some xs[i]?
    | some (.ro xs) => some xs[i]?
    | _ => none
  | .rng lo n, i, _ => some (if i < n then some (.int (lo + i)) else none)
  | .zipT xs ys, i, _ => some (match xs[i]?, ys[i]? with
    | some x, some y => some (.tup [x, y])
    | _, _ => none)
  | .zipL n m, i, s => match s[n]?, s[m]? with
    | some (.lst xs), some (.lst ys) => some (match xs[i]?, ys[i]? with
      | some x, some y => some (.tup [x, y])
      | _, _ => none)
    | _, _ => none
  | .enumL n, i, s => match s[n]? with
    | some (.lst xs) => some (xs[i]?.map fun x => .tup [.int i, x])
    | _ => none
  | .revL n k, i, s => match s[n]? with
    | some (.lst xs) => if xs.length = k then some (if i < k then xs[k - 1 - i]? else none) else none
    | _ => none
  | .revT xs, i, _ => some (if i < xs.length then xs[xs.length - 1 - i]? else none)
  | .enumT xs, i, _ => some (xs[i]?.map fun x => .tup [.int i, x])
  | .zipN rows, i, _ => some ((colAt rows i).map .tup)
def turns : Src → Sto → Nat
  | .tup xs, _ => xs.length
  | .lst n, s => match s[n]? with
    | some (.lst xs) => xs.length
    | some (.ro xs) => xs.length
    | _ => 0
  | .rng _ n, _ => n
  | .zipT xs _, _ => xs.length
  | .zipL n _, s => match s[n]? with
    | some (.lst xs) => xs.length
    | _ => 0
  | .enumL n, s => match s[n]? with
    | some (.lst xs) => xs.length
    | _ => 0
  | .revL _ k, _ => k
  | .revT xs, _ => xs.length
  | .enumT xs, _ => xs.length
  | .zipN rows, _ => (rows.headD []).length
def seqSrc : Dv → M Src
  | .tup xs => pure (.tup xs)
  | .loc n => do
    let _ ← lstOf n
    pure (.lst n)
  | _ => fail
def setMany : List Nat → List Dv → DEnv → Option DEnv
  | [], [], env => some env
  | i :: is, d :: ds, env => setMany is ds (env.set i (some d))
  | _, _, _ => none
def bindT : Tg → Dv → DEnv → Option DEnv
  | .nm i, d, env => some (env.set i (some d))
  | .tp is, .tup ds, env => setMany is ds env
  | .tp is, .num n m, env => setMany is [.int n, .int m] env
  | .tq i js, .tup [x, .num n m], env => setMany js [.int n, .int m] (env.set i (some x))
  | .tq i js, .tup [x, .tup ds], env => setMany js ds (env.set i (some x))
  | _, _, _ => none
def lift {α : Type} : Option α → M α
  | some a => pure a
  | none => fail
def wipeD (env : DEnv) : List Nat → DEnv
  | [] => env
  | v :: vs => (wipeD env vs).set v none
def bindL (is : List Nat) (d : Dv) (env : DEnv) : M DEnv := match d with
  | .loc n => getC n >>= fun c => match c with
    | .lst ds => lift (setMany is ds env)
    | _ => fail
  | _ => fail
def turnsM (src : Src) : M Nat := fun s => .ok (turns src s) s
def nxtM (src : Src) (i : Nat) : M (Option Dv) := fun s => match nxt src i s with
  | some o => .ok o s
  | none => .bad
/-- a comprehension's turns: k of them left at most, from the i-th on -/
def compRun (src : Src) (turn : Dv → M (Option Dv)) : Nat → Nat → List Dv → M (List Dv)
  | 0, i, acc => do
    match ← nxtM src i with
    | none => pure acc
    | some _ => fail
  | k + 1, i, acc => do
    match ← nxtM src i with
    | none => pure acc
    | some d =>
      match ← turn d with
      | none => compRun src turn k (i + 1) acc
      | some y => if small acc.length then compRun src turn k (i + 1) (acc ++ [y]) else fail
/-- a comprehension of two clauses: the outer turns -/
def compRun2 (src : Src) (turn : Dv → List Dv → M (List Dv)) : Nat → Nat → List Dv → M (List Dv)
  | 0, i, acc => do
    match ← nxtM src i with
    | none => pure acc
    | some _ => fail
  | k + 1, i, acc => do
    match ← nxtM src i with
    | none => pure acc
    | some d =>
      let acc' ← turn d acc
      compRun2 src turn k (i + 1) acc'
def forRun (src : Src) (turn : Dv → DEnv → M Fl) : Nat → Nat → DEnv → M Fl
  | 0, i, env => do
    match ← nxtM src i with
    | none => pure (.nx env)
    | some _ => fail
  | k + 1, i, env => do
    match ← nxtM src i with
    | none => pure (.nx env)
    | some d =>
      match ← turn d env with
      | .nx e => forRun src turn k (i + 1) e
      | .ct e => forRun src turn k (i + 1) e
      | .bk e => pure (.nx e)
      | .rt v => pure (.rt v)
def whileRun (c : DEnv → M Bool) (b : DEnv → M Fl) : Nat → DEnv → M Fl
  | 0, _ => fail
  | k + 1, env => do
    if ← c env then
      match ← b env with
      | .nx e => whileRun c b k e
      | .ct e => whileRun c b k e
      | .bk e => pure (.nx e)
      | .rt v => pure (.rt v)
    else pure (.nx env)
/-- positional values and keywords' values in the parameters' order -/
def putK {α : Type} (npos nks : Nat) (perm : List Nat) (us ws : List α) : List α := if us.length = npos ∧ ws.length = nks then perm.filterMap fun i => (us ++ ws)[i]? else []
def whileFuel : Nat := 1000000000

/-! ### running -/
section
variable (F : Nat → List Dv → M Dv) (gl : Str → Option Dv)
mutual
def ev : E → DEnv → M Dv
  | .var i, env => match env[i]? with
    | some (some d) => pure d
    | _ => fail
  | .int i, _ => pure (.int i)
  | .bl b, _ => pure (.bl b)
  | .non, _ => pure .non
  | .str s, _ => pure (.str s)
  | .glb x, _ => match gl x with
    | some d => pure d
    | none => fail
  | .tup es, env => do
    let ds ← evs es env
    mkT ds
  | .lst es, env => do
    let ds ← evs es env
    newL ds
  | .num a b, env => do
    let x ← ev a env
    let y ← ev b env
    match x, y with
    | .int n, .int m => pure (.num n m)
    | _, _ => fail
  | .bin o a b, env => do
    let x ← ev a env
    let y ← ev b env
    opB o x y
  | .neg a, env => do
    match ← ev a env with
    | .int i => pure (.int (-i))
    | _ => fail
  | .cmp o a b, env => do
    let x ← ev a env
    let y ← ev b env
    pure (.bl (← opC o x y))
  | .chain o1 o2 a b c, env => do
    let x ← ev a env
    let y ← ev b env
    if ← opC o1 x y then (do
      let z ← ev c env
      pure (.bl (← opC o2 y z))) else pure (.bl false)
  | .band a b, env => do
    match ← ev a env with
    | .bl true => ev b env
    | .bl false => pure (.bl false)
    | _ => fail
  | .bor a b, env => do
    match ← ev a env with
    | .bl true => pure (.bl true)
    | .bl false => ev b env
    | _ => fail
  | .bnot a, env => do
    match ← ev a env with
    | .bl b => pure (.bl !b)
    | _ => fail
  | .ite t a b, env => do
    if ← tst t env then ev a env else ev b env
  | .idx a i, env => do
    let x ← ev a env
    let y ← ev i env
    idxD x y
  | .sl a lo hi, env => do
    let x ← ev a env
    let l ← evo lo env
    let h ← evo hi env
    slD x l h
  | .call f es, env => do
    let ds ← evs es env
    F f ds
  | .callk f es ks npos nks perm, env => do
    let ds ← evs es env
    let zs ← evs ks env
    F f (putK npos nks perm ds zs)
  | .blt b es, env => do
    let ds ← evs es env
    bltD b ds
  | .comp elt tg it cnd own, env => do
    let src ← evi it env
    let k ← turnsM src
    let xs ← compRun src (fun d => do
      let env' ← lift (bindT tg d (wipeD env own))
      if ← tsto cnd env' then (do
        let y ← ev elt env'
        pure (some y)) else pure none) k 0 []
    newC (.lst xs)
  | .comp2 elt tg it cnd tg1 it1 cnd1 own own1, env => do
    let src ← evi it env
    let k ← turnsM src
    let xs ← compRun2 src (fun d acc => do
      let env' ← lift (bindT tg d (wipeD env own))
      if ← tsto cnd env' then (do
        let src1 ← evi it1 env'
        let k1 ← turnsM src1
        compRun src1 (fun d1 => do
          let env2 ← lift (bindT tg1 d1 (wipeD env' own1))
          if ← tsto cnd1 env2 then (do
            let y ← ev elt env2
            pure (some y)) else pure none) k1 0 acc) else pure acc) k 0 []
    newC (.lst xs)
  | .isty pos t a, env => do
    let d ← ev a env
    pure (.bl (← isD pos t d))
  | .rev a, env => do
    let d ← ev a env
    revD d
  | .isa t a, env => do
    let d ← ev a env
    pure (.bl (← isaD t d))
  | .pop a, env => do
    let d ← ev a env
    popD d
def evs : Es → DEnv → M (List Dv)
  | .nil, _ => pure []
  | .cons e es, env => do
    let d ← ev e env
    let ds ← evs es env
    pure (d :: ds)
/-- an end of a slice -/
def evo : Oe → DEnv → M (Option Int)
  | .none, _ => pure none
  | .some e, env => do
    match ← ev e env with
    | .int i => pure (some i)
    | _ => fail
/-- a comprehension's test -/
def tsto : Oe → DEnv → M Bool
  | .none, _ => pure true
  | .some e, env => tst e env
def tst : E → DEnv → M Bool
  | .cmp o a b, env => do
    let x ← ev a env
    let y ← ev b env
    opC o x y
  | .chain o1 o2 a b c, env => do
    let x ← ev a env
    let y ← ev b env
    if ← opC o1 x y then (do
      let z ← ev c env
      opC o2 y z) else pure false
  | .band a b, env => do
    if ← tst a env then tst b env else pure false
  | .bor a b, env => do
    if ← tst a env then pure true else tst b env
  | .bnot a, env => do
    pure (!(← tst a env))
  | .ite _ _ _, _ => fail
  | .var i, env => match env[i]? with
    | some (some d) => truth d
    | _ => fail
  | .call f es, env => do
    let ds ← evs es env
    truth (← F f ds)
  | .callk f es ks npos nks perm, env => do
    let ds ← evs es env
    let zs ← evs ks env
    truth (← F f (putK npos nks perm ds zs))
  | .blt b es, env => do
    let ds ← evs es env
    truth (← bltD b ds)
  | .isty pos t a, env => do
    let d ← ev a env
    isD pos t d
  | .isa t a, env => do
    let d ← ev a env
    isaD t d
  | _, _ => fail
def evi : It → DEnv → M Src
  | .seq e, env => do
    let d ← ev e env
    seqSrc d
  | .rng1 a, env => do
    match ← ev a env with
    | .int n => if -(2 ^ 62) ≤ n ∧ n < 2 ^ 62 then pure (.rng 0 n.toNat) else fail
    | _ => fail
  | .rng2 a b, env => do
    match ← ev a env, ← ev b env with
    | .int i, .int n => if -(2 ^ 62) ≤ i ∧ i < 2 ^ 62 ∧ -(2 ^ 62) ≤ n ∧ n < 2 ^ 62 then pure (.rng i (n - i).toNat) else fail
    | _, _ => fail
  | .zip a b, env => do
    match ← ev a env, ← ev b env with
    | .tup xs, .tup ys => pure (.zipT xs ys)
    | .loc n, .loc m => do
      match ← getC n, ← getC m with
      | .lst _, .lst _ => pure (.zipL n m)
      | _, _ => fail
    | _, _ => fail
  | .enum a, env => do
    match ← ev a env with
    | .loc n => do
      match ← getC n with
      | .lst _ => pure (.enumL n)
      | _ => fail
    | .tup xs => pure (.enumT xs)
    | _ => fail
  | .rev a, env => do
    match ← ev a env with
    | .tup xs => pure (.revT xs)
    | .loc n => do
      match ← getC n with
      | .lst xs => pure (.revL n xs.length)
      | _ => fail
    | _ => fail
  | .zips a, env => do
    match ← ev a env with
    | .tup ds => match rowsD ds with
      | some rows => if rows ≠ [] ∧ rows.length ≤ 12 ∧ rows.all (fun r => r.length == (rows.headD []).length) then pure (.zipN rows) else fail
      | none => fail
    | _ => fail
end
mutual
def ex : S → DEnv → M Fl
  | .asg tg e, env => do
    let d ← ev F gl e env
    let env' ← lift (bindT tg d env)
    pure (.nx env')
  | .asgC i e, env => do
    let d ← ev F gl e env
    let env' ← lift (bindT (.nm i) d env)
    pure (.nx env')
  | .sub o i v, env => do
    let d ← ev F gl v env
    let x ← ev F gl o env
    let y ← ev F gl i env
    match x, y with
    | .loc n, .int k => do
      match ← getC n with
      | .lst xs => match ixN xs.length k with
        | some j => (do
          setC n (.lst (xs.set j d))
          pure (.nx env))
        | none => fail
      | _ => fail
    | _, _ => fail
  | .par i j a b, env => do
    let x ← ev F gl a env
    let y ← ev F gl b env
    pure (.nx ((env.set i (some x)).set j (some y)))
  | .par3 i j k a b c, env => do
    let x ← ev F gl a env
    let y ← ev F gl b env
    let z ← ev F gl c env
    pure (.nx (((env.set i (some x)).set j (some y)).set k (some z)))
  | .asg2 o i j e, env => do
    let d ← ev F gl e env
    match d with
    | .tup [d0, d1] => do
      let x ← ev F gl o env
      let y ← ev F gl i env
      match x, y with
      | .loc n, .int k => do
        match ← getC n with
        | .lst xs => match ixN xs.length k with
          | some m => (do
            setC n (.lst (xs.set m d0))
            pure (.nx (env.set j (some d1))))
          | none => fail
        | _ => fail
      | _, _ => fail
    | _ => fail
  | .aug i o e, env => match env[i]? with
    | some (some (.int m)) => do
      match o, ← ev F gl e env with
      | .add, .int n => pure (.nx (env.set i (some (.int (m + n)))))
      | .sub, .int n => pure (.nx (env.set i (some (.int (m - n)))))
      | _, _ => fail
    | _ => fail
  | .app o e, env => do
    match ← ev F gl o env with
    | .loc n => do
      match ← getC n with
      | .lst _ => do
        let d ← ev F gl e env
        match ← getC n with
        | .lst xs => if small xs.length then (do
            setC n (.lst (xs ++ [d]))
            pure (.nx env)) else fail
        | _ => fail
      | _ => fail
    | _ => fail
  | .ex e, env => do
    let _ ← ev F gl e env
    pure (.nx env)
  | .ret e, env => do
    let d ← ev F gl e env
    pure (.rt d)
  | .retN, _ => pure (.rt .non)
  | .ite c a b, env => do
    if ← tst F gl c env then exs a env else exs b env
  | .whl c b, env => whileRun (tst F gl c) (exs b) whileFuel env
  | .for_ tg it b, env => do
    let src ← evi F gl it env
    let k ← turnsM src
    forRun src (fun d env => do
      let env' ← lift (bindT tg d env)
      exs b env') k 0 env
  | .forU is it b, env => do
    let src ← evi F gl it env
    let k ← turnsM src
    forRun src (fun d env => do
      let env' ← bindL is d env
      exs b env') k 0 env
  | .starA i j e, env => do
    let d ← ev F gl e env
    match d with
    | .tup ds => (match ds.getLast? with
      | some z => do
        let l ← newL ds.dropLast
        pure (.nx ((env.set i (some l)).set j (some z)))
      | none => fail)
    | _ => fail
  | .asgU is e, env => do
    let d ← ev F gl e env
    let env' ← bindL is d env
    pure (.nx env')
  | .brk, env => pure (.bk env)
  | .cont, env => pure (.ct env)
  | .pass, env => pure (.nx env)
  | .never, _ => fail
def exs : Ss → DEnv → M Fl
  | .nil, env => pure (.nx env)
  | .cons s r, env => do
    match ← ex s env with
    | .nx e => exs r e
    | .rt d => pure (.rt d)
    | .bk e => pure (.bk e)
    | .ct e => pure (.ct e)
end
end
end Dd
end
section
set_option Elab.async false
set_option linter.all false
set_option maxRecDepth 100000
namespace Dd
open PySem PySem.Spec PyProof.Rows L2

/-! ### readings by functions -/
abbrev Rl (α β : Type) := List Addr → Hp → α → β → Prop
/-- m ends well, and what it gives, as it is represented, has Q -/
def FinW (G : Cst) {α β : Type} (R : Rl α β) (μ : List Addr) (H : Hp) (m : M α) (sto : Sto) (Q : β → Hp → Prop) : Prop :=
  ∃ a sto', m sto = .ok a sto' ∧ ∀ b H' μ', Wld G μ' H' sto' → Nxt μ H μ' H' → R μ' H' a b → Q b H'
abbrev Fin (G : Cst) := FinW G (Rep G : Rl Dv V)
abbrev eqR {α : Type} : Rl α α := fun _ _ a b => b = a
def RE (G : Cst) (f : DEnv → M Dv) : TE := fun σ H Q => ∃ env sto μ, Wld G μ H sto ∧ EnvR G μ H env σ ∧ Fin G μ H (f env) sto Q
def RT (G : Cst) (f : DEnv → M Bool) : TT := fun σ H Q => ∃ env sto μ, Wld G μ H sto ∧ EnvR G μ H env σ ∧ FinW G eqR μ H (f env) sto Q
def RA (G : Cst) (f : DEnv → M (List Dv)) : TA := fun σ H Q => ∃ env sto μ, Wld G μ H sto ∧ EnvR G μ H env σ ∧ FinW G (RepL G) μ H (f env) sto Q
def RO (G : Cst) (f : DEnv → M (Option Int)) : TO := fun σ H Q => ∃ env sto μ, Wld G μ H sto ∧ EnvR G μ H env σ ∧ FinW G eqR μ H (f env) sto Q
def RS (G : Cst) (f : DEnv → M Fl) : TS := fun D σ H => ∃ env sto μ, Wld G μ H sto ∧ EnvR G μ H env σ ∧ ∃ d sto', f env sto = .ok d sto' ∧ ∀ H' μ', Wld G μ' H' sto' → Nxt μ H μ' H' → FlOk G μ' H' D d

section
variable {G : Cst} {α β γ : Type} {R : Rl α β} {μ : List Addr} {H : Hp} {sto : Sto} {Q : β → Hp → Prop}
theorem fin_bind {m : M γ} {k : γ → M α} (h : FinW G R μ H (m >>= k) sto Q) : ∃ x sto1, m sto = .ok x sto1 ∧ ∀ H1 μ1, Wld G μ1 H1 sto1 → Nxt μ H μ1 H1 → FinW G R μ1 H1 (k x) sto1 Q := by
  obtain ⟨a, s2, e, q⟩ := h
  obtain ⟨x, s1, e1, e2⟩ := bind_ok e
  exact ⟨x, s1, e1, fun H1 μ1 w1 n1 => ⟨a, s2, e2, fun b H' μ' w' n' r => q b H' μ' w' (n1.trans n') r⟩⟩
theorem fin_pure {a : α} (h : FinW G R μ H (pure a) sto Q) (w : Wld G μ H sto) {b : β} (r : R μ H a b) : Q b H := by
  obtain ⟨x, s2, e, q⟩ := h
  cases e
  exact q b H μ w .refl r
theorem fin_fail (h : FinW G R μ H (fail : M α) sto Q) : False := by
  obtain ⟨x, s2, e, q⟩ := h
  cases e
/-- where the state stays -/
theorem fin_at {m : M γ} {k : γ → M α} (h : FinW G R μ H (m >>= k) sto Q) (w : Wld G μ H sto) (hs : ∀ x s1, m sto = .ok x s1 → s1 = sto) : ∃ x, m sto = .ok x sto ∧ FinW G R μ H (k x) sto Q := by
  obtain ⟨x, s1, e, q⟩ := fin_bind h
  obtain rfl := hs x s1 e
  exact ⟨x, e, q H μ w .refl⟩
theorem fin_new {c : Ce} {Q : VK} (h : Fin G μ H (newC c) sto Q) (w : Wld G μ H sto) {p : Addr} {o : HO} (hp : H p = none) (hc : CeR G (μ ++ [p]) (upd H p o) p c) : Q (.ref p) (upd H p o) := by
  obtain ⟨x, s2, e, q⟩ := h
  cases e
  refine q _ _ _ (wld_new w hp hc) (nxt_new w hp) ?_
  rw [rep_loc]
  exact ⟨p, by rw [← w.len]; simp, rfl⟩
theorem fin_newL {xs : List Dv} {Q : VK} (h : Fin G μ H (newL xs) sto Q) : small xs.length = true ∧ Fin G μ H (newC (.lst xs)) sto Q := by
  unfold newL at h
  by_cases hz : small xs.length = true
  · rw [if_pos hz] at h; exact ⟨hz, h⟩
  · rw [if_neg hz] at h; exact (fin_fail h).elim
theorem fin_mkT {xs : List Dv} {Q : VK} (h : Fin G μ H (mkT xs) sto Q) : small xs.length = true ∧ Fin G μ H (pure (.tup xs)) sto Q := by
  unfold mkT at h
  by_cases hz : small xs.length = true
  · rw [if_pos hz] at h; exact ⟨hz, h⟩
  · rw [if_neg hz] at h; exact (fin_fail h).elim
theorem fin_tup {xs : List Dv} {Q : VK} (h : Fin G μ H (pure (.tup xs)) sto Q) (w : Wld G μ H sto) {vs : List V} (r : RepL G μ H xs vs) {p : Addr} (hp : H p = none) : Q (.ref p) (upd H p (.tup vs)) := by
  obtain ⟨x, s2, e, q⟩ := h
  cases e
  refine q _ _ _ (wld_tup w hp) (nxt_tup w hp) ?_
  rw [rep_tup]
  exact ⟨p, vs, rfl, upd_same, w.monoL (nxt_tup w hp) r⟩
theorem getC_eq {n : Nat} {c : Ce} {s1 : Sto} (h : getC n sto = .ok c s1) : sto[n]? = some c ∧ s1 = sto := by
  unfold getC at h
  split at h
  · cases h; exact ⟨by assumption, rfl⟩
  · cases h
theorem lstOf_eq {n : Nat} {xs : List Dv} {s1 : Sto} (h : lstOf n sto = .ok xs s1) : (sto[n]? = some (.lst xs) ∨ sto[n]? = some (.ro xs)) ∧ s1 = sto := by
  unfold lstOf at h
  obtain ⟨c, s2, e1, e2⟩ := bind_ok h
  obtain ⟨g, rfl⟩ := getC_eq e1
  cases c with
  | lst ys => cases e2; exact ⟨.inl g, rfl⟩
  | ro ys => cases e2; exact ⟨.inr g, rfl⟩
  | dct ys => cases e2
/-- a list at a place: its address and what stands there -/
theorem Wld.sq (K : PySem.W.Frag) (w : Wld G μ H sto) {n : Nat} {xs : List Dv} (h : sto[n]? = some (.lst xs) ∨ sto[n]? = some (.ro xs)) {v : V} (r : Rep G μ H (.loc n) v) : ∃ a vs, v = .ref a ∧ SqL K H a vs ∧ RepL G μ H xs vs := by
  rw [rep_loc] at r
  obtain ⟨a, ha, rfl⟩ := r
  rcases h with h | h
  · obtain ⟨vs, e, r⟩ := w.cell n a _ ha h
    exact ⟨a, vs, rfl, .inl (.inl e), r⟩
  · obtain ⟨o, vs, e, r⟩ := w.cell n a _ ha h
    exact ⟨a, vs, rfl, .inl (.inr ⟨o, e⟩), r⟩
theorem Wld.lst (w : Wld G μ H sto) {n : Nat} {xs : List Dv} (h : sto[n]? = some (.lst xs)) {v : V} (r : Rep G μ H (.loc n) v) : ∃ a vs, v = .ref a ∧ μ[n]? = some a ∧ H a = some (.lst vs) ∧ RepL G μ H xs vs := by
  rw [rep_loc] at r
  obtain ⟨a, ha, rfl⟩ := r
  obtain ⟨vs, e, r⟩ := w.cell n a _ ha h
  exact ⟨a, vs, rfl, ha, e, r⟩
theorem rdSeq_eq {d : Dv} {xs : List Dv} {s1 : Sto} (h : rdSeq d sto = .ok xs s1) : s1 = sto ∧ (d = .tup xs ∨ (∃ n, d = .loc n ∧ (sto[n]? = some (.lst xs) ∨ sto[n]? = some (.ro xs))) ∨ ∃ n m, d = .num n m ∧ xs = [.int n, .int m]) := by
  cases d with
  | tup ys => cases h; exact ⟨rfl, .inl rfl⟩
  | num n m => cases h; exact ⟨rfl, .inr (.inr ⟨n, m, rfl, rfl⟩)⟩
  | loc n => obtain ⟨a, b⟩ := lstOf_eq h; exact ⟨b, .inr (.inl ⟨n, rfl, a⟩)⟩
  | _ => cases h
/-- the module's pairs stand in the written part -/
def CstOk (K : PySem.W.Frag) (G : Cst) : Prop := ∀ a n m, (a, n, m) ∈ G → ∀ H : Hp, SqT K H a [.int n, .int m]
theorem rep_numT {K : PySem.W.Frag} {G : Cst} (hk : CstOk K G) {μ : List Addr} {H : Hp} {n m : Int} {v : V} (r : Rep G μ H (.num n m) v) : ∃ a, v = .ref a ∧ SqT K H a [.int n, .int m] := by
  rw [rep_num] at r
  obtain ⟨a, e, h | h⟩ := r
  · exact ⟨a, e, .inl (.inl h)⟩
  · exact ⟨a, e, hk a n m h H⟩
theorem Wld.seq {K : PySem.W.Frag} (hk : CstOk K G) (w : Wld G μ H sto) {d : Dv} {xs : List Dv} {s1 : Sto} (h : rdSeq d sto = .ok xs s1) {v : V} (r : Rep G μ H d v) : ∃ a vs, v = .ref a ∧ RepL G μ H xs vs ∧ (SqL K H a vs ∨ SqT K H a vs) := by
  obtain ⟨_, h0⟩ := rdSeq_eq h
  rcases h0 with rfl | ⟨n, rfl, h1⟩ | ⟨n, m, rfl, rfl⟩
  · rw [rep_tup] at r
    obtain ⟨a, vs, rfl, h, r⟩ := r
    exact ⟨a, vs, rfl, r, .inr (.inl (.inl h))⟩
  · obtain ⟨a, vs, rfl, h, r⟩ := w.sq K h1 r
    exact ⟨a, vs, rfl, r, .inl h⟩
  · obtain ⟨a, rfl, q⟩ := rep_numT hk r
    exact ⟨a, _, rfl, repL_cons (by rw [rep_int]) (repL_cons (by rw [rep_int]) repL_nil), .inr q⟩
theorem intsD_rep : ∀ {xs : List Dv} {is : List Int} {vs : List V}, intsD xs = some is → RepL G μ H xs vs → vs = is.map V.int
  | [], is, vs, h, r => by
    cases h
    unfold RepL at r
    exact r
  | d :: ds, is, vs, h, r => by
    unfold RepL at r
    obtain ⟨v, t, rfl, rv, r⟩ := r
    cases d with
    | int i =>
      unfold intsD at h
      cases q : intsD ds with
      | none => rw [q] at h; cases h
      | some js =>
        rw [q] at h; cases h
        rw [rep_int] at rv
        rw [rv, intsD_rep q r]; rfl
    | _ => cases h
theorem blsD_rep : ∀ {xs : List Dv} {is : List Bool} {vs : List V}, blsD xs = some is → RepL G μ H xs vs → vs = is.map V.bl
  | [], is, vs, h, r => by
    cases h
    unfold RepL at r
    exact r
  | d :: ds, is, vs, h, r => by
    unfold RepL at r
    obtain ⟨v, t, rfl, rv, r⟩ := r
    cases d with
    | bl i =>
      unfold blsD at h
      cases q : blsD ds with
      | none => rw [q] at h; cases h
      | some js =>
        rw [q] at h; cases h
        rw [rep_bl] at rv
        rw [rv, blsD_rep q r]; rfl
    | _ => cases h
end

/-! ### operators -/
def boOf : Bo → Operator
  | .add => .Add | .sub => .Sub | .mul => .Mult | .fdiv => .FloorDiv | .mod => .Mod | .pow => .Pow | .band => .BitAnd
def coOf : Co → CmpOp
  | .eq => .Eq | .ne => .NotEq | .lt => .Lt | .le => .LtE | .gt => .Gt | .ge => .GtE | .is => .Is | .isnot => .IsNot | .isin => .In | .notin => .NotIn
theorem opR_imp {X : Cx} {f : Value → Value → Sem Value} {r r' : R2} (h : OpR X f r) (i : ∀ v u H Q, r' v u H Q → r v u H Q) : OpR X f r' := fun pins s σ H x y v u Q I rx ry q => h pins s σ H x y v u Q I rx ry (i _ _ _ _ q)
def ROp {γ : Type} (G : Cst) (k : Dv → Dv → M γ) (g : γ → Dv) : R2 := fun v u H Q => ∃ x y μ sto, Wld G μ H sto ∧ Rep G μ H x v ∧ Rep G μ H y u ∧ FinW G (fun μ H a b => Rep G μ H (g a) b) μ H (k x y) sto Q
abbrev ROB (G : Cst) (k : Dv → Dv → M Dv) : R2 := ROp G k id
theorem repI {G μ H i v} (h : Rep G μ H (.int i) v) : v = .int i := rep_int.mp h
theorem rep_ref {G : Cst} {μ : List Addr} {H : Hp} {ds : List Dv} {v : V} (h : Rep G μ H (.tup ds) v) : ∃ a vs, v = .ref a ∧ H a = some (.tup vs) ∧ RepL G μ H ds vs := rep_tup.mp h
section
variable {X : Cx} {G : Cst}
theorem lt_ok (hu : X.A.units + 64 < cLine) : OpR X (compareOp .Lt) (ROp G (opC .lt) .bl) := by
  refine opR_imp (op_lt.or (op_ltT (by omega))) fun v u H Q h => ?_
  obtain ⟨x, y, μ, sto, w, rx, ry, fin⟩ := h
  cases x with
  | int i =>
    cases y with
    | int j => exact .inl ⟨i, j, repI rx, repI ry, fin_pure fin w (by rw [rep_bl])⟩
    | _ => exact (fin_fail fin).elim
  | tup xs =>
    cases y with
    | tup ys =>
      obtain ⟨a, vs, rfl, ha, r1⟩ := rep_ref rx
      obtain ⟨b, us, rfl, hb, r2⟩ := rep_ref ry
      simp only [opC] at fin
      cases e1 : intsD xs with
      | none => rw [e1] at fin; exact (fin_fail fin).elim
      | some is =>
        cases e2 : intsD ys with
        | none => rw [e1, e2] at fin; exact (fin_fail fin).elim
        | some js =>
          rw [e1, e2] at fin
          rw [intsD_rep e1 r1] at ha
          rw [intsD_rep e2 r2] at hb
          exact .inr ⟨a, b, is, js, rfl, rfl, .inl (.inl ha), .inl (.inl hb), fin_pure fin w (by rw [rep_bl])⟩
    | _ => exact (fin_fail fin).elim
  | _ => exact (fin_fail (by cases y <;> exact fin)).elim

theorem ob2 {k : Dv → Dv → M Dv} {v u : V} {H : Hp} {Q : VK} (h : ROB G k v u H Q) : ∃ x y μ sto, Wld G μ H sto ∧ Rep G μ H x v ∧ Rep G μ H y u ∧ Fin G μ H (k x y) sto Q := h
theorem fin_if {α β : Type} {R : Rl α β} {μ : List Addr} {H : Hp} {c : Prop} [Decidable c] {m : M α} {sto : Sto} {Q : β → Hp → Prop} (h : FinW G R μ H (if c then m else fail) sto Q) : c ∧ FinW G R μ H m sto Q := by
  by_cases hc : c
  · rw [if_pos hc] at h; exact ⟨hc, h⟩
  · rw [if_neg hc] at h; exact (fin_fail h).elim
theorem add_ok : OpR X (binaryOp .Add) (ROB G (opB .add)) := by
  refine opR_imp ((op_add.or (op_catA.or op_cat)).or op_add_str) fun v u H Q h => ?_
  obtain ⟨x, y, μ, sto, w, rx, ry, fin⟩ := ob2 h
  cases x with
  | int i =>
    cases y with
    | int j => exact .inl <| .inl ⟨i, j, repI rx, repI ry, fin_pure fin w (by rw [rep_int])⟩
    | _ => exact (fin_fail fin).elim
  | tup xs =>
    cases y with
    | tup ys =>
      obtain ⟨a, vs, rfl, ha, r1⟩ := rep_ref rx
      obtain ⟨b, us, rfl, hb, r2⟩ := rep_ref ry
      obtain ⟨z, fin⟩ := fin_mkT (show Fin G μ H (mkT (xs ++ ys)) sto Q from fin)
      refine .inl <| .inr (.inl ⟨a, b, vs, us, rfl, rfl, .inl (.inl ha), .inl (.inl hb), ?_, fun e => ?_, fun e1 e2 => ?_, fun e1 e2 p hp => ?_⟩)
      · rw [repL_len r1, repL_len r2, ← List.length_append]; exact small_ok z
      · subst e
        have : xs = [] := List.eq_nil_of_length_eq_zero (repL_len r1).symm
        subst this
        exact fin_pure fin w ry
      · subst e2
        have : ys = [] := List.eq_nil_of_length_eq_zero (repL_len r2).symm
        subst this
        rw [List.append_nil] at fin
        exact fin_pure fin w rx
      · exact fin_tup fin w (repL_app r1 r2) hp
    | _ => exact (fin_fail fin).elim
  | loc n =>
    cases y with
    | loc m =>
      obtain ⟨c1, e1, fin⟩ := fin_at (show Fin G μ H (getC n >>= fun c1 => getC m >>= fun c2 => _) sto Q from fin) w fun _ _ e => (getC_eq e).2
      obtain ⟨c2, e2, fin⟩ := fin_at fin w fun _ _ e => (getC_eq e).2
      have g1 := (getC_eq e1).1
      have g2 := (getC_eq e2).1
      cases c1 with
      | lst xs =>
        cases c2 with
        | lst ys =>
          obtain ⟨a, vs, rfl, _, ha, r1⟩ := w.lst g1 rx
          obtain ⟨b, us, rfl, _, hb, r2⟩ := w.lst g2 ry
          obtain ⟨z, fin⟩ := fin_newL (show Fin G μ H (newL (xs ++ ys)) sto Q from fin)
          refine .inl <| .inr (.inr ⟨a, b, vs, us, rfl, rfl, ha, hb, ?_, fun p hp => ?_⟩)
          · rw [repL_len r1, repL_len r2, ← List.length_append]; exact small_ok z
          · exact fin_new fin w hp ⟨_, upd_same, w.monoL (nxt_new w hp) (repL_app r1 r2)⟩
        | _ => exact (fin_fail fin).elim
      | _ => exact (fin_fail (by cases c2 <;> exact fin)).elim
    | _ => exact (fin_fail fin).elim
  | str x =>
    cases y with
    | str y =>
      obtain ⟨c, fin⟩ := fin_if (show Fin G μ H (if small (x.length + y.length) = true then pure (.str (x ++ y)) else fail) sto Q from fin)
      exact .inr ⟨x, y, rep_str.mp rx, rep_str.mp ry, small_ok c, fin_pure fin w (by rw [rep_str])⟩
    | _ => exact (fin_fail fin).elim
  | _ => exact (fin_fail (by cases y <;> exact fin)).elim
theorem sub_ok : OpR X (binaryOp .Sub) (ROB G (opB .sub)) := by
  refine opR_imp op_sub fun v u H Q h => ?_
  obtain ⟨x, y, μ, sto, w, rx, ry, fin⟩ := ob2 h
  cases x with
  | int i =>
    cases y with
    | int j => exact ⟨i, j, repI rx, repI ry, fin_pure fin w (by rw [rep_int])⟩
    | _ => exact (fin_fail fin).elim
  | _ => exact (fin_fail (by cases y <;> exact fin)).elim
theorem repL_rep {μ : List Addr} {H : Hp} {xs : List Dv} {vs : List V} (h : RepL G μ H xs vs) : ∀ k : Nat, RepL G μ H (List.replicate k xs).flatten (List.replicate k vs).flatten
  | 0 => by
    show RepL G μ H [] []
    unfold RepL
    rfl
  | k + 1 => by
    rw [List.replicate_succ, List.replicate_succ, List.flatten_cons, List.flatten_cons]
    exact repL_app h (repL_rep h k)
theorem mul_ok : OpR X (binaryOp .Mult) (ROB G (opB .mul)) := by
  refine opR_imp ((op_mulW.or op_rep).or (op_repT.or op_repT1)) fun v u H Q h => ?_
  obtain ⟨x, y, μ, sto, w, rx, ry, fin⟩ := ob2 h
  cases x with
  | int i =>
    cases y with
    | int j =>
      obtain ⟨c, fin⟩ := fin_if (show Fin G μ H (if mulOk i j = true then pure (.int (i * j)) else fail) sto Q from fin)
      exact .inl (.inl ⟨i, j, repI rx, repI ry, show i.natAbs.log2 + j.natAbs.log2 < 1000000 from of_decide_eq_true c, fin_pure fin w (by rw [rep_int])⟩)
    | _ => exact (fin_fail fin).elim
  | tup xs =>
    cases y with
    | int k =>
      obtain ⟨a, vs, rfl, ha, r1⟩ := rep_ref rx
      have l := repL_len r1
      replace fin : Fin G μ H (if xs.isEmpty = true ∨ k = 1 then (if 0 ≤ k ∧ k ≤ 1000 then pure (.tup xs) else fail) else if 2 ≤ k ∧ k ≤ 1000 ∧ xs.length ≤ 1000 then mkT ((List.replicate k.toNat xs).flatten) else fail) sto Q := fin
      by_cases c : xs.isEmpty = true ∨ k = 1
      · rw [if_pos c] at fin
        obtain ⟨c1, fin⟩ := fin_if fin
        refine .inr (.inr ⟨a, k, vs, rfl, repI ry, .inl (.inl ha), c.imp (fun e => ?_) id, c1.1, c1.2, fin_pure fin w rx⟩)
        exact List.eq_nil_of_length_eq_zero (by rw [l, List.isEmpty_iff.mp e]; rfl)
      · rw [if_neg c] at fin
        obtain ⟨c1, fin⟩ := fin_if fin
        obtain ⟨z, fin⟩ := fin_mkT fin
        refine .inr (.inl ⟨a, k, vs, rfl, repI ry, .inl (.inl ha), fun e => c (.inl ?_), c1.1, c1.2.1, by omega, fun p hp => fin_tup fin w (repL_rep r1 k.toNat) hp⟩)
        rw [e] at l
        exact List.isEmpty_iff.mpr (List.eq_nil_of_length_eq_zero l.symm)
    | _ => exact (fin_fail fin).elim
  | loc n =>
    cases y with
    | int k =>
      obtain ⟨c1, e1, fin⟩ := fin_at (show Fin G μ H (getC n >>= fun c1 => _) sto Q from fin) w fun _ _ e => (getC_eq e).2
      have g1 := (getC_eq e1).1
      cases c1 with
      | lst xs =>
        obtain ⟨c, fin⟩ := fin_if (show Fin G μ H (if 0 ≤ k ∧ k ≤ 1000 ∧ xs.length ≤ 1000 then newL ((List.replicate k.toNat xs).flatten) else fail) sto Q from fin)
        obtain ⟨a, vs, rfl, _, ha, r1⟩ := w.lst g1 rx
        obtain ⟨z, fin⟩ := fin_newL fin
        refine .inl (.inr ⟨a, k, vs, rfl, repI ry, ha, by omega, by omega, ?_, fun p hp => ?_⟩)
        · have l := repL_len r1
          have m : vs.length * k.toNat ≤ 1000 * 1000 := Nat.mul_le_mul (by omega) (by omega)
          rw [sizeLine_eq]
          omega
        · exact fin_new fin w hp ⟨_, upd_same, w.monoL (nxt_new w hp) (repL_rep r1 k.toNat)⟩
      | _ => exact (fin_fail fin).elim
    | _ => exact (fin_fail fin).elim
  | _ => exact (fin_fail (by cases y <;> exact fin)).elim
theorem fdiv_ok : OpR X (binaryOp .FloorDiv) (ROB G (opB .fdiv)) := by
  refine opR_imp op_fdivW fun v u H Q h => ?_
  obtain ⟨x, y, μ, sto, w, rx, ry, fin⟩ := ob2 h
  cases x with
  | int i =>
    cases y with
    | int j =>
      obtain ⟨c, fin⟩ := fin_if (show Fin G μ H (if 0 < j ∧ j.natAbs.log2 < 9000 then pure (.int (i / j)) else fail) sto Q from fin)
      exact ⟨i, j, repI rx, repI ry, c, fin_pure fin w (by rw [rep_int])⟩
    | _ => exact (fin_fail fin).elim
  | _ => exact (fin_fail (by cases y <;> exact fin)).elim
theorem mod_ok : OpR X (binaryOp .Mod) (ROB G (opB .mod)) := by
  refine opR_imp op_mod fun v u H Q h => ?_
  obtain ⟨x, y, μ, sto, w, rx, ry, fin⟩ := ob2 h
  cases x with
  | int i =>
    cases y with
    | int j =>
      obtain ⟨c, fin⟩ := fin_if (show Fin G μ H (if 0 < j then pure (.int (i % j)) else fail) sto Q from fin)
      exact ⟨i, j, repI rx, repI ry, c, fin_pure fin w (by rw [rep_int])⟩
    | _ => exact (fin_fail fin).elim
  | _ => exact (fin_fail (by cases y <;> exact fin)).elim
theorem pow_ok : OpR X (binaryOp .Pow) (ROB G (opB .pow)) := by
  refine opR_imp op_pow fun v u H Q h => ?_
  obtain ⟨x, y, μ, sto, w, rx, ry, fin⟩ := ob2 h
  cases x with
  | int i =>
    cases y with
    | int j =>
      obtain ⟨c, fin⟩ := fin_if (show Fin G μ H (if 0 ≤ j ∧ j ≤ 1000 ∧ i.natAbs < 2 ^ 64 then pure (.int (i ^ j.toNat)) else fail) sto Q from fin)
      exact ⟨i, j, repI rx, repI ry, ⟨c.1, by omega, c.2.2⟩, fin_pure fin w (by rw [rep_int])⟩
    | _ => exact (fin_fail fin).elim
  | _ => exact (fin_fail (by cases y <;> exact fin)).elim
theorem band_ok : OpR X (binaryOp .BitAnd) (ROB G (opB .band)) := by
  refine opR_imp op_band1 fun v u H Q h => ?_
  obtain ⟨x, y, μ, sto, w, rx, ry, fin⟩ := ob2 h
  cases x with
  | int i =>
    cases y with
    | int j =>
      obtain ⟨c, fin⟩ := fin_if (show Fin G μ H (if 0 ≤ i ∧ j = 1 then pure (.int (i % 2)) else fail) sto Q from fin)
      exact ⟨i, j, repI rx, repI ry, c, fin_pure fin w (by rw [rep_int])⟩
    | _ => exact (fin_fail fin).elim
  | _ => exact (fin_fail (by cases y <;> exact fin)).elim
theorem opB_ok (o : Bo) : OpR X (binaryOp (boOf o)) (ROB G (opB o)) := by
  cases o
  · exact add_ok
  · exact sub_ok
  · exact mul_ok
  · exact fdiv_ok
  · exact mod_ok
  · exact pow_ok
  · exact band_ok

/-! ### comparisons -/
mutual
theorem pyv_dp {K : PySem.W.Frag} (hk : CstOk K G) {μ : List Addr} {H : Hp} : ∀ {d : Dv} {v : V} {p : PyData}, pyv d = some p → Rep G μ H d v → Dp K H v p
  | .non, v, p, e, r => by
    unfold pyv at e; cases e
    rw [rep_non] at r; subst r; exact .non
  | .bl b, v, p, e, r => by
    unfold pyv at e; cases e
    rw [rep_bl] at r; subst r; exact .bl b
  | .int i, v, p, e, r => by
    unfold pyv at e; cases e
    rw [rep_int] at r; subst r; exact .int i
  | .str b, v, p, e, r => by
    unfold pyv at e; cases e
    rw [rep_str] at r; subst r; exact .str b
  | .loc n, v, p, e, r => by unfold pyv at e; cases e
  | .num n m, v, p, e, r => by
    unfold pyv at e; cases e
    obtain ⟨a, rfl, q⟩ := rep_numT hk r
    exact .tup q (.cons (.int n) (.cons (.int m) .nil))
  | .tup ds, v, p, e, r => by
    unfold pyv at e
    cases q : pyv.pyvs ds with
    | none => rw [q] at e; cases e
    | some xs =>
      rw [q] at e; cases e
      obtain ⟨a, vs, rfl, h, r⟩ := rep_ref r
      exact .tup (.inl (.inl h)) (pyvs_dp hk q r)
theorem pyvs_dp {K : PySem.W.Frag} (hk : CstOk K G) {μ : List Addr} {H : Hp} : ∀ {ds : List Dv} {vs : List V} {ps : List PyData}, pyv.pyvs ds = some ps → RepL G μ H ds vs → DpAll K H vs ps
  | [], vs, ps, e, r => by
    unfold pyv.pyvs at e; cases e
    unfold RepL at r; subst r; exact .nil
  | d :: ds, vs, ps, e, r => by
    unfold pyv.pyvs at e
    unfold RepL at r
    obtain ⟨v, t, rfl, r1, r2⟩ := r
    cases q : pyv d with
    | none => rw [q] at e; cases e
    | some x =>
      cases q2 : pyv.pyvs ds with
      | none => rw [q, q2] at e; cases e
      | some xs =>
        rw [q, q2] at e; cases e
        exact .cons (pyv_dp hk q r1) (pyvs_dp hk q2 r2)
end
mutual
theorem pyl_dp {K : PySem.W.Frag} (hk : CstOk K G) {μ : List Addr} {H : Hp} {sto : Sto} (w : Wld G μ H sto) : ∀ {k : Nat} {d : Dv} {v : V} {p : PyData}, pyl sto k d = some p → Rep G μ H d v → Dp K H v p
  | k, .non, v, p, e, r => by
    unfold pyl at e; cases e
    rw [rep_non] at r; subst r; exact .non
  | k, .bl b, v, p, e, r => by
    unfold pyl at e; cases e
    rw [rep_bl] at r; subst r; exact .bl b
  | k, .int i, v, p, e, r => by
    unfold pyl at e; cases e
    rw [rep_int] at r; subst r; exact .int i
  | k, .str b, v, p, e, r => by
    unfold pyl at e; cases e
    rw [rep_str] at r; subst r; exact .str b
  | k, .num n m, v, p, e, r => by
    unfold pyl at e; cases e
    obtain ⟨a, rfl, q⟩ := rep_numT hk r
    exact .tup q (.cons (.int n) (.cons (.int m) .nil))
  | 0, .tup ds, v, p, e, r => by unfold pyl at e; cases e
  | 0, .loc ds, v, p, e, r => by unfold pyl at e; cases e
  | k + 1, .tup ds, v, p, e, r => by
    unfold pyl at e
    cases q : ds.mapM (pyl sto k) with
    | none => rw [q] at e; cases e
    | some xs =>
      rw [q] at e; cases e
      obtain ⟨a, vs, rfl, h, r⟩ := rep_ref r
      exact .tup (.inl (.inl h)) (pyls_dp hk w q r)
  | k + 1, .loc n, v, p, e, r => by
    unfold pyl at e
    cases q1 : sto[n]? with
    | none => rw [q1] at e; cases e
    | some c =>
      rw [q1] at e
      cases c with
      | lst ds =>
        simp only at e
        cases q : ds.mapM (pyl sto k) with
        | none => rw [q] at e; cases e
        | some xs =>
          rw [q] at e; cases e
          obtain ⟨a, vs, rfl, _, h, r⟩ := w.lst q1 r
          exact .lst (.inl (.inl h)) (pyls_dp hk w q r)
      | _ => cases e
theorem pyls_dp {K : PySem.W.Frag} (hk : CstOk K G) {μ : List Addr} {H : Hp} {sto : Sto} (w : Wld G μ H sto) : ∀ {k : Nat} {ds : List Dv} {vs : List V} {ps : List PyData}, ds.mapM (pyl sto k) = some ps → RepL G μ H ds vs → DpAll K H vs ps
  | k, [], vs, ps, e, r => by
    simp only [List.mapM_nil] at e
    cases e
    unfold RepL at r; subst r; exact .nil
  | k, d :: ds, vs, ps, e, r => by
    rw [List.mapM_cons] at e
    unfold RepL at r
    obtain ⟨v, t, rfl, r1, r2⟩ := r
    cases q : pyl sto k d with
    | none => rw [q] at e; cases e
    | some x =>
      cases q2 : ds.mapM (pyl sto k) with
      | none => rw [q, q2] at e; cases e
      | some xs =>
        rw [q, q2] at e; cases e
        exact .cons (pyl_dp hk w q r1) (pyls_dp hk w q2 r2)
end
theorem fin_eqD1 {K : PySem.W.Frag} (hk : CstOk K G) {α β : Type} {R : Rl α β} {μ : List Addr} {H : Hp} {sto : Sto} {Q : β → Hp → Prop} {x y : Dv} {v u : V} {k : Bool → M α} (h : FinW G R μ H (eqD1 x y >>= k) sto Q) (w : Wld G μ H sto) (rx : Rep G μ H x v) (ry : Rep G μ H y u) :
    ∃ p q, Dp K H v p ∧ Dp K H u q ∧ SeqAt.shaped p = true ∧ SeqAt.shaped q = true ∧ FinW G R μ H (k (PyData.eqv p q)) sto Q := by
  have low : ∀ {p q : PyData}, pyl sto 12 x = some p → pyl sto 12 y = some q → FinW G R μ H ((fun s => if (SeqAt.shaped p && SeqAt.shaped q) = true then Res.ok (PyData.eqv p q) s else .bad : M Bool) >>= k) sto Q →
      ∃ p q, Dp K H v p ∧ Dp K H u q ∧ SeqAt.shaped p = true ∧ SeqAt.shaped q = true ∧ FinW G R μ H (k (PyData.eqv p q)) sto Q := by
    intro p q e1 e2 h
    obtain ⟨a, s2, e, q2⟩ := h
    obtain ⟨b, s1, e3, e4⟩ := bind_ok e
    by_cases c : (SeqAt.shaped p && SeqAt.shaped q) = true
    · simp only [if_pos c] at e3
      cases e3
      rw [Bool.and_eq_true] at c
      exact ⟨p, q, pyl_dp hk w e1 rx, pyl_dp hk w e2 ry, c.1, c.2, a, s2, e4, q2⟩
    · simp only [if_neg c] at e3
      cases e3
  have mid : FinW G R μ H ((fun s => match pyl s 12 x, pyl s 12 y with
      | some p, some q => if (SeqAt.shaped p && SeqAt.shaped q) = true then Res.ok (PyData.eqv p q) s else .bad
      | _, _ => .bad : M Bool) >>= k) sto Q → ∃ p q, Dp K H v p ∧ Dp K H u q ∧ SeqAt.shaped p = true ∧ SeqAt.shaped q = true ∧ FinW G R μ H (k (PyData.eqv p q)) sto Q := by
    intro h
    obtain ⟨a, s2, e, q2⟩ := h
    obtain ⟨b, s1, e3, e4⟩ := bind_ok e
    cases q1 : pyl sto 12 x with
    | none => rw [q1] at e3; cases e3
    | some p =>
      cases q3 : pyl sto 12 y with
      | none => rw [q1, q3] at e3; cases e3
      | some q =>
        rw [q1, q3] at e3
        exact low q1 q3 ⟨a, s2, (bind_ok_of (f := (fun s => if (SeqAt.shaped p && SeqAt.shaped q) = true then Res.ok (PyData.eqv p q) s else .bad : M Bool)) (g := k) e3).trans e4, q2⟩
  unfold eqD1 at h
  cases e1 : pyv x with
  | none => rw [e1] at h; exact mid h
  | some p =>
    cases e2 : pyv y with
    | none => rw [e1, e2] at h; exact mid h
    | some q =>
      rw [e1, e2] at h
      simp only at h
      by_cases c : (SeqAt.shaped p && SeqAt.shaped q) = true
      · rw [if_pos c] at h
        rw [Bool.and_eq_true] at c
        exact ⟨p, q, pyv_dp hk e1 rx, pyv_dp hk e2 ry, c.1, c.2, h⟩
      · rw [if_neg c] at h; exact (fin_fail h).elim
theorem bind_pure_M {α : Type} (m : M α) : (m >>= pure) = m := by
  funext s
  rw [bind_def]
  cases m s <;> rfl
theorem eqD_cases (x y : Dv) : (∃ a b, x = .str a ∧ y = .str b ∧ eqD x y = pure (decide (a = b))) ∨ eqD x y = eqD1 x y := by
  cases x <;> cases y <;> first | exact .inr rfl | exact .inl ⟨_, _, rfl, rfl, rfl⟩
theorem dec_strV {a b : Str} : decide (V.str a = V.str b) = decide (a = b) := by
  rw [Bool.eq_iff_iff]
  simp
theorem eq_ok (hk : CstOk X.K G) (hu : X.A.units + 64 < cLine) : OpR X (compareOp .Eq) (ROp G (opC .eq) .bl) := by
  refine opR_imp ((op_eqD hu).or op_eq) fun v u H Q h => ?_
  obtain ⟨x, y, μ, sto, w, rx, ry, fin⟩ := h
  rcases eqD_cases x y with ⟨a, b, rfl, rfl, e⟩ | e
  · have fin : FinW G (fun μ H a b => Rep G μ H (.bl a) b) μ H (pure (decide (a = b)) : M Bool) sto Q := fin
    refine .inr ?_
    rw [rep_str.mp rx, rep_str.mp ry]
    refine ⟨rfl, ?_⟩
    rw [dec_strV]
    exact fin_pure (R := fun μ H a b => Rep G μ H (.bl a) b) fin w (rep_bl.mpr rfl)
  · have fin : FinW G (fun μ H a b => Rep G μ H (.bl a) b) μ H (eqD1 x y >>= pure) sto Q := by rw [bind_pure_M, ← e]; exact fin
    obtain ⟨p, q, e1, e2, s1, s2, fin⟩ := fin_eqD1 hk fin w rx ry
    exact .inl ⟨p, q, e1, e2, s1, s2, fin_pure fin w (by rw [rep_bl])⟩
theorem ne_ok (hk : CstOk X.K G) (hu : X.A.units + 64 < cLine) : OpR X (compareOp .NotEq) (ROp G (opC .ne) .bl) := by
  refine opR_imp ((op_neD hu).or op_ne) fun v u H Q h => ?_
  obtain ⟨x, y, μ, sto, w, rx, ry, fin⟩ := h
  replace fin : FinW G (fun μ H a b => Rep G μ H (.bl a) b) μ H (eqD x y >>= fun b => pure (!b)) sto Q := fin
  rcases eqD_cases x y with ⟨a, b, rfl, rfl, e⟩ | e
  · have fin : FinW G (fun μ H a b => Rep G μ H (.bl a) b) μ H (pure (!decide (a = b)) : M Bool) sto Q := fin
    refine .inr ?_
    rw [rep_str.mp rx, rep_str.mp ry]
    refine ⟨rfl, ?_⟩
    rw [dec_strV]
    exact fin_pure (R := fun μ H a b => Rep G μ H (.bl a) b) fin w (rep_bl.mpr rfl)
  · rw [e] at fin
    obtain ⟨p, q, e1, e2, s1, s2, fin⟩ := fin_eqD1 hk fin w rx ry
    exact .inl ⟨p, q, e1, e2, s1, s2, fin_pure fin w (by rw [rep_bl])⟩
theorem le_ok : OpR X (compareOp .LtE) (ROp G (opC .le) .bl) := by
  refine opR_imp op_le fun v u H Q h => ?_
  obtain ⟨x, y, μ, sto, w, rx, ry, fin⟩ := h
  cases x with
  | int i =>
    cases y with
    | int j => exact ⟨i, j, repI rx, repI ry, fin_pure fin w (by rw [rep_bl])⟩
    | _ => exact (fin_fail fin).elim
  | _ => exact (fin_fail (by cases y <;> exact fin)).elim
theorem gt_ok : OpR X (compareOp .Gt) (ROp G (opC .gt) .bl) := by
  refine opR_imp op_gt fun v u H Q h => ?_
  obtain ⟨x, y, μ, sto, w, rx, ry, fin⟩ := h
  cases x with
  | int i =>
    cases y with
    | int j => exact ⟨i, j, repI rx, repI ry, fin_pure fin w (by rw [rep_bl])⟩
    | _ => exact (fin_fail fin).elim
  | _ => exact (fin_fail (by cases y <;> exact fin)).elim
theorem ge_ok : OpR X (compareOp .GtE) (ROp G (opC .ge) .bl) := by
  refine opR_imp op_ge fun v u H Q h => ?_
  obtain ⟨x, y, μ, sto, w, rx, ry, fin⟩ := h
  cases x with
  | int i =>
    cases y with
    | int j => exact ⟨i, j, repI rx, repI ry, fin_pure fin w (by rw [rep_bl])⟩
    | _ => exact (fin_fail fin).elim
  | _ => exact (fin_fail (by cases y <;> exact fin)).elim
theorem nonD_rep {μ : List Addr} {H : Hp} {x : Dv} {v : V} (r : Rep G μ H x v) : decide (v = .non) = nonD x := by
  cases x with
  | non => rw [rep_non.mp r]; rfl
  | bl b => rw [rep_bl.mp r]; rfl
  | int b => rw [rep_int.mp r]; rfl
  | str b => rw [rep_str.mp r]; rfl
  | tup b => obtain ⟨a, vs, rfl, _⟩ := rep_tup.mp r; rfl
  | num b c => obtain ⟨a, rfl, _⟩ := rep_num.mp r; rfl
  | loc b => obtain ⟨a, _, rfl⟩ := rep_loc.mp r; rfl
theorem is_ok : OpR X (compareOp .Is) (ROp G (opC .is) .bl) := by
  refine opR_imp (op_is_bl.or op_isN) fun v u H Q h => ?_
  obtain ⟨x, y, μ, sto, w, rx, ry, fin⟩ := h
  cases y with
  | bl j =>
    cases x with
    | bl i => exact .inl ⟨i, j, rep_bl.mp rx, rep_bl.mp ry, fin_pure fin w (by rw [rep_bl])⟩
    | _ => exact (fin_fail fin).elim
  | non => exact .inr ⟨rep_non.mp ry, fin_pure (show FinW G (fun μ H a b => Rep G μ H (.bl a) b) μ H (pure (nonD x)) sto Q by cases x <;> exact fin) w (by rw [rep_bl, nonD_rep rx])⟩
  | _ => exact (fin_fail (by cases x <;> exact fin)).elim
theorem isnot_ok : OpR X (compareOp .IsNot) (ROp G (opC .isnot) .bl) := by
  refine opR_imp (op_isnot_bl.or op_notN) fun v u H Q h => ?_
  obtain ⟨x, y, μ, sto, w, rx, ry, fin⟩ := h
  cases y with
  | bl j =>
    cases x with
    | bl i => exact .inl ⟨i, j, rep_bl.mp rx, rep_bl.mp ry, fin_pure fin w (by rw [rep_bl])⟩
    | _ => exact (fin_fail fin).elim
  | non => exact .inr ⟨rep_non.mp ry, fin_pure (show FinW G (fun μ H a b => Rep G μ H (.bl a) b) μ H (pure (!nonD x)) sto Q by cases x <;> exact fin) w (by rw [rep_bl, nonD_rep rx])⟩
  | _ => exact (fin_fail (by cases x <;> exact fin)).elim
theorem toV_rep {μ : List Addr} {H : Hp} {d : Dv} {v v' : V} (h : toV d = some v') (r : Rep G μ H d v) : v = v' ∧ flatV v' = true := by
  cases d with
  | non => cases h; exact ⟨rep_non.mp r, rfl⟩
  | bl b => cases h; exact ⟨rep_bl.mp r, rfl⟩
  | int i => cases h; exact ⟨rep_int.mp r, rfl⟩
  | str b => cases h; exact ⟨rep_str.mp r, rfl⟩
  | _ => cases h
theorem toVs_rep {μ : List Addr} {H : Hp} : ∀ {ds : List Dv} {vs vs' : List V}, toVs ds = some vs' → RepL G μ H ds vs → vs = vs' ∧ vs'.all flatV = true
  | [], vs, vs', h, r => by
    cases h
    unfold RepL at r
    exact ⟨r, rfl⟩
  | d :: ds, vs, vs', h, r => by
    unfold RepL at r
    obtain ⟨v, t, rfl, r1, r2⟩ := r
    unfold toVs at h
    cases q : toV d with
    | none => rw [q] at h; cases h
    | some a =>
      cases q2 : toVs ds with
      | none => rw [q, q2] at h; cases h
      | some as =>
        rw [q, q2] at h; cases h
        obtain ⟨rfl, f1⟩ := toV_rep q r1
        obtain ⟨rfl, f2⟩ := toVs_rep q2 r2
        exact ⟨rfl, by simp [f1, f2]⟩
theorem fin_inD {α β : Type} {R : Rl α β} {μ : List Addr} {H : Hp} {sto : Sto} {Q : β → Hp → Prop} {x : Dv} {xs : List Dv} {k : Bool → M α} (h : FinW G R μ H (inD x xs >>= k) sto Q) :
    ∃ a as, toV x = some a ∧ toVs xs = some as ∧ FinW G R μ H (k (inV a as)) sto Q := by
  unfold inD at h
  cases e1 : toV x with
  | none => rw [e1] at h; exact (fin_fail h).elim
  | some p =>
    cases e2 : toVs xs with
    | none => rw [e1, e2] at h; exact (fin_fail h).elim
    | some q => rw [e1, e2] at h; exact ⟨p, q, rfl, rfl, h⟩
theorem in_ok (hk : CstOk X.K G) : OpR X (compareOp .In) (ROp G (opC .isin) .bl) := by
  refine opR_imp op_in_seq fun v u H Q h => ?_
  obtain ⟨x, d, μ, sto, w, rx, ry, fin⟩ := h
  have fin : FinW G (fun μ H a b => Rep G μ H (.bl a) b) μ H (rdSeq d >>= fun xs => inD x xs >>= pure) sto Q := by
    have e : (fun xs => inD x xs >>= pure) = fun xs => inD x xs := by funext xs; exact bind_pure_M _
    rw [e]
    cases x <;> cases d <;> exact fin
  obtain ⟨xs, e, fin⟩ := fin_at fin w fun _ _ e => (rdSeq_eq e).1
  obtain ⟨a, vs, rfl, r, sq⟩ := w.seq hk e ry
  obtain ⟨p, ps, e1, e2, fin⟩ := fin_inD fin
  obtain ⟨rfl, f1⟩ := toV_rep e1 rx
  obtain ⟨rfl, f2⟩ := toVs_rep e2 r
  exact ⟨a, vs, rfl, sq, f1, f2, fin_pure fin w (by rw [rep_bl]; rfl)⟩
theorem notin_ok (hk : CstOk X.K G) : OpR X (compareOp .NotIn) (ROp G (opC .notin) .bl) := by
  refine opR_imp op_notIn_seq fun v u H Q h => ?_
  obtain ⟨x, d, μ, sto, w, rx, ry, fin⟩ := h
  have fin : FinW G (fun μ H a b => Rep G μ H (.bl a) b) μ H (rdSeq d >>= fun xs => inD x xs >>= fun b => pure (!b)) sto Q := by
    cases x <;> cases d <;> exact fin
  obtain ⟨xs, e, fin⟩ := fin_at fin w fun _ _ e => (rdSeq_eq e).1
  obtain ⟨a, vs, rfl, r, sq⟩ := w.seq hk e ry
  obtain ⟨p, ps, e1, e2, fin⟩ := fin_inD fin
  obtain ⟨rfl, f1⟩ := toV_rep e1 rx
  obtain ⟨rfl, f2⟩ := toVs_rep e2 r
  exact ⟨a, vs, rfl, sq, f1, f2, fin_pure fin w (by rw [rep_bl]; rfl)⟩
theorem opC_ok (hk : CstOk X.K G) (hu : X.A.units + 64 < cLine) (o : Co) : OpR X (compareOp (coOf o)) (ROp G (opC o) .bl) := by
  cases o
  · exact eq_ok hk hu
  · exact ne_ok hk hu
  · exact lt_ok hu
  · exact le_ok
  · exact gt_ok
  · exact ge_ok
  · exact is_ok
  · exact isnot_ok
  · exact in_ok hk
  · exact notin_ok hk

/-! ### items, slices, truth, built-ins -/
theorem ixR_imp {r r' : R2} (h : IxR X r) (i : ∀ v u H Q, r' v u H Q → r v u H Q) : IxR X r' := fun a b pins s σ H x y v u Q I rx ry q => h a b pins s σ H x y v u Q I rx ry (i _ _ _ _ q)
theorem fin_lift {α β γ : Type} {R : Rl α β} {μ : List Addr} {H : Hp} {sto : Sto} {Q : β → Hp → Prop} {o : Option γ} {k : γ → M α} (h : FinW G R μ H (lift o >>= k) sto Q) : ∃ x, o = some x ∧ FinW G R μ H (k x) sto Q := by
  cases o with
  | none => exact (fin_fail h).elim
  | some x => exact ⟨x, rfl, h⟩
theorem repL_atI {μ : List Addr} {H : Hp} {xs : List Dv} {vs : List V} (r : RepL G μ H xs vs) {i : Int} {d : Dv} (h : atI xs i = some d) : ∃ v, atI vs i = some v ∧ Rep G μ H d v := by
  unfold atI at h ⊢
  rw [repL_len r]
  cases q : ixN xs.length i with
  | none => rw [q] at h; cases h
  | some j =>
    rw [q] at h
    obtain ⟨v, a, b⟩ := repL_get r h
    exact ⟨v, a, b⟩
theorem idx_ok (hk : CstOk X.K G) : IxR X (ROB G idxD) := by
  refine ixR_imp (ix_list.or ix_tup) fun v u H Q h => ?_
  obtain ⟨x, y, μ, sto, w, rx, ry, fin⟩ := ob2 h
  cases y with
  | int i =>
    have fin : Fin G μ H (rdSeq x >>= fun xs => match atI xs i with
      | some v => pure v
      | none => fail) sto Q := by cases x <;> exact fin
    obtain ⟨xs, e, fin⟩ := fin_at fin w fun _ _ e => (rdSeq_eq e).1
    obtain ⟨a, vs, rfl, r, sq⟩ := w.seq hk e rx
    cases q : atI xs i with
    | none => rw [q] at fin; exact (fin_fail fin).elim
    | some d =>
      rw [q] at fin
      obtain ⟨z, hz, rz⟩ := repL_atI r q
      have hq := fin_pure fin w rz
      rcases sq with sq | sq
      · exact .inl ⟨a, vs, i, z, rfl, repI ry, sq, hz, hq⟩
      · exact .inr ⟨a, vs, i, z, rfl, repI ry, sq, hz, hq⟩
  | _ => exact (fin_fail (by cases x <;> exact fin)).elim
theorem repL_cut {μ : List Addr} {H : Hp} {xs : List Dv} {vs : List V} (r : RepL G μ H xs vs) (lo hi : Option Int) : RepL G μ H (cutD xs lo hi) (cutV vs lo hi) := by
  unfold cutD cutV
  rw [repL_len r]
  exact repL_take _ (repL_drop _ r)
theorem cut_all {α : Type} (xs : List α) {lo hi : Option Int} (h : HT.sIx xs.length 0 lo = 0 ∧ HT.sIx xs.length xs.length hi = xs.length) : cutD xs lo hi = xs := by
  unfold cutD
  rw [h.1, h.2, List.drop_zero, Nat.sub_zero, List.take_length]
def ROS (G : Cst) : V → Option Int → Option Int → Hp → VK → Prop := fun v lo hi H Q => ∃ x μ sto, Wld G μ H sto ∧ Rep G μ H x v ∧ Fin G μ H (slD x lo hi) sto Q
theorem sl_ok : SlR X (ROS G) := by
  have h : SlR X (fun x lo hi H Q => rSlA X.K x lo hi H Q ∨ rSlL X.K x lo hi H Q) := sl_tupA.or sl_list
  intro pins s σ H v v' vl vu lo hi sl Q I rx hs pl pu hq
  refine h pins s σ H v v' vl vu lo hi sl Q I rx hs pl pu ?_
  obtain ⟨x, μ, sto, w, r, fin⟩ := hq
  cases x with
  | tup xs =>
    obtain ⟨a, vs, rfl, ha, r1⟩ := rep_ref r
    obtain ⟨z, fin⟩ := fin_mkT (show Fin G μ H (mkT (cutD xs lo hi)) sto Q from fin)
    refine .inl ⟨a, vs, rfl, .inl (.inl ha), fun e => ?_, fun e p hp => ?_⟩
    · rw [repL_len r1] at e
      rw [cut_all xs e] at fin
      exact fin_pure fin w r
    · exact fin_tup fin w (repL_cut r1 lo hi) hp
  | loc n =>
    obtain ⟨xs, e, fin⟩ := fin_at (show Fin G μ H (lstOf n >>= fun xs => newL (cutD xs lo hi)) sto Q from fin) w fun _ _ e => (lstOf_eq e).2
    obtain ⟨a, vs, rfl, sq, r1⟩ := w.sq X.K (lstOf_eq e).1 r
    obtain ⟨z, fin⟩ := fin_newL fin
    exact .inr ⟨a, vs, rfl, sq, fun p hp => fin_new fin w hp ⟨_, upd_same, w.monoL (nxt_new w hp) (repL_cut r1 lo hi)⟩⟩
  | _ => exact (fin_fail fin).elim
end
end Dd
end
section
set_option Elab.async false
set_option linter.all false
set_option maxRecDepth 100000
namespace Dd
open PySem PySem.Spec PyProof.Rows L2
section
variable {X : Cx} {G : Cst}
theorem tru_okD (hk : CstOk X.K G) {μ : List Addr} {H : Hp} {sto : Sto} {x : Dv} {v : V} {Q : Bool → Hp → Prop} (w : Wld G μ H sto) (r : Rep G μ H x v) (h : FinW G eqR μ H (truth x) sto Q) : ∃ k, TruV X.K v H k ∧ Q k H := by
  cases x with
  | non => rw [rep_non] at r; subst r; exact ⟨_, rfl, fin_pure h w rfl⟩
  | bl b => rw [rep_bl] at r; subst r; exact ⟨_, rfl, fin_pure h w rfl⟩
  | int i => rw [rep_int] at r; subst r; exact ⟨_, rfl, fin_pure h w rfl⟩
  | str s => exact (fin_fail h).elim
  | num n m =>
    obtain ⟨a, rfl, q⟩ := rep_numT hk r
    exact ⟨_, .inr (.inl ⟨_, q, rfl⟩), fin_pure (R := eqR) h w rfl⟩
  | tup xs =>
    obtain ⟨a, vs, rfl, ha, r1⟩ := rep_ref r
    refine ⟨_, .inr (.inl ⟨vs, .inl (.inl ha), rfl⟩), fin_pure h w ?_⟩
    have := repL_len r1
    cases vs <;> cases xs <;> simp_all
  | loc n =>
    obtain ⟨xs, e, h⟩ := fin_at (show FinW G eqR μ H (lstOf n >>= fun xs => pure (!xs.isEmpty)) sto Q from h) w fun _ _ e => (lstOf_eq e).2
    obtain ⟨a, vs, rfl, sq, r1⟩ := w.sq X.K (lstOf_eq e).1 r
    refine ⟨_, .inl ⟨vs, sq, rfl⟩, fin_pure h w ?_⟩
    have := repL_len r1
    cases vs <;> cases xs <;> simp_all

theorem intsD_repL {μ : List Addr} {H : Hp} : ∀ is : List Int, RepL G μ H (is.map .int) (is.map V.int)
  | [] => repL_nil
  | _ :: is => repL_cons (by rw [rep_int]) (intsD_repL is)
def ROC (G : Cst) (k : List Dv → M Dv) : List V → Hp → VK → Prop := fun vs H Q => ∃ ds μ sto, Wld G μ H sto ∧ RepL G μ H ds vs ∧ Fin G μ H (k ds) sto Q
theorem callR_imp {f : Value} {r r' : List V → Hp → VK → Prop} (h : CallR X f r) (i : ∀ v H Q, r' v H Q → r v H Q) : CallR X f r' := fun pins s σ H x y Q I rx q => h pins s σ H x y Q I rx (i _ _ _ q)
theorem one_of {μ : List Addr} {H : Hp} {d : Dv} {vs : List V} (r : RepL G μ H [d] vs) : ∃ v, vs = [v] ∧ Rep G μ H d v := by
  unfold RepL at r
  obtain ⟨v, t, rfl, r1, r2⟩ := r
  unfold RepL at r2
  subst r2
  exact ⟨v, rfl, r1⟩
theorem two_of {μ : List Addr} {H : Hp} {d e : Dv} {vs : List V} (r : RepL G μ H [d, e] vs) : ∃ v u, vs = [v, u] ∧ Rep G μ H d v ∧ Rep G μ H e u := by
  unfold RepL at r
  obtain ⟨v, t, rfl, r1, r2⟩ := r
  obtain ⟨u, rfl, r3⟩ := one_of r2
  exact ⟨v, u, rfl, r1, r3⟩
theorem fin_fn {b : Bl} {ds : List Dv} {μ : List Addr} {H : Hp} {sto : Sto} {Q : VK} (h : Fin G μ H (bltD b ds) sto Q) (e : bltD b ds = fail) : False := by
  rw [e] at h; exact fin_fail h
theorem len_ok (hk : CstOk X.K G) : CallR X (.builtin "len") (ROC G (bltD .len)) := by
  refine callR_imp call_len_seq fun vs H Q ⟨ds, μ, sto, w, r0, fin⟩ => ?_
  match ds, fin with
  | [d], fin =>
    obtain ⟨v, rfl, r⟩ := one_of r0
    obtain ⟨xs, e, fin⟩ := fin_at (show Fin G μ H (rdSeq d >>= fun xs => pure (.int xs.length)) sto Q from fin) w fun _ _ e => (rdSeq_eq e).1
    obtain ⟨a, vs, rfl, r1, sq⟩ := w.seq hk e r
    exact ⟨a, vs, rfl, sq, fin_pure fin w (by rw [rep_int, repL_len r1])⟩
  | [], fin => exact (fin_fail fin).elim
  | _ :: _ :: _, fin => exact (fin_fail fin).elim
theorem abs_ok : CallR X (.builtin "abs") (ROC G (bltD .abs)) := by
  refine callR_imp call_abs fun vs H Q ⟨ds, μ, sto, w, r0, fin⟩ => ?_
  match ds, fin with
  | [.int i], fin =>
    obtain ⟨v, rfl, r⟩ := one_of r0
    exact ⟨i, by rw [repI r], fin_pure fin w (by rw [rep_int])⟩
  | [], fin => exact (fin_fail fin).elim
  | [.non], fin => exact (fin_fail fin).elim
  | [.bl _], fin => exact (fin_fail fin).elim
  | [.str _], fin => exact (fin_fail fin).elim
  | [.tup _], fin => exact (fin_fail fin).elim
  | [.loc _], fin => exact (fin_fail fin).elim
  | [.num _ _], fin => exact (fin_fail fin).elim
  | d :: _ :: _, fin => exact (fin_fail (by cases d <;> exact fin)).elim
theorem ii_of {b : Bl} {k : Int → Int → M Dv} (h : ∀ i j, bltD b [.int i, .int j] = k i j) (hf : ∀ ds, (∀ i j, ds ≠ [.int i, .int j]) → bltD b ds = fail) {ds : List Dv} {μ : List Addr} {H : Hp} {sto : Sto} {Q : VK} {vs : List V} (r : RepL G μ H ds vs)
    (fin : Fin G μ H (bltD b ds) sto Q) : ∃ i j, vs = [.int i, .int j] ∧ Fin G μ H (k i j) sto Q := by
  by_cases e : ∃ i j, ds = [.int i, .int j]
  · obtain ⟨i, j, rfl⟩ := e
    obtain ⟨v, u, rfl, r1, r2⟩ := two_of r
    rw [h] at fin
    exact ⟨i, j, by rw [repI r1, repI r2], fin⟩
  · exact (fin_fn fin (hf ds fun i j q => e ⟨i, j, q⟩)).elim
theorem blt_ii (b : Bl) (h : b = .max2 ∨ b = .min2 ∨ b = .divmod ∨ b = .gcd ∨ b = .lcm) (ds : List Dv) (hf : ∀ i j, ds ≠ [.int i, .int j]) : bltD b ds = fail := by
  rcases h with rfl | rfl | rfl | rfl | rfl <;>
  · match ds with
    | [] => rfl
    | [.int i, .int j] => exact absurd rfl (hf i j)
    | [d] => cases d <;> rfl
    | [d, e] => cases d <;> cases e <;> first | rfl | exact absurd rfl (hf _ _)
    | d :: e :: _ :: _ => cases d <;> cases e <;> rfl
theorem max_ok (hc : X.calm = true) : CallR X (.builtin "max") (ROC G (bltD .max2)) := by
  refine callR_imp (call_max2 hc) fun vs H Q ⟨ds, μ, sto, w, r0, fin⟩ => ?_
  obtain ⟨i, j, e, fin⟩ := ii_of (k := fun i j => pure (.int (if j > i then j else i))) (fun _ _ => rfl) (blt_ii _ (by simp)) r0 fin
  exact ⟨i, j, e, fin_pure fin w (by rw [rep_int])⟩
theorem min_ok (hc : X.calm = true) : CallR X (.builtin "min") (ROC G (bltD .min2)) := by
  refine callR_imp (call_min2 hc) fun vs H Q ⟨ds, μ, sto, w, r0, fin⟩ => ?_
  obtain ⟨i, j, e, fin⟩ := ii_of (k := fun i j => pure (.int (if j < i then j else i))) (fun _ _ => rfl) (blt_ii _ (by simp)) r0 fin
  exact ⟨i, j, e, fin_pure fin w (by rw [rep_int])⟩
theorem gcd_ok : CallR X (.builtin "math.gcd") (ROC G (bltD .gcd)) := by
  refine callR_imp cr_gcd fun vs H Q ⟨ds, μ, sto, w, r0, fin⟩ => ?_
  obtain ⟨i, j, e, fin⟩ := ii_of (k := fun i j => pure (.int ((Nat.gcd i.natAbs j.natAbs : Nat) : Int))) (fun _ _ => rfl) (blt_ii _ (by simp)) r0 fin
  exact ⟨i, j, e, fin_pure fin w (by rw [rep_int])⟩
theorem divmod_ok : CallR X (.builtin "divmod") (ROC G (bltD .divmod)) := by
  refine callR_imp call_divmod fun vs H Q ⟨ds, μ, sto, w, r0, fin⟩ => ?_
  obtain ⟨i, j, e, fin⟩ := ii_of (k := fun i j => if 0 < j ∧ j < 1073741824 then pure (.tup [.int (i / j), .int (i % j)]) else fail) (fun _ _ => rfl) (blt_ii _ (by simp)) r0 fin
  obtain ⟨c, fin⟩ := fin_if fin
  exact ⟨i, j, e, c, fun p hp => fin_tup fin w (repL_cons (by rw [rep_int]) (repL_cons (by rw [rep_int]) repL_nil)) hp⟩
theorem int_ok : CallR X (.type "int") (ROC G (bltD .int1)) := by
  refine callR_imp call_int1 fun vs H Q ⟨ds, μ, sto, w, r0, fin⟩ => ?_
  match ds, fin with
  | [.int i], fin =>
    obtain ⟨v, rfl, r⟩ := one_of r0
    exact .inl ⟨i, by rw [repI r], fin_pure fin w (by rw [rep_int])⟩
  | [.bl b], fin =>
    obtain ⟨v, rfl, r⟩ := one_of r0
    exact .inr ⟨b, by rw [rep_bl.mp r], fin_pure fin w (by rw [rep_int])⟩
  | [], fin => exact (fin_fail fin).elim
  | [.non], fin => exact (fin_fail fin).elim
  | [.str _], fin => exact (fin_fail fin).elim
  | [.tup _], fin => exact (fin_fail fin).elim
  | [.loc _], fin => exact (fin_fail fin).elim
  | [.num _ _], fin => exact (fin_fail fin).elim
  | d :: _ :: _, fin => exact (fin_fail (by cases d <;> exact fin)).elim
theorem sum_ok (hc : X.calm = true) : CallR X (.builtin "sum") (ROC G (bltD .sum1)) := by
  refine callR_imp (cr_sum hc) fun vs H Q ⟨ds, μ, sto, w, r0, fin⟩ => ?_
  match ds, fin with
  | [.loc n], fin =>
    obtain ⟨v, rfl, r⟩ := one_of r0
    obtain ⟨xs, e, fin⟩ := fin_at (show Fin G μ H (lstOf n >>= fun xs => match intsD xs with
      | some is => pure (.int is.sum)
      | none => fail) sto Q from fin) w fun _ _ e => (lstOf_eq e).2
    obtain ⟨a, vs, rfl, sq, r1⟩ := w.sq X.K (lstOf_eq e).1 r
    cases q : intsD xs with
    | none => rw [q] at fin; exact (fin_fail fin).elim
    | some is =>
      rw [q] at fin
      rw [intsD_rep q r1] at sq
      exact ⟨a, is, rfl, sq, fin_pure fin w (by rw [rep_int])⟩
  | [], fin => exact (fin_fail fin).elim
  | [.int _], fin => exact (fin_fail fin).elim
  | [.bl _], fin => exact (fin_fail fin).elim
  | [.non], fin => exact (fin_fail fin).elim
  | [.str _], fin => exact (fin_fail fin).elim
  | [.tup _], fin => exact (fin_fail fin).elim
  | [.num _ _], fin => exact (fin_fail fin).elim
  | d :: _ :: _, fin => exact (fin_fail (by cases d <;> exact fin)).elim
theorem all_ok (hc : X.calm = true) : CallR X (.builtin "all") (ROC G (bltD .all1)) := by
  refine callR_imp (cr_all hc) fun vs H Q ⟨ds, μ, sto, w, r0, fin⟩ => ?_
  match ds, fin with
  | [.loc n], fin =>
    obtain ⟨v, rfl, r⟩ := one_of r0
    obtain ⟨xs, e, fin⟩ := fin_at (show Fin G μ H (lstOf n >>= fun xs => match blsD xs with
      | some is => pure (.bl (is.all id))
      | none => fail) sto Q from fin) w fun _ _ e => (lstOf_eq e).2
    obtain ⟨a, vs, rfl, sq, r1⟩ := w.sq X.K (lstOf_eq e).1 r
    cases q : blsD xs with
    | none => rw [q] at fin; exact (fin_fail fin).elim
    | some is =>
      rw [q] at fin
      rw [blsD_rep q r1] at sq
      exact ⟨a, is, rfl, sq, fin_pure fin w (by rw [rep_bl])⟩
  | [], fin => exact (fin_fail fin).elim
  | [.int _], fin => exact (fin_fail fin).elim
  | [.bl _], fin => exact (fin_fail fin).elim
  | [.non], fin => exact (fin_fail fin).elim
  | [.str _], fin => exact (fin_fail fin).elim
  | [.tup _], fin => exact (fin_fail fin).elim
  | [.num _ _], fin => exact (fin_fail fin).elim
  | d :: _ :: _, fin => exact (fin_fail (by cases d <;> exact fin)).elim
theorem any_ok (hc : X.calm = true) : CallR X (.builtin "any") (ROC G (bltD .any1)) := by
  refine callR_imp (cr_any hc) fun vs H Q ⟨ds, μ, sto, w, r0, fin⟩ => ?_
  match ds, fin with
  | [.loc n], fin =>
    obtain ⟨v, rfl, r⟩ := one_of r0
    obtain ⟨xs, e, fin⟩ := fin_at (show Fin G μ H (lstOf n >>= fun xs => match blsD xs with
      | some is => pure (.bl (is.any id))
      | none => fail) sto Q from fin) w fun _ _ e => (lstOf_eq e).2
    obtain ⟨a, vs, rfl, sq, r1⟩ := w.sq X.K (lstOf_eq e).1 r
    cases q : blsD xs with
    | none => rw [q] at fin; exact (fin_fail fin).elim
    | some is =>
      rw [q] at fin
      rw [blsD_rep q r1] at sq
      exact ⟨a, is, rfl, sq, fin_pure fin w (by rw [rep_bl])⟩
  | [], fin => exact (fin_fail fin).elim
  | [.int _], fin => exact (fin_fail fin).elim
  | [.bl _], fin => exact (fin_fail fin).elim
  | [.non], fin => exact (fin_fail fin).elim
  | [.str _], fin => exact (fin_fail fin).elim
  | [.tup _], fin => exact (fin_fail fin).elim
  | [.num _ _], fin => exact (fin_fail fin).elim
  | d :: _ :: _, fin => exact (fin_fail (by cases d <;> exact fin)).elim
theorem lcm_ok : CallR X (.builtin "math.lcm") (ROC G (bltD .lcm)) := by
  intro pins s σ H vs us Q I r h
  obtain ⟨ds, μ, sto, w, r0, fin⟩ := h
  obtain ⟨i, j, rfl, fin⟩ := ii_of (k := fun i j => if i.natAbs.log2 < 13000 ∧ j.natAbs.log2 < 13000 then pure (.int ((Nat.lcm i.natAbs j.natAbs : Nat) : Int)) else fail) (fun _ _ => rfl) (blt_ii _ (by simp)) r0 fin
  obtain ⟨c, fin⟩ := fin_if fin
  obtain ⟨t, u, rfl⟩ := Vals.int2 r
  exact lcm_wide c.1 c.2 ⟨.int _, H, I.tok _, ⟨_, rfl⟩, fin_pure fin w (by rw [rep_int])⟩
theorem list_ok (hk : CstOk X.K G) : CallR X (.type "list") (ROC G (bltD .list1)) := by
  refine callR_imp call_list_of fun vs H Q ⟨ds, μ, sto, w, r0, fin⟩ => ?_
  match ds, fin with
  | [d], fin =>
    obtain ⟨v, rfl, r⟩ := one_of r0
    obtain ⟨xs, e, fin⟩ := fin_at (show Fin G μ H (rdSeq d >>= fun xs => newL xs) sto Q from fin) w fun _ _ e => (rdSeq_eq e).1
    obtain ⟨a, vs, rfl, r1, sq⟩ := w.seq hk e r
    obtain ⟨z, fin⟩ := fin_newL fin
    exact ⟨a, vs, rfl, sq, fun p hp => fin_new fin w hp ⟨_, upd_same, w.monoL (nxt_new w hp) r1⟩⟩
  | [], fin => exact (fin_fail fin).elim
  | _ :: _ :: _, fin => exact (fin_fail fin).elim
theorem tuple_ok (hk : CstOk X.K G) : CallR X (.type "tuple") (ROC G (bltD .tuple1)) := by
  refine callR_imp call_tuple_of fun vs H Q ⟨ds, μ, sto, w, r0, fin⟩ => ?_
  match ds, fin with
  | [.tup xs], fin =>
    obtain ⟨v, rfl, r⟩ := one_of r0
    obtain ⟨a, vs, rfl, ha, r1⟩ := rep_ref r
    exact ⟨a, vs, rfl, .inr ⟨.inl (.inl ha), fin_pure fin w r⟩⟩
  | [.num n m], fin =>
    obtain ⟨v, rfl, r⟩ := one_of r0
    obtain ⟨a, rfl, q⟩ := rep_numT hk r
    exact ⟨a, _, rfl, .inr ⟨q, fin_pure fin w r⟩⟩
  | [.loc n], fin =>
    obtain ⟨v, rfl, r⟩ := one_of r0
    obtain ⟨xs, e, fin⟩ := fin_at (show Fin G μ H (lstOf n >>= fun xs => mkT xs) sto Q from fin) w fun _ _ e => (lstOf_eq e).2
    obtain ⟨a, vs, rfl, sq, r1⟩ := w.sq X.K (lstOf_eq e).1 r
    obtain ⟨z, fin⟩ := fin_mkT fin
    exact ⟨a, vs, rfl, .inl ⟨sq, fun p hp => fin_tup fin w r1 hp⟩⟩
  | [], fin => exact (fin_fail fin).elim
  | [.int _], fin => exact (fin_fail fin).elim
  | [.bl _], fin => exact (fin_fail fin).elim
  | [.non], fin => exact (fin_fail fin).elim
  | [.str _], fin => exact (fin_fail fin).elim
  | d :: _ :: _, fin => exact (fin_fail (by cases d <;> exact fin)).elim

/-! sorted and min of lists of tuples of ints -/
theorem tupsD_is {K : PySem.W.Frag} {μ : List Addr} {H : Hp} : ∀ {xs : List Dv} {l : List (List Int)} {vs : List V}, tupsD xs = some l → RepL G μ H xs vs → TupIs K H vs l ∧ ∀ p ∈ vs.zip l, Rep G μ H (intsT p.2) p.1
  | [], l, vs, h, r => by
    cases h
    unfold RepL at r
    subst r
    exact ⟨rfl, fun _ z => nomatch z⟩
  | d :: xs, l, vs, h, r => by
    unfold RepL at r
    obtain ⟨v, t, rfl, rv, r⟩ := r
    cases d with
    | tup ys =>
      unfold tupsD at h
      cases q : intsD ys with
      | none => rw [q] at h; cases h
      | some is =>
        cases q2 : tupsD xs with
        | none => rw [q, q2] at h; cases h
        | some m =>
          rw [q, q2] at h
          cases h
          obtain ⟨a, ws, rfl, ha, rw_⟩ := rep_ref rv
          rw [intsD_rep q rw_] at ha
          obtain ⟨t1, t2⟩ := tupsD_is (K := K) q2 r
          refine ⟨⟨is, m, rfl, ⟨a, rfl, .inl (.inl ha)⟩, t1⟩, fun p hp => ?_⟩
          rw [List.zip_cons_cons] at hp
          rcases List.mem_cons.mp hp with rfl | hp
          · exact rep_tup.mpr ⟨a, _, rfl, ha, intsD_repL is⟩
          · exact t2 p hp
    | _ => cases h
theorem repL_fst {μ : List Addr} {H : Hp} : ∀ {zs : List (V × List Int)}, (∀ p ∈ zs, Rep G μ H (intsT p.2) p.1) → RepL G μ H ((zs.map Prod.snd).map intsT) (zs.map Prod.fst)
  | [], _ => repL_nil
  | p :: zs, h => repL_cons (h p (.head _)) (repL_fst fun q hq => h q (.tail _ hq))
theorem insL_perm (a : List Int) : ∀ l : List (List Int), (insL a l).Perm (a :: l)
  | [] => .refl _
  | b :: l => by
    unfold insL
    split
    · exact ((insL_perm a l).cons b).trans (.swap a b l)
    · exact .refl _
theorem isort_perm : ∀ l : List (List Int), (isort l).Perm l
  | [] => .refl _
  | a :: l => (insL_perm a (isort l)).trans ((isort_perm l).cons a)
abbrev SrtL (l : List (List Int)) : Prop := l.Pairwise fun u v => HT.lexLt v u = false
theorem insL_srt {a : List Int} : ∀ {l : List (List Int)}, SrtL l → SrtL (insL a l)
  | [], _ => by unfold insL; simp [SrtL]
  | b :: l, h => by
    have h1 := List.pairwise_cons.mp h
    unfold insL
    split
    · rename_i c
      refine List.pairwise_cons.mpr ⟨fun x hx => ?_, insL_srt h1.2⟩
      rcases List.mem_cons.mp ((insL_perm a l).mem_iff.mp hx) with rfl | hx2
      · exact lex_asym c
      · exact h1.1 x hx2
    · rename_i c
      have c : HT.lexLt b a = false := by simpa using c
      refine List.pairwise_cons.mpr ⟨fun x hx => ?_, h⟩
      rcases List.mem_cons.mp hx with rfl | hx
      · exact c
      · have hb := h1.1 x hx
        cases q : HT.lexLt x a with
        | false => rfl
        | true =>
          rcases lex_tri a b with z | z | z
          · rw [lex_trans q z] at hb; cases hb
          · subst z
            rw [q] at hb; cases hb
          · rw [c] at z; cases z
theorem isort_srt : ∀ l : List (List Int), SrtL (isort l)
  | [] => List.Pairwise.nil
  | a :: l => insL_srt (isort_srt l)
theorem srt_uniq {l m : List (List Int)} (p : l.Perm m) (h1 : SrtL l) (h2 : SrtL m) : l = m := by
  refine List.Perm.eq_of_pairwise (le := fun u v => HT.lexLt v u = false) (fun a b _ _ z1 z2 => ?_) h1 h2 p
  rcases lex_tri a b with z | z | z
  · rw [z2] at z; cases z
  · exact z
  · rw [z1] at z; cases z
theorem sorted_ok : CallR X (.builtin "sorted") (ROC G (bltD .sorted1)) := by
  refine callR_imp cr_sortL fun vs H Q ⟨ds, μ, sto, w, r0, fin⟩ => ?_
  match ds, fin with
  | [.loc n], fin =>
    obtain ⟨v, rfl, r⟩ := one_of r0
    obtain ⟨xs, e, fin⟩ := fin_at (show Fin G μ H (lstOf n >>= fun xs => match tupsD xs with
      | some l => if l.length < 64 ∧ l.all (fun a => !a.isEmpty) = true then newL ((isort l).map intsT) else fail
      | none => fail) sto Q from fin) w fun _ _ e => (lstOf_eq e).2
    obtain ⟨a, vs, rfl, sq, r1⟩ := w.sq X.K (lstOf_eq e).1 r
    cases q : tupsD xs with
    | none => rw [q] at fin; exact (fin_fail fin).elim
    | some l =>
      rw [q] at fin
      obtain ⟨c, fin⟩ := fin_if fin
      obtain ⟨t1, t2⟩ := tupsD_is (K := X.K) q r1
      obtain ⟨z, fin⟩ := fin_newL fin
      refine ⟨a, vs, l, rfl, sq, by rw [← tupIs_len t1]; exact c.1, t1, fun ns hn e => ?_, fun zs p hp hs hn => ?_⟩
      · have := List.all_eq_true.mp c.2 ns hn
        rw [e] at this; cases this
      · have hm : (zs.map Prod.snd).Perm l := by
          have := hp.map Prod.snd
          rwa [List.map_snd_zip (by rw [tupIs_len t1]; exact Nat.le_refl _)] at this
        have he : zs.map Prod.snd = isort l := srt_uniq (hm.trans (isort_perm l).symm) (by rw [SrtL, List.pairwise_map]; exact hs) (isort_srt l)
        have rz : RepL G μ H ((isort l).map intsT) (zs.map Prod.fst) := he ▸ repL_fst fun p hp2 => t2 p (hp.mem_iff.mp hp2)
        exact fin_new fin w hn ⟨_, upd_same, w.monoL (nxt_new w hn) rz⟩
  | [], fin => exact (fin_fail fin).elim
  | [.int _], fin => exact (fin_fail fin).elim
  | [.bl _], fin => exact (fin_fail fin).elim
  | [.non], fin => exact (fin_fail fin).elim
  | [.str _], fin => exact (fin_fail fin).elim
  | [.tup _], fin => exact (fin_fail fin).elim
  | [.num _ _], fin => exact (fin_fail fin).elim
  | d :: _ :: _, fin => exact (fin_fail (by cases d <;> exact fin)).elim
/-- the first least of some -/
theorem minL_at (a : List Int) (l : List (List Int)) : ∀ k, k ≤ l.length → (a :: l)[argBest (btL (a :: l)) k]? = some ((l.take k).foldl (fun m y => if HT.lexLt y m then y else m) a)
  | 0, _ => rfl
  | k + 1, h => by
    have ih := minL_at a l k (Nat.le_of_lt h)
    have hk : k < l.length := h
    have e1 : (a :: l).getD (argBest (btL (a :: l)) k) [] = (l.take k).foldl (fun m y => if HT.lexLt y m then y else m) a := by
      rw [List.getD_eq_getElem?_getD, ih]; rfl
    have e2 : (a :: l).getD (k + 1) [] = l[k] := by
      rw [List.getD_eq_getElem?_getD, List.getElem?_cons_succ, List.getElem?_eq_getElem hk]; rfl
    rw [List.take_succ_eq_append_getElem hk, List.foldl_append]
    show (a :: l)[if btL (a :: l) (k + 1) (argBest (btL (a :: l)) k) then k + 1 else argBest (btL (a :: l)) k]? = some (if HT.lexLt l[k] _ then l[k] else _)
    unfold btL
    unfold btL at e1
    rw [e1, e2]
    split
    · rw [List.getElem?_cons_succ, List.getElem?_eq_getElem hk]
    · unfold btL at ih; exact ih
theorem minl_ok (hc : X.calm = true) (hu : X.A.units + 64 < cLine) : CallR X (.builtin "min") (ROC G (bltD .minl1)) := by
  refine callR_imp (cr_minL hc hu) fun vs H Q ⟨ds, μ, sto, w, r0, fin⟩ => ?_
  match ds, fin with
  | [.loc n], fin =>
    obtain ⟨v, rfl, r⟩ := one_of r0
    obtain ⟨xs, e, fin⟩ := fin_at (show Fin G μ H (lstOf n >>= fun xs => match tupsD xs with
      | some (a :: l) => pure (intsT (minL a l))
      | _ => fail) sto Q from fin) w fun _ _ e => (lstOf_eq e).2
    obtain ⟨a, vs, rfl, sq, r1⟩ := w.sq X.K (lstOf_eq e).1 r
    cases q : tupsD xs with
    | none => rw [q] at fin; exact (fin_fail fin).elim
    | some m =>
      cases m with
      | nil => rw [q] at fin; exact (fin_fail fin).elim
      | cons b l =>
        rw [q] at fin
        obtain ⟨t1, t2⟩ := tupsD_is (K := X.K) q r1
        have len := tupIs_len t1
        refine ⟨a, vs, b :: l, rfl, sq, by rw [← len]; exact Nat.succ_pos _, t1, fun x hx => fin_pure fin w ?_⟩
        have ez : vs.length - 1 = l.length := by rw [← len]; rfl
        rw [ez] at hx
        have e2 := minL_at b l l.length (Nat.le_refl _)
        rw [List.take_length] at e2
        refine t2 (x, minL b l) (List.mem_of_getElem? (i := argBest (btL (b :: l)) l.length) ?_)
        rw [List.getElem?_zip_eq_some]
        exact ⟨hx, e2⟩
  | [], fin => exact (fin_fail fin).elim
  | [.int _], fin => exact (fin_fail fin).elim
  | [.bl _], fin => exact (fin_fail fin).elim
  | [.non], fin => exact (fin_fail fin).elim
  | [.str _], fin => exact (fin_fail fin).elim
  | [.tup _], fin => exact (fin_fail fin).elim
  | [.num _ _], fin => exact (fin_fail fin).elim
  | d :: _ :: _, fin => exact (fin_fail (by cases d <;> exact fin)).elim

/-! repr -/
theorem reprCall {prog : Program} {w : World} {A : Around} {E : Value → Shared → Prop} {s : Shared} {Q : Value → Shared → Prop} {v : Value} {d : PyData} {as : List Addr} (r : Reads s.heap v d as) (hs : d.showable = true) (hsm : d.hasDict = true → sysModules ∉ as) (hg : A.guards = some []) (hu : A.units + (d.depth + 1) < cLine)
    (hQ : ∀ h' u tk, (∀ b o, s.heap.get? b = some o → h'.get? b = some o) → Q (.str d.shown u) { s with heap := h', toks := tk })
    (hsz : d.shown.length ≤ sizeLine) : wpAny (model prog w) A (call (.builtin "repr") [v]) Q E s := by
  cases r with
  | none => exact PySem.P.repr_of_none (hQ s.heap _ _ fun _ _ e => e)
  | bool b => exact PySem.P.repr_of_bool (hQ s.heap _ _ fun _ _ e => e)
  | int i t => exact PySem.P.repr_of_int (of_decide_eq_true (by simpa only [PyData.showable] using hs)) (hQ s.heap _ _ fun _ _ e => e)
  | str x t => exact PySem.P.repr_of_str (hQ s.heap _ _ fun _ _ e => e) hsz
  | list a b c d => exact repr_of_reads' (.list a b c d) hs hsm hg hu (fun _ _ e => e) hQ hsz
  | tuple a b c d => exact repr_of_reads' (.tuple a b c d) hs hsm hg hu (fun _ _ e => e) hQ hsz
  | dict a b c d e => exact repr_of_reads' (.dict a b c d e) hs hsm hg hu (fun _ _ e => e) hQ hsz
theorem pyl_noDict {sto : Sto} : ∀ {k : Nat} {d : Dv} {p : PyData}, pyl sto k d = some p → p.hasDict = false := by
  intro k
  induction k with
  | zero => intro d p e; cases d <;> (unfold pyl at e; cases e) <;> rfl
  | succ k ih =>
    have all : ∀ (ds : List Dv) (ps : List PyData), ds.mapM (pyl sto k) = some ps → PyData.hasDictAll ps = false := by
      intro ds
      induction ds with
      | nil => intro ps e; simp only [List.mapM_nil] at e; cases e; rfl
      | cons d ds ih2 =>
        intro ps e
        rw [List.mapM_cons] at e
        cases q : pyl sto k d with
        | none => rw [q] at e; cases e
        | some x =>
          cases q2 : ds.mapM (pyl sto k) with
          | none => rw [q, q2] at e; cases e
          | some xs =>
            rw [q, q2] at e; cases e
            show (PyData.hasDict x || PyData.hasDictAll xs) = false
            rw [ih q, ih2 xs q2]; rfl
    intro d p e
    cases d with
    | tup ds =>
      unfold pyl at e
      cases q : ds.mapM (pyl sto k) with
      | none => rw [q] at e; cases e
      | some xs => rw [q] at e; cases e; exact all ds xs q
    | loc n =>
      unfold pyl at e
      cases q1 : sto[n]? with
      | none => rw [q1] at e; cases e
      | some c =>
        rw [q1] at e
        cases c with
        | lst ds =>
          simp only at e
          cases q : ds.mapM (pyl sto k) with
          | none => rw [q] at e; cases e
          | some xs => rw [q] at e; cases e; exact all ds xs q
        | _ => cases e
    | _ => unfold pyl at e; cases e; rfl
theorem repr_ok (hk : CstOk X.K G) (hg : X.A.guards = some []) (hu : X.A.units + 64 < cLine) : CallR X (.builtin "repr") (ROC G (bltD .repr1)) := by
  intro pins s σ H vs us Q I rx ⟨ds, μ, sto, w, r0, fin⟩
  match ds, fin with
  | [d], fin =>
    obtain ⟨v, rfl, r⟩ := one_of r0
    obtain ⟨u, rfl, ru⟩ := vals1 rx
    obtain ⟨a, s2, e, q⟩ := fin
    replace e : (match pyl sto 12 d with
      | some x => if x.showable && decide (x.shown.length ≤ 1000000) && decide (x.depth ≤ 30) then Res.ok (Dv.str x.shown) sto else Res.bad
      | none => Res.bad) = Res.ok a s2 := e
    cases q1 : pyl sto 12 d with
    | none => rw [q1] at e; cases e
    | some p =>
      rw [q1] at e
      simp only at e
      split at e
      · rename_i c
        simp only [Bool.and_eq_true, decide_eq_true_eq] at c
        cases e
        have hq : Q (.str p.shown) H := q _ H μ w .refl (by rw [rep_str])
        obtain ⟨as, rd⟩ := Dp.reads I p v u (pyl_dp hk w q1 r) ru
        have hz : p.shown.length ≤ sizeLine := Nat.le_trans c.1.2 (by rw [sizeLine_eq]; decide)
        have hnd := pyl_noDict q1
        exact reprCall rd c.1.1 (fun h => by rw [hnd] at h; cases h) hg (by omega) (fun h' u tk kk => ⟨.str p.shown, H, I.kept kk, ⟨_, rfl⟩, hq⟩) hz
      · cases e
  | [], fin => exact (fin_fail fin).elim
  | d :: _ :: _, fin => exact (fin_fail (by cases d <;> exact fin)).elim
end
end Dd
end
section
set_option Elab.async false
set_option linter.all false
set_option maxRecDepth 100000
namespace Dd
open PySem PySem.Spec PyProof.Rows L2

/-! ### what is known of the text around -/
structure KwP where
  npos : Nat
  ks : List Str
  perm : List Nat
structure FnE where
  name : Str
  ps : List Str
  kws : List KwP
structure SC where
  N : List Str
  names : List (Str × NameKind)
  own : Option (List (Str × NameKind))
  fns : List FnE
  bns : List Str
  ibs : List (Str × String)
def SC.cellOk (Γ : SC) (x : Str) : Bool := match Γ.own with
  | none => true
  | some l => l.lookup x == some .cell
def spD (G : Cst) (f : List Dv → M Dv) : Sp := fun vs H Q _ => ∃ ds μ sto, Wld G μ H sto ∧ RepL G μ H ds vs ∧ Fin G μ H (f ds) sto Q
/-- a def of the text keeps its promise, where no repr runs around -/
structure FnG (P : Program) (w : World) (K : PySem.W.Frag) (mg : Str → Option Value) (base : Heap) (k : Nat) (f : Addr) (fd : FuncData) (ps : List Str) (sp : Sp) : Prop where
  len : ∀ vs H Q E, sp vs H Q E → vs.length = ps.length
  run : ∀ (A : Around) (outer : List Env) (s : Shared) (H : Hp) (args : Args) (us : List Value) (vs : List V) (Q : VK), Room k A → A.guards = some [] → Env0 P w K mg base A outer s H → BindsTo s fd args (ps.zip us) → Vals vs us → sp vs H Q E0 →
    codeAny (model P w) A (.call (.ref f) args) (CR CX0 outer P w H s Q E0) s
structure FnAt (G : Cst) (P : Program) (w : World) (K : PySem.W.Frag) (mg : Str → Option Value) (base : Heap) (k : Nat) (e : FnE) (f : List Dv → M Dv) : Prop where
  ex : ∃ (a : Addr) (fd : FuncData), mg e.name = some (.ref a) ∧ PySem.W.keepIn K (.ref a) = true ∧ Binds K fd e.ps [] ∧ (∀ p ∈ e.kws, KBinds K fd e.ps p.ks (putK p.npos p.ks.length p.perm) (putK p.npos p.ks.length p.perm)) ∧
    FnG P w K mg base k a fd e.ps (spD G f)
structure Ctx (G : Cst) (F : Nat → List Dv → M Dv) (gv : Str → Option Dv) (Γ : SC) (X : Cx) : Prop where
  N : X.N = Γ.N
  nd : Γ.N.Nodup
  calm : X.calm = true
  kind : X.env.scope.kind = .function
  names : X.env.scope.names = Γ.names
  fn : ∀ x, Γ.cellOk x = true → X.env.scope.names.lookup x = some .cell → X.fn x = true
  xe : X.xe = fun _ _ => False
  gd : X.A.guards = some []
  fns : ∃ k, Room k X.A ∧ ∀ (i : Nat) (e : FnE), Γ.fns[i]? = some e → FnAt G X.prog X.w X.K X.mg X.base k e (F i)
  cst : CstOk X.K G
  gls : ∀ (x : Str) (d : Dv), gv x = some d → ∃ v u, X.mg x = some u ∧ RelV v u ∧ ((∃ a n m, d = .num n m ∧ v = .ref a ∧ (a, n, m) ∈ G) ∨ ∃ i, d = .int i ∧ v = .int i)
  bns : ∀ x ∈ Γ.bns, X.mg x = none
  ibs : ∀ p ∈ Γ.ibs, X.mg p.1 = some (.builtin p.2)
theorem Ctx.hu {G F gv Γ X} (c : Ctx G F gv Γ X) : X.A.units + 64 < cLine := let ⟨_, r, _⟩ := c.fns; r.units
theorem Ctx.nds {G F gv Γ X} (c : Ctx G F gv Γ X) : X.N.Nodup := c.N ▸ c.nd

/-! ### views of the text -/
def vName : Expr → Option (Str × Pos) | .Name x p => some (x, p) | _ => none
theorem vName_eq {e x p} (h : vName e = some (x, p)) : e = .Name x p := by cases e <;> simp_all [vName]
def vConst : Expr → Option (Const × Nat × Pos) | .Constant c k p => some (c, k, p) | _ => none
theorem vConst_eq {e c k p} (h : vConst e = some (c, k, p)) : e = .Constant c k p := by cases e <;> simp_all [vConst]
def vTuple : Expr → Option (List Expr × Nat × Pos) | .Tuple c k p => some (c, k, p) | _ => none
theorem vTuple_eq {e c k p} (h : vTuple e = some (c, k, p)) : e = .Tuple c k p := by cases e <;> simp_all [vTuple]
def vList : Expr → Option (List Expr × Pos) | .List c p => some (c, p) | _ => none
theorem vList_eq {e c p} (h : vList e = some (c, p)) : e = .List c p := by cases e <;> simp_all [vList]
def vBin : Expr → Option (Expr × Operator × Expr × Pos) | .BinOp a o b p => some (a, o, b, p) | _ => none
theorem vBin_eq {e a o b p} (h : vBin e = some (a, o, b, p)) : e = .BinOp a o b p := by cases e <;> simp_all [vBin]
def vUn : Expr → Option (UnaryOp × Expr × Pos) | .UnaryOp o a p => some (o, a, p) | _ => none
theorem vUn_eq {e a o p} (h : vUn e = some (o, a, p)) : e = .UnaryOp o a p := by cases e <;> simp_all [vUn]
def vCmp : Expr → Option (Expr × List CmpOp × List Expr × Pos) | .Compare a o b p => some (a, o, b, p) | _ => none
theorem vCmp_eq {e a o b p} (h : vCmp e = some (a, o, b, p)) : e = .Compare a o b p := by cases e <;> simp_all [vCmp]
def vBool : Expr → Option (BoolOp × List Expr × Pos) | .BoolOp o a p => some (o, a, p) | _ => none
theorem vBool_eq {e a o p} (h : vBool e = some (o, a, p)) : e = .BoolOp o a p := by cases e <;> simp_all [vBool]
def vIf : Expr → Option (Expr × Expr × Expr × Pos) | .IfExp a o b p => some (a, o, b, p) | _ => none
theorem vIf_eq {e a o b p} (h : vIf e = some (a, o, b, p)) : e = .IfExp a o b p := by cases e <;> simp_all [vIf]
def vSub : Expr → Option (Expr × Expr × Pos) | .Subscript a b p => some (a, b, p) | _ => none
theorem vSub_eq {e a b p} (h : vSub e = some (a, b, p)) : e = .Subscript a b p := by cases e <;> simp_all [vSub]
def vSlice : Expr → Option (Option Expr × Option Expr × Option Expr × Pos) | .Slice a b c p => some (a, b, c, p) | _ => none
theorem vSlice_eq {e a b c p} (h : vSlice e = some (a, b, c, p)) : e = .Slice a b c p := by cases e <;> simp_all [vSlice]
def vCall : Expr → Option (Expr × List Expr × List Keyword × Pos) | .Call a b c p => some (a, b, c, p) | _ => none
theorem vCall_eq {e a b c p} (h : vCall e = some (a, b, c, p)) : e = .Call a b c p := by cases e <;> simp_all [vCall]
def vAttr : Expr → Option (Expr × Str × Pos) | .Attribute a b p => some (a, b, p) | _ => none
theorem vAttr_eq {e a b p} (h : vAttr e = some (a, b, p)) : e = .Attribute a b p := by cases e <;> simp_all [vAttr]
def vComp : Expr → Option (Expr × List Comprehension × Scope × Pos) | .ListComp a b c p => some (a, b, c, p) | _ => none
theorem vComp_eq {e a b c p} (h : vComp e = some (a, b, c, p)) : e = .ListComp a b c p := by cases e <;> simp_all [vComp]
def isStar : Expr → Bool | .Starred .. => true | _ => false
def isSetE : Expr → Bool | .Set .. => true | _ => false
def isCompE : Expr → Bool | .ListComp .. => true | .SetComp .. => true | .DictComp .. => true | _ => false
theorem star_each {e : Expr} {es : List Expr} {env : Env} (h : isStar e = false) : starEach (e :: es) env = (false, eval e env) :: starEach es env := by
  cases e <;> first | rfl | simp [isStar] at h
theorem star_any : ∀ {es : List Expr} {env : Env} {pos : Pos}, es.all (fun e => !isStar e) = true → (backTo pos (starEach es env)).any (·.1) = false
  | [], _, _, _ => rfl
  | e :: es, env, pos, h => by
    rw [List.all_cons, Bool.and_eq_true] at h
    have h1 : isStar e = false := by simpa using h.1
    rw [star_each h1]
    show (false || (backTo pos (starEach es env)).any (·.1)) = false
    rw [star_any h.2]; rfl
theorem set_fold {e : Expr} {env : Env} (h : isSetE e = false) : ∀ x, foldedSetIterable e env x = pure x := by
  intro x
  cases e <;> first | rfl | simp [isSetE] at h
theorem plain_ix {b : Expr} (h : vSlice b = none) : PlainIx b := by
  intro o i
  cases b <;> first | rfl | simp [vSlice] at h
theorem swaps_no {e : Expr} {t : Option Expr} {l : Nat} {env : Env} (h : isCompE e = false) : swapsWith e t l env = pure false := by
  cases e <;> first | rfl | simp [isCompE] at h

/-! ### names -/
def SC.vis (Γ : SC) (x : Str) : Bool := (match Γ.names.lookup x with | some .local => true | some .cell => true | some .free => true | _ => false)
def SC.sto (Γ : SC) (x : Str) : Bool := (match Γ.names.lookup x with | some .local => true | some .cell => Γ.cellOk x | _ => false)
def SC.gl (Γ : SC) (x : Str) : Bool := (match Γ.names.lookup x with | some .globalImplicit => true | _ => false) && x != ("__debug__" : Str) && x != ("__name__" : Str)
def SC.at (Γ : SC) (i : Nat) (x : Str) : Bool := (match Γ.N[i]? with | some y => decide (y = x) | none => false) && x != ("__debug__" : Str) && x != ("__classdict__" : Str)
section
variable {G : Cst} {F : Nat → List Dv → M Dv} {gv : Str → Option Dv} {Γ : SC} {X : Cx}
theorem Ctx.at (c : Ctx G F gv Γ X) {i : Nat} {x : Str} (h : Γ.at i x = true) : X.N[i]? = some x ∧ (x == ("__debug__" : Str)) = false ∧ (x == ("__classdict__" : Str)) = false := by
  unfold SC.at at h
  simp only [Bool.and_eq_true, bne_iff_ne, ne_eq] at h
  refine ⟨?_, by simpa using h.1.2, by simpa using h.2⟩
  rw [c.N]
  have h1 := h.1.1
  split at h1
  · rename_i y e; rw [e, of_decide_eq_true h1]
  · cases h1
theorem Ctx.vis (c : Ctx G F gv Γ X) {x : Str} (h : Γ.vis x = true) : Vis X.env.scope x := by
  unfold SC.vis at h
  unfold Vis
  rw [c.names]
  split at h
  · rename_i e; exact .inl e
  · rename_i e; exact .inr (.inl e)
  · rename_i e; exact .inr (.inr e)
  · cases h
theorem Ctx.loc (c : Ctx G F gv Γ X) {x : Str} (h : Γ.sto x = true) : L2.Loc X.env.scope x ∧ (X.fn x = true ∨ X.env.scope.names.lookup x = some .local) := by
  unfold SC.sto at h
  unfold L2.Loc
  rw [c.names]
  split at h
  · rename_i e; exact ⟨.inl e, .inr e⟩
  · rename_i e; exact ⟨.inr e, .inl (c.fn x h (by rw [c.names]; exact e))⟩
  · cases h
theorem Ctx.glb (c : Ctx G F gv Γ X) {x : Str} (h : Γ.gl x = true) : Gl X x ∧ (x == ("__debug__" : Str)) = false ∧ x ≠ ("__name__" : Str) := by
  unfold SC.gl at h
  simp only [Bool.and_eq_true, bne_iff_ne, ne_eq] at h
  refine ⟨?_, by simpa using h.1.2, h.2⟩
  have h1 := h.1.1
  unfold Gl Env.kindOf
  rw [c.names]
  split at h1
  · rename_i e; exact e
  · cases h1
end

/-! ### constructs -/
section
variable {G : Cst} {F : Nat → List Dv → M Dv} {gv : Str → Option Dv} {Γ : SC} {X : Cx}
theorem re_var (c : Ctx G F gv Γ X) {i : Nat} {x : Str} {p : Pos} (h1 : Γ.at i x = true) (h2 : Γ.vis x = true) : PE X (.Name x p) (RE G (ev F gv (.var i))) := by
  obtain ⟨a, b, d⟩ := c.at h1
  refine pe_imp (pe_var a (c.vis h2) b d) fun σ H Q h => ?_
  obtain ⟨env, sto, μ, w, e, fin⟩ := h
  unfold ev at fin
  split at fin
  · rename_i d q
    obtain ⟨v, h1, h2⟩ := e.2 i d q
    exact ⟨v, h1, fin_pure fin w h2⟩
  · exact (fin_fail fin).elim
theorem re_cst {x : Expr} {d : Dv} {v : V} {e : E} (h : PE X x (tC v)) (he : ∀ env, ev F gv e env = pure d) (r : ∀ μ H, Rep G μ H d v) : PE X x (RE G (ev F gv e)) :=
  pe_imp h fun σ H Q ⟨env, sto, μ, w, e1, fin⟩ => by
    rw [he] at fin
    exact fin_pure fin w (r μ H)
theorem re_glb (c : Ctx G F gv Γ X) {x : Str} {p : Pos} (h : Γ.gl x = true) : PE X (.Name x p) (RE G (ev F gv (.glb x))) := by
  obtain ⟨a, b, _⟩ := c.glb h
  cases q : gv x with
  | none => exact ⟨fun pins s σ H Q I hq => by
      obtain ⟨env, sto, μ, w, e1, fin⟩ := hq
      unfold ev at fin
      rw [q] at fin
      exact (fin_fail fin).elim⟩
  | some d =>
    obtain ⟨v, u, hm, r, hG⟩ := c.gls x d q
    refine pe_imp (pe_glob a hm r b) fun σ H Q ⟨env, sto, μ, w, e1, fin⟩ => ?_
    unfold ev at fin
    rw [q] at fin
    refine fin_pure fin w ?_
    rcases hG with ⟨a, n, m, rfl, rfl, hG⟩ | ⟨i, rfl, rfl⟩
    · rw [rep_num]; exact ⟨a, rfl, .inr hG⟩
    · rw [rep_int]
theorem pa_nilD : PA X [] (RA G (evs F gv .nil)) :=
  pa_imp pa_nil fun σ H Q ⟨env, sto, μ, w, e1, fin⟩ => by
    unfold evs at fin
    exact fin_pure (R := (RepL G)) fin w repL_nil
theorem fin_two {fa fb : DEnv → M Dv} {α β : Type} {R : Rl α β} {k : Dv → Dv → M α} {σ : L2.St} {H : Hp} {Q : β → Hp → Prop} {env : DEnv} {sto : Sto} {μ : List Addr} (w : Wld G μ H sto) (e : EnvR G μ H env σ)
    (fin : FinW G R μ H (fa env >>= fun x => fb env >>= fun y => k x y) sto Q) :
    RE G fa σ H fun v H1 => RE G fb σ H1 fun u H2 => ∃ x y μ sto, Wld G μ H2 sto ∧ Rep G μ H2 x v ∧ Rep G μ H2 y u ∧ FinW G R μ H2 (k x y) sto Q := by
  obtain ⟨x, sto1, h1, k1⟩ := fin_bind fin
  refine ⟨env, sto, μ, w, e, x, sto1, h1, fun v H1 μ1 w1 n1 r1 => ?_⟩
  obtain ⟨y, sto2, h2, k2⟩ := fin_bind (k1 H1 μ1 w1 n1)
  exact ⟨env, sto1, μ1, w1, e.nxt w n1, y, sto2, h2, fun u H2 μ2 w2 n2 r2 => ⟨x, y, μ2, sto2, w2, w1.mono n2 r1, r2, k2 H2 μ2 w2 n2⟩⟩
theorem fin_one {fa : DEnv → M Dv} {α β : Type} {R : Rl α β} {k : Dv → M α} {σ : L2.St} {H : Hp} {Q : β → Hp → Prop} {env : DEnv} {sto : Sto} {μ : List Addr} (w : Wld G μ H sto) (e : EnvR G μ H env σ)
    (fin : FinW G R μ H (fa env >>= fun x => k x) sto Q) :
    RE G fa σ H fun v H1 => ∃ x μ1 sto, Wld G μ1 H1 sto ∧ EnvR G μ1 H1 env σ ∧ Nxt μ H μ1 H1 ∧ Rep G μ1 H1 x v ∧ FinW G R μ1 H1 (k x) sto Q := by
  obtain ⟨x, sto1, h1, k1⟩ := fin_bind fin
  exact ⟨env, sto, μ, w, e, x, sto1, h1, fun v H1 μ1 w1 n1 r1 => ⟨x, μ1, sto1, w1, e.nxt w n1, n1, r1, k1 H1 μ1 w1 n1⟩⟩
theorem pa_consD {e : Expr} {es : List Expr} {a : E} {as : Es} (hs : isStar e = false) (ha : PE X e (RE G (ev F gv a))) (hb : PA X es (RA G (evs F gv as))) : PA X (e :: es) (RA G (evs F gv (.cons a as))) := by
  refine pa_imp (pa_cons ha hb (star_each hs)) fun σ H Q ⟨env, sto, μ, w, e1, fin⟩ => ?_
  replace fin : FinW G (RepL G) μ H (ev F gv a env >>= fun d => evs F gv as env >>= fun ds => pure (d :: ds)) sto Q := by unfold evs at fin; exact fin
  obtain ⟨x, sto1, h1, k1⟩ := fin_bind fin
  refine ⟨env, sto, μ, w, e1, x, sto1, h1, fun v H1 μ1 w1 n1 r1 => ?_⟩
  obtain ⟨y, sto2, h2, k2⟩ := fin_bind (k1 H1 μ1 w1 n1)
  exact ⟨env, sto1, μ1, w1, e1.nxt w n1, y, sto2, h2, fun u H2 μ2 w2 n2 r2 => fin_pure (k2 H2 μ2 w2 n2) w2 (repL_cons (w1.mono n2 r1) r2)⟩
theorem re_tup {es : List Expr} {k : Nat} {p : Pos} {as : Es} (h : PA X es (RA G (evs F gv as))) : PE X (.Tuple es k p) (RE G (ev F gv (.tup as))) := by
  refine pe_imp (pe_tup h) fun σ H Q ⟨env, sto, μ, w, e1, fin⟩ => ?_
  replace fin : Fin G μ H (evs F gv as env >>= fun ds => mkT ds) sto Q := by unfold ev at fin; exact fin
  obtain ⟨x, sto1, h1, k1⟩ := fin_bind fin
  refine ⟨env, sto, μ, w, e1, x, sto1, h1, fun vs H1 μ1 w1 n1 r1 => ?_⟩
  obtain ⟨z, fin⟩ := fin_mkT (k1 H1 μ1 w1 n1)
  exact ⟨by rw [repL_len r1]; exact small_ok z, fun p hp => fin_tup fin w1 r1 hp⟩
theorem re_lst {es : List Expr} {p : Pos} {as : Es} (h : PA X es (RA G (evs F gv as))) : PE X (.List es p) (RE G (ev F gv (.lst as))) := by
  refine pe_imp (pe_lst h) fun σ H Q ⟨env, sto, μ, w, e1, fin⟩ => ?_
  replace fin : Fin G μ H (evs F gv as env >>= fun ds => newL ds) sto Q := by unfold ev at fin; exact fin
  obtain ⟨x, sto1, h1, k1⟩ := fin_bind fin
  refine ⟨env, sto, μ, w, e1, x, sto1, h1, fun vs H1 μ1 w1 n1 r1 => ?_⟩
  obtain ⟨z, fin⟩ := fin_newL (k1 H1 μ1 w1 n1)
  exact ⟨by rw [repL_len r1]; exact small_ok z, fun p hp => fin_new fin w1 hp ⟨_, upd_same, w1.monoL (nxt_new w1 hp) r1⟩⟩
theorem re_num {x y : Expr} {k : Nat} {p : Pos} {a b : E} (sx : isStar x = false) (sy : isStar y = false) (ha : PE X x (RE G (ev F gv a))) (hb : PE X y (RE G (ev F gv b))) : PE X (.Tuple [x, y] k p) (RE G (ev F gv (.num a b))) := by
  refine pe_imp (pe_tup (pa_cons ha (pa_cons hb pa_nil (star_each sy)) (star_each sx))) fun σ H Q ⟨env, sto, μ, w, e1, fin⟩ => ?_
  replace fin : Fin G μ H (ev F gv a env >>= fun x => ev F gv b env >>= fun y => match x, y with
    | .int n, .int m => pure (.num n m)
    | _, _ => fail) sto Q := by unfold ev at fin; exact fin
  obtain ⟨x, sto1, h1, k1⟩ := fin_bind fin
  refine ⟨env, sto, μ, w, e1, x, sto1, h1, fun v H1 μ1 w1 n1 r1 => ?_⟩
  obtain ⟨y, sto2, h2, k2⟩ := fin_bind (k1 H1 μ1 w1 n1)
  refine ⟨env, sto1, μ1, w1, e1.nxt w n1, y, sto2, h2, fun u H2 μ2 w2 n2 r2 => ?_⟩
  have f := k2 H2 μ2 w2 n2
  cases x with
  | int n =>
    cases y with
    | int m =>
      refine ⟨by rw [sizeLine_eq]; exact (show (2 : Nat) ≤ 16777216 by decide), fun q hq => ?_⟩
      obtain ⟨d, s3, e, k3⟩ := f
      cases e
      refine k3 _ _ _ (wld_tup w2 hq) (nxt_tup w2 hq) ?_
      rw [rep_num]
      exact ⟨q, rfl, .inl (by rw [repI r1, repI r2]; exact upd_same)⟩
    | _ => exact (fin_fail f).elim
  | _ => exact (fin_fail (by cases y <;> exact f)).elim
theorem re_bin {x y : Expr} {p : Pos} {o : Bo} {a b : E} (ha : PE X x (RE G (ev F gv a))) (hb : PE X y (RE G (ev F gv b))) : PE X (.BinOp x (boOf o) y p) (RE G (ev F gv (.bin o a b))) := by
  refine pe_imp (pe_op (opB_ok (G := G) o) ha hb) fun σ H Q ⟨env, sto, μ, w, e1, fin⟩ => ?_
  refine fin_two w e1 (k := opB o) ?_
  unfold ev at fin
  exact fin
theorem re_neg {x : Expr} {p : Pos} {a : E} (ha : PE X x (RE G (ev F gv a))) : PE X (.UnaryOp .USub x p) (RE G (ev F gv (.neg a))) := by
  refine pe_imp (pe_un un_neg ha) fun σ H Q ⟨env, sto, μ, w, e1, fin⟩ => ?_
  replace fin : Fin G μ H (ev F gv a env >>= fun d => match d with
    | .int i => pure (.int (-i))
    | _ => fail) sto Q := by unfold ev at fin; exact fin
  obtain ⟨x, sto1, h1, k1⟩ := fin_bind fin
  refine ⟨env, sto, μ, w, e1, x, sto1, h1, fun v H1 μ1 w1 n1 r1 => ?_⟩
  have f1 := k1 H1 μ1 w1 n1
  cases x with
  | int i => exact ⟨i, repI r1, fin_pure f1 w1 (by rw [rep_int])⟩
  | _ => exact (fin_fail f1).elim
theorem fin_bl {μ : List Addr} {H : Hp} {sto : Sto} {m : M Bool} {Q : VK} (h : Fin G μ H (m >>= fun b => pure (.bl b)) sto Q) : FinW G (fun μ H a b => Rep G μ H (.bl a) b) μ H m sto Q := by
  obtain ⟨a, s2, e, q⟩ := h
  obtain ⟨x, s1, e1, e2⟩ := bind_ok e
  cases e2
  exact ⟨x, _, e1, q⟩
theorem fin_eqR {μ : List Addr} {H : Hp} {sto : Sto} {m : M Bool} {Q : Bool → Hp → Prop} (h : FinW G eqR μ H m sto Q) : FinW G (fun μ H a b => Rep G μ H (.bl a) b) μ H m sto fun v H' => ∃ k, v = .bl k ∧ Q k H' := by
  obtain ⟨a, s2, e, q⟩ := h
  exact ⟨a, s2, e, fun b H' μ' w n r => ⟨a, rep_bl.mp r, q a H' μ' w n rfl⟩⟩
theorem mark_ok (b : Expr) {o : Co} (h : ∀ c k p, b ≠ .Constant c k p) (h2 : isSetE b = false) (h3 : vList b = none) (h4 : vTuple b = none) : behindInMarks (coOf o) b = false := by
  cases b <;> simp_all [behindInMarks, isSetE, vList, vTuple]
theorem re_cmp (c : Ctx G F gv Γ X) {x y : Expr} {p : Pos} {o : Co} {a b : E} (ha : PE X x (RE G (ev F gv a))) (hb : PE X y (RE G (ev F gv b))) (hm : behindInMarks (coOf o) y = false) : PE X (.Compare x [coOf o] [y] p) (RE G (ev F gv (.cmp o a b))) := by
  refine pe_imp (pe_cmpR (opC_ok (G := G) c.cst c.hu o) ha hb hm) fun σ H Q ⟨env, sto, μ, w, e1, fin⟩ => ?_
  replace fin : Fin G μ H (ev F gv a env >>= fun x => ev F gv b env >>= fun y => opC o x y >>= fun b => pure (.bl b)) sto Q := by unfold ev at fin; exact fin
  have f := fin_two w e1 (k := fun x y => opC o x y >>= fun b => (pure (Dv.bl b) : M Dv)) fin
  obtain ⟨env, sto, μ, w, e1, x, s1, h1, f⟩ := f
  refine ⟨env, sto, μ, w, e1, x, s1, h1, fun v H1 μ1 w1 n1 r1 => ?_⟩
  obtain ⟨env, sto, μ, w, e1, x, s1, h1, f⟩ := f v H1 μ1 w1 n1 r1
  refine ⟨env, sto, μ, w, e1, x, s1, h1, fun v H1 μ1 w1 n1 r1 => ?_⟩
  obtain ⟨x, y, μ, sto, w, rx, ry, fin⟩ := f v H1 μ1 w1 n1 r1
  exact ⟨x, y, μ, sto, w, rx, ry, fin_bl fin⟩
theorem rt_cmp (c : Ctx G F gv Γ X) {x y : Expr} {p : Pos} {o : Co} {a b : E} (ha : PE X x (RE G (ev F gv a))) (hb : PE X y (RE G (ev F gv b))) (hm : behindInMarks (coOf o) y = false) : PT X (.Compare x [coOf o] [y] p) (RT G (tst F gv (.cmp o a b))) := by
  refine pt_imp (pt_cmpR (opC_ok (G := G) c.cst c.hu o) ha hb hm) fun σ H Q ⟨env, sto, μ, w, e1, fin⟩ => ?_
  replace fin : FinW G eqR μ H (ev F gv a env >>= fun x => ev F gv b env >>= fun y => opC o x y) sto Q := by unfold tst at fin; exact fin
  have f := fin_two w e1 (k := opC o) fin
  obtain ⟨env, sto, μ, w, e1, x, s1, h1, f⟩ := f
  refine ⟨env, sto, μ, w, e1, x, s1, h1, fun v H1 μ1 w1 n1 r1 => ?_⟩
  obtain ⟨env, sto, μ, w, e1, x, s1, h1, f⟩ := f v H1 μ1 w1 n1 r1
  refine ⟨env, sto, μ, w, e1, x, s1, h1, fun v H1 μ1 w1 n1 r1 => ?_⟩
  obtain ⟨x, y, μ, sto, w, rx, ry, fin⟩ := f v H1 μ1 w1 n1 r1
  exact ⟨x, y, μ, sto, w, rx, ry, fin_eqR fin⟩
end
end Dd
end
section
set_option Elab.async false
set_option linter.all false
set_option maxRecDepth 100000
namespace Dd
open PySem PySem.Spec PyProof.Rows L2

/-! ### calls of defs -/
/-- what the code of a def does, seen from the call -/
theorem called {X : Cx} {a : Addr} {w : Args} {pins : List (Addr × Obj)} {σ : L2.St} {H : Hp} {s : Shared} {Q : VK} (I : Inv X pins σ H s) (c : codeAny (model X.prog X.w) X.A (.call (.ref a) w) (CR CX0 X.stack X.prog X.w H s Q E0) s) :
    wpAny (model X.prog X.w) X.A (call (.ref a) w.pos w.kw) (EP X pins σ Q) X.xe s :=
  wpAny_call (codeAny_mono c fun
    | .ok (.ret _), _, q => I.after q
    | .ok .next, _, q => q.elim
    | .ok .brk, _, q => q.elim
    | .ok .cont, _, q => q.elim
    | .error _, _, q => q.elim)
section
variable {X : Cx} {k : Nat} {a : Addr} {fd : FuncData} {ps ks : List Str} {sp : Sp} {x : Str} {p pos : Pos} {e : Expr} {es : List Expr} {kws : List Keyword} {t tk : TA}
theorem pe_callG (F : FnG X.prog X.w X.K X.mg X.base k a fd ps sp) (room : Room k X.A) (nog : X.A.guards = some []) (gx : Gl X x) (dx : (x == ("__debug__" : Str)) = false) (mx : X.mg x = some (.ref a)) (keep : PySem.W.keepIn X.K (.ref a) = true) (bs : Binds X.K fd ps [])
    (ha : PA X (e :: es) t) (s1 : isStar e = false) (s2 : es.all (fun e => !isStar e) = true) : PE X (.Call (.Name x p) (e :: es) [] pos) (tCall sp [] E0 t) where
  run pins s σ H Q I h := by
    apply wpAny_Call_Name_kw (ld_glob I gx mx _ dx)
    refine PySem.W.callWith_K (h₀ := X.base) I.ok.mod.kin keep (thn (ha.run pos pins s σ H _ I h) ?_) (star_each s1) (star_any s2)
    rintro us s1 ⟨vs, H1, J, r, q⟩
    have len : us.length = ps.length := r.length.symm.trans (by simpa using F.len _ _ _ _ q)
    refine ⟨J.kIn, called J (w := ⟨us, []⟩) ?_⟩
    have b := bs s1 us J.kIn (by simpa using len)
    exact F.run X.A X.stack s1 H1 _ _ _ Q room nog J.env0 b (r.append .nil) q
theorem pe_callKG {g : List Value → List Value → List Value} {gV : List V → List V → List V} (F : FnG X.prog X.w X.K X.mg X.base k a fd ps sp) (room : Room k X.A) (nog : X.A.guards = some []) (gx : Gl X x) (dx : (x == ("__debug__" : Str)) = false) (mx : X.mg x = some (.ref a)) (keep : PySem.W.keepIn X.K (.ref a) = true) (bs : KBinds X.K fd ps ks g gV)
    (ha : PA X (e :: es) t) (hkw : PK X kws tk) (all : (backToKw pos (keywordEach kws X.env)).all (·.1.isSome) = true) (same : (backToKw pos (keywordEach kws X.env)).filterMap (·.1) = ks)
    (s1 : isStar e = false) (s2 : ((backTo pos (starEach (e :: es) X.env)).any (·.1) || (backToKw pos (keywordEach kws X.env)).any (·.1.isNone)) = false) :
    PE X (.Call (.Name x p) (e :: es) kws pos) (tCallK sp gV E0 t tk) where
  run pins s σ H Q I h := by
    apply wpAny_Call_Name_kw (ld_glob I gx mx _ dx)
    refine PySem.W.callWith_KW (h₀ := X.base) I.ok.mod.kin keep all (thn (ha.run pos pins s σ H _ I h) ?_) s2 (star_each s1)
    rintro us s1 ⟨vs, H1, J, r, q⟩
    refine thn (hkw.run pos pins s1 σ H1 _ J q) ?_
    rintro ws s2 ⟨zs, H2, L, rz, q2⟩
    refine ⟨L.kIn, ?_⟩
    rw [same]
    have both := bs.rel r rz
    have len : (g us ws).length = ps.length := both.length.symm.trans (F.len _ _ _ _ q2)
    exact called L (w := ⟨us, ks.zip ws⟩) (F.run X.A X.stack s2 H2 _ _ _ Q room nog L.env0 (bs.to s2 us ws L.kIn len) both q2)
theorem pe_callKG0 {g : List Value → List Value → List Value} {gV : List V → List V → List V} (F : FnG X.prog X.w X.K X.mg X.base k a fd ps sp) (room : Room k X.A) (nog : X.A.guards = some []) (gx : Gl X x) (dx : (x == ("__debug__" : Str)) = false) (mx : X.mg x = some (.ref a)) (keep : PySem.W.keepIn X.K (.ref a) = true) (bs : KBinds X.K fd ps ks g gV)
    (hkw : PK X kws tk) (all : (backToKw pos (keywordEach kws X.env)).all (·.1.isSome) = true) (same : (backToKw pos (keywordEach kws X.env)).filterMap (·.1) = ks)
    (s2 : ((backTo pos (starEach [] X.env)).any (·.1) || (backToKw pos (keywordEach kws X.env)).any (·.1.isNone)) = false) :
    PE X (.Call (.Name x p) [] kws pos) (tCallK sp gV E0 tNil tk) where
  run pins s σ H Q I h := by
    apply wpAny_Call_Name_kw (ld_glob I gx mx _ dx)
    refine PySem.W.callWith_KW0 (h₀ := X.base) I.ok.mod.kin keep all (thn (hkw.run pos pins s σ H _ I h) ?_) s2
    rintro ws s2 ⟨zs, H2, L, rz, q2⟩
    refine ⟨L.kIn, ?_⟩
    rw [same]
    have both := bs.rel .nil rz
    have len : (g [] ws).length = ps.length := both.length.symm.trans (F.len _ _ _ _ q2)
    exact called L (w := ⟨[], ks.zip ws⟩) (F.run X.A X.stack s2 H2 _ _ _ Q room nog L.env0 (bs.to s2 [] ws L.kIn len) both q2)
end
theorem lm_ok {o o' : Co} {b c : Expr} (h : lastMarks [coOf o, coOf o'] [b, c] = false) : lastMarks [coOf o, coOf o'] [b, c] = false := h

section
variable {G : Cst} {F : Nat → List Dv → M Dv} {gv : Str → Option Dv} {Γ : SC} {X : Cx}
theorem re_call (c : Ctx G F gv Γ X) {x : Str} {p pos : Pos} {f : Nat} {fe : FnE} {e : Expr} {es : List Expr} {as : Es} (hf : Γ.fns[f]? = some fe) (hn : fe.name = x) (hg : Γ.gl x = true) (hs : (e :: es).all (fun e => !isStar e) = true)
    (ha : PA X (e :: es) (RA G (evs F gv as))) : PE X (.Call (.Name x p) (e :: es) [] pos) (RE G (ev F gv (.call f as))) := by
  obtain ⟨k, hr, hfn⟩ := c.fns
  obtain ⟨a, fd, hm, hk, hb, _, FF⟩ := (hfn f fe hf).ex
  obtain ⟨g1, g2, g3⟩ := c.glb hg
  subst hn
  rw [List.all_cons, Bool.and_eq_true] at hs
  refine pe_imp (pe_callG FF hr c.gd g1 g2 hm hk hb ha (by simpa using hs.1) hs.2) fun σ H Q ⟨env, sto, μ, w, e1, fin⟩ => ?_
  replace fin : Fin G μ H (evs F gv as env >>= fun ds => F f ds) sto Q := by unfold ev at fin; exact fin
  obtain ⟨ds, sto1, h1, k1⟩ := fin_bind fin
  refine ⟨env, sto, μ, w, e1, ds, sto1, h1, fun vs H1 μ1 w1 n1 r1 => ?_⟩
  show spD G (F f) (vs ++ []) H1 Q E0
  rw [List.append_nil]
  exact ⟨ds, μ1, sto1, w1, r1, k1 H1 μ1 w1 n1⟩
/-- the values of keywords -/
def kwOk (ks : List Str) : List Keyword → Bool
  | [] => ks.isEmpty
  | kw :: r => match ks with
    | [] => false
    | k :: ks' => (match kw.arg with | some a => decide (a = k) | none => false) && kwOk ks' r
theorem kw_eq : ∀ {ks : List Str} {kws : List Keyword} {pos : Pos} {env : Env}, kwOk ks kws = true →
    (backToKw pos (keywordEach kws env)).filterMap (·.1) = ks ∧ (backToKw pos (keywordEach kws env)).all (·.1.isSome) = true ∧ (backToKw pos (keywordEach kws env)).any (·.1.isNone) = false
  | ks, [], pos, env, h => by
    cases ks with
    | nil => exact ⟨rfl, rfl, rfl⟩
    | cons _ _ => cases h
  | ks, ⟨arg, v, kp⟩ :: r, pos, env, h => by
    cases ks with
    | nil => cases h
    | cons k ks' =>
      unfold kwOk at h
      rw [Bool.and_eq_true] at h
      obtain ⟨h1, h2⟩ := h
      obtain ⟨a1, a2, a3⟩ := kw_eq (pos := pos) (env := env) h2
      cases arg with
      | none => cases h1
      | some a =>
        have e : a = k := of_decide_eq_true h1
        subst e
        refine ⟨?_, ?_, ?_⟩
        · show List.filterMap _ ((some a, _) :: backToKw pos (keywordEach r env)) = _
          rw [List.filterMap_cons]
          exact congrArg _ a1
        · show (true && (backToKw pos (keywordEach r env)).all (·.1.isSome)) = true
          rw [a2]; rfl
        · show (false || (backToKw pos (keywordEach r env)).any (·.1.isNone)) = false
          rw [a3]; rfl
theorem pk_nilD : PK X [] (RA G (evs F gv .nil)) := ⟨fun pos pins s σ H Q I h => by
  refine pk_nil.run pos pins s σ H Q I ?_
  obtain ⟨env, sto, μ, w, e1, fin⟩ := h
  unfold evs at fin
  exact fin_pure (R := (RepL G)) fin w repL_nil⟩
theorem pk_consD {nm : Option Str} {e : Expr} {kpos : Pos} {kws : List Keyword} {a : E} {as : Es} (ha : PE X e (RE G (ev F gv a))) (hb : PK X kws (RA G (evs F gv as))) : PK X (⟨nm, e, kpos⟩ :: kws) (RA G (evs F gv (.cons a as))) := ⟨fun pos pins s σ H Q I h => by
  refine (pk_cons ha hb).run pos pins s σ H Q I ?_
  obtain ⟨env, sto, μ, w, e1, fin⟩ := h
  replace fin : FinW G (RepL G) μ H (ev F gv a env >>= fun d => evs F gv as env >>= fun ds => pure (d :: ds)) sto Q := by unfold evs at fin; exact fin
  obtain ⟨x, sto1, h1, k1⟩ := fin_bind fin
  refine ⟨env, sto, μ, w, e1, x, sto1, h1, fun v H1 μ1 w1 n1 r1 => ?_⟩
  obtain ⟨y, sto2, h2, k2⟩ := fin_bind (k1 H1 μ1 w1 n1)
  exact ⟨env, sto1, μ1, w1, e1.nxt w n1, y, sto2, h2, fun u H2 μ2 w2 n2 r2 => fin_pure (k2 H2 μ2 w2 n2) w2 (repL_cons (w1.mono n2 r1) r2)⟩⟩
theorem repL_perm {μ : List Addr} {H : Hp} {all : List Dv} {vs : List V} (r : RepL G μ H all vs) : ∀ (perm : List Nat), RepL G μ H (perm.filterMap fun i => all[i]?) (perm.filterMap fun i => vs[i]?)
  | [] => repL_nil
  | i :: p => by
    rw [List.filterMap_cons, List.filterMap_cons]
    cases q : all[i]? with
    | none =>
      have : vs[i]? = none := by
        rw [List.getElem?_eq_none_iff] at q ⊢
        rw [repL_len r]; exact q
      rw [this]
      exact repL_perm r p
    | some d =>
      obtain ⟨v, hv, rv⟩ := repL_get r q
      rw [hv]
      exact repL_cons rv (repL_perm r p)
theorem repL_putK {μ : List Addr} {H : Hp} {us zs : List Dv} {vs ws : List V} (r : RepL G μ H us vs) (r2 : RepL G μ H zs ws) (a b : Nat) (perm : List Nat) : RepL G μ H (putK a b perm us zs) (putK a b perm vs ws) := by
  unfold putK
  rw [repL_len r, repL_len r2]
  split
  · exact repL_perm (repL_app r r2) perm
  · exact repL_nil
theorem re_callk (c : Ctx G F gv Γ X) {x : Str} {p pos : Pos} {f : Nat} {fe : FnE} {e : Expr} {es : List Expr} {kws : List Keyword} {as bs : Es} {kp : KwP} (hf : Γ.fns[f]? = some fe) (hn : fe.name = x) (hg : Γ.gl x = true) (hs : (e :: es).all (fun e => !isStar e) = true)
    (hp : kp ∈ fe.kws) (hk : kwOk kp.ks kws = true) (ha : PA X (e :: es) (RA G (evs F gv as))) (hb : PK X kws (RA G (evs F gv bs))) : PE X (.Call (.Name x p) (e :: es) kws pos) (RE G (ev F gv (.callk f as bs kp.npos kp.ks.length kp.perm))) := by
  obtain ⟨k, hr, hfn⟩ := c.fns
  obtain ⟨a, fd, hm, hkp, _, hkb, FF⟩ := (hfn f fe hf).ex
  obtain ⟨g1, g2, g3⟩ := c.glb hg
  subst hn
  have hs0 := star_any (env := X.env) (pos := pos) hs
  rw [List.all_cons, Bool.and_eq_true] at hs
  obtain ⟨k1, k2, k3⟩ := kw_eq (pos := pos) (env := X.env) hk
  refine pe_imp (pe_callKG FF hr c.gd g1 g2 hm hkp (hkb kp hp) ha hb k2 k1 (by simpa using hs.1) (by rw [hs0, k3]; rfl)) fun σ H Q ⟨env, sto, μ, w, e1, fin⟩ => ?_
  replace fin : Fin G μ H (evs F gv as env >>= fun ds => evs F gv bs env >>= fun zs => F f (putK kp.npos kp.ks.length kp.perm ds zs)) sto Q := by unfold ev at fin; exact fin
  obtain ⟨ds, sto1, h1, k1⟩ := fin_bind fin
  refine ⟨env, sto, μ, w, e1, ds, sto1, h1, fun vs H1 μ1 w1 n1 r1 => ?_⟩
  obtain ⟨zs, sto2, h2, k2⟩ := fin_bind (k1 H1 μ1 w1 n1)
  exact ⟨env, sto1, μ1, w1, e1.nxt w n1, zs, sto2, h2, fun us H2 μ2 w2 n2 r2 => ⟨_, μ2, sto2, w2, repL_putK (w1.monoL n2 r1) r2 _ _ _, k2 H2 μ2 w2 n2⟩⟩
theorem re_callk0 (c : Ctx G F gv Γ X) {x : Str} {p pos : Pos} {f : Nat} {fe : FnE} {kws : List Keyword} {bs : Es} {kp : KwP} (hf : Γ.fns[f]? = some fe) (hn : fe.name = x) (hg : Γ.gl x = true)
    (hp : kp ∈ fe.kws) (hk : kwOk kp.ks kws = true) (hb : PK X kws (RA G (evs F gv bs))) : PE X (.Call (.Name x p) [] kws pos) (RE G (ev F gv (.callk f .nil bs kp.npos kp.ks.length kp.perm))) := by
  obtain ⟨k, hr, hfn⟩ := c.fns
  obtain ⟨a, fd, hm, hkp, _, hkb, FF⟩ := (hfn f fe hf).ex
  obtain ⟨g1, g2, g3⟩ := c.glb hg
  subst hn
  obtain ⟨k1, k2, k3⟩ := kw_eq (pos := pos) (env := X.env) hk
  refine pe_imp (pe_callKG0 FF hr c.gd g1 g2 hm hkp (hkb kp hp) hb k2 k1 (by rw [k3]; rfl)) fun σ H Q ⟨env, sto, μ, w, e1, fin⟩ => ?_
  replace fin : Fin G μ H (evs F gv .nil env >>= fun ds => evs F gv bs env >>= fun zs => F f (putK kp.npos kp.ks.length kp.perm ds zs)) sto Q := by unfold ev at fin; exact fin
  have nil : evs F gv .nil env sto = .ok [] sto := by unfold evs; rfl
  obtain ⟨r, s2, e, q⟩ := fin
  rw [bind_ok_of nil] at e
  obtain ⟨zs, sto2, h2, e⟩ := bind_ok e
  exact ⟨env, sto, μ, w, e1, zs, sto2, h2, fun us H2 μ2 w2 n2 r2 => ⟨_, μ2, sto2, w2, repL_putK repL_nil r2 _ _ _, r, s2, e, fun b H' μ' w' n' r' => q b H' μ' w' (n2.trans n') r'⟩⟩

/-! ### the rest of the expressions -/
theorem re_chain (c : Ctx G F gv Γ X) {x y z : Expr} {p : Pos} {o o' : Co} {a b d : E} (ha : PE X x (RE G (ev F gv a))) (hb : PE X y (RE G (ev F gv b))) (hd : PE X z (RE G (ev F gv d))) (hm : lastMarks [coOf o, coOf o'] [y, z] = false) : PE X (.Compare x [coOf o, coOf o'] [y, z] p) (RE G (ev F gv (.chain o o' a b d))) := by
  refine pe_imp (pe_chain (opC_ok (G := G) c.cst c.hu o) (opC_ok (G := G) c.cst c.hu o') ha hb hd hm) fun σ H Q ⟨env, sto, μ, w, e1, fin⟩ => ?_
  replace fin : Fin G μ H (ev F gv a env >>= fun x => ev F gv b env >>= fun y => opC o x y >>= fun t => if t = true then (ev F gv d env >>= fun z => opC o' y z >>= fun b => pure (.bl b)) else pure (.bl false)) sto Q := by unfold ev at fin; exact fin
  obtain ⟨x, sto1, h1, f1⟩ := fin_bind fin
  refine ⟨env, sto, μ, w, e1, x, sto1, h1, fun v H1 μ1 w1 n1 r1 => ?_⟩
  obtain ⟨y, sto2, h2, f2⟩ := fin_bind (f1 H1 μ1 w1 n1)
  refine ⟨env, sto1, μ1, w1, e1.nxt w n1, y, sto2, h2, fun u H2 μ2 w2 n2 r2 => ?_⟩
  obtain ⟨t, sto3, h3, f3⟩ := fin_bind (f2 H2 μ2 w2 n2)
  refine ⟨x, y, μ2, sto2, w2, w1.mono n2 r1, r2, t, sto3, h3, fun b H3 μ3 w3 n3 r3 => ⟨t, rep_bl.mp r3, ?_⟩⟩
  have f4 := f3 H3 μ3 w3 n3
  cases t with
  | false => exact iteF (fin_pure f4 w3 (by rw [rep_bl]))
  | true =>
    refine iteT ?_
    obtain ⟨z, sto4, h4, f5⟩ := fin_bind (show Fin G μ3 H3 (ev F gv d env >>= fun z => opC o' y z >>= fun b => pure (.bl b)) sto3 Q from f4)
    refine ⟨env, sto3, μ3, w3, ((e1.nxt w n1).nxt w1 n2).nxt w2 n3, z, sto4, h4, fun q H4 μ4 w4 n4 r4 => ?_⟩
    exact ⟨y, z, μ4, sto4, w4, w3.mono n4 (w2.mono n3 r2), r4, fin_bl (f5 H4 μ4 w4 n4)⟩
theorem rt_chain (c : Ctx G F gv Γ X) {x y z : Expr} {p : Pos} {o o' : Co} {a b d : E} (ha : PE X x (RE G (ev F gv a))) (hb : PE X y (RE G (ev F gv b))) (hd : PE X z (RE G (ev F gv d))) (hm : lastMarks [coOf o, coOf o'] [y, z] = false) : PT X (.Compare x [coOf o, coOf o'] [y, z] p) (RT G (tst F gv (.chain o o' a b d))) := by
  refine pt_imp (pt_chain (opC_ok (G := G) c.cst c.hu o) (opC_ok (G := G) c.cst c.hu o') ha hb hd hm) fun σ H Q ⟨env, sto, μ, w, e1, fin⟩ => ?_
  replace fin : FinW G eqR μ H (ev F gv a env >>= fun x => ev F gv b env >>= fun y => opC o x y >>= fun t => if t = true then (ev F gv d env >>= fun z => opC o' y z) else pure false) sto Q := by unfold tst at fin; exact fin
  obtain ⟨x, sto1, h1, f1⟩ := fin_bind fin
  refine ⟨env, sto, μ, w, e1, x, sto1, h1, fun v H1 μ1 w1 n1 r1 => ?_⟩
  obtain ⟨y, sto2, h2, f2⟩ := fin_bind (f1 H1 μ1 w1 n1)
  refine ⟨env, sto1, μ1, w1, e1.nxt w n1, y, sto2, h2, fun u H2 μ2 w2 n2 r2 => ?_⟩
  obtain ⟨t, sto3, h3, f3⟩ := fin_bind (f2 H2 μ2 w2 n2)
  refine ⟨x, y, μ2, sto2, w2, w1.mono n2 r1, r2, t, sto3, h3, fun b H3 μ3 w3 n3 r3 => ⟨t, rep_bl.mp r3, ?_⟩⟩
  have f4 := f3 H3 μ3 w3 n3
  cases t with
  | false => exact iteF ⟨false, rfl, fin_pure (R := eqR) f4 w3 rfl⟩
  | true =>
    refine iteT ?_
    obtain ⟨z, sto4, h4, f5⟩ := fin_bind (show FinW G eqR μ3 H3 (ev F gv d env >>= fun z => opC o' y z) sto3 Q from f4)
    refine ⟨env, sto3, μ3, w3, ((e1.nxt w n1).nxt w1 n2).nxt w2 n3, z, sto4, h4, fun q H4 μ4 w4 n4 r4 => ?_⟩
    exact ⟨y, z, μ4, sto4, w4, w3.mono n4 (w2.mono n3 r2), r4, fin_eqR (f5 H4 μ4 w4 n4)⟩
theorem re_and {x y : Expr} {rest : List Expr} {p : Pos} {a b : E} (ha : PE X x (RE G (ev F gv a))) (hb : PE X (.BoolOp .And (y :: rest) p) (RE G (ev F gv b))) : PE X (.BoolOp .And (x :: y :: rest) p) (RE G (ev F gv (.band a b))) := by
  refine pe_imp (pe_and ha hb) fun σ H Q ⟨env, sto, μ, w, e1, fin⟩ => ?_
  replace fin : Fin G μ H (ev F gv a env >>= fun t => match t with
    | .bl true => ev F gv b env
    | .bl false => pure (.bl false)
    | _ => fail) sto Q := by unfold ev at fin; exact fin
  obtain ⟨d, sto1, h1, f1⟩ := fin_bind fin
  refine ⟨env, sto, μ, w, e1, d, sto1, h1, fun v H1 μ1 w1 n1 r1 => ?_⟩
  have f2 := f1 H1 μ1 w1 n1
  cases d with
  | bl t =>
    refine ⟨t, rep_bl.mp r1, ?_⟩
    cases t with
    | true => exact iteT ⟨env, sto1, μ1, w1, e1.nxt w n1, f2⟩
    | false => exact iteF (fin_pure f2 w1 (by rw [rep_bl]))
  | _ => exact (fin_fail f2).elim
theorem re_or {x y : Expr} {rest : List Expr} {p : Pos} {a b : E} (ha : PE X x (RE G (ev F gv a))) (hb : PE X (.BoolOp .Or (y :: rest) p) (RE G (ev F gv b))) : PE X (.BoolOp .Or (x :: y :: rest) p) (RE G (ev F gv (.bor a b))) := by
  refine pe_imp (pe_or ha hb) fun σ H Q ⟨env, sto, μ, w, e1, fin⟩ => ?_
  replace fin : Fin G μ H (ev F gv a env >>= fun t => match t with
    | .bl true => pure (.bl true)
    | .bl false => ev F gv b env
    | _ => fail) sto Q := by unfold ev at fin; exact fin
  obtain ⟨d, sto1, h1, f1⟩ := fin_bind fin
  refine ⟨env, sto, μ, w, e1, d, sto1, h1, fun v H1 μ1 w1 n1 r1 => ?_⟩
  have f2 := f1 H1 μ1 w1 n1
  cases d with
  | bl t =>
    refine ⟨t, rep_bl.mp r1, ?_⟩
    cases t with
    | false => exact iteF ⟨env, sto1, μ1, w1, e1.nxt w n1, f2⟩
    | true => exact iteT (fin_pure f2 w1 (by rw [rep_bl]))
  | _ => exact (fin_fail f2).elim
theorem re_not {x : Expr} {p : Pos} {a : E} (ha : PE X x (RE G (ev F gv a))) : PE X (.UnaryOp .Not x p) (RE G (ev F gv (.bnot a))) := by
  refine pe_imp (pe_not ha) fun σ H Q ⟨env, sto, μ, w, e1, fin⟩ => ?_
  replace fin : Fin G μ H (ev F gv a env >>= fun t => match t with
    | .bl b => pure (.bl !b)
    | _ => fail) sto Q := by unfold ev at fin; exact fin
  obtain ⟨d, sto1, h1, f1⟩ := fin_bind fin
  refine ⟨env, sto, μ, w, e1, d, sto1, h1, fun v H1 μ1 w1 n1 r1 => ?_⟩
  have f2 := f1 H1 μ1 w1 n1
  cases d with
  | bl t => exact ⟨t, rep_bl.mp r1, fin_pure f2 w1 (by rw [rep_bl])⟩
  | _ => exact (fin_fail f2).elim
theorem re_ite {t x y : Expr} {p : Pos} {c a b : E} (hc : PT X t (RT G (tst F gv c))) (ha : PE X x (RE G (ev F gv a))) (hb : PE X y (RE G (ev F gv b))) : PE X (.IfExp t x y p) (RE G (ev F gv (.ite c a b))) := by
  refine pe_imp (pe_ifExp hc ha hb) fun σ H Q ⟨env, sto, μ, w, e1, fin⟩ => ?_
  replace fin : Fin G μ H (tst F gv c env >>= fun t => if t = true then ev F gv a env else ev F gv b env) sto Q := by unfold ev at fin; exact fin
  obtain ⟨d, sto1, h1, f1⟩ := fin_bind fin
  refine ⟨env, sto, μ, w, e1, d, sto1, h1, fun v H1 μ1 w1 n1 r1 => ?_⟩
  cases r1
  have f2 := f1 H1 μ1 w1 n1
  cases d with
  | true => exact iteT ⟨env, sto1, μ1, w1, e1.nxt w n1, f2⟩
  | false => exact iteF ⟨env, sto1, μ1, w1, e1.nxt w n1, f2⟩
theorem rt_and {x y : Expr} {rest : List Expr} {p : Pos} {a b : E} (ha : PT X x (RT G (tst F gv a))) (hb : PW X (.BoolOp .And (y :: rest) p) (RT G (tst F gv b))) : PW X (.BoolOp .And (x :: y :: rest) p) (RT G (tst F gv (.band a b))) := by
  refine pw_imp (pw_and ha hb) fun σ H Q ⟨env, sto, μ, w, e1, fin⟩ => ?_
  replace fin : FinW G eqR μ H (tst F gv a env >>= fun t => if t = true then tst F gv b env else pure false) sto Q := by unfold tst at fin; exact fin
  obtain ⟨d, sto1, h1, f1⟩ := fin_bind fin
  refine ⟨env, sto, μ, w, e1, d, sto1, h1, fun v H1 μ1 w1 n1 r1 => ?_⟩
  cases r1
  have f2 := f1 H1 μ1 w1 n1
  cases d with
  | true => exact iteT ⟨env, sto1, μ1, w1, e1.nxt w n1, f2⟩
  | false => exact iteF (fin_pure (R := eqR) f2 w1 rfl)
theorem rt_or {x y : Expr} {rest : List Expr} {p : Pos} {a b : E} (ha : PT X x (RT G (tst F gv a))) (hb : PW X (.BoolOp .Or (y :: rest) p) (RT G (tst F gv b))) : PW X (.BoolOp .Or (x :: y :: rest) p) (RT G (tst F gv (.bor a b))) := by
  refine pw_imp (pw_or ha hb) fun σ H Q ⟨env, sto, μ, w, e1, fin⟩ => ?_
  replace fin : FinW G eqR μ H (tst F gv a env >>= fun t => if t = true then pure true else tst F gv b env) sto Q := by unfold tst at fin; exact fin
  obtain ⟨d, sto1, h1, f1⟩ := fin_bind fin
  refine ⟨env, sto, μ, w, e1, d, sto1, h1, fun v H1 μ1 w1 n1 r1 => ?_⟩
  cases r1
  have f2 := f1 H1 μ1 w1 n1
  cases d with
  | false => exact iteF ⟨env, sto1, μ1, w1, e1.nxt w n1, f2⟩
  | true => exact iteT (fin_pure (R := eqR) f2 w1 rfl)
theorem rt_not {x : Expr} {p : Pos} {a : E} (ha : PT X x (RT G (tst F gv a))) : PT X (.UnaryOp .Not x p) (RT G (tst F gv (.bnot a))) := by
  refine pt_imp (pt_not ha) fun σ H Q ⟨env, sto, μ, w, e1, fin⟩ => ?_
  replace fin : FinW G eqR μ H (tst F gv a env >>= fun t => pure (!t)) sto Q := by unfold tst at fin; exact fin
  obtain ⟨d, sto1, h1, f1⟩ := fin_bind fin
  refine ⟨env, sto, μ, w, e1, d, sto1, h1, fun v H1 μ1 w1 n1 r1 => ?_⟩
  cases r1
  exact fin_pure (R := eqR) (f1 H1 μ1 w1 n1) w1 rfl
/-- a value's truth -/
theorem rt_val (c : Ctx G F gv Γ X) {x : Expr} {e : E} (ha : PE X x (RE G (ev F gv e))) (he : ∀ whole, isTrue x X.env whole = (do let v ← whole; standAt x.pos; holding [v] (truthy v))) (ht : ∀ env, tst F gv e env = (ev F gv e env >>= truth)) : PT X x (RT G (tst F gv e)) := by
  refine pt_imp (pt_truth ha he) fun σ H Q ⟨env, sto, μ, w, e1, fin⟩ => ?_
  rw [ht] at fin
  obtain ⟨d, sto1, h1, f1⟩ := fin_bind fin
  exact ⟨env, sto, μ, w, e1, d, sto1, h1, fun v H1 μ1 w1 n1 r1 => tru_okD c.cst w1 r1 (f1 H1 μ1 w1 n1)⟩
theorem bind_assoc_M {α β γ : Type} (m : M α) (f : α → M β) (g : β → M γ) : (m >>= f >>= g) = (m >>= fun x => f x >>= g) := by
  funext s
  rw [bind_def, bind_def, bind_def]
  cases m s <;> rfl
theorem re_idx (c : Ctx G F gv Γ X) {x y : Expr} {p : Pos} {a b : E} (ha : PE X x (RE G (ev F gv a))) (hb : PE X y (RE G (ev F gv b))) (hs : vSlice y = none) : PE X (.Subscript x y p) (RE G (ev F gv (.idx a b))) := by
  refine pe_imp (pe_ix (idx_ok (G := G) c.cst) ha hb (plain_ix hs)) fun σ H Q ⟨env, sto, μ, w, e1, fin⟩ => ?_
  refine fin_two w e1 (k := idxD) ?_
  unfold ev at fin
  exact fin
theorem re_sl {x : Expr} {lo hi : Option Expr} {p p2 : Pos} {a : E} {l h : Oe} (ha : PE X x (RE G (ev F gv a))) (hl : PO X lo (RO G (evo F gv l))) (hh : PO X hi (RO G (evo F gv h))) : PE X (.Subscript x (.Slice lo hi none p2) p) (RE G (ev F gv (.sl a l h))) := by
  refine pe_imp (pe_slice (sl_ok (G := G)) ha hl hh) fun σ H Q ⟨env, sto, μ, w, e1, fin⟩ => ?_
  replace fin : Fin G μ H (ev F gv a env >>= fun x => evo F gv l env >>= fun lo => evo F gv h env >>= fun hi => slD x lo hi) sto Q := by unfold ev at fin; exact fin
  obtain ⟨d, sto1, h1, f1⟩ := fin_bind fin
  refine ⟨env, sto, μ, w, e1, d, sto1, h1, fun v H1 μ1 w1 n1 r1 => ?_⟩
  obtain ⟨i, sto2, h2, f2⟩ := fin_bind (f1 H1 μ1 w1 n1)
  refine ⟨env, sto1, μ1, w1, e1.nxt w n1, i, sto2, h2, fun i' H2 μ2 w2 n2 r2 => ?_⟩
  cases r2
  obtain ⟨j, sto3, h3, f3⟩ := fin_bind (f2 H2 μ2 w2 n2)
  refine ⟨env, sto2, μ2, w2, (e1.nxt w n1).nxt w1 n2, j, sto3, h3, fun j' H3 μ3 w3 n3 r3 => ?_⟩
  cases r3
  exact ⟨d, μ3, sto3, w3, w2.mono n3 (w1.mono n2 r1), f3 H3 μ3 w3 n3⟩
theorem ro_none : PO X none (RO G (evo F gv .none)) := ⟨fun pins s σ H Q I h => by
  refine po_none.run pins s σ H Q I ?_
  obtain ⟨env, sto, μ, w, e1, fin⟩ := h
  unfold evo at fin
  exact fin_pure (R := eqR) fin w rfl⟩
theorem ro_some {x : Expr} {a : E} (ha : PE X x (RE G (ev F gv a))) : PO X (some x) (RO G (evo F gv (.some a))) := ⟨fun pins s σ H Q I h => by
  refine (po_some ha).run pins s σ H Q I ?_
  obtain ⟨env, sto, μ, w, e1, fin⟩ := h
  replace fin : FinW G eqR μ H (ev F gv a env >>= fun d => match d with
    | .int i => pure (some i)
    | _ => fail) sto Q := by unfold evo at fin; exact fin
  obtain ⟨d, sto1, h1, f1⟩ := fin_bind fin
  refine ⟨env, sto, μ, w, e1, d, sto1, h1, fun v H1 μ1 w1 n1 r1 => ?_⟩
  have f2 := f1 H1 μ1 w1 n1
  cases d with
  | int i => exact ⟨i, repI r1, fin_pure (R := eqR) f2 w1 rfl⟩
  | _ => exact (fin_fail f2).elim⟩

/-! ### built-ins -/
def blName : Bl → Str
  | .len => "len" | .abs => "abs" | .max2 => "max" | .min2 => "min" | .int1 => "int" | .sum1 => "sum" | .tuple1 => "tuple" | .list1 => "list" | .divmod => "divmod" | .repr1 => "repr" | .gcd => "gcd" | .all1 => "all" | .any1 => "any" | .lcm => "lcm" | .sorted1 => "sorted" | .minl1 => "min"
theorem boot_max : bootBuiltins "max" = some (.builtin "max") := by decide +kernel
theorem boot_min : bootBuiltins "min" = some (.builtin "min") := by decide +kernel
theorem boot_sortedB : bootBuiltins "sorted" = some (.builtin "sorted") := by decide +kernel
theorem boot_isiB : bootBuiltins "isinstance" = some (.builtin "isinstance") := by decide +kernel
theorem boot_any : bootBuiltins "any" = some (.builtin "any") := by decide +kernel
theorem boot_all : bootBuiltins "all" = some (.builtin "all") := by decide +kernel
theorem boot_listT : bootBuiltins "list" = some (.type "list") := by decide +kernel
theorem boot_tupleT : bootBuiltins "tuple" = some (.type "tuple") := by decide +kernel
theorem boot_intT : bootBuiltins "int" = some (.type "int") := by decide +kernel
theorem boot_sumB : bootBuiltins "sum" = some (.builtin "sum") := by decide +kernel
theorem boot_absB : bootBuiltins "abs" = some (.builtin "abs") := by decide +kernel
theorem boot_divmodB : bootBuiltins "divmod" = some (.builtin "divmod") := by decide +kernel
theorem boot_reprB : bootBuiltins "repr" = some (.builtin "repr") := by decide +kernel
theorem boot_lenB : bootBuiltins "len" = some (.builtin "len") := by decide +kernel
theorem re_bltB (c : Ctx G F gv Γ X) {b : Bl} {id : String} {x : Str} (hx : blName b = x) {p pos : Pos} {e : Expr} {es : List Expr} {as : Es} (hr : CallR X (.builtin id) (ROC G (bltD b))) (hv : bootBuiltins x = some (.builtin id)) (hb : x ∈ Γ.bns) (hg : Γ.gl x = true) (hs : (e :: es).all (fun e => !isStar e) = true)
    (ha : PA X (e :: es) (RA G (evs F gv as))) : PE X (.Call (.Name x p) (e :: es) [] pos) (RE G (ev F gv (.blt b as))) := by
  obtain ⟨g1, g2, g3⟩ := c.glb hg
  rw [List.all_cons, Bool.and_eq_true] at hs
  refine pe_imp (pe_callB hr g1 (c.bns _ hb) hv ha g3 g2 (star_each (by simpa using hs.1)) (star_any hs.2)) fun σ H Q ⟨env, sto, μ, w, e1, fin⟩ => ?_
  replace fin : Fin G μ H (evs F gv as env >>= fun ds => bltD b ds) sto Q := by unfold ev at fin; exact fin
  obtain ⟨ds, sto1, h1, k1⟩ := fin_bind fin
  exact ⟨env, sto, μ, w, e1, ds, sto1, h1, fun vs H1 μ1 w1 n1 r1 => ⟨ds, μ1, sto1, w1, r1, k1 H1 μ1 w1 n1⟩⟩
theorem re_bltT (c : Ctx G F gv Γ X) {b : Bl} {T : String} {x : Str} (hx : blName b = x) {p pos : Pos} {e : Expr} {es : List Expr} {as : Es} (hr : CallR X (.type T) (ROC G (bltD b))) (hv : bootBuiltins x = some (.type T)) (hb : x ∈ Γ.bns) (hg : Γ.gl x = true) (hs : (e :: es).all (fun e => !isStar e) = true)
    (ha : PA X (e :: es) (RA G (evs F gv as))) : PE X (.Call (.Name x p) (e :: es) [] pos) (RE G (ev F gv (.blt b as))) := by
  obtain ⟨g1, g2, g3⟩ := c.glb hg
  rw [List.all_cons, Bool.and_eq_true] at hs
  refine pe_imp (pe_callTy hr g1 (c.bns _ hb) hv ha g3 g2 (star_each (by simpa using hs.1)) (star_any hs.2)) fun σ H Q ⟨env, sto, μ, w, e1, fin⟩ => ?_
  replace fin : Fin G μ H (evs F gv as env >>= fun ds => bltD b ds) sto Q := by unfold ev at fin; exact fin
  obtain ⟨ds, sto1, h1, k1⟩ := fin_bind fin
  exact ⟨env, sto, μ, w, e1, ds, sto1, h1, fun vs H1 μ1 w1 n1 r1 => ⟨ds, μ1, sto1, w1, r1, k1 H1 μ1 w1 n1⟩⟩
theorem re_bltF (c : Ctx G F gv Γ X) {b : Bl} {id : String} {x : Str} {p pos : Pos} {e : Expr} {es : List Expr} {as : Es} (hr : CallR X (.builtin id) (ROC G (bltD b))) (hb : (x, id) ∈ Γ.ibs) (hg : Γ.gl x = true) (hs : (e :: es).all (fun e => !isStar e) = true)
    (ha : PA X (e :: es) (RA G (evs F gv as))) : PE X (.Call (.Name x p) (e :: es) [] pos) (RE G (ev F gv (.blt b as))) := by
  obtain ⟨g1, g2, g3⟩ := c.glb hg
  rw [List.all_cons, Bool.and_eq_true] at hs
  refine pe_imp (pe_callBfun hr g1 (c.ibs _ hb) ha g2 (star_each (by simpa using hs.1)) (star_any hs.2)) fun σ H Q ⟨env, sto, μ, w, e1, fin⟩ => ?_
  replace fin : Fin G μ H (evs F gv as env >>= fun ds => bltD b ds) sto Q := by unfold ev at fin; exact fin
  obtain ⟨ds, sto1, h1, k1⟩ := fin_bind fin
  exact ⟨env, sto, μ, w, e1, ds, sto1, h1, fun vs H1 μ1 w1 n1 r1 => ⟨ds, μ1, sto1, w1, r1, k1 H1 μ1 w1 n1⟩⟩
def SC.blt (Γ : SC) (b : Bl) : Bool := match b with
  | .gcd => Γ.ibs.contains ("gcd", "math.gcd")
  | .lcm => Γ.ibs.contains ("lcm", "math.lcm")
  | b => Γ.bns.contains (blName b)
theorem re_blt (c : Ctx G F gv Γ X) (b : Bl) {p pos : Pos} {e : Expr} {es : List Expr} {as : Es} (hb : Γ.blt b = true) (hg : Γ.gl (blName b) = true) (hs : (e :: es).all (fun e => !isStar e) = true)
    (ha : PA X (e :: es) (RA G (evs F gv as))) : PE X (.Call (.Name (blName b) p) (e :: es) [] pos) (RE G (ev F gv (.blt b as))) := by
  cases b with
  | gcd => exact re_bltF c gcd_ok (List.contains_iff_mem.mp hb) hg hs ha
  | len => exact re_bltB c rfl (len_ok c.cst) boot_lenB (List.contains_iff_mem.mp hb) hg hs ha
  | abs => exact re_bltB c rfl abs_ok boot_absB (List.contains_iff_mem.mp hb) hg hs ha
  | max2 => exact re_bltB c rfl (max_ok c.calm) boot_max (List.contains_iff_mem.mp hb) hg hs ha
  | min2 => exact re_bltB c rfl (min_ok c.calm) boot_min (List.contains_iff_mem.mp hb) hg hs ha
  | int1 => exact re_bltT c rfl int_ok boot_intT (List.contains_iff_mem.mp hb) hg hs ha
  | sum1 => exact re_bltB c rfl (sum_ok c.calm) boot_sumB (List.contains_iff_mem.mp hb) hg hs ha
  | tuple1 => exact re_bltT c rfl (tuple_ok c.cst) boot_tupleT (List.contains_iff_mem.mp hb) hg hs ha
  | list1 => exact re_bltT c rfl (list_ok c.cst) boot_listT (List.contains_iff_mem.mp hb) hg hs ha
  | divmod => exact re_bltB c rfl divmod_ok boot_divmodB (List.contains_iff_mem.mp hb) hg hs ha
  | repr1 => exact re_bltB c rfl (repr_ok c.cst c.gd c.hu) boot_reprB (List.contains_iff_mem.mp hb) hg hs ha
  | lcm => exact re_bltF c lcm_ok (List.contains_iff_mem.mp hb) hg hs ha
  | sorted1 => exact re_bltB c rfl sorted_ok boot_sortedB (List.contains_iff_mem.mp hb) hg hs ha
  | minl1 => exact re_bltB c rfl (minl_ok c.calm c.hu) boot_min (List.contains_iff_mem.mp hb) hg hs ha
  | any1 => exact re_bltB c rfl (any_ok c.calm) boot_any (List.contains_iff_mem.mp hb) hg hs ha
  | all1 => exact re_bltB c rfl (all_ok c.calm) boot_all (List.contains_iff_mem.mp hb) hg hs ha

/-! ### type(x) == T, x[::-1] -/
def tyNm : Ty → String
  | .int_ => "int" | .bool_ => "bool" | .str_ => "str" | .tuple_ => "tuple" | .list_ => "list" | .none_ => "NoneType"
theorem tyNm_eq (t u : Ty) : decide (tyNm t = tyNm u) = decide (t = u) := by cases t <;> cases u <;> decide
theorem ty_meta (t : Ty) (s : Shared) : s.TypeIs (.type (tyNm t)) "type" := by
  cases t with
  | int_ => exact PySem.TypeEq.meta_int s
  | bool_ => exact PySem.TypeEq.meta_bool s
  | str_ => exact PySem.TypeEq.meta_str s
  | tuple_ => exact PySem.TypeEq.meta_tuple s
  | list_ => exact PySem.TypeEq.meta_list s
  | none_ => exact PySem.TypeEq.meta_NoneType s
def tyStr : Ty → Str
  | .int_ => "int" | .bool_ => "bool" | .str_ => "str" | .tuple_ => "tuple" | .list_ => "list" | .none_ => "NoneType"
theorem ty_boot (t : Ty) (h : t ≠ .none_) : bootBuiltins (tyStr t) = some (.type (tyNm t)) := by
  cases t with
  | none_ => exact absurd rfl h
  | _ => decide +kernel
theorem boot_typeT : bootBuiltins "type" = some (.type "type") := by decide +kernel
def tyOp : Bool → CmpOp | true => .Eq | false => .NotEq
theorem op_ty (pos : Bool) : OpR X (compareOp (tyOp pos)) (fun x y H Q => ∃ t u : Ty, x = .ty (tyNm t) ∧ y = .ty (tyNm u) ∧ Q (.bl (decide (t = u) == pos)) H) := by
  intro pins s σ H x y v u Q I rx ry h
  obtain ⟨t, t', rfl, rfl, q⟩ := h
  cases (show v = Value.type _ from rx)
  cases (show u = Value.type _ from ry)
  cases pos with
  | true => exact op_eqTy (ty_meta t) (ty_meta t') I (by rw [tyNm_eq]; simpa using q)
  | false => exact op_neTy (ty_meta t) (ty_meta t') I (by rw [tyNm_eq]; simpa using q)
def ROT (G : Cst) : List V → Hp → VK → Prop := fun vs H Q => ∃ d μ sto t, Wld G μ H sto ∧ RepL G μ H [d] vs ∧ tyD d sto = .ok t sto ∧ Q (.ty (tyNm t)) H
theorem type_ok (hk : CstOk X.K G) : CallR X (.type "type") (ROT G) := by
  intro pins s σ H vs us Q I r h
  obtain ⟨d, μ, sto, t, w, r0, e, q⟩ := h
  obtain ⟨x, rfl, rx⟩ := one_of r0
  obtain ⟨v, rfl, rv⟩ := vals1 r
  have fin : EP X pins σ Q (.type (tyNm t)) s := ⟨.ty _, H, I, rfl, q⟩
  cases d with
  | non => rw [rep_non.mp rx] at rv; cases rv; cases e; exact call_type_of (Tx := "NoneType") rfl (by decide +kernel) fin
  | bl b => rw [rep_bl.mp rx] at rv; cases (show v = Value.bool b from rv); cases e; exact call_type_of (Tx := "bool") rfl (by decide +kernel) fin
  | int i => rw [rep_int.mp rx] at rv; obtain ⟨k, rfl⟩ := rv; cases e; exact call_type_of (Tx := "int") rfl (by decide +kernel) fin
  | str i => rw [rep_str.mp rx] at rv; obtain ⟨k, rfl⟩ := rv; cases e; exact call_type_of (Tx := "str") rfl (by decide +kernel) fin
  | tup ds =>
    obtain ⟨a, ws, rfl, ha, _⟩ := rep_tup.mp rx
    cases (show v = Value.ref a from rv)
    obtain ⟨_, _, p, _⟩ := I.tuple (.inl (.inl ha))
    cases e
    exact call_type_of (Tx := "tuple") p.typeIs (by decide +kernel) fin
  | num n m =>
    obtain ⟨a, rfl, sq⟩ := rep_numT hk rx
    cases (show v = Value.ref a from rv)
    obtain ⟨_, _, p, _⟩ := I.tuple sq
    cases e
    exact call_type_of (Tx := "tuple") p.typeIs (by decide +kernel) fin
  | loc n =>
    obtain ⟨c, s1, e1, e2⟩ := bind_ok (show (getC n >>= fun c => match c with
      | .lst _ => pure .list_
      | _ => fail) sto = .ok t sto from e)
    obtain ⟨g, rfl⟩ := getC_eq e1
    obtain ⟨a, ha, rfl⟩ := rep_loc.mp rx
    cases (show v = Value.ref a from rv)
    have cr := w.cell n a c ha g
    cases c with
    | lst xs =>
      obtain ⟨ws, hw, _⟩ := cr
      obtain ⟨_, _, p, _⟩ := I.list (.inl (.inl hw))
      cases e2
      exact call_type_of (Tx := "list") p.isList.typeIs (by decide +kernel) fin
    | ro xs => cases e2
    | dct xs => cases e2
theorem tyD_at {d : Dv} {t : Ty} {sto s1 : Sto} (h : tyD d sto = .ok t s1) : s1 = sto := by
  cases d with
  | loc n =>
    obtain ⟨c, s2, e1, e2⟩ := bind_ok (show (getC n >>= fun c => match c with
      | .lst _ => pure .list_
      | _ => fail) sto = .ok t s1 from h)
    obtain ⟨g, rfl⟩ := getC_eq e1
    cases c <;> first | (cases e2; rfl) | cases e2
  | _ => cases h; rfl
theorem isD_at {pos : Bool} {t : Ty} {d : Dv} {b : Bool} {sto s1 : Sto} (h : isD pos t d sto = .ok b s1) : s1 = sto ∧ ∃ u, tyD d sto = .ok u sto ∧ b = (decide (u = t) == pos) := by
  obtain ⟨u, s2, e1, e2⟩ := bind_ok (show (tyD d >>= fun u => pure (decide (u = t) == pos)) sto = .ok b s1 from h)
  obtain rfl := tyD_at e1
  cases e2
  exact ⟨rfl, u, e1, rfl⟩
section
variable (c : Ctx G F gv Γ X) {pos : Bool} {t : Ty} {x : Expr} {p1 p2 p3 p4 : Pos} {a : E} (ht : t ≠ .none_) (hb : ("type" : Str) ∈ Γ.bns) (hb2 : tyStr t ∈ Γ.bns) (hg : Γ.gl "type" = true) (hg2 : Γ.gl (tyStr t) = true) (hs : isStar x = false) (hm : behindInMarks (tyOp pos) (.Name (tyStr t) p3) = false)
  (ha : PE X x (RE G (ev F gv a)))
theorem ty_parts {σ : L2.St} {H : Hp} {Q : VK} {env : DEnv} {sto sto2 : Sto} {μ : List Addr} {b : Bool} (w : Wld G μ H sto) (e1 : EnvR G μ H env σ) (h : (ev F gv a env >>= fun d => isD pos t d) sto = .ok b sto2) (q : ∀ H' μ', Wld G μ' H' sto2 → Nxt μ H μ' H' → Q (.bl b) H') :
    tOp (fun x y H Q => ∃ t u : Ty, x = .ty (tyNm t) ∧ y = .ty (tyNm u) ∧ Q (.bl (decide (t = u) == pos)) H) (tCB (ROT G) (RA G (evs F gv (.cons a .nil)))) (tC (.ty (tyNm t))) σ H Q := by
  obtain ⟨d, s1, h1, h2⟩ := bind_ok h
  obtain ⟨rfl, u, h3, rfl⟩ := isD_at h2
  have h4 : evs F gv (.cons a .nil) env sto = .ok [d] sto2 := by
    unfold evs
    rw [bind_ok_of h1]
    unfold evs
    rfl
  exact ⟨env, sto, μ, w, e1, [d], sto2, h4, fun vs H1 μ1 w1 n1 r1 => ⟨d, μ1, sto2, u, w1, r1, h3, u, t, rfl, rfl, q H1 μ1 w1 n1⟩⟩
include c ht hb hb2 hg hg2 hs hm ha
theorem pe_ty : PE X (.Compare (.Call (.Name "type" p1) [x] [] p2) [tyOp pos] [.Name (tyStr t) p3] p4) (tOp (fun x y H Q => ∃ t u : Ty, x = .ty (tyNm t) ∧ y = .ty (tyNm u) ∧ Q (.bl (decide (t = u) == pos)) H) (tCB (ROT G) (RA G (evs F gv (.cons a .nil)))) (tC (.ty (tyNm t)))) := by
  obtain ⟨g1, g2, g3⟩ := c.glb hg
  obtain ⟨k1, k2, k3⟩ := c.glb hg2
  exact pe_cmpR (op_ty pos) (pe_callTy (type_ok c.cst) g1 (c.bns _ hb) boot_typeT (pa_consD hs ha pa_nilD) g3 g2 (star_each hs) rfl) (pe_bltn k1 (c.bns _ hb2) (ty_boot t ht) rfl k3 k2) hm
theorem pt_ty : PT X (.Compare (.Call (.Name "type" p1) [x] [] p2) [tyOp pos] [.Name (tyStr t) p3] p4) (tTest (tOp (fun x y H Q => ∃ t u : Ty, x = .ty (tyNm t) ∧ y = .ty (tyNm u) ∧ Q (.bl (decide (t = u) == pos)) H) (tCB (ROT G) (RA G (evs F gv (.cons a .nil)))) (tC (.ty (tyNm t))))) := by
  obtain ⟨g1, g2, g3⟩ := c.glb hg
  obtain ⟨k1, k2, k3⟩ := c.glb hg2
  exact pt_cmpR (op_ty pos) (pe_callTy (type_ok c.cst) g1 (c.bns _ hb) boot_typeT (pa_consD hs ha pa_nilD) g3 g2 (star_each hs) rfl) (pe_bltn k1 (c.bns _ hb2) (ty_boot t ht) rfl k3 k2) hm
theorem re_isty : PE X (.Compare (.Call (.Name "type" p1) [x] [] p2) [tyOp pos] [.Name (tyStr t) p3] p4) (RE G (ev F gv (.isty pos t a))) := by
  refine pe_imp (pe_ty c ht hb hb2 hg hg2 hs hm ha) fun σ H Q ⟨env, sto, μ, w, e1, fin⟩ => ?_
  replace fin : Fin G μ H (ev F gv a env >>= fun d => isD pos t d >>= fun b => pure (.bl b)) sto Q := by unfold ev at fin; exact fin
  obtain ⟨r, s2, e, q⟩ := fin
  obtain ⟨d, s1, h1, h2⟩ := bind_ok e
  obtain ⟨b, s3, h3, h4⟩ := bind_ok h2
  cases h4
  exact ty_parts w e1 (by rw [bind_ok_of h1]; exact h3) fun H' μ' w' n' => q _ H' μ' w' n' (by rw [rep_bl])
theorem rt_isty : PT X (.Compare (.Call (.Name "type" p1) [x] [] p2) [tyOp pos] [.Name (tyStr t) p3] p4) (RT G (tst F gv (.isty pos t a))) := by
  refine pt_imp (pt_ty c ht hb hb2 hg hg2 hs hm ha) fun σ H Q ⟨env, sto, μ, w, e1, fin⟩ => ?_
  replace fin : FinW G eqR μ H (ev F gv a env >>= fun d => isD pos t d) sto Q := by unfold tst at fin; exact fin
  obtain ⟨b, s2, e, q⟩ := fin
  exact ty_parts w e1 e fun H' μ' w' n' => ⟨b, rfl, q b H' μ' w' n' rfl⟩
end

def tRevT (K : PySem.W.Frag) (te : TE) : TE := fun σ H Q => te σ H fun x H1 => ∃ a xs, x = .ref a ∧ SqT K H1 a xs ∧ ∀ p, H1 p = none → Q (.ref p) (upd H1 p (.tup xs.reverse))
theorem pe_revT {e : Expr} {te : TE} {k : Nat} {p1 p2 p3 pos : Pos} (he : PE X e te) : PE X (.Subscript e (.Slice none none (some (.UnaryOp .USub (.Constant (.int 1) k p1) p2)) p3) pos) (tRevT X.K te) where
  run pins s σ H Q I h := by
    have back : PO X (some (.UnaryOp .USub (.Constant (.int 1) k p1) p2)) (tPart (tUn (rU fun i => .int (-i)) (tC (.int 1)))) := po_some (pe_un un_neg pe_int)
    apply Subscript_
    refine thn (he.run pins s σ H _ I h) ?_
    rintro v s1 ⟨x, H1, I1, r1, a, xs, rfl, sq, q⟩
    cases (show v = Value.ref a from r1)
    apply wpAny_Slice
    refine thn (po_none.run pins s1 σ H1 (fun o H2 => o = none ∧ H2 = H1) I1 ⟨rfl, rfl⟩) ?_
    rintro vl s2 ⟨_, H2, I2, pl, rfl, rfl⟩
    refine thn (po_none.run pins s2 σ H2 (fun o H3 => o = none ∧ H3 = H2) I2 ⟨rfl, rfl⟩) ?_
    rintro vu s3 ⟨_, H3, I3, pu, rfl, rfl⟩
    refine thn (back.run pins s3 σ H3 (fun o H4 => o = some (-1) ∧ H4 = H3) I3 ⟨1, rfl, -1, rfl, rfl, rfl⟩) ?_
    rintro vs s4 ⟨_, H4, I4, ps, rfl, rfl⟩
    cases pl
    cases pu
    cases ps with
    | int _ u =>
      have I5 : Inv X pins σ H4 { s4 with heap := s4.heap.push { cls := .type "slice", data := .fields #[.none, .none, .int (-1) u] } } := I4.kept (t' := s4.toks) fun b ob q => Heap.get?_push_of_some _ q
      obtain ⟨its, r, ht, hz⟩ := I5.tuple sq
      have len := r.length
      show wpAny (model X.prog X.w) X.A (subscriptTail e (.Slice none none (some (.UnaryOp .USub (.Constant (.int 1) k p1) p2)) p3) (.ref a) (.ref s4.heap.objs.size)) (EP X pins σ Q) X.xe { s4 with heap := s4.heap.push { cls := .type "slice", data := .fields #[.none, .none, .int (-1) u] } }
      refine tail_any (ops := [.ref a, .ref s4.heap.objs.size]) ht.typeIs PyProof.Rows.slot_tuple_getitem.lookup ?_ (by with_unfolding_all rfl)
      refine tuple_back ht (Heap.IsSliceOf.new _ _ _ _) ?_ (by rw [List.size_toArray]; omega)
      refine ⟨.ref _, _, I5.laid (t' := s4.toks) (o := .tup xs.reverse) (fun b ob q => Heap.get?_push_of_some _ q) (Nat.le_refl _) ?_, rfl, q _ (I5.hok.fresh (Nat.le_refl _))⟩
      exact ⟨by rw [List.length_reverse]; exact hz, _, r.reverse, IsTup.new _ _⟩
theorem pe_or {e : Expr} {t t' : TE} (h : PE X e t) (h' : PE X e t') : PE X e (fun σ H Q => t σ H Q ∨ t' σ H Q) := ⟨fun p s σ H Q I q => q.elim (h.run p s σ H Q I) (h'.run p s σ H Q I)⟩
theorem re_rev {e : Expr} {k : Nat} {p1 p2 p3 pos : Pos} {a : E} (ha : PE X e (RE G (ev F gv a))) : PE X (.Subscript e (.Slice none none (some (.UnaryOp .USub (.Constant (.int 1) k p1) p2)) p3) pos) (RE G (ev F gv (.rev a))) := by
  refine pe_imp (pe_or (pe_revT ha) (pe_revL ha)) fun σ H Q ⟨env, sto, μ, w, e1, fin⟩ => ?_
  replace fin : Fin G μ H (ev F gv a env >>= revD) sto Q := by unfold ev at fin; exact fin
  obtain ⟨d, sto1, h1, k1⟩ := fin_bind fin
  cases d with
  | tup xs =>
    refine .inl ⟨env, sto, μ, w, e1, _, sto1, h1, fun v H1 μ1 w1 n1 r1 => ?_⟩
    obtain ⟨b, vs, rfl, hb, r⟩ := rep_tup.mp r1
    obtain ⟨z, f⟩ := fin_mkT (xs := xs.reverse) (k1 H1 μ1 w1 n1)
    exact ⟨b, vs, rfl, .inl (.inl hb), fun p hp => fin_tup f w1 (repL_rev r) hp⟩
  | loc n =>
    refine .inr ⟨env, sto, μ, w, e1, _, sto1, h1, fun v H1 μ1 w1 n1 r1 => ?_⟩
    obtain ⟨xs, e, f⟩ := fin_at (show Fin G μ1 H1 (lstOf n >>= fun xs => newL xs.reverse) sto1 Q from k1 H1 μ1 w1 n1) w1 fun _ _ e => (lstOf_eq e).2
    obtain ⟨b, vs, rfl, sq, r⟩ := w1.sq X.K (lstOf_eq e).1 r1
    obtain ⟨z, f⟩ := fin_newL f
    exact ⟨b, vs, rfl, sq, fun p hp => fin_new f w1 hp ⟨_, upd_same, w1.monoL (nxt_new w1 hp) (repL_rev r)⟩⟩
  | _ =>
    obtain ⟨r, s2, e, _⟩ := fin
    rw [bind_ok_of h1] at e
    cases e

/-! ### isinstance(x, T), x.pop() -/
theorem tyX_of (hk : CstOk X.K G) {μ : List Addr} {H : Hp} {sto : Sto} {d : Dv} {v : V} {u : Ty} (w : Wld G μ H sto) (e : tyD d sto = .ok u sto) (r : Rep G μ H d v) : TyX X.K H v (.type (tyNm u)) := by
  cases d with
  | non => cases e; rw [rep_non.mp r]; exact .base .non
  | bl b => cases e; rw [rep_bl.mp r]; exact .base (.bl b)
  | int i => cases e; rw [rep_int.mp r]; exact .base (.int i)
  | str i => cases e; rw [rep_str.mp r]; exact .base (.str i)
  | tup ds =>
    obtain ⟨a, ws, rfl, ha, _⟩ := rep_tup.mp r
    cases e; exact .base (.tup ha)
  | num n m =>
    obtain ⟨a, rfl, sq⟩ := rep_numT hk r
    cases e
    rcases sq with (h | ⟨o, h⟩) | ⟨o, its, k, h, hc, _⟩
    · exact .base (.tup h)
    · exact .fTuple h
    · exact .kTuple h hc
  | loc n =>
    obtain ⟨c, s1, e1, e2⟩ := bind_ok (show (getC n >>= fun c => match c with
      | .lst _ => pure .list_
      | _ => fail) sto = .ok u sto from e)
    obtain ⟨g, rfl⟩ := getC_eq e1
    cases c with
    | lst xs =>
      cases e2
      obtain ⟨a, vs, rfl, _, ha, _⟩ := w.lst g r
      exact .base (.lst ha)
    | ro xs => cases e2
    | dct xs => cases e2
theorem isa_kit : ∀ (u t : Ty), t ≠ .none_ → kitB (tyNm u) (tyNm t) = some (decide (u = t) || (decide (u = .bool_) && decide (t = .int_))) := by
  intro u t h
  cases u <;> cases t <;> first | exact absurd rfl h | decide +kernel
theorem isaD_at {t : Ty} {d : Dv} {b : Bool} {sto s1 : Sto} (h : isaD t d sto = .ok b s1) : s1 = sto ∧ ∃ u, tyD d sto = .ok u sto ∧ b = (decide (u = t) || (decide (u = .bool_) && decide (t = .int_))) := by
  obtain ⟨u, s2, e1, e2⟩ := bind_ok (show (tyD d >>= fun u => pure (decide (u = t) || (decide (u = .bool_) && decide (t = .int_)))) sto = .ok b s1 from h)
  obtain rfl := tyD_at e1
  cases e2
  exact ⟨rfl, u, e1, rfl⟩
section
variable (c : Ctx G F gv Γ X) {t : Ty} {x : Expr} {p1 p2 p3 : Pos} {a : E} (ht : t ≠ .none_) (hb : ("isinstance" : Str) ∈ Γ.bns) (hb2 : tyStr t ∈ Γ.bns) (hg : Γ.gl "isinstance" = true) (hg2 : Γ.gl (tyStr t) = true) (hs : isStar x = false)
  (ha : PE X x (RE G (ev F gv a)))
def tIsaC (K : PySem.W.Frag) (te : TE) (c : V) : TE := fun σ H Q => te σ H fun v H1 => rIsi K [v, c] H1 Q
include c ht hb hb2 hg hg2 hs ha
theorem pe_isaD : PE X (.Call (.Name "isinstance" p1) [x, .Name (tyStr t) p3] [] p2) (tIsaC X.K (RE G (ev F gv a)) (.ty (tyNm t))) := by
  obtain ⟨g1, g2, g3⟩ := c.glb hg
  obtain ⟨k1, k2, k3⟩ := c.glb hg2
  have := pe_callB (pos := p2) (p := p1) call_isi g1 (c.bns _ hb) boot_isiB (pa_cons ha (pa_cons (pe_bltn (pos := p3) k1 (c.bns _ hb2) (ty_boot t ht) (show L2.RelV (.ty (tyNm t)) (.type (tyNm t)) from rfl) k3 k2) pa_nil (star_each rfl)) (star_each hs)) g3 g2 (star_each hs) rfl
  exact pe_imp this fun σ H Q h => h
theorem isa_parts {σ : L2.St} {H : Hp} {Q : VK} {env : DEnv} {sto sto2 : Sto} {μ : List Addr} {b : Bool} (w : Wld G μ H sto) (e1 : EnvR G μ H env σ) (h : (ev F gv a env >>= fun d => isaD t d) sto = .ok b sto2) (q : ∀ H' μ', Wld G μ' H' sto2 → Nxt μ H μ' H' → Q (.bl b) H') :
    tIsaC X.K (RE G (ev F gv a)) (.ty (tyNm t)) σ H Q := by
  obtain ⟨d, s1, h1, h2⟩ := bind_ok h
  obtain ⟨rfl, u, h3, rfl⟩ := isaD_at h2
  exact ⟨env, sto, μ, w, e1, d, sto2, h1, fun v H1 μ1 w1 n1 r1 => ⟨v, .ty (tyNm t), _, _, _, rfl, .ty _, tyX_of c.cst w1 h3 r1, kit_ty (isa_kit u t ht), q H1 μ1 w1 n1⟩⟩
theorem re_isa : PE X (.Call (.Name "isinstance" p1) [x, .Name (tyStr t) p3] [] p2) (RE G (ev F gv (.isa t a))) := by
  refine pe_imp (pe_isaD c ht hb hb2 hg hg2 hs ha) fun σ H Q ⟨env, sto, μ, w, e1, fin⟩ => ?_
  replace fin : Fin G μ H (ev F gv a env >>= fun d => isaD t d >>= fun b => pure (.bl b)) sto Q := by unfold ev at fin; exact fin
  obtain ⟨r, s2, e, q⟩ := fin
  obtain ⟨d, s1, h1, h2⟩ := bind_ok e
  obtain ⟨b, s3, h3, h4⟩ := bind_ok h2
  cases h4
  exact isa_parts c ht hb hb2 hg hg2 hs ha w e1 (by rw [bind_ok_of h1]; exact h3) fun H' μ' w' n' => q _ H' μ' w' n' (by rw [rep_bl])
end
theorem rt_isa (c : Ctx G F gv Γ X) {t : Ty} {x : Expr} {p1 p2 p3 : Pos} {a : E} (ht : t ≠ .none_) (hb : ("isinstance" : Str) ∈ Γ.bns) (hb2 : tyStr t ∈ Γ.bns) (hg : Γ.gl "isinstance" = true) (hg2 : Γ.gl (tyStr t) = true) (hs : isStar x = false)
  (ha : PE X x (RE G (ev F gv a))) : PT X (.Call (.Name "isinstance" p1) [x, .Name (tyStr t) p3] [] p2) (RT G (tst F gv (.isa t a))) := by
  refine rt_val c (re_isa c ht hb hb2 hg hg2 hs ha) (fun _ => rfl) fun env => ?_
  have h1 : tst F gv (.isa t a) env = (ev F gv a env >>= fun d => isaD t d) := by
    conv => lhs; unfold tst
  have h2 : ev F gv (.isa t a) env = (ev F gv a env >>= fun d => isaD t d >>= fun b => pure (.bl b)) := by
    conv => lhs; unfold ev
  rw [h1, h2, bind_assoc_M]
  congr 1
  funext d
  rw [bind_assoc_M]
  exact (bind_pure_M _).symm
theorem re_pop {nm : Str} {pn apos cpos : Pos} {o : E} (ho : PE X (.Name nm pn) (RE G (ev F gv o))) (hl : (apos.endLine == cpos.line) = true) : PE X (.Call (.Attribute (.Name nm pn) "pop" apos) [] [] cpos) (RE G (ev F gv (.pop o))) := by
  refine pe_imp (pe_bm0 PySem.F.plainAttrs_list PySem.F.slot_list_pop PySem.F.type_list_pop mt_pop ho rfl hl) fun σ H Q ⟨env, sto, μ, w, e1, fin⟩ => ?_
  replace fin : Fin G μ H (ev F gv o env >>= popD) sto Q := by unfold ev at fin; exact fin
  obtain ⟨d, sto1, h1, k1⟩ := fin_bind fin
  refine ⟨env, sto, μ, w, e1, d, sto1, h1, fun v H1 μ1 w1 n1 r1 => ?_⟩
  have f := k1 H1 μ1 w1 n1
  cases d with
  | loc n =>
    obtain ⟨ce, e, f⟩ := fin_at (show Fin G μ1 H1 (getC n >>= fun c => match c with
      | .lst xs => match xs.getLast? with
        | some d => setC n (.lst xs.dropLast) >>= fun _ => pure d
        | none => fail
      | _ => fail) sto1 Q from f) w1 fun _ _ e => (getC_eq e).2
    have g := (getC_eq e).1
    cases ce with
    | lst xs =>
      obtain ⟨b, vs, rfl, hm, hH, rl⟩ := w1.lst g r1
      replace f : Fin G μ1 H1 (match xs.getLast? with
        | some d => setC n (.lst xs.dropLast) >>= fun _ => pure d
        | none => fail) sto1 Q := f
      cases q : xs.getLast? with
      | none => rw [q] at f; exact (fin_fail f).elim
      | some d =>
        rw [q] at f
        have ql : xs[xs.length - 1]? = some d := by rw [← List.getLast?_eq_getElem?]; exact q
        obtain ⟨y, hy, ry⟩ := repL_get rl ql
        refine ⟨.inl ⟨rfl, _, .inl (.inl hH)⟩, b, vs, y, rfl, rfl, hH, by rw [repL_len rl]; exact hy, ?_⟩
        obtain ⟨r, s2, e2, q2⟩ := f
        obtain ⟨u, s3, e3, e4⟩ := bind_ok e2
        cases e4
        unfold setC at e3
        split at e3
        · cases e3
          have hp : b ∈ μ1 := List.mem_of_getElem? hm
          have nw := nxt_wr (o := .lst vs.dropLast) w1 hp
          have dl : RepL G μ1 H1 xs.dropLast vs.dropLast := by
            rw [List.dropLast_eq_take, List.dropLast_eq_take, repL_len rl]
            exact repL_take _ rl
          exact q2 y _ μ1 (wld_wr w1 hm ⟨_, upd_same, w1.monoL nw dl⟩) nw (w1.mono nw ry)
        · cases e3
    | _ => exact (fin_fail f).elim
  | _ => exact (fin_fail f).elim
end
end Dd
end
section
set_option Elab.async false
set_option linter.all false
set_option maxRecDepth 100000
namespace Dd
open PySem PySem.Spec PyProof.Rows L2

/-! ### a place for what stands already -/
structure Ext (μ : List Addr) (H : Hp) (μ' : List Addr) (H' : Hp) : Prop where
  pre : ∃ t, μ' = μ ++ t
  tup : ∀ a vs, H a = some (.tup vs) → H' a = some (.tup vs)
mutual
theorem rep_ext {G : Cst} {μ H μ' H'} (x : Ext μ H μ' H') : ∀ (d : Dv) (v : V), Rep G μ H d v → Rep G μ' H' d v
  | .non, v, h => by unfold Rep at h ⊢; exact h
  | .bl b, v, h => by unfold Rep at h ⊢; exact h
  | .int i, v, h => by unfold Rep at h ⊢; exact h
  | .str s, v, h => by unfold Rep at h ⊢; exact h
  | .num n m, v, h => by
    unfold Rep at h ⊢
    obtain ⟨a, e, h⟩ := h
    exact ⟨a, e, h.imp (fun h => x.tup a _ h) id⟩
  | .loc n, v, h => by
    unfold Rep at h ⊢
    obtain ⟨a, h, e⟩ := h
    obtain ⟨t, rfl⟩ := x.pre
    exact ⟨a, List.getElem?_append_left (List.getElem?_eq_some_iff.mp h).1 ▸ h, e⟩
  | .tup ds, v, h => by
    unfold Rep at h ⊢
    obtain ⟨a, vs, e, h1, h2⟩ := h
    exact ⟨a, vs, e, x.tup a _ h1, repL_ext x ds vs h2⟩
theorem repL_ext {G : Cst} {μ H μ' H'} (x : Ext μ H μ' H') : ∀ (ds : List Dv) (vs : List V), RepL G μ H ds vs → RepL G μ' H' ds vs
  | [], vs, h => by unfold RepL at h ⊢; exact h
  | d :: ds, vs, h => by
    unfold RepL at h ⊢
    obtain ⟨v, r, e, h1, h2⟩ := h
    exact ⟨v, r, e, rep_ext x d v h1, repL_ext x ds r h2⟩
end
theorem repK_ext {G : Cst} {μ H μ' H'} (x : Ext μ H μ' H') : ∀ (ds : List (List Key × Dv)) (vs : List (List Key × V)), RepK G μ H ds vs → RepK G μ' H' ds vs
  | [], vs, h => by unfold RepK at h ⊢; exact h
  | (k, d) :: ds, vs, h => by
    unfold RepK at h ⊢
    obtain ⟨v, r, e, h1, h2⟩ := h
    exact ⟨v, r, e, rep_ext x d v h1, repK_ext x ds r h2⟩
theorem ceR_ext {G : Cst} {μ H μ' H' a c} (x : Ext μ H μ' H') (e : H' a = H a) (h : CeR G μ H a c) : CeR G μ' H' a c := by
  cases c with
  | lst xs => obtain ⟨vs, h, r⟩ := h; exact ⟨vs, e.trans h, repL_ext x _ _ r⟩
  | ro xs => obtain ⟨o, vs, h, r⟩ := h; exact ⟨o, vs, e.trans h, repL_ext x _ _ r⟩
  | dct xs => obtain ⟨vs, h, r⟩ := h; exact ⟨vs, e.trans h, repK_ext x _ _ r⟩
section
variable {G : Cst} {μ : List Addr} {H : Hp} {sto : Sto}
theorem wld_adopt (w : Wld G μ H sto) {D : Addr} {acc : List Dv} {vs : List V} (hD : D ∉ μ) (h : H D = some (.lst vs)) (r : RepL G μ H acc vs) : Wld G (μ ++ [D]) H (sto ++ [.lst acc]) := by
  have x : Ext μ H (μ ++ [D]) H := ⟨⟨[D], rfl⟩, fun _ _ h => h⟩
  refine ⟨by simp [w.len], ?_, fun n a d h1 h2 => ?_⟩
  · rw [List.nodup_append]
    refine ⟨w.nd, by simp, fun a ha b hb e => ?_⟩
    rw [List.mem_singleton.mp hb] at e
    exact hD (e ▸ ha)
  · by_cases hn : n < μ.length
    · rw [List.getElem?_append_left hn] at h1
      rw [List.getElem?_append_left (by rw [← w.len]; exact hn)] at h2
      exact ceR_ext x rfl (w.cell n a d h1 h2)
    · have hl : n = μ.length := by
        have := (List.getElem?_eq_some_iff.mp h1).1
        simp at this; omega
      subst hl
      rw [List.getElem?_append_right (Nat.le_refl _)] at h1
      rw [w.len, List.getElem?_append_right (Nat.le_refl _)] at h2
      simp at h1 h2
      subst h1; subst h2
      exact ⟨vs, h, repL_ext x _ _ r⟩
end

theorem Nxt.ext {μ H μ' H'} (x : Nxt μ H μ' H') (f : TupFree μ H) : Ext μ H μ' H' := ⟨x.pre, fun a vs h => x.keep a _ h (f a vs h)⟩

/-! ### what is walked -/
def ItR (G : Cst) (μ0 : List Addr) (H0 : Hp) (src : Src) (J : L2.It) : Prop :=
  ∀ μ H sto i, Wld G μ H sto → Ext μ0 H0 μ H → (nxt src i sto = some none → J.stop i H) ∧ ∀ d, nxt src i sto = some (some d) → J.go i H ∧ ∀ x H', J.yld i H x H' → Wld G μ H' sto ∧ Nxt μ H μ H' ∧ Rep G μ H' d x
def RI (G : Cst) (f : DEnv → M Src) : TI := fun σ H R => ∃ env sto μ, Wld G μ H sto ∧ EnvR G μ H env σ ∧ ∃ src sto', f env sto = .ok src sto' ∧ ∀ J H' μ', Wld G μ' H' sto' → Nxt μ H μ' H' → ItR G μ' H' src J → R J H'
theorem pi_imp {X : Cx} {tg e : Expr} {t t' : TI} (h : PI X tg e t) (i : ∀ σ H R, t' σ H R → t σ H R) : PI X tg e t' := ⟨fun p s σ H R I q => h.run p s σ H R I (i σ H R q)⟩
theorem pi_or {X : Cx} {tg e : Expr} {t t' : TI} (h : PI X tg e t) (h' : PI X tg e t') : PI X tg e (fun σ H R => t σ H R ∨ t' σ H R) := ⟨fun p s σ H R I q => by
  rcases q with q | q
  · exact h.run p s σ H R I q
  · exact h'.run p s σ H R I q⟩
section
variable {G : Cst} {F : Nat → List Dv → M Dv} {gv : Str → Option Dv} {Γ : SC} {X : Cx}
theorem itr_tup {K : PySem.W.Frag} {μ0 : List Addr} {H0 : Hp} {sto0 : Sto} (w0 : Wld G μ0 H0 sto0) {a : Addr} {xs : List Dv} {vs : List V} (h : H0 a = some (.tup vs)) (r : RepL G μ0 H0 xs vs) : ItR G μ0 H0 (.tup xs) (Itt K a) := by
  intro μ H sto i w n
  have h1 := n.tup a _ h
  have r1 := repL_ext n _ _ r
  refine ⟨fun e => ⟨vs, .inl (.inl h1), ?_⟩, fun d e => ?_⟩
  · have e : xs[i]? = none := Option.some.inj e
    rw [List.getElem?_eq_none_iff] at e
    rw [repL_len r1]; exact e
  · have e : xs[i]? = some d := Option.some.inj e
    obtain ⟨v, hv, rv⟩ := repL_get r1 e
    refine ⟨⟨vs, v, .inl (.inl h1), hv⟩, fun x H' y => ?_⟩
    obtain ⟨rfl, y⟩ := y
    have := (y vs (.inl (.inl h1))).symm.trans hv
    cases this
    exact ⟨w, .refl, rv⟩
theorem itr_lst {K : PySem.W.Frag} {μ0 : List Addr} {H0 : Hp} {sto0 : Sto} (w0 : Wld G μ0 H0 sto0) {a : Addr} {n : Nat} (h : Rep G μ0 H0 (.loc n) (.ref a)) : ItR G μ0 H0 (.lst n) (Itl K a) := by
  intro μ H sto i w nx
  have r0 := rep_ext nx _ _ h
  have key : ∀ xs, (sto[n]? = some (.lst xs) ∨ sto[n]? = some (.ro xs)) → nxt (.lst n) i sto = some xs[i]? ∧ ∃ vs, SqL K H a vs ∧ RepL G μ H xs vs := fun xs e => by
    obtain ⟨a', vs, ea, sq, r⟩ := w.sq K e r0
    cases ea
    refine ⟨?_, vs, sq, r⟩
    rcases e with e | e <;> (simp only [nxt]; rw [e])
  have cas : (∃ xs, sto[n]? = some (.lst xs) ∨ sto[n]? = some (.ro xs)) ∨ nxt (.lst n) i sto = none := by
    simp only [nxt]
    cases q : sto[n]? with
    | none => exact .inr rfl
    | some c =>
      cases c with
      | lst xs => exact .inl ⟨xs, .inl rfl⟩
      | ro xs => exact .inl ⟨xs, .inr rfl⟩
      | dct xs => exact .inr rfl
  rcases cas with ⟨xs, e⟩ | e
  · obtain ⟨e1, vs, sq, r⟩ := key xs e
    rw [e1]
    refine ⟨fun q => ⟨vs, sq, ?_⟩, fun d q => ?_⟩
    · have q : xs[i]? = none := Option.some.inj q
      rw [List.getElem?_eq_none_iff] at q
      rw [repL_len r]; exact q
    · have q : xs[i]? = some d := Option.some.inj q
      obtain ⟨v, hv, rv⟩ := repL_get r q
      refine ⟨⟨vs, v, sq, hv⟩, fun x H' y => ?_⟩
      obtain ⟨rfl, y⟩ := y
      have := (y vs sq).symm.trans hv
      cases this
      exact ⟨w, .refl, rv⟩
  · rw [e]; exact ⟨fun q => (by cases q), fun d q => by cases q⟩
theorem itr_rng {μ0 : List Addr} {H0 : Hp} {lo : Int} {n : Nat} : ItR G μ0 H0 (.rng lo n) (Itr lo n) := by
  intro μ H sto i w nx
  simp only [nxt]
  by_cases h : i < n
  · rw [if_pos h]
    refine ⟨fun q => (by cases q), fun d q => ⟨h, fun x H' y => ?_⟩⟩
    cases q
    obtain ⟨rfl, rfl⟩ := y
    exact ⟨w, .refl, by rw [rep_int]⟩
  · rw [if_neg h]
    exact ⟨fun _ => Nat.le_of_not_lt h, fun d q => by cases q⟩
theorem itr_zipT {K : PySem.W.Frag} {μ0 : List Addr} {H0 : Hp} {sto0 : Sto} (w0 : Wld G μ0 H0 sto0) {a b : Addr} {xs ys : List Dv} {vs us : List V} (ha : H0 a = some (.tup vs)) (hb : H0 b = some (.tup us)) (ra : RepL G μ0 H0 xs vs) (rb : RepL G μ0 H0 ys us) : ItR G μ0 H0 (.zipT xs ys) (RZ.ItzT K a b) := by
  intro μ H sto i w n
  have h1 : SqT K H a vs := .inl (.inl (n.tup a _ ha))
  have h2 : SqT K H b us := .inl (.inl (n.tup b _ hb))
  have r1 := repL_ext n _ _ ra
  have r2 := repL_ext n _ _ rb
  simp only [nxt]
  cases q1 : xs[i]? with
  | none =>
    refine ⟨fun _ => ⟨vs, us, h1, h2, .inl ?_⟩, fun d e => by cases e⟩
    rw [List.getElem?_eq_none_iff] at q1
    rw [repL_len r1]; exact q1
  | some dx =>
    cases q2 : ys[i]? with
    | none =>
      refine ⟨fun _ => ⟨vs, us, h1, h2, .inr ?_⟩, fun d e => by cases e⟩
      rw [List.getElem?_eq_none_iff] at q2
      rw [repL_len r2]; exact q2
    | some dy =>
      obtain ⟨v, hv, rv⟩ := repL_get r1 q1
      obtain ⟨u, hu, ru⟩ := repL_get r2 q2
      refine ⟨fun e => (by cases e), fun d e => ⟨⟨vs, us, v, u, h1, h2, hv, hu⟩, fun x H' y => ?_⟩⟩
      cases e
      obtain ⟨T, x1, x2, rfl, nT, rfl, y1, y2⟩ := y
      have e1 := (y1 vs h1).symm.trans hv
      have e2 := (y2 us h2).symm.trans hu
      cases e1; cases e2
      refine ⟨wld_tup w nT, nxt_tup w nT, ?_⟩
      rw [rep_tup]
      exact ⟨T, [_, _], rfl, upd_same, w.monoL (nxt_tup w nT) (repL_cons rv (repL_cons ru repL_nil))⟩
theorem itr_zipL {K : PySem.W.Frag} {μ0 : List Addr} {H0 : Hp} {sto0 : Sto} (w0 : Wld G μ0 H0 sto0) {a b : Addr} {n m : Nat} (ha : Rep G μ0 H0 (.loc n) (.ref a)) (hb : Rep G μ0 H0 (.loc m) (.ref b)) : ItR G μ0 H0 (.zipL n m) (Itz K a b) := by
  intro μ H sto i w nx
  have ra := rep_ext nx _ _ ha
  have rb := rep_ext nx _ _ hb
  simp only [nxt]
  cases q1 : sto[n]? with
  | none => exact ⟨fun q => (by cases q), fun d q => by cases q⟩
  | some c1 =>
    cases q2 : sto[m]? with
    | none => exact ⟨fun q => (by cases c1 <;> cases q), fun d q => by cases c1 <;> cases q⟩
    | some c2 =>
      cases c1 with
      | lst xs =>
        cases c2 with
        | lst ys =>
          obtain ⟨a', vs, e, _, h1, r1⟩ := w.lst q1 ra
          cases e
          obtain ⟨b', us, e, _, h2, r2⟩ := w.lst q2 rb
          cases e
          have s1 : SqL K H a vs := .inl (.inl h1)
          have s2 : SqL K H b us := .inl (.inl h2)
          simp only
          cases q1 : xs[i]? with
          | none =>
            refine ⟨fun _ => ⟨vs, us, s1, s2, .inl ?_⟩, fun d e => by cases e⟩
            rw [List.getElem?_eq_none_iff] at q1
            rw [repL_len r1]; exact q1
          | some dx =>
            cases q2 : ys[i]? with
            | none =>
              refine ⟨fun _ => ⟨vs, us, s1, s2, .inr ?_⟩, fun d e => by cases e⟩
              rw [List.getElem?_eq_none_iff] at q2
              rw [repL_len r2]; exact q2
            | some dy =>
              obtain ⟨v, hv, rv⟩ := repL_get r1 q1
              obtain ⟨u, hu, ru⟩ := repL_get r2 q2
              refine ⟨fun e => (by cases e), fun d e => ⟨⟨vs, us, v, u, s1, s2, hv, hu⟩, fun x H' y => ?_⟩⟩
              cases e
              obtain ⟨T, x1, x2, rfl, nT, rfl, y1, y2⟩ := y
              have e1 := (y1 vs s1).symm.trans hv
              have e2 := (y2 us s2).symm.trans hu
              cases e1; cases e2
              refine ⟨wld_tup w nT, nxt_tup w nT, ?_⟩
              rw [rep_tup]
              exact ⟨T, [_, _], rfl, upd_same, w.monoL (nxt_tup w nT) (repL_cons rv (repL_cons ru repL_nil))⟩
        | _ => exact ⟨fun q => (by cases q), fun d q => by cases q⟩
      | _ => exact ⟨fun q => (by cases c2 <;> cases q), fun d q => by cases c2 <;> cases q⟩
theorem itr_enum {K : PySem.W.Frag} {μ0 : List Addr} {H0 : Hp} {sto0 : Sto} (w0 : Wld G μ0 H0 sto0) {a : Addr} {n : Nat} (ha : Rep G μ0 H0 (.loc n) (.ref a)) : ItR G μ0 H0 (.enumL n) (Ite K a) := by
  intro μ H sto i w nx
  have ra := rep_ext nx _ _ ha
  simp only [nxt]
  cases q1 : sto[n]? with
  | none => exact ⟨fun q => (by cases q), fun d q => by cases q⟩
  | some c1 =>
    cases c1 with
    | lst xs =>
      obtain ⟨a', vs, e, _, h1, r1⟩ := w.lst q1 ra
      cases e
      have s1 : SqL K H a vs := .inl (.inl h1)
      simp only
      cases q1 : xs[i]? with
      | none =>
        refine ⟨fun _ => ⟨vs, s1, ?_⟩, fun d e => by cases e⟩
        rw [List.getElem?_eq_none_iff] at q1
        rw [repL_len r1]; exact q1
      | some dx =>
        obtain ⟨v, hv, rv⟩ := repL_get r1 q1
        refine ⟨fun e => (by cases e), fun d e => ⟨⟨vs, v, s1, hv⟩, fun x H' y => ?_⟩⟩
        cases e
        obtain ⟨T, x1, rfl, nT, rfl, y1⟩ := y
        have e1 := (y1 vs s1).symm.trans hv
        cases e1
        refine ⟨wld_tup w nT, nxt_tup w nT, ?_⟩
        rw [rep_tup]
        exact ⟨T, [_, _], rfl, upd_same, w.monoL (nxt_tup w nT) (repL_cons (by rw [rep_int]) (repL_cons rv repL_nil))⟩
    | _ => exact ⟨fun q => (by cases q), fun d q => by cases q⟩
theorem itr_revL {K : PySem.W.Frag} {μ0 : List Addr} {H0 : Hp} {sto0 : Sto} (w0 : Wld G μ0 H0 sto0) {a : Addr} {n k : Nat} (ha : Rep G μ0 H0 (.loc n) (.ref a)) : ItR G μ0 H0 (.revL n k) (Itv K a k) := by
  intro μ H sto i w nx
  have ra := rep_ext nx _ _ ha
  simp only [nxt]
  cases q1 : sto[n]? with
  | none => exact ⟨fun q => (by cases q), fun d q => by cases q⟩
  | some c1 =>
    cases c1 with
    | lst xs =>
      obtain ⟨a', vs, e, _, h1, r1⟩ := w.lst q1 ra
      cases e
      have s1 : SqL K H a vs := .inl (.inl h1)
      simp only
      by_cases hk : xs.length = k
      · rw [if_pos hk]
        by_cases hi : i < k
        · rw [if_pos hi]
          have hlt : k - 1 - i < xs.length := by omega
          refine ⟨fun e => ?_, fun d e => ?_⟩
          · have e : xs[k - 1 - i]? = none := Option.some.inj e
            rw [List.getElem?_eq_none_iff] at e; omega
          · have e : xs[k - 1 - i]? = some d := Option.some.inj e
            obtain ⟨v, hv, rv⟩ := repL_get r1 e
            refine ⟨⟨hi, vs, v, s1, hv⟩, fun x H' y => ?_⟩
            obtain ⟨rfl, y⟩ := y
            have := (y vs s1).symm.trans hv
            cases this
            exact ⟨w, .refl, rv⟩
        · rw [if_neg hi]
          exact ⟨fun _ => Nat.le_of_not_lt hi, fun d q => by cases q⟩
      · rw [if_neg hk]
        exact ⟨fun q => (by cases q), fun d q => by cases q⟩
    | _ => exact ⟨fun q => (by cases q), fun d q => by cases q⟩
theorem itr_revT {K : PySem.W.Frag} {μ0 : List Addr} {H0 : Hp} {sto0 : Sto} (w0 : Wld G μ0 H0 sto0) {a : Addr} {xs : List Dv} {vs : List V} (h : H0 a = some (.tup vs)) (r : RepL G μ0 H0 xs vs) : ItR G μ0 H0 (.revT xs) (RT.ItvT K a vs.length) := by
  intro μ H sto i w n
  have h1 : SqT K H a vs := .inl (.inl (n.tup a _ h))
  have r1 := repL_ext n _ _ r
  have hl := repL_len r1
  simp only [nxt]
  by_cases hi : i < xs.length
  · rw [if_pos hi]
    refine ⟨fun e => ?_, fun d e => ?_⟩
    · have e : xs[xs.length - 1 - i]? = none := Option.some.inj e
      rw [List.getElem?_eq_none_iff] at e; omega
    · have e : xs[xs.length - 1 - i]? = some d := Option.some.inj e
      obtain ⟨v, hv, rv⟩ := repL_get r1 e
      rw [← hl] at hv
      refine ⟨⟨by omega, vs, v, h1, hv⟩, fun x H' y => ?_⟩
      obtain ⟨rfl, y⟩ := y
      have := (y vs h1).symm.trans hv
      cases this
      exact ⟨w, .refl, rv⟩
  · rw [if_neg hi]
    exact ⟨fun _ => by show vs.length ≤ i; omega, fun d q => by cases q⟩

/-! the walked things of the text -/
theorem ri_seq {tg x : Expr} {a : E} (ha : PE X x (RE G (ev F gv a))) : PI X tg x (RI G (evi F gv (.seq a))) := by
  refine pi_imp (pi_or (pi_tup ha) (pi_list ha)) fun σ H R ⟨env, sto, μ, w, e1, src, sto', h, q⟩ => ?_
  replace h : (ev F gv a env >>= fun d => seqSrc d) sto = .ok src sto' := by unfold evi at h; exact h
  obtain ⟨d, s1, h1, h2⟩ := bind_ok h
  cases d with
  | tup xs =>
    cases h2
    refine .inl ⟨env, sto, μ, w, e1, .tup xs, _, h1, fun v H1 μ1 w1 n1 r1 => ?_⟩
    obtain ⟨b, vs, rfl, hb, r2⟩ := rep_ref r1
    exact ⟨b, rfl, ⟨vs, .inl (.inl hb)⟩, q _ H1 μ1 w1 n1 (itr_tup w1 hb r2)⟩
  | loc n =>
    obtain ⟨xs, s2, h3, h4⟩ := bind_ok (show (lstOf n >>= fun _ => pure (.lst n)) s1 = .ok src sto' from h2)
    obtain ⟨hc, rfl⟩ := lstOf_eq h3
    cases h4
    refine .inr ⟨env, sto, μ, w, e1, .loc n, _, h1, fun v H1 μ1 w1 n1 r1 => ?_⟩
    obtain ⟨b, vs, rfl, sq, r2⟩ := w1.sq X.K hc r1
    exact ⟨b, rfl, ⟨vs, sq⟩, q _ H1 μ1 w1 n1 (itr_lst w1 r1)⟩
  | _ => cases h2
theorem vals_one {μ : List Addr} {H : Hp} {d : Dv} {vs : List V} (r : RepL G μ H [d] vs) : ∃ v, vs = [v] ∧ Rep G μ H d v := one_of r
theorem ra_one {x : Expr} {a : E} (hs : isStar x = false) (ha : PE X x (RE G (ev F gv a))) : PA X [x] (RA G (evs F gv (.cons a .nil))) := pa_consD hs ha pa_nilD
theorem evs_one {a : E} {env : DEnv} {sto sto1 : Sto} {d : Dv} (h : ev F gv a env sto = .ok d sto1) : evs F gv (.cons a .nil) env sto = .ok [d] sto1 := by
  unfold evs
  rw [bind_ok_of h]
  unfold evs
  rfl
theorem evs_two {a b : E} {env : DEnv} {sto sto1 sto2 : Sto} {d e : Dv} (h : ev F gv a env sto = .ok d sto1) (h2 : ev F gv b env sto1 = .ok e sto2) : evs F gv (.cons a (.cons b .nil)) env sto = .ok [d, e] sto2 := by
  unfold evs
  rw [bind_ok_of h, bind_ok_of (evs_one h2)]
  rfl
theorem ri_rng1 (c : Ctx G F gv Γ X) {tg x : Expr} {p pos : Pos} {a : E} (hb : Γ.bns.contains "range" = true) (hg : Γ.gl "range" = true) (hs : isStar x = false) (ha : PE X x (RE G (ev F gv a))) : PI X tg (.Call (.Name "range" p) [x] [] pos) (RI G (evi F gv (.rng1 a))) := by
  obtain ⟨g1, _, _⟩ := c.glb hg
  refine pi_imp (pi_range1 g1 (c.bns _ (List.contains_iff_mem.mp hb)) (ra_one hs ha) (by rw [star_each hs]; rfl)) fun σ H R ⟨env, sto, μ, w, e1, src, sto', h, q⟩ => ?_
  replace h : (ev F gv a env >>= fun d => match d with
    | .int n => if -(2 ^ 62) ≤ n ∧ n < 2 ^ 62 then pure (.rng 0 n.toNat) else fail
    | _ => fail) sto = .ok src sto' := by unfold evi at h; exact h
  obtain ⟨d, s1, h1, h2⟩ := bind_ok h
  cases d with
  | int n =>
    simp only at h2
    by_cases hc : -(2 ^ 62) ≤ n ∧ n < 2 ^ 62
    · rw [if_pos hc] at h2
      cases h2
      refine ⟨env, sto, μ, w, e1, [.int n], _, evs_one h1, fun vs H1 μ1 w1 n1 r1 => ?_⟩
      obtain ⟨v, rfl, rv⟩ := one_of r1
      exact ⟨n, by rw [repI rv], hc.1, hc.2, q _ H1 μ1 w1 n1 itr_rng⟩
    · rw [if_neg hc] at h2; cases h2
  | _ => cases h2
theorem ri_rng2 (c : Ctx G F gv Γ X) {tg x y : Expr} {p pos : Pos} {a b : E} (hb : Γ.bns.contains "range" = true) (hg : Γ.gl "range" = true) (hs : isStar x = false) (hs2 : isStar y = false) (ha : PE X x (RE G (ev F gv a))) (hb2 : PE X y (RE G (ev F gv b))) : PI X tg (.Call (.Name "range" p) [x, y] [] pos) (RI G (evi F gv (.rng2 a b))) := by
  obtain ⟨g1, _, _⟩ := c.glb hg
  refine pi_imp (pi_range2 g1 (c.bns _ (List.contains_iff_mem.mp hb)) (pa_consD hs ha (ra_one hs2 hb2)) (by rw [star_each hs, star_each hs2]; rfl) (by rw [star_each hs2]; rfl)) fun σ H R ⟨env, sto, μ, w, e1, src, sto', h, q⟩ => ?_
  replace h : (ev F gv a env >>= fun d => ev F gv b env >>= fun e => match d, e with
    | .int i, .int n => if -(2 ^ 62) ≤ i ∧ i < 2 ^ 62 ∧ -(2 ^ 62) ≤ n ∧ n < 2 ^ 62 then pure (.rng i (n - i).toNat) else fail
    | _, _ => fail) sto = .ok src sto' := by unfold evi at h; exact h
  obtain ⟨d, s1, h1, h2⟩ := bind_ok h
  obtain ⟨e, s2, h3, h4⟩ := bind_ok h2
  cases d with
  | int i =>
    cases e with
    | int n =>
      simp only at h4
      by_cases hc : -(2 ^ 62) ≤ i ∧ i < 2 ^ 62 ∧ -(2 ^ 62) ≤ n ∧ n < 2 ^ 62
      · rw [if_pos hc] at h4
        cases h4
        refine ⟨env, sto, μ, w, e1, [.int i, .int n], _, evs_two h1 h3, fun vs H1 μ1 w1 n1 r1 => ?_⟩
        obtain ⟨v, u, rfl, rv, ru⟩ := two_of r1
        exact ⟨i, n, by rw [repI rv, repI ru], hc, q _ H1 μ1 w1 n1 itr_rng⟩
      · rw [if_neg hc] at h4; cases h4
    | _ => cases h4
  | _ => cases e <;> cases h4
theorem ri_zip (c : Ctx G F gv Γ X) {x y : Expr} {elts : List Expr} {kk : Nat} {tpos p pos : Pos} {a b : E} (hb : Γ.bns.contains "zip" = true) (hg : Γ.gl "zip" = true) (hs : isStar x = false) (hs2 : isStar y = false) (ha : PE X x (RE G (ev F gv a))) (hb2 : PE X y (RE G (ev F gv b))) : PI X (.Tuple elts kk tpos) (.Call (.Name "zip" p) [x, y] [] pos) (RI G (evi F gv (.zip a b))) := by
  obtain ⟨g1, _, _⟩ := c.glb hg
  refine pi_imp (RZ.pi_zipA g1 (c.bns _ (List.contains_iff_mem.mp hb)) (pa_consD hs ha (ra_one hs2 hb2)) (star_each hs) (star_any (by simp [hs2]))) fun σ H R ⟨env, sto, μ, w, e1, src, sto', h, q⟩ => ?_
  replace h : (ev F gv a env >>= fun d => ev F gv b env >>= fun e => match d, e with
    | .tup xs, .tup ys => pure (.zipT xs ys)
    | .loc n, .loc m => (getC n >>= fun c1 => getC m >>= fun c2 => match c1, c2 with
      | .lst _, .lst _ => pure (.zipL n m)
      | _, _ => fail)
    | _, _ => fail) sto = .ok src sto' := by unfold evi at h; exact h
  obtain ⟨d, s1, h1, h2⟩ := bind_ok h
  obtain ⟨e, s2, h3, h4⟩ := bind_ok h2
  cases d with
  | tup xs =>
    cases e with
    | tup ys =>
      cases h4
      refine ⟨env, sto, μ, w, e1, [.tup xs, .tup ys], _, evs_two h1 h3, fun vs H1 μ1 w1 n1 r1 => ?_⟩
      obtain ⟨v, u, rfl, rv, ru⟩ := two_of r1
      obtain ⟨b1, vs1, rfl, hb1, q1⟩ := rep_ref rv
      obtain ⟨b2, vs2, rfl, hb2, q2⟩ := rep_ref ru
      exact ⟨b1, b2, vs1, vs2, rfl, .inr ⟨.inl (.inl hb1), .inl (.inl hb2), q _ H1 μ1 w1 n1 (itr_zipT w1 hb1 hb2 q1 q2)⟩⟩
    | _ => cases h4
  | loc n =>
    cases e with
    | loc m =>
      obtain ⟨c1, s3, h5, h6⟩ := bind_ok (show (getC n >>= fun c1 => getC m >>= fun c2 => _) s2 = .ok src sto' from h4)
      obtain ⟨c2, s4, h7, h8⟩ := bind_ok h6
      obtain ⟨g3, rfl⟩ := getC_eq h5
      obtain ⟨g4, rfl⟩ := getC_eq h7
      cases c1 with
      | lst xs =>
        cases c2 with
        | lst ys =>
          cases h8
          refine ⟨env, sto, μ, w, e1, [.loc n, .loc m], _, evs_two h1 h3, fun vs H1 μ1 w1 n1 r1 => ?_⟩
          obtain ⟨v, u, rfl, rv, ru⟩ := two_of r1
          obtain ⟨b1, vs1, rfl, sq1, q1⟩ := w1.sq X.K (.inl g3) rv
          obtain ⟨b2, vs2, rfl, sq2, q2⟩ := w1.sq X.K (.inl g4) ru
          exact ⟨b1, b2, vs1, vs2, rfl, .inl ⟨sq1, sq2, q _ H1 μ1 w1 n1 (itr_zipL w1 rv ru)⟩⟩
        | _ => cases h8
      | _ => cases c2 <;> cases h8
    | _ => cases h4
  | _ => cases e <;> cases h4
theorem itr_enumT {K : PySem.W.Frag} {μ0 : List Addr} {H0 : Hp} {a : Addr} {xs : List Dv} {vs : List V} (h : H0 a = some (.tup vs)) (r : RepL G μ0 H0 xs vs) : ItR G μ0 H0 (.enumT xs) (IteT K a) := by
  intro μ H sto i w n
  have s1 : SqT K H a vs := .inl (.inl (n.tup a _ h))
  have r1 := repL_ext n _ _ r
  simp only [nxt]
  cases q1 : xs[i]? with
  | none =>
    refine ⟨fun _ => ⟨vs, s1, ?_⟩, fun d e => by cases e⟩
    rw [List.getElem?_eq_none_iff] at q1
    rw [repL_len r1]; exact q1
  | some dx =>
    obtain ⟨v, hv, rv⟩ := repL_get r1 q1
    refine ⟨fun e => (by cases e), fun d e => ⟨⟨vs, v, s1, hv⟩, fun x H' y => ?_⟩⟩
    cases e
    obtain ⟨T, x1, rfl, nT, rfl, y1⟩ := y
    have e1 := (y1 vs s1).symm.trans hv
    cases e1
    refine ⟨wld_tup w nT, nxt_tup w nT, ?_⟩
    rw [rep_tup]
    exact ⟨T, _, rfl, upd_same, repL_cons (by rw [rep_int]) (repL_cons (w.mono (nxt_tup w nT) rv) repL_nil)⟩
theorem ri_enum (c : Ctx G F gv Γ X) {x : Expr} {elts : List Expr} {kk : Nat} {tpos p pos : Pos} {a : E} (hb : Γ.bns.contains "enumerate" = true) (hg : Γ.gl "enumerate" = true) (hs : isStar x = false) (ha : PE X x (RE G (ev F gv a))) : PI X (.Tuple elts kk tpos) (.Call (.Name "enumerate" p) [x] [] pos) (RI G (evi F gv (.enum a))) := by
  obtain ⟨g1, _, _⟩ := c.glb hg
  refine pi_imp (pi_or (pi_enum g1 (c.bns _ (List.contains_iff_mem.mp hb)) (ra_one hs ha) (by rw [star_each hs]; rfl)) (pi_enumT g1 (c.bns _ (List.contains_iff_mem.mp hb)) (ra_one hs ha) (by rw [star_each hs]; rfl))) fun σ H R ⟨env, sto, μ, w, e1, src, sto', h, q⟩ => ?_
  replace h : (ev F gv a env >>= fun d => match d with
    | .loc n => (getC n >>= fun c1 => match c1 with
      | .lst _ => pure (.enumL n)
      | _ => fail)
    | .tup xs => pure (.enumT xs)
    | _ => fail) sto = .ok src sto' := by unfold evi at h; exact h
  obtain ⟨d, s1, h1, h2⟩ := bind_ok h
  cases d with
  | loc n =>
    obtain ⟨c1, s3, h5, h6⟩ := bind_ok (show (getC n >>= fun c1 => _) s1 = .ok src sto' from h2)
    obtain ⟨g3, rfl⟩ := getC_eq h5
    cases c1 with
    | lst xs =>
      cases h6
      refine .inl ⟨env, sto, μ, w, e1, [.loc n], _, evs_one h1, fun vs H1 μ1 w1 n1 r1 => ?_⟩
      obtain ⟨v, rfl, rv⟩ := one_of r1
      obtain ⟨b1, vs1, rfl, sq1, q1⟩ := w1.sq X.K (.inl g3) rv
      exact ⟨b1, vs1, rfl, sq1, q _ H1 μ1 w1 n1 (itr_enum w1 rv)⟩
    | _ => cases h6
  | tup xs =>
    cases h2
    refine .inr ⟨env, sto, μ, w, e1, [.tup xs], _, evs_one h1, fun vs H1 μ1 w1 n1 r1 => ?_⟩
    obtain ⟨v, rfl, rv⟩ := one_of r1
    obtain ⟨b, ws, rfl, hb, r⟩ := rep_tup.mp rv
    exact ⟨b, ws, rfl, .inl (.inl hb), q _ H1 μ1 w1 n1 (itr_enumT hb r)⟩
  | _ => cases h2
theorem ri_rev (c : Ctx G F gv Γ X) {tg x : Expr} {p pos : Pos} {a : E} (hb : Γ.bns.contains "reversed" = true) (hg : Γ.gl "reversed" = true) (hs : isStar x = false) (ha : PE X x (RE G (ev F gv a))) : PI X tg (.Call (.Name "reversed" p) [x] [] pos) (RI G (evi F gv (.rev a))) := by
  obtain ⟨g1, _, _⟩ := c.glb hg
  refine pi_imp (RT.pi_revA g1 (c.bns _ (List.contains_iff_mem.mp hb)) ha (star_each hs)) fun σ H R ⟨env, sto, μ, w, e1, src, sto', h, q⟩ => ?_
  replace h : (ev F gv a env >>= fun d => match d with
    | .tup xs => pure (.revT xs)
    | .loc n => (getC n >>= fun c1 => match c1 with
      | .lst xs => pure (.revL n xs.length)
      | _ => fail)
    | _ => fail) sto = .ok src sto' := by unfold evi at h; exact h
  obtain ⟨d, s1, h1, h2⟩ := bind_ok h
  cases d with
  | tup xs =>
    cases h2
    refine ⟨env, sto, μ, w, e1, _, _, h1, fun v H1 μ1 w1 n1 r1 => ?_⟩
    obtain ⟨b1, vs1, rfl, hb1, q1⟩ := rep_ref r1
    exact ⟨b1, vs1, rfl, .inr ⟨.inl (.inl hb1), q _ H1 μ1 w1 n1 (itr_revT w1 hb1 q1)⟩⟩
  | loc n =>
    obtain ⟨c1, s3, h5, h6⟩ := bind_ok (show (getC n >>= fun c1 => _) s1 = .ok src sto' from h2)
    obtain ⟨g3, rfl⟩ := getC_eq h5
    cases c1 with
    | lst xs =>
      cases h6
      refine ⟨env, sto, μ, w, e1, _, _, h1, fun v H1 μ1 w1 n1 r1 => ?_⟩
      obtain ⟨b1, vs1, rfl, sq1, q1⟩ := w1.sq X.K (.inl g3) r1
      refine ⟨b1, vs1, rfl, .inl ⟨sq1, q _ H1 μ1 w1 n1 ?_⟩⟩
      rw [repL_len q1]
      exact itr_revL w1 r1
    | _ => cases h6
  | _ => cases h2
/-! ### zip(*x) -/
theorem rowsD_rep {μ : List Addr} {H : Hp} : ∀ {ds : List Dv} {vs : List V} {rows : List (List Dv)}, rowsD ds = some rows → RepL G μ H ds vs → ∃ ts : List Addr, vs = ts.map V.ref ∧ ts.length = rows.length ∧ ∀ (k : Nat) (a : Addr), ts[k]? = some a → ∃ r ws, rows[k]? = some r ∧ H a = some (.tup ws) ∧ RepL G μ H r ws
  | [], vs, rows, h, r => by
    cases h
    unfold RepL at r
    subst r
    exact ⟨[], rfl, rfl, fun k a e => by simp at e⟩
  | .tup xs :: ds, vs, rows, h, r => by
    unfold rowsD at h
    obtain ⟨rs, h1, rfl⟩ := Option.map_eq_some_iff.mp h
    unfold RepL at r
    obtain ⟨v, vs', rfl, rv, r'⟩ := r
    obtain ⟨ts, rfl, l, q⟩ := rowsD_rep h1 r'
    obtain ⟨a, ws, rfl, ha, rw'⟩ := rep_tup.mp rv
    refine ⟨a :: ts, rfl, by simp [l], fun k b e => ?_⟩
    cases k with
    | zero =>
      cases (show a = b by simpa using e)
      exact ⟨xs, ws, rfl, ha, rw'⟩
    | succ k => simpa using q k b (by simpa using e)
  | .non :: _, _, _, h, _ => by cases h
  | .bl _ :: _, _, _, h, _ => by cases h
  | .int _ :: _, _, _, h, _ => by cases h
  | .str _ :: _, _, _, h, _ => by cases h
  | .loc _ :: _, _, _, h, _ => by cases h
  | .num _ _ :: _, _, _, h, _ => by cases h
theorem colAt_some : ∀ {rows : List (List Dv)} {i : Nat} {ds : List Dv}, colAt rows i = some ds → ds.length = rows.length ∧ ∀ (k : Nat) (r : List Dv), rows[k]? = some r → ∃ d, ds[k]? = some d ∧ r[i]? = some d
  | [], i, ds, h => by cases h; exact ⟨rfl, fun k r e => by simp at e⟩
  | r :: rs, i, ds, h => by
    unfold colAt at h
    split at h
    · rename_i d ds' h1 h2
      cases h
      obtain ⟨l, q⟩ := colAt_some h2
      refine ⟨by simp [l], fun k r' e => ?_⟩
      cases k with
      | zero => cases (show r = r' by simpa using e); exact ⟨d, rfl, h1⟩
      | succ k => simpa using q k r' (by simpa using e)
    · cases h
theorem colAt_none : ∀ {rows : List (List Dv)} {i n : Nat}, (∀ r ∈ rows, r.length = n) → colAt rows i = none → n ≤ i
  | [], i, n, _, h => by cases h
  | r :: rs, i, n, hl, h => by
    by_cases c : i < n
    · unfold colAt at h
      have hr := hl r (by simp)
      rw [List.getElem?_eq_getElem (by omega)] at h
      cases q : colAt rs i with
      | none => exact colAt_none (fun x hx => hl x (by simp [hx])) q
      | some ds => rw [q] at h; cases h
    · omega
theorem repL_idx {μ : List Addr} {H : Hp} : ∀ {ds : List Dv} {vs : List V}, vs.length = ds.length → (∀ (k : Nat) (d : Dv), ds[k]? = some d → ∃ v, vs[k]? = some v ∧ Rep G μ H d v) → RepL G μ H ds vs
  | [], [], _, _ => repL_nil
  | [], _ :: _, l, _ => by simp at l
  | _ :: _, [], l, _ => by simp at l
  | d :: ds, v :: vs, l, h => by
    obtain ⟨u, e, r⟩ := h 0 d rfl
    have e' : v = u := by simpa using e
    exact repL_cons (e' ▸ r) (repL_idx (by simpa using l) fun k x hx => by simpa using h (k + 1) x (by simpa using hx))
theorem itr_zipN {K : PySem.W.Frag} {μ0 : List Addr} {H0 : Hp} {rows : List (List Dv)} {ts : List Addr} {n : Nat} (ne : rows ≠ []) (hn : ∀ r ∈ rows, r.length = n) (l : ts.length = rows.length)
    (h : ∀ (k : Nat) (a : Addr), ts[k]? = some a → ∃ r ws, rows[k]? = some r ∧ H0 a = some (.tup ws) ∧ RepL G μ0 H0 r ws) : ItR G μ0 H0 (.zipN rows) (ItN K ts) := by
  intro μ H sto i w x
  have at_ : ∀ (k : Nat) (a : Addr), ts[k]? = some a → ∃ r ws, rows[k]? = some r ∧ SqT K H a ws ∧ RepL G μ H r ws := fun k a e => by
    obtain ⟨r, ws, h1, h2, h3⟩ := h k a e
    exact ⟨r, ws, h1, .inl (.inl (x.tup a _ h2)), repL_ext x _ _ h3⟩
  have one : ∀ (k : Nat) (a : Addr) (xs ys : List V), ts[k]? = some a → SqT K H a xs → (∃ r, rows[k]? = some r ∧ H a = some (.tup ys)) → True := fun _ _ _ _ _ _ _ => trivial
  simp only [nxt]
  cases q : colAt rows i with
  | none =>
    refine ⟨fun _ => ?_, fun d e => by cases e⟩
    have le := colAt_none hn q
    cases ts with
    | nil => cases rows with
      | nil => exact absurd rfl ne
      | cons _ _ => simp at l
    | cons a r =>
      obtain ⟨r', ws, h1, h2, h3⟩ := at_ 0 a rfl
      refine ⟨a, ws, rfl, h2, ?_⟩
      rw [repL_len h3, hn r' (List.mem_of_getElem? h1)]
      exact le
  | some ds =>
    obtain ⟨ld, hd⟩ := colAt_some q
    refine ⟨fun e => (by cases e), fun d e => ?_⟩
    have e : Dv.tup ds = d := Option.some.inj (Option.some.inj e)
    subst e
    have thing : ∀ k : Nat, ∃ v : V, ∀ a, ts[k]? = some a → ∃ ws dk, SqT K H a ws ∧ ws[i]? = some v ∧ ds[k]? = some dk ∧ Rep G μ H dk v := fun k => by
      cases e : ts[k]? with
      | none => exact ⟨.non, fun a z => by cases z⟩
      | some a =>
        obtain ⟨r, ws, h1, h2, h3⟩ := at_ k a e
        obtain ⟨dk, e1, e2⟩ := hd k r h1
        obtain ⟨v, hv, rv⟩ := repL_get h3 e2
        exact ⟨v, fun a' z => by cases z; exact ⟨ws, dk, h2, hv, e1, rv⟩⟩
    let f : Nat → V := fun k => Classical.choose (thing k)
    have hf : ∀ k a, ts[k]? = some a → ∃ ws dk, SqT K H a ws ∧ ws[i]? = some (f k) ∧ ds[k]? = some dk ∧ Rep G μ H dk (f k) := fun k => Classical.choose_spec (thing k)
    refine ⟨⟨(List.range ts.length).map f, by simp, fun k a e => ?_⟩, fun v H' y => ?_⟩
    · obtain ⟨ws, dk, h2, hv, _, _⟩ := hf k a e
      have hk := (List.getElem?_eq_some_iff.mp e).1
      exact ⟨ws, f k, h2, hv, by rw [List.getElem?_map, List.getElem?_range hk]; rfl⟩
    · obtain ⟨T, ys, rfl, nT, rfl, ly, hy⟩ := y
      refine ⟨wld_tup w nT, nxt_tup w nT, rep_tup.mpr ⟨T, ys, rfl, upd_same, repL_idx (by rw [ly, ld, l]) fun k dk e => ?_⟩⟩
      have hk : k < ts.length := by
        have := (List.getElem?_eq_some_iff.mp e).1
        omega
      obtain ⟨ws, dk', h2, hv, e1, rv⟩ := hf k _ (List.getElem?_eq_getElem hk)
      obtain ⟨v, g1, g2⟩ := hy k _ ws (List.getElem?_eq_getElem hk) h2
      rw [hv] at g1
      cases g1
      rw [e1] at e
      cases e
      exact ⟨f k, g2, w.mono (nxt_tup w nT) rv⟩
theorem ri_zips (c : Ctx G F gv Γ X) {x : Expr} {y : Str} {yp p sp pos : Pos} {a : E} (hb : Γ.bns.contains "zip" = true) (hg : Γ.gl "zip" = true) (ha : PE X x (RE G (ev F gv a))) : PI X (.Name y yp) (.Call (.Name "zip" p) [.Starred x sp] [] pos) (RI G (evi F gv (.zips a))) := by
  obtain ⟨g1, _, _⟩ := c.glb hg
  refine pi_imp (pi_zips g1 (c.bns _ (List.contains_iff_mem.mp hb)) ha) fun σ H R ⟨env, sto, μ, w, e1, src, sto', h, q⟩ => ?_
  replace h : (ev F gv a env >>= fun d => match d with
    | .tup ds => match rowsD ds with
      | some rows => if rows ≠ [] ∧ rows.length ≤ 12 ∧ rows.all (fun r => r.length == (rows.headD []).length) then pure (.zipN rows) else fail
      | none => fail
    | _ => fail) sto = .ok src sto' := by unfold evi at h; exact h
  obtain ⟨d, s1, h1, h2⟩ := bind_ok h
  cases d with
  | tup ds =>
    simp only at h2
    cases q1 : rowsD ds with
    | none => rw [q1] at h2; cases h2
    | some rows =>
      rw [q1] at h2
      simp only at h2
      by_cases cnd : rows ≠ [] ∧ rows.length ≤ 12 ∧ rows.all (fun r => r.length == (rows.headD []).length)
      · rw [if_pos cnd] at h2
        cases h2
        refine ⟨env, sto, μ, w, e1, _, _, h1, fun v H1 μ1 w1 n1 r1 => ?_⟩
        obtain ⟨b, vs, rfl, hb, r⟩ := rep_tup.mp r1
        obtain ⟨ts, rfl, l, at_⟩ := rowsD_rep q1 r
        refine ⟨b, ts, rfl, .inl (.inl hb), fun z => ?_, by rw [l]; exact cnd.2.1, fun t ht => ?_, q _ H1 μ1 w1 n1 (itr_zipN (n := (rows.headD []).length) cnd.1 (fun r hr => by simpa using List.all_eq_true.mp cnd.2.2 r hr) l at_)⟩
        · subst z
          cases rows with
          | nil => exact cnd.1 rfl
          | cons _ _ => simp at l
        · obtain ⟨k, hk⟩ := List.mem_iff_getElem?.mp ht
          obtain ⟨r', ws, _, h4, _⟩ := at_ k t hk
          exact ⟨ws, .inl (.inl h4)⟩
      · rw [if_neg cnd] at h2; cases h2
  | _ => cases h2
end
end Dd
end
section
set_option Elab.async false
set_option linter.all false
set_option maxRecDepth 100000
namespace Dd
open PySem PySem.Spec PyProof.Rows L2

/-! ### targets -/
def tgIn : Tg → List Nat → Prop
  | .nm i, vs => i ∈ vs
  | .tp is, vs => ∀ i ∈ is, i ∈ vs
  | .tq i js, vs => i ∈ vs ∧ ∀ j ∈ js, j ∈ vs
theorem wipe_set {σ : L2.St} {i : Nat} {x : Option V} : ∀ {vs : List Nat}, i ∈ vs → wipe (σ.set i x) vs = wipe σ vs
  | v :: vs, h => by
    unfold wipe
    by_cases e : i ∈ vs
    · rw [wipe_set e]
    · have e2 : i = v := by
        rcases List.mem_cons.mp h with z | z
        · exact z
        · exact absurd z e
      subst e2
      have : ∀ (ws : List Nat), i ∉ ws → wipe (σ.set i x) ws = (wipe σ ws).set i x := by
        intro ws
        induction ws with
        | nil => intro _; rfl
        | cons w ws ih =>
          intro hn
          simp only [List.mem_cons, not_or] at hn
          show (wipe (σ.set i x) ws).set w none = ((wipe σ ws).set w none).set i x
          rw [ih hn.2, List.set_comm _ _ hn.1]
      rw [this vs e, List.set_set]
def RG (G : Cst) (tg : Tg) : TG := fun v σ H Q => ∃ d env env' μ sto, Wld G μ H sto ∧ EnvR G μ H env σ ∧ Rep G μ H d v ∧ bindT tg d env = some env' ∧ ∀ σ', EnvR G μ H env' σ' → (∀ vs, tgIn tg vs → wipe σ' vs = wipe σ vs) → Q σ' H
theorem pg_imp {X : Cx} {e : Expr} {t t' : TG} (h : PG X e t) (i : ∀ v σ H Q, t' v σ H Q → t v σ H Q) : PG X e t' := ⟨fun p s σ H v u Q I r q => h.run p s σ H v u Q I r (i v σ H Q q)⟩
theorem pgs_imp {X : Cx} {e : List Expr} {t t' : TGs} (h : PGs X e t) (i : ∀ v σ H Q, t' v σ H Q → t v σ H Q) : PGs X e t' := ⟨fun p s σ H v u Q I r q => h.run p s σ H v u Q I r (i v σ H Q q)⟩
def RGs (G : Cst) (is : List Nat) : TGs := fun vs σ H Q => ∃ ds env env' μ sto, Wld G μ H sto ∧ EnvR G μ H env σ ∧ RepL G μ H ds vs ∧ setMany is ds env = some env' ∧ ∀ σ', EnvR G μ H env' σ' → (∀ ws, (∀ i ∈ is, i ∈ ws) → wipe σ' ws = wipe σ ws) → Q σ' H
section
variable {G : Cst} {F : Nat → List Dv → M Dv} {gv : Str → Option Dv} {Γ : SC} {X : Cx}
theorem rg_nm (c : Ctx G F gv Γ X) {i : Nat} {x : Str} {p : Pos} (h1 : Γ.at i x = true) (h2 : Γ.sto x = true) : PG X (.Name x p) (RG G (.nm i)) := by
  obtain ⟨a, _, _⟩ := c.at h1
  obtain ⟨l, f⟩ := c.loc h2
  refine pg_imp (pg_name c.nds a l f) fun v σ H Q ⟨d, env, env', μ, sto, w, e, r, hb, q⟩ => ?_
  cases hb
  exact q _ (e.set r i) fun vs hv => wipe_set hv
def namesT (Γ : SC) : List Nat → List Expr → Bool
  | [], [] => true
  | i :: is, e :: es => (match vName e with | some (x, _) => Γ.at i x && Γ.sto x | none => false) && namesT Γ is es
  | _, _ => false
theorem rgs_ok (c : Ctx G F gv Γ X) : ∀ {is : List Nat} {es : List Expr}, namesT Γ is es = true → PGs X es (RGs G is) ∧ (assignEach es X.env).length = is.length ∧ (assignEach es X.env).findIdx? (·.1) = none
  | [], [], _ => by
    refine ⟨pgs_imp pgs_nil fun vs σ H Q ⟨ds, env, env', μ, sto, w, e, r, hb, q⟩ => ?_, rfl, rfl⟩
    cases ds with
    | nil =>
      cases hb
      unfold RepL at r
      exact ⟨r, q _ e fun _ _ => rfl⟩
    | cons _ _ => cases hb
  | [], _ :: _, h => by cases h
  | _ :: _, [], h => by cases h
  | i :: is, e :: es, h => by
    unfold namesT at h
    rw [Bool.and_eq_true] at h
    obtain ⟨h1, h2⟩ := h
    cases q : vName e with
    | none => rw [q] at h1; cases h1
    | some xp =>
      obtain ⟨x, p⟩ := xp
      rw [q] at h1
      rw [Bool.and_eq_true] at h1
      have := vName_eq q
      subst this
      obtain ⟨a, _, _⟩ := c.at h1.1
      obtain ⟨l, f⟩ := c.loc h1.2
      obtain ⟨r1, r2, r3⟩ := rgs_ok c h2
      refine ⟨pgs_imp (pgs_cons (pg_name c.nds a l f) r1) fun vs σ H Q ⟨ds, env, env', μ, sto, w, e, r, hb, q⟩ => ?_, ?_, ?_⟩
      · cases ds with
        | nil => cases hb
        | cons d ds =>
          unfold RepL at r
          obtain ⟨v, t, rfl, ra, rb⟩ := r
          refine ⟨v, t, rfl, ?_⟩
          refine ⟨ds, env.set i (some d), env', μ, sto, w, e.set ra i, rb, hb, fun σ' e' hw => q σ' e' fun ws hws => ?_⟩
          rw [hw ws fun j hj => hws j (List.mem_cons_of_mem _ hj)]
          exact wipe_set (hws i List.mem_cons_self)
      · show (assignEach es X.env).length + 1 = is.length + 1
        rw [r2]
      · show List.findIdx? (·.1) ((false, _) :: assignEach es X.env) = none
        rw [List.findIdx?_cons, r3]; rfl
theorem rg_tp (c : Ctx G F gv Γ X) {is : List Nat} {es : List Expr} {k : Nat} {p : Pos} (h : namesT Γ is es = true) : PG X (.Tuple es k p) (RG G (.tp is)) := by
  obtain ⟨r1, r2, r3⟩ := rgs_ok c h
  refine pg_imp (pg_tup c.calm r1 r2 r3) fun v σ H Q ⟨d, env, env', μ, sto, w, e, r, hb, q⟩ => ?_
  cases d with
  | num n m =>
    obtain ⟨a, rfl, sq⟩ := rep_numT c.cst r
    have hl : ∀ {is : List Nat} {ds : List Dv} {env : DEnv}, setMany is ds env = some env' → ds.length = is.length := by
      intro is
      induction is with
      | nil => intro ds env h; cases ds with | nil => rfl | cons _ _ => cases h
      | cons i is ih => intro ds env h; cases ds with | nil => cases h | cons d ds => exact congrArg (· + 1) (ih h)
    exact ⟨a, _, rfl, sq, hl (ds := [.int n, .int m]) hb, [.int n, .int m], env, env', μ, sto, w, e, repL_cons (by rw [rep_int]) (repL_cons (by rw [rep_int]) repL_nil), hb, q⟩
  | tup ds =>
    obtain ⟨a, vs, rfl, ha, rl⟩ := rep_ref r
    have hl : ∀ {is : List Nat} {ds : List Dv} {env : DEnv}, setMany is ds env = some env' → ds.length = is.length := by
      intro is
      induction is with
      | nil => intro ds env h; cases ds with | nil => rfl | cons _ _ => cases h
      | cons i is ih => intro ds env h; cases ds with | nil => cases h | cons d ds => exact congrArg (· + 1) (ih h)
    exact ⟨a, vs, rfl, .inl (.inl ha), (repL_len rl).trans (hl hb), ds, env, env', μ, sto, w, e, rl, hb, q⟩
  | _ => cases hb
theorem bindTq {i : Nat} {js : List Nat} {d : Dv} {env env' : DEnv} (h : bindT (.tq i js) d env = some env') : ∃ x y, d = .tup [x, y] ∧ bindT (.tp js) y (env.set i (some x)) = some env' := by
  unfold bindT at h
  split at h
  · rename_i h1; cases h1
  · rename_i h1; cases h1
  · rename_i h1; cases h1
  · rename_i h1; cases h1; exact ⟨_, _, rfl, h⟩
  · rename_i h1; cases h1; exact ⟨_, _, rfl, h⟩
  · cases h
theorem rg_tq (c : Ctx G F gv Γ X) {i : Nat} {js : List Nat} {x : Str} {px : Pos} {es : List Expr} {k k2 : Nat} {p p2 : Pos} (h1 : Γ.at i x = true) (h2 : Γ.sto x = true) (h : namesT Γ js es = true) : PG X (.Tuple [.Name x px, .Tuple es k2 p2] k p) (RG G (.tq i js)) := by
  obtain ⟨a, _, _⟩ := c.at h1
  obtain ⟨l, f⟩ := c.loc h2
  refine pg_imp (pg_tup c.calm (pgs_cons (pg_name c.nds a l f) (pgs_cons (rg_tp c h) pgs_nil)) rfl rfl) fun v σ H Q ⟨d, env, env', μ, sto, w, e, r, hb, q⟩ => ?_
  obtain ⟨dx, dy, rfl, hb2⟩ := bindTq hb
  obtain ⟨a, vs, rfl, ha, rl⟩ := rep_ref r
  unfold RepL at rl
  obtain ⟨v1, t1, rfl, r1, rl⟩ := rl
  unfold RepL at rl
  obtain ⟨v2, t2, rfl, r2, rl⟩ := rl
  unfold RepL at rl
  subst rl
  refine ⟨a, _, rfl, .inl (.inl ha), rfl, v1, [v2], rfl, v2, [], rfl, dy, env.set i (some dx), env', μ, sto, w, e.set r1 i, r2, hb2, fun σ' e' hw => ⟨rfl, q σ' e' fun vs hv => ?_⟩⟩
  rw [hw vs hv.2]
  exact wipe_set hv.1
def mTg (Γ : SC) : Tg → Expr → Bool
  | .nm i, e => (match vName e with | some (x, _) => Γ.at i x && Γ.sto x | none => false)
  | .tp is, e => (match vTuple e with | some (es, _, _) => namesT Γ is es | none => false)
  | .tq i js, e => (match vTuple e with
    | some ([a, b], _, _) => (match vName a, vTuple b with
      | some (x, _), some (es, _, _) => Γ.at i x && Γ.sto x && namesT Γ js es
      | _, _ => false)
    | _ => false)
theorem rg_ok (c : Ctx G F gv Γ X) {tg : Tg} {e : Expr} (h : mTg Γ tg e = true) : PG X e (RG G tg) := by
  cases tg with
  | nm i =>
    simp only [mTg] at h
    cases q : vName e with
    | none => rw [q] at h; cases h
    | some xp =>
      obtain ⟨x, p⟩ := xp
      rw [q] at h
      simp only [Bool.and_eq_true] at h
      rw [vName_eq q]
      exact rg_nm c h.1 h.2
  | tp is =>
    simp only [mTg] at h
    cases q : vTuple e with
    | none => rw [q] at h; cases h
    | some xp =>
      obtain ⟨es, k, p⟩ := xp
      rw [q] at h
      rw [vTuple_eq q]
      exact rg_tp c h
  | tq i js =>
    simp only [mTg] at h
    split at h
    · rename_i a b k p q
      split at h
      · rename_i x px es k2 p2 q1 q2
        simp only [Bool.and_eq_true] at h
        rw [vTuple_eq q, vName_eq q1, vTuple_eq q2]
        exact rg_tq c h.1.1 h.1.2 h.2
      · cases h
    · cases h

/-! ### comprehensions -/
theorem EnvR.wipe {μ : List Addr} {H : Hp} {env : DEnv} {σ : L2.St} (h : EnvR G μ H env σ) : ∀ (vs : List Nat), EnvR G μ H (wipeD env vs) (wipe σ vs)
  | [] => h
  | v :: vs => by
    have ih := EnvR.wipe h vs
    refine ⟨?_, fun j d e => ?_⟩
    · show ((wipeD env vs).set v none).length = ((L2.wipe σ vs).set v none).length
      rw [List.length_set, List.length_set]; exact ih.1
    · have e : ((wipeD env vs).set v none)[j]? = some (some d) := e
      show ∃ u, ((L2.wipe σ vs).set v none)[j]? = some (some u) ∧ _
      by_cases hj : v = j
      · subst hj
        have hl : v < (wipeD env vs).length := by
          have := (List.getElem?_eq_some_iff.mp e).1
          simpa using this
        rw [List.getElem?_set_self hl] at e
        cases e
      · rw [List.getElem?_set_ne hj] at e ⊢
        exact ih.2 j d e
def relN (sn names : List (Str × NameKind)) : List (Str × NameKind) := names.map fun (n, k) => if (k == .free && sn.lookup n == some .cell) then (n, .cell) else (n, k)
theorem comp_zero {src : Src} {turn : Dv → M (Option Dv)} {i : Nat} {acc : List Dv} {sto sF : Sto} {fin : List Dv} (h : compRun src turn 0 i acc sto = .ok fin sF) : nxt src i sto = some none ∧ fin = acc ∧ sF = sto := by
  have h : (nxtM src i >>= fun o => match o with
    | none => pure acc
    | some _ => fail) sto = .ok fin sF := h
  obtain ⟨o, s1, h1, h2⟩ := bind_ok h
  unfold nxtM at h1
  cases q : nxt src i sto with
  | none => rw [q] at h1; cases h1
  | some o' =>
    rw [q] at h1; cases h1
    cases o with
    | none => cases h2; exact ⟨rfl, rfl, rfl⟩
    | some _ => cases h2
theorem comp_succ {src : Src} {turn : Dv → M (Option Dv)} {k i : Nat} {acc : List Dv} {sto sF : Sto} {fin : List Dv} (h : compRun src turn (k + 1) i acc sto = .ok fin sF) :
    (nxt src i sto = some none ∧ fin = acc ∧ sF = sto) ∨ ∃ d o s1, nxt src i sto = some (some d) ∧ turn d sto = .ok o s1 ∧
      ((o = none ∧ compRun src turn k (i + 1) acc s1 = .ok fin sF) ∨ ∃ y, o = some y ∧ small acc.length = true ∧ compRun src turn k (i + 1) (acc ++ [y]) s1 = .ok fin sF) := by
  have h : (nxtM src i >>= fun o => match o with
    | none => pure acc
    | some d => turn d >>= fun r => match r with
      | none => compRun src turn k (i + 1) acc
      | some y => if small acc.length then compRun src turn k (i + 1) (acc ++ [y]) else fail) sto = .ok fin sF := h
  obtain ⟨o, s1, h1, h2⟩ := bind_ok h
  unfold nxtM at h1
  cases q : nxt src i sto with
  | none => rw [q] at h1; cases h1
  | some o' =>
    rw [q] at h1; cases h1
    cases o with
    | none => cases h2; exact .inl ⟨rfl, rfl, rfl⟩
    | some d =>
      obtain ⟨r, s2, h3, h4⟩ := bind_ok (show (turn d >>= fun r => _) sto = .ok fin sF from h2)
      refine .inr ⟨d, r, s2, rfl, h3, ?_⟩
      cases r with
      | none => exact .inl ⟨rfl, h4⟩
      | some y =>
        simp only at h4
        by_cases hz : small acc.length = true
        · rw [if_pos hz] at h4; exact .inr ⟨y, rfl, hz, h4⟩
        · rw [if_neg hz] at h4; cases h4
theorem re_comp {elt tg iter : Expr} {ifs : List Expr} {scope : Scope} {own : List (Str × Nat)} {pos : Pos} {a : E} {t : Tg} {it : It} {cnd : Oe} (hw : ∀ σ H Q, RE G (ev F gv (.comp a t it cnd (own.map (·.2)))) σ H Q → tLc (RI G (evi F gv it)) (RG G t) (RT G (tsto F gv cnd)) (RE G (ev F gv a)) (own.map (·.2)) σ H Q)
    (c : Ctx G F gv Γ X) (hi : PI X tg iter (RI G (evi F gv it))) (ok : BlkOk X.N X.env.scope scope own)
    (hg : ∀ (s : Shared) (H : Hp) (C : Addr) (cl : List (Str × Addr)) (fp : List Addr), PG (X.blk s H scope (compEnvC scope cl C X.env) fp) tg (RG G t)) (ht : ∀ (s : Shared) (H : Hp) (C : Addr) (cl : List (Str × Addr)) (fp : List Addr), PTs (X.blk s H scope (compEnvC scope cl C X.env) fp) ifs (RT G (tsto F gv cnd)))
    (he : ∀ (s : Shared) (H : Hp) (C : Addr) (cl : List (Str × Addr)) (fp : List Addr), PE (X.blk s H scope (compEnvC scope cl C X.env) fp) elt (RE G (ev F gv a))) (hs : isSetE iter = false) :
    PE X (.ListComp elt [⟨tg, iter, ifs, 0⟩] scope pos) (RE G (ev F gv (.comp a t it cnd (own.map (·.2))))) :=
  pe_imp (pe_lc c.calm c.nds hi ok hg ht he (set_fold hs)) hw
theorem comp_reads {a : E} {t : Tg} {it : It} {cnd : Oe} {vs : List Nat} (ht : tgIn t vs) {σ : L2.St} {H : Hp} {Q : VK} (h : RE G (ev F gv (.comp a t it cnd vs)) σ H Q) :
    tLc (RI G (evi F gv it)) (RG G t) (RT G (tsto F gv cnd)) (RE G (ev F gv a)) vs σ H Q := by
  obtain ⟨env, sto, μ, w, e1, fin⟩ := h
  obtain ⟨r, sR, hr, cont⟩ := fin
  replace hr : (evi F gv it env >>= fun src => turnsM src >>= fun k => compRun src (fun d => lift (bindT t d (wipeD env vs)) >>= fun env' => tsto F gv cnd env' >>= fun b => if b = true then (ev F gv a env' >>= fun y => pure (some y)) else pure none) k 0 [] >>= fun xs => newC (.lst xs)) sto = .ok r sR := by unfold ev at hr; exact hr
  obtain ⟨src, s1, h1, h2⟩ := bind_ok hr
  obtain ⟨k, s2, h3, h4⟩ := bind_ok h2
  cases h3
  obtain ⟨xs, sF, h5, h6⟩ := bind_ok h4
  cases h6
  refine ⟨env, sto, μ, w, e1, src, s1, h1, fun J H1 μ1 w1 n1 itr => fun D hD => ?_⟩
  have wD : Wld G μ1 (upd H1 D (.lst [])) s1 := wld_tup w1 hD
  have nD : Nxt μ1 H1 μ1 (upd H1 D (.lst [])) := nxt_tup w1 hD
  have D1 : D ∉ μ1 := w1.fresh hD
  refine ⟨fun i m H => ∃ μ2 sto2 acc ws, Wld G μ2 H sto2 ∧ Nxt μ1 H1 μ2 H ∧ D ∉ μ2 ∧ H D = some (.lst ws) ∧ RepL G μ2 H acc ws ∧
      compRun src (fun d => lift (bindT t d (wipeD env vs)) >>= fun env' => tsto F gv cnd env' >>= fun b => if b = true then (ev F gv a env' >>= fun y => pure (some y)) else pure none) m i acc sto2 = .ok xs sF, ⟨_, μ1, s1, [], [], wD, nD, D1, upd_same, repL_nil, h5⟩, ?_⟩
  rintro i m H2 ⟨μ2, sto2, acc, ws, w2, nD2, D2, hH, ra, run⟩
  have ends : nxt src i sto2 = some none → xs = acc → sF = sto2 → (J.stop i H2 ∧ Q (.ref D) H2) := fun e1 e2 e3 => by
    subst e2; subst e3
    refine ⟨(itr μ2 H2 _ i w2 (nD2.ext w1.tf)).1 e1, ?_⟩
    refine cont _ H2 (μ2 ++ [D]) (wld_adopt w2 D2 hH ra) ?_ ?_
    · have n3 := n1.trans nD2
      obtain ⟨t', ht'⟩ := n3.pre
      refine ⟨⟨t' ++ [D], by rw [ht', List.append_assoc]⟩, n3.keep, fun b hb hn => ?_⟩
      rcases List.mem_append.mp hb with z | z
      · exact n3.new b z hn
      · rw [List.mem_singleton.mp z]
        rw [List.mem_singleton.mp z] at hn
        cases q : H D with
        | none => rfl
        | some o =>
          rw [n1.keep D o q hn] at hD; cases hD
    · rw [rep_loc]
      exact ⟨D, by rw [← w2.len]; simp, rfl⟩
  cases m with
  | zero =>
    obtain ⟨a1, a2, a3⟩ := comp_zero run
    exact .inl (ends a1 a2 a3)
  | succ m =>
    rcases comp_succ run with ⟨a1, a2, a3⟩ | ⟨d, o, s3, hn, ht3, hcase⟩
    · exact .inl (ends a1 a2 a3)
    · obtain ⟨go, yl⟩ := (itr μ2 H2 sto2 i w2 (nD2.ext w1.tf)).2 d hn
      refine .inr ⟨go, fun H' => ∃ μ2 sto2 acc ws, Wld G μ2 H' sto2 ∧ Nxt μ1 H1 μ2 H' ∧ D ∉ μ2 ∧ H' D = some (.lst ws) ∧ RepL G μ2 H' acc ws ∧
        compRun src (fun d => lift (bindT t d (wipeD env vs)) >>= fun env' => tsto F gv cnd env' >>= fun b => if b = true then (ev F gv a env' >>= fun y => pure (some y)) else pure none) m (i + 1) acc sto2 = .ok xs sF, fun H' q => ⟨m, by omega, q⟩, fun x H' y => ?_⟩
      obtain ⟨w3, n3, r3⟩ := yl x H' y
      have nE : Nxt μ H μ2 H' := (n1.trans nD2).trans n3
      obtain ⟨env', s4, g1, g2⟩ := bind_ok ht3
      cases q : bindT t d (wipeD env vs) with
      | none => rw [q] at g1; cases g1
      | some env'' =>
        rw [q] at g1; cases g1
        refine ⟨d, wipeD env vs, env', μ2, _, w3, (e1.nxt w nE).wipe vs, r3, q, fun σ' eσ hwp => ⟨?_, ?_⟩⟩
        · have := hwp vs ht
          rw [this]
          have idem : ∀ (us : List Nat) (σ : L2.St), (∀ v ∈ us, v ∈ vs) → L2.wipe (L2.wipe σ vs) us = L2.wipe σ vs := by
            intro us
            induction us with
            | nil => intro σ _; rfl
            | cons u us ih =>
              intro σ hu
              show (L2.wipe (L2.wipe σ vs) us).set u none = _
              rw [ih σ fun v hv => hu v (List.mem_cons_of_mem _ hv)]
              have hm := hu u List.mem_cons_self
              apply List.ext_getElem?
              intro j
              by_cases hj : u = j
              · subst hj
                by_cases hl : u < (L2.wipe σ vs).length
                · rw [List.getElem?_set_self hl]
                  cases q2 : (L2.wipe σ vs)[u]? with
                  | none => rw [List.getElem?_eq_none_iff] at q2; omega
                  | some o =>
                    cases o with
                    | none => rfl
                    | some v => exact absurd hm (wipe_some q2).2
                · rw [List.getElem?_eq_none (by simpa using hl), List.getElem?_eq_none (by omega)]
              · rw [List.getElem?_set_ne hj]
          exact idem vs _ fun v hv => hv
        · obtain ⟨b, s5, g3, g4⟩ := bind_ok g2
          refine ⟨env', _, μ2, w3, eσ, b, s5, g3, fun b' H5 μ5 w5 n5 r5 => ?_⟩
          cases r5
          have hD3 : H' D = some (.lst ws) := n3.keep D _ hH D2
          have D5 : D ∉ μ5 := fun z => by
            have := n5.new D z D2
            rw [hD3] at this; cases this
          cases b with
          | false =>
            rw [if_neg Bool.false_ne_true] at g4
            refine iteF ?_
            cases g4
            rcases hcase with ⟨_, run⟩ | ⟨y, hy, _⟩
            · refine ⟨μ5, _, acc, ws, w5, (nD2.trans n3).trans n5, D5, n5.keep D _ hD3 D2, w3.monoL n5 (w2.monoL n3 ra), run⟩
            · cases hy
          | true =>
            rw [if_pos rfl] at g4
            refine iteT ?_
            obtain ⟨y, s6, g5, g6⟩ := bind_ok g4
            cases g6
            refine ⟨env', _, μ5, w5, eσ.nxt w3 n5, y, _, g5, fun u H6 μ6 w6 n6 r6 => ?_⟩
            have hD5 : H5 D = some (.lst ws) := n5.keep D _ hD3 D2
            have D6 : D ∉ μ6 := fun z => by
              have := n6.new D z D5
              rw [hD5] at this; cases this
            have hD6 : H6 D = some (.lst ws) := n6.keep D _ hD5 D5
            rcases hcase with ⟨hy, _⟩ | ⟨y', hy, hz, run⟩
            · cases hy
            · cases hy
              have rl : RepL G μ6 H6 acc ws := w5.monoL n6 (w3.monoL n5 (w2.monoL n3 ra))
              refine ⟨ws, hD6, by rw [repL_len rl]; exact small_lt hz, ?_⟩
              have x6 : Ext μ6 H6 μ6 (upd H6 D (.lst (ws ++ [u]))) := ⟨⟨[], by simp⟩, fun b us e => by rw [upd_ne (ne_of e hD6 (fun z => by cases z))]; exact e⟩
              refine ⟨μ6, _, acc ++ [y], ws ++ [u], ⟨w6.len, w6.nd, fun n b c h1 h2 => ?_⟩, ?_, D6, upd_same, repL_ext x6 _ _ (repL_app rl (repL_cons r6 repL_nil)), run⟩
              · have hb : b ≠ D := fun z => D6 (z ▸ List.mem_of_getElem? h1)
                exact ceR_ext x6 (upd_ne hb) (w6.cell n b c h1 h2)
              · have n7 := ((nD2.trans n3).trans n5).trans n6
                exact ⟨n7.pre, fun b o e hb => by rw [upd_ne (ne_of_none e hD)]; exact n7.keep b o e hb, n7.new⟩

/-! ### comprehensions of two clauses -/
theorem idem_wipe (vs us : List Nat) (σ : L2.St) (h : ∀ v ∈ us, v ∈ vs) : L2.wipe (L2.wipe σ vs) us = L2.wipe σ vs := by
  induction us with
  | nil => rfl
  | cons u us ih =>
    show (L2.wipe (L2.wipe σ vs) us).set u none = _
    rw [ih fun v hv => h v (List.mem_cons_of_mem _ hv)]
    have hm := h u List.mem_cons_self
    apply List.ext_getElem?
    intro j
    by_cases hj : u = j
    · subst hj
      by_cases hl : u < (L2.wipe σ vs).length
      · rw [List.getElem?_set_self hl]
        cases q2 : (L2.wipe σ vs)[u]? with
        | none => rw [List.getElem?_eq_none_iff] at q2; omega
        | some o =>
          cases o with
          | none => rfl
          | some v => exact absurd hm (wipe_some q2).2
      · rw [List.getElem?_eq_none (by simpa using hl), List.getElem?_eq_none (by omega)]
    · rw [List.getElem?_set_ne hj]
theorem comp2_zero {src : Src} {turn : Dv → List Dv → M (List Dv)} {i : Nat} {acc : List Dv} {sto sF : Sto} {fin : List Dv} (h : compRun2 src turn 0 i acc sto = .ok fin sF) : nxt src i sto = some none ∧ fin = acc ∧ sF = sto := by
  have h : (nxtM src i >>= fun o => match o with
    | none => pure acc
    | some _ => fail) sto = .ok fin sF := h
  obtain ⟨o, s1, h1, h2⟩ := bind_ok h
  unfold nxtM at h1
  cases q : nxt src i sto with
  | none => rw [q] at h1; cases h1
  | some o' =>
    rw [q] at h1; cases h1
    cases o with
    | none => cases h2; exact ⟨rfl, rfl, rfl⟩
    | some _ => cases h2
theorem comp2_succ {src : Src} {turn : Dv → List Dv → M (List Dv)} {k i : Nat} {acc : List Dv} {sto sF : Sto} {fin : List Dv} (h : compRun2 src turn (k + 1) i acc sto = .ok fin sF) :
    (nxt src i sto = some none ∧ fin = acc ∧ sF = sto) ∨ ∃ d acc' s1, nxt src i sto = some (some d) ∧ turn d acc sto = .ok acc' s1 ∧ compRun2 src turn k (i + 1) acc' s1 = .ok fin sF := by
  have h : (nxtM src i >>= fun o => match o with
    | none => pure acc
    | some d => turn d acc >>= fun acc' => compRun2 src turn k (i + 1) acc') sto = .ok fin sF := h
  obtain ⟨o, s1, h1, h2⟩ := bind_ok h
  unfold nxtM at h1
  cases q : nxt src i sto with
  | none => rw [q] at h1; cases h1
  | some o' =>
    rw [q] at h1; cases h1
    cases o with
    | none => cases h2; exact .inl ⟨rfl, rfl, rfl⟩
    | some d =>
      obtain ⟨r, s2, h3, h4⟩ := bind_ok (show (turn d acc >>= fun r => _) sto = .ok fin sF from h2)
      exact .inr ⟨d, r, s2, rfl, h3, h4⟩
/-- the list at D is being filled: it is none of the places -/
structure Fill (G : Cst) (μ1 : List Addr) (H1 : Hp) (D : Addr) (μ : List Addr) (H : Hp) (sto : Sto) (acc : List Dv) : Prop where
  w : Wld G μ H sto
  n : Nxt μ1 H1 μ H
  off : D ∉ μ
  at_ : ∃ ws, H D = some (.lst ws) ∧ RepL G μ H acc ws
theorem Fill.go {μ1 : List Addr} {H1 : Hp} {D : Addr} {μ μ' : List Addr} {H H' : Hp} {sto sto' : Sto} {acc : List Dv} (f : Fill G μ1 H1 D μ H sto acc) (w : Wld G μ' H' sto') (n : Nxt μ H μ' H') : Fill G μ1 H1 D μ' H' sto' acc := by
  obtain ⟨ws, h, r⟩ := f.at_
  have h' := n.keep D _ h f.off
  refine ⟨w, f.n.trans n, fun z => ?_, ws, h', f.w.monoL n r⟩
  have := n.new D z f.off
  rw [h] at this; cases this
theorem Fill.put {μ1 : List Addr} {H1 : Hp} {D : Addr} {μ : List Addr} {H : Hp} {sto : Sto} {acc : List Dv} (f : Fill G μ1 H1 D μ H sto acc) (hD : H1 D = none) {y : Dv} {u : V} (r : Rep G μ H y u) (ws : List V) (hw : H D = some (.lst ws)) : Fill G μ1 H1 D μ (upd H D (.lst (ws ++ [u]))) sto (acc ++ [y]) := by
  obtain ⟨ws', h, rl⟩ := f.at_
  rw [hw] at h; cases h
  have x6 : Ext μ H μ (upd H D (.lst (ws ++ [u]))) := ⟨⟨[], by simp⟩, fun b us e => by rw [upd_ne (ne_of e hw (fun z => by cases z))]; exact e⟩
  refine ⟨⟨f.w.len, f.w.nd, fun n b c h1 h2 => ?_⟩, ⟨f.n.pre, fun b o e hb => by rw [upd_ne (ne_of_none e hD)]; exact f.n.keep b o e hb, f.n.new⟩, f.off, _, upd_same, repL_ext x6 _ _ (repL_app rl (repL_cons r repL_nil))⟩
  have hb : b ≠ D := fun z => f.off (z ▸ List.mem_of_getElem? h1)
  exact ceR_ext x6 (upd_ne hb) (f.w.cell n b c h1 h2)
theorem Fill.ext {μ1 : List Addr} {H1 : Hp} {D : Addr} {μ : List Addr} {H : Hp} {sto : Sto} {acc : List Dv} (f : Fill G μ1 H1 D μ H sto acc) {y : V} (ws : List V) (hw : H D = some (.lst ws)) : Ext μ H μ (upd H D (.lst (ws ++ [y]))) :=
  ⟨⟨[], by simp⟩, fun b us e => by rw [upd_ne (ne_of e hw (fun z => by cases z))]; exact e⟩
theorem Ext.trans {μ H μ1 H1 μ2 H2} (a : Ext μ H μ1 H1) (b : Ext μ1 H1 μ2 H2) : Ext μ H μ2 H2 := by
  obtain ⟨t, rfl⟩ := a.pre
  obtain ⟨u, rfl⟩ := b.pre
  exact ⟨⟨t ++ u, by rw [List.append_assoc]⟩, fun c vs e => b.tup c vs (a.tup c vs e)⟩
theorem Fill.end_ {μ μ1 μ2 : List Addr} {H H1 H2 : Hp} {D : Addr} {sto : Sto} {acc : List Dv} (n1 : Nxt μ H μ1 H1) (hD : H1 D = none) (f : Fill G μ1 H1 D μ2 H2 sto acc) :
    Wld G (μ2 ++ [D]) H2 (sto ++ [.lst acc]) ∧ Nxt μ H (μ2 ++ [D]) H2 ∧ Rep G (μ2 ++ [D]) H2 (.loc sto.length) (.ref D) := by
  obtain ⟨ws, h, r⟩ := f.at_
  refine ⟨wld_adopt f.w f.off h r, ?_, ?_⟩
  · have n3 := n1.trans f.n
    obtain ⟨t', ht'⟩ := n3.pre
    refine ⟨⟨t' ++ [D], by rw [ht', List.append_assoc]⟩, n3.keep, fun b hb hn => ?_⟩
    rcases List.mem_append.mp hb with z | z
    · exact n3.new b z hn
    · rw [List.mem_singleton.mp z]
      rw [List.mem_singleton.mp z] at hn
      cases q : H D with
      | none => rfl
      | some o => rw [n1.keep D o q hn] at hD; cases hD
  · rw [rep_loc]
    exact ⟨D, by rw [← f.w.len]; simp, rfl⟩
/-- the inner turns of a comprehension of two clauses -/
def turn1 (F : Nat → List Dv → M Dv) (gv : Str → Option Dv) (a : E) (t1 : Tg) (cnd1 : Oe) (vs1 : List Nat) (env : DEnv) (d1 : Dv) : M (Option Dv) :=
  lift (bindT t1 d1 (wipeD env vs1)) >>= fun env2 => tsto F gv cnd1 env2 >>= fun b => if b = true then (ev F gv a env2 >>= fun y => pure (some y)) else pure none
def turn2 (F : Nat → List Dv → M Dv) (gv : Str → Option Dv) (a : E) (t : Tg) (cnd : Oe) (t1 : Tg) (it1 : It) (cnd1 : Oe) (vs vs1 : List Nat) (env : DEnv) (d : Dv) (acc : List Dv) : M (List Dv) :=
  lift (bindT t d (wipeD env vs)) >>= fun env' => tsto F gv cnd env' >>= fun b => if b = true then (evi F gv it1 env' >>= fun src1 => turnsM src1 >>= fun k1 => compRun src1 (turn1 F gv a t1 cnd1 vs1 env') k1 0 acc) else pure acc
theorem lift_ok {α : Type} {o : Option α} {x : α} {s s1 : Sto} (h : lift o s = .ok x s1) : o = some x ∧ s1 = s := by
  cases o with
  | none => cases h
  | some y => cases h; exact ⟨rfl, rfl⟩
theorem comp2_reads {a : E} {t t1 : Tg} {it it1 : It} {cnd cnd1 : Oe} {vs vs1 : List Nat} (ht : tgIn t vs) (ht1 : tgIn t1 vs1) {σ : L2.St} {H : Hp} {Q : VK} (h : RE G (ev F gv (.comp2 a t it cnd t1 it1 cnd1 vs vs1)) σ H Q) :
    tLc2 (RI G (evi F gv it)) (RG G t) (RT G (tsto F gv cnd)) (RI G (evi F gv it1)) (RG G t1) (RT G (tsto F gv cnd1)) (RE G (ev F gv a)) vs vs1 σ H Q := by
  obtain ⟨env, sto, μ, w, e1, r, sR, hr, cont⟩ := h
  replace hr : (evi F gv it env >>= fun src => turnsM src >>= fun k => compRun2 src (turn2 F gv a t cnd t1 it1 cnd1 vs vs1 env) k 0 [] >>= fun xs => newC (.lst xs)) sto = .ok r sR := by unfold ev at hr; exact hr
  obtain ⟨src, s1, h1, h2⟩ := bind_ok hr
  obtain ⟨k, s2, h3, h4⟩ := bind_ok h2
  cases h3
  obtain ⟨xs, sF, h5, h6⟩ := bind_ok h4
  cases h6
  refine ⟨env, sto, μ, w, e1, src, s1, h1, fun J H1 μ1 w1 n1 itr => fun D hD => ?_⟩
  have f0 : Fill G μ1 H1 D μ1 (upd H1 D (.lst [])) s1 [] := ⟨wld_tup w1 hD, nxt_tup w1 hD, w1.fresh hD, [], upd_same, repL_nil⟩
  refine ⟨fun i m H => ∃ μ2 sto2 acc, Fill G μ1 H1 D μ2 H sto2 acc ∧ compRun2 src (turn2 F gv a t cnd t1 it1 cnd1 vs vs1 env) m i acc sto2 = .ok xs sF, ⟨_, μ1, s1, [], f0, h5⟩, ?_⟩
  rintro i m H2 ⟨μ2, sto2, acc, f2, run⟩
  have ends : nxt src i sto2 = some none → xs = acc → sF = sto2 → (J.stop i H2 ∧ Q (.ref D) H2) := fun e1 e2 e3 => by
    subst e2; subst e3
    obtain ⟨q1, q2, q3⟩ := f2.end_ n1 hD
    exact ⟨(itr μ2 H2 _ i f2.w (f2.n.ext w1.tf)).1 e1, cont _ H2 _ q1 q2 q3⟩
  cases m with
  | zero =>
    obtain ⟨a1, a2, a3⟩ := comp2_zero run
    exact .inl (ends a1 a2 a3)
  | succ m =>
    rcases comp2_succ run with ⟨a1, a2, a3⟩ | ⟨d, acc', s3, hn, ht3, run3⟩
    · exact .inl (ends a1 a2 a3)
    · obtain ⟨go, yl⟩ := (itr μ2 H2 sto2 i f2.w (f2.n.ext w1.tf)).2 d hn
      refine .inr ⟨go, fun H' => ∃ μ2 sto2 acc, Fill G μ1 H1 D μ2 H' sto2 acc ∧ compRun2 src (turn2 F gv a t cnd t1 it1 cnd1 vs vs1 env) m (i + 1) acc sto2 = .ok xs sF, fun H' q => ⟨m, by omega, q⟩, fun x H' y => ?_⟩
      obtain ⟨w3, n3, r3⟩ := yl x H' y
      have f3 := f2.go w3 n3
      obtain ⟨env', s4, g1, g2⟩ := bind_ok ht3
      obtain ⟨q, rfl⟩ := lift_ok g1
      refine ⟨d, wipeD env vs, env', μ2, s4, w3, (e1.nxt w (n1.trans f3.n)).wipe vs, r3, q, fun σ2 eσ hwp => ⟨(hwp vs ht).trans (idem_wipe vs vs σ fun v hv => hv), ?_⟩⟩
      obtain ⟨b, s5, g3, g4⟩ := bind_ok g2
      refine ⟨env', _, μ2, w3, eσ, b, s5, g3, fun b' H3 μ5 w5 n5 r5 => ?_⟩
      cases r5
      have f5 := f3.go w5 n5
      cases b with
      | false =>
        rw [if_neg Bool.false_ne_true] at g4
        cases g4
        exact iteF ⟨μ5, _, acc, f5, run3⟩
      | true =>
        rw [if_pos rfl] at g4
        refine iteT ?_
        obtain ⟨src1, s6, g5, g6⟩ := bind_ok g4
        obtain ⟨k1, s7, g7, g8⟩ := bind_ok g6
        cases g7
        refine ⟨env', _, μ5, w5, eσ.nxt w3 n5, src1, s6, g5, fun J1 H4 μ4 w4 n4 itr1 => ?_⟩
        have f4 := f5.go w4 n4
        refine ⟨fun j k H => ∃ μ6 sto6 acc6, Fill G μ1 H1 D μ6 H sto6 acc6 ∧ Ext μ4 H4 μ6 H ∧ compRun src1 (turn1 F gv a t1 cnd1 vs1 env') k j acc6 sto6 = .ok acc' s3, ⟨_, μ4, s6, acc, f4, ⟨⟨[], by simp⟩, fun _ _ h => h⟩, g8⟩, ?_⟩
        rintro j k H6 ⟨μ6, sto6, acc6, f6, x6, run6⟩
        have ends1 : nxt src1 j sto6 = some none → acc' = acc6 → s3 = sto6 → (J1.stop j H6 ∧ ∃ μ2 sto2 acc, Fill G μ1 H1 D μ2 H6 sto2 acc ∧ compRun2 src (turn2 F gv a t cnd t1 it1 cnd1 vs vs1 env) m (i + 1) acc sto2 = .ok xs sF) := fun e1 e2 e3 => by
          subst e2; subst e3
          exact ⟨(itr1 μ6 H6 _ j f6.w x6).1 e1, μ6, _, _, f6, run3⟩
        cases k with
        | zero =>
          obtain ⟨a1, a2, a3⟩ := comp_zero run6
          exact .inl (ends1 a1 a2 a3)
        | succ k =>
          rcases comp_succ run6 with ⟨a1, a2, a3⟩ | ⟨d1, o, s8, hn1, ht8, hcase⟩
          · exact .inl (ends1 a1 a2 a3)
          · obtain ⟨go1, yl1⟩ := (itr1 μ6 H6 sto6 j f6.w x6).2 d1 hn1
            refine .inr ⟨go1, fun H' => ∃ μ6 sto6 acc6, Fill G μ1 H1 D μ6 H' sto6 acc6 ∧ Ext μ4 H4 μ6 H' ∧ compRun src1 (turn1 F gv a t1 cnd1 vs1 env') k (j + 1) acc6 sto6 = .ok acc' s3, fun H' q => ⟨k, by omega, q⟩, fun x H' y => ?_⟩
            obtain ⟨w7, n7, r7⟩ := yl1 x H' y
            have f7 := f6.go w7 n7
            have x7 := x6.trans (n7.ext f6.w.tf)
            obtain ⟨env2, s9, p1, p2⟩ := bind_ok ht8
            obtain ⟨q2, rfl⟩ := lift_ok p1
            have e2 : EnvR G μ6 H' env' σ2 := by
              have := eσ.nxt w3 n5
              exact ⟨this.1, fun i d h => by
                obtain ⟨v, hv, rv⟩ := this.2 i d h
                exact ⟨v, hv, rep_ext x7 _ _ (w5.mono n4 rv)⟩⟩
            refine ⟨d1, wipeD env' vs1, env2, μ6, s9, w7, e2.wipe vs1, r7, q2, fun σ3 eσ3 hwp3 => ⟨(hwp3 vs1 ht1).trans (idem_wipe vs1 vs1 σ2 fun v hv => hv), ?_⟩⟩
            obtain ⟨b1, s10, p3, p4⟩ := bind_ok p2
            refine ⟨env2, _, μ6, w7, eσ3, b1, s10, p3, fun b' H8 μ8 w8 n8 r8 => ?_⟩
            cases r8
            have f8 := f7.go w8 n8
            have x8 := x7.trans (n8.ext w7.tf)
            cases b1 with
            | false =>
              rw [if_neg Bool.false_ne_true] at p4
              cases p4
              refine iteF ?_
              rcases hcase with ⟨_, run⟩ | ⟨y, hy, _⟩
              · exact ⟨μ8, _, acc6, f8, x8, run⟩
              · cases hy
            | true =>
              rw [if_pos rfl] at p4
              refine iteT ?_
              obtain ⟨y, s11, p5, p6⟩ := bind_ok p4
              cases p6
              refine ⟨env2, _, μ8, w8, eσ3.nxt w7 n8, y, _, p5, fun u H9 μ9 w9 n9 r9 => ?_⟩
              have f9 := f8.go w9 n9
              obtain ⟨ws, hw, rl⟩ := f9.at_
              rcases hcase with ⟨hy, _⟩ | ⟨y', hy, hz, run⟩
              · cases hy
              · cases hy
                exact ⟨ws, hw, by rw [repL_len rl]; exact small_lt hz, μ9, _, _, f9.put hD r9 ws hw, (x8.trans (n9.ext w8.tf)).trans (f9.ext ws hw), run⟩
theorem re_comp2 {elt tg iter tg1 iter1 : Expr} {ifs ifs1 : List Expr} {scope : Scope} {own : List (Str × Nat)} {vs1 : List Nat} {pos : Pos} {a : E} {t t1 : Tg} {it it1 : It} {cnd cnd1 : Oe} (ht : tgIn t (own.map (·.2))) (ht1 : tgIn t1 vs1) (hv : ∀ i ∈ vs1, i ∈ own.map (·.2))
    (c : Ctx G F gv Γ X) (hi : PI X tg iter (RI G (evi F gv it))) (ok : BlkOk X.N X.env.scope scope own)
    (hg : ∀ (s : Shared) (H : Hp) (C : Addr) (cl : List (Str × Addr)) (fp : List Addr), PG (X.blk s H scope (compEnvC scope cl C X.env) fp) tg (RG G t)) (hc : ∀ (s : Shared) (H : Hp) (C : Addr) (cl : List (Str × Addr)) (fp : List Addr), PTs (X.blk s H scope (compEnvC scope cl C X.env) fp) ifs (RT G (tsto F gv cnd)))
    (hi1 : ∀ (s : Shared) (H : Hp) (C : Addr) (cl : List (Str × Addr)) (fp : List Addr), PI (X.blk s H scope (compEnvC scope cl C X.env) fp) tg1 iter1 (RI G (evi F gv it1)))
    (hg1 : ∀ (s : Shared) (H : Hp) (C : Addr) (cl : List (Str × Addr)) (fp : List Addr), PG (X.blk s H scope (compEnvC scope cl C X.env) fp) tg1 (RG G t1)) (hc1 : ∀ (s : Shared) (H : Hp) (C : Addr) (cl : List (Str × Addr)) (fp : List Addr), PTs (X.blk s H scope (compEnvC scope cl C X.env) fp) ifs1 (RT G (tsto F gv cnd1)))
    (he : ∀ (s : Shared) (H : Hp) (C : Addr) (cl : List (Str × Addr)) (fp : List Addr), PE (X.blk s H scope (compEnvC scope cl C X.env) fp) elt (RE G (ev F gv a))) (hs : isSetE iter = false) (hs1 : isSetE iter1 = false) :
    PE X (.ListComp elt [⟨tg, iter, ifs, 0⟩, ⟨tg1, iter1, ifs1, 0⟩] scope pos) (RE G (ev F gv (.comp2 a t it cnd t1 it1 cnd1 (own.map (·.2)) vs1))) :=
  pe_imp (pe_lc2 c.calm c.nds hi ok hv hg hc he (set_fold hs) (hs1 := fun env => set_fold hs1) (hi1 := hi1) (hg1 := hg1) (ht1 := hc1)) fun σ H Q h => comp2_reads ht ht1 h
end
end Dd
end
section
set_option Elab.async false
set_option linter.all false
set_option maxRecDepth 100000
namespace Dd
open PySem PySem.Spec PyProof.Rows L2

section
variable {G : Cst} {F : Nat → List Dv → M Dv} {gv : Str → Option Dv} {Γ : SC} {X : Cx}
/-! ### blocks -/
def SC.blk (Γ : SC) (sn : List (Str × NameKind)) : SC := { Γ with names := relN Γ.names sn, own := some sn }
def ownsOf (Γ : SC) (own : List Nat) : List (Str × Nat) := own.filterMap fun i => (Γ.N[i]?).map fun x => (x, i)
def blkD (Γ : SC) (scope : Scope) (own : List Nat) : Bool :=
  decide ((ownsOf Γ own).map (·.2) = own) && blkC Γ.N { kind := .function, names := Γ.names, isGenerator := false, isCoroutine := false } scope (ownsOf Γ own)
theorem blk_ok (c : Ctx G F gv Γ X) {scope : Scope} {own : List Nat} (h : blkD Γ scope own = true) : (ownsOf Γ own).map (·.2) = own ∧ BlkOk X.N X.env.scope scope (ownsOf Γ own) ∧ scope.kind = .function := by
  unfold blkD at h
  rw [Bool.and_eq_true] at h
  have h1 : (ownsOf Γ own).map (·.2) = own := of_decide_eq_true h.1
  have h2 := blkOk_by h.2
  refine ⟨h1, ⟨h2.kind, h2.uniq, fun p hp => c.N ▸ h2.ix p hp, fun y hy e => ?_, fun y hy e => ?_⟩, h2.kind⟩
  · rw [c.names]; exact h2.free y hy e
  · rw [c.N]; exact h2.own y hy e
theorem Ctx.blk (c : Ctx G F gv Γ X) {scope : Scope} (hk : scope.kind = .function) (s : Shared) (H : Hp) (C : Addr) (cl : List (Str × Addr)) (fp : List Addr) : Ctx G F gv (Γ.blk scope.names) (X.blk s H scope (compEnvC scope cl C X.env) fp) where
  N := c.N
  nd := c.nd
  calm := c.calm
  kind := hk
  names := by
    show (relS scope X.env.scope).names = relN Γ.names scope.names
    unfold relS relN
    rw [c.kind, c.names]
    simp
  fn := fun x h _ => h
  xe := rfl
  gd := c.gd
  fns := by
    obtain ⟨k, hr, h⟩ := c.fns
    exact ⟨k, hr, h⟩
  cst := c.cst
  gls := c.gls
  bns := c.bns
  ibs := c.ibs

/-! ### matching -/
def tgOwn : Tg → List Nat → Bool
  | .nm i, vs => vs.contains i
  | .tp is, vs => is.all vs.contains
  | .tq i js, vs => vs.contains i && js.all vs.contains
theorem tgOwn_ok {t : Tg} {vs : List Nat} (h : tgOwn t vs = true) : tgIn t vs := by
  cases t with
  | nm i => exact List.contains_iff_mem.mp h
  | tp is => exact fun i hi => List.contains_iff_mem.mp (List.all_eq_true.mp h i hi)
  | tq i js =>
    have h := (Bool.and_eq_true _ _).mp h
    exact ⟨List.contains_iff_mem.mp h.1, fun i hi => List.contains_iff_mem.mp (List.all_eq_true.mp h.2 i hi)⟩
def fnNamed (Γ : SC) (f : Nat) (n : Str) : Bool := match Γ.fns[f]? with
  | some fe => decide (fe.name = n)
  | none => false
def kwNamed (Γ : SC) (f : Nat) (npos nks : Nat) (perm : List Nat) (kws : List Keyword) : Bool := match Γ.fns[f]? with
  | some fe => fe.kws.any fun kp => decide (kp.npos = npos) && decide (kp.ks.length = nks) && decide (kp.perm = perm) && kwOk kp.ks kws
  | none => false
def vStar : Expr → Option (Expr × Pos) | .Starred e p => some (e, p) | _ => none
theorem vStar_eq {e x p} (h : vStar e = some (x, p)) : e = .Starred x p := by cases e <;> simp_all [vStar]
def isNilE : Es → Bool
  | .nil => true
  | .cons _ _ => false
theorem isNilE_eq {es : Es} (h : isNilE es = true) : es = .nil := by
  cases es with
  | nil => rfl
  | cons _ _ => cases h
mutual
def mE (Γ : SC) : E → Expr → Bool
  | .var i, x => (match vName x with | some (n, _) => Γ.at i n && Γ.vis n | none => false)
  | .int i, x => (match vConst x with | some (.int j, _, _) => decide (i = j) | _ => false)
  | .bl i, x => (match vConst x with | some (.bool j, _, _) => decide (i = j) | _ => false)
  | .non, x => (match vConst x with | some (.none, _, _) => true | _ => false)
  | .str i, x => (match vConst x with | some (.str j, _, _) => decide (i = j) | _ => false)
  | .glb n, x => (match vName x with | some (m, _) => decide (n = m) && Γ.gl m | none => false)
  | .tup es, x => (match vTuple x with | some (xs, _, _) => mEs Γ es xs | none => false)
  | .lst es, x => (match vList x with | some (xs, _) => mEs Γ es xs | none => false)
  | .num a b, x => (match vTuple x with | some ([p, q], _, _) => !isStar p && !isStar q && mE Γ a p && mE Γ b q | _ => false)
  | .bin o a b, x => (match vBin x with | some (p, o', q, _) => decide (boOf o = o') && mE Γ a p && mE Γ b q | none => false)
  | .neg a, x => (match vUn x with | some (.USub, p, _) => mE Γ a p | _ => false)
  | .cmp o a b, x => (match vCmp x with | some (p, [o'], [q], _) => decide (coOf o = o') && mE Γ a p && mE Γ b q && !behindInMarks (coOf o) q | _ => false)
  | .chain o1 o2 a b c, x => (match vCmp x with | some (p, [o1', o2'], [q, r], _) => decide (coOf o1 = o1') && decide (coOf o2 = o2') && mE Γ a p && mE Γ b q && mE Γ c r && !lastMarks [coOf o1, coOf o2] [q, r] | _ => false)
  | .band a b, x => (match vBool x with
    | some (.And, [p, q], _) => mE Γ a p && mE Γ b q
    | some (.And, p :: q :: r :: rest, pos) => mE Γ a p && mE Γ b (.BoolOp .And (q :: r :: rest) pos)
    | _ => false)
  | .bor a b, x => (match vBool x with
    | some (.Or, [p, q], _) => mE Γ a p && mE Γ b q
    | some (.Or, p :: q :: r :: rest, pos) => mE Γ a p && mE Γ b (.BoolOp .Or (q :: r :: rest) pos)
    | _ => false)
  | .bnot a, x => (match vUn x with | some (.Not, p, _) => mE Γ a p | _ => false)
  | .ite t a b, x => (match vIf x with | some (c, p, q, _) => mE Γ t c && mE Γ a p && mE Γ b q | none => false)
  | .idx a i, x => (match vSub x with | some (p, q, _) => (vSlice q).isNone && mE Γ a p && mE Γ i q | none => false)
  | .sl a lo hi, x => (match vSub x with
    | some (p, q, _) => (match vSlice q with
      | some (l, h, none, _) => mE Γ a p && mO Γ lo l && mO Γ hi h
      | _ => false)
    | none => false)
  | .call f es, x => (match vCall x with
    | some (g, e :: as, [], _) => (match vName g with | some (n, _) => fnNamed Γ f n && Γ.gl n && (e :: as).all (fun e => !isStar e) && mEs Γ es (e :: as) | none => false)
    | _ => false)
  | .callk f es ks npos nks perm, x => (match vCall x with
    | some (g, e :: as, kws, _) => (match vName g with | some (n, _) => fnNamed Γ f n && kwNamed Γ f npos nks perm kws && Γ.gl n && (e :: as).all (fun e => !isStar e) && mEs Γ es (e :: as) && mK Γ ks kws | none => false)
    | some (g, [], kws, _) => (match vName g with | some (n, _) => isNilE es && fnNamed Γ f n && kwNamed Γ f npos nks perm kws && Γ.gl n && mK Γ ks kws | none => false)
    | _ => false)
  | .blt b es, x => (match vCall x with
    | some (g, e :: as, [], _) => (match vName g with | some (n, _) => decide (blName b = n) && Γ.blt b && Γ.gl n && (e :: as).all (fun e => !isStar e) && mEs Γ es (e :: as) | none => false)
    | _ => false)
  | .comp elt tg it cnd own, x => (match vComp x with
    | some (e, [⟨t, i, ifs, asy⟩], scope, _) => decide (asy = 0) && blkD Γ scope own && tgOwn tg own && !isSetE i && mI Γ it t i && mTg (Γ.blk scope.names) tg t && mE (Γ.blk scope.names) elt e && mC (Γ.blk scope.names) cnd ifs
    | _ => false)
  | .comp2 elt tg it cnd tg1 it1 cnd1 own own1, x => (match vComp x with
    | some (e, [⟨t, i, ifs, asy⟩, ⟨t1, i1, ifs1, asy1⟩], scope, _) => decide (asy = 0) && decide (asy1 = 0) && blkD Γ scope own && tgOwn tg own && tgOwn tg1 own1 && own1.all own.contains && !isSetE i && !isSetE i1 && mI Γ it t i && mTg (Γ.blk scope.names) tg t && mC (Γ.blk scope.names) cnd ifs &&
      mI (Γ.blk scope.names) it1 t1 i1 && mTg (Γ.blk scope.names) tg1 t1 && mC (Γ.blk scope.names) cnd1 ifs1 && mE (Γ.blk scope.names) elt e
    | _ => false)
  | .isty pos t a, x => (match vCmp x with
    | some (l, [o], [r], _) => (match vCall l, vName r with
      | some (g, [y], [], _), some (n, _) => (match vName g with
        | some (m, _) => decide (o = tyOp pos) && decide (t ≠ .none_) && decide (m = "type") && decide (n = tyStr t) && Γ.bns.contains "type" && Γ.bns.contains (tyStr t) && Γ.gl "type" && Γ.gl (tyStr t) && !isStar y && !behindInMarks (tyOp pos) r && mE Γ a y
        | none => false)
      | _, _ => false)
    | _ => false)
  | .rev a, x => (match vSub x with
    | some (p, q, _) => (match vSlice q with
      | some (none, none, some st, _) => (match vUn st with
        | some (.USub, c, _) => (match vConst c with
          | some (.int 1, _, _) => mE Γ a p
          | _ => false)
        | _ => false)
      | _ => false)
    | none => false)
  | .isa t a, x => (match vCall x with
    | some (g, [y, r], [], _) => (match vName g, vName r with
      | some (m, _), some (n, _) => decide (t ≠ .none_) && decide (m = "isinstance") && decide (n = tyStr t) && Γ.bns.contains "isinstance" && Γ.bns.contains (tyStr t) && Γ.gl "isinstance" && Γ.gl (tyStr t) && !isStar y && mE Γ a y
      | _, _ => false)
    | _ => false)
  | .pop a, x => (match vCall x with
    | some (g, [], [], cpos) => (match vAttr g with
      | some (b, at_, apos) => (match vName b with
        | some _ => decide (at_ = "pop") && (apos.endLine == cpos.line) && mE Γ a b
        | none => false)
      | none => false)
    | _ => false)
def mEs (Γ : SC) : Es → List Expr → Bool
  | .nil, xs => xs.isEmpty
  | .cons e es, xs => (match xs with | x :: r => !isStar x && mE Γ e x && mEs Γ es r | [] => false)
def mK (Γ : SC) : Es → List Keyword → Bool
  | .nil, xs => xs.isEmpty
  | .cons e es, xs => (match xs with | ⟨_, x, _⟩ :: r => mE Γ e x && mK Γ es r | [] => false)
def mO (Γ : SC) : Oe → Option Expr → Bool
  | .none, x => x.isNone
  | .some e, x => (match x with | some y => mE Γ e y | none => false)
def mC (Γ : SC) : Oe → List Expr → Bool
  | .none, xs => xs.isEmpty
  | .some e, xs => (match xs with | [y] => mE Γ e y | _ => false)
def mI (Γ : SC) : It → Expr → Expr → Bool
  | .seq e, _, x => mE Γ e x
  | .rng1 a, _, x => (match vCall x with
    | some (g, [p], [], _) => (match vName g with | some (n, _) => decide (n = "range") && Γ.bns.contains "range" && Γ.gl "range" && !isStar p && mE Γ a p | none => false)
    | _ => false)
  | .rng2 a b, _, x => (match vCall x with
    | some (g, [p, q], [], _) => (match vName g with | some (n, _) => decide (n = "range") && Γ.bns.contains "range" && Γ.gl "range" && !isStar p && !isStar q && mE Γ a p && mE Γ b q | none => false)
    | _ => false)
  | .zip a b, t, x => (match vCall x with
    | some (g, [p, q], [], _) => (match vName g with | some (n, _) => (vTuple t).isSome && decide (n = "zip") && Γ.bns.contains "zip" && Γ.gl "zip" && !isStar p && !isStar q && mE Γ a p && mE Γ b q | none => false)
    | _ => false)
  | .enum a, t, x => (match vCall x with
    | some (g, [p], [], _) => (match vName g with | some (n, _) => (vTuple t).isSome && decide (n = "enumerate") && Γ.bns.contains "enumerate" && Γ.gl "enumerate" && !isStar p && mE Γ a p | none => false)
    | _ => false)
  | .rev a, _, x => (match vCall x with
    | some (g, [p], [], _) => (match vName g with | some (n, _) => decide (n = "reversed") && Γ.bns.contains "reversed" && Γ.gl "reversed" && !isStar p && mE Γ a p | none => false)
    | _ => false)
  | .zips a, t, x => (match vCall x with
    | some (g, [st], [], _) => (match vName g, vStar st, vName t with | some (n, _), some (p, _), some _ => decide (n = "zip") && Γ.bns.contains "zip" && Γ.gl "zip" && mE Γ a p | _, _, _ => false)
    | _ => false)
end
theorem pt_never {x : Expr} {e : E} (h : ∀ env, tst F gv e env = fail) : PT X x (RT G (tst F gv e)) := ⟨fun pins s σ H Q I ⟨env, sto, μ, w, e1, fin⟩ => by
  rw [h] at fin
  exact (fin_fail fin).elim⟩
theorem pw_one {op : BoolOp} {x : Expr} {pos : Pos} {t : TT} (h : PT X x t) : PW X (.BoolOp op [x] pos) t := by
  cases op with
  | And => exact pw_and1 h
  | Or => exact pw_or1 h
theorem fn_named {Γ : SC} {f : Nat} {n : Str} (h : fnNamed Γ f n = true) : ∃ fe, Γ.fns[f]? = some fe ∧ fe.name = n := by
  unfold fnNamed at h
  split at h
  · rename_i fe e; exact ⟨fe, e, of_decide_eq_true h⟩
  · cases h
theorem kw_named {Γ : SC} {f npos nks : Nat} {perm : List Nat} {kws : List Keyword} (h : kwNamed Γ f npos nks perm kws = true) {fe : FnE} (hf : Γ.fns[f]? = some fe) : ∃ kp ∈ fe.kws, kp.npos = npos ∧ kp.ks.length = nks ∧ kp.perm = perm ∧ kwOk kp.ks kws = true := by
  unfold kwNamed at h
  rw [hf] at h
  simp only [List.any_eq_true, Bool.and_eq_true, decide_eq_true_eq] at h
  obtain ⟨kp, hm, ⟨⟨a, b⟩, c⟩, d⟩ := h
  exact ⟨kp, hm, a, b, c, d⟩
theorem nstar_of {e : E} {x : Expr} (h : mE Γ e x = true) : True := trivial
end

set_option maxHeartbeats 4000000
mutual
theorem simE {G : Cst} {F : Nat → List Dv → M Dv} {gv : Str → Option Dv} : ∀ (e : E) (x : Expr) (Γ : SC) (X : Cx), mE Γ e x = true → Ctx G F gv Γ X → PE X x (RE G (ev F gv e))
  | .var i, x, Γ, X, h, c => by
    simp only [mE] at h
    split at h
    · rename_i n p q
      rw [Bool.and_eq_true] at h
      rw [vName_eq q]
      exact re_var c h.1 h.2
    · cases h
  | .int i, x, Γ, X, h, c => by
    simp only [mE] at h
    split at h
    · rename_i j k p q
      rw [vConst_eq q, ← of_decide_eq_true h]
      exact re_cst pe_int (fun env => by unfold ev; rfl) fun μ H => by rw [rep_int]
    · cases h
  | .bl i, x, Γ, X, h, c => by
    simp only [mE] at h
    split at h
    · rename_i j k p q
      rw [vConst_eq q, ← of_decide_eq_true h]
      exact re_cst pe_bl (fun env => by unfold ev; rfl) fun μ H => by rw [rep_bl]
    · cases h
  | .non, x, Γ, X, h, c => by
    simp only [mE] at h
    split at h
    · rename_i k p q
      rw [vConst_eq q]
      exact re_cst pe_non (fun env => by unfold ev; rfl) fun μ H => by rw [rep_non]
    · cases h
  | .str i, x, Γ, X, h, c => by
    simp only [mE] at h
    split at h
    · rename_i j k p q
      rw [vConst_eq q, ← of_decide_eq_true h]
      exact re_cst pe_str (fun env => by unfold ev; rfl) fun μ H => by rw [rep_str]
    · cases h
  | .glb n, x, Γ, X, h, c => by
    simp only [mE] at h
    split at h
    · rename_i m p q
      rw [Bool.and_eq_true] at h
      have e : n = m := of_decide_eq_true h.1
      subst e
      rw [vName_eq q]
      exact re_glb c h.2
    · cases h
  | .tup es, x, Γ, X, h, c => by
    simp only [mE] at h
    split at h
    · rename_i xs k p q
      rw [vTuple_eq q]
      exact re_tup (simA es xs Γ X h c)
    · cases h
  | .lst es, x, Γ, X, h, c => by
    simp only [mE] at h
    split at h
    · rename_i xs p q
      rw [vList_eq q]
      exact re_lst (simA es xs Γ X h c)
    · cases h
  | .num a b, x, Γ, X, h, c => by
    simp only [mE] at h
    split at h
    · rename_i p q' k pos q
      simp only [Bool.and_eq_true, Bool.not_eq_true'] at h
      rw [vTuple_eq q]
      exact re_num h.1.1.1 h.1.1.2 (simE a _ Γ X h.1.2 c) (simE b _ Γ X h.2 c)
    · cases h
  | .bin o a b, x, Γ, X, h, c => by
    simp only [mE] at h
    split at h
    · rename_i p o' q' pos q
      simp only [Bool.and_eq_true, decide_eq_true_eq] at h
      rw [vBin_eq q, ← h.1.1]
      exact re_bin (simE a _ Γ X h.1.2 c) (simE b _ Γ X h.2 c)
    · cases h
  | .neg a, x, Γ, X, h, c => by
    simp only [mE] at h
    split at h
    · rename_i p pos q
      rw [vUn_eq q]
      exact re_neg (simE a _ Γ X h c)
    · cases h
  | .cmp o a b, x, Γ, X, h, c => by
    simp only [mE] at h
    split at h
    · rename_i p o' q' pos q
      simp only [Bool.and_eq_true, decide_eq_true_eq, Bool.not_eq_true'] at h
      rw [vCmp_eq q, ← h.1.1.1]
      exact re_cmp c (simE a _ Γ X h.1.1.2 c) (simE b _ Γ X h.1.2 c) h.2
    · cases h
  | .chain o1 o2 a b d, x, Γ, X, h, c => by
    simp only [mE] at h
    split at h
    · rename_i p o1' o2' q' r pos q
      simp only [Bool.and_eq_true, decide_eq_true_eq, Bool.not_eq_true'] at h
      rw [vCmp_eq q, ← h.1.1.1.1.1, ← h.1.1.1.1.2]
      exact re_chain c (simE a _ Γ X h.1.1.1.2 c) (simE b _ Γ X h.1.1.2 c) (simE d _ Γ X h.1.2 c) h.2
    · cases h
  | .band a b, x, Γ, X, h, c => by
    simp only [mE] at h
    split at h
    · rename_i p q' pos q
      rw [Bool.and_eq_true] at h
      rw [vBool_eq q]
      exact re_and (simE a _ Γ X h.1 c) (pe_one (simE b _ Γ X h.2 c))
    · rename_i p q' r rest pos q
      rw [Bool.and_eq_true] at h
      rw [vBool_eq q]
      exact re_and (simE a _ Γ X h.1 c) (simE b _ Γ X h.2 c)
    · cases h
  | .bor a b, x, Γ, X, h, c => by
    simp only [mE] at h
    split at h
    · rename_i p q' pos q
      rw [Bool.and_eq_true] at h
      rw [vBool_eq q]
      exact re_or (simE a _ Γ X h.1 c) (pe_one (simE b _ Γ X h.2 c))
    · rename_i p q' r rest pos q
      rw [Bool.and_eq_true] at h
      rw [vBool_eq q]
      exact re_or (simE a _ Γ X h.1 c) (simE b _ Γ X h.2 c)
    · cases h
  | .bnot a, x, Γ, X, h, c => by
    simp only [mE] at h
    split at h
    · rename_i p pos q
      rw [vUn_eq q]
      exact re_not (simE a _ Γ X h c)
    · cases h
  | .ite t a b, x, Γ, X, h, c => by
    simp only [mE] at h
    split at h
    · rename_i p q' r pos q
      simp only [Bool.and_eq_true] at h
      rw [vIf_eq q]
      exact re_ite (simT t _ Γ X h.1.1 c) (simE a _ Γ X h.1.2 c) (simE b _ Γ X h.2 c)
    · cases h
  | .idx a i, x, Γ, X, h, c => by
    simp only [mE] at h
    split at h
    · rename_i p q' pos q
      simp only [Bool.and_eq_true, Option.isNone_iff_eq_none] at h
      rw [vSub_eq q]
      exact re_idx c (simE a _ Γ X h.1.2 c) (simE i _ Γ X h.2 c) h.1.1
    · cases h
  | .sl a lo hi, x, Γ, X, h, c => by
    simp only [mE] at h
    split at h
    · rename_i p q' pos q
      split at h
      · rename_i l h' pos2 q2
        simp only [Bool.and_eq_true] at h
        rw [vSub_eq q, vSlice_eq q2]
        exact re_sl (simE a _ Γ X h.1.1 c) (simO lo _ Γ X h.1.2 c) (simO hi _ Γ X h.2 c)
      · cases h
    · cases h
  | .call f es, x, Γ, X, h, c => by
    simp only [mE] at h
    split at h
    · rename_i g e as pos q
      split at h
      · rename_i n p2 q2
        simp only [Bool.and_eq_true] at h
        obtain ⟨fe, h1, h2⟩ := fn_named h.1.1.1
        rw [vCall_eq q, vName_eq q2]
        exact re_call c h1 h2 h.1.1.2 h.1.2 (simA es _ Γ X h.2 c)
      · cases h
    · cases h
  | .callk f es ks npos nks perm, x, Γ, X, h, c => by
    simp only [mE] at h
    split at h
    · rename_i g e as kws pos q
      split at h
      · rename_i n p2 q2
        simp only [Bool.and_eq_true] at h
        obtain ⟨fe, h1, h2⟩ := fn_named h.1.1.1.1.1
        obtain ⟨kp, k1, rfl, rfl, rfl, k2⟩ := kw_named h.1.1.1.1.2 h1
        rw [vCall_eq q, vName_eq q2]
        exact re_callk c h1 h2 h.1.1.1.2 h.1.1.2 k1 k2 (simA es _ Γ X h.1.2 c) (simK ks _ Γ X h.2 c)
      · cases h
    · rename_i g kws pos q
      split at h
      · rename_i n p2 q2
        simp only [Bool.and_eq_true] at h
        obtain ⟨⟨⟨⟨h0, h1⟩, h2⟩, h3⟩, h4⟩ := h
        obtain ⟨fe, h1, h5⟩ := fn_named h1
        obtain ⟨kp, k1, rfl, rfl, rfl, k2⟩ := kw_named h2 h1
        rw [vCall_eq q, vName_eq q2, isNilE_eq h0]
        exact re_callk0 c h1 h5 h3 k1 k2 (simK ks _ Γ X h4 c)
      · cases h
    · cases h
  | .blt b es, x, Γ, X, h, c => by
    simp only [mE] at h
    split at h
    · rename_i g e as pos q
      split at h
      · rename_i n p2 q2
        simp only [Bool.and_eq_true, decide_eq_true_eq] at h
        rw [vCall_eq q, vName_eq q2, ← h.1.1.1.1]
        exact re_blt c b h.1.1.1.2 (by rw [h.1.1.1.1]; exact h.1.1.2) h.1.2 (simA es _ Γ X h.2 c)
      · cases h
    · cases h
  | .comp elt tg it cnd own, x, Γ, X, h, c => by
    simp only [mE] at h
    split at h
    · rename_i e t i ifs asy scope pos q
      simp only [Bool.and_eq_true, decide_eq_true_eq, Bool.not_eq_true'] at h
      obtain ⟨⟨⟨⟨⟨⟨⟨h0, h1⟩, h2⟩, h3⟩, h4⟩, h5⟩, h6⟩, h7⟩ := h
      obtain ⟨b1, b2, b3⟩ := blk_ok c h1
      rw [vComp_eq q]
      subst h0
      have := re_comp (elt := e) (tg := t) (iter := i) (ifs := ifs) (pos := pos) (own := ownsOf Γ own) (a := elt) (t := tg) (it := it) (cnd := cnd) (fun σ H Q hq => comp_reads (by rw [b1]; exact tgOwn_ok h2) hq) c (simI it t i Γ X h4 c) b2
        (fun s H C cl fp => rg_ok (c.blk b3 s H C cl fp) h5) (fun s H C cl fp => simC cnd ifs _ _ h7 (c.blk b3 s H C cl fp)) (fun s H C cl fp => simE elt e _ _ h6 (c.blk b3 s H C cl fp)) h3
      rw [b1] at this
      exact this
    · cases h
  | .comp2 elt tg it cnd tg1 it1 cnd1 own own1, x, Γ, X, h, c => by
    simp only [mE] at h
    split at h
    · rename_i e t i ifs asy t1 i1 ifs1 asy1 scope pos q
      simp only [Bool.and_eq_true, decide_eq_true_eq, Bool.not_eq_true'] at h
      obtain ⟨⟨⟨⟨⟨⟨⟨⟨⟨⟨⟨⟨⟨⟨a0, a1⟩, h1⟩, h2⟩, h3⟩, h4⟩, h5⟩, h6⟩, h7⟩, h8⟩, h9⟩, h10⟩, h11⟩, h12⟩, h13⟩ := h
      obtain ⟨b1, b2, b3⟩ := blk_ok c h1
      rw [vComp_eq q]
      subst a0
      subst a1
      have := re_comp2 (elt := e) (tg := t) (iter := i) (ifs := ifs) (tg1 := t1) (iter1 := i1) (ifs1 := ifs1) (pos := pos) (own := ownsOf Γ own) (a := elt) (t := tg) (it := it) (cnd := cnd) (t1 := tg1) (it1 := it1) (cnd1 := cnd1) (vs1 := own1) (by rw [b1]; exact tgOwn_ok h2) (tgOwn_ok h3)
        (by rw [b1]; intro v hv; exact List.contains_iff_mem.mp (List.all_eq_true.mp h4 v hv)) c (simI it t i Γ X h7 c) b2
        (fun s H C cl fp => rg_ok (c.blk b3 s H C cl fp) h8) (fun s H C cl fp => simC cnd ifs _ _ h9 (c.blk b3 s H C cl fp)) (fun s H C cl fp => simI it1 t1 i1 _ _ h10 (c.blk b3 s H C cl fp)) (fun s H C cl fp => rg_ok (c.blk b3 s H C cl fp) h11) (fun s H C cl fp => simC cnd1 ifs1 _ _ h12 (c.blk b3 s H C cl fp))
        (fun s H C cl fp => simE elt e _ _ h13 (c.blk b3 s H C cl fp)) h5 h6
      rw [b1] at this
      exact this
    · cases h
  | .isty pos t a, x, Γ, X, h, c => by
    simp only [mE] at h
    split at h
    · rename_i l o r p q
      split at h
      · rename_i g y p1 n p2 q1 q2
        split at h
        · rename_i m p3 q3
          simp only [Bool.and_eq_true, decide_eq_true_eq, Bool.not_eq_true'] at h
          obtain ⟨⟨⟨⟨⟨⟨⟨⟨⟨⟨h0, h1⟩, rfl⟩, rfl⟩, h4⟩, h5⟩, h6⟩, h7⟩, h8⟩, h9⟩, h10⟩ := h
          subst h0
          rw [vCmp_eq q, vCall_eq q1, vName_eq q2, vName_eq q3]
          rw [vName_eq q2] at h9
          exact re_isty c h1 (List.contains_iff_mem.mp h4) (List.contains_iff_mem.mp h5) h6 h7 h8 h9 (simE a y Γ X h10 c)
        · cases h
      · cases h
    · cases h
  | .rev a, x, Γ, X, h, c => by
    simp only [mE] at h
    split at h
    · rename_i p q pos q0
      split at h
      · rename_i st ps q1
        split at h
        · rename_i cc pc q2
          split at h
          · rename_i k pk q3
            rw [vSub_eq q0, vSlice_eq q1, vUn_eq q2, vConst_eq q3]
            exact re_rev (simE a p Γ X h c)
          · cases h
        · cases h
      · cases h
    · cases h
  | .isa t a, x, Γ, X, h, c => by
    simp only [mE] at h
    split at h
    · rename_i g y r p q
      split at h
      · rename_i m p1 n p2 q1 q2
        simp only [Bool.and_eq_true, decide_eq_true_eq, Bool.not_eq_true'] at h
        obtain ⟨⟨⟨⟨⟨⟨⟨⟨h0, rfl⟩, rfl⟩, h3⟩, h4⟩, h5⟩, h6⟩, h7⟩, h8⟩ := h
        rw [vCall_eq q, vName_eq q1, vName_eq q2]
        exact re_isa c h0 (List.contains_iff_mem.mp h3) (List.contains_iff_mem.mp h4) h5 h6 h7 (simE a y Γ X h8 c)
      · cases h
    · cases h
  | .pop a, x, Γ, X, h, c => by
    simp only [mE] at h
    split at h
    · rename_i g cpos q
      split at h
      · rename_i b at_ apos q1
        split at h
        · rename_i nn q2
          obtain ⟨nm, pn⟩ := nn
          simp only [Bool.and_eq_true, decide_eq_true_eq] at h
          obtain ⟨⟨rfl, h1⟩, h2⟩ := h
          rw [vName_eq q2] at h2
          rw [vCall_eq q, vAttr_eq q1, vName_eq q2]
          exact re_pop (simE a _ Γ X h2 c) h1
        · cases h
      · cases h
    · cases h
theorem simT {G : Cst} {F : Nat → List Dv → M Dv} {gv : Str → Option Dv} : ∀ (e : E) (x : Expr) (Γ : SC) (X : Cx), mE Γ e x = true → Ctx G F gv Γ X → PT X x (RT G (tst F gv e))
  | .var i, x, Γ, X, h, c => by
    simp only [mE] at h
    split at h
    · rename_i n p q
      rw [Bool.and_eq_true] at h
      rw [vName_eq q]
      refine rt_val c (re_var c h.1 h.2) (fun _ => rfl) fun env => ?_
      unfold tst ev
      split <;> rfl
    · cases h
  | .cmp o a b, x, Γ, X, h, c => by
    simp only [mE] at h
    split at h
    · rename_i p o' q' pos q
      simp only [Bool.and_eq_true, decide_eq_true_eq, Bool.not_eq_true'] at h
      rw [vCmp_eq q, ← h.1.1.1]
      exact rt_cmp c (simE a _ Γ X h.1.1.2 c) (simE b _ Γ X h.1.2 c) h.2
    · cases h
  | .chain o1 o2 a b d, x, Γ, X, h, c => by
    simp only [mE] at h
    split at h
    · rename_i p o1' o2' q' r pos q
      simp only [Bool.and_eq_true, decide_eq_true_eq, Bool.not_eq_true'] at h
      rw [vCmp_eq q, ← h.1.1.1.1.1, ← h.1.1.1.1.2]
      exact rt_chain c (simE a _ Γ X h.1.1.1.2 c) (simE b _ Γ X h.1.1.2 c) (simE d _ Γ X h.1.2 c) h.2
    · cases h
  | .band a b, x, Γ, X, h, c => by
    simp only [mE] at h
    split at h
    · rename_i p q' pos q
      rw [Bool.and_eq_true] at h
      rw [vBool_eq q]
      exact (rt_and (simT a _ Γ X h.1 c) (pw_one (simT b _ Γ X h.2 c))).pt
    · rename_i p q' r rest pos q
      rw [Bool.and_eq_true] at h
      rw [vBool_eq q]
      exact (rt_and (simT a _ Γ X h.1 c) (simW b _ Γ X h.2 c ⟨_, _, _, rfl⟩)).pt
    · cases h
  | .bor a b, x, Γ, X, h, c => by
    simp only [mE] at h
    split at h
    · rename_i p q' pos q
      rw [Bool.and_eq_true] at h
      rw [vBool_eq q]
      exact (rt_or (simT a _ Γ X h.1 c) (pw_one (simT b _ Γ X h.2 c))).pt
    · rename_i p q' r rest pos q
      rw [Bool.and_eq_true] at h
      rw [vBool_eq q]
      exact (rt_or (simT a _ Γ X h.1 c) (simW b _ Γ X h.2 c ⟨_, _, _, rfl⟩)).pt
    · cases h
  | .bnot a, x, Γ, X, h, c => by
    simp only [mE] at h
    split at h
    · rename_i p pos q
      rw [vUn_eq q]
      exact rt_not (simT a _ Γ X h c)
    · cases h
  | .call f es, x, Γ, X, h, c => by
    simp only [mE] at h
    split at h
    · rename_i g e as pos q
      split at h
      · rename_i n p2 q2
        simp only [Bool.and_eq_true] at h
        obtain ⟨fe, h1, h2⟩ := fn_named h.1.1.1
        rw [vCall_eq q, vName_eq q2]
        refine rt_val c (re_call c h1 h2 h.1.1.2 h.1.2 (simA es _ Γ X h.2 c)) (fun _ => rfl) fun env => ?_
        unfold tst ev
        rw [bind_assoc_M]
      · cases h
    · cases h
  | .callk f es ks npos nks perm, x, Γ, X, h, c => by
    simp only [mE] at h
    split at h
    · rename_i g e as kws pos q
      split at h
      · rename_i n p2 q2
        simp only [Bool.and_eq_true] at h
        obtain ⟨fe, h1, h2⟩ := fn_named h.1.1.1.1.1
        obtain ⟨kp, k1, rfl, rfl, rfl, k2⟩ := kw_named h.1.1.1.1.2 h1
        rw [vCall_eq q, vName_eq q2]
        refine rt_val c (re_callk c h1 h2 h.1.1.1.2 h.1.1.2 k1 k2 (simA es _ Γ X h.1.2 c) (simK ks _ Γ X h.2 c)) (fun _ => rfl) fun env => ?_
        unfold tst ev
        rw [bind_assoc_M]
        congr 1
        funext ds
        rw [bind_assoc_M]
      · cases h
    · rename_i g kws pos q
      split at h
      · rename_i n p2 q2
        simp only [Bool.and_eq_true] at h
        obtain ⟨⟨⟨⟨h0, h1⟩, h2⟩, h3⟩, h4⟩ := h
        obtain ⟨fe, h1, h5⟩ := fn_named h1
        obtain ⟨kp, k1, rfl, rfl, rfl, k2⟩ := kw_named h2 h1
        rw [vCall_eq q, vName_eq q2, isNilE_eq h0]
        refine rt_val c (re_callk0 c h1 h5 h3 k1 k2 (simK ks _ Γ X h4 c)) (fun _ => rfl) fun env => ?_
        unfold tst ev
        rw [bind_assoc_M]
        congr 1
        funext ds
        rw [bind_assoc_M]
      · cases h
    · cases h
  | .blt b es, x, Γ, X, h, c => by
    simp only [mE] at h
    split at h
    · rename_i g e as pos q
      split at h
      · rename_i n p2 q2
        simp only [Bool.and_eq_true, decide_eq_true_eq] at h
        rw [vCall_eq q, vName_eq q2, ← h.1.1.1.1]
        refine rt_val c (re_blt c b h.1.1.1.2 (by rw [h.1.1.1.1]; exact h.1.1.2) h.1.2 (simA es _ Γ X h.2 c)) (fun _ => rfl) fun env => ?_
        unfold tst ev
        rw [bind_assoc_M]
      · cases h
    · cases h
  | .int _, _, _, _, _, _ => pt_never fun env => by unfold tst; rfl
  | .bl _, _, _, _, _, _ => pt_never fun env => by unfold tst; rfl
  | .non, _, _, _, _, _ => pt_never fun env => by unfold tst; rfl
  | .str _, _, _, _, _, _ => pt_never fun env => by unfold tst; rfl
  | .glb _, _, _, _, _, _ => pt_never fun env => by unfold tst; rfl
  | .tup _, _, _, _, _, _ => pt_never fun env => by unfold tst; rfl
  | .lst _, _, _, _, _, _ => pt_never fun env => by unfold tst; rfl
  | .num _ _, _, _, _, _, _ => pt_never fun env => by unfold tst; rfl
  | .bin _ _ _, _, _, _, _, _ => pt_never fun env => by unfold tst; rfl
  | .neg _, _, _, _, _, _ => pt_never fun env => by unfold tst; rfl
  | .ite _ _ _, _, _, _, _, _ => pt_never fun env => by unfold tst; rfl
  | .idx _ _, _, _, _, _, _ => pt_never fun env => by unfold tst; rfl
  | .sl _ _ _, _, _, _, _, _ => pt_never fun env => by unfold tst; rfl
  | .comp _ _ _ _ _, _, _, _, _, _ => pt_never fun env => by unfold tst; rfl
  | .comp2 _ _ _ _ _ _ _ _ _, _, _, _, _, _ => pt_never fun env => by unfold tst; rfl
  | .rev _, _, _, _, _, _ => pt_never fun env => by unfold tst; rfl
  | .pop _, _, _, _, _, _ => pt_never fun env => by unfold tst; rfl
  | .isa t a, x, Γ, X, h, c => by
    simp only [mE] at h
    split at h
    · rename_i g y r p q
      split at h
      · rename_i m p1 n p2 q1 q2
        simp only [Bool.and_eq_true, decide_eq_true_eq, Bool.not_eq_true'] at h
        obtain ⟨⟨⟨⟨⟨⟨⟨⟨h0, rfl⟩, rfl⟩, h3⟩, h4⟩, h5⟩, h6⟩, h7⟩, h8⟩ := h
        rw [vCall_eq q, vName_eq q1, vName_eq q2]
        exact rt_isa c h0 (List.contains_iff_mem.mp h3) (List.contains_iff_mem.mp h4) h5 h6 h7 (simE a y Γ X h8 c)
      · cases h
    · cases h
  | .isty pos t a, x, Γ, X, h, c => by
    simp only [mE] at h
    split at h
    · rename_i l o r p q
      split at h
      · rename_i g y p1 n p2 q1 q2
        split at h
        · rename_i m p3 q3
          simp only [Bool.and_eq_true, decide_eq_true_eq, Bool.not_eq_true'] at h
          obtain ⟨⟨⟨⟨⟨⟨⟨⟨⟨⟨h0, h1⟩, rfl⟩, rfl⟩, h4⟩, h5⟩, h6⟩, h7⟩, h8⟩, h9⟩, h10⟩ := h
          subst h0
          rw [vCmp_eq q, vCall_eq q1, vName_eq q2, vName_eq q3]
          rw [vName_eq q2] at h9
          exact rt_isty c h1 (List.contains_iff_mem.mp h4) (List.contains_iff_mem.mp h5) h6 h7 h8 h9 (simE a y Γ X h10 c)
        · cases h
      · cases h
    · cases h
theorem simW {G : Cst} {F : Nat → List Dv → M Dv} {gv : Str → Option Dv} : ∀ (e : E) (x : Expr) (Γ : SC) (X : Cx), mE Γ e x = true → Ctx G F gv Γ X → (∃ o l p, x = .BoolOp o l p) → PW X x (RT G (tst F gv e))
  | .band a b, x, Γ, X, h, c, hx => by
    simp only [mE] at h
    split at h
    · rename_i p q' pos q
      rw [Bool.and_eq_true] at h
      rw [vBool_eq q]
      exact rt_and (simT a _ Γ X h.1 c) (pw_one (simT b _ Γ X h.2 c))
    · rename_i p q' r rest pos q
      rw [Bool.and_eq_true] at h
      rw [vBool_eq q]
      exact rt_and (simT a _ Γ X h.1 c) (simW b _ Γ X h.2 c ⟨_, _, _, rfl⟩)
    · cases h
  | .bor a b, x, Γ, X, h, c, hx => by
    simp only [mE] at h
    split at h
    · rename_i p q' pos q
      rw [Bool.and_eq_true] at h
      rw [vBool_eq q]
      exact rt_or (simT a _ Γ X h.1 c) (pw_one (simT b _ Γ X h.2 c))
    · rename_i p q' r rest pos q
      rw [Bool.and_eq_true] at h
      rw [vBool_eq q]
      exact rt_or (simT a _ Γ X h.1 c) (simW b _ Γ X h.2 c ⟨_, _, _, rfl⟩)
    · cases h
  | .var _, _, _, _, h, _, ⟨_, _, _, e⟩ => by subst e; simp [mE, vName] at h
  | .int _, _, _, _, h, _, ⟨_, _, _, e⟩ => by subst e; simp [mE, vConst] at h
  | .bl _, _, _, _, h, _, ⟨_, _, _, e⟩ => by subst e; simp [mE, vConst] at h
  | .non, _, _, _, h, _, ⟨_, _, _, e⟩ => by subst e; simp [mE, vConst] at h
  | .str _, _, _, _, h, _, ⟨_, _, _, e⟩ => by subst e; simp [mE, vConst] at h
  | .glb _, _, _, _, h, _, ⟨_, _, _, e⟩ => by subst e; simp [mE, vName] at h
  | .tup _, _, _, _, h, _, ⟨_, _, _, e⟩ => by subst e; simp [mE, vTuple] at h
  | .lst _, _, _, _, h, _, ⟨_, _, _, e⟩ => by subst e; simp [mE, vList] at h
  | .num _ _, _, _, _, h, _, ⟨_, _, _, e⟩ => by subst e; simp [mE, vTuple] at h
  | .bin _ _ _, _, _, _, h, _, ⟨_, _, _, e⟩ => by subst e; simp [mE, vBin] at h
  | .neg _, _, _, _, h, _, ⟨_, _, _, e⟩ => by subst e; simp [mE, vUn] at h
  | .cmp _ _ _, _, _, _, h, _, ⟨_, _, _, e⟩ => by subst e; simp [mE, vCmp] at h
  | .chain _ _ _ _ _, _, _, _, h, _, ⟨_, _, _, e⟩ => by subst e; simp [mE, vCmp] at h
  | .bnot _, _, _, _, h, _, ⟨_, _, _, e⟩ => by subst e; simp [mE, vUn] at h
  | .ite _ _ _, _, _, _, h, _, ⟨_, _, _, e⟩ => by subst e; simp [mE, vIf] at h
  | .idx _ _, _, _, _, h, _, ⟨_, _, _, e⟩ => by subst e; simp [mE, vSub] at h
  | .sl _ _ _, _, _, _, h, _, ⟨_, _, _, e⟩ => by subst e; simp [mE, vSub] at h
  | .call _ _, _, _, _, h, _, ⟨_, _, _, e⟩ => by subst e; simp [mE, vCall] at h
  | .callk _ _ _ _ _ _, _, _, _, h, _, ⟨_, _, _, e⟩ => by subst e; simp [mE, vCall] at h
  | .comp2 _ _ _ _ _ _ _ _ _, _, _, _, h, _, ⟨_, _, _, e⟩ => by subst e; simp [mE, vComp] at h
  | .isty _ _ _, _, _, _, h, _, ⟨_, _, _, e⟩ => by subst e; simp [mE, vCmp] at h
  | .rev _, _, _, _, h, _, ⟨_, _, _, e⟩ => by subst e; simp [mE, vSub] at h
  | .isa _ _, _, _, _, h, _, ⟨_, _, _, e⟩ => by subst e; simp [mE, vCall] at h
  | .pop _, _, _, _, h, _, ⟨_, _, _, e⟩ => by subst e; simp [mE, vCall] at h
  | .blt _ _, _, _, _, h, _, ⟨_, _, _, e⟩ => by subst e; simp [mE, vCall] at h
  | .comp _ _ _ _ _, _, _, _, h, _, ⟨_, _, _, e⟩ => by subst e; simp [mE, vComp] at h
theorem simA {G : Cst} {F : Nat → List Dv → M Dv} {gv : Str → Option Dv} : ∀ (es : Es) (xs : List Expr) (Γ : SC) (X : Cx), mEs Γ es xs = true → Ctx G F gv Γ X → PA X xs (RA G (evs F gv es))
  | .nil, xs, Γ, X, h, c => by
    simp only [mEs, List.isEmpty_iff] at h
    subst h
    exact pa_nilD
  | .cons e es, xs, Γ, X, h, c => by
    simp only [mEs] at h
    split at h
    · simp only [Bool.and_eq_true, Bool.not_eq_true'] at h
      exact pa_consD h.1.1 (simE e _ Γ X h.1.2 c) (simA es _ Γ X h.2 c)
    · cases h
theorem simK {G : Cst} {F : Nat → List Dv → M Dv} {gv : Str → Option Dv} : ∀ (es : Es) (xs : List Keyword) (Γ : SC) (X : Cx), mK Γ es xs = true → Ctx G F gv Γ X → PK X xs (RA G (evs F gv es))
  | .nil, xs, Γ, X, h, c => by
    simp only [mK, List.isEmpty_iff] at h
    subst h
    exact pk_nilD
  | .cons e es, xs, Γ, X, h, c => by
    simp only [mK] at h
    split at h
    · rw [Bool.and_eq_true] at h
      exact pk_consD (simE e _ Γ X h.1 c) (simK es _ Γ X h.2 c)
    · cases h
theorem simO {G : Cst} {F : Nat → List Dv → M Dv} {gv : Str → Option Dv} : ∀ (es : Oe) (xs : Option Expr) (Γ : SC) (X : Cx), mO Γ es xs = true → Ctx G F gv Γ X → PO X xs (RO G (evo F gv es))
  | .none, xs, Γ, X, h, c => by
    simp only [mO, Option.isNone_iff_eq_none] at h
    subst h
    exact ro_none
  | .some e, xs, Γ, X, h, c => by
    simp only [mO] at h
    split at h
    · exact ro_some (simE e _ Γ X h c)
    · cases h
theorem simC {G : Cst} {F : Nat → List Dv → M Dv} {gv : Str → Option Dv} : ∀ (es : Oe) (xs : List Expr) (Γ : SC) (X : Cx), mC Γ es xs = true → Ctx G F gv Γ X → PTs X xs (RT G (tsto F gv es))
  | .none, xs, Γ, X, h, c => by
    simp only [mC, List.isEmpty_iff] at h
    subst h
    refine ⟨fun pins s σ H Q I ⟨env, sto, μ, w, e1, fin⟩ => pts_nil.run pins s σ H Q I ?_⟩
    unfold tsto at fin
    exact fin_pure (R := eqR) fin w rfl
  | .some e, xs, Γ, X, h, c => by
    simp only [mC] at h
    split at h
    · have := pts_one (simT e _ Γ X h c)
      refine ⟨fun pins s σ H Q I ⟨env, sto, μ, w, e1, fin⟩ => this.run pins s σ H Q I ⟨env, sto, μ, w, e1, ?_⟩⟩
      unfold tsto at fin
      exact fin
    · cases h
theorem simI {G : Cst} {F : Nat → List Dv → M Dv} {gv : Str → Option Dv} : ∀ (it : It) (t x : Expr) (Γ : SC) (X : Cx), mI Γ it t x = true → Ctx G F gv Γ X → PI X t x (RI G (evi F gv it))
  | .seq e, t, x, Γ, X, h, c => by
    simp only [mI] at h
    exact ri_seq (simE e x Γ X h c)
  | .rng1 a, t, x, Γ, X, h, c => by
    simp only [mI] at h
    split at h
    · rename_i g p pos q
      split at h
      · rename_i n p2 q2
        simp only [Bool.and_eq_true, decide_eq_true_eq, Bool.not_eq_true'] at h
        obtain ⟨⟨⟨⟨rfl, h2⟩, h3⟩, h4⟩, h5⟩ := h
        rw [vCall_eq q, vName_eq q2]
        exact ri_rng1 c h2 h3 h4 (simE a _ Γ X h5 c)
      · cases h
    · cases h
  | .rng2 a b, t, x, Γ, X, h, c => by
    simp only [mI] at h
    split at h
    · rename_i g p r pos q
      split at h
      · rename_i n p2 q2
        simp only [Bool.and_eq_true, decide_eq_true_eq, Bool.not_eq_true'] at h
        obtain ⟨⟨⟨⟨⟨⟨rfl, h2⟩, h3⟩, h4⟩, h5⟩, h6⟩, h7⟩ := h
        rw [vCall_eq q, vName_eq q2]
        exact ri_rng2 c h2 h3 h4 h5 (simE a _ Γ X h6 c) (simE b _ Γ X h7 c)
      · cases h
    · cases h
  | .zip a b, t, x, Γ, X, h, c => by
    simp only [mI] at h
    split at h
    · rename_i g p r pos q
      split at h
      · rename_i n p2 q2
        simp only [Bool.and_eq_true, decide_eq_true_eq, Bool.not_eq_true'] at h
        obtain ⟨⟨⟨⟨⟨⟨⟨h1, rfl⟩, h2⟩, h3⟩, h4⟩, h5⟩, h6⟩, h7⟩ := h
        obtain ⟨⟨es, k, tp⟩, ht⟩ := Option.isSome_iff_exists.mp h1
        rw [vCall_eq q, vName_eq q2, vTuple_eq ht]
        exact ri_zip c h2 h3 h4 h5 (simE a _ Γ X h6 c) (simE b _ Γ X h7 c)
      · cases h
    · cases h
  | .enum a, t, x, Γ, X, h, c => by
    simp only [mI] at h
    split at h
    · rename_i g p pos q
      split at h
      · rename_i n p2 q2
        simp only [Bool.and_eq_true, decide_eq_true_eq, Bool.not_eq_true'] at h
        obtain ⟨⟨⟨⟨⟨h1, rfl⟩, h2⟩, h3⟩, h4⟩, h5⟩ := h
        obtain ⟨⟨es, k, tp⟩, ht⟩ := Option.isSome_iff_exists.mp h1
        rw [vCall_eq q, vName_eq q2, vTuple_eq ht]
        exact ri_enum c h2 h3 h4 (simE a _ Γ X h5 c)
      · cases h
    · cases h
  | .rev a, t, x, Γ, X, h, c => by
    simp only [mI] at h
    split at h
    · rename_i g p pos q
      split at h
      · rename_i n p2 q2
        simp only [Bool.and_eq_true, decide_eq_true_eq, Bool.not_eq_true'] at h
        obtain ⟨⟨⟨⟨rfl, h2⟩, h3⟩, h4⟩, h5⟩ := h
        rw [vCall_eq q, vName_eq q2]
        exact ri_rev c h2 h3 h4 (simE a _ Γ X h5 c)
      · cases h
    · cases h
  | .zips a, t, x, Γ, X, h, c => by
    simp only [mI] at h
    split at h
    · rename_i g st pos q
      split at h
      · rename_i n p1 p ps tn q2 q3 q4
        obtain ⟨tn1, tn2⟩ := tn
        simp only [Bool.and_eq_true, decide_eq_true_eq] at h
        obtain ⟨⟨⟨rfl, h2⟩, h3⟩, h4⟩ := h
        rw [vCall_eq q, vName_eq q2, vStar_eq q3, vName_eq q4]
        exact ri_zips c h2 h3 (simE a _ Γ X h4 c)
      · cases h
    · cases h
end
end Dd
end
section
set_option Elab.async false
set_option linter.all false
set_option maxRecDepth 100000
namespace Dd
open PySem PySem.Spec PyProof.Rows L2

/-! ### views of statements -/
def sAsg : Stmt → Option (Expr × Expr × Pos) | .Assign [t] v p => some (t, v, p) | _ => none
theorem sAsg_eq {s t v p} (h : sAsg s = some (t, v, p)) : s = .Assign [t] v p := by
  cases s with
  | Assign ts v' p' =>
    cases ts with
    | nil => cases h
    | cons t' r => cases r with | nil => cases h; rfl | cons _ _ => cases h
  | _ => cases h
def sAug : Stmt → Option (Expr × Operator × Expr × Pos) | .AugAssign t o v p => some (t, o, v, p) | _ => none
theorem sAug_eq {s t o v p} (h : sAug s = some (t, o, v, p)) : s = .AugAssign t o v p := by cases s <;> simp_all [sAug]
def sExpr : Stmt → Option (Expr × Pos) | .Expr v p => some (v, p) | _ => none
theorem sExpr_eq {s v p} (h : sExpr s = some (v, p)) : s = .Expr v p := by cases s <;> simp_all [sExpr]
def sRet : Stmt → Option (Option Expr × Pos) | .Return v p => some (v, p) | _ => none
theorem sRet_eq {s v p} (h : sRet s = some (v, p)) : s = .Return v p := by cases s <;> simp_all [sRet]
def sIf : Stmt → Option (Expr × List Stmt × List Stmt × Pos) | .If c a b p => some (c, a, b, p) | _ => none
theorem sIf_eq {s c a b p} (h : sIf s = some (c, a, b, p)) : s = .If c a b p := by cases s <;> simp_all [sIf]
def sWhile : Stmt → Option (Expr × List Stmt × Pos) | .While c a [] p => some (c, a, p) | _ => none
theorem sWhile_eq {s c a p} (h : sWhile s = some (c, a, p)) : s = .While c a [] p := by
  cases s with
  | While c' a' o p' => cases o with | nil => cases h; rfl | cons _ _ => cases h
  | _ => cases h
def sFor : Stmt → Option (Expr × Expr × List Stmt × Pos) | .For t i b [] p => some (t, i, b, p) | _ => none
theorem sFor_eq {s t i b p} (h : sFor s = some (t, i, b, p)) : s = .For t i b [] p := by
  cases s with
  | For t' i' b' o p' => cases o with | nil => cases h; rfl | cons _ _ => cases h
  | _ => cases h
def sBrk : Stmt → Option Pos | .Break p => some p | _ => none
theorem sBrk_eq {s p} (h : sBrk s = some p) : s = .Break p := by cases s <;> simp_all [sBrk]
def sCont : Stmt → Option Pos | .Continue p => some p | _ => none
theorem sCont_eq {s p} (h : sCont s = some p) : s = .Continue p := by cases s <;> simp_all [sCont]
def sPass : Stmt → Option Pos | .Pass p => some p | _ => none
theorem sPass_eq {s p} (h : sPass s = some p) : s = .Pass p := by cases s <;> simp_all [sPass]

section
variable {G : Cst} {F : Nat → List Dv → M Dv} {gv : Str → Option Dv} {Γ : SC} {X : Cx}
theorem rs_nil : PSs X [] (RS G (exs F gv .nil)) := pss_imp pss_nil fun D σ H ⟨env, sto, μ, w, e, d, s', h, q⟩ => by
  unfold exs at h
  cases h
  exact q H μ w .refl σ e
theorem fl_imp {μ : List Addr} {H : Hp} {D D' : Ends} {fl : Fl} (h : FlOk G μ H D fl) (h1 : ∀ e, fl = .nx e → ∀ σ, D.nx σ H → D'.nx σ H) (h2 : D.rt = D'.rt) (h3 : D.bk = D'.bk) (h4 : D.ct = D'.ct) : FlOk G μ H D' fl := by
  cases fl with
  | nx e => exact fun σ hs => h1 e rfl σ (h σ hs)
  | rt d => exact fun v hv => h2 ▸ h v hv
  | bk e => exact fun σ hs => h3 ▸ h σ hs
  | ct e => exact fun σ hs => h4 ▸ h σ hs
theorem rs_cons {st : Stmt} {rest : List Stmt} {s : S} {r : Ss} (h1 : PS X st (RS G (ex F gv s))) (h2 : PSs X rest (RS G (exs F gv r))) : PSs X (st :: rest) (RS G (exs F gv (.cons s r))) := by
  refine pss_imp (pss_cons h1 h2) fun D σ H ⟨env, sto, μ, w, e, d, s', h, q⟩ => ?_
  replace h : (ex F gv s env >>= fun fl => match fl with
    | .nx e => exs F gv r e
    | .rt d => pure (.rt d)
    | .bk e => pure (.bk e)
    | .ct e => pure (.ct e)) sto = .ok d s' := by unfold exs at h; exact h
  obtain ⟨fl, s1, h3, h4⟩ := bind_ok h
  refine ⟨env, sto, μ, w, e, fl, s1, h3, fun H1 μ1 w1 n1 => ?_⟩
  cases fl with
  | nx e1 => exact fun σ1 he => ⟨e1, s1, μ1, w1, he, d, s', h4, fun H' μ' w' n' => q H' μ' w' (n1.trans n')⟩
  | rt v => cases h4; exact q H1 μ1 w1 n1
  | bk e1 => cases h4; exact q H1 μ1 w1 n1
  | ct e1 => cases h4; exact q H1 μ1 w1 n1
theorem rs_ret {x : Expr} {p : Pos} {a : E} (ha : PE X x (RE G (ev F gv a))) : PS X (.Return (some x) p) (RS G (ex F gv (.ret a))) := by
  refine ps_imp (ps_ret ha) fun D σ H ⟨env, sto, μ, w, e, d, s', h, q⟩ => ?_
  replace h : (ev F gv a env >>= fun d => pure (.rt d)) sto = .ok d s' := by unfold ex at h; exact h
  obtain ⟨x, s1, h1, h2⟩ := bind_ok h
  cases h2
  exact ⟨env, sto, μ, w, e, x, _, h1, fun v H1 μ1 w1 n1 r1 => q H1 μ1 w1 n1 v r1⟩
theorem rs_retN {p : Pos} : PS X (.Return none p) (RS G (ex F gv .retN)) := ps_imp ps_retN fun D σ H ⟨env, sto, μ, w, e, d, s', h, q⟩ => by
  unfold ex at h
  cases h
  exact q H μ w .refl .non (by rw [rep_non])
theorem rs_ex {x : Expr} {p : Pos} {a : E} (ha : PE X x (RE G (ev F gv a))) (hc : isCompE x = false) : PS X (.Expr x p) (RS G (ex F gv (.ex a))) := by
  refine ps_imp (ps_expr ha (swaps_no hc)) fun D σ H ⟨env, sto, μ, w, e, d, s', h, q⟩ => ?_
  replace h : (ev F gv a env >>= fun _ => pure (.nx env)) sto = .ok d s' := by unfold ex at h; exact h
  obtain ⟨x, s1, h1, h2⟩ := bind_ok h
  cases h2
  exact ⟨env, sto, μ, w, e, x, _, h1, fun v H1 μ1 w1 n1 r1 => q H1 μ1 w1 n1 σ (e.nxt w n1)⟩
theorem rs_ite {x : Expr} {a b : List Stmt} {p : Pos} {t : E} {sa sb : Ss} (ht : PT X x (RT G (tst F gv t))) (ha : PSs X a (RS G (exs F gv sa))) (hb : PSs X b (RS G (exs F gv sb))) : PS X (.If x a b p) (RS G (ex F gv (.ite t sa sb))) := by
  refine ps_imp (ps_if ht ha hb) fun D σ H ⟨env, sto, μ, w, e, d, s', h, q⟩ => ?_
  replace h : (tst F gv t env >>= fun b => if b = true then exs F gv sa env else exs F gv sb env) sto = .ok d s' := by unfold ex at h; exact h
  obtain ⟨b, s1, h1, h2⟩ := bind_ok h
  refine ⟨env, sto, μ, w, e, b, _, h1, fun v H1 μ1 w1 n1 r1 => ?_⟩
  cases r1
  cases b with
  | true => exact iteT ⟨env, s1, μ1, w1, e.nxt w n1, d, s', h2, fun H' μ' w' n' => q H' μ' w' (n1.trans n')⟩
  | false => exact iteF ⟨env, s1, μ1, w1, e.nxt w n1, d, s', h2, fun H' μ' w' n' => q H' μ' w' (n1.trans n')⟩
theorem rs_brk {p : Pos} : PS X (.Break p) (RS G (ex F gv .brk)) := ps_imp ps_break fun D σ H ⟨env, sto, μ, w, e, d, s', h, q⟩ => by
  unfold ex at h
  cases h
  exact q H μ w .refl σ e
theorem rs_cont {p : Pos} : PS X (.Continue p) (RS G (ex F gv .cont)) := ps_imp ps_continue fun D σ H ⟨env, sto, μ, w, e, d, s', h, q⟩ => by
  unfold ex at h
  cases h
  exact q H μ w .refl σ e
theorem rs_pass {p : Pos} : PS X (.Pass p) (RS G (ex F gv .pass)) := ps_imp ps_pass fun D σ H ⟨env, sto, μ, w, e, d, s', h, q⟩ => by
  unfold ex at h
  cases h
  exact q H μ w .refl σ e
theorem rs_never {st : Stmt} : PS X st (RS G (ex F gv .never)) := ⟨fun pins s σ H D I ⟨env, sto, μ, w, e, d, s', h, q⟩ => by
  unfold ex at h
  cases h⟩

/-! ### assignments -/
def isTL (e : Expr) : Bool := (vTuple e).isSome || (vList e).isSome
theorem sw_plain {t e : Expr} {env : Env} (h : isTL t = false ∨ (vTuple e).isSome = false) : swappedStores [t] e env = pure none := by
  unfold swappedStores
  cases t with
  | Tuple ts k p => cases e with
    | Tuple vs k2 p2 => simp [isTL, vTuple] at h
    | _ => rfl
  | List ts p => cases e with
    | Tuple vs k2 p2 => simp [isTL, vTuple, vList] at h
    | _ => rfl
  | _ => rfl
theorem rs_asg {t x : Expr} {p : Pos} {tg : Tg} {a : E} (ht : PG X t (RG G tg)) (ha : PE X x (RE G (ev F gv a))) (hc : isCompE x = false) (hw : swappedStores [t] x X.env = pure none) (h1 : (assignEach [t] X.env).map (·.2) = [assign t X.env]) : PS X (.Assign [t] x p) (RS G (ex F gv (.asg tg a))) := by
  refine ps_imp (ps_asg ha ht (swaps_no hc) hw h1) fun D σ H ⟨env, sto, μ, w, e, d, s', h, q⟩ => ?_
  replace h : (ev F gv a env >>= fun d => lift (bindT tg d env) >>= fun env' => pure (.nx env')) sto = .ok d s' := by unfold ex at h; exact h
  obtain ⟨y, s1, h1, h2⟩ := bind_ok h
  obtain ⟨env', s2, h3, h4⟩ := bind_ok h2
  cases b : bindT tg y env with
  | none => rw [b] at h3; cases h3
  | some env'' =>
    rw [b] at h3; cases h3; cases h4
    exact ⟨env, sto, μ, w, e, y, _, h1, fun v H1 μ1 w1 n1 r1 => ⟨y, env, env', μ1, _, w1, e.nxt w n1, r1, b, fun σ' he _ => q H1 μ1 w1 n1 σ' he⟩⟩
theorem sw_cell {y : Str} {py : Pos} {x : Expr} {l : Nat} {env : Env} (h : env.kindOf y = some .cell) : swapsWithSole [.Name y py] x l env = pure false := by
  unfold swapsWithSole swapsWith
  have no : (some NameKind.cell == some NameKind.local) = false := rfl
  cases x <;> first | rfl | (dsimp only; rw [h, no, Bool.and_false, Bool.false_and, Bool.false_and])
theorem rs_asgCell {y : Str} {py : Pos} {x : Expr} {p : Pos} {i : Nat} {a : E} (ht : PG X (.Name y py) (RG G (.nm i))) (ha : PE X x (RE G (ev F gv a))) (hc : X.env.kindOf y = some .cell) (hw : swappedStores [.Name y py] x X.env = pure none) : PS X (.Assign [.Name y py] x p) (RS G (ex F gv (.asg (.nm i) a))) := by
  refine ps_imp (ps_asg ha ht (sw_cell hc) hw rfl) fun D σ H ⟨env, sto, μ, w, e, d, s', h, q⟩ => ?_
  replace h : (ev F gv a env >>= fun d => lift (bindT (.nm i) d env) >>= fun env' => pure (.nx env')) sto = .ok d s' := by unfold ex at h; exact h
  obtain ⟨y, s1, h1, h2⟩ := bind_ok h
  cases h2
  exact ⟨env, sto, μ, w, e, y, _, h1, fun v H1 μ1 w1 n1 r1 => ⟨y, env, _, μ1, _, w1, e.nxt w n1, r1, rfl, fun σ' he _ => q H1 μ1 w1 n1 σ' he⟩⟩
theorem rs_asgLc (c : Ctx G F gv Γ X) {elt tg iter : Expr} {ifs : List Expr} {scope : Scope} {own : List (Str × Nat)} {pos spos py : Pos} {y : Str} {i : Nat} {a : E} {t : Tg} {it : It} {cnd : Oe}
    (hw : ∀ σ H Q, RE G (ev F gv (.comp a t it cnd (own.map (·.2)))) σ H Q → tLc (RI G (evi F gv it)) (RG G t) (RT G (tsto F gv cnd)) (RE G (ev F gv a)) (own.map (·.2)) σ H Q)
    (hy : X.N[i]? = some y) (hyl : X.env.scope.names.lookup y = some .local) (hl : (py.line == pos.line) = true) (hn : (scope.names.any fun (n, k) => n == y && (k == .local || k == .cell)) = false)
    (hi : PI X tg iter (RI G (evi F gv it))) (ok : BlkOk X.N X.env.scope scope own)
    (hg : ∀ (s : Shared) (H : Hp) (C : Addr) (cl : List (Str × Addr)) (fp : List Addr), PG (X.blk s H scope (compEnvC scope cl C X.env) fp) tg (RG G t)) (ht : ∀ (s : Shared) (H : Hp) (C : Addr) (cl : List (Str × Addr)) (fp : List Addr), PTs (X.blk s H scope (compEnvC scope cl C X.env) fp) ifs (RT G (tsto F gv cnd)))
    (he : ∀ (s : Shared) (H : Hp) (C : Addr) (cl : List (Str × Addr)) (fp : List Addr), PE (X.blk s H scope (compEnvC scope cl C X.env) fp) elt (RE G (ev F gv a))) (hs : isSetE iter = false) :
    PS X (.Assign [.Name y py] (.ListComp elt [⟨tg, iter, ifs, 0⟩] scope pos) spos) (RS G (ex F gv (.asg (.nm i) (.comp a t it cnd (own.map (·.2)))))) := by
  refine ps_imp (ps_setLc c.calm c.nds hy hyl (sw_true c.kind hyl hl hn) hi ok hg ht he (set_fold hs)) fun D σ H ⟨env, sto, μ, w, e, d, s', h, q⟩ => ?_
  replace h : (ev F gv (.comp a t it cnd (own.map (·.2))) env >>= fun d => lift (bindT (.nm i) d env) >>= fun env' => pure (.nx env')) sto = .ok d s' := by unfold ex at h; exact h
  obtain ⟨y, s1, h1, h2⟩ := bind_ok h
  cases h2
  exact hw σ H _ ⟨env, sto, μ, w, e, y, _, h1, fun v H1 μ1 w1 n1 r1 => q H1 μ1 w1 n1 _ ((e.nxt w n1).set r1 i)⟩
theorem rs_asgLc2 (c : Ctx G F gv Γ X) {elt tg iter tg1 iter1 : Expr} {ifs ifs1 : List Expr} {scope : Scope} {own : List (Str × Nat)} {vs1 : List Nat} {pos spos py : Pos} {y : Str} {i : Nat} {a : E} {t t1 : Tg} {it it1 : It} {cnd cnd1 : Oe} (ht' : tgIn t (own.map (·.2))) (ht1' : tgIn t1 vs1) (hv : ∀ i ∈ vs1, i ∈ own.map (·.2))
    (hy : X.N[i]? = some y) (hyl : X.env.scope.names.lookup y = some .local) (hl : (py.line == pos.line) = true) (hn : (scope.names.any fun (n, k) => n == y && (k == .local || k == .cell)) = false)
    (hi : PI X tg iter (RI G (evi F gv it))) (ok : BlkOk X.N X.env.scope scope own)
    (hg : ∀ (s : Shared) (H : Hp) (C : Addr) (cl : List (Str × Addr)) (fp : List Addr), PG (X.blk s H scope (compEnvC scope cl C X.env) fp) tg (RG G t)) (hc : ∀ (s : Shared) (H : Hp) (C : Addr) (cl : List (Str × Addr)) (fp : List Addr), PTs (X.blk s H scope (compEnvC scope cl C X.env) fp) ifs (RT G (tsto F gv cnd)))
    (hi1 : ∀ (s : Shared) (H : Hp) (C : Addr) (cl : List (Str × Addr)) (fp : List Addr), PI (X.blk s H scope (compEnvC scope cl C X.env) fp) tg1 iter1 (RI G (evi F gv it1)))
    (hg1 : ∀ (s : Shared) (H : Hp) (C : Addr) (cl : List (Str × Addr)) (fp : List Addr), PG (X.blk s H scope (compEnvC scope cl C X.env) fp) tg1 (RG G t1)) (hc1 : ∀ (s : Shared) (H : Hp) (C : Addr) (cl : List (Str × Addr)) (fp : List Addr), PTs (X.blk s H scope (compEnvC scope cl C X.env) fp) ifs1 (RT G (tsto F gv cnd1)))
    (he : ∀ (s : Shared) (H : Hp) (C : Addr) (cl : List (Str × Addr)) (fp : List Addr), PE (X.blk s H scope (compEnvC scope cl C X.env) fp) elt (RE G (ev F gv a))) (hs : isSetE iter = false) (hs1 : isSetE iter1 = false) :
    PS X (.Assign [.Name y py] (.ListComp elt [⟨tg, iter, ifs, 0⟩, ⟨tg1, iter1, ifs1, 0⟩] scope pos) spos) (RS G (ex F gv (.asg (.nm i) (.comp2 a t it cnd t1 it1 cnd1 (own.map (·.2)) vs1)))) := by
  refine ps_imp (ps_setLc2 c.calm c.nds hy hyl (sw_true c.kind hyl hl hn) hi ok hv hg hc hi1 hg1 hc1 he (set_fold hs) (fun env => set_fold hs1)) fun D σ H ⟨env, sto, μ, w, e, d, s', h, q⟩ => ?_
  replace h : (ev F gv (.comp2 a t it cnd t1 it1 cnd1 (own.map (·.2)) vs1) env >>= fun d => lift (bindT (.nm i) d env) >>= fun env' => pure (.nx env')) sto = .ok d s' := by unfold ex at h; exact h
  obtain ⟨y, s1, h1, h2⟩ := bind_ok h
  cases h2
  exact comp2_reads ht' ht1' ⟨env, sto, μ, w, e, y, _, h1, fun v H1 μ1 w1 n1 r1 => q H1 μ1 w1 n1 _ ((e.nxt w n1).set r1 i)⟩
theorem rs_par (c : Ctx G F gv Γ X) {i j : Nat} {x y : Str} {a b : Expr} {px py pt p2 pos : Pos} {kt k2} {ea eb : E} (hi : X.N[i]? = some x) (hj : X.N[j]? = some y) (hij : i ≠ j) (hx : X.env.scope.names.lookup x = some .local) (hy : X.env.scope.names.lookup y = some .local)
    (sa : isStar a = false) (sb : isStar b = false) (ha : PE X a (RE G (ev F gv ea))) (hb : PE X b (RE G (ev F gv eb))) (hw : swappedStores [.Tuple [.Name x px, .Name y py] kt pt] (.Tuple [a, b] k2 p2) X.env = pure (some [x, y])) :
    PS X (.Assign [.Tuple [.Name x px, .Name y py] kt pt] (.Tuple [a, b] k2 p2) pos) (RS G (ex F gv (.par i j ea eb))) := by
  refine ps_imp (ps_par c.calm c.nds hi hj hij hx hy (pa_consD sa ha (ra_one sb hb)) hw) fun D σ H ⟨env, sto, μ, w, e, d, s', h, q⟩ => ?_
  replace h : (ev F gv ea env >>= fun x => ev F gv eb env >>= fun y => pure (.nx ((env.set i (some x)).set j (some y)))) sto = .ok d s' := by unfold ex at h; exact h
  obtain ⟨x, s1, h1, h2⟩ := bind_ok h
  obtain ⟨y, s2, h3, h4⟩ := bind_ok h2
  cases h4
  refine ⟨env, sto, μ, w, e, [x, y], _, evs_two h1 h3, fun vs H1 μ1 w1 n1 r1 => ?_⟩
  obtain ⟨v, u, rfl, rv, ru⟩ := two_of r1
  exact ⟨v, u, rfl, q H1 μ1 w1 n1 _ (((e.nxt w n1).set rv i).set ru j)⟩
theorem evs_three {a b d : E} {env : DEnv} {sto s1 s2 s3 : Sto} {x y z : Dv} (h : ev F gv a env sto = .ok x s1) (h2 : ev F gv b env s1 = .ok y s2) (h3 : ev F gv d env s2 = .ok z s3) : evs F gv (.cons a (.cons b (.cons d .nil))) env sto = .ok [x, y, z] s3 := by
  unfold evs
  rw [bind_ok_of h, bind_ok_of (evs_two h2 h3)]
  rfl
theorem rs_par3 (c : Ctx G F gv Γ X) {i j l : Nat} {x y z : Str} {a b d : Expr} {px py pz pt p2 pos : Pos} {kt k2} {ea eb ed : E} (hi : X.N[i]? = some x) (hj : X.N[j]? = some y) (hl : X.N[l]? = some z) (hij : i ≠ j) (hil : i ≠ l) (hjl : j ≠ l) (hx : X.env.scope.names.lookup x = some .local) (hy : X.env.scope.names.lookup y = some .local) (hz : X.env.scope.names.lookup z = some .local)
    (sa : isStar a = false) (sb : isStar b = false) (sd : isStar d = false) (ha : PE X a (RE G (ev F gv ea))) (hb : PE X b (RE G (ev F gv eb))) (hd : PE X d (RE G (ev F gv ed))) (hw : swappedStores [.Tuple [.Name x px, .Name y py, .Name z pz] kt pt] (.Tuple [a, b, d] k2 p2) X.env = pure (some [x, y, z])) :
    PS X (.Assign [.Tuple [.Name x px, .Name y py, .Name z pz] kt pt] (.Tuple [a, b, d] k2 p2) pos) (RS G (ex F gv (.par3 i j l ea eb ed))) := by
  refine ps_imp (ps_par3 c.calm c.nds hi hj hl hij hil hjl hx hy hz (pa_consD sa ha (pa_consD sb hb (ra_one sd hd))) hw) fun D σ H ⟨env, sto, μ, w, e, r, s', h, q⟩ => ?_
  replace h : (ev F gv ea env >>= fun x => ev F gv eb env >>= fun y => ev F gv ed env >>= fun z => pure (.nx (((env.set i (some x)).set j (some y)).set l (some z)))) sto = .ok r s' := by unfold ex at h; exact h
  obtain ⟨x, s1, h1, h2⟩ := bind_ok h
  obtain ⟨y, s2, h3, h4⟩ := bind_ok h2
  obtain ⟨z, s3, h5, h6⟩ := bind_ok h4
  cases h6
  refine ⟨env, sto, μ, w, e, [x, y, z], _, evs_three h1 h3 h5, fun vs H1 μ1 w1 n1 r1 => ?_⟩
  replace r1 : RepL G μ1 H1 [x, y, z] vs := r1
  unfold RepL at r1
  obtain ⟨v, t, rfl, rv, r2⟩ := r1
  obtain ⟨u, u2, rfl, ru, ru2⟩ := two_of r2
  exact ⟨v, u, u2, rfl, q H1 μ1 w1 n1 _ ((((e.nxt w n1).set rv i).set ru j).set ru2 l)⟩
theorem set_at {μ : List Addr} {H : Hp} {sto s2 : Sto} {n : Nat} {xs : List Dv} {c : Ce} {u : Unit} (w : Wld G μ H sto) (h : setC n c sto = .ok u s2) : s2 = sto.set n c ∧ n < sto.length := by
  unfold setC at h
  split at h
  · cases h; exact ⟨rfl, by assumption⟩
  · cases h
theorem swaps_sole {t e : Expr} {l : Nat} {env : Env} (h : isCompE e = false) : swapsWithSole [t] e l env = pure false := swaps_no h
theorem rs_sub {o i x : Expr} {p1 p : Pos} {eo ei ea : E} (ho : PE X o (RE G (ev F gv eo))) (hi : PE X i (RE G (ev F gv ei))) (ha : PE X x (RE G (ev F gv ea))) (hc : isCompE x = false) (hv : vSlice i = none) : PS X (.Assign [.Subscript o i p1] x p) (RS G (ex F gv (.sub eo ei ea))) := by
  refine ps_imp (ps_asg ha (pg_sub ho hi set_list (fun v => by rw [assign]; cases i <;> first | rfl | simp [vSlice] at hv)) (swaps_sole hc) (sw_plain (.inl rfl))) fun D σ H ⟨env, sto, μ, w, e, d, s', h, q⟩ => ?_
  replace h : (ev F gv ea env >>= fun d => ev F gv eo env >>= fun x => ev F gv ei env >>= fun y => match x, y with
    | .loc n, .int k => (getC n >>= fun c => match c with
      | .lst xs => match ixN xs.length k with
        | some j => (setC n (.lst (xs.set j d)) >>= fun _ => pure (.nx env))
        | none => fail
      | _ => fail)
    | _, _ => fail) sto = .ok d s' := by unfold ex at h; exact h
  obtain ⟨y, s1, h1, h2⟩ := bind_ok h
  refine ⟨env, sto, μ, w, e, y, s1, h1, fun v H1 μ1 w1 n1 r1 => ?_⟩
  obtain ⟨o', s2, h3, h4⟩ := bind_ok h2
  refine ⟨env, s1, μ1, w1, e.nxt w n1, o', s2, h3, fun vo H2 μ2 w2 n2 r2 => ?_⟩
  obtain ⟨i', s3, h5, h6⟩ := bind_ok h4
  refine ⟨env, s2, μ2, w2, (e.nxt w n1).nxt w1 n2, i', s3, h5, fun vi H3 μ3 w3 n3 r3 => ?_⟩
  cases o' with
  | loc n =>
    cases i' with
    | int k =>
      obtain ⟨c1, s4, h7, h8⟩ := bind_ok (show (getC n >>= fun c => _) s3 = .ok d s' from h6)
      obtain ⟨g3, rfl⟩ := getC_eq h7
      cases c1 with
      | lst xs =>
        simp only at h8
        cases q2 : ixN xs.length k with
        | none => rw [q2] at h8; cases h8
        | some j =>
          rw [q2] at h8
          obtain ⟨u, s5, h9, h10⟩ := bind_ok h8
          cases h10
          obtain ⟨rfl, hl⟩ := set_at (xs := xs) w3 h9
          obtain ⟨a, vs, rfl, hm, hH, rl⟩ := w3.lst g3 (w2.mono n3 r2)
          have hp : a ∈ μ3 := List.mem_of_getElem? hm
          refine ⟨a, vs, k, j, rfl, repI r3, hH, by rw [repL_len rl]; exact q2, ?_⟩
          have nw := nxt_wr (o := .lst (vs.set j v)) w3 hp
          refine q _ μ3 (wld_wr w3 hm ⟨_, upd_same, w3.monoL nw (repL_set j rl (w2.mono n3 (w1.mono n2 r1)))⟩) (((n1.trans n2).trans n3).trans nw) σ ?_
          exact (((e.nxt w n1).nxt w1 n2).nxt w2 n3).nxt w3 nw
      | _ => cases h8
    | _ => cases h6
  | _ => cases i' <;> cases h6
theorem rs_asg2 (c : Ctx G F gv Γ X) {o i x : Expr} {p1 pn pt p : Pos} {kt : Nat} {nm : Str} {j : Nat} {eo ei ea : E} (h1 : Γ.at j nm = true) (h2 : Γ.sto nm = true) (ho : PE X o (RE G (ev F gv eo))) (hi : PE X i (RE G (ev F gv ei))) (ha : PE X x (RE G (ev F gv ea))) (hc : isCompE x = false) (ht : (vTuple x).isSome = false) (hv : vSlice i = none) : PS X (.Assign [.Tuple [.Subscript o i p1, .Name nm pn] kt pt] x p) (RS G (ex F gv (.asg2 eo ei j ea))) := by
  obtain ⟨a1, _, _⟩ := c.at h1
  obtain ⟨l, f⟩ := c.loc h2
  refine ps_imp (ps_asg ha (pg_tup c.calm (pgs_cons (pg_sub ho hi set_list (fun v => by rw [assign]; cases i <;> first | rfl | simp [vSlice] at hv)) (pgs_cons (pg_name c.nds a1 l f) pgs_nil))) (swaps_sole hc) (sw_plain (.inr ht))) fun D σ H ⟨env, sto, μ, w, e, d, s', h, q⟩ => ?_
  replace h : (ev F gv ea env >>= fun d => match d with
    | .tup [d0, d1] => (ev F gv eo env >>= fun x => ev F gv ei env >>= fun y => match x, y with
      | .loc n, .int k => (getC n >>= fun c => match c with
        | .lst xs => match ixN xs.length k with
          | some m => (setC n (.lst (xs.set m d0)) >>= fun _ => pure (.nx (env.set j (some d1))))
          | none => fail
        | _ => fail)
      | _, _ => fail)
    | _ => fail) sto = .ok d s' := by unfold ex at h; exact h
  obtain ⟨y, s1, h1, h2⟩ := bind_ok h
  refine ⟨env, sto, μ, w, e, y, s1, h1, fun v H1 μ1 w1 n1 r1 => ?_⟩
  match y, h2, r1 with
  | .tup [d0, d1], h2, r1 =>
    obtain ⟨b, vs, rfl, hb, rl⟩ := rep_ref r1
    obtain ⟨v0, v1, rfl, r0, r1'⟩ := two_of rl
    refine ⟨b, [v0, v1], rfl, .inl (.inl hb), rfl, v0, [v1], rfl, ?_⟩
    obtain ⟨o', s2, h3, h4⟩ := bind_ok (show (ev F gv eo env >>= fun x => _) s1 = .ok d s' from h2)
    refine ⟨env, s1, μ1, w1, e.nxt w n1, o', s2, h3, fun vo H2 μ2 w2 n2 r2 => ?_⟩
    obtain ⟨i', s3, h5, h6⟩ := bind_ok h4
    refine ⟨env, s2, μ2, w2, (e.nxt w n1).nxt w1 n2, i', s3, h5, fun vi H3 μ3 w3 n3 r3 => ?_⟩
    cases o' with
    | loc n =>
      cases i' with
      | int k =>
        obtain ⟨c1, s4, h7, h8⟩ := bind_ok (show (getC n >>= fun c => _) s3 = .ok d s' from h6)
        obtain ⟨g3, rfl⟩ := getC_eq h7
        cases c1 with
        | lst xs =>
          simp only at h8
          cases q2 : ixN xs.length k with
          | none => rw [q2] at h8; cases h8
          | some m =>
            rw [q2] at h8
            obtain ⟨u, s5, h9, h10⟩ := bind_ok h8
            cases h10
            obtain ⟨rfl, hl⟩ := set_at (xs := xs) w3 h9
            obtain ⟨a, vs, rfl, hm, hH, rl⟩ := w3.lst g3 (w2.mono n3 r2)
            have hp : a ∈ μ3 := List.mem_of_getElem? hm
            refine ⟨a, vs, k, m, rfl, repI r3, hH, by rw [repL_len rl]; exact q2, v1, [], rfl, rfl, ?_⟩
            have nw := nxt_wr (o := .lst (vs.set m v0)) w3 hp
            refine q _ μ3 (wld_wr w3 hm ⟨_, upd_same, w3.monoL nw (repL_set m rl (w2.mono n3 (w1.mono n2 r0)))⟩) (((n1.trans n2).trans n3).trans nw) _ ?_
            exact ((((e.nxt w n1).nxt w1 n2).nxt w2 n3).nxt w3 nw).set (w3.mono nw (w2.mono n3 (w1.mono n2 r1'))) j
        | _ => cases h8
      | _ => cases h6
    | _ => cases i' <;> cases h6
  | .non, h2, _ => cases h2
  | .bl _, h2, _ => cases h2
  | .int _, h2, _ => cases h2
  | .str _, h2, _ => cases h2
  | .loc _, h2, _ => cases h2
  | .num _ _, h2, _ => cases h2
  | .tup [], h2, _ => cases h2
  | .tup [_], h2, _ => cases h2
  | .tup (_ :: _ :: _ :: _), h2, _ => cases h2
theorem rs_app (c : Ctx G F gv Γ X) {nm : Str} {pn apos cpos p : Pos} {x : Expr} {o a : E} (ho : PE X (.Name nm pn) (RE G (ev F gv o))) (hs : isStar x = false) (ha : PE X x (RE G (ev F gv a))) (hl : (apos.endLine == cpos.line) = true) :
    PS X (.Expr (.Call (.Attribute (.Name nm pn) "append" apos) [x] [] cpos) p) (RS G (ex F gv (.app o a))) := by
  have hf : ((backTo cpos (starEach [x] X.env)).all (fun x => !x.1) && (backToKw cpos (keywordEach [] X.env)).all (fun x => x.1.isSome) && decide (([x] : List Expr).length + ([] : List Keyword).length + (if ([] : List Keyword).isEmpty then 0 else 1) < 30)) = true := by
    rw [star_each hs]; rfl
  refine ps_imp (ps_expr (pe_bm PySem.F.plainAttrs_list PySem.F.slot_list_append PySem.F.type_list_append mt_append ho (ra_one hs ha) rfl hf hl (star_each hs) rfl)) fun D σ H ⟨env, sto, μ, w, e, d, s', h, q⟩ => ?_
  replace h : (ev F gv o env >>= fun x => match x with
    | .loc n => (getC n >>= fun c0 => match c0 with
      | .lst _ => (ev F gv a env >>= fun d => getC n >>= fun c => match c with
        | .lst xs => if small xs.length = true then (setC n (.lst (xs ++ [d])) >>= fun _ => pure (.nx env)) else fail
        | _ => fail)
      | _ => fail)
    | _ => fail) sto = .ok d s' := by unfold ex at h; exact h
  obtain ⟨y, s1, h1, h2⟩ := bind_ok h
  refine ⟨env, sto, μ, w, e, y, s1, h1, fun v H1 μ1 w1 n1 r1 => ?_⟩
  cases y with
  | loc n =>
    obtain ⟨c0, s0, h2a, h2b⟩ := bind_ok (show (getC n >>= fun d => _) s1 = .ok d s' from h2)
    obtain ⟨g0, rfl⟩ := getC_eq h2a
    cases c0 with
    | lst ys =>
      obtain ⟨z, s2, h3, h4⟩ := bind_ok (show (ev F gv a env >>= fun d => _) s0 = .ok d s' from h2b)
      obtain ⟨c1, s3, h5, h6⟩ := bind_ok h4
      obtain ⟨g3, rfl⟩ := getC_eq h5
      cases c1 with
      | lst xs =>
        simp only at h6
        by_cases hz : small xs.length = true
        · rw [if_pos hz] at h6
          obtain ⟨u, s5, h9, h10⟩ := bind_ok h6
          cases h10
          obtain ⟨b0, vs0, rfl, _, hH0, _⟩ := w1.lst g0 r1
          refine ⟨.inl ⟨rfl, _, .inl (.inl hH0)⟩, ?_⟩
          refine ⟨env, s0, μ1, w1, e.nxt w n1, [z], _, evs_one h3, fun vs H2 μ2 w2 n2 r2 => ?_⟩
          obtain ⟨u2, rfl, ru⟩ := one_of r2
          obtain ⟨rfl, hl⟩ := set_at (xs := xs) w2 h9
          obtain ⟨b, vs, hb, hm, hH, rl⟩ := w2.lst g3 (w1.mono n2 r1)
          cases hb
          have hp : b0 ∈ μ2 := List.mem_of_getElem? hm
          refine ⟨b0, vs, u2, rfl, rfl, hH, by rw [repL_len rl]; exact small_lt hz, ?_⟩
          have nw := nxt_wr (o := .lst (vs ++ [u2])) w2 hp
          exact q _ μ2 (wld_wr w2 hm ⟨_, upd_same, w2.monoL nw (repL_app rl (repL_cons ru repL_nil))⟩) ((n1.trans n2).trans nw) σ (((e.nxt w n1).nxt w1 n2).nxt w2 nw)
        · rw [if_neg hz] at h6; cases h6
      | _ => cases h6
    | _ => cases h2b
  | _ => cases h2
end
end Dd
end
section
set_option Elab.async false
set_option linter.all false
set_option maxRecDepth 100000
namespace Dd
open PySem PySem.Spec PyProof.Rows L2
section
variable {G : Cst} {F : Nat → List Dv → M Dv} {gv : Str → Option Dv} {Γ : SC} {X : Cx}
/-! ### loops -/
theorem for_zero {src : Src} {turn : Dv → DEnv → M Fl} {i : Nat} {env : DEnv} {sto sF : Sto} {fl : Fl} (h : forRun src turn 0 i env sto = .ok fl sF) : nxt src i sto = some none ∧ fl = .nx env ∧ sF = sto := by
  have h : (nxtM src i >>= fun o => match o with
    | none => pure (.nx env)
    | some _ => fail) sto = .ok fl sF := h
  obtain ⟨o, s1, h1, h2⟩ := bind_ok h
  unfold nxtM at h1
  cases q : nxt src i sto with
  | none => rw [q] at h1; cases h1
  | some o' =>
    rw [q] at h1; cases h1
    cases o with
    | none => cases h2; exact ⟨rfl, rfl, rfl⟩
    | some _ => cases h2
theorem for_succ {src : Src} {turn : Dv → DEnv → M Fl} {k i : Nat} {env : DEnv} {sto sF : Sto} {fl : Fl} (h : forRun src turn (k + 1) i env sto = .ok fl sF) :
    (nxt src i sto = some none ∧ fl = .nx env ∧ sF = sto) ∨ ∃ d f1 s1, nxt src i sto = some (some d) ∧ turn d env sto = .ok f1 s1 ∧
      ((∃ e, (f1 = .nx e ∨ f1 = .ct e) ∧ forRun src turn k (i + 1) e s1 = .ok fl sF) ∨ (∃ e, f1 = .bk e ∧ fl = .nx e ∧ sF = s1) ∨ ∃ v, f1 = .rt v ∧ fl = .rt v ∧ sF = s1) := by
  have h : (nxtM src i >>= fun o => match o with
    | none => pure (.nx env)
    | some d => turn d env >>= fun r => match r with
      | .nx e => forRun src turn k (i + 1) e
      | .ct e => forRun src turn k (i + 1) e
      | .bk e => pure (.nx e)
      | .rt v => pure (.rt v)) sto = .ok fl sF := h
  obtain ⟨o, s1, h1, h2⟩ := bind_ok h
  unfold nxtM at h1
  cases q : nxt src i sto with
  | none => rw [q] at h1; cases h1
  | some o' =>
    rw [q] at h1; cases h1
    cases o with
    | none => cases h2; exact .inl ⟨rfl, rfl, rfl⟩
    | some d =>
      obtain ⟨r, s2, h3, h4⟩ := bind_ok (show (turn d env >>= fun r => _) sto = .ok fl sF from h2)
      refine .inr ⟨d, r, s2, rfl, h3, ?_⟩
      cases r with
      | nx e => exact .inl ⟨e, .inl rfl, h4⟩
      | ct e => exact .inl ⟨e, .inr rfl, h4⟩
      | bk e => cases h4; exact .inr (.inl ⟨e, rfl, rfl, rfl⟩)
      | rt v => cases h4; exact .inr (.inr ⟨v, rfl, rfl, rfl⟩)
theorem rs_for (c : Ctx G F gv Γ X) {t x : Expr} {body : List Stmt} {p : Pos} {tg : Tg} {it : It} {b : Ss} (hi : PI X t x (RI G (evi F gv it))) (hg : PG X t (RG G tg)) (hb : PSs X body (RS G (exs F gv b))) (hs : isSetE x = false) : PS X (.For t x body [] p) (RS G (ex F gv (.for_ tg it b))) := by
  refine ps_imp (ps_for (by rw [c.xe]; exact PassesOwn.never) c.calm hi hg hb (set_fold hs)) fun D σ H ⟨env, sto, μ, w, e, fl, sF, h, q⟩ => ?_
  replace h : (evi F gv it env >>= fun src => turnsM src >>= fun k => forRun src (fun d env => lift (bindT tg d env) >>= fun env' => exs F gv b env') k 0 env) sto = .ok fl sF := by unfold ex at h; exact h
  obtain ⟨src, s1, h1, h2⟩ := bind_ok h
  obtain ⟨k, s2, h3, h4⟩ := bind_ok h2
  cases h3
  refine ⟨env, sto, μ, w, e, src, s1, h1, fun J H1 μ1 w1 n1 itr => ?_⟩
  refine ⟨fun i m σ H => ∃ env sto μ2, Wld G μ2 H sto ∧ Nxt μ1 H1 μ2 H ∧ EnvR G μ2 H env σ ∧ forRun src (fun d env => lift (bindT tg d env) >>= fun env' => exs F gv b env') m i env sto = .ok fl sF, ⟨_, env, s1, μ1, w1, .refl, e.nxt w n1, h4⟩, ?_⟩
  rintro i m σ2 H2 ⟨env2, sto2, μ2, w2, n2, e2, run⟩
  have ends : nxt src i sto2 = some none → fl = .nx env2 → sF = sto2 → (J.stop i H2 ∧ D.nx σ2 H2) := fun a1 a2 a3 => by
    subst a2; subst a3
    exact ⟨(itr μ2 H2 _ i w2 (n2.ext w1.tf)).1 a1, q H2 μ2 w2 (n1.trans n2) σ2 e2⟩
  cases m with
  | zero =>
    obtain ⟨a1, a2, a3⟩ := for_zero run
    exact .inl (ends a1 a2 a3)
  | succ m =>
    rcases for_succ run with ⟨a1, a2, a3⟩ | ⟨d, f1, s3, hn, ht, hcase⟩
    · exact .inl (ends a1 a2 a3)
    · obtain ⟨go, yl⟩ := (itr μ2 H2 sto2 i w2 (n2.ext w1.tf)).2 d hn
      refine .inr ⟨go, fun σ H => ∃ env sto μ2, Wld G μ2 H sto ∧ Nxt μ1 H1 μ2 H ∧ EnvR G μ2 H env σ ∧ forRun src (fun d env => lift (bindT tg d env) >>= fun env' => exs F gv b env') m (i + 1) env sto = .ok fl sF, fun σ' H' q => ⟨m, by omega, q⟩, fun y H' hy => ?_⟩
      obtain ⟨w3, n3, r3⟩ := yl y H' hy
      obtain ⟨env', s4, g1, g2⟩ := bind_ok ht
      cases qb : bindT tg d env2 with
      | none => rw [qb] at g1; cases g1
      | some env'' =>
        rw [qb] at g1; cases g1
        refine ⟨d, env2, env', μ2, _, w3, e2.nxt w2 n3, r3, qb, fun σ' eσ _ => ?_⟩
        refine ⟨env', _, μ2, w3, eσ, f1, s3, g2, fun H5 μ5 w5 n5 => ?_⟩
        have n6 := (n2.trans n3).trans n5
        rcases hcase with ⟨e', hf, run⟩ | ⟨e', hf, hfl, hs⟩ | ⟨v, hf, hfl, hs⟩
        · rcases hf with hf | hf <;> (subst hf; exact fun σ5 he5 => ⟨e', s3, μ5, w5, n6, he5, run⟩)
        · subst hf; subst hfl; subst hs
          exact fun σ5 he5 => q H5 μ5 w5 (n1.trans n6) σ5 he5
        · subst hf; subst hfl; subst hs
          exact fun u hu => q H5 μ5 w5 (n1.trans n6) u hu
theorem repL_snoc {μ : List Addr} {H : Hp} : ∀ {ds : List Dv} {z : Dv} {vs : List V}, RepL G μ H (ds ++ [z]) vs → ∃ ws w, vs = ws ++ [w] ∧ RepL G μ H ds ws ∧ Rep G μ H z w
  | [], z, vs, h => by
    unfold RepL at h
    obtain ⟨v, t, rfl, r, h2⟩ := h
    unfold RepL at h2
    subst h2
    exact ⟨[], v, rfl, repL_nil, r⟩
  | d :: ds, z, vs, h => by
    have h : RepL G μ H (d :: (ds ++ [z])) vs := h
    unfold RepL at h
    obtain ⟨v, t, rfl, r, h2⟩ := h
    obtain ⟨ws, w, rfl, a, b⟩ := repL_snoc h2
    exact ⟨v :: ws, w, rfl, repL_cons r a, b⟩
theorem rs_starG {t e : Expr} {i j : Nat} {p : Pos} {a : E} (ht : PG X t (gStar X.K i j)) (ha : PE X e (RE G (ev F gv a))) (hc : isCompE e = false) (hw : swappedStores [t] e X.env = pure none) (h1 : (assignEach [t] X.env).map (·.2) = [assign t X.env]) : PS X (.Assign [t] e p) (RS G (ex F gv (.starA i j a))) := by
  refine ps_imp (ps_asg ha ht (swaps_no hc) hw h1) fun D σ H ⟨env, sto, μ, w, e, d, s', h, q⟩ => ?_
  replace h : (ev F gv a env >>= fun d => match d with
    | .tup ds => (match ds.getLast? with
      | some z => newL ds.dropLast >>= fun l => pure (.nx ((env.set i (some l)).set j (some z)))
      | none => fail)
    | _ => fail) sto = .ok d s' := by unfold ex at h; exact h
  obtain ⟨y, s1, h1, h2⟩ := bind_ok h
  cases y with
  | tup ds =>
    cases hz : ds.getLast? with
    | none => simp only [hz] at h2; cases h2
    | some z =>
      simp only [hz] at h2
      have e1 : ds = ds.dropLast ++ [z] := by
        have ne : ds ≠ [] := fun e => by subst e; cases hz
        have := List.dropLast_concat_getLast ne
        rw [List.getLast?_eq_some_getLast ne] at hz
        cases hz
        exact this.symm
      obtain ⟨l, s2, h3, h4⟩ := bind_ok h2
      cases h4
      unfold newL at h3
      split at h3
      · cases h3
        refine ⟨env, sto, μ, w, e, _, _, h1, fun v H1 μ1 w1 n1 r1 => ?_⟩
        obtain ⟨b, vs, rfl, ha, rl⟩ := rep_ref r1
        rw [e1] at rl
        obtain ⟨ws, u, rfl, ra, rb⟩ := repL_snoc rl
        refine ⟨b, ws, u, rfl, .inl (.inl ha), fun p hp => ?_⟩
        have n2 := nxt_new (o := .lst ws) w1 hp
        have w2 := wld_new (o := .lst ws) (c := .lst ds.dropLast) w1 hp ⟨_, upd_same, w1.monoL n2 ra⟩
        have er := (e.nxt w n1).nxt w1 n2
        refine q _ _ w2 (n1.trans n2) _ ((er.set (show Rep G _ _ (.loc s1.length) (.ref p) from ?_) i).set (w1.mono n2 rb) j)
        rw [rep_loc]
        exact ⟨p, by rw [← w1.len]; simp, rfl⟩
      · cases h3
  | _ => cases h2
theorem rs_star (c : Ctx G F gv Γ X) {x y : Str} {i j k : Nat} {px ps py p1 p : Pos} {e : Expr} {a : E} (h1 : Γ.at i x = true) (h2 : Γ.sto x = true) (h3 : Γ.at j y = true) (h4 : Γ.sto y = true) (ha : PE X e (RE G (ev F gv a))) (hc : isCompE e = false) (hw : swappedStores [.Tuple [.Starred (.Name x px) ps, .Name y py] k p1] e X.env = pure none) :
    PS X (.Assign [.Tuple [.Starred (.Name x px) ps, .Name y py] k p1] e p) (RS G (ex F gv (.starA i j a))) := by
  obtain ⟨a1, _, _⟩ := c.at h1
  obtain ⟨l1, f1⟩ := c.loc h2
  obtain ⟨a2, _, _⟩ := c.at h3
  obtain ⟨l2, f2⟩ := c.loc h4
  exact rs_starG (pg_star c.calm (pg_name c.nds a1 l1 f1) (pg_name c.nds a2 l2 f2)) ha hc hw rfl
theorem bindL_eq {is : List Nat} {d : Dv} {env env' : DEnv} {s s' : Sto} (h : bindL is d env s = .ok env' s') : ∃ n ds, d = .loc n ∧ s[n]? = some (.lst ds) ∧ setMany is ds env = some env' ∧ s' = s := by
  cases d with
  | loc n =>
    obtain ⟨c, s1, h1, h2⟩ := bind_ok (show (getC n >>= fun c => match c with
      | .lst ds => lift (setMany is ds env)
      | _ => fail) s = .ok env' s' from h)
    have e := getC_eq h1
    obtain ⟨e1, e2⟩ := e
    subst e2
    cases c with
    | lst ds =>
      cases q : setMany is ds env with
      | none => simp only [q] at h2; cases h2
      | some x => simp only [q] at h2; cases h2; exact ⟨n, ds, rfl, e1, q, rfl⟩
    | _ => cases h2
  | _ => cases h
def RGL (G : Cst) (is : List Nat) : TG := fun v σ H Q => ∃ n ds env env' μ sto, Wld G μ H sto ∧ EnvR G μ H env σ ∧ Rep G μ H (.loc n) v ∧ sto[n]? = some (.lst ds) ∧ setMany is ds env = some env' ∧ ∀ σ', EnvR G μ H env' σ' → (∀ vs, tgIn (.tp is) vs → wipe σ' vs = wipe σ vs) → Q σ' H
theorem setMany_len : ∀ {is : List Nat} {ds : List Dv} {env env' : DEnv}, setMany is ds env = some env' → ds.length = is.length
  | [], [], _, _, _ => rfl
  | [], _ :: _, _, _, h => nomatch h
  | _ :: _, [], _, _, h => nomatch h
  | i :: is, d :: ds, env, env', h => congrArg (· + 1) (setMany_len (is := is) (ds := ds) h)
theorem rg_lst (c : Ctx G F gv Γ X) {is : List Nat} {es : List Expr} {k : Nat} {p : Pos} (h : namesT Γ is es = true) : PG X (.Tuple es k p) (RGL G is) := by
  obtain ⟨r1, r2, r3⟩ := rgs_ok c h
  refine pg_imp (pg_unl c.calm r1 r2 r3) fun v σ H Q ⟨n, ds, env, env', μ, sto, w, e, r, hs, hb, q⟩ => ?_
  obtain ⟨a, vs, rfl, _, sq, rl⟩ := w.lst hs r
  exact ⟨a, vs, rfl, .inl (.inl sq), (repL_len rl).trans (setMany_len hb), ds, env, env', μ, sto, w, e, rl, hb, q⟩
theorem rs_asgU {t e : Expr} {is : List Nat} {p : Pos} {a : E} (ht : PG X t (RGL G is)) (ha : PE X e (RE G (ev F gv a))) (hc : isCompE e = false) (hw : swappedStores [t] e X.env = pure none) (h1 : (assignEach [t] X.env).map (·.2) = [assign t X.env]) : PS X (.Assign [t] e p) (RS G (ex F gv (.asgU is a))) := by
  refine ps_imp (ps_asg ha ht (swaps_no hc) hw h1) fun D σ H ⟨env, sto, μ, w, e, d, s', h, q⟩ => ?_
  replace h : (ev F gv a env >>= fun d => bindL is d env >>= fun env' => pure (.nx env')) sto = .ok d s' := by unfold ex at h; exact h
  obtain ⟨y, s1, h1, h2⟩ := bind_ok h
  obtain ⟨env', s2, h3, h4⟩ := bind_ok h2
  obtain ⟨n, ds, rfl, hs, hm, rfl⟩ := bindL_eq h3
  cases h4
  exact ⟨env, sto, μ, w, e, _, _, h1, fun v H1 μ1 w1 n1 r1 => ⟨n, ds, env, env', μ1, _, w1, e.nxt w n1, r1, hs, hm, fun σ' he _ => q H1 μ1 w1 n1 σ' he⟩⟩
theorem rs_forU (c : Ctx G F gv Γ X) {t x : Expr} {body : List Stmt} {p : Pos} {is : List Nat} {it : It} {b : Ss} (hi : PI X t x (RI G (evi F gv it))) (hg : PG X t (RGL G is)) (hb : PSs X body (RS G (exs F gv b))) (hs : isSetE x = false) : PS X (.For t x body [] p) (RS G (ex F gv (.forU is it b))) := by
  refine ps_imp (ps_for (by rw [c.xe]; exact PassesOwn.never) c.calm hi hg hb (set_fold hs)) fun D σ H ⟨env, sto, μ, w, e, fl, sF, h, q⟩ => ?_
  replace h : (evi F gv it env >>= fun src => turnsM src >>= fun k => forRun src (fun d env => bindL is d env >>= fun env' => exs F gv b env') k 0 env) sto = .ok fl sF := by unfold ex at h; exact h
  obtain ⟨src, s1, h1, h2⟩ := bind_ok h
  obtain ⟨k, s2, h3, h4⟩ := bind_ok h2
  cases h3
  refine ⟨env, sto, μ, w, e, src, s1, h1, fun J H1 μ1 w1 n1 itr => ?_⟩
  refine ⟨fun i m σ H => ∃ env sto μ2, Wld G μ2 H sto ∧ Nxt μ1 H1 μ2 H ∧ EnvR G μ2 H env σ ∧ forRun src (fun d env => bindL is d env >>= fun env' => exs F gv b env') m i env sto = .ok fl sF, ⟨_, env, s1, μ1, w1, .refl, e.nxt w n1, h4⟩, ?_⟩
  rintro i m σ2 H2 ⟨env2, sto2, μ2, w2, n2, e2, run⟩
  have ends : nxt src i sto2 = some none → fl = .nx env2 → sF = sto2 → (J.stop i H2 ∧ D.nx σ2 H2) := fun a1 a2 a3 => by
    subst a2; subst a3
    exact ⟨(itr μ2 H2 _ i w2 (n2.ext w1.tf)).1 a1, q H2 μ2 w2 (n1.trans n2) σ2 e2⟩
  cases m with
  | zero =>
    obtain ⟨a1, a2, a3⟩ := for_zero run
    exact .inl (ends a1 a2 a3)
  | succ m =>
    rcases for_succ run with ⟨a1, a2, a3⟩ | ⟨d, f1, s3, hn, ht, hcase⟩
    · exact .inl (ends a1 a2 a3)
    · obtain ⟨go, yl⟩ := (itr μ2 H2 sto2 i w2 (n2.ext w1.tf)).2 d hn
      refine .inr ⟨go, fun σ H => ∃ env sto μ2, Wld G μ2 H sto ∧ Nxt μ1 H1 μ2 H ∧ EnvR G μ2 H env σ ∧ forRun src (fun d env => bindL is d env >>= fun env' => exs F gv b env') m (i + 1) env sto = .ok fl sF, fun σ' H' q => ⟨m, by omega, q⟩, fun y H' hy => ?_⟩
      obtain ⟨w3, n3, r3⟩ := yl y H' hy
      obtain ⟨env', s4, g1, g2⟩ := bind_ok ht
      obtain ⟨n, ds, hd, hs, hb, he⟩ := bindL_eq g1
      subst he hd
      · refine ⟨n, ds, env2, env', μ2, _, w3, e2.nxt w2 n3, r3, hs, hb, fun σ' eσ _ => ?_⟩
        refine ⟨env', _, μ2, w3, eσ, f1, s3, g2, fun H5 μ5 w5 n5 => ?_⟩
        have n6 := (n2.trans n3).trans n5
        rcases hcase with ⟨e', hf, run⟩ | ⟨e', hf, hfl, hs⟩ | ⟨v, hf, hfl, hs⟩
        · rcases hf with hf | hf <;> (subst hf; exact fun σ5 he5 => ⟨e', s3, μ5, w5, n6, he5, run⟩)
        · subst hf; subst hfl; subst hs
          exact fun σ5 he5 => q H5 μ5 w5 (n1.trans n6) σ5 he5
        · subst hf; subst hfl; subst hs
          exact fun u hu => q H5 μ5 w5 (n1.trans n6) u hu
theorem while_succ {cd : DEnv → M Bool} {b : DEnv → M Fl} {k : Nat} {env : DEnv} {sto sF : Sto} {fl : Fl} (h : whileRun cd b (k + 1) env sto = .ok fl sF) :
    ∃ t s1, cd env sto = .ok t s1 ∧ ((t = false ∧ fl = .nx env ∧ sF = s1) ∨ (t = true ∧ ∃ f1 s2, b env s1 = .ok f1 s2 ∧
      ((∃ e, (f1 = .nx e ∨ f1 = .ct e) ∧ whileRun cd b k e s2 = .ok fl sF) ∨ (∃ e, f1 = .bk e ∧ fl = .nx e ∧ sF = s2) ∨ ∃ v, f1 = .rt v ∧ fl = .rt v ∧ sF = s2))) := by
  have h : (cd env >>= fun t => if t = true then (b env >>= fun r => match r with
      | .nx e => whileRun cd b k e
      | .ct e => whileRun cd b k e
      | .bk e => pure (.nx e)
      | .rt v => pure (.rt v)) else pure (.nx env)) sto = .ok fl sF := h
  obtain ⟨t, s1, h1, h2⟩ := bind_ok h
  refine ⟨t, s1, h1, ?_⟩
  cases t with
  | false => cases h2; exact .inl ⟨rfl, rfl, rfl⟩
  | true =>
    obtain ⟨r, s2, h3, h4⟩ := bind_ok (show (b env >>= fun r => _) s1 = .ok fl sF from h2)
    refine .inr ⟨rfl, r, s2, h3, ?_⟩
    cases r with
    | nx e => exact .inl ⟨e, .inl rfl, h4⟩
    | ct e => exact .inl ⟨e, .inr rfl, h4⟩
    | bk e => cases h4; exact .inr (.inl ⟨e, rfl, rfl, rfl⟩)
    | rt v => cases h4; exact .inr (.inr ⟨v, rfl, rfl, rfl⟩)
theorem rs_while (c : Ctx G F gv Γ X) {x : Expr} {body : List Stmt} {p : Pos} {t : E} {b : Ss} (ht : PT X x (RT G (tst F gv t))) (hb : PSs X body (RS G (exs F gv b))) : PS X (.While x body [] p) (RS G (ex F gv (.whl t b))) := by
  refine ps_imp (ps_while (by rw [c.xe]; exact PassesOwn.never) ht hb) fun D σ H ⟨env, sto, μ, w, e, fl, sF, h, q⟩ => ?_
  replace h : whileRun (tst F gv t) (exs F gv b) whileFuel env sto = .ok fl sF := by unfold ex at h; exact h
  refine ⟨fun m σ H2 => ∃ env sto μ2, Wld G μ2 H2 sto ∧ Nxt μ H μ2 H2 ∧ EnvR G μ2 H2 env σ ∧ whileRun (tst F gv t) (exs F gv b) m env sto = .ok fl sF, ⟨_, env, sto, μ, w, .refl, e, h⟩, ?_⟩
  rintro m σ2 H2 ⟨env2, sto2, μ2, w2, n2, e2, run⟩
  cases m with
  | zero => cases run
  | succ m =>
    obtain ⟨d, s1, h1, hcase⟩ := while_succ run
    refine ⟨env2, sto2, μ2, w2, e2, d, s1, h1, fun b' H3 μ3 w3 n3 r3 => ?_⟩
    cases r3
    rcases hcase with ⟨rfl, hfl, hs⟩ | ⟨rfl, f1, s2, g2, hcase⟩
    · subst hfl; subst hs
      exact iteF (q H3 μ3 w3 (n2.trans n3) σ2 (e2.nxt w2 n3))
    · refine iteT ⟨fun σ H2 => ∃ env sto μ2, Wld G μ2 H2 sto ∧ Nxt μ H μ2 H2 ∧ EnvR G μ2 H2 env σ ∧ whileRun (tst F gv t) (exs F gv b) m env sto = .ok fl sF, fun σ' H' q => ⟨m, by omega, q⟩, ?_⟩
      refine ⟨env2, s1, μ3, w3, e2.nxt w2 n3, f1, s2, g2, fun H5 μ5 w5 n5 => ?_⟩
      have n6 := (n2.trans n3).trans n5
      rcases hcase with ⟨e', hf, run⟩ | ⟨e', hf, hfl, hs⟩ | ⟨v, hf, hfl, hs⟩
      · rcases hf with hf | hf <;> (subst hf; exact fun σ5 he5 => ⟨e', s2, μ5, w5, n6, he5, run⟩)
      · subst hf; subst hfl; subst hs
        exact fun σ5 he5 => q H5 μ5 w5 n6 σ5 he5
      · subst hf; subst hfl; subst hs
        exact fun u hu => q H5 μ5 w5 n6 u hu

/-! ### how two and three names at once are stored -/
theorem blockKind_fn (c : Ctx G F gv Γ X) : X.env.blockKind = .function := by
  unfold Env.blockKind
  rw [c.kind]; rfl
theorem kindOf_eq (c : Ctx G F gv Γ X) (x : Str) : X.env.kindOf x = Γ.names.lookup x := by
  unfold Env.kindOf
  rw [c.names]
theorem sw_two (c : Ctx G F gv Γ X) {x y : Str} {a b : Expr} {px py pt p2 : Pos} {kt k2} (hx : Γ.names.lookup x = some .local) (hy : Γ.names.lookup y = some .local) (hl : (py.line == px.line) = true) (hxy : x ≠ y) (sa : isStar a = false) (sb : isStar b = false)
    (hf : [a, b].all (foldedForSure 8) = false) (hc : [a, b].all (constantsAlone 8) = false) : swappedStores [.Tuple [.Name x px, .Name y py] kt pt] (.Tuple [a, b] k2 p2) X.env = pure (some [x, y]) := by
  have hst : ([a, b].any fun | .Starred .. => true | _ => false) = false := by
    cases a <;> cases b <;> simp_all [isStar]
  unfold swappedStores
  simp only [blockKind_fn c, kindOf_eq c, List.length_cons, List.length_nil, List.head?_cons, Option.map_some, Option.getD_some, Expr.pos, List.filterMap_cons, List.filterMap_nil, hx, hy]
  simp only [hst, hf, hc]
  have e1 : (px.line == px.line) = true := by simp
  have e3 : ([x, y].eraseDups) = [x, y] := by
    rw [List.eraseDups_cons]
    have : (y == x) = false := by simpa using Ne.symm hxy
    simp [this, List.eraseDups_cons]
  simp [hl, e3]
  have h1 : ∀ e : Expr, isStar e = false → (match e with | .Starred .. => true | _ => false) = true → False := fun e h => by cases e <;> simp_all [isStar]
  intro h
  exact (h.elim (h1 a sa) (h1 b sb)).elim
theorem sw_three (c : Ctx G F gv Γ X) {x y z : Str} {a b d : Expr} {px py pz pt p2 : Pos} {kt k2} (hx : Γ.names.lookup x = some .local) (hy : Γ.names.lookup y = some .local) (hz : Γ.names.lookup z = some .local) (hl : (py.line == px.line) = true) (hl2 : (pz.line == px.line) = true) (hxy : x ≠ y) (hxz : x ≠ z) (hyz : y ≠ z) (sa : isStar a = false) (sb : isStar b = false) (sd : isStar d = false)
    (hf : [a, b, d].all (foldedForSure 8) = false) (hc : [a, b, d].all (constantsAlone 8) = false) : swappedStores [.Tuple [.Name x px, .Name y py, .Name z pz] kt pt] (.Tuple [a, b, d] k2 p2) X.env = pure (some [x, y, z]) := by
  have hst : ([a, b, d].any fun | .Starred .. => true | _ => false) = false := by
    have h1 : ∀ e : Expr, isStar e = false → (match e with | .Starred .. => true | _ => false) = false := fun e h => by cases e <;> simp_all [isStar]
    simp only [List.any_cons, List.any_nil, Bool.or_false, Bool.or_eq_false_iff]
    exact ⟨h1 a sa, h1 b sb, h1 d sd⟩
  unfold swappedStores
  simp only [blockKind_fn c, kindOf_eq c, List.length_cons, List.length_nil, List.head?_cons, Option.map_some, Option.getD_some, Expr.pos, List.filterMap_cons, List.filterMap_nil, hx, hy, hz]
  simp only [hst, hf, hc]
  have e3 : ([x, y, z].eraseDups) = [x, y, z] := by
    rw [List.eraseDups_cons]
    have h1 : (y == x) = false := by simpa using Ne.symm hxy
    have h2 : (z == x) = false := by simpa using Ne.symm hxz
    have h3 : (z == y) = false := by simpa using Ne.symm hyz
    simp [h1, h2, h3, List.eraseDups_cons]
  simp [hl, hl2, e3]
  have h1 : ∀ e : Expr, isStar e = false → (match e with | .Starred .. => true | _ => false) = true → False := fun e h => by cases e <;> simp_all [isStar]
  intro h
  exact (h.elim (h1 a sa) fun h => h.elim (h1 b sb) (h1 d sd)).elim
theorem sw_fold {t : Expr} {vs : List Expr} {k : Nat} {p : Pos} {env : Env} (h : vs.all (foldedForSure 8) = true) : swappedStores [t] (.Tuple vs k p) env = pure none := by
  unfold swappedStores
  cases t with
  | Tuple ts k p =>
    simp only [h]
    split
    · rfl
    · split
      · rfl
      · split
        · rfl
        · rfl
  | List ts p =>
    simp only [h]
    split
    · rfl
    · split
      · rfl
      · split
        · rfl
        · rfl
  | _ => rfl
end
end Dd
end
section
set_option Elab.async false
set_option linter.all false
set_option maxRecDepth 100000
namespace Dd
open PySem PySem.Spec PyProof.Rows L2
def swOk (t x : Expr) : Bool := !isTL t || (match vTuple x with | none => true | some (vs, _, _) => vs.all (foldedForSure 8))
theorem swOk_ok {t x : Expr} {env : Env} (h : swOk t x = true) : swappedStores [t] x env = pure none := by
  unfold swOk at h
  cases q : vTuple x with
  | none => exact sw_plain (.inr (by rw [q]; rfl))
  | some r =>
    obtain ⟨vs, k, p⟩ := r
    rw [q] at h
    simp only [Bool.or_eq_true, Bool.not_eq_true'] at h
    rcases h with h | h
    · exact sw_plain (.inl h)
    · rw [vTuple_eq q]; exact sw_fold h
def isLoc (Γ : SC) (x : Str) : Bool := match Γ.names.lookup x with | some .local => true | _ => false
theorem isLoc_eq {Γ : SC} {x : Str} (h : isLoc Γ x = true) : Γ.names.lookup x = some .local := by
  unfold isLoc at h
  split at h
  · assumption
  · cases h
def isCel (Γ : SC) (x : Str) : Bool := match Γ.names.lookup x with | some .cell => true | _ => false
theorem isCel_eq {Γ : SC} {x : Str} (h : isCel Γ x = true) : Γ.names.lookup x = some .cell := by
  unfold isCel at h
  split at h
  · assumption
  · cases h
/-- four or more targets, or one of them no local: stored as they are -/
def swMore (Γ : SC) (t : Expr) : Bool := match vTuple t with
  | some (ts, _, _) => (!(ts.length == 2 || ts.length == 3)) || ts.any fun e => match vName e with
    | some (x, _) => isCel Γ x
    | none => false
  | none => false
theorem sw_four {ts : List Expr} {k : Nat} {p : Pos} {x : Expr} {env : Env} (h : (!(ts.length == 2 || ts.length == 3)) = true) : swappedStores [.Tuple ts k p] x env = pure none := by
  unfold swappedStores
  cases x <;> first | rfl | (dsimp only; rw [if_pos (by rw [h]; rfl)])
theorem filterMap_lt {f : Expr → Option Str} : ∀ {ts : List Expr} {e : Expr}, e ∈ ts → f e = none → (ts.filterMap f).length < ts.length
  | t :: ts, e, h, z => by
    rcases List.mem_cons.mp h with rfl | h
    · rw [List.filterMap_cons_none z, List.length_cons]
      exact Nat.lt_succ_of_le (List.length_filterMap_le _ _)
    · have := filterMap_lt h z
      cases q : f t with
      | none => rw [List.filterMap_cons_none q, List.length_cons]; omega
      | some y => rw [List.filterMap_cons_some q, List.length_cons, List.length_cons]; omega
theorem sw_celT {ts : List Expr} {k : Nat} {p py : Pos} {x : Expr} {env : Env} {y : Str} (m : Expr.Name y py ∈ ts) (h : env.kindOf y = some .cell) : swappedStores [.Tuple ts k p] x env = pure none := by
  unfold swappedStores
  cases x <;> first | rfl | skip
  dsimp only
  split
  · rfl
  · split
    · rfl
    · rw [if_pos]
      rw [Bool.or_eq_true]
      left
      have := filterMap_lt (f := fun x => match x with
              | Expr.Name id pos =>
                if (env.kindOf id == some NameKind.local && pos.line == ((Option.map (fun x => x.pos.line) ts.head?).getD 0)) = true then some id else none
              | x => none) m (by dsimp only; rw [h]; rfl)
      rw [bne_iff_ne]
      exact Nat.ne_of_lt this
theorem swMore_ok {Γ : SC} {t x : Expr} {env : Env} (hn : env.scope.names = Γ.names) (h : swMore Γ t = true) : swappedStores [t] x env = pure none := by
  unfold swMore at h
  split at h
  · rename_i ts k p q
    rw [vTuple_eq q]
    rcases Bool.or_eq_true_iff.mp h with h | h
    · exact sw_four h
    · obtain ⟨e, m, he⟩ := List.any_eq_true.mp h
      split at he
      · rename_i y py q2
        have := vName_eq q2
        subst this
        exact sw_celT m (by show List.lookup y env.scope.names = _; rw [hn]; exact isCel_eq he)
      · cases he
  · cases h
mutual
def mS (Γ : SC) : S → Stmt → Bool
  | .asg tg e, s => (match sAsg s with
    | some (t, x, _) => (match e with
      | .comp elt tg' it cnd own => (match tg, vName t, vComp x with
        | .nm i, some (y, py), some (e', [⟨t', i', ifs, asy⟩], scope, pos) => Γ.at i y && isLoc Γ y && (py.line == pos.line) && !(scope.names.any fun (n, k) => n == y && (k == .local || k == .cell)) &&
            (decide (asy = 0) && blkD Γ scope own && tgOwn tg' own && !isSetE i' && mI Γ it t' i' && mTg (Γ.blk scope.names) tg' t' && mE (Γ.blk scope.names) elt e' && mC (Γ.blk scope.names) cnd ifs)
        | _, _, _ => false)
      | .comp2 elt tg' it cnd tg1 it1 cnd1 own own1 => (match tg, vName t, vComp x with
        | .nm i, some (y, py), some (e', [⟨t', i', ifs, asy⟩, ⟨t1, i1, ifs1, asy1⟩], scope, pos) => Γ.at i y && isLoc Γ y && (py.line == pos.line) && !(scope.names.any fun (n, k) => n == y && (k == .local || k == .cell)) &&
            (decide (asy = 0) && decide (asy1 = 0) && blkD Γ scope own && tgOwn tg' own && tgOwn tg1 own1 && own1.all own.contains && !isSetE i' && !isSetE i1 && mI Γ it t' i' && mTg (Γ.blk scope.names) tg' t' && mC (Γ.blk scope.names) cnd ifs &&
      mI (Γ.blk scope.names) it1 t1 i1 && mTg (Γ.blk scope.names) tg1 t1 && mC (Γ.blk scope.names) cnd1 ifs1 && mE (Γ.blk scope.names) elt e')
        | _, _, _ => false)
      | e => !isCompE x && mTg Γ tg t && mE Γ e x && (swOk t x || swMore Γ t))
    | none => false)
  | .sub o i v, s => (match sAsg s with
    | some (t, x, _) => (match vSub t with | some (o', i', _) => !isCompE x && (vSlice i').isNone && mE Γ o o' && mE Γ i i' && mE Γ v x | none => false)
    | none => false)
  | .asg2 o i j v, s => (match sAsg s with
    | some (t, x, _) => (match vTuple t with
      | some ([t1, t2], _, _) => (match vSub t1, vName t2 with
        | some (o', i', _), some (nm, _) => !isCompE x && !(vTuple x).isSome && (vSlice i').isNone && Γ.at j nm && Γ.sto nm && mE Γ o o' && mE Γ i i' && mE Γ v x
        | _, _ => false)
      | _ => false)
    | none => false)
  | .par i j a b, s => (match sAsg s with
    | some (t, x, _) => (match vTuple t, vTuple x with
      | some ([t1, t2], _, _), some ([x1, x2], _, _) => (match vName t1, vName t2 with
        | some (n1, p1), some (n2, p2) => decide (i ≠ j) && decide (n1 ≠ n2) && Γ.at i n1 && Γ.at j n2 && isLoc Γ n1 && isLoc Γ n2 && (p2.line == p1.line) && !isStar x1 && !isStar x2 && !([x1, x2].all (foldedForSure 8)) && !([x1, x2].all (constantsAlone 8)) && mE Γ a x1 && mE Γ b x2
        | _, _ => false)
      | _, _ => false)
    | none => false)
  | .par3 i j k a b d, s => (match sAsg s with
    | some (t, x, _) => (match vTuple t, vTuple x with
      | some ([t1, t2, t3], _, _), some ([x1, x2, x3], _, _) => (match vName t1, vName t2, vName t3 with
        | some (n1, p1), some (n2, p2), some (n3, p3) => decide (i ≠ j) && decide (i ≠ k) && decide (j ≠ k) && decide (n1 ≠ n2) && decide (n1 ≠ n3) && decide (n2 ≠ n3) && Γ.at i n1 && Γ.at j n2 && Γ.at k n3 && isLoc Γ n1 && isLoc Γ n2 && isLoc Γ n3 && (p2.line == p1.line) && (p3.line == p1.line) && !isStar x1 && !isStar x2 && !isStar x3 && !([x1, x2, x3].all (foldedForSure 8)) && !([x1, x2, x3].all (constantsAlone 8)) && mE Γ a x1 && mE Γ b x2 && mE Γ d x3
        | _, _, _ => false)
      | _, _ => false)
    | none => false)
  | .aug _ _ _, _ => false
  | .app o e, s => (match sExpr s with
    | some (x, _) => (match vCall x with
      | some (g, [y], [], cpos) => (match vAttr g with
        | some (b, at_, apos) => (match vName b with
          | some _ => decide (at_ = "append") && !isStar y && (apos.endLine == cpos.line) && mE Γ o b && mE Γ e y
          | none => false)
        | none => false)
      | _ => false)
    | none => false)
  | .ex e, s => (match sExpr s with | some (x, _) => !isCompE x && mE Γ e x | none => false)
  | .ret e, s => (match sRet s with | some (some x, _) => mE Γ e x | _ => false)
  | .retN, s => (match sRet s with | some (none, _) => true | _ => false)
  | .ite c a b, s => (match sIf s with | some (x, l, r, _) => mE Γ c x && mSs Γ a l && mSs Γ b r | none => false)
  | .whl c b, s => (match sWhile s with | some (x, l, _) => mE Γ c x && mSs Γ b l | none => false)
  | .for_ tg it b, s => (match sFor s with | some (t, x, l, _) => !isSetE x && mTg Γ tg t && mI Γ it t x && mSs Γ b l | none => false)
  | .forU is it b, s => (match sFor s with | some (t, x, l, _) => (match vTuple t with | some (es, _, _) => !isSetE x && namesT Γ is es && mI Γ it t x && mSs Γ b l | none => false) | none => false)
  | .brk, s => (sBrk s).isSome
  | .cont, s => (sCont s).isSome
  | .asgU is e, s => (match sAsg s with
    | some (t, x, _) => (match vTuple t with
      | some (es, _, _) => namesT Γ is es && !isCompE x && mE Γ e x && swOk t x
      | none => false)
    | none => false)
  | .starA i j e, s => (match sAsg s with
    | some (t, x, _) => (match vTuple t with
      | some ([u, v], _, _) => (match vStar u with
        | some (u', _) => (match vName u', vName v with
          | some (a, _), some (b, _) => Γ.at i a && Γ.sto a && Γ.at j b && Γ.sto b && !isCompE x && mE Γ e x && swOk t x
          | _, _ => false)
        | none => false)
      | _ => false)
    | none => false)
  | .pass, s => (sPass s).isSome
  | .asgC i e, s => (match sAsg s with
    | some (t, x, _) => (match vName t with | some (y, _) => Γ.at i y && Γ.sto y && isCel Γ y && (vTuple x).isNone && mE Γ e x | none => false)
    | none => false)
  | .never, _ => true
def mSs (Γ : SC) : Ss → List Stmt → Bool
  | .nil, xs => xs.isEmpty
  | .cons s r, xs => (match xs with | x :: l => mS Γ s x && mSs Γ r l | [] => false)
end
set_option maxHeartbeats 4000000
mutual
theorem simS {G : Cst} {F : Nat → List Dv → M Dv} {gv : Str → Option Dv} : ∀ (s : S) (st : Stmt) (Γ : SC) (X : Cx), mS Γ s st = true → Ctx G F gv Γ X → PS X st (RS G (ex F gv s))
  | .asg tg e, st, Γ, X, h, c => by
    simp only [mS] at h
    split at h
    · rename_i t x p q
      rw [sAsg_eq q]
      split at h
      · rename_i elt tg' it cnd own
        split at h
        · rename_i i y py e' t' i' ifs asy scope pos q1 q2
          simp only [Bool.and_eq_true, decide_eq_true_eq, Bool.not_eq_true'] at h
          obtain ⟨⟨⟨⟨g1, g2⟩, g3⟩, g4⟩, ⟨⟨⟨⟨⟨⟨⟨h0, h1⟩, h2⟩, h3⟩, h4⟩, h5⟩, h6⟩, h7⟩⟩ := h
          obtain ⟨b1, b2, b3⟩ := blk_ok c h1
          rw [vName_eq q1, vComp_eq q2]
          subst h0
          have := rs_asgLc (elt := e') (tg := t') (iter := i') (ifs := ifs) (pos := pos) (spos := p) (own := ownsOf Γ own) (a := elt) (t := tg') (it := it) (cnd := cnd) c (fun σ H Q hq => comp_reads (by rw [b1]; exact tgOwn_ok h2) hq) (c.at g1).1 (by rw [c.names]; exact isLoc_eq g2) g3 g4 (simI it t' i' Γ X h4 c) b2
            (fun s H C cl fp => rg_ok (c.blk b3 s H C cl fp) h5) (fun s H C cl fp => simC cnd ifs _ _ h7 (c.blk b3 s H C cl fp)) (fun s H C cl fp => simE elt e' _ _ h6 (c.blk b3 s H C cl fp)) h3
          rw [b1] at this
          exact this
        · cases h
      · rename_i elt tg' it cnd tg1 it1 cnd1 own own1
        split at h
        · rename_i i y py e' t' i' ifs asy t1 i1 ifs1 asy1 scope pos q1 q2
          simp only [Bool.and_eq_true, decide_eq_true_eq, Bool.not_eq_true'] at h
          obtain ⟨⟨⟨⟨g1, g2⟩, g3⟩, g4⟩, ⟨⟨⟨⟨⟨⟨⟨⟨⟨⟨⟨⟨⟨⟨a0, a1⟩, h1⟩, h2⟩, h3⟩, h4⟩, h5⟩, h6⟩, h7⟩, h8⟩, h9⟩, h10⟩, h11⟩, h12⟩, h13⟩⟩ := h
          obtain ⟨b1, b2, b3⟩ := blk_ok c h1
          rw [vName_eq q1, vComp_eq q2]
          subst a0
          subst a1
          have := rs_asgLc2 (elt := e') (tg := t') (iter := i') (ifs := ifs) (tg1 := t1) (iter1 := i1) (ifs1 := ifs1) (pos := pos) (spos := p) (own := ownsOf Γ own) (a := elt) (t := tg') (it := it) (cnd := cnd) (t1 := tg1) (it1 := it1) (cnd1 := cnd1) (vs1 := own1) c (by rw [b1]; exact tgOwn_ok h2) (tgOwn_ok h3)
            (by rw [b1]; intro v hv; exact List.contains_iff_mem.mp (List.all_eq_true.mp h4 v hv)) (c.at g1).1 (by rw [c.names]; exact isLoc_eq g2) g3 g4 (simI it t' i' Γ X h7 c) b2
            (fun s H C cl fp => rg_ok (c.blk b3 s H C cl fp) h8) (fun s H C cl fp => simC cnd ifs _ _ h9 (c.blk b3 s H C cl fp)) (fun s H C cl fp => simI it1 t1 i1 _ _ h10 (c.blk b3 s H C cl fp)) (fun s H C cl fp => rg_ok (c.blk b3 s H C cl fp) h11) (fun s H C cl fp => simC cnd1 ifs1 _ _ h12 (c.blk b3 s H C cl fp))
            (fun s H C cl fp => simE elt e' _ _ h13 (c.blk b3 s H C cl fp)) h5 h6
          rw [b1] at this
          exact this
        · cases h
      · simp only [Bool.and_eq_true, Bool.not_eq_true'] at h
        obtain ⟨⟨⟨h1, h2⟩, h3⟩, h4⟩ := h
        have ha : (assignEach [t] X.env).map (·.2) = [assign t X.env] := by
          cases tg with
          | nm i =>
            simp only [mTg] at h2
            split at h2
            · rename_i n p2 q2; rw [vName_eq q2]; rfl
            · cases h2
          | tp is =>
            simp only [mTg] at h2
            split at h2
            · rename_i n k p2 q2; rw [vTuple_eq q2]; rfl
            · cases h2
          | tq i js =>
            simp only [mTg] at h2
            split at h2
            · rename_i a b k p q
              rw [vTuple_eq q]; rfl
            · cases h2
        exact rs_asg (rg_ok c h2) (simE e x Γ X h3 c) h1 (by rcases Bool.or_eq_true_iff.mp h4 with h4 | h4; exact swOk_ok h4; exact swMore_ok (by rw [c.names]) h4) ha
    · cases h
  | .sub o i v, st, Γ, X, h, c => by
    simp only [mS] at h
    split at h
    · rename_i t x p q
      split at h
      · rename_i o' i' p2 q2
        simp only [Bool.and_eq_true, Bool.not_eq_true', Option.isNone_iff_eq_none] at h
        obtain ⟨⟨⟨⟨h1, h2⟩, h3⟩, h4⟩, h5⟩ := h
        rw [sAsg_eq q, vSub_eq q2]
        exact rs_sub (simE o _ Γ X h3 c) (simE i _ Γ X h4 c) (simE v _ Γ X h5 c) h1 h2
      · cases h
    · cases h
  | .asg2 o i j v, st, Γ, X, h, c => by
    simp only [mS] at h
    split at h
    · rename_i t x p q
      split at h
      · rename_i t1 t2 k p2 q2
        split at h
        · rename_i o' i' p3 nm p4 q3 q4
          simp only [Bool.and_eq_true, Bool.not_eq_true', Option.isNone_iff_eq_none] at h
          obtain ⟨⟨⟨⟨⟨⟨⟨h1, h2⟩, h3⟩, h4⟩, h5⟩, h6⟩, h7⟩, h8⟩ := h
          rw [sAsg_eq q, vTuple_eq q2, vSub_eq q3, vName_eq q4]
          exact rs_asg2 c h4 h5 (simE o _ Γ X h6 c) (simE i _ Γ X h7 c) (simE v _ Γ X h8 c) h1 h2 h3
        · cases h
      · cases h
    · cases h
  | .par i j a b, st, Γ, X, h, c => by
    simp only [mS] at h
    split at h
    · rename_i t x p q
      split at h
      · rename_i t1 t2 k1 p1 x1 x2 k2 p2 q1 q2
        split at h
        · rename_i n1 p3 n2 p4 q3 q4
          simp only [Bool.and_eq_true, Bool.not_eq_true', decide_eq_true_eq] at h
          obtain ⟨⟨⟨⟨⟨⟨⟨⟨⟨⟨⟨⟨h1, h2⟩, h3⟩, h4⟩, h5⟩, h6⟩, h7⟩, h8⟩, h9⟩, h10⟩, h11⟩, h12⟩, h13⟩ := h
          rw [sAsg_eq q, vTuple_eq q1, vTuple_eq q2, vName_eq q3, vName_eq q4]
          exact rs_par c (c.at h3).1 (c.at h4).1 h1 (by rw [c.names]; exact isLoc_eq h5) (by rw [c.names]; exact isLoc_eq h6) h8 h9 (simE a _ Γ X h12 c) (simE b _ Γ X h13 c) (sw_two c (isLoc_eq h5) (isLoc_eq h6) h7 h2 h8 h9 h10 h11)
        · cases h
      · cases h
    · cases h
  | .par3 i j k a b d, st, Γ, X, h, c => by
    simp only [mS] at h
    split at h
    · rename_i t x p q
      split at h
      · rename_i t1 t2 t3 k1 p1 x1 x2 x3 k2 p2 q1 q2
        split at h
        · rename_i n1 p3 n2 p4 n3 p5 q3 q4 q5
          simp only [Bool.and_eq_true, Bool.not_eq_true', decide_eq_true_eq] at h
          obtain ⟨⟨⟨⟨⟨⟨⟨⟨⟨⟨⟨⟨⟨⟨⟨⟨⟨⟨⟨⟨⟨h1, h2⟩, h3⟩, h4⟩, h5⟩, h6⟩, h7⟩, h8⟩, h9⟩, h10⟩, h11⟩, h12⟩, h13⟩, h14⟩, h15⟩, h16⟩, h17⟩, h18⟩, h19⟩, h20⟩, h21⟩, h22⟩ := h
          rw [sAsg_eq q, vTuple_eq q1, vTuple_eq q2, vName_eq q3, vName_eq q4, vName_eq q5]
          exact rs_par3 c (c.at h7).1 (c.at h8).1 (c.at h9).1 h1 h2 h3 (by rw [c.names]; exact isLoc_eq h10) (by rw [c.names]; exact isLoc_eq h11) (by rw [c.names]; exact isLoc_eq h12) h15 h16 h17 (simE a _ Γ X h20 c) (simE b _ Γ X h21 c) (simE d _ Γ X h22 c)
            (sw_three c (isLoc_eq h10) (isLoc_eq h11) (isLoc_eq h12) h13 h14 h4 h5 h6 h15 h16 h17 h18 h19)
        · cases h
      · cases h
    · cases h
  | .aug _ _ _, st, Γ, X, h, c => by simp only [mS] at h; cases h
  | .app o e, st, Γ, X, h, c => by
    simp only [mS] at h
    split at h
    · rename_i x p q
      split at h
      · rename_i g y cpos q2
        split at h
        · rename_i b at_ apos q3
          split at h
          · rename_i r q4
            obtain ⟨nm, pn⟩ := r
            simp only [Bool.and_eq_true, Bool.not_eq_true', decide_eq_true_eq] at h
            obtain ⟨⟨⟨⟨rfl, h2⟩, h3⟩, h4⟩, h5⟩ := h
            have e1 := vName_eq q4
            subst e1
            rw [sExpr_eq q, vCall_eq q2, vAttr_eq q3]
            exact rs_app c (simE o _ Γ X h4 c) h2 (simE e _ Γ X h5 c) h3
          · cases h
        · cases h
      · cases h
    · cases h
  | .ex e, st, Γ, X, h, c => by
    simp only [mS] at h
    split at h
    · rename_i x p q
      simp only [Bool.and_eq_true, Bool.not_eq_true'] at h
      rw [sExpr_eq q]
      exact rs_ex (simE e _ Γ X h.2 c) h.1
    · cases h
  | .ret e, st, Γ, X, h, c => by
    simp only [mS] at h
    split at h
    · rename_i x p q
      rw [sRet_eq q]
      exact rs_ret (simE e _ Γ X h c)
    · cases h
  | .retN, st, Γ, X, h, c => by
    simp only [mS] at h
    split at h
    · rename_i p q
      rw [sRet_eq q]
      exact rs_retN
    · cases h
  | .ite t a b, st, Γ, X, h, c => by
    simp only [mS] at h
    split at h
    · rename_i x l r p q
      simp only [Bool.and_eq_true] at h
      rw [sIf_eq q]
      exact rs_ite (simT t _ Γ X h.1.1 c) (simSs a _ Γ X h.1.2 c) (simSs b _ Γ X h.2 c)
    · cases h
  | .whl t b, st, Γ, X, h, c => by
    simp only [mS] at h
    split at h
    · rename_i x l p q
      simp only [Bool.and_eq_true] at h
      rw [sWhile_eq q]
      exact rs_while c (simT t _ Γ X h.1 c) (simSs b _ Γ X h.2 c)
    · cases h
  | .for_ tg it b, st, Γ, X, h, c => by
    simp only [mS] at h
    split at h
    · rename_i t x l p q
      simp only [Bool.and_eq_true, Bool.not_eq_true'] at h
      obtain ⟨⟨⟨h1, h2⟩, h3⟩, h4⟩ := h
      rw [sFor_eq q]
      exact rs_for c (simI it t x Γ X h3 c) (rg_ok c h2) (simSs b _ Γ X h4 c) h1
    · cases h
  | .forU is it b, st, Γ, X, h, c => by
    simp only [mS] at h
    split at h
    · rename_i t x l p q
      split at h
      · rename_i es k2 p2 q2
        simp only [Bool.and_eq_true, Bool.not_eq_true'] at h
        obtain ⟨⟨⟨h1, h2⟩, h3⟩, h4⟩ := h
        rw [sFor_eq q]
        have e := vTuple_eq q2
        have g : PG X t (RGL G is) := by rw [e]; exact rg_lst c h2
        exact rs_forU c (simI it t x Γ X h3 c) g (simSs b _ Γ X h4 c) h1
      · cases h
    · cases h
  | .asgU is e, st, Γ, X, h, c => by
    simp only [mS] at h
    split at h
    · rename_i t x p q
      split at h
      · rename_i es k2 p2 q2
        simp only [Bool.and_eq_true, Bool.not_eq_true'] at h
        obtain ⟨⟨⟨h1, h2⟩, h3⟩, h4⟩ := h
        rw [sAsg_eq q]
        have e1 := vTuple_eq q2
        subst e1
        exact rs_asgU (rg_lst c h1) (simE e x Γ X h3 c) h2 (swOk_ok h4) rfl
      · cases h
    · cases h
  | .starA i j e, st, Γ, X, h, c => by
    simp only [mS] at h
    split at h
    · rename_i t x p q
      split at h
      · rename_i u v k2 p2 q2
        split at h
        · rename_i u' pu q3
          split at h
          · rename_i a pa b pb q4 q5
            simp only [Bool.and_eq_true, Bool.not_eq_true'] at h
            obtain ⟨⟨⟨⟨⟨⟨h1, h2⟩, h3⟩, h4⟩, h5⟩, h6⟩, h7⟩ := h
            rw [sAsg_eq q]
            have e1 := vTuple_eq q2
            have e2 := vStar_eq q3
            have e3 := vName_eq q4
            have e4 := vName_eq q5
            subst e1 e2 e3 e4
            exact rs_star c h1 h2 h3 h4 (simE e x Γ X h6 c) h5 (swOk_ok h7)
          · cases h
        · cases h
      · cases h
    · cases h
  | .brk, st, Γ, X, h, c => by
    simp only [mS] at h
    obtain ⟨p, q⟩ := Option.isSome_iff_exists.mp h
    rw [sBrk_eq q]
    exact rs_brk
  | .cont, st, Γ, X, h, c => by
    simp only [mS] at h
    obtain ⟨p, q⟩ := Option.isSome_iff_exists.mp h
    rw [sCont_eq q]
    exact rs_cont
  | .pass, st, Γ, X, h, c => by
    simp only [mS] at h
    obtain ⟨p, q⟩ := Option.isSome_iff_exists.mp h
    rw [sPass_eq q]
    exact rs_pass
  | .asgC i e, st, Γ, X, h, c => by
    simp only [mS] at h
    split at h
    · rename_i t x p q
      split at h
      · rename_i y py q1
        simp only [Bool.and_eq_true, Option.isNone_iff_eq_none] at h
        obtain ⟨⟨⟨⟨h1, h2⟩, h3⟩, h4⟩, h5⟩ := h
        rw [sAsg_eq q, vName_eq q1]
        have r := rs_asgCell (p := p) (py := py) (i := i) (a := e) (rg_nm c h1 h2) (simE e x Γ X h5 c) (by show X.env.scope.names.lookup y = _; rw [c.names]; exact isCel_eq h3) (sw_plain (.inl rfl))
        exact ps_imp r fun D σ H ⟨env, sto, μ, w, e1, d, s', hh, k⟩ => ⟨env, sto, μ, w, e1, d, s', by unfold ex at hh ⊢; exact hh, k⟩
      · cases h
    · cases h
  | .never, st, Γ, X, h, c => rs_never
theorem simSs {G : Cst} {F : Nat → List Dv → M Dv} {gv : Str → Option Dv} : ∀ (s : Ss) (st : List Stmt) (Γ : SC) (X : Cx), mSs Γ s st = true → Ctx G F gv Γ X → PSs X st (RS G (exs F gv s))
  | .nil, st, Γ, X, h, c => by
    simp only [mSs, List.isEmpty_iff] at h
    subst h
    exact rs_nil
  | .cons s r, st, Γ, X, h, c => by
    simp only [mSs] at h
    split at h
    · rw [Bool.and_eq_true] at h
      exact rs_cons (simS s _ Γ X h.1 c) (simSs r _ Γ X h.2 c)
    · cases h
end
end Dd
end
section
set_option Elab.async false
set_option linter.all false
set_option maxRecDepth 100000
namespace Dd
open PySem PySem.Spec PyProof.Rows L2

/-! ### defs -/
structure Dfn where
  name : Str
  ps : List Str
  N : List Str
  body : Ss
  kws : List KwP
def Dfn.fe (d : Dfn) : FnE := ⟨d.name, d.ps, d.kws⟩
/-- one call of a def -/
def runDef (F : Nat → List Dv → M Dv) (gv : Str → Option Dv) (d : Dfn) (ds : List Dv) : M Dv :=
  if ds.length = d.ps.length then (do
    match ← exs F gv d.body (ds.map some ++ List.replicate (d.N.length - ds.length) none) with
    | .nx _ => pure .non
    | .rt v => pure v
    | _ => fail) else fail
/-- all defs, to a depth of calls -/
def Fk (gv : Str → Option Dv) (defs : List Dfn) : Nat → Nat → List Dv → M Dv
  | 0, _, _ => fail
  | k + 1, i, ds => match defs[i]? with
    | some d => runDef (Fk gv defs k) gv d ds
    | none => fail

section
variable {G : Cst} {P : Program} {w : World} {K : PySem.W.Frag} {mg : Str → Option Value} {base : Heap}
/-- a def whose body does what is asked keeps its promise -/
theorem fnG_of {k : Nat} {f : Addr} {name qual : Str} {params : Arguments} {body : List Stmt} {scope : Scope} {dV kV doc pm cdv ct oc : Value} {an od : Option Addr} {osl : Array (Option Value)} {N ps : List Str} {sp : Sp}
    (at_ : K.lookup f = some ⟨oc, od, .func (PySem.W.fnOf name qual params body scope dV kV doc pm an cdv ct), osl⟩) (code : PySem.W.codeIn K cdv qual = true) (S : FnScope N ps scope) (len : ∀ vs H Q E, sp vs H Q E → vs.length = ps.length)
    (does : ∀ (A : Around) (outer : List Env) (s : Shared) (H : Hp) (vs : List V) (Q : VK), Room k (A.deeper (envOfC qual scope s.heap.objs.size f cdv)) → A.guards = some [] → sp vs H Q E0 →
      ∃ t, PSs (cxOf CX0 P w K mg base N qual scope f cdv A outer s H E0).nox body t ∧ t { nx := fun _ H' => Q .non H', rt := Q } (L2.start N vs) H) :
    FnG P w K mg base (k + 1) f (PySem.W.fnOf name qual params body scope dV kV doc pm an cdv ct) ps sp where
  len := len
  run A outer s H args us vs Q room nog e0 bind r h := by
    have old : ∀ b o, base.get? b = some o → s.heap.get? b = some o := fun b o e => (e0.bs b o e).1
    have KX : K.In s.heap := e0.mod.kin.keeps old
    have kinds : ∀ y ∈ ps.zip us, scope.names.lookup y.1 = some .local ∨ (scope.names.lookup y.1 = some .cell ∧ ((cellsFrom (s.heap.objs.size + 1) scope.names []).lookup y.1).isSome = true) := by
      rintro ⟨n, v⟩ hy
      exact (S.par n (List.of_mem_zip hy).1).imp id fun q => ⟨q, PySem.W.cellsFrom_some _ _ _ (.inl q)⟩
    obtain ⟨t, does, q⟩ := does A outer s H vs Q (room.deeper _) nog h
    apply codeAny_call_function room.depth (KX _ _ at_) rfl S.co S.gen rfl (PySem.W.codeRec_of KX code)
    apply bind
    apply wpAny_newFunctionEnv_cells S.kind kinds
    rintro _ rfl s1 x
    refine ⟨(e0.mod.nolimit.keeps old).keeps x.toInCall.keep, codeAny_func ?_⟩
    have I := inv_start (E := E0) (CX := CX0) S room.hd e0 (len _ _ _ _ h) r x
    refine wpAny_mono (does.nox.run [] s1 _ H _ I q) ?_ (fun _ _ z => z)
    rintro (_ | _ | _ | u) s' hs
    · obtain ⟨σ', H', J, q⟩ := hs
      exact ⟨.non, H', J.os, J.bare, J.base, J.hok, rfl, q⟩
    · obtain ⟨_, _, _, q⟩ := hs
      exact q.elim
    · obtain ⟨_, _, _, q⟩ := hs
      exact q.elim
    · obtain ⟨v, _, H', J, rv, q⟩ := hs
      exact ⟨v, H', J.os, J.bare, J.base, J.hok, rv, q⟩

/-- what is known of a def of the text -/
structure DAt (K : PySem.W.Frag) (mg : Str → Option Value) (fes : List FnE) (bns : List Str) (ibs : List (Str × String)) (d : Dfn) : Prop where
  ex : ∃ (st : Stmt) (qual : Str) (a : Addr) (fd : FuncData), Fun K d.name qual st a fd ∧ mg d.name = some (.ref a) ∧ FnScope d.N d.ps (defScope st) ∧ Binds K fd d.ps [] ∧
    (∀ p ∈ d.kws, KBinds K fd d.ps p.ks (putK p.npos p.ks.length p.perm) (putK p.npos p.ks.length p.perm)) ∧ mSs ⟨d.N, (defScope st).names, none, fes, bns, ibs⟩ d.body (defBody st) = true
/-- what is known of the text -/
structure Mdl (G : Cst) (K : PySem.W.Frag) (mg : Str → Option Value) (gv : Str → Option Dv) (defs : List Dfn) (bns : List Str) (ibs : List (Str × String)) : Prop where
  cst : CstOk K G
  gls : ∀ (x : Str) (d : Dv), gv x = some d → ∃ v u, mg x = some u ∧ RelV v u ∧ ((∃ a n m, d = .num n m ∧ v = .ref a ∧ (a, n, m) ∈ G) ∨ ∃ i, d = .int i ∧ v = .int i)
  none_ : ∀ x ∈ bns, mg x = none
  blt : ∀ p ∈ ibs, mg p.1 = some (.builtin p.2)
  defs : ∀ d ∈ defs, DAt K mg (defs.map Dfn.fe) bns ibs d

theorem start_env {μ : List Addr} {H : Hp} {ds : List Dv} {vs : List V} {N : List Str} (r : RepL G μ H ds vs) : EnvR G μ H (ds.map some ++ List.replicate (N.length - ds.length) none) (L2.start N vs) := by
  have len := repL_len r
  unfold L2.start
  refine ⟨by simp [len], fun i d h => ?_⟩
  by_cases hi : i < ds.length
  · rw [List.getElem?_append_left (by simpa using hi), List.getElem?_map] at h
    obtain ⟨d', e, h⟩ := Option.map_eq_some_iff.mp h
    cases h
    obtain ⟨v, e2, rv⟩ := repL_get r e
    exact ⟨v, by rw [List.getElem?_append_left (by simpa [len] using hi), List.getElem?_map, e2]; rfl, rv⟩
  · rw [List.getElem?_append_right (by simpa using hi), List.getElem?_replicate] at h
    split at h <;> cases h

theorem fns_ok {gv : Str → Option Dv} {defs : List Dfn} {bns : List Str} {ibs : List (Str × String)} (m : Mdl G K mg gv defs bns ibs) : ∀ (k i : Nat) (e : FnE), (defs.map Dfn.fe)[i]? = some e → FnAt G P w K mg base k e (Fk gv defs k i)
  | 0, i, e, h => by
    rw [List.getElem?_map] at h
    obtain ⟨d, hd, rfl⟩ := Option.map_eq_some_iff.mp h
    obtain ⟨st, qual, a, fd, F, ma, S, b, kb, mm⟩ := (m.defs d (List.mem_of_getElem? hd)).ex
    have no : ∀ vs H Q E, spD G (Fk gv defs 0 i) vs H Q E → False := fun vs H Q E ⟨ds, μ, sto, _, _, f⟩ => fin_fail (show Fin G μ H fail sto Q from f)
    exact ⟨a, fd, ma, F.kp, b, kb, ⟨fun _ _ _ _ h => (no _ _ _ _ h).elim, fun _ _ _ _ _ _ _ _ _ _ _ _ _ h => (no _ _ _ _ h).elim⟩⟩
  | k + 1, i, e, h => by
    have ih := fns_ok m k
    rw [List.getElem?_map] at h
    obtain ⟨d, hd, rfl⟩ := Option.map_eq_some_iff.mp h
    obtain ⟨st, qual, a, fd, F, ma, S, b, kb, mm⟩ := (m.defs d (List.mem_of_getElem? hd)).ex
    have eq : Fk gv defs (k + 1) i = runDef (Fk gv defs k) gv d := by
      funext ds
      show (match defs[i]? with | some d => runDef (Fk gv defs k) gv d ds | none => fail) = _
      rw [hd]
    rw [eq]
    refine ⟨a, fd, ma, F.kp, b, kb, ?_⟩
    obtain ⟨oc, od, kV, doc, pm, an, cdv, ct, osl, rfl, lk, hcd⟩ := F.ex
    have part : ∀ {vs H Q E}, spD G (runDef (Fk gv defs k) gv d) vs H Q E → ∃ ds μ sto, Wld G μ H sto ∧ RepL G μ H ds vs ∧ ds.length = d.ps.length ∧ Fin G μ H (exs (Fk gv defs k) gv d.body (ds.map some ++ List.replicate (d.N.length - ds.length) none) >>= fun fl => match fl with
      | .nx _ => pure .non
      | .rt v => pure v
      | _ => fail) sto Q := by
      rintro vs H Q E ⟨ds, μ, sto, w, r, f⟩
      unfold runDef at f
      split at f
      · exact ⟨ds, μ, sto, w, r, by assumption, f⟩
      · exact (fin_fail f).elim
    refine fnG_of lk hcd S (fun vs H Q E h => ?_) fun A outer s H vs Q room nog h => ?_
    · obtain ⟨ds, μ, sto, w, r, l, f⟩ := part h
      rw [repL_len r, l]; rfl
    · obtain ⟨ds, μ, sto, wl, r, l, f⟩ := part h
      refine ⟨_, simSs (G := G) (F := Fk gv defs k) (gv := gv) d.body (defBody st) _ _ mm ?_, ?_⟩
      · exact ⟨rfl, S.nd, rfl, S.kind, rfl, fun _ _ _ => rfl, rfl, nog, ⟨k, room, ih⟩, m.cst, m.gls, m.none_, m.blt⟩
      · obtain ⟨fl, sto1, e1, f1⟩ := fin_bind f
        refine ⟨_, sto, μ, wl, start_env r, fl, sto1, e1, fun H1 μ1 w1 n1 => ?_⟩
        have f1 := f1 H1 μ1 w1 n1
        cases fl with
        | nx e => exact fun σ _ => fin_pure f1 w1 (by rw [rep_non])
        | rt v => exact fun u ru => fin_pure f1 w1 ru
        | bk e => exact (fin_fail f1).elim
        | ct e => exact (fin_fail f1).elim
end
end Dd
end
section
set_option Elab.async false
set_option linter.all false
set_option maxRecDepth 100000
namespace Dd
open PySem PySem.Spec PyProof.Rows L2

/-! ### the written part without the script -/
def less (K : PySem.W.Frag) (a : Addr) : PySem.W.Frag := K.filter fun p => p.1 != a
theorem less_at {a b : Addr} (h : b ≠ a) : ∀ K : PySem.W.Frag, (less K a).lookup b = K.lookup b
  | [] => rfl
  | (c, o) :: r => by
    have ih := less_at h r
    unfold less at ih ⊢
    by_cases q : c = a
    · subst q
      rw [List.filter_cons_of_neg (by simp), ih, List.lookup_cons]
      rw [show (b == c) = false by simpa using h]
    · rw [List.filter_cons_of_pos (by simpa using q), List.lookup_cons, List.lookup_cons, ih]
theorem less_self {a : Addr} : ∀ K : PySem.W.Frag, (less K a).lookup a = none
  | [] => rfl
  | (c, o) :: r => by
    have ih := less_self (a := a) r
    unfold less at ih ⊢
    by_cases q : c = a
    · subst q
      rw [List.filter_cons_of_neg (by simp), ih]
    · rw [List.filter_cons_of_pos (by simpa using q), List.lookup_cons, ih, show (a == c) = false by simpa using fun e => q e.symm]
theorem less_in {K : PySem.W.Frag} {h : Heap} (X : K.In h) (a : Addr) : (less K a).In h := fun b o e => by
  by_cases q : b = a
  · subst q; rw [less_self] at e; cases e
  · rw [less_at q] at e; exact X b o e

section
variable {K : PySem.W.Frag} {h : Heap} {a : Addr} {vs : Array Value} {mg : Str → Option Value}
theorem fun_less (X : K.In h) (ha : h.get? a = some { cls := .type "list", data := .seq vs }) {x q : Str} {st : Stmt} {f : Addr} {fd : FuncData} (F : Fun K x q st f fd) : Fun (less K a) x q st f fd := by
  obtain ⟨⟨oc, od, kV, doc, pm, an, cdv, ct, osl, rfl, lk, hcd⟩, kp⟩ := F
  have fa : f ≠ a := fun e => by
    have := X _ _ lk
    rw [e, ha] at this; cases this
  have lk' := (less_at fa K).trans lk
  refine ⟨⟨oc, od, kV, doc, pm, an, cdv, ct, osl, rfl, lk', ?_⟩, ?_⟩
  · cases cdv with
    | ref c =>
      have ca : c ≠ a := fun e => by
        unfold PySem.W.codeIn at hcd
        simp only at hcd
        cases q2 : K.lookup c with
        | none => rw [q2] at hcd; cases hcd
        | some o =>
          have := X _ _ q2
          rw [e, ha] at this
          cases this
          rw [q2] at hcd; cases hcd
      unfold PySem.W.codeIn at hcd ⊢
      simp only at hcd ⊢
      rw [less_at ca]; exact hcd
    | _ => cases hcd
  · unfold PySem.W.keepIn
    simp only
    rw [lk']

/-- what is known of a def of the text, as the top has written it -/
structure DefK (K : PySem.W.Frag) (mg : Str → Option Value) (fes : List FnE) (bns : List Str) (ibs : List (Str × String)) (d : Dfn) : Prop where
  ex : ∃ (st : Stmt) (qual : Str) (a : Addr) (fd : FuncData), Fun K d.name qual st a fd ∧ mg d.name = some (.ref a) ∧ FnScope d.N d.ps (defScope st) ∧ (∀ us : List Value, us.length = d.ps.length → bindArgs fd ⟨us, []⟩ = pure (d.ps.zip us)) ∧
    (∀ p ∈ d.kws, 0 < d.ps.length ∧ ∀ us ws : List Value, us.length = p.npos → ws.length = p.ks.length → bindArgs fd ⟨us, p.ks.zip ws⟩ = pure (d.ps.zip (putK p.npos p.ks.length p.perm us ws))) ∧ mSs ⟨d.N, (defScope st).names, none, fes, bns, ibs⟩ d.body (defBody st) = true
structure TextK (G : Cst) (K : PySem.W.Frag) (mg : Str → Option Value) (gv : Str → Option Dv) (defs : List Dfn) (bns : List Str) (ibs : List (Str × String)) : Prop where
  cst : ∀ p ∈ G, ∃ od t1 t2 k osl, K.lookup p.1 = some ⟨.type "tuple", od, .seq #[.int p.2.1 t1, .int p.2.2 t2] k, osl⟩
  gls : ∀ (x : Str) (d : Dv), gv x = some d → ∃ v u, mg x = some u ∧ RelV v u ∧ ((∃ a n m, d = .num n m ∧ v = .ref a ∧ (a, n, m) ∈ G) ∨ ∃ i, d = .int i ∧ v = .int i)
  none_ : ∀ x ∈ bns, mg x = none
  blt : ∀ p ∈ ibs, mg p.1 = some (.builtin p.2)
  defs : ∀ d ∈ defs, DefK K mg (defs.map Dfn.fe) bns ibs d

theorem vals_at : ∀ {vs : List V} {us : List Value} (i : Nat), Vals vs us → (vs[i]? = none ∧ us[i]? = none) ∨ ∃ v u, vs[i]? = some v ∧ us[i]? = some u ∧ RelV v u
  | _, _, i, .nil => .inl ⟨rfl, rfl⟩
  | _, _, 0, .cons r t => .inr ⟨_, _, rfl, rfl, r⟩
  | _, _, i + 1, .cons r t => by simpa using vals_at i t
theorem vals_pick {vs : List V} {us : List Value} (h : Vals vs us) : ∀ perm : List Nat, Vals (perm.filterMap fun i => vs[i]?) (perm.filterMap fun i => us[i]?)
  | [] => .nil
  | i :: r => by
    have ih := vals_pick h r
    rcases vals_at i h with ⟨e1, e2⟩ | ⟨v, u, e1, e2, rv⟩
    · rw [List.filterMap_cons_none e1, List.filterMap_cons_none e2]; exact ih
    · rw [List.filterMap_cons_some e1, List.filterMap_cons_some e2]; exact .cons rv ih
theorem put_rel {npos nks : Nat} {perm : List Nat} {vs zs : List V} {us ws : List Value} (h : Vals vs us) (h2 : Vals zs ws) : Vals (putK npos nks perm vs zs) (putK npos nks perm us ws) := by
  unfold putK
  rw [← h.length, ← h2.length]
  split
  · exact vals_pick (h.append h2) perm
  · exact .nil

theorem mdl_of {G : Cst} {gv : Str → Option Dv} {defs : List Dfn} {bns : List Str} {ibs : List (Str × String)} (T : TextK G K mg gv defs bns ibs) (X : K.In h) (ha : h.get? a = some { cls := .type "list", data := .seq vs }) : Mdl G (less K a) mg gv defs bns ibs where
  cst b n m hb H := by
    obtain ⟨od, t1, t2, k, osl, lk⟩ := T.cst _ hb
    have ba : b ≠ a := fun e => by
      have := X _ _ lk
      rw [show (b, n, m).1 = a from e, ha] at this
      have e2 := Value.type.inj (congrArg Obj.cls (Option.some.inj this))
      exact absurd e2 (by decide)
    exact .inr ⟨_, _, k, (less_at ba K).trans lk, rfl, rfl, (by rw [sizeLine_eq]; exact (show (2 : Nat) ≤ 16777216 by decide)), .cons ⟨t1, rfl⟩ (.cons ⟨t2, rfl⟩ .nil)⟩
  gls := T.gls
  none_ := T.none_
  blt := T.blt
  defs d hd := by
    obtain ⟨st, q, f, fd, F, ma, S, b, kb, m⟩ := (T.defs d hd).ex
    refine ⟨st, q, f, fd, fun_less X ha F, ma, S, .all b, fun p hp => ?_, m⟩
    obtain ⟨pos, k⟩ := kb p hp
    refine ⟨fun s us ws _ l => .of_eq ?_, put_rel⟩
    by_cases c : us.length = p.npos ∧ ws.length = p.ks.length
    · exact k us ws c.1 c.2
    · rw [putK, if_neg c] at l
      exact absurd l.symm (Nat.ne_of_gt pos)
end

/-! ### the law's end -/
/-- the script alone is known, and it is never written -/
def onlyS (a : Addr) (vs : Array Value) (ns : List Int) : Hp := fun b => if b = a then some (.frz { cls := .type "list", data := .seq vs } (.lst (ns.map V.int))) else none
theorem onlyS_at {a : Addr} {vs : Array Value} {ns : List Int} : onlyS a vs ns a = some (.frz { cls := .type "list", data := .seq vs } (.lst (ns.map V.int))) := if_pos rfl
theorem onlyS_off {a b : Addr} {vs : Array Value} {ns : List Int} (h : b ≠ a) : onlyS a vs ns b = none := if_neg h
theorem repL_ints {G : Cst} {μ : List Addr} {H : Hp} : ∀ ns : List Int, RepL G μ H (ns.map .int) (ns.map V.int)
  | [] => repL_nil
  | n :: r => repL_cons (by rw [rep_int]) (repL_ints r)
theorem wld_script {G : Cst} {a : Addr} {vs : Array Value} {ns : List Int} : Wld G [a] (onlyS a vs ns) [.ro (ns.map .int)] where
  len := rfl
  nd := by simp
  cell n b c h1 h2 := by
    cases n with
    | zero =>
      cases h1; cases h2
      exact ⟨_, _, onlyS_at, repL_ints ns⟩
    | succ n => cases h1

theorem law_runs {G : Cst} {P : Program} {w : World} {K : PySem.W.Frag} {mg mb : Str → Option Value} {gv : Str → Option Dv} {defs : List Dfn} {bns : List Str} {ibs : List (Str × String)} {k j : Nat} {fa a : Addr} {d : Dfn} {s : Shared} {vs : List Value} {ns : List Int} {sto : Sto}
    (X : K.In s.heap) (hns : s.heap.Ns mainGlobals mg) (hb : s.heap.Ns builtinsNs mb) (hbb : ∀ x : Str, x ≠ "__name__" → mb x = bootBuiltins x) (lim : s.heap.NoLimit) (gens : s.gens = #[])
    (ha : s.heap.get? a = some { cls := .type "list", data := .seq vs.toArray }) (hi : IntsAre vs ns) (hl : ns.length ≤ sizeLine) (room : Room k callerA) (T : TextK G K mg gv defs bns ibs)
    (hd : defs[j]? = some d) (hf : mg d.name = some (.ref fa)) (one : d.ps.length = 1) (run : Fk gv defs k j [.loc 0] [.ro (ns.map .int)] = .ok (.bl true) sto) :
    codeAny (model P w) callerA (.call (.ref fa) ⟨[.ref a], []⟩) (fun r s' => r = .ok (.ret (.bool true)) ∧ OldK s.heap s'.heap ∧ s'.os = s.os ∧ AllBare s'.gens) s := by
  have M := mdl_of T X ha
  have rv := L2.vals_ints hi
  generalize eH : onlyS a vs.toArray ns = H
  have at_ : H a = some (.frz { cls := .type "list", data := .seq vs.toArray } (.lst (ns.map V.int))) := eH ▸ onlyS_at
  have off : ∀ {b}, b ≠ a → H b = none := fun {b} h => eH ▸ onlyS_off h
  have w0 : Wld G [a] H [.ro (ns.map .int)] := eH ▸ wld_script
  have list_of : ∀ {b : Addr} {o : Obj}, s.heap.get? b = some o → (∀ its n, o.data ≠ .seq its n) → b ≠ a := fun {b o} e n z => by
    rw [z, ha] at e
    cases e
    exact n _ _ rfl
  have keep : ∀ {b : Addr} {o : Obj}, s.heap.get? b = some o → b ≠ a → (hidT s.heap H).get? b = some o := fun e n => hidT_get e (off n)
  have space : ∀ {b : Addr} {m : Str → Option Value}, s.heap.Ns b m → (hidT s.heap H).Ns b m := fun {b m} ⟨o, es, ep, e, d, r⟩ => ⟨o, es, ep, keep e (list_of e fun its n z => by rw [d] at z; cases z), d, r⟩
  have md : Mod (less K a) mg (hidT s.heap H) := by
    refine ⟨fun b o e => ?_, space hns, ⟨mb, space hb, hbb⟩, let ⟨mc, h1, h2⟩ := lim; ⟨mc, space h1, h2⟩⟩
    by_cases q : b = a
    · rw [q, less_self] at e; cases e
    · rw [less_at q] at e; exact keep (X b o e) q
  have ok : HOk P w H s.heap := fun b o e => by
    by_cases q : b = a
    · subst q
      rw [at_] at e; cases e
      exact ⟨ha, by rw [List.length_map]; exact hl, vs, _, rv, ha⟩
    · rw [off q] at e; cases e
  have e0 : Env0 P w (less K a) mg (hidT s.heap H) callerA [] s H := ⟨rfl, md, fun b o e => of_hidT e, Nat.le_of_eq (hidT_size _ _), trivial, fun b hb => absurd (show b ∈ ([] : List Addr) from hb) (by simp), ok, .of_eq gens⟩
  obtain ⟨f, fd, mf, _, bs, _, F⟩ := (fns_ok (P := P) (w := w) (base := hidT s.heap H) M k j d.fe (by rw [List.getElem?_map, hd]; rfl)).ex
  have ef : f = fa := by
    have := mf.symm.trans hf
    cases this; rfl
  subst ef
  have bind := bs s [.ref a] (less_in X a) one.symm
  have sp : spD G (Fk gv defs k j) [.ref a] H (fun v _ => v = .bl true) E0 :=
    ⟨[.loc 0], [a], _, w0, repL_cons (rep_loc.mpr ⟨a, rfl, rfl⟩) repL_nil, _, _, run, fun b H' μ' _ _ r => rep_bl.mp r⟩
  refine codeAny_mono (F.run callerA [] s H ⟨[.ref a], []⟩ [.ref a] [.ref a] _ room rfl e0 bind (.cons rfl .nil) sp) ?_
  rintro (e | (_ | _ | _ | u)) s' q
  · exact q.elim
  · exact q.elim
  · exact q.elim
  · exact q.elim
  · obtain ⟨v, H', os, bare, un, ok', r, q⟩ := q
    obtain rfl : v = .bl true := q
    obtain rfl : u = Value.bool true := r
    refine ⟨rfl, OldK.of_keep fun b o e => ?_, os, bare⟩
    by_cases z : b = a
    · subst z
      have z2 := ok' b _ (un.frzs b _ _ at_)
      rw [ha] at e; cases e
      exact z2.1
    · exact un.keep b o e (off z) (fun z => absurd (show b ∈ ([] : List Addr) from z) (by simp)) (by simp)

/-- the law's promise over the landed text, from the run of its def -/
theorem law_end {l : PySem.W.OpenLaw} {n k j : Nat} {q : Program} {loose : List Str} {XP : (Str → Option Value) → Heap → Prop} {YP : World → Heap → Prop} {d : DefRec} {K : Params → PySem.W.Frag} {gv : Str → Option Dv} {defs : List Dfn} {bns : List Str} {ibs : List (Str × String)} {df : Dfn}
    (hn : l.most = some n) (hn2 : n ≤ sizeLine) (hdf : d.params.defaults = []) (room : Room k callerA) (hY : ∀ (w : World) (h : Heap), YP w h → (K w.params).In h)
    (T : ∀ (w : World) (mg : Str → Option Value) (h : Heap), (K w.params).In h → h.Ns mainGlobals mg → ∃ G, TextK G (K w.params) mg gv defs bns ibs)
    (hd : defs[j]? = some df) (hname : df.name = d.name) (one : df.ps.length = 1)
    (run : ∀ ns : List Int, ns.length ≤ n → ∃ sto, Fk gv defs k j [.loc 0] [.ro (ns.map .int)] = .ok (.bl true) sto) : PySem.W.WalkO q loose XP YP l.row.toRowW d [] (fun f vs => PySem.call f vs) := by
  refine Att.attach_call hn hdf fun w s₀ s₁ mg mb fa o pm cd doc a vs ns g Y ho hd' hcd hmg hobj hints hlen hg => ?_
  have X := hY w _ Y
  obtain ⟨G, t⟩ := T w mg _ X g.T.g
  obtain ⟨sto, r⟩ := run ns hlen
  exact law_runs X g.T.g g.T.b g.T.builtins g.T.nolimit hg hobj hints (Nat.le_trans hlen hn2) room t hd (hname ▸ hmg) one r
end Dd
end
section
set_option Elab.async false
set_option linter.all false
set_option maxRecDepth 100000
namespace Dd
open PySem PySem.Spec PyProof.Rows L2

theorem law_endE {l : PySem.W.OpenLaw} {n k j : Nat} {q : Program} {loose : List Str} {XP : (Str → Option Value) → Heap → Prop} {YP : World → Heap → Prop} {d : DefRec} {gv : Str → Option Dv} {defs : List Dfn} {bns : List Str} {ibs : List (Str × String)} {df : Dfn}
    (hn : l.most = some n) (hn2 : n ≤ sizeLine) (hdf : d.params.defaults = []) (room : Room k callerA)
    (T : ∀ (w : World) (mg : Str → Option Value) (h : Heap), YP w h → h.Ns mainGlobals mg → ∃ K G, PySem.W.Frag.In K h ∧ TextK G K mg gv defs bns ibs)
    (hd : defs[j]? = some df) (hname : df.name = d.name) (one : df.ps.length = 1)
    (run : ∀ ns : List Int, ns.length ≤ n → ∃ sto, Fk gv defs k j [.loc 0] [.ro (ns.map .int)] = .ok (.bl true) sto) : PySem.W.WalkO q loose XP YP l.row.toRowW d [] (fun f vs => PySem.call f vs) := by
  refine Att.attach_call hn hdf fun w s₀ s₁ mg mb fa o pm cd doc a vs ns g Y ho hd' hcd hmg hobj hints hlen hg => ?_
  obtain ⟨K, G, X, t⟩ := T w mg _ Y g.T.g
  obtain ⟨sto, r⟩ := run ns hlen
  exact law_runs X g.T.g g.T.b g.T.builtins g.T.nolimit hg hobj hints (Nat.le_trans hlen hn2) room t hd (hname ▸ hmg) one r

/-! ### the text, by the head's facts -/
/-- what is looked at of a def of the text without the run -/
structure Stat (fes : List FnE) (bns : List Str) (ibs : List (Str × String)) (d : Dfn) (st : Stmt) : Prop where
  sc : FnScope d.N d.ps (defScope st)
  bd : ∀ (kV doc pm : Value) (an : Option Addr) (cdv ct : Value) (us : List Value), us.length = d.ps.length → bindArgs (PySem.W.fnOf d.name d.name (defArgs st) (defBody st) (defScope st) .none kV doc pm an cdv ct) ⟨us, []⟩ = pure (d.ps.zip us)
  kw : ∀ p ∈ d.kws, 0 < d.ps.length ∧ ∀ (kV doc pm : Value) (an : Option Addr) (cdv ct : Value) (us ws : List Value), us.length = p.npos → ws.length = p.ks.length → bindArgs (PySem.W.fnOf d.name d.name (defArgs st) (defBody st) (defScope st) .none kV doc pm an cdv ct) ⟨us, p.ks.zip ws⟩ = pure (d.ps.zip (putK p.npos p.ks.length p.perm us ws))
  mt : mSs ⟨d.N, (defScope st).names, none, fes, bns, ibs⟩ d.body (defBody st) = true
def faOf (bns : List Str) (ts : List (Dfn × Stmt)) : List He.Fa := bns.map .free ++ (ts.map (fun p => .glo p.1.name) ++ ts.map fun p => .keep p.1.name)
def fnD (d : Dfn) (st : Stmt) : He.FnD := ⟨(d.name, none), d.name, d.name, defArgs st, defBody st, defScope st⟩
def fnOfs (ts : List (Dfn × Stmt)) : List He.FnD := ts.map fun p => fnD p.1 p.2
theorem says_mem {fa : List He.Fa} {fn : List He.FnD} {K : PySem.W.Frag} (c : He.SaysE fa fn K) {f : He.Fa} (h : f ∈ fa) : f.ok K = true := by
  obtain ⟨i, e⟩ := List.getElem?_of_mem h
  exact c.fact i e
theorem dk_of {fes : List FnE} {bns : List Str} {ibs : List (Str × String)} {fa : List He.Fa} {fn : List He.FnD} {K : PySem.W.Frag} {h : Heap} {mg : Str → Option Value} (c : He.SaysE fa fn K) (X : K.In h) (g : h.Ns mainGlobals mg) {d : Dfn} {st : Stmt} (S : Stat fes bns ibs d st)
    (m1 : He.Fa.glo d.name ∈ fa) (m2 : He.Fa.keep d.name ∈ fa) (m3 : fnD d st ∈ fn) : DefK K mg fes bns ibs d := by
  obtain ⟨i, e⟩ := List.getElem?_of_mem m3
  obtain ⟨oc, od, osl, kV, doc, pm, an, cdv, ct, lk, cd⟩ := c.def_ i e
  exact ⟨st, d.name, _, _, fun_mk lk cd (He.keep_ok (says_mem c m2)), He.glo_ok X g (says_mem c m1), S.sc, S.bd kV doc pm an cdv ct, fun p hp => ⟨(S.kw p hp).1, (S.kw p hp).2 kV doc pm an cdv ct⟩, S.mt⟩
theorem text_of {bns : List Str} {gv : Str → Option Dv} {ts : List (Dfn × Stmt)} {K : PySem.W.Frag} {h : Heap} {mg : Str → Option Value} (S : ∀ p ∈ ts, Stat ((ts.map Prod.fst).map Dfn.fe) bns [] p.1 p.2) (hg : ∀ x, gv x = none)
    (c : He.SaysE (faOf bns ts) (fnOfs ts) K) (X : K.In h) (g : h.Ns mainGlobals mg) : TextK [] K mg gv (ts.map Prod.fst) bns [] where
  cst := fun _ h => nomatch h
  gls := fun x d e => by rw [hg x] at e; cases e
  none_ := fun x hx => He.free_ok X g (says_mem c (List.mem_append_left _ (List.mem_map_of_mem hx)))
  blt := fun _ h => nomatch h
  defs := fun d hd => by
    obtain ⟨p, hp, rfl⟩ := List.mem_map.mp hd
    exact dk_of c X g (S p hp) (List.mem_append_right _ (List.mem_append_left _ (List.mem_map.mpr ⟨p, hp, rfl⟩))) (List.mem_append_right _ (List.mem_append_right _ (List.mem_map.mpr ⟨p, hp, rfl⟩))) (List.mem_map.mpr ⟨p, hp, rfl⟩)
/-! ### the text with constants and imported built-ins -/
def look {α : Type} : List (Str × α) → Str → Option α
  | [], _ => none
  | p :: r, x => if p.1 = x then some p.2 else look r x
theorem look_mem {α : Type} {x : Str} {a : α} : ∀ {l : List (Str × α)}, look l x = some a → (x, a) ∈ l
  | [], h => by cases h
  | p :: r, h => by
    unfold look at h
    by_cases e : p.1 = x
    · rw [if_pos e] at h
      cases h
      subst e
      exact .head _
    · rw [if_neg e] at h
      exact .tail _ (look_mem h)
theorem cstAt_ok {K : PySem.W.Frag} {x : Str} {n m : Int} (h : cstAt K x = some (n, m)) : ∃ od t1 t2 k osl, K.lookup (He.ga K x) = some ⟨.type "tuple", od, .seq #[.int n t1, .int m t2] k, osl⟩ := by
  unfold cstAt at h
  split at h
  · rename_i c od its k osl e
    split at h
    · rename_i hc
      subst hc
      split at h
      · rename_i a t1 b t2 q
        cases h
        have : its = #[.int n t1, .int m t2] := by
          rw [← Array.toArray_toList (xs := its), q]
        subst this
        exact ⟨od, t1, t2, k, osl, e⟩
      · cases h
    · cases h
  · cases h
theorem bltAt_ok {K : PySem.W.Frag} {h : Heap} {mg : Str → Option Value} (X : K.In h) (g : h.Ns mainGlobals mg) {x : Str} {b : String} (e : bltAt K x = some b) : mg x = some (.builtin b) := by
  unfold bltAt at e
  split at e
  · rename_i c q
    cases e
    exact PySem.W.mg_of X g q
  · cases e
def gvOf (cs : List (Str × Int × Int)) (is : List (Str × Int)) (x : Str) : Option Dv := match look cs x with
  | some p => some (.num p.1 p.2)
  | none => (look is x).map .int
def faOfX (bns : List Str) (ts : List (Dfn × Stmt)) (cs : List (Str × Int × Int)) (is : List (Str × Int)) : List He.Fa := faOf bns ts ++ (cs.map (fun p => .glo p.1) ++ is.map fun p => .int p.1 p.2)
theorem map_at {α β : Type} {f g : α → β} {l : List α} (h : l.map f = l.map g) {a : α} (m : a ∈ l) : f a = g a := by
  obtain ⟨i, e⟩ := List.getElem?_of_mem m
  have := congrArg (fun l : List β => l[i]?) h
  simp only [List.getElem?_map, e, Option.map_some] at this
  exact Option.some.inj this
theorem text_ofX {bns : List Str} {ibs : List (Str × String)} {cs : List (Str × Int × Int)} {is : List (Str × Int)} {ts : List (Dfn × Stmt)} {K : PySem.W.Frag} {h : Heap} {mg : Str → Option Value} (S : ∀ p ∈ ts, Stat ((ts.map Prod.fst).map Dfn.fe) bns ibs p.1 p.2)
    (c : obsX (faOfX bns ts cs is) (fnOfs ts) cs ibs K = valX (fnOfs ts) cs ibs) (X : K.In h) (g : h.Ns mainGlobals mg) : TextK (cs.map fun p => (He.ga K p.1, p.2.1, p.2.2)) K mg (gvOf cs is) (ts.map Prod.fst) bns ibs := by
  have c1 : He.SaysE (faOfX bns ts cs is) (fnOfs ts) K := congrArg (fun z : AlX => z.1) c
  have c2 : cs.map (fun p => cstAt K p.1) = cs.map fun p => some p.2 := congrArg (fun z : AlX => z.2.1) c
  have c3 : ibs.map (fun p => bltAt K p.1) = ibs.map fun p => some p.2 := congrArg (fun z : AlX => z.2.2) c
  refine ⟨fun p hp => ?_, fun x d e => ?_, fun x hx => ?_, fun p hp => ?_, fun d hd => ?_⟩
  · obtain ⟨q, hq, rfl⟩ := List.mem_map.mp hp
    exact cstAt_ok (map_at c2 hq)
  · unfold gvOf at e
    cases q : look cs x with
    | some p =>
      rw [q] at e
      cases e
      have m := look_mem q
      have gl := He.glo_ok X g (says_mem c1 (f := .glo x) (List.mem_append_right _ (List.mem_append_left _ (List.mem_map.mpr ⟨_, m, rfl⟩))))
      exact ⟨.ref (He.ga K x), _, gl, rfl, .inl ⟨_, _, _, rfl, rfl, List.mem_map.mpr ⟨_, m, rfl⟩⟩⟩
    | none =>
      rw [q] at e
      cases q2 : look is x with
      | none => rw [q2] at e; cases e
      | some i =>
        rw [q2] at e
        cases e
        have m := look_mem q2
        obtain ⟨t, gl⟩ := He.int_ok X g (says_mem c1 (f := .int x i) (List.mem_append_right _ (List.mem_append_right _ (List.mem_map.mpr ⟨_, m, rfl⟩))))
        exact ⟨.int i, _, gl, ⟨t, rfl⟩, .inr ⟨i, rfl, rfl⟩⟩
  · exact He.free_ok X g (says_mem c1 (List.mem_append_left _ (List.mem_append_left _ (List.mem_map_of_mem hx))))
  · exact bltAt_ok X g (map_at c3 hp)
  · obtain ⟨p, hp, rfl⟩ := List.mem_map.mp hd
    exact dk_of c1 X g (S p hp) (List.mem_append_left _ (List.mem_append_right _ (List.mem_append_left _ (List.mem_map.mpr ⟨p, hp, rfl⟩)))) (List.mem_append_left _ (List.mem_append_right _ (List.mem_append_right _ (List.mem_map.mpr ⟨p, hp, rfl⟩)))) (List.mem_map.mpr ⟨p, hp, rfl⟩)
end Dd
end
section
set_option Elab.async false
set_option linter.all false
set_option maxRecDepth 100000
/-! defs that many laws share, and what they do -/
namespace Sh
open PySem PySem.Spec PyProof.Rows L2 Dd
def b_is_whole : Ss := (.cons (.ret (.isty true .int_ (.var 0))) .nil)
def d_is_whole : Dfn := ⟨"is_whole", ["value"], ["value"], b_is_whole, []⟩
def b_is_between (i_is_whole : Nat) : Ss := (.cons (.ret (.band (.call i_is_whole (.cons (.var 0) .nil)) (.chain .le .le (.var 1) (.var 0) (.var 2)))) .nil)
def d_is_between (i_is_whole : Nat) : Dfn := ⟨"is_between", ["value", "least", "most"], ["value", "least", "most"], b_is_between i_is_whole, []⟩
def b_is_letter (i_is_between : Nat) : Ss := (.cons (.ret (.call i_is_between (.cons (.var 0) (.cons (.int (0)) (.cons (.int (2)) .nil))))) .nil)
def d_is_letter (i_is_between : Nat) : Dfn := ⟨"is_letter", ["value"], ["value"], b_is_letter i_is_between, []⟩
def b_is_pair : Ss := (.cons (.ret (.band (.isty true .tuple_ (.var 0)) (.cmp .eq (.blt .len (.cons (.var 0) .nil)) (.int (2))))) .nil)
def d_is_pair : Dfn := ⟨"is_pair", ["value"], ["value"], b_is_pair, []⟩
def b_is_fraction (i_is_pair : Nat) (i_is_whole : Nat) : Ss := (.cons (.ite (.bnot (.call i_is_pair (.cons (.var 0) .nil))) (.cons (.ret (.bl false)) .nil) .nil) (.cons (.asg (.tp [1, 2]) (.var 0)) (.cons (.ret (.band (.call i_is_whole (.cons (.var 1) .nil)) (.band (.call i_is_whole (.cons (.var 2) .nil)) (.band (.cmp .gt (.var 2) (.int (0))) (.cmp .eq (.blt .gcd (.cons (.var 1) (.cons (.var 2) .nil))) (.int (1))))))) .nil)))
def d_is_fraction (i_is_pair : Nat) (i_is_whole : Nat) : Dfn := ⟨"is_fraction", ["value"], ["value", "upper", "lower"], b_is_fraction i_is_pair i_is_whole, []⟩
def b_fraction_of : Ss := (.cons (.asg (.nm 2) (.blt .gcd (.cons (.var 0) (.cons (.var 1) .nil)))) (.cons (.ret (.num (.bin .fdiv (.var 0) (.var 2)) (.bin .fdiv (.var 1) (.var 2)))) .nil))
def d_fraction_of : Dfn := ⟨"fraction_of", ["upper", "lower"], ["upper", "lower", "common"], b_fraction_of, []⟩
def b_added (i_fraction_of : Nat) : Ss := (.cons (.ret (.call i_fraction_of (.cons (.bin .add (.bin .mul (.idx (.var 0) (.int (0))) (.idx (.var 1) (.int (1)))) (.bin .mul (.idx (.var 1) (.int (0))) (.idx (.var 0) (.int (1))))) (.cons (.bin .mul (.idx (.var 0) (.int (1))) (.idx (.var 1) (.int (1)))) .nil)))) .nil)
def d_added (i_fraction_of : Nat) : Dfn := ⟨"added", ["first", "second"], ["first", "second"], b_added i_fraction_of, []⟩
def b_multiplied (i_fraction_of : Nat) : Ss := (.cons (.ret (.call i_fraction_of (.cons (.bin .mul (.idx (.var 0) (.int (0))) (.idx (.var 1) (.int (0)))) (.cons (.bin .mul (.idx (.var 0) (.int (1))) (.idx (.var 1) (.int (1)))) .nil)))) .nil)
def d_multiplied (i_fraction_of : Nat) : Dfn := ⟨"multiplied", ["first", "second"], ["first", "second"], b_multiplied i_fraction_of, []⟩
def b_law_draw : Ss := (.cons (.ite (.cmp .gt (.idx (.var 0) (.int (0))) (.int (0))) (.cons (.asg2 (.var 0) (.int (0)) 3 (.blt .divmod (.cons (.idx (.var 0) (.int (0))) (.cons (.var 1) .nil)))) (.cons (.ret (.var 3)) .nil)) .nil) (.cons (.sub (.var 0) (.int (2)) (.bin .add (.idx (.var 0) (.int (2))) (.int (1)))) (.cons (.asg (.nm 2) (.bin .mod (.blt .int1 (.cons (.bin .add (.bin .add (.bin .mul (.idx (.var 0) (.int (1))) (.int (39119))) (.bin .mul (.idx (.var 0) (.int (2))) (.int (60013)))) (.int (7))) .nil)) (.int (2147483549)))) (.cons (.sub (.var 0) (.int (1)) (.bin .mod (.blt .int1 (.cons (.bin .add (.bin .mul (.var 2) (.bin .add (.bin .mul (.int (2)) (.bin .fdiv (.var 2) (.int (29)))) (.int (30011)))) (.idx (.var 0) (.int (2)))) .nil)) (.int (2147483549)))) (.cons (.ret (.bin .mod (.blt .int1 (.cons (.bin .fdiv (.idx (.var 0) (.int (1))) (.int (127))) .nil)) (.var 1))) .nil)))))
def d_law_draw : Dfn := ⟨"_law_draw", ["spring", "wide"], ["spring", "wide", "turn", "found"], b_law_draw, []⟩
def b_law_pick (i_law_draw : Nat) : Ss := (.cons (.ret (.idx (.var 1) (.call i_law_draw (.cons (.var 0) (.cons (.blt .len (.cons (.var 1) .nil)) .nil))))) .nil)
def d_law_pick (i_law_draw : Nat) : Dfn := ⟨"_law_pick", ["spring", "some"], ["spring", "some"], b_law_pick i_law_draw, []⟩
def b_law_common : Ss := (.cons (.par 0 1 (.blt .abs (.cons (.var 0) .nil)) (.blt .abs (.cons (.var 1) .nil))) (.cons (.whl (.cmp .gt (.var 1) (.int (0))) (.cons (.par 0 1 (.var 1) (.bin .mod (.blt .int1 (.cons (.var 0) .nil)) (.var 1))) .nil)) (.cons (.ret (.var 0)) .nil)))
def d_law_common : Dfn := ⟨"_law_common", ["one", "two"], ["one", "two"], b_law_common, []⟩
def b_law_frac (i_law_common : Nat) : Ss := (.cons (.asg (.nm 2) (.call i_law_common (.cons (.var 0) (.cons (.var 1) .nil)))) (.cons (.asg (.nm 2) (.ite (.cmp .gt (.var 1) (.int (0))) (.var 2) (.bin .sub (.int (0)) (.var 2)))) (.cons (.ret (.num (.bin .fdiv (.var 0) (.var 2)) (.bin .fdiv (.var 1) (.var 2)))) .nil)))
def d_law_frac (i_law_common : Nat) : Dfn := ⟨"_law_frac", ["top", "under"], ["top", "under", "by"], b_law_frac i_law_common, []⟩
def b_law_plus (i_law_frac : Nat) : Ss := (.cons (.ret (.call i_law_frac (.cons (.bin .add (.bin .mul (.idx (.var 0) (.int (0))) (.idx (.var 1) (.int (1)))) (.bin .mul (.idx (.var 1) (.int (0))) (.idx (.var 0) (.int (1))))) (.cons (.bin .mul (.idx (.var 0) (.int (1))) (.idx (.var 1) (.int (1)))) .nil)))) .nil)
def d_law_plus (i_law_frac : Nat) : Dfn := ⟨"_law_plus", ["one", "two"], ["one", "two"], b_law_plus i_law_frac, []⟩
def b_law_times (i_law_frac : Nat) : Ss := (.cons (.ret (.call i_law_frac (.cons (.bin .mul (.idx (.var 0) (.int (0))) (.idx (.var 1) (.int (0)))) (.cons (.bin .mul (.idx (.var 0) (.int (1))) (.idx (.var 1) (.int (1)))) .nil)))) .nil)
def d_law_times (i_law_frac : Nat) : Dfn := ⟨"_law_times", ["one", "two"], ["one", "two"], b_law_times i_law_frac, []⟩
def b_law_small (i_law_draw : Nat) (i_law_frac : Nat) (i_law_pick : Nat) : Ss := (.cons (.asg (.nm 1) (.call i_law_pick (.cons (.var 0) (.cons (.tup (.cons (.int (1)) (.cons (.int (1)) (.cons (.int (1)) (.cons (.int (2)) (.cons (.int (2)) (.cons (.int (3)) (.cons (.int (5)) .nil)))))))) .nil)))) (.cons (.asg (.nm 1) (.ite (.cmp .eq (.call i_law_draw (.cons (.var 0) (.cons (.int (2)) .nil))) (.int (0))) (.var 1) (.bin .sub (.int (0)) (.var 1)))) (.cons (.ret (.call i_law_frac (.cons (.var 1) (.cons (.call i_law_pick (.cons (.var 0) (.cons (.tup (.cons (.int (1)) (.cons (.int (1)) (.cons (.int (2)) (.cons (.int (2)) (.cons (.int (3)) (.cons (.int (4)) (.cons (.int (6)) .nil)))))))) .nil))) .nil)))) .nil)))
def d_law_small (i_law_draw : Nat) (i_law_frac : Nat) (i_law_pick : Nat) : Dfn := ⟨"_law_small", ["spring"], ["spring", "top"], b_law_small i_law_draw i_law_frac i_law_pick, []⟩
def b_law_share (i_law_draw : Nat) (i_law_frac : Nat) (i_law_small : Nat) : Ss := (.cons (.ite (.cmp .gt (.call i_law_draw (.cons (.var 0) (.cons (.int (12)) .nil))) (.int (0))) (.cons (.ret (.call i_law_small (.cons (.var 0) .nil))) .nil) .nil) (.cons (.asg (.nm 1) (.bin .add (.int (1)) (.call i_law_draw (.cons (.var 0) (.cons (.int (99991)) .nil))))) (.cons (.asg (.nm 1) (.ite (.cmp .eq (.call i_law_draw (.cons (.var 0) (.cons (.int (2)) .nil))) (.int (0))) (.var 1) (.bin .sub (.int (0)) (.var 1)))) (.cons (.ret (.call i_law_frac (.cons (.var 1) (.cons (.bin .add (.int (1)) (.call i_law_draw (.cons (.var 0) (.cons (.int (9973)) .nil)))) .nil)))) .nil))))
def d_law_share (i_law_draw : Nat) (i_law_frac : Nat) (i_law_small : Nat) : Dfn := ⟨"_law_share", ["spring"], ["spring", "top"], b_law_share i_law_draw i_law_frac i_law_small, []⟩
theorem pb {α β : Type} (a : α) (f : α → M β) : (pure a >>= f) = f a := rfl
theorem fb {α β : Type} (f : α → M β) : ((fail : M α) >>= f) = fail := rfl
theorem lift_some {α : Type} (a : α) : lift (some a) = pure a := rfl
section
variable {F : Nat → List Dv → M Dv} {gv : Str → Option Dv}
theorem exs_nil (env : DEnv) : exs F gv .nil env = pure (.nx env) := by rw [exs]
theorem exs_cons (s : S) (r : Ss) (env : DEnv) : exs F gv (.cons s r) env = ex F gv s env >>= fun fl => match fl with
    | .nx e => exs F gv r e
    | .rt d => pure (.rt d)
    | .bk e => pure (.bk e)
    | .ct e => pure (.ct e) := by first | (rw [exs]; done) | (rw [exs]; rfl)
/-! one step each -/
theorem add_ii (i j : Int) : opB .add (.int i) (.int j) = pure (.int (i + j)) := rfl
theorem sub_ii (i j : Int) : opB .sub (.int i) (.int j) = pure (.int (i - j)) := rfl
theorem mul_ii {i j : Int} (h : mulOk i j = true) : opB .mul (.int i) (.int j) = pure (.int (i * j)) := by
  show (if mulOk i j then pure (Dv.int (i * j)) else (fail : M Dv)) = _
  rw [if_pos h]
theorem fdiv_ii {i j : Int} (h : 0 < j) (h2 : j.natAbs.log2 < 9000) : opB .fdiv (.int i) (.int j) = pure (.int (i / j)) := by
  show (if 0 < j ∧ j.natAbs.log2 < 9000 then pure (Dv.int (i / j)) else (fail : M Dv)) = _
  rw [if_pos ⟨h, h2⟩]
theorem mod_ii {i j : Int} (h : 0 < j) : opB .mod (.int i) (.int j) = pure (.int (i % j)) := by
  show (if 0 < j then pure (Dv.int (i % j)) else (fail : M Dv)) = _
  rw [if_pos h]
theorem ix_num0 (a b : Int) : idxD (.num a b) (.int 0) = pure (.int a) := rfl
theorem ix_num1 (a b : Int) : idxD (.num a b) (.int 1) = pure (.int b) := rfl
theorem gt_ii (i j : Int) : opC .gt (.int i) (.int j) = pure (decide (j < i)) := rfl
theorem lt_ii (i j : Int) : opC .lt (.int i) (.int j) = pure (decide (i < j)) := rfl
theorem le_ii (i j : Int) : opC .le (.int i) (.int j) = pure (decide (i ≤ j)) := rfl
theorem eq_ii (i j : Int) : opC .eq (.int i) (.int j) = pure (decide (i = j)) := by
  have sh : ∀ k, SeqAt.shaped (PyData.int k) = true := fun k => by unfold SeqAt.shaped; simp [PyData.canLay0, PyData.depth]
  show eqD1 (.int i) (.int j) = _
  unfold eqD1
  simp only [pyv, sh, Bool.and_self, if_true]
  by_cases h : i = j
  · subst h; simp [PyData.eqv]
  · have : (i == j) = false := by simpa using h
    simp [PyData.eqv, h, this]
theorem ne_ii (i j : Int) : opC .ne (.int i) (.int j) = pure (!decide (i = j)) := by
  show (eqD (.int i) (.int j) >>= fun b => pure (!b)) = _
  rw [show eqD (.int i) (.int j) = pure (decide (i = j)) from eq_ii i j]
  rfl
theorem abs_i (i : Int) : bltD .abs [.int i] = pure (.int i.natAbs) := by
  show (pure (Dv.int (if i < 0 then -i else i)) : M Dv) = _
  congr 2
  split <;> omega
theorem int_i (i : Int) : bltD .int1 [.int i] = pure (.int i) := rfl
theorem gcd_ii (i j : Int) : bltD .gcd [.int i, .int j] = pure (.int (Nat.gcd i.natAbs j.natAbs : Nat)) := rfl
theorem lcm_ii {i j : Int} (h : i.natAbs.log2 < 13000) (h2 : j.natAbs.log2 < 13000) : bltD .lcm [.int i, .int j] = pure (.int (Nat.lcm i.natAbs j.natAbs : Nat)) := by
  show (if i.natAbs.log2 < 13000 ∧ j.natAbs.log2 < 13000 then pure (Dv.int ((Nat.lcm i.natAbs j.natAbs : Nat) : Int)) else (fail : M Dv)) = _
  rw [if_pos ⟨h, h2⟩]

/-! ### sizes -/
theorem log_lt {n k : Nat} (h : n < 2 ^ k) (hk : 0 < k) : n.log2 < k := by
  by_cases z : n = 0
  · subst z; simpa using hk
  · exact (Nat.log2_lt z).mpr h
theorem mul_small {a b : Int} {k l : Nat} (ha : a.natAbs < 2 ^ k) (hb : b.natAbs < 2 ^ l) (h : k + l ≤ 900000) : mulOk a b = true := by
  have h1 : a.natAbs.log2 ≤ k := by
    by_cases z : a.natAbs = 0
    · rw [z, Nat.log2_zero]; exact Nat.zero_le _
    · exact Nat.le_of_lt ((Nat.log2_lt z).mpr ha)
  have h2 : b.natAbs.log2 ≤ l := by
    by_cases z : b.natAbs = 0
    · rw [z, Nat.log2_zero]; exact Nat.zero_le _
    · exact Nat.le_of_lt ((Nat.log2_lt z).mpr hb)
  exact decide_eq_true (by omega)

/-! ### fractions -/
/-- n / d in lowest terms -/
def mk (n d : Int) : Dv := .num (n / (Nat.gcd n.natAbs d.natAbs : Nat)) (d / (Nat.gcd n.natAbs d.natAbs : Nat))
theorem gcd_pos {n d : Int} (h : 0 < d) : (0 : Int) < (Nat.gcd n.natAbs d.natAbs : Nat) := by
  have : 0 < Nat.gcd n.natAbs d.natAbs := Nat.gcd_pos_of_pos_right _ (by omega)
  omega
theorem gcd_log {n d : Int} (h : 0 < d) (hd : d.natAbs < 2 ^ 9000) : ((Nat.gcd n.natAbs d.natAbs : Nat) : Int).natAbs.log2 < 9000 := by
  apply log_lt _ (by decide)
  have : Nat.gcd n.natAbs d.natAbs ≤ d.natAbs := Nat.gcd_le_right _ (by omega)
  exact Nat.lt_of_le_of_lt (by simpa using this) hd
theorem fraction_of_ok {n d : Int} (h : 0 < d) (hd : d.natAbs < 2 ^ 9000) : runDef F gv d_fraction_of [.int n, .int d] = pure (mk n d) := by
  simp [runDef, d_fraction_of, b_fraction_of, exs_cons, exs_nil, ex, ev, evs, pb, gcd_ii, bindT, lift_some, fdiv_ii (gcd_pos (n := n) h) (gcd_log h hd), mk]
theorem added_ok {i : Nat} {a b c d : Int} {k l : Nat} (ha : a.natAbs < 2 ^ k) (hb : b.natAbs < 2 ^ k) (hc : c.natAbs < 2 ^ l) (hd : d.natAbs < 2 ^ l) (h : k + l ≤ 900000) (hf : F i [.int (a * d + c * b), .int (b * d)] = pure (mk (a * d + c * b) (b * d))) : runDef F gv (d_added i) [.num a b, .num c d] = pure (mk (a * d + c * b) (b * d)) := by
  simp [runDef, d_added, b_added, exs_cons, ex, ev, evs, pb, ix_num0, ix_num1, add_ii, mul_ii (mul_small ha hd h), mul_ii (mul_small hc hb (by omega)), mul_ii (mul_small hb hd h), hf]
theorem multiplied_ok {i : Nat} {a b c d : Int} {k l : Nat} (ha : a.natAbs < 2 ^ k) (hb : b.natAbs < 2 ^ k) (hc : c.natAbs < 2 ^ l) (hd : d.natAbs < 2 ^ l) (h : k + l ≤ 900000) (hf : F i [.int (a * c), .int (b * d)] = pure (mk (a * c) (b * d))) : runDef F gv (d_multiplied i) [.num a b, .num c d] = pure (mk (a * c) (b * d)) := by
  simp [runDef, d_multiplied, b_multiplied, exs_cons, ex, ev, evs, pb, ix_num0, ix_num1, mul_ii (mul_small ha hc h), mul_ii (mul_small hb hd h), hf]
theorem law_plus_ok {i : Nat} {a b c d : Int} {k l : Nat} (ha : a.natAbs < 2 ^ k) (hb : b.natAbs < 2 ^ k) (hc : c.natAbs < 2 ^ l) (hd : d.natAbs < 2 ^ l) (h : k + l ≤ 900000) (hf : F i [.int (a * d + c * b), .int (b * d)] = pure (mk (a * d + c * b) (b * d))) : runDef F gv (d_law_plus i) [.num a b, .num c d] = pure (mk (a * d + c * b) (b * d)) := by
  simp [runDef, d_law_plus, b_law_plus, exs_cons, ex, ev, evs, pb, ix_num0, ix_num1, add_ii, mul_ii (mul_small ha hd h), mul_ii (mul_small hc hb (by omega)), mul_ii (mul_small hb hd h), hf]
theorem law_times_ok {i : Nat} {a b c d : Int} {k l : Nat} (ha : a.natAbs < 2 ^ k) (hb : b.natAbs < 2 ^ k) (hc : c.natAbs < 2 ^ l) (hd : d.natAbs < 2 ^ l) (h : k + l ≤ 900000) (hf : F i [.int (a * c), .int (b * d)] = pure (mk (a * c) (b * d))) : runDef F gv (d_law_times i) [.num a b, .num c d] = pure (mk (a * c) (b * d)) := by
  simp [runDef, d_law_times, b_law_times, exs_cons, ex, ev, evs, pb, ix_num0, ix_num1, mul_ii (mul_small ha hc h), mul_ii (mul_small hb hd h), hf]
theorem law_frac_ok {i : Nat} {n d : Int} (h : 0 < d) (hd : d.natAbs < 2 ^ 9000) (hf : F i [.int n, .int d] = pure (.int (Nat.gcd n.natAbs d.natAbs : Nat))) : runDef F gv (d_law_frac i) [.int n, .int d] = pure (mk n d) := by
  simp [runDef, d_law_frac, b_law_frac, exs_cons, exs_nil, ex, ev, evs, tst, pb, gt_ii, bindT, lift_some, hf, h, fdiv_ii (gcd_pos (n := n) h) (gcd_log h hd), mk]

/-! ### the greatest common divisor, step by step -/
theorem while_unf {c : DEnv → M Bool} {b : DEnv → M Fl} {k : Nat} {env : DEnv} : whileRun c b (k + 1) env = (c env >>= fun t => if t = true then (b env >>= fun fl => match fl with
      | .nx e => whileRun c b k e
      | .ct e => whileRun c b k e
      | .bk e => pure (Fl.nx e)
      | .rt v => pure (Fl.rt v)) else pure (Fl.nx env)) := by first | (rw [whileRun]; done) | (rw [whileRun]; rfl)
theorem while_stop {c : DEnv → M Bool} {b : DEnv → M Fl} {k : Nat} {env : DEnv} (h : c env = pure false) : whileRun c b (k + 1) env = pure (.nx env) := by
  rw [while_unf, h]; rfl
theorem while_step {c : DEnv → M Bool} {b : DEnv → M Fl} {k : Nat} {env e : DEnv} (h : c env = pure true) (h2 : b env = pure (.nx e)) : whileRun c b (k + 1) env = whileRun c b k e := by
  rw [while_unf, h, pb, if_pos rfl, h2]; rfl
theorem euclid : ∀ (m k x y : Nat), y < 2 ^ m → 2 * m + 2 ≤ k → whileRun (tst F gv (.cmp .gt (.var 1) (.int 0))) (exs F gv (.cons (.par 0 1 (.var 1) (.bin .mod (.blt .int1 (.cons (.var 0) .nil)) (.var 1))) .nil)) k [some (.int x), some (.int y)] =
    pure (.nx [some (.int (Nat.gcd x y : Nat)), some (.int 0)]) := by
  have stop : ∀ (k x : Nat), whileRun (tst F gv (.cmp .gt (.var 1) (.int 0))) (exs F gv (.cons (.par 0 1 (.var 1) (.bin .mod (.blt .int1 (.cons (.var 0) .nil)) (.var 1))) .nil)) (k + 1) [some (.int x), some (.int 0)] = pure (.nx [some (.int x), some (.int 0)]) := fun k x => by
    refine while_stop ?_
    simp [tst, ev, pb, gt_ii]
  have step : ∀ (k x y : Nat), 0 < y → whileRun (tst F gv (.cmp .gt (.var 1) (.int 0))) (exs F gv (.cons (.par 0 1 (.var 1) (.bin .mod (.blt .int1 (.cons (.var 0) .nil)) (.var 1))) .nil)) (k + 1) [some (.int x), some (.int y)] =
      whileRun (tst F gv (.cmp .gt (.var 1) (.int 0))) (exs F gv (.cons (.par 0 1 (.var 1) (.bin .mod (.blt .int1 (.cons (.var 0) .nil)) (.var 1))) .nil)) k [some (.int y), some (.int (x % y : Nat))] := fun k x y h => by
    refine while_step ?_ ?_
    · simp [tst, ev, pb, gt_ii, h]
    · simp [exs_cons, exs_nil, ex, ev, evs, pb, int_i, mod_ii (show (0 : Int) < y by omega)]
  intro m
  induction m with
  | zero =>
    intro k x y h hk
    obtain ⟨k, rfl⟩ : ∃ j, k = j + 1 := ⟨k - 1, by omega⟩
    obtain rfl : y = 0 := by simpa using h
    rw [show ((0 : Nat) : Int) = 0 from rfl, stop, Nat.gcd_zero_right]
  | succ m ih =>
    intro k x y h hk
    obtain ⟨k, rfl⟩ : ∃ j, k = j + 2 := ⟨k - 2, by omega⟩
    by_cases hy : y = 0
    · subst hy
      rw [show ((0 : Nat) : Int) = 0 from rfl, stop, Nat.gcd_zero_right]
    · have py : 0 < y := Nat.pos_of_ne_zero hy
      rw [step _ _ _ py]
      by_cases hr : x % y = 0
      · rw [hr, show ((0 : Nat) : Int) = 0 from rfl, stop, Nat.gcd_comm x y, Nat.gcd_rec y x, hr, Nat.gcd_zero_left]
      · have pr : 0 < x % y := Nat.pos_of_ne_zero hr
        have lr : x % y < y := Nat.mod_lt _ py
        rw [step _ _ _ pr]
        have ls : y % (x % y) < x % y := Nat.mod_lt _ pr
        have hd := Nat.div_add_mod y (x % y)
        have q1 : 1 ≤ y / (x % y) := (Nat.one_le_div_iff pr).mpr (Nat.le_of_lt lr)
        have q2 : x % y ≤ (x % y) * (y / (x % y)) := Nat.le_mul_of_pos_right _ q1
        have half : y % (x % y) < 2 ^ m := by
          rw [Nat.pow_succ] at h
          omega
        rw [ih k _ _ half (by omega)]
        rw [Nat.gcd_comm x y, Nat.gcd_rec y x, Nat.gcd_rec (x % y) y, Nat.gcd_comm (y % (x % y)) (x % y)]
theorem law_common_ok {n d : Int} (hd : d.natAbs < 2 ^ 9000) : runDef F gv d_law_common [.int n, .int d] = pure (.int (Nat.gcd n.natAbs d.natAbs : Nat)) := by
  have e := euclid (F := F) (gv := gv) 9000 whileFuel n.natAbs d.natAbs hd (by decide)
  simp [runDef, d_law_common, b_law_common, exs_cons, exs_nil, ex, ev, evs, pb, abs_i, e]
end
end Sh
end
section
set_option Elab.async false
set_option linter.all false
set_option maxRecDepth 100000
/-! the draws that all laws share -/
namespace Sh
open PySem PySem.Spec PyProof.Rows L2 Dd
/-- a spring at the place n, from which B numbers more may be drawn -/
def Spr (n : Nat) (B : Nat) (sto : Sto) : Prop := ∃ a b c : Int, sto[n]? = some (.lst [.int a, .int b, .int c]) ∧ 0 ≤ b ∧ b < 2147483648 ∧ 0 ≤ c ∧ c + B ≤ 2 ^ 100
theorem Spr.mono {n B B' : Nat} {sto : Sto} (h : Spr n B sto) (l : B' ≤ B) : Spr n B' sto := by
  obtain ⟨a, b, c, e, h1, h2, h3, h4⟩ := h
  exact ⟨a, b, c, e, h1, h2, h3, by omega⟩
/-- nothing but the list at n has changed -/
def At (n : Nat) (sto sto' : Sto) : Prop := ∃ xs, sto' = sto.set n (.lst xs)
theorem At.trans {n : Nat} {s1 s2 s3 : Sto} (h : At n s1 s2) (k : At n s2 s3) : At n s1 s3 := by
  obtain ⟨xs, rfl⟩ := h
  obtain ⟨ys, rfl⟩ := k
  exact ⟨ys, by rw [List.set_set]⟩
theorem At.other {n m : Nat} {s1 s2 : Sto} (h : At n s1 s2) (ne : n ≠ m) : s2[m]? = s1[m]? := by
  obtain ⟨xs, rfl⟩ := h
  exact List.getElem?_set_ne ne
theorem At.len {n : Nat} {s1 s2 : Sto} (h : At n s1 s2) : s2.length = s1.length := by
  obtain ⟨xs, rfl⟩ := h
  exact List.length_set
theorem idx_loc {n : Nat} {i : Int} {xs : List Dv} {v : Dv} {sto : Sto} (h : sto[n]? = some (.lst xs)) (hv : atI xs i = some v) : idxD (.loc n) (.int i) sto = .ok v sto := by
  show ((lstOf n >>= fun ys => match atI ys i with
    | some v => pure v
    | none => fail) : M Dv) sto = _
  have e : lstOf n sto = .ok xs sto := by
    show ((getC n >>= fun c => match c with
      | .lst xs => pure xs
      | .ro xs => pure xs
      | _ => fail) : M (List Dv)) sto = _
    rw [bind_ok_of (a := .lst xs) (s1 := sto) (by unfold getC; rw [h])]
    rfl
  rw [bind_ok_of e, hv]
  rfl
theorem getC_ok {n : Nat} {c : Ce} {sto : Sto} (h : sto[n]? = some c) : getC n sto = .ok c sto := by unfold getC; rw [h]
theorem setC_ok {n : Nat} {c d : Ce} {sto : Sto} (h : sto[n]? = some d) : setC n c sto = .ok () (sto.set n c) := by
  unfold setC
  rw [if_pos (List.getElem?_eq_some_iff.mp h).1]
theorem divmod_ii {i j : Int} (h : 0 < j) (h2 : j < 1073741824) : bltD .divmod [.int i, .int j] = pure (.tup [.int (i / j), .int (i % j)]) := by
  show (if 0 < j ∧ j < 1073741824 then pure (Dv.tup [Dv.int (i / j), Dv.int (i % j)]) else (fail : M Dv)) = _
  rw [if_pos ⟨h, h2⟩]
section
variable {F : Nat → List Dv → M Dv} {gv : Str → Option Dv}
theorem law_draw_ok {n B : Nat} {w : Int} {sto : Sto} (h : Spr n (B + 1) sto) (hw : 0 < w) (hw2 : w < 1073741824) : ∃ v sto', runDef F gv d_law_draw [.loc n, .int w] sto = .ok (.int v) sto' ∧ 0 ≤ v ∧ v < w ∧ Spr n B sto' ∧ At n sto sto' := by
  obtain ⟨a, b, c, e, hb, hb2, hc, hB⟩ := h
  have lt : n < sto.length := (List.getElem?_eq_some_iff.mp e).1
  have i0 : idxD (.loc n) (.int 0) sto = .ok (.int a) sto := idx_loc e rfl
  by_cases ha : 0 < a
  · refine ⟨a % w, sto.set n (.lst [.int (a / w), .int b, .int c]), ?_, Int.emod_nonneg _ (by omega), Int.emod_lt_of_pos _ hw, ⟨a / w, b, c, List.getElem?_set_self lt, hb, hb2, hc, by omega⟩, _, rfl⟩
    simp [runDef, d_law_draw, b_law_draw, exs_cons, exs_nil, ex, ev, evs, tst, bind_def, pure_def, i0, gt_ii, ha, divmod_ii hw hw2, getC_ok e, setC_ok e, show ixN 3 0 = some 0 from rfl]
  · have hc1 : c + 1 < 2 ^ 101 := by omega
    generalize et : (b * 39119 + (c + 1) * 60013 + 7) % 2147483549 = t
    have t0 : 0 ≤ t := et ▸ Int.emod_nonneg _ (by decide)
    have t1 : t < 2147483549 := et ▸ Int.emod_lt_of_pos _ (by decide)
    generalize eb : (t * (2 * (t / 29) + 30011) + (c + 1)) % 2147483549 = b1
    have b0 : 0 ≤ b1 := eb ▸ Int.emod_nonneg _ (by decide)
    have b2 : b1 < 2147483549 := eb ▸ Int.emod_lt_of_pos _ (by decide)
    have m1 : mulOk b 39119 = true := mul_small (k := 32) (l := 32) (by omega) (by decide) (by decide)
    have m2 : mulOk (c + 1) 60013 = true := mul_small (k := 101) (l := 32) (by omega) (by decide) (by decide)
    have m3 : mulOk 2 (t / 29) = true := mul_small (k := 32) (l := 32) (by decide) (by omega) (by decide)
    have m4 : mulOk t (2 * (t / 29) + 30011) = true := mul_small (k := 32) (l := 64) (by omega) (by omega) (by decide)
    have e1 : (sto.set n (.lst [.int a, .int b, .int (c + 1)]))[n]? = some (.lst [.int a, .int b, .int (c + 1)]) := List.getElem?_set_self lt
    have e2 : (sto.set n (.lst [.int a, .int b1, .int (c + 1)]))[n]? = some (.lst [.int a, .int b1, .int (c + 1)]) := List.getElem?_set_self lt
    have j1 : idxD (.loc n) (.int 1) (sto.set n (.lst [.int a, .int b, .int (c + 1)])) = .ok (.int b) (sto.set n (.lst [.int a, .int b, .int (c + 1)])) := idx_loc e1 rfl
    have j2 : idxD (.loc n) (.int 2) (sto.set n (.lst [.int a, .int b, .int (c + 1)])) = .ok (.int (c + 1)) (sto.set n (.lst [.int a, .int b, .int (c + 1)])) := idx_loc e1 rfl
    have j3 : idxD (.loc n) (.int 1) (sto.set n (.lst [.int a, .int b1, .int (c + 1)])) = .ok (.int b1) (sto.set n (.lst [.int a, .int b1, .int (c + 1)])) := idx_loc e2 rfl
    have i2 : idxD (.loc n) (.int 2) sto = .ok (.int c) sto := idx_loc e rfl
    refine ⟨b1 / 127 % w, sto.set n (.lst [.int a, .int b1, .int (c + 1)]), ?_, Int.emod_nonneg _ (by omega), Int.emod_lt_of_pos _ hw, ⟨a, b1, c + 1, e2, b0, by omega, by omega, by omega⟩, _, rfl⟩
    simp [runDef, d_law_draw, b_law_draw, exs_cons, exs_nil, ex, ev, evs, tst, bind_def, pure_def, i0, gt_ii, ha, i2, j1, j2, j3, add_ii, mul_ii m1, mul_ii m2, mul_ii m3, mul_ii m4, int_i, mod_ii (show (0 : Int) < 2147483549 by decide), mod_ii hw, fdiv_ii (i := t) (j := 29) (by decide) (by decide),
      fdiv_ii (i := b1) (j := 127) (by decide) (by decide), getC_ok e, getC_ok e1, setC_ok e, setC_ok e1, show ixN 3 2 = some 2 from rfl, show ixN 3 1 = some 1 from rfl, bindT, lift_some, et, eb, List.set_set]
end
end Sh
end
section
set_option Elab.async false
set_option linter.all false
set_option maxRecDepth 100000
/-! fractions as rational numbers; drawn fractions -/
namespace Sh
open PySem PySem.Spec PyProof.Rows L2 Dd
/-- a fraction's pair -/
def rv (q : Rat) : Dv := .num q.num q.den
theorem mk_rat {n d : Int} (h : 0 < d) : mk n d = rv (mkRat n d.toNat) := by
  have e : d.toNat ≠ 0 := by omega
  have e2 : d.natAbs = d.toNat := by omega
  unfold mk rv
  rw [Rat.num_mkRat, Rat.den_mkRat, if_neg e, if_neg e, e2, Nat.gcd_comm]
  congr 1
  rw [Int.natCast_ediv]
  congr 1
  omega
/-- both parts below 2 ^ k -/
def Sz (k : Nat) (q : Rat) : Prop := q.num.natAbs < 2 ^ k ∧ q.den < 2 ^ k
theorem Sz.mono {k l : Nat} {q : Rat} (h : Sz k q) (le : k ≤ l) : Sz l q :=
  ⟨Nat.lt_of_lt_of_le h.1 (Nat.pow_le_pow_right (by decide) le), Nat.lt_of_lt_of_le h.2 (Nat.pow_le_pow_right (by decide) le)⟩
abbrev Fs := Nat → List Dv → M Dv
def CommonS (F : Fs) (i : Nat) : Prop := ∀ n d : Int, d.natAbs < 2 ^ 9000 → F i [.int n, .int d] = pure (.int (Nat.gcd n.natAbs d.natAbs : Nat))
def FracS (F : Fs) (i : Nat) : Prop := ∀ n d : Int, 0 < d → d.natAbs < 2 ^ 9000 → F i [.int n, .int d] = pure (rv (mkRat n d.toNat))
def PlusS (F : Fs) (i : Nat) : Prop := ∀ (p q : Rat) (k l : Nat), Sz k p → Sz l q → k + l ≤ 9000 → F i [rv p, rv q] = pure (rv (p + q))
def TimesS (F : Fs) (i : Nat) : Prop := ∀ (p q : Rat) (k l : Nat), Sz k p → Sz l q → k + l ≤ 9000 → F i [rv p, rv q] = pure (rv (p * q))
def DrawS (F : Fs) (i : Nat) : Prop := ∀ (n B : Nat) (w : Int) (sto : Sto), Spr n (B + 1) sto → 0 < w → w < 1073741824 → ∃ v sto', F i [.loc n, .int w] sto = .ok (.int v) sto' ∧ 0 ≤ v ∧ v < w ∧ Spr n B sto' ∧ At n sto sto'
def PickS (F : Fs) (i : Nat) : Prop := ∀ (n B : Nat) (xs : List Dv) (sto : Sto), Spr n (B + 1) sto → xs ≠ [] → xs.length < 1073741824 → ∃ v sto', F i [.loc n, .tup xs] sto = .ok v sto' ∧ v ∈ xs ∧ Spr n B sto' ∧ At n sto sto'
section
variable {F : Fs} {gv : Str → Option Dv}
theorem common_s : ∀ n d : Int, d.natAbs < 2 ^ 9000 → runDef F gv d_law_common [.int n, .int d] = pure (.int (Nat.gcd n.natAbs d.natAbs : Nat)) := fun _ _ h => law_common_ok h
theorem frac_s {i : Nat} (h : CommonS F i) (n d : Int) (hd : 0 < d) (hz : d.natAbs < 2 ^ 9000) : runDef F gv (d_law_frac i) [.int n, .int d] = pure (rv (mkRat n d.toNat)) := by
  rw [law_frac_ok hd hz (h n d hz), mk_rat hd]
theorem fraction_s (n d : Int) (hd : 0 < d) (hz : d.natAbs < 2 ^ 9000) : runDef F gv d_fraction_of [.int n, .int d] = pure (rv (mkRat n d.toNat)) := by
  rw [fraction_of_ok hd hz, mk_rat hd]
theorem den_prod (p q : Rat) {k l : Nat} (h : Sz k p) (h' : Sz l q) (le : k + l ≤ 9000) : (0 : Int) < (p.den : Int) * q.den ∧ ((p.den : Int) * q.den).natAbs < 2 ^ 9000 ∧ ((p.den : Int) * q.den).toNat = p.den * q.den := by
  have e : (p.den : Int) * q.den = ((p.den * q.den : Nat) : Int) := by rw [Int.natCast_mul]
  rw [e]
  refine ⟨by have := Nat.mul_pos p.den_pos q.den_pos; omega, ?_, by rw [Int.toNat_natCast]⟩
  rw [Int.natAbs_natCast]
  refine Nat.lt_of_lt_of_le (Nat.mul_lt_mul'' h.2 h'.2) ?_
  rw [← Nat.pow_add]
  exact Nat.pow_le_pow_right (by decide) le
theorem rat_add (p q : Rat) : mkRat (p.num * q.den + q.num * p.den) (p.den * q.den) = p + q := by
  rw [← Rat.mkRat_add_mkRat _ _ p.den_nz q.den_nz, Rat.mkRat_self, Rat.mkRat_self]
theorem rat_mul (p q : Rat) : mkRat (p.num * q.num) (p.den * q.den) = p * q := by
  rw [← Rat.mkRat_mul_mkRat, Rat.mkRat_self, Rat.mkRat_self]
theorem law_plus_s {i : Nat} (f : FracS F i) (p q : Rat) (k l : Nat) (h : Sz k p) (h' : Sz l q) (le : k + l ≤ 9000) : runDef F gv (d_law_plus i) [rv p, rv q] = pure (rv (p + q)) := by
  obtain ⟨d1, d2, d3⟩ := den_prod p q h h' le
  have e : mk (p.num * q.den + q.num * p.den) (p.den * q.den) = rv (p + q) := by rw [mk_rat d1, d3, rat_add]
  rw [← e]
  exact law_plus_ok (k := k) (l := l) h.1 (by simpa using h.2) h'.1 (by simpa using h'.2) (by omega) (by rw [f _ _ d1 d2, mk_rat d1])
theorem law_times_s {i : Nat} (f : FracS F i) (p q : Rat) (k l : Nat) (h : Sz k p) (h' : Sz l q) (le : k + l ≤ 9000) : runDef F gv (d_law_times i) [rv p, rv q] = pure (rv (p * q)) := by
  obtain ⟨d1, d2, d3⟩ := den_prod p q h h' le
  have e : mk (p.num * q.num) (p.den * q.den) = rv (p * q) := by rw [mk_rat d1, d3, rat_mul]
  rw [← e]
  exact law_times_ok (k := k) (l := l) h.1 (by simpa using h.2) h'.1 (by simpa using h'.2) (by omega) (by rw [f _ _ d1 d2, mk_rat d1])
theorem added_s {i : Nat} (f : FracS F i) (p q : Rat) (k l : Nat) (h : Sz k p) (h' : Sz l q) (le : k + l ≤ 9000) : runDef F gv (d_added i) [rv p, rv q] = pure (rv (p + q)) := by
  obtain ⟨d1, d2, d3⟩ := den_prod p q h h' le
  have e : mk (p.num * q.den + q.num * p.den) (p.den * q.den) = rv (p + q) := by rw [mk_rat d1, d3, rat_add]
  rw [← e]
  exact added_ok (k := k) (l := l) h.1 (by simpa using h.2) h'.1 (by simpa using h'.2) (by omega) (by rw [f _ _ d1 d2, mk_rat d1])
theorem multiplied_s {i : Nat} (f : FracS F i) (p q : Rat) (k l : Nat) (h : Sz k p) (h' : Sz l q) (le : k + l ≤ 9000) : runDef F gv (d_multiplied i) [rv p, rv q] = pure (rv (p * q)) := by
  obtain ⟨d1, d2, d3⟩ := den_prod p q h h' le
  have e : mk (p.num * q.num) (p.den * q.den) = rv (p * q) := by rw [mk_rat d1, d3, rat_mul]
  rw [← e]
  exact multiplied_ok (k := k) (l := l) h.1 (by simpa using h.2) h'.1 (by simpa using h'.2) (by omega) (by rw [f _ _ d1 d2, mk_rat d1])
theorem pick_s {i : Nat} (f : DrawS F i) (n B : Nat) (xs : List Dv) (sto : Sto) (h : Spr n (B + 1) sto) (hx : xs ≠ []) (hl : xs.length < 1073741824) : ∃ v sto', runDef F gv (d_law_pick i) [.loc n, .tup xs] sto = .ok v sto' ∧ v ∈ xs ∧ Spr n B sto' ∧ At n sto sto' := by
  have pos : 0 < xs.length := List.length_pos_iff.mpr hx
  obtain ⟨v, sto', r, v0, v1, sp, at_⟩ := f n B xs.length sto h (by omega) (by omega)
  have len : bltD .len [.tup xs] sto = .ok (.int xs.length) sto := rfl
  have hv : v.toNat < xs.length := by omega
  have ix : idxD (.tup xs) (.int v) sto' = .ok xs[v.toNat] sto' := by
    have e : atI xs v = some xs[v.toNat] := by
      have := atI_nat (j := v.toNat) (List.getElem?_eq_getElem hv)
      rwa [show ((v.toNat : Nat) : Int) = v by omega] at this
    show ((match atI xs v with
      | some v => pure v
      | none => fail) : M Dv) sto' = _
    rw [e]
    rfl
  refine ⟨xs[v.toNat], sto', ?_, List.getElem_mem hv, sp, at_⟩
  simp [runDef, d_law_pick, b_law_pick, exs_cons, exs_nil, ex, ev, evs, bind_def, pure_def, len, r, ix]
end
end Sh
end
section
set_option Elab.async false
set_option linter.all false
set_option maxRecDepth 100000
/-! sizes of fractions; drawn fractions -/
namespace Sh
open PySem PySem.Spec PyProof.Rows L2 Dd
/-- q times D is whole, q is at most M either way -/
structure Bd (D M : Nat) (q : Rat) : Prop where
  whole : ∃ n : Int, q * (D : Rat) = (n : Rat)
  lo : -(M : Rat) ≤ q
  hi : q ≤ (M : Rat)
theorem nat_ne {D : Nat} (h : 0 < D) : (D : Rat) ≠ 0 := by
  intro e
  have : ((D : Nat) : Rat) = ((0 : Nat) : Rat) := e
  rw [Rat.natCast_inj] at this
  omega
theorem cast_le {M N : Nat} (h : M ≤ N) : (M : Rat) ≤ (N : Rat) := by
  rw [Rat.natCast_le_natCast]; exact h
theorem div_num (q : Rat) : q * (q.den : Rat) = (q.num : Rat) := by
  have e : (q.num : Rat) / (q.den : Rat) = q := by rw [← Rat.mkRat_eq_div, Rat.mkRat_self]
  have := nat_ne q.den_pos
  grind
theorem Bd.den {D M : Nat} {q : Rat} (h : Bd D M q) (hD : 0 < D) : q.den ∣ D := by
  obtain ⟨n, e⟩ := h.whole
  have ne := nat_ne hD
  have e2 : q = mkRat n D := by
    rw [Rat.mkRat_eq_div]
    grind
  rw [e2, Rat.den_mkRat, if_neg (by omega)]
  exact Nat.div_dvd_of_dvd (Nat.gcd_dvd_left _ _)
theorem le_iff {M : Nat} {q : Rat} : q.num.natAbs ≤ M * q.den ↔ -(M : Rat) ≤ q ∧ q ≤ (M : Rat) := by
  rw [Rat.le_iff, Rat.le_iff, Rat.neg_num, Rat.neg_den, Rat.num_natCast, Rat.den_natCast]
  have e : ((M * q.den : Nat) : Int) = (M : Int) * q.den := Int.natCast_mul _ _
  constructor
  · intro h
    have h2 : (q.num.natAbs : Int) ≤ (M : Int) * q.den := by omega
    constructor
    · have : -(M : Int) * q.den = -((M : Int) * q.den) := Int.neg_mul _ _
      omega
    · omega
  · rintro ⟨h1, h2⟩
    have : -(M : Int) * q.den = -((M : Int) * q.den) := Int.neg_mul _ _
    omega
theorem Bd.sz {D M k : Nat} {q : Rat} (h : Bd D M q) (hD : 0 < D) (h1 : M * D < 2 ^ k) (h2 : D < 2 ^ k) : Sz k q := by
  have le := Nat.le_of_dvd hD (h.den hD)
  exact ⟨Nat.lt_of_le_of_lt (Nat.le_trans (le_iff.mpr ⟨h.lo, h.hi⟩) (Nat.mul_le_mul_left _ le)) h1, Nat.lt_of_le_of_lt le h2⟩
theorem bd_self {M : Nat} {q : Rat} (h : q.num.natAbs ≤ M * q.den) : Bd q.den M q := ⟨⟨_, div_num q⟩, (le_iff.mp h).1, (le_iff.mp h).2⟩
theorem Bd.up {D E M N : Nat} {q : Rat} (h : Bd D M q) (d : D ∣ E) (l : M ≤ N) : Bd E N q := by
  obtain ⟨n, e⟩ := h.whole
  obtain ⟨k, rfl⟩ := d
  have c := cast_le l
  refine ⟨⟨n * k, ?_⟩, ?_, ?_⟩
  · rw [Rat.natCast_mul, Rat.intCast_mul, ← Rat.mul_assoc, e]; rfl
  · have := h.lo; grind
  · have := h.hi; grind
theorem Bd.add {D M N : Nat} {p q : Rat} (h : Bd D M p) (h' : Bd D N q) : Bd D (M + N) (p + q) := by
  obtain ⟨n, e⟩ := h.whole
  obtain ⟨m, e'⟩ := h'.whole
  obtain ⟨-, a, b⟩ := h
  obtain ⟨-, c, d⟩ := h'
  refine ⟨⟨n + m, ?_⟩, ?_, ?_⟩
  · rw [Rat.add_mul, e, e', Rat.intCast_add]
  · rw [Rat.natCast_add]; grind
  · rw [Rat.natCast_add]; grind
theorem Bd.mul {D E M N : Nat} {p q : Rat} (h : Bd D M p) (h' : Bd E N q) : Bd (D * E) (M * N) (p * q) := by
  obtain ⟨n, e⟩ := h.whole
  obtain ⟨m, e'⟩ := h'.whole
  obtain ⟨-, a, b⟩ := h
  obtain ⟨-, c, d⟩ := h'
  refine ⟨⟨n * m, ?_⟩, ?_, ?_⟩
  · rw [Rat.natCast_mul, Rat.intCast_mul, ← e, ← e']; grind
  · rw [Rat.natCast_mul]
    have h1 : 0 ≤ ((M : Rat) - p) * ((N : Rat) - q) := Rat.mul_nonneg (by grind) (by grind)
    have h2 : 0 ≤ ((M : Rat) + p) * ((N : Rat) + q) := Rat.mul_nonneg (by grind) (by grind)
    grind
  · rw [Rat.natCast_mul]
    have h1 : 0 ≤ ((M : Rat) - p) * ((N : Rat) + q) := Rat.mul_nonneg (by grind) (by grind)
    have h2 : 0 ≤ ((M : Rat) + p) * ((N : Rat) - q) := Rat.mul_nonneg (by grind) (by grind)
    grind
theorem bd_mk (t : Int) (u : Nat) (hu : 0 < u) : Bd u t.natAbs (mkRat t u) ∧ (mkRat t u).den ≤ u := by
  have gp : 0 < u.gcd t.natAbs := Nat.gcd_pos_of_pos_left _ hu
  have dv : (mkRat t u).den ∣ u := by
    rw [Rat.den_mkRat, if_neg (by omega)]
    exact Nat.div_dvd_of_dvd (Nat.gcd_dvd_left _ _)
  refine ⟨(bd_self ?_).up dv (Nat.le_refl _), Nat.le_of_dvd hu dv⟩
  rw [Rat.den_mkRat, Rat.num_mkRat, if_neg (by omega), if_neg (by omega)]
  have one : 1 ≤ u / u.gcd t.natAbs := (Nat.one_le_div_iff gp).mpr (Nat.gcd_le_left _ hu)
  have le : (t / ((u.gcd t.natAbs : Nat) : Int)).natAbs ≤ t.natAbs := by
    have dv : ((u.gcd t.natAbs : Nat) : Int) ∣ t := Int.natAbs_dvd_natAbs.mp (show u.gcd t.natAbs ∣ t.natAbs from Nat.gcd_dvd_right _ _)
    rw [Int.natAbs_ediv_of_dvd dv]
    exact Nat.div_le_self _ _
  exact Nat.le_trans le (Nat.le_mul_of_pos_right _ one)
def SmallS (F : Fs) (i : Nat) : Prop := ∀ (n B : Nat) (sto : Sto), Spr n (B + 3) sto → ∃ q sto', F i [.loc n] sto = .ok (rv q) sto' ∧ Bd 12 5 q ∧ Spr n B sto' ∧ At n sto sto'
def ShareS (F : Fs) (i : Nat) : Prop := ∀ (n B : Nat) (sto : Sto), Spr n (B + 4) sto → ∃ q sto', F i [.loc n] sto = .ok (rv q) sto' ∧ q.den ≤ 9973 ∧ Bd q.den 99991 q ∧ Spr n B sto' ∧ At n sto sto'
section
variable {F : Fs} {gv : Str → Option Dv}
theorem small_s {i j k : Nat} (f : DrawS F i) (g : FracS F j) (h : PickS F k) (n B : Nat) (sto : Sto) (sp : Spr n (B + 3) sto) : ∃ q sto', runDef F gv (d_law_small i j k) [.loc n] sto = .ok (rv q) sto' ∧ Bd 12 5 q ∧ Spr n B sto' ∧ At n sto sto' := by
  obtain ⟨t, s1, r1, m1, sp1, a1⟩ := h n (B + 2) [.int 1, .int 1, .int 1, .int 2, .int 2, .int 3, .int 5] sto sp (by simp) (by decide)
  obtain ⟨v, s2, r2, v0, v1, sp2, a2⟩ := f n (B + 1) 2 s1 sp1 (by decide) (by decide)
  obtain ⟨u, s3, r3, m3, sp3, a3⟩ := h n B [.int 1, .int 1, .int 2, .int 2, .int 3, .int 4, .int 6] s2 sp2 (by simp) (by decide)
  obtain ⟨t', rfl, ht⟩ : ∃ t' : Int, t = .int t' ∧ t'.natAbs ≤ 5 := by
    simp at m1
    rcases m1 with rfl | rfl | rfl | rfl <;> exact ⟨_, rfl, by decide⟩
  obtain ⟨u', rfl, hu, hu2, hu3⟩ : ∃ u' : Int, u = .int u' ∧ 0 < u' ∧ u' ≤ 6 ∧ u'.toNat ∣ 12 := by
    simp at m3
    rcases m3 with rfl | rfl | rfl | rfl | rfl <;> exact ⟨_, rfl, by decide, by decide, by decide⟩
  have tup1 : mkT [.int 1, .int 1, .int 1, .int 2, .int 2, .int 3, .int 5] = (pure (.tup [.int 1, .int 1, .int 1, .int 2, .int 2, .int 3, .int 5]) : M Dv) := rfl
  have tup2 : mkT [.int 1, .int 1, .int 2, .int 2, .int 3, .int 4, .int 6] = (pure (.tup [.int 1, .int 1, .int 2, .int 2, .int 3, .int 4, .int 6]) : M Dv) := rfl
  have big : u'.natAbs < 2 ^ 9000 := Nat.lt_of_lt_of_le (show u'.natAbs < 2 ^ 3 by omega) (Nat.pow_le_pow_right (by decide) (by decide))
  by_cases hv : v = 0
  · refine ⟨mkRat t' u'.toNat, s3, ?_, (bd_mk t' u'.toNat (by omega)).1.up hu3 ht, sp3, (a1.trans a2).trans a3⟩
    simp [runDef, d_law_small, b_law_small, exs_cons, exs_nil, ex, ev, evs, tst, bind_def, pure_def, tup1, tup2, r1, r2, r3, eq_ii, hv, bindT, lift_some, g t' u' hu big]
  · refine ⟨mkRat (0 - t') u'.toNat, s3, ?_, (bd_mk (0 - t') u'.toNat (by omega)).1.up hu3 (by omega), sp3, (a1.trans a2).trans a3⟩
    have := g (0 - t') u' hu big
    simp [runDef, d_law_small, b_law_small, exs_cons, exs_nil, ex, ev, evs, tst, bind_def, pure_def, tup1, tup2, r1, r2, r3, eq_ii, hv, bindT, lift_some, sub_ii] at this ⊢
    rw [this]
    rfl
theorem share_s {i j k : Nat} (f : DrawS F i) (g : FracS F j) (h : SmallS F k) (n B : Nat) (sto : Sto) (sp : Spr n (B + 4) sto) : ∃ q sto', runDef F gv (d_law_share i j k) [.loc n] sto = .ok (rv q) sto' ∧ q.den ≤ 9973 ∧ Bd q.den 99991 q ∧ Spr n B sto' ∧ At n sto sto' := by
  obtain ⟨t, s1, r1, t0, t1, sp1, a1⟩ := f n (B + 3) 12 sto sp (by decide) (by decide)
  by_cases ht : 0 < t
  · obtain ⟨q, s2, r2, b, sp2, a2⟩ := h n B s1 sp1
    have dq := Nat.le_of_dvd (by decide) (b.den (by decide))
    refine ⟨q, s2, ?_, by omega, ⟨⟨_, div_num q⟩, ?_, ?_⟩, sp2, a1.trans a2⟩
    · simp [runDef, d_law_share, b_law_share, exs_cons, exs_nil, ex, ev, evs, tst, bind_def, pure_def, r1, gt_ii, ht, r2]
    · have := b.lo
      have := cast_le (show 5 ≤ 99991 by decide)
      grind
    · have := b.hi
      have := cast_le (show 5 ≤ 99991 by decide)
      grind
  · obtain ⟨a, s2, r2, x0, x1, sp2, a2⟩ := f n (B + 2) 99991 s1 sp1 (by decide) (by decide)
    obtain ⟨v, s3, r3, v0, v1, sp3, a3⟩ := f n (B + 1) 2 s2 sp2 (by decide) (by decide)
    obtain ⟨d, s4, r4, d0, d1, sp4, a4⟩ := f n B 9973 s3 sp3 (by decide) (by decide)
    have big : (1 + d).natAbs < 2 ^ 9000 := Nat.lt_of_lt_of_le (show (1 + d).natAbs < 2 ^ 14 by omega) (Nat.pow_le_pow_right (by decide) (by decide))
    have at_ := ((a1.trans a2).trans a3).trans a4
    by_cases hv : v = 0
    · obtain ⟨b, dl⟩ := bd_mk (1 + a) (1 + d).toNat (by omega)
      refine ⟨mkRat (1 + a) (1 + d).toNat, s4, ?_, by omega, ⟨⟨_, div_num _⟩, ?_, ?_⟩, sp4, at_⟩
      · have := g (1 + a) (1 + d) (by omega) big
        simp [runDef, d_law_share, b_law_share, exs_cons, exs_nil, ex, ev, evs, tst, bind_def, pure_def, r1, gt_ii, ht, r2, r3, r4, eq_ii, hv, bindT, lift_some, add_ii, this]
      · have := b.lo
        have := cast_le (show (1 + a).natAbs ≤ 99991 by omega)
        grind
      · have := b.hi
        have := cast_le (show (1 + a).natAbs ≤ 99991 by omega)
        grind
    · obtain ⟨b, dl⟩ := bd_mk (0 - (1 + a)) (1 + d).toNat (by omega)
      refine ⟨mkRat (0 - (1 + a)) (1 + d).toNat, s4, ?_, by omega, ⟨⟨_, div_num _⟩, ?_, ?_⟩, sp4, at_⟩
      · have := g (0 - (1 + a)) (1 + d) (by omega) big
        simp [runDef, d_law_share, b_law_share, exs_cons, exs_nil, ex, ev, evs, tst, bind_def, pure_def, r1, gt_ii, ht, r2, r3, r4, eq_ii, hv, bindT, lift_some, add_ii, sub_ii] at this ⊢
        rw [this]
        rfl
      · have := b.lo
        have := cast_le (show (0 - (1 + a)).natAbs ≤ 99991 by omega)
        grind
      · have := b.hi
        have := cast_le (show (0 - (1 + a)).natAbs ≤ 99991 by omega)
        grind
end
end Sh
end
section
set_option Elab.async false
set_option linter.all false
set_option maxRecDepth 100000
/-! what only grows the store; comprehensions; tables -/
namespace Sh
open PySem PySem.Spec PyProof.Rows L2 Dd
def b_check_fraction (i_is_fraction : Nat) : Ss := (.cons (.ite (.bnot (.call i_is_fraction (.cons (.var 0) .nil))) (.cons .never .nil) .nil) .nil)
def d_check_fraction (i_is_fraction : Nat) : Dfn := ⟨"check_fraction", ["fraction"], ["fraction"], b_check_fraction i_is_fraction, []⟩
def b_is_row (i_is_fraction : Nat) : Ss := (.cons (.ret (.band (.isty true .tuple_ (.var 0)) (.band (.cmp .eq (.blt .len (.cons (.var 0) .nil)) (.var 1)) (.blt .all1 (.cons (.comp (.call i_is_fraction (.cons (.var 2) .nil)) (.nm 2) (.seq (.var 0)) .none [2]) .nil))))) .nil)
def d_is_row (i_is_fraction : Nat) : Dfn := ⟨"is_row", ["value", "many"], ["value", "many", "number"], b_is_row i_is_fraction, []⟩
def b_is_table (i_is_row : Nat) : Ss := (.cons (.ite (.bor (.isty false .tuple_ (.var 0)) (.bnot (.chain .le .le (.int (1)) (.blt .len (.cons (.var 0) .nil)) (.glb "MOST_ROWS")))) (.cons (.ret (.bl false)) .nil) .nil) (.cons (.ret (.blt .all1 (.cons (.comp (.call i_is_row (.cons (.var 1) (.cons (.blt .len (.cons (.var 0) .nil)) .nil))) (.nm 1) (.seq (.var 0)) .none [1]) .nil))) .nil))
def d_is_table (i_is_row : Nat) : Dfn := ⟨"is_table", ["value"], ["value", "row"], b_is_table i_is_row, []⟩
def b_are_tables (i_is_table : Nat) : Ss := (.cons (.ite (.bor (.isty false .tuple_ (.var 0)) (.cmp .notin (.blt .len (.cons (.var 0) .nil)) (.tup (.cons (.int (2)) (.cons (.int (3)) .nil))))) (.cons (.ret (.bl false)) .nil) .nil) (.cons (.ret (.blt .all1 (.cons (.comp (.band (.call i_is_table (.cons (.var 1) .nil)) (.cmp .eq (.blt .len (.cons (.var 1) .nil)) (.blt .len (.cons (.idx (.var 0) (.int (0))) .nil)))) (.nm 1) (.seq (.var 0)) .none [1]) .nil))) .nil))
def d_are_tables (i_is_table : Nat) : Dfn := ⟨"are_tables", ["value"], ["value", "table"], b_are_tables i_is_table, []⟩
def b_check_tables (i_are_tables : Nat) : Ss := (.cons (.ite (.bor (.bnot (.call i_are_tables (.cons (.var 0) .nil))) (.band (.var 1) (.cmp .eq (.blt .len (.cons (.var 0) .nil)) (.int (2))))) (.cons .never .nil) .nil) .nil)
def d_check_tables (i_are_tables : Nat) : Dfn := ⟨"check_tables", ["tables", "has_two"], ["tables", "has_two"], b_check_tables i_are_tables, []⟩
def b_check_closed (i_is_closed : Nat) : Ss := (.cons (.ite (.bnot (.blt .all1 (.cons (.comp (.call i_is_closed (.cons (.var 1) .nil)) (.nm 1) (.seq (.var 0)) .none [1]) .nil))) (.cons .never .nil) .nil) .nil)
def d_check_closed (i_is_closed : Nat) : Dfn := ⟨"check_closed", ["tables"], ["tables", "table"], b_check_closed i_is_closed, []⟩
def b_is_closed : Ss := (.cons (.ret (.blt .all1 (.cons (.comp2 (.cmp .eq (.var 1) (.glb "NIL")) (.tp [2, 3]) (.enum (.var 0)) .none (.nm 1) (.seq (.sl (.var 3) .none (.some (.bin .add (.var 2) (.int (1)))))) .none [2, 3, 1] [1]) .nil))) .nil)
def d_is_closed : Dfn := ⟨"is_closed", ["table"], ["table", "number", "at", "row"], b_is_closed, []⟩
def b_table_of_slant : Ss := (.cons (.ret (.blt .tuple1 (.cons (.comp (.blt .tuple1 (.cons (.comp (.ite (.cmp .eq (.var 3) (.var 2)) (.var 0) (.glb "NIL")) (.nm 3) (.rng1 (.var 1)) .none [3]) .nil)) (.nm 2) (.rng1 (.var 1)) .none [2]) .nil))) .nil)
def d_table_of_slant : Dfn := ⟨"table_of_slant", ["number", "many"], ["number", "many", "row", "column"], b_table_of_slant, []⟩
def b_table_plus (i_added : Nat) : Ss := (.cons (.ret (.blt .tuple1 (.cons (.comp (.blt .tuple1 (.cons (.comp (.call i_added (.cons (.var 4) (.cons (.var 5) .nil))) (.tp [4, 5]) (.zip (.var 2) (.var 3)) .none [4, 5]) .nil)) (.tp [2, 3]) (.zip (.var 0) (.var 1)) .none [2, 3]) .nil))) .nil)
def d_table_plus (i_added : Nat) : Dfn := ⟨"table_plus", ["first", "second"], ["first", "second", "row", "other", "one", "two"], b_table_plus i_added, []⟩
def b_table_times (i_multiplied : Nat) : Ss := (.cons (.ret (.blt .tuple1 (.cons (.comp (.blt .tuple1 (.cons (.comp (.call i_multiplied (.cons (.var 3) (.cons (.var 1) .nil))) (.nm 3) (.seq (.var 2)) .none [3]) .nil)) (.nm 2) (.seq (.var 0)) .none [2]) .nil))) .nil)
def d_table_times (i_multiplied : Nat) : Dfn := ⟨"table_times", ["table", "fraction"], ["table", "fraction", "row", "number"], b_table_times i_multiplied, []⟩
def b_over_one_number : Ss := (.cons (.asg (.nm 1) (.int (1))) (.cons (.for_ (.nm 2) (.seq (.var 0)) (.cons (.asg (.nm 1) (.blt .lcm (.cons (.var 1) (.cons (.idx (.var 2) (.int (1))) .nil)))) .nil)) (.cons (.ret (.tup (.cons (.comp (.bin .mul (.idx (.var 2) (.int (0))) (.bin .fdiv (.var 1) (.idx (.var 2) (.int (1))))) (.nm 2) (.seq (.var 0)) .none [2]) (.cons (.var 1) .nil)))) .nil)))
def d_over_one_number : Dfn := ⟨"over_one_number", ["fractions"], ["fractions", "lower", "number"], b_over_one_number, []⟩
def b_pairwise_product (i_fraction_of : Nat) : Ss := (.cons (.asg (.nm 2) (.blt .sum1 (.cons (.comp (.bin .mul (.var 3) (.var 4)) (.tp [3, 4]) (.zip (.idx (.var 0) (.int (0))) (.idx (.var 1) (.int (0)))) .none [3, 4]) .nil))) (.cons (.ret (.call i_fraction_of (.cons (.var 2) (.cons (.bin .mul (.idx (.var 0) (.int (1))) (.idx (.var 1) (.int (1)))) .nil)))) .nil))
def d_pairwise_product (i_fraction_of : Nat) : Dfn := ⟨"pairwise_product", ["row", "column"], ["row", "column", "total", "first", "second"], b_pairwise_product i_fraction_of, []⟩
def b_table_flow (i_multiplied : Nat) (i_table_of_slant : Nat) (i_table_plus : Nat) (i_table_product : Nat) (i_table_times : Nat) : Ss := (.cons (.asg (.nm 2) (.blt .len (.cons (.var 0) .nil))) (.cons (.asg (.nm 3) (.call i_table_of_slant (.cons (.glb "ONE") (.cons (.var 2) .nil)))) (.cons (.asg (.nm 4) (.var 3)) (.cons (.for_ (.nm 5) (.rng2 (.int (1)) (.var 2)) (.cons (.asg (.nm 3) (.call i_table_times (.cons (.call i_table_product (.cons (.var 3) (.cons (.var 0) .nil))) (.cons (.call i_multiplied (.cons (.var 1) (.cons (.num (.int (1)) (.var 5)) .nil))) .nil)))) (.cons (.asg (.nm 4) (.call i_table_plus (.cons (.var 4) (.cons (.var 3) .nil)))) .nil))) (.cons (.ret (.var 4)) .nil)))))
def d_table_flow (i_multiplied : Nat) (i_table_of_slant : Nat) (i_table_plus : Nat) (i_table_product : Nat) (i_table_times : Nat) : Dfn := ⟨"table_flow", ["table", "time"], ["table", "time", "many", "power", "total", "above"], b_table_flow i_multiplied i_table_of_slant i_table_plus i_table_product i_table_times, []⟩
def b_are_closed (i_check_tables : Nat) (i_is_closed : Nat) : Ss := (.cons (.ex (.call i_check_tables (.cons (.var 0) (.cons (.bl false) .nil)))) (.cons (.ret (.blt .all1 (.cons (.comp (.call i_is_closed (.cons (.var 1) .nil)) (.nm 1) (.seq (.var 0)) .none [1]) .nil))) .nil))
def d_are_closed (i_check_tables : Nat) (i_is_closed : Nat) : Dfn := ⟨"are_closed", ["tables"], ["tables", "table"], b_are_closed i_check_tables i_is_closed, []⟩
/-- nothing has changed but new things behind -/
def Gr (sto sto' : Sto) : Prop := ∃ t, sto' = sto ++ t
theorem Gr.refl (s : Sto) : Gr s s := ⟨[], by simp⟩
theorem Gr.trans {a b c : Sto} (h : Gr a b) (k : Gr b c) : Gr a c := by
  obtain ⟨t, rfl⟩ := h
  obtain ⟨u, rfl⟩ := k
  exact ⟨t ++ u, by rw [List.append_assoc]⟩
theorem Gr.push (s : Sto) (c : Ce) : Gr s (s ++ [c]) := ⟨[c], rfl⟩
theorem Gr.get {a b : Sto} {n : Nat} {c : Ce} (h : Gr a b) (e : a[n]? = some c) : b[n]? = some c := by
  obtain ⟨t, rfl⟩ := h
  rw [List.getElem?_append_left (List.getElem?_eq_some_iff.mp e).1]; exact e
/-- m gives a, and only grows the store -/
def Gv {α : Type} (m : M α) (a : α) : Prop := ∀ sto, ∃ sto', m sto = .ok a sto' ∧ Gr sto sto'
theorem gv_pure {α : Type} (a : α) : Gv (pure a) a := fun s => ⟨s, rfl, .refl s⟩
theorem gv_of {α : Type} {m : M α} {a : α} (h : m = pure a) : Gv m a := h ▸ gv_pure a
theorem gv_bind {α β : Type} {m : M α} {f : α → M β} {a : α} {b : β} (h : Gv m a) (k : Gv (f a) b) : Gv (m >>= f) b := fun s => by
  obtain ⟨s1, e1, g1⟩ := h s
  obtain ⟨s2, e2, g2⟩ := k s1
  exact ⟨s2, by rw [bind_ok_of e1]; exact e2, g1.trans g2⟩
theorem nxtM_ok {src : Src} {i : Nat} {o : Option Dv} {s : Sto} (h : nxt src i s = some o) : nxtM src i s = .ok o s := by
  unfold nxtM; rw [h]
/-- what is walked gives these items, whatever else is done -/
def Items (src : Src) (items : List Dv) : Prop := (∀ i s, nxt src i s = some items[i]?) ∧ ∀ s, items.length ≤ turns src s
theorem items_tup (xs : List Dv) : Items (.tup xs) xs := ⟨fun _ _ => rfl, fun _ => Nat.le_refl _⟩
theorem items_rng (lo : Int) (n : Nat) : Items (.rng lo n) ((List.range n).map fun (i : Nat) => .int (lo + i)) := by
  refine ⟨fun i s => ?_, fun s => by simp [turns]⟩
  simp only [nxt]
  congr 1
  by_cases h : i < n
  · rw [if_pos h, List.getElem?_map, List.getElem?_range h]; rfl
  · rw [if_neg h, List.getElem?_eq_none (by simpa using h)]
theorem items_zip (xs ys : List Dv) : Items (.zipT xs ys) (List.zipWith (fun x y => .tup [x, y]) xs ys) := by
  refine ⟨fun i s => ?_, fun s => by simp only [turns, List.length_zipWith]; omega⟩
  simp only [nxt]
  congr 1
  rw [List.getElem?_zipWith]
  cases xs[i]? <;> cases ys[i]? <;> rfl
theorem items_enum (xs : List Dv) : Items (.enumT xs) (xs.mapIdx fun i x => .tup [.int i, x]) := by
  refine ⟨fun i s => ?_, fun s => by simp [turns]⟩
  simp only [nxt]
  congr 1
  rw [List.getElem?_mapIdx]
theorem items_rev (xs : List Dv) : Items (.revT xs) xs.reverse := by
  refine ⟨fun i s => ?_, fun s => by simp [turns]⟩
  simp only [nxt]
  congr 1
  by_cases h : i < xs.length
  · rw [if_pos h, List.getElem?_reverse h]
  · rw [if_neg h, List.getElem?_eq_none (by simpa using h)]
theorem run_items {α : Type} {src : Src} {turn : Dv → M (Option Dv)} {g f : α → Dv} {all : List α} (it : Items src (all.map g)) (h : ∀ x ∈ all, Gv (turn (g x)) (some (f x))) (z : all.length ≤ 1000000) : ∀ (k i : Nat), all.length ≤ k + i → i ≤ all.length → Gv (compRun src turn k i ((all.take i).map f)) (all.map f)
  | 0, i, e, e2, s => by
    have n : nxt src i s = some none := by rw [it.1, List.getElem?_eq_none (by rw [List.length_map]; omega)]
    refine ⟨s, ?_, .refl s⟩
    show (nxtM src i >>= fun o => match o with
      | none => pure ((all.take i).map f)
      | some _ => fail) s = _
    rw [bind_ok_of (nxtM_ok n), List.take_of_length_le (by omega)]
    rfl
  | k + 1, i, e, e2, s => by
    have u : compRun src turn (k + 1) i ((all.take i).map f) = (nxtM src i >>= fun o => match o with
      | none => pure ((all.take i).map f)
      | some d => turn d >>= fun r => match r with
        | none => compRun src turn k (i + 1) ((all.take i).map f)
        | some y => if small ((all.take i).map f).length then compRun src turn k (i + 1) ((all.take i).map f ++ [y]) else fail) := rfl
    rw [u]
    by_cases hi : i < all.length
    · have n : nxt src i s = some (some (g all[i])) := by rw [it.1, List.getElem?_map, List.getElem?_eq_getElem hi]; rfl
      obtain ⟨s1, e1, g1⟩ := h all[i] (List.getElem_mem hi) s
      obtain ⟨s2, e3, g2⟩ := run_items it h z k (i + 1) (by omega) (by omega) s1
      refine ⟨s2, ?_, g1.trans g2⟩
      have sm : small ((all.take i).map f).length = true := decide_eq_true (by rw [List.length_map, List.length_take]; omega)
      rw [bind_ok_of (nxtM_ok n)]
      show (turn (g all[i]) >>= _) s = _
      rw [bind_ok_of e1]
      show (if small ((all.take i).map f).length then compRun src turn k (i + 1) ((all.take i).map f ++ [f all[i]]) else fail) s1 = _
      rw [if_pos sm, ← e3]
      congr 2
      rw [List.take_add_one, List.getElem?_eq_getElem hi, List.map_append]
      rfl
    · have n : nxt src i s = some none := by rw [it.1, List.getElem?_eq_none (by rw [List.length_map]; omega)]
      refine ⟨s, ?_, .refl s⟩
      rw [bind_ok_of (nxtM_ok n), List.take_of_length_le (by omega)]
      rfl
section
variable {F : Fs} {gv : Str → Option Dv}
/-- [elt for tg in what is walked] -/
theorem gv_comp {α : Type} {elt : E} {tg : Tg} {it : Dd.It} {own : List Nat} {env : DEnv} {src : Src} {all : List α} {g f : α → Dv} (hi : Gv (evi F gv it env) src) (im : Items src (all.map g)) (z : all.length ≤ 1000000)
    (h : ∀ x ∈ all, ∃ env', bindT tg (g x) (wipeD env own) = some env' ∧ Gv (ev F gv elt env') (f x)) : ∀ sto, ∃ n sto', ev F gv (.comp elt tg it .none own) env sto = .ok (.loc n) sto' ∧ sto'[n]? = some (.lst (all.map f)) ∧ Gr sto sto' := fun sto => by
  obtain ⟨s1, e1, g1⟩ := hi sto
  obtain ⟨s2, e2, g2⟩ := run_items (turn := fun d => lift (bindT tg d (wipeD env own)) >>= fun env' => tsto F gv .none env' >>= fun b => if b = true then (ev F gv elt env' >>= fun y => pure (some y)) else pure none) (f := f) im (fun x hx => by
    obtain ⟨env', q, gg⟩ := h x hx
    rw [q]
    show Gv (tsto F gv .none env' >>= fun b => if b = true then (ev F gv elt env' >>= fun y => pure (some y)) else pure none) _
    refine gv_bind (a := true) (gv_of (by unfold tsto; rfl)) ?_
    exact gv_bind gg (gv_pure _)) z (turns src s1) 0 (by have := im.2 s1; rw [List.length_map] at this; omega) (Nat.zero_le _) s1
  refine ⟨s2.length, s2 ++ [.lst (all.map f)], ?_, by simp, (g1.trans g2).trans (.push _ _)⟩
  have u : ev F gv (.comp elt tg it .none own) env = (evi F gv it env >>= fun src => turnsM src >>= fun k => compRun src (fun d => lift (bindT tg d (wipeD env own)) >>= fun env' => tsto F gv .none env' >>= fun b => if b = true then (ev F gv elt env' >>= fun y => pure (some y)) else pure none) k 0 [] >>= fun xs => newC (.lst xs)) := by rw [ev]
  rw [u, bind_ok_of e1]
  show (turnsM src >>= _) s1 = _
  rw [bind_ok_of (show turnsM src s1 = .ok (turns src s1) s1 from rfl)]
  have e2' : compRun src (fun d => lift (bindT tg d (wipeD env own)) >>= fun env' => tsto F gv .none env' >>= fun b => if b = true then (ev F gv elt env' >>= fun y => pure (some y)) else pure none) (turns src s1) 0 [] s1 = .ok (all.map f) s2 := e2
  rw [bind_ok_of e2']
  rfl
theorem tuple_at {n : Nat} {xs : List Dv} {s : Sto} (h : s[n]? = some (.lst xs)) (z : xs.length ≤ 1000000) : bltD .tuple1 [.loc n] s = .ok (.tup xs) s := by
  show ((lstOf n >>= fun xs => mkT xs) : M Dv) s = _
  have e : lstOf n s = .ok xs s := by
    show ((getC n >>= fun c => match c with
      | .lst xs => pure xs
      | .ro xs => pure xs
      | _ => fail) : M (List Dv)) s = _
    rw [bind_ok_of (getC_ok h)]; rfl
  rw [bind_ok_of e]
  show (if small xs.length then pure (Dv.tup xs) else (fail : M Dv)) s = _
  rw [if_pos (show small xs.length = true from decide_eq_true z)]
  rfl
/-- tuple([elt for tg in what is walked]) -/
theorem gv_tuple {α : Type} {elt : E} {tg : Tg} {it : Dd.It} {own : List Nat} {env : DEnv} {src : Src} {all : List α} {g f : α → Dv} (hi : Gv (evi F gv it env) src) (im : Items src (all.map g)) (z : all.length ≤ 1000000)
    (h : ∀ x ∈ all, ∃ env', bindT tg (g x) (wipeD env own) = some env' ∧ Gv (ev F gv elt env') (f x)) : Gv (ev F gv (.blt .tuple1 (.cons (.comp elt tg it .none own) .nil)) env) (.tup (all.map f)) := fun sto => by
  obtain ⟨n, s1, e1, c, g⟩ := gv_comp hi im z h sto
  refine ⟨s1, ?_, g⟩
  have t := tuple_at c (by rw [List.length_map]; exact z)
  rw [ev, evs, evs]
  rw [bind_def, bind_def, e1]
  exact t
theorem all_at {n : Nat} {bs : List Bool} {s : Sto} (h : s[n]? = some (.lst (bs.map .bl))) : bltD .all1 [.loc n] s = .ok (.bl (bs.all id)) s := by
  show ((lstOf n >>= fun xs => match blsD xs with
    | some bs => pure (.bl (bs.all id))
    | none => fail) : M Dv) s = _
  have e : lstOf n s = .ok (bs.map .bl) s := by
    show ((getC n >>= fun c => match c with
      | .lst xs => pure xs
      | .ro xs => pure xs
      | _ => fail) : M (List Dv)) s = _
    rw [bind_ok_of (getC_ok h)]; rfl
  have b : blsD (bs.map .bl) = some bs := by
    clear h e
    induction bs with
    | nil => rfl
    | cons b r ih => rw [List.map_cons, blsD, ih]; rfl
  rw [bind_ok_of e, b]
  rfl
/-- all([test for tg in what is walked]) -/
theorem gv_all {α : Type} {elt : E} {tg : Tg} {it : Dd.It} {own : List Nat} {env : DEnv} {src : Src} {all : List α} {g : α → Dv} {f : α → Bool} (hi : Gv (evi F gv it env) src) (im : Items src (all.map g)) (z : all.length ≤ 1000000)
    (h : ∀ x ∈ all, ∃ env', bindT tg (g x) (wipeD env own) = some env' ∧ Gv (ev F gv elt env') (.bl (f x))) : Gv (ev F gv (.blt .all1 (.cons (.comp elt tg it .none own) .nil)) env) (.bl (all.all f)) := fun sto => by
  obtain ⟨n, s1, e1, c, g⟩ := gv_comp (f := fun x => .bl (f x)) hi im z h sto
  refine ⟨s1, ?_, g⟩
  have t := all_at (bs := all.map f) (n := n) (s := s1) (by rw [List.map_map]; exact c)
  rw [List.all_map] at t
  rw [ev, evs, evs]
  rw [bind_def, bind_def, e1]
  exact t
end
end Sh
end
section
set_option Elab.async false
set_option linter.all false
set_option maxRecDepth 100000
/-! tables -/
namespace Sh
open PySem PySem.Spec PyProof.Rows L2 Dd
abbrev Mx := List (List Rat)
def row (r : List Rat) : Dv := .tup (r.map rv)
def tbl (m : Mx) : Dv := .tup (m.map row)
def slant (q : Rat) (n : Nat) : Mx := (List.range n).map fun i => (List.range n).map fun j => if j = i then q else 0
def plusM (a b : Mx) : Mx := List.zipWith (List.zipWith (· + ·)) a b
def timesM (a : Mx) (q : Rat) : Mx := a.map (·.map (· * q))
/-- every entry below 2 ^ k -/
def SzM (k : Nat) (a : Mx) : Prop := ∀ r ∈ a, ∀ q ∈ r, Sz k q
/-- not too great to be told -/
def Fits (a : Mx) : Prop := a.length ≤ 1000 ∧ ∀ r ∈ a, r.length ≤ 1000
section
variable {F : Fs} {gv : Str → Option Dv}
theorem gv_run {d : Dfn} {ds : List Dv} {env : DEnv} {v : Dv} (hl : ds.length = d.ps.length) (he : ds.map some ++ List.replicate (d.N.length - ds.length) none = env) (h : Gv (exs F gv d.body env) (.rt v)) : Gv (runDef F gv d ds) v := by
  unfold runDef
  rw [if_pos hl, he]
  exact gv_bind h (gv_pure v)
theorem gv_ret {e : E} {r : Ss} {env : DEnv} {v : Dv} (h : Gv (ev F gv e env) v) : Gv (exs F gv (.cons (.ret e) r) env) (.rt v) := by
  rw [exs_cons, ex]
  exact gv_bind (gv_bind h (gv_pure _)) (gv_pure _)
theorem gv_rng {e : E} {env : DEnv} {n : Nat} (h : ev F gv e env = pure (.int n)) (hn : n ≤ 1000000) : Gv (evi F gv (.rng1 e) env) (.rng 0 n) := by
  refine gv_of ?_
  rw [evi, h, pb]
  show (if -(2 ^ 62) ≤ (n : Int) ∧ (n : Int) < 2 ^ 62 then pure (Src.rng 0 (n : Int).toNat) else (fail : M Src)) = _
  rw [if_pos (by omega), Int.toNat_natCast]
theorem zero_rv : rv 0 = .num 0 1 := rfl
theorem slant_s (hn : gv "NIL" = some (.num 0 1)) (q : Rat) (n : Nat) (z : n ≤ 1000) : Gv (runDef F gv d_table_of_slant [rv q, .int n]) (tbl (slant q n)) := by
  refine gv_run rfl rfl (gv_ret ?_)
  have e : tbl (slant q n) = .tup ((List.range n).map fun i => row ((List.range n).map fun j => if j = i then q else 0)) := by
    unfold tbl slant
    rw [List.map_map]
    rfl
  rw [e]
  refine gv_tuple (all := List.range n) (g := fun i => .int (0 + (i : Int))) (gv_rng (n := n) (by simp [ev]) (by omega)) (items_rng 0 n) (by rw [List.length_range]; omega) fun i hi => ⟨[some (rv q), some (.int n), some (.int (0 + (i : Int))), none], rfl, ?_⟩
  have e : row ((List.range n).map fun j => if j = i then q else 0) = .tup ((List.range n).map fun j => rv (if j = i then q else 0)) := by
    unfold row
    rw [List.map_map]
    rfl
  rw [e]
  refine gv_tuple (all := List.range n) (g := fun i => .int (0 + (i : Int))) (gv_rng (n := n) (by simp [ev]) (by omega)) (items_rng 0 n) (by rw [List.length_range]; omega) fun j hj => ⟨[some (rv q), some (.int n), some (.int (0 + (i : Int))), some (.int (0 + (j : Int)))], rfl, gv_of ?_⟩
  by_cases c : j = i
  · subst c
    simp [ev, tst, pb, eq_ii]
  · have : ¬ ((0 : Int) + (j : Int) = 0 + (i : Int)) := by omega
    simp [ev, tst, pb, eq_ii, c, hn, zero_rv]
    intro h
    omega
theorem mem_zip {α β : Type} {xs : List α} {ys : List β} {p : α × β} (h : p ∈ xs.zip ys) : p.1 ∈ xs ∧ p.2 ∈ ys := ⟨(List.of_mem_zip h).1, (List.of_mem_zip h).2⟩
theorem pairs_eq {α : Type} (g : α → Dv) (xs ys : List α) : List.zipWith (fun x y => Dv.tup [x, y]) (xs.map g) (ys.map g) = (xs.zip ys).map fun p => .tup [g p.1, g p.2] := by
  rw [List.zip, List.map_zipWith, List.zipWith_map]
theorem plus_s {i : Nat} (f : PlusS F i) (a b : Mx) (k l : Nat) (ha : SzM k a) (hb : SzM l b) (fa : Fits a) (le : k + l ≤ 9000) : Gv (runDef F gv (d_table_plus i) [tbl a, tbl b]) (tbl (plusM a b)) := by
  refine gv_run rfl rfl (gv_ret ?_)
  have e : tbl (plusM a b) = .tup ((a.zip b).map fun p => row (List.zipWith (· + ·) p.1 p.2)) := by
    unfold tbl plusM
    rw [List.map_zipWith, List.zip, List.map_zipWith]
  rw [e]
  refine gv_tuple (g := fun p => .tup [row p.1, row p.2]) (src := .zipT (a.map row) (b.map row)) (gv_of (by simp [evi, ev, tbl, pb])) (by rw [← pairs_eq]; exact items_zip _ _) (by rw [List.length_zip]; have := fa.1; omega)
    fun p hp => ⟨[some (tbl a), some (tbl b), some (row p.1), some (row p.2), none, none], rfl, ?_⟩
  obtain ⟨h1, h2⟩ := mem_zip hp
  have e : row (List.zipWith (· + ·) p.1 p.2) = .tup ((p.1.zip p.2).map fun q => rv (q.1 + q.2)) := by
    unfold row
    rw [List.map_zipWith, List.zip, List.map_zipWith]
  rw [e]
  refine gv_tuple (g := fun p => .tup [rv p.1, rv p.2]) (src := .zipT (p.1.map rv) (p.2.map rv)) (gv_of (by simp [evi, ev, row, pb])) (by rw [← pairs_eq]; exact items_zip _ _) (by rw [List.length_zip]; have := fa.2 _ h1; omega)
    fun q hq => ⟨[some (tbl a), some (tbl b), some (row p.1), some (row p.2), some (rv q.1), some (rv q.2)], rfl, gv_of ?_⟩
  obtain ⟨g1, g2⟩ := mem_zip hq
  have := f q.1 q.2 k l (ha _ h1 _ g1) (hb _ h2 _ g2) le
  simp [ev, evs, pb, this]
theorem times_s {i : Nat} (f : TimesS F i) (a : Mx) (q : Rat) (k l : Nat) (ha : SzM k a) (hq : Sz l q) (fa : Fits a) (le : k + l ≤ 9000) : Gv (runDef F gv (d_table_times i) [tbl a, rv q]) (tbl (timesM a q)) := by
  refine gv_run rfl rfl (gv_ret ?_)
  have e : tbl (timesM a q) = .tup (a.map fun r => row (r.map (· * q))) := by
    unfold tbl timesM
    rw [List.map_map]
    rfl
  rw [e]
  refine gv_tuple (g := row) (src := .tup (a.map row)) (gv_of (by simp [evi, ev, tbl, pb, seqSrc])) (items_tup _) (by have := fa.1; omega) fun r hr => ⟨[some (tbl a), some (rv q), some (row r), none], rfl, ?_⟩
  have e : row (r.map (· * q)) = .tup (r.map fun x => rv (x * q)) := by
    unfold row
    rw [List.map_map]
    rfl
  rw [e]
  refine gv_tuple (g := rv) (src := .tup (r.map rv)) (gv_of (by simp [evi, ev, row, pb, seqSrc])) (items_tup _) (by have := fa.2 r hr; omega) fun x hx => ⟨[some (tbl a), some (rv q), some (row r), some (rv x)], rfl, gv_of ?_⟩
  have := f x q k l (ha _ hr _ hx) hq le
  simp [ev, evs, pb, this]
end
end Sh
end
section
set_option Elab.async false
set_option linter.all false
set_option maxRecDepth 100000
/-! what is told of fractions and tables -/
namespace Sh
open PySem PySem.Spec PyProof.Rows L2 Dd
def WholeS (F : Fs) (i : Nat) : Prop := ∀ n : Int, F i [.int n] = pure (.bl true)
def PairS (F : Fs) (i : Nat) : Prop := ∀ n d : Int, F i [.num n d] = pure (.bl true)
def IsFracS (F : Fs) (i : Nat) : Prop := ∀ q : Rat, F i [rv q] = pure (.bl true)
def IsRowS (F : Fs) (i : Nat) : Prop := ∀ (r : List Rat) (n : Nat), r.length = n → n ≤ 1000 → Gv (F i [row r, .int n]) (.bl true)
/-- a square table of n rows -/
def Sq (n : Nat) (a : Mx) : Prop := a.length = n ∧ ∀ r ∈ a, r.length = n
theorem Sq.fits {n : Nat} {a : Mx} (h : Sq n a) (z : n ≤ 1000) : Fits a := ⟨by rw [h.1]; exact z, fun r hr => by rw [h.2 r hr]; exact z⟩
def IsTableS (F : Fs) (i : Nat) : Prop := ∀ (a : Mx) (n : Nat), Sq n a → 1 ≤ n → n ≤ 12 → Gv (F i [tbl a]) (.bl true)
def tbls (ts : List Mx) : Dv := .tup (ts.map tbl)
def AreTablesS (F : Fs) (i : Nat) : Prop := ∀ (ts : List Mx) (n : Nat), (ts.length = 2 ∨ ts.length = 3) → (∀ a ∈ ts, Sq n a) → 1 ≤ n → n ≤ 12 → Gv (F i [tbls ts]) (.bl true)
section
variable {F : Fs} {gv : Str → Option Dv}
theorem whole_s (n : Int) : runDef F gv d_is_whole [.int n] = pure (.bl true) := by
  simp [runDef, d_is_whole, b_is_whole, exs_cons, ex, ev, pb, isD, tyD]
theorem len_num (n d : Int) : bltD .len [.num n d] = pure (.int 2) := rfl
theorem len_tup (xs : List Dv) : bltD .len [.tup xs] = pure (.int xs.length) := rfl
theorem pair_s (n d : Int) : runDef F gv d_is_pair [.num n d] = pure (.bl true) := by
  simp [runDef, d_is_pair, b_is_pair, exs_cons, ex, ev, evs, pb, isD, tyD, len_num, eq_ii]
theorem isfrac_s {i j : Nat} (hp : PairS F i) (hw : WholeS F j) (q : Rat) : runDef F gv (d_is_fraction i j) [rv q] = pure (.bl true) := by
  have g : Nat.gcd q.num.natAbs q.den = 1 := q.reduced
  have d := q.den_pos
  simp [runDef, d_is_fraction, b_is_fraction, exs_cons, exs_nil, ex, ev, evs, tst, pb, hp q.num q.den, hw q.num, hw q.den, rv, truth, bindT, setMany, lift_some, gt_ii, d, gcd_ii, g, eq_ii]
theorem gv_band {a b : E} {env : DEnv} {r : Bool} (h : Gv (ev F gv a env) (.bl true)) (k : Gv (ev F gv b env) (.bl r)) : Gv (ev F gv (.band a b) env) (.bl r) := by
  have u : ev F gv (.band a b) env = (ev F gv a env >>= fun d => match d with
    | .bl true => ev F gv b env
    | .bl false => pure (.bl false)
    | _ => fail) := by first | (rw [ev]; done) | (rw [ev]; rfl)
  rw [u]
  exact gv_bind h k
theorem isrow_s {i : Nat} (f : IsFracS F i) (r : List Rat) (n : Nat) (e : r.length = n) (z : n ≤ 1000) : Gv (runDef F gv (d_is_row i) [row r, .int n]) (.bl true) := by
  subst e
  refine gv_run rfl rfl (gv_ret ?_)
  refine gv_band (gv_of (by simp [ev, pb, isD, tyD, row])) (gv_band (gv_of (by simp [ev, evs, pb, row, len_tup, eq_ii])) ?_)
  have a : r.all (fun _ => true) = true := by simp
  rw [← a]
  exact gv_all (g := rv) (src := .tup (r.map rv)) (gv_of (by simp [evi, ev, row, pb, seqSrc])) (items_tup _) (by omega) fun x hx => ⟨[some (row r), some (.int r.length), some (rv x)], rfl, gv_of (by simp [ev, evs, pb, f x])⟩
theorem le_ok (i j : Int) : opC .le (.int i) (.int j) = pure (decide (i ≤ j)) := rfl
theorem istable_s {i : Nat} (f : IsRowS F i) (hm : gv "MOST_ROWS" = some (.int 12)) (a : Mx) (n : Nat) (sq : Sq n a) (n1 : 1 ≤ n) (n2 : n ≤ 12) : Gv (runDef F gv (d_is_table i) [tbl a]) (.bl true) := by
  have l := sq.1
  subst l
  refine gv_run rfl rfl ?_
  have head : ex F gv (.ite (.bor (.isty false .tuple_ (.var 0)) (.bnot (.chain .le .le (.int (1)) (.blt .len (.cons (.var 0) .nil)) (.glb "MOST_ROWS")))) (.cons (.ret (.bl false)) .nil) .nil) [some (tbl a), none] = pure (.nx [some (tbl a), none]) := by
    have h1 : (1 : Int) ≤ a.length := by omega
    have h2 : (a.length : Int) ≤ 12 := by omega
    simp [ex, exs_nil, tst, ev, evs, pb, isD, tyD, tbl, len_tup, le_ok, hm, h1, h2]
  show Gv (exs F gv (.cons (.ite (.bor (.isty false .tuple_ (.var 0)) (.bnot (.chain .le .le (.int (1)) (.blt .len (.cons (.var 0) .nil)) (.glb "MOST_ROWS")))) (.cons (.ret (.bl false)) .nil) .nil) _) [some (tbl a), none]) _
  rw [exs_cons, head]
  refine gv_bind (gv_pure _) (gv_ret ?_)
  have all : a.all (fun _ => true) = true := by simp
  rw [← all]
  refine gv_all (g := row) (src := .tup (a.map row)) (gv_of (by simp [evi, ev, tbl, pb, seqSrc])) (items_tup _) (by omega) fun r hr => ⟨[some (tbl a), some (row r)], rfl, ?_⟩
  have := f r a.length (sq.2 r hr) (by omega)
  have e : ev F gv (.call i (.cons (.var 1) (.cons (.blt .len (.cons (.var 0) .nil)) .nil))) [some (tbl a), some (row r)] = F i [row r, .int a.length] := by
    simp [ev, evs, pb, tbl, len_tup]
  rw [e]
  exact this
theorem idx0_tup (x : Dv) (r : List Dv) : idxD (.tup (x :: r)) (.int 0) = pure x := by
  show ((match atI (x :: r) 0 with
    | some v => pure v
    | none => fail) : M Dv) = _
  rw [show atI (x :: r) 0 = some x from atI_nat (j := 0) rfl]
theorem in23 (n : Nat) (h : n = 2 ∨ n = 3) : opC .notin (.int n) (.tup [.int 2, .int 3]) = pure false := by
  rcases h with rfl | rfl <;> rfl
theorem aretables_s {i : Nat} (f : IsTableS F i) (ts : List Mx) (n : Nat) (h : ts.length = 2 ∨ ts.length = 3) (sq : ∀ a ∈ ts, Sq n a) (n1 : 1 ≤ n) (n2 : n ≤ 12) : Gv (runDef F gv (d_are_tables i) [tbls ts]) (.bl true) := by
  refine gv_run rfl rfl ?_
  have head : ex F gv (.ite (.bor (.isty false .tuple_ (.var 0)) (.cmp .notin (.blt .len (.cons (.var 0) .nil)) (.tup (.cons (.int (2)) (.cons (.int (3)) .nil))))) (.cons (.ret (.bl false)) .nil) .nil) [some (tbls ts), none] = pure (.nx [some (tbls ts), none]) := by
    have t : mkT [.int 2, .int 3] = (pure (.tup [.int 2, .int 3]) : M Dv) := rfl
    have := in23 ts.length h
    simp [ex, exs_nil, tst, ev, evs, pb, isD, tyD, tbls, len_tup, t, this]
  show Gv (exs F gv (.cons (.ite (.bor (.isty false .tuple_ (.var 0)) (.cmp .notin (.blt .len (.cons (.var 0) .nil)) (.tup (.cons (.int (2)) (.cons (.int (3)) .nil))))) (.cons (.ret (.bl false)) .nil) .nil) _) [some (tbls ts), none]) _
  rw [exs_cons, head]
  refine gv_bind (gv_pure _) (gv_ret ?_)
  have all : ts.all (fun _ => true) = true := by simp
  rw [← all]
  refine gv_all (g := tbl) (src := .tup (ts.map tbl)) (gv_of (by simp [evi, ev, tbls, pb, seqSrc])) (items_tup _) (by omega) fun a ha => ⟨[some (tbls ts), some (tbl a)], rfl, ?_⟩
  obtain ⟨b, r, rfl⟩ : ∃ b r, ts = b :: r := by
    cases ts with
    | nil => cases ha
    | cons b r => exact ⟨b, r, rfl⟩
  have s1 := sq a ha
  have s2 := sq b (by simp)
  refine gv_band ?_ (gv_of ?_)
  · have e : ev F gv (.call i (.cons (.var 1) .nil)) [some (tbls (b :: r)), some (tbl a)] = F i [tbl a] := by simp [ev, evs, pb]
    rw [e]
    exact f a n s1 n1 n2
  · have i0 := idx0_tup (tbl b) (r.map tbl)
    have l1 : bltD .len [tbl a] = pure (.int n) := by show (pure (Dv.int (a.map row).length) : M Dv) = _; rw [List.length_map, s1.1]
    have l2 : bltD .len [tbl b] = pure (.int n) := by show (pure (Dv.int (b.map row).length) : M Dv) = _; rw [List.length_map, s2.1]
    simp [ev, evs, pb, tbls, i0, l1, l2, eq_ii]
/-- tables told right are let through -/
theorem checktables_s {i : Nat} (f : AreTablesS F i) (ts : List Mx) (n : Nat) (h : ts.length = 2 ∨ ts.length = 3) (sq : ∀ a ∈ ts, Sq n a) (n1 : 1 ≤ n) (n2 : n ≤ 12) (two : Bool) (ht : two = true → ts.length = 3) : Gv (runDef F gv (d_check_tables i) [tbls ts, .bl two]) .non := by
  unfold runDef
  rw [if_pos (show [tbls ts, Dv.bl two].length = (d_check_tables i).ps.length from rfl)]
  show Gv (exs F gv (.cons (.ite (.bor (.bnot (.call i (.cons (.var 0) .nil))) (.band (.var 1) (.cmp .eq (.blt .len (.cons (.var 0) .nil)) (.int (2))))) (.cons .never .nil) .nil) .nil) [some (tbls ts), some (.bl two)] >>= _) _
  refine gv_bind (a := .nx [some (tbls ts), some (.bl two)]) ?_ (gv_pure _)
  intro sto
  obtain ⟨s1, e1, g1⟩ := f ts n h sq n1 n2 sto
  refine ⟨s1, ?_, g1⟩
  have l : bltD .len [tbls ts] = pure (.int ts.length) := by show (pure (Dv.int (ts.map tbl).length) : M Dv) = _; rw [List.length_map]
  cases two with
  | false => simp [exs_cons, exs_nil, ex, tst, ev, evs, bind_def, pure_def, e1, truth]
  | true => simp [exs_cons, exs_nil, ex, tst, ev, evs, bind_def, pure_def, e1, truth, l, eq_ii, ht rfl]
theorem checkfrac_s {i : Nat} (f : IsFracS F i) (q : Rat) : runDef F gv (d_check_fraction i) [rv q] = pure .non := by
  simp [runDef, d_check_fraction, b_check_fraction, exs_cons, exs_nil, ex, tst, ev, evs, pb, f q, truth]
end
end Sh
end
section
set_option Elab.async false
set_option linter.all false
set_option maxRecDepth 100000
/-! closed tables -/
namespace Sh
open PySem PySem.Spec PyProof.Rows L2 Dd
theorem run_more {α : Type} {src : Src} {turn : Dv → M (Option Dv)} {g f : α → Dv} {all : List α} (it : Items src (all.map g)) (h : ∀ x ∈ all, Gv (turn (g x)) (some (f x))) (acc : List Dv) (z : acc.length + all.length ≤ 1000000) :
    ∀ (k i : Nat), all.length ≤ k + i → i ≤ all.length → Gv (compRun src turn k i (acc ++ (all.take i).map f)) (acc ++ all.map f)
  | 0, i, e, e2, s => by
    have n : nxt src i s = some none := by rw [it.1, List.getElem?_eq_none (by rw [List.length_map]; omega)]
    refine ⟨s, ?_, .refl s⟩
    show (nxtM src i >>= fun o => match o with
      | none => pure (acc ++ (all.take i).map f)
      | some _ => fail) s = _
    rw [bind_ok_of (nxtM_ok n), List.take_of_length_le (by omega)]
    rfl
  | k + 1, i, e, e2, s => by
    have u : compRun src turn (k + 1) i (acc ++ (all.take i).map f) = (nxtM src i >>= fun o => match o with
      | none => pure (acc ++ (all.take i).map f)
      | some d => turn d >>= fun r => match r with
        | none => compRun src turn k (i + 1) (acc ++ (all.take i).map f)
        | some y => if small (acc ++ (all.take i).map f).length then compRun src turn k (i + 1) (acc ++ (all.take i).map f ++ [y]) else fail) := rfl
    rw [u]
    by_cases hi : i < all.length
    · have n : nxt src i s = some (some (g all[i])) := by rw [it.1, List.getElem?_map, List.getElem?_eq_getElem hi]; rfl
      obtain ⟨s1, e1, g1⟩ := h all[i] (List.getElem_mem hi) s
      obtain ⟨s2, e3, g2⟩ := run_more it h acc z k (i + 1) (by omega) (by omega) s1
      refine ⟨s2, ?_, g1.trans g2⟩
      have sm : small (acc ++ (all.take i).map f).length = true := decide_eq_true (by rw [List.length_append, List.length_map, List.length_take]; omega)
      rw [bind_ok_of (nxtM_ok n)]
      show (turn (g all[i]) >>= _) s = _
      rw [bind_ok_of e1]
      show (if small (acc ++ (all.take i).map f).length then compRun src turn k (i + 1) (acc ++ (all.take i).map f ++ [f all[i]]) else fail) s1 = _
      have st : acc ++ (all.take i).map f ++ [f all[i]] = acc ++ (all.take (i + 1)).map f := by
        rw [List.take_add_one, List.getElem?_eq_getElem hi, List.map_append, List.append_assoc]
        rfl
      rw [if_pos sm, st]
      exact e3
    · have n : nxt src i s = some none := by rw [it.1, List.getElem?_eq_none (by rw [List.length_map]; omega)]
      refine ⟨s, ?_, .refl s⟩
      rw [bind_ok_of (nxtM_ok n), List.take_of_length_le (by omega)]
      rfl
theorem run2_items {α : Type} {src : Src} {turn : Dv → List Dv → M (List Dv)} {g : α → Dv} {ys : α → List Dv} {all : List α} {N : Nat} (it : Items src (all.map g)) (h : ∀ x ∈ all, ∀ acc : List Dv, acc.length + (ys x).length ≤ N → Gv (turn (g x) acc) (acc ++ ys x)) (z : (all.flatMap ys).length ≤ N) :
    ∀ (k i : Nat), all.length ≤ k + i → i ≤ all.length → Gv (compRun2 src turn k i ((all.take i).flatMap ys)) (all.flatMap ys)
  | 0, i, e, e2, s => by
    have n : nxt src i s = some none := by rw [it.1, List.getElem?_eq_none (by rw [List.length_map]; omega)]
    refine ⟨s, ?_, .refl s⟩
    show (nxtM src i >>= fun o => match o with
      | none => pure ((all.take i).flatMap ys)
      | some _ => fail) s = _
    rw [bind_ok_of (nxtM_ok n), List.take_of_length_le (by omega)]
    rfl
  | k + 1, i, e, e2, s => by
    have u : compRun2 src turn (k + 1) i ((all.take i).flatMap ys) = (nxtM src i >>= fun o => match o with
      | none => pure ((all.take i).flatMap ys)
      | some d => turn d ((all.take i).flatMap ys) >>= fun acc' => compRun2 src turn k (i + 1) acc') := rfl
    rw [u]
    by_cases hi : i < all.length
    · have n : nxt src i s = some (some (g all[i])) := by rw [it.1, List.getElem?_map, List.getElem?_eq_getElem hi]; rfl
      have step : (all.take i).flatMap ys ++ ys all[i] = (all.take (i + 1)).flatMap ys := by
        rw [List.take_add_one, List.getElem?_eq_getElem hi, List.flatMap_append]
        simp
      have len : ((all.take (i + 1)).flatMap ys).length ≤ N := by
        have : all.flatMap ys = (all.take (i + 1)).flatMap ys ++ (all.drop (i + 1)).flatMap ys := by
          rw [← List.flatMap_append, List.take_append_drop]
        rw [this, List.length_append] at z
        omega
      obtain ⟨s1, e1, g1⟩ := h all[i] (List.getElem_mem hi) ((all.take i).flatMap ys) (by rw [← step, List.length_append] at len; exact len) s
      obtain ⟨s2, e3, g2⟩ := run2_items it h z k (i + 1) (by omega) (by omega) s1
      refine ⟨s2, ?_, g1.trans g2⟩
      rw [bind_ok_of (nxtM_ok n)]
      show (turn (g all[i]) ((all.take i).flatMap ys) >>= _) s = _
      rw [bind_ok_of e1, step]
      exact e3
    · have n : nxt src i s = some none := by rw [it.1, List.getElem?_eq_none (by rw [List.length_map]; omega)]
      refine ⟨s, ?_, .refl s⟩
      rw [bind_ok_of (nxtM_ok n), List.take_of_length_le (by omega)]
      rfl
section
variable {F : Fs} {gv : Str → Option Dv}
/-- all([test for .. for ..]) -/
theorem gv_all2 {α β : Type} {elt : E} {tg tg1 : Tg} {it it1 : Dd.It} {own own1 : List Nat} {env : DEnv} {src : Src} {all : List α} {g : α → Dv} {inner : α → List β} {g1 : α → β → Dv} {f : α → β → Bool} {src1 : α → Src} {env1 : α → DEnv}
    (hi : Gv (evi F gv it env) src) (im : Items src (all.map g)) (z : (all.flatMap inner).length ≤ 1000000)
    (h : ∀ x ∈ all, bindT tg (g x) (wipeD env own) = some (env1 x) ∧ Gv (evi F gv it1 (env1 x)) (src1 x) ∧ Items (src1 x) ((inner x).map (g1 x)) ∧ ∀ y ∈ inner x, ∃ env2, bindT tg1 (g1 x y) (wipeD (env1 x) own1) = some env2 ∧ Gv (ev F gv elt env2) (.bl (f x y))) :
    Gv (ev F gv (.blt .all1 (.cons (.comp2 elt tg it .none tg1 it1 .none own own1) .nil)) env) (.bl (all.all fun x => (inner x).all (f x))) := fun sto => by
  obtain ⟨s1, e1, gr1⟩ := hi sto
  have flat : (all.flatMap fun x => (inner x).map fun y => Dv.bl (f x y)).length = (all.flatMap inner).length := by simp [List.length_flatMap]
  obtain ⟨s2, e2, gr2⟩ := run2_items (N := 1000000) (turn := turn2 F gv elt tg .none tg1 it1 .none own own1 env) (ys := fun x => (inner x).map fun y => Dv.bl (f x y)) im (fun x hx acc hz => by
    obtain ⟨q, g1', i1, hy⟩ := h x hx
    unfold turn2
    rw [q, lift_some, pb]
    refine gv_bind (a := true) (gv_of (by unfold tsto; rfl)) ?_
    rw [if_pos rfl]
    refine gv_bind g1' ?_
    intro s
    obtain ⟨s3, e3, g3⟩ := run_more (turn := turn1 F gv elt tg1 .none own1 (env1 x)) (f := fun y => Dv.bl (f x y)) i1 (fun y hy' => by
      obtain ⟨env2, q2, g2⟩ := hy y hy'
      unfold turn1
      rw [q2, lift_some, pb]
      refine gv_bind (a := true) (gv_of (by unfold tsto; rfl)) ?_
      rw [if_pos rfl]
      exact gv_bind g2 (gv_pure _)) acc (by rw [List.length_map] at hz; exact hz) (turns (src1 x) s) 0 (by have := i1.2 s; rw [List.length_map] at this; omega) (Nat.zero_le _) s
    refine ⟨s3, ?_, g3⟩
    rw [bind_ok_of (show turnsM (src1 x) s = .ok (turns (src1 x) s) s from rfl)]
    simpa using e3) (by rw [flat]; exact z) (turns src s1) 0 (by have := im.2 s1; rw [List.length_map] at this; omega) (Nat.zero_le _) s1
  have u : ev F gv (.comp2 elt tg it .none tg1 it1 .none own own1) env = (evi F gv it env >>= fun src => turnsM src >>= fun k => compRun2 src (turn2 F gv elt tg .none tg1 it1 .none own own1 env) k 0 [] >>= fun xs => newC (.lst xs)) := by first | (rw [ev]; done) | (rw [ev]; rfl)
  have e3 : ev F gv (.comp2 elt tg it .none tg1 it1 .none own own1) env sto = .ok (.loc s2.length) (s2 ++ [.lst (all.flatMap fun x => (inner x).map fun y => Dv.bl (f x y))]) := by
    rw [u, bind_ok_of e1]
    show (turnsM src >>= _) s1 = _
    rw [bind_ok_of (show turnsM src s1 = .ok (turns src s1) s1 from rfl)]
    have e2' : compRun2 src (turn2 F gv elt tg .none tg1 it1 .none own own1 env) (turns src s1) 0 [] s1 = .ok (all.flatMap fun x => (inner x).map fun y => Dv.bl (f x y)) s2 := e2
    rw [bind_ok_of e2']
    rfl
  refine ⟨s2 ++ [.lst (all.flatMap fun x => (inner x).map fun y => Dv.bl (f x y))], ?_, (gr1.trans gr2).trans (.push _ _)⟩
  have bs : (all.flatMap fun x => (inner x).map fun y => Dv.bl (f x y)) = ((all.flatMap fun x => (inner x).map (f x)).map Dv.bl) := by
    rw [List.map_flatMap]
    simp [List.map_map, Function.comp_def]
  have t := all_at (bs := all.flatMap fun x => (inner x).map (f x)) (n := s2.length) (s := s2 ++ [.lst (all.flatMap fun x => (inner x).map fun y => Dv.bl (f x y))]) (by rw [bs]; simp)
  have r : (all.flatMap fun x => (inner x).map (f x)).all id = all.all fun x => (inner x).all (f x) := by
    rw [List.all_flatMap]
    simp [List.all_map]
  rw [r] at t
  rw [ev, evs, evs]
  rw [bind_def, bind_def, e3]
  exact t
/-- nought where a column is not behind its row -/
def Closed (a : Mx) : Prop := ∀ (i : Nat) (r : List Rat), a[i]? = some r → ∀ q ∈ r.take (i + 1), q = 0
theorem sl_head (xs : List Dv) (n : Nat) (z : xs.length ≤ 1000000) : slD (.tup xs) none (some ((n : Nat) : Int)) = pure (.tup (xs.take n)) := by
  show mkT (Dd.cutD xs none (some ((n : Nat) : Int))) = _
  have e : Dd.cutD xs none (some ((n : Nat) : Int)) = xs.take n := by
    unfold Dd.cutD
    rw [HT.sIx_nat, HT.sIx_none, List.drop_zero, Nat.sub_zero]
    by_cases h : n ≤ xs.length
    · rw [Nat.min_eq_left h]
    · rw [Nat.min_eq_right (by omega), List.take_of_length_le (by omega), List.take_of_length_le (by omega)]
  rw [e]
  show (if small (xs.take n).length then pure (Dv.tup (xs.take n)) else (fail : M Dv)) = _
  rw [if_pos (show small (xs.take n).length = true from decide_eq_true (by rw [List.length_take]; omega))]
theorem nil_nil : opC .eq (.num 0 1) (.num 0 1) = pure true := rfl
theorem closed_s (hn : gv "NIL" = some (.num 0 1)) (a : Mx) (n : Nat) (sq : Sq n a) (z : n ≤ 1000) (cl : Closed a) : Gv (runDef F gv d_is_closed [tbl a]) (.bl true) := by
  refine gv_run rfl rfl (gv_ret ?_)
  have la := sq.1
  have all : (a.zipIdx.all fun x => (x.1.take (x.2 + 1)).all fun _ => true) = true := by simp
  rw [← all]
  have mem : ∀ x ∈ a.zipIdx, a[x.2]? = some x.1 := fun x hx => by
    have := List.mem_zipIdx_iff_getElem?.mp hx
    simpa using this
  refine gv_all2 (α := List Rat × Nat) (β := Rat) (all := a.zipIdx) (f := fun _ _ => true) (g := fun x => .tup [.int x.2, row x.1]) (src := .enumT (a.map row)) (inner := fun x => x.1.take (x.2 + 1)) (g1 := fun _ q => rv q) (src1 := fun x => .tup ((x.1.take (x.2 + 1)).map rv)) (env1 := fun x => [some (tbl a), none, some (.int x.2), some (row x.1)])
    (gv_of (by simp [evi, ev, tbl, pb])) ?_ ?_ fun x hx => ⟨rfl, gv_of ?_, items_tup _, fun y hy => ⟨[some (tbl a), some (rv y), some (.int x.2), some (row x.1)], rfl, gv_of ?_⟩⟩
  · have e : (a.map row).mapIdx (fun i x => Dv.tup [.int i, x]) = a.zipIdx.map fun x => .tup [.int x.2, row x.1] := by
      apply List.ext_getElem?
      intro i
      rw [List.getElem?_mapIdx, List.getElem?_map, List.getElem?_map, List.getElem?_zipIdx]
      cases a[i]? <;> simp
    rw [← e]
    exact items_enum _
  · have : ∀ (l : List (List Rat × Nat)), (∀ x ∈ l, x.1.length ≤ n) → (l.flatMap fun x => x.1.take (x.2 + 1)).length ≤ l.length * n := by
      intro l
      induction l with
      | nil => simp
      | cons x r ih =>
        intro h
        have h1 := h x (by simp)
        have h2 := ih fun y hy => h y (by simp [hy])
        rw [List.flatMap_cons, List.length_append, List.length_take, List.length_cons, Nat.succ_mul]
        omega
    have t := this a.zipIdx fun x hx => by
      rw [sq.2 x.1 (List.mem_of_getElem? (mem x hx))]
      exact Nat.le_refl _
    rw [List.length_zipIdx, la] at t
    have : n * n ≤ 1000 * 1000 := Nat.mul_le_mul z z
    omega
  · have lr : (x.1.map rv).length ≤ 1000000 := by rw [List.length_map, sq.2 x.1 (List.mem_of_getElem? (mem x hx))]; omega
    have := sl_head (x.1.map rv) (x.2 + 1) lr
    rw [Int.natCast_add] at this
    simp [evi, ev, evo, pb, row, add_ii] at this ⊢
    rw [this]
    rfl
  · have := cl x.2 x.1 (mem x hx) y hy
    subst this
    have e : rv 0 = .num 0 1 := rfl
    simp [ev, pb, hn, e, nil_nil]
end
end Sh
end
section
set_option Elab.async false
set_option linter.all false
set_option maxRecDepth 100000
/-! loops; rows over one number -/
namespace Sh
open PySem PySem.Spec PyProof.Rows L2 Dd
theorem for_go {src : Src} {turn : Dv → DEnv → M Fl} {items : List Dv} (I : Nat → DEnv → Sto → Prop) (reads : ∀ i env s, I i env s → nxt src i s = some items[i]?)
    (step : ∀ i x env s, items[i]? = some x → I i env s → ∃ env' s', turn x env s = .ok (.nx env') s' ∧ I (i + 1) env' s') :
    ∀ (k i : Nat) (env : DEnv) (s : Sto), items.length ≤ k + i → i ≤ items.length → I i env s → ∃ env' s', forRun src turn k i env s = .ok (.nx env') s' ∧ I items.length env' s'
  | 0, i, env, s, e, e2, h => by
    obtain rfl : i = items.length := by omega
    have n := reads _ _ _ h
    rw [List.getElem?_eq_none (Nat.le_refl _)] at n
    refine ⟨env, s, ?_, h⟩
    show (nxtM src items.length >>= fun o => match o with
      | none => pure (Fl.nx env)
      | some _ => fail) s = _
    rw [bind_ok_of (nxtM_ok n)]
    rfl
  | k + 1, i, env, s, e, e2, h => by
    have u : forRun src turn (k + 1) i env = (nxtM src i >>= fun o => match o with
      | none => pure (Fl.nx env)
      | some d => turn d env >>= fun fl => match fl with
        | .nx e => forRun src turn k (i + 1) e
        | .ct e => forRun src turn k (i + 1) e
        | .bk e => pure (Fl.nx e)
        | .rt v => pure (Fl.rt v)) := by first | (rw [forRun]; done) | (rw [forRun]; rfl)
    rw [u]
    by_cases hi : i < items.length
    · have n := reads _ _ _ h
      rw [List.getElem?_eq_getElem hi] at n
      obtain ⟨env1, s1, e1, h1⟩ := step i items[i] env s (List.getElem?_eq_getElem hi) h
      obtain ⟨env2, s2, e3, h2⟩ := for_go I reads step k (i + 1) env1 s1 (by omega) (by omega) h1
      refine ⟨env2, s2, ?_, h2⟩
      rw [bind_ok_of (nxtM_ok n)]
      show (turn items[i] env >>= _) s = _
      rw [bind_ok_of e1]
      exact e3
    · obtain rfl : i = items.length := by omega
      have n := reads _ _ _ h
      rw [List.getElem?_eq_none (Nat.le_refl _)] at n
      refine ⟨env, s, ?_, h⟩
      rw [bind_ok_of (nxtM_ok n)]
      rfl
section
variable {F : Fs} {gv : Str → Option Dv}
/-- for tg in .. -/
theorem for_ok {tg : Tg} {it : Dd.It} {b : Ss} {env : DEnv} {sto s1 : Sto} {src : Src} {items : List Dv} (I : Nat → DEnv → Sto → Prop) (hi : evi F gv it env sto = .ok src s1) (ht : items.length ≤ turns src s1) (h0 : I 0 env s1)
    (reads : ∀ i env s, I i env s → nxt src i s = some items[i]?)
    (step : ∀ i x env s, items[i]? = some x → I i env s → ∃ env1 env' s', bindT tg x env = some env1 ∧ exs F gv b env1 s = .ok (.nx env') s' ∧ I (i + 1) env' s') :
    ∃ env' s', ex F gv (.for_ tg it b) env sto = .ok (.nx env') s' ∧ I items.length env' s' := by
  obtain ⟨env', s', e, h⟩ := for_go (turn := fun d env => lift (bindT tg d env) >>= fun env' => exs F gv b env') I reads (fun i x env s hx h => by
    obtain ⟨env1, env', s', q, e, h'⟩ := step i x env s hx h
    refine ⟨env', s', ?_, h'⟩
    rw [q, lift_some, pb]
    exact e) (turns src s1) 0 env s1 (by omega) (Nat.zero_le _) h0
  refine ⟨env', s', ?_, h⟩
  have u : ex F gv (.for_ tg it b) env = (evi F gv it env >>= fun src => turnsM src >>= fun k => forRun src (fun d env => lift (bindT tg d env) >>= fun env' => exs F gv b env') k 0 env) := by rw [ex]
  rw [u, bind_ok_of hi, bind_ok_of (show turnsM src s1 = .ok (turns src s1) s1 from rfl)]
  exact e
theorem run_ret {d : Dfn} {ds : List Dv} {env : DEnv} {v : Dv} {s s' : Sto} (hl : ds.length = d.ps.length) (he : ds.map some ++ List.replicate (d.N.length - ds.length) none = env) (h : exs F gv d.body env s = .ok (.rt v) s') : runDef F gv d ds s = .ok v s' := by
  unfold runDef
  rw [if_pos hl, he, bind_ok_of h]
  rfl
theorem exs_step {st : S} {r : Ss} {env env' : DEnv} {s s1 : Sto} (h : ex F gv st env s = .ok (.nx env') s1) : exs F gv (.cons st r) env s = exs F gv r env' s1 := by
  rw [exs_cons, bind_ok_of h]
theorem exs_ret {e : E} {r : Ss} {env : DEnv} {v : Dv} {s s1 : Sto} (h : ev F gv e env s = .ok v s1) : exs F gv (.cons (.ret e) r) env s = .ok (.rt v) s1 := by
  rw [exs_cons, ex]
  show ((ev F gv e env >>= fun d => pure (Fl.rt d)) >>= _) s = _
  rw [bind_assoc_M, bind_ok_of h]
  rfl
/-- the least common multiple of the lower parts -/
def lowers (l : Nat) (r : List Rat) : Nat := r.foldl (fun l q => Nat.lcm l q.den) l
theorem lowers_dvd (D : Nat) : ∀ (r : List Rat) (l : Nat), l ∣ D → (∀ q ∈ r, q.den ∣ D) → lowers l r ∣ D
  | [], l, h, _ => h
  | q :: r, l, h, hr => lowers_dvd D r _ (Nat.lcm_dvd h (hr q (by simp))) fun x hx => hr x (by simp [hx])
theorem dvd_lowers : ∀ (r : List Rat) (l : Nat), l ∣ lowers l r ∧ ∀ q ∈ r, q.den ∣ lowers l r
  | [], l => ⟨Nat.dvd_refl _, fun _ h => nomatch h⟩
  | x :: r, l => by
    obtain ⟨h1, h2⟩ := dvd_lowers r (Nat.lcm l x.den)
    refine ⟨Nat.dvd_trans (Nat.dvd_lcm_left _ _) h1, fun q hq => ?_⟩
    rcases List.mem_cons.mp hq with rfl | hq
    · exact Nat.dvd_trans (Nat.dvd_lcm_right _ _) h1
    · exact h2 q hq
theorem lowers_take (r : List Rat) (i : Nat) (q : Rat) (h : r[i]? = some q) : lowers 1 (r.take (i + 1)) = Nat.lcm (lowers 1 (r.take i)) q.den := by
  unfold lowers
  rw [List.take_add_one, h, List.foldl_append]
  rfl
/-- a row's numbers over one lower part -/
def over (r : List Rat) : List Int := r.map fun q => q.num * ((lowers 1 r / q.den : Nat) : Int)
theorem over_s (r : List Rat) (D k : Nat) (hD : 0 < D) (dv : ∀ q ∈ r, q.den ∣ D) (hz : D < 2 ^ k) (hk : k ≤ 4000) (nz : ∀ q ∈ r, q.num.natAbs < 2 ^ 8000) (len : r.length ≤ 1000) (sto : Sto) :
    ∃ n sto', runDef F gv d_over_one_number [row r] sto = .ok (.tup [.loc n, .int (lowers 1 r : Nat)]) sto' ∧ sto'[n]? = some (.lst ((over r).map .int)) ∧ Gr sto sto' := by
  have big : ∀ l : Nat, l ∣ D → l < 2 ^ 4000 := fun l hl => Nat.lt_of_le_of_lt (Nat.le_of_dvd hD hl) (Nat.lt_of_lt_of_le hz (Nat.pow_le_pow_right (by decide) hk))
  have lg : ∀ l : Nat, l ∣ D → ((l : Nat) : Int).natAbs.log2 < 13000 := fun l hl => by
    rw [Int.natAbs_natCast]
    exact Nat.lt_of_lt_of_le (log_lt (big l hl) (by decide)) (by decide)
  have tk : ∀ i, lowers 1 (r.take i) ∣ D := fun i => lowers_dvd D _ 1 (Nat.one_dvd _) fun q hq => dv q (List.mem_of_mem_take hq)
  obtain ⟨env', s', e1, h1⟩ := for_ok (F := F) (gv := gv) (tg := .nm 2) (it := .seq (.var 0)) (b := .cons (.asg (.nm 1) (.blt .lcm (.cons (.var 1) (.cons (.idx (.var 2) (.int (1))) .nil)))) .nil) (env := [some (row r), some (.int 1), none]) (sto := sto) (s1 := sto) (src := .tup (r.map rv)) (items := r.map rv)
    (fun i env s => s = sto ∧ ∃ x, env = [some (row r), some (.int (lowers 1 (r.take i) : Nat)), x]) (by simp [evi, ev, row, pb, seqSrc, bind_def, pure_def]) (Nat.le_refl _) ⟨rfl, none, rfl⟩ (fun _ _ _ _ => rfl) (by
      rintro i x env s hx ⟨rfl, y, rfl⟩
      rw [List.getElem?_map] at hx
      obtain ⟨q, hq, rfl⟩ := Option.map_eq_some_iff.mp hx
      have hl := lcm_ii (lg _ (tk i)) (lg _ (dv q (List.mem_of_getElem? hq)))
      rw [Int.natAbs_natCast, Int.natAbs_natCast] at hl
      refine ⟨_, _, s, rfl, ?_, rfl, some (rv q), rfl⟩
      rw [lowers_take r i q hq]
      simp [exs_cons, exs_nil, ex, ev, evs, bind_def, pure_def, rv, ix_num1, hl, bindT, lift_some])
  obtain ⟨rfl, x, rfl⟩ := h1
  rw [List.length_map, List.take_length] at e1
  obtain ⟨n, s2, e2, c2, g2⟩ := gv_comp (F := F) (gv := gv) (elt := .bin .mul (.idx (.var 2) (.int (0))) (.bin .fdiv (.var 1) (.idx (.var 2) (.int (1))))) (tg := .nm 2) (it := .seq (.var 0)) (own := [2]) (env := [some (row r), some (.int (lowers 1 r : Nat)), x]) (src := .tup (r.map rv)) (all := r) (g := rv)
    (f := fun q => .int (q.num * ((lowers 1 r / q.den : Nat) : Int))) (gv_of (by simp [evi, ev, row, pb, seqSrc])) (items_tup _) (by omega) (fun q hq => ⟨[some (row r), some (.int (lowers 1 r : Nat)), some (rv q)], rfl, gv_of (by
      have L := lowers_dvd D r 1 (Nat.one_dvd _) dv
      have f1 := fdiv_ii (i := ((lowers 1 r : Nat) : Int)) (j := (q.den : Int)) (by have := q.den_pos; omega) (by rw [Int.natAbs_natCast]; exact Nat.lt_of_lt_of_le (log_lt (big _ (dv q hq)) (by decide)) (by decide))
      rw [← Int.natCast_ediv] at f1
      have m1 := mul_ii (mul_small (a := q.num) (b := ((lowers 1 r / q.den : Nat) : Int)) (k := 8000) (l := 4000) (nz q hq) (by rw [Int.natAbs_natCast]; exact Nat.lt_of_le_of_lt (Nat.div_le_self _ _) (big _ L)) (by decide))
      simp only [ev, pb, rv, ix_num0, ix_num1, List.getElem?_cons_succ, List.getElem?_cons_zero, f1, m1])⟩) s'
  refine ⟨n, s2, ?_, by rw [c2, over, List.map_map]; rfl, g2⟩
  have t2 : mkT [.loc n, .int (lowers 1 r : Nat)] = (pure (.tup [.loc n, .int (lowers 1 r : Nat)]) : M Dv) := rfl
  refine run_ret rfl rfl ?_
  have first : ex F gv (.asg (.nm 1) (.int (1))) [some (row r), none, none] s' = .ok (.nx [some (row r), some (.int 1), none]) s' := by simp [ex, ev, bind_def, pure_def, bindT, lift_some]
  show exs F gv b_over_one_number [some (row r), none, none] s' = _
  unfold b_over_one_number
  rw [exs_step first, exs_step e1]
  refine exs_ret ?_
  have items : evs F gv (.cons (.comp (.bin .mul (.idx (.var 2) (.int (0))) (.bin .fdiv (.var 1) (.idx (.var 2) (.int (1))))) (.nm 2) (.seq (.var 0)) .none [2]) (.cons (.var 1) .nil)) [some (row r), some (.int (lowers 1 r : Nat)), x] s' = .ok [.loc n, .int (lowers 1 r : Nat)] s2 := by
    rw [evs, bind_ok_of e2]
    simp [evs, ev, bind_def, pure_def]
  rw [ev, bind_ok_of items, t2]
  rfl
end
end Sh
end
section
set_option Elab.async false
set_option linter.all false
set_option maxRecDepth 100000
/-! a row with a column -/
namespace Sh
open PySem PySem.Spec PyProof.Rows L2 Dd
theorem run_at {α : Type} {src : Src} {turn : Dv → M (Option Dv)} {g f : α → Dv} {all : List α} {s0 : Sto} (it : ∀ s, Gr s0 s → ∀ i, nxt src i s = some (all.map g)[i]?) (h : ∀ x ∈ all, ∀ s, Gr s0 s → ∃ s', turn (g x) s = .ok (some (f x)) s' ∧ Gr s s') (z : all.length ≤ 1000000) :
    ∀ (k i : Nat) (s : Sto), Gr s0 s → all.length ≤ k + i → i ≤ all.length → ∃ s', compRun src turn k i ((all.take i).map f) s = .ok (all.map f) s' ∧ Gr s s'
  | 0, i, s, gr, e, e2 => by
    have n : nxt src i s = some none := by rw [it s gr, List.getElem?_eq_none (by rw [List.length_map]; omega)]
    refine ⟨s, ?_, .refl s⟩
    show (nxtM src i >>= fun o => match o with
      | none => pure ((all.take i).map f)
      | some _ => fail) s = _
    rw [bind_ok_of (nxtM_ok n), List.take_of_length_le (by omega)]
    rfl
  | k + 1, i, s, gr, e, e2 => by
    have u : compRun src turn (k + 1) i ((all.take i).map f) = (nxtM src i >>= fun o => match o with
      | none => pure ((all.take i).map f)
      | some d => turn d >>= fun r => match r with
        | none => compRun src turn k (i + 1) ((all.take i).map f)
        | some y => if small ((all.take i).map f).length then compRun src turn k (i + 1) ((all.take i).map f ++ [y]) else fail) := rfl
    rw [u]
    by_cases hi : i < all.length
    · have n : nxt src i s = some (some (g all[i])) := by rw [it s gr, List.getElem?_map, List.getElem?_eq_getElem hi]; rfl
      obtain ⟨s1, e1, g1⟩ := h all[i] (List.getElem_mem hi) s gr
      obtain ⟨s2, e3, g2⟩ := run_at it h z k (i + 1) s1 (gr.trans g1) (by omega) (by omega)
      refine ⟨s2, ?_, g1.trans g2⟩
      have sm : small ((all.take i).map f).length = true := decide_eq_true (by rw [List.length_map, List.length_take]; omega)
      rw [bind_ok_of (nxtM_ok n)]
      show (turn (g all[i]) >>= _) s = _
      rw [bind_ok_of e1]
      show (if small ((all.take i).map f).length then compRun src turn k (i + 1) ((all.take i).map f ++ [f all[i]]) else fail) s1 = _
      have st : (all.take i).map f ++ [f all[i]] = (all.take (i + 1)).map f := by
        rw [List.take_add_one, List.getElem?_eq_getElem hi, List.map_append]
        rfl
      rw [if_pos sm, st]
      exact e3
    · have n : nxt src i s = some none := by rw [it s gr, List.getElem?_eq_none (by rw [List.length_map]; omega)]
      refine ⟨s, ?_, .refl s⟩
      rw [bind_ok_of (nxtM_ok n), List.take_of_length_le (by omega)]
      rfl
section
variable {F : Fs} {gv : Str → Option Dv}
/-- [elt for tg in what is walked], as the store is -/
theorem comp_at {α : Type} {elt : E} {tg : Tg} {it : Dd.It} {own : List Nat} {env : DEnv} {src : Src} {all : List α} {g f : α → Dv} {sto s1 : Sto} (hi : evi F gv it env sto = .ok src s1) (im : ∀ s, Gr s1 s → ∀ i, nxt src i s = some (all.map g)[i]?) (ht : all.length ≤ turns src s1) (z : all.length ≤ 1000000)
    (h : ∀ x ∈ all, ∃ env', bindT tg (g x) (wipeD env own) = some env' ∧ ∀ s, Gr s1 s → ∃ s', ev F gv elt env' s = .ok (f x) s' ∧ Gr s s') : ∃ n sto', ev F gv (.comp elt tg it .none own) env sto = .ok (.loc n) sto' ∧ sto'[n]? = some (.lst (all.map f)) ∧ Gr s1 sto' := by
  obtain ⟨s2, e2, g2⟩ := run_at (turn := fun d => lift (bindT tg d (wipeD env own)) >>= fun env' => tsto F gv .none env' >>= fun b => if b = true then (ev F gv elt env' >>= fun y => pure (some y)) else pure none) (f := f) im (fun x hx s gr => by
    obtain ⟨env', q, gg⟩ := h x hx
    obtain ⟨s', e, g'⟩ := gg s gr
    refine ⟨s', ?_, g'⟩
    rw [q, lift_some, pb]
    rw [bind_ok_of (show tsto F gv .none env' s = .ok true s by unfold tsto; rfl), if_pos rfl, bind_ok_of e]
    rfl) z (turns src s1) 0 s1 (.refl _) (by omega) (Nat.zero_le _)
  refine ⟨s2.length, s2 ++ [.lst (all.map f)], ?_, by simp, g2.trans (.push _ _)⟩
  have u : ev F gv (.comp elt tg it .none own) env = (evi F gv it env >>= fun src => turnsM src >>= fun k => compRun src (fun d => lift (bindT tg d (wipeD env own)) >>= fun env' => tsto F gv .none env' >>= fun b => if b = true then (ev F gv elt env' >>= fun y => pure (some y)) else pure none) k 0 [] >>= fun xs => newC (.lst xs)) := by rw [ev]
  rw [u, bind_ok_of hi, bind_ok_of (show turnsM src s1 = .ok (turns src s1) s1 from rfl)]
  have e2' : compRun src (fun d => lift (bindT tg d (wipeD env own)) >>= fun env' => tsto F gv .none env' >>= fun b => if b = true then (ev F gv elt env' >>= fun y => pure (some y)) else pure none) (turns src s1) 0 [] s1 = .ok (all.map f) s2 := e2
  rw [bind_ok_of e2']
  rfl
theorem sum_at {n : Nat} {is : List Int} {s : Sto} (h : s[n]? = some (.lst (is.map .int))) : bltD .sum1 [.loc n] s = .ok (.int is.sum) s := by
  show ((lstOf n >>= fun xs => match intsD xs with
    | some is => pure (.int is.sum)
    | none => fail) : M Dv) s = _
  have e : lstOf n s = .ok (is.map .int) s := by
    show ((getC n >>= fun c => match c with
      | .lst xs => pure xs
      | .ro xs => pure xs
      | _ => fail) : M (List Dv)) s = _
    rw [bind_ok_of (getC_ok h)]; rfl
  have b : intsD (is.map .int) = some is := by
    clear h e
    induction is with
    | nil => rfl
    | cons b r ih => rw [List.map_cons, intsD, ih]; rfl
  rw [bind_ok_of e, b]
  rfl
def dot (r c : List Rat) : Rat := (List.zipWith (· * ·) r c).sum
theorem over_val {r : List Rat} {q : Rat} (h : q ∈ r) : ((q.num * ((lowers 1 r / q.den : Nat) : Int) : Int) : Rat) = q * ((lowers 1 r : Nat) : Rat) := by
  obtain ⟨c, e⟩ := (dvd_lowers r 1).2 q h
  rw [e, Nat.mul_div_cancel_left _ q.den_pos, Rat.intCast_mul, Rat.natCast_mul, ← div_num q]
  show q * (q.den : Rat) * ((c : Int) : Rat) = q * ((q.den : Rat) * (c : Rat))
  rw [Rat.intCast_natCast]
  grind
theorem dot_over : ∀ (xs ys : List Rat) (a b : Rat) (f g : Rat → Int), (∀ x ∈ xs, (f x : Rat) = x * a) → (∀ y ∈ ys, (g y : Rat) = y * b) → (((List.zipWith (· * ·) (xs.map f) (ys.map g)).sum : Int) : Rat) = dot xs ys * (a * b)
  | [], ys, a, b, f, g, _, _ => by
    show ((0 : Int) : Rat) = (0 : Rat) * (a * b)
    have : ((0 : Int) : Rat) = 0 := rfl
    rw [this]; grind
  | x :: xs, [], a, b, f, g, _, _ => by
    show ((0 : Int) : Rat) = (0 : Rat) * (a * b)
    have : ((0 : Int) : Rat) = 0 := rfl
    rw [this]; grind
  | x :: xs, y :: ys, a, b, f, g, hf, hg => by
    have ih := dot_over xs ys a b f g (fun z hz => hf z (by simp [hz])) (fun z hz => hg z (by simp [hz]))
    unfold dot at ih ⊢
    simp only [List.map_cons, List.zipWith_cons_cons, List.sum_cons]
    rw [Rat.intCast_add, Rat.intCast_mul, ih, hf x (by simp), hg y (by simp)]
    grind
/-- a row told over one number, as the store is -/
def OverV (s : Sto) (d : Dv) (r : List Rat) : Prop := ∃ n, d = .tup [.loc n, .int (lowers 1 r : Nat)] ∧ s[n]? = some (.lst ((over r).map .int))
theorem OverV.go {s s' : Sto} {d : Dv} {r : List Rat} (h : OverV s d r) (g : Gr s s') : OverV s' d r := by
  obtain ⟨n, e, c⟩ := h
  exact ⟨n, e, g.get c⟩
theorem ix_two0 (a b : Dv) : idxD (.tup [a, b]) (.int 0) = pure a := rfl
theorem ix_two1 (a b : Dv) : idxD (.tup [a, b]) (.int 1) = pure b := rfl
theorem pairwise_s {i : Nat} (f : FracS F i) (r c : List Rat) (D E' : Nat) (hD : 0 < D) (hE : 0 < E') (dr : ∀ q ∈ r, q.den ∣ D) (dc : ∀ q ∈ c, q.den ∣ E') (hz : D < 2 ^ 4000) (hz' : E' < 2 ^ 4000) (nr : ∀ q ∈ r, q.num.natAbs < 2 ^ 8000) (nc : ∀ q ∈ c, q.num.natAbs < 2 ^ 8000) (len : r.length ≤ 1000)
    (dr' dc' : Dv) (sto : Sto) (h1 : OverV sto dr' r) (h2 : OverV sto dc' c) : ∃ sto', runDef F gv (d_pairwise_product i) [dr', dc'] sto = .ok (rv (dot r c)) sto' ∧ Gr sto sto' := by
  obtain ⟨n, rfl, cn⟩ := h1
  obtain ⟨m, rfl, cm⟩ := h2
  have low : ∀ (r : List Rat) (D : Nat), 0 < D → (∀ q ∈ r, q.den ∣ D) → D < 2 ^ 4000 → 0 < lowers 1 r ∧ lowers 1 r < 2 ^ 4000 := fun r D hD dv hz => by
    have dd := lowers_dvd D r 1 (Nat.one_dvd _) dv
    exact ⟨Nat.pos_of_dvd_of_pos dd hD, Nat.lt_of_le_of_lt (Nat.le_of_dvd hD dd) hz⟩
  obtain ⟨L0, L1⟩ := low r D hD dr hz
  obtain ⟨M0, M1⟩ := low c E' hE dc hz'
  have bits : ∀ (r : List Rat), lowers 1 r < 2 ^ 4000 → (∀ q ∈ r, q.num.natAbs < 2 ^ 8000) → ∀ x ∈ over r, x.natAbs < 2 ^ 12000 := fun r hL hn x hx => by
    obtain ⟨q, hq, rfl⟩ := List.mem_map.mp hx
    rw [Int.natAbs_mul, Int.natAbs_natCast, show (12000 : Nat) = 8000 + 4000 from rfl, Nat.pow_add]
    exact Nat.mul_lt_mul'' (hn q hq) (Nat.lt_of_le_of_lt (Nat.div_le_self _ _) hL)
  have lr : (over r).length = r.length := by unfold over; rw [List.length_map]
  obtain ⟨k, s1, e1, c1, g1⟩ := comp_at (F := F) (gv := gv) (elt := .bin .mul (.var 3) (.var 4)) (tg := .tp [3, 4]) (it := .zip (.idx (.var 0) (.int (0))) (.idx (.var 1) (.int (0)))) (own := [3, 4]) (env := [some (.tup [.loc n, .int (lowers 1 r : Nat)]), some (.tup [.loc m, .int (lowers 1 c : Nat)]), none, none, none]) (src := .zipL n m) (sto := sto) (s1 := sto)
    (all := (over r).zip (over c)) (g := fun p => .tup [.int p.1, .int p.2]) (f := fun p => .int (p.1 * p.2)) (by simp [evi, ev, bind_def, pure_def, ix_two0, getC_ok cn, getC_ok cm]) (fun s gr i => by
      have a1 := gr.get cn
      have a2 := gr.get cm
      simp only [nxt, a1, a2]
      congr 1
      rw [List.getElem?_map, List.getElem?_map, List.getElem?_map, List.zip, List.getElem?_zipWith]
      cases (over r)[i]? <;> cases (over c)[i]? <;> rfl) (by simp only [turns, cn]; rw [List.length_zip, List.length_map]; omega) (by rw [List.length_zip]; omega) (fun p hp => ⟨[some (.tup [.loc n, .int (lowers 1 r : Nat)]), some (.tup [.loc m, .int (lowers 1 c : Nat)]), none, some (.int p.1), some (.int p.2)], rfl, fun s gr => ⟨s, by
        obtain ⟨m1, m2⟩ := mem_zip hp
        have mo := mul_ii (mul_small (bits r L1 nr p.1 m1) (bits c M1 nc p.2 m2) (by decide))
        simp [ev, bind_def, pure_def, mo], .refl s⟩⟩)
  have tot : ((over r).zip (over c)).map (fun p => Dv.int (p.1 * p.2)) = (List.zipWith (· * ·) (over r) (over c)).map .int := by
    rw [List.zip, List.map_zipWith, List.map_zipWith]
  rw [tot] at c1
  have su := sum_at c1
  have e2 : ev F gv (.blt .sum1 (.cons (.comp (.bin .mul (.var 3) (.var 4)) (.tp [3, 4]) (.zip (.idx (.var 0) (.int (0))) (.idx (.var 1) (.int (0)))) .none [3, 4]) .nil)) [some (.tup [.loc n, .int (lowers 1 r : Nat)]), some (.tup [.loc m, .int (lowers 1 c : Nat)]), none, none, none] sto = .ok (.int (List.zipWith (· * ·) (over r) (over c)).sum) s1 := by
    rw [ev, evs, evs]
    rw [bind_def, bind_def, e1]
    exact su
  refine ⟨s1, run_ret rfl rfl ?_, g1⟩
  have first : ex F gv (.asg (.nm 2) (.blt .sum1 (.cons (.comp (.bin .mul (.var 3) (.var 4)) (.tp [3, 4]) (.zip (.idx (.var 0) (.int (0))) (.idx (.var 1) (.int (0)))) .none [3, 4]) .nil))) [some (.tup [.loc n, .int (lowers 1 r : Nat)]), some (.tup [.loc m, .int (lowers 1 c : Nat)]), none, none, none] sto =
      .ok (.nx [some (.tup [.loc n, .int (lowers 1 r : Nat)]), some (.tup [.loc m, .int (lowers 1 c : Nat)]), some (.int (List.zipWith (· * ·) (over r) (over c)).sum), none, none]) s1 := by
    rw [ex, bind_ok_of e2]
    rfl
  show exs F gv (b_pairwise_product i) [some (.tup [.loc n, .int (lowers 1 r : Nat)]), some (.tup [.loc m, .int (lowers 1 c : Nat)]), none, none, none] sto = _
  unfold b_pairwise_product
  rw [exs_step first]
  refine exs_ret ?_
  have pos : (0 : Int) < (lowers 1 r : Nat) * (lowers 1 c : Nat) := by
    rw [← Int.natCast_mul]
    have := Nat.mul_pos L0 M0
    omega
  have mo : mulOk (lowers 1 r : Nat) (lowers 1 c : Nat) = true := mul_small (k := 4000) (l := 4000) (by rw [Int.natAbs_natCast]; exact L1) (by rw [Int.natAbs_natCast]; exact M1) (by decide)
  have sz : ((lowers 1 r : Int) * (lowers 1 c : Nat)).natAbs < 2 ^ 9000 := by
    rw [Int.natAbs_mul, Int.natAbs_natCast, Int.natAbs_natCast]
    exact Nat.lt_of_lt_of_le (Nat.mul_lt_mul'' L1 M1) (by rw [← Nat.pow_add]; exact Nat.pow_le_pow_right (by decide) (by decide))
  have call := f (List.zipWith (· * ·) (over r) (over c)).sum _ pos sz
  have val : mkRat (List.zipWith (· * ·) (over r) (over c)).sum ((lowers 1 r : Int) * (lowers 1 c : Nat)).toNat = dot r c := by
    have tn : ((lowers 1 r : Int) * (lowers 1 c : Nat)).toNat = lowers 1 r * lowers 1 c := by rw [← Int.natCast_mul, Int.toNat_natCast]
    rw [tn, Rat.mkRat_eq_div]
    have d := dot_over r c ((lowers 1 r : Nat) : Rat) ((lowers 1 c : Nat) : Rat) (fun q => q.num * ((lowers 1 r / q.den : Nat) : Int)) (fun q => q.num * ((lowers 1 c / q.den : Nat) : Int)) (fun x hx => over_val hx) (fun y hy => over_val hy)
    rw [show (List.zipWith (· * ·) (over r) (over c)).sum = (List.zipWith (· * ·) (r.map fun q => q.num * ((lowers 1 r / q.den : Nat) : Int)) (c.map fun q => q.num * ((lowers 1 c / q.den : Nat) : Int))).sum from rfl, d, Rat.natCast_mul]
    have n1 := nat_ne L0
    have n2 := nat_ne M0
    grind
  rw [val] at call
  simp [ev, evs, bind_def, pure_def, ix_two1, mul_ii mo, call]
end
end Sh
end
section
set_option Elab.async false
set_option linter.all false
set_option maxRecDepth 100000
/-! runs by what they lead to -/
namespace Sh
open PySem PySem.Spec PyProof.Rows L2 Dd
/-- m ends well, with Q -/
def wp {α : Type} (m : M α) (Q : α → Sto → Prop) (s : Sto) : Prop := ∃ a s', m s = .ok a s' ∧ Q a s'
section
variable {α β : Type} {Q : β → Sto → Prop} {s : Sto}
theorem wp_bind {m : M α} {k : α → M β} : wp (m >>= k) Q s ↔ wp m (fun a s1 => wp (k a) Q s1) s := by
  constructor
  · rintro ⟨b, s2, e, q⟩
    obtain ⟨a, s1, e1, e2⟩ := bind_ok e
    exact ⟨a, s1, e1, b, s2, e2, q⟩
  · rintro ⟨a, s1, e1, b, s2, e2, q⟩
    exact ⟨b, s2, by rw [bind_ok_of e1]; exact e2, q⟩
theorem wp_pure {b : β} : wp (pure b) Q s ↔ Q b s := by
  constructor
  · rintro ⟨a, s2, e, q⟩
    cases e
    exact q
  · exact fun q => ⟨b, s, rfl, q⟩
theorem wp_imp {m : M β} {Q' : β → Sto → Prop} (h : wp m Q' s) (i : ∀ b s', Q' b s' → Q b s') : wp m Q s := by
  obtain ⟨b, s', e, q⟩ := h
  exact ⟨b, s', e, i b s' q⟩
theorem wp_eq {m m' : M β} (e : m = m') (h : wp m' Q s) : wp m Q s := e ▸ h
theorem wp_ok {m : M β} {b : β} {s' : Sto} (e : m s = .ok b s') (q : Q b s') : wp m Q s := ⟨b, s', e, q⟩
theorem wp_gv {m : M β} {b : β} (h : Gv m b) (q : ∀ s', Gr s s' → Q b s') : wp m Q s := by
  obtain ⟨s', e, g⟩ := h s
  exact ⟨b, s', e, q s' g⟩
theorem gv_wp {m : M β} {b : β} (h : ∀ s, wp m (fun a s' => a = b ∧ Gr s s') s) : Gv m b := fun s => by
  obtain ⟨a, s', e, rfl, g⟩ := h s
  exact ⟨s', e, g⟩
theorem wp_lift {a : α} {k : α → M β} (h : wp (k a) Q s) : wp (lift (some a) >>= k) Q s := h
end
/-- a walked thing, as long as the store only grows -/
def Walk (src : Src) (s1 : Sto) (items : List Dv) : Prop := (∀ s, Gr s1 s → ∀ i, nxt src i s = some items[i]?) ∧ items.length ≤ turns src s1
theorem walk_items {src : Src} {items : List Dv} (h : Items src items) (s1 : Sto) : Walk src s1 items := ⟨fun s _ i => h.1 i s, h.2 s1⟩
theorem walk_lst {n : Nat} {xs : List Dv} {s1 : Sto} (h : s1[n]? = some (.lst xs)) : Walk (.lst n) s1 xs := by
  refine ⟨fun s g i => ?_, ?_⟩
  · simp only [nxt, g.get h]
  · simp only [turns, h]; exact Nat.le_refl _
theorem walk_ro {n : Nat} {xs : List Dv} {s1 : Sto} (h : s1[n]? = some (.ro xs)) : Walk (.lst n) s1 xs := by
  refine ⟨fun s g i => ?_, ?_⟩
  · simp only [nxt, g.get h]
  · simp only [turns, h]; exact Nat.le_refl _
section
variable {α : Type} {src : Src} {turn : Dv → M (Option Dv)} {g : α → Dv} {f : α → Option Dv} {all : List α} {s0 : Sto}
theorem run_fm (it : ∀ s, Gr s0 s → ∀ i, nxt src i s = some (all.map g)[i]?) (h : ∀ x ∈ all, ∀ s, Gr s0 s → wp (turn (g x)) (fun o s' => o = f x ∧ Gr s s') s) :
    ∀ (k i : Nat) (acc : List Dv) (s : Sto), acc.length + all.length ≤ 1000000 + i → Gr s0 s → all.length ≤ k + i → i ≤ all.length → ∃ s', compRun src turn k i acc s = .ok (acc ++ (all.drop i).filterMap f) s' ∧ Gr s s'
  | 0, i, acc, s, z, gr, e, e2 => by
    have n : nxt src i s = some none := by rw [it s gr, List.getElem?_eq_none (by rw [List.length_map]; omega)]
    refine ⟨s, ?_, .refl s⟩
    show (nxtM src i >>= fun o => match o with
      | none => pure acc
      | some _ => fail) s = _
    rw [bind_ok_of (nxtM_ok n), List.drop_of_length_le (by omega)]
    show Res.ok acc s = _
    rw [List.filterMap_nil, List.append_nil]
  | k + 1, i, acc, s, z, gr, e, e2 => by
    have u : compRun src turn (k + 1) i acc = (nxtM src i >>= fun o => match o with
      | none => pure acc
      | some d => turn d >>= fun r => match r with
        | none => compRun src turn k (i + 1) acc
        | some y => if small acc.length then compRun src turn k (i + 1) (acc ++ [y]) else fail) := rfl
    rw [u]
    by_cases hi : i < all.length
    · have n : nxt src i s = some (some (g all[i])) := by rw [it s gr, List.getElem?_map, List.getElem?_eq_getElem hi]; rfl
      obtain ⟨o, s1, e1, rfl, g1⟩ := h all[i] (List.getElem_mem hi) s gr
      rw [bind_ok_of (nxtM_ok n)]
      rw [List.drop_eq_getElem_cons hi, List.filterMap_cons]
      show ∃ s', (turn (g all[i]) >>= fun r => match r with
        | none => compRun src turn k (i + 1) acc
        | some y => if small acc.length then compRun src turn k (i + 1) (acc ++ [y]) else fail) s = _ ∧ _
      rw [bind_ok_of e1]
      cases q : f all[i] with
      | none =>
        obtain ⟨s2, e3, g2⟩ := run_fm it h k (i + 1) acc s1 (by omega) (gr.trans g1) (by omega) (by omega)
        exact ⟨s2, e3, g1.trans g2⟩
      | some y =>
        obtain ⟨s2, e3, g2⟩ := run_fm it h k (i + 1) (acc ++ [y]) s1 (by rw [List.length_append, List.length_singleton]; omega) (gr.trans g1) (by omega) (by omega)
        refine ⟨s2, ?_, g1.trans g2⟩
        have sm : small acc.length = true := decide_eq_true (by omega)
        show (if small acc.length then compRun src turn k (i + 1) (acc ++ [y]) else fail) s1 = _
        rw [if_pos sm, e3]
        rw [List.append_assoc]
        rfl
    · have n : nxt src i s = some none := by rw [it s gr, List.getElem?_eq_none (by rw [List.length_map]; omega)]
      refine ⟨s, ?_, .refl s⟩
      rw [bind_ok_of (nxtM_ok n), List.drop_of_length_le (by omega)]
      show Res.ok acc s = _
      rw [List.filterMap_nil, List.append_nil]
end
section
variable {F : Fs} {gv : Str → Option Dv}
/-- [elt for tg in it if cnd] -/
theorem wp_comp {α : Type} {elt : E} {tg : Tg} {it : Dd.It} {cnd : Oe} {own : List Nat} {env : DEnv} {g : α → Dv} {f : α → Option Dv} {all : List α} {Q : Dv → Sto → Prop} {s : Sto} (z : all.length ≤ 1000000)
    (hi : wp (evi F gv it env) (fun src s1 => Gr s s1 ∧ Walk src s1 (all.map g) ∧
      ∀ x ∈ all, ∃ env', bindT tg (g x) (wipeD env own) = some env' ∧ ∀ s2, Gr s1 s2 → wp (tsto F gv cnd env') (fun b s3 => Gr s2 s3 ∧ (b = false → f x = none) ∧ (b = true → wp (ev F gv elt env') (fun y s4 => Gr s3 s4 ∧ f x = some y) s3)) s2) s)
    (q : ∀ n s', Gr s s' → s'[n]? = some (.lst (all.filterMap f)) → Q (.loc n) s') : wp (ev F gv (.comp elt tg it cnd own) env) Q s := by
  obtain ⟨src, s1, e1, gr, wk, h⟩ := hi
  obtain ⟨s2, e2, g2⟩ := run_fm (turn := fun d => lift (bindT tg d (wipeD env own)) >>= fun env' => tsto F gv cnd env' >>= fun b => if b = true then (ev F gv elt env' >>= fun y => pure (some y)) else pure none) (f := f) wk.1 (fun x hx s gr => by
    obtain ⟨env', q, gg⟩ := h x hx
    rw [q, lift_some, pb]
    refine wp_bind.mpr (wp_imp (gg s gr) fun b s3 ⟨g3, hf, ht⟩ => ?_)
    cases b with
    | false => exact ⟨none, s3, rfl, (hf rfl).symm, g3⟩
    | true =>
      rw [if_pos rfl]
      refine wp_bind.mpr (wp_imp (ht rfl) fun y s4 ⟨g4, e⟩ => ⟨some y, s4, rfl, e.symm, g3.trans g4⟩)) (turns src s1) 0 [] s1 (by simpa using z) (.refl _) (by have := wk.2; rw [List.length_map] at this; omega) (Nat.zero_le _)
  rw [List.drop_zero, List.nil_append] at e2
  refine ⟨.loc s2.length, s2 ++ [.lst (all.filterMap f)], ?_, q _ _ ((gr.trans g2).trans (.push _ _)) (by simp)⟩
  have u : ev F gv (.comp elt tg it cnd own) env = (evi F gv it env >>= fun src => turnsM src >>= fun k => compRun src (fun d => lift (bindT tg d (wipeD env own)) >>= fun env' => tsto F gv cnd env' >>= fun b => if b = true then (ev F gv elt env' >>= fun y => pure (some y)) else pure none) k 0 [] >>= fun xs => newC (.lst xs)) := by rw [ev]
  rw [u, bind_ok_of e1, bind_ok_of (show turnsM src s1 = .ok (turns src s1) s1 from rfl), bind_ok_of e2]
  rfl
/-- [elt for tg in it] -/
theorem wp_comp0 {α : Type} {elt : E} {tg : Tg} {it : Dd.It} {own : List Nat} {env : DEnv} {g f : α → Dv} {all : List α} {Q : Dv → Sto → Prop} {s : Sto} (z : all.length ≤ 1000000)
    (hi : wp (evi F gv it env) (fun src s1 => Gr s s1 ∧ Walk src s1 (all.map g) ∧
      ∀ x ∈ all, ∃ env', bindT tg (g x) (wipeD env own) = some env' ∧ ∀ s2, Gr s1 s2 → wp (ev F gv elt env') (fun y s4 => Gr s2 s4 ∧ y = f x) s2) s)
    (q : ∀ n s', Gr s s' → s'[n]? = some (.lst (all.map f)) → Q (.loc n) s') : wp (ev F gv (.comp elt tg it .none own) env) Q s := by
  refine wp_comp (f := fun x => some (f x)) (g := g) z (wp_imp hi fun src s1 ⟨gr, wk, h⟩ => ⟨gr, wk, fun x hx => ?_⟩) fun n s' g1 e => q n s' g1 (by rw [List.filterMap_eq_map'] at e; exact e)
  obtain ⟨env', b, w⟩ := h x hx
  refine ⟨env', b, fun s2 g2 => ⟨true, s2, by unfold tsto; rfl, .refl _, ⟨(fun h => nomatch h), fun _ => wp_imp (w s2 g2) fun y s4 ⟨g4, e⟩ => ⟨g4, by rw [e]⟩⟩⟩⟩
end
/-! ### two clauses -/
section
variable {α : Type} {src : Src} {turn : Dv → List Dv → M (List Dv)} {g : α → Dv} {f : α → List Dv} {all : List α} {s0 : Sto} {N : Nat}
theorem run2_fm (it : ∀ s, Gr s0 s → ∀ i, nxt src i s = some (all.map g)[i]?) (h : ∀ x ∈ all, ∀ s acc, Gr s0 s → acc.length + (f x).length ≤ N → wp (turn (g x) acc) (fun o s' => o = acc ++ f x ∧ Gr s s') s) :
    ∀ (k i : Nat) (acc : List Dv) (s : Sto), acc.length + ((all.drop i).flatMap f).length ≤ N → Gr s0 s → all.length ≤ k + i → i ≤ all.length → ∃ s', compRun2 src turn k i acc s = .ok (acc ++ (all.drop i).flatMap f) s' ∧ Gr s s'
  | 0, i, acc, s, z, gr, e, e2 => by
    have n : nxt src i s = some none := by rw [it s gr, List.getElem?_eq_none (by rw [List.length_map]; omega)]
    refine ⟨s, ?_, .refl s⟩
    show (nxtM src i >>= fun o => match o with
      | none => pure acc
      | some _ => fail) s = _
    rw [bind_ok_of (nxtM_ok n), List.drop_of_length_le (by omega)]
    show Res.ok acc s = _
    rw [List.flatMap_nil, List.append_nil]
  | k + 1, i, acc, s, z, gr, e, e2 => by
    have u : compRun2 src turn (k + 1) i acc = (nxtM src i >>= fun o => match o with
      | none => pure acc
      | some d => turn d acc >>= fun r => compRun2 src turn k (i + 1) r) := rfl
    rw [u]
    by_cases hi : i < all.length
    · have n : nxt src i s = some (some (g all[i])) := by rw [it s gr, List.getElem?_map, List.getElem?_eq_getElem hi]; rfl
      rw [List.drop_eq_getElem_cons hi, List.flatMap_cons, List.length_append] at z
      obtain ⟨o, s1, e1, rfl, g1⟩ := h all[i] (List.getElem_mem hi) s acc gr (by omega)
      obtain ⟨s2, e3, g2⟩ := run2_fm it h k (i + 1) (acc ++ f all[i]) s1 (by rw [List.length_append]; omega) (gr.trans g1) (by omega) (by omega)
      refine ⟨s2, ?_, g1.trans g2⟩
      rw [bind_ok_of (nxtM_ok n)]
      show (turn (g all[i]) acc >>= fun r => compRun2 src turn k (i + 1) r) s = _
      rw [bind_ok_of e1, e3, List.drop_eq_getElem_cons hi, List.flatMap_cons, List.append_assoc]
    · have n : nxt src i s = some none := by rw [it s gr, List.getElem?_eq_none (by rw [List.length_map]; omega)]
      refine ⟨s, ?_, .refl s⟩
      rw [bind_ok_of (nxtM_ok n), List.drop_of_length_le (by omega)]
      show Res.ok acc s = _
      rw [List.flatMap_nil, List.append_nil]
end
section
variable {F : Fs} {gv : Str → Option Dv}
/-- [elt for tg in it for tg1 in it1] -/
theorem wp_comp2 {α β : Type} {elt : E} {tg tg1 : Tg} {it it1 : Dd.It} {own own1 : List Nat} {env : DEnv} {g : α → Dv} {inner : α → List β} {g1 : α → β → Dv} {f : α → β → Dv} {all : List α} {Q : Dv → Sto → Prop} {s : Sto} (z : (all.flatMap fun x => (inner x).map (f x)).length ≤ 1000000)
    (hi : wp (evi F gv it env) (fun src s1 => Gr s s1 ∧ Walk src s1 (all.map g) ∧
      ∀ x ∈ all, ∃ env', bindT tg (g x) (wipeD env own) = some env' ∧ ∀ s2, Gr s1 s2 → wp (evi F gv it1 env') (fun src1 s3 => Gr s2 s3 ∧ Walk src1 s3 ((inner x).map (g1 x)) ∧
        ∀ y ∈ inner x, ∃ env2, bindT tg1 (g1 x y) (wipeD env' own1) = some env2 ∧ ∀ s4, Gr s3 s4 → wp (ev F gv elt env2) (fun v s5 => Gr s4 s5 ∧ v = f x y) s4) s2) s)
    (q : ∀ n s', Gr s s' → s'[n]? = some (.lst (all.flatMap fun x => (inner x).map (f x))) → Q (.loc n) s') : wp (ev F gv (.comp2 elt tg it .none tg1 it1 .none own own1) env) Q s := by
  obtain ⟨src, s1, e1, gr, wk, h⟩ := hi
  obtain ⟨s2, e2, g2⟩ := run2_fm (N := 1000000) (turn := fun d acc => lift (bindT tg d (wipeD env own)) >>= fun env' => tsto F gv .none env' >>= fun b => if b = true then (evi F gv it1 env' >>= fun src1 => turnsM src1 >>= fun k1 => compRun src1 (fun d1 => lift (bindT tg1 d1 (wipeD env' own1)) >>= fun env2 => tsto F gv .none env2 >>= fun b => if b = true then (ev F gv elt env2 >>= fun y => pure (some y)) else pure none) k1 0 acc) else pure acc)
    (f := fun x => (inner x).map (f x)) wk.1 (fun x hx s acc gr zz => by
    obtain ⟨env', q, gg⟩ := h x hx
    rw [q, lift_some, pb]
    refine wp_bind.mpr (wp_ok (show tsto F gv .none env' s = .ok true s by unfold tsto; rfl) ?_)
    rw [if_pos rfl]
    refine wp_bind.mpr (wp_imp (gg s gr) fun src1 s3 ⟨g3, wk1, hh⟩ => ?_)
    refine wp_bind.mpr (wp_ok (show turnsM src1 s3 = .ok (turns src1 s3) s3 from rfl) ?_)
    obtain ⟨s4, e4, g4⟩ := run_fm (turn := fun d1 => lift (bindT tg1 d1 (wipeD env' own1)) >>= fun env2 => tsto F gv .none env2 >>= fun b => if b = true then (ev F gv elt env2 >>= fun y => pure (some y)) else pure none) (f := fun y => some (f x y)) wk1.1 (fun y hy s5 g5 => by
      obtain ⟨env2, q2, w⟩ := hh y hy
      rw [q2, lift_some, pb]
      refine wp_bind.mpr (wp_ok (show tsto F gv .none env2 s5 = .ok true s5 by unfold tsto; rfl) ?_)
      rw [if_pos rfl]
      exact wp_bind.mpr (wp_imp (w s5 g5) fun v s6 ⟨g6, e⟩ => ⟨some v, s6, rfl, by rw [e], g6⟩)) (turns src1 s3) 0 acc s3 (by rw [List.length_map] at zz; omega) (.refl _) (by have := wk1.2; rw [List.length_map] at this; omega) (Nat.zero_le _)
    rw [List.drop_zero, List.filterMap_eq_map'] at e4
    exact ⟨_, s4, e4, rfl, g3.trans g4⟩) (turns src s1) 0 [] s1 (by rw [List.drop_zero]; simpa using z) (.refl _) (by have := wk.2; rw [List.length_map] at this; omega) (Nat.zero_le _)
  rw [List.drop_zero, List.nil_append] at e2
  refine ⟨.loc s2.length, s2 ++ [.lst (all.flatMap fun x => (inner x).map (f x))], ?_, q _ _ ((gr.trans g2).trans (.push _ _)) (by simp)⟩
  have u : ev F gv (.comp2 elt tg it .none tg1 it1 .none own own1) env = (evi F gv it env >>= fun src => turnsM src >>= fun k => compRun2 src (fun d acc => lift (bindT tg d (wipeD env own)) >>= fun env' => tsto F gv .none env' >>= fun b => if b = true then (evi F gv it1 env' >>= fun src1 => turnsM src1 >>= fun k1 => compRun src1 (fun d1 => lift (bindT tg1 d1 (wipeD env' own1)) >>= fun env2 => tsto F gv .none env2 >>= fun b => if b = true then (ev F gv elt env2 >>= fun y => pure (some y)) else pure none) k1 0 acc) else pure acc) k 0 [] >>= fun xs => newC (.lst xs)) := by rw [ev]
  rw [u, bind_ok_of e1, bind_ok_of (show turnsM src s1 = .ok (turns src s1) s1 from rfl), bind_ok_of e2]
  rfl
end
/-! ### rules -/
section
variable {F : Fs} {gv : Str → Option Dv} {env : DEnv} {s : Sto}
theorem wp_is {α : Type} {m : M α} {a : α} {Q : α → Sto → Prop} (e : m = pure a) (q : Q a s) : wp m Q s := by rw [e]; exact wp_pure.mpr q
theorem wp_var {i : Nat} {d : Dv} {Q : Dv → Sto → Prop} (e : env[i]? = some (some d)) (q : Q d s) : wp (ev F gv (.var i) env) Q s := wp_is (by rw [ev, e]) q
theorem wp_bin {o : Bo} {a b : E} {Q : Dv → Sto → Prop} (h : wp (ev F gv a env) (fun x s1 => wp (ev F gv b env) (fun y s2 => wp (opB o x y) Q s2) s1) s) : wp (ev F gv (.bin o a b) env) Q s := by
  rw [ev]; exact wp_bind.mpr (wp_imp h fun x s1 h => wp_bind.mpr h)
theorem wp_cmp {o : Co} {a b : E} {Q : Dv → Sto → Prop} (h : wp (ev F gv a env) (fun x s1 => wp (ev F gv b env) (fun y s2 => wp (opC o x y) (fun r s3 => Q (.bl r) s3) s2) s1) s) : wp (ev F gv (.cmp o a b) env) Q s := by
  rw [ev]; exact wp_bind.mpr (wp_imp h fun x s1 h => wp_bind.mpr (wp_imp h fun y s2 h => wp_bind.mpr (wp_imp h fun r s3 h => wp_pure.mpr h)))
theorem wt_cmp {o : Co} {a b : E} {Q : Bool → Sto → Prop} (h : wp (ev F gv a env) (fun x s1 => wp (ev F gv b env) (fun y s2 => wp (opC o x y) Q s2) s1) s) : wp (tst F gv (.cmp o a b) env) Q s := by
  rw [tst]; exact wp_bind.mpr (wp_imp h fun x s1 h => wp_bind.mpr h)
theorem wp_nilA {Q : List Dv → Sto → Prop} (q : Q [] s) : wp (evs F gv .nil env) Q s := wp_is (by rw [evs]) q
theorem wp_consA {e : E} {es : Es} {Q : List Dv → Sto → Prop} (h : wp (ev F gv e env) (fun d s1 => wp (evs F gv es env) (fun ds s2 => Q (d :: ds) s2) s1) s) : wp (evs F gv (.cons e es) env) Q s := by
  rw [evs]; exact wp_bind.mpr (wp_imp h fun x s1 h => wp_bind.mpr (wp_imp h fun y s2 h => wp_pure.mpr h))
theorem wp_call {i : Nat} {es : Es} {Q : Dv → Sto → Prop} (h : wp (evs F gv es env) (fun ds s1 => wp (F i ds) Q s1) s) : wp (ev F gv (.call i es) env) Q s := by
  rw [ev]; exact wp_bind.mpr h
theorem wt_call {i : Nat} {es : Es} {Q : Bool → Sto → Prop} (h : wp (evs F gv es env) (fun ds s1 => wp (F i ds) (fun d s2 => wp (truth d) Q s2) s1) s) : wp (tst F gv (.call i es) env) Q s := by
  rw [tst]; exact wp_bind.mpr (wp_imp h fun x s1 h => wp_bind.mpr h)
theorem wp_callk {i a b : Nat} {es ks : Es} {perm : List Nat} {Q : Dv → Sto → Prop} (h : wp (evs F gv es env) (fun ds s1 => wp (evs F gv ks env) (fun zs s2 => wp (F i (putK a b perm ds zs)) Q s2) s1) s) : wp (ev F gv (.callk i es ks a b perm) env) Q s := by
  rw [ev]; exact wp_bind.mpr (wp_imp h fun x s1 h => wp_bind.mpr h)
theorem wp_blt {b : Bl} {es : Es} {Q : Dv → Sto → Prop} (h : wp (evs F gv es env) (fun ds s1 => wp (bltD b ds) Q s1) s) : wp (ev F gv (.blt b es) env) Q s := by
  rw [ev]; exact wp_bind.mpr h
theorem wp_idx {a i : E} {Q : Dv → Sto → Prop} (h : wp (ev F gv a env) (fun x s1 => wp (ev F gv i env) (fun y s2 => wp (idxD x y) Q s2) s1) s) : wp (ev F gv (.idx a i) env) Q s := by
  rw [ev]; exact wp_bind.mpr (wp_imp h fun x s1 h => wp_bind.mpr h)
theorem wp_tup {es : Es} {Q : Dv → Sto → Prop} (h : wp (evs F gv es env) (fun ds s1 => wp (mkT ds) Q s1) s) : wp (ev F gv (.tup es) env) Q s := by
  rw [ev]; exact wp_bind.mpr h
theorem wp_lst {es : Es} {Q : Dv → Sto → Prop} (h : wp (evs F gv es env) (fun ds s1 => wp (newL ds) Q s1) s) : wp (ev F gv (.lst es) env) Q s := by
  rw [ev]; exact wp_bind.mpr h
theorem wp_newL {xs : List Dv} {Q : Dv → Sto → Prop} (z : xs.length ≤ 1000000) (q : ∀ n s', Gr s s' → s'[n]? = some (.lst xs) → Q (.loc n) s') : wp (newL xs) Q s := by
  refine ⟨.loc s.length, s ++ [.lst xs], ?_, q _ _ (.push _ _) (by simp)⟩
  unfold newL
  rw [if_pos (show small xs.length = true from decide_eq_true z)]
  rfl
theorem wp_mkT {xs : List Dv} {Q : Dv → Sto → Prop} (z : xs.length ≤ 1000000) (q : Q (.tup xs) s) : wp (mkT xs) Q s := by
  refine wp_is ?_ q
  unfold mkT
  rw [if_pos (show small xs.length = true from decide_eq_true z)]
theorem wp_addL {n m : Nat} {xs ys : List Dv} {Q : Dv → Sto → Prop} (h1 : s[n]? = some (.lst xs)) (h2 : s[m]? = some (.lst ys)) (z : xs.length + ys.length ≤ 1000000) (q : ∀ k s', Gr s s' → s'[k]? = some (.lst (xs ++ ys)) → Q (.loc k) s') : wp (opB .add (.loc n) (.loc m)) Q s := by
  show wp (getC n >>= fun c1 => getC m >>= fun c2 => match c1, c2 with
    | .lst xs, .lst ys => newL (xs ++ ys)
    | _, _ => fail) Q s
  refine wp_bind.mpr (wp_ok (getC_ok h1) (wp_bind.mpr (wp_ok (getC_ok h2) ?_)))
  exact wp_newL (by rw [List.length_append]; exact z) q
theorem wt_not {e : E} {Q : Bool → Sto → Prop} (h : wp (tst F gv e env) (fun b s1 => Q (!b) s1) s) : wp (tst F gv (.bnot e) env) Q s := by
  rw [tst]; exact wp_bind.mpr (wp_imp h fun x s1 h => wp_pure.mpr h)
theorem wt_or {a b : E} {Q : Bool → Sto → Prop} (h : wp (tst F gv a env) (fun r s1 => if r = true then Q true s1 else wp (tst F gv b env) Q s1) s) : wp (tst F gv (.bor a b) env) Q s := by
  rw [tst]; exact wp_bind.mpr (wp_imp h fun r s1 h => by cases r <;> simpa [wp_pure] using h)
theorem wt_and {a b : E} {Q : Bool → Sto → Prop} (h : wp (tst F gv a env) (fun r s1 => if r = true then wp (tst F gv b env) Q s1 else Q false s1) s) : wp (tst F gv (.band a b) env) Q s := by
  rw [tst]; exact wp_bind.mpr (wp_imp h fun r s1 h => by cases r <;> simpa [wp_pure] using h)
theorem wp_or {a b : E} {Q : Dv → Sto → Prop} (h : wp (ev F gv a env) (fun d s1 => ∃ r, d = .bl r ∧ if r = true then Q (.bl true) s1 else wp (ev F gv b env) Q s1) s) : wp (ev F gv (.bor a b) env) Q s := by
  rw [ev]; exact wp_bind.mpr (wp_imp h fun d s1 ⟨r, e, h⟩ => by subst e; cases r <;> simpa [wp_pure] using h)
theorem wp_and {a b : E} {Q : Dv → Sto → Prop} (h : wp (ev F gv a env) (fun d s1 => ∃ r, d = .bl r ∧ if r = true then wp (ev F gv b env) Q s1 else Q (.bl false) s1) s) : wp (ev F gv (.band a b) env) Q s := by
  rw [ev]; exact wp_bind.mpr (wp_imp h fun d s1 ⟨r, e, h⟩ => by subst e; cases r <;> simpa [wp_pure] using h)
theorem wp_ite {t a b : E} {Q : Dv → Sto → Prop} (h : wp (tst F gv t env) (fun r s1 => if r = true then wp (ev F gv a env) Q s1 else wp (ev F gv b env) Q s1) s) : wp (ev F gv (.ite t a b) env) Q s := by
  rw [ev]; exact wp_bind.mpr (wp_imp h fun r s1 h => by cases r <;> simpa using h)
/-! statements -/
theorem ws_asg {i : Nat} {e : E} {r : Ss} {Q : Fl → Sto → Prop} (h : wp (ev F gv e env) (fun d s1 => wp (exs F gv r (env.set i (some d))) Q s1) s) : wp (exs F gv (.cons (.asg (.nm i) e) r) env) Q s := by
  rw [exs_cons, ex, bind_assoc_M]
  exact wp_bind.mpr (wp_imp h fun d s1 h => h)
theorem ws_par {i j : Nat} {a b : E} {r : Ss} {Q : Fl → Sto → Prop} (h : wp (ev F gv a env) (fun x s1 => wp (ev F gv b env) (fun y s2 => wp (exs F gv r ((env.set i (some x)).set j (some y))) Q s2) s1) s) : wp (exs F gv (.cons (.par i j a b) r) env) Q s := by
  rw [exs_cons, ex, bind_assoc_M]
  refine wp_bind.mpr (wp_imp h fun d s1 h => ?_)
  rw [bind_assoc_M]
  exact wp_bind.mpr (wp_imp h fun d s1 h => h)
theorem ws_ret {e : E} {r : Ss} {Q : Fl → Sto → Prop} (h : wp (ev F gv e env) (fun d s1 => Q (.rt d) s1) s) : wp (exs F gv (.cons (.ret e) r) env) Q s := by
  rw [exs_cons, ex, bind_assoc_M]
  exact wp_bind.mpr (wp_imp h fun d s1 h => wp_pure.mpr h)
theorem ws_nil {Q : Fl → Sto → Prop} (q : Q (.nx env) s) : wp (exs F gv .nil env) Q s := wp_is (exs_nil env) q
/-- if c: (not so) -/
theorem ws_skip {c : E} {a : Ss} {r : Ss} {Q : Fl → Sto → Prop} (h : wp (tst F gv c env) (fun b s1 => b = false ∧ wp (exs F gv r env) Q s1) s) : wp (exs F gv (.cons (.ite c a .nil) r) env) Q s := by
  rw [exs_cons, ex, bind_assoc_M]
  refine wp_bind.mpr (wp_imp h fun b s1 ⟨e, h⟩ => ?_)
  subst e
  refine wp_bind.mpr ?_
  simp only [Bool.false_eq_true, if_false, exs_nil]
  exact wp_pure.mpr h
theorem ws_if {c : E} {a b : Ss} {r : Ss} {Q : Fl → Sto → Prop} (h : wp (tst F gv c env) (fun t s1 => wp (if t = true then exs F gv a env else exs F gv b env) (fun fl s2 => match fl with
      | .nx e => wp (exs F gv r e) Q s2
      | fl => Q fl s2) s1) s) : wp (exs F gv (.cons (.ite c a b) r) env) Q s := by
  rw [exs_cons, ex, bind_assoc_M]
  refine wp_bind.mpr (wp_imp h fun t s1 h => wp_bind.mpr (wp_imp h fun fl s2 h => ?_))
  cases fl <;> first | exact h | exact wp_pure.mpr h
theorem ws_ex {e : E} {r : Ss} {Q : Fl → Sto → Prop} (h : wp (ev F gv e env) (fun _ s1 => wp (exs F gv r env) Q s1) s) : wp (exs F gv (.cons (.ex e) r) env) Q s := by
  rw [exs_cons, ex, bind_assoc_M]
  exact wp_bind.mpr (wp_imp h fun d s1 h => h)
theorem wp_run {d : Dfn} {ds : List Dv} {Q : Dv → Sto → Prop} (hl : ds.length = d.ps.length) (he : ds.map some ++ List.replicate (d.N.length - ds.length) none = env) (h : wp (exs F gv d.body env) (fun fl s1 => ∃ v, fl = .rt v ∧ Q v s1) s) : wp (runDef F gv d ds) Q s := by
  unfold runDef
  rw [if_pos hl, he]
  exact wp_bind.mpr (wp_imp h fun fl s1 ⟨v, e, q⟩ => by subst e; exact wp_pure.mpr q)
/-- for tg in .. without a way out -/
theorem ws_for {tg : Tg} {it : Dd.It} {b r : Ss} {Q : Fl → Sto → Prop} {items : List Dv} (I : Nat → DEnv → Sto → Prop)
    (hi : wp (evi F gv it env) (fun src s1 => items.length ≤ turns src s1 ∧ I 0 env s1 ∧ ∀ i env s, I i env s → nxt src i s = some items[i]?) s)
    (step : ∀ i x env s, items[i]? = some x → I i env s → ∃ env1, bindT tg x env = some env1 ∧ wp (exs F gv b env1) (fun fl s' => ∃ e, fl = .nx e ∧ I (i + 1) e s') s)
    (q : ∀ env' s', I items.length env' s' → wp (exs F gv r env') Q s') : wp (exs F gv (.cons (.for_ tg it b) r) env) Q s := by
  obtain ⟨src, s1, e1, ht, h0, rd⟩ := hi
  obtain ⟨env', s', e, h⟩ := for_ok (F := F) (gv := gv) (tg := tg) (b := b) I e1 ht h0 rd (fun i x env s hx h => by
    obtain ⟨env1, b1, fl, s', e, en, rfl, h'⟩ := step i x env s hx h
    exact ⟨env1, en, s', b1, e, h'⟩)
  rw [exs_cons]
  exact wp_bind.mpr (wp_ok e (q env' s' h))
end
end Sh
end
section
set_option Elab.async false
set_option linter.all false
set_option maxRecDepth 100000
/-! rules for whole laws -/
namespace Sh
open PySem PySem.Spec PyProof.Rows L2 Dd
section
variable {F : Fs} {g : Str → Option Dv}
theorem mkT_ok {xs : List Dv} (h : xs.length ≤ 1000000) : mkT xs = (pure (.tup xs) : M Dv) := by
  unfold mkT
  rw [if_pos (show small xs.length = true from decide_eq_true h)]
theorem truth_bl (b : Bool) : truth (.bl b) = pure b := rfl
theorem seq_tup {e : E} {env : DEnv} {xs : List Dv} (h : ev F g e env = pure (.tup xs)) : Gv (evi F g (.seq e) env) (.tup xs) := by
  refine gv_of ?_
  rw [evi, h, pb]
  rfl
theorem gv_tcall {i : Nat} {es : Es} {env : DEnv} {ds : List Dv} {b : Bool} (h : evs F g es env = pure ds) (k : Gv (F i ds) (.bl b)) : Gv (tst F g (.call i es) env) b := by
  rw [tst, h, pb]
  exact gv_bind k (gv_of rfl)
theorem gv_tnot {e : E} {env : DEnv} {b : Bool} (h : Gv (tst F g e env) b) : Gv (tst F g (.bnot e) env) (!b) := by
  rw [tst]
  exact gv_bind h (gv_pure _)
theorem gv_call {i : Nat} {es : Es} {env : DEnv} {ds : List Dv} {v : Dv} (h : evs F g es env = pure ds) (k : Gv (F i ds) v) : Gv (ev F g (.call i es) env) v := by
  rw [ev, h, pb]
  exact k
theorem gv_if {c : E} {a b : Ss} {r : Ss} {env env' : DEnv} {t : Bool} {fl : Fl} (h : Gv (tst F g c env) t) (ha : t = true → Gv (exs F g a env) (.nx env')) (hb : t = false → Gv (exs F g b env) (.nx env')) (k : Gv (exs F g r env') fl) : Gv (exs F g (.cons (.ite c a b) r) env) fl := by
  rw [exs_cons, ex]
  refine gv_bind (a := Fl.nx env') (gv_bind h ?_) ?_
  · cases t with
    | true => exact ha rfl
    | false => exact hb rfl
  · exact k
theorem gv_nil (env : DEnv) : Gv (exs F g .nil env) (.nx env) := by rw [exs_nil]; exact gv_pure _
theorem gv_runN {d : Dfn} {ds : List Dv} {env env' : DEnv} (hl : ds.length = d.ps.length) (he : ds.map some ++ List.replicate (d.N.length - ds.length) none = env) (h : Gv (exs F g d.body env) (.nx env')) : Gv (runDef F g d ds) .non := by
  unfold runDef
  rw [if_pos hl, he]
  exact gv_bind h (gv_pure Dv.non)
theorem gv_ex {e : E} {r : Ss} {env : DEnv} {v : Dv} {fl : Fl} (h : Gv (ev F g e env) v) (k : Gv (exs F g r env) fl) : Gv (exs F g (.cons (.ex e) r) env) fl := by
  rw [exs_cons, ex]
  refine gv_bind (a := Fl.nx env) (gv_bind h (gv_pure _)) ?_
  exact k
theorem sIx_hi (n d k : Nat) : HT.sIx n d (some ((k : Nat) : Int)) = min k n := by
  unfold HT.sIx
  exact HT.sIx_nat n d k
theorem intsD_wd : ∀ w : List Int, intsD (w.map .int) = some w
  | [] => rfl
  | x :: w => by rw [List.map_cons, intsD, intsD_wd w]; rfl
theorem lay_wd : ∀ w : List Int, PyData.canLayAll0 (w.map PyData.int) = true
  | [] => by simp [PyData.canLayAll0]
  | x :: w => by rw [List.map_cons, PyData.canLayAll0, lay_wd w]; simp [PyData.canLay0]
theorem depthA_wd : ∀ w : List Int, PyData.depthAll (w.map PyData.int) ≤ 1
  | [] => by simp [PyData.depthAll]
  | x :: w => by
    have := depthA_wd w
    rw [List.map_cons, PyData.depthAll]
    simp only [PyData.depth]
    omega
theorem lstOf_ok {n : Nat} {xs : List Dv} {s : Sto} (h : s[n]? = some (.lst xs)) : lstOf n s = .ok xs s := by
  show ((getC n >>= fun c => match c with
    | .lst xs => pure xs
    | .ro xs => pure xs
    | _ => fail) : M (List Dv)) s = _
  rw [bind_ok_of (getC_ok h)]; rfl
theorem wk_seq {e : E} {env : DEnv} {n : Nat} {xs : List Dv} {s : Sto} {Q : Src → Sto → Prop} (h : ev F g e env = pure (.loc n)) (hs : s[n]? = some (.lst xs)) (q : Q (.lst n) s) : wp (evi F g (.seq e) env) Q s := by
  rw [evi, h, pb]
  show wp (lstOf n >>= fun _ => pure (Src.lst n)) Q s
  exact wp_bind.mpr (wp_ok (lstOf_ok hs) (wp_pure.mpr q))
theorem wk_seqW {e : E} {env : DEnv} {s : Sto} {Q : Src → Sto → Prop} (h : wp (ev F g e env) (fun d s1 => ∃ n xs, d = .loc n ∧ s1[n]? = some (.lst xs) ∧ Q (.lst n) s1) s) : wp (evi F g (.seq e) env) Q s := by
  rw [evi]
  refine wp_bind.mpr (wp_imp h fun d s1 ⟨n, xs, e, c, q⟩ => ?_)
  subst e
  show wp (lstOf n >>= fun _ => pure (Src.lst n)) Q s1
  exact wp_bind.mpr (wp_ok (lstOf_ok c) (wp_pure.mpr q))
theorem wk_rng1 {a : E} {env : DEnv} {n : Nat} {s : Sto} {Q : Src → Sto → Prop} (ha : ev F g a env = pure (.int n)) (hn : n ≤ 1000000) (q : Q (.rng 0 n) s) : wp (evi F g (.rng1 a) env) Q s := by
  obtain ⟨s', e, gr⟩ := gv_rng (F := F) (gv := g) ha hn s
  have : evi F g (.rng1 a) env = pure (.rng 0 n) := by
    rw [evi, ha, pb]
    show (if -(2 ^ 62) ≤ (n : Int) ∧ (n : Int) < 2 ^ 62 then pure (Src.rng 0 (n : Int).toNat) else (fail : M Src)) = _
    rw [if_pos (by omega), Int.toNat_natCast]
  exact wp_is this q
def Fine (p : PyData) : Prop := p.showable = true ∧ p.shown.length ≤ 1000000 ∧ p.depth ≤ 30
theorem wp_repr {d : Dv} {p : PyData} {s : Sto} {Q : Dv → Sto → Prop} (h : pyl s 12 d = some p) (f : Fine p) (q : Q (.str p.shown) s) : wp (bltD .repr1 [d]) Q s := by
  refine wp_ok (b := .str p.shown) ?_ q
  show (match pyl s 12 d with
    | some x => if x.showable && decide (x.shown.length ≤ 1000000) && decide (x.depth ≤ 30) then Res.ok (Dv.str x.shown) s else Res.bad
    | none => Res.bad) = _
  rw [h]
  simp only [f.1, f.2.1, f.2.2, decide_true, Bool.and_self, if_true]
theorem pyl_int (s : Sto) (k : Nat) (i : Int) : pyl s k (.int i) = some (.int i) := by unfold pyl; rfl
theorem pyl_bl (s : Sto) (k : Nat) (i : Bool) : pyl s k (.bl i) = some (.bool i) := by unfold pyl; rfl
theorem mapM_ints (s : Sto) (k : Nat) : ∀ w : List Int, (w.map Dv.int).mapM (pyl s k) = some (w.map PyData.int)
  | [] => rfl
  | x :: w => by
    rw [List.map_cons, List.mapM_cons, pyl_int, mapM_ints s k w]
    rfl
theorem pyl_loc {s : Sto} {k n : Nat} {xs : List Dv} {ps : List PyData} (h : s[n]? = some (.lst xs)) (hm : xs.mapM (pyl s k) = some ps) : pyl s (k + 1) (.loc n) = some (.list ps) := by
  unfold pyl
  rw [h]
  simp only [hm]
  rfl
theorem str_eq (x y : Str) : opC .eq (.str x) (.str y) = pure (decide (x = y)) := rfl
theorem str_ne (x y : Str) : opC .ne (.str x) (.str y) = pure (!decide (x = y)) := rfl
theorem pick2_0 (a b : Dv) : idxD (.tup [a, b]) (.int 0) = pure a := rfl
theorem pick2_1 (a b : Dv) : idxD (.tup [a, b]) (.int 1) = pure b := rfl
def Kp (n : Nat) (s s' : Sto) : Prop := ∀ m c, m ≠ n → s[m]? = some c → s'[m]? = some c
theorem Kp.refl (n : Nat) (s : Sto) : Kp n s s := fun _ _ _ h => h
theorem Kp.trans {n : Nat} {a b c : Sto} (h : Kp n a b) (k : Kp n b c) : Kp n a c := fun m x e q => k m x e (h m x e q)
theorem Kp.at {n : Nat} {a b : Sto} (h : At n a b) : Kp n a b := fun m c e q => by rw [h.other (fun z => e z.symm)]; exact q
theorem Kp.gr {n : Nat} {a b : Sto} (h : Gr a b) : Kp n a b := fun m c _ q => h.get q
theorem spr_gr {n B : Nat} {a b : Sto} (h : Spr n B a) (g : Gr a b) : Spr n B b := by
  obtain ⟨x, y, z, e, r⟩ := h
  exact ⟨x, y, z, g.get e, r⟩
theorem ws_forW {tg : Tg} {it : Dd.It} {b r : Ss} {env : DEnv} {s : Sto} {Q : Fl → Sto → Prop}
    (hi : wp (evi F g it env) (fun src s1 => ∃ (I : Nat → DEnv → Sto → Prop) (items : List Dv), items.length ≤ turns src s1 ∧ I 0 env s1 ∧ (∀ i env s, I i env s → nxt src i s = some items[i]?) ∧
      (∀ i x env s, items[i]? = some x → I i env s → ∃ env1, bindT tg x env = some env1 ∧ wp (exs F g b env1) (fun fl s' => ∃ e, fl = .nx e ∧ I (i + 1) e s') s) ∧ ∀ env' s', I items.length env' s' → wp (exs F g r env') Q s') s) : wp (exs F g (.cons (.for_ tg it b) r) env) Q s := by
  obtain ⟨src, s1, e1, I, items, ht, h0, rd, step, q⟩ := hi
  obtain ⟨env', s', e, h⟩ := for_ok (F := F) (gv := g) (tg := tg) (b := b) I e1 ht h0 rd (fun i x env s hx h => by
    obtain ⟨env1, b1, fl, s', e, en, rfl, h'⟩ := step i x env s hx h
    exact ⟨env1, en, s', b1, e, h'⟩)
  rw [exs_cons]
  exact wp_bind.mpr (wp_ok e (q env' s' h))
theorem ro_at {n : Nat} {xs : List Dv} {s : Sto} (h : s[n]? = some (.ro xs)) : lstOf n s = .ok xs s := by
  show ((getC n >>= fun c => match c with
    | .lst xs => pure xs
    | .ro xs => pure xs
    | _ => fail) : M (List Dv)) s = _
  rw [bind_ok_of (getC_ok h)]; rfl
theorem ro_len {n : Nat} {xs : List Dv} {s : Sto} (h : s[n]? = some (.ro xs)) : bltD .len [.loc n] s = .ok (.int xs.length) s := by
  show ((lstOf n >>= fun xs => pure (Dv.int xs.length)) : M Dv) s = _
  rw [bind_ok_of (ro_at h)]; rfl
theorem ro_idx {n : Nat} {i : Int} {xs : List Dv} {v : Dv} {s : Sto} (h : s[n]? = some (.ro xs)) (hv : atI xs i = some v) : idxD (.loc n) (.int i) s = .ok v s := by
  show ((lstOf n >>= fun ys => match atI ys i with
    | some v => pure v
    | none => fail) : M Dv) s = _
  rw [bind_ok_of (ro_at h), hv]
  rfl
theorem ro_take {n k : Nat} {xs : List Dv} {s : Sto} {Q : Dv → Sto → Prop} (h : s[n]? = some (.ro xs)) (z : xs.length ≤ 1000000) (q : ∀ m s', Gr s s' → s'[m]? = some (.lst (xs.take k)) → Q (.loc m) s') : wp (slD (.loc n) none (some ((k : Nat) : Int))) Q s := by
  show wp (lstOf n >>= fun xs => newL (Dd.cutD xs none (some (k : Int)))) Q s
  refine wp_bind.mpr (wp_ok (ro_at h) ?_)
  have e : Dd.cutD xs none (some ((k : Nat) : Int)) = xs.take k := by
    unfold Dd.cutD
    rw [HT.sIx_none, HT.sIx_nat, List.drop_zero, Nat.sub_zero]
    by_cases c : k ≤ xs.length
    · rw [Nat.min_eq_left c]
    · rw [Nat.min_eq_right (by omega), List.take_of_length_le (Nat.le_refl _), List.take_of_length_le (by omega)]
  rw [e]
  exact wp_newL (by rw [List.length_take]; omega) q
theorem intsD_map : ∀ w : List Int, intsD (w.map .int) = some w := intsD_wd

theorem sum_ints {n : Nat} {is : List Int} {s : Sto} (h : s[n]? = some (.lst (is.map .int))) : bltD .sum1 [.loc n] s = .ok (.int is.sum) s := sum_at h
theorem wp_draw {i n B : Nat} {w : Int} {s : Sto} {Q : Dv → Sto → Prop} (f : DrawS F i) (sp : Spr n (B + 1) s) (h0 : 0 < w) (h1 : w < 1073741824) (q : ∀ v s', 0 ≤ v → v < w → Spr n B s' → Kp n s s' → Q (.int v) s') : wp (F i [.loc n, .int w]) Q s := by
  obtain ⟨v, s', e, v0, v1, sp', at_⟩ := f n B w s sp h0 h1
  exact wp_ok e (q v s' v0 v1 sp' (.at at_))
theorem wp_pick {i n B : Nat} {xs : List Dv} {s : Sto} {Q : Dv → Sto → Prop} (f : PickS F i) (sp : Spr n (B + 1) s) (h0 : xs ≠ []) (h1 : xs.length < 1073741824) (q : ∀ v s', v ∈ xs → Spr n B s' → Kp n s s' → Q v s') : wp (F i [.loc n, .tup xs]) Q s := by
  obtain ⟨v, s', e, m, sp', at_⟩ := f n B xs s sp h0 h1
  exact wp_ok e (q v s' m sp' (.at at_))
theorem wp_small {i n B : Nat} {s : Sto} {Q : Dv → Sto → Prop} (f : SmallS F i) (sp : Spr n (B + 3) s) (q : ∀ v s', Bd 12 5 v → Spr n B s' → Kp n s s' → Q (rv v) s') : wp (F i [.loc n]) Q s := by
  obtain ⟨v, s', e, m, sp', at_⟩ := f n B s sp
  exact wp_ok e (q v s' m sp' (.at at_))
theorem wp_share {i n B : Nat} {s : Sto} {Q : Dv → Sto → Prop} (f : ShareS F i) (sp : Spr n (B + 4) s) (q : ∀ v s', v.den ≤ 9973 → Bd v.den 99991 v → Spr n B s' → Kp n s s' → Q (rv v) s') : wp (F i [.loc n]) Q s := by
  obtain ⟨v, s', e, m, m2, sp', at_⟩ := f n B s sp
  exact wp_ok e (q v s' m m2 sp' (.at at_))
/-! the spring -/
def b_spring (c1 c0 s0 : Int) : Ss := (.cons (.asg (.nm 2) (.ite (.cmp .lt (.var 1) (.blt .len (.cons (.var 0) .nil))) (.blt .int1 (.cons (.idx (.var 0) (.var 1)) .nil)) (.bin .add (.bin .add (.bin .mul (.int c1) (.var 1)) (.int c0)) (.bin .mod (.blt .int1 (.cons (.blt .sum1 (.cons (.sl (.var 0) .none (.some (.int (3)))) .nil)) .nil)) (.int (999979)))))) (.cons (.asg (.nm 3) (.bin .add (.int s0) (.bin .mul (.int (3301)) (.var 1)))) (.cons (.for_ (.nm 4) (.seq (.bin .add (.sl (.var 0) .none (.some (.int (10)))) (.lst (.cons (.var 2) .nil)))) (.cons (.asg (.nm 3) (.bin .mod (.blt .int1 (.cons (.bin .add (.bin .add (.bin .mul (.var 3) (.int (48611))) (.bin .mod (.blt .int1 (.cons (.var 4) .nil)) (.int (2147483549)))) (.int (19))) .nil)) (.int (2147483549)))) .nil)) (.cons (.ret (.lst (.cons (.ite (.bor (.cmp .lt (.var 2) (.int (0))) (.cmp .ge (.var 2) (.bin .pow (.int (10)) (.int (18))))) (.blt .abs (.cons (.var 2) .nil)) (.int (0))) (.cons (.var 3) (.cons (.int (0)) .nil))))) .nil))))
def d_spring (c1 c0 s0 : Int) : Dfn := ⟨"_law_spring", ["script", "lap"], ["script", "lap", "cell", "stir", "each"], b_spring c1 c0 s0, []⟩
def SpringS (F : Fs) (i : Nat) : Prop := ∀ (ns : List Int) (lap : Nat) (s : Sto), s[0]? = some (.ro (ns.map .int)) → ns.length ≤ 63 → lap ≤ 3 → wp (F i [.loc 0, .int lap]) (fun d s' => Gr s s' ∧ ∃ n, d = .loc n ∧ n ≠ 0 ∧ Spr n 1000 s') s
theorem spring_s {c1 c0 s0 : Int} (hc1 : c1.natAbs < 2 ^ 32) (hs0 : 0 ≤ s0) (hs1 : s0 ≤ 2147000000) (ns : List Int) (lap : Nat) (s : Sto) (h0 : s[0]? = some (.ro (ns.map .int))) (hn : ns.length ≤ 63) (hl : lap ≤ 3) : wp (runDef F g (d_spring c1 c0 s0) [.loc 0, .int lap]) (fun d s' => Gr s s' ∧ ∃ n, d = .loc n ∧ n ≠ 0 ∧ Spr n 1000 s') s := by
  have hz : (ns.map Dv.int).length ≤ 1000000 := by rw [List.length_map]; omega
  refine wp_run (env := [some (.loc 0), some (.int lap), none, none, none]) rfl rfl ?_
  -- cell
  have cell : wp (ev F g (.ite (.cmp .lt (.var 1) (.blt .len (.cons (.var 0) .nil))) (.blt .int1 (.cons (.idx (.var 0) (.var 1)) .nil)) (.bin .add (.bin .add (.bin .mul (.int c1) (.var 1)) (.int c0)) (.bin .mod (.blt .int1 (.cons (.blt .sum1 (.cons (.sl (.var 0) .none (.some (.int (3)))) .nil)) .nil)) (.int (999979))))) [some (.loc 0), some (.int lap), none, none, none]) (fun d s' => Gr s s' ∧ ∃ c : Int, d = .int c) s := by
    refine wp_ite (wt_cmp (wp_var rfl (wp_blt (wp_consA (wp_var rfl (wp_nilA (wp_ok (ro_len h0) (wp_is (lt_ii _ _) ?_))))))))
    by_cases c : (lap : Int) < ((ns.map Dv.int).length : Nat)
    · rw [decide_eq_true c, if_pos rfl]
      have lt : lap < ns.length := by rw [List.length_map] at c; omega
      have hv : atI (ns.map Dv.int) (lap : Int) = some (.int ns[lap]) := by
        refine atI_nat ?_
        rw [List.getElem?_map, List.getElem?_eq_getElem lt]; rfl
      exact wp_blt (wp_consA (wp_idx (wp_var rfl (wp_var rfl (wp_ok (ro_idx h0 hv) (wp_nilA (wp_is (int_i _) ⟨.refl _, _, rfl⟩)))))))
    · rw [decide_eq_false c, if_neg (by simp)]
      refine wp_bin (wp_bin (wp_bin (wp_is (a := .int c1) (by rw [ev]) (wp_var rfl (wp_is (mul_ii (mul_small (k := 32) (l := 32) hc1 (by omega) (by decide))) ?_)))))
      refine wp_is (a := .int c0) (by rw [ev]) (wp_is (add_ii _ _) ?_)
      refine wp_bin (wp_blt (wp_consA (wp_blt (wp_consA ?_))))
      rw [ev]
      refine wp_bind.mpr (wp_var rfl (wp_bind.mpr (wp_is (by rw [evo]) (wp_bind.mpr ?_))))
      rw [evo, ev, pb]
      refine wp_pure.mpr (ro_take (k := 3) h0 hz fun m s1 g1 c1 => wp_nilA ?_)
      rw [← List.map_take] at c1
      refine wp_ok (sum_ints c1) (wp_nilA (wp_is (int_i _) ?_))
      refine wp_pure.mpr (wp_is (mod_ii (by decide)) (wp_is (add_ii _ _) ⟨g1, _, rfl⟩))
  refine ws_asg (wp_imp cell fun d s1 ⟨g1, c, e⟩ => ?_)
  subst e
  refine ws_asg (wp_bin (wp_is (a := .int s0) (by rw [ev]) (wp_bin (wp_is (a := .int 3301) (by rw [ev]) (wp_var rfl (wp_is (mul_ii (mul_small (k := 32) (l := 32) (by decide) (by omega) (by decide))) (wp_is (add_ii _ _) ?_)))))))
  -- the loop
  have h1 := g1.get h0
  refine ws_forW (wk_seqW (wp_bin ?_))
  rw [ev]
  refine wp_bind.mpr (wp_var rfl (wp_bind.mpr (wp_is (by rw [evo]) (wp_bind.mpr ?_))))
  rw [evo, ev, pb]
  refine wp_pure.mpr (ro_take (k := 10) h1 hz fun m2 s2 g2 c2 => ?_)
  refine wp_lst (wp_consA (wp_var rfl (wp_nilA (wp_newL (by simp) fun m3 s3 g3 c3 => ?_))))
  rw [← List.map_take] at c2
  refine wp_addL (g3.get c2) c3 (by rw [List.length_map, List.length_take, List.length_singleton]; omega) fun m4 s4 g4 c4 => ?_
  have c4 : s4[m4]? = some (.lst (((ns.take 10) ++ [c]).map .int)) := by rw [c4, List.map_append]; rfl
  have g14 := ((g1.trans g2).trans g3).trans g4
  refine ⟨m4, _, rfl, c4, fun i env s' => Gr s4 s' ∧ ∃ st : Int, ∃ k, 0 ≤ st ∧ st < 2147483549 ∧ env = [some (.loc 0), some (.int lap), some (.int c), some (.int st), k], _, (walk_lst c4).2, ⟨.refl _, _, none, ?_, ?_, rfl⟩, fun i env s' h => (walk_lst c4).1 s' h.1 i, ?_, ?_⟩
  · omega
  · omega
  · rintro i x env s5 hx ⟨g5, st, k, st0, st1, rfl⟩
    obtain ⟨y, _, rfl⟩ : ∃ y, ((ns.take 10) ++ [c])[i]? = some y ∧ Dv.int y = x := by
      rw [List.getElem?_map] at hx
      exact Option.map_eq_some_iff.mp hx
    refine ⟨_, rfl, ws_asg (wp_bin (wp_blt (wp_consA (wp_bin (wp_bin (wp_bin (wp_var rfl ?_)))))))⟩
    refine wp_is (a := .int 48611) (by rw [ev]) (wp_is (mul_ii (mul_small (k := 32) (l := 32) (by omega) (by decide) (by decide))) ?_)
    refine wp_bin (wp_blt (wp_consA (wp_var rfl (wp_nilA (wp_is (int_i _) ?_)))))
    refine wp_is (a := .int 2147483549) (by rw [ev]) (wp_is (mod_ii (by decide)) (wp_is (add_ii _ _) ?_))
    refine wp_is (a := .int 19) (by rw [ev]) (wp_is (add_ii _ _) (wp_nilA (wp_is (int_i _) ?_)))
    refine wp_is (a := .int 2147483549) (by rw [ev]) (wp_is (mod_ii (by decide)) (ws_nil ⟨_, rfl, g5, _, _, Int.emod_nonneg _ (by decide), Int.emod_lt_of_pos _ (by decide), rfl⟩))
  · rintro env' s5 ⟨g5, st, k, st0, st1, rfl⟩
    refine ws_ret (wp_lst (wp_consA (wp_ite (wt_or (wt_cmp (wp_var rfl (wp_is (a := .int 0) (by rw [ev]) (wp_is (lt_ii _ _) ?_))))))))
    have fin : ∀ a : Int, wp (evs F g (.cons (.var 3) (.cons (.int 0) .nil)) [some (.loc 0), some (.int lap), some (.int c), some (.int st), k]) (fun ds s6 => wp (newL (.int a :: ds)) (fun d s7 => ∃ v, Fl.rt d = .rt v ∧ Gr s s7 ∧ ∃ n, v = .loc n ∧ n ≠ 0 ∧ Spr n 1000 s7) s6) s5 := fun a => by
      refine wp_consA (wp_var rfl (wp_consA (wp_is (a := .int 0) (by rw [ev]) (wp_nilA ?_))))
      refine ⟨.loc s5.length, s5 ++ [.lst [.int a, .int st, .int 0]], rfl, _, rfl, (g14.trans g5).trans (.push _ _), _, rfl, ?_, a, st, 0, by simp, st0, by omega, by decide, by decide⟩
      have := (g14.trans g5).get h0
      intro e
      rw [List.length_eq_zero_iff.mp e] at this
      cases this
    have yes : wp (ev F g (.blt .abs (.cons (.var 2) .nil)) [some (.loc 0), some (.int lap), some (.int c), some (.int st), k]) (fun d s6 => wp (evs F g (.cons (.var 3) (.cons (.int 0) .nil)) [some (.loc 0), some (.int lap), some (.int c), some (.int st), k]) (fun ds s6 => wp (newL (d :: ds)) (fun d s7 => ∃ v, Fl.rt d = .rt v ∧ Gr s s7 ∧ ∃ n, v = .loc n ∧ n ≠ 0 ∧ Spr n 1000 s7) s6) s6) s5 := wp_blt (wp_consA (wp_var rfl (wp_nilA (wp_is (abs_i c) (fin _)))))
    by_cases c0 : c < 0
    · rw [decide_eq_true c0, if_pos rfl, if_pos rfl]
      exact yes
    · rw [decide_eq_false c0, if_neg (by simp)]
      refine wt_cmp (wp_var rfl (wp_is (a := .int (10 ^ 18)) (by simp only [ev, pb]; rfl) (wp_is (show opC .ge (.int c) (.int (10 ^ 18)) = pure (decide ((10 ^ 18 : Int) ≤ c)) from rfl) ?_)))
      by_cases c1 : (10 ^ 18 : Int) ≤ c
      · rw [decide_eq_true c1, if_pos rfl]
        exact yes
      · rw [decide_eq_false c1, if_neg (by simp)]
        exact wp_is (a := .int 0) (by rw [ev]) (fin 0)
/-! the law -/
def RightS (F : Fs) (i : Nat) : Prop := ∀ (n : Nat) (s : Sto), Spr n 1000 s → wp (F i [.loc n]) (fun d s' => d = .bl true ∧ Kp n s s') s
def d_lawA (i_r i_s : Nat) : Dfn := ⟨"law", ["script"], ["script", "lap"], (.cons (.for_ (.nm 1) (.rng1 (.blt .max2 (.cons (.int (2)) (.cons (.blt .min2 (.cons (.blt .len (.cons (.var 0) .nil)) (.cons (.int (3)) .nil))) .nil)))) (.cons (.ite (.bnot (.call i_r (.cons (.call i_s (.cons (.var 0) (.cons (.var 1) .nil))) .nil))) (.cons (.ret (.bl false)) .nil) .nil) .nil)) (.cons (.ret (.bl true)) .nil)), []⟩
theorem law_s {i_r i_s : Nat} (fS : SpringS F i_s) (fR : RightS F i_r) (ns : List Int) (hn : ns.length ≤ 63) : wp (runDef F g (d_lawA i_r i_s) [.loc 0]) (fun d _ => d = .bl true) [.ro (ns.map .int)] := by
  refine wp_run (env := [some (.loc 0), none]) rfl rfl ?_
  have h0 : ([.ro (ns.map .int)] : Sto)[0]? = some (.ro (ns.map .int)) := rfl
  obtain ⟨n, hz, e⟩ : ∃ n : Nat, n ≤ 3 ∧ ∀ s : Sto, s[0]? = some (.ro (ns.map .int)) → ev F g (.blt .max2 (.cons (.int (2)) (.cons (.blt .min2 (.cons (.blt .len (.cons (.var 0) .nil)) (.cons (.int (3)) .nil))) .nil))) [some (.loc 0), none] s = .ok (.int n) s := by
    have key : ∀ s : Sto, s[0]? = some (.ro (ns.map .int)) → wp (ev F g (.blt .max2 (.cons (.int (2)) (.cons (.blt .min2 (.cons (.blt .len (.cons (.var 0) .nil)) (.cons (.int (3)) .nil))) .nil))) [some (.loc 0), none]) (fun d s' => s' = s ∧ d = .int ((if (3 : Int) < ((ns.map Dv.int).length : Int) then (3 : Int) else ((ns.map Dv.int).length : Int)) |> fun (x : Int) => if x > 2 then x else 2)) s := fun s hs => by
      refine wp_blt (wp_consA (wp_is (a := .int 2) (by rw [ev]) (wp_consA (wp_blt (wp_consA (wp_blt (wp_consA (wp_var rfl (wp_nilA (wp_ok (ro_len hs) (wp_consA (wp_is (a := .int 3) (by rw [ev]) (wp_nilA ?_)))))))))))))
      refine wp_is (show bltD .min2 [.int ((ns.map Dv.int).length : Int), .int 3] = pure (.int (if (3 : Int) < ((ns.map Dv.int).length : Int) then 3 else ((ns.map Dv.int).length : Int))) from rfl) (wp_nilA ?_)
      exact wp_is rfl ⟨rfl, rfl⟩
    refine ⟨((if (3 : Int) < ((ns.map Dv.int).length : Int) then (3 : Int) else ((ns.map Dv.int).length : Int)) |> fun (x : Int) => if x > 2 then x else 2).toNat, ?_, fun s hs => ?_⟩
    · simp only
      split <;> split <;> omega
    · obtain ⟨d, s', e, rfl, rfl⟩ := key s hs
      rw [e]
      congr 2
      simp only
      split <;> split <;> omega
  refine ws_forW ?_
  rw [evi]
  refine wp_bind.mpr (wp_ok (e _ h0) ?_)
  show wp (if -(2 ^ 62) ≤ (n : Int) ∧ (n : Int) < 2 ^ 62 then pure (Src.rng 0 (n : Int).toNat) else (fail : M Src)) _ _
  rw [if_pos (by omega), Int.toNat_natCast]
  refine wp_pure.mpr ⟨fun i env s' => s'[0]? = some (.ro (ns.map .int)) ∧ ∃ k, env = [some (.loc 0), k], (List.range n).map fun (i : Nat) => .int (0 + (i : Int)), (items_rng 0 n).2 _, ⟨h0, none, rfl⟩, fun i env s' _ => (items_rng 0 n).1 i s', ?_, ?_⟩
  · rintro i x env s1 hx ⟨c, k, rfl⟩
    have hi : i < n := by
      have := (List.getElem?_eq_some_iff.mp hx).1
      simpa using this
    have ex : x = .int (i : Int) := by
      rw [List.getElem?_map, List.getElem?_range hi] at hx
      cases hx
      show Dv.int (0 + (i : Int)) = _
      rw [Int.zero_add]
    subst ex
    refine ⟨[some (.loc 0), some (.int (i : Int))], rfl, ws_skip (wt_not (wt_call (wp_consA (wp_call (wp_consA (wp_var rfl (wp_consA (wp_var rfl (wp_nilA ?_))))))))) ⟩
    refine wp_imp (fS ns i s1 c hn (by omega)) fun d s2 ⟨g2, m, e2, m0, sp⟩ => ?_
    subst e2
    refine wp_nilA (wp_imp (fR m s2 sp) fun d s3 ⟨e3, kp⟩ => ?_)
    subst e3
    exact wp_is (truth_bl _) ⟨rfl, ws_nil ⟨_, rfl, kp 0 _ (fun z => m0 z.symm) (g2.get c), _, rfl⟩⟩
  · rintro env' s1 ⟨c, k, rfl⟩
    exact ws_ret (wp_is (a := .bl true) (by rw [ev]) ⟨_, rfl, rfl⟩)
/-! what is new -/
theorem add_tup {xs ys : List Dv} (h : xs.length + ys.length ≤ 1000000) : opB .add (.tup xs) (.tup ys) = pure (.tup (xs ++ ys)) := mkT_ok (by rw [List.length_append]; exact h)
theorem drop_tup {xs : List Dv} (k : Nat) (h : xs.length ≤ 1000000) : slD (.tup xs) (some ((k : Nat) : Int)) none = pure (.tup (xs.drop k)) := by
  show mkT (Dd.cutD xs (some (k : Int)) none) = _
  have e : Dd.cutD xs (some ((k : Nat) : Int)) none = xs.drop k := by
    unfold Dd.cutD
    rw [HT.sIx_none, HT.sIx_nat]
    by_cases c : k ≤ xs.length
    · rw [Nat.min_eq_left c, List.take_of_length_le (by rw [List.length_drop]; omega)]
    · rw [Nat.min_eq_right (by omega), List.drop_of_length_le (by omega), List.drop_of_length_le (by omega), List.take_nil]
  rw [e]
  exact mkT_ok (by rw [List.length_drop]; omega)
theorem take_tup {xs : List Dv} (k : Nat) (h : xs.length ≤ 1000000) : slD (.tup xs) none (some ((k : Nat) : Int)) = pure (.tup (xs.take k)) := by
  show mkT (Dd.cutD xs none (some (k : Int))) = _
  have e : Dd.cutD xs none (some ((k : Nat) : Int)) = xs.take k := by
    unfold Dd.cutD
    rw [HT.sIx_none, HT.sIx_nat, List.drop_zero, Nat.sub_zero]
    by_cases c : k ≤ xs.length
    · rw [Nat.min_eq_left c]
    · rw [Nat.min_eq_right (by omega), List.take_of_length_le (Nat.le_refl _), List.take_of_length_le (by omega)]
  rw [e]
  exact mkT_ok (by rw [List.length_take]; omega)
theorem idx_tup {xs : List Dv} {k : Nat} {v : Dv} (h : xs[k]? = some v) : idxD (.tup xs) (.int (k : Nat)) = pure v := by
  show ((match atI xs (k : Nat) with
    | some v => pure v
    | none => fail) : M Dv) = _
  rw [atI_nat h]
theorem rev_tup {xs : List Dv} (h : xs.length ≤ 1000000) : revD (.tup xs) = pure (.tup xs.reverse) := mkT_ok (by rw [List.length_reverse]; exact h)
theorem tuple_tup (xs : List Dv) : bltD .tuple1 [.tup xs] = pure (.tup xs) := rfl
/-- x.append(e) -/
theorem ws_app {o e : E} {r : Ss} {env : DEnv} {s : Sto} {Q : Fl → Sto → Prop} {n : Nat} {xs : List Dv} (ho : ev F g o env = pure (.loc n)) (h : s[n]? = some (.lst xs))
    (he : wp (ev F g e env) (fun d s1 => ∃ ys, s1[n]? = some (.lst ys) ∧ ys.length ≤ 1000000 ∧ wp (exs F g r env) Q (s1.set n (.lst (ys ++ [d])))) s) : wp (exs F g (.cons (.app o e) r) env) Q s := by
  rw [exs_cons, ex, ho, pb]
  show wp ((getC n >>= fun c => match c with
      | .lst _ => (ev F g e env >>= fun d => getC n >>= fun c => match c with
        | .lst xs => if small xs.length then (setC n (.lst (xs ++ [d])) >>= fun _ => pure (Fl.nx env)) else fail
        | _ => fail)
      | _ => fail) >>= _) Q s
  rw [bind_assoc_M]
  refine wp_bind.mpr (wp_ok (getC_ok h) ?_)
  show wp ((ev F g e env >>= fun d => getC n >>= fun c => match c with
        | .lst xs => if small xs.length then (setC n (.lst (xs ++ [d])) >>= fun _ => pure (Fl.nx env)) else fail
        | _ => fail) >>= _) Q s
  rw [bind_assoc_M]
  refine wp_bind.mpr (wp_imp he fun d s1 ⟨ys, h1, z, q⟩ => ?_)
  rw [bind_assoc_M]
  refine wp_bind.mpr (wp_ok (getC_ok h1) ?_)
  show wp ((if small ys.length then (setC n (.lst (ys ++ [d])) >>= fun _ => pure (Fl.nx env)) else fail) >>= _) Q s1
  rw [if_pos (show small ys.length = true from decide_eq_true z), bind_assoc_M]
  refine wp_bind.mpr (wp_ok (setC_ok h1) ?_)
  exact q
/-- x.pop() -/
theorem wp_pop {a : E} {env : DEnv} {s : Sto} {Q : Dv → Sto → Prop} {n : Nat} {xs : List Dv} {d : Dv} (ha : ev F g a env = pure (.loc n)) (h : s[n]? = some (.lst (xs ++ [d]))) (q : Q d (s.set n (.lst xs))) : wp (ev F g (.pop a) env) Q s := by
  rw [ev, ha, pb]
  show wp (getC n >>= fun c => match c with
    | .lst xs => match xs.getLast? with
      | some d => (setC n (.lst xs.dropLast) >>= fun _ => pure d)
      | none => fail
    | _ => fail) Q s
  refine wp_bind.mpr (wp_ok (getC_ok h) ?_)
  simp only [List.getLast?_append, List.getLast?_singleton, Option.some_or, List.dropLast_concat]
  exact wp_bind.mpr (wp_ok (setC_ok h) (wp_pure.mpr q))
/-- for tg in .., with a way out -/
theorem for_goB {src : Src} {turn : Dv → DEnv → M Fl} {items : List Dv} (I : Nat → DEnv → Sto → Prop) (R : DEnv → Sto → Prop) (reads : ∀ i env s, I i env s → nxt src i s = some items[i]?)
    (step : ∀ i x env s, items[i]? = some x → I i env s → wp (turn x env) (fun fl s' => (∃ e, fl = .nx e ∧ I (i + 1) e s') ∨ ∃ e, fl = .bk e ∧ R e s') s) (last : ∀ env s, I items.length env s → R env s) :
    ∀ (k i : Nat) (env : DEnv) (s : Sto), items.length ≤ k + i → i ≤ items.length → I i env s → wp (forRun src turn k i env) (fun fl s' => ∃ e, fl = .nx e ∧ R e s') s
  | 0, i, env, s, e, e2, h => by
    have hi : i = items.length := by omega
    have n : nxt src i s = some none := by rw [reads i env s h, List.getElem?_eq_none (by omega)]
    show wp (nxtM src i >>= fun o => match o with
      | none => pure (Fl.nx env)
      | some _ => fail) _ s
    exact wp_bind.mpr (wp_ok (nxtM_ok n) (wp_pure.mpr ⟨env, rfl, last env s (hi ▸ h)⟩))
  | k + 1, i, env, s, e, e2, h => by
    have u : forRun src turn (k + 1) i env = (nxtM src i >>= fun o => match o with
      | none => pure (Fl.nx env)
      | some d => turn d env >>= fun fl => match fl with
        | .nx e => forRun src turn k (i + 1) e
        | .ct e => forRun src turn k (i + 1) e
        | .bk e => pure (.nx e)
        | .rt v => pure (.rt v)) := rfl
    rw [u]
    by_cases hi : i < items.length
    · have n : nxt src i s = some (some items[i]) := by rw [reads i env s h, List.getElem?_eq_getElem hi]
      refine wp_bind.mpr (wp_ok (nxtM_ok n) ?_)
      refine wp_bind.mpr (wp_imp (step i items[i] env s (List.getElem?_eq_getElem hi) h) fun fl s' q => ?_)
      rcases q with ⟨e1, rfl, h'⟩ | ⟨e1, rfl, r⟩
      · exact for_goB I R reads step last k (i + 1) e1 s' (by omega) (by omega) h'
      · exact wp_pure.mpr ⟨e1, rfl, r⟩
    · have n : nxt src i s = some none := by rw [reads i env s h, List.getElem?_eq_none (by omega)]
      refine wp_bind.mpr (wp_ok (nxtM_ok n) (wp_pure.mpr ⟨env, rfl, last env s ?_⟩))
      rw [show items.length = i by omega]; exact h
theorem ws_forB {tg : Tg} {it : Dd.It} {b r : Ss} {env : DEnv} {s : Sto} {Q : Fl → Sto → Prop} {items : List Dv} (I : Nat → DEnv → Sto → Prop) (R : DEnv → Sto → Prop)
    (hi : wp (evi F g it env) (fun src s1 => items.length ≤ turns src s1 ∧ I 0 env s1 ∧ ∀ i env s, I i env s → nxt src i s = some items[i]?) s)
    (step : ∀ i x env s, items[i]? = some x → I i env s → ∃ env1, bindT tg x env = some env1 ∧ wp (exs F g b env1) (fun fl s' => (∃ e, fl = .nx e ∧ I (i + 1) e s') ∨ ∃ e, fl = .bk e ∧ R e s') s)
    (last : ∀ env s, I items.length env s → R env s)
    (q : ∀ env' s', R env' s' → wp (exs F g r env') Q s') : wp (exs F g (.cons (.for_ tg it b) r) env) Q s := by
  obtain ⟨src, s1, e1, ht, h0, rd⟩ := hi
  rw [exs_cons, ex, bind_assoc_M]
  refine wp_bind.mpr (wp_ok e1 ?_)
  rw [bind_assoc_M]
  refine wp_bind.mpr (wp_ok (show turnsM src s1 = .ok (turns src s1) s1 from rfl) ?_)
  refine wp_bind.mpr (wp_imp (for_goB (items := items) (turn := fun d env => lift (bindT tg d env) >>= fun env' => exs F g b env') I R rd (fun i x env s hx h => ?_) last (turns src s1) 0 env s1 (by omega) (Nat.zero_le _) h0) fun fl s' ⟨e, hf, h⟩ => ?_)
  · obtain ⟨env1, b1, w⟩ := step i x env s hx h
    rw [b1, lift_some, pb]
    exact w
  · subst hf
    exact q e s' h
theorem ws_brk {r : Ss} {env : DEnv} {s : Sto} {Q : Fl → Sto → Prop} (q : Q (.bk env) s) : wp (exs F g (.cons .brk r) env) Q s := by
  refine wp_is (a := .bk env) ?_ q
  rw [exs_cons, ex]
  rfl
end
end Sh
end
section
set_option Elab.async false
set_option linter.all false
set_option maxRecDepth 100000
/-! the urn of the later laws -/
namespace Sh
open PySem PySem.Spec PyProof.Rows L2 Dd
section
variable {F : Fs} {g : Str → Option Dv}
def b_urn : Ss := (.cons (.asg (.nm 2) (.ite (.cmp .lt (.var 1) (.blt .len (.cons (.var 0) .nil))) (.blt .int1 (.cons (.idx (.var 0) (.var 1)) .nil)) (.bin .add (.bin .add (.bin .mul (.int (8761)) (.var 1)) (.int (13))) (.bin .mod (.blt .int1 (.cons (.blt .sum1 (.cons (.sl (.var 0) .none (.some (.int (3)))) .nil)) .nil)) (.int (1000033)))))) (.cons (.asg (.nm 3) (.bin .add (.int (30011)) (.bin .mul (.int (4099)) (.var 1)))) (.cons (.for_ (.nm 4) (.seq (.bin .add (.sl (.var 0) .none (.some (.int (9)))) (.lst (.cons (.var 2) .nil)))) (.cons (.asg (.nm 3) (.bin .mod (.blt .int1 (.cons (.bin .add (.bin .add (.bin .mul (.var 3) (.int (64007))) (.bin .mod (.blt .int1 (.cons (.var 4) .nil)) (.int (2147483579)))) (.int (29))) .nil)) (.int (2147483563)))) .nil)) (.cons (.ret (.lst (.cons (.ite (.bor (.cmp .lt (.var 2) (.int (0))) (.cmp .ge (.var 2) (.bin .pow (.int (10)) (.int (18))))) (.blt .abs (.cons (.var 2) .nil)) (.int (0))) (.cons (.var 3) (.cons (.int (0)) .nil))))) .nil))))
def d_urn : Dfn := ⟨"_law_urn", ["script", "turn"], ["script", "turn", "own", "mixed", "cell"], b_urn, []⟩
def UrnS (F : Fs) (i : Nat) : Prop := ∀ (ns : List Int) (lap : Nat) (s : Sto), s[0]? = some (.ro (ns.map .int)) → ns.length ≤ 63 → lap ≤ 3 → wp (F i [.loc 0, .int lap]) (fun d s' => Gr s s' ∧ ∃ n, d = .loc n ∧ n ≠ 0 ∧ Spr n 1000 s') s
theorem urn_s (ns : List Int) (lap : Nat) (s : Sto) (h0 : s[0]? = some (.ro (ns.map .int))) (hn : ns.length ≤ 63) (hl : lap ≤ 3) : wp (runDef F g d_urn [.loc 0, .int lap]) (fun d s' => Gr s s' ∧ ∃ n, d = .loc n ∧ n ≠ 0 ∧ Spr n 1000 s') s := by
  have hz : (ns.map Dv.int).length ≤ 1000000 := by rw [List.length_map]; omega
  refine wp_run (env := [some (.loc 0), some (.int lap), none, none, none]) rfl rfl ?_
  -- cell
  have cell : wp (ev F g (.ite (.cmp .lt (.var 1) (.blt .len (.cons (.var 0) .nil))) (.blt .int1 (.cons (.idx (.var 0) (.var 1)) .nil)) (.bin .add (.bin .add (.bin .mul (.int (8761)) (.var 1)) (.int (13))) (.bin .mod (.blt .int1 (.cons (.blt .sum1 (.cons (.sl (.var 0) .none (.some (.int (3)))) .nil)) .nil)) (.int (1000033))))) [some (.loc 0), some (.int lap), none, none, none]) (fun d s' => Gr s s' ∧ ∃ c : Int, d = .int c) s := by
    refine wp_ite (wt_cmp (wp_var rfl (wp_blt (wp_consA (wp_var rfl (wp_nilA (wp_ok (ro_len h0) (wp_is (lt_ii _ _) ?_))))))))
    by_cases c : (lap : Int) < ((ns.map Dv.int).length : Nat)
    · rw [decide_eq_true c, if_pos rfl]
      have lt : lap < ns.length := by rw [List.length_map] at c; omega
      have hv : atI (ns.map Dv.int) (lap : Int) = some (.int ns[lap]) := by
        refine atI_nat ?_
        rw [List.getElem?_map, List.getElem?_eq_getElem lt]; rfl
      exact wp_blt (wp_consA (wp_idx (wp_var rfl (wp_var rfl (wp_ok (ro_idx h0 hv) (wp_nilA (wp_is (int_i _) ⟨.refl _, _, rfl⟩)))))))
    · rw [decide_eq_false c, if_neg (by simp)]
      refine wp_bin (wp_bin (wp_bin (wp_is (a := .int 8761) (by rw [ev]) (wp_var rfl (wp_is (mul_ii (mul_small (k := 32) (l := 32) (by decide) (by omega) (by decide))) ?_)))))
      refine wp_is (a := .int 13) (by rw [ev]) (wp_is (add_ii _ _) ?_)
      refine wp_bin (wp_blt (wp_consA (wp_blt (wp_consA ?_))))
      rw [ev]
      refine wp_bind.mpr (wp_var rfl (wp_bind.mpr (wp_is (by rw [evo]) (wp_bind.mpr ?_))))
      rw [evo, ev, pb]
      refine wp_pure.mpr (ro_take (k := 3) h0 hz fun m s1 g1 c1 => wp_nilA ?_)
      rw [← List.map_take] at c1
      refine wp_ok (sum_ints c1) (wp_nilA (wp_is (int_i _) ?_))
      refine wp_pure.mpr (wp_is (mod_ii (by decide)) (wp_is (add_ii _ _) ⟨g1, _, rfl⟩))
  refine ws_asg (wp_imp cell fun d s1 ⟨g1, c, e⟩ => ?_)
  subst e
  refine ws_asg (wp_bin (wp_is (a := .int (30011)) (by rw [ev]) (wp_bin (wp_is (a := .int 4099) (by rw [ev]) (wp_var rfl (wp_is (mul_ii (mul_small (k := 32) (l := 32) (by decide) (by omega) (by decide))) (wp_is (add_ii _ _) ?_)))))))
  -- the loop
  have h1 := g1.get h0
  refine ws_forW (wk_seqW (wp_bin ?_))
  rw [ev]
  refine wp_bind.mpr (wp_var rfl (wp_bind.mpr (wp_is (by rw [evo]) (wp_bind.mpr ?_))))
  rw [evo, ev, pb]
  refine wp_pure.mpr (ro_take (k := 9) h1 hz fun m2 s2 g2 c2 => ?_)
  refine wp_lst (wp_consA (wp_var rfl (wp_nilA (wp_newL (by simp) fun m3 s3 g3 c3 => ?_))))
  rw [← List.map_take] at c2
  refine wp_addL (g3.get c2) c3 (by rw [List.length_map, List.length_take, List.length_singleton]; omega) fun m4 s4 g4 c4 => ?_
  have c4 : s4[m4]? = some (.lst (((ns.take 9) ++ [c]).map .int)) := by rw [c4, List.map_append]; rfl
  have g14 := ((g1.trans g2).trans g3).trans g4
  refine ⟨m4, _, rfl, c4, fun i env s' => Gr s4 s' ∧ ∃ st : Int, ∃ k, 0 ≤ st ∧ st < 2147483563 ∧ env = [some (.loc 0), some (.int lap), some (.int c), some (.int st), k], _, (walk_lst c4).2, ⟨.refl _, _, none, ?_, ?_, rfl⟩, fun i env s' h => (walk_lst c4).1 s' h.1 i, ?_, ?_⟩
  · omega
  · omega
  · rintro i x env s5 hx ⟨g5, st, k, st0, st1, rfl⟩
    obtain ⟨y, _, rfl⟩ : ∃ y, ((ns.take 9) ++ [c])[i]? = some y ∧ Dv.int y = x := by
      rw [List.getElem?_map] at hx
      exact Option.map_eq_some_iff.mp hx
    refine ⟨_, rfl, ws_asg (wp_bin (wp_blt (wp_consA (wp_bin (wp_bin (wp_bin (wp_var rfl ?_)))))))⟩
    refine wp_is (a := .int 64007) (by rw [ev]) (wp_is (mul_ii (mul_small (k := 32) (l := 32) (by omega) (by decide) (by decide))) ?_)
    refine wp_bin (wp_blt (wp_consA (wp_var rfl (wp_nilA (wp_is (int_i _) ?_)))))
    refine wp_is (a := .int 2147483579) (by rw [ev]) (wp_is (mod_ii (by decide)) (wp_is (add_ii _ _) ?_))
    refine wp_is (a := .int 29) (by rw [ev]) (wp_is (add_ii _ _) (wp_nilA (wp_is (int_i _) ?_)))
    refine wp_is (a := .int 2147483563) (by rw [ev]) (wp_is (mod_ii (by decide)) (ws_nil ⟨_, rfl, g5, _, _, Int.emod_nonneg _ (by decide), Int.emod_lt_of_pos _ (by decide), rfl⟩))
  · rintro env' s5 ⟨g5, st, k, st0, st1, rfl⟩
    refine ws_ret (wp_lst (wp_consA (wp_ite (wt_or (wt_cmp (wp_var rfl (wp_is (a := .int 0) (by rw [ev]) (wp_is (lt_ii _ _) ?_))))))))
    have fin : ∀ a : Int, wp (evs F g (.cons (.var 3) (.cons (.int 0) .nil)) [some (.loc 0), some (.int lap), some (.int c), some (.int st), k]) (fun ds s6 => wp (newL (.int a :: ds)) (fun d s7 => ∃ v, Fl.rt d = .rt v ∧ Gr s s7 ∧ ∃ n, v = .loc n ∧ n ≠ 0 ∧ Spr n 1000 s7) s6) s5 := fun a => by
      refine wp_consA (wp_var rfl (wp_consA (wp_is (a := .int 0) (by rw [ev]) (wp_nilA ?_))))
      refine ⟨.loc s5.length, s5 ++ [.lst [.int a, .int st, .int 0]], rfl, _, rfl, (g14.trans g5).trans (.push _ _), _, rfl, ?_, a, st, 0, by simp, st0, by omega, by decide, by decide⟩
      have := (g14.trans g5).get h0
      intro e
      rw [List.length_eq_zero_iff.mp e] at this
      cases this
    have yes : wp (ev F g (.blt .abs (.cons (.var 2) .nil)) [some (.loc 0), some (.int lap), some (.int c), some (.int st), k]) (fun d s6 => wp (evs F g (.cons (.var 3) (.cons (.int 0) .nil)) [some (.loc 0), some (.int lap), some (.int c), some (.int st), k]) (fun ds s6 => wp (newL (d :: ds)) (fun d s7 => ∃ v, Fl.rt d = .rt v ∧ Gr s s7 ∧ ∃ n, v = .loc n ∧ n ≠ 0 ∧ Spr n 1000 s7) s6) s6) s5 := wp_blt (wp_consA (wp_var rfl (wp_nilA (wp_is (abs_i c) (fin _)))))
    by_cases c0 : c < 0
    · rw [decide_eq_true c0, if_pos rfl, if_pos rfl]
      exact yes
    · rw [decide_eq_false c0, if_neg (by simp)]
      refine wt_cmp (wp_var rfl (wp_is (a := .int (10 ^ 18)) (by simp only [ev, pb]; rfl) (wp_is (show opC .ge (.int c) (.int (10 ^ 18)) = pure (decide ((10 ^ 18 : Int) ≤ c)) from rfl) ?_)))
      by_cases c1 : (10 ^ 18 : Int) ≤ c
      · rw [decide_eq_true c1, if_pos rfl]
        exact yes
      · rw [decide_eq_false c1, if_neg (by simp)]
        exact wp_is (a := .int 0) (by rw [ev]) (fin 0)

def b_law_dip : Ss := (.cons (.ite (.cmp .gt (.idx (.var 0) (.int (0))) (.int (0))) (.cons (.asg2 (.var 0) (.int (0)) 3 (.blt .divmod (.cons (.idx (.var 0) (.int (0))) (.cons (.var 1) .nil)))) (.cons (.ret (.var 3)) .nil)) .nil) (.cons (.sub (.var 0) (.int (2)) (.bin .add (.idx (.var 0) (.int (2))) (.int (1)))) (.cons (.asg (.nm 2) (.bin .add (.bin .mod (.blt .int1 (.cons (.idx (.var 0) (.int (1))) .nil)) (.int (16381))) (.int (20011)))) (.cons (.sub (.var 0) (.int (1)) (.bin .mod (.blt .int1 (.cons (.bin .add (.bin .add (.bin .mul (.idx (.var 0) (.int (1))) (.var 2)) (.bin .mul (.int (90001)) (.idx (.var 0) (.int (2))))) (.int (3))) .nil)) (.int (2147483563)))) (.cons (.ret (.bin .mod (.blt .int1 (.cons (.bin .fdiv (.idx (.var 0) (.int (1))) (.int (97))) .nil)) (.var 1))) .nil)))))
def d_law_dip : Dfn := ⟨"_law_dip", ["urn", "many"], ["urn", "many", "factor", "digit"], b_law_dip, []⟩
def b_law_low : Ss := (.cons (.par 2 3 (.blt .abs (.cons (.var 0) .nil)) (.blt .abs (.cons (.var 1) .nil))) (.cons (.whl (.cmp .gt (.var 3) (.int (0))) (.cons (.par 2 3 (.var 3) (.bin .mod (.blt .int1 (.cons (.var 2) .nil)) (.var 3))) .nil)) (.cons (.ret (.num (.ite (.cmp .gt (.var 1) (.int (0))) (.bin .fdiv (.var 0) (.var 2)) (.bin .sub (.int (0)) (.bin .fdiv (.var 0) (.var 2)))) (.bin .fdiv (.blt .abs (.cons (.var 1) .nil)) (.var 2)))) .nil)))
def d_law_low : Dfn := ⟨"_law_low", ["top", "under"], ["top", "under", "one", "two"], b_law_low, []⟩
theorem dip_ok {n B : Nat} {w : Int} {sto : Sto} (h : Spr n (B + 1) sto) (hw : 0 < w) (hw2 : w < 1073741824) : ∃ v sto', runDef F g d_law_dip [.loc n, .int w] sto = .ok (.int v) sto' ∧ 0 ≤ v ∧ v < w ∧ Spr n B sto' ∧ At n sto sto' := by
  obtain ⟨a, b, c, e, hb, hb2, hc, hB⟩ := h
  have lt : n < sto.length := (List.getElem?_eq_some_iff.mp e).1
  have i0 : idxD (.loc n) (.int 0) sto = .ok (.int a) sto := idx_loc e rfl
  by_cases ha : 0 < a
  · refine ⟨a % w, sto.set n (.lst [.int (a / w), .int b, .int c]), ?_, Int.emod_nonneg _ (by omega), Int.emod_lt_of_pos _ hw, ⟨a / w, b, c, List.getElem?_set_self lt, hb, hb2, hc, by omega⟩, _, rfl⟩
    simp [runDef, d_law_dip, b_law_dip, exs_cons, exs_nil, ex, ev, evs, tst, bind_def, pure_def, i0, gt_ii, ha, divmod_ii hw hw2, getC_ok e, setC_ok e, show ixN 3 0 = some 0 from rfl]
  · have hc1 : c + 1 < 2 ^ 101 := by omega
    generalize et : b % 16381 + 20011 = t
    have t0 : 0 ≤ b % 16381 := Int.emod_nonneg _ (by decide)
    have t1 : b % 16381 < 16381 := Int.emod_lt_of_pos _ (by decide)
    generalize eb : (b * t + 90001 * (c + 1) + 3) % 2147483563 = b1
    have b0 : 0 ≤ b1 := eb ▸ Int.emod_nonneg _ (by decide)
    have b2 : b1 < 2147483563 := eb ▸ Int.emod_lt_of_pos _ (by decide)
    have m1 : mulOk b t = true := mul_small (k := 32) (l := 32) (by omega) (by omega) (by decide)
    have m2 : mulOk 90001 (c + 1) = true := mul_small (k := 32) (l := 101) (by decide) (by omega) (by decide)
    have e1 : (sto.set n (.lst [.int a, .int b, .int (c + 1)]))[n]? = some (.lst [.int a, .int b, .int (c + 1)]) := List.getElem?_set_self lt
    have e2 : (sto.set n (.lst [.int a, .int b1, .int (c + 1)]))[n]? = some (.lst [.int a, .int b1, .int (c + 1)]) := List.getElem?_set_self lt
    have j1 : idxD (.loc n) (.int 1) (sto.set n (.lst [.int a, .int b, .int (c + 1)])) = .ok (.int b) (sto.set n (.lst [.int a, .int b, .int (c + 1)])) := idx_loc e1 rfl
    have j2 : idxD (.loc n) (.int 2) (sto.set n (.lst [.int a, .int b, .int (c + 1)])) = .ok (.int (c + 1)) (sto.set n (.lst [.int a, .int b, .int (c + 1)])) := idx_loc e1 rfl
    have j3 : idxD (.loc n) (.int 1) (sto.set n (.lst [.int a, .int b1, .int (c + 1)])) = .ok (.int b1) (sto.set n (.lst [.int a, .int b1, .int (c + 1)])) := idx_loc e2 rfl
    have i2 : idxD (.loc n) (.int 2) sto = .ok (.int c) sto := idx_loc e rfl
    refine ⟨b1 / 97 % w, sto.set n (.lst [.int a, .int b1, .int (c + 1)]), ?_, Int.emod_nonneg _ (by omega), Int.emod_lt_of_pos _ hw, ⟨a, b1, c + 1, e2, b0, by omega, by omega, by omega⟩, _, rfl⟩
    simp [runDef, d_law_dip, b_law_dip, exs_cons, exs_nil, ex, ev, evs, tst, bind_def, pure_def, i0, gt_ii, ha, i2, j1, j2, j3, add_ii, mul_ii m1, mul_ii m2, int_i, mod_ii (show (0 : Int) < 2147483563 by decide), mod_ii (show (0 : Int) < 16381 by decide), mod_ii hw,
      fdiv_ii (i := b1) (j := 97) (by decide) (by decide), getC_ok e, getC_ok e1, setC_ok e, setC_ok e1, show ixN 3 2 = some 2 from rfl, show ixN 3 1 = some 1 from rfl, bindT, lift_some, et, eb, List.set_set]
theorem euclid2 (p q : Option Dv) : ∀ (m k x y : Nat), y < 2 ^ m → 2 * m + 2 ≤ k → whileRun (tst F g (.cmp .gt (.var 3) (.int 0))) (exs F g (.cons (.par 2 3 (.var 3) (.bin .mod (.blt .int1 (.cons (.var 2) .nil)) (.var 3))) .nil)) k [p, q, some (.int x), some (.int y)] =
    pure (.nx [p, q, some (.int (Nat.gcd x y : Nat)), some (.int 0)]) := by
  have stop : ∀ (k x : Nat), whileRun (tst F g (.cmp .gt (.var 3) (.int 0))) (exs F g (.cons (.par 2 3 (.var 3) (.bin .mod (.blt .int1 (.cons (.var 2) .nil)) (.var 3))) .nil)) (k + 1) [p, q, some (.int x), some (.int 0)] = pure (.nx [p, q, some (.int x), some (.int 0)]) := fun k x => by
    refine while_stop ?_
    simp [tst, ev, pb, gt_ii]
  have step : ∀ (k x y : Nat), 0 < y → whileRun (tst F g (.cmp .gt (.var 3) (.int 0))) (exs F g (.cons (.par 2 3 (.var 3) (.bin .mod (.blt .int1 (.cons (.var 2) .nil)) (.var 3))) .nil)) (k + 1) [p, q, some (.int x), some (.int y)] =
      whileRun (tst F g (.cmp .gt (.var 3) (.int 0))) (exs F g (.cons (.par 2 3 (.var 3) (.bin .mod (.blt .int1 (.cons (.var 2) .nil)) (.var 3))) .nil)) k [p, q, some (.int y), some (.int (x % y : Nat))] := fun k x y h => by
    refine while_step ?_ ?_
    · simp [tst, ev, pb, gt_ii, h]
    · simp [exs_cons, exs_nil, ex, ev, evs, pb, int_i, mod_ii (show (0 : Int) < y by omega)]
  intro m
  induction m with
  | zero =>
    intro k x y h hk
    obtain ⟨k, rfl⟩ : ∃ j, k = j + 1 := ⟨k - 1, by omega⟩
    obtain rfl : y = 0 := by simpa using h
    rw [show ((0 : Nat) : Int) = 0 from rfl, stop, Nat.gcd_zero_right]
  | succ m ih =>
    intro k x y h hk
    obtain ⟨k, rfl⟩ : ∃ j, k = j + 2 := ⟨k - 2, by omega⟩
    by_cases hy : y = 0
    · subst hy
      rw [show ((0 : Nat) : Int) = 0 from rfl, stop, Nat.gcd_zero_right]
    · have py : 0 < y := Nat.pos_of_ne_zero hy
      rw [step _ _ _ py]
      by_cases hr : x % y = 0
      · rw [hr, show ((0 : Nat) : Int) = 0 from rfl, stop, Nat.gcd_comm x y, Nat.gcd_rec y x, hr, Nat.gcd_zero_left]
      · have pr : 0 < x % y := Nat.pos_of_ne_zero hr
        have lr : x % y < y := Nat.mod_lt _ py
        rw [step _ _ _ pr]
        have ls : y % (x % y) < x % y := Nat.mod_lt _ pr
        have hd := Nat.div_add_mod y (x % y)
        have q1 : 1 ≤ y / (x % y) := (Nat.one_le_div_iff pr).mpr (Nat.le_of_lt lr)
        have q2 : x % y ≤ (x % y) * (y / (x % y)) := Nat.le_mul_of_pos_right _ q1
        have half : y % (x % y) < 2 ^ m := by
          rw [Nat.pow_succ] at h
          omega
        rw [ih k _ _ half (by omega)]
        rw [Nat.gcd_comm x y, Nat.gcd_rec y x, Nat.gcd_rec (x % y) y, Nat.gcd_comm (y % (x % y)) (x % y)]
theorem pure_wp {m : M Dv} {v : Dv} (h : ∀ s, wp m (fun d s' => d = v ∧ s' = s) s) : m = pure v := by
  funext s
  obtain ⟨d, s', e, rfl, rfl⟩ := h s
  exact e
theorem low_s (n d : Int) (h : 0 < d) (hd : d.natAbs < 2 ^ 9000) : runDef F g d_law_low [.int n, .int d] = pure (rv (mkRat n d.toNat)) := by
  have e := euclid2 (F := F) (g := g) (some (.int n)) (some (.int d)) 9000 whileFuel n.natAbs d.natAbs hd (by decide)
  rw [← mk_rat h]
  have d2 : (d.natAbs : Int) = d := by omega
  refine pure_wp fun s => wp_run (env := [some (.int n), some (.int d), none, none]) rfl rfl ?_
  refine ws_par (wp_blt (wp_consA (wp_var rfl (wp_nilA (wp_is (abs_i _) (wp_blt (wp_consA (wp_var rfl (wp_nilA (wp_is (abs_i _) ?_)))))))))) 
  rw [exs_cons, ex]
  refine wp_bind.mpr (wp_is e ?_)
  have f1 := fdiv_ii (i := n) (gcd_pos (n := n) h) (gcd_log h hd)
  have f2 := fdiv_ii (i := d) (gcd_pos (n := n) h) (gcd_log h hd)
  refine ws_ret ?_
  refine wp_is (a := mk n d) ?_ ⟨_, rfl, rfl, rfl⟩
  simp [ev, evs, tst, pb, gt_ii, h, abs_i, d2, f1, f2, mk]
end
end Sh
end
section
set_option Elab.async false
set_option linter.all false
/-! short forms (mathematics) -/
namespace Ms
abbrev Pc := Int × Rat
abbrev P := List Pc
/-- one piece more upon a stack, its last piece first -/
def rpush : P → Pc → P
  | [], x => if x.2 = 0 then [] else [x]
  | t :: st, x => if t.1 = x.1 then (if t.2 + x.2 = 0 then st else (x.1, t.2 + x.2) :: st) else if x.2 = 0 then t :: st else x :: t :: st
theorem rpush_nil (x : Pc) : rpush [] x = if x.2 = 0 then [] else [x] := rfl
theorem rpush_cons (t : Pc) (st : P) (x : Pc) : rpush (t :: st) x = if t.1 = x.1 then (if t.2 + x.2 = 0 then st else (x.1, t.2 + x.2) :: st) else if x.2 = 0 then t :: st else x :: t :: st := rfl
def Rd (p : P) : Prop := (∀ x ∈ p, x.2 ≠ 0) ∧ ∀ u x y v, p = u ++ x :: y :: v → x.1 ≠ y.1
theorem rd_nil : Rd [] := ⟨(fun _ h => nomatch h), fun u x y v h => by cases u <;> cases h⟩
theorem Rd.tail {x : Pc} {p : P} (h : Rd (x :: p)) : Rd p := ⟨fun y hy => h.1 y (.tail _ hy), fun u a b v e => h.2 (x :: u) a b v (by rw [e]; rfl)⟩
theorem rd_cons {x : Pc} {p : P} (hx : x.2 ≠ 0) (hp : Rd p) (hd : ∀ y r, p = y :: r → x.1 ≠ y.1) : Rd (x :: p) := by
  refine ⟨fun y hy => ?_, fun u a b v e => ?_⟩
  · rcases List.mem_cons.mp hy with rfl | hy
    · exact hx
    · exact hp.1 y hy
  · cases u with
    | nil =>
      simp at e
      obtain ⟨rfl, e⟩ := e
      exact hd b v e
    | cons c u =>
      simp at e
      exact hp.2 u a b v e.2
theorem Rd.top {x y : Pc} {p : P} (h : Rd (x :: y :: p)) : x.1 ≠ y.1 := h.2 [] x y p rfl
theorem Rd.rev {p : P} (h : Rd p) : Rd p.reverse := by
  refine ⟨fun x hx => h.1 x (List.mem_reverse.mp hx), fun u x y v e => ?_⟩
  have := congrArg List.reverse e
  rw [List.reverse_reverse] at this
  have := h.2 v.reverse y x u.reverse (by rw [this]; simp)
  exact fun z => this z.symm
theorem rpush_rd {st : P} (h : Rd st) (x : Pc) : Rd (rpush st x) := by
  cases st with
  | nil =>
    rw [rpush_nil]
    split
    · exact rd_nil
    · rename_i hx
      exact rd_cons hx rd_nil fun y r e => by cases e
  | cons t st =>
    rw [rpush_cons]
    split
    · rename_i e
      split
      · exact h.tail
      · rename_i hq
        refine rd_cons hq h.tail fun y r er => ?_
        subst er
        rw [← e]
        exact h.top
    · rename_i e
      split
      · exact h
      · rename_i hx
        refine rd_cons hx h fun y r er => ?_
        cases er
        exact fun z => e z.symm
theorem rpush_zero {st : P} (h : Rd st) (l : Int) : rpush st (l, 0) = st := by
  cases st with
  | nil => simp [rpush]
  | cons t st =>
    rw [rpush_cons]
    have ht := h.1 t (.head _)
    by_cases e : t.1 = l
    · simp only [e, if_true, Rat.add_zero]
      rw [if_neg ht]
      rw [← e]
    · simp [e]
theorem rpush_other {st : P} {t x : Pc} (e : t.1 ≠ x.1) (hx : x.2 ≠ 0) : rpush (t :: st) x = x :: t :: st := by
  rw [rpush_cons]
  rw [if_neg e, if_neg hx]
theorem rpush_same {st : P} {t x : Pc} (e : t.1 = x.1) : rpush (t :: st) x = if t.2 + x.2 = 0 then st else (x.1, t.2 + x.2) :: st := by
  rw [rpush_cons]
  rw [if_pos e]
theorem rpush_merge {st : P} (h : Rd st) (l : Int) (a b : Rat) : rpush (rpush st (l, a)) (l, b) = rpush st (l, a + b) := by
  by_cases ha : a = 0
  · subst ha
    rw [rpush_zero h, Rat.zero_add]
  cases st with
  | nil =>
    have e1 : rpush [] (l, a) = [(l, a)] := by simp [rpush, ha]
    rw [e1, rpush_same (t := (l, a)) (x := (l, b)) rfl]
    simp [rpush_nil]
  | cons t st =>
    have ht := h.1 t (.head _)
    by_cases e : t.1 = l
    · rw [rpush_same e, rpush_same e]
      simp only
      by_cases z : t.2 + a = 0
      · rw [if_pos z]
        have ea : t.2 + (a + b) = b := by rw [← Rat.add_assoc, z, Rat.zero_add]
        rw [ea]
        cases st with
        | nil => simp [rpush]
        | cons y r =>
          have ny : y.1 ≠ l := fun q => h.top (e.trans q.symm)
          rw [rpush_cons]
          simp only [ny, if_false]
      · rw [if_neg z, rpush_same (t := (l, t.2 + a)) (x := (l, b)) rfl]
        simp only [Rat.add_assoc]
    · rw [rpush_other (x := (l, a)) e ha, rpush_same (t := (l, a)) (x := (l, b)) rfl]
      by_cases z : a + b = 0
      · simp only [z, if_true]
        rw [rpush_zero h]
      · simp only [z, if_false]
        rw [rpush_other e z]
/-- the short form, its last piece first -/
def foldR (st p : P) : P := p.foldl rpush st
theorem foldR_rd : ∀ {p st : P}, Rd st → Rd (foldR st p)
  | [], st, h => h
  | x :: p, st, h => foldR_rd (p := p) (rpush_rd h x)
def short (p : P) : P := (foldR [] p).reverse
theorem short_rd (p : P) : Rd (short p) := (foldR_rd rd_nil).rev
/-- one thing done -/
inductive R1 : P → P → Prop where
  | zero (u : P) (l : Int) (v : P) : R1 (u ++ (l, 0) :: v) (u ++ v)
  | merge (u : P) (l : Int) (a b : Rat) (v : P) : R1 (u ++ (l, a) :: (l, b) :: v) (u ++ (l, a + b) :: v)
inductive Rs : P → P → Prop where
  | refl (p : P) : Rs p p
  | step {p q r : P} : R1 p q → Rs q r → Rs p r
theorem Rs.one {p q : P} (h : R1 p q) : Rs p q := .step h (.refl q)
theorem Rs.trans {p q r : P} (h : Rs p q) (k : Rs q r) : Rs p r := by
  induction h with
  | refl => exact k
  | step a _ ih => exact .step a (ih k)
theorem r1_fold {p q : P} (h : R1 p q) {st : P} (hs : Rd st) : foldR st p = foldR st q := by
  cases h with
  | zero u l v =>
    have := rpush_zero (foldR_rd (p := u) hs) l
    unfold foldR at this ⊢
    rw [List.foldl_append, List.foldl_append, List.foldl_cons, this]
  | merge u l a b v =>
    have := rpush_merge (foldR_rd (p := u) hs) l a b
    unfold foldR at this ⊢
    rw [List.foldl_append, List.foldl_append, List.foldl_cons, List.foldl_cons, List.foldl_cons, this]
theorem rs_fold {p q : P} (h : Rs p q) {st : P} (hs : Rd st) : foldR st p = foldR st q := by
  induction h with
  | refl => rfl
  | step a _ ih => rw [r1_fold a hs, ih]
theorem rs_short {p q : P} (h : Rs p q) : short p = short q := by unfold short; rw [rs_fold h rd_nil]
theorem R1.left {p q : P} (h : R1 p q) (w : P) : R1 (w ++ p) (w ++ q) := by
  cases h with
  | zero u l v => rw [← List.append_assoc, ← List.append_assoc]; exact .zero _ l v
  | merge u l a b v => rw [← List.append_assoc, ← List.append_assoc]; exact .merge _ l a b v
theorem R1.right {p q : P} (h : R1 p q) (w : P) : R1 (p ++ w) (q ++ w) := by
  cases h with
  | zero u l v => rw [List.append_assoc, List.append_assoc, List.cons_append]; exact .zero u l (v ++ w)
  | merge u l a b v => rw [List.append_assoc, List.append_assoc]; exact .merge u l a b (v ++ w)
theorem Rs.left {p q : P} (h : Rs p q) (w : P) : Rs (w ++ p) (w ++ q) := by
  induction h with
  | refl => exact .refl _
  | step a _ ih => exact .step (a.left w) ih
theorem Rs.right {p q : P} (h : Rs p q) (w : P) : Rs (p ++ w) (q ++ w) := by
  induction h with
  | refl => exact .refl _
  | step a _ ih => exact .step (a.right w) ih
theorem rs_push (st : P) (x : Pc) : Rs (st.reverse ++ [x]) (rpush st x).reverse := by
  obtain ⟨l, q⟩ := x
  cases st with
  | nil =>
    rw [rpush_nil]
    split
    · rename_i h
      simp only at h
      subst h
      exact .one (.zero [] l [])
    · exact .refl _
  | cons t st =>
    obtain ⟨tl, tq⟩ := t
    rw [rpush_cons]
    simp only
    have e : (((tl, tq) :: st).reverse ++ [(l, q)] : P) = st.reverse ++ (tl, tq) :: [(l, q)] := by simp
    rw [e]
    split
    · rename_i h
      subst h
      have m : R1 (st.reverse ++ (tl, tq) :: (tl, q) :: []) (st.reverse ++ (tl, tq + q) :: []) := .merge _ tl tq q []
      split
      · rename_i z
        rw [z] at m
        have k : R1 (st.reverse ++ (tl, 0) :: []) (st.reverse ++ []) := .zero _ tl []
        rw [List.append_nil] at k
        exact .step m (.one k)
      · rw [List.reverse_cons]
        exact .one m
    · split
      · rename_i h
        subst h
        have k : R1 ((st.reverse ++ [(tl, tq)]) ++ (l, 0) :: []) ((st.reverse ++ [(tl, tq)]) ++ []) := .zero _ l []
        simp at k ⊢
        exact .one k
      · simp
        exact .refl _
theorem rs_to (p : P) : ∀ st : P, Rs (st.reverse ++ p) (foldR st p).reverse := by
  induction p with
  | nil => intro st; rw [List.append_nil]; exact .refl _
  | cons x p ih =>
    intro st
    have a := (rs_push st x).right p
    rw [List.append_assoc] at a
    exact a.trans (ih (rpush st x))
theorem to_short (p : P) : Rs p (short p) := rs_to p []
theorem fold_rd : ∀ (p st : P), Rd (st.reverse ++ p) → foldR st p = p.reverse ++ st
  | [], st, _ => rfl
  | (l, q) :: p, st, h => by
    have hq : q ≠ 0 := h.1 (l, q) (by simp)
    have e : rpush st (l, q) = (l, q) :: st := by
      cases st with
      | nil => simp [rpush, hq]
      | cons t st =>
        refine rpush_other (fun z => ?_) hq
        exact h.2 st.reverse t (l, q) p (by simp) z
    show foldR (rpush st (l, q)) p = _
    rw [e, fold_rd p ((l, q) :: st) (by simpa using h)]
    simp
theorem short_of_rd {p : P} (h : Rd p) : short p = p := by
  unfold short
  rw [fold_rd p [] (by simpa using h), List.append_nil, List.reverse_reverse]
theorem short_uniq {p q : P} (h : Rs p q) (hq : Rd q) : q = short p := by rw [rs_short h, short_of_rd hq]
theorem short_short (p : P) : short (short p) = short p := short_of_rd (short_rd p)
theorem short_left (a b : P) : short (short a ++ b) = short (a ++ b) := (rs_short ((to_short a).right b)).symm
theorem short_right (a b : P) : short (a ++ short b) = short (a ++ b) := (rs_short ((to_short b).left a)).symm
/-! turned round, undone, times a number -/
def times (p : P) (c : Rat) : P := p.map fun x => (x.1, x.2 * c)
def undo (p : P) : P := p.reverse.map fun x => (x.1, -x.2)
theorem R1.rev {p q : P} (h : R1 p q) : R1 p.reverse q.reverse := by
  cases h with
  | zero u l v =>
    simp only [List.reverse_append, List.reverse_cons, List.append_assoc]
    exact .zero v.reverse l u.reverse
  | merge u l a b v =>
    simp only [List.reverse_append, List.reverse_cons, List.append_assoc]
    rw [Rat.add_comm a b]
    exact .merge v.reverse l b a u.reverse
theorem R1.times {p q : P} (h : R1 p q) (c : Rat) : R1 (times p c) (times q c) := by
  unfold Ms.times
  cases h with
  | zero u l v =>
    simp only [List.map_append, List.map_cons, Rat.zero_mul]
    exact .zero _ l _
  | merge u l a b v =>
    simp only [List.map_append, List.map_cons, Rat.add_mul]
    exact .merge _ l _ _ _
theorem Rs.rev {p q : P} (h : Rs p q) : Rs p.reverse q.reverse := by
  induction h with
  | refl => exact .refl _
  | step a _ ih => exact .step a.rev ih
theorem Rs.times {p q : P} (h : Rs p q) (c : Rat) : Rs (times p c) (times q c) := by
  induction h with
  | refl => exact .refl _
  | step a _ ih => exact .step (a.times c) ih
theorem Rd.times {p : P} (h : Rd p) {c : Rat} (hc : c ≠ 0) : Rd (times p c) := by
  unfold Ms.times
  refine ⟨fun x hx => ?_, fun u x y v e => ?_⟩
  · obtain ⟨y, hy, rfl⟩ := List.mem_map.mp hx
    exact fun z => (Rat.mul_eq_zero.mp z).elim (h.1 y hy) hc
  · obtain ⟨u', r, e1, e2, e3⟩ := List.map_eq_append_iff.mp e
    obtain ⟨x', r', e4, e5, e6⟩ := List.map_eq_cons_iff.mp e3
    obtain ⟨y', v', e7, e8, e9⟩ := List.map_eq_cons_iff.mp e6
    subst e4 e7 e1
    have := h.2 u' x' y' v' rfl
    rw [← e5, ← e8]
    exact this
theorem undo_eq (p : P) : undo p = times p.reverse (-1) := by
  unfold undo times
  refine List.map_congr_left fun x _ => ?_
  have : x.2 * (-1 : Rat) = -x.2 := by rw [Rat.mul_neg, Rat.mul_one]
  rw [this]
theorem short_rev (p : P) : short p.reverse = (short p).reverse := (short_uniq (to_short p).rev (short_rd p).rev).symm
theorem short_times (p : P) {c : Rat} (hc : c ≠ 0) : short (times p c) = times (short p) c := (short_uniq ((to_short p).times c) ((short_rd p).times hc)).symm
theorem short_undo (p : P) : short (undo p) = undo (short p) := by
  rw [undo_eq, undo_eq, short_times _ (by decide), short_rev]
theorem short_times0 : ∀ p : P, short (times p 0) = [] := by
  intro p
  have : Rs (times p 0) [] := by
    induction p with
    | nil => exact .refl _
    | cons x p ih =>
      have : times (x :: p) 0 = [] ++ (x.1, 0) :: times p 0 := by simp [times]
      rw [this]
      exact .step (.zero [] x.1 _) ih
  rw [rs_short this]
  rfl
theorem rs_undo : ∀ p : P, Rs (p ++ undo p) []
  | [] => .refl _
  | (l, q) :: p => by
    have e : ((l, q) :: p) ++ undo ((l, q) :: p) = ([(l, q)] ++ (p ++ undo p)) ++ [(l, -q)] := by simp [undo]
    rw [e]
    refine (((rs_undo p).left [(l, q)]).right [(l, -q)]).trans ?_
    have m : R1 ([] ++ (l, q) :: (l, -q) :: []) ([] ++ (l, q + -q) :: []) := .merge [] l q (-q) []
    have z : q + -q = 0 := by rw [Rat.add_neg_cancel]
    rw [z] at m
    exact .step m (.one (.zero [] l []))
theorem undo_undo (p : P) : undo (undo p) = p := by
  unfold undo
  rw [← List.map_reverse, List.reverse_reverse, List.map_map]
  have : ((fun x : Pc => (x.1, -x.2)) ∘ fun x : Pc => (x.1, -x.2)) = id := by
    funext x
    simp [Rat.neg_neg]
  rw [this, List.map_id]
theorem rs_undo' (p : P) : Rs (undo p ++ p) [] := by
  have := rs_undo (undo p)
  rwa [undo_undo] at this
end Ms
end
section
set_option Elab.async false
set_option linter.all false
set_option maxRecDepth 100000
/-! sizes of steps -/
namespace Ms
open Sh
def ab (q : Rat) : Rat := if 0 ≤ q then q else -q
theorem ab_nn (q : Rat) : 0 ≤ ab q := by unfold ab; split <;> grind
theorem ab_hi (q : Rat) : q ≤ ab q := by unfold ab; split <;> grind
theorem ab_lo (q : Rat) : -ab q ≤ q := by unfold ab; split <;> grind
theorem ab_add (p q : Rat) : ab (p + q) ≤ ab p + ab q := by unfold ab; split <;> split <;> split <;> grind
theorem ab_neg (q : Rat) : ab (-q) = ab q := by unfold ab; split <;> split <;> grind
theorem ab_le {q : Rat} {M : Nat} (h1 : -(M : Rat) ≤ q) (h2 : q ≤ (M : Rat)) : ab q ≤ (M : Rat) := by unfold ab; split <;> grind
theorem ab_zero : ab 0 = 0 := by unfold ab; split <;> grind
theorem ab_mul {p q : Rat} {M : Nat} (h1 : -(M : Rat) ≤ q) (h2 : q ≤ (M : Rat)) : ab (p * q) ≤ ab p * (M : Rat) := by
  have a : 0 ≤ (M : Rat) - q := by grind
  have b : 0 ≤ (M : Rat) + q := by grind
  have n := ab_nn p
  have c := Rat.mul_nonneg n a
  have d := Rat.mul_nonneg n b
  by_cases hp : 0 ≤ p
  · have e : ab p = p := by unfold ab; rw [if_pos hp]
    rw [e] at c d ⊢
    unfold ab
    split <;> grind
  · have e : ab p = -p := by unfold ab; rw [if_neg hp]
    rw [e] at c d ⊢
    unfold ab
    split <;> grind
def nm : P → Rat
  | [] => 0
  | x :: p => ab x.2 + nm p
theorem nm_nn : ∀ p : P, 0 ≤ nm p
  | [] => by unfold nm; grind
  | x :: p => by
    have := nm_nn p
    have := ab_nn x.2
    unfold nm; grind
theorem nm_app : ∀ p q : P, nm (p ++ q) = nm p + nm q
  | [], q => by show nm q = nm [] + nm q; unfold nm; grind
  | x :: p, q => by
    have := nm_app p q
    show ab x.2 + nm (p ++ q) = (ab x.2 + nm p) + nm q
    grind
theorem nm_mem : ∀ {p : P} {x : Pc}, x ∈ p → ab x.2 ≤ nm p
  | y :: p, x, h => by
    have := nm_nn p
    have := ab_nn y.2
    rcases List.mem_cons.mp h with rfl | h
    · unfold nm; grind
    · have := nm_mem h
      unfold nm; grind
structure Fit (D N : Nat) (p : P) : Prop where
  whole : ∀ x ∈ p, ∃ n : Int, x.2 * (D : Rat) = (n : Rat)
  size : nm p ≤ (N : Rat)
variable {D N : Nat} {p q : P}
theorem Fit.bd (h : Fit D N p) {x : Pc} (hx : x ∈ p) : Bd D N x.2 := by
  have a := nm_mem hx
  have b := h.size
  have c := ab_hi x.2
  have d := ab_lo x.2
  exact ⟨h.whole x hx, by grind, by grind⟩
theorem Fit.nil (D N : Nat) : Fit D N [] := ⟨fun _ h => (nomatch h), by
  have : (0 : Rat) ≤ (N : Rat) := by
    have := cast_le (Nat.zero_le N)
    exact this
  unfold nm; exact this⟩
theorem Fit.app {M : Nat} (h : Fit D N p) (k : Fit D M q) : Fit D (N + M) (p ++ q) := ⟨fun x hx => (List.mem_append.mp hx).elim (h.whole x) (k.whole x), by
  have := h.size
  have := k.size
  rw [nm_app, Rat.natCast_add]
  grind⟩
theorem Fit.left (h : Fit D N (p ++ q)) : Fit D N p := ⟨fun x hx => h.whole x (List.mem_append_left _ hx), by
  have := h.size
  have := nm_nn q
  rw [nm_app] at *
  grind⟩
theorem Fit.right (h : Fit D N (p ++ q)) : Fit D N q := ⟨fun x hx => h.whole x (List.mem_append_right _ hx), by
  have := h.size
  have := nm_nn p
  rw [nm_app] at *
  grind⟩
theorem Fit.take (h : Fit D N p) (k : Nat) : Fit D N (p.take k) := Fit.left (q := p.drop k) (by rw [List.take_append_drop]; exact h)
theorem Fit.drop (h : Fit D N p) (k : Nat) : Fit D N (p.drop k) := Fit.right (p := p.take k) (by rw [List.take_append_drop]; exact h)
theorem Fit.up {E M : Nat} (h : Fit D N p) (d : D ∣ E) (l : N ≤ M) : Fit E M p := by
  refine ⟨fun x hx => ?_, ?_⟩
  · obtain ⟨k, rfl⟩ := d
    obtain ⟨n, e⟩ := h.whole x hx
    exact ⟨n * k, by rw [Rat.natCast_mul, Rat.intCast_mul, ← Rat.mul_assoc, e]; rfl⟩
  · have := h.size
    have := cast_le l
    grind
theorem Fit.one {l : Int} {c : Rat} (h : Bd D N c) : Fit D N [(l, c)] := ⟨fun x hx => by
  rcases List.mem_singleton.mp hx with rfl
  exact h.whole, by
  have := ab_le h.lo h.hi
  unfold nm nm
  grind⟩
theorem bd_zero (D N : Nat) : Bd D N 0 := ⟨⟨0, by rw [Rat.zero_mul]; rfl⟩, by
  have : (0 : Rat) ≤ (N : Rat) := cast_le (Nat.zero_le N)
  grind, cast_le (Nat.zero_le N)⟩
theorem Fit.r1 (h : Fit D N p) (r : R1 p q) : Fit D N q := by
  cases r with
  | zero u l v =>
    refine ⟨fun x hx => h.whole x ?_, ?_⟩
    · rcases List.mem_append.mp hx with hx | hx
      · exact List.mem_append_left _ hx
      · exact List.mem_append_right _ (.tail _ hx)
    · have := h.size
      rw [nm_app] at *
      show nm u + nm v ≤ _
      have e : nm ((l, (0 : Rat)) :: v) = ab 0 + nm v := rfl
      have := ab_zero
      grind
  | merge u l a b v =>
    refine ⟨fun x hx => ?_, ?_⟩
    · rcases List.mem_append.mp hx with hx | hx
      · exact h.whole x (List.mem_append_left _ hx)
      · rcases List.mem_cons.mp hx with rfl | hx
        · obtain ⟨n, e⟩ := h.whole (l, a) (by simp)
          obtain ⟨m, f⟩ := h.whole (l, b) (by simp)
          refine ⟨n + m, ?_⟩
          rw [Rat.intCast_add, ← e, ← f, Rat.add_mul]
        · exact h.whole x (List.mem_append_right _ (.tail _ (.tail _ hx)))
    · have := h.size
      rw [nm_app] at *
      have e : nm ((l, a) :: (l, b) :: v) = ab a + (ab b + nm v) := rfl
      have e2 : nm ((l, a + b) :: v) = ab (a + b) + nm v := rfl
      have := ab_add a b
      grind
theorem Fit.rs (h : Fit D N p) (r : Rs p q) : Fit D N q := by
  induction r with
  | refl => exact h
  | step a _ ih => exact ih (h.r1 a)
theorem nm_rev : ∀ p : P, nm p.reverse = nm p
  | [] => rfl
  | x :: p => by
    rw [List.reverse_cons, nm_app, nm_rev p]
    have : nm [x] = ab x.2 + 0 := rfl
    show nm p + nm [x] = ab x.2 + nm p
    grind
theorem Fit.rev (h : Fit D N p) : Fit D N p.reverse := ⟨fun x hx => h.whole x (List.mem_reverse.mp hx), by rw [nm_rev]; exact h.size⟩
theorem Fit.cons {x : Pc} (h : Fit D N (x :: p)) : Fit D N p := Fit.right (p := [x]) h
theorem Fit.times {E M : Nat} {c : Rat} (h : Fit D N p) (b : Bd E M c) : Fit (D * E) (N * M) (times p c) := by
  refine ⟨fun x hx => ?_, ?_⟩
  · obtain ⟨y, hy, rfl⟩ := List.mem_map.mp hx
    obtain ⟨n, e⟩ := h.whole y hy
    obtain ⟨m, f⟩ := b.whole
    refine ⟨n * m, ?_⟩
    rw [Rat.natCast_mul, Rat.intCast_mul, ← e, ← f]
    show y.2 * c * _ = _
    grind
  · have size : nm (Ms.times p c) ≤ nm p * (M : Rat) := by
      clear h
      induction p with
      | nil =>
        show (0 : Rat) ≤ 0 * (M : Rat)
        grind
      | cons y p ih =>
        have e : nm (Ms.times (y :: p) c) = ab (y.2 * c) + nm (Ms.times p c) := rfl
        have e2 : nm (y :: p) = ab y.2 + nm p := rfl
        have := ab_mul (p := y.2) b.lo b.hi
        rw [e, e2]
        grind
    have m0 : (0 : Rat) ≤ (M : Rat) := cast_le (Nat.zero_le M)
    have : 0 ≤ ((N : Rat) - nm p) * (M : Rat) := Rat.mul_nonneg (by have := h.size; grind) m0
    rw [Rat.natCast_mul]
    grind
theorem Fit.undo (h : Fit D N p) : Fit D N (undo p) := by
  rw [undo_eq]
  have := h.rev.times (E := 1) (M := 1) (c := -1) ⟨⟨-1, by rw [show ((1 : Nat) : Rat) = 1 from rfl, Rat.mul_one]; rfl⟩, by decide, by decide⟩
  rwa [Nat.mul_one, Nat.mul_one] at this
theorem Fit.sz (h : Fit D N p) (hD : 0 < D) {k : Nat} (h1 : N * D < 2 ^ k) (h2 : D < 2 ^ k) {x : Pc} (hx : x ∈ p) : Sz k x.2 := (h.bd hx).sz hD h1 h2
end Ms
end
section
set_option Elab.async false
set_option linter.all false
/-! steps on the swing: their matrices, and the words of these (mathematics) -/
namespace Mw
open Ms
structure Mt where
  a : Rat
  b : Rat
  c : Rat
  d : Rat
theorem Mt.ext' {m n : Mt} (h1 : m.a = n.a) (h2 : m.b = n.b) (h3 : m.c = n.c) (h4 : m.d = n.d) : m = n := by
  obtain ⟨a, b, c, d⟩ := m
  obtain ⟨a', b', c', d'⟩ := n
  simp only at h1 h2 h3 h4
  rw [h1, h2, h3, h4]
/-- one piece more, for so much s of its letter -/
def put (l : Int) (s : Rat) (m : Mt) : Mt := if l = 0 then ⟨m.a, m.b + s * m.a, m.c, m.d + s * m.c⟩ else ⟨m.a + -s * m.b, m.b, m.c + -s * m.d, m.d⟩
def run (t : Rat) (m : Mt) (p : P) : Mt := p.foldl (fun m x => put x.1 (x.2 * t) m) m
def e : Mt := ⟨1, 0, 0, 1⟩
def mul (m n : Mt) : Mt := ⟨m.a * n.a + m.b * n.c, m.a * n.b + m.b * n.d, m.c * n.a + m.d * n.c, m.c * n.b + m.d * n.d⟩
theorem put_mul (l : Int) (s : Rat) (m n : Mt) : put l s (mul m n) = mul m (put l s n) := by
  unfold put mul
  by_cases h : l = 0
  · simp only [h, if_true]
    refine Mt.ext' ?_ ?_ ?_ ?_ <;> simp only <;> grind
  · simp only [h, if_false]
    refine Mt.ext' ?_ ?_ ?_ ?_ <;> simp only <;> grind
variable {t : Rat}
theorem run_cons (m : Mt) (x : Pc) (p : P) : run t m (x :: p) = run t (put x.1 (x.2 * t) m) p := rfl
theorem run_mul (m : Mt) : ∀ (p : P) (n : Mt), run t (mul m n) p = mul m (run t n p)
  | [], n => rfl
  | x :: p, n => by rw [run_cons, run_cons, put_mul, run_mul m p]
theorem mul_e (m : Mt) : mul m e = m := by
  unfold mul e
  refine Mt.ext' ?_ ?_ ?_ ?_ <;> simp only <;> grind
theorem run_app (m : Mt) (p q : P) : run t m (p ++ q) = run t (run t m p) q := by
  unfold run
  rw [List.foldl_append]
theorem mt_app (p q : P) : run t e (p ++ q) = mul (run t e p) (run t e q) := by
  rw [run_app, ← run_mul, mul_e]
def det (m : Mt) : Rat := m.a * m.d - m.b * m.c
theorem det_put (l : Int) (s : Rat) (m : Mt) : det (put l s m) = det m := by
  unfold det put
  by_cases h : l = 0
  · simp only [h, if_true]; grind
  · simp only [h, if_false]; grind
theorem det_run : ∀ (p : P) (m : Mt), det (run t m p) = det m
  | [], m => rfl
  | x :: p, m => by rw [run_cons, det_run p, det_put]
theorem det_e (p : P) : det (run t e p) = 1 := by rw [det_run]; show (1 * 1 - 0 * 0 : Rat) = 1; grind
theorem put_zero (l : Int) (m : Mt) : put l 0 m = m := by
  unfold put
  by_cases h : l = 0
  · simp only [h, if_true]
    refine Mt.ext' ?_ ?_ ?_ ?_ <;> simp only <;> grind
  · simp only [h, if_false]
    refine Mt.ext' ?_ ?_ ?_ ?_ <;> simp only <;> grind
theorem put_put (l : Int) (s r : Rat) (m : Mt) : put l r (put l s m) = put l (s + r) m := by
  unfold put
  by_cases h : l = 0
  · simp only [h, if_true]
    refine Mt.ext' ?_ ?_ ?_ ?_ <;> simp only <;> grind
  · simp only [h, if_false]
    refine Mt.ext' ?_ ?_ ?_ ?_ <;> simp only <;> grind
theorem run_r1 {p q : P} (r : R1 p q) (m : Mt) : run t m p = run t m q := by
  cases r with
  | zero u l v => rw [run_app, run_app, run_cons, Rat.zero_mul, put_zero]
  | merge u l a b v => rw [run_app, run_app, run_cons, run_cons, run_cons, put_put, Rat.add_mul]
theorem run_rs {p q : P} (r : Rs p q) (m : Mt) : run t m p = run t m q := by
  induction r with
  | refl => rfl
  | step a _ ih => rw [run_r1 a, ih]
theorem run_short (p : P) (m : Mt) : run t m (short p) = run t m p := (run_rs (to_short p) m).symm
def inv (m : Mt) : Mt := ⟨m.d, -m.b, -m.c, m.a⟩
theorem inv_of {m n : Mt} (h : mul m n = e) (d : det m = 1) : n = inv m := by
  have h1 : m.a * n.a + m.b * n.c = 1 := congrArg Mt.a h
  have h2 : m.a * n.b + m.b * n.d = 0 := congrArg Mt.b h
  have h3 : m.c * n.a + m.d * n.c = 0 := congrArg Mt.c h
  have h4 : m.c * n.b + m.d * n.d = 1 := congrArg Mt.d h
  unfold det at d
  unfold inv
  refine Mt.ext' ?_ ?_ ?_ ?_ <;> simp only <;> grind
theorem run_undo (p : P) : run t e (undo p) = inv (run t e p) := by
  refine inv_of ?_ (det_e p)
  rw [← mt_app, run_rs (rs_undo p)]
  rfl
theorem run_times {c s : Rat} (h : c * s = 1) : ∀ (p : P) (m : Mt), run (t * s) m (times p c) = run t m p
  | [], m => rfl
  | x :: p, m => by
    show run (t * s) (put x.1 (x.2 * c * (t * s)) m) (times p c) = _
    rw [run_times h p, run_cons]
    have : x.2 * c * (t * s) = x.2 * t := by
      have : x.2 * c * (t * s) = x.2 * t * (c * s) := by grind
      rw [this, h, Rat.mul_one]
    rw [this]
/-! ### the word -/
def tr (m : Mt) : Rat := m.a + m.d
def code (m : Mt) : Nat := if -2 < tr m ∧ tr m < 2 then 0 else if m.b = 0 ∧ m.c = 0 ∧ m.a = m.d then 0 else if tr m = 2 ∨ tr m = -2 then 1 else 2
theorem pos_of {x y : Rat} (hx : 0 < x) (hy : 0 < y) : 0 < x * y := Rat.mul_pos hx hy
theorem sq_pos {x : Rat} (h : x ≠ 0) : 0 < x * x := by
  by_cases c : 0 < x
  · exact pos_of c c
  · have : 0 < -x := by grind
    have := pos_of this this
    grind
theorem code_inv (m : Mt) : code (inv m) = code m := by
  unfold code
  have e1 : tr (inv m) = tr m := by show m.d + m.a = m.a + m.d; exact Rat.add_comm _ _
  have e2 : ((inv m).b = 0 ∧ (inv m).c = 0 ∧ (inv m).a = (inv m).d) ↔ (m.b = 0 ∧ m.c = 0 ∧ m.a = m.d) := by
    show (-m.b = 0 ∧ -m.c = 0 ∧ m.d = m.a) ↔ _
    constructor
    · rintro ⟨h1, h2, h3⟩; exact ⟨by grind, by grind, h3.symm⟩
    · rintro ⟨h1, h2, h3⟩; exact ⟨by grind, by grind, h3.symm⟩
  rw [e1]
  simp only [e2]
/-- what comes of a matrix by f m + g -/
theorem code_of {m n : Mt} {k : Rat} (hb : n.b = k * m.b) (hc : n.c = k * m.c) (hd : n.a - n.d = k * (m.a - m.d)) (h1 : -2 < tr m → tr m < 2 → (k = 0 ∨ (-2 < tr n ∧ tr n < 2)))
    (h2 : tr m = 2 ∨ tr m = -2 → k ≠ 0 ∧ (tr n = 2 ∨ tr n = -2)) (h3 : 2 < tr m ∨ tr m < -2 → k ≠ 0 ∧ (2 < tr n ∨ tr n < -2)) : code n = code m := by
  have z : m.b = 0 ∧ m.c = 0 ∧ m.a = m.d → n.b = 0 ∧ n.c = 0 ∧ n.a = n.d := fun ⟨x, y, w⟩ => by
    refine ⟨by rw [hb, x, Rat.mul_zero], by rw [hc, y, Rat.mul_zero], ?_⟩
    have : n.a - n.d = 0 := by rw [hd, w]; grind
    grind
  have z0 : k = 0 → n.b = 0 ∧ n.c = 0 ∧ n.a = n.d := fun x => by
    refine ⟨by rw [hb, x, Rat.zero_mul], by rw [hc, x, Rat.zero_mul], ?_⟩
    have : n.a - n.d = 0 := by rw [hd, x, Rat.zero_mul]
    grind
  have zn : k ≠ 0 → (n.b = 0 ∧ n.c = 0 ∧ n.a = n.d) → m.b = 0 ∧ m.c = 0 ∧ m.a = m.d := fun x ⟨p, q, r⟩ => by
    have d0 : k * (m.a - m.d) = 0 := by rw [← hd, r]; grind
    refine ⟨?_, ?_, ?_⟩
    · rcases Rat.mul_eq_zero.mp (hb.symm.trans p) with w | w
      · exact (x w).elim
      · exact w
    · rcases Rat.mul_eq_zero.mp (hc.symm.trans q) with w | w
      · exact (x w).elim
      · exact w
    · rcases Rat.mul_eq_zero.mp d0 with w | w
      · exact (x w).elim
      · grind
  unfold code
  by_cases c1 : -2 < tr m ∧ tr m < 2
  · rw [if_pos c1]
    rcases h1 c1.1 c1.2 with w | w
    · have := z0 w
      by_cases c2 : -2 < tr n ∧ tr n < 2
      · rw [if_pos c2]
      · rw [if_neg c2, if_pos this]
    · rw [if_pos w]
  · rw [if_neg c1]
    by_cases c2 : m.b = 0 ∧ m.c = 0 ∧ m.a = m.d
    · rw [if_pos c2]
      by_cases c3 : -2 < tr n ∧ tr n < 2
      · rw [if_pos c3]
      · rw [if_neg c3, if_pos (z c2)]
    · rw [if_neg c2]
      by_cases c3 : tr m = 2 ∨ tr m = -2
      · obtain ⟨k0, w⟩ := h2 c3
        rw [if_pos c3, if_neg (by rcases w with w | w <;> grind), if_neg (fun q => c2 (zn k0 q)), if_pos w]
      · obtain ⟨k0, w⟩ := h3 (by grind)
        rw [if_neg c3, if_neg (by rcases w with w | w <;> grind), if_neg (fun q => c2 (zn k0 q)), if_neg (by rcases w with w | w <;> grind)]
theorem code_sq {m : Mt} (h : det m = 1) : code (mul m m) = code m := by
  unfold det at h
  have e1 : tr (mul m m) = tr m * tr m - 2 := by
    show (m.a * m.a + m.b * m.c) + (m.c * m.b + m.d * m.d) = (m.a + m.d) * (m.a + m.d) - 2
    grind
  refine code_of (k := tr m) ?_ ?_ ?_ (fun p q => ?_) (fun p => ?_) (fun p => ?_)
  · show m.a * m.b + m.b * m.d = (m.a + m.d) * m.b
    grind
  · show m.c * m.a + m.d * m.c = (m.a + m.d) * m.c
    grind
  · show (m.a * m.a + m.b * m.c) - (m.c * m.b + m.d * m.d) = (m.a + m.d) * (m.a - m.d)
    grind
  · by_cases c : tr m = 0
    · exact .inl c
    · have a := sq_pos c
      have b := pos_of (show 0 < 2 - tr m by grind) (show 0 < 2 + tr m by grind)
      rw [e1]
      exact .inr ⟨by grind, by grind⟩
  · rw [e1]
    rcases p with p | p <;> rw [p] <;> exact ⟨by grind, .inl (by grind)⟩
  · rw [e1]
    refine ⟨by rcases p with p | p <;> grind, .inl ?_⟩
    rcases p with p | p
    · have := pos_of (show 0 < tr m - 2 by grind) (show 0 < tr m + 2 by grind)
      grind
    · have := pos_of (show 0 < -2 - tr m by grind) (show 0 < 2 - tr m by grind)
      grind
theorem code_cube {m : Mt} (h : det m = 1) : code (mul (mul m m) m) = code m := by
  unfold det at h
  have s1 : m.a * m.a + m.b * m.c = tr m * m.a - 1 := by show _ = (m.a + m.d) * m.a - 1; grind
  have s2 : m.a * m.b + m.b * m.d = tr m * m.b := by show _ = (m.a + m.d) * m.b; grind
  have s3 : m.c * m.a + m.d * m.c = tr m * m.c := by show _ = (m.a + m.d) * m.c; grind
  have s4 : m.c * m.b + m.d * m.d = tr m * m.d - 1 := by show _ = (m.a + m.d) * m.d - 1; grind
  have q1 : (mul (mul m m) m).a = (tr m * tr m - 1) * m.a - tr m := by
    show (m.a * m.a + m.b * m.c) * m.a + (m.a * m.b + m.b * m.d) * m.c = _
    rw [s1, s2]
    show (((m.a + m.d) * m.a - 1) * m.a + (m.a + m.d) * m.b * m.c) = ((m.a + m.d) * (m.a + m.d) - 1) * m.a - (m.a + m.d)
    grind
  have q2 : (mul (mul m m) m).b = (tr m * tr m - 1) * m.b := by
    show (m.a * m.a + m.b * m.c) * m.b + (m.a * m.b + m.b * m.d) * m.d = _
    rw [s1, s2]
    show (((m.a + m.d) * m.a - 1) * m.b + (m.a + m.d) * m.b * m.d) = ((m.a + m.d) * (m.a + m.d) - 1) * m.b
    grind
  have q3 : (mul (mul m m) m).c = (tr m * tr m - 1) * m.c := by
    show (m.c * m.a + m.d * m.c) * m.a + (m.c * m.b + m.d * m.d) * m.c = _
    rw [s3, s4]
    show ((m.a + m.d) * m.c * m.a + ((m.a + m.d) * m.d - 1) * m.c) = ((m.a + m.d) * (m.a + m.d) - 1) * m.c
    grind
  have q4 : (mul (mul m m) m).d = (tr m * tr m - 1) * m.d - tr m := by
    show (m.c * m.a + m.d * m.c) * m.b + (m.c * m.b + m.d * m.d) * m.d = _
    rw [s3, s4]
    show ((m.a + m.d) * m.c * m.b + ((m.a + m.d) * m.d - 1) * m.d) = ((m.a + m.d) * (m.a + m.d) - 1) * m.d - (m.a + m.d)
    grind
  have e1 : tr (mul (mul m m) m) = tr m * tr m * tr m - 3 * tr m := by
    show (mul (mul m m) m).a + (mul (mul m m) m).d = _
    rw [q1, q4]
    have : tr m = m.a + m.d := rfl
    grind
  refine code_of (k := tr m * tr m - 1) q2 q3 (by rw [q1, q4]; grind) (fun p q => ?_) (fun p => ?_) (fun p => ?_)
  · by_cases c : tr m * tr m - 1 = 0
    · exact .inl c
    · have n1 : tr m + 1 ≠ 0 := by
        intro z
        have z2 : tr m = -1 := by grind
        exact c (by rw [z2]; grind)
      have n2 : tr m - 1 ≠ 0 := by
        intro z
        have z2 : tr m = 1 := by grind
        exact c (by rw [z2]; grind)
      have a := pos_of (show 0 < 2 - tr m by grind) (sq_pos n1)
      have b := pos_of (show 0 < 2 + tr m by grind) (sq_pos n2)
      rw [e1]
      exact .inr ⟨by grind, by grind⟩
  · rw [e1]
    rcases p with p | p
    · rw [p]; exact ⟨by grind, .inl (by grind)⟩
    · rw [p]; exact ⟨by grind, .inr (by grind)⟩
  · rw [e1]
    rcases p with p | p
    · have b := pos_of (show 0 < tr m - 2 by grind) (show 0 < tr m + 2 by grind)
      have a := pos_of (show 0 < tr m - 2 by grind) (sq_pos (show tr m + 1 ≠ 0 by grind))
      exact ⟨by grind, .inl (by grind)⟩
    · have b := pos_of (show 0 < -2 - tr m by grind) (show 0 < 2 - tr m by grind)
      have a := pos_of (show 0 < -2 - tr m by grind) (sq_pos (show tr m - 1 ≠ 0 by grind))
      exact ⟨by grind, .inr (by grind)⟩
/-- the word as the program tells it -/
def code2 (m : Mt) : Nat := if (-2 < tr m ∧ tr m < 2) ∨ (m.b = 0 ∧ m.c = 0 ∧ (tr m = 2 ∨ tr m = -2)) then 0 else if tr m = 2 ∨ tr m = -2 then 1 else 2
theorem code2_eq {m : Mt} (h : det m = 1) : code2 m = code m := by
  unfold det at h
  unfold code2 code
  by_cases c1 : -2 < tr m ∧ tr m < 2
  · rw [if_pos (.inl c1), if_pos c1]
  · rw [if_neg c1]
    have key : (m.b = 0 ∧ m.c = 0 ∧ (tr m = 2 ∨ tr m = -2)) ↔ (m.b = 0 ∧ m.c = 0 ∧ m.a = m.d) := by
      constructor
      · rintro ⟨x, y, w⟩
        refine ⟨x, y, ?_⟩
        rw [x] at h
        have t : tr m = m.a + m.d := rfl
        have sq : (m.a - m.d) * (m.a - m.d) = 0 := by
          have : (m.a - m.d) * (m.a - m.d) = tr m * tr m - 4 * (m.a * m.d) := by rw [t]; grind
          rw [this]
          rcases w with w | w <;> rw [w] <;> grind
        rcases Rat.mul_eq_zero.mp sq with z | z <;> grind
      · rintro ⟨x, y, w⟩
        refine ⟨x, y, ?_⟩
        rw [x, w] at h
        have t : tr m = m.a + m.d := rfl
        have f : (m.d - 1) * (m.d + 1) = 0 := by grind
        rcases Rat.mul_eq_zero.mp f with z | z
        · left; rw [t, w]; grind
        · right; rw [t, w]; grind
    by_cases c2 : m.b = 0 ∧ m.c = 0 ∧ m.a = m.d
    · rw [if_pos (.inr (key.mpr c2)), if_pos c2]
    · rw [if_neg (fun z => z.elim c1 fun z => c2 (key.mp z)), if_neg c2]
end Mw
end
section
set_option Elab.async false
set_option linter.all false
/-! the entries of swing matrices as polynomials of the length (mathematics) -/
namespace Mc
open Ms Mw
abbrev Fn := Nat → Rat
def sh (f : Fn) : Fn := fun k => match k with
  | 0 => 0
  | k + 1 => f k
structure Pm where
  a : Fn
  b : Fn
  c : Fn
  d : Fn
theorem Pm.ext' {m n : Pm} (h1 : ∀ k, m.a k = n.a k) (h2 : ∀ k, m.b k = n.b k) (h3 : ∀ k, m.c k = n.c k) (h4 : ∀ k, m.d k = n.d k) : m = n := by
  obtain ⟨a, b, c, d⟩ := m
  obtain ⟨a', b', c', d'⟩ := n
  simp only at h1 h2 h3 h4
  rw [funext h1, funext h2, funext h3, funext h4]
def put (l : Int) (s : Rat) (m : Pm) : Pm := if l = 0 then ⟨m.a, fun k => m.b k + s * sh m.a k, m.c, fun k => m.d k + s * sh m.c k⟩ else ⟨fun k => m.a k + -s * sh m.b k, m.b, fun k => m.c k + -s * sh m.d k, m.d⟩
def run (m : Pm) (p : P) : Pm := p.foldl (fun m x => put x.1 x.2 m) m
def one : Fn := fun k => if k = 0 then 1 else 0
def e : Pm := ⟨one, fun _ => 0, fun _ => 0, one⟩
theorem run_cons (m : Pm) (x : Pc) (p : P) : run m (x :: p) = run (put x.1 x.2 m) p := rfl
theorem run_app (m : Pm) (p q : P) : run m (p ++ q) = run (run m p) q := by
  unfold run
  rw [List.foldl_append]
theorem put_zero (l : Int) (m : Pm) : put l 0 m = m := by
  unfold put
  by_cases h : l = 0
  · simp only [h, if_true]
    refine Pm.ext' ?_ ?_ ?_ ?_ <;> intro k <;> simp only <;> grind
  · simp only [h, if_false]
    refine Pm.ext' ?_ ?_ ?_ ?_ <;> intro k <;> simp only <;> grind
theorem put_put (l : Int) (s r : Rat) (m : Pm) : put l r (put l s m) = put l (s + r) m := by
  unfold put
  by_cases h : l = 0
  · simp only [h, if_true]
    refine Pm.ext' ?_ ?_ ?_ ?_ <;> intro k <;> simp only <;> grind
  · simp only [h, if_false]
    refine Pm.ext' ?_ ?_ ?_ ?_ <;> intro k <;> simp only <;> grind
theorem run_r1 {p q : P} (r : R1 p q) (m : Pm) : run m p = run m q := by
  cases r with
  | zero u l v => rw [run_app, run_app, run_cons, put_zero]
  | merge u l a b v => rw [run_app, run_app, run_cons, run_cons, run_cons, put_put]
theorem run_rs {p q : P} (r : Rs p q) (m : Pm) : run m p = run m q := by
  induction r with
  | refl => rfl
  | step a _ ih => rw [run_r1 a, ih]
theorem run_short (p : P) (m : Pm) : run m (short p) = run m p := (run_rs (to_short p) m).symm
/-! parity -/
structure Ev (m : Pm) : Prop where
  a : ∀ k, k % 2 = 1 → m.a k = 0
  b : ∀ k, k % 2 = 0 → m.b k = 0
  c : ∀ k, k % 2 = 0 → m.c k = 0
  d : ∀ k, k % 2 = 1 → m.d k = 0
theorem sh_odd {f : Fn} (h : ∀ k, k % 2 = 1 → f k = 0) : ∀ k, k % 2 = 0 → sh f k = 0
  | 0, _ => rfl
  | k + 1, e => h k (by omega)
theorem sh_even {f : Fn} (h : ∀ k, k % 2 = 0 → f k = 0) : ∀ k, k % 2 = 1 → sh f k = 0
  | 0, _ => rfl
  | k + 1, e => h k (by omega)
theorem Ev.put {m : Pm} (h : Ev m) (l : Int) (s : Rat) : Ev (put l s m) := by
  unfold Mc.put
  split
  · exact ⟨h.a, fun k e => by show m.b k + s * sh m.a k = 0; rw [h.b k e, sh_odd h.a k e]; grind, h.c, fun k e => by show m.d k + s * sh m.c k = 0; rw [h.d k e, sh_even h.c k e]; grind⟩
  · exact ⟨fun k e => by show m.a k + -s * sh m.b k = 0; rw [h.a k e, sh_even h.b k e]; grind, h.b, fun k e => by show m.c k + -s * sh m.d k = 0; rw [h.c k e, sh_odd h.d k e]; grind, h.d⟩
theorem Ev.run : ∀ (p : P) (m : Pm), Ev m → Ev (run m p)
  | [], m, h => h
  | x :: p, m, h => Ev.run p _ (h.put x.1 x.2)
theorem Ev.e : Ev e := ⟨fun k h => by show (if k = 0 then (1 : Rat) else 0) = 0; rw [if_neg (by omega)], fun _ _ => rfl, fun _ _ => rfl, fun k h => by show (if k = 0 then (1 : Rat) else 0) = 0; rw [if_neg (by omega)]⟩
/-! no more than so many -/
structure Dg (n : Nat) (m : Pm) : Prop where
  a : ∀ k, n < k → m.a k = 0
  b : ∀ k, n < k → m.b k = 0
  c : ∀ k, n < k → m.c k = 0
  d : ∀ k, n < k → m.d k = 0
theorem sh_deg {n : Nat} {f : Fn} (h : ∀ k, n < k → f k = 0) : ∀ k, n + 1 < k → sh f k = 0
  | 0, _ => rfl
  | k + 1, e => h k (by omega)
theorem Dg.put {n : Nat} {m : Pm} (h : Dg n m) (l : Int) (s : Rat) : Dg (n + 1) (put l s m) := by
  have up : ∀ {f : Fn}, (∀ k, n < k → f k = 0) → ∀ k, n + 1 < k → f k = 0 := fun h k e => h k (by omega)
  unfold Mc.put
  split
  · exact ⟨up h.a, fun k e => by show m.b k + s * sh m.a k = 0; rw [up h.b k e, sh_deg h.a k e]; grind, up h.c, fun k e => by show m.d k + s * sh m.c k = 0; rw [up h.d k e, sh_deg h.c k e]; grind⟩
  · exact ⟨fun k e => by show m.a k + -s * sh m.b k = 0; rw [up h.a k e, sh_deg h.b k e]; grind, up h.b, fun k e => by show m.c k + -s * sh m.d k = 0; rw [up h.c k e, sh_deg h.d k e]; grind, up h.d⟩
theorem Dg.run : ∀ (p : P) (m : Pm) (n : Nat), Dg n m → Dg (n + p.length) (run m p)
  | [], m, n, h => h
  | x :: p, m, n, h => by
    have := Dg.run p _ _ (h.put x.1 x.2)
    rw [List.length_cons, show n + (p.length + 1) = n + 1 + p.length by omega]
    exact this
theorem Dg.e : Dg 0 e := ⟨fun k h => by show (if k = 0 then (1 : Rat) else 0) = 0; rw [if_neg (by omega)], fun _ _ => rfl, fun _ _ => rfl, fun k h => by show (if k = 0 then (1 : Rat) else 0) = 0; rw [if_neg (by omega)]⟩
/-! the worth: by Horner -/
def wo (t : Rat) : List Rat → Rat
  | [] => 0
  | q :: r => wo t r * t + q
/-- the list of these numbers -/
structure Is (q : List Rat) (f : Fn) : Prop where
  at_ : ∀ k, q.getD k 0 = f k
  top : q.getLast? ≠ some 0
/-- the worth of the first n numbers -/
def ev (t : Rat) : Nat → Fn → Rat
  | 0, _ => 0
  | n + 1, f => ev t n (fun k => f (k + 1)) * t + f 0
theorem ev_zero (t : Rat) : ∀ (n : Nat) (f : Fn), (∀ k, f k = 0) → ev t n f = 0
  | 0, _, _ => rfl
  | n + 1, f, h => by
    show ev t n (fun k => f (k + 1)) * t + f 0 = 0
    rw [ev_zero t n _ (fun k => h (k + 1)), h 0]
    grind
theorem wo_ev (t : Rat) : ∀ (q : List Rat) (f : Fn) (n : Nat), (∀ k, q.getD k 0 = f k) → q.length ≤ n → wo t q = ev t n f
  | [], f, n, h, _ => (ev_zero t n f fun k => by rw [← h k]; simp).symm
  | x :: q, f, 0, _, l => by simp at l
  | x :: q, f, n + 1, h, l => by
    show wo t q * t + x = ev t n (fun k => f (k + 1)) * t + f 0
    rw [wo_ev t q (fun k => f (k + 1)) n (fun k => by rw [← h (k + 1)]; simp) (by simpa using l), ← h 0]
    simp
theorem ev_add (t s : Rat) : ∀ (n : Nat) (f g : Fn), ev t n (fun k => f k + s * g k) = ev t n f + s * ev t n g
  | 0, _, _ => by show (0 : Rat) = 0 + s * 0; grind
  | n + 1, f, g => by
    show ev t n (fun k => f (k + 1) + s * g (k + 1)) * t + (f 0 + s * g 0) = (ev t n (fun k => f (k + 1)) * t + f 0) + s * (ev t n (fun k => g (k + 1)) * t + g 0)
    rw [ev_add t s n]
    grind
theorem ev_more (t : Rat) : ∀ (n : Nat) (f : Fn), f n = 0 → ev t (n + 1) f = ev t n f
  | 0, f, h => by show (0 : Rat) * t + f 0 = 0; rw [h]; grind
  | n + 1, f, h => by
    show ev t (n + 1) (fun k => f (k + 1)) * t + f 0 = ev t n (fun k => f (k + 1)) * t + f 0
    rw [ev_more t n _ h]
theorem ev_sh (t : Rat) (n : Nat) (f : Fn) : ev t (n + 1) (sh f) = ev t n f * t := by
  show ev t n (fun k => sh f (k + 1)) * t + 0 = _
  have : (fun k => sh f (k + 1)) = f := rfl
  rw [this]
  grind
/-- what a matrix of polynomials is at a length -/
structure At (t : Rat) (n : Nat) (p : Pm) (m : Mt) : Prop where
  a : ev t (n + 1) p.a = m.a
  b : ev t (n + 1) p.b = m.b
  c : ev t (n + 1) p.c = m.c
  d : ev t (n + 1) p.d = m.d
theorem At.put {t : Rat} {n : Nat} {p : Pm} {m : Mt} (h : At t n p m) (g : Dg n p) (l : Int) (s : Rat) : At t (n + 1) (put l s p) (Mw.put l (s * t) m) := by
  have up : ∀ {f : Fn} {x : Rat}, ev t (n + 1) f = x → (∀ k, n < k → f k = 0) → ev t (n + 1 + 1) f = x := fun {f x} e z => by rw [ev_more t (n + 1) f (z _ (by omega)), e]
  have mix : ∀ {f g : Fn} {x y : Rat} (s : Rat), ev t (n + 1) f = x → (∀ k, n < k → f k = 0) → ev t (n + 1) g = y → ev t (n + 1 + 1) (fun k => f k + s * sh g k) = x + s * t * y := fun {f g x y} s e z e2 => by
    rw [ev_add, up e z, ev_sh, e2]
    grind
  unfold Mc.put Mw.put
  split
  · exact ⟨up h.a g.a, mix s h.b g.b h.a, up h.c g.c, mix s h.d g.d h.c⟩
  · refine ⟨?_, up h.b g.b, ?_, up h.d g.d⟩
    · have := mix (-s) h.a g.a h.b
      rw [Rat.neg_mul] at this
      exact this
    · have := mix (-s) h.c g.c h.d
      rw [Rat.neg_mul] at this
      exact this
theorem At.run {t : Rat} : ∀ (p : P) (n : Nat) (q : Pm) (m : Mt), At t n q m → Dg n q → At t (n + p.length) (run q p) (Mw.run t m p)
  | [], n, q, m, h, _ => h
  | x :: p, n, q, m, h, g => by
    have := At.run p _ _ _ (h.put g x.1 x.2) (g.put x.1 x.2)
    rw [List.length_cons, show n + (p.length + 1) = n + 1 + p.length by omega]
    exact this
theorem At.e (t : Rat) : At t 0 e Mw.e := ⟨by show (0 : Rat) * t + 1 = 1; grind, by show (0 : Rat) * t + 0 = 0; grind, by show (0 : Rat) * t + 0 = 0; grind, by show (0 : Rat) * t + 1 = 1; grind⟩
/-- one list alone -/
theorem getD_last {q : List Rat} {k : Nat} (h : q.length = k + 1) (z : q.getLast? ≠ some 0) : q.getD k 0 ≠ 0 := by
  intro e
  apply z
  rw [List.getLast?_eq_getElem?, h]
  have lt : k < q.length := by omega
  rw [show k + 1 - 1 = k by omega, List.getElem?_eq_getElem lt]
  rw [List.getD_eq_getElem?_getD, List.getElem?_eq_getElem lt] at e
  exact congrArg some e
theorem getD_out {q : List Rat} {k : Nat} (h : q.length ≤ k) : q.getD k 0 = 0 := by
  rw [List.getD_eq_getElem?_getD, List.getElem?_eq_none h]
  rfl
theorem Is.le {p q : List Rat} {f : Fn} (h : Is p f) (g : Is q f) : p.length ≤ q.length := by
  cases e : p.length with
  | zero => omega
  | succ k =>
    have n := getD_last e h.top
    rw [h.at_ k, ← g.at_ k] at n
    by_cases c : q.length ≤ k
    · exact (n (getD_out c)).elim
    · omega
theorem Is.uniq {p q : List Rat} {f : Fn} (h : Is p f) (g : Is q f) : p = q := by
  have l : p.length = q.length := Nat.le_antisymm (h.le g) (g.le h)
  refine List.ext_getElem l fun k h1 h2 => ?_
  have a := h.at_ k
  have b := g.at_ k
  rw [List.getD_eq_getElem?_getD, List.getElem?_eq_getElem h1] at a
  rw [List.getD_eq_getElem?_getD, List.getElem?_eq_getElem h2] at b
  exact a.trans b.symm
theorem Is.len {q : List Rat} {f : Fn} {n : Nat} (h : Is q f) (g : ∀ k, n < k → f k = 0) : q.length ≤ n + 1 := by
  cases e : q.length with
  | zero => omega
  | succ k =>
    have z := getD_last e h.top
    rw [h.at_ k] at z
    by_cases c : n < k
    · exact (z (g k c)).elim
    · omega
end Mc
end
section
set_option Elab.async false
set_option linter.all false
set_option maxRecDepth 100000
set_option maxHeartbeats 0
open Dd PySem PySem.Spec PyProof.Rows L2
namespace K52
abbrev i_is_whole : Nat := 0
abbrev i_is_between : Nat := 1
abbrev i_is_letter : Nat := 2
abbrev i_is_pair : Nat := 3
abbrev i_is_fraction : Nat := 4
abbrev i_fraction_of : Nat := 5
abbrev i_added : Nat := 6
abbrev i_multiplied : Nat := 7
abbrev i_is_step : Nat := 8
abbrev i_is_piece : Nat := 9
abbrev i_check_step : Nat := 10
abbrev i_step_has_two : Nat := 11
abbrev i_step_short : Nat := 12
abbrev i_trimmed : Nat := 13
abbrev i_poly_plus : Nat := 14
abbrev i_check_swung : Nat := 15
abbrev i_check_time : Nat := 16
abbrev i_swing_polynomials : Nat := 17
abbrev i_swing_numbers : Nat := 18
abbrev i_swing_fractions : Nat := 19
abbrev i_as_powers : Nat := 20
abbrev i_swing_table : Nat := 21
abbrev i_swing_at : Nat := 22
abbrev i_law_urn : Nat := 23
abbrev i_law_dip : Nat := 24
abbrev i_law_pick : Nat := 25
abbrev i_law_low : Nat := 26
abbrev i_law_plus : Nat := 27
abbrev i_law_times : Nat := 28
abbrev i_law_share : Nat := 29
abbrev i_law_pieces : Nat := 30
abbrev i_law_rest : Nat := 31
abbrev i_law_timed : Nat := 32
abbrev i_law_undone : Nat := 33
abbrev i_law_even : Nat := 34
abbrev i_law_scale : Nat := 35
abbrev i_law_led : Nat := 36
abbrev i_law_polynomials : Nat := 37
abbrev i_law_table : Nat := 38
abbrev i_law_time : Nat := 39
abbrev i_law_swung : Nat := 40
abbrev i_law_shown : Nat := 41
abbrev i_law_worth : Nat := 42
abbrev i_law_behind : Nat := 43
abbrev i_law_right : Nat := 44
abbrev i_law : Nat := 45
def b_is_whole : Ss := (.cons (.ret (.isty true .int_ (.var 0))) .nil)
def d_is_whole : Dfn := ⟨"is_whole", ["value"], ["value"], b_is_whole, []⟩
def b_is_between : Ss := (.cons (.ret (.band (.call i_is_whole (.cons (.var 0) .nil)) (.chain .le .le (.var 1) (.var 0) (.var 2)))) .nil)
def d_is_between : Dfn := ⟨"is_between", ["value", "least", "most"], ["value", "least", "most"], b_is_between, []⟩
def b_is_letter : Ss := (.cons (.ret (.call i_is_between (.cons (.var 0) (.cons (.int (0)) (.cons (.int (2)) .nil))))) .nil)
def d_is_letter : Dfn := ⟨"is_letter", ["value"], ["value"], b_is_letter, []⟩
def b_is_pair : Ss := (.cons (.ret (.band (.isty true .tuple_ (.var 0)) (.cmp .eq (.blt .len (.cons (.var 0) .nil)) (.int (2))))) .nil)
def d_is_pair : Dfn := ⟨"is_pair", ["value"], ["value"], b_is_pair, []⟩
def b_is_fraction : Ss := (.cons (.ite (.bnot (.call i_is_pair (.cons (.var 0) .nil))) (.cons (.ret (.bl false)) .nil) .nil) (.cons (.asg (.tp [1, 2]) (.var 0)) (.cons (.ret (.band (.call i_is_whole (.cons (.var 1) .nil)) (.band (.call i_is_whole (.cons (.var 2) .nil)) (.band (.cmp .gt (.var 2) (.int (0))) (.cmp .eq (.blt .gcd (.cons (.var 1) (.cons (.var 2) .nil))) (.int (1))))))) .nil)))
def d_is_fraction : Dfn := ⟨"is_fraction", ["value"], ["value", "upper", "lower"], b_is_fraction, []⟩
def b_fraction_of : Ss := (.cons (.asg (.nm 2) (.blt .gcd (.cons (.var 0) (.cons (.var 1) .nil)))) (.cons (.ret (.num (.bin .fdiv (.var 0) (.var 2)) (.bin .fdiv (.var 1) (.var 2)))) .nil))
def d_fraction_of : Dfn := ⟨"fraction_of", ["upper", "lower"], ["upper", "lower", "common"], b_fraction_of, []⟩
def b_added : Ss := (.cons (.ret (.call i_fraction_of (.cons (.bin .add (.bin .mul (.idx (.var 0) (.int (0))) (.idx (.var 1) (.int (1)))) (.bin .mul (.idx (.var 1) (.int (0))) (.idx (.var 0) (.int (1))))) (.cons (.bin .mul (.idx (.var 0) (.int (1))) (.idx (.var 1) (.int (1)))) .nil)))) .nil)
def d_added : Dfn := ⟨"added", ["first", "second"], ["first", "second"], b_added, []⟩
def b_multiplied : Ss := (.cons (.ret (.call i_fraction_of (.cons (.bin .mul (.idx (.var 0) (.int (0))) (.idx (.var 1) (.int (0)))) (.cons (.bin .mul (.idx (.var 0) (.int (1))) (.idx (.var 1) (.int (1)))) .nil)))) .nil)
def d_multiplied : Dfn := ⟨"multiplied", ["first", "second"], ["first", "second"], b_multiplied, []⟩
def b_is_step : Ss := (.cons (.ret (.band (.isty true .tuple_ (.var 0)) (.blt .all1 (.cons (.comp (.call i_is_piece (.cons (.var 1) .nil)) (.nm 1) (.seq (.var 0)) .none [1]) .nil)))) .nil)
def d_is_step : Dfn := ⟨"is_step", ["value"], ["value", "piece"], b_is_step, []⟩
def b_is_piece : Ss := (.cons (.ret (.band (.call i_is_pair (.cons (.var 0) .nil)) (.band (.call i_is_letter (.cons (.idx (.var 0) (.int (0))) .nil)) (.call i_is_fraction (.cons (.idx (.var 0) (.int (1))) .nil))))) .nil)
def d_is_piece : Dfn := ⟨"is_piece", ["value"], ["value"], b_is_piece, []⟩
def b_check_step : Ss := (.cons (.ite (.bnot (.call i_is_step (.cons (.var 0) .nil))) (.cons .never .nil) .nil) .nil)
def d_check_step : Dfn := ⟨"check_step", ["step"], ["step"], b_check_step, []⟩
def b_step_has_two : Ss := (.cons (.ret (.blt .any1 (.cons (.comp (.cmp .eq (.var 1) (.int (2))) (.tp [1, 2]) (.seq (.var 0)) .none [1, 2]) .nil))) .nil)
def d_step_has_two : Dfn := ⟨"step_has_two", ["step"], ["step", "letter", "_"], b_step_has_two, []⟩
def b_step_short : Ss := (.cons (.asg (.nm 1) (.lst .nil)) (.cons (.for_ (.tp [2, 3]) (.seq (.var 0)) (.cons (.ite (.band (.var 1) (.cmp .eq (.idx (.idx (.var 1) (.neg (.int (1)))) (.int (0))) (.var 2))) (.cons (.asg (.nm 3) (.call i_added (.cons (.idx (.pop (.var 1)) (.int (1))) (.cons (.var 3) .nil)))) .nil) .nil) (.cons (.ite (.cmp .ne (.var 3) (.glb "NIL")) (.cons (.app (.var 1) (.tup (.cons (.var 2) (.cons (.var 3) .nil)))) .nil) .nil) .nil))) (.cons (.ret (.blt .tuple1 (.cons (.var 1) .nil))) .nil)))
def d_step_short : Dfn := ⟨"step_short", ["step"], ["step", "pieces", "letter", "number"], b_step_short, []⟩
def b_trimmed : Ss := (.cons (.asg (.nm 1) (.blt .len (.cons (.var 0) .nil))) (.cons (.whl (.band (.cmp .gt (.var 1) (.int (0))) (.cmp .eq (.idx (.var 0) (.bin .sub (.var 1) (.int (1)))) (.int (0)))) (.cons (.asg (.nm 1) (.bin .sub (.var 1) (.int (1)))) .nil)) (.cons (.ret (.sl (.var 0) .none (.some (.var 1)))) .nil)))
def d_trimmed : Dfn := ⟨"trimmed", ["numbers"], ["numbers", "many"], b_trimmed, []⟩
def b_poly_plus : Ss := (.cons (.asg (.nm 3) (.blt .max2 (.cons (.blt .len (.cons (.var 0) .nil)) (.cons (.blt .len (.cons (.var 1) .nil)) .nil)))) (.cons (.asg (.nm 4) (.bin .add (.var 0) (.bin .mul (.lst (.cons (.int (0)) .nil)) (.bin .sub (.var 3) (.blt .len (.cons (.var 0) .nil)))))) (.cons (.asg (.nm 5) (.bin .add (.var 1) (.bin .mul (.lst (.cons (.int (0)) .nil)) (.bin .sub (.var 3) (.blt .len (.cons (.var 1) .nil)))))) (.cons (.ret (.call i_trimmed (.cons (.comp (.bin .add (.var 6) (.bin .mul (.var 2) (.var 7))) (.tp [6, 7]) (.zip (.var 4) (.var 5)) .none [6, 7]) .nil))) .nil))))
def d_poly_plus : Dfn := ⟨"poly_plus", ["first", "second", "factor"], ["first", "second", "factor", "many", "longer", "others", "one", "two"], b_poly_plus, []⟩
def b_check_swung : Ss := (.cons (.ex (.call i_check_step (.cons (.var 0) .nil))) (.cons (.ite (.call i_step_has_two (.cons (.var 0) .nil)) (.cons .never .nil) .nil) .nil))
def d_check_swung : Dfn := ⟨"check_swung", ["step"], ["step"], b_check_swung, []⟩
def b_check_time : Ss := (.cons (.ite (.bor (.bnot (.call i_is_fraction (.cons (.var 0) .nil))) (.cmp .le (.idx (.var 0) (.int (0))) (.int (0)))) (.cons .never .nil) .nil) .nil)
def d_check_time : Dfn := ⟨"check_time", ["time"], ["time"], b_check_time, []⟩
def b_swing_polynomials : Ss := (.cons (.asg (.tp [2, 3, 4, 5]) (.tup (.cons (.lst (.cons (.int (1)) .nil)) (.cons (.lst .nil) (.cons (.lst .nil) (.cons (.lst (.cons (.int (1)) .nil)) .nil)))))) (.cons (.asg (.nm 1) (.int (1))) (.cons (.for_ (.tq 6 [7, 8]) (.seq (.call i_step_short (.cons (.var 0) .nil))) (.cons (.asg (.nm 1) (.bin .mul (.var 1) (.var 8))) (.cons (.ite (.cmp .eq (.var 6) (.int (0))) (.cons (.asg (.nm 3) (.call i_poly_plus (.cons (.comp (.bin .mul (.var 8) (.var 9)) (.nm 9) (.seq (.var 3)) .none [9]) (.cons (.var 2) (.cons (.var 7) .nil))))) (.cons (.asg (.nm 5) (.call i_poly_plus (.cons (.comp (.bin .mul (.var 8) (.var 9)) (.nm 9) (.seq (.var 5)) .none [9]) (.cons (.bin .add (.lst (.cons (.int (0)) .nil)) (.var 4)) (.cons (.var 7) .nil))))) (.cons (.par 2 4 (.comp (.bin .mul (.var 8) (.var 9)) (.nm 9) (.seq (.var 2)) .none [9]) (.comp (.bin .mul (.var 8) (.var 9)) (.nm 9) (.seq (.var 4)) .none [9])) .nil))) (.cons (.asg (.nm 2) (.call i_poly_plus (.cons (.comp (.bin .mul (.var 8) (.var 9)) (.nm 9) (.seq (.var 2)) .none [9]) (.cons (.bin .add (.lst (.cons (.int (0)) .nil)) (.var 3)) (.cons (.neg (.var 7)) .nil))))) (.cons (.asg (.nm 4) (.call i_poly_plus (.cons (.comp (.bin .mul (.var 8) (.var 9)) (.nm 9) (.seq (.var 4)) .none [9]) (.cons (.var 5) (.cons (.neg (.var 7)) .nil))))) (.cons (.par 3 5 (.comp (.bin .mul (.var 8) (.var 9)) (.nm 9) (.seq (.var 3)) .none [9]) (.comp (.bin .mul (.var 8) (.var 9)) (.nm 9) (.seq (.var 5)) .none [9])) .nil)))) .nil))) (.cons (.ret (.tup (.cons (.var 2) (.cons (.var 3) (.cons (.var 4) (.cons (.var 5) (.cons (.var 1) .nil))))))) .nil))))
def d_swing_polynomials : Dfn := ⟨"swing_polynomials", ["step"], ["step", "lower", "first", "above", "below", "second", "letter", "many", "parts", "number"], b_swing_polynomials, []⟩
def b_swing_numbers : Ss := (.cons (.asg (.tp [3, 4, 5, 6]) (.tup (.cons (.int (1)) (.cons (.int (0)) (.cons (.int (0)) (.cons (.int (1)) .nil)))))) (.cons (.asg (.nm 2) (.int (1))) (.cons (.for_ (.tp [7, 8]) (.seq (.call i_step_short (.cons (.var 0) .nil))) (.cons (.asg (.tp [9, 10]) (.call i_multiplied (.cons (.var 8) (.cons (.var 1) .nil)))) (.cons (.asg (.nm 2) (.bin .mul (.var 2) (.var 10))) (.cons (.ite (.cmp .eq (.var 7) (.int (0))) (.cons (.par 4 6 (.bin .add (.bin .mul (.var 10) (.var 4)) (.bin .mul (.var 9) (.var 3))) (.bin .add (.bin .mul (.var 10) (.var 6)) (.bin .mul (.var 9) (.var 5)))) (.cons (.par 3 5 (.bin .mul (.var 10) (.var 3)) (.bin .mul (.var 10) (.var 5))) .nil)) (.cons (.par 3 5 (.bin .sub (.bin .mul (.var 10) (.var 3)) (.bin .mul (.var 9) (.var 4))) (.bin .sub (.bin .mul (.var 10) (.var 5)) (.bin .mul (.var 9) (.var 6)))) (.cons (.par 4 6 (.bin .mul (.var 10) (.var 4)) (.bin .mul (.var 10) (.var 6))) .nil))) .nil)))) (.cons (.ret (.tup (.cons (.var 3) (.cons (.var 4) (.cons (.var 5) (.cons (.var 6) (.cons (.var 2) .nil))))))) .nil))))
def d_swing_numbers : Dfn := ⟨"swing_numbers", ["step", "time"], ["step", "time", "lower", "first", "above", "below", "second", "letter", "number", "many", "parts"], b_swing_numbers, []⟩
def b_swing_fractions : Ss := (.cons (.starA 3 2 (.call i_swing_numbers (.cons (.var 0) (.cons (.var 1) .nil)))) (.cons (.ret (.comp (.call i_fraction_of (.cons (.var 4) (.cons (.var 2) .nil))) (.nm 4) (.seq (.var 3)) .none [4])) .nil))
def d_swing_fractions : Dfn := ⟨"swing_fractions", ["step", "time"], ["step", "time", "lower", "numbers", "number"], b_swing_fractions, []⟩
def b_as_powers : Ss := (.cons (.asg (.nm 3) (.ite (.band (.var 2) (.var 0)) (.lst (.cons (.num (.int (0)) (.int (1))) .nil)) (.lst .nil))) (.cons (.for_ (.tp [4, 5]) (.enum (.var 0)) (.cons (.ite (.cmp .gt (.var 4) (.int (0))) (.cons (.app (.var 3) (.num (.int (0)) (.int (1)))) .nil) .nil) (.cons (.app (.var 3) (.call i_fraction_of (.cons (.var 5) (.cons (.var 1) .nil)))) .nil))) (.cons (.ret (.blt .tuple1 (.cons (.var 3) .nil))) .nil)))
def d_as_powers : Dfn := ⟨"as_powers", ["numbers", "lower", "odd"], ["numbers", "lower", "odd", "made", "power", "number"], b_as_powers, []⟩
def b_swing_table : Ss := (.cons (.ex (.call i_check_swung (.cons (.var 0) .nil))) (.cons (.asg (.tp [2, 3, 4, 5, 6]) (.call i_swing_polynomials (.cons (.var 0) .nil))) (.cons (.asg (.nm 1) (.tup (.cons (.call i_as_powers (.cons (.var 2) (.cons (.var 6) (.cons (.bl false) .nil)))) (.cons (.call i_as_powers (.cons (.var 3) (.cons (.var 6) (.cons (.bl true) .nil)))) .nil)))) (.cons (.ret (.tup (.cons (.var 1) (.cons (.tup (.cons (.call i_as_powers (.cons (.var 4) (.cons (.var 6) (.cons (.bl true) .nil)))) (.cons (.call i_as_powers (.cons (.var 5) (.cons (.var 6) (.cons (.bl false) .nil)))) .nil))) .nil)))) .nil))))
def d_swing_table : Dfn := ⟨"swing_table", ["step"], ["step", "ahead", "first", "above", "below", "second", "lower"], b_swing_table, [⟨0, ["step"], [0]⟩]⟩
def b_swing_at : Ss := (.cons (.ex (.call i_check_swung (.cons (.var 0) .nil))) (.cons (.ex (.call i_check_time (.cons (.var 1) .nil))) (.cons (.asgU [2, 3, 4, 5] (.call i_swing_fractions (.cons (.var 0) (.cons (.var 1) .nil)))) (.cons (.ret (.tup (.cons (.tup (.cons (.var 2) (.cons (.var 3) .nil))) (.cons (.tup (.cons (.var 4) (.cons (.var 5) .nil))) .nil)))) .nil))))
def d_swing_at : Dfn := ⟨"swing_at", ["step", "time"], ["step", "time", "first", "above", "below", "second"], b_swing_at, [⟨0, ["time", "step"], [1, 0]⟩]⟩
def b_law_urn : Ss := (.cons (.asg (.nm 2) (.ite (.cmp .lt (.var 1) (.blt .len (.cons (.var 0) .nil))) (.blt .int1 (.cons (.idx (.var 0) (.var 1)) .nil)) (.bin .add (.bin .add (.bin .mul (.int (8761)) (.var 1)) (.int (13))) (.bin .mod (.blt .int1 (.cons (.blt .sum1 (.cons (.sl (.var 0) .none (.some (.int (3)))) .nil)) .nil)) (.int (1000033)))))) (.cons (.asg (.nm 3) (.bin .add (.int (30011)) (.bin .mul (.int (4099)) (.var 1)))) (.cons (.for_ (.nm 4) (.seq (.bin .add (.sl (.var 0) .none (.some (.int (9)))) (.lst (.cons (.var 2) .nil)))) (.cons (.asg (.nm 3) (.bin .mod (.blt .int1 (.cons (.bin .add (.bin .add (.bin .mul (.var 3) (.int (64007))) (.bin .mod (.blt .int1 (.cons (.var 4) .nil)) (.int (2147483579)))) (.int (29))) .nil)) (.int (2147483563)))) .nil)) (.cons (.ret (.lst (.cons (.ite (.bor (.cmp .lt (.var 2) (.int (0))) (.cmp .ge (.var 2) (.bin .pow (.int (10)) (.int (18))))) (.blt .abs (.cons (.var 2) .nil)) (.int (0))) (.cons (.var 3) (.cons (.int (0)) .nil))))) .nil))))
def d_law_urn : Dfn := ⟨"_law_urn", ["script", "turn"], ["script", "turn", "own", "mixed", "cell"], b_law_urn, []⟩
def b_law_dip : Ss := (.cons (.ite (.cmp .gt (.idx (.var 0) (.int (0))) (.int (0))) (.cons (.asg2 (.var 0) (.int (0)) 3 (.blt .divmod (.cons (.idx (.var 0) (.int (0))) (.cons (.var 1) .nil)))) (.cons (.ret (.var 3)) .nil)) .nil) (.cons (.sub (.var 0) (.int (2)) (.bin .add (.idx (.var 0) (.int (2))) (.int (1)))) (.cons (.asg (.nm 2) (.bin .add (.bin .mod (.blt .int1 (.cons (.idx (.var 0) (.int (1))) .nil)) (.int (16381))) (.int (20011)))) (.cons (.sub (.var 0) (.int (1)) (.bin .mod (.blt .int1 (.cons (.bin .add (.bin .add (.bin .mul (.idx (.var 0) (.int (1))) (.var 2)) (.bin .mul (.int (90001)) (.idx (.var 0) (.int (2))))) (.int (3))) .nil)) (.int (2147483563)))) (.cons (.ret (.bin .mod (.blt .int1 (.cons (.bin .fdiv (.idx (.var 0) (.int (1))) (.int (97))) .nil)) (.var 1))) .nil)))))
def d_law_dip : Dfn := ⟨"_law_dip", ["urn", "many"], ["urn", "many", "factor", "digit"], b_law_dip, []⟩
def b_law_pick : Ss := (.cons (.ret (.idx (.var 1) (.call i_law_dip (.cons (.var 0) (.cons (.blt .len (.cons (.var 1) .nil)) .nil))))) .nil)
def d_law_pick : Dfn := ⟨"_law_pick", ["urn", "some"], ["urn", "some"], b_law_pick, []⟩
def b_law_low : Ss := (.cons (.par 2 3 (.blt .abs (.cons (.var 0) .nil)) (.blt .abs (.cons (.var 1) .nil))) (.cons (.whl (.cmp .gt (.var 3) (.int (0))) (.cons (.par 2 3 (.var 3) (.bin .mod (.blt .int1 (.cons (.var 2) .nil)) (.var 3))) .nil)) (.cons (.ret (.num (.ite (.cmp .gt (.var 1) (.int (0))) (.bin .fdiv (.var 0) (.var 2)) (.bin .sub (.int (0)) (.bin .fdiv (.var 0) (.var 2)))) (.bin .fdiv (.blt .abs (.cons (.var 1) .nil)) (.var 2)))) .nil)))
def d_law_low : Dfn := ⟨"_law_low", ["top", "under"], ["top", "under", "one", "two"], b_law_low, []⟩
def b_law_plus : Ss := (.cons (.ret (.call i_law_low (.cons (.bin .add (.bin .mul (.idx (.var 0) (.int (0))) (.idx (.var 1) (.int (1)))) (.bin .mul (.idx (.var 1) (.int (0))) (.idx (.var 0) (.int (1))))) (.cons (.bin .mul (.idx (.var 0) (.int (1))) (.idx (.var 1) (.int (1)))) .nil)))) .nil)
def d_law_plus : Dfn := ⟨"_law_plus", ["one", "two"], ["one", "two"], b_law_plus, []⟩
def b_law_times : Ss := (.cons (.ret (.call i_law_low (.cons (.bin .mul (.idx (.var 0) (.int (0))) (.idx (.var 1) (.int (0)))) (.cons (.bin .mul (.idx (.var 0) (.int (1))) (.idx (.var 1) (.int (1)))) .nil)))) .nil)
def d_law_times : Dfn := ⟨"_law_times", ["one", "two"], ["one", "two"], b_law_times, []⟩
def b_law_share : Ss := (.cons (.asg (.nm 1) (.ite (.cmp .eq (.call i_law_dip (.cons (.var 0) (.cons (.int (3)) .nil))) (.int (0))) (.neg (.int (1))) (.int (1)))) (.cons (.asg (.nm 2) (.bin .add (.int (1)) (.call i_law_dip (.cons (.var 0) (.cons (.int (4)) .nil))))) (.cons (.ret (.call i_law_low (.cons (.bin .mul (.var 1) (.var 2)) (.cons (.bin .add (.int (1)) (.call i_law_dip (.cons (.var 0) (.cons (.int (4)) .nil)))) .nil)))) .nil)))
def d_law_share : Dfn := ⟨"_law_share", ["urn"], ["urn", "sign", "top"], b_law_share, []⟩
def b_law_pieces : Ss := (.cons (.asg (.nm 3) (.lst .nil)) (.cons (.for_ (.nm 4) (.rng1 (.call i_law_dip (.cons (.var 0) (.cons (.bin .add (.var 2) (.int (1))) .nil)))) (.cons (.asg (.nm 5) (.call i_law_dip (.cons (.var 0) (.cons (.var 1) .nil)))) (.cons (.app (.var 3) (.tup (.cons (.var 5) (.cons (.call i_law_share (.cons (.var 0) .nil)) .nil)))) .nil))) (.cons (.ret (.blt .tuple1 (.cons (.var 3) .nil))) .nil)))
def d_law_pieces : Dfn := ⟨"_law_pieces", ["urn", "letters", "most"], ["urn", "letters", "most", "found", "turn", "letter"], b_law_pieces, []⟩
def b_law_rest : Ss := (.cons (.asg (.nm 2) (.lst .nil)) (.cons (.for_ (.nm 3) (.rng1 (.var 0)) (.cons (.asg (.nm 4) (.num (.int (1)) (.int (1)))) (.cons (.for_ (.tp [5, 6]) (.seq (.var 1)) (.cons (.ite (.cmp .eq (.var 5) (.var 3)) (.cons (.asg (.nm 4) (.call i_law_plus (.cons (.var 4) (.cons (.num (.bin .sub (.int (0)) (.idx (.var 6) (.int (0)))) (.idx (.var 6) (.int (1)))) .nil)))) .nil) .nil) .nil)) (.cons (.ite (.cmp .ne (.idx (.var 4) (.int (0))) (.int (0))) (.cons (.app (.var 2) (.tup (.cons (.var 3) (.cons (.var 4) .nil)))) .nil) .nil) .nil)))) (.cons (.ret (.blt .tuple1 (.cons (.var 2) .nil))) .nil)))
def d_law_rest : Dfn := ⟨"_law_rest", ["letters", "step"], ["letters", "step", "found", "letter", "total", "each", "part"], b_law_rest, []⟩
def b_law_timed : Ss := (.cons (.ret (.blt .tuple1 (.cons (.comp (.tup (.cons (.idx (.var 2) (.int (0))) (.cons (.call i_law_times (.cons (.idx (.var 2) (.int (1))) (.cons (.var 1) .nil))) .nil))) (.nm 2) (.seq (.var 0)) .none [2]) .nil))) .nil)
def d_law_timed : Dfn := ⟨"_law_timed", ["step", "part"], ["step", "part", "piece"], b_law_timed, []⟩
def b_law_undone : Ss := (.cons (.ret (.blt .tuple1 (.cons (.comp (.tup (.cons (.idx (.var 1) (.int (0))) (.cons (.num (.bin .sub (.int (0)) (.idx (.idx (.var 1) (.int (1))) (.int (0)))) (.idx (.idx (.var 1) (.int (1))) (.int (1)))) .nil))) (.nm 1) (.seq (.rev (.var 0))) .none [1]) .nil))) .nil)
def d_law_undone : Dfn := ⟨"_law_undone", ["step"], ["step", "piece"], b_law_undone, []⟩
def b_law_even : Ss := (.cons (.asg (.nm 3) (.call i_law_pieces (.cons (.var 0) (.cons (.var 1) (.cons (.var 2) .nil))))) (.cons (.asg (.nm 3) (.call i_law_timed (.cons (.bin .add (.var 3) (.call i_law_rest (.cons (.var 1) (.cons (.var 3) .nil)))) (.cons (.num (.int (1)) (.int (2))) .nil)))) (.cons (.ret (.bin .add (.var 3) (.rev (.var 3)))) .nil)))
def d_law_even : Dfn := ⟨"_law_even", ["urn", "letters", "most"], ["urn", "letters", "most", "half"], b_law_even, []⟩
def b_law_scale : Ss := (.cons (.asg (.nm 1) (.int (1))) (.cons (.for_ (.tp [2, 3]) (.seq (.var 0)) (.cons (.asg (.nm 1) (.bin .mul (.var 1) (.idx (.call i_law_low (.cons (.var 1) (.cons (.idx (.var 3) (.int (1))) .nil))) (.int (1))))) .nil)) (.cons (.ret (.var 1)) .nil)))
def d_law_scale : Dfn := ⟨"_law_scale", ["step"], ["step", "found", "letter", "part"], b_law_scale, []⟩
def b_law_led : Ss := (.cons (.par 4 5 (.bin .add (.lst (.cons (.int (0)) .nil)) (.comp (.bin .mul (.var 2) (.var 6)) (.nm 6) (.seq (.var 1)) .none [6])) (.lst .nil)) (.cons (.for_ (.nm 3) (.rng1 (.blt .max2 (.cons (.blt .len (.cons (.var 0) .nil)) (.cons (.blt .len (.cons (.var 4) .nil)) .nil)))) (.cons (.app (.var 5) (.bin .add (.ite (.cmp .lt (.var 3) (.blt .len (.cons (.var 0) .nil))) (.idx (.var 0) (.var 3)) (.int (0))) (.ite (.cmp .lt (.var 3) (.blt .len (.cons (.var 4) .nil))) (.idx (.var 4) (.var 3)) (.int (0))))) .nil)) (.cons (.whl (.band (.cmp .ne (.var 5) (.lst .nil)) (.cmp .eq (.idx (.var 5) (.neg (.int (1)))) (.int (0)))) (.cons (.ex (.pop (.var 5))) .nil)) (.cons (.ret (.var 5)) .nil))))
def d_law_led : Dfn := ⟨"_law_led", ["one", "two", "size"], ["one", "two", "size", "k", "more", "found", "number"], b_law_led, []⟩
def b_law_polynomials : Ss := (.cons (.par 1 2 (.call i_law_scale (.cons (.var 0) .nil)) (.lst (.cons (.lst (.cons (.lst (.cons (.int (1)) .nil)) (.cons (.lst .nil) .nil))) (.cons (.lst (.cons (.lst .nil) (.cons (.lst (.cons (.int (1)) .nil)) .nil))) .nil)))) (.cons (.for_ (.tp [3, 4]) (.seq (.var 0)) (.cons (.par 5 6 (.bin .mul (.idx (.var 4) (.int (0))) (.bin .fdiv (.var 1) (.idx (.var 4) (.int (1))))) (.lst .nil)) (.cons (.forU [7, 8] (.seq (.var 2)) (.cons (.ite (.cmp .eq (.var 3) (.int (0))) (.cons (.app (.var 6) (.lst (.cons (.var 7) (.cons (.call i_law_led (.cons (.var 8) (.cons (.var 7) (.cons (.var 5) .nil)))) .nil)))) .nil) (.cons (.app (.var 6) (.lst (.cons (.call i_law_led (.cons (.var 7) (.cons (.var 8) (.cons (.bin .sub (.int (0)) (.var 5)) .nil)))) (.cons (.var 8) .nil)))) .nil)) .nil)) (.cons (.asg (.nm 2) (.var 6)) .nil)))) (.cons (.ret (.tup (.cons (.var 2) (.cons (.var 1) .nil)))) .nil)))
def d_law_polynomials : Dfn := ⟨"_law_polynomials", ["step"], ["step", "many", "rows", "letter", "part", "size", "fresh", "one", "two"], b_law_polynomials, []⟩
def b_law_table : Ss := (.cons (.asg (.nm 2) (.lst (.cons (.lst (.cons (.num (.int (1)) (.int (1))) (.cons (.num (.int (0)) (.int (1))) .nil))) (.cons (.lst (.cons (.num (.int (0)) (.int (1))) (.cons (.num (.int (1)) (.int (1))) .nil))) .nil)))) (.cons (.for_ (.tp [3, 4]) (.seq (.var 0)) (.cons (.par 6 7 (.call i_law_times (.cons (.var 4) (.cons (.var 1) .nil))) (.lst .nil)) (.cons (.asg (.nm 5) (.num (.bin .sub (.int (0)) (.idx (.var 6) (.int (0)))) (.idx (.var 6) (.int (1))))) (.cons (.forU [8, 9] (.seq (.var 2)) (.cons (.ite (.cmp .eq (.var 3) (.int (0))) (.cons (.app (.var 7) (.lst (.cons (.var 8) (.cons (.call i_law_plus (.cons (.var 9) (.cons (.call i_law_times (.cons (.var 6) (.cons (.var 8) .nil))) .nil))) .nil)))) .nil) (.cons (.app (.var 7) (.lst (.cons (.call i_law_plus (.cons (.var 8) (.cons (.call i_law_times (.cons (.var 5) (.cons (.var 9) .nil))) .nil))) (.cons (.var 9) .nil)))) .nil)) .nil)) (.cons (.asg (.nm 2) (.var 7)) .nil))))) (.cons (.ret (.var 2)) .nil)))
def d_law_table : Dfn := ⟨"_law_table", ["step", "time"], ["step", "time", "rows", "letter", "part", "back", "size", "fresh", "one", "two"], b_law_table, []⟩
def b_law_time : Ss := (.cons (.asg (.nm 1) (.bin .add (.int (1)) (.call i_law_dip (.cons (.var 0) (.cons (.int (5)) .nil))))) (.cons (.ret (.call i_law_low (.cons (.var 1) (.cons (.bin .add (.int (1)) (.call i_law_dip (.cons (.var 0) (.cons (.int (4)) .nil)))) .nil)))) .nil))
def d_law_time : Dfn := ⟨"_law_time", ["urn"], ["urn", "top"], b_law_time, []⟩
def b_law_swung : Ss := (.cons (.asg (.nm 1) (.call i_law_dip (.cons (.var 0) (.cons (.int (6)) .nil)))) (.cons (.ite (.cmp .eq (.var 1) (.int (0))) (.cons (.ret (.call i_law_pieces (.cons (.var 0) (.cons (.int (2)) (.cons (.int (5)) .nil))))) .nil) .nil) (.cons (.ite (.cmp .eq (.var 1) (.int (1))) (.cons (.ret (.call i_law_even (.cons (.var 0) (.cons (.int (2)) (.cons (.int (1)) .nil))))) .nil) .nil) (.cons (.ite (.cmp .lt (.var 1) (.int (4))) (.cons (.asg (.nm 3) (.call i_law_pieces (.cons (.var 0) (.cons (.int (2)) (.cons (.int (3)) .nil))))) (.cons (.ret (.bin .add (.var 3) (.call i_law_rest (.cons (.int (2)) (.cons (.var 3) .nil))))) .nil)) .nil) (.cons (.par 6 7 (.call i_law_share (.cons (.var 0) .nil)) (.call i_law_pick (.cons (.var 0) (.cons (.lst (.cons (.num (.int (1)) (.int (1))) (.cons (.num (.int (2)) (.int (1))) (.cons (.num (.int (3)) (.int (1))) (.cons (.num (.int (4)) (.int (1))) (.cons (.num (.int (5)) (.int (1))) (.cons (.num (.int (1)) (.int (2))) (.cons (.num (.int (5)) (.int (2))) .nil)))))))) .nil)))) (.cons (.asg (.nm 2) (.tup (.cons (.tup (.cons (.int (0)) (.cons (.var 6) .nil))) (.cons (.tup (.cons (.int (1)) (.cons (.call i_law_times (.cons (.var 7) (.cons (.ite (.cmp .gt (.idx (.var 6) (.int (0))) (.int (0))) (.num (.idx (.var 6) (.int (1))) (.idx (.var 6) (.int (0)))) (.num (.bin .sub (.int (0)) (.idx (.var 6) (.int (1)))) (.bin .sub (.int (0)) (.idx (.var 6) (.int (0)))))) .nil))) .nil))) .nil)))) (.cons (.asg (.nm 3) (.bin .add (.bin .mul (.var 2) (.bin .add (.int (1)) (.call i_law_dip (.cons (.var 0) (.cons (.int (6)) .nil))))) (.sl (.var 2) .none (.some (.call i_law_dip (.cons (.var 0) (.cons (.int (2)) .nil))))))) (.cons (.asg (.nm 4) (.call i_law_dip (.cons (.var 0) (.cons (.int (2)) .nil)))) (.cons (.asg (.nm 5) (.tup (.cons (.tup (.cons (.var 4) (.cons (.call i_law_share (.cons (.var 0) .nil)) .nil))) .nil))) (.cons (.ret (.ite (.cmp .eq (.call i_law_dip (.cons (.var 0) (.cons (.int (2)) .nil))) (.int (0))) (.bin .add (.bin .add (.var 5) (.var 3)) (.call i_law_undone (.cons (.var 5) .nil))) (.var 3))) .nil))))))))))
def d_law_swung : Dfn := ⟨"_law_swung", ["urn"], ["urn", "way", "one", "step", "letter", "ahead", "part", "many"], b_law_swung, []⟩
def b_law_shown : Ss := (.cons (.asg (.nm 2) (.lst .nil)) (.cons (.for_ (.nm 3) (.seq (.var 0)) (.cons (.asg (.nm 4) (.lst .nil)) (.cons (.for_ (.nm 5) (.seq (.var 3)) (.cons (.par 7 8 (.lst .nil) (.int (1))) (.cons (.for_ (.nm 6) (.seq (.var 5)) (.cons (.app (.var 7) (.call i_law_low (.cons (.var 6) (.cons (.var 8) .nil)))) (.cons (.asg (.nm 8) (.bin .mul (.var 8) (.var 1))) .nil))) (.cons (.app (.var 4) (.blt .tuple1 (.cons (.var 7) .nil))) .nil)))) (.cons (.app (.var 2) (.blt .tuple1 (.cons (.var 4) .nil))) .nil)))) (.cons (.ret (.blt .tuple1 (.cons (.var 2) .nil))) .nil)))
def d_law_shown : Dfn := ⟨"_law_shown", ["rows", "many"], ["rows", "many", "found", "row", "line", "numbers", "number", "told", "size"], b_law_shown, []⟩
def b_law_worth : Ss := (.cons (.asg (.nm 2) (.num (.int (0)) (.int (1)))) (.cons (.for_ (.nm 3) (.seq (.rev (.var 0))) (.cons (.asg (.nm 2) (.call i_law_plus (.cons (.call i_law_times (.cons (.var 2) (.cons (.var 1) .nil))) (.cons (.var 3) .nil)))) .nil)) (.cons (.ret (.var 2)) .nil)))
def d_law_worth : Dfn := ⟨"_law_worth", ["polynomial", "time"], ["polynomial", "time", "found", "number"], b_law_worth, []⟩
def b_law_behind : Ss := (.cons (.asg (.nm 2) (.lst .nil)) (.cons (.for_ (.nm 3) (.seq (.var 0)) (.cons (.asg (.nm 4) (.lst .nil)) (.cons (.for_ (.nm 5) (.rng1 (.int (2))) (.cons (.app (.var 4) (.call i_law_plus (.cons (.call i_law_times (.cons (.idx (.var 3) (.int (0))) (.cons (.idx (.idx (.var 1) (.int (0))) (.var 5)) .nil))) (.cons (.call i_law_times (.cons (.idx (.var 3) (.int (1))) (.cons (.idx (.idx (.var 1) (.int (1))) (.var 5)) .nil))) .nil)))) .nil)) (.cons (.app (.var 2) (.blt .tuple1 (.cons (.var 4) .nil))) .nil)))) (.cons (.ret (.blt .tuple1 (.cons (.var 2) .nil))) .nil)))
def d_law_behind : Dfn := ⟨"_law_behind", ["one", "two"], ["one", "two", "found", "row", "line", "k"], b_law_behind, []⟩
def b_law_right : Ss := (.cons (.asg (.tp [7, 8, 9]) (.tup (.cons (.call i_law_swung (.cons (.var 0) .nil)) (.cons (.call i_law_time (.cons (.var 0) .nil)) (.cons (.cmp .eq (.call i_law_dip (.cons (.var 0) (.cons (.int (2)) .nil))) (.int (0))) .nil))))) (.cons (.asg (.tp [10, 11]) (.call i_law_polynomials (.cons (.var 7) .nil))) (.cons (.asg (.nm 1) (.ite (.var 9) (.callk i_swing_table .nil (.cons (.var 7) .nil) 0 1 [0]) (.call i_swing_table (.cons (.var 7) .nil)))) (.cons (.ite (.cmp .ne (.var 1) (.call i_law_shown (.cons (.var 10) (.cons (.var 11) .nil)))) (.cons (.ret (.bl false)) .nil) .nil) (.cons (.for_ (.nm 2) (.rng1 (.int (2))) (.cons (.for_ (.nm 12) (.rng1 (.int (2))) (.cons (.asg (.nm 13) (.comp (.var 14) (.nm 14) (.rng1 (.blt .len (.cons (.idx (.idx (.var 1) (.var 2)) (.var 12)) .nil))) (.some (.cmp .eq (.bin .band (.bin .add (.bin .add (.var 14) (.var 2)) (.var 12)) (.int (1))) (.int (1)))) [14])) (.cons (.ite (.cmp .ne (.comp (.var 14) (.nm 14) (.seq (.var 13)) (.some (.cmp .ne (.idx (.idx (.idx (.var 1) (.var 2)) (.var 12)) (.var 14)) (.num (.int (0)) (.int (1))))) [14]) (.lst .nil)) (.cons (.ret (.bl false)) .nil) .nil) .nil))) .nil)) (.cons (.asg (.nm 3) (.ite (.var 9) (.callk i_swing_at .nil (.cons (.var 8) (.cons (.var 7) .nil)) 0 2 [1, 0]) (.call i_swing_at (.cons (.var 7) (.cons (.var 8) .nil))))) (.cons (.asg (.nm 4) (.blt .tuple1 (.cons (.comp (.blt .tuple1 (.cons (.comp (.call i_law_worth (.cons (.var 15) (.cons (.var 8) .nil))) (.nm 15) (.seq (.var 2)) .none [15]) .nil)) (.nm 2) (.seq (.var 1)) .none [2]) .nil))) (.cons (.asg (.nm 5) (.call i_law_times (.cons (.idx (.idx (.var 3) (.int (0))) (.int (1))) (.cons (.idx (.idx (.var 3) (.int (1))) (.int (0))) .nil)))) (.cons (.ite (.bor (.cmp .ne (.var 3) (.var 4)) (.cmp .ne (.call i_law_plus (.cons (.call i_law_times (.cons (.idx (.idx (.var 3) (.int (0))) (.int (0))) (.cons (.idx (.idx (.var 3) (.int (1))) (.int (1))) .nil))) (.cons (.num (.bin .sub (.int (0)) (.idx (.var 5) (.int (0)))) (.idx (.var 5) (.int (1)))) .nil))) (.num (.int (1)) (.int (1))))) (.cons (.ret (.bl false)) .nil) .nil) (.cons (.asg (.nm 6) (.call i_law_pieces (.cons (.var 0) (.cons (.int (2)) (.cons (.int (3)) .nil))))) (.cons (.ret (.cmp .eq (.call i_swing_at (.cons (.bin .add (.var 7) (.var 6)) (.cons (.var 8) .nil))) (.call i_law_behind (.cons (.var 3) (.cons (.call i_law_table (.cons (.var 6) (.cons (.var 8) .nil))) .nil))))) .nil)))))))))))
def d_law_right : Dfn := ⟨"_law_right", ["urn"], ["urn", "told", "row", "found", "due", "away", "other", "step", "time", "by_name", "rows", "many", "column", "gone", "k", "numbers"], b_law_right, []⟩
def b_law : Ss := (.cons (.for_ (.nm 1) (.rng1 (.int (2))) (.cons (.ite (.bnot (.call i_law_right (.cons (.call i_law_urn (.cons (.var 0) (.cons (.var 1) .nil))) .nil))) (.cons (.ret (.bl false)) .nil) .nil) .nil)) (.cons (.ret (.bl true)) .nil))
def d_law : Dfn := ⟨"law", ["script"], ["script", "turn"], b_law, []⟩
def defs : List Dfn := [d_is_whole, d_is_between, d_is_letter, d_is_pair, d_is_fraction, d_fraction_of, d_added, d_multiplied, d_is_step, d_is_piece, d_check_step, d_step_has_two, d_step_short, d_trimmed, d_poly_plus, d_check_swung, d_check_time, d_swing_polynomials, d_swing_numbers, d_swing_fractions, d_as_powers, d_swing_table, d_swing_at, d_law_urn, d_law_dip, d_law_pick, d_law_low, d_law_plus, d_law_times, d_law_share, d_law_pieces, d_law_rest, d_law_timed, d_law_undone, d_law_even, d_law_scale, d_law_led, d_law_polynomials, d_law_table, d_law_time, d_law_swung, d_law_shown, d_law_worth, d_law_behind, d_law_right, d_law]
def gv : Str → Option Dv := gvOf cs is_
open PySem PySem.Spec PyProof.Rows L2
def fes : List FnE := defs.map Dfn.fe
theorem st_is_whole : Stat fes bns ibs d_is_whole (topS 7) := ⟨⟨rfl, rfl, rfl, by decide +kernel, rfl, by decide +kernel, by decide +kernel⟩, (fun _ _ _ _ _ _ us hl => match us, hl with | [_], _ => rfl), (fun _ h => nomatch h), by decide +kernel⟩
theorem st_is_between : Stat fes bns ibs d_is_between (topS 8) := ⟨⟨rfl, rfl, rfl, by decide +kernel, rfl, by decide +kernel, by decide +kernel⟩, (fun _ _ _ _ _ _ us hl => match us, hl with | [_, _, _], _ => rfl), (fun _ h => nomatch h), by decide +kernel⟩
theorem st_is_letter : Stat fes bns ibs d_is_letter (topS 9) := ⟨⟨rfl, rfl, rfl, by decide +kernel, rfl, by decide +kernel, by decide +kernel⟩, (fun _ _ _ _ _ _ us hl => match us, hl with | [_], _ => rfl), (fun _ h => nomatch h), by decide +kernel⟩
theorem st_is_pair : Stat fes bns ibs d_is_pair (topS 10) := ⟨⟨rfl, rfl, rfl, by decide +kernel, rfl, by decide +kernel, by decide +kernel⟩, (fun _ _ _ _ _ _ us hl => match us, hl with | [_], _ => rfl), (fun _ h => nomatch h), by decide +kernel⟩
theorem st_is_fraction : Stat fes bns ibs d_is_fraction (topS 11) := ⟨⟨rfl, rfl, rfl, by decide +kernel, rfl, by decide +kernel, by decide +kernel⟩, (fun _ _ _ _ _ _ us hl => match us, hl with | [_], _ => rfl), (fun _ h => nomatch h), by decide +kernel⟩
theorem st_fraction_of : Stat fes bns ibs d_fraction_of (topS 12) := ⟨⟨rfl, rfl, rfl, by decide +kernel, rfl, by decide +kernel, by decide +kernel⟩, (fun _ _ _ _ _ _ us hl => match us, hl with | [_, _], _ => rfl), (fun _ h => nomatch h), by decide +kernel⟩
theorem st_added : Stat fes bns ibs d_added (topS 13) := ⟨⟨rfl, rfl, rfl, by decide +kernel, rfl, by decide +kernel, by decide +kernel⟩, (fun _ _ _ _ _ _ us hl => match us, hl with | [_, _], _ => rfl), (fun _ h => nomatch h), by decide +kernel⟩
theorem st_multiplied : Stat fes bns ibs d_multiplied (topS 14) := ⟨⟨rfl, rfl, rfl, by decide +kernel, rfl, by decide +kernel, by decide +kernel⟩, (fun _ _ _ _ _ _ us hl => match us, hl with | [_, _], _ => rfl), (fun _ h => nomatch h), by decide +kernel⟩
theorem st_is_step : Stat fes bns ibs d_is_step (topS 16) := ⟨⟨rfl, rfl, rfl, by decide +kernel, rfl, by decide +kernel, by decide +kernel⟩, (fun _ _ _ _ _ _ us hl => match us, hl with | [_], _ => rfl), (fun _ h => nomatch h), by decide +kernel⟩
theorem st_is_piece : Stat fes bns ibs d_is_piece (topS 17) := ⟨⟨rfl, rfl, rfl, by decide +kernel, rfl, by decide +kernel, by decide +kernel⟩, (fun _ _ _ _ _ _ us hl => match us, hl with | [_], _ => rfl), (fun _ h => nomatch h), by decide +kernel⟩
theorem st_check_step : Stat fes bns ibs d_check_step (topS 18) := ⟨⟨rfl, rfl, rfl, by decide +kernel, rfl, by decide +kernel, by decide +kernel⟩, (fun _ _ _ _ _ _ us hl => match us, hl with | [_], _ => rfl), (fun _ h => nomatch h), by decide +kernel⟩
theorem st_step_has_two : Stat fes bns ibs d_step_has_two (topS 19) := ⟨⟨rfl, rfl, rfl, by decide +kernel, rfl, by decide +kernel, by decide +kernel⟩, (fun _ _ _ _ _ _ us hl => match us, hl with | [_], _ => rfl), (fun _ h => nomatch h), by decide +kernel⟩
theorem st_step_short : Stat fes bns ibs d_step_short (topS 20) := ⟨⟨rfl, rfl, rfl, by decide +kernel, rfl, by decide +kernel, by decide +kernel⟩, (fun _ _ _ _ _ _ us hl => match us, hl with | [_], _ => rfl), (fun _ h => nomatch h), by decide +kernel⟩
theorem st_trimmed : Stat fes bns ibs d_trimmed (topS 22) := ⟨⟨rfl, rfl, rfl, by decide +kernel, rfl, by decide +kernel, by decide +kernel⟩, (fun _ _ _ _ _ _ us hl => match us, hl with | [_], _ => rfl), (fun _ h => nomatch h), by decide +kernel⟩
theorem st_poly_plus : Stat fes bns ibs d_poly_plus (topS 23) := ⟨⟨rfl, rfl, rfl, by decide +kernel, rfl, by decide +kernel, by decide +kernel⟩, (fun _ _ _ _ _ _ us hl => match us, hl with | [_, _, _], _ => rfl), (fun _ h => nomatch h), by decide +kernel⟩
theorem st_check_swung : Stat fes bns ibs d_check_swung (topS 25) := ⟨⟨rfl, rfl, rfl, by decide +kernel, rfl, by decide +kernel, by decide +kernel⟩, (fun _ _ _ _ _ _ us hl => match us, hl with | [_], _ => rfl), (fun _ h => nomatch h), by decide +kernel⟩
theorem st_check_time : Stat fes bns ibs d_check_time (topS 26) := ⟨⟨rfl, rfl, rfl, by decide +kernel, rfl, by decide +kernel, by decide +kernel⟩, (fun _ _ _ _ _ _ us hl => match us, hl with | [_], _ => rfl), (fun _ h => nomatch h), by decide +kernel⟩
theorem st_swing_polynomials : Stat fes bns ibs d_swing_polynomials (topS 27) := ⟨⟨rfl, rfl, rfl, by decide +kernel, rfl, by decide +kernel, by decide +kernel⟩, (fun _ _ _ _ _ _ us hl => match us, hl with | [_], _ => rfl), (fun _ h => nomatch h), by decide +kernel⟩
theorem st_swing_numbers : Stat fes bns ibs d_swing_numbers (topS 28) := ⟨⟨rfl, rfl, rfl, by decide +kernel, rfl, by decide +kernel, by decide +kernel⟩, (fun _ _ _ _ _ _ us hl => match us, hl with | [_, _], _ => rfl), (fun _ h => nomatch h), by decide +kernel⟩
theorem st_swing_fractions : Stat fes bns ibs d_swing_fractions (topS 29) := ⟨⟨rfl, rfl, rfl, by decide +kernel, rfl, by decide +kernel, by decide +kernel⟩, (fun _ _ _ _ _ _ us hl => match us, hl with | [_, _], _ => rfl), (fun _ h => nomatch h), by decide +kernel⟩
theorem st_as_powers : Stat fes bns ibs d_as_powers (topS 30) := ⟨⟨rfl, rfl, rfl, by decide +kernel, rfl, by decide +kernel, by decide +kernel⟩, (fun _ _ _ _ _ _ us hl => match us, hl with | [_, _, _], _ => rfl), (fun _ h => nomatch h), by decide +kernel⟩
theorem st_swing_table : Stat fes bns ibs d_swing_table (topS 31) := ⟨⟨rfl, rfl, rfl, by decide +kernel, rfl, by decide +kernel, by decide +kernel⟩, (fun _ _ _ _ _ _ us hl => match us, hl with | [_], _ => rfl), (by intro p hp; rcases List.mem_cons.mp hp with rfl | hp; exact ⟨by decide, fun _ _ _ _ _ _ us ws hu hw => match us, ws, hu, hw with | [], [_], _, _ => rfl⟩; exact nomatch hp), by decide +kernel⟩
theorem st_swing_at : Stat fes bns ibs d_swing_at (topS 32) := ⟨⟨rfl, rfl, rfl, by decide +kernel, rfl, by decide +kernel, by decide +kernel⟩, (fun _ _ _ _ _ _ us hl => match us, hl with | [_, _], _ => rfl), (by intro p hp; rcases List.mem_cons.mp hp with rfl | hp; exact ⟨by decide, fun _ _ _ _ _ _ us ws hu hw => match us, ws, hu, hw with | [], [_, _], _, _ => rfl⟩; exact nomatch hp), by decide +kernel⟩
theorem st_law_urn : Stat fes bns ibs d_law_urn (topS 34) := ⟨⟨rfl, rfl, rfl, by decide +kernel, rfl, by decide +kernel, by decide +kernel⟩, (fun _ _ _ _ _ _ us hl => match us, hl with | [_, _], _ => rfl), (fun _ h => nomatch h), by decide +kernel⟩
theorem st_law_dip : Stat fes bns ibs d_law_dip (topS 35) := ⟨⟨rfl, rfl, rfl, by decide +kernel, rfl, by decide +kernel, by decide +kernel⟩, (fun _ _ _ _ _ _ us hl => match us, hl with | [_, _], _ => rfl), (fun _ h => nomatch h), by decide +kernel⟩
theorem st_law_pick : Stat fes bns ibs d_law_pick (topS 36) := ⟨⟨rfl, rfl, rfl, by decide +kernel, rfl, by decide +kernel, by decide +kernel⟩, (fun _ _ _ _ _ _ us hl => match us, hl with | [_, _], _ => rfl), (fun _ h => nomatch h), by decide +kernel⟩
theorem st_law_low : Stat fes bns ibs d_law_low (topS 37) := ⟨⟨rfl, rfl, rfl, by decide +kernel, rfl, by decide +kernel, by decide +kernel⟩, (fun _ _ _ _ _ _ us hl => match us, hl with | [_, _], _ => rfl), (fun _ h => nomatch h), by decide +kernel⟩
theorem st_law_plus : Stat fes bns ibs d_law_plus (topS 38) := ⟨⟨rfl, rfl, rfl, by decide +kernel, rfl, by decide +kernel, by decide +kernel⟩, (fun _ _ _ _ _ _ us hl => match us, hl with | [_, _], _ => rfl), (fun _ h => nomatch h), by decide +kernel⟩
theorem st_law_times : Stat fes bns ibs d_law_times (topS 39) := ⟨⟨rfl, rfl, rfl, by decide +kernel, rfl, by decide +kernel, by decide +kernel⟩, (fun _ _ _ _ _ _ us hl => match us, hl with | [_, _], _ => rfl), (fun _ h => nomatch h), by decide +kernel⟩
theorem st_law_share : Stat fes bns ibs d_law_share (topS 40) := ⟨⟨rfl, rfl, rfl, by decide +kernel, rfl, by decide +kernel, by decide +kernel⟩, (fun _ _ _ _ _ _ us hl => match us, hl with | [_], _ => rfl), (fun _ h => nomatch h), by decide +kernel⟩
theorem st_law_pieces : Stat fes bns ibs d_law_pieces (topS 41) := ⟨⟨rfl, rfl, rfl, by decide +kernel, rfl, by decide +kernel, by decide +kernel⟩, (fun _ _ _ _ _ _ us hl => match us, hl with | [_, _, _], _ => rfl), (fun _ h => nomatch h), by decide +kernel⟩
theorem st_law_rest : Stat fes bns ibs d_law_rest (topS 42) := ⟨⟨rfl, rfl, rfl, by decide +kernel, rfl, by decide +kernel, by decide +kernel⟩, (fun _ _ _ _ _ _ us hl => match us, hl with | [_, _], _ => rfl), (fun _ h => nomatch h), by decide +kernel⟩
theorem st_law_timed : Stat fes bns ibs d_law_timed (topS 43) := ⟨⟨rfl, rfl, rfl, by decide +kernel, rfl, by decide +kernel, by decide +kernel⟩, (fun _ _ _ _ _ _ us hl => match us, hl with | [_, _], _ => rfl), (fun _ h => nomatch h), by decide +kernel⟩
theorem st_law_undone : Stat fes bns ibs d_law_undone (topS 44) := ⟨⟨rfl, rfl, rfl, by decide +kernel, rfl, by decide +kernel, by decide +kernel⟩, (fun _ _ _ _ _ _ us hl => match us, hl with | [_], _ => rfl), (fun _ h => nomatch h), by decide +kernel⟩
theorem st_law_even : Stat fes bns ibs d_law_even (topS 45) := ⟨⟨rfl, rfl, rfl, by decide +kernel, rfl, by decide +kernel, by decide +kernel⟩, (fun _ _ _ _ _ _ us hl => match us, hl with | [_, _, _], _ => rfl), (fun _ h => nomatch h), by decide +kernel⟩
theorem st_law_scale : Stat fes bns ibs d_law_scale (topS 46) := ⟨⟨rfl, rfl, rfl, by decide +kernel, rfl, by decide +kernel, by decide +kernel⟩, (fun _ _ _ _ _ _ us hl => match us, hl with | [_], _ => rfl), (fun _ h => nomatch h), by decide +kernel⟩
theorem st_law_led : Stat fes bns ibs d_law_led (topS 47) := ⟨⟨rfl, rfl, rfl, by decide +kernel, rfl, by decide +kernel, by decide +kernel⟩, (fun _ _ _ _ _ _ us hl => match us, hl with | [_, _, _], _ => rfl), (fun _ h => nomatch h), by decide +kernel⟩
theorem st_law_polynomials : Stat fes bns ibs d_law_polynomials (topS 48) := ⟨⟨rfl, rfl, rfl, by decide +kernel, rfl, by decide +kernel, by decide +kernel⟩, (fun _ _ _ _ _ _ us hl => match us, hl with | [_], _ => rfl), (fun _ h => nomatch h), by decide +kernel⟩
theorem st_law_table : Stat fes bns ibs d_law_table (topS 49) := ⟨⟨rfl, rfl, rfl, by decide +kernel, rfl, by decide +kernel, by decide +kernel⟩, (fun _ _ _ _ _ _ us hl => match us, hl with | [_, _], _ => rfl), (fun _ h => nomatch h), by decide +kernel⟩
theorem st_law_time : Stat fes bns ibs d_law_time (topS 50) := ⟨⟨rfl, rfl, rfl, by decide +kernel, rfl, by decide +kernel, by decide +kernel⟩, (fun _ _ _ _ _ _ us hl => match us, hl with | [_], _ => rfl), (fun _ h => nomatch h), by decide +kernel⟩
theorem st_law_swung : Stat fes bns ibs d_law_swung (topS 51) := ⟨⟨rfl, rfl, rfl, by decide +kernel, rfl, by decide +kernel, by decide +kernel⟩, (fun _ _ _ _ _ _ us hl => match us, hl with | [_], _ => rfl), (fun _ h => nomatch h), by decide +kernel⟩
theorem st_law_shown : Stat fes bns ibs d_law_shown (topS 52) := ⟨⟨rfl, rfl, rfl, by decide +kernel, rfl, by decide +kernel, by decide +kernel⟩, (fun _ _ _ _ _ _ us hl => match us, hl with | [_, _], _ => rfl), (fun _ h => nomatch h), by decide +kernel⟩
theorem st_law_worth : Stat fes bns ibs d_law_worth (topS 53) := ⟨⟨rfl, rfl, rfl, by decide +kernel, rfl, by decide +kernel, by decide +kernel⟩, (fun _ _ _ _ _ _ us hl => match us, hl with | [_, _], _ => rfl), (fun _ h => nomatch h), by decide +kernel⟩
theorem st_law_behind : Stat fes bns ibs d_law_behind (topS 54) := ⟨⟨rfl, rfl, rfl, by decide +kernel, rfl, by decide +kernel, by decide +kernel⟩, (fun _ _ _ _ _ _ us hl => match us, hl with | [_, _], _ => rfl), (fun _ h => nomatch h), by decide +kernel⟩
theorem st_law_right : Stat fes bns ibs d_law_right (topS 55) := ⟨⟨rfl, rfl, rfl, by decide +kernel, rfl, by decide +kernel, by decide +kernel⟩, (fun _ _ _ _ _ _ us hl => match us, hl with | [_], _ => rfl), (fun _ h => nomatch h), by decide +kernel⟩
theorem st_law : Stat fes bns ibs d_law (topS 56) := ⟨⟨rfl, rfl, rfl, by decide +kernel, rfl, by decide +kernel, by decide +kernel⟩, (fun _ _ _ _ _ _ us hl => match us, hl with | [_], _ => rfl), (fun _ h => nomatch h), by decide +kernel⟩
def ts : List (Dfn × Stmt) := [(d_is_whole, topS 7), (d_is_between, topS 8), (d_is_letter, topS 9), (d_is_pair, topS 10), (d_is_fraction, topS 11), (d_fraction_of, topS 12), (d_added, topS 13), (d_multiplied, topS 14), (d_is_step, topS 16), (d_is_piece, topS 17), (d_check_step, topS 18), (d_step_has_two, topS 19), (d_step_short, topS 20), (d_trimmed, topS 22), (d_poly_plus, topS 23), (d_check_swung, topS 25), (d_check_time, topS 26), (d_swing_polynomials, topS 27), (d_swing_numbers, topS 28), (d_swing_fractions, topS 29), (d_as_powers, topS 30), (d_swing_table, topS 31), (d_swing_at, topS 32), (d_law_urn, topS 34), (d_law_dip, topS 35), (d_law_pick, topS 36), (d_law_low, topS 37), (d_law_plus, topS 38), (d_law_times, topS 39), (d_law_share, topS 40), (d_law_pieces, topS 41), (d_law_rest, topS 42), (d_law_timed, topS 43), (d_law_undone, topS 44), (d_law_even, topS 45), (d_law_scale, topS 46), (d_law_led, topS 47), (d_law_polynomials, topS 48), (d_law_table, topS 49), (d_law_time, topS 50), (d_law_swung, topS 51), (d_law_shown, topS 52), (d_law_worth, topS 53), (d_law_behind, topS 54), (d_law_right, topS 55), (d_law, topS 56)]
theorem stat : ∀ p ∈ ts, Stat ((ts.map Prod.fst).map Dfn.fe) bns ibs p.1 p.2 := by
  intro p hp
  unfold ts at hp
  rcases List.mem_cons.mp hp with rfl | hp
  · exact st_is_whole
  rcases List.mem_cons.mp hp with rfl | hp
  · exact st_is_between
  rcases List.mem_cons.mp hp with rfl | hp
  · exact st_is_letter
  rcases List.mem_cons.mp hp with rfl | hp
  · exact st_is_pair
  rcases List.mem_cons.mp hp with rfl | hp
  · exact st_is_fraction
  rcases List.mem_cons.mp hp with rfl | hp
  · exact st_fraction_of
  rcases List.mem_cons.mp hp with rfl | hp
  · exact st_added
  rcases List.mem_cons.mp hp with rfl | hp
  · exact st_multiplied
  rcases List.mem_cons.mp hp with rfl | hp
  · exact st_is_step
  rcases List.mem_cons.mp hp with rfl | hp
  · exact st_is_piece
  rcases List.mem_cons.mp hp with rfl | hp
  · exact st_check_step
  rcases List.mem_cons.mp hp with rfl | hp
  · exact st_step_has_two
  rcases List.mem_cons.mp hp with rfl | hp
  · exact st_step_short
  rcases List.mem_cons.mp hp with rfl | hp
  · exact st_trimmed
  rcases List.mem_cons.mp hp with rfl | hp
  · exact st_poly_plus
  rcases List.mem_cons.mp hp with rfl | hp
  · exact st_check_swung
  rcases List.mem_cons.mp hp with rfl | hp
  · exact st_check_time
  rcases List.mem_cons.mp hp with rfl | hp
  · exact st_swing_polynomials
  rcases List.mem_cons.mp hp with rfl | hp
  · exact st_swing_numbers
  rcases List.mem_cons.mp hp with rfl | hp
  · exact st_swing_fractions
  rcases List.mem_cons.mp hp with rfl | hp
  · exact st_as_powers
  rcases List.mem_cons.mp hp with rfl | hp
  · exact st_swing_table
  rcases List.mem_cons.mp hp with rfl | hp
  · exact st_swing_at
  rcases List.mem_cons.mp hp with rfl | hp
  · exact st_law_urn
  rcases List.mem_cons.mp hp with rfl | hp
  · exact st_law_dip
  rcases List.mem_cons.mp hp with rfl | hp
  · exact st_law_pick
  rcases List.mem_cons.mp hp with rfl | hp
  · exact st_law_low
  rcases List.mem_cons.mp hp with rfl | hp
  · exact st_law_plus
  rcases List.mem_cons.mp hp with rfl | hp
  · exact st_law_times
  rcases List.mem_cons.mp hp with rfl | hp
  · exact st_law_share
  rcases List.mem_cons.mp hp with rfl | hp
  · exact st_law_pieces
  rcases List.mem_cons.mp hp with rfl | hp
  · exact st_law_rest
  rcases List.mem_cons.mp hp with rfl | hp
  · exact st_law_timed
  rcases List.mem_cons.mp hp with rfl | hp
  · exact st_law_undone
  rcases List.mem_cons.mp hp with rfl | hp
  · exact st_law_even
  rcases List.mem_cons.mp hp with rfl | hp
  · exact st_law_scale
  rcases List.mem_cons.mp hp with rfl | hp
  · exact st_law_led
  rcases List.mem_cons.mp hp with rfl | hp
  · exact st_law_polynomials
  rcases List.mem_cons.mp hp with rfl | hp
  · exact st_law_table
  rcases List.mem_cons.mp hp with rfl | hp
  · exact st_law_time
  rcases List.mem_cons.mp hp with rfl | hp
  · exact st_law_swung
  rcases List.mem_cons.mp hp with rfl | hp
  · exact st_law_shown
  rcases List.mem_cons.mp hp with rfl | hp
  · exact st_law_worth
  rcases List.mem_cons.mp hp with rfl | hp
  · exact st_law_behind
  rcases List.mem_cons.mp hp with rfl | hp
  · exact st_law_right
  rcases List.mem_cons.mp hp with rfl | hp
  · exact st_law
  exact nomatch hp
theorem fa_eq : faOfX bns ts cs is_ = faS bns tn cs is_ := rfl
theorem fn_eqS : fnOfs ts = tn.map fnS := rfl
end K52
end
section
set_option Elab.async false
set_option linter.all false
set_option maxRecDepth 100000
namespace K52
open PySem PySem.Spec PyProof.Rows L2 Dd Sh Ms
def pc (x : Pc) : Dv := .tup [.int x.1, rv x.2]
def stp (p : P) : Dv := .tup (p.map pc)
theorem pc0 (x : Pc) : idxD (pc x) (.int 0) = pure (.int x.1) := rfl
theorem pc1 (x : Pc) : idxD (pc x) (.int 1) = pure (rv x.2) := rfl
/-- letters right, not too long -/
def Lt (p : P) : Prop := p.length ≤ 300 ∧ ∀ x ∈ p, 0 ≤ x.1 ∧ x.1 ≤ 2
theorem Lt.le {p : P} (h : Lt p) : (p.map pc).length ≤ 1000000 := by rw [List.length_map]; have := h.1; omega
def Pair2S (F : Fs) : Prop := ∀ a b : Dv, F i_is_pair [.tup [a, b]] = pure (.bl true)
def BetweenS (F : Fs) : Prop := ∀ v a b : Int, a ≤ v → v ≤ b → F i_is_between [.int v, .int a, .int b] = pure (.bl true)
def LetterS (F : Fs) : Prop := ∀ v : Int, 0 ≤ v → v ≤ 2 → F i_is_letter [.int v] = pure (.bl true)
def PieceS (F : Fs) : Prop := ∀ x : Pc, 0 ≤ x.1 → x.1 ≤ 2 → F i_is_piece [pc x] = pure (.bl true)
def IsStepS (F : Fs) : Prop := ∀ p, Lt p → Gv (F i_is_step [stp p]) (.bl true)
def CheckS (F : Fs) : Prop := ∀ p, Lt p → Gv (F i_check_step [stp p]) .non
section
variable {F : Fs} {g : Str → Option Dv}
theorem between_s (f : WholeS F i_is_whole) (v a b : Int) (h1 : a ≤ v) (h2 : v ≤ b) : runDef F g d_is_between [.int v, .int a, .int b] = pure (.bl true) := by
  simp [runDef, d_is_between, b_is_between, exs_cons, exs_nil, ex, ev, evs, pb, f v, le_ii, h1, h2]
theorem letter_s (f : BetweenS F) (v : Int) (h1 : 0 ≤ v) (h2 : v ≤ 2) : runDef F g d_is_letter [.int v] = pure (.bl true) := by
  simp [runDef, d_is_letter, b_is_letter, exs_cons, exs_nil, ex, ev, evs, pb, f v 0 2 h1 h2]
theorem pair2_s (a b : Dv) : runDef F g d_is_pair [.tup [a, b]] = pure (.bl true) := by
  simp [runDef, d_is_pair, b_is_pair, exs_cons, exs_nil, ex, ev, evs, pb, isD, tyD, len_tup, eq_ii]
theorem piece_s (f : Pair2S F) (l : LetterS F) (k : IsFracS F i_is_fraction) (x : Pc) (h1 : 0 ≤ x.1) (h2 : x.1 ≤ 2) : runDef F g d_is_piece [pc x] = pure (.bl true) := by
  simp [pc, runDef, d_is_piece, b_is_piece, exs_cons, exs_nil, ex, ev, evs, pb, f (.int x.1) (rv x.2), l x.1 h1 h2, k x.2, pick2_0, pick2_1]
theorem isstep_s (f : PieceS F) (p : P) (h : Lt p) : Gv (runDef F g d_is_step [stp p]) (.bl true) := by
  refine gv_run rfl rfl (gv_ret ?_)
  refine gv_band (gv_of (by simp [ev, pb]; rfl)) ?_
  have := gv_all (F := F) (gv := g) (elt := .call i_is_piece (.cons (.var 1) .nil)) (tg := .nm 1) (it := .seq (.var 0)) (own := [1]) (env := [some (stp p), none]) (src := .tup (p.map pc)) (all := p) (g := pc) (f := fun _ => true)
    (seq_tup (by simp [ev]; rfl)) (items_tup _) (by have := h.1; omega) fun x hx => ⟨[some (stp p), some (pc x)], rfl, gv_of (by simp [ev, evs, pb, f x (h.2 x hx).1 (h.2 x hx).2])⟩
  rw [show p.all (fun _ => true) = true by simp] at this
  exact this
theorem check_s (f : IsStepS F) (p : P) (h : Lt p) : Gv (runDef F g d_check_step [stp p]) .non :=
  gv_runN rfl rfl (gv_if (t := false) (env' := [some (stp p)]) (gv_tnot (gv_tcall (ds := [stp p]) (by simp [evs, ev, pb]) (f p h))) (fun h => nomatch h) (fun _ => gv_nil _) (gv_nil _))
end
end K52
end
section
set_option Elab.async false
set_option linter.all false
set_option maxRecDepth 100000
namespace K52
open PySem PySem.Spec PyProof.Rows L2 Dd Sh Ms
structure Big (D N : Nat) : Prop where
  pos : 0 < D
  h1 : N * D < 2 ^ 900
  h2 : D < 2 ^ 900
theorem rpush_len (st : P) (x : Pc) : (rpush st x).length ≤ st.length + 1 := by
  cases st with
  | nil => rw [rpush_nil]; split <;> simp
  | cons t st => rw [rpush_cons]; split <;> split <;> simp <;> omega
theorem foldR_len : ∀ (p st : P), (foldR st p).length ≤ st.length + p.length
  | [], st => Nat.le_refl _
  | x :: p, st => by
    have h1 := foldR_len p (rpush st x)
    have h2 := rpush_len st x
    show (foldR (rpush st x) p).length ≤ _
    rw [List.length_cons]
    omega
theorem short_len (p : P) : (short p).length ≤ p.length := by
  unfold short
  rw [List.length_reverse]
  have := foldR_len p []
  simpa using this
theorem foldR_take {p : P} {i : Nat} {y : Pc} (h : p[i]? = some y) : foldR [] (p.take (i + 1)) = rpush (foldR [] (p.take i)) y := by
  rw [List.take_add_one, h]
  unfold foldR
  rw [List.foldl_append]
  rfl
theorem fold_sz {D N : Nat} {p : P} (big : Big D N) (fit : Fit D N p) (i : Nat) : ∀ t ∈ foldR [] (p.take i), Sz 900 t.2 := fun t ht =>
  ((fit.take i).rs (to_short _)).sz big.pos big.h1 big.h2 (List.mem_reverse.mpr ht)
theorem ne_nil (q : Rat) : opC .ne (rv q) (.num 0 1) = pure (!decide (q = 0)) := by
  show (eqD1 (rv q) (.num 0 1) >>= fun b => pure (!b)) = _
  unfold eqD1 rv
  simp only [pyv]
  simp [SeqAt.shaped, PyData.canLay0, PyData.canLayAll0, PyData.depth, PyData.depthAll, PyData.eqv, PyData.eqvAll, pb]
  congr 2
  by_cases h : q = 0
  · subst h
    simp
  · have n : q.num ≠ 0 := fun e => h (Rat.num_eq_zero.mp e)
    simp [h, n]
def ShortS (F : Fs) (i : Nat) : Prop := ∀ (D N : Nat) (p : P), Big D N → Fit D N p → Lt p → Gv (F i [stp p]) (stp (short p))
section
variable {F : Fs} {g gv : Str → Option Dv}
theorem stepshort_s (hn : g "NIL" = some (.num 0 1)) (fA : PlusS F i_added) (D N : Nat) (p : P) (big : Big D N) (fit : Fit D N p) (lt : Lt p) : Gv (runDef F g d_step_short [stp p]) (stp (short p)) := by
  have h := lt.1
  refine gv_wp fun s => wp_run (env := [some (stp p), none, none, none]) rfl rfl (ws_asg (wp_lst (wp_nilA ?_)))
  refine wp_ok (show newL [] s = .ok (.loc s.length) (s ++ [.lst []]) from rfl) ?_
  have push : ∀ (l : Int) (q : Rat) (st0 : P), st0.length ≤ 300 → wp (exs F g (.cons (.ite (.cmp .ne (.var 3) (.glb "NIL")) (.cons (.app (.var 1) (.tup (.cons (.var 2) (.cons (.var 3) .nil)))) .nil) .nil) .nil) [some (stp p), some (.loc s.length), some (.int l), some (rv q)])
      (fun fl s' => ∃ e, fl = .nx e ∧ ∃ a b, e = [some (stp p), some (.loc s.length), a, b] ∧ s' = s ++ [.lst ((if q = 0 then st0 else (l, q) :: st0).reverse.map pc)]) (s ++ [.lst (st0.reverse.map pc)]) := fun l q st0 hl => by
    refine ws_if (wt_cmp (wp_var rfl (wp_is (a := .num 0 1) (by rw [ev, hn]) (wp_is (ne_nil q) ?_))))
    by_cases c : q = 0
    · rw [decide_eq_true c, if_pos c]
      simp only [Bool.not_true, Bool.false_eq_true, if_false]
      exact ws_nil (F := F) (gv := g) (ws_nil (F := F) (gv := g) ⟨_, rfl, _, _, rfl, rfl⟩)
    · rw [decide_eq_false c, if_neg c]
      simp only [Bool.not_false, if_true]
      refine ws_app (n := s.length) (xs := st0.reverse.map pc) (by rw [ev]; rfl) (by simp) ?_
      refine wp_tup (wp_consA (wp_var rfl (wp_consA (wp_var rfl (wp_nilA (wp_mkT (by simp) ⟨_, by simp; rfl, by simp; omega, ws_nil (ws_nil ⟨_, rfl, _, _, rfl, ?_⟩)⟩))))))
      simp [pc]
  refine ws_for (items := p.map pc) (fun i env s' => i ≤ p.length ∧ ∃ a b, env = [some (stp p), some (.loc s.length), a, b] ∧ s' = s ++ [.lst ((foldR [] (p.take i)).reverse.map pc)])
    (wp_is (a := .tup (p.map pc)) (by rw [evi, ev]; rfl) ⟨Nat.le_refl _, ⟨Nat.zero_le _, _, _, rfl, rfl⟩, fun i env s' _ => rfl⟩) ?_ ?_
  · rintro i x env s1 hx ⟨_, a, b, rfl, rfl⟩
    obtain ⟨y, hy, rfl⟩ : ∃ y, p[i]? = some y ∧ pc y = x := by
      rw [List.getElem?_map] at hx
      exact Option.map_eq_some_iff.mp hx
    have hi : i < p.length := (List.getElem?_eq_some_iff.mp hy).1
    refine ⟨[some (stp p), some (.loc s.length), some (.int y.1), some (rv y.2)], rfl, ?_⟩
    have sz := fold_sz big fit i
    have len := foldR_len (p.take i) []
    rw [List.length_take, List.length_nil] at len
    have szy : Sz 900 y.2 := fit.sz big.pos big.h1 big.h2 (List.mem_of_getElem? hy)
    rw [foldR_take hy]
    generalize foldR [] (p.take i) = st at sz len
    have done : ∀ (q : Rat) (st0 : P), st0.length ≤ 300 → rpush st y = (if q = 0 then st0 else (y.1, q) :: st0) → wp (exs F g (.cons (.ite (.cmp .ne (.var 3) (.glb "NIL")) (.cons (.app (.var 1) (.tup (.cons (.var 2) (.cons (.var 3) .nil)))) .nil) .nil) .nil) [some (stp p), some (.loc s.length), some (.int y.1), some (rv q)])
      (fun fl s' => ∃ e, fl = .nx e ∧ i + 1 ≤ p.length ∧ ∃ a b, e = [some (stp p), some (.loc s.length), a, b] ∧ s' = s ++ [.lst ((rpush st y).reverse.map pc)]) (s ++ [.lst (st0.reverse.map pc)]) := fun q st0 hl e => by
      refine wp_imp (push y.1 q st0 hl) fun fl s' ⟨e1, h1, a, b, h2, h3⟩ => ⟨e1, h1, hi, a, b, h2, ?_⟩
      rw [e]; exact h3
    cases st with
    | nil =>
      refine ws_if (wt_and (wp_ok (b := false) (s' := s ++ [.lst (([] : P).reverse.map pc)]) ?_ ?_))
      · rw [tst]
        show truth (.loc s.length) _ = _
        show ((lstOf s.length >>= fun xs => pure (!xs.isEmpty)) : M Bool) _ = _
        rw [bind_ok_of (lstOf_ok (xs := []) (by simp))]
        rfl
      · rw [if_neg (by simp)]
        refine wp_is (a := .nx _) (by rw [if_neg (by simp)]; exact exs_nil _) ?_
        exact done y.2 [] (by simp) (by rw [rpush_nil])
    | cons t st =>
      have lst : (s ++ [.lst ((t :: st).reverse.map pc)] : Sto)[s.length]? = some (.lst (st.reverse.map pc ++ [pc t])) := by simp
      have pop0 : ∀ {Q : Bool → Sto → Prop}, Q (decide (t.1 = y.1)) (s ++ [.lst ((t :: st).reverse.map pc)]) → wp (tst F g (.band (.var 1) (.cmp .eq (.idx (.idx (.var 1) (.neg (.int (1)))) (.int (0))) (.var 2))) [some (stp p), some (.loc s.length), some (.int y.1), some (rv y.2)]) Q (s ++ [.lst ((t :: st).reverse.map pc)]) := fun {Q} q => by
        refine wt_and (wp_ok (b := true) (s' := s ++ [.lst ((t :: st).reverse.map pc)]) ?_ ?_)
        · rw [tst]
          show ((lstOf s.length >>= fun xs => pure (!xs.isEmpty)) : M Bool) _ = _
          rw [bind_ok_of (lstOf_ok lst)]
          simp [pure_def]
        · rw [if_pos rfl]
          refine wt_cmp (wp_idx (wp_idx (wp_var rfl (wp_is (a := .int (-1)) (by rw [ev, ev]; rfl) (wp_ok (idx_loc lst (atI_last _ _)) (wp_is (by rw [ev]) (wp_is (pc0 _) (wp_var rfl (wp_is (eq_ii _ _) q)))))))))
      refine ws_if (pop0 ?_)
      by_cases c : t.1 = y.1
      · rw [decide_eq_true c, if_pos rfl]
        refine ws_asg (wp_call (wp_consA (wp_idx (wp_pop (n := s.length) (xs := st.reverse.map pc) (d := pc t) (by rw [ev]; rfl) lst (wp_is (a := .int 1) (by rw [ev]) (wp_is (pc1 _) ?_))))))
        refine wp_consA (wp_var rfl (wp_nilA (wp_is (fA t.2 y.2 900 900 (sz t (.head _)) szy (by decide)) (ws_nil ?_))))
        have e : ((s ++ [.lst ((t :: st).reverse.map pc)] : Sto).set s.length (.lst (st.reverse.map pc))) = s ++ [.lst (st.reverse.map pc)] := by simp
        rw [e]
        exact done (t.2 + y.2) st (by simp at len; omega) (by rw [rpush_cons, if_pos c])
      · rw [decide_eq_false c]
        refine wp_is (a := .nx _) (by rw [if_neg (by simp)]; exact exs_nil _) ?_
        exact done y.2 (t :: st) (by omega) (by rw [rpush_cons, if_neg c])
  · rintro env' s1 ⟨_, a, b, rfl, rfl⟩
    rw [List.length_map, List.take_length]
    refine ws_ret (wp_blt (wp_consA (wp_var rfl (wp_nilA (wp_ok (tuple_at (xs := (foldR [] p).reverse.map pc) (by simp) ?_) ⟨_, rfl, rfl, .push _ _⟩)))))
    have := foldR_len p []
    rw [List.length_map, List.length_reverse]
    simp at this
    omega
theorem any_at {n : Nat} {bs : List Bool} {s : Sto} (h : s[n]? = some (.lst (bs.map .bl))) : bltD .any1 [.loc n] s = .ok (.bl (bs.any id)) s := by
  show ((lstOf n >>= fun xs => match blsD xs with
    | some bs => pure (.bl (bs.any id))
    | none => fail) : M Dv) s = _
  have b : blsD (bs.map .bl) = some bs := by
    clear h
    induction bs with
    | nil => rfl
    | cons b r ih => rw [List.map_cons, blsD, ih]; rfl
  rw [bind_ok_of (lstOf_ok h), b]
  rfl
def HasTwoS (F : Fs) : Prop := ∀ p, Lt p → Gv (F i_step_has_two [stp p]) (.bl (p.any fun x => decide (x.1 = 2)))
theorem hastwo_s (p : P) (lt : Lt p) : Gv (runDef F gv d_step_has_two [stp p]) (.bl (p.any fun x => decide (x.1 = 2))) := by
  refine gv_run (env := [some (stp p), none, none]) rfl rfl (gv_ret fun s => ?_)
  obtain ⟨m, s1, e1, c1, g1⟩ := gv_comp (F := F) (gv := gv) (elt := .cmp .eq (.var 1) (.int (2))) (tg := .tp [1, 2]) (it := .seq (.var 0)) (own := [1, 2]) (env := [some (stp p), none, none]) (src := .tup (p.map pc)) (all := p) (g := pc) (f := fun x => .bl (decide (x.1 = 2)))
    (seq_tup (by rw [ev]; rfl)) (items_tup _) (by have := lt.1; omega) (fun x _ => ⟨[some (stp p), some (.int x.1), some (rv x.2)], rfl, gv_of (by simp [ev, pb, eq_ii])⟩) s
  refine ⟨s1, ?_, g1⟩
  have t := any_at (bs := p.map fun x => decide (x.1 = 2)) (n := m) (s := s1) (by rw [List.map_map]; exact c1)
  rw [ev, evs, evs]
  rw [bind_def, bind_def, e1]
  rw [List.any_map] at t
  exact t
theorem gv_evn {env : DEnv} : Gv (evs F g .nil env) [] := gv_of (by rw [evs])
theorem gv_evc {e : E} {es : Es} {env : DEnv} {d : Dv} {ds : List Dv} (h : Gv (ev F g e env) d) (k : Gv (evs F g es env) ds) : Gv (evs F g (.cons e es) env) (d :: ds) := by
  rw [evs]
  exact gv_bind h (gv_bind k (gv_pure _))
theorem gv_callG {i : Nat} {es : Es} {env : DEnv} {ds : List Dv} {v : Dv} (h : Gv (evs F g es env) ds) (k : Gv (F i ds) v) : Gv (ev F g (.call i es) env) v := by
  rw [ev]
  exact gv_bind h k
theorem gv_callkG {i a b : Nat} {perm : List Nat} {es ks : Es} {env : DEnv} {ds zs : List Dv} {v : Dv} (h : Gv (evs F g es env) ds) (h2 : Gv (evs F g ks env) zs) (k : Gv (F i (putK a b perm ds zs)) v) : Gv (ev F g (.callk i es ks a b perm) env) v := by
  rw [ev]
  exact gv_bind h (gv_bind h2 k)
theorem gv_var {i : Nat} {env : DEnv} {d : Dv} (h : env[i]? = some (some d)) : Gv (ev F g (.var i) env) d := gv_of (by rw [ev, h])
theorem gv_call1 {i : Nat} {e : E} {env : DEnv} {d v : Dv} (h : Gv (ev F g e env) d) (k : Gv (F i [d]) v) : Gv (ev F g (.call i (.cons e .nil)) env) v := gv_callG (gv_evc h gv_evn) k
theorem gv_call2 {i : Nat} {e e2 : E} {env : DEnv} {d d2 v : Dv} (h : Gv (ev F g e env) d) (h2 : Gv (ev F g e2 env) d2) (k : Gv (F i [d, d2]) v) : Gv (ev F g (.call i (.cons e (.cons e2 .nil))) env) v := gv_callG (gv_evc h (gv_evc h2 gv_evn)) k
theorem take_stp {p : P} {k : Nat} (h : Lt p) : slD (stp p) none (some ((k : Nat) : Int)) = pure (stp (p.take k)) := by
  unfold stp
  rw [List.map_take]
  exact take_tup k h.le
theorem drop_stp {p : P} {k : Nat} (h : Lt p) : slD (stp p) (some ((k : Nat) : Int)) none = pure (stp (p.drop k)) := by
  unfold stp
  rw [List.map_drop]
  exact drop_tup k h.le
theorem add_stp {p q : P} (h : p.length + q.length ≤ 1000000) : opB .add (stp p) (stp q) = pure (stp (p ++ q)) := by
  unfold stp
  rw [List.map_append]
  exact add_tup (by rw [List.length_map, List.length_map]; exact h)
theorem Lt.take {p : P} (h : Lt p) (k : Nat) : Lt (p.take k) := ⟨by have := h.1; rw [List.length_take]; omega, fun x hx => h.2 x (List.mem_of_mem_take hx)⟩
theorem Lt.drop {p : P} (h : Lt p) (k : Nat) : Lt (p.drop k) := ⟨by have := h.1; rw [List.length_drop]; omega, fun x hx => h.2 x (List.mem_of_mem_drop hx)⟩
theorem Lt.app {p q : P} (h : Lt p) (k : Lt q) (z : p.length + q.length ≤ 300) : Lt (p ++ q) := ⟨by rw [List.length_append]; exact z, fun x hx => (List.mem_append.mp hx).elim (h.2 x) (k.2 x)⟩
theorem Lt.one {x : Pc} (h1 : 0 ≤ x.1) (h2 : x.1 ≤ 2) : Lt [x] := ⟨by simp, fun y hy => by rcases List.mem_singleton.mp hy with rfl; exact ⟨h1, h2⟩⟩
theorem neg_rv (q : Rat) : rv (-q) = .num (-q.num) q.den := by unfold rv; rw [Rat.neg_num, Rat.neg_den]
theorem rev_stp {p : P} (lt : Lt p) : revD (stp p) = pure (stp p.reverse) := by
  unfold stp
  rw [List.map_reverse]
  exact rev_tup lt.le
theorem lt_r1 {p q : P} (r : R1 p q) (h : Lt p) : Lt q := by
  have h1 := h.1
  cases r with
  | zero u l v =>
    refine ⟨by simp at h1 ⊢; omega, fun x hx => h.2 x ?_⟩
    rcases List.mem_append.mp hx with hx | hx
    · exact List.mem_append_left _ hx
    · exact List.mem_append_right _ (.tail _ hx)
  | merge u l a b v =>
    refine ⟨by simp at h1 ⊢; omega, fun x hx => ?_⟩
    rcases List.mem_append.mp hx with hx | hx
    · exact h.2 x (List.mem_append_left _ hx)
    · rcases List.mem_cons.mp hx with rfl | hx
      · exact h.2 (l, a) (by simp)
      · exact h.2 x (List.mem_append_right _ (.tail _ (.tail _ hx)))
theorem lt_rs {p q : P} (r : Rs p q) (h : Lt p) : Lt q := by
  induction r with
  | refl => exact h
  | step a _ ih => exact ih (lt_r1 a h)
theorem Lt.rev {p : P} (h : Lt p) : Lt p.reverse := ⟨by rw [List.length_reverse]; exact h.1, fun x hx => h.2 x (List.mem_reverse.mp hx)⟩
theorem Lt.times {p : P} (h : Lt p) (q : Rat) : Lt (times p q) := ⟨by unfold Ms.times; rw [List.length_map]; exact h.1, fun x hx => by
  obtain ⟨y, hy, rfl⟩ := List.mem_map.mp hx
  exact h.2 y hy⟩
theorem Lt.undo {p : P} (h : Lt p) : Lt (undo p) := by rw [undo_eq]; exact h.rev.times _
theorem undo_len (p : P) : (undo p).length = p.length := by unfold undo; rw [List.length_map, List.length_reverse]
theorem times_len (p : P) (q : Rat) : (times p q).length = p.length := by unfold times; rw [List.length_map]
theorem stp_idx {p : P} {i : Nat} {x : Pc} (h : p[i]? = some x) : idxD (stp p) (.int (i : Nat)) = pure (pc x) := idx_tup (by rw [List.getElem?_map, h]; rfl)
theorem len_stp (p : P) : bltD .len [stp p] = pure (.int (p.length : Nat)) := by
  unfold stp
  rw [len_tup, List.length_map]
theorem wk_rngW {a : E} {env : DEnv} {s : Sto} {Q : Src → Sto → Prop} (h : wp (ev F g a env) (fun d s1 => ∃ n : Nat, d = .int n ∧ n ≤ 1000000 ∧ Q (.rng 0 n) s1) s) : wp (evi F g (.rng1 a) env) Q s := by
  rw [evi]
  refine wp_bind.mpr (wp_imp h fun d s1 ⟨n, e, z, q⟩ => ?_)
  subst e
  show wp (if -(2 ^ 62) ≤ (n : Int) ∧ (n : Int) < 2 ^ 62 then pure (Src.rng 0 (n : Int).toNat) else (fail : M Src)) _ _
  rw [if_pos (by omega), Int.toNat_natCast]
  exact wp_pure.mpr q
theorem ws_par3 {i j k : Nat} {a b c : E} {r : Ss} {env : DEnv} {s : Sto} {Q : Fl → Sto → Prop} (h : wp (ev F g a env) (fun x s1 => wp (ev F g b env) (fun y s2 => wp (ev F g c env) (fun z s3 => wp (exs F g r (((env.set i (some x)).set j (some y)).set k (some z))) Q s3) s2) s1) s) : wp (exs F g (.cons (.par3 i j k a b c) r) env) Q s := by
  rw [exs_cons, ex, bind_assoc_M]
  refine wp_bind.mpr (wp_imp h fun d s1 h => ?_)
  rw [bind_assoc_M]
  refine wp_bind.mpr (wp_imp h fun d s1 h => ?_)
  rw [bind_assoc_M]
  exact wp_bind.mpr (wp_imp h fun d s1 h => h)
end
end K52
end
section
set_option Elab.async false
set_option linter.all false
set_option maxRecDepth 100000
namespace K52
open PySem PySem.Spec PyProof.Rows L2 Dd Sh Ms Mw
/-- a small fraction -/
structure Sm (q : Rat) : Prop where
  n5 : q.num.natAbs ≤ 5
  d4 : q.den ≤ 4
  ne : q ≠ 0
theorem den12 {d : Nat} (p : 0 < d) (h : d ≤ 4) : d ∣ 12 := by
  have : d = 1 ∨ d = 2 ∨ d = 3 ∨ d = 4 := by omega
  rcases this with rfl | rfl | rfl | rfl <;> decide
theorem den60 {d : Nat} (p : 0 < d) (h : d ≤ 5) : d ∣ 60 := by
  have : d = 1 ∨ d = 2 ∨ d = 3 ∨ d = 4 ∨ d = 5 := by omega
  rcases this with rfl | rfl | rfl | rfl | rfl <;> decide
theorem Sm.bd {q : Rat} (h : Sm q) : Bd 12 5 q := (bd_self (q := q) (M := 5) (Nat.le_trans h.n5 (Nat.le_mul_of_pos_right _ q.den_pos))).up (den12 q.den_pos h.d4) (Nat.le_refl _)
theorem sm_mk {a : Int} {b : Nat} (a0 : a ≠ 0) (a5 : a.natAbs ≤ 5) (b0 : 0 < b) (b4 : b ≤ 4) : Sm (mkRat a b) := by
  have nz : b ≠ 0 := by omega
  refine ⟨?_, ?_, fun e => a0 ((Rat.mkRat_eq_zero nz).mp e)⟩
  · rw [Rat.num_mkRat, if_neg nz]
    have dv : ((b.gcd a.natAbs : Nat) : Int) ∣ a := Int.natAbs_dvd_natAbs.mp (show b.gcd a.natAbs ∣ a.natAbs from Nat.gcd_dvd_right _ _)
    rw [Int.natAbs_ediv_of_dvd dv]
    exact Nat.le_trans (Nat.div_le_self _ _) a5
  · rw [Rat.den_mkRat, if_neg nz]
    exact Nat.le_trans (Nat.div_le_self _ _) b4
/-- one over a fraction, as it is told -/
theorem inv_rv {q : Rat} (h : 0 < q.num) (n5 : q.num.natAbs ≤ 5) (d4 : q.den ≤ 4) : ∃ r : Rat, rv r = .num q.den q.num ∧ r * q = 1 ∧ Bd 60 4 r := by
  have nz : q.num.toNat ≠ 0 := by omega
  have gc : Nat.gcd q.num.toNat ((q.den : Int)).natAbs = 1 := by
    have := q.reduced
    rw [Int.natAbs_natCast]
    have e : q.num.natAbs = q.num.toNat := by omega
    rw [e] at this
    exact this
  have n1 : (mkRat q.den q.num.toNat).num = q.den := by
    rw [Rat.num_mkRat, if_neg nz, gc]
    simp
  have n2 : (mkRat q.den q.num.toNat).den = q.num.toNat := by
    rw [Rat.den_mkRat, if_neg nz, gc]
    simp
  refine ⟨mkRat q.den q.num.toNat, ?_, ?_, ?_⟩
  · unfold rv
    rw [n1, n2]
    congr 1
    omega
  · have e1 := div_num q
    have e2 := div_num (mkRat (q.den : Int) q.num.toNat)
    rw [n1, n2] at e2
    have c1 : ((q.num.toNat : Nat) : Rat) = (q.num : Rat) := by
      have : ((q.num.toNat : Nat) : Int) = q.num := by omega
      have := congrArg (fun i : Int => (i : Rat)) this
      exact this
    have c2 : ((q.den : Int) : Rat) = (q.den : Rat) := rfl
    rw [c1, c2] at e2
    have ne := nat_ne q.den_pos
    have e3 : mkRat (q.den : Int) q.num.toNat * q * (q.den : Rat) = 1 * (q.den : Rat) := by
      rw [Rat.mul_assoc, e1, e2, Rat.one_mul]
    grind
  · refine (bd_self (q := mkRat q.den q.num.toNat) (M := 4) ?_).up ?_ (Nat.le_refl _)
    · rw [n1, n2, Int.natAbs_natCast]
      have : 1 ≤ q.num.toNat := by omega
      exact Nat.le_trans d4 (Nat.le_mul_of_pos_right _ this)
    · rw [n2]
      exact den60 (by omega) (by omega)
def ShareU (F : Fs) : Prop := ∀ (n B : Nat) (s : Sto), Spr n (B + 3) s → wp (F i_law_share [.loc n]) (fun d s' => ∃ q, d = rv q ∧ Sm q ∧ Spr n B s' ∧ Kp n s s') s
def TimeU (F : Fs) : Prop := ∀ (n B : Nat) (s : Sto), Spr n (B + 2) s → wp (F i_law_time [.loc n]) (fun d s' => ∃ q, d = rv q ∧ Sm q ∧ 0 < q.num ∧ Spr n B s' ∧ Kp n s s') s
def PickLS (F : Fs) : Prop := ∀ (n B m : Nat) (xs : List Dv) (s : Sto), Spr n (B + 1) s → s[m]? = some (.lst xs) → m ≠ n → xs ≠ [] → xs.length < 1073741824 → wp (F i_law_pick [.loc n, .loc m]) (fun v s' => v ∈ xs ∧ Spr n B s' ∧ Kp n s s') s
section
variable {F : Fs} {g : Str → Option Dv}
theorem pickl_s (f : DrawS F i_law_dip) (n B m : Nat) (xs : List Dv) (s : Sto) (sp : Spr n (B + 1) s) (hm : s[m]? = some (.lst xs)) (mn : m ≠ n) (hx : xs ≠ []) (hl : xs.length < 1073741824) : wp (runDef F g d_law_pick [.loc n, .loc m]) (fun v s' => v ∈ xs ∧ Spr n B s' ∧ Kp n s s') s := by
  have pos : 0 < xs.length := List.length_pos_iff.mpr hx
  refine wp_run (env := [some (.loc n), some (.loc m)]) rfl rfl (ws_ret (wp_idx (wp_var rfl (wp_call (wp_consA (wp_var rfl (wp_consA (wp_blt (wp_consA (wp_var rfl (wp_nilA ?_)))))))))))
  have ln : bltD .len [.loc m] s = .ok (.int (xs.length : Nat)) s := by
    show ((lstOf m >>= fun xs => pure (Dv.int xs.length)) : M Dv) s = _
    rw [bind_ok_of (lstOf_ok hm)]; rfl
  refine wp_ok ln (wp_nilA (wp_draw f sp (by omega) (by omega) fun v s' v0 v1 sp' kp => ?_))
  have hv : v.toNat < xs.length := by omega
  have e : atI xs v = some xs[v.toNat] := by
    have := atI_nat (j := v.toNat) (List.getElem?_eq_getElem hv)
    rwa [show ((v.toNat : Nat) : Int) = v by omega] at this
  exact wp_ok (idx_loc (kp m _ mn hm) e) ⟨_, rfl, List.getElem_mem hv, sp', kp⟩
theorem small9 {d : Int} (h : d.natAbs ≤ 1000) : d.natAbs < 2 ^ 9000 := Nat.lt_of_lt_of_le (show d.natAbs < 2 ^ 10 by omega) (Nat.pow_le_pow_right (by decide) (Nat.le_of_ble_eq_true rfl))
theorem share_s (fD : DrawS F i_law_dip) (fL : FracS F i_law_low) (n B : Nat) (s : Sto) (sp : Spr n (B + 3) s) : wp (runDef F g d_law_share [.loc n]) (fun d s' => ∃ q, d = rv q ∧ Sm q ∧ Spr n B s' ∧ Kp n s s') s := by
  refine wp_run (env := [some (.loc n), none, none]) rfl rfl ?_
  have sg : wp (ev F g (.ite (.cmp .eq (.call i_law_dip (.cons (.var 0) (.cons (.int (3)) .nil))) (.int (0))) (.neg (.int (1))) (.int (1))) [some (.loc n), none, none]) (fun d s' => ∃ a : Int, d = .int a ∧ (a = -1 ∨ a = 1) ∧ Spr n (B + 2) s' ∧ Kp n s s') s := by
    refine wp_ite (wt_cmp (wp_call (wp_consA (wp_var rfl (wp_consA (wp_is (a := .int 3) (by rw [ev]) (wp_nilA ?_)))))))
    refine wp_draw (B := B + 2) fD sp (by decide) (by decide) fun v s1 _ _ sp1 kp1 => wp_is (a := .int 0) (by rw [ev]) (wp_is (eq_ii _ _) ?_)
    split
    · exact wp_is (a := .int (-1)) (by rw [ev, ev]; rfl) ⟨_, rfl, .inl rfl, sp1, kp1⟩
    · exact wp_is (a := .int 1) (by rw [ev]) ⟨_, rfl, .inr rfl, sp1, kp1⟩
  refine ws_asg (wp_imp sg fun d s1 ⟨a, e, ha, sp1, kp1⟩ => ?_)
  subst e
  refine ws_asg (wp_bin (wp_is (a := .int 1) (by rw [ev]) (wp_call (wp_consA (wp_var rfl (wp_consA (wp_is (a := .int 4) (by rw [ev]) (wp_nilA ?_))))))))
  refine wp_draw (B := B + 1) fD sp1 (by decide) (by decide) fun v s2 v0 v1 sp2 kp2 => wp_is (add_ii _ _) ?_
  have m1 : mulOk a (1 + v) = true := mul_small (k := 32) (l := 32) (by omega) (by omega) (by decide)
  refine ws_ret (wp_call (wp_consA (wp_bin (wp_var rfl (wp_var rfl (wp_is (mul_ii m1) ?_))))))
  refine wp_consA (wp_bin (wp_is (a := .int 1) (by rw [ev]) (wp_call (wp_consA (wp_var rfl (wp_consA (wp_is (a := .int 4) (by rw [ev]) (wp_nilA ?_))))))))
  refine wp_draw (B := B) fD sp2 (by decide) (by decide) fun u s3 u0 u1 sp3 kp3 => wp_is (add_ii _ _) (wp_nilA ?_)
  refine wp_is (fL _ _ (by omega) (small9 (by omega))) ⟨_, rfl, _, rfl, ?_, sp3, (kp1.trans kp2).trans kp3⟩
  refine sm_mk ?_ ?_ (by omega) (by omega)
  · rcases ha with rfl | rfl <;> omega
  · rcases ha with rfl | rfl <;> omega
theorem time_s (fD : DrawS F i_law_dip) (fL : FracS F i_law_low) (n B : Nat) (s : Sto) (sp : Spr n (B + 2) s) : wp (runDef F g d_law_time [.loc n]) (fun d s' => ∃ q, d = rv q ∧ Sm q ∧ 0 < q.num ∧ Spr n B s' ∧ Kp n s s') s := by
  refine wp_run (env := [some (.loc n), none]) rfl rfl ?_
  refine ws_asg (wp_bin (wp_is (a := .int 1) (by rw [ev]) (wp_call (wp_consA (wp_var rfl (wp_consA (wp_is (a := .int 5) (by rw [ev]) (wp_nilA ?_))))))))
  refine wp_draw (B := B + 1) fD sp (by decide) (by decide) fun v s2 v0 v1 sp2 kp2 => wp_is (add_ii _ _) ?_
  refine ws_ret (wp_call (wp_consA (wp_var rfl ?_)))
  refine wp_consA (wp_bin (wp_is (a := .int 1) (by rw [ev]) (wp_call (wp_consA (wp_var rfl (wp_consA (wp_is (a := .int 4) (by rw [ev]) (wp_nilA ?_))))))))
  refine wp_draw (B := B) fD sp2 (by decide) (by decide) fun u s3 u0 u1 sp3 kp3 => wp_is (add_ii _ _) (wp_nilA ?_)
  refine wp_is (fL _ _ (by omega) (small9 (by omega))) ⟨_, rfl, _, rfl, sm_mk (by omega) (by omega) (by omega) (by omega), ?_, sp3, kp2.trans kp3⟩
  have nz : (1 + u).toNat ≠ 0 := by omega
  rw [Rat.num_mkRat, if_neg nz]
  have gp : 0 < (1 + u).toNat.gcd (1 + v).natAbs := Nat.gcd_pos_of_pos_left _ (by omega)
  have gd : ((((1 + u).toNat.gcd (1 + v).natAbs : Nat)) : Int) ∣ 1 + v := Int.natAbs_dvd_natAbs.mp (show (1 + u).toNat.gcd (1 + v).natAbs ∣ (1 + v).natAbs from Nat.gcd_dvd_right _ _)
  exact Int.ediv_pos_of_pos_of_dvd (by omega) (by omega) gd
end
/-- a step over the letters 0 and 1 -/
structure Sw (D N L : Nat) (p : Ms.P) : Prop where
  lt : Lt p
  l1 : ∀ x ∈ p, x.1 ≤ 1
  bd : ∀ x ∈ p, Bd D N x.2
  len : p.length ≤ L
theorem Sw.app {D N L L' : Nat} {p q : Ms.P} (h : Sw D N L p) (k : Sw D N L' q) (z : L + L' ≤ 300) : Sw D N (L + L') (p ++ q) := ⟨h.lt.app k.lt (by have := h.len; have := k.len; omega), fun x hx => (List.mem_append.mp hx).elim (h.l1 x) (k.l1 x), fun x hx => (List.mem_append.mp hx).elim (h.bd x) (k.bd x), by rw [List.length_append]; have := h.len; have := k.len; omega⟩
theorem Sw.up {D N L D' N' L' : Nat} {p : Ms.P} (h : Sw D N L p) (d : D ∣ D') (n : N ≤ N') (l : L ≤ L') : Sw D' N' L' p := ⟨h.lt, h.l1, fun x hx => (h.bd x hx).up d n, Nat.le_trans h.len l⟩
theorem Sw.nil (D N L : Nat) : Sw D N L [] := ⟨⟨by simp, fun _ h => nomatch h⟩, fun _ h => (nomatch h), fun _ h => (nomatch h), Nat.zero_le _⟩
theorem Sw.one {D N : Nat} {l : Int} {c : Rat} (h0 : 0 ≤ l) (h1 : l ≤ 1) (b : Bd D N c) : Sw D N 1 [(l, c)] := ⟨Lt.one h0 (by show l ≤ 2; omega), fun x hx => by rcases List.mem_singleton.mp hx with rfl; exact h1, fun x hx => by rcases List.mem_singleton.mp hx with rfl; exact b, Nat.le_refl _⟩
theorem Sw.rev {D N L : Nat} {p : Ms.P} (h : Sw D N L p) : Sw D N L p.reverse := ⟨h.lt.rev, fun x hx => h.l1 x (List.mem_reverse.mp hx), fun x hx => h.bd x (List.mem_reverse.mp hx), by rw [List.length_reverse]; exact h.len⟩
theorem Sw.times {D N L E M : Nat} {p : Ms.P} {c : Rat} (h : Sw D N L p) (b : Bd E M c) : Sw (D * E) (N * M) L (times p c) := ⟨h.lt.times c, fun x hx => by
  obtain ⟨y, hy, rfl⟩ := List.mem_map.mp hx
  exact h.l1 y hy, fun x hx => by
  obtain ⟨y, hy, rfl⟩ := List.mem_map.mp hx
  exact (h.bd y hy).mul b, by rw [times_len]; exact h.len⟩
theorem bd_negU {D N : Nat} {q : Rat} (h : Bd D N q) : Bd D N (-q) := by
  obtain ⟨n, e⟩ := h.whole
  have := h.lo
  have := h.hi
  exact ⟨⟨-n, by rw [Rat.neg_mul, e]; exact (Rat.intCast_neg n).symm⟩, by grind, by grind⟩
theorem Sw.undo {D N L : Nat} {p : Ms.P} (h : Sw D N L p) : Sw D N L (undo p) := ⟨h.lt.undo, fun x hx => by
  unfold Ms.undo at hx
  obtain ⟨y, hy, rfl⟩ := List.mem_map.mp hx
  exact h.l1 y (List.mem_reverse.mp hy), fun x hx => by
  unfold Ms.undo at hx
  obtain ⟨y, hy, rfl⟩ := List.mem_map.mp hx
  exact bd_negU (h.bd y (List.mem_reverse.mp hy)), by rw [undo_len]; exact h.len⟩
theorem Sw.take {D N L : Nat} {p : Ms.P} (h : Sw D N L p) (k : Nat) : Sw D N L (p.take k) := ⟨h.lt.take k, fun x hx => h.l1 x (List.mem_of_mem_take hx), fun x hx => h.bd x (List.mem_of_mem_take hx), by rw [List.length_take]; have := h.len; omega⟩
theorem nm_le {D N : Nat} : ∀ {p : Ms.P}, (∀ x ∈ p, Bd D N x.2) → nm p ≤ ((p.length * N : Nat) : Rat)
  | [], _ => by show (0 : Rat) ≤ ((0 * N : Nat) : Rat); rw [Nat.zero_mul]; exact Rat.le_refl
  | x :: p, h => by
    have a := nm_le (p := p) fun y hy => h y (.tail _ hy)
    have b := ab_le (h x (.head _)).lo (h x (.head _)).hi
    rw [List.length_cons, Nat.succ_mul, Rat.natCast_add]
    show ab x.2 + nm p ≤ _
    grind
theorem Sw.fit {D N L : Nat} {p : Ms.P} (h : Sw D N L p) : Fit D (L * N) p := ⟨fun x hx => (h.bd x hx).whole, by
  have a := nm_le h.bd
  have b := cast_le (Nat.mul_le_mul_right N h.len)
  grind⟩
end K52
end
section
set_option Elab.async false
set_option linter.all false
set_option maxRecDepth 100000
namespace K52
open PySem PySem.Spec PyProof.Rows L2 Dd Sh Ms Mw
def PiecesU (F : Fs) : Prop := ∀ (n B most : Nat) (s : Sto), Spr n (B + 1 + 4 * most) s → most ≤ 5 → wp (F i_law_pieces [.loc n, .int 2, .int (most : Nat)]) (fun d s' => ∃ p, d = stp p ∧ Sw 12 5 most p ∧ Spr n B s' ∧ Kp n s s') s
def left (l : Int) (p : Ms.P) : Rat := p.foldl (fun c x => if x.1 = l then c + -x.2 else c) 1
def rest1 (l : Int) (p : Ms.P) : Ms.P := if left l p = 0 then [] else [(l, left l p)]
def rest (p : Ms.P) : Ms.P := ([] ++ rest1 0 p) ++ rest1 1 p
def RestU (F : Fs) : Prop := ∀ p : Ms.P, Sw 12 5 5 p → Gv (F i_law_rest [.int 2, stp p]) (stp (rest p))
def TimedU (F : Fs) : Prop := ∀ (p : Ms.P) (c : Rat), Lt p → (∀ x ∈ p, Sz 900 x.2) → Sz 900 c → Gv (F i_law_timed [stp p, rv c]) (stp (times p c))
def UndoU (F : Fs) : Prop := ∀ p : Ms.P, Lt p → Gv (F i_law_undone [stp p]) (stp (undo p))
def EvenU (F : Fs) : Prop := ∀ (n B : Nat) (s : Sto), Spr n (B + 5) s → wp (F i_law_even [.loc n, .int 2, .int 1]) (fun d s' => ∃ p, d = stp p ∧ Sw 24 26 6 p ∧ Spr n B s' ∧ Kp n s s') s
section
variable {F : Fs} {g : Str → Option Dv}
theorem pieces_s (fD : DrawS F i_law_dip) (fS : ShareU F) (n B most : Nat) (s : Sto) (sp : Spr n (B + 1 + 4 * most) s) (hm : most ≤ 5) : wp (runDef F g d_law_pieces [.loc n, .int 2, .int (most : Nat)]) (fun d s' => ∃ p, d = stp p ∧ Sw 12 5 most p ∧ Spr n B s' ∧ Kp n s s') s := by
  have ns : n < s.length := by
    obtain ⟨_, _, _, e, _⟩ := sp
    exact (List.getElem?_eq_some_iff.mp e).1
  refine wp_run (env := [some (.loc n), some (.int 2), some (.int (most : Nat)), none, none, none]) rfl rfl ?_
  refine ws_asg (wp_lst (wp_nilA ?_))
  refine wp_ok (show newL [] s = .ok (.loc s.length) (s ++ [.lst []]) from rfl) ?_
  have g1 : Gr s (s ++ [.lst []]) := .push _ _
  refine ws_forW (wk_rngW (wp_call (wp_consA (wp_var rfl (wp_consA (wp_bin (wp_var rfl (wp_is (a := .int 1) (by rw [ev]) (wp_is (add_ii _ _) (wp_nilA ?_))))))))))
  refine wp_draw (B := B + 4 * most) fD (by rw [show B + 4 * most + 1 = B + 1 + 4 * most by omega]; exact spr_gr sp g1) (by omega) (by omega) fun v s1 v0 v1 sp1 kp1 => ?_
  obtain ⟨k, rfl⟩ : ∃ k : Nat, v = k := ⟨v.toNat, by omega⟩
  have hk : k ≤ most := by omega
  have lst1 : s1[s.length]? = some (.lst []) := kp1 _ _ (by omega) (by simp)
  refine ⟨k, rfl, by omega, fun i env s' => i ≤ k ∧ ∃ p a b, env = [some (.loc n), some (.int 2), some (.int (most : Nat)), some (.loc s.length), a, b] ∧ p.length = i ∧ Sw 12 5 most p ∧ s'[s.length]? = some (.lst (p.map pc)) ∧ Spr n (B + 4 * (most - i)) s' ∧ Kp n s s', (List.range k).map fun (i : Nat) => .int (0 + (i : Int)), (items_rng 0 k).2 _,
    ⟨Nat.zero_le _, [], none, none, rfl, rfl, Sw.nil _ _ _, lst1, sp1, (Kp.gr g1).trans kp1⟩, fun i env s' _ => (items_rng 0 k).1 i s', ?_, ?_⟩
  · rintro i x env s2 hx ⟨_, p, a, b, rfl, pl, sw, c2, sp2, kp2⟩
    have hi : i < k := by
      have := (List.getElem?_eq_some_iff.mp hx).1
      simpa using this
    refine ⟨[some (.loc n), some (.int 2), some (.int (most : Nat)), some (.loc s.length), some x, b], rfl, ?_⟩
    refine ws_asg (wp_call (wp_consA (wp_var rfl (wp_consA (wp_var rfl (wp_nilA ?_))))))
    refine wp_draw (B := B + 4 * (most - (i + 1)) + 3) fD (by rw [show B + 4 * (most - (i + 1)) + 3 + 1 = B + 4 * (most - i) by omega]; exact sp2) (by decide) (by decide) fun l s3 l0 l1 sp3 kp3 => ?_
    have c3 := kp3 _ _ (show s.length ≠ n by omega) c2
    refine ws_app (n := s.length) (xs := p.map pc) (by rw [ev]; rfl) c3 ?_
    refine wp_tup (wp_consA (wp_var rfl (wp_consA (wp_call (wp_consA (wp_var rfl (wp_nilA (wp_imp (fS n (B + 4 * (most - (i + 1))) s3 sp3) fun d s4 ⟨q, e, sm, sp4, kp4⟩ => ?_))))))))
    subst e
    have c4 := kp4 _ _ (show s.length ≠ n by omega) c3
    have ml := sw.len
    refine wp_nilA (wp_mkT (by simp) ⟨p.map pc, c4, by rw [List.length_map]; omega, ?_⟩)
    have len4 := (List.getElem?_eq_some_iff.mp c4).1
    refine ws_nil ⟨_, rfl, hi, p ++ [(l, q)], _, _, rfl, by rw [List.length_append, pl]; rfl, ?_, ?_, ?_, ?_⟩
    · have := sw.app (Sw.one l0 (by omega) sm.bd) (by omega)
      exact ⟨this.lt, this.l1, this.bd, by rw [List.length_append, pl, List.length_singleton]; omega⟩
    · rw [List.getElem?_set_self len4, List.map_append]
      rfl
    · obtain ⟨a1, a2, a3, e, r⟩ := sp4
      exact ⟨a1, a2, a3, by rw [List.getElem?_set_ne (by omega)]; exact e, r⟩
    · intro m c hm' hc
      have hml := (List.getElem?_eq_some_iff.mp hc).1
      rw [List.getElem?_set_ne (by omega)]
      exact ((kp2.trans kp3).trans kp4) m c hm' hc
  · rintro env s2 ⟨_, p, a, b, rfl, pl, sw, c2, sp2, kp2⟩
    refine ws_ret (wp_blt (wp_consA (wp_var rfl (wp_nilA (wp_ok (tuple_at c2 (by rw [List.length_map]; have := sw.len; omega)) ⟨_, rfl, p, rfl, sw, sp2.mono (by omega), kp2⟩)))))
theorem timed_s (f : TimesS F i_law_times) (p : Ms.P) (c : Rat) (lt : Lt p) (sz : ∀ x ∈ p, Sz 900 x.2) (sc : Sz 900 c) : Gv (runDef F g d_law_timed [stp p, rv c]) (stp (times p c)) := by
  have e : stp (times p c) = .tup (p.map fun x => pc (x.1, x.2 * c)) := by unfold stp times; rw [List.map_map]; rfl
  rw [e]
  refine gv_run rfl rfl (gv_ret (gv_tuple (src := .tup (p.map pc)) (g := pc) (seq_tup (by rw [ev]; rfl)) (items_tup _) (by have := lt.1; omega) fun x hx => ⟨[some (stp p), some (rv c), some (pc x)], rfl, gv_of ?_⟩))
  simp [ev, evs, pb, pc0, pc1, f x.2 c 900 900 (sz x hx) sc (by decide)]
  rfl
theorem undone_s (p : Ms.P) (h : Lt p) : Gv (runDef F g d_law_undone [stp p]) (stp (undo p)) := by
  have e : stp (undo p) = .tup (p.reverse.map fun x => pc (x.1, -x.2)) := by unfold stp undo; rw [List.map_map]; rfl
  rw [e]
  refine gv_run rfl rfl (gv_ret (gv_tuple (src := .tup (p.reverse.map pc)) (g := pc) (seq_tup (by rw [ev, ev]; exact rev_stp h)) (items_tup _) (by rw [List.length_reverse]; have := h.1; omega) fun x hx => ⟨[some (stp p), some (pc x)], rfl, gv_of ?_⟩))
  simp [ev, evs, pb, pc0, pc1, rv, ix_num0, ix_num1, sub_ii]
  simp [pc, neg_rv]
  rfl
/-! what is left to the sum 1 of each letter -/
theorem left_bd {D N : Nat} (l : Int) : ∀ (p : Ms.P) (c : Rat) (k : Nat), (∀ x ∈ p, Bd D N x.2) → Bd D (1 + k * N) c → Bd D (1 + (k + p.length) * N) (p.foldl (fun c x => if x.1 = l then c + -x.2 else c) c)
  | [], c, k, _, h => h
  | x :: p, c, k, hp, h => by
    have := left_bd l p (if x.1 = l then c + -x.2 else c) (k + 1) (fun y hy => hp y (.tail _ hy)) (by
      split
      · have := h.add (bd_negU (hp x (.head _)))
        rw [Nat.succ_mul, ← Nat.add_assoc]
        exact this
      · exact h.up (Nat.dvd_refl _) (by rw [Nat.succ_mul]; omega))
    rw [List.length_cons, show k + (p.length + 1) = k + 1 + p.length by omega]
    exact this
theorem one_bdU (D : Nat) : Bd D 1 (1 : Rat) := ⟨⟨D, by rw [Rat.one_mul]; rfl⟩, by decide, by decide⟩
theorem left_bd' {L : Nat} {p : Ms.P} (l : Int) (h : Sw 12 5 L p) (hL : L ≤ 5) (i : Nat) : Bd 12 26 (left l (p.take i)) := by
  have := left_bd (D := 12) (N := 5) l (p.take i) 1 0 (fun x hx => h.bd x (List.mem_of_mem_take hx)) (by rw [Nat.zero_mul]; exact one_bdU 12)
  refine this.up (Nat.dvd_refl _) ?_
  have h1 := h.len
  rw [List.length_take]
  omega
theorem left_take {p : Ms.P} {i : Nat} {y : Pc} (l : Int) (h : p[i]? = some y) : left l (p.take (i + 1)) = if y.1 = l then left l (p.take i) + -y.2 else left l (p.take i) := by
  unfold left
  rw [List.take_add_one, h, List.foldl_append]
  rfl
end
def rests (p : Ms.P) : Nat → Ms.P
  | 0 => []
  | k + 1 => rests p k ++ rest1 (k : Int) p
theorem rests_two (p : Ms.P) : rests p 2 = rest p := by
  show ([] ++ rest1 ((0 : Nat) : Int) p) ++ rest1 ((1 : Nat) : Int) p = rest p
  rfl
end K52
end
section
set_option Elab.async false
set_option linter.all false
set_option maxRecDepth 100000
namespace K52
open PySem PySem.Spec PyProof.Rows L2 Dd Sh Ms Mw
theorem gr_set {s s' : Sto} (h : Gr s s') {m : Nat} (l : s.length ≤ m) (c : Ce) : Gr s (s'.set m c) := by
  obtain ⟨t, rfl⟩ := h
  exact ⟨t.set (m - s.length) c, by rw [List.set_append_right _ _ l]⟩
theorem rv0 (q : Rat) : idxD (rv q) (.int 0) = pure (.int q.num) := rfl
theorem rv1 (q : Rat) : idxD (rv q) (.int 1) = pure (.int q.den) := rfl
theorem bd26 {q : Rat} (h : Bd 12 26 q) : Sz 900 q := h.sz (by decide) (by decide +kernel) (by decide +kernel)
theorem bd5 {q : Rat} (h : Bd 12 5 q) : Sz 900 q := h.sz (by decide) (by decide +kernel) (by decide +kernel)
theorem rest_sw {p : Ms.P} (h : Sw 12 5 5 p) : Sw 12 26 2 (rest p) := by
  have r1 : ∀ l : Int, 0 ≤ l → l ≤ 1 → Sw 12 26 1 (rest1 l p) := fun l h0 h1 => by
    have b := left_bd' l h (Nat.le_refl _) p.length
    rw [List.take_length] at b
    unfold rest1
    split
    · exact Sw.nil _ _ _
    · exact Sw.one h0 h1 b
  have := (r1 0 (by decide) (by decide)).app (r1 1 (by decide) (by decide)) (by decide)
  exact this
section
variable {F : Fs} {g : Str → Option Dv}
theorem rest_s (fA : PlusS F i_law_plus) (p : Ms.P) (h : Sw 12 5 5 p) : Gv (runDef F g d_law_rest [.int 2, stp p]) (stp (rest p)) := by
  refine gv_wp fun s => wp_run (env := [some (.int 2), some (stp p), none, none, none, none, none]) rfl rfl ?_
  refine ws_asg (wp_lst (wp_nilA ?_))
  refine wp_ok (show newL [] s = .ok (.loc s.length) (s ++ [.lst []]) from rfl) ?_
  refine ws_for (items := (List.range 2).map fun (i : Nat) => .int (0 + (i : Int))) (fun k env s' => k ≤ 2 ∧ Gr s s' ∧ s'[s.length]? = some (.lst ((rests p k).map pc)) ∧ (rests p k).length ≤ k ∧ ∃ a b c d, env = [some (.int 2), some (stp p), some (.loc s.length), a, b, c, d])
    (wk_rng1 (n := 2) (by rw [ev]; rfl) (by decide) ⟨(items_rng 0 2).2 _, ⟨by decide, .push _ _, by simp [rests], by simp [rests], none, none, none, none, rfl⟩, fun i env s' _ => (items_rng 0 2).1 i s'⟩) ?_ ?_
  · rintro k x env s1 hx ⟨_, g1, c1, ln, a, b, c, d, rfl⟩
    have hk : k < 2 := by
      have := (List.getElem?_eq_some_iff.mp hx).1
      simpa using this
    have ex : x = .int (k : Int) := by
      rw [List.getElem?_map, List.getElem?_range hk] at hx
      cases hx
      show Dv.int (0 + (k : Int)) = _
      rw [Int.zero_add]
    subst ex
    refine ⟨[some (.int 2), some (stp p), some (.loc s.length), some (.int (k : Int)), b, c, d], rfl, ?_⟩
    refine ws_asg (wp_is (a := rv 1) (by simp [ev, pb]; rfl) ?_)
    refine ws_for (items := p.map pc) (fun i env s' => s' = s1 ∧ ∃ c d, env = [some (.int 2), some (stp p), some (.loc s.length), some (.int (k : Int)), some (rv (left k (p.take i))), c, d])
      (wp_is (a := .tup (p.map pc)) (by rw [evi, ev]; rfl) ⟨Nat.le_refl _, ⟨rfl, c, d, rfl⟩, fun i env s' _ => rfl⟩) ?_ ?_
    · rintro i x env s2 hx ⟨rfl, c, d, rfl⟩
      obtain ⟨y, hy, rfl⟩ : ∃ y, p[i]? = some y ∧ pc y = x := by
        rw [List.getElem?_map] at hx
        exact Option.map_eq_some_iff.mp hx
      have my := List.mem_of_getElem? hy
      refine ⟨[some (.int 2), some (stp p), some (.loc s.length), some (.int (k : Int)), some (rv (left k (p.take i))), some (.int y.1), some (rv y.2)], rfl, ?_⟩
      refine ws_if (wt_cmp (wp_var rfl (wp_var rfl (wp_is (eq_ii _ _) ?_))))
      rw [left_take _ hy]
      by_cases e : y.1 = (k : Int)
      · rw [decide_eq_true e, if_pos rfl, if_pos e]
        have ne : ev F g (.num (.bin .sub (.int (0)) (.idx (.var 6) (.int (0)))) (.idx (.var 6) (.int (1)))) [some (.int 2), some (stp p), some (.loc s.length), some (.int (k : Int)), some (rv (left k (p.take i))), some (.int y.1), some (rv y.2)] = pure (rv (-y.2)) := by
          rw [neg_rv]
          simp [ev, rv, ix_num0, ix_num1, sub_ii, pb]
        refine ws_asg (wp_call (wp_consA (wp_var rfl (wp_consA (wp_is ne (wp_nilA (wp_is (fA _ _ 900 900 (bd26 (left_bd' _ h (Nat.le_refl _) i)) (bd5 (bd_negU (h.bd y my))) (by decide)) ?_)))))))
        exact ws_nil (F := F) (gv := g) (ws_nil (F := F) (gv := g) ⟨_, rfl, rfl, _, _, rfl⟩)
      · rw [decide_eq_false e, if_neg (by simp), if_neg e]
        exact ws_nil (F := F) (gv := g) (ws_nil (F := F) (gv := g) ⟨_, rfl, rfl, _, _, rfl⟩)
    · rintro env s2 ⟨rfl, c, d, rfl⟩
      rw [List.length_map, List.take_length]
      refine ws_if (wt_cmp (wp_idx (wp_var rfl (wp_is (a := .int 0) (by rw [ev]) (wp_is (rv0 _) (wp_is (a := .int 0) (by rw [ev]) (wp_is (ne_ii _ _) ?_)))))))
      have up : rests p (k + 1) = rests p k ++ rest1 k p := rfl
      by_cases z : left k p = 0
      · have e1 : rest1 (k : Int) p = [] := by unfold rest1; rw [if_pos z]
        rw [decide_eq_true (Rat.num_eq_zero.mpr z)]
        simp only [Bool.not_true, Bool.false_eq_true, if_false]
        refine ws_nil (F := F) (gv := g) (ws_nil (F := F) (gv := g) ⟨_, rfl, hk, g1, ?_, ?_, _, _, _, _, rfl⟩)
        · rw [up, e1, List.append_nil]; exact c1
        · rw [up, e1, List.append_nil]; omega
      · have e1 : rest1 (k : Int) p = [((k : Int), left k p)] := by unfold rest1; rw [if_neg z]
        rw [decide_eq_false (fun w => z (Rat.num_eq_zero.mp w))]
        simp only [Bool.not_false, if_true]
        have lt1 := (List.getElem?_eq_some_iff.mp c1).1
        refine ws_app (n := s.length) (xs := (rests p k).map pc) (by rw [ev]; rfl) c1 ?_
        refine wp_tup (wp_consA (wp_var rfl (wp_consA (wp_var rfl (wp_nilA (wp_mkT (by simp) ⟨_, c1, by rw [List.length_map]; omega, ?_⟩))))))
        refine ws_nil (F := F) (gv := g) (ws_nil (F := F) (gv := g) ⟨_, rfl, hk, gr_set g1 (Nat.le_refl _) _, ?_, ?_, _, _, _, _, rfl⟩)
        · rw [List.getElem?_set_self lt1, up, e1, List.map_append]; rfl
        · rw [up, e1, List.length_append, List.length_singleton]; omega
  · rintro env s1 ⟨_, g1, c1, ln, a, b, c, d, rfl⟩
    rw [List.length_map, List.length_range] at c1 ln
    refine ws_ret (wp_blt (wp_consA (wp_var rfl (wp_nilA (wp_ok (tuple_at c1 (by rw [List.length_map]; omega)) ⟨_, rfl, ?_, g1⟩)))))
    rw [← rests_two]
    rfl
theorem half_rv : rv (mkRat 1 2) = .num 1 2 := by
  have a : (mkRat 1 2).num = 1 := by decide +kernel
  have b : (mkRat 1 2).den = 2 := by decide +kernel
  unfold rv
  rw [a, b]
  rfl
theorem half_bd : Bd 2 1 (mkRat 1 2) := ⟨⟨1, by decide +kernel⟩, by decide +kernel, by decide +kernel⟩
theorem even_s (fP : PiecesU F) (fR : RestU F) (fT : TimedU F) (n B : Nat) (s : Sto) (sp : Spr n (B + 5) s) : wp (runDef F g d_law_even [.loc n, .int 2, .int 1]) (fun d s' => ∃ p, d = stp p ∧ Sw 24 26 6 p ∧ Spr n B s' ∧ Kp n s s') s := by
  refine wp_run (env := [some (.loc n), some (.int 2), some (.int 1), none]) rfl rfl ?_
  refine ws_asg (wp_call (wp_consA (wp_var rfl (wp_consA (wp_var rfl (wp_consA (wp_var rfl (wp_nilA (wp_imp (fP n B 1 s (sp.mono (by omega)) (by decide)) fun d s1 ⟨p, e, sw, sp1, kp1⟩ => ?_)))))))))
  subst e
  have sw5 := sw.up (Nat.dvd_refl 12) (Nat.le_refl 5) (show 1 ≤ 5 by decide)
  have rs := rest_sw sw5
  have both : Sw 12 26 3 (p ++ rest p) := (sw.up (Nat.dvd_refl 12) (show 5 ≤ 26 by decide) (Nat.le_refl 1)).app rs (by decide)
  have add : Gv (ev F g (.bin .add (.var 3) (.call i_law_rest (.cons (.var 1) (.cons (.var 3) .nil)))) [some (.loc n), some (.int 2), some (.int 1), some (stp p)]) (stp (p ++ rest p)) := by
    rw [ev]
    exact gv_bind (gv_var rfl) (gv_bind (gv_call2 (gv_var rfl) (gv_var rfl) (fR p sw5)) (gv_of (add_stp (by have := sw.len; have := rs.len; omega))))
  have hv : ∀ env : DEnv, Gv (ev F g (.num (.int 1) (.int 2)) env) (rv (mkRat 1 2)) := fun env => gv_of (by rw [half_rv]; simp [ev, pb])
  refine ws_asg (wp_gv (gv_call2 add (hv _) (fT _ _ both.lt (fun x hx => bd26 (both.bd x hx)) (half_bd.sz (by decide) (by decide +kernel) (by decide +kernel)))) fun s2 g2 => ?_)
  have tm := both.times half_bd
  refine ws_ret (wp_bin (wp_var rfl (wp_is (a := stp (times (p ++ rest p) (mkRat 1 2)).reverse) (by rw [ev]; exact rev_stp tm.lt) (wp_is (add_stp (by rw [List.length_reverse]; have := tm.len; omega)) ⟨_, rfl, _, rfl, ?_, spr_gr sp1 g2, kp1.trans (.gr g2)⟩))))
  exact tm.app tm.rev (by decide)
end
end K52
end
section
set_option Elab.async false
set_option linter.all false
set_option maxRecDepth 100000
namespace K52
open PySem PySem.Spec PyProof.Rows L2 Dd Sh Ms Mw
def SwungU (F : Fs) : Prop := ∀ (n B : Nat) (s : Sto), Spr n (B + 40) s → wp (F i_law_swung [.loc n]) (fun d s' => ∃ p, d = stp p ∧ Sw 120 26 15 p ∧ Spr n B s' ∧ Kp n s s') s
theorem sz5 {q : Rat} (h : Bd 2 5 q) : Sz 900 q := h.sz (by decide) (by decide +kernel) (by decide +kernel)
theorem sz4 {q : Rat} (h : Bd 60 4 q) : Sz 900 q := h.sz (by decide) (by decide +kernel) (by decide +kernel)
def many7 : List Dv := [.num 1 1, .num 2 1, .num 3 1, .num 4 1, .num 5 1, .num 1 2, .num 5 2]
theorem rv_h {a : Int} {b : Nat} {q : Rat} (e : q = mkRat a b) (n : (mkRat a b).num = a) (d : (mkRat a b).den = b) : rv q = .num a b := by
  subst e
  unfold rv
  rw [n, d]
theorem many_ok {v : Dv} (h : v ∈ many7) : ∃ q, v = rv q ∧ Bd 2 5 q := by
  unfold many7 at h
  have c : ∀ (a : Int) (b : Nat), (mkRat a b).num = a → (mkRat a b).den = b → Bd 2 5 (mkRat a b) → ∃ q, Dv.num a b = rv q ∧ Bd 2 5 q := fun a b n d k => ⟨mkRat a b, (rv_h rfl n d).symm, k⟩
  rcases List.mem_cons.mp h with rfl | h
  · exact c 1 1 (by decide +kernel) (by decide +kernel) ⟨⟨2, by decide +kernel⟩, by decide +kernel, by decide +kernel⟩
  rcases List.mem_cons.mp h with rfl | h
  · exact c 2 1 (by decide +kernel) (by decide +kernel) ⟨⟨4, by decide +kernel⟩, by decide +kernel, by decide +kernel⟩
  rcases List.mem_cons.mp h with rfl | h
  · exact c 3 1 (by decide +kernel) (by decide +kernel) ⟨⟨6, by decide +kernel⟩, by decide +kernel, by decide +kernel⟩
  rcases List.mem_cons.mp h with rfl | h
  · exact c 4 1 (by decide +kernel) (by decide +kernel) ⟨⟨8, by decide +kernel⟩, by decide +kernel, by decide +kernel⟩
  rcases List.mem_cons.mp h with rfl | h
  · exact c 5 1 (by decide +kernel) (by decide +kernel) ⟨⟨10, by decide +kernel⟩, by decide +kernel, by decide +kernel⟩
  rcases List.mem_cons.mp h with rfl | h
  · exact c 1 2 (by decide +kernel) (by decide +kernel) ⟨⟨1, by decide +kernel⟩, by decide +kernel, by decide +kernel⟩
  rcases List.mem_cons.mp h with rfl | h
  · exact c 5 2 (by decide +kernel) (by decide +kernel) ⟨⟨5, by decide +kernel⟩, by decide +kernel, by decide +kernel⟩
  exact nomatch h
/-- a step so many times -/
def rept (k : Nat) (p : Ms.P) : Ms.P := (List.replicate k p).flatten
theorem rept_len (p : Ms.P) : ∀ k, (rept k p).length = k * p.length
  | 0 => by show 0 = 0 * _; omega
  | k + 1 => by
    show (List.replicate (k + 1) p).flatten.length = _
    rw [List.replicate_succ, List.flatten_cons, List.length_append, Nat.succ_mul]
    have := rept_len p k
    unfold rept at this
    omega
theorem rept_succ (k : Nat) (p : Ms.P) : rept (k + 1) p = p ++ rept k p := by
  unfold rept
  rw [List.replicate_succ, List.flatten_cons]
theorem rept_sw {D N L : Nat} {p : Ms.P} (h : Sw D N L p) : ∀ {k : Nat}, k * L ≤ 300 → Sw D N (k * L) (rept k p)
  | 0, _ => (Sw.nil D N _)
  | k + 1, z => by
    rw [rept_succ]
    rw [Nat.succ_mul] at z
    exact (h.app (rept_sw h (k := k) (by omega)) (by omega)).up (Nat.dvd_refl _) (Nat.le_refl _) (by rw [Nat.succ_mul]; omega)
theorem map_rept (p : Ms.P) (k : Nat) : ((List.replicate k (p.map pc)).flatten) = (rept k p).map pc := by
  induction k with
  | zero => rfl
  | succ k ih => rw [List.replicate_succ, List.flatten_cons, ih, rept_succ, List.map_append]
theorem mul_stp {p : Ms.P} {k : Nat} (k1 : 1 ≤ k) (k2 : k ≤ 1000) (z : p.length ≤ 1000) (z2 : k * p.length ≤ 1000000) : opB .mul (stp p) (.int (k : Nat)) = pure (stp (rept k p)) := by
  show (if (p.map pc).isEmpty = true ∨ ((k : Nat) : Int) = 1 then (if 0 ≤ ((k : Nat) : Int) ∧ ((k : Nat) : Int) ≤ 1000 then pure (.tup (p.map pc)) else fail) else if 2 ≤ ((k : Nat) : Int) ∧ ((k : Nat) : Int) ≤ 1000 ∧ (p.map pc).length ≤ 1000 then mkT ((List.replicate ((k : Nat) : Int).toNat (p.map pc)).flatten) else fail) = _
  by_cases c : (p.map pc).isEmpty = true ∨ ((k : Nat) : Int) = 1
  · rw [if_pos c, if_pos (by omega)]
    show _ = pure (Dv.tup ((rept k p).map pc))
    congr 2
    rcases c with c | c
    · have e : p = [] := by
        have := List.isEmpty_iff.mp c
        exact List.map_eq_nil_iff.mp this
      subst e
      rw [← map_rept]
      simp
    · obtain rfl : k = 1 := by omega
      rw [← map_rept]
      simp
  · rw [if_neg c, if_pos (by rw [List.length_map]; omega), Int.toNat_natCast, map_rept]
    exact mkT_ok (by rw [List.length_map, rept_len]; exact z2)
section
variable {F : Fs} {g : Str → Option Dv}
theorem wp_head {e i : E} {env : DEnv} {s : Sto} {Q : Dv → Sto → Prop} (h : wp (ev F g e env) (fun d s1 => wp (ev F g i env) (fun k s2 => ∃ (j : Nat) (p : Ms.P), d = stp p ∧ k = .int (j : Nat) ∧ Lt p ∧ Q (stp (p.take j)) s2) s1) s) : wp (ev F g (.sl e .none (.some i)) env) Q s := by
  rw [ev]
  refine wp_bind.mpr (wp_imp h fun d s1 h => ?_)
  simp only [evo]
  refine wp_bind.mpr (wp_pure.mpr (wp_bind.mpr (wp_bind.mpr (wp_imp h fun k s2 ⟨j, p, e1, e2, lt, q⟩ => ?_))))
  subst e1 e2
  exact wp_pure.mpr (wp_is (take_stp lt) q)
theorem swung_s (fD : DrawS F i_law_dip) (fP : PiecesU F) (fE : EvenU F) (fR : RestU F) (fS : ShareU F) (fK : PickLS F) (fX : TimesS F i_law_times) (fN : UndoU F) (n B : Nat) (s : Sto) (sp : Spr n (B + 40) s) : wp (runDef F g d_law_swung [.loc n]) (fun d s' => ∃ p, d = stp p ∧ Sw 120 26 15 p ∧ Spr n B s' ∧ Kp n s s') s := by
  refine wp_run (env := [some (.loc n), none, none, none, none, none, none, none]) rfl rfl ?_
  refine ws_asg (wp_call (wp_consA (wp_var rfl (wp_consA (wp_is (a := .int 6) (by rw [ev]) (wp_nilA ?_))))))
  refine wp_draw (B := B + 39) fD sp (by decide) (by decide) fun way s1 w0 w1 sp1 kp1 => ?_
  have d12 : 12 ∣ 120 := by decide
  have d24 : 24 ∣ 120 := by decide
  refine ws_if (wt_cmp (wp_var rfl (wp_is (a := .int 0) (by rw [ev]) (wp_is (eq_ii _ _) ?_))))
  by_cases c0 : way = 0
  · rw [decide_eq_true c0, if_pos rfl]
    refine ws_ret (wp_call (wp_consA (wp_var rfl (wp_consA (wp_is (a := .int 2) (by rw [ev]) (wp_consA (wp_is (a := .int ((5 : Nat) : Int)) (by rw [ev]; rfl) (wp_nilA (wp_imp (fP n B 5 s1 (sp1.mono (by omega)) (by decide)) fun d s2 ⟨p, e, sw, sp2, kp2⟩ => ?_)))))))))
    exact ⟨_, rfl, p, e, sw.up d12 (by decide) (by decide), sp2, kp1.trans kp2⟩
  rw [decide_eq_false c0, if_neg (by simp)]
  refine ws_nil (F := F) (gv := g) ?_
  refine ws_if (wt_cmp (wp_var rfl (wp_is (a := .int 1) (by rw [ev]) (wp_is (eq_ii _ _) ?_))))
  by_cases c1 : way = 1
  · rw [decide_eq_true c1, if_pos rfl]
    refine ws_ret (wp_call (wp_consA (wp_var rfl (wp_consA (wp_is (a := .int 2) (by rw [ev]) (wp_consA (wp_is (a := .int 1) (by rw [ev]) (wp_nilA (wp_imp (fE n B s1 (sp1.mono (by omega))) fun d s2 ⟨p, e, sw, sp2, kp2⟩ => ?_)))))))))
    exact ⟨_, rfl, p, e, sw.up d24 (Nat.le_refl _) (by decide), sp2, kp1.trans kp2⟩
  rw [decide_eq_false c1, if_neg (by simp)]
  refine ws_nil (F := F) (gv := g) ?_
  refine ws_if (wt_cmp (wp_var rfl (wp_is (a := .int 4) (by rw [ev]) (wp_is (lt_ii _ _) ?_))))
  by_cases c4 : way < 4
  · rw [decide_eq_true c4, if_pos rfl]
    refine ws_asg (wp_call (wp_consA (wp_var rfl (wp_consA (wp_is (a := .int 2) (by rw [ev]) (wp_consA (wp_is (a := .int ((3 : Nat) : Int)) (by rw [ev]; rfl) (wp_nilA (wp_imp (fP n B 3 s1 (sp1.mono (by omega)) (by decide)) fun d s2 ⟨p, e, sw, sp2, kp2⟩ => ?_)))))))))
    subst e
    have sw5 := sw.up (Nat.dvd_refl 12) (Nat.le_refl 5) (show 3 ≤ 5 by decide)
    have rs := rest_sw sw5
    refine ws_ret (wp_bin (wp_var rfl (wp_gv (gv_call2 (gv_of (a := .int 2) (by rw [ev])) (gv_var rfl) (fR p sw5)) fun s3 g3 => wp_is (add_stp (by have := sw.len; have := rs.len; omega)) ⟨_, rfl, _, rfl, ?_, spr_gr sp2 g3, (kp1.trans kp2).trans (.gr g3)⟩)))
    have := (sw.up (Nat.dvd_refl 12) (show 5 ≤ 26 by decide) (Nat.le_refl 3)).app rs (by decide)
    exact this.up d12 (Nat.le_refl _) (by decide)
  rw [decide_eq_false c4, if_neg (by simp)]
  refine ws_nil (F := F) (gv := g) ?_
  -- a small step that turns
  refine ws_par (wp_call (wp_consA (wp_var rfl (wp_nilA (wp_imp (fS n (B + 36) s1 sp1) fun d s2 ⟨q, e, sm, sp2, kp2⟩ => ?_)))))
  subst e
  have bq := sm.bd
  have ns2 : n < s2.length := by
    obtain ⟨_, _, _, e, _⟩ := sp2
    exact (List.getElem?_eq_some_iff.mp e).1
  have lit : wp (ev F g (.lst (.cons (.num (.int (1)) (.int (1))) (.cons (.num (.int (2)) (.int (1))) (.cons (.num (.int (3)) (.int (1))) (.cons (.num (.int (4)) (.int (1))) (.cons (.num (.int (5)) (.int (1))) (.cons (.num (.int (1)) (.int (2))) (.cons (.num (.int (5)) (.int (2))) .nil)))))))) [some (.loc n), some (.int way), none, none, none, none, none, none]) (fun d s' => d = .loc s2.length ∧ s' = s2 ++ [.lst many7]) s2 := by
    refine wp_lst (wp_is (a := many7) (by simp [evs, ev, pb, many7]) ?_)
    exact wp_ok (show newL many7 s2 = .ok (.loc s2.length) (s2 ++ [.lst many7]) from rfl) ⟨rfl, rfl⟩
  refine wp_call (wp_consA (wp_var rfl (wp_consA (wp_imp lit fun d s3 ⟨e1, e2⟩ => ?_))))
  subst e1 e2
  have g3 : Gr s2 (s2 ++ [.lst many7]) := .push _ _
  refine wp_nilA (wp_imp (fK n (B + 35) s2.length many7 _ (spr_gr sp2 g3) (by simp) (by omega) (by decide) (by decide)) fun v s4 ⟨hv, sp4, kp4⟩ => ?_)
  obtain ⟨m, rfl, bm⟩ := many_ok hv
  have kps : Kp n s s4 := ((kp1.trans kp2).trans (.gr g3)).trans kp4
  have turn : wp (ev F g (.ite (.cmp .gt (.idx (.var 6) (.int (0))) (.int (0))) (.num (.idx (.var 6) (.int (1))) (.idx (.var 6) (.int (0)))) (.num (.bin .sub (.int (0)) (.idx (.var 6) (.int (1)))) (.bin .sub (.int (0)) (.idx (.var 6) (.int (0)))))) [some (.loc n), some (.int way), none, none, none, none, some (rv q), some (rv m)]) (fun d s' => s' = s4 ∧ ∃ r, d = rv r ∧ Bd 60 4 r) s4 := by
    refine wp_ite (wt_cmp (wp_idx (wp_var rfl (wp_is (a := .int 0) (by rw [ev]) (wp_is (rv0 _) (wp_is (a := .int 0) (by rw [ev]) (wp_is (gt_ii _ _) ?_)))))))
    by_cases c : 0 < q.num
    · rw [decide_eq_true c, if_pos rfl]
      obtain ⟨r, er, _, br⟩ := inv_rv c sm.n5 sm.d4
      refine wp_is (a := rv r) ?_ ⟨rfl, r, rfl, br⟩
      rw [er]
      simp [ev, rv, ix_num0, ix_num1, pb]
    · rw [decide_eq_false c, if_neg (by simp)]
      have nz : q.num ≠ 0 := fun e => sm.ne (Rat.num_eq_zero.mp e)
      obtain ⟨r, er, _, br⟩ := inv_rv (q := -q) (by rw [Rat.neg_num]; omega) (by rw [Rat.neg_num, Int.natAbs_neg]; exact sm.n5) (by rw [Rat.neg_den]; exact sm.d4)
      refine wp_is (a := rv (-r)) ?_ ⟨rfl, -r, rfl, bd_negU br⟩
      have e1 : r.num = (q.den : Int) ∧ (r.den : Int) = -q.num := by
        unfold rv at er
        rw [Rat.neg_den, Rat.neg_num] at er
        exact ⟨(Dv.num.inj er).1, (Dv.num.inj er).2⟩
      rw [neg_rv, e1.1, e1.2]
      simp [ev, rv, ix_num0, ix_num1, sub_ii, pb]
  have l0 : Sw 120 26 1 [((0 : Int), q)] := Sw.one (by decide) (by decide) (bq.up (by decide) (by decide))
  have oneE : wp (ev F g (.tup (.cons (.tup (.cons (.int (0)) (.cons (.var 6) .nil))) (.cons (.tup (.cons (.int (1)) (.cons (.call i_law_times (.cons (.var 7) (.cons (.ite (.cmp .gt (.idx (.var 6) (.int (0))) (.int (0))) (.num (.idx (.var 6) (.int (1))) (.idx (.var 6) (.int (0)))) (.num (.bin .sub (.int (0)) (.idx (.var 6) (.int (1)))) (.bin .sub (.int (0)) (.idx (.var 6) (.int (0)))))) .nil))) .nil))) .nil))) [some (.loc n), some (.int way), none, none, none, none, some (rv q), some (rv m)]) (fun d s' => s' = s4 ∧ ∃ p, d = stp p ∧ Sw 120 26 2 p) s4 := by
    refine wp_tup (wp_consA (wp_tup (wp_consA (wp_is (a := .int 0) (by rw [ev]) (wp_consA (wp_var rfl (wp_nilA (wp_mkT (by simp) ?_))))))))
    refine wp_consA (wp_tup (wp_consA (wp_is (a := .int 1) (by rw [ev]) (wp_consA (wp_call (wp_consA (wp_var rfl (wp_consA (wp_imp turn fun d s5 ⟨e1, r, e2, br⟩ => ?_)))))))))
    subst e1 e2
    refine wp_nilA (wp_is (fX m r 900 900 (sz5 bm) (sz4 br) (by decide)) (wp_nilA (wp_mkT (by simp) (wp_nilA (wp_mkT (by simp) ⟨rfl, [(0, q), (1, m * r)], rfl, ?_⟩)))))
    have l1 : Sw 120 26 1 [((1 : Int), m * r)] := Sw.one (by decide) (by decide) ((bm.mul br).up (by decide) (by decide))
    exact l0.app l1 (by decide)
  refine ws_asg (wp_imp oneE fun d s5 ⟨e1, one, e2, so⟩ => ?_)
  subst e1 e2
  have lo := so.len
  refine ws_asg (wp_bin (wp_bin (wp_var rfl (wp_bin (wp_is (a := .int 1) (by rw [ev]) (wp_call (wp_consA (wp_var rfl (wp_consA (wp_is (a := .int 6) (by rw [ev]) (wp_nilA ?_)))))))))))
  refine wp_draw (B := B + 34) fD sp4 (by decide) (by decide) fun k s6 k0 k1 sp6 kp6 => wp_is (add_ii _ _) ?_
  obtain ⟨k, rfl⟩ : ∃ j : Nat, k = j := ⟨k.toNat, by omega⟩
  rw [show (1 : Int) + (k : Nat) = ((k + 1 : Nat) : Int) by omega]
  have kl : (k + 1) * one.length ≤ 12 := Nat.le_trans (Nat.mul_le_mul (show k + 1 ≤ 6 by omega) lo) (by decide)
  refine wp_is (mul_stp (by omega) (by omega) (by omega) (by omega)) ?_
  refine wp_head (wp_var rfl (wp_call (wp_consA (wp_var rfl (wp_consA (wp_is (a := .int 2) (by rw [ev]) (wp_nilA ?_)))))))
  refine wp_draw (B := B + 33) fD sp6 (by decide) (by decide) fun j s7 j0 j1 sp7 kp7 => ?_
  obtain ⟨j, rfl⟩ : ∃ i : Nat, j = i := ⟨j.toNat, by omega⟩
  have sr := (rept_sw so (k := k + 1) (by omega)).up (Nat.dvd_refl _) (Nat.le_refl _) (show (k + 1) * 2 ≤ 12 by omega)
  have st : Sw 120 26 1 (one.take j) := by
    have := so.take j
    exact ⟨this.lt, this.l1, this.bd, by rw [List.length_take]; omega⟩
  have sa := sr.app st (by decide)
  refine ⟨j, one, rfl, rfl, so.lt, wp_is (add_stp (by have := sr.len; have := st.len; omega)) ?_⟩
  refine ws_asg (wp_call (wp_consA (wp_var rfl (wp_consA (wp_is (a := .int 2) (by rw [ev]) (wp_nilA ?_))))))
  refine wp_draw (B := B + 32) fD sp7 (by decide) (by decide) fun l s8 h0 h1 sp8 kp8 => ?_
  refine ws_asg (wp_tup (wp_consA (wp_tup (wp_consA (wp_var rfl (wp_consA (wp_call (wp_consA (wp_var rfl (wp_nilA (wp_imp (fS n (B + 29) s8 sp8) fun d s9 ⟨u, e, su, sp9, kp9⟩ => ?_)))))))))))
  subst e
  refine wp_nilA (wp_mkT (by simp) (wp_nilA (wp_mkT (by simp) ?_)))
  have ah : Sw 12 5 1 [(l, u)] := Sw.one h0 (by omega) su.bd
  have kpz : Kp n s s9 := (((kps.trans kp6).trans kp7).trans kp8).trans kp9
  refine ws_ret (wp_ite (wt_cmp (wp_call (wp_consA (wp_var rfl (wp_consA (wp_is (a := .int 2) (by rw [ev]) (wp_nilA ?_))))))))
  refine wp_draw (B := B + 28) fD sp9 (by decide) (by decide) fun w s10 w0 w1 sp10 kp10 => wp_is (a := .int 0) (by rw [ev]) (wp_is (eq_ii _ _) ?_)
  split
  · have h1 : opB .add (.tup [.tup [.int l, rv u]]) (stp (rept (k + 1) one ++ one.take j)) = pure (stp ([(l, u)] ++ (rept (k + 1) one ++ one.take j))) := add_stp (p := [(l, u)]) (by have := sa.len; simp only [List.length_singleton]; omega)
    have s1' := (ah.up (by decide) (by decide) (Nat.le_refl 1) : Sw 120 26 1 [(l, u)]).app sa (by decide)
    have s2' := s1'.app (ah.undo.up (by decide) (by decide) (Nat.le_refl 1) : Sw 120 26 1 (undo [(l, u)])) (by decide)
    refine wp_bin (wp_bin (wp_var rfl (wp_var rfl (wp_is h1 (wp_gv (gv_call1 (d := stp [(l, u)]) (gv_var rfl) (fN _ ah.lt)) fun s11 g11 => ?_)))))
    refine wp_is (add_stp (by have := s1'.len; have := ah.undo.len; omega)) ⟨_, rfl, _, rfl, s2', spr_gr (sp10.mono (by omega)) g11, (kpz.trans kp10).trans (.gr g11)⟩
  · exact wp_var rfl ⟨_, rfl, _, rfl, sa.up (Nat.dvd_refl _) (Nat.le_refl _) (by decide), sp10.mono (by omega), kpz.trans kp10⟩
end
end K52
end
section
set_option Elab.async false
set_option linter.all false
set_option maxRecDepth 100000
namespace K52
open PySem PySem.Spec PyProof.Rows L2 Dd Sh Ms Mw
section
variable {F : Fs} {g : Str → Option Dv}
/-- for a, b in a list of two lists -/
theorem ws_forU2 {is : List Nat} {it : Dd.It} {b r : Ss} {env : DEnv} {s : Sto} {Q : Fl → Sto → Prop}
    (h : wp (evi F g it env) (fun src s1 => ∃ n x y, src = .lst n ∧ s1[n]? = some (.lst [x, y]) ∧ wp (bindL is x env >>= fun e => exs F g b e) (fun fl s2 => ∃ e2, fl = .nx e2 ∧ s2[n]? = some (.lst [x, y]) ∧
      wp (bindL is y e2 >>= fun e => exs F g b e) (fun fl s3 => ∃ e3, fl = .nx e3 ∧ s3[n]? = some (.lst [x, y]) ∧ wp (exs F g r e3) Q s3) s2) s1) s) : wp (exs F g (.cons (.forU is it b) r) env) Q s := by
  obtain ⟨src, s1, e1, n, x, y, rfl, c1, h⟩ := h
  obtain ⟨env', s', e, c, q⟩ := for_go (src := .lst n) (turn := fun d env => bindL is d env >>= fun e => exs F g b e) (items := [x, y])
    (fun i e s => s[n]? = some (.lst [x, y]) ∧ match i with
      | 0 => wp (bindL is x e >>= fun e => exs F g b e) (fun fl s2 => ∃ e2, fl = .nx e2 ∧ s2[n]? = some (.lst [x, y]) ∧ wp (bindL is y e2 >>= fun e => exs F g b e) (fun fl s3 => ∃ e3, fl = .nx e3 ∧ s3[n]? = some (.lst [x, y]) ∧ wp (exs F g r e3) Q s3) s2) s
      | 1 => wp (bindL is y e >>= fun e => exs F g b e) (fun fl s3 => ∃ e3, fl = .nx e3 ∧ s3[n]? = some (.lst [x, y]) ∧ wp (exs F g r e3) Q s3) s
      | _ => wp (exs F g r e) Q s)
    (fun i e s h => by
      show (match s[n]? with
        | some (.lst xs) => some xs[i]?
        | some (.ro xs) => some xs[i]?
        | _ => none) = _
      rw [h.1])
    (fun i z e s hx h => by
      match i, hx, h with
      | 0, hx, h =>
        obtain rfl : x = z := by simpa using hx
        obtain ⟨fl, s2, ee, e2, rfl, c, w⟩ := h.2
        exact ⟨e2, s2, ee, c, w⟩
      | 1, hx, h =>
        obtain rfl : y = z := by simpa using hx
        obtain ⟨fl, s2, ee, e2, rfl, c, w⟩ := h.2
        exact ⟨e2, s2, ee, c, w⟩
      | i + 2, hx, h => exact nomatch hx) 2 0 env s1 (by simp) (by simp) ⟨c1, h⟩
  rw [exs_cons]
  refine wp_bind.mpr (wp_ok (b := .nx env') (s' := s') ?_ q)
  have u : ex F g (.forU is it b) env = (evi F g it env >>= fun src => turnsM src >>= fun k => forRun src (fun d env => bindL is d env >>= fun env' => exs F g b env') k 0 env) := by rw [ex]
  have tk : turnsM (.lst n) s1 = .ok 2 s1 := by
    unfold turnsM
    have : turns (.lst n) s1 = 2 := by
      show (match s1[n]? with
        | some (.lst xs) => xs.length
        | some (.ro xs) => xs.length
        | _ => 0) = 2
      rw [c1]; rfl
    rw [this]
  rw [u, bind_ok_of e1, bind_ok_of tk]
  exact e
theorem wp_bindL {n i j : Nat} {a b : Dv} {env : DEnv} {s : Sto} {k : DEnv → M Fl} {Q : Fl → Sto → Prop} (h : s[n]? = some (.lst [a, b])) (q : wp (k ((env.set i (some a)).set j (some b))) Q s) : wp (bindL [i, j] (.loc n) env >>= k) Q s := by
  refine wp_bind.mpr ?_
  show wp (getC n >>= fun c => match c with
    | .lst ds => lift (setMany [i, j] ds env)
    | _ => fail) _ s
  exact wp_bind.mpr (wp_ok (getC_ok h) (wp_ok (s' := s) rfl q))
end
/-- the row of a table, one piece more -/
def prow (l : Int) (c a b : Rat) : List Dv := if l = 0 then [rv a, rv (b + c * a)] else [rv (a + -c * b), rv b]
def tbody : Ss := (.cons (.ite (.cmp .eq (.var 3) (.int (0))) (.cons (.app (.var 7) (.lst (.cons (.var 8) (.cons (.call i_law_plus (.cons (.var 9) (.cons (.call i_law_times (.cons (.var 6) (.cons (.var 8) .nil))) .nil))) .nil)))) .nil) (.cons (.app (.var 7) (.lst (.cons (.call i_law_plus (.cons (.var 8) (.cons (.call i_law_times (.cons (.var 5) (.cons (.var 9) .nil))) .nil))) (.cons (.var 9) .nil)))) .nil)) .nil)
structure Rsz (c a b : Rat) : Prop where
  c0 : Sz 2000 c
  c1 : Sz 2000 (-c)
  a0 : Sz 2000 a
  b0 : Sz 2000 b
  ca : Sz 2000 (c * a)
  cb : Sz 2000 (-c * b)
section
variable {F : Fs} {g : Str → Option Dv}
theorem set_mid (s1 : Sto) (c c' : Ce) (ts : Sto) : (s1 ++ c :: ts).set s1.length c' = s1 ++ c' :: ts := by simp
theorem row_ok (fA : PlusS F i_law_plus) (fX : TimesS F i_law_times) {l : Int} {c a b : Rat} (z : Rsz c a b) {v0 v1 v2 v4 : Option Dv} {s1 ts : Sto} {xs : List Dv} (hx : xs.length ≤ 5) {Q : Fl → Sto → Prop}
    (q : Q (.nx [v0, v1, v2, some (.int l), v4, some (rv (-c)), some (rv c), some (.loc s1.length), some (rv a), some (rv b)]) (s1 ++ Ce.lst (xs ++ [.loc (s1.length + 1 + ts.length)]) :: (ts ++ [.lst (prow l c a b)]))) :
    wp (exs F g tbody [v0, v1, v2, some (.int l), v4, some (rv (-c)), some (rv c), some (.loc s1.length), some (rv a), some (rv b)]) Q (s1 ++ Ce.lst xs :: ts) := by
  have c1 : (s1 ++ Ce.lst xs :: ts : Sto)[s1.length]? = some (.lst xs) := by simp
  have len : (s1 ++ Ce.lst xs :: ts : Sto).length = s1.length + 1 + ts.length := by simp; omega
  have fin : ∀ row : List Dv, row = prow l c a b → ((s1 ++ Ce.lst xs :: ts : Sto) ++ [Ce.lst row]).set s1.length (Ce.lst (xs ++ [Dv.loc (s1.length + 1 + ts.length)])) = s1 ++ Ce.lst (xs ++ [Dv.loc (s1.length + 1 + ts.length)]) :: (ts ++ [Ce.lst (prow l c a b)]) := fun row e => by
    rw [e, List.append_assoc, List.cons_append]
    exact set_mid _ _ _ _
  have put : ∀ row : List Dv, row = prow l c a b → ∀ Q' : Dv → Sto → Prop, Q' (.loc (s1.length + 1 + ts.length)) ((s1 ++ Ce.lst xs :: ts : Sto) ++ [.lst row]) → wp (newL row) Q' (s1 ++ Ce.lst xs :: ts) := fun row e Q' q' => by
    have sm : row.length ≤ 1000000 := by rw [e]; unfold prow; split <;> simp
    refine wp_ok (b := .loc (s1.length + 1 + ts.length)) (s' := (s1 ++ Ce.lst xs :: ts : Sto) ++ [.lst row]) ?_ q'
    rw [← len]
    unfold newL
    rw [if_pos (show small row.length = true from decide_eq_true sm)]
    rfl
  have c2 : ∀ row : List Dv, ((s1 ++ Ce.lst xs :: ts : Sto) ++ [.lst row])[s1.length]? = some (.lst xs) := fun row => by simp
  refine ws_if (wt_cmp (wp_var rfl (wp_is (a := .int 0) (by rw [ev]) (wp_is (eq_ii _ _) ?_))))
  by_cases h : l = 0
  · rw [decide_eq_true h, if_pos rfl]
    refine ws_app (n := s1.length) (xs := xs) (by rw [ev]; rfl) c1 (wp_lst (wp_consA (wp_var rfl ?_)))
    refine wp_consA (wp_call (wp_consA (wp_var rfl (wp_consA (wp_call (wp_consA (wp_var rfl (wp_consA (wp_var rfl (wp_nilA ?_)))))))))) 
    refine wp_is (fX c a 2000 2000 z.c0 z.a0 (by decide)) (wp_nilA (wp_is (fA b (c * a) 2000 2000 z.b0 z.ca (by decide)) (wp_nilA ?_)))
    have e : [rv a, rv (b + c * a)] = prow l c a b := by unfold prow; rw [if_pos h]
    refine put _ e _ ⟨xs, c2 _, by omega, ?_⟩
    rw [fin _ e]
    exact ws_nil (F := F) (gv := g) (ws_nil (F := F) (gv := g) q)
  · rw [decide_eq_false h, if_neg (by simp)]
    refine ws_app (n := s1.length) (xs := xs) (by rw [ev]; rfl) c1 (wp_lst (wp_consA ?_))
    refine wp_call (wp_consA (wp_var rfl (wp_consA (wp_call (wp_consA (wp_var rfl (wp_consA (wp_var rfl (wp_nilA ?_)))))))))
    refine wp_is (fX (-c) b 2000 2000 z.c1 z.b0 (by decide)) (wp_nilA (wp_is (fA a (-c * b) 2000 2000 z.a0 z.cb (by decide)) (wp_consA (wp_var rfl (wp_nilA ?_)))))
    have e : [rv (a + -c * b), rv b] = prow l c a b := by unfold prow; rw [if_neg h]
    refine put _ e _ ⟨xs, c2 _, by omega, ?_⟩
    rw [fin _ e]
    exact ws_nil (F := F) (gv := g) (ws_nil (F := F) (gv := g) q)
end
/-- a table of two rows in the store -/
def LT (s : Sto) (n : Nat) (m : Mt) : Prop := ∃ i j, s[n]? = some (.lst [.loc i, .loc j]) ∧ s[i]? = some (.lst [rv m.a, rv m.b]) ∧ s[j]? = some (.lst [rv m.c, rv m.d])
theorem LT.gr {s s' : Sto} {n : Nat} {m : Mt} (h : LT s n m) (k : Gr s s') : LT s' n m := by
  obtain ⟨i, j, a, b, c⟩ := h
  exact ⟨i, j, k.get a, k.get b, k.get c⟩
structure MB (D M : Nat) (m : Mt) : Prop where
  a : Bd D M m.a
  b : Bd D M m.b
  c : Bd D M m.c
  d : Bd D M m.d
theorem one_mul_ (M : Nat) : 1 + M = M + 1 := Nat.add_comm _ _
theorem MB.put {D M E N : Nat} {m : Mt} {s : Rat} (l : Int) (h : MB D M m) (k : Bd E N s) : MB (D * E) (M * (1 + N)) (put l s m) := by
  have up : ∀ {q : Rat}, Bd D M q → Bd (D * E) (M * (1 + N)) q := fun b => b.up (Nat.dvd_mul_right _ _) (Nat.le_mul_of_pos_right _ (by omega))
  have mix : ∀ {q r c : Rat}, Bd D M q → Bd D M r → Bd E N c → Bd (D * E) (M * (1 + N)) (q + c * r) := fun {q r c} bq br bc => by
    have := (bq.up (Nat.dvd_mul_right D E) (Nat.le_refl M)).add ((bc.mul br).up (by rw [Nat.mul_comm E D]; exact Nat.dvd_refl _) (Nat.le_refl _))
    refine this.up (Nat.dvd_refl _) ?_
    rw [Nat.mul_add, Nat.mul_one, Nat.mul_comm N M]
    exact Nat.le_refl _
  unfold Mw.put
  split
  · exact ⟨up h.a, mix h.b h.a k, up h.c, mix h.d h.c k⟩
  · exact ⟨mix h.a h.b (bd_negU k), up h.b, mix h.c h.d (bd_negU k), up h.d⟩
theorem MB.up {D M E N : Nat} {m : Mt} (h : MB D M m) (d : D ∣ E) (n : M ≤ N) : MB E N m := ⟨h.a.up d n, h.b.up d n, h.c.up d n, h.d.up d n⟩
theorem MB.e : MB 1 1 Mw.e := ⟨one_bdU 1, bd_zero _ _, bd_zero _ _, one_bdU 1⟩
theorem run_take {t : Rat} {p : Ms.P} {i : Nat} {y : Pc} (h : p[i]? = some y) (m : Mt) : Mw.run t m (p.take (i + 1)) = put y.1 (y.2 * t) (Mw.run t m (p.take i)) := by
  rw [List.take_add_one, h, run_app]
  rfl
theorem MB.run {E N : Nat} {t : Rat} {p : Ms.P} (h : ∀ x ∈ p, Bd E N (x.2 * t)) : ∀ i, i ≤ p.length → MB (E ^ i) ((1 + N) ^ i) (Mw.run t Mw.e (p.take i))
  | 0, _ => MB.e
  | i + 1, l => by
    have hy : p[i]? = some p[i] := List.getElem?_eq_getElem (by omega)
    rw [run_take hy, Nat.pow_succ, Nat.pow_succ]
    exact (MB.run h i (by omega)).put _ (h _ (List.getElem_mem _))
end K52
end
section
set_option Elab.async false
set_option linter.all false
set_option maxRecDepth 100000
namespace K52
open PySem PySem.Spec PyProof.Rows L2 Dd Sh Ms Mw
def TableU (F : Fs) : Prop := ∀ (p : Ms.P) (t : Rat) (s : Sto), Sw 432000 416 15 p → Bd 1728 125 t → wp (F i_law_table [stp p, rv t]) (fun d s' => Gr s s' ∧ ∃ n, d = .loc n ∧ LT s' n (Mw.run t Mw.e p)) s
theorem pow_big {i : Nat} (h : i ≤ 15) {q : Rat} (b : Bd (746496000 ^ i) ((1 + 52000) ^ i) q) : Sz 1000 q := by
  have := b.up (Nat.pow_dvd_pow _ h) (Nat.pow_le_pow_right (by decide) h)
  exact this.sz (by decide +kernel) (by decide +kernel) (by decide +kernel)
theorem sz_c {q : Rat} (b : Bd 746496000 52000 q) : Sz 1000 q := b.sz (by decide) (by decide +kernel) (by decide +kernel)
theorem rsz_of {i : Nat} (h : i + 1 ≤ 15) {c a b : Rat} (kc : Bd 746496000 52000 c) (ka : Bd (746496000 ^ i) ((1 + 52000) ^ i) a) (kb : Bd (746496000 ^ i) ((1 + 52000) ^ i) b) : Rsz c a b := by
  have m : ∀ {c a : Rat}, Bd 746496000 52000 c → Bd (746496000 ^ i) ((1 + 52000) ^ i) a → Sz 2000 (c * a) := fun {c a} kc ka => by
    refine (pow_big h (q := c * a) ((kc.mul ka).up ?_ ?_)).mono (by decide)
    · rw [Nat.pow_succ, Nat.mul_comm]; exact Nat.dvd_refl _
    · rw [Nat.pow_succ, Nat.mul_comm]; exact Nat.mul_le_mul_left _ (by decide)
  exact ⟨(sz_c kc).mono (by decide), (sz_c (bd_negU kc)).mono (by decide), (pow_big (by omega) ka).mono (by decide), (pow_big (by omega) kb).mono (by decide), m kc ka, m (bd_negU kc) kb⟩
theorem prow_put (l : Int) (c : Rat) (m : Mt) : prow l c m.a m.b = [rv (put l c m).a, rv (put l c m).b] ∧ prow l c m.c m.d = [rv (put l c m).c, rv (put l c m).d] := by
  unfold prow put
  split <;> exact ⟨rfl, rfl⟩
theorem szP {q : Rat} (b : Bd 432000 416 q) : Sz 900 q := b.sz (by decide) (by decide +kernel) (by decide +kernel)
theorem szT {q : Rat} (b : Bd 1728 125 q) : Sz 900 q := b.sz (by decide) (by decide +kernel) (by decide +kernel)
theorem at3 (s : Sto) (a b c : Ce) : (s ++ [a, b, c])[s.length + 1 + 1]? = some c := by
  rw [List.getElem?_append_right (by omega), show s.length + 1 + 1 - s.length = 2 by omega]
  rfl
section
variable {F : Fs} {g : Str → Option Dv}
theorem lit_ok {env : DEnv} {s : Sto} {Q : Dv → Sto → Prop} (q : ∀ n s', Gr s s' → LT s' n Mw.e → Q (.loc n) s') : wp (ev F g (.lst (.cons (.lst (.cons (.num (.int (1)) (.int (1))) (.cons (.num (.int (0)) (.int (1))) .nil))) (.cons (.lst (.cons (.num (.int (0)) (.int (1))) (.cons (.num (.int (1)) (.int (1))) .nil))) .nil))) env) Q s := by
  refine wp_lst (wp_consA (wp_lst (wp_is (a := [rv 1, rv 0]) (by simp [evs, ev, pb]; rfl) (wp_newL (by simp) fun i s1 g1 c1 => ?_))))
  refine wp_consA (wp_lst (wp_is (a := [rv 0, rv 1]) (by simp [evs, ev, pb]; rfl) (wp_newL (by simp) fun j s2 g2 c2 => ?_)))
  exact wp_nilA (wp_newL (by simp) fun n s3 g3 c3 => q n s3 ((g1.trans g2).trans g3) ⟨i, j, c3, (g2.trans g3).get c1, g3.get c2⟩)
theorem table_s (fA : PlusS F i_law_plus) (fX : TimesS F i_law_times) (p : Ms.P) (t : Rat) (s : Sto) (sw : Sw 432000 416 15 p) (bt : Bd 1728 125 t) : wp (runDef F g d_law_table [stp p, rv t]) (fun d s' => Gr s s' ∧ ∃ n, d = .loc n ∧ LT s' n (Mw.run t Mw.e p)) s := by
  have bx : ∀ x ∈ p, Bd 746496000 52000 (x.2 * t) := fun x hx => ((sw.bd x hx).mul bt).up (by decide) (by decide)
  have pl := sw.len
  refine wp_run (env := [some (stp p), some (rv t), none, none, none, none, none, none, none, none]) rfl rfl ?_
  refine ws_asg (lit_ok fun n s1 g1 l1 => ?_)
  refine ws_for (items := p.map pc) (fun k env s' => k ≤ p.length ∧ ∃ n a b c d e f h, env = [some (stp p), some (rv t), some (.loc n), a, b, c, d, e, f, h] ∧ Gr s s' ∧ LT s' n (Mw.run t Mw.e (p.take k)))
    (wp_is (a := .tup (p.map pc)) (by rw [evi, ev]; rfl) ⟨Nat.le_refl _, ⟨Nat.zero_le _, n, _, _, _, _, _, _, _, rfl, g1, l1⟩, fun i env s' _ => rfl⟩) ?_ ?_
  · rintro k x env s2 hx ⟨_, n, a, b, c, d, e, f, h, rfl, g2, l2⟩
    obtain ⟨y, hy, rfl⟩ : ∃ y, p[k]? = some y ∧ pc y = x := by
      rw [List.getElem?_map] at hx
      exact Option.map_eq_some_iff.mp hx
    have hk : k < p.length := (List.getElem?_eq_some_iff.mp hy).1
    have my := List.mem_of_getElem? hy
    have mb := MB.run (fun x hx => bx x hx) k (by omega)
    rw [run_take hy]
    generalize Mw.run t Mw.e (p.take k) = m at l2 mb
    have r1 := rsz_of (by omega) (bx y my) mb.a mb.b
    have r2 := rsz_of (by omega) (bx y my) mb.c mb.d
    have e1 := (prow_put y.1 (y.2 * t) m).1
    have e2 := (prow_put y.1 (y.2 * t) m).2
    refine ⟨[some (stp p), some (rv t), some (.loc n), some (.int y.1), some (rv y.2), c, d, e, f, h], rfl, ?_⟩
    refine ws_par (wp_call (wp_consA (wp_var rfl (wp_consA (wp_var rfl (wp_nilA (wp_is (fX y.2 t 900 900 (szP (sw.bd y my)) (szT bt) (by decide)) (wp_lst (wp_nilA ?_))))))))) 
    refine wp_ok (show newL [] s2 = .ok (.loc s2.length) (s2 ++ [.lst []]) from rfl) ?_
    have ne : ∀ v2 v3 v4 v5 v7 v8 v9, ev F g (.num (.bin .sub (.int (0)) (.idx (.var 6) (.int (0)))) (.idx (.var 6) (.int (1)))) [some (stp p), some (rv t), v2, v3, v4, v5, some (rv (y.2 * t)), v7, v8, v9] = pure (rv (-(y.2 * t))) := fun v2 v3 v4 v5 v7 v8 v9 => by
      rw [neg_rv]
      simp [ev, rv, ix_num0, ix_num1, sub_ii, pb]
    refine ws_asg (wp_is (ne _ _ _ _ _ _ _) ?_)
    obtain ⟨i, j, c1, c2, c3⟩ := l2
    have gn : ∀ ts : Sto, Gr s2 (s2 ++ ts) := fun ts => ⟨ts, rfl⟩
    refine ws_forU2 (wk_seq (n := n) (xs := [.loc i, .loc j]) (by rw [ev]; rfl) ((gn _).get c1) ⟨n, _, _, rfl, (gn _).get c1, ?_⟩)
    refine wp_bindL ((gn _).get c2) (row_ok fA fX r1 (xs := []) (ts := []) (by simp) ⟨_, rfl, (gn _).get c1, ?_⟩)
    refine wp_bindL ((gn _).get c3) (row_ok fA fX r2 (by simp) ⟨_, rfl, (gn _).get c1, ?_⟩)
    refine ws_asg (wp_var rfl (ws_nil (F := F) (gv := g) ⟨_, rfl, hk, s2.length, _, _, _, _, _, _, _, rfl, g2.trans (gn _), _, _, by simp; exact ⟨rfl, rfl⟩, ?_, ?_⟩))
    · rw [← e1]; simp
    · rw [← e2]; exact at3 s2 _ _ _
  · rintro env s2 ⟨_, n, a, b, c, d, e, f, h, rfl, g2, l2⟩
    rw [List.length_map, List.take_length] at l2
    exact ws_ret (wp_var rfl ⟨_, rfl, g2, n, rfl, l2⟩)
end
end K52
end
section
set_option Elab.async false
set_option linter.all false
set_option maxRecDepth 100000
namespace K52
open PySem PySem.Spec PyProof.Rows L2 Dd Sh Ms Mw
theorem eq_nil (q : Rat) : opC .eq (rv q) (.num 0 1) = pure (decide (q = 0)) := by
  show eqD1 (rv q) (.num 0 1) = _
  unfold eqD1 rv
  simp only [pyv]
  simp [SeqAt.shaped, PyData.canLay0, PyData.canLayAll0, PyData.depth, PyData.depthAll, PyData.eqv, PyData.eqvAll, pb]
  congr 2
  by_cases h : q = 0
  · subst h
    simp
  · have n : q.num ≠ 0 := fun e => h (Rat.num_eq_zero.mp e)
    simp [h, n]
theorem eq_rv (p q : Rat) : opC .eq (rv p) (rv q) = pure (decide (p = q)) := by
  show eqD1 (rv p) (rv q) = _
  unfold eqD1 rv
  simp only [pyv]
  simp [SeqAt.shaped, PyData.canLay0, PyData.canLayAll0, PyData.depth, PyData.depthAll, PyData.eqv, PyData.eqvAll, pb]
  congr 2
  by_cases h : p = q
  · subst h
    simp
  · have n : ¬(p.num = q.num ∧ p.den = q.den) := fun e => h (Rat.ext e.1 e.2)
    simp [h]
    intro a b
    exact n ⟨a, by omega⟩
end K52
end
section
set_option Elab.async false
set_option linter.all false
set_option maxRecDepth 100000
namespace K52
open PySem PySem.Spec PyProof.Rows L2 Dd Sh Ms Mw
structure Nm where
  f : Int
  ab : Int
  be : Int
  se : Int
  lo : Int
def nput (l many parts : Int) (x : Nm) : Nm := if l = 0 then ⟨parts * x.f, parts * x.ab + many * x.f, parts * x.be, parts * x.se + many * x.be, x.lo * parts⟩ else ⟨parts * x.f - many * x.ab, parts * x.ab, parts * x.be - many * x.se, parts * x.se, x.lo * parts⟩
def nms (t : Rat) (p : Ms.P) : Nm := p.foldl (fun x y => nput y.1 (y.2 * t).num (y.2 * t).den x) ⟨1, 0, 0, 1, 1⟩
def nmD (x : Nm) : Dv := .tup [.int x.f, .int x.ab, .int x.be, .int x.se, .int x.lo]
structure NB (Z : Nat) (x : Nm) : Prop where
  f : x.f.natAbs ≤ Z
  ab : x.ab.natAbs ≤ Z
  be : x.be.natAbs ≤ Z
  se : x.se.natAbs ≤ Z
  lo : x.lo.natAbs ≤ Z
structure NR (x : Nm) (m : Mt) : Prop where
  f : (x.f : Rat) = m.a * (x.lo : Rat)
  ab : (x.ab : Rat) = m.b * (x.lo : Rat)
  be : (x.be : Rat) = m.c * (x.lo : Rat)
  se : (x.se : Rat) = m.d * (x.lo : Rat)
  lo : 0 < x.lo
theorem one_le_ {Y X : Nat} {a b : Int} (ha : a.natAbs ≤ Y) (hb : b.natAbs ≤ X) : (a * b).natAbs ≤ X * (2 * Y) := by
  rw [Int.natAbs_mul]
  have := Nat.mul_le_mul ha hb
  have e : X * (2 * Y) = Y * X + Y * X := by rw [← Nat.two_mul, Nat.mul_comm Y X, Nat.mul_left_comm]
  omega
theorem lin_le {Y X : Nat} {a b c d : Int} (ha : a.natAbs ≤ Y) (hb : b.natAbs ≤ X) (hc : c.natAbs ≤ Y) (hd : d.natAbs ≤ X) : (a * b + c * d).natAbs ≤ X * (2 * Y) ∧ (a * b - c * d).natAbs ≤ X * (2 * Y) := by
  have h1 := Nat.mul_le_mul ha hb
  have h2 := Nat.mul_le_mul hc hd
  rw [← Int.natAbs_mul] at h1 h2
  have e : X * (2 * Y) = Y * X + Y * X := by rw [← Nat.two_mul, Nat.mul_comm Y X, Nat.mul_left_comm]
  omega
theorem NB.put {Y Z : Nat} {x : Nm} {l many parts : Int} (h : NB Z x) (hm : many.natAbs ≤ Y) (hp : parts.natAbs ≤ Y) : NB (Z * (2 * Y)) (nput l many parts x) := by
  have l1 : (x.lo * parts).natAbs ≤ Z * (2 * Y) := by rw [Int.mul_comm]; exact one_le_ hp h.lo
  unfold nput
  split
  · exact ⟨one_le_ hp h.f, (lin_le hp h.ab hm h.f).1, one_le_ hp h.be, (lin_le hp h.se hm h.be).1, l1⟩
  · exact ⟨(lin_le hp h.f hm h.ab).2, one_le_ hp h.ab, (lin_le hp h.be hm h.se).2, one_le_ hp h.se, l1⟩
theorem NR.put {x : Nm} {m : Mt} (l : Int) (s : Rat) (h : NR x m) : NR (nput l s.num s.den x) (put l s m) := by
  have e := div_num s
  have c : ((s.den : Int) : Rat) = (s.den : Rat) := rfl
  have pos : 0 < x.lo * (s.den : Int) := Int.mul_pos h.lo (by have := s.den_pos; omega)
  have h1 := h.f
  have h2 := h.ab
  have h3 := h.be
  have h4 := h.se
  unfold nput Mw.put
  by_cases z : l = 0
  · simp only [z, if_true]
    refine ⟨?_, ?_, ?_, ?_, pos⟩ <;> simp only [Rat.intCast_mul, Rat.intCast_add, c, h1, h2, h3, h4, ← e] <;> grind
  · simp only [z, if_false]
    refine ⟨?_, ?_, ?_, ?_, pos⟩ <;> simp only [Rat.intCast_mul, Rat.intCast_sub, c, h1, h2, h3, h4, ← e] <;> grind
theorem nms_take {t : Rat} {p : Ms.P} {i : Nat} {y : Pc} (h : p[i]? = some y) : nms t (p.take (i + 1)) = nput y.1 (y.2 * t).num (y.2 * t).den (nms t (p.take i)) := by
  unfold nms
  rw [List.take_add_one, h, List.foldl_append]
  rfl
theorem NR.one : NR ⟨1, 0, 0, 1, 1⟩ Mw.e := ⟨by decide +kernel, by decide +kernel, by decide +kernel, by decide +kernel, by decide⟩
theorem nms_r (t : Rat) (p : Ms.P) : ∀ i, i ≤ p.length → NR (nms t (p.take i)) (Mw.run t Mw.e (p.take i))
  | 0, _ => NR.one
  | i + 1, l => by
    have hy : p[i]? = some p[i] := List.getElem?_eq_getElem (by omega)
    rw [nms_take hy, run_take hy]
    exact (nms_r t p i (by omega)).put _ _
theorem nms_b {t : Rat} {p : Ms.P} {Y : Nat} (h : ∀ x ∈ p, (x.2 * t).num.natAbs ≤ Y ∧ (x.2 * t).den ≤ Y) : ∀ i, i ≤ p.length → NB ((2 * Y) ^ i) (nms t (p.take i))
  | 0, _ => ⟨by show 1 ≤ (2 * Y) ^ 0; exact Nat.le_refl _, Nat.zero_le _, Nat.zero_le _, by show 1 ≤ (2 * Y) ^ 0; exact Nat.le_refl _, by show 1 ≤ (2 * Y) ^ 0; exact Nat.le_refl _⟩
  | i + 1, l => by
    have hy : p[i]? = some p[i] := List.getElem?_eq_getElem (by omega)
    rw [nms_take hy, Nat.pow_succ]
    have := h _ (List.getElem_mem (show i < p.length by omega))
    exact (nms_b h i (by omega)).put this.1 (by rw [Int.natAbs_natCast]; exact this.2)
theorem pow_cap {i n : Nat} (h : i ≤ 45) (l : n ≤ (2 * 2 ^ 900) ^ i) : n < 2 ^ 40546 := by
  rw [Nat.mul_comm 2 (2 ^ 900), ← Nat.pow_succ, ← Nat.pow_mul] at l
  exact Nat.lt_of_le_of_lt l (Nat.pow_lt_pow_right (by decide) (by omega))
section
variable {F : Fs} {g : Str → Option Dv}
theorem wk_gv {e : E} {env : DEnv} {s : Sto} {xs : List Dv} {Q : Src → Sto → Prop} (h : Gv (ev F g e env) (.tup xs)) (q : ∀ s', Gr s s' → Q (.tup xs) s') : wp (evi F g (.seq e) env) Q s := by
  rw [evi]
  exact wp_bind.mpr (wp_gv h fun s' g' => wp_pure.mpr (q s' g'))
theorem ws_asgT {is : List Nat} {e : E} {r : Ss} {env : DEnv} {s : Sto} {Q : Fl → Sto → Prop} (h : wp (ev F g e env) (fun d s1 => ∃ env', bindT (.tp is) d env = some env' ∧ wp (exs F g r env') Q s1) s) : wp (exs F g (.cons (.asg (.tp is) e) r) env) Q s := by
  rw [exs_cons, ex, bind_assoc_M]
  refine wp_bind.mpr (wp_imp h fun d s1 ⟨env', e1, q⟩ => ?_)
  rw [e1, lift_some, pb, pb]
  exact q
def NumsU (F : Fs) : Prop := ∀ (p : Ms.P) (t : Rat), Sw 432000 416 45 p → Bd 1728 125 t → Gv (F i_swing_numbers [stp p, rv t]) (nmD (nms t (short p)))
def MulS (F : Fs) (i : Nat) : Prop := TimesS F i
theorem sh_bd {p : Ms.P} (sw : Sw 432000 416 45 p) : ∀ x ∈ short p, Bd 432000 18720 x.2 := fun x hx => (sw.fit.rs (to_short p)).bd hx
theorem big45 : Big 432000 (45 * 416) := ⟨by decide, by decide +kernel, by decide +kernel⟩
theorem sz_sh {q t : Rat} (b : Bd 432000 18720 q) (c : Bd 1728 125 t) : Sz 900 (q * t) := (b.mul c).sz (by decide) (by decide +kernel) (by decide +kernel)
theorem numbers_s (fS : ShortS F i_step_short) (fM : TimesS F i_multiplied) (p : Ms.P) (t : Rat) (sw : Sw 432000 416 45 p) (bt : Bd 1728 125 t) : Gv (runDef F g d_swing_numbers [stp p, rv t]) (nmD (nms t (short p))) := by
  have sl := Nat.le_trans (short_len p) sw.len
  have bs := sh_bd sw
  have szs : ∀ x ∈ short p, Sz 900 (x.2 * t) := fun x hx => sz_sh (bs x hx) bt
  have nb := nms_b (t := t) (p := short p) (Y := 2 ^ 900) (fun x hx => ⟨Nat.le_of_lt (szs x hx).1, Nat.le_of_lt (szs x hx).2⟩)
  refine gv_wp fun s => wp_run (env := [some (stp p), some (rv t), none, none, none, none, none, none, none, none, none]) rfl rfl ?_
  refine ws_asgT (wp_tup (wp_is (a := [.int 1, .int 0, .int 0, .int 1]) (by simp [evs, ev, pb]) (wp_mkT (by simp) ⟨_, rfl, ?_⟩)))
  refine ws_asg (wp_is (a := .int 1) (by rw [ev]) ?_)
  refine ws_forW (wk_gv (gv_call1 (gv_var rfl) (fS _ _ p big45 sw.fit sw.lt)) fun s1 g1 => ?_)
  refine ⟨fun i env s' => i ≤ (short p).length ∧ s' = s1 ∧ ∃ a b c d, env = [some (stp p), some (rv t), some (.int (nms t ((short p).take i)).lo), some (.int (nms t ((short p).take i)).f), some (.int (nms t ((short p).take i)).ab), some (.int (nms t ((short p).take i)).be), some (.int (nms t ((short p).take i)).se), a, b, c, d],
    (short p).map pc, Nat.le_refl _, ⟨Nat.zero_le _, rfl, _, _, _, _, rfl⟩, fun i env s' _ => rfl, ?_, ?_⟩
  · rintro i x env s2 hx ⟨_, rfl, a, b, c, d, rfl⟩
    obtain ⟨y, hy, rfl⟩ : ∃ y, (short p)[i]? = some y ∧ pc y = x := by
      rw [List.getElem?_map] at hx
      exact Option.map_eq_some_iff.mp hx
    have hi : i < (short p).length := (List.getElem?_eq_some_iff.mp hy).1
    have my := List.mem_of_getElem? hy
    have z := nb i (by omega)
    have sz := szs y my
    have nt := nms_take (t := t) hy
    generalize nms t ((short p).take i) = m at z nt
    have cap : ∀ {k : Int}, k.natAbs ≤ (2 * 2 ^ 900) ^ i → k.natAbs < 2 ^ 40546 := fun h => pow_cap (by omega) h
    have dd : (((y.2 * t).den : Nat) : Int).natAbs < 2 ^ 900 := by rw [Int.natAbs_natCast]; exact sz.2
    have mo : ∀ {a b : Int}, a.natAbs < 2 ^ 900 → b.natAbs ≤ (2 * 2 ^ 900) ^ i → mulOk a b = true := fun h1 h2 => mul_small h1 (cap h2) (by decide)
    have mo' : ∀ {a b : Int}, a.natAbs < 2 ^ 900 → b.natAbs ≤ (2 * 2 ^ 900) ^ i → mulOk b a = true := fun h1 h2 => mul_small (cap h2) h1 (by decide)
    refine ⟨[some (stp p), some (rv t), some (.int m.lo), some (.int m.f), some (.int m.ab), some (.int m.be), some (.int m.se), some (.int y.1), some (rv y.2), c, d], rfl, ?_⟩
    refine ws_asgT (wp_call (wp_consA (wp_var rfl (wp_consA (wp_var rfl (wp_nilA (wp_is (fM y.2 t 900 900 ((bs y my).sz (by decide) (by decide +kernel) (by decide +kernel)) (szT bt) (by decide)) ⟨_, rfl, ?_⟩)))))))
    generalize y.2 * t = r at sz dd nt
    refine ws_asg (wp_bin (wp_var rfl (wp_var rfl (wp_is (mul_ii (mo' dd z.lo)) ?_))))
    refine ws_if (wt_cmp (wp_var rfl (wp_is (a := .int 0) (by rw [ev]) (wp_is (eq_ii _ _) ?_))))
    by_cases l : y.1 = 0
    · rw [decide_eq_true l, if_pos rfl]
      refine ws_par (wp_bin (wp_bin (wp_var rfl (wp_var rfl (wp_is (mul_ii (mo dd z.ab)) (wp_bin (wp_var rfl (wp_var rfl (wp_is (mul_ii (mo sz.1 z.f)) (wp_is (add_ii _ _) ?_))))))))))
      refine wp_bin (wp_bin (wp_var rfl (wp_var rfl (wp_is (mul_ii (mo dd z.se)) (wp_bin (wp_var rfl (wp_var rfl (wp_is (mul_ii (mo sz.1 z.be)) (wp_is (add_ii _ _) ?_)))))))))
      refine ws_par (wp_bin (wp_var rfl (wp_var rfl (wp_is (mul_ii (mo dd z.f)) (wp_bin (wp_var rfl (wp_var rfl (wp_is (mul_ii (mo dd z.be)) ?_))))))))
      refine ws_nil (F := F) (gv := g) (ws_nil (F := F) (gv := g) ⟨_, rfl, hi, rfl, some (.int y.1), some (rv y.2), some (.int r.num), some (.int r.den), ?_⟩)
      rw [nt]
      unfold nput
      rw [if_pos l]
      rfl
    · rw [decide_eq_false l, if_neg (by simp)]
      refine ws_par (wp_bin (wp_bin (wp_var rfl (wp_var rfl (wp_is (mul_ii (mo dd z.f)) (wp_bin (wp_var rfl (wp_var rfl (wp_is (mul_ii (mo sz.1 z.ab)) (wp_is (sub_ii _ _) ?_))))))))))
      refine wp_bin (wp_bin (wp_var rfl (wp_var rfl (wp_is (mul_ii (mo dd z.be)) (wp_bin (wp_var rfl (wp_var rfl (wp_is (mul_ii (mo sz.1 z.se)) (wp_is (sub_ii _ _) ?_)))))))))
      refine ws_par (wp_bin (wp_var rfl (wp_var rfl (wp_is (mul_ii (mo dd z.ab)) (wp_bin (wp_var rfl (wp_var rfl (wp_is (mul_ii (mo dd z.se)) ?_))))))))
      refine ws_nil (F := F) (gv := g) (ws_nil (F := F) (gv := g) ⟨_, rfl, hi, rfl, some (.int y.1), some (rv y.2), some (.int r.num), some (.int r.den), ?_⟩)
      rw [nt]
      unfold nput
      rw [if_neg l]
      rfl
  · rintro env s2 ⟨_, rfl, a, b, c, d, rfl⟩
    rw [List.length_map, List.take_length]
    exact ws_ret (wp_tup (wp_is (a := [_, _, _, _, _]) (by simp [evs, ev, pb]) (wp_mkT (by simp) ⟨_, rfl, rfl, g1⟩)))
end
end K52
end
section
set_option Elab.async false
set_option linter.all false
set_option maxRecDepth 100000
namespace K52
open PySem PySem.Spec PyProof.Rows L2 Dd Sh Ms Mw
def SwungC (F : Fs) : Prop := ∀ (p : Ms.P), Sw 432000 416 45 p → Gv (F i_check_swung [stp p]) .non
def TimeC (F : Fs) : Prop := ∀ t : Rat, 0 < t.num → Gv (F i_check_time [rv t]) .non
section
variable {F : Fs} {g : Str → Option Dv}
theorem swungc_s (fC : CheckS F) (fT : HasTwoS F) (p : Ms.P) (sw : Sw 432000 416 45 p) : Gv (runDef F g d_check_swung [stp p]) .non := by
  have two : (p.any fun x => decide (x.1 = 2)) = false := by
    rw [List.any_eq_false]
    intro x hx
    have := sw.l1 x hx
    simp only [decide_eq_true_eq]
    omega
  have ht := fT p sw.lt
  rw [two] at ht
  exact gv_runN rfl rfl (gv_ex (gv_call1 (gv_var rfl) (fC p sw.lt)) (gv_if (t := false) (env' := [some (stp p)]) (gv_tcall (ds := [stp p]) (by simp [evs, ev, pb]) ht) (fun h => nomatch h) (fun _ => gv_nil _) (gv_nil _)))
theorem timec_s (fK : IsFracS F i_is_fraction) (t : Rat) (h : 0 < t.num) : Gv (runDef F g d_check_time [rv t]) .non := by
  have nl : ¬ t.num ≤ 0 := by omega
  refine gv_runN rfl rfl (gv_if (t := false) (env' := [some (rv t)]) (gv_wp fun s => ?_) (fun h => nomatch h) (fun _ => gv_nil _) (gv_nil _))
  refine wt_or (wt_not (wt_call (wp_consA (wp_var rfl (wp_nilA (wp_is (fK t) (wp_is (a := true) rfl ?_)))))))
  rw [if_neg (by simp)]
  refine wt_cmp (wp_idx (wp_var rfl (wp_is (a := .int 0) (by rw [ev]) (wp_is (rv0 _) (wp_is (a := .int 0) (by rw [ev]) (wp_is (le_ii _ _) ?_))))))
  rw [decide_eq_false nl]
  exact ⟨rfl, .refl _⟩
end
end K52
end
section
set_option Elab.async false
set_option linter.all false
set_option maxRecDepth 100000
namespace K52
open PySem PySem.Spec PyProof.Rows L2 Dd Sh Ms Mw
/-! rules -/
section
variable {F : Fs} {g : Str → Option Dv}
theorem whl_go {c : E} {b r : Ss} {Q : Fl → Sto → Prop} (I : Nat → DEnv → Sto → Prop) (step : ∀ j env s, I j env s → wp (tst F g c env) (fun t s1 => if t = true then ∃ i, j = i + 1 ∧ wp (exs F g b env) (fun fl s2 => ∃ e, fl = .nx e ∧ I i e s2) s1 else wp (exs F g r env) Q s1) s) :
    ∀ (j m : Nat) (env : DEnv) (s : Sto), j < m → I j env s → wp (whileRun (tst F g c) (exs F g b) m env) (fun fl s' => ∃ e, fl = .nx e ∧ wp (exs F g r e) Q s') s
  | j, 0, _, _, h, _ => absurd h (Nat.not_lt_zero _)
  | j, m + 1, env, s, h, i0 => by
    rw [while_unf]
    refine wp_bind.mpr (wp_imp (step j env s i0) fun t s1 ht => ?_)
    cases t with
    | false =>
      rw [if_neg (by simp)] at ht
      rw [if_neg (by simp)]
      exact wp_pure.mpr ⟨env, rfl, ht⟩
    | true =>
      rw [if_pos rfl] at ht
      rw [if_pos rfl]
      obtain ⟨i, rfl, w⟩ := ht
      refine wp_bind.mpr (wp_imp w fun fl s2 ⟨e, e1, h2⟩ => ?_)
      subst e1
      exact whl_go I step i m e s2 (by omega) h2
theorem ws_whl {c : E} {b r : Ss} {env : DEnv} {s : Sto} {Q : Fl → Sto → Prop} (I : Nat → DEnv → Sto → Prop) (j : Nat) (hj : j < 1000000000) (h0 : I j env s) (step : ∀ j env s, I j env s → wp (tst F g c env) (fun t s1 => if t = true then ∃ i, j = i + 1 ∧ wp (exs F g b env) (fun fl s2 => ∃ e, fl = .nx e ∧ I i e s2) s1 else wp (exs F g r env) Q s1) s) : wp (exs F g (.cons (.whl c b) r) env) Q s := by
  rw [exs_cons, ex]
  refine wp_bind.mpr (wp_imp (whl_go I step j whileFuel env s hj h0) fun fl s' ⟨e, e1, h⟩ => ?_)
  subst e1
  exact h
theorem lst_len {n : Nat} {xs : List Dv} {s : Sto} {Q : Dv → Sto → Prop} (h : s[n]? = some (.lst xs)) (q : Q (.int (xs.length : Nat)) s) : wp (bltD .len [.loc n]) Q s := by
  refine wp_ok ?_ q
  show ((lstOf n >>= fun xs => pure (Dv.int xs.length)) : M Dv) s = _
  rw [bind_ok_of (lstOf_ok h)]; rfl
theorem lst_take {n k : Nat} {xs : List Dv} {s : Sto} {Q : Dv → Sto → Prop} (h : s[n]? = some (.lst xs)) (z : xs.length ≤ 1000000) (q : ∀ m s', Gr s s' → s'[m]? = some (.lst (xs.take k)) → Q (.loc m) s') : wp (slD (.loc n) none (some ((k : Nat) : Int))) Q s := by
  show wp (lstOf n >>= fun xs => newL (Dd.cutD xs none (some (k : Int)))) Q s
  refine wp_bind.mpr (wp_ok (lstOf_ok h) ?_)
  have e : Dd.cutD xs none (some ((k : Nat) : Int)) = xs.take k := by
    unfold Dd.cutD
    rw [HT.sIx_none, HT.sIx_nat, List.drop_zero, Nat.sub_zero]
    by_cases c : k ≤ xs.length
    · rw [Nat.min_eq_left c]
    · rw [Nat.min_eq_right (by omega), List.take_of_length_le (Nat.le_refl _), List.take_of_length_le (by omega)]
  rw [e]
  exact wp_newL (by rw [List.length_take]; omega) q
theorem walk_zip {n m : Nat} {xs ys : List Dv} {s1 : Sto} (h : s1[n]? = some (.lst xs)) (k : s1[m]? = some (.lst ys)) : Walk (.zipL n m) s1 (List.zipWith (fun x y => .tup [x, y]) xs ys) := by
  refine ⟨fun s gr i => ?_, ?_⟩
  · show (match s[n]?, s[m]? with
      | some (.lst xs), some (.lst ys) => some (match xs[i]?, ys[i]? with
        | some x, some y => some (Dv.tup [x, y])
        | _, _ => none)
      | _, _ => none) = _
    rw [gr.get h, gr.get k, List.getElem?_zipWith]
    dsimp only
    generalize xs[i]? = a
    generalize ys[i]? = b
    cases a <;> cases b <;> rfl
  · show _ ≤ (match s1[n]? with
      | some (.lst xs) => xs.length
      | _ => 0)
    rw [h]
    simp only [List.length_zipWith]
    exact Nat.min_le_left _ _
theorem wk_zip {a b : E} {env : DEnv} {s : Sto} {Q : Src → Sto → Prop} (h : wp (ev F g a env) (fun x s1 => wp (ev F g b env) (fun y s2 => ∃ n m xs ys, x = .loc n ∧ y = .loc m ∧ s2[n]? = some (.lst xs) ∧ s2[m]? = some (.lst ys) ∧ Q (.zipL n m) s2) s1) s) : wp (evi F g (.zip a b) env) Q s := by
  rw [evi]
  refine wp_bind.mpr (wp_imp h fun x s1 h => wp_bind.mpr (wp_imp h fun y s2 ⟨n, m, xs, ys, e1, e2, c1, c2, q⟩ => ?_))
  subst e1 e2
  refine wp_bind.mpr (wp_ok (getC_ok c1) (wp_bind.mpr (wp_ok (getC_ok c2) ?_)))
  exact wp_pure.mpr q
theorem wk_enum {a : E} {env : DEnv} {s : Sto} {Q : Src → Sto → Prop} (h : wp (ev F g a env) (fun x s1 => ∃ n xs, x = .loc n ∧ s1[n]? = some (.lst xs) ∧ Q (.enumL n) s1) s) : wp (evi F g (.enum a) env) Q s := by
  rw [evi]
  refine wp_bind.mpr (wp_imp h fun x s1 ⟨n, xs, e1, c1, q⟩ => ?_)
  subst e1
  refine wp_bind.mpr (wp_ok (getC_ok c1) ?_)
  exact wp_pure.mpr q
theorem repl_flat (k : Nat) (d : Dv) : (List.replicate k [d]).flatten = List.replicate k d := by
  induction k with
  | zero => rfl
  | succ k ih => rw [List.replicate_succ, List.flatten_cons, ih, List.replicate_succ]; rfl
/-- [d] * k -/
theorem wp_mulL {n : Nat} {d : Dv} {k : Int} {s : Sto} {Q : Dv → Sto → Prop} (h : s[n]? = some (.lst [d])) (k0 : 0 ≤ k) (k1 : k ≤ 1000) (q : ∀ m s', Gr s s' → s'[m]? = some (.lst (List.replicate k.toNat d)) → Q (.loc m) s') : wp (opB .mul (.loc n) (.int k)) Q s := by
  show wp (getC n >>= fun c => match c with
    | .lst xs => if 0 ≤ k ∧ k ≤ 1000 ∧ xs.length ≤ 1000 then newL ((List.replicate k.toNat xs).flatten) else fail
    | _ => fail) Q s
  refine wp_bind.mpr (wp_ok (getC_ok h) ?_)
  show wp (if 0 ≤ k ∧ k ≤ 1000 ∧ [d].length ≤ 1000 then newL ((List.replicate k.toNat [d]).flatten) else fail) Q s
  rw [if_pos ⟨k0, k1, by simp⟩, repl_flat]
  exact wp_newL (by rw [List.length_replicate]; omega) q
end
/-! a list of whole numbers without noughts at its end -/
def tl (xs : List Int) : Nat → Nat
  | 0 => 0
  | k + 1 => if xs.getD k 0 = 0 then tl xs k else k + 1
def trim (xs : List Int) : List Int := xs.take (tl xs xs.length)
theorem tl_le (xs : List Int) : ∀ k, tl xs k ≤ k
  | 0 => Nat.le_refl _
  | k + 1 => by
    unfold tl
    split
    · exact Nat.le_succ_of_le (tl_le xs k)
    · exact Nat.le_refl _
theorem tl_out (xs : List Int) : ∀ k i, tl xs k ≤ i → i < k → xs.getD i 0 = 0
  | 0, i, _, h => absurd h (Nat.not_lt_zero _)
  | k + 1, i, h1, h2 => by
    unfold tl at h1
    split at h1
    · rename_i z
      by_cases c : i = k
      · rw [c]; exact z
      · exact tl_out xs k i h1 (by omega)
    · omega
theorem tl_top (xs : List Int) : ∀ k j, tl xs k = j + 1 → xs.getD j 0 ≠ 0
  | 0, j, h => nomatch h
  | k + 1, j, h => by
    unfold tl at h
    split at h
    · exact tl_top xs k j h
    · rename_i z
      have : k = j := by omega
      rw [← this]; exact z
theorem trim_at (xs : List Int) (k : Nat) : (trim xs).getD k 0 = xs.getD k 0 := by
  unfold trim
  rw [List.getD_eq_getElem?_getD, List.getElem?_take, List.getD_eq_getElem?_getD]
  split
  · rfl
  · rename_i h
    by_cases c : k < xs.length
    · have := tl_out xs xs.length k (by omega) c
      rw [List.getD_eq_getElem?_getD] at this
      rw [this]; rfl
    · rw [List.getElem?_eq_none (by omega)]
theorem trim_len (xs : List Int) : (trim xs).length ≤ xs.length := by unfold trim; rw [List.length_take]; exact Nat.min_le_right _ _
theorem trim_top (xs : List Int) : (trim xs).getLast? ≠ some 0 := by
  unfold trim
  cases e : tl xs xs.length with
  | zero => simp
  | succ j =>
    have lt := tl_le xs xs.length
    have z := tl_top xs _ j e
    rw [List.getLast?_eq_getElem?, List.length_take, Nat.min_eq_left (by omega), List.getElem?_take, if_pos (by omega)]
    intro h
    apply z
    rw [List.getD_eq_getElem?_getD, show j = j + 1 - 1 by omega, h]
    rfl
def iL (xs : List Int) : List Dv := xs.map .int
def TrimU (F : Fs) : Prop := ∀ (n : Nat) (xs : List Int) (s : Sto), s[n]? = some (.lst (iL xs)) → xs.length ≤ 1000 → wp (F i_trimmed [.loc n]) (fun d s' => Gr s s' ∧ ∃ m, d = .loc m ∧ s'[m]? = some (.lst (iL (trim xs)))) s
section
variable {F : Fs} {g : Str → Option Dv}
theorem iL_at {xs : List Int} {k : Nat} (h : k < xs.length) : atI (iL xs) ((k : Nat) : Int) = some (.int (xs.getD k 0)) := by
  refine atI_nat ?_
  unfold iL
  rw [List.getElem?_map, List.getElem?_eq_getElem h, List.getD_eq_getElem?_getD, List.getElem?_eq_getElem h]
  rfl
theorem trimmed_s (n : Nat) (xs : List Int) (s : Sto) (h : s[n]? = some (.lst (iL xs))) (l : xs.length ≤ 1000) : wp (runDef F g d_trimmed [.loc n]) (fun d s' => Gr s s' ∧ ∃ m, d = .loc m ∧ s'[m]? = some (.lst (iL (trim xs)))) s := by
  have il : (iL xs).length = xs.length := List.length_map _
  refine wp_run (env := [some (.loc n), none]) rfl rfl ?_
  refine ws_asg (wp_blt (wp_consA (wp_var rfl (wp_nilA (lst_len h ?_)))))
  rw [il]
  refine ws_whl (fun j env s' => s' = s ∧ j ≤ xs.length ∧ env = [some (.loc n), some (.int (j : Nat))] ∧ tl xs xs.length = tl xs j) xs.length (by omega) ⟨rfl, Nat.le_refl _, rfl, rfl⟩ ?_
  rintro j env s' ⟨rfl, hj, rfl, e⟩
  refine wt_and (wt_cmp (wp_var rfl (wp_is (a := .int 0) (by rw [ev]) (wp_is (gt_ii _ _) ?_))))
  have fin : tl xs xs.length = j → wp (exs F g (.cons (.ret (.sl (.var 0) .none (.some (.var 1)))) .nil) [some (.loc n), some (.int (j : Nat))]) (fun fl s1 => ∃ v, fl = .rt v ∧ Gr s' s1 ∧ ∃ m, v = .loc m ∧ s1[m]? = some (.lst (iL (trim xs)))) s' := fun ej => by
    refine ws_ret ?_
    refine wp_eq (m' := slD (.loc n) none (some ((j : Nat) : Int))) (by simp [ev, evo, pb]) ?_
    refine lst_take h (by rw [il]; omega) fun m s1 g1 c1 => ⟨_, rfl, g1, m, rfl, ?_⟩
    rw [c1]
    unfold iL trim
    rw [List.map_take, ej]
  cases j with
  | zero =>
    rw [decide_eq_false (by simp), if_neg (by simp), if_neg (by simp)]
    exact fin e
  | succ i =>
    rw [decide_eq_true (by omega), if_pos rfl]
    refine wt_cmp (wp_idx (wp_var rfl (wp_bin (wp_var rfl (wp_is (a := .int 1) (by rw [ev]) (wp_is (sub_ii _ _) ?_)))))) 
    rw [show (((i + 1 : Nat) : Int) - 1) = ((i : Nat) : Int) by omega]
    refine wp_ok (idx_loc h (iL_at (by omega))) (wp_is (a := .int 0) (by rw [ev]) (wp_is (eq_ii _ _) ?_))
    by_cases z : xs.getD i 0 = 0
    · rw [decide_eq_true z, if_pos rfl]
      refine ⟨i, rfl, ws_asg (wp_bin (wp_var rfl (wp_is (a := .int 1) (by rw [ev]) (wp_is (sub_ii _ _) ?_))))⟩
      rw [show (((i + 1 : Nat) : Int) - 1) = ((i : Nat) : Int) by omega]
      refine ws_nil (F := F) (gv := g) ⟨_, rfl, rfl, by omega, rfl, ?_⟩
      rw [e]
      conv => lhs; unfold tl
      rw [if_pos z]
    · rw [decide_eq_false z, if_neg (by simp)]
      refine fin ?_
      rw [e]
      conv => lhs; unfold tl
      rw [if_neg z]
end
end K52
end
section
set_option Elab.async false
set_option linter.all false
set_option maxRecDepth 100000
namespace K52
open PySem PySem.Spec PyProof.Rows L2 Dd Sh Ms Mw
def big (xs ys : List Int) : Nat := if xs.length < ys.length then ys.length else xs.length
def padTo (k : Nat) (xs : List Int) : List Int := xs ++ List.replicate (k - xs.length) 0
def padd (xs ys : List Int) (c : Int) : List Int := (List.zip (padTo (big xs ys) xs) (padTo (big xs ys) ys)).map fun p => p.1 + c * p.2
theorem padTo_len {k : Nat} {xs : List Int} (h : xs.length ≤ k) : (padTo k xs).length = k := by unfold padTo; rw [List.length_append, List.length_replicate]; omega
theorem padTo_at (k : Nat) (xs : List Int) (i : Nat) : (padTo k xs).getD i 0 = xs.getD i 0 := by
  unfold padTo
  rw [List.getD_eq_getElem?_getD, List.getD_eq_getElem?_getD]
  by_cases c : i < xs.length
  · rw [List.getElem?_append_left c]
  · rw [List.getElem?_append_right (by omega), List.getElem?_eq_none (l := xs) (by omega), List.getElem?_replicate]
    split <;> rfl
theorem big_l (xs ys : List Int) : xs.length ≤ big xs ys := by unfold big; split <;> omega
theorem big_r (xs ys : List Int) : ys.length ≤ big xs ys := by unfold big; split <;> omega
theorem padd_len (xs ys : List Int) (c : Int) : (padd xs ys c).length = big xs ys := by
  unfold padd
  rw [List.length_map, List.length_zip, padTo_len (big_l _ _), padTo_len (big_r _ _), Nat.min_self]
theorem padd_at (xs ys : List Int) (c : Int) (k : Nat) : (padd xs ys c).getD k 0 = xs.getD k 0 + c * ys.getD k 0 := by
  rw [← padTo_at (big xs ys) xs k, ← padTo_at (big xs ys) ys k]
  have l1 := padTo_len (big_l xs ys)
  have l2 := padTo_len (big_r xs ys)
  unfold padd
  generalize padTo (big xs ys) xs = X at l1
  generalize padTo (big xs ys) ys = Y at l2
  rw [List.getD_eq_getElem?_getD, List.getD_eq_getElem?_getD, List.getD_eq_getElem?_getD, List.getElem?_map]
  by_cases h : k < big xs ys
  · rw [List.getElem?_eq_getElem (by rw [List.length_zip]; omega), List.getElem?_eq_getElem (l := X) (by omega), List.getElem?_eq_getElem (l := Y) (by omega), List.getElem_zip]
    rfl
  · rw [List.getElem?_eq_none (by rw [List.length_zip]; omega), List.getElem?_eq_none (l := X) (by omega), List.getElem?_eq_none (l := Y) (by omega)]
    simp
theorem iL_len (xs : List Int) : (iL xs).length = xs.length := List.length_map _
theorem iL_pad (k : Nat) (xs : List Int) : iL xs ++ List.replicate k (.int 0) = iL (xs ++ List.replicate k 0) := by
  unfold iL
  rw [List.map_append, List.map_replicate]
def Bn (xs : List Int) : Prop := ∀ x ∈ xs, x.natAbs < 2 ^ 40546
theorem pad_mem {k : Nat} {ys : List Int} (h : Bn ys) : Bn (padTo k ys) := fun x hx => by
  unfold padTo at hx
  rcases List.mem_append.mp hx with hx | hx
  · exact h x hx
  · rw [(List.mem_replicate.mp hx).2]
    exact Nat.two_pow_pos _
def PolyU (F : Fs) : Prop := ∀ (n m : Nat) (xs ys : List Int) (c : Int) (s : Sto), s[n]? = some (.lst (iL xs)) → s[m]? = some (.lst (iL ys)) → xs.length ≤ 500 → ys.length ≤ 500 → c.natAbs < 2 ^ 900 → Bn ys → wp (F i_poly_plus [.loc n, .loc m, .int c]) (fun d s' => Gr s s' ∧ ∃ k, d = .loc k ∧ s'[k]? = some (.lst (iL (trim (padd xs ys c))))) s
section
variable {F : Fs} {g : Str → Option Dv}
theorem pad_s {i : Nat} {n : Nat} {xs : List Int} {K : Nat} {env : DEnv} {s : Sto} {Q : Dv → Sto → Prop} (e1 : env[i]? = some (some (.loc n))) (e2 : env[3]? = some (some (.int (K : Nat)))) (h : s[n]? = some (.lst (iL xs))) (l : xs.length ≤ K) (z : K ≤ 500) (q : ∀ m s', Gr s s' → s'[m]? = some (.lst (iL (padTo K xs))) → Q (.loc m) s') :
    wp (ev F g (.bin .add (.var i) (.bin .mul (.lst (.cons (.int (0)) .nil)) (.bin .sub (.var 3) (.blt .len (.cons (.var i) .nil))))) env) Q s := by
  refine wp_bin (wp_var e1 (wp_bin (wp_lst (wp_consA (wp_is (a := .int 0) (by rw [ev]) (wp_nilA (wp_newL (by simp) fun m1 s1 g1 c1 => ?_)))))))
  refine wp_bin (wp_var e2 (wp_blt (wp_consA (wp_var e1 (wp_nilA (lst_len (g1.get h) (wp_is (sub_ii _ _) ?_)))))))
  rw [iL_len]
  refine wp_mulL c1 (by omega) (by omega) fun m2 s2 g2 c2 => ?_
  have et : ((K : Int) - (xs.length : Int)).toNat = K - xs.length := by omega
  rw [et] at c2
  refine wp_addL ((g1.trans g2).get h) c2 (by rw [iL_len, List.length_replicate]; omega) fun k s3 g3 c3 => q k s3 ((g1.trans g2).trans g3) ?_
  rw [c3, iL_pad]
  rfl
theorem polyplus_s (fT : TrimU F) (n m : Nat) (xs ys : List Int) (c : Int) (s : Sto) (hn : s[n]? = some (.lst (iL xs))) (hm : s[m]? = some (.lst (iL ys))) (lx : xs.length ≤ 500) (ly : ys.length ≤ 500) (hc : c.natAbs < 2 ^ 900) (hb : Bn ys) : wp (runDef F g d_poly_plus [.loc n, .loc m, .int c]) (fun d s' => Gr s s' ∧ ∃ k, d = .loc k ∧ s'[k]? = some (.lst (iL (trim (padd xs ys c))))) s := by
  refine wp_run (env := [some (.loc n), some (.loc m), some (.int c), none, none, none, none, none]) rfl rfl ?_
  have bl := big_l xs ys
  have br := big_r xs ys
  have bz : big xs ys ≤ 500 := by unfold big; split <;> omega
  refine ws_asg (wp_blt (wp_consA (wp_blt (wp_consA (wp_var rfl (wp_nilA (lst_len hn ?_)))))))
  refine wp_consA (wp_blt (wp_consA (wp_var rfl (wp_nilA (lst_len hm ?_)))))
  rw [iL_len, iL_len]
  refine wp_nilA (wp_is (a := .int (big xs ys : Nat)) ?_ ?_)
  · show (pure (Dv.int (if ((ys.length : Nat) : Int) > ((xs.length : Nat) : Int) then ((ys.length : Nat) : Int) else ((xs.length : Nat) : Int))) : M Dv) = _
    congr 2
    unfold big
    split <;> split <;> omega
  refine ws_asg (pad_s rfl rfl hn bl bz fun m1 s1 g1 c1 => ?_)
  refine ws_asg (pad_s rfl rfl (g1.get hm) br bz fun m2 s2 g2 c2 => ?_)
  have zl : (List.zip (padTo (big xs ys) xs) (padTo (big xs ys) ys)).length = big xs ys := by rw [List.length_zip, padTo_len bl, padTo_len br, Nat.min_self]
  refine ws_ret (wp_call (wp_consA (wp_comp0 (g := fun p : Int × Int => .tup [.int p.1, .int p.2]) (f := fun p => .int (p.1 + c * p.2)) (all := List.zip (padTo (big xs ys) xs) (padTo (big xs ys) ys)) (by omega) (wk_zip (wp_var rfl (wp_var rfl ⟨m1, m2, _, _, rfl, rfl, g2.get c1, c2, .refl _, ?_, fun p hp => ⟨[some (.loc n), some (.loc m), some (.int c), some (.int (big xs ys : Nat)), some (.loc m1), some (.loc m2), some (.int p.1), some (.int p.2)], rfl, fun s4 g4 => ?_⟩⟩))) fun k s3 g3 c3 => ?_)))
  · have := walk_zip (g2.get c1) c2
    have e : (List.zip (padTo (big xs ys) xs) (padTo (big xs ys) ys)).map (fun p : Int × Int => Dv.tup [.int p.1, .int p.2]) = List.zipWith (fun x y => Dv.tup [x, y]) (iL (padTo (big xs ys) xs)) (iL (padTo (big xs ys) ys)) := by
      unfold iL
      rw [List.zipWith_map, List.zip, List.map_zipWith]
    rw [e]
    exact this
  · have mo : mulOk c p.2 = true := mul_small hc (pad_mem hb _ (List.of_mem_zip hp).2) (by decide)
    exact wp_bin (wp_var rfl (wp_bin (wp_var rfl (wp_var rfl (wp_is (mul_ii mo) (wp_is (add_ii _ _) ⟨.refl _, rfl⟩))))))
  · have e : (List.zip (padTo (big xs ys) xs) (padTo (big xs ys) ys)).map (fun p : Int × Int => Dv.int (p.1 + c * p.2)) = iL (padd xs ys c) := by
      unfold iL padd
      rw [List.map_map]
      rfl
    rw [e] at c3
    refine wp_nilA (wp_imp (fT k _ s3 c3 (by rw [padd_len]; omega)) fun d s5 ⟨g5, j, e5, c5⟩ => ?_)
    subst e5
    exact ⟨_, rfl, ((g1.trans g2).trans g3).trans g5, j, rfl, c5⟩
end
end K52
end
section
set_option Elab.async false
set_option linter.all false
set_option maxRecDepth 100000
namespace K52
open PySem PySem.Spec PyProof.Rows L2 Dd Sh Ms Mw
structure Pl where
  a : List Int
  b : List Int
  c : List Int
  d : List Int
  lo : Int
def sc (k : Int) (xs : List Int) : List Int := xs.map (k * ·)
def pstep (l many parts : Int) (x : Pl) : Pl := if l = 0 then ⟨sc parts x.a, trim (padd (sc parts x.b) x.a many), sc parts x.c, trim (padd (sc parts x.d) (0 :: x.c) many), x.lo * parts⟩
  else ⟨trim (padd (sc parts x.a) (0 :: x.b) (-many)), sc parts x.b, trim (padd (sc parts x.c) x.d (-many)), sc parts x.d, x.lo * parts⟩
def pls (p : Ms.P) : Pl := p.foldl (fun x y => pstep y.1 y.2.num y.2.den x) ⟨[1], [], [], [1], 1⟩
theorem pls_take {p : Ms.P} {i : Nat} {y : Pc} (h : p[i]? = some y) : pls (p.take (i + 1)) = pstep y.1 y.2.num y.2.den (pls (p.take i)) := by
  unfold pls
  rw [List.take_add_one, h, List.foldl_append]
  rfl
theorem sc_at (k : Int) (xs : List Int) (i : Nat) : (sc k xs).getD i 0 = k * xs.getD i 0 := by
  unfold sc
  rw [List.getD_eq_getElem?_getD, List.getD_eq_getElem?_getD, List.getElem?_map]
  cases xs[i]? with
  | none => simp
  | some x => rfl
theorem sc_top {k : Int} {xs : List Int} (hk : k ≠ 0) (h : xs.getLast? ≠ some 0) : (sc k xs).getLast? ≠ some 0 := by
  unfold sc
  rw [List.getLast?_map]
  cases e : xs.getLast? with
  | none => simp
  | some x =>
    rw [e] at h
    intro w
    have w : k * x = 0 := Option.some.inj w
    rcases Int.mul_eq_zero.mp w with w | w
    · exact hk w
    · exact h (by rw [w])
/-! what the lists are -/
structure Lst (Z n : Nat) (xs : List Int) : Prop where
  len : xs.length ≤ n
  bd : ∀ x ∈ xs, x.natAbs ≤ Z
  top : xs.getLast? ≠ some 0
theorem getD_bd {Z : Nat} {xs : List Int} (h : ∀ x ∈ xs, x.natAbs ≤ Z) (k : Nat) : (xs.getD k 0).natAbs ≤ Z := by
  rw [List.getD_eq_getElem?_getD]
  cases e : xs[k]? with
  | none => exact Nat.zero_le _
  | some x => exact h x (List.mem_of_getElem? e)
theorem mem_getD {xs : List Int} {x : Int} (h : x ∈ xs) : ∃ k, xs.getD k 0 = x := by
  obtain ⟨k, hk, e⟩ := List.mem_iff_getElem.mp h
  exact ⟨k, by rw [List.getD_eq_getElem?_getD, List.getElem?_eq_getElem hk]; exact e⟩
theorem Lst.sc {Z n Y : Nat} {xs : List Int} {k : Int} (h : Lst Z n xs) (k0 : k ≠ 0) (hk : k.natAbs ≤ Y) : Lst (Z * (2 * Y)) (n + 1) (sc k xs) := ⟨by unfold K52.sc; rw [List.length_map]; exact Nat.le_succ_of_le h.len, fun x hx => by
  unfold K52.sc at hx
  obtain ⟨y, hy, rfl⟩ := List.mem_map.mp hx
  exact one_le_ hk (h.bd y hy), sc_top k0 h.top⟩
theorem cons_bd {Z : Nat} {xs : List Int} (h : ∀ x ∈ xs, x.natAbs ≤ Z) : ∀ x ∈ (0 : Int) :: xs, x.natAbs ≤ Z := fun x hx => by
  rcases List.mem_cons.mp hx with rfl | hx
  · exact Nat.zero_le _
  · exact h x hx
theorem Lst.mix {Z n Y : Nat} {xs ys : List Int} {k c : Int} (h : Lst Z n xs) (ly : ys.length ≤ n + 1) (hy : ∀ x ∈ ys, x.natAbs ≤ Z) (hk : k.natAbs ≤ Y) (hc : c.natAbs ≤ Y) : Lst (Z * (2 * Y)) (n + 1) (trim (padd (K52.sc k xs) ys c)) := by
  refine ⟨?_, fun x hx => ?_, trim_top _⟩
  · have := trim_len (padd (K52.sc k xs) ys c)
    rw [padd_len] at this
    have e : (K52.sc k xs).length = xs.length := List.length_map _
    have := h.len
    unfold big at *
    split at * <;> omega
  · obtain ⟨i, rfl⟩ := mem_getD hx
    rw [trim_at, padd_at, sc_at]
    exact (lin_le hk (getD_bd h.bd i) hc (getD_bd hy i)).1
structure PB (Z W n : Nat) (x : Pl) : Prop where
  a : Lst Z n x.a
  b : Lst Z n x.b
  c : Lst Z n x.c
  d : Lst Z n x.d
  lo : x.lo.natAbs ≤ W
  pos : 0 < x.lo
theorem PB.step {Z W n Y V : Nat} {x : Pl} {l many parts : Int} (h : PB Z W n x) (hm : many.natAbs ≤ Y) (hp : parts.natAbs ≤ Y) (hv : parts.natAbs ≤ V) (p0 : 0 < parts) : PB (Z * (2 * Y)) (W * V) (n + 1) (pstep l many parts x) := by
  have l1 : (x.lo * parts).natAbs ≤ W * V := by rw [Int.natAbs_mul]; exact Nat.mul_le_mul h.lo hv
  have l2 : 0 < x.lo * parts := Int.mul_pos h.pos p0
  have ne : parts ≠ 0 := by omega
  have c1 : ∀ {xs : List Int}, Lst Z n xs → ((0 : Int) :: xs).length ≤ n + 1 := fun h => by rw [List.length_cons]; have := h.len; omega
  have c2 : ∀ {xs : List Int}, Lst Z n xs → xs.length ≤ n + 1 := fun h => by have := h.len; omega
  unfold pstep
  split
  · exact ⟨h.a.sc ne hp, h.b.mix (c2 h.a) h.a.bd hp hm, h.c.sc ne hp, h.d.mix (c1 h.c) (cons_bd h.c.bd) hp hm, l1, l2⟩
  · exact ⟨h.a.mix (c1 h.b) (cons_bd h.b.bd) hp (by rw [Int.natAbs_neg]; exact hm), h.b.sc ne hp, h.c.mix (c2 h.d) h.d.bd hp (by rw [Int.natAbs_neg]; exact hm), h.d.sc ne hp, l1, l2⟩
theorem PB.one : PB 1 1 1 ⟨[1], [], [], [1], 1⟩ := by
  have l1 : Lst 1 1 [1] := ⟨Nat.le_refl _, fun x hx => by rcases List.mem_singleton.mp hx with rfl; exact Nat.le_refl _, by simp⟩
  have l0 : Lst 1 1 [] := ⟨Nat.zero_le _, fun _ h => (nomatch h), by simp⟩
  exact ⟨l1, l0, l0, l1, Nat.le_refl _, by decide⟩
theorem pls_b {p : Ms.P} {Y V : Nat} (h : ∀ x ∈ p, x.2.num.natAbs ≤ Y ∧ x.2.den ≤ Y ∧ x.2.den ≤ V) : ∀ i, i ≤ p.length → PB ((2 * Y) ^ i) (V ^ i) (i + 1) (pls (p.take i))
  | 0, _ => PB.one
  | i + 1, l => by
    have hy : p[i]? = some p[i] := List.getElem?_eq_getElem (by omega)
    rw [pls_take hy, Nat.pow_succ, Nat.pow_succ]
    have := h _ (List.getElem_mem (show i < p.length by omega))
    exact (pls_b h i (by omega)).step this.1 (by rw [Int.natAbs_natCast]; exact this.2.1) (by rw [Int.natAbs_natCast]; exact this.2.2) (by have := p[i].2.den_pos; omega)
/-! what they stand for -/
structure PR (x : Pl) (m : Mc.Pm) : Prop where
  a : ∀ k, ((x.a.getD k 0 : Int) : Rat) = m.a (2 * k) * (x.lo : Rat)
  b : ∀ k, ((x.b.getD k 0 : Int) : Rat) = m.b (2 * k + 1) * (x.lo : Rat)
  c : ∀ k, ((x.c.getD k 0 : Int) : Rat) = m.c (2 * k + 1) * (x.lo : Rat)
  d : ∀ k, ((x.d.getD k 0 : Int) : Rat) = m.d (2 * k) * (x.lo : Rat)
theorem sh_cons {ys : List Int} {f : Mc.Fn} {w : Rat} (h : ∀ k, ((ys.getD k 0 : Int) : Rat) = f (2 * k + 1) * w) (k : Nat) : ((((0 : Int) :: ys).getD k 0 : Int) : Rat) = Mc.sh f (2 * k) * w := by
  cases k with
  | zero => show ((0 : Int) : Rat) = 0 * w; rw [Rat.zero_mul]; rfl
  | succ k => exact h k
theorem PR.step {x : Pl} {m : Mc.Pm} (l : Int) (s : Rat) (h : PR x m) : PR (pstep l s.num s.den x) (Mc.put l s m) := by
  have e := div_num s
  have c : ((s.den : Int) : Rat) = (s.den : Rat) := rfl
  have sc' : ∀ {xs : List Int} {f : Rat} {k : Nat}, ((xs.getD k 0 : Int) : Rat) = f * (x.lo : Rat) → (((sc s.den xs).getD k 0 : Int) : Rat) = f * ((x.lo * (s.den : Int) : Int) : Rat) := fun {xs f k} h => by
    rw [sc_at, Rat.intCast_mul, Rat.intCast_mul, h, c]
    grind
  have mix : ∀ {xs ys : List Int} {f r : Rat} {k : Nat}, ((xs.getD k 0 : Int) : Rat) = f * (x.lo : Rat) → ((ys.getD k 0 : Int) : Rat) = r * (x.lo : Rat) → (((trim (padd (sc s.den xs) ys s.num)).getD k 0 : Int) : Rat) = (f + s * r) * ((x.lo * (s.den : Int) : Int) : Rat) := fun {xs ys f r k} h1 h2 => by
    rw [trim_at, padd_at, sc_at, Rat.intCast_add, Rat.intCast_mul, Rat.intCast_mul, Rat.intCast_mul, h1, h2, c, ← e]
    grind
  have mix' : ∀ {xs ys : List Int} {f r : Rat} {k : Nat}, ((xs.getD k 0 : Int) : Rat) = f * (x.lo : Rat) → ((ys.getD k 0 : Int) : Rat) = r * (x.lo : Rat) → (((trim (padd (sc s.den xs) ys (-s.num))).getD k 0 : Int) : Rat) = (f + -s * r) * ((x.lo * (s.den : Int) : Int) : Rat) := fun {xs ys f r k} h1 h2 => by
    rw [trim_at, padd_at, sc_at, Rat.intCast_add, Rat.intCast_mul, Rat.intCast_mul, Rat.intCast_mul, Rat.intCast_neg, h1, h2, c, ← e]
    grind
  unfold pstep Mc.put
  by_cases z : l = 0
  · simp only [z, if_true]
    exact ⟨fun k => sc' (h.a k), fun k => mix (h.b k) (h.a k), fun k => sc' (h.c k), fun k => mix (h.d k) (sh_cons h.c k)⟩
  · simp only [z, if_false]
    exact ⟨fun k => mix' (h.a k) (sh_cons h.b k), fun k => sc' (h.b k), fun k => mix' (h.c k) (h.d k), fun k => sc' (h.d k)⟩
theorem PR.one : PR ⟨[1], [], [], [1], 1⟩ Mc.e := by
  have o : ∀ k, ((([1] : List Int).getD k 0 : Int) : Rat) = Mc.one (2 * k) * ((1 : Int) : Rat) := fun k => by
    cases k with
    | zero => show ((1 : Int) : Rat) = 1 * ((1 : Int) : Rat); rw [Rat.one_mul]
    | succ k => show ((0 : Int) : Rat) = 0 * ((1 : Int) : Rat); rw [Rat.zero_mul]; rfl
  have n : ∀ k : Nat, ((([] : List Int).getD k 0 : Int) : Rat) = 0 * ((1 : Int) : Rat) := fun k => by
    rw [Rat.zero_mul]; simp
  exact ⟨o, n, n, o⟩
theorem pls_r (p : Ms.P) : ∀ i, i ≤ p.length → PR (pls (p.take i)) (Mc.run Mc.e (p.take i))
  | 0, _ => PR.one
  | i + 1, l => by
    have hy : p[i]? = some p[i] := List.getElem?_eq_getElem (by omega)
    have e : Mc.run Mc.e (p.take (i + 1)) = Mc.put p[i].1 p[i].2 (Mc.run Mc.e (p.take i)) := by
      rw [List.take_add_one, hy, Mc.run_app]
      rfl
    rw [pls_take hy, e]
    exact (pls_r p i (by omega)).step _ _
end K52
end
section
set_option Elab.async false
set_option linter.all false
set_option maxRecDepth 100000
namespace K52
open PySem PySem.Spec PyProof.Rows L2 Dd Sh Ms Mw
def PL (s : Sto) (x : Pl) (i j k l : Nat) : Prop := s[i]? = some (.lst (iL x.a)) ∧ s[j]? = some (.lst (iL x.b)) ∧ s[k]? = some (.lst (iL x.c)) ∧ s[l]? = some (.lst (iL x.d))
theorem PL.gr {s s' : Sto} {x : Pl} {i j k l : Nat} (h : PL s x i j k l) (g : Gr s s') : PL s' x i j k l := ⟨g.get h.1, g.get h.2.1, g.get h.2.2.1, g.get h.2.2.2⟩
def PolysU (F : Fs) : Prop := ∀ (p : Ms.P) (s : Sto), Sw 432000 416 45 p → wp (F i_swing_polynomials [stp p]) (fun d s' => Gr s s' ∧ ∃ i j k l, d = .tup [.loc i, .loc j, .loc k, .loc l, .int (pls (short p)).lo] ∧ PL s' (pls (short p)) i j k l) s
theorem Lst.bn {i n : Nat} {xs : List Int} (h : Lst ((2 * 2 ^ 900) ^ i) n xs) (hi : i ≤ 45) : Bn xs := fun x hx => pow_cap hi (h.bd x hx)
theorem bn_cons {xs : List Int} (h : Bn xs) : Bn (0 :: xs) := fun x hx => by
  rcases List.mem_cons.mp hx with rfl | hx
  · exact Nat.two_pow_pos _
  · exact h x hx
theorem sc_len (k : Int) (xs : List Int) : (sc k xs).length = xs.length := List.length_map _
section
variable {F : Fs} {g : Str → Option Dv}
theorem scale_s {i n : Nat} {xs : List Int} {parts : Int} {env : DEnv} {s : Sto} {Q : Dv → Sto → Prop} (e1 : env[i]? = some (some (.loc n))) (e8 : env[8]? = some (some (.int parts))) (l10 : env.length = 10) (h : s[n]? = some (.lst (iL xs))) (z : xs.length ≤ 1000) (hp : parts.natAbs < 2 ^ 900) (hb : Bn xs)
    (q : ∀ m s', Gr s s' → s'[m]? = some (.lst (iL (sc parts xs))) → Q (.loc m) s') : wp (ev F g (.comp (.bin .mul (.var 8) (.var 9)) (.nm 9) (.seq (.var i)) .none [9]) env) Q s := by
  refine wp_comp0 (g := fun x : Int => .int x) (f := fun x => .int (parts * x)) (all := xs) (by omega) (wk_seq (n := n) (xs := iL xs) (by rw [ev, e1]) h ⟨.refl _, walk_lst h, fun x hx => ⟨(env.set 9 none).set 9 (some (.int x)), rfl, fun s2 g2 => ?_⟩⟩) fun m s' g1 c1 => q m s' g1 ?_
  · have mo : mulOk parts x = true := mul_small hp (hb x hx) (by decide)
    refine wp_bin (wp_var (d := .int parts) ?_ (wp_var (d := .int x) ?_ (wp_is (mul_ii mo) ⟨.refl _, rfl⟩)))
    · rw [List.getElem?_set_ne (by decide), List.getElem?_set_ne (by decide)]; exact e8
    · rw [List.getElem?_set_self (by rw [List.length_set, l10]; decide)]
  · rw [c1]
    unfold iL sc
    rw [List.map_map]
    rfl
theorem zero_s {i n : Nat} {xs : List Int} {env : DEnv} {s : Sto} {Q : Dv → Sto → Prop} (e1 : env[i]? = some (some (.loc n))) (h : s[n]? = some (.lst (iL xs))) (z : xs.length ≤ 1000) (q : ∀ m s', Gr s s' → s'[m]? = some (.lst (iL (0 :: xs))) → Q (.loc m) s') : wp (ev F g (.bin .add (.lst (.cons (.int (0)) .nil)) (.var i)) env) Q s := by
  refine wp_bin (wp_lst (wp_consA (wp_is (a := .int 0) (by rw [ev]) (wp_nilA (wp_newL (by simp) fun m1 s1 g1 c1 => wp_var e1 ?_)))))
  exact wp_addL c1 (g1.get h) (by rw [iL_len]; simp; omega) fun m s' g2 c2 => q m s' (g1.trans g2) (by rw [c2]; rfl)
theorem polys_s (fS : ShortS F i_step_short) (fP : PolyU F) (p : Ms.P) (s : Sto) (sw : Sw 432000 416 45 p) : wp (runDef F g d_swing_polynomials [stp p]) (fun d s' => Gr s s' ∧ ∃ i j k l, d = .tup [.loc i, .loc j, .loc k, .loc l, .int (pls (short p)).lo] ∧ PL s' (pls (short p)) i j k l) s := by
  have sl := Nat.le_trans (short_len p) sw.len
  have bs := sh_bd sw
  have szs : ∀ x ∈ short p, Sz 900 x.2 := fun x hx => (bs x hx).sz (by decide) (by decide +kernel) (by decide +kernel)
  have pbd := pls_b (p := short p) (Y := 2 ^ 900) (V := 2 ^ 900) (fun x hx => ⟨Nat.le_of_lt (szs x hx).1, Nat.le_of_lt (szs x hx).2, Nat.le_of_lt (szs x hx).2⟩)
  refine wp_run (env := [some (stp p), none, none, none, none, none, none, none, none, none]) rfl rfl ?_
  refine ws_asgT (wp_tup (wp_consA (wp_lst (wp_consA (wp_is (a := .int 1) (by rw [ev]) (wp_nilA (wp_newL (by simp) fun i1 s1 g1 c1 => ?_))))))) 
  refine wp_consA (wp_lst (wp_nilA (wp_newL (by simp) fun i2 s2 g2 c2 => ?_)))
  refine wp_consA (wp_lst (wp_nilA (wp_newL (by simp) fun i3 s3 g3 c3 => ?_)))
  refine wp_consA (wp_lst (wp_consA (wp_is (a := .int 1) (by rw [ev]) (wp_nilA (wp_newL (by simp) fun i4 s4 g4 c4 => ?_)))))
  refine wp_nilA (wp_mkT (by simp) ⟨_, rfl, ?_⟩)
  refine ws_asg (wp_is (a := .int 1) (by rw [ev]) ?_)
  have p0 : PL s4 ⟨[1], [], [], [1], 1⟩ i1 i2 i3 i4 := ⟨((g2.trans g3).trans g4).get c1, (g3.trans g4).get c2, g4.get c3, c4⟩
  have gg := ((g1.trans g2).trans g3).trans g4
  refine ws_forW (wk_gv (gv_call1 (gv_var rfl) (fS _ _ p big45 sw.fit sw.lt)) fun s5 g5 => ?_)
  refine ⟨fun i env s' => i ≤ (short p).length ∧ Gr s s' ∧ ∃ i1 i2 i3 i4 a b c d, env = [some (stp p), some (.int (pls ((short p).take i)).lo), some (.loc i1), some (.loc i2), some (.loc i3), some (.loc i4), a, b, c, d] ∧ PL s' (pls ((short p).take i)) i1 i2 i3 i4,
    (short p).map pc, Nat.le_refl _, ⟨Nat.zero_le _, gg.trans g5, i1, i2, i3, i4, _, _, _, _, rfl, p0.gr g5⟩, fun i env s' _ => rfl, ?_, ?_⟩
  · rintro i x env s6 hx ⟨_, g6, i1, i2, i3, i4, a, b, c, d, rfl, pl⟩
    obtain ⟨y, hy, rfl⟩ : ∃ y, (short p)[i]? = some y ∧ pc y = x := by
      rw [List.getElem?_map] at hx
      exact Option.map_eq_some_iff.mp hx
    have hi : i < (short p).length := (List.getElem?_eq_some_iff.mp hy).1
    have my := List.mem_of_getElem? hy
    have z := pbd i (by omega)
    have sz := szs y my
    have nt := pls_take hy
    generalize pls ((short p).take i) = m at z nt pl
    have hi45 : i ≤ 45 := by omega
    have la := z.a.len
    have lb := z.b.len
    have lc := z.c.len
    have ld := z.d.len
    have na := z.a.bn hi45
    have nb := z.b.bn hi45
    have nc := z.c.bn hi45
    have nd := z.d.bn hi45
    obtain ⟨ca, cb, cc, cd⟩ := pl
    refine ⟨[some (stp p), some (.int m.lo), some (.loc i1), some (.loc i2), some (.loc i3), some (.loc i4), some (.int y.1), some (.int y.2.num), some (.int y.2.den), d], rfl, ?_⟩
    generalize y.2 = r at sz nt ⊢
    have dd : ((r.den : Nat) : Int).natAbs < 2 ^ 900 := by rw [Int.natAbs_natCast]; exact sz.2
    have lom : mulOk m.lo (r.den : Nat) = true := mul_small (k := 40546) (l := 900) (pow_cap hi45 (Nat.le_trans z.lo (Nat.pow_le_pow_left (by decide +kernel) i))) dd (by decide)
    refine ws_asg (wp_bin (wp_var rfl (wp_var rfl (wp_is (mul_ii lom) ?_))))
    refine ws_if (wt_cmp (wp_var rfl (wp_is (a := .int 0) (by rw [ev]) (wp_is (eq_ii _ _) ?_))))
    by_cases l : y.1 = 0
    · rw [decide_eq_true l, if_pos rfl]
      refine ws_asg (wp_call (wp_consA (scale_s rfl rfl rfl cb (by omega) dd nb fun m1 s7 g7 c7 => ?_)))
      refine wp_consA (wp_var rfl (wp_consA (wp_var rfl (wp_nilA (wp_imp (fP m1 i1 _ _ _ s7 c7 (g7.get ca) (by rw [sc_len]; omega) (by omega) sz.1 na) fun d s8 ⟨g8, j1, e8, c8⟩ => ?_)))))
      subst e8
      have G8 := g7.trans g8
      refine ws_asg (wp_call (wp_consA (scale_s rfl rfl rfl (G8.get cd) (by omega) dd nd fun m2 s9 g9 c9 => ?_)))
      refine wp_consA (zero_s rfl ((G8.trans g9).get cc) (by omega) fun m3 s10 g10 c10 => ?_)
      refine wp_consA (wp_var rfl (wp_nilA (wp_imp (fP m2 m3 _ _ _ s10 (g10.get c9) c10 (by rw [sc_len]; omega) (by rw [List.length_cons]; omega) sz.1 (bn_cons nc)) fun d s11 ⟨g11, j2, e11, c11⟩ => ?_)))
      subst e11
      have G11 := ((G8.trans g9).trans g10).trans g11
      refine ws_par (scale_s rfl rfl rfl (G11.get ca) (by omega) dd na fun m4 s12 g12 c12 => ?_)
      refine scale_s rfl rfl rfl ((G11.trans g12).get cc) (by omega) dd nc fun m5 s13 g13 c13 => ?_
      refine ws_nil (F := F) (gv := g) (ws_nil (F := F) (gv := g) ⟨_, rfl, hi, ((g6.trans G11).trans g12).trans g13, m4, j1, m5, j2, some (.int y.1), some (.int r.num), some (.int r.den), d, ?_, ?_⟩)
      · rw [nt]
        unfold pstep
        rw [if_pos l]
        rfl
      · rw [nt]
        unfold pstep
        rw [if_pos l]
        exact ⟨g13.get c12, (((g9.trans g10).trans g11).trans (g12.trans g13)).get c8, c13, (g12.trans g13).get c11⟩
    · rw [decide_eq_false l, if_neg (by simp)]
      have ng : ∀ {env : DEnv} {s1 : Sto} {Q : Dv → Sto → Prop}, env[7]? = some (some (.int r.num)) → Q (.int (-r.num)) s1 → wp (ev F g (.neg (.var 7)) env) Q s1 := fun {env s1 Q} e q => wp_is (a := .int (-r.num)) (by simp [ev, e, pb]) q
      have sn : (-r.num).natAbs < 2 ^ 900 := by rw [Int.natAbs_neg]; exact sz.1
      refine ws_asg (wp_call (wp_consA (scale_s rfl rfl rfl ca (by omega) dd na fun m1 s7 g7 c7 => ?_)))
      refine wp_consA (zero_s rfl (g7.get cb) (by omega) fun m2 s8 g8 c8 => ?_)
      refine wp_consA (ng rfl (wp_nilA (wp_imp (fP m1 m2 _ _ _ s8 (g8.get c7) c8 (by rw [sc_len]; omega) (by rw [List.length_cons]; omega) sn (bn_cons nb)) fun d s9 ⟨g9, j1, e9, c9⟩ => ?_)))
      subst e9
      have G9 := (g7.trans g8).trans g9
      refine ws_asg (wp_call (wp_consA (scale_s rfl rfl rfl (G9.get cc) (by omega) dd nc fun m3 s10 g10 c10 => ?_)))
      refine wp_consA (wp_var rfl (wp_consA (ng rfl (wp_nilA (wp_imp (fP m3 i4 _ _ _ s10 c10 ((G9.trans g10).get cd) (by rw [sc_len]; omega) (by omega) sn nd) fun d s11 ⟨g11, j2, e11, c11⟩ => ?_)))))
      subst e11
      have G11 := (G9.trans g10).trans g11
      refine ws_par (scale_s rfl rfl rfl (G11.get cb) (by omega) dd nb fun m4 s12 g12 c12 => ?_)
      refine scale_s rfl rfl rfl ((G11.trans g12).get cd) (by omega) dd nd fun m5 s13 g13 c13 => ?_
      refine ws_nil (F := F) (gv := g) (ws_nil (F := F) (gv := g) ⟨_, rfl, hi, ((g6.trans G11).trans g12).trans g13, j1, m4, j2, m5, some (.int y.1), some (.int r.num), some (.int r.den), d, ?_, ?_⟩)
      · rw [nt]
        unfold pstep
        rw [if_neg l]
        rfl
      · rw [nt]
        unfold pstep
        rw [if_neg l]
        exact ⟨((g10.trans g11).trans (g12.trans g13)).get c9, g13.get c12, (g12.trans g13).get c11, c13⟩
  · rintro env s6 ⟨_, g6, i1, i2, i3, i4, a, b, c, d, rfl, pl⟩
    rw [List.length_map, List.take_length] at pl ⊢
    refine ws_ret (wp_tup (wp_is (a := [_, _, _, _, _]) (by simp [evs, ev, pb]) (wp_mkT (by simp) ⟨_, rfl, g6, i1, i2, i3, i4, rfl, pl⟩)))
end
end K52
end
section
set_option Elab.async false
set_option linter.all false
set_option maxRecDepth 100000
namespace K52
open PySem PySem.Spec PyProof.Rows L2 Dd Sh Ms Mw
def fnS (qs : List Rat) (j : Nat) : Rat := if j % 2 = 0 then qs.getD (j / 2) 0 else 0
def preS (odd : Bool) (qs : List Rat) : List Rat := if odd = true ∧ qs ≠ [] then [0] else []
def spr (odd : Bool) (qs : List Rat) (k : Nat) : List Rat := preS odd qs ++ (List.range (2 * k - 1)).map (fnS qs)
theorem spr_succ (odd : Bool) (qs : List Rat) (k : Nat) : spr odd qs (k + 1) = (spr odd qs k ++ (if 0 < k then [0] else [])) ++ [qs.getD k 0] := by
  unfold spr
  cases k with
  | zero => simp [fnS]
  | succ k =>
    rw [show 2 * (k + 1 + 1) - 1 = (2 * (k + 1) - 1) + 1 + 1 by omega, List.range_succ, List.range_succ, List.map_append, List.map_append, if_pos (by omega)]
    have a : fnS qs (2 * (k + 1) - 1) = 0 := by unfold fnS; rw [if_neg (by omega)]
    have b : fnS qs (2 * (k + 1) - 1 + 1) = qs.getD (k + 1) 0 := by unfold fnS; rw [if_pos (by omega), show (2 * (k + 1) - 1 + 1) / 2 = k + 1 by omega]
    simp only [List.map_cons, List.map_nil, a, b, List.append_assoc]
theorem rng_at (f : Nat → Rat) (n k : Nat) : ((List.range n).map f).getD k 0 = if k < n then f k else 0 := by
  rw [List.getD_eq_getElem?_getD, List.getElem?_map]
  split
  · rename_i h
    rw [List.getElem?_range h]; rfl
  · rename_i h
    rw [List.getElem?_eq_none (by rw [List.length_range]; omega)]; rfl
theorem getD_big {qs : List Rat} {k : Nat} (h : qs.length ≤ k) : qs.getD k 0 = 0 := Mc.getD_out h
theorem rng_last {qs : List Rat} (top : qs.getLast? ≠ some 0) (ne : qs ≠ []) : ((List.range (2 * qs.length - 1)).map (fnS qs)).getLast? ≠ some 0 := by
  have pos : 0 < qs.length := List.length_pos_iff.mpr ne
  rw [show 2 * qs.length - 1 = (2 * qs.length - 2) + 1 by omega, List.range_succ, List.map_append, List.map_cons, List.map_nil, List.getLast?_append]
  simp only [List.getLast?_singleton, Option.some_or]
  intro h
  have h := Option.some.inj h
  unfold fnS at h
  rw [if_pos (by omega), show (2 * qs.length - 2) / 2 = qs.length - 1 by omega] at h
  exact Mc.getD_last (k := qs.length - 1) (by omega) top h
theorem spr_even {qs : List Rat} {f : Mc.Fn} (top : qs.getLast? ≠ some 0) (h : ∀ k, f (2 * k) = qs.getD k 0) (h0 : ∀ k, k % 2 = 1 → f k = 0) : Mc.Is (spr false qs qs.length) f := by
  have e : spr false qs qs.length = (List.range (2 * qs.length - 1)).map (fnS qs) := by unfold spr preS; simp
  rw [e]
  refine ⟨fun k => ?_, ?_⟩
  · rw [rng_at]
    rcases Nat.mod_two_eq_zero_or_one k with z | z
    · have k2 : k = 2 * (k / 2) := by omega
      have fk : f k = qs.getD (k / 2) 0 := by rw [← h (k / 2), ← k2]
      rw [fk]
      unfold fnS
      rw [if_pos z]
      by_cases c : k < 2 * qs.length - 1
      · rw [if_pos c]
      · rw [if_neg c]
        exact (getD_big (by omega)).symm
    · rw [h0 k z]
      unfold fnS
      rw [if_neg (show ¬ k % 2 = 0 by omega)]
      split <;> rfl
  · by_cases ne : qs = []
    · subst ne; simp
    · exact rng_last top ne
theorem spr_odd {qs : List Rat} {f : Mc.Fn} (top : qs.getLast? ≠ some 0) (h : ∀ k, f (2 * k + 1) = qs.getD k 0) (h0 : ∀ k, k % 2 = 0 → f k = 0) : Mc.Is (spr true qs qs.length) f := by
  by_cases ne : qs = []
  · subst ne
    refine ⟨fun k => ?_, by simp [spr, preS]⟩
    have : (spr true ([] : List Rat) ([] : List Rat).length) = [] := by simp [spr, preS]
    rw [this]
    rcases Nat.mod_two_eq_zero_or_one k with z | z
    · rw [h0 k z]; simp
    · have k2 : k = 2 * (k / 2) + 1 := by omega
      rw [k2, h (k / 2)]; simp
  · have e : spr true qs qs.length = 0 :: (List.range (2 * qs.length - 1)).map (fnS qs) := by unfold spr preS; rw [if_pos ⟨rfl, ne⟩]; rfl
    rw [e]
    refine ⟨fun k => ?_, ?_⟩
    · cases k with
      | zero => rw [h0 0 rfl]; rfl
      | succ k =>
        show ((List.range (2 * qs.length - 1)).map (fnS qs)).getD k 0 = _
        rw [rng_at]
        rcases Nat.mod_two_eq_zero_or_one k with z | z
        · have fk : f (k + 1) = qs.getD (k / 2) 0 := by rw [← h (k / 2)]; congr 1; omega
          rw [fk]
          unfold fnS
          rw [if_pos z]
          by_cases c : k < 2 * qs.length - 1
          · rw [if_pos c]
          · rw [if_neg c]
            exact (getD_big (by omega)).symm
        · rw [h0 (k + 1) (by omega)]
          unfold fnS
          rw [if_neg (show ¬ k % 2 = 0 by omega)]
          split <;> rfl
    · rw [List.getLast?_cons]
      have pos : 0 < qs.length := List.length_pos_iff.mpr ne
      have z := rng_last top ne
      cases q : ((List.range (2 * qs.length - 1)).map (fnS qs)).getLast? with
      | none =>
        rw [List.getLast?_eq_none_iff] at q
        have := congrArg List.length q
        rw [List.length_map, List.length_range, List.length_nil] at this
        omega
      | some x =>
        rw [q] at z
        simpa using z
def qsOf (xs : List Int) (lo : Int) : List Rat := xs.map fun x => mkRat x lo.toNat
theorem qs_len (xs : List Int) (lo : Int) : (qsOf xs lo).length = xs.length := List.length_map _
def PowU (F : Fs) : Prop := ∀ (n : Nat) (xs : List Int) (lo : Int) (odd : Bool) (s : Sto), s[n]? = some (.lst (iL xs)) → xs.length ≤ 100 → 0 < lo → lo.natAbs < 2 ^ 9000 → wp (F i_as_powers [.loc n, .int lo, .bl odd]) (fun d s' => d = .tup ((spr odd (qsOf xs lo) xs.length).map rv) ∧ Gr s s') s
section
variable {F : Fs} {g : Str → Option Dv}
theorem enum_nxt {n i : Nat} {xs : List Dv} {s : Sto} (h : s[n]? = some (.lst xs)) : nxt (.enumL n) i s = some (xs.mapIdx fun i x => Dv.tup [.int i, x])[i]? := by
  show (match s[n]? with
    | some (.lst xs) => some (xs[i]?.map fun x => Dv.tup [.int i, x])
    | _ => none) = _
  rw [h, List.getElem?_mapIdx]
theorem enum_turns {n : Nat} {xs : List Dv} {s : Sto} (h : s[n]? = some (.lst xs)) : turns (.enumL n) s = xs.length := by
  show (match s[n]? with
    | some (.lst xs) => xs.length
    | _ => 0) = _
  rw [h]
theorem spr_len (odd : Bool) (qs : List Rat) (k : Nat) : (spr odd qs k).length ≤ 2 * k + 1 := by
  unfold spr preS
  rw [List.length_append, List.length_map, List.length_range]
  split <;> simp <;> omega
theorem powers_s (fF : FracS F i_fraction_of) (n : Nat) (xs : List Int) (lo : Int) (odd : Bool) (s : Sto) (h : s[n]? = some (.lst (iL xs))) (lx : xs.length ≤ 100) (l0 : 0 < lo) (l1 : lo.natAbs < 2 ^ 9000) : wp (runDef F g d_as_powers [.loc n, .int lo, .bl odd]) (fun d s' => d = .tup ((spr odd (qsOf xs lo) xs.length).map rv) ∧ Gr s s') s := by
  have ns := (List.getElem?_eq_some_iff.mp h).1
  refine wp_run (env := [some (.loc n), some (.int lo), some (.bl odd), none, none, none]) rfl rfl ?_
  have init : ∀ Q : Dv → Sto → Prop, Q (.loc s.length) (s ++ [.lst ((preS odd (qsOf xs lo)).map rv)]) → wp (ev F g (.ite (.band (.var 2) (.var 0)) (.lst (.cons (.num (.int (0)) (.int (1))) .nil)) (.lst .nil)) [some (.loc n), some (.int lo), some (.bl odd), none, none, none]) Q s := fun Q q => by
    refine wp_ite (wt_and (wp_eq (m' := truth (.bl odd)) (by simp [tst, ev, pb]) (wp_is (a := odd) rfl ?_)))
    have no : preS odd (qsOf xs lo) = [] → wp (ev F g (.lst .nil) [some (.loc n), some (.int lo), some (.bl odd), none, none, none]) Q s := fun e => by
      rw [e] at q
      exact wp_lst (wp_nilA (wp_ok (show newL [] s = .ok (.loc s.length) (s ++ [.lst []]) from rfl) q))
    cases odd with
    | false =>
      rw [if_neg (by simp), if_neg (by simp)]
      exact no (by unfold preS; simp)
    | true =>
      rw [if_pos rfl]
      refine wp_eq (m' := truth (.loc n)) (by simp [tst, ev, pb]) (wp_ok (b := !(iL xs).isEmpty) (s' := s) ?_ ?_)
      · show ((lstOf n >>= fun xs => pure (!xs.isEmpty)) : M Bool) _ = _
        rw [bind_ok_of (lstOf_ok h)]; rfl
      · cases xs with
        | nil =>
          rw [if_neg (by simp [iL])]
          exact no (by unfold preS qsOf; simp)
        | cons x xs =>
          rw [if_pos (by simp [iL])]
          have e : preS true (qsOf (x :: xs) lo) = [0] := by unfold preS qsOf; simp
          rw [e] at q
          exact wp_lst (wp_is (a := [rv 0]) (by simp [evs, ev, pb]; rfl) (wp_ok (show newL [rv 0] s = .ok (.loc s.length) (s ++ [.lst [rv 0]]) from rfl) q))
  refine ws_asg (init _ ?_)
  generalize hq : qsOf xs lo = qs
  have g1 : Gr s (s ++ [.lst ((preS odd qs).map rv)]) := .push _ _
  refine ws_for (items := (iL xs).mapIdx fun i x => Dv.tup [.int i, x]) (fun k env s' => k ≤ xs.length ∧ Gr s s' ∧ s'[s.length]? = some (.lst ((spr odd qs k).map rv)) ∧ ∃ a b, env = [some (.loc n), some (.int lo), some (.bl odd), some (.loc s.length), a, b])
    (wk_enum (wp_var rfl ⟨n, _, rfl, g1.get h, by rw [enum_turns (g1.get h), List.length_mapIdx]; exact Nat.le_refl _, ⟨Nat.zero_le _, g1, by simp [spr], _, _, rfl⟩, fun i env s' hI => enum_nxt (hI.2.1.get h)⟩)) ?_ ?_
  · rintro k x env s2 hx ⟨_, g2, c2, a, b, rfl⟩
    rw [List.getElem?_mapIdx] at hx
    obtain ⟨y0, hy0, rfl⟩ := Option.map_eq_some_iff.mp hx
    unfold iL at hy0
    rw [List.getElem?_map] at hy0
    obtain ⟨y, hy, rfl⟩ := Option.map_eq_some_iff.mp hy0
    have hk : k < xs.length := (List.getElem?_eq_some_iff.mp hy).1
    refine ⟨[some (.loc n), some (.int lo), some (.bl odd), some (.loc s.length), some (.int (k : Int)), some (.int y)], rfl, ?_⟩
    have lt2 := (List.getElem?_eq_some_iff.mp c2).1
    have qk : qs.getD k 0 = mkRat y lo.toNat := by
      rw [← hq, List.getD_eq_getElem?_getD]
      unfold qsOf
      rw [List.getElem?_map, hy]; rfl
    have sl := spr_len odd qs k
    have rest : ∀ (s3 : Sto), Gr s s3 → s3[s.length]? = some (.lst ((spr odd qs k ++ (if 0 < k then [0] else [])).map rv)) → wp (exs F g (.cons (.app (.var 3) (.call i_fraction_of (.cons (.var 5) (.cons (.var 1) .nil)))) .nil) [some (.loc n), some (.int lo), some (.bl odd), some (.loc s.length), some (.int (k : Int)), some (.int y)])
        (fun fl s' => ∃ e, fl = .nx e ∧ k + 1 ≤ xs.length ∧ Gr s s' ∧ s'[s.length]? = some (.lst ((spr odd qs (k + 1)).map rv)) ∧ ∃ a b, e = [some (.loc n), some (.int lo), some (.bl odd), some (.loc s.length), a, b]) s3 := fun s3 g3 c3 => by
      have lt3 := (List.getElem?_eq_some_iff.mp c3).1
      refine ws_app (n := s.length) (by rw [ev]; rfl) c3 ?_
      refine wp_call (wp_consA (wp_var rfl (wp_consA (wp_var rfl (wp_nilA (wp_is (fF y lo l0 l1) ⟨_, c3, ?_, ?_⟩))))))
      · rw [List.length_map, List.length_append]
        split <;> simp <;> omega
      · refine ws_nil (F := F) (gv := g) ⟨_, rfl, hk, gr_set g3 (Nat.le_refl _) _, ?_, _, _, rfl⟩
        rw [List.getElem?_set_self lt3, spr_succ, qk, List.map_append (l₂ := [mkRat y lo.toNat])]
        rfl
    refine ws_if (wt_cmp (wp_var rfl (wp_is (a := .int 0) (by rw [ev]) (wp_is (gt_ii _ _) ?_))))
    by_cases k0 : 0 < k
    · rw [decide_eq_true (by omega), if_pos rfl]
      refine ws_app (n := s.length) (by rw [ev]; rfl) c2 (wp_is (a := rv 0) (by simp [ev, pb]; rfl) ⟨_, c2, by rw [List.length_map]; omega, ?_⟩)
      refine ws_nil (F := F) (gv := g) (rest _ (gr_set g2 (Nat.le_refl _) _) ?_)
      rw [List.getElem?_set_self lt2, if_pos k0, List.map_append]
      rfl
    · rw [decide_eq_false (by omega), if_neg (by simp)]
      refine ws_nil (F := F) (gv := g) (rest _ g2 ?_)
      rw [if_neg k0, List.append_nil]
      exact c2
  · rintro env s2 ⟨_, g2, c2, a, b, rfl⟩
    rw [List.length_mapIdx, iL_len] at c2
    refine ws_ret (wp_blt (wp_consA (wp_var rfl (wp_nilA (wp_ok (tuple_at c2 ?_) ⟨_, rfl, rfl, g2⟩)))))
    rw [List.length_map]
    have := spr_len odd qs xs.length
    omega
end
end K52
end
section
set_option Elab.async false
set_option linter.all false
set_option maxRecDepth 100000
namespace K52
open PySem PySem.Spec PyProof.Rows L2 Dd Sh Ms Mw
def tupR (q : List Rat) : Dv := .tup (q.map rv)
def tabD (qa qb qc qd : List Rat) : Dv := .tup [.tup [tupR qa, tupR qb], .tup [tupR qc, tupR qd]]
def matD (m : Mt) : Dv := .tup [.tup [rv m.a, rv m.b], .tup [rv m.c, rv m.d]]
def SwtU (F : Fs) : Prop := ∀ (p : Ms.P) (qa qb qc qd : List Rat), Sw 432000 416 45 p → Mc.Is qa (Mc.run Mc.e p).a → Mc.Is qb (Mc.run Mc.e p).b → Mc.Is qc (Mc.run Mc.e p).c → Mc.Is qd (Mc.run Mc.e p).d → Gv (F i_swing_table [stp p]) (tabD qa qb qc qd)
def FracsU (F : Fs) : Prop := ∀ (p : Ms.P) (t : Rat) (s : Sto), Sw 432000 416 45 p → Bd 1728 125 t → wp (F i_swing_fractions [stp p, rv t]) (fun d s' => Gr s s' ∧ ∃ n, d = .loc n ∧ s'[n]? = some (.lst [rv (Mw.run t Mw.e p).a, rv (Mw.run t Mw.e p).b, rv (Mw.run t Mw.e p).c, rv (Mw.run t Mw.e p).d])) s
def AtU (F : Fs) : Prop := ∀ (p : Ms.P) (t : Rat), Sw 432000 416 45 p → Bd 1728 125 t → 0 < t.num → Gv (F i_swing_at [stp p, rv t]) (matD (Mw.run t Mw.e p))
theorem mk_of {n lo : Int} {q : Rat} (h : (n : Rat) = q * (lo : Rat)) (l : 0 < lo) : mkRat n lo.toNat = q := by
  rw [Rat.mkRat_eq_div]
  have e : ((lo.toNat : Nat) : Rat) = (lo : Rat) := by
    have : ((lo.toNat : Nat) : Int) = lo := by omega
    have := congrArg (fun i : Int => (i : Rat)) this
    exact this
  have ne := nat_ne (show 0 < lo.toNat by omega)
  rw [e] at ne ⊢
  rw [h]
  grind
theorem mk_zero {n lo : Int} (l : 0 < lo) (h : mkRat n lo.toNat = 0) : n = 0 := (Rat.mkRat_eq_zero (by omega)).mp h
theorem qs_at {xs : List Int} {lo : Int} (k : Nat) : (qsOf xs lo).getD k 0 = mkRat (xs.getD k 0) lo.toNat := by
  unfold qsOf
  rw [List.getD_eq_getElem?_getD, List.getD_eq_getElem?_getD, List.getElem?_map]
  cases xs[k]? with
  | none => show (0 : Rat) = mkRat 0 _; rw [Rat.zero_mkRat]
  | some x => rfl
theorem qs_top {xs : List Int} {lo : Int} (l : 0 < lo) (h : xs.getLast? ≠ some 0) : (qsOf xs lo).getLast? ≠ some 0 := by
  unfold qsOf
  rw [List.getLast?_map]
  cases e : xs.getLast? with
  | none => simp
  | some x =>
    rw [e] at h
    intro w
    exact h (by rw [mk_zero l (Option.some.inj w)])
theorem pow_lo {n i : Nat} (h : i ≤ 45) (l : n ≤ 432000 ^ i) : n < 2 ^ 9000 := Nat.lt_of_le_of_lt (Nat.le_trans l (Nat.pow_le_pow_right (by decide) h)) (by decide +kernel)
theorem pow_lo2 {n i : Nat} (h : i ≤ 45) (l : n ≤ 746496000 ^ i) : n < 2 ^ 9000 := Nat.lt_of_le_of_lt (Nat.le_trans l (Nat.pow_le_pow_right (by decide) h)) (by decide +kernel)
theorem nms_lo {t : Rat} {p : Ms.P} {V : Nat} (h : ∀ x ∈ p, (x.2 * t).den ≤ V) : ∀ i, i ≤ p.length → (nms t (p.take i)).lo.natAbs ≤ V ^ i
  | 0, _ => Nat.le_refl _
  | i + 1, l => by
    have hy : p[i]? = some p[i] := List.getElem?_eq_getElem (by omega)
    have := nms_lo h i (by omega)
    have d := h _ (List.getElem_mem (show i < p.length by omega))
    rw [nms_take hy, Nat.pow_succ]
    have e : (nput p[i].1 (p[i].2 * t).num (p[i].2 * t).den (nms t (p.take i))).lo = (nms t (p.take i)).lo * ((p[i].2 * t).den : Int) := by unfold nput; split <;> rfl
    rw [e, Int.natAbs_mul, Int.natAbs_natCast]
    exact Nat.mul_le_mul this d
section
variable {F : Fs} {g : Str → Option Dv}
theorem ws_star {i j : Nat} {e : E} {r : Ss} {env : DEnv} {s : Sto} {Q : Fl → Sto → Prop} (h : wp (ev F g e env) (fun d s1 => ∃ ds z, d = .tup (ds ++ [z]) ∧ ds.length ≤ 1000000 ∧ ∀ m s2, Gr s1 s2 → s2[m]? = some (.lst ds) → wp (exs F g r ((env.set i (some (.loc m))).set j (some z))) Q s2) s) : wp (exs F g (.cons (.starA i j e) r) env) Q s := by
  rw [exs_cons, ex, bind_assoc_M]
  refine wp_bind.mpr (wp_imp h fun d s1 ⟨ds, z, e1, l, q⟩ => ?_)
  subst e1
  have e2 : (ds ++ [z]).getLast? = some z := by simp
  have e3 : (ds ++ [z]).dropLast = ds := by simp
  simp only [e2, e3]
  rw [bind_assoc_M]
  refine wp_bind.mpr (wp_newL l fun m s2 g2 c2 => ?_)
  exact wp_bind.mpr (wp_pure.mpr (q m s2 g2 c2))
theorem ws_asgU {is : List Nat} {e : E} {r : Ss} {env : DEnv} {s : Sto} {Q : Fl → Sto → Prop} (h : wp (ev F g e env) (fun d s1 => ∃ n ds env', d = .loc n ∧ s1[n]? = some (.lst ds) ∧ setMany is ds env = some env' ∧ wp (exs F g r env') Q s1) s) : wp (exs F g (.cons (.asgU is e) r) env) Q s := by
  rw [exs_cons, ex, bind_assoc_M]
  refine wp_bind.mpr (wp_imp h fun d s1 ⟨n, ds, env', e1, c1, m1, q⟩ => ?_)
  subst e1
  rw [bind_assoc_M]
  refine wp_bind.mpr ?_
  show wp (getC n >>= fun c => match c with
    | .lst ds => lift (setMany is ds env)
    | _ => fail) _ s1
  refine wp_bind.mpr (wp_ok (getC_ok c1) ?_)
  show wp (lift (setMany is ds env)) _ s1
  rw [m1]
  exact wp_ok (s' := s1) rfl (wp_bind.mpr (wp_pure.mpr q))
theorem swt_s (fC : SwungC F) (fP : PolysU F) (fW : PowU F) (p : Ms.P) (qa qb qc qd : List Rat) (sw : Sw 432000 416 45 p) (ia : Mc.Is qa (Mc.run Mc.e p).a) (ib : Mc.Is qb (Mc.run Mc.e p).b) (ic : Mc.Is qc (Mc.run Mc.e p).c) (id_ : Mc.Is qd (Mc.run Mc.e p).d) : Gv (runDef F g d_swing_table [stp p]) (tabD qa qb qc qd) := by
  have sl := Nat.le_trans (short_len p) sw.len
  have bs := sh_bd sw
  have szs : ∀ x ∈ short p, Sz 900 x.2 := fun x hx => (bs x hx).sz (by decide) (by decide +kernel) (by decide +kernel)
  have pbd := pls_b (p := short p) (Y := 2 ^ 900) (V := 432000) (fun x hx => ⟨Nat.le_of_lt (szs x hx).1, Nat.le_of_lt (szs x hx).2, Nat.le_of_dvd (by decide) ((bs x hx).den (by decide))⟩) _ (Nat.le_refl _)
  have pr := pls_r (short p) _ (Nat.le_refl _)
  rw [List.take_length] at pbd pr
  rw [Mc.run_short] at pr
  have evn := Mc.Ev.run p Mc.e Mc.Ev.e
  have hP := fun s => fP p s sw
  generalize pls (short p) = x at pbd pr hP
  generalize Mc.run Mc.e p = m at pr evn ia ib ic id_
  have lo9 := pow_lo sl pbd.lo
  have ea : spr false (qsOf x.a x.lo) x.a.length = qa := by
    have := spr_even (qs_top pbd.pos pbd.a.top) (fun k => by rw [qs_at, mk_of (pr.a k) pbd.pos]) evn.a
    rw [qs_len] at this
    exact this.uniq ia
  have eb : spr true (qsOf x.b x.lo) x.b.length = qb := by
    have := spr_odd (qs_top pbd.pos pbd.b.top) (fun k => by rw [qs_at, mk_of (pr.b k) pbd.pos]) evn.b
    rw [qs_len] at this
    exact this.uniq ib
  have ec : spr true (qsOf x.c x.lo) x.c.length = qc := by
    have := spr_odd (qs_top pbd.pos pbd.c.top) (fun k => by rw [qs_at, mk_of (pr.c k) pbd.pos]) evn.c
    rw [qs_len] at this
    exact this.uniq ic
  have ed : spr false (qsOf x.d x.lo) x.d.length = qd := by
    have := spr_even (qs_top pbd.pos pbd.d.top) (fun k => by rw [qs_at, mk_of (pr.d k) pbd.pos]) evn.d
    rw [qs_len] at this
    exact this.uniq id_
  have la := pbd.a.len
  have lb := pbd.b.len
  have lc := pbd.c.len
  have ld := pbd.d.len
  refine gv_wp fun s => wp_run (env := [some (stp p), none, none, none, none, none, none]) rfl rfl ?_
  refine ws_ex (wp_gv (gv_call1 (gv_var rfl) (fC p sw)) fun s1 g1 => ?_)
  refine ws_asgT (wp_call (wp_consA (wp_var rfl (wp_nilA (wp_imp (hP s1) fun d s2 ⟨g2, i, j, k, l, e2, p2⟩ => ?_)))))
  subst e2
  refine ⟨_, rfl, ?_⟩
  have pw : ∀ {i2 n : Nat} {xs : List Int} {odd : Bool} {q : List Rat} {env : DEnv} {s3 : Sto} {Q : Dv → Sto → Prop}, env[i2]? = some (some (.loc n)) → env[6]? = some (some (.int x.lo)) → s3[n]? = some (.lst (iL xs)) → xs.length ≤ 100 → spr odd (qsOf xs x.lo) xs.length = q → (∀ s4, Gr s3 s4 → Q (tupR q) s4) → wp (ev F g (.call i_as_powers (.cons (.var i2) (.cons (.var 6) (.cons (.bl odd) .nil)))) env) Q s3 := fun {i2 n xs odd q env s3 Q} e1 e6 c l eq hQ => by
    refine wp_call (wp_consA (wp_var e1 (wp_consA (wp_var e6 (wp_consA (wp_is (a := .bl odd) (by rw [ev]) (wp_nilA (wp_imp (fW n xs x.lo odd s3 c l pbd.pos lo9) fun d s4 ⟨e, g4⟩ => ?_))))))))
    subst e
    rw [eq]
    exact hQ s4 g4
  refine ws_asg (wp_tup (wp_consA (pw rfl rfl p2.1 (by omega) ea fun s3 g3 => ?_)))
  refine wp_consA (pw rfl rfl (g3.get p2.2.1) (by omega) eb fun s4 g4 => wp_nilA (wp_mkT (by simp) ?_))
  refine ws_ret (wp_tup (wp_consA (wp_var rfl (wp_consA (wp_tup (wp_consA (pw rfl rfl ((g3.trans g4).get p2.2.2.1) (by omega) ec fun s5 g5 => ?_)))))))
  refine wp_consA (pw rfl rfl (((g3.trans g4).trans g5).get p2.2.2.2) (by omega) ed fun s6 g6 => wp_nilA (wp_mkT (by simp) (wp_nilA (wp_mkT (by simp) ?_))))
  exact ⟨_, rfl, rfl, ((((g1.trans g2).trans g3).trans g4).trans g5).trans g6⟩
theorem fracs_s (fN : NumsU F) (fF : FracS F i_fraction_of) (p : Ms.P) (t : Rat) (s : Sto) (sw : Sw 432000 416 45 p) (bt : Bd 1728 125 t) : wp (runDef F g d_swing_fractions [stp p, rv t]) (fun d s' => Gr s s' ∧ ∃ n, d = .loc n ∧ s'[n]? = some (.lst [rv (Mw.run t Mw.e p).a, rv (Mw.run t Mw.e p).b, rv (Mw.run t Mw.e p).c, rv (Mw.run t Mw.e p).d])) s := by
  have sl := Nat.le_trans (short_len p) sw.len
  have bs := sh_bd sw
  have lob := nms_lo (t := t) (p := short p) (V := 746496000) (fun x hx => Nat.le_of_dvd (by decide) (((bs x hx).mul bt).den (by decide))) _ (Nat.le_refl _)
  have nr := nms_r t (short p) _ (Nat.le_refl _)
  rw [List.take_length] at lob nr
  rw [run_short] at nr
  have hN := fN p t sw bt
  generalize nms t (short p) = x at lob nr hN
  generalize Mw.run t Mw.e p = m at nr
  have lo9 := pow_lo2 sl lob
  refine wp_run (env := [some (stp p), some (rv t), none, none, none]) rfl rfl ?_
  refine ws_star (wp_gv (gv_call2 (gv_var rfl) (gv_var rfl) hN) fun s1 g1 => ⟨[.int x.f, .int x.ab, .int x.be, .int x.se], .int x.lo, rfl, by simp, fun n s2 g2 c2 => ?_⟩)
  refine ws_ret (wp_comp0 (g := fun k : Int => .int k) (f := fun k => rv (mkRat k x.lo.toNat)) (all := [x.f, x.ab, x.be, x.se]) (by simp) (wk_seq (n := n) (xs := [.int x.f, .int x.ab, .int x.be, .int x.se]) (by rw [ev]; rfl) c2 ⟨.refl _, walk_lst c2, fun k hk => ⟨[some (stp p), some (rv t), some (.int x.lo), some (.loc n), some (.int k)], rfl, fun s4 g4 => ?_⟩⟩) fun k s3 g3 c3 => ?_)
  · exact wp_call (wp_consA (wp_var rfl (wp_consA (wp_var rfl (wp_nilA (wp_is (fF k x.lo nr.lo lo9) ⟨.refl _, rfl⟩))))))
  · refine ⟨_, rfl, (g1.trans g2).trans g3, k, rfl, ?_⟩
    rw [c3]
    simp only [List.map_cons, List.map_nil, mk_of nr.f nr.lo, mk_of nr.ab nr.lo, mk_of nr.be nr.lo, mk_of nr.se nr.lo]
theorem at_s (fC : SwungC F) (fT : TimeC F) (fF : FracsU F) (p : Ms.P) (t : Rat) (sw : Sw 432000 416 45 p) (bt : Bd 1728 125 t) (t0 : 0 < t.num) : Gv (runDef F g d_swing_at [stp p, rv t]) (matD (Mw.run t Mw.e p)) := by
  refine gv_wp fun s => wp_run (env := [some (stp p), some (rv t), none, none, none, none]) rfl rfl ?_
  refine ws_ex (wp_gv (gv_call1 (gv_var rfl) (fC p sw)) fun s1 g1 => ?_)
  refine ws_ex (wp_gv (gv_call1 (gv_var rfl) (fT t t0)) fun s2 g2 => ?_)
  refine ws_asgU (wp_call (wp_consA (wp_var rfl (wp_consA (wp_var rfl (wp_nilA (wp_imp (fF p t s2 sw bt) fun d s3 ⟨g3, n, e3, c3⟩ => ?_)))))))
  subst e3
  refine ⟨n, _, _, rfl, c3, rfl, ?_⟩
  refine ws_ret (wp_is (a := matD (Mw.run t Mw.e p)) (by simp [ev, evs, pb, mkT, matD, small]) ⟨_, rfl, rfl, (g1.trans g2).trans g3⟩)
end
end K52
end
section
set_option Elab.async false
set_option linter.all false
set_option maxRecDepth 100000
namespace K52
open PySem PySem.Spec PyProof.Rows L2 Dd Sh Ms Mw
/-! a value is like itself -/
def Pt (n : Nat) (d : Dv) : Prop := ∃ p, pyv d = some p ∧ PyData.canLay0 p = true ∧ p.depth ≤ n ∧ PyData.eqv p p = true
theorem pts {n : Nat} : ∀ {ds : List Dv}, (∀ d ∈ ds, Pt n d) → ∃ ps, pyv.pyvs ds = some ps ∧ PyData.canLayAll0 ps = true ∧ PyData.depthAll ps ≤ n ∧ PyData.eqvAll ps ps = true
  | [], _ => ⟨[], by rw [pyv.pyvs], by simp [PyData.canLayAll0], by simp [PyData.depthAll], by simp [PyData.eqvAll]⟩
  | d :: ds, h => by
    obtain ⟨p, a1, a2, a3, a4⟩ := h d (.head _)
    obtain ⟨ps, b1, b2, b3, b4⟩ := pts (ds := ds) fun x hx => h x (.tail _ hx)
    refine ⟨p :: ps, by rw [pyv.pyvs, a1, b1], by rw [PyData.canLayAll0, a2, b2]; rfl, ?_, by rw [PyData.eqvAll, a4, b4]; rfl⟩
    rw [PyData.depthAll]
    omega
theorem Pt.tup {n : Nat} {ds : List Dv} (h : ∀ d ∈ ds, Pt n d) : Pt (n + 1) (.tup ds) := by
  obtain ⟨ps, b1, b2, b3, b4⟩ := pts h
  refine ⟨.tuple ps, by rw [pyv, b1]; rfl, by rw [PyData.canLay0]; exact b2, by rw [PyData.depth]; omega, by rw [PyData.eqv]; exact b4⟩
theorem Pt.rv (q : Rat) : Pt 2 (rv q) := ⟨.tuple [.int q.num, .int q.den], by unfold Sh.rv; rw [pyv], by simp [PyData.canLay0, PyData.canLayAll0], by simp [PyData.depth, PyData.depthAll], by simp [PyData.eqv, PyData.eqvAll]⟩
theorem Pt.eq {n : Nat} {ds : List Dv} (h : Pt n (.tup ds)) (l : n ≤ 12) : opC .eq (.tup ds) (.tup ds) = pure true := by
  obtain ⟨p, a1, a2, a3, a4⟩ := h
  show eqD1 (.tup ds) (.tup ds) = _
  unfold eqD1
  rw [a1]
  have s : SeqAt.shaped p = true := by
    unfold SeqAt.shaped
    rw [a2, Bool.true_and]
    exact decide_eq_true (by omega)
  simp only [s, Bool.and_self, if_true, a4]
theorem Pt.ne {n : Nat} {ds : List Dv} (h : Pt n (.tup ds)) (l : n ≤ 12) : opC .ne (.tup ds) (.tup ds) = pure false := by
  have e := h.eq l
  show (eqD (.tup ds) (.tup ds) >>= fun b => pure (!b)) = _
  have e2 : eqD (.tup ds) (.tup ds) = pure true := e
  rw [e2]
  rfl
theorem pt_tupR (q : List Rat) : Pt 3 (tupR q) := Pt.tup fun d hd => by
  obtain ⟨x, _, rfl⟩ := List.mem_map.mp hd
  exact Pt.rv x
theorem pt_two {n : Nat} {a b : Dv} (h : Pt n a) (k : Pt n b) : ∀ d ∈ [a, b], Pt n d := fun d hd => by
  rcases List.mem_cons.mp hd with rfl | hd
  · exact h
  · rcases List.mem_singleton.mp hd with rfl
    exact k
theorem pt_tab (a b c d : List Rat) : Pt 5 (tabD a b c d) := Pt.tup (pt_two (Pt.tup (pt_two (pt_tupR a) (pt_tupR b))) (Pt.tup (pt_two (pt_tupR c) (pt_tupR d))))
theorem pt_mat (m : Mt) : Pt 4 (matD m) := Pt.tup (pt_two (Pt.tup (pt_two (Pt.rv _) (Pt.rv _))) (Pt.tup (pt_two (Pt.rv _) (Pt.rv _))))
theorem eq_empty {s : Sto} {a b : Nat} {w : List Int} (ha : s[a]? = some (.lst (iL w))) (hb : s[b]? = some (.lst [])) : opC .eq (.loc a) (.loc b) s = .ok (decide (w = [])) s := by
  show eqD1 (.loc a) (.loc b) s = _
  unfold eqD1
  simp only [pyv]
  rw [pyl_loc ha (mapM_ints s 11 w), pyl_loc hb (show ([] : List Dv).mapM (pyl s 11) = some [] from rfl)]
  have sh : ∀ v : List Int, SeqAt.shaped (.list (v.map PyData.int)) = true := fun v => by
    have := depthA_wd v
    unfold SeqAt.shaped
    simp only [PyData.canLay0, PyData.depth, lay_wd v, Bool.true_and]
    exact decide_eq_true (by omega)
  simp only [sh w, sh [], Bool.and_self, if_true, show SeqAt.shaped (PyData.list []) = true from sh []]
  congr 1
  cases w <;> simp [PyData.eqv, PyData.eqvAll]
theorem ne_empty {s : Sto} {a b : Nat} {w : List Int} (ha : s[a]? = some (.lst (iL w))) (hb : s[b]? = some (.lst [])) : opC .ne (.loc a) (.loc b) s = .ok (!decide (w = [])) s := by
  have e := eq_empty ha hb
  show (eqD (.loc a) (.loc b) >>= fun b => pure (!b)) s = _
  have e2 : eqD (.loc a) (.loc b) s = .ok (decide (w = [])) s := e
  rw [bind_ok_of e2]
  rfl
/-! one number below -/
def scl (p : Ms.P) : Nat := p.foldl (fun f x => f * (mkRat (f : Int) x.2.den).den) 1
theorem scl_take {p : Ms.P} {i : Nat} {y : Pc} (h : p[i]? = some y) : scl (p.take (i + 1)) = scl (p.take i) * (mkRat (scl (p.take i) : Int) y.2.den).den := by
  unfold scl
  rw [List.take_add_one, h, List.foldl_append]
  rfl
theorem den_fac (f d : Nat) (h : 0 < d) : d ∣ f * (mkRat (f : Int) d).den ∧ (mkRat (f : Int) d).den ≤ d ∧ 0 < (mkRat (f : Int) d).den := by
  rw [Rat.den_mkRat, if_neg (by omega), Int.natAbs_natCast]
  have g1 : d.gcd f ∣ d := Nat.gcd_dvd_left _ _
  have g2 : d.gcd f ∣ f := Nat.gcd_dvd_right _ _
  refine ⟨?_, Nat.div_le_self _ _, Nat.div_pos (Nat.le_of_dvd h g1) (Nat.gcd_pos_of_pos_left _ h)⟩
  obtain ⟨k, hk⟩ := g2
  refine ⟨k, ?_⟩
  calc f * (d / d.gcd f) = (d.gcd f * k) * (d / d.gcd f) := by rw [← hk]
    _ = (d.gcd f * (d / d.gcd f)) * k := by rw [Nat.mul_right_comm]
    _ = d * k := by rw [Nat.mul_div_cancel' g1]
theorem scl_ok (p : Ms.P) {V : Nat} (h : ∀ x ∈ p, x.2.den ≤ V) : ∀ i, i ≤ p.length → (∀ x ∈ p.take i, x.2.den ∣ scl (p.take i)) ∧ scl (p.take i) ≤ V ^ i ∧ 0 < scl (p.take i)
  | 0, _ => ⟨fun x hx => by simp at hx, Nat.le_refl _, Nat.one_pos⟩
  | i + 1, l => by
    have hy : p[i]? = some p[i] := List.getElem?_eq_getElem (by omega)
    obtain ⟨a, b, c⟩ := scl_ok p h i (by omega)
    obtain ⟨d1, d2, d3⟩ := den_fac (scl (p.take i)) p[i].2.den p[i].2.den_pos
    have v := h _ (List.getElem_mem (show i < p.length by omega))
    rw [scl_take hy]
    refine ⟨fun x hx => ?_, by rw [Nat.pow_succ]; exact Nat.mul_le_mul b (by omega), Nat.mul_pos c d3⟩
    rw [List.take_add_one, hy] at hx
    rcases List.mem_append.mp hx with hx | hx
    · exact Nat.dvd_trans (a x hx) (Nat.dvd_mul_right _ _)
    · rcases List.mem_singleton.mp hx with rfl
      exact d1
def ScaleU (F : Fs) : Prop := ∀ p : Ms.P, Sw 432000 416 15 p → Gv (F i_law_scale [stp p]) (.int (scl p : Nat))
def LedU (F : Fs) : Prop := ∀ (n m : Nat) (xs ys : List Int) (c : Int) (s : Sto), s[n]? = some (.lst (iL xs)) → s[m]? = some (.lst (iL ys)) → xs.length ≤ 100 → ys.length ≤ 100 → c.natAbs < 2 ^ 30000 → Bn ys → wp (F i_law_led [.loc n, .loc m, .int c]) (fun d s' => Gr s s' ∧ ∃ k, d = .loc k ∧ s.length ≤ k ∧ s'[k]? = some (.lst (iL (trim (padd xs (0 :: sc c ys) 1))))) s
theorem den_le {p : Ms.P} {N L : Nat} (sw : Sw 432000 N L p) : ∀ x ∈ p, x.2.den ≤ 432000 := fun x hx => Nat.le_of_dvd (by decide) ((sw.bd x hx).den (by decide))
theorem scl_cap {n i : Nat} (h : i ≤ 15) (l : n ≤ 432000 ^ i) : n < 2 ^ 300 := Nat.lt_of_le_of_lt (Nat.le_trans l (Nat.pow_le_pow_right (by decide) h)) (by decide +kernel)
section
variable {F : Fs} {g : Str → Option Dv}
theorem scale2_s (fL : FracS F i_law_low) (p : Ms.P) (sw : Sw 432000 416 15 p) : Gv (runDef F g d_law_scale [stp p]) (.int (scl p : Nat)) := by
  have pl := sw.len
  refine gv_wp fun s => wp_run (env := [some (stp p), none, none, none]) rfl rfl ?_
  refine ws_asg (wp_is (a := .int 1) (by rw [ev]) ?_)
  refine ws_for (items := p.map pc) (fun i env s' => i ≤ p.length ∧ s' = s ∧ ∃ a b, env = [some (stp p), some (.int (scl (p.take i) : Nat)), a, b])
    (wp_is (a := .tup (p.map pc)) (by rw [evi, ev]; rfl) ⟨Nat.le_refl _, ⟨Nat.zero_le _, rfl, _, _, rfl⟩, fun i env s' _ => rfl⟩) ?_ ?_
  · rintro i x env s2 hx ⟨_, rfl, a, b, rfl⟩
    obtain ⟨y, hy, rfl⟩ : ∃ y, p[i]? = some y ∧ pc y = x := by
      rw [List.getElem?_map] at hx
      exact Option.map_eq_some_iff.mp hx
    have hi : i < p.length := (List.getElem?_eq_some_iff.mp hy).1
    obtain ⟨z1, z2, z3⟩ := scl_ok p (den_le sw) i (by omega)
    have nx := scl_take hy
    have dy := den_le sw y (List.mem_of_getElem? hy)
    generalize scl (p.take i) = f at nx z2 z3
    have fc : f < 2 ^ 300 := scl_cap (by omega) z2
    obtain ⟨_, d2, _⟩ := den_fac f y.2.den y.2.den_pos
    refine ⟨[some (stp p), some (.int (f : Nat)), some (.int y.1), some (rv y.2)], rfl, ?_⟩
    have mo : mulOk (f : Nat) ((mkRat (f : Int) y.2.den).den : Nat) = true := mul_small (k := 300) (l := 300) (by rw [Int.natAbs_natCast]; exact fc) (by rw [Int.natAbs_natCast]; exact Nat.lt_of_le_of_lt (Nat.le_trans d2 dy) (by decide +kernel)) (by decide)
    have lw := fL (f : Nat) (y.2.den : Nat) (by have := y.2.den_pos; omega) (by rw [Int.natAbs_natCast]; exact Nat.lt_of_le_of_lt dy (by decide +kernel))
    rw [Int.toNat_natCast] at lw
    refine ws_asg (wp_bin (wp_var rfl (wp_idx (wp_call (wp_consA (wp_var rfl (wp_consA (wp_idx (wp_var rfl (wp_is (a := .int 1) (by rw [ev]) (wp_is (rv1 _) (wp_nilA (wp_is lw (wp_is (a := .int 1) (by rw [ev]) (wp_is (rv1 _) (wp_is (mul_ii mo) ?_))))))))))))))))
    refine ws_nil (F := F) (gv := g) ⟨_, rfl, hi, rfl, some (.int y.1), some (rv y.2), ?_⟩
    rw [nx, Int.natCast_mul]
    rfl
  · rintro env s2 ⟨_, rfl, a, b, rfl⟩
    rw [List.length_map, List.take_length]
    exact ws_ret (wp_var rfl ⟨_, rfl, rfl, .refl _⟩)
end
end K52
end
section
set_option Elab.async false
set_option linter.all false
set_option maxRecDepth 100000
namespace K52
open PySem PySem.Spec PyProof.Rows L2 Dd Sh Ms Mw
theorem gr_le {a b : Sto} (h : Gr a b) : a.length ≤ b.length := by
  obtain ⟨t, rfl⟩ := h
  rw [List.length_append]
  omega
theorem take_getD (W : List Int) {k : Nat} (h : k < W.length) : W.take (k + 1) = W.take k ++ [W.getD k 0] := by
  rw [List.take_add_one, List.getElem?_eq_getElem h, List.getD_eq_getElem?_getD, List.getElem?_eq_getElem h]
  rfl
theorem iL_snoc (xs : List Int) (x : Int) : iL (xs ++ [x]) = iL xs ++ [.int x] := by unfold iL; rw [List.map_append]; rfl
section
variable {F : Fs} {g : Str → Option Dv}
theorem cell_or {i n : Nat} {xs : List Int} {k : Nat} {env : DEnv} {s : Sto} {Q : Dv → Sto → Prop} (e1 : env[i]? = some (some (.loc n))) (e3 : env[3]? = some (some (.int (k : Nat)))) (h : s[n]? = some (.lst (iL xs))) (q : Q (.int (xs.getD k 0)) s) : wp (ev F g (.ite (.cmp .lt (.var 3) (.blt .len (.cons (.var i) .nil))) (.idx (.var i) (.var 3)) (.int (0))) env) Q s := by
  refine wp_ite (wt_cmp (wp_var e3 (wp_blt (wp_consA (wp_var e1 (wp_nilA (lst_len h (wp_is (lt_ii _ _) ?_))))))))
  rw [iL_len]
  by_cases c : k < xs.length
  · rw [decide_eq_true (by omega), if_pos rfl]
    exact wp_idx (wp_var e1 (wp_var e3 (wp_ok (idx_loc h (iL_at c)) q)))
  · rw [decide_eq_false (by omega), if_neg (by simp)]
    refine wp_is (a := .int 0) (by rw [ev]) ?_
    have : xs.getD k 0 = 0 := by rw [List.getD_eq_getElem?_getD, List.getElem?_eq_none (by omega)]; rfl
    rw [this] at q
    exact q
theorem led_s (n m : Nat) (xs ys : List Int) (c : Int) (s : Sto) (hn : s[n]? = some (.lst (iL xs))) (hm : s[m]? = some (.lst (iL ys))) (lx : xs.length ≤ 100) (ly : ys.length ≤ 100) (hc : c.natAbs < 2 ^ 30000) (hb : Bn ys) : wp (runDef F g d_law_led [.loc n, .loc m, .int c]) (fun d s' => Gr s s' ∧ ∃ k, d = .loc k ∧ s.length ≤ k ∧ s'[k]? = some (.lst (iL (trim (padd xs (0 :: sc c ys) 1))))) s := by
  refine wp_run (env := [some (.loc n), some (.loc m), some (.int c), none, none, none, none]) rfl rfl ?_
  have more : ∀ Q : Dv → Sto → Prop, (∀ k s', Gr s s' → s'[k]? = some (.lst (iL (0 :: sc c ys))) → Q (.loc k) s') → wp (ev F g (.bin .add (.lst (.cons (.int (0)) .nil)) (.comp (.bin .mul (.var 2) (.var 6)) (.nm 6) (.seq (.var 1)) .none [6])) [some (.loc n), some (.loc m), some (.int c), none, none, none, none]) Q s := fun Q q => by
    refine wp_bin (wp_lst (wp_consA (wp_is (a := .int 0) (by rw [ev]) (wp_nilA (wp_newL (by simp) fun m1 s1 g1 c1 => ?_)))))
    refine wp_comp0 (g := fun x : Int => .int x) (f := fun x => .int (c * x)) (all := ys) (by omega) (wk_seq (n := m) (xs := iL ys) (by rw [ev]; rfl) (g1.get hm) ⟨.refl _, walk_lst (g1.get hm), fun x hx => ⟨[some (.loc n), some (.loc m), some (.int c), none, none, none, some (.int x)], rfl, fun s2 g2 => ?_⟩⟩) fun m2 s2 g2 c2 => ?_
    · have mo : mulOk c x = true := mul_small hc (hb x hx) (by decide)
      exact wp_bin (wp_var rfl (wp_var rfl (wp_is (mul_ii mo) ⟨.refl _, rfl⟩)))
    · have e : ys.map (fun x => Dv.int (c * x)) = iL (sc c ys) := by unfold iL sc; rw [List.map_map]; rfl
      rw [e] at c2
      exact wp_addL (g2.get c1) c2 (by rw [iL_len, sc_len]; simp; omega) fun k s' g3 c3 => q k s' ((g1.trans g2).trans g3) (by rw [c3]; rfl)
  refine ws_par (more _ fun mm s4 g4 c4 => ?_)
  refine wp_lst (wp_nilA (wp_ok (show newL [] s4 = .ok (.loc s4.length) (s4 ++ [.lst []]) from rfl) ?_))
  generalize hM : (0 :: sc c ys) = MM at c4
  have lM : MM.length ≤ 101 := by rw [← hM, List.length_cons, sc_len]; omega
  have g5 : Gr s4 (s4 ++ [.lst []]) := .push _ _
  have bl := padd_len xs MM 1
  have bz : big xs MM ≤ 101 := by unfold big; split <;> omega
  generalize hW : padd xs MM 1 = W at bl
  have wa : ∀ k, W.getD k 0 = xs.getD k 0 + MM.getD k 0 := fun k => by rw [← hW, padd_at, Int.one_mul]
  refine ws_forW (wk_rngW (wp_blt (wp_consA (wp_blt (wp_consA (wp_var rfl (wp_nilA (lst_len ((g4.trans g5).get hn) ?_))))))))
  refine wp_consA (wp_blt (wp_consA (wp_var rfl (wp_nilA (lst_len (g5.get c4) ?_)))))
  rw [iL_len, iL_len]
  refine wp_nilA (wp_is (a := .int (big xs MM : Nat)) ?_ ⟨big xs MM, rfl, by omega, ?_⟩)
  · show (pure (Dv.int (if ((MM.length : Nat) : Int) > ((xs.length : Nat) : Int) then ((MM.length : Nat) : Int) else ((xs.length : Nat) : Int))) : M Dv) = _
    congr 2
    unfold big
    split <;> split <;> omega
  refine ⟨fun k env s' => k ≤ big xs MM ∧ Gr s4 s' ∧ s'[s4.length]? = some (.lst (iL (W.take k))) ∧ ∃ a, env = [some (.loc n), some (.loc m), some (.int c), a, some (.loc mm), some (.loc s4.length), none], (List.range (big xs MM)).map fun (i : Nat) => .int (0 + (i : Int)), (items_rng 0 _).2 _, ⟨Nat.zero_le _, g5, by simp [iL], _, rfl⟩, fun i env s' _ => (items_rng 0 _).1 i s', ?_, ?_⟩
  · rintro k x env s6 hx ⟨_, g6, c6, a, rfl⟩
    have hk : k < big xs MM := by
      have := (List.getElem?_eq_some_iff.mp hx).1
      simpa using this
    have ex : x = .int (k : Int) := by
      rw [List.getElem?_map, List.getElem?_range hk] at hx
      cases hx
      show Dv.int (0 + (k : Int)) = _
      rw [Int.zero_add]
    subst ex
    have lt6 := (List.getElem?_eq_some_iff.mp c6).1
    refine ⟨[some (.loc n), some (.loc m), some (.int c), some (.int (k : Int)), some (.loc mm), some (.loc s4.length), none], rfl, ?_⟩
    refine ws_app (n := s4.length) (by rw [ev]; rfl) c6 ?_
    refine wp_bin (cell_or rfl rfl ((g4.trans g6).get hn) (cell_or rfl rfl (g6.get c4) (wp_is (add_ii _ _) ⟨_, c6, by rw [iL_len, List.length_take]; omega, ?_⟩)))
    refine ws_nil (F := F) (gv := g) ⟨_, rfl, hk, gr_set g6 (Nat.le_refl _) _, ?_, _, rfl⟩
    rw [List.getElem?_set_self lt6, take_getD W (by omega), iL_snoc, wa]
  · rintro env s6 ⟨_, g6, c6, a, rfl⟩
    rw [List.length_map, List.length_range] at c6
    refine ws_whl (fun j env s' => j ≤ big xs MM ∧ Gr s4 s' ∧ s'[s4.length]? = some (.lst (iL (W.take j))) ∧ tl W W.length = tl W j ∧ env = [some (.loc n), some (.loc m), some (.int c), a, some (.loc mm), some (.loc s4.length), none]) (big xs MM) (by omega) ⟨Nat.le_refl _, g6, c6, by rw [bl], rfl⟩ ?_
    rintro j env s7 ⟨hj, g7, c7, et, rfl⟩
    have fin : ∀ s8, Gr s4 s8 → s8[s4.length]? = some (.lst (iL (W.take j))) → tl W W.length = j → wp (exs F g (.cons (.ret (.var 5)) .nil) [some (.loc n), some (.loc m), some (.int c), a, some (.loc mm), some (.loc s4.length), none]) (fun fl s1 => ∃ v, fl = .rt v ∧ Gr s s1 ∧ ∃ k, v = .loc k ∧ s.length ≤ k ∧ s1[k]? = some (.lst (iL (trim W)))) s8 := fun s8 g8 c8 e => by
      refine ws_ret (wp_var rfl ⟨_, rfl, g4.trans g8, _, rfl, gr_le g4, ?_⟩)
      rw [c8]
      unfold trim
      rw [e]
    refine wt_and (wt_cmp (wp_var rfl (wp_lst (wp_nilA (wp_newL (by simp) fun e0 s8 g8 c8 => wp_ok (ne_empty (g8.get c7) c8) ?_)))))
    cases j with
    | zero =>
      rw [decide_eq_true (by simp)]
      simp only [Bool.not_true, Bool.false_eq_true, if_false]
      exact fin s8 (g7.trans g8) (g8.get c7) et
    | succ i =>
      have tk := take_getD W (k := i) (by omega)
      have ne : W.take (i + 1) ≠ [] := by rw [tk]; simp
      rw [decide_eq_false ne]
      simp only [Bool.not_false, if_true]
      have c8' : s8[s4.length]? = some (.lst (iL (W.take i) ++ [.int (W.getD i 0)])) := by rw [← iL_snoc, ← tk]; exact g8.get c7
      refine wt_cmp (wp_idx (wp_var rfl (wp_is (a := .int (-1)) (by rw [ev, ev]; rfl) (wp_ok (idx_loc c8' (atI_last _ _)) (wp_is (a := .int 0) (by rw [ev]) (wp_is (eq_ii _ _) ?_))))))
      by_cases z : W.getD i 0 = 0
      · rw [decide_eq_true z, if_pos rfl]
        have lt8 := (List.getElem?_eq_some_iff.mp c8').1
        refine ⟨i, rfl, ws_ex (wp_pop (n := s4.length) (by rw [ev]; rfl) c8' ?_)⟩
        refine ws_nil (F := F) (gv := g) ⟨_, rfl, by omega, gr_set (g7.trans g8) (Nat.le_refl _) _, by rw [List.getElem?_set_self lt8], ?_, rfl⟩
        rw [et]
        conv => lhs; unfold tl
        rw [if_pos z]
      · rw [decide_eq_false z, if_neg (by simp)]
        refine fin s8 (g7.trans g8) (g8.get c7) ?_
        rw [et]
        conv => lhs; unfold tl
        rw [if_neg z]
end
end K52
end
section
set_option Elab.async false
set_option linter.all false
set_option maxRecDepth 100000
namespace K52
open PySem PySem.Spec PyProof.Rows L2 Dd Sh Ms Mw
def lrow (l size : Int) (xa xb : List Int) : List Int × List Int := if l = 0 then (xa, trim (padd xb (0 :: sc size xa) 1)) else (trim (padd xa (0 :: sc (0 - size) xb) 1), xb)
def lst1 (l size : Int) (x : Pl) : Pl := ⟨(lrow l size x.a x.b).1, (lrow l size x.a x.b).2, (lrow l size x.c x.d).1, (lrow l size x.c x.d).2, 1⟩
def szOf (n : Nat) (q : Rat) : Int := q.num * ((n : Int) / (q.den : Int))
def lps (n : Nat) (p : Ms.P) : Pl := p.foldl (fun x y => lst1 y.1 (szOf n y.2) x) ⟨[1], [], [], [1], 1⟩
theorem lps_take {n : Nat} {p : Ms.P} {i : Nat} {y : Pc} (h : p[i]? = some y) : lps n (p.take (i + 1)) = lst1 y.1 (szOf n y.2) (lps n (p.take i)) := by
  unfold lps
  rw [List.take_add_one, h, List.foldl_append]
  rfl
theorem cons_sc (c : Int) (xs : List Int) (k : Nat) : ((0 : Int) :: sc c xs).getD k 0 = c * ((0 : Int) :: xs).getD k 0 := by
  cases k with
  | zero => show (0 : Int) = c * 0; rw [Int.mul_zero]
  | succ k => exact sc_at c xs k
theorem Lst.more {Z n Y : Nat} {xs ys : List Int} {c : Int} (h : Lst Z n xs) (k : Lst Z n ys) (hc : c.natAbs ≤ Y) (hY : 1 ≤ Y) : Lst (Z * (2 * Y)) (n + 1) (trim (padd xs (0 :: K52.sc c ys) 1)) := by
  refine ⟨?_, fun x hx => ?_, trim_top _⟩
  · have a := trim_len (padd xs (0 :: K52.sc c ys) 1)
    rw [padd_len] at a
    have e : ((0 : Int) :: K52.sc c ys).length = ys.length + 1 := by rw [List.length_cons, sc_len]
    have := h.len
    have := k.len
    unfold big at a
    split at a <;> omega
  · obtain ⟨i, rfl⟩ := mem_getD hx
    rw [trim_at, padd_at, cons_sc]
    have := (lin_le (a := 1) (show (1 : Int).natAbs ≤ Y from hY) (getD_bd h.bd i) hc (getD_bd (cons_bd k.bd) i)).1
    rw [Int.one_mul] at this
    rw [Int.one_mul]
    exact this
theorem Lst.up {Z n Y : Nat} {xs : List Int} (h : Lst Z n xs) (hY : 1 ≤ Y) : Lst (Z * (2 * Y)) (n + 1) xs := ⟨Nat.le_succ_of_le h.len, fun x hx => Nat.le_trans (h.bd x hx) (Nat.le_mul_of_pos_right _ (by omega)), h.top⟩
structure LB (Z n : Nat) (x : Pl) : Prop where
  a : Lst Z n x.a
  b : Lst Z n x.b
  c : Lst Z n x.c
  d : Lst Z n x.d
theorem lrow_b {Z n Y : Nat} {l c : Int} {xa xb : List Int} (h : Lst Z n xa) (k : Lst Z n xb) (hc : c.natAbs ≤ Y) (hY : 1 ≤ Y) : Lst (Z * (2 * Y)) (n + 1) (lrow l c xa xb).1 ∧ Lst (Z * (2 * Y)) (n + 1) (lrow l c xa xb).2 := by
  unfold lrow
  split
  · exact ⟨h.up hY, k.more h hc hY⟩
  · exact ⟨h.more k (by omega) hY, k.up hY⟩
theorem lps_b {m : Nat} {p : Ms.P} {Y : Nat} (hY : 1 ≤ Y) (h : ∀ x ∈ p, (szOf m x.2).natAbs ≤ Y) : ∀ i, i ≤ p.length → LB ((2 * Y) ^ i) (i + 1) (lps m (p.take i))
  | 0, _ => ⟨PB.one.a, PB.one.b, PB.one.c, PB.one.d⟩
  | i + 1, l => by
    have hy : p[i]? = some p[i] := List.getElem?_eq_getElem (by omega)
    rw [lps_take hy, Nat.pow_succ]
    have b := lps_b hY h i (by omega)
    have z := h _ (List.getElem_mem (show i < p.length by omega))
    have r1 := lrow_b (l := p[i].1) b.a b.b z hY
    have r2 := lrow_b (l := p[i].1) b.c b.d z hY
    exact ⟨r1.1, r1.2, r2.1, r2.2⟩
def pw (w : Rat) : Nat → Rat
  | 0 => 1
  | k + 1 => pw w k * w
structure LR (w : Rat) (x : Pl) (m : Mc.Pm) : Prop where
  a : ∀ k, ((x.a.getD k 0 : Int) : Rat) = m.a k * pw w k
  b : ∀ k, ((x.b.getD k 0 : Int) : Rat) = m.b k * pw w k
  c : ∀ k, ((x.c.getD k 0 : Int) : Rat) = m.c k * pw w k
  d : ∀ k, ((x.d.getD k 0 : Int) : Rat) = m.d k * pw w k
theorem lmix {w s : Rat} {c : Int} (hc : (c : Rat) = s * w) {xs ys : List Int} {f r : Mc.Fn} (hx : ∀ k, ((xs.getD k 0 : Int) : Rat) = f k * pw w k) (hy : ∀ k, ((ys.getD k 0 : Int) : Rat) = r k * pw w k) (k : Nat) : (((trim (padd xs (0 :: sc c ys) 1)).getD k 0 : Int) : Rat) = (f k + s * Mc.sh r k) * pw w k := by
  rw [trim_at, padd_at, cons_sc, Int.one_mul, Rat.intCast_add, Rat.intCast_mul, hx, hc]
  cases k with
  | zero =>
    show f 0 * 1 + s * w * ((0 : Int) : Rat) = (f 0 + s * 0) * 1
    have : ((0 : Int) : Rat) = 0 := rfl
    rw [this]
    grind
  | succ k =>
    show f (k + 1) * pw w (k + 1) + s * w * ((ys.getD k 0 : Int) : Rat) = (f (k + 1) + s * r k) * pw w (k + 1)
    rw [hy]
    show f (k + 1) * (pw w k * w) + s * w * (r k * pw w k) = (f (k + 1) + s * r k) * (pw w k * w)
    grind
theorem LR.step {w s : Rat} {c : Int} {x : Pl} {m : Mc.Pm} (l : Int) (hc : (c : Rat) = s * w) (h : LR w x m) : LR w (lst1 l c x) (Mc.put l s m) := by
  have hn : ((0 - c : Int) : Rat) = -s * w := by rw [Int.zero_sub, Rat.intCast_neg, hc, Rat.neg_mul]
  unfold lst1 lrow Mc.put
  by_cases z : l = 0
  · simp only [z, if_true]
    exact ⟨h.a, lmix hc h.b h.a, h.c, lmix hc h.d h.c⟩
  · simp only [z, if_false]
    exact ⟨lmix hn h.a h.b, h.b, lmix hn h.c h.d, h.d⟩
theorem LR.one (w : Rat) : LR w ⟨[1], [], [], [1], 1⟩ Mc.e := by
  have o : ∀ k, ((([1] : List Int).getD k 0 : Int) : Rat) = Mc.one k * pw w k := fun k => by
    cases k with
    | zero => show ((1 : Int) : Rat) = 1 * 1; rw [Rat.one_mul]; rfl
    | succ k => show ((0 : Int) : Rat) = 0 * _; rw [Rat.zero_mul]; rfl
  have n : ∀ k : Nat, ((([] : List Int).getD k 0 : Int) : Rat) = 0 * pw w k := fun k => by
    rw [Rat.zero_mul]; simp
  exact ⟨o, n, n, o⟩
theorem sz_of {n : Nat} {q : Rat} (h : q.den ∣ n) : ((szOf n q : Int) : Rat) = q * (n : Rat) := by
  obtain ⟨k, rfl⟩ := h
  have ne : (q.den : Int) ≠ 0 := by have := q.den_pos; omega
  unfold szOf
  rw [Int.natCast_mul, Int.mul_ediv_cancel_left _ ne, Rat.intCast_mul, ← div_num q, Rat.natCast_mul]
  have : ((k : Int) : Rat) = (k : Rat) := rfl
  rw [this]
  grind
theorem lps_r {n : Nat} (p : Ms.P) (h : ∀ x ∈ p, x.2.den ∣ n) : ∀ i, i ≤ p.length → LR (n : Rat) (lps n (p.take i)) (Mc.run Mc.e (p.take i))
  | 0, _ => LR.one _
  | i + 1, l => by
    have hy : p[i]? = some p[i] := List.getElem?_eq_getElem (by omega)
    have e : Mc.run Mc.e (p.take (i + 1)) = Mc.put p[i].1 p[i].2 (Mc.run Mc.e (p.take i)) := by
      rw [List.take_add_one, hy, Mc.run_app]
      rfl
    rw [lps_take hy, e]
    exact (lps_r p h i (by omega)).step _ (sz_of (h _ (List.getElem_mem (show i < p.length by omega))))
/-! in the store -/
def QL (s : Sto) (n : Nat) (x : Pl) : Prop := ∃ i j a b c d, s[n]? = some (.lst [.loc i, .loc j]) ∧ s[i]? = some (.lst [.loc a, .loc b]) ∧ s[j]? = some (.lst [.loc c, .loc d]) ∧ s[a]? = some (.lst (iL x.a)) ∧ s[b]? = some (.lst (iL x.b)) ∧ s[c]? = some (.lst (iL x.c)) ∧ s[d]? = some (.lst (iL x.d))
theorem QL.gr {s s' : Sto} {n : Nat} {x : Pl} (h : QL s n x) (g : Gr s s') : QL s' n x := by
  obtain ⟨i, j, a, b, c, d, h1, h2, h3, h4, h5, h6, h7⟩ := h
  exact ⟨i, j, a, b, c, d, g.get h1, g.get h2, g.get h3, g.get h4, g.get h5, g.get h6, g.get h7⟩
def pbody : Ss := (.cons (.ite (.cmp .eq (.var 3) (.int (0))) (.cons (.app (.var 6) (.lst (.cons (.var 7) (.cons (.call i_law_led (.cons (.var 8) (.cons (.var 7) (.cons (.var 5) .nil)))) .nil)))) .nil) (.cons (.app (.var 6) (.lst (.cons (.call i_law_led (.cons (.var 7) (.cons (.var 8) (.cons (.bin .sub (.int (0)) (.var 5)) .nil)))) (.cons (.var 8) .nil)))) .nil)) .nil)
section
variable {F : Fs} {g : Str → Option Dv}
theorem prow_ok (fL : LedU F) {v0 v1 v2 v4 : Option Dv} {l size : Int} {f a b : Nat} {xa xb : List Int} {xs : List Dv} {s0 s : Sto} {Q : Fl → Sto → Prop} (g0 : Gr s0 s) (hf : s0.length ≤ f) (cf : s[f]? = some (.lst xs)) (lx : xs.length ≤ 5) (ca : s[a]? = some (.lst (iL xa))) (cb : s[b]? = some (.lst (iL xb))) (na : a ≠ f) (nb : b ≠ f) (la : xa.length ≤ 100) (lb : xb.length ≤ 100) (ba : Bn xa) (bb : Bn xb) (hs : size.natAbs < 2 ^ 30000)
    (q : ∀ nr u v s', Gr s0 s' → s'[f]? = some (.lst (xs ++ [.loc nr])) → s'[nr]? = some (.lst [.loc u, .loc v]) → s'[u]? = some (.lst (iL (lrow l size xa xb).1)) → s'[v]? = some (.lst (iL (lrow l size xa xb).2)) → nr ≠ f → u ≠ f → v ≠ f → Kp f s s' → Q (.nx [v0, v1, v2, some (.int l), v4, some (.int size), some (.loc f), some (.loc a), some (.loc b)]) s') :
    wp (exs F g pbody [v0, v1, v2, some (.int l), v4, some (.int size), some (.loc f), some (.loc a), some (.loc b)]) Q s := by
  have lf := (List.getElem?_eq_some_iff.mp cf).1
  -- the end: a new row of u and v
  have fin : ∀ (u v : Nat) (s1 : Sto) (Q' : Dv → Sto → Prop), Gr s s1 → s1[u]? = some (.lst (iL (lrow l size xa xb).1)) → s1[v]? = some (.lst (iL (lrow l size xa xb).2)) → u ≠ f → v ≠ f → (∀ nr s2, Gr s1 s2 → s.length ≤ nr → s2[nr]? = some (.lst [.loc u, .loc v]) → Q' (.loc nr) s2) → wp (newL [.loc u, .loc v]) Q' s1 := fun u v s1 Q' g1 cu cv nu nv hq => by
    refine wp_ok (show newL [.loc u, .loc v] s1 = .ok (.loc s1.length) (s1 ++ [.lst [.loc u, .loc v]]) from rfl) (hq _ _ (.push _ _) (gr_le g1) (by simp))
  have last : ∀ (u v nr : Nat) (s1 s2 : Sto), Gr s s1 → Gr s1 s2 → s1[u]? = some (.lst (iL (lrow l size xa xb).1)) → s1[v]? = some (.lst (iL (lrow l size xa xb).2)) → u ≠ f → v ≠ f → s.length ≤ nr → s2[nr]? = some (.lst [.loc u, .loc v]) → ∃ ys, s2[f]? = some (.lst ys) ∧ ys.length ≤ 1000000 ∧ wp (exs F g .nil [v0, v1, v2, some (.int l), v4, some (.int size), some (.loc f), some (.loc a), some (.loc b)]) (fun fl s2 => match fl with
      | .nx e => wp (exs F g .nil e) Q s2
      | fl => Q fl s2) (s2.set f (.lst (ys ++ [.loc nr]))) := fun u v nr s1 s2 g1 g2 cu cv nu nv ln cn => by
    have c2 := (g1.trans g2).get cf
    have lt2 := (List.getElem?_eq_some_iff.mp c2).1
    refine ⟨xs, c2, by omega, ws_nil (F := F) (gv := g) (ws_nil (F := F) (gv := g) (q nr u v _ (gr_set (g0.trans (g1.trans g2)) hf _) (List.getElem?_set_self lt2) ?_ ?_ ?_ (by omega) nu nv ?_))⟩
    · rw [List.getElem?_set_ne (by omega)]; exact cn
    · rw [List.getElem?_set_ne (fun e => nu e.symm)]; exact g2.get cu
    · rw [List.getElem?_set_ne (fun e => nv e.symm)]; exact g2.get cv
    · intro m c hm hc
      rw [List.getElem?_set_ne (fun e => hm e.symm)]
      exact (g1.trans g2).get hc
  refine ws_if (wt_cmp (wp_var rfl (wp_is (a := .int 0) (by rw [ev]) (wp_is (eq_ii _ _) ?_))))
  by_cases h : l = 0
  · rw [decide_eq_true h, if_pos rfl]
    have e : lrow l size xa xb = (xa, trim (padd xb (0 :: sc size xa) 1)) := by unfold lrow; rw [if_pos h]
    refine ws_app (n := f) (xs := xs) (by rw [ev]; rfl) cf (wp_lst (wp_consA (wp_var rfl ?_)))
    refine wp_consA (wp_call (wp_consA (wp_var rfl (wp_consA (wp_var rfl (wp_consA (wp_var rfl (wp_nilA (wp_imp (fL b a xb xa size s cb ca lb la hs ba) fun d s1 ⟨g1, k, ed, lk, ck⟩ => ?_)))))))))
    subst ed
    have cu : s1[a]? = some (.lst (iL (lrow l size xa xb).1)) := by rw [e]; exact g1.get ca
    have cv : s1[k]? = some (.lst (iL (lrow l size xa xb).2)) := by rw [e]; exact ck
    exact wp_nilA (fin a k s1 _ g1 cu cv na (by omega) fun nr s2 g2 ln cn => last a k nr s1 s2 g1 g2 cu cv na (by omega) ln cn)
  · rw [decide_eq_false h, if_neg (by simp)]
    have e : lrow l size xa xb = (trim (padd xa (0 :: sc (0 - size) xb) 1), xb) := by unfold lrow; rw [if_neg h]
    refine ws_app (n := f) (xs := xs) (by rw [ev]; rfl) cf (wp_lst (wp_consA ?_))
    refine wp_call (wp_consA (wp_var rfl (wp_consA (wp_var rfl (wp_consA (wp_bin (wp_is (a := .int 0) (by rw [ev]) (wp_var rfl (wp_is (sub_ii _ _) (wp_nilA (wp_imp (fL a b xa xb (0 - size) s ca cb la lb (by omega) bb) fun d s1 ⟨g1, k, ed, lk, ck⟩ => ?_)))))))))))
    subst ed
    have cu : s1[k]? = some (.lst (iL (lrow l size xa xb).1)) := by rw [e]; exact ck
    have cv : s1[b]? = some (.lst (iL (lrow l size xa xb).2)) := by rw [e]; exact g1.get cb
    exact wp_consA (wp_var rfl (wp_nilA (fin k b s1 _ g1 cu cv (by omega) nb fun nr s2 g2 ln cn => last k b nr s1 s2 g1 g2 cu cv (by omega) nb ln cn)))
end
end K52
end
section
set_option Elab.async false
set_option linter.all false
set_option maxRecDepth 100000
namespace K52
open PySem PySem.Spec PyProof.Rows L2 Dd Sh Ms Mw
def LPolyU (F : Fs) : Prop := ∀ (p : Ms.P) (s : Sto), Sw 432000 416 15 p → wp (F i_law_polynomials [stp p]) (fun d s' => Gr s s' ∧ ∃ n, d = .tup [.loc n, .int (scl p : Nat)] ∧ QL s' n (lps (scl p) p)) s
theorem sz_cap {n : Nat} {q : Rat} (b : Bd 432000 416 q) (h : n < 2 ^ 300) : (szOf n q).natAbs < 2 ^ 900 := by
  have z : q.num.natAbs < 2 ^ 100 := (b.sz (k := 100) (by decide) (by decide +kernel) (by decide +kernel)).1
  have e : ((n : Int) / (q.den : Int)).natAbs ≤ n := by
    rw [← Int.natCast_ediv, Int.natAbs_natCast]
    exact Nat.div_le_self _ _
  unfold szOf
  rw [Int.natAbs_mul]
  have := Nat.mul_lt_mul'' z (Nat.lt_of_le_of_lt e h)
  refine Nat.lt_trans this ?_
  rw [← Nat.pow_add]
  exact Nat.pow_lt_pow_right (by decide) (by decide)
section
variable {F : Fs} {g : Str → Option Dv}
theorem lpoly_s (fS : ScaleU F) (fL : LedU F) (p : Ms.P) (s : Sto) (sw : Sw 432000 416 15 p) : wp (runDef F g d_law_polynomials [stp p]) (fun d s' => Gr s s' ∧ ∃ n, d = .tup [.loc n, .int (scl p : Nat)] ∧ QL s' n (lps (scl p) p)) s := by
  have pl := sw.len
  obtain ⟨dv, scap, spos⟩ := scl_ok p (den_le sw) _ (Nat.le_refl _)
  rw [List.take_length] at dv scap spos
  have m300 : scl p < 2 ^ 300 := scl_cap pl scap
  have szc : ∀ x ∈ p, (szOf (scl p) x.2).natAbs < 2 ^ 900 := fun x hx => sz_cap (sw.bd x hx) m300
  have lbd := lps_b (m := scl p) (p := p) (Y := 2 ^ 900) (Nat.two_pow_pos _) (fun x hx => Nat.le_of_lt (szc x hx))
  have hS := fS p sw
  generalize scl p = m at m300 szc lbd hS
  refine wp_run (env := [some (stp p), none, none, none, none, none, none, none, none]) rfl rfl ?_
  refine ws_par (wp_gv (gv_call1 (gv_var rfl) hS) fun s0 g0 => ?_)
  refine wp_lst (wp_consA (wp_lst (wp_consA (wp_lst (wp_consA (wp_is (a := .int 1) (by rw [ev]) (wp_nilA (wp_newL (by simp) fun a s1 g1 c1 => ?_))))))))
  refine wp_consA (wp_lst (wp_nilA (wp_newL (by simp) fun b s2 g2 c2 => wp_nilA (wp_newL (by simp) fun i s3 g3 c3 => ?_))))
  refine wp_consA (wp_lst (wp_consA (wp_lst (wp_nilA (wp_newL (by simp) fun c s4 g4 c4 => ?_)))))
  refine wp_consA (wp_lst (wp_consA (wp_is (a := .int 1) (by rw [ev]) (wp_nilA (wp_newL (by simp) fun d s5 g5 c5 => wp_nilA (wp_newL (by simp) fun j s6 g6 c6 => ?_))))))
  refine wp_nilA (wp_newL (by simp) fun n s7 g7 c7 => ?_)
  have q0 : QL s7 n ⟨[1], [], [], [1], 1⟩ := ⟨i, j, a, b, c, d, c7, (((g4.trans g5).trans g6).trans g7).get c3, g7.get c6, (((((g2.trans g3).trans g4).trans g5).trans g6).trans g7).get c1, ((((g3.trans g4).trans g5).trans g6).trans g7).get c2, ((g5.trans g6).trans g7).get c4, (g6.trans g7).get c5⟩
  have gg : Gr s s7 := ((((((g0.trans g1).trans g2).trans g3).trans g4).trans g5).trans g6).trans g7
  refine ws_for (items := p.map pc) (fun k env s' => k ≤ p.length ∧ Gr s s' ∧ ∃ n a b c d e f, env = [some (stp p), some (.int (m : Nat)), some (.loc n), a, b, c, d, e, f] ∧ QL s' n (lps m (p.take k)))
    (wp_is (a := .tup (p.map pc)) (by rw [evi, ev]; rfl) ⟨Nat.le_refl _, ⟨Nat.zero_le _, gg, n, _, _, _, _, _, _, rfl, q0⟩, fun i env s' _ => rfl⟩) ?_ ?_
  · rintro k x env s2 hx ⟨_, g2, n, v3, v4, v5, v6, v7, v8, rfl, ql⟩
    obtain ⟨y, hy, rfl⟩ : ∃ y, p[k]? = some y ∧ pc y = x := by
      rw [List.getElem?_map] at hx
      exact Option.map_eq_some_iff.mp hx
    have hk : k < p.length := (List.getElem?_eq_some_iff.mp hy).1
    have my := List.mem_of_getElem? hy
    have lb := lbd k (by omega)
    rw [lps_take hy]
    generalize lps m (p.take k) = x at lb ql
    have sc1 := szc y my
    have la := lb.a.len
    have lb' := lb.b.len
    have lc := lb.c.len
    have ld := lb.d.len
    have ba := lb.a.bn (by omega)
    have bb := lb.b.bn (by omega)
    have bc := lb.c.bn (by omega)
    have bd := lb.d.bn (by omega)
    refine ⟨[some (stp p), some (.int (m : Nat)), some (.loc n), some (.int y.1), some (rv y.2), v5, v6, v7, v8], rfl, ?_⟩
    have dp := y.2.den_pos
    have dl := den_le sw y my
    have fd := fdiv_ii (i := (m : Int)) (j := (y.2.den : Int)) (by omega) (by rw [Int.natAbs_natCast]; exact (Nat.log2_lt (by omega)).mpr (Nat.lt_of_le_of_lt dl (by decide +kernel)))
    have mo : mulOk y.2.num ((m : Int) / (y.2.den : Int)) = true := mul_small (k := 900) (l := 300) (szP (sw.bd y my)).1 (by rw [← Int.natCast_ediv, Int.natAbs_natCast]; exact Nat.lt_of_le_of_lt (Nat.div_le_self _ _) m300) (by decide)
    refine ws_par (wp_bin (wp_idx (wp_var rfl (wp_is (a := .int 0) (by rw [ev]) (wp_is (rv0 _) (wp_bin (wp_var rfl (wp_idx (wp_var rfl (wp_is (a := .int 1) (by rw [ev]) (wp_is (rv1 _) (wp_is fd (wp_is (mul_ii mo) ?_)))))))))))))
    refine wp_lst (wp_nilA (wp_ok (show newL [] s2 = .ok (.loc s2.length) (s2 ++ [.lst []]) from rfl) ?_))
    have g3 : Gr s2 (s2 ++ [.lst []]) := .push _ _
    have lt : ∀ {i : Nat} {c : Ce}, s2[i]? = some c → i ≠ s2.length := fun {i c} h => Nat.ne_of_lt (List.getElem?_eq_some_iff.mp h).1
    obtain ⟨i, j, a, b, c, d, h1, h2, h3, h4, h5, h6, h7⟩ := ql
    refine ws_forU2 (wk_seq (n := n) (xs := [.loc i, .loc j]) (by rw [ev]; rfl) (g3.get h1) ⟨n, _, _, rfl, g3.get h1, ?_⟩)
    refine wp_bindL (g3.get h2) (prow_ok fL (l := y.1) (size := szOf m y.2) (g3 : Gr s2 _) (Nat.le_refl _) (by simp) (by simp : ([] : List Dv).length ≤ 5) (g3.get h4) (g3.get h5) (lt h4) (lt h5) (by omega) (by omega) ba bb (Nat.lt_trans sc1 (Nat.pow_lt_pow_right (by decide) (by decide))) fun nr u v s4 g4 cf cn cu cv nf uf vf kp => ⟨_, rfl, g4.get h1, ?_⟩)
    refine wp_bindL (g4.get h3) (prow_ok fL (l := y.1) (size := szOf m y.2) (g4 : Gr s2 _) (Nat.le_refl _) cf (by simp) (g4.get h6) (g4.get h7) (lt h6) (lt h7) (by omega) (by omega) bc bd (Nat.lt_trans sc1 (Nat.pow_lt_pow_right (by decide) (by decide))) fun nr2 u2 v2 s5 g5 cf2 cn2 cu2 cv2 nf2 uf2 vf2 kp2 => ⟨_, rfl, g5.get h1, ?_⟩)
    refine ws_asg (wp_var rfl (ws_nil (F := F) (gv := g) ⟨_, rfl, hk, g2.trans g5, s2.length, some (.int y.1), some (rv y.2), some (.int (szOf m y.2)), some (.loc s2.length), some (.loc c), some (.loc d), rfl, nr, nr2, u, v, u2, v2, cf2, kp2 _ _ nf cn, cn2, kp2 _ _ uf cu, kp2 _ _ vf cv, cu2, cv2⟩))
  · rintro env s2 ⟨_, g2, n, v3, v4, v5, v6, v7, v8, rfl, ql⟩
    rw [List.length_map, List.take_length] at ql
    exact ws_ret (wp_tup (wp_consA (wp_var rfl (wp_consA (wp_var rfl (wp_nilA (wp_mkT (by simp) ⟨_, rfl, g2, n, rfl, ql⟩)))))))
end
end K52
end
section
set_option Elab.async false
set_option linter.all false
set_option maxRecDepth 100000
namespace K52
open PySem PySem.Spec PyProof.Rows L2 Dd Sh Ms Mw
def cq (m : Nat) (xs : List Int) (k : Nat) : List Rat := (List.range k).map fun j => mkRat (xs.getD j 0) (m ^ j)
theorem cq_succ (m : Nat) (xs : List Int) (k : Nat) : cq m xs (k + 1) = cq m xs k ++ [mkRat (xs.getD k 0) (m ^ k)] := by
  unfold cq
  rw [List.range_succ, List.map_append]
  rfl
theorem cq_len (m : Nat) (xs : List Int) (k : Nat) : (cq m xs k).length = k := by unfold cq; rw [List.length_map, List.length_range]
def nbody : Ss := (.cons (.par 7 8 (.lst .nil) (.int (1))) (.cons (.for_ (.nm 6) (.seq (.var 5)) (.cons (.app (.var 7) (.call i_law_low (.cons (.var 6) (.cons (.var 8) .nil)))) (.cons (.asg (.nm 8) (.bin .mul (.var 8) (.var 1))) .nil))) (.cons (.app (.var 4) (.blt .tuple1 (.cons (.var 7) .nil))) .nil)))
def rbody : Ss := (.cons (.asg (.nm 4) (.lst .nil)) (.cons (.for_ (.nm 5) (.seq (.var 3)) nbody) (.cons (.app (.var 2) (.blt .tuple1 (.cons (.var 4) .nil))) .nil)))
theorem mpow_cap {m k : Nat} (h : m < 2 ^ 300) (hk : k ≤ 16) : m ^ k < 2 ^ 5000 := by
  have a : m ^ k ≤ (2 ^ 300) ^ k := Nat.pow_le_pow_left (Nat.le_of_lt h) k
  rw [← Nat.pow_mul] at a
  exact Nat.lt_of_le_of_lt a (Nat.pow_lt_pow_right (by decide) (by omega))
section
variable {F : Fs} {g : Str → Option Dv}
theorem ws_for2 {i : Nat} {it : Dd.It} {b r : Ss} {env : DEnv} {s : Sto} {Q : Fl → Sto → Prop}
    (h : wp (evi F g it env) (fun src s1 => ∃ n x y, src = .lst n ∧ s1[n]? = some (.lst [x, y]) ∧ wp (exs F g b (env.set i (some x))) (fun fl s2 => ∃ e2, fl = .nx e2 ∧ s2[n]? = some (.lst [x, y]) ∧
      wp (exs F g b (e2.set i (some y))) (fun fl s3 => ∃ e3, fl = .nx e3 ∧ s3[n]? = some (.lst [x, y]) ∧ wp (exs F g r e3) Q s3) s2) s1) s) : wp (exs F g (.cons (.for_ (.nm i) it b) r) env) Q s := by
  obtain ⟨src, s1, e1, n, x, y, rfl, c1, h⟩ := h
  refine ws_for (items := [x, y])
    (fun k e s => s[n]? = some (.lst [x, y]) ∧ match k with
      | 0 => wp (exs F g b (e.set i (some x))) (fun fl s2 => ∃ e2, fl = .nx e2 ∧ s2[n]? = some (.lst [x, y]) ∧ wp (exs F g b (e2.set i (some y))) (fun fl s3 => ∃ e3, fl = .nx e3 ∧ s3[n]? = some (.lst [x, y]) ∧ wp (exs F g r e3) Q s3) s2) s
      | 1 => wp (exs F g b (e.set i (some y))) (fun fl s3 => ∃ e3, fl = .nx e3 ∧ s3[n]? = some (.lst [x, y]) ∧ wp (exs F g r e3) Q s3) s
      | _ => wp (exs F g r e) Q s) (wp_ok e1 ⟨(walk_lst c1).2, ⟨c1, h⟩, fun k e s hI => (walk_lst hI.1).1 s (.refl _) k⟩) ?_ fun e s h => h.2
  intro k z e s hx h
  match k, hx, h with
  | 0, hx, h =>
    obtain rfl : x = z := by simpa using hx
    exact ⟨_, rfl, wp_imp h.2 fun fl s2 ⟨e2, a, c, w⟩ => ⟨e2, a, c, w⟩⟩
  | 1, hx, h =>
    obtain rfl : y = z := by simpa using hx
    exact ⟨_, rfl, wp_imp h.2 fun fl s2 ⟨e2, a, c, w⟩ => ⟨e2, a, c, w⟩⟩
  | k + 2, hx, h => exact nomatch hx
theorem num_ok (fL : FracS F i_law_low) {v0 v2 v3 v6 v7 v8 : Option Dv} {m f a : Nat} {xs : List Int} {ys : List Dv} {s0 s : Sto} {Q : Fl → Sto → Prop} (hm : m < 2 ^ 300) (m0 : 0 < m) (g0 : Gr s0 s) (hf : s0.length ≤ f) (cf : s[f]? = some (.lst ys)) (ly : ys.length ≤ 5) (ca : s0[a]? = some (.lst (iL xs))) (lx : xs.length ≤ 16)
    (q : ∀ s' x6 x7 x8, Gr s0 s' → s'[f]? = some (.lst (ys ++ [tupR (cq m xs xs.length)])) → Q (.nx [v0, some (.int (m : Nat)), v2, v3, some (.loc f), some (.loc a), x6, x7, x8]) s') :
    wp (exs F g nbody [v0, some (.int (m : Nat)), v2, v3, some (.loc f), some (.loc a), v6, v7, v8]) Q s := by
  have ca1 := g0.get ca
  refine ws_par (wp_lst (wp_nilA (wp_ok (show newL [] s = .ok (.loc s.length) (s ++ [.lst []]) from rfl) (wp_is (a := .int 1) (by rw [ev]) ?_))))
  have g1 : Gr s (s ++ [.lst []]) := .push _ _
  refine ws_for (items := iL xs) (fun k env s' => k ≤ xs.length ∧ Gr s s' ∧ s'[s.length]? = some (.lst ((cq m xs k).map rv)) ∧ ∃ x, env = [v0, some (.int (m : Nat)), v2, v3, some (.loc f), some (.loc a), x, some (.loc s.length), some (.int ((m ^ k : Nat) : Int))])
    (wk_seq (n := a) (xs := iL xs) (by rw [ev]; rfl) (g1.get ca1) ⟨(walk_lst (g1.get ca1)).2, ⟨Nat.zero_le _, g1, by simp [cq], _, rfl⟩, fun k env s' hI => (walk_lst ca1).1 s' hI.2.1 k⟩) ?_ ?_
  · rintro k x env s2 hx ⟨_, g2, c2, x6, rfl⟩
    unfold iL at hx
    rw [List.getElem?_map] at hx
    obtain ⟨y, hy, rfl⟩ := Option.map_eq_some_iff.mp hx
    have hk : k < xs.length := (List.getElem?_eq_some_iff.mp hy).1
    have lt2 := (List.getElem?_eq_some_iff.mp c2).1
    have cap := mpow_cap (k := k) hm (by omega)
    have lw := fL y ((m ^ k : Nat) : Int) (by have := Nat.pow_pos (n := k) m0; omega) (by rw [Int.natAbs_natCast]; exact Nat.lt_trans cap (Nat.pow_lt_pow_right (by decide) (by decide)))
    rw [Int.toNat_natCast] at lw
    have mo : mulOk ((m ^ k : Nat) : Int) (m : Nat) = true := mul_small (k := 5000) (l := 300) (by rw [Int.natAbs_natCast]; exact cap) (by rw [Int.natAbs_natCast]; exact hm) (by decide)
    refine ⟨[v0, some (.int (m : Nat)), v2, v3, some (.loc f), some (.loc a), some (.int y), some (.loc s.length), some (.int ((m ^ k : Nat) : Int))], rfl, ?_⟩
    refine ws_app (n := s.length) (by rw [ev]; rfl) c2 ?_
    refine wp_call (wp_consA (wp_var rfl (wp_consA (wp_var rfl (wp_nilA (wp_is lw ⟨_, c2, by rw [List.length_map, cq_len]; omega, ?_⟩))))))
    refine ws_asg (wp_bin (wp_var rfl (wp_var rfl (wp_is (mul_ii mo) ?_))))
    have yk : xs.getD k 0 = y := by rw [List.getD_eq_getElem?_getD, hy]; rfl
    refine ws_nil (F := F) (gv := g) ⟨_, rfl, hk, gr_set g2 (Nat.le_refl _) _, ?_, some (.int y), ?_⟩
    · rw [List.getElem?_set_self lt2, cq_succ, List.map_append, yk]
      rfl
    · rw [Nat.pow_succ, Int.natCast_mul]
      rfl
  · rintro env s2 ⟨_, g2, c2, x6, rfl⟩
    rw [iL_len] at c2
    have cf2 := g2.get cf
    have lt2 := (List.getElem?_eq_some_iff.mp cf2).1
    refine ws_app (n := f) (by rw [ev]; rfl) cf2 (wp_blt (wp_consA (wp_var rfl (wp_nilA (wp_ok (tuple_at c2 (by rw [List.length_map, cq_len]; omega)) ⟨_, cf2, by omega, ?_⟩)))))
    exact ws_nil (F := F) (gv := g) (q _ _ _ _ (gr_set (g0.trans g2) hf _) (List.getElem?_set_self lt2))
theorem rowS_ok (fL : FracS F i_law_low) {v0 v4 v5 v6 v7 v8 : Option Dv} {m f i a b : Nat} {xa xb : List Int} {ys : List Dv} {s0 s : Sto} {Q : Fl → Sto → Prop} (hm : m < 2 ^ 300) (m0 : 0 < m) (g0 : Gr s0 s) (hf : s0.length ≤ f) (cf : s[f]? = some (.lst ys)) (ly : ys.length ≤ 5) (ci : s0[i]? = some (.lst [.loc a, .loc b])) (ca : s0[a]? = some (.lst (iL xa))) (cb : s0[b]? = some (.lst (iL xb))) (la : xa.length ≤ 16) (lb : xb.length ≤ 16)
    (q : ∀ s' x4 x5 x6 x7 x8, Gr s0 s' → s'[f]? = some (.lst (ys ++ [.tup [tupR (cq m xa xa.length), tupR (cq m xb xb.length)]])) → Q (.nx [v0, some (.int (m : Nat)), some (.loc f), some (.loc i), x4, x5, x6, x7, x8]) s') :
    wp (exs F g rbody [v0, some (.int (m : Nat)), some (.loc f), some (.loc i), v4, v5, v6, v7, v8]) Q s := by
  refine ws_asg (wp_lst (wp_nilA (wp_ok (show newL [] s = .ok (.loc s.length) (s ++ [.lst []]) from rfl) ?_)))
  have g1 : Gr s (s ++ [.lst []]) := .push _ _
  refine ws_for2 (wk_seq (n := i) (xs := [.loc a, .loc b]) (by rw [ev]; rfl) ((g0.trans g1).get ci) ⟨i, _, _, rfl, (g0.trans g1).get ci, ?_⟩)
  refine num_ok fL hm m0 g1 (Nat.le_refl _) (by simp) (by simp : ([] : List Dv).length ≤ 5) (g0.get ca) la fun s2 x6 x7 x8 g2 c2 => ⟨_, rfl, (g0.trans g2).get ci, ?_⟩
  refine num_ok fL hm m0 g2 (Nat.le_refl _) c2 (by simp) (g0.get cb) lb fun s3 x6 x7 x8 g3 c3 => ⟨_, rfl, (g0.trans g3).get ci, ?_⟩
  have cf3 := g3.get cf
  have lt3 := (List.getElem?_eq_some_iff.mp cf3).1
  refine ws_app (n := f) (by rw [ev]; rfl) cf3 (wp_blt (wp_consA (wp_var rfl (wp_nilA (wp_ok (tuple_at c3 (by simp)) ⟨_, cf3, by omega, ?_⟩)))))
  exact ws_nil (F := F) (gv := g) (q _ _ _ _ _ _ (gr_set (g0.trans g3) hf _) (List.getElem?_set_self lt3))
def ShownU (F : Fs) : Prop := ∀ (n m : Nat) (x : Pl) (s : Sto), QL s n x → m < 2 ^ 300 → 0 < m → x.a.length ≤ 16 → x.b.length ≤ 16 → x.c.length ≤ 16 → x.d.length ≤ 16 → wp (F i_law_shown [.loc n, .int (m : Nat)]) (fun d s' => Gr s s' ∧ d = tabD (cq m x.a x.a.length) (cq m x.b x.b.length) (cq m x.c x.c.length) (cq m x.d x.d.length)) s
theorem shown_s (fL : FracS F i_law_low) (n m : Nat) (x : Pl) (s : Sto) (ql : QL s n x) (hm : m < 2 ^ 300) (m0 : 0 < m) (la : x.a.length ≤ 16) (lb : x.b.length ≤ 16) (lc : x.c.length ≤ 16) (ld : x.d.length ≤ 16) : wp (runDef F g d_law_shown [.loc n, .int (m : Nat)]) (fun d s' => Gr s s' ∧ d = tabD (cq m x.a x.a.length) (cq m x.b x.b.length) (cq m x.c x.c.length) (cq m x.d x.d.length)) s := by
  obtain ⟨i, j, a, b, c, d, h1, h2, h3, h4, h5, h6, h7⟩ := ql
  refine wp_run (env := [some (.loc n), some (.int (m : Nat)), none, none, none, none, none, none, none]) rfl rfl ?_
  refine ws_asg (wp_lst (wp_nilA (wp_ok (show newL [] s = .ok (.loc s.length) (s ++ [.lst []]) from rfl) ?_)))
  have g1 : Gr s (s ++ [.lst []]) := .push _ _
  refine ws_for2 (wk_seq (n := n) (xs := [.loc i, .loc j]) (by rw [ev]; rfl) (g1.get h1) ⟨n, _, _, rfl, g1.get h1, ?_⟩)
  refine rowS_ok fL hm m0 g1 (Nat.le_refl _) (by simp) (by simp : ([] : List Dv).length ≤ 5) h2 h4 h5 la lb fun s2 x4 x5 x6 x7 x8 g2 c2 => ⟨_, rfl, g2.get h1, ?_⟩
  refine rowS_ok fL hm m0 g2 (Nat.le_refl _) c2 (by simp) h3 h6 h7 lc ld fun s3 x4 x5 x6 x7 x8 g3 c3 => ⟨_, rfl, g3.get h1, ?_⟩
  exact ws_ret (wp_blt (wp_consA (wp_var rfl (wp_nilA (wp_ok (tuple_at c3 (by simp)) ⟨_, rfl, g3, rfl⟩)))))
end
/-- the law's list is that of the polynomial -/
theorem cq_is {m n : Nat} {xs : List Int} {f : Mc.Fn} (m0 : 0 < m) (h : ∀ k, ((xs.getD k 0 : Int) : Rat) = f k * pw (m : Rat) k) (top : xs.getLast? ≠ some 0) : Mc.Is (cq m xs xs.length) f := by
  have pe : ∀ k, pw (m : Rat) k = ((m ^ k : Nat) : Rat) := fun k => by
    induction k with
    | zero => rfl
    | succ k ih => rw [Nat.pow_succ, Rat.natCast_mul, ← ih]; rfl
  have val : ∀ k, mkRat (xs.getD k 0) (m ^ k) = f k := fun k => by
    have p := Nat.pow_pos (n := k) m0
    have := mk_of (n := xs.getD k 0) (lo := ((m ^ k : Nat) : Int)) (q := f k) (by rw [h k, pe k]; rfl) (by omega)
    rwa [Int.toNat_natCast] at this
  refine ⟨fun k => ?_, ?_⟩
  · unfold cq
    rw [rng_at]
    split
    · exact val k
    · rename_i c
      have z : xs.getD k 0 = 0 := by rw [List.getD_eq_getElem?_getD, List.getElem?_eq_none (by omega)]; rfl
      rw [← val k, z, Rat.zero_mkRat]
  · cases e : xs.length with
    | zero => simp [cq]
    | succ k =>
      rw [cq_succ, List.getLast?_append]
      simp only [List.getLast?_singleton, Option.some_or]
      intro w
      have w := Option.some.inj w
      have p := Nat.pow_pos (n := k) m0
      have z := (Rat.mkRat_eq_zero (by omega)).mp w
      apply top
      rw [List.getLast?_eq_getElem?, e, show k + 1 - 1 = k by omega]
      rw [List.getD_eq_getElem?_getD, List.getElem?_eq_getElem (by omega)] at z
      rw [List.getElem?_eq_getElem (by omega)]
      exact congrArg some z
end K52
end
section
set_option Elab.async false
set_option linter.all false
set_option maxRecDepth 100000
namespace K52
open PySem PySem.Spec PyProof.Rows L2 Dd Sh Ms Mw
/-! sizes -/
structure MBp (D M : Nat) (m : Mc.Pm) : Prop where
  a : ∀ k, Bd D M (m.a k)
  b : ∀ k, Bd D M (m.b k)
  c : ∀ k, Bd D M (m.c k)
  d : ∀ k, Bd D M (m.d k)
theorem sh_bdp {D M : Nat} {f : Mc.Fn} (h : ∀ k, Bd D M (f k)) : ∀ k, Bd D M (Mc.sh f k)
  | 0 => bd_zero _ _
  | k + 1 => h k
theorem MBp.put {D M E N : Nat} {m : Mc.Pm} {s : Rat} (l : Int) (h : MBp D M m) (k : Bd E N s) : MBp (D * E) (M * (1 + N)) (Mc.put l s m) := by
  have up : ∀ {q : Rat}, Bd D M q → Bd (D * E) (M * (1 + N)) q := fun b => b.up (Nat.dvd_mul_right _ _) (Nat.le_mul_of_pos_right _ (by omega))
  have mix : ∀ {q r c : Rat}, Bd D M q → Bd D M r → Bd E N c → Bd (D * E) (M * (1 + N)) (q + c * r) := fun {q r c} bq br bc => by
    have := (bq.up (Nat.dvd_mul_right D E) (Nat.le_refl M)).add ((bc.mul br).up (by rw [Nat.mul_comm E D]; exact Nat.dvd_refl _) (Nat.le_refl _))
    refine this.up (Nat.dvd_refl _) ?_
    rw [Nat.mul_add, Nat.mul_one, Nat.mul_comm N M]
    exact Nat.le_refl _
  unfold Mc.put
  split
  · exact ⟨fun j => up (h.a j), fun j => mix (h.b j) (sh_bdp h.a j) k, fun j => up (h.c j), fun j => mix (h.d j) (sh_bdp h.c j) k⟩
  · exact ⟨fun j => mix (h.a j) (sh_bdp h.b j) (bd_negU k), fun j => up (h.b j), fun j => mix (h.c j) (sh_bdp h.d j) (bd_negU k), fun j => up (h.d j)⟩
theorem MBp.e : MBp 1 1 Mc.e := by
  have o : ∀ k, Bd 1 1 (Mc.one k) := fun k => by
    unfold Mc.one
    split
    · exact one_bdU 1
    · exact bd_zero _ _
  exact ⟨o, fun _ => bd_zero _ _, fun _ => bd_zero _ _, o⟩
theorem MBp.run {E N : Nat} {p : Ms.P} (h : ∀ x ∈ p, Bd E N x.2) : ∀ i, i ≤ p.length → MBp (E ^ i) ((1 + N) ^ i) (Mc.run Mc.e (p.take i))
  | 0, _ => MBp.e
  | i + 1, l => by
    have hy : p[i]? = some p[i] := List.getElem?_eq_getElem (by omega)
    have e : Mc.run Mc.e (p.take (i + 1)) = Mc.put p[i].1 p[i].2 (Mc.run Mc.e (p.take i)) := by
      rw [List.take_add_one, hy, Mc.run_app]
      rfl
    rw [e, Nat.pow_succ, Nat.pow_succ]
    exact (MBp.run h i (by omega)).put _ (h _ (List.getElem_mem _))
theorem wo_bd {D M : Nat} {t : Rat} (ht : Bd 12 5 t) : ∀ q : List Rat, (∀ x ∈ q, Bd D M x) → Bd (D * 12 ^ q.length) (M * 6 ^ q.length) (Mc.wo t q)
  | [], _ => bd_zero _ _
  | x :: q, h => by
    have a := (wo_bd ht q fun y hy => h y (.tail _ hy)).mul ht
    have b := h x (.head _)
    show Bd _ _ (Mc.wo t q * t + x)
    have a' := a.up (E := D * 12 ^ (q.length + 1)) (N := M * 6 ^ q.length * 5) (by rw [Nat.pow_succ, Nat.mul_assoc]; exact Nat.dvd_refl _) (Nat.le_refl _)
    have b' := b.up (E := D * 12 ^ (q.length + 1)) (N := M * 6 ^ q.length) (Nat.dvd_mul_right _ _) (Nat.le_mul_of_pos_right _ (Nat.pow_pos (by decide)))
    have := a'.add b'
    rw [List.length_cons]
    refine this.up (Nat.dvd_refl _) ?_
    rw [Nat.pow_succ, ← Nat.mul_assoc]
    omega
theorem sz_mul {k l : Nat} {p q : Rat} (h : Sz k p) (h' : Sz l q) : Sz (2 * (k + l)) (p * q) := by
  have a := bd_self (q := p) (M := p.num.natAbs) (Nat.le_mul_of_pos_right _ p.den_pos)
  have b := bd_self (q := q) (M := q.num.natAbs) (Nat.le_mul_of_pos_right _ q.den_pos)
  have m1 := Nat.mul_lt_mul'' h.1 h'.1
  have m2 := Nat.mul_lt_mul'' h.2 h'.2
  rw [← Nat.pow_add] at m1 m2
  refine (a.mul b).sz (Nat.mul_pos p.den_pos q.den_pos) ?_ (Nat.lt_of_lt_of_le m2 (Nat.pow_le_pow_right (by decide) (by omega)))
  have := Nat.mul_lt_mul'' m1 m2
  rw [← Nat.pow_add] at this
  rw [show 2 * (k + l) = k + l + (k + l) by omega]
  exact this
def WorthU (F : Fs) : Prop := ∀ (q : List Rat) (t : Rat) (D M : Nat), (∀ x ∈ q, Bd D M x) → Bd 12 5 t → q.length ≤ 20 → 0 < D → M * 6 ^ 20 * (D * 12 ^ 20) < 2 ^ 1000 → D * 12 ^ 20 < 2 ^ 1000 → Gv (F i_law_worth [tupR q, rv t]) (rv (Mc.wo t q))
def BehindU (F : Fs) : Prop := ∀ (m n : Mt) (k : Nat) (s : Sto), LT s k n → Sz 1000 m.a → Sz 1000 m.b → Sz 1000 m.c → Sz 1000 m.d → Sz 1000 n.a → Sz 1000 n.b → Sz 1000 n.c → Sz 1000 n.d → wp (F i_law_behind [matD m, .loc k]) (fun d s' => d = matD (mul m n) ∧ Gr s s') s
section
variable {F : Fs} {g : Str → Option Dv}
theorem worth_s (fA : PlusS F i_law_plus) (fX : TimesS F i_law_times) (q : List Rat) (t : Rat) (D M : Nat) (hq : ∀ x ∈ q, Bd D M x) (ht : Bd 12 5 t) (lq : q.length ≤ 20) (hD : 0 < D) (z1 : M * 6 ^ 20 * (D * 12 ^ 20) < 2 ^ 1000) (z2 : D * 12 ^ 20 < 2 ^ 1000) : Gv (runDef F g d_law_worth [tupR q, rv t]) (rv (Mc.wo t q)) := by
  have szq : ∀ x ∈ q, Sz 1000 x := fun x hx => ((hq x hx).up (E := D * 12 ^ 20) (N := M * 6 ^ 20) (Nat.dvd_mul_right _ _) (Nat.le_mul_of_pos_right _ (by decide))).sz (Nat.mul_pos hD (by decide)) z1 z2
  have szw : ∀ j, Sz 1000 (Mc.wo t (q.drop j)) := fun j => ((wo_bd ht (q.drop j) fun x hx => hq x (List.mem_of_mem_drop hx)).up (E := D * 12 ^ 20) (N := M * 6 ^ 20) (Nat.mul_dvd_mul_left _ (Nat.pow_dvd_pow _ (by rw [List.length_drop]; omega))) (Nat.mul_le_mul_left _ (Nat.pow_le_pow_right (by decide) (by rw [List.length_drop]; omega)))).sz (Nat.mul_pos hD (by decide)) z1 z2
  have szt : Sz 900 t := bd5 ht
  refine gv_wp fun s => wp_run (env := [some (tupR q), some (rv t), none, none]) rfl rfl ?_
  refine ws_asg (wp_is (a := rv 0) (by simp [ev, pb]; rfl) ?_)
  have src : evi F g (.seq (.rev (.var 0))) [some (tupR q), some (rv t), some (rv 0), none] = pure (.tup (q.map rv).reverse) := by
    rw [evi, ev, ev]
    show ((pure (tupR q) >>= fun d => revD d) >>= fun d => seqSrc d) = _
    rw [pb]
    show (revD (.tup (q.map rv)) >>= fun d => seqSrc d) = _
    rw [rev_tup (by rw [List.length_map]; omega)]
    rfl
  refine ws_for (items := (q.map rv).reverse) (fun k env s' => k ≤ q.length ∧ s' = s ∧ ∃ a, env = [some (tupR q), some (rv t), some (rv (Mc.wo t (q.drop (q.length - k)))), a])
    (wp_is (a := .tup (q.map rv).reverse) (by exact src) ⟨Nat.le_refl _, ⟨Nat.zero_le _, rfl, _, by rw [Nat.sub_zero, List.drop_length]; rfl⟩, fun i env s' _ => rfl⟩) ?_ ?_
  · rintro k x env s2 hx ⟨_, rfl, a, rfl⟩
    rw [← List.map_reverse, List.getElem?_map] at hx
    obtain ⟨y, hy, rfl⟩ := Option.map_eq_some_iff.mp hx
    have hk : k < q.length := by
      have := (List.getElem?_eq_some_iff.mp hy).1
      rwa [List.length_reverse] at this
    rw [List.getElem?_reverse hk] at hy
    obtain ⟨hj, ey⟩ := List.getElem?_eq_some_iff.mp hy
    have dr : q.drop (q.length - (k + 1)) = y :: q.drop (q.length - k) := by
      rw [show q.length - (k + 1) = q.length - 1 - k by omega, List.drop_eq_getElem_cons hj, ey, show q.length - 1 - k + 1 = q.length - k by omega]
    have w0 := szw (q.length - k)
    have wt' : Sz 4000 (Mc.wo t (q.drop (q.length - k)) * t) := (sz_mul w0 szt).mono (by decide)
    refine ⟨[some (tupR q), some (rv t), some (rv (Mc.wo t (q.drop (q.length - k)))), some (rv y)], rfl, ?_⟩
    refine ws_asg (wp_call (wp_consA (wp_call (wp_consA (wp_var rfl (wp_consA (wp_var rfl (wp_nilA (wp_is (fX _ t 1000 900 w0 szt (by decide)) ?_)))))))))
    refine wp_consA (wp_var rfl (wp_nilA (wp_is (fA _ y 4000 1000 wt' (szq y (List.mem_of_getElem? hy)) (by decide)) ?_)))
    refine ws_nil (F := F) (gv := g) ⟨_, rfl, hk, rfl, some (rv y), ?_⟩
    rw [dr]
    rfl
  · rintro env s2 ⟨_, rfl, a, rfl⟩
    rw [List.length_reverse, List.length_map, Nat.sub_self, List.drop_zero]
    exact ws_ret (wp_var rfl ⟨_, rfl, rfl, .refl _⟩)
theorem LT.keep {s s' : Sto} {n : Nat} {m : Mt} (h : LT s n m) (g : Gr s s') : LT s' n m := h.gr g
theorem behind_s (fA : PlusS F i_law_plus) (fX : TimesS F i_law_times) (m n : Mt) (k : Nat) (s : Sto) (hl : LT s k n) (za : Sz 1000 m.a) (zb : Sz 1000 m.b) (zc : Sz 1000 m.c) (zd : Sz 1000 m.d) (ya : Sz 1000 n.a) (yb : Sz 1000 n.b) (yc : Sz 1000 n.c) (yd : Sz 1000 n.d) : wp (runDef F g d_law_behind [matD m, .loc k]) (fun d s' => d = matD (mul m n) ∧ Gr s s') s := by
  refine wp_run (env := [some (matD m), some (.loc k), none, none, none, none]) rfl rfl ?_
  refine ws_asg (wp_lst (wp_nilA (wp_ok (show newL [] s = .ok (.loc s.length) (s ++ [.lst []]) from rfl) ?_)))
  have g1 : Gr s (s ++ [.lst []]) := .push _ _
  obtain ⟨i, j, h1, h2, h3⟩ := hl
  -- one row
  have row : ∀ (x y : Rat) (ys : List Dv) (s1 : Sto) (v3 v4 v5 : Option Dv) (Q : Fl → Sto → Prop), Sz 1000 x → Sz 1000 y → Gr s s1 → s1[s.length]? = some (.lst ys) → ys.length ≤ 5 → (∀ s2 x4 x5, Gr s s2 → s2[s.length]? = some (.lst (ys ++ [.tup [rv (x * n.a + y * n.c), rv (x * n.b + y * n.d)]])) → Q (.nx [some (matD m), some (.loc k), some (.loc s.length), some (.tup [rv x, rv y]), x4, x5]) s2) →
      wp (exs F g (.cons (.asg (.nm 4) (.lst .nil)) (.cons (.for_ (.nm 5) (.rng1 (.int (2))) (.cons (.app (.var 4) (.call i_law_plus (.cons (.call i_law_times (.cons (.idx (.var 3) (.int (0))) (.cons (.idx (.idx (.var 1) (.int (0))) (.var 5)) .nil))) (.cons (.call i_law_times (.cons (.idx (.var 3) (.int (1))) (.cons (.idx (.idx (.var 1) (.int (1))) (.var 5)) .nil))) .nil)))) .nil)) (.cons (.app (.var 2) (.blt .tuple1 (.cons (.var 4) .nil))) .nil))) [some (matD m), some (.loc k), some (.loc s.length), some (.tup [rv x, rv y]), v4, v5]) Q s1 := fun x y ys s1 v3 v4 v5 Q zx zy gs cs ly hq => by
    refine ws_asg (wp_lst (wp_nilA (wp_ok (show newL [] s1 = .ok (.loc s1.length) (s1 ++ [.lst []]) from rfl) ?_)))
    have gt : Gr s1 (s1 ++ [.lst []]) := .push _ _
    have cell : ∀ (v : Nat) (hv : v < 2) (s2 : Sto) (Q' : Dv → Sto → Prop), Gr s s2 → Q' (rv (if v = 0 then x * n.a + y * n.c else x * n.b + y * n.d)) s2 → wp (ev F g (.call i_law_plus (.cons (.call i_law_times (.cons (.idx (.var 3) (.int (0))) (.cons (.idx (.idx (.var 1) (.int (0))) (.var 5)) .nil))) (.cons (.call i_law_times (.cons (.idx (.var 3) (.int (1))) (.cons (.idx (.idx (.var 1) (.int (1))) (.var 5)) .nil))) .nil))) [some (matD m), some (.loc k), some (.loc s.length), some (.tup [rv x, rv y]), some (.loc s1.length), some (.int (v : Nat))]) Q' s2 := fun v hv s2 Q' g2 q' => by
      have at1 : atI [rv n.a, rv n.b] ((v : Nat) : Int) = some (rv (if v = 0 then n.a else n.b)) := by
        have : v = 0 ∨ v = 1 := by omega
        rcases this with rfl | rfl <;> rfl
      have at2 : atI [rv n.c, rv n.d] ((v : Nat) : Int) = some (rv (if v = 0 then n.c else n.d)) := by
        have : v = 0 ∨ v = 1 := by omega
        rcases this with rfl | rfl <;> rfl
      have s1' : Sz 1000 (if v = 0 then n.a else n.b) := by split <;> assumption
      have s2' : Sz 1000 (if v = 0 then n.c else n.d) := by split <;> assumption
      have e : (if v = 0 then x * n.a + y * n.c else x * n.b + y * n.d) = x * (if v = 0 then n.a else n.b) + y * (if v = 0 then n.c else n.d) := by split <;> rfl
      rw [e] at q'
      refine wp_call (wp_consA (wp_call (wp_consA (wp_idx (wp_var rfl (wp_is (a := .int 0) (by rw [ev]) (wp_is (show idxD (.tup [rv x, rv y]) (.int 0) = pure (rv x) from rfl) ?_)))))))
      refine wp_consA (wp_idx (wp_idx (wp_var rfl (wp_is (a := .int 0) (by rw [ev]) (wp_ok (idx_loc (g2.get h1) (show atI [Dv.loc i, Dv.loc j] 0 = some (Dv.loc i) from rfl)) (wp_var rfl (wp_ok (idx_loc (g2.get h2) at1) (wp_nilA (wp_is (fX x _ 1000 1000 zx s1' (by decide)) ?_)))))))))
      refine wp_consA (wp_call (wp_consA (wp_idx (wp_var rfl (wp_is (a := .int 1) (by rw [ev]) (wp_is (show idxD (.tup [rv x, rv y]) (.int 1) = pure (rv y) from rfl) ?_))))))
      refine wp_consA (wp_idx (wp_idx (wp_var rfl (wp_is (a := .int 1) (by rw [ev]) (wp_ok (idx_loc (g2.get h1) (show atI [Dv.loc i, Dv.loc j] 1 = some (Dv.loc j) from rfl)) (wp_var rfl (wp_ok (idx_loc (g2.get h3) at2) (wp_nilA (wp_is (fX y _ 1000 1000 zy s2' (by decide)) ?_)))))))))
      exact wp_nilA (wp_is (fA _ _ 4000 4000 ((sz_mul zx s1').mono (by decide)) ((sz_mul zy s2').mono (by decide)) (by decide)) q')
    refine ws_for (items := (List.range 2).map fun (i : Nat) => .int (0 + (i : Int))) (fun v env s' => v ≤ 2 ∧ Gr s1 s' ∧ s'[s1.length]? = some (.lst ([rv (x * n.a + y * n.c), rv (x * n.b + y * n.d)].take v)) ∧ ∃ z, env = [some (matD m), some (.loc k), some (.loc s.length), some (.tup [rv x, rv y]), some (.loc s1.length), z])
      (wk_rng1 (n := 2) (by rw [ev]; rfl) (by decide) ⟨(items_rng 0 2).2 _, ⟨by decide, gt, by simp, _, rfl⟩, fun i env s' _ => (items_rng 0 2).1 i s'⟩) ?_ ?_
    · rintro v z env s2 hx ⟨_, g2, c2, w, rfl⟩
      have hv : v < 2 := by
        have := (List.getElem?_eq_some_iff.mp hx).1
        simpa using this
      have ex : z = .int (v : Int) := by
        rw [List.getElem?_map, List.getElem?_range hv] at hx
        cases hx
        show Dv.int (0 + (v : Int)) = _
        rw [Int.zero_add]
      subst ex
      have lt2 := (List.getElem?_eq_some_iff.mp c2).1
      refine ⟨[some (matD m), some (.loc k), some (.loc s.length), some (.tup [rv x, rv y]), some (.loc s1.length), some (.int (v : Nat))], rfl, ?_⟩
      refine ws_app (n := s1.length) (by rw [ev]; rfl) c2 (cell v hv s2 _ (gs.trans g2) ⟨_, c2, by rw [List.length_take]; simp; omega, ?_⟩)
      refine ws_nil (F := F) (gv := g) ⟨_, rfl, hv, gr_set g2 (Nat.le_refl _) _, ?_, _, rfl⟩
      rw [List.getElem?_set_self lt2]
      have : v = 0 ∨ v = 1 := by omega
      rcases this with rfl | rfl <;> rfl
    · rintro env s2 ⟨_, g2, c2, w, rfl⟩
      have c0 := g2.get cs
      have lt0 := (List.getElem?_eq_some_iff.mp c0).1
      refine ws_app (n := s.length) (by rw [ev]; rfl) c0 (wp_blt (wp_consA (wp_var rfl (wp_nilA (wp_ok (tuple_at c2 (by simp)) ⟨_, c0, by omega, ?_⟩)))))
      exact ws_nil (F := F) (gv := g) (hq _ _ _ (gr_set (gs.trans g2) (Nat.le_refl _) _) (List.getElem?_set_self lt0))
  refine ws_for (items := [.tup [rv m.a, rv m.b], .tup [rv m.c, rv m.d]]) (fun v env s' => v ≤ 2 ∧ Gr s s' ∧ s'[s.length]? = some (.lst ([.tup [rv (m.a * n.a + m.b * n.c), rv (m.a * n.b + m.b * n.d)], .tup [rv (m.c * n.a + m.d * n.c), rv (m.c * n.b + m.d * n.d)]].take v)) ∧ ∃ a b c, env = [some (matD m), some (.loc k), some (.loc s.length), a, b, c])
    (wp_is (a := .tup [.tup [rv m.a, rv m.b], .tup [rv m.c, rv m.d]]) (by rw [evi, ev]; rfl) ⟨Nat.le_refl _, ⟨by decide, g1, by simp, _, _, _, rfl⟩, fun i env s' _ => rfl⟩) ?_ ?_
  · rintro v z env s2 hx ⟨_, g2, c2, a, b, c, rfl⟩
    have hv : v < 2 := (List.getElem?_eq_some_iff.mp hx).1
    refine ⟨_, rfl, ?_⟩
    have : v = 0 ∨ v = 1 := by omega
    rcases this with rfl | rfl
    · cases hx
      exact row m.a m.b [] s2 none b c _ za zb g2 c2 (by simp) fun s3 x4 x5 g3 c3 => ⟨_, rfl, by decide, g3, c3, _, _, _, rfl⟩
    · cases hx
      exact row m.c m.d _ s2 none b c _ zc zd g2 c2 (by simp) fun s3 x4 x5 g3 c3 => ⟨_, rfl, by decide, g3, c3, _, _, _, rfl⟩
  · rintro env s2 ⟨_, g2, c2, a, b, c, rfl⟩
    exact ws_ret (wp_blt (wp_consA (wp_var rfl (wp_nilA (wp_ok (tuple_at c2 (by simp)) ⟨_, rfl, rfl, g2⟩)))))
end
end K52
end
section
set_option Elab.async false
set_option linter.all false
set_option maxRecDepth 100000
namespace K52
open PySem PySem.Spec PyProof.Rows L2 Dd Sh Ms Mw
def sel (qa qb qc qd : List Rat) (r c : Nat) : List Rat := if r = 0 then (if c = 0 then qa else qb) else (if c = 0 then qc else qd)
theorem band_ii {i : Int} (h : 0 ≤ i) : opB .band (.int i) (.int 1) = pure (.int (i % 2)) := by
  show (if 0 ≤ i ∧ (1 : Int) = 1 then pure (Dv.int (i % 2)) else fail : M Dv) = _
  rw [if_pos ⟨h, rfl⟩]
theorem ne_rv (p q : Rat) : opC .ne (rv p) (rv q) = pure (!decide (p = q)) := by
  show (eqD (rv p) (rv q) >>= fun b => pure (!b)) = _
  rw [show eqD (rv p) (rv q) = pure (decide (p = q)) from eq_rv p q]
  rfl
theorem sel_idx {qa qb qc qd : List Rat} {r c : Nat} (hr : r < 2) (hc : c < 2) : ∃ d, idxD (tabD qa qb qc qd) (.int (r : Nat)) = pure d ∧ idxD d (.int (c : Nat)) = pure (tupR (sel qa qb qc qd r c)) := by
  have h1 : r = 0 ∨ r = 1 := by omega
  have h2 : c = 0 ∨ c = 1 := by omega
  rcases h1 with rfl | rfl <;> rcases h2 with rfl | rfl
  · exact ⟨.tup [tupR qa, tupR qb], rfl, rfl⟩
  · exact ⟨.tup [tupR qa, tupR qb], rfl, rfl⟩
  · exact ⟨.tup [tupR qc, tupR qd], rfl, rfl⟩
  · exact ⟨.tup [tupR qc, tupR qd], rfl, rfl⟩
def cellE : E := (.idx (.idx (.var 1) (.var 2)) (.var 12))
def gbody : Ss := (.cons (.asg (.nm 13) (.comp (.var 14) (.nm 14) (.rng1 (.blt .len (.cons (.idx (.idx (.var 1) (.var 2)) (.var 12)) .nil))) (.some (.cmp .eq (.bin .band (.bin .add (.bin .add (.var 14) (.var 2)) (.var 12)) (.int (1))) (.int (1)))) [14])) (.cons (.ite (.cmp .ne (.comp (.var 14) (.nm 14) (.seq (.var 13)) (.some (.cmp .ne (.idx (.idx (.idx (.var 1) (.var 2)) (.var 12)) (.var 14)) (.num (.int (0)) (.int (1))))) [14]) (.lst .nil)) (.cons (.ret (.bl false)) .nil) .nil) .nil))
section
variable {F : Fs} {g : Str → Option Dv}
theorem gone_ok {qa qb qc qd : List Rat} {r c : Nat} (hr : r < 2) (hc : c < 2) (par : ∀ k, (k + r + c) % 2 = 1 → (sel qa qb qc qd r c).getD k 0 = 0) (lq : (sel qa qb qc qd r c).length ≤ 1000) {v0 v3 v4 v5 v6 v7 v8 v9 v10 v11 v13 v14 v15 : Option Dv} {s : Sto} {Q : Fl → Sto → Prop}
    (q : ∀ s' x13 x14, Gr s s' → Q (.nx [v0, some (tabD qa qb qc qd), some (.int (r : Nat)), v3, v4, v5, v6, v7, v8, v9, v10, v11, some (.int (c : Nat)), x13, x14, v15]) s') :
    wp (exs F g gbody [v0, some (tabD qa qb qc qd), some (.int (r : Nat)), v3, v4, v5, v6, v7, v8, v9, v10, v11, some (.int (c : Nat)), v13, v14, v15]) Q s := by
  obtain ⟨d, i1, i2⟩ := sel_idx (qa := qa) (qb := qb) (qc := qc) (qd := qd) hr hc
  generalize sel qa qb qc qd r c = w at par lq i2
  have cell : ∀ {env : DEnv} {s1 : Sto} {Q' : Dv → Sto → Prop}, env[1]? = some (some (tabD qa qb qc qd)) → env[2]? = some (some (.int (r : Nat))) → env[12]? = some (some (.int (c : Nat))) → Q' (tupR w) s1 → wp (ev F g (.idx (.idx (.var 1) (.var 2)) (.var 12)) env) Q' s1 := fun {env s1 Q'} e1 e2 e12 q' => by
    exact wp_idx (wp_idx (wp_var e1 (wp_var e2 (wp_is i1 (wp_var e12 (wp_is i2 q'))))))
  have keep : Nat → Option Dv := fun k => if (k + r + c) % 2 = 1 then some (.int (0 + (k : Int))) else none
  refine ws_asg (wp_comp (g := fun k : Nat => .int (0 + (k : Int))) (f := fun k => if (k + r + c) % 2 = 1 then some (.int (0 + (k : Int))) else none) (all := List.range w.length) (by rw [List.length_range]; omega) (wk_rngW (wp_blt (wp_consA (cell rfl rfl rfl (wp_nilA (wp_is (a := .int (w.length : Nat)) ?_ ⟨w.length, rfl, by omega, .refl _, ⟨fun s _ i => (items_rng 0 _).1 i s, (items_rng 0 _).2 _⟩, fun k hk => ⟨[v0, some (tabD qa qb qc qd), some (.int (r : Nat)), v3, v4, v5, v6, v7, v8, v9, v10, v11, some (.int (c : Nat)), v13, some (.int (0 + (k : Int))), v15], rfl, fun s2 g2 => ?_⟩⟩)))))) fun m s1 g1 c1 => ?_)
  · unfold tupR
    rw [len_tup, List.length_map]
  · show wp (tst F g (.cmp .eq (.bin .band (.bin .add (.bin .add (.var 14) (.var 2)) (.var 12)) (.int (1))) (.int (1))) _) _ s2
    refine wt_cmp (wp_bin (wp_bin (wp_bin (wp_var rfl (wp_var rfl (wp_is (add_ii _ _) (wp_var rfl (wp_is (add_ii _ _) (wp_is (a := .int 1) (by rw [ev]) (wp_is (band_ii (by omega)) (wp_is (a := .int 1) (by rw [ev]) (wp_is (eq_ii _ _) ⟨.refl _, ?_, ?_⟩))))))))))) )
    · intro h
      have h := of_decide_eq_false h
      rw [if_neg (by omega)]
    · intro h
      have h := of_decide_eq_true h
      refine wp_var rfl ⟨.refl _, ?_⟩
      rw [if_pos (by omega)]
  · -- none of these is there
    have e : (List.range w.length).filterMap (fun k => if (k + r + c) % 2 = 1 then some (Dv.int (0 + (k : Int))) else none) = ((List.range w.length).filter fun k => decide ((k + r + c) % 2 = 1)).map fun k : Nat => Dv.int (0 + (k : Int)) := by
      induction (List.range w.length) with
      | nil => rfl
      | cons a l ih =>
        rw [List.filterMap_cons, List.filter_cons, ih]
        by_cases z : (a + r + c) % 2 = 1
        · simp [z]
        · simp [z]
    rw [e] at c1
    generalize hG : ((List.range w.length).filter fun k => decide ((k + r + c) % 2 = 1)) = G at c1
    have hmem : ∀ k ∈ G, k < w.length ∧ (k + r + c) % 2 = 1 := fun k hk => by
      rw [← hG] at hk
      obtain ⟨a, b⟩ := List.mem_filter.mp hk
      exact ⟨List.mem_range.mp a, of_decide_eq_true b⟩
    have lG : G.length ≤ 1000 := by
      rw [← hG]
      exact Nat.le_trans (List.length_filter_le _ _) (by rw [List.length_range]; exact lq)
    refine ws_if (wt_cmp (wp_comp (g := fun k : Nat => .int (0 + (k : Int))) (f := fun _ => none) (all := G) (by omega) (wk_seq (n := m) (xs := G.map fun k : Nat => Dv.int (0 + (k : Int))) (by rw [ev]; rfl) c1 ⟨.refl _, walk_lst c1, fun k hk => ⟨[v0, some (tabD qa qb qc qd), some (.int (r : Nat)), v3, v4, v5, v6, v7, v8, v9, v10, v11, some (.int (c : Nat)), some (.loc m), some (.int (0 + (k : Int))), v15], rfl, fun s2 g2 => ?_⟩⟩) fun m2 s2 g2 c2 => ?_))
    · obtain ⟨k1, k2⟩ := hmem k hk
      show wp (tst F g (.cmp .ne (.idx (.idx (.idx (.var 1) (.var 2)) (.var 12)) (.var 14)) (.num (.int (0)) (.int (1)))) _) _ s2
      have ix : idxD (tupR w) (.int (0 + (k : Int))) = pure (rv 0) := by
        rw [Int.zero_add]
        refine idx_tup ?_
        rw [List.getElem?_map, List.getElem?_eq_getElem k1]
        have := par k k2
        rw [List.getD_eq_getElem?_getD, List.getElem?_eq_getElem k1] at this
        exact congrArg (fun x => some (rv x)) this
      refine wt_cmp (wp_idx (cell rfl rfl rfl (wp_var rfl (wp_is ix (wp_is (a := rv 0) (by simp [ev, pb]; rfl) (wp_is (ne_rv 0 0) ⟨.refl _, fun _ => rfl, fun h => ?_⟩))))))
      simp at h
    · refine wp_lst (wp_nilA (wp_newL (by simp) fun m3 s3 g3 c3 => ?_))
      have c2' : s2[m2]? = some (.lst (iL [])) := by
        rw [c2]
        have en : ∀ l : List Nat, l.filterMap (fun _ => (none : Option Dv)) = [] := fun l => by
          induction l with
          | nil => rfl
          | cons a l ih => rw [List.filterMap_cons, ih]
        rw [en]
        rfl
      refine wp_ok (ne_empty (g3.get c2') c3) ?_
      rw [decide_eq_true rfl]
      simp only [Bool.not_true, Bool.false_eq_true, if_false]
      exact ws_nil (F := F) (gv := g) (ws_nil (F := F) (gv := g) (q _ _ _ ((g1.trans g2).trans g3)))
end
end K52
end
section
set_option Elab.async false
set_option linter.all false
set_option maxRecDepth 100000
namespace K52
open PySem PySem.Spec PyProof.Rows L2 Dd Sh Ms Mw
theorem mem_q {q : List Rat} {f : Mc.Fn} {D N : Nat} (h : Mc.Is q f) (b : ∀ k, Bd D N (f k)) : ∀ x ∈ q, Bd D N x := fun x hx => by
  obtain ⟨k, hk, e⟩ := List.mem_iff_getElem.mp hx
  have := h.at_ k
  rw [List.getD_eq_getElem?_getD, List.getElem?_eq_getElem hk] at this
  have e2 : x = f k := e.symm.trans this
  rw [e2]
  exact b k
/-- all that the law asks of the told table -/
structure Told (p : Ms.P) (t : Rat) (qa qb qc qd : List Rat) : Prop where
  ia : Mc.Is qa (Mc.run Mc.e p).a
  ib : Mc.Is qb (Mc.run Mc.e p).b
  ic : Mc.Is qc (Mc.run Mc.e p).c
  id : Mc.Is qd (Mc.run Mc.e p).d
  wa : Mc.wo t qa = (Mw.run t Mw.e p).a
  wb : Mc.wo t qb = (Mw.run t Mw.e p).b
  wc : Mc.wo t qc = (Mw.run t Mw.e p).c
  wd : Mc.wo t qd = (Mw.run t Mw.e p).d
  la : qa.length ≤ 16
  lb : qb.length ≤ 16
  lc : qc.length ≤ 16
  ld : qd.length ≤ 16
  ba : ∀ x ∈ qa, Bd (432000 ^ 15) (417 ^ 15) x
  bb : ∀ x ∈ qb, Bd (432000 ^ 15) (417 ^ 15) x
  bc : ∀ x ∈ qc, Bd (432000 ^ 15) (417 ^ 15) x
  bd : ∀ x ∈ qd, Bd (432000 ^ 15) (417 ^ 15) x
theorem told_of {p : Ms.P} {t : Rat} {qa qb qc qd : List Rat} (sw : Sw 432000 416 15 p) (ia : Mc.Is qa (Mc.run Mc.e p).a) (ib : Mc.Is qb (Mc.run Mc.e p).b) (ic : Mc.Is qc (Mc.run Mc.e p).c) (id : Mc.Is qd (Mc.run Mc.e p).d) : Told p t qa qb qc qd := by
  have pl := sw.len
  have dg := Mc.Dg.run p _ 0 Mc.Dg.e
  have at_ := Mc.At.run p 0 _ _ (Mc.At.e t) Mc.Dg.e
  have mb := MBp.run (p := p) (E := 432000) (N := 416) sw.bd _ (Nat.le_refl _)
  rw [List.take_length] at mb
  rw [Nat.zero_add] at dg at_
  have up : ∀ {q : Rat}, Bd (432000 ^ p.length) ((1 + 416) ^ p.length) q → Bd (432000 ^ 15) (417 ^ 15) q := fun b => b.up (Nat.pow_dvd_pow _ pl) (Nat.pow_le_pow_right (by decide) pl)
  have l1 := ia.len dg.a
  have l2 := ib.len dg.b
  have l3 := ic.len dg.c
  have l4 := id.len dg.d
  exact ⟨ia, ib, ic, id, (Mc.wo_ev t qa _ _ ia.at_ l1).trans at_.a, (Mc.wo_ev t qb _ _ ib.at_ l2).trans at_.b, (Mc.wo_ev t qc _ _ ic.at_ l3).trans at_.c, (Mc.wo_ev t qd _ _ id.at_ l4).trans at_.d, by omega, by omega, by omega, by omega, mem_q ia fun k => up (mb.a k), mem_q ib fun k => up (mb.b k), mem_q ic fun k => up (mb.c k), mem_q id fun k => up (mb.d k)⟩
theorem sel_par {p : Ms.P} {t : Rat} {qa qb qc qd : List Rat} (h : Told p t qa qb qc qd) {r c : Nat} (hr : r < 2) (hc : c < 2) : (∀ k, (k + r + c) % 2 = 1 → (sel qa qb qc qd r c).getD k 0 = 0) ∧ (sel qa qb qc qd r c).length ≤ 1000 := by
  have evn := Mc.Ev.run p _ Mc.Ev.e
  have h1 : r = 0 ∨ r = 1 := by omega
  have h2 : c = 0 ∨ c = 1 := by omega
  have := h.la
  have := h.lb
  have := h.lc
  have := h.ld
  rcases h1 with rfl | rfl <;> rcases h2 with rfl | rfl
  · exact ⟨fun k e => (h.ia.at_ k).trans (evn.a k (by omega)), by show qa.length ≤ 1000; omega⟩
  · exact ⟨fun k e => (h.ib.at_ k).trans (evn.b k (by omega)), by show qb.length ≤ 1000; omega⟩
  · exact ⟨fun k e => (h.ic.at_ k).trans (evn.c k (by omega)), by show qc.length ≤ 1000; omega⟩
  · exact ⟨fun k e => (h.id.at_ k).trans (evn.d k (by omega)), by show qd.length ≤ 1000; omega⟩
section
variable {F : Fs} {g : Str → Option Dv}
theorem fm_idx (m : Mt) : (∃ d, idxD (matD m) (.int 0) = pure d ∧ idxD d (.int 0) = pure (rv m.a) ∧ idxD d (.int 1) = pure (rv m.b)) ∧ ∃ d, idxD (matD m) (.int 1) = pure d ∧ idxD d (.int 0) = pure (rv m.c) ∧ idxD d (.int 1) = pure (rv m.d) := ⟨⟨_, rfl, rfl, rfl⟩, ⟨_, rfl, rfl, rfl⟩⟩
theorem wp_mat {m : Mt} {i : Nat} {a b : Int} {x : Rat} {env : DEnv} {s : Sto} {Q : Dv → Sto → Prop} (e : env[i]? = some (some (matD m))) (h : ∃ d, idxD (matD m) (.int a) = pure d ∧ idxD d (.int b) = pure (rv x)) (q : Q (rv x) s) : wp (ev F g (.idx (.idx (.var i) (.int a)) (.int b)) env) Q s := by
  obtain ⟨d, h1, h2⟩ := h
  exact wp_idx (wp_idx (wp_var e (wp_is (a := .int a) (by rw [ev]) (wp_is h1 (wp_is (a := .int b) (by rw [ev]) (wp_is h2 q))))))
theorem due2_s (fW : WorthU F) {p : Ms.P} {t : Rat} {qa qb qc qd : List Rat} (h : Told p t qa qb qc qd) (ht : Bd 12 5 t) {v0 v2 v3 v4 v5 v6 v7 v9 v10 v11 v12 v13 v14 v15 : Option Dv} {s : Sto} {Q : Dv → Sto → Prop} (q : ∀ s', Gr s s' → Q (matD (Mw.run t Mw.e p)) s') :
    wp (ev F g (.blt .tuple1 (.cons (.comp (.blt .tuple1 (.cons (.comp (.call i_law_worth (.cons (.var 15) (.cons (.var 8) .nil))) (.nm 15) (.seq (.var 2)) .none [15]) .nil)) (.nm 2) (.seq (.var 1)) .none [2]) .nil)) [v0, some (tabD qa qb qc qd), v2, v3, v4, v5, v6, v7, some (rv t), v9, v10, v11, v12, v13, v14, v15]) Q s := by
  have wq : ∀ q ∈ [qa, qb, qc, qd], Gv (F i_law_worth [tupR q, rv t]) (rv (Mc.wo t q)) := fun q hq => by
    have z1 : 417 ^ 15 * 6 ^ 20 * (432000 ^ 15 * 12 ^ 20) < 2 ^ 1000 := by decide +kernel
    have z2 : 432000 ^ 15 * 12 ^ 20 < 2 ^ 1000 := by decide +kernel
    have pos : 0 < 432000 ^ 15 := by decide +kernel
    have := h.la
    have := h.lb
    have := h.lc
    have := h.ld
    rcases List.mem_cons.mp hq with rfl | hq
    · exact fW _ t _ _ h.ba ht (by omega) pos z1 z2
    rcases List.mem_cons.mp hq with rfl | hq
    · exact fW _ t _ _ h.bb ht (by omega) pos z1 z2
    rcases List.mem_cons.mp hq with rfl | hq
    · exact fW _ t _ _ h.bc ht (by omega) pos z1 z2
    rcases List.mem_singleton.mp hq with rfl
    exact fW _ t _ _ h.bd ht (by omega) pos z1 z2
  have wt : ∀ {xs : List Dv} {s1 : Sto}, Walk (.tup xs) s1 xs := fun {xs s1} => ⟨fun _ _ _ => rfl, Nat.le_refl _⟩
  refine wp_blt (wp_consA (wp_comp0 (g := fun r : List Rat × List Rat => .tup [tupR r.1, tupR r.2]) (f := fun r => .tup [rv (Mc.wo t r.1), rv (Mc.wo t r.2)]) (all := [(qa, qb), (qc, qd)]) (by simp) (wp_is (a := .tup [.tup [tupR qa, tupR qb], .tup [tupR qc, tupR qd]]) (by rw [evi, ev]; rfl) ⟨.refl _, wt, fun r hr => ⟨[v0, some (tabD qa qb qc qd), some (.tup [tupR r.1, tupR r.2]), v3, v4, v5, v6, v7, some (rv t), v9, v10, v11, v12, v13, v14, v15], rfl, fun s2 g2 => ?_⟩⟩) fun m s1 g1 c1 => ?_))
  · have r1 : r.1 ∈ [qa, qb, qc, qd] ∧ r.2 ∈ [qa, qb, qc, qd] := by
      rcases List.mem_cons.mp hr with rfl | hr
      · simp
      · rcases List.mem_singleton.mp hr with rfl
        simp
    refine wp_blt (wp_consA (wp_comp0 (g := fun q : List Rat => tupR q) (f := fun q => rv (Mc.wo t q)) (all := [r.1, r.2]) (by simp) (wp_is (a := .tup [tupR r.1, tupR r.2]) (by rw [evi, ev]; rfl) ⟨.refl _, wt, fun q hq => ⟨[v0, some (tabD qa qb qc qd), some (.tup [tupR r.1, tupR r.2]), v3, v4, v5, v6, v7, some (rv t), v9, v10, v11, v12, v13, v14, some (tupR q)], rfl, fun s3 g3 => ?_⟩⟩) fun m3 s3 g3 c3 => ?_))
    · have hq' : q ∈ [qa, qb, qc, qd] := by
        rcases List.mem_cons.mp hq with rfl | hq
        · exact r1.1
        · rcases List.mem_singleton.mp hq with rfl
          exact r1.2
      exact wp_gv (gv_call2 (gv_var rfl) (gv_var rfl) (wq q hq')) fun s4 g4 => ⟨g4, rfl⟩
    · exact wp_nilA (wp_ok (tuple_at c3 (by simp)) ⟨g3, rfl⟩)
  · refine wp_nilA (wp_ok (tuple_at c1 (by simp)) ?_)
    have e : Dv.tup ([(qa, qb), (qc, qd)].map fun r : List Rat × List Rat => Dv.tup [rv (Mc.wo t r.1), rv (Mc.wo t r.2)]) = matD (Mw.run t Mw.e p) := by
      unfold matD
      rw [← h.wa, ← h.wb, ← h.wc, ← h.wd]
      rfl
    rw [e]
    exact q _ g1
end
end K52
end
section
set_option Elab.async false
set_option linter.all false
set_option maxRecDepth 100000
namespace K52
open PySem PySem.Spec PyProof.Rows L2 Dd Sh Ms Mw
section
variable {F : Fs} {g : Str → Option Dv}
theorem mat_sz {p : Ms.P} {t : Rat} (sw : Sw 432000 416 15 p) (bt : Bd 1728 125 t) : Sz 1000 (Mw.run t Mw.e p).a ∧ Sz 1000 (Mw.run t Mw.e p).b ∧ Sz 1000 (Mw.run t Mw.e p).c ∧ Sz 1000 (Mw.run t Mw.e p).d := by
  have pl := sw.len
  have mb := MB.run (E := 746496000) (N := 52000) (t := t) (p := p) (fun x hx => ((sw.bd x hx).mul bt).up (by decide) (by decide)) _ (Nat.le_refl _)
  rw [List.take_length] at mb
  exact ⟨pow_big pl mb.a, pow_big pl mb.b, pow_big pl mb.c, pow_big pl mb.d⟩
theorem right_s (fW : SwungU F) (fT : TimeU F) (fD : DrawS F i_law_dip) (fA : PlusS F i_law_plus) (fX : TimesS F i_law_times) (fL : LPolyU F) (fS : ShownU F) (fK : SwtU F) (fG : AtU F) (fO : WorthU F) (fP : PiecesU F) (fB : TableU F) (fH : BehindU F) (n : Nat) (s : Sto) (sp : Spr n 1000 s) : wp (runDef F g d_law_right [.loc n]) (fun d s' => d = .bl true ∧ Kp n s s') s := by
  refine wp_run (env := [some (.loc n), none, none, none, none, none, none, none, none, none, none, none, none, none, none, none]) rfl rfl ?_
  refine ws_asgT (wp_tup (wp_consA (wp_call (wp_consA (wp_var rfl (wp_nilA (wp_imp (fW n 960 s sp) fun d s1 ⟨p, e, sw, sp1, kp1⟩ => ?_)))))))
  subst e
  refine wp_consA (wp_call (wp_consA (wp_var rfl (wp_nilA (wp_imp (fT n 950 s1 (sp1.mono (by decide))) fun d s2 ⟨t, e, sm, t0, sp2, kp2⟩ => ?_)))))
  subst e
  refine wp_consA (wp_cmp (wp_call (wp_consA (wp_var rfl (wp_consA (wp_is (a := .int 2) (by rw [ev]) (wp_nilA ?_))))))) 
  refine wp_draw (B := 949) fD sp2 (by decide) (by decide) fun by_ s3 _ _ sp3 kp3 => wp_is (a := .int 0) (by rw [ev]) (wp_is (eq_ii _ _) (wp_nilA (wp_mkT (by simp) ⟨_, rfl, ?_⟩)))
  generalize decide (by_ = 0) = bn
  have kps := (kp1.trans kp2).trans kp3
  have bt5 := sm.bd
  have bt : Bd 1728 125 t := bt5.up (by decide) (by decide)
  have sw15 : Sw 432000 416 15 p := sw.up (by decide) (by decide) (Nat.le_refl _)
  have sw45 : Sw 432000 416 45 p := sw15.up (Nat.dvd_refl _) (Nat.le_refl _) (by decide)
  have pl := sw.len
  obtain ⟨dv, scap, spos⟩ := scl_ok p (den_le sw15) _ (Nat.le_refl _)
  rw [List.take_length] at dv scap spos
  have m300 : scl p < 2 ^ 300 := scl_cap pl scap
  have szc : ∀ x ∈ p, (szOf (scl p) x.2).natAbs < 2 ^ 900 := fun x hx => sz_cap (sw15.bd x hx) m300
  have lb := lps_b (m := scl p) (p := p) (Y := 2 ^ 900) (Nat.two_pow_pos _) (fun x hx => Nat.le_of_lt (szc x hx)) _ (Nat.le_refl _)
  have lr := lps_r p dv _ (Nat.le_refl _)
  rw [List.take_length] at lb lr
  refine ws_asgT (wp_call (wp_consA (wp_var rfl (wp_nilA (wp_imp (fL p s3 sw15) fun d s4 ⟨g4, r, e, ql⟩ => ?_)))))
  subst e
  refine ⟨_, rfl, ?_⟩
  generalize scl p = m at spos m300 lb lr ql
  generalize lps m p = x at lb lr ql
  have la := lb.a.len
  have lb' := lb.b.len
  have lc := lb.c.len
  have ld := lb.d.len
  have told := told_of (t := t) sw15 (cq_is (n := 0) spos lr.a lb.a.top) (cq_is (n := 0) spos lr.b lb.b.top) (cq_is (n := 0) spos lr.c lb.c.top) (cq_is (n := 0) spos lr.d lb.d.top)
  have hK := fK p _ _ _ _ sw45 told.ia told.ib told.ic told.id
  have hS := fun s => fS r m x s
  generalize cq m x.a x.a.length = qa at told hK hS
  generalize cq m x.b x.b.length = qb at told hK hS
  generalize cq m x.c x.c.length = qc at told hK hS
  generalize cq m x.d x.d.length = qd at told hK hS
  have hG := fG p t sw45 bt t0
  have tk : ∀ {env : DEnv} {s' : Sto} {Q : Dv → Sto → Prop}, env[7]? = some (some (stp p)) → env[9]? = some (some (.bl bn)) → (∀ s'', Gr s' s'' → Q (tabD qa qb qc qd) s'') → wp (ev F g (.ite (.var 9) (.callk i_swing_table .nil (.cons (.var 7) .nil) 0 1 [0]) (.call i_swing_table (.cons (.var 7) .nil))) env) Q s' := fun {env s' Q} e7 e9 q => by
    refine wp_ite (wp_eq (m' := truth (.bl bn)) (by simp [tst, ev, e9, pb]) (wp_is (a := bn) rfl ?_))
    cases bn with
    | true => exact wp_callk (wp_nilA (wp_consA (wp_var e7 (wp_nilA (wp_gv hK q)))))
    | false => exact wp_call (wp_consA (wp_var e7 (wp_nilA (wp_gv hK q))))
  have tg : ∀ {env : DEnv} {s' : Sto} {Q : Dv → Sto → Prop}, env[7]? = some (some (stp p)) → env[8]? = some (some (rv t)) → env[9]? = some (some (.bl bn)) → (∀ s'', Gr s' s'' → Q (matD (Mw.run t Mw.e p)) s'') → wp (ev F g (.ite (.var 9) (.callk i_swing_at .nil (.cons (.var 8) (.cons (.var 7) .nil)) 0 2 [1, 0]) (.call i_swing_at (.cons (.var 7) (.cons (.var 8) .nil)))) env) Q s' := fun {env s' Q} e7 e8 e9 q => by
    refine wp_ite (wp_eq (m' := truth (.bl bn)) (by simp [tst, ev, e9, pb]) (wp_is (a := bn) rfl ?_))
    cases bn with
    | true => exact wp_callk (wp_nilA (wp_consA (wp_var e8 (wp_consA (wp_var e7 (wp_nilA (wp_gv hG q)))))))
    | false => exact wp_call (wp_consA (wp_var e7 (wp_consA (wp_var e8 (wp_nilA (wp_gv hG q))))))
  refine ws_asg (tk rfl rfl fun s5 g5 => ?_)
  refine ws_if (wt_cmp (wp_var rfl (wp_call (wp_consA (wp_var rfl (wp_consA (wp_var rfl (wp_nilA (wp_imp (hS s5 (ql.gr g5) m300 spos (by omega) (by omega) (by omega) (by omega)) fun d s6 ⟨g6, e⟩ => ?_)))))))))
  subst e
  refine wp_is ((pt_tab qa qb qc qd).ne (by decide)) ?_
  simp only [Bool.false_eq_true, if_false]
  refine ws_nil (F := F) (gv := g) ?_
  -- the noughts
  have G6 : Gr s3 s6 := (g4.trans g5).trans g6
  refine ws_for (items := (List.range 2).map fun (i : Nat) => .int (0 + (i : Int))) (fun k env s' => k ≤ 2 ∧ Gr s3 s' ∧ ∃ y2 y12 y13 y14, env = [some (.loc n), some (tabD qa qb qc qd), y2, none, none, none, none, some (stp p), some (rv t), some (.bl bn), some (.loc r), some (.int (m : Nat)), y12, y13, y14, none])
    (wk_rng1 (n := 2) (by rw [ev]; rfl) (by decide) ⟨(items_rng 0 2).2 _, ⟨by decide, G6, _, _, _, _, rfl⟩, fun i env s' _ => (items_rng 0 2).1 i s'⟩) ?_ ?_
  · rintro k z env s7 hx ⟨_, g7, y2, y12, y13, y14, rfl⟩
    have hk : k < 2 := by
      have := (List.getElem?_eq_some_iff.mp hx).1
      simpa using this
    have ex : z = .int (k : Int) := by
      rw [List.getElem?_map, List.getElem?_range hk] at hx
      cases hx
      show Dv.int (0 + (k : Int)) = _
      rw [Int.zero_add]
    subst ex
    refine ⟨[some (.loc n), some (tabD qa qb qc qd), some (.int (k : Nat)), none, none, none, none, some (stp p), some (rv t), some (.bl bn), some (.loc r), some (.int (m : Nat)), y12, y13, y14, none], rfl, ?_⟩
    refine ws_for (items := (List.range 2).map fun (i : Nat) => .int (0 + (i : Int))) (fun j env s' => j ≤ 2 ∧ Gr s3 s' ∧ ∃ y12 y13 y14, env = [some (.loc n), some (tabD qa qb qc qd), some (.int (k : Nat)), none, none, none, none, some (stp p), some (rv t), some (.bl bn), some (.loc r), some (.int (m : Nat)), y12, y13, y14, none])
      (wk_rng1 (n := 2) (by rw [ev]; rfl) (by decide) ⟨(items_rng 0 2).2 _, ⟨by decide, g7, _, _, _, rfl⟩, fun i env s' _ => (items_rng 0 2).1 i s'⟩) ?_ ?_
    · rintro j z env s8 hx ⟨_, g8, y12, y13, y14, rfl⟩
      have hj : j < 2 := by
        have := (List.getElem?_eq_some_iff.mp hx).1
        simpa using this
      have ex : z = .int (j : Int) := by
        rw [List.getElem?_map, List.getElem?_range hj] at hx
        cases hx
        show Dv.int (0 + (j : Int)) = _
        rw [Int.zero_add]
      subst ex
      obtain ⟨s1', s2'⟩ := sel_par told hk hj
      refine ⟨[some (.loc n), some (tabD qa qb qc qd), some (.int (k : Nat)), none, none, none, none, some (stp p), some (rv t), some (.bl bn), some (.loc r), some (.int (m : Nat)), some (.int (j : Nat)), y13, y14, none], rfl, ?_⟩
      exact gone_ok hk hj s1' s2' fun s9 x13 x14 g9 => ⟨_, rfl, hj, g8.trans g9, _, _, _, rfl⟩
    · rintro env s8 ⟨_, g8, y12, y13, y14, rfl⟩
      exact ws_nil (F := F) (gv := g) ⟨_, rfl, hk, g8, _, _, _, _, rfl⟩
  · rintro env s7 ⟨_, g7, y2, y12, y13, y14, rfl⟩
    refine ws_asg (tg rfl rfl rfl fun s8 g8 => ?_)
    refine ws_asg (due2_s fO told bt5 fun s9 g9 => ?_)
    have dt1 := det_e (t := t) p
    obtain ⟨z1, z2, z3, z4⟩ := mat_sz sw15 bt
    obtain ⟨d0, f0, f1, f2⟩ := (fm_idx (Mw.run t Mw.e p)).1
    obtain ⟨d1, h0, h1, h2⟩ := (fm_idx (Mw.run t Mw.e p)).2
    have ap := mt_app (t := t) p
    generalize hM : Mw.run t Mw.e p = M at dt1 z1 z2 z3 z4 f0 f1 f2 h0 h1 h2 ap
    have sbc := (sz_mul z2 z3).mono (show 2 * (1000 + 1000) ≤ 4000 by decide)
    have sad := (sz_mul z1 z4).mono (show 2 * (1000 + 1000) ≤ 4000 by decide)
    refine ws_asg (wp_call (wp_consA (wp_mat rfl ⟨d0, f0, f2⟩ (wp_consA (wp_mat rfl ⟨d1, h0, h1⟩ (wp_nilA (wp_is (fX M.b M.c 1000 1000 z2 z3 (by decide)) ?_)))))))
    have neg : ∀ {env : DEnv} {s' : Sto} {Q : Dv → Sto → Prop}, env[5]? = some (some (rv (M.b * M.c))) → Q (rv (-(M.b * M.c))) s' → wp (ev F g (.num (.bin .sub (.int (0)) (.idx (.var 5) (.int (0)))) (.idx (.var 5) (.int (1)))) env) Q s' := fun {env s' Q} e5 q => wp_is (by rw [neg_rv]; simp [ev, e5, rv, ix_num0, ix_num1, sub_ii, pb]) q
    refine ws_if (wt_or (wt_cmp (wp_var rfl (wp_var rfl (wp_is ((pt_mat M).ne (by decide)) ?_)))))
    rw [if_neg (by simp)]
    refine wt_cmp (wp_call (wp_consA (wp_call (wp_consA (wp_mat rfl ⟨d0, f0, f1⟩ (wp_consA (wp_mat rfl ⟨d1, h0, h2⟩ (wp_nilA (wp_is (fX M.a M.d 1000 1000 z1 z4 (by decide)) ?_)))))))))
    refine wp_consA (neg rfl (wp_nilA (wp_is (fA (M.a * M.d) (-(M.b * M.c)) 4000 4000 sad ⟨by rw [Rat.neg_num, Int.natAbs_neg]; exact sbc.1, by rw [Rat.neg_den]; exact sbc.2⟩ (by decide)) (wp_is (a := rv 1) (by simp [ev, pb]; rfl) (wp_is (ne_rv _ _) ?_)))))
    have one : M.a * M.d + -(M.b * M.c) = 1 := by
      unfold Mw.det at dt1
      grind
    rw [one, decide_eq_true rfl]
    simp only [Bool.not_true, Bool.false_eq_true, if_false]
    refine ws_nil (F := F) (gv := g) ?_
    have G9 : Gr s3 s9 := (g7.trans g8).trans g9
    refine ws_asg (wp_call (wp_consA (wp_var rfl (wp_consA (wp_is (a := .int 2) (by rw [ev]) (wp_consA (wp_is (a := .int ((3 : Nat) : Int)) (by rw [ev]; rfl) (wp_nilA (wp_imp (fP n 900 3 s9 (spr_gr (sp3.mono (by decide)) G9) (by decide)) fun d s10 ⟨o, e, so, sp10, kp10⟩ => ?_)))))))) )
    subst e
    have so15 : Sw 432000 416 15 o := so.up (by decide) (by decide) (by decide)
    have both : Sw 432000 416 45 (p ++ o) := (sw15.app (so.up (by decide) (by decide) (Nat.le_refl 3) : Sw 432000 416 3 o) (by decide)).up (Nat.dvd_refl _) (Nat.le_refl _) (by decide)
    have hB := fG (p ++ o) t both bt t0
    rw [ap o] at hB
    obtain ⟨y1, y2', y3, y4⟩ := mat_sz so15 bt
    have ol := so.len
    refine ws_ret (wp_cmp (wp_call (wp_consA (wp_bin (wp_var rfl (wp_var rfl (wp_is (add_stp (by omega)) ?_)))))))
    refine wp_consA (wp_var rfl (wp_nilA (wp_gv hB fun s11 g11 => ?_)))
    refine wp_call (wp_consA (wp_var rfl (wp_consA (wp_call (wp_consA (wp_var rfl (wp_consA (wp_var rfl (wp_nilA (wp_imp (fB o t s11 so15 bt) fun d s12 ⟨g12, w, e, lt⟩ => ?_))))))))))
    subst e
    refine wp_nilA (wp_imp (fH M _ w s12 lt z1 z2 z3 z4 y1 y2' y3 y4) fun d s13 ⟨e, g13⟩ => ?_)
    subst e
    refine wp_is ((pt_mat _).eq (by decide)) ⟨_, rfl, rfl, ?_⟩
    exact ((kps.trans (.gr G9)).trans kp10).trans (.gr ((g11.trans g12).trans g13))
theorem lawU_s (fS : UrnS F i_law_urn) (fR : RightS F i_law_right) (ns : List Int) (hn : ns.length ≤ 63) : wp (runDef F g d_law [.loc 0]) (fun d _ => d = .bl true) [.ro (ns.map .int)] := by
  refine wp_run (env := [some (.loc 0), none]) rfl rfl ?_
  have h0 : ([.ro (ns.map .int)] : Sto)[0]? = some (.ro (ns.map .int)) := rfl
  refine ws_for (items := (List.range 2).map fun (i : Nat) => .int (0 + (i : Int))) (fun i env s' => s'[0]? = some (.ro (ns.map .int)) ∧ ∃ k, env = [some (.loc 0), k])
    (wk_rng1 (n := 2) (by rw [ev]; rfl) (by decide) ⟨(items_rng 0 2).2 _, ⟨h0, none, rfl⟩, fun i env s' _ => (items_rng 0 2).1 i s'⟩) ?_ ?_
  · rintro i x env s1 hx ⟨c, k, rfl⟩
    have hi : i < 2 := by
      have := (List.getElem?_eq_some_iff.mp hx).1
      simpa using this
    have ex : x = .int (i : Int) := by
      rw [List.getElem?_map, List.getElem?_range hi] at hx
      cases hx
      show Dv.int (0 + (i : Int)) = _
      rw [Int.zero_add]
    subst ex
    refine ⟨[some (.loc 0), some (.int (i : Int))], rfl, ws_skip (wt_not (wt_call (wp_consA (wp_call (wp_consA (wp_var rfl (wp_consA (wp_var rfl (wp_nilA ?_)))))))))⟩
    refine wp_imp (fS ns i s1 c hn (by omega)) fun d s2 ⟨g2, m, e2, m0, sp⟩ => ?_
    subst e2
    refine wp_nilA (wp_imp (fR m s2 sp) fun d s3 ⟨e3, kp⟩ => ?_)
    subst e3
    exact wp_is (truth_bl _) ⟨rfl, ws_nil ⟨_, rfl, kp 0 _ (fun z => m0 z.symm) (g2.get c), _, rfl⟩⟩
  · rintro env' s1 ⟨c, k, rfl⟩
    exact ws_ret (wp_is (a := .bl true) (by rw [ev]) ⟨_, rfl, rfl⟩)
end
end K52
end
section
set_option Elab.async false
set_option linter.all false
set_option maxRecDepth 100000
namespace K52
open PySem PySem.Spec PyProof.Rows L2 Dd Sh Ms Mw
abbrev Fn (k : Nat) : Fs := Fk gv (ts.map Prod.fst) k
theorem fn_eq (k i : Nat) (d : Dfn) (h : (ts.map Prod.fst)[i]? = some d) : Fn (k + 1) i = runDef (Fn k) gv d := by
  funext ds
  show (match (ts.map Prod.fst)[i]? with | some d => runDef (Fk gv (ts.map Prod.fst) k) gv d ds | none => fail) = _
  rw [h]
theorem nil_gv : gv "NIL" = some (.num 0 1) := by rfl
theorem whole_k (k : Nat) : WholeS (Fn (k + 1)) i_is_whole := fun n => by rw [fn_eq k _ d_is_whole rfl]; exact whole_s n
theorem between_k (k : Nat) : BetweenS (Fn (k + 2)) := fun v a b h1 h2 => by rw [fn_eq _ _ d_is_between rfl]; exact between_s (whole_k k) v a b h1 h2
theorem letter_k (k : Nat) : LetterS (Fn (k + 3)) := fun v h1 h2 => by rw [fn_eq _ _ d_is_letter rfl]; exact letter_s (between_k k) v h1 h2
theorem pair_k (k : Nat) : PairS (Fn (k + 1)) i_is_pair := fun n d => by rw [fn_eq k _ d_is_pair rfl]; exact pair_s n d
theorem pair2_k (k : Nat) : Pair2S (Fn (k + 1)) := fun n d => by rw [fn_eq k _ d_is_pair rfl]; exact pair2_s n d
theorem isfrac_k (k : Nat) : IsFracS (Fn (k + 2)) i_is_fraction := fun q => by rw [fn_eq _ _ d_is_fraction rfl]; exact isfrac_s (pair_k k) (whole_k k) q
theorem piece_k (k : Nat) : PieceS (Fn (k + 4)) := fun x h1 h2 => by rw [fn_eq _ _ d_is_piece rfl]; exact piece_s (pair2_k (k + 2)) (letter_k k) (isfrac_k (k + 1)) x h1 h2
theorem isstep_k (k : Nat) : IsStepS (Fn (k + 5)) := fun p h => by rw [fn_eq _ _ d_is_step rfl]; exact isstep_s (piece_k k) p h
theorem check_k (k : Nat) : CheckS (Fn (k + 6)) := fun p h => by rw [fn_eq _ _ d_check_step rfl]; exact check_s (isstep_k k) p h
theorem hastwo_k (k : Nat) : HasTwoS (Fn (k + 1)) := fun p h => by rw [fn_eq _ _ d_step_has_two rfl]; exact hastwo_s p h
theorem fraction_k (k : Nat) : FracS (Fn (k + 1)) i_fraction_of := fun n d h h2 => by rw [fn_eq _ _ d_fraction_of rfl]; exact fraction_s n d h h2
theorem added_k (k : Nat) : PlusS (Fn (k + 2)) i_added := fun p q a b h1 h2 h3 => by rw [fn_eq _ _ d_added rfl]; exact added_s (fraction_k k) p q a b h1 h2 h3
theorem mult_k (k : Nat) : TimesS (Fn (k + 2)) i_multiplied := fun p q a b h1 h2 h3 => by rw [fn_eq _ _ d_multiplied rfl]; exact multiplied_s (fraction_k k) p q a b h1 h2 h3
theorem sshort_k (k : Nat) : ShortS (Fn (k + 3)) i_step_short := fun D N p a b c => by rw [fn_eq _ _ d_step_short rfl]; exact stepshort_s nil_gv (added_k k) D N p a b c
theorem swungc_k (k : Nat) : SwungC (Fn (k + 7)) := fun p h => by rw [fn_eq _ _ d_check_swung rfl]; exact swungc_s (check_k k) (hastwo_k (k + 5)) p h
theorem timec_k (k : Nat) : TimeC (Fn (k + 3)) := fun t h => by rw [fn_eq _ _ d_check_time rfl]; exact timec_s (isfrac_k k) t h
theorem numbers_k (k : Nat) : NumsU (Fn (k + 4)) := fun p t a b => by rw [fn_eq _ _ d_swing_numbers rfl]; exact numbers_s (sshort_k k) (mult_k (k + 1)) p t a b
theorem urn_k (k : Nat) : UrnS (Fn (k + 1)) i_law_urn := fun ns lap s h hn hl => by rw [fn_eq _ _ d_law_urn rfl]; exact urn_s ns lap s h hn hl
theorem dip_k (k : Nat) : DrawS (Fn (k + 1)) i_law_dip := fun n B w sto h h0 h1 => by rw [fn_eq _ _ d_law_dip rfl]; exact dip_ok h h0 h1
theorem pickl_k (k : Nat) : PickLS (Fn (k + 2)) := fun n B m xs s a b c d e => by rw [fn_eq _ _ d_law_pick rfl]; exact pickl_s (dip_k k) n B m xs s a b c d e
theorem low_k (k : Nat) : FracS (Fn (k + 1)) i_law_low := fun n d h h2 => by rw [fn_eq _ _ d_law_low rfl]; exact low_s n d h h2
theorem plus_k (k : Nat) : PlusS (Fn (k + 2)) i_law_plus := fun p q a b h1 h2 h3 => by rw [fn_eq _ _ d_law_plus rfl]; exact law_plus_s (low_k k) p q a b h1 h2 h3
theorem times_k (k : Nat) : TimesS (Fn (k + 2)) i_law_times := fun p q a b h1 h2 h3 => by rw [fn_eq _ _ d_law_times rfl]; exact law_times_s (low_k k) p q a b h1 h2 h3
theorem share_k (k : Nat) : ShareU (Fn (k + 2)) := fun n B s h => by rw [fn_eq _ _ d_law_share rfl]; exact share_s (dip_k k) (low_k k) n B s h
theorem time_k (k : Nat) : TimeU (Fn (k + 2)) := fun n B s h => by rw [fn_eq _ _ d_law_time rfl]; exact time_s (dip_k k) (low_k k) n B s h
theorem pieces_k (k : Nat) : PiecesU (Fn (k + 3)) := fun n B m s h h2 => by rw [fn_eq _ _ d_law_pieces rfl]; exact pieces_s (dip_k (k + 1)) (share_k k) n B m s h h2
theorem rest_k (k : Nat) : RestU (Fn (k + 3)) := fun p h => by rw [fn_eq _ _ d_law_rest rfl]; exact rest_s (plus_k k) p h
theorem timed_k (k : Nat) : TimedU (Fn (k + 3)) := fun p c a b d => by rw [fn_eq _ _ d_law_timed rfl]; exact timed_s (times_k k) p c a b d
theorem undone_k (k : Nat) : UndoU (Fn (k + 1)) := fun p h => by rw [fn_eq _ _ d_law_undone rfl]; exact undone_s p h
theorem even_k (k : Nat) : EvenU (Fn (k + 4)) := fun n B s h => by rw [fn_eq _ _ d_law_even rfl]; exact even_s (pieces_k k) (rest_k k) (timed_k k) n B s h
theorem table_k (k : Nat) : TableU (Fn (k + 3)) := fun p t s a b => by rw [fn_eq _ _ d_law_table rfl]; exact table_s (plus_k k) (times_k k) p t s a b
theorem swung_k (k : Nat) : SwungU (Fn (k + 5)) := fun n B s h => by rw [fn_eq _ _ d_law_swung rfl]; exact swung_s (dip_k (k + 3)) (pieces_k (k + 1)) (even_k k) (rest_k (k + 1)) (share_k (k + 2)) (pickl_k (k + 2)) (times_k (k + 2)) (undone_k (k + 3)) n B s h
theorem trim_k (k : Nat) : TrimU (Fn (k + 1)) := fun n xs s a b => by rw [fn_eq _ _ d_trimmed rfl]; exact trimmed_s n xs s a b
theorem poly_k (k : Nat) : PolyU (Fn (k + 2)) := fun n m xs ys c s a1 a2 a3 a4 a5 a6 => by rw [fn_eq _ _ d_poly_plus rfl]; exact polyplus_s (trim_k k) n m xs ys c s a1 a2 a3 a4 a5 a6
theorem polys_k (k : Nat) : PolysU (Fn (k + 4)) := fun p s sw => by rw [fn_eq _ _ d_swing_polynomials rfl]; exact polys_s (sshort_k k) (poly_k (k + 1)) p s sw
theorem powers_k (k : Nat) : PowU (Fn (k + 2)) := fun n xs lo odd s a b c d => by rw [fn_eq _ _ d_as_powers rfl]; exact powers_s (fraction_k k) n xs lo odd s a b c d
theorem swt_k (k : Nat) : SwtU (Fn (k + 8)) := fun p qa qb qc qd a b c d e => by rw [fn_eq _ _ d_swing_table rfl]; exact swt_s (swungc_k k) (polys_k (k + 3)) (powers_k (k + 5)) p qa qb qc qd a b c d e
theorem fracs_k (k : Nat) : FracsU (Fn (k + 5)) := fun p t s a b => by rw [fn_eq _ _ d_swing_fractions rfl]; exact fracs_s (numbers_k k) (fraction_k (k + 3)) p t s a b
theorem at_k (k : Nat) : AtU (Fn (k + 8)) := fun p t a b c => by rw [fn_eq _ _ d_swing_at rfl]; exact at_s (swungc_k k) (timec_k (k + 4)) (fracs_k (k + 2)) p t a b c
theorem scale_k (k : Nat) : ScaleU (Fn (k + 2)) := fun p sw => by rw [fn_eq _ _ d_law_scale rfl]; exact scale2_s (low_k k) p sw
theorem led_k (k : Nat) : LedU (Fn (k + 1)) := fun n m xs ys c s a1 a2 a3 a4 a5 a6 => by rw [fn_eq _ _ d_law_led rfl]; exact led_s n m xs ys c s a1 a2 a3 a4 a5 a6
theorem lpoly_k (k : Nat) : LPolyU (Fn (k + 3)) := fun p s sw => by rw [fn_eq _ _ d_law_polynomials rfl]; exact lpoly_s (scale_k k) (led_k (k + 1)) p s sw
theorem shown_k (k : Nat) : ShownU (Fn (k + 2)) := fun n m x s a b c d e f h => by rw [fn_eq _ _ d_law_shown rfl]; exact shown_s (low_k k) n m x s a b c d e f h
theorem worth_k (k : Nat) : WorthU (Fn (k + 3)) := fun q t D M a b c d e f => by rw [fn_eq _ _ d_law_worth rfl]; exact worth_s (plus_k k) (times_k k) q t D M a b c d e f
theorem behind_k (k : Nat) : BehindU (Fn (k + 3)) := fun m n i s a b c d e f h j l => by rw [fn_eq _ _ d_law_behind rfl]; exact behind_s (plus_k k) (times_k k) m n i s a b c d e f h j l
theorem right_k (k : Nat) : RightS (Fn (k + 9)) i_law_right := fun n s sp => by
  rw [fn_eq _ _ d_law_right rfl]
  exact right_s (swung_k (k + 3)) (time_k (k + 6)) (dip_k (k + 7)) (plus_k (k + 6)) (times_k (k + 6)) (lpoly_k (k + 5)) (shown_k (k + 6)) (swt_k k) (at_k k) (worth_k (k + 5)) (pieces_k (k + 5)) (table_k (k + 5)) (behind_k (k + 5)) n s sp
theorem run_law : ∀ ns : List Int, ns.length ≤ 63 → ∃ sto, Fk gv (ts.map Prod.fst) 14 i_law [.loc 0] [.ro (ns.map .int)] = .ok (.bl true) sto := fun ns hn => by
  obtain ⟨d, s', e, rfl⟩ := lawU_s (F := Fn 13) (g := gv) (urn_k 12) (right_k 4) ns hn
  refine ⟨s', ?_⟩
  rw [← e]
  exact congrFun (congrFun (fn_eq 13 i_law d_law rfl) _) _
end K52
end
section
set_option Elab.async false
set_option linter.all false
set_option maxRecDepth 100000
set_option maxHeartbeats 0
open PySem PySem.W PyProof.Rows
theorem PySem.Challenge.cw_flowpieces_k52_whole_tables_on_the_swing_holds : PySem.Challenge.rw_flowpieces_k52_whole_tables_on_the_swing.Holds := by
  w_on; o_law
  refine HandSHeadRun.head_imp (r := OpenLaw.row PySem.Challenge.rw_flowpieces_k52_whole_tables_on_the_swing) (q := view (OpenLaw.row PySem.Challenge.rw_flowpieces_k52_whole_tables_on_the_swing).prog [0, 56]) (H := K52.hk) (ob := K52.ob) (M := 26840) (loose := K52.names) (d := HandSHeadRun.topDef (OpenLaw.row PySem.Challenge.rw_flowpieces_k52_whole_tables_on_the_swing).prog 56) (kwd := []) K52.ob_eq
    K52.run (by kernel_rfl) (by kernel_rfl) (by kernel_rfl) (by rfl) (by first | assumption | decide +kernel) (by decide +kernel) ⟨rfl, rfl, rfl, rfl, rfl, by decide +kernel⟩ ?hw ?hc
  case hw => w_witness2
  case hc =>
    refine Dd.law_endE (n := 63) (k := 14) (j := K52.i_law) (gv := K52.gv) (defs := K52.ts.map Prod.fst) (bns := K52.bns) (ibs := K52.ibs) (df := K52.d_law) rfl (by decide) (by kernel_rfl) ⟨rfl, by decide, by decide⟩ (fun w mg h Y g => ?_) rfl (by kernel_rfl) rfl K52.run_law
    obtain ⟨K, X, c⟩ := Y
    exact ⟨K, _, X, Dd.text_ofX K52.stat (by rw [K52.fa_eq, K52.fn_eqS]; exact c) X g⟩
end
