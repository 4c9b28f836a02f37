import PyProof.Rows.All
import Wide.All
import OpenK.AllK
import Wide.FinOn
import HandS.ForMost
import HandS.Wide
import HandS.Style
import HandS.IsInst
import HandS.Conv
import HandS.Codes
import HandS.TupAny
import HandS.Walk
import KE.GoesEnum
import KE.DataCmp
import PySem.Challenge.RW_figurerounds_k04_whole_numbers_and_steps
set_option Elab.async false
set_option linter.all false
set_option maxRecDepth 100000
set_option maxHeartbeats 4000000

/-! my own words for readings: "rd" goes on while there is one way only -/
local macro_rules | `(tactic| walk_at "cc") => `(tactic| first
  | (with_reducible exact rfl) | (dsimp only [CMul, CDivW]; omega) | (exact ⟨by decide +kernel, by decide +kernel⟩) | decide +kernel)
local macro_rules | `(tactic| walk_at "rd1") => `(tactic| first
  | refine ⟨_, rfl, ?_⟩ | refine ⟨_, _, rfl, rfl, ?_⟩ | refine ⟨rfl, ?_⟩)
local macro_rules | `(tactic| walk_at "rd") => `(tactic| repeat (walk_at "rd1"))

local macro_rules | `(tactic| walk_at "p") => `(tactic| ((show (0 : Int) < _); first | assumption | omega | decide))

namespace Fx
open PySem PySem.Spec PyProof.Rows L2

/-! ### rules named by their readings, for comprehensions -/
def rLenQ (K : PySem.W.Frag) : List V → Hp → VK → Prop := fun xs H Q => ∃ p ys, xs = [V.ref p] ∧ (SqL K H p ys ∨ SqT K H p ys) ∧ Q (.int ys.length) H
def rListQ (K : PySem.W.Frag) : List V → Hp → VK → Prop := fun xs H Q => ∃ p ys, xs = [V.ref p] ∧ (SqL K H p ys ∨ SqT K H p ys) ∧ ∀ l, H l = none → Q (.ref l) (upd H l (.lst ys))

/-! ### what stays -/
def But (d : Addr) (H H' : Hp) : Prop := ∀ b o, b ≠ d → H b = some o → H' b = some o
theorem But.refl (d : Addr) (H : Hp) : But d H H := fun _ _ _ h => h
theorem But.trans {d : Addr} {H H1 H2 : Hp} (a : But d H H1) (b : But d H1 H2) : But d H H2 := fun x o n h => b x o n (a x o n h)
theorem But.of {d : Addr} {H H' : Hp} (a : Same H H') : But d H H' := fun x o _ h => a x o h
theorem But.new {d p : Addr} {H : Hp} {o : HO} (h : H p = none) : But d H (upd H p o) := fun b u _ e => by
  rw [upd_ne (ne_of_none e h)]
  exact e
theorem But.set {d : Addr} {H : Hp} {o : HO} : But d H (upd H d o) := fun b u n e => by
  rw [upd_ne n]
  exact e
theorem But.fresh {d p : Addr} {H H' : Hp} (a : But d H H') (hd : ∃ o, H' d = some o) (h : H' p = none) : H p = none := by
  cases e : H p with
  | none => rfl
  | some o =>
    by_cases z : p = d
    · obtain ⟨u, hu⟩ := hd
      rw [z, hu] at h
      cases h
    · rw [a p o z e] at h
      cases h
theorem Same.new {p : Addr} {H : Hp} {o : HO} (h : H p = none) : Same H (upd H p o) := fun b u e => by
  rw [upd_ne (ne_of_none e h)]
  exact e

/-- behind a new object, named by «generalize g : upd H p _ = H'» -/
theorem new_of {H H' : Hp} {p : Addr} {o : HO} (g : upd H p o = H') (hp : H p = none) : Same H H' ∧ H' p = some o := by
  subst g
  exact ⟨Same.new hp, upd_same⟩
theorem set_of {H H' : Hp} {p : Addr} {o : HO} (g : upd H p o = H') : But p H H' ∧ H' p = some o := by
  subst g
  exact ⟨But.set, upd_same⟩

/-! ### the draws -/
/-- the cells at c, the deck at d, at most n draws so far -/
structure Deck (H : Hp) (d c : Addr) (n : Nat) : Prop where
  ex : ∃ (ns : List Int) (i l m t : Int), H d = some (.lst [.ref c, .int i, .int l, .int m, .int t]) ∧ H c = some (.lst (ns.map V.int)) ∧ 0 ≤ i ∧ i ≤ n ∧ 0 ≤ m ∧ m ≤ n
theorem Deck.there {H : Hp} {d c : Addr} {n : Nat} (h : Deck H d c n) : ∃ o, H d = some o := by
  obtain ⟨ns, i, l, m, t, e, _⟩ := h.ex
  exact ⟨_, e⟩
theorem Deck.some {H : Hp} {d c : Addr} {n : Nat} (h : Deck H d c n) : ∃ xs, H d = some (.lst xs) := by
  obtain ⟨ns, i, l, m, t, e, _⟩ := h.ex
  exact ⟨_, e⟩
theorem Deck.ne {H : Hp} {d c : Addr} {n : Nat} (h : Deck H d c n) : c ≠ d := by
  obtain ⟨ns, i, l, m, t, e, e2, _⟩ := h.ex
  intro z
  rw [z, e] at e2
  cases ns with
  | nil => cases e2
  | cons x r => cases e2
theorem Deck.mono {H : Hp} {d c : Addr} {n k : Nat} (h : Deck H d c n) (l : n ≤ k) : Deck H d c k := by
  obtain ⟨ns, i, l, m, t, e, e2, h1, h2, h3, h4⟩ := h.ex
  exact ⟨ns, i, l, m, t, e, e2, h1, by omega, h3, by omega⟩
theorem Deck.same {H H' : Hp} {d c : Addr} {n : Nat} (h : Deck H d c n) (a : Same H H') : Deck H' d c n := by
  obtain ⟨ns, i, l, m, t, e, e2, r⟩ := h.ex
  exact ⟨ns, i, l, m, t, a _ _ e, a _ _ e2, r⟩
theorem Deck.new {H : Hp} {d c p : Addr} {n : Nat} {o : HO} (h : Deck H d c n) (hp : H p = none) : Deck (upd H p o) d c n := h.same (Same.new hp)
/-- something else than the deck and its cells is written -/
theorem Deck.off {H : Hp} {d c p : Addr} {n : Nat} {o : HO} (h : Deck H d c n) (h1 : p ≠ d) (h2 : p ≠ c) : Deck (upd H p o) d c n := by
  obtain ⟨ns, i, l, m, t, e, e2, r⟩ := h.ex
  exact ⟨ns, i, l, m, t, by rw [upd_ne (Ne.symm h1)]; exact e, by rw [upd_ne (Ne.symm h2)]; exact e2, r⟩
/-- a list of our own grows -/
theorem But.own {d p : Addr} {H H' : Hp} {o : HO} (a : But d H H') (hp : H p = none) : But d H (upd H' p o) := fun b u n e => by
  rw [upd_ne (ne_of_none e hp)]
  exact a b u n e
theorem Deck.out {H : Hp} {d c p : Addr} {n : Nat} (h : Deck H d c n) (hp : H p = none) : p ≠ d ∧ p ≠ c := by
  obtain ⟨ns, i, l, m, t, e, e2, r⟩ := h.ex
  exact ⟨(ne_of_none e hp).symm, (ne_of_none e2 hp).symm⟩
/-- an object that is no list stays -/
theorem But.tup {d c p : Addr} {n : Nat} {H H' : Hp} {xs : List V} (a : But d H H') (h : Deck H d c n) (e : H p = some (.tup xs)) : H' p = some (.tup xs) := by
  obtain ⟨ys, q⟩ := h.some
  exact a p _ (ne_of e q (fun z => by cases z)) e

/-- a slice from the first on -/
theorem cut_to (xs : List V) (n : Nat) : cutV xs none (some (n : Int)) = xs.take n := by
  unfold cutV
  rw [HT.sIx_none, HT.sIx_nat]
  show List.take (min n xs.length - 0) (xs.drop 0) = _
  rw [List.drop_zero, Nat.sub_zero]
  by_cases h : n ≤ xs.length
  · rw [Nat.min_eq_left h]
  · rw [Nat.min_eq_right (by omega), List.take_length, List.take_of_length_le (by omega)]
/-- a slice from the n-th on -/
theorem cut_from (xs : List V) (n : Nat) : cutV xs (some (n : Int)) none = xs.drop n := by
  unfold cutV
  rw [HT.sIx_none, HT.sIx_nat]
  by_cases h : n ≤ xs.length
  · rw [Nat.min_eq_left h]
    exact List.take_of_length_le (by rw [List.length_drop]; omega)
  · rw [Nat.min_eq_right (by omega), Nat.sub_self, List.take_zero, List.drop_eq_nil_of_le (by omega)]

/-- a while's next turn -/
def Nx (W : Nat → L2.St → Hp → Prop) (m : Nat) : L2.St → Hp → Prop := fun σ' H' => ∃ m', m' < m ∧ W m' σ' H'
theorem Nx.id {W : Nat → L2.St → Hp → Prop} {m : Nat} : ∀ σ' H', Nx W m σ' H' → ∃ m', m' < m ∧ W m' σ' H' := fun _ _ h => h

theorem small5 {n : Nat} (h : n < 100000) : n < sizeLine := Nat.lt_of_lt_of_le h (by decide)

/-- a divisor's, a factor's bound -/
theorem divW {i j : Int} (b : Nat) (h : 0 < j) (hb : j < 2 ^ b) (h0 : 0 < b := by decide) (h9 : b ≤ 9000 := by decide) : CDivW i j := wide_div h (b := b) (by
  have e : ((2 ^ b : Nat) : Int) = (2 : Int) ^ b := by simp
  omega) h0 h9
end Fx

namespace Fx
open PySem PySem.Spec PyProof.Rows L2
/-! ### for i, c in enumerate(text) -/
def IteS (x : Str) : It := ⟨fun i _ => i < x.cps.size, fun i H v H' => ∃ (T : Addr) (c : Nat), v = .ref T ∧ H T = none ∧ x.cps[i]? = some c ∧ H' = upd H T (.tup [.int (i : Nat), .str ⟨#[c]⟩]), fun i _ => x.cps.size ≤ i⟩
theorem turn_enumS {P : Program} {w : World} {K : PySem.W.Frag} {elts : List Expr} {kk : Nat} {tpos : Pos} (x : Str) (t : Tok) (e it : Addr) (hne : e ≠ it) :
    Turn P w K (.Tuple elts kk tpos) (IteS x) [e, it] e (fun i h => (∃ old, IsEnum h e it (0 + (i : Int)) old) ∧ h.IsStrIter it (strIterType x) x t i ∧ i ≤ x.cps.size) where
  mem := by simp
  obj := fun i h st b hb => by
    obtain ⟨⟨old, he⟩, ⟨o, ho, hc, hd⟩, _⟩ := st
    have e' : b = e ∨ b = it := by simpa using hb
    rcases e' with z | z
    · rw [z]; exact ⟨_, he, fun v q => nomatch q⟩
    · rw [z]; exact ⟨o, ho, fun v q => by rw [hd] at q; cases q⟩
  keep := fun i h h' st k => by
    obtain ⟨⟨old, he⟩, ⟨o, ho, r⟩, le⟩ := st
    exact ⟨⟨old, k e (by simp) _ he⟩, ⟨o, k it (by simp) o ho, r⟩, le⟩
  item := by
    intro X hP hw hK hc i pins s σ H E I hf st hg
    subst hP hw hK
    have W := WalksT.enumFrom (prog := X.prog) (w := X.w) (A := X.A) 0 (Draws.text (A := X.A.in1) (I.ok.hd hc) it x t) e hne (fun z => hne (List.mem_singleton.mp z)) (List.mem_singleton.mpr rfl)
    refine W.item i s _ _ hg ⟨st.1, st.2.1⟩ fun T vals h1 tk hP hsz hT hM hk => ⟨_, rfl, W.go _ _ _ i T _ _ _ hM fun h2 st2 hk2 => ?_⟩
    obtain ⟨u, y, ⟨c, v, hcx, rfl⟩, rfl⟩ := hP
    have kk2 : ∀ b o, b ∉ [e, it] → s.heap.get? b = some o → h2.get? b = some o := fun b o hb z => hk2 b o hb (hk b o hb z)
    have hTn : T ∉ [e, it] := W.apart i T _ hM
    obtain ⟨oT, hT1, hT2, n3, hT3⟩ := hT
    have new : ObjOk X.prog X.w (upd H T (.tup [.int (i : Nat), .str ⟨#[c]⟩])) h2 T (.tup [.int (i : Nat), .str ⟨#[c]⟩]) := by
      refine ⟨by show 2 ≤ sizeLine; decide, [.int (0 + (i : Int)) u, .str ⟨#[c]⟩ v], .cons ⟨u, ?_⟩ (.cons ⟨v, rfl⟩ .nil), ⟨oT, hk2 T _ hTn hT1, hT2, n3, hT3⟩⟩
      rw [Int.zero_add]
    have I1 : Inv X pins σ (upd H T (.tup [.int (i : Nat), .str ⟨#[c]⟩])) { s with heap := h2, toks := tk } := I.turnedNew (ch := [e, it]) kk2 hf hsz new
    refine ⟨.ref T, _, I1, rfl, ⟨T, c, rfl, I.hok.fresh hsz, hcx, rfl⟩, ?_, fun b hb => ?_⟩
    · exact ⟨st2.1, st2.2, hg⟩
    · rw [upd_ne (fun z => hTn (by rw [← z]; exact hb))]
      exact (hf b hb).1
  done := by
    intro X hP hw hK hc i pins s σ H E I hf st hg
    subst hP hw hK
    obtain ⟨⟨old, he⟩, hit, le⟩ := st
    obtain ⟨f0, f1, f2, f3, f4, f5⟩ := hf it (by simp)
    obtain rfl : i = x.cps.size := Nat.le_antisymm le hg
    exact wpAny_pyNext_enum_endD (Draws.text (A := X.A.in1) (I.ok.hd hc) it x t) he hit fun h' eb => ⟨rfl, I.turned (t' := s.toks) (fun b o hb q => eb b o hb q) f0 f1 f3 f4 f5⟩
  self := fun A i s Q E st h => let ⟨⟨_, he⟩, _⟩ := st; wpAny_pyIter_enum he h
def iEnumS (ta : TA) : TI := fun σ H R => ta σ H fun vs H1 => ∃ x, vs = [.str x] ∧ R (IteS x) H1
theorem pi_enumS {X : Cx} {e : Expr} {ta : TA} {p pos tpos : Pos} {elts : List Expr} {kk : Nat} (hg : Gl X "enumerate") (hm : X.mg "enumerate" = none) (ha : PA X [e] ta) (hs : starEach [e] X.env = [(false, eval e X.env)] := by rfl) :
    PI X (.Tuple elts kk tpos) (.Call (.Name "enumerate" p) [e] [] pos) (iEnumS ta) := by
  refine ⟨fun pins s σ H R I h => ?_⟩
  refine Call_ (ld_blt I hg hm boot_enumerate (PyProof.Rows.callWith_type1 (thn (ha.run pos pins s σ H _ I h) fun us s1 ⟨vs, H1, I1, r1, q1⟩ => ?_) hs rfl))
  obtain ⟨x, ex, q⟩ := q1
  subst ex
  cases r1 with
  | cons r rr =>
    cases rr
    obtain ⟨t, rfl⟩ := r
    refine call_enumerate_str fun h' he hit hsz hk => wpAny_pyIter_enum he ?_
    have I2 : Inv X pins σ H1 { s1 with heap := h' } := I1.kept (t' := s1.toks) hk
    refine ⟨s1.heap.objs.size + 1, [s1.heap.objs.size + 1, s1.heap.objs.size], _, _, H1, rfl, I2, turn_enumS x t (s1.heap.objs.size + 1) s1.heap.objs.size (Nat.succ_ne_self _), ⟨⟨.none, he⟩, hit, Nat.zero_le _⟩, fun b hb => ?_, q⟩
    have e' : b = s1.heap.objs.size + 1 ∨ b = s1.heap.objs.size := by simpa using hb
    have hle : s1.heap.objs.size ≤ b := by
      rcases e' with z | z
      · rw [z]; exact Nat.le_add_right _ _
      · rw [z]; exact Nat.le_refl _
    exact I1.fpOk hle (I1.hok.fresh hle)
theorem walk_enumS {x : Str} : Walk (IteS x) x.cps.size (fun _ => True) (fun i H v H' => ∃ (T : Addr) (c : Nat), v = .ref T ∧ H T = none ∧ x.cps[i]? = some c ∧ H' = upd H T (.tup [.int (i : Nat), .str ⟨#[c]⟩])) :=
  ⟨fun _ _ hi _ => hi, fun _ _ => Nat.le_refl _, fun _ _ _ _ _ _ y => y⟩
end Fx

namespace Fx
open PySem PySem.Spec PyProof.Rows L2
/-! ### lists of numbers as they stand -/
def ivs (l : List Nat) : List V := l.map fun (k : Nat) => V.int (k : Int)
theorem ivs_map (l : List Nat) : ivs l = (l.map fun (k : Nat) => (k : Int)).map V.int := by
  unfold ivs
  rw [List.map_map]
  rfl
theorem ivs_append (l r : List Nat) : ivs (l ++ r) = ivs l ++ ivs r := List.map_append
theorem ivs_length (l : List Nat) : (ivs l).length = l.length := List.length_map ..
theorem ivs_reverse (l : List Nat) : (ivs l).reverse = ivs l.reverse := by
  unfold ivs
  rw [List.map_reverse]
theorem ivs_get {l : List Nat} {i : Nat} {x : V} (h : (ivs l)[i]? = some x) : ∃ k, l[i]? = some k ∧ x = V.int (k : Int) := by
  unfold ivs at h
  rw [List.getElem?_map] at h
  cases e : l[i]? with
  | none => rw [e] at h; cases h
  | some k =>
    rw [e] at h
    exact ⟨k, rfl, (Option.some.inj h).symm⟩
theorem ivs_at {l : List Nat} {i k : Nat} (h : l[i]? = some k) : (ivs l)[i]? = some (V.int (k : Int)) := by
  unfold ivs
  rw [List.getElem?_map, h]
  rfl
theorem sum_cast : ∀ l : List Nat, (l.map fun (k : Nat) => (k : Int)).sum = ((l.sum : Nat) : Int)
  | [] => rfl
  | a :: r => by
    rw [List.map_cons, List.sum_cons, List.sum_cons, sum_cast r]
    simp
theorem same_own {H H' : Hp} {p : Addr} {o : HO} (a : Same H H') (hp : H p = none) : Same H (upd H' p o) := fun b u e => by
  rw [upd_ne (ne_of_none e hp)]
  exact a b u e

/-! ### data that are compared -/
def dInts (l : List Int) : List PyData := l.map PyData.int
theorem dpAll_ints {K : PySem.W.Frag} {H : Hp} : ∀ l : List Int, DpAll K H (l.map V.int) (dInts l)
  | [] => .nil
  | a :: r => .cons (.int a) (dpAll_ints r)
theorem dpAll_ivs {K : PySem.W.Frag} {H : Hp} (l : List Nat) : DpAll K H (ivs l) (dInts (l.map fun (k : Nat) => (k : Int))) := by
  rw [ivs_map]
  exact dpAll_ints _
theorem canLay_ints : ∀ l : List Int, PyData.canLayAll0 (dInts l) = true
  | [] => rfl
  | a :: r => by
    unfold dInts
    rw [List.map_cons, PyData.canLayAll0]
    have h := canLay_ints r
    unfold dInts at h
    rw [h]
    rfl
theorem depth_ints : ∀ l : List Int, PyData.depthAll (dInts l) ≤ 1
  | [] => by unfold dInts; rw [List.map_nil]; unfold PyData.depthAll; decide
  | a :: r => by
    have h := depth_ints r
    unfold dInts at h ⊢
    rw [List.map_cons]
    unfold PyData.depthAll PyData.depth
    omega
theorem shaped_list {ds : List PyData} (h : PyData.canLayAll0 ds = true) (d : PyData.depthAll ds ≤ 60) : SeqAt.shaped (.list ds) = true := by
  unfold SeqAt.shaped
  rw [Bool.and_eq_true]
  refine ⟨by rw [PyData.canLay0]; exact h, decide_eq_true ?_⟩
  unfold PyData.depth
  omega
theorem shaped_tup {ds : List PyData} (h : PyData.canLayAll0 ds = true) (d : PyData.depthAll ds ≤ 60) : SeqAt.shaped (.tuple ds) = true := by
  unfold SeqAt.shaped
  rw [Bool.and_eq_true]
  refine ⟨by rw [PyData.canLay0]; exact h, decide_eq_true ?_⟩
  unfold PyData.depth
  omega
theorem shaped_ints (l : List Int) : SeqAt.shaped (.list (dInts l)) = true := shaped_list (canLay_ints l) (Nat.le_trans (depth_ints l) (by decide))
theorem shaped_tints (l : List Int) : SeqAt.shaped (.tuple (dInts l)) = true := shaped_tup (canLay_ints l) (Nat.le_trans (depth_ints l) (by decide))
theorem eqv_same {d : PyData} (h : SeqAt.shaped d = true) : PyData.eqv d d = true := SeqAt.eqv_refl d (SeqAt.canLay_of_shaped h)
end Fx

namespace Fx
/-! ### figures -/
/-- figures, the least place first -/
def lsd (b n : Nat) : List Nat := if h : 2 ≤ b ∧ b ≤ n then (n % b) :: lsd b (n / b) else [n]
termination_by n
decreasing_by exact Nat.div_lt_self (by omega) (by omega)
theorem lsd_lt {b n : Nat} (h : n < b) : lsd b n = [n] := by
  rw [lsd, dif_neg (by omega)]
theorem lsd_ge {b n : Nat} (hb : 2 ≤ b) (h : b ≤ n) : lsd b n = n % b :: lsd b (n / b) := by
  rw [lsd, dif_pos ⟨hb, h⟩]
theorem lsd_split {b r : Nat} (hb : 2 ≤ b) : lsd b r = r % b :: (if r / b = 0 then [] else lsd b (r / b)) := by
  by_cases h : b ≤ r
  · have : r / b ≠ 0 := by
      have := Nat.div_pos h (by omega)
      omega
    rw [if_neg this, lsd_ge hb h]
  · rw [if_pos (Nat.div_eq_of_lt (by omega)), lsd_lt (by omega), Nat.mod_eq_of_lt (by omega)]
theorem lsd_below {b : Nat} (hb : 2 ≤ b) : ∀ n : Nat, ∀ d ∈ lsd b n, d < b := fun n => by
  induction n using Nat.strongRecOn with
  | ind n ih =>
    intro d hd
    by_cases h : b ≤ n
    · rw [lsd_ge hb h] at hd
      rcases List.mem_cons.mp hd with rfl | hd
      · exact Nat.mod_lt _ (by omega)
      · exact ih (n / b) (Nat.div_lt_self (by omega) (by omega)) d hd
    · rw [lsd_lt (by omega)] at hd
      cases List.mem_singleton.mp hd
      omega
theorem lsd_ne {b n : Nat} : lsd b n ≠ [] := by
  rw [lsd]
  split <;> simp
theorem lsd_len {b : Nat} (hb : 2 ≤ b) : ∀ (k n : Nat), n < b ^ (k + 1) → (k = 0 ∨ b ^ k ≤ n) → (lsd b n).length = k + 1
  | 0, n, h, _ => by
    rw [Nat.zero_add, Nat.pow_one] at h
    rw [lsd_lt h]
    rfl
  | k + 1, n, h, g => by
    have g' : b ^ (k + 1) ≤ n := by
      rcases g with g | g
      · omega
      · exact g
    have p : 0 < b ^ k := Nat.pow_pos (by omega)
    have h1 : b ≤ n := by
      rw [Nat.pow_succ] at g'
      have := Nat.mul_le_mul_right b (show 1 ≤ b ^ k by omega)
      omega
    rw [lsd_ge hb h1, List.length_cons, lsd_len hb k (n / b)]
    · rw [Nat.div_lt_iff_lt_mul (by omega), ← Nat.pow_succ]
      exact h
    · right
      rw [Nat.le_div_iff_mul_le (by omega), ← Nat.pow_succ]
      exact g'
theorem lsd_get {b : Nat} (hb : 2 ≤ b) : ∀ (i n : Nat), i < (lsd b n).length → (lsd b n)[i]? = some (n / b ^ i % b)
  | 0, n, _ => by
    rw [lsd_split hb, Nat.pow_zero, Nat.div_one]
    rfl
  | i + 1, n, h => by
    rw [lsd_split hb] at h ⊢
    split at h
    · simp at h
    · rename_i hr
      rw [if_neg hr, List.getElem?_cons_succ, lsd_get hb i (n / b) (by simpa using h)]
      rw [Nat.div_div_eq_div_mul, Nat.pow_succ, Nat.mul_comm]
theorem lsd_len_le {b : Nat} (hb : 2 ≤ b) : ∀ (k n : Nat), n < 2 ^ (k + 1) → (lsd b n).length ≤ k + 1
  | 0, n, h => by
    rw [lsd_lt (by omega)]
    exact Nat.le_refl _
  | k + 1, n, h => by
    by_cases g : b ≤ n
    · rw [lsd_ge hb g, List.length_cons]
      have : n / b < 2 ^ (k + 1) := by
        rw [Nat.div_lt_iff_lt_mul (by omega)]
        have := Nat.mul_le_mul_left (2 ^ (k + 1)) hb
        rw [Nat.pow_succ] at h
        omega
      have := lsd_len_le hb k (n / b) this
      omega
    · rw [lsd_lt (by omega)]
      show 1 ≤ _
      omega
/-- figures, the greatest place first -/
def figs (b n : Nat) : List Nat := (lsd b n).reverse
theorem figs_len (b n : Nat) : (figs b n).length = (lsd b n).length := List.length_reverse ..
theorem figs_below {b n d : Nat} (hb : 2 ≤ b) (h : d ∈ figs b n) : d < b := lsd_below hb n d (List.mem_reverse.mp h)
theorem figs_le {b n : Nat} (hb : 2 ≤ b) (h : n < 2 ^ 900) : (figs b n).length ≤ 900 := by
  rw [figs_len]
  exact lsd_len_le hb 899 n h
/-! ### steps -/
def stepN (b p n : Nat) : Nat := ((figs b n).map (· ^ p)).sum
theorem sum_le_mul {l : List Nat} {m : Nat} (h : ∀ x ∈ l, x ≤ m) : l.sum ≤ l.length * m := by
  induction l with
  | nil => simp
  | cons a r ih =>
    rw [List.sum_cons, List.length_cons, Nat.succ_mul]
    have h1 := h a (List.mem_cons_self ..)
    have h2 := ih fun x hx => h x (List.mem_cons_of_mem _ hx)
    omega
theorem pow_le_base {d b p : Nat} (h : d < b) : d ^ p ≤ (b - 1) ^ p := Nat.pow_le_pow_left (by omega) p
theorem stepN_le {b p n : Nat} (hb : 2 ≤ b) : stepN b p n ≤ (figs b n).length * (b - 1) ^ p := by
  unfold stepN
  have := sum_le_mul (l := (figs b n).map (· ^ p)) (m := (b - 1) ^ p) fun x hx => by
    obtain ⟨d, hd, rfl⟩ := List.mem_map.mp hx
    exact pow_le_base (figs_below hb hd)
  rwa [List.length_map] at this
theorem worth_lt {b p : Nat} (hb : b ≤ 16) (hp : p ≤ 10) : (b - 1) ^ p < 2 ^ 40 := by
  have h1 : (b - 1) ^ p ≤ 15 ^ p := Nat.pow_le_pow_left (by omega) p
  have h2 : 15 ^ p ≤ 15 ^ 10 := Nat.pow_le_pow_right (by decide) hp
  have h3 : 15 ^ 10 < 2 ^ 40 := by decide
  omega
theorem stepN_lt {b p n : Nat} (hb : 2 ≤ b) (hb16 : b ≤ 16) (hp : p ≤ 10) (hn : n < 2 ^ 900) : stepN b p n < 2 ^ 50 := by
  have h1 := stepN_le (p := p) (n := n) hb
  have h2 := figs_le hb hn
  have h3 := worth_lt hb16 hp
  have h4 : (figs b n).length * (b - 1) ^ p ≤ 900 * 2 ^ 40 := Nat.mul_le_mul h2 (by omega)
  omega
/-- steps again and again -/
def itN (b p n : Nat) : Nat → Nat
  | 0 => n
  | k + 1 => stepN b p (itN b p n k)
theorem itN_lt {b p n : Nat} (hb : 2 ≤ b) (hb16 : b ≤ 16) (hp : p ≤ 10) (hn : n < 2 ^ 900) : ∀ k, itN b p n k < 2 ^ 900
  | 0 => hn
  | k + 1 => by
    have := stepN_lt hb hb16 hp (itN_lt hb hb16 hp hn k)
    have : itN b p n (k + 1) = stepN b p (itN b p n k) := rfl
    have e : (2 : Nat) ^ 50 ≤ 2 ^ 900 := Nat.pow_le_pow_right (by decide) (by decide)
    omega
def rowN (b p n : Nat) : Nat → List Nat
  | 0 => []
  | m + 1 => rowN b p n m ++ [itN b p n m]
theorem rowN_len (b p n : Nat) : ∀ m, (rowN b p n m).length = m
  | 0 => rfl
  | m + 1 => by
    rw [rowN, List.length_append, rowN_len b p n m]
    rfl
end Fx
namespace Fx
/-! ### the law's own figures -/
def powsN (b : Nat) : Nat → List Nat
  | 0 => []
  | k + 1 => powsN b k ++ [b ^ k]
theorem powsN_len (b : Nat) : ∀ k, (powsN b k).length = k
  | 0 => rfl
  | k + 1 => by
    rw [powsN, List.length_append, powsN_len b k]
    rfl
theorem powsN_get (b : Nat) : ∀ k i, i < k → (powsN b k)[i]? = some (b ^ i)
  | 0, _, h => by omega
  | k + 1, i, h => by
    rw [powsN]
    by_cases e : i = k
    · subst e
      rw [List.getElem?_append_right (by rw [powsN_len]; exact Nat.le_refl _), powsN_len, Nat.sub_self]
      rfl
    · rw [List.getElem?_append_left (by rw [powsN_len]; omega)]
      exact powsN_get b k i (by omega)
theorem powsN_rev {b k i : Nat} (h : i < k + 1) : (powsN b (k + 1)).reverse[i]? = some (b ^ (k - i)) := by
  rw [List.getElem?_reverse (by rw [powsN_len]; exact h), powsN_len, powsN_get b (k + 1) _ (by omega)]
  rw [show k + 1 - 1 - i = k - i by omega]
def fndN (b n k i : Nat) : List Nat := (List.range i).map fun t => n / b ^ (k - t) % b
theorem fndN_succ (b n k i : Nat) : fndN b n k (i + 1) = fndN b n k i ++ [n / b ^ (k - i) % b] := by
  unfold fndN
  rw [List.range_succ, List.map_append]
  rfl
theorem fndN_len (b n k i : Nat) : (fndN b n k i).length = i := by
  unfold fndN
  rw [List.length_map, List.length_range]
theorem fndN_all {b n k : Nat} (hb : 2 ≤ b) (h1 : n < b ^ (k + 1)) (h2 : k = 0 ∨ b ^ k ≤ n) : fndN b n k (k + 1) = figs b n := by
  have hl := lsd_len hb k n h1 h2
  refine List.ext_getElem? fun i => ?_
  by_cases hi : i < k + 1
  · unfold figs fndN
    rw [List.getElem?_reverse (by rw [hl]; exact hi), hl, lsd_get hb _ n (by rw [hl]; omega), List.getElem?_map, List.getElem?_range hi]
    have e : k + 1 - 1 - i = k - i := by omega
    rw [e]
    rfl
  · rw [List.getElem?_eq_none (by rw [fndN_len]; omega), List.getElem?_eq_none (by rw [figs_len, hl]; omega)]
theorem fig_div {b n j : Nat} : n % b ^ (j + 1) / b ^ j = n / b ^ j % b := by
  rw [Nat.pow_succ, Nat.mod_mul_right_div_self]
theorem fig_mod {b n j : Nat} : n % b ^ (j + 1) % b ^ j = n % b ^ j := by
  rw [Nat.pow_succ, Nat.mod_mul_right_mod]
theorem lt_pow' {b : Nat} (hb : 2 ≤ b) : ∀ k : Nat, k < b ^ k
  | 0 => by rw [Nat.pow_zero]; decide
  | k + 1 => by
    have := lt_pow' hb k
    rw [Nat.pow_succ]
    have := Nat.mul_le_mul_left (b ^ k) hb
    omega
open L2 in
theorem divN {x : Int} {j : Nat} (h0 : 0 < j) (h : j < 2 ^ 900) : CDivW x (j : Int) := wide_div (b := 900) (by omega) h (by decide) (by decide)
end Fx

namespace Fx
open PySem PySem.Spec PyProof.Rows L2
/-! ### texts of figures -/
/-- the signs of the figures -/
def figCodes : List Nat := [48, 49, 50, 51, 52, 53, 54, 55, 56, 57, 97, 98, 99, 100, 101, 102]
def sg (d : Nat) : Nat := figCodes.getD d 0
abbrev one (c : Nat) : Str := ⟨#[c]⟩
def txt (ds : List Nat) : Str := ⟨(ds.map sg).toArray⟩
abbrev FIG : Str := "0123456789abcdef"
theorem fig_codes : FIG.cps.toList = figCodes := by decide +kernel
theorem fig_len : FIG.length ≤ sizeLine := by decide +kernel
theorem fig_at {d : Nat} (h : d < 16) : atI FIG.cps.toList (d : Int) = some (sg d) := by
  refine atI_nat ?_
  rw [fig_codes]
  have a : ∀ d ∈ List.range 16, figCodes[d]? = some (sg d) := by decide +kernel
  exact a d (List.mem_range.mpr h)
theorem fig_find {d : Nat} (h : d < 16) : Txt.find FIG (one (sg d)) = (d : Int) := by
  have a : ∀ d ∈ List.range 16, Txt.find FIG (one (sg d)) = (d : Int) := by decide +kernel
  exact a d (List.mem_range.mpr h)
theorem sg_inj {d e : Nat} (h : d < 16) (h' : e < 16) (q : sg d = sg e) : d = e := by
  have a : ∀ d ∈ List.range 16, ∀ e ∈ List.range 16, sg d = sg e → d = e := by decide +kernel
  exact a d (List.mem_range.mpr h) e (List.mem_range.mpr h') q
theorem tl_txt (ds : List Nat) : (txt ds).cps.toList = ds.map sg := rfl
theorem txt_len (ds : List Nat) : (txt ds).length = ds.length := by
  show (ds.map sg).toArray.size = _
  rw [List.size_toArray, List.length_map]
theorem txt_at {ds : List Nat} {i : Nat} {d : Nat} (h : ds[i]? = some d) : (txt ds).cps[i]? = some (sg d) := by
  show ((ds.map sg).toArray)[i]? = _
  rw [List.getElem?_toArray, List.getElem?_map, h]
  rfl
theorem txt_atI {ds : List Nat} {i : Nat} {d : Nat} (h : ds[i]? = some d) : atI (txt ds).cps.toList (i : Int) = some (sg d) := by
  refine atI_nat ?_
  rw [tl_txt, List.getElem?_map, h]
  rfl
/-- signs joined -/
theorem joinL_ones : ∀ cs : List Nat, TL.joinL [] (cs.map fun c => [c]) = cs
  | [] => rfl
  | [c] => rfl
  | c :: e :: r => by
    show [c] ++ ([] ++ TL.joinL [] ((e :: r).map fun c => [c])) = _
    rw [joinL_ones (e :: r)]
    rfl
theorem join_ones (cs : List Nat) : Txt.join "" (cs.map one) = ⟨cs.toArray⟩ := by
  rw [TL.join_eq]
  have e : TL.tl (Str.join "" (cs.map one)) = TL.tl ⟨cs.toArray⟩ := by
    rw [TL.tl_join, List.map_map]
    exact joinL_ones cs
  have f : ∀ x y : Str, TL.tl x = TL.tl y → x = y := fun x y h => by
    cases x with
    | mk a =>
      cases y with
      | mk b =>
        have h' : a.toList = b.toList := h
        rw [show a = b from Array.toList_inj.mp h']
  exact f _ _ e
/-- what figures are worth -/
def val (b : Nat) (ds : List Nat) : Nat := ds.foldl (fun a d => a * b + d) 0
theorem val_take {b : Nat} {ds : List Nat} {i d : Nat} (h : ds[i]? = some d) : val b (ds.take (i + 1)) = val b (ds.take i) * b + d := by
  unfold val
  rw [List.take_add_one, h, List.foldl_append]
  rfl
theorem val_figs {b : Nat} (hb : 2 ≤ b) : ∀ n : Nat, val b (figs b n) = n := fun n => by
  induction n using Nat.strongRecOn with
  | ind n ih =>
    by_cases h : b ≤ n
    · have e : figs b n = figs b (n / b) ++ [n % b] := by
        unfold figs
        rw [lsd_ge hb h, List.reverse_cons]
      have i := ih (n / b) (Nat.div_lt_self (by omega) (by omega))
      rw [e]
      unfold val at i ⊢
      rw [List.foldl_append, i]
      show n / b * b + n % b = n
      rw [Nat.mul_comm]
      exact Nat.div_add_mod n b
    · unfold figs
      rw [lsd_lt (by omega)]
      show 0 * b + n = n
      omega
theorem val_lt {b : Nat} (hb : 2 ≤ b) : ∀ ds : List Nat, (∀ d ∈ ds, d < b) → val b ds < b ^ ds.length := fun ds h => by
  have go : ∀ (ds : List Nat) (a k : Nat), (∀ d ∈ ds, d < b) → a < b ^ k → ds.foldl (fun a d => a * b + d) a < b ^ (k + ds.length) := by
    intro ds
    induction ds with
    | nil => intro a k _ h; exact h
    | cons d r ih =>
      intro a k h0 h1
      have hd := h0 d (List.mem_cons_self ..)
      have := ih (a * b + d) (k + 1) (fun e he => h0 e (List.mem_cons_of_mem _ he)) (by
        rw [Nat.pow_succ]
        have := Nat.mul_le_mul_right b (show a + 1 ≤ b ^ k from h1)
        rw [Nat.succ_mul] at this
        omega)
      rw [List.length_cons]
      rw [show k + (r.length + 1) = k + 1 + r.length by omega]
      exact this
  have := go ds 0 0 h (by rw [Nat.pow_zero]; decide)
  rwa [Nat.zero_add] at this
/-- a number's figures: no nought ahead of others -/
theorem figs_head {b : Nat} (hb : 2 ≤ b) : ∀ n : Nat, ∀ d : Nat, (figs b n)[0]? = some d → d = 0 → (figs b n).length = 1 := fun n => by
  induction n using Nat.strongRecOn with
  | ind n ih =>
    intro d hd h0
    by_cases h : b ≤ n
    · have e : figs b n = figs b (n / b) ++ [n % b] := by
        unfold figs
        rw [lsd_ge hb h, List.reverse_cons]
      have hlen : 0 < (figs b (n / b)).length := by
        rw [figs_len]
        exact List.length_pos_iff.mpr lsd_ne
      rw [e, List.getElem?_append_left hlen] at hd
      have l1 := ih (n / b) (Nat.div_lt_self (by omega) (by omega)) d hd h0
      have hq : 0 < n / b := Nat.div_pos h (by omega)
      have ev := val_figs hb (n / b)
      have : ∃ x, figs b (n / b) = [x] := List.length_eq_one_iff.mp l1
      obtain ⟨x, hx⟩ := this
      rw [hx] at hd ev
      have : x = d := Option.some.inj hd
      have ev' : 0 * b + x = n / b := ev
      omega
    · unfold figs
      rw [lsd_lt (by omega)]
      rfl
theorem figs_ne {b n : Nat} : figs b n ≠ [] := fun h => lsd_ne (List.reverse_eq_nil_iff.mp h)
/-- figures that may be read: some, below the base, no nought ahead of others -/
structure Reads (b : Nat) (ds : List Nat) : Prop where
  ne : ds ≠ []
  below : ∀ d ∈ ds, d < b
  head : ∀ d, ds[0]? = some d → d = 0 → ds.length = 1
theorem Reads.figs {b : Nat} (hb : 2 ≤ b) (n : Nat) : Reads b (figs b n) := ⟨figs_ne, fun _ h => figs_below hb h, figs_head hb n⟩
end Fx

namespace Fx
open PySem PySem.Spec PyProof.Rows L2
/-- the greatest power that a base lets -/
def mosts : List Int := [10, 9, 6, 4, 4, 3, 3, 3, 3, 3, 2, 2, 2, 2, 2]
def mostOf (b : Int) : Int := mosts.getD (b - 2).toNat 0
def OkPair (b p : Int) : Prop := 2 ≤ b ∧ b ≤ 16 ∧ 1 ≤ p ∧ p ≤ mostOf b
/-- all of a pair's places, to be shown one by one -/
def pairsAll : List (Int × Int) := (List.range 15).flatMap fun (i : Nat) => (List.range (mosts.getD i 0).toNat).map fun (j : Nat) => (((i : Nat) : Int) + 2, ((j : Nat) : Int) + 1)
theorem OkPair.mem {b p : Int} (h : OkPair b p) : (b, p) ∈ pairsAll := by
  obtain ⟨h1, h2, h3, h4⟩ := h
  refine List.mem_flatMap.mpr ⟨(b - 2).toNat, List.mem_range.mpr (by omega), List.mem_map.mpr ⟨(p - 1).toNat, List.mem_range.mpr ?_, ?_⟩⟩
  · unfold mostOf at h4
    omega
  · show (((b - 2).toNat : Int) + 2, ((p - 1).toNat : Int) + 1) = (b, p)
    rw [Prod.mk.injEq]
    omega
theorem OkPair.all {P : Int → Int → Prop} {b p : Int} (h : OkPair b p) (a : ∀ q ∈ pairsAll, P q.1 q.2) : P b p := a _ h.mem
theorem OkPair.le10 {b p : Int} (h : OkPair b p) : p ≤ 10 := h.all (P := fun _ p => p ≤ 10) (by decide +kernel)
/-- what the greatest figure is worth -/
def worth (b p : Int) : Int := (b - 1) ^ p.toNat
theorem OkPair.worth {b p : Int} (h : OkPair b p) : 1 ≤ worth b p ∧ worth b p ≤ 1000 + 24 := h.all (P := fun b p => 1 ≤ Fx.worth b p ∧ Fx.worth b p ≤ 1024) (by decide +kernel)
theorem most_pos {b : Int} (h1 : 2 ≤ b) (h2 : b ≤ 16) : 1 ≤ mostOf b ∧ mostOf b ≤ 10 := by
  have a : ∀ i ∈ List.range 15, 1 ≤ mosts.getD i 0 ∧ mosts.getD i 0 ≤ 10 := by decide +kernel
  exact a (b - 2).toNat (List.mem_range.mpr (by omega))
theorem most_at {b : Int} (h1 : 2 ≤ b) (h2 : b ≤ 16) : atI (mosts.map V.int) (b - 2) = some (.int (mostOf b)) := by
  have hi : (b - 2).toNat < mosts.length := by
    show (b - 2).toNat < 15
    omega
  have z : (mosts.map V.int)[(b - 2).toNat]? = some (.int (mostOf b)) := by
    rw [List.getElem?_map, List.getElem?_eq_getElem hi]
    unfold mostOf
    rw [List.getD_eq_getElem?_getD, List.getElem?_eq_getElem hi]
    rfl
  have y := atI_nat z
  rw [show (((b - 2).toNat : Nat) : Int) = b - 2 by omega] at y
  exact y
/-- a pair's tuple as it stands -/
def PairAt (H : Hp) (v : V) (b p : Int) : Prop := ∃ a, v = .ref a ∧ H a = some (.tup [.int b, .int p]) ∧ OkPair b p
theorem PairAt.but {H H' : Hp} {d c : Addr} {n : Nat} {v : V} {b p : Int} (h : PairAt H v b p) (D : Deck H d c n) (e : But d H H') : PairAt H' v b p := by
  obtain ⟨a, e1, e2, e3⟩ := h
  exact ⟨a, e1, e.tup D e2, e3⟩
theorem PairAt.same {H H' : Hp} {v : V} {b p : Int} (h : PairAt H v b p) (e : Same H H') : PairAt H' v b p := by
  obtain ⟨a, e1, e2, e3⟩ := h
  exact ⟨a, e1, e _ _ e2, e3⟩
theorem PairAt.upd {H : Hp} {D : Addr} {xs : List V} {o : HO} {v : V} {b p : Int} (h : PairAt H v b p) (e : H D = some (.lst xs)) : PairAt (upd H D o) v b p := by
  obtain ⟨a, e1, e2, e3⟩ := h
  exact ⟨a, e1, by rw [upd_ne (ne_of e2 e fun z => by cases z)]; exact e2, e3⟩
/-- all things of a list are pairs -/
def Pairs (H : Hp) (xs : List V) : Prop := ∀ v ∈ xs, ∃ b p, PairAt H v b p
theorem Pairs.mono {H H' : Hp} {xs : List V} (h : Pairs H xs) (k : ∀ v b p, PairAt H v b p → PairAt H' v b p) : Pairs H' xs := fun v hv => by
  obtain ⟨b, p, q⟩ := h v hv
  exact ⟨b, p, k v b p q⟩
theorem Pairs.app {H : Hp} {xs ys : List V} (h : Pairs H xs) (g : Pairs H ys) : Pairs H (xs ++ ys) := fun v hv => (List.mem_append.mp hv).elim (h v) (g v)
theorem Pairs.rev {H : Hp} {xs : List V} (h : Pairs H xs) : Pairs H xs.reverse := fun v hv => h v (List.mem_reverse.mp hv)
theorem Pairs.one {H : Hp} {v : V} {b p : Int} (h : PairAt H v b p) : Pairs H [v] := fun u hu => by
  cases List.mem_singleton.mp hu
  exact ⟨b, p, h⟩
/-- pairs drawn one by one: n at the start, k draws a pair -/
structure Drawn (H H' : Hp) (d c D : Addr) (n i : Nat) : Prop where
  but : But d H H'
  deck : Deck H' d c (n + 3 * i)
  list : ∃ acc, H' D = some (.lst acc) ∧ acc.length = i ∧ Pairs H' acc
theorem Drawn.next {H H1 H2 : Hp} {d c D p : Addr} {n i : Nat} {b pw : Int} (h : Drawn H H1 d c D n i) (hD : H D = none) (hd : D ≠ d) (hc : D ≠ c) (b1 : But d H1 H2) (D2 : Deck H2 d c (n + 3 * i + 3)) (e : H2 p = some (.tup [.int b, .int pw])) (ok : OkPair b pw) :
    ∃ acc, H2 D = some (.lst acc) ∧ acc.length = i ∧ Drawn H (L2.upd H2 D (.lst (acc ++ [.ref p]))) d c D n (i + 1) := by
  obtain ⟨acc, e1, e2, e3⟩ := h.list
  have e4 : H2 D = some (.lst acc) := b1 _ _ hd e1
  refine ⟨acc, e4, e2, (h.but.trans b1).own hD, D2.off hd hc, acc ++ [.ref p], upd_same, by rw [List.length_append, e2]; rfl, ?_⟩
  refine Pairs.app ?_ (Pairs.one (PairAt.upd ⟨p, rfl, e, ok⟩ e4))
  exact e3.mono fun v b p q => (q.but h.deck b1).upd e4
end Fx

namespace Fx
open PySem PySem.Spec PyProof.Rows L2
/-- a bound of all numbers that are drawn -/
theorem same_step {b s f : Int} {i : Nat} (hb : 2 ≤ b) (h0 : 0 ≤ s) (h1 : s < b ^ i) (f0 : 0 ≤ f) (f1 : f < b) : 0 ≤ b * s + f ∧ b * s + f < b ^ (i + 1) := by
  have e : b ^ (i + 1) = b * b ^ i := by rw [Int.pow_succ, Int.mul_comm]
  have h2 : s + 1 ≤ b ^ i := h1
  have h3 := Int.mul_le_mul_of_nonneg_left h2 (show 0 ≤ b by omega)
  have h4 : 0 ≤ b * s := Int.mul_nonneg (by omega) h0
  rw [Int.mul_add, Int.mul_one] at h3
  rw [e]
  omega
theorem pow_le16 {b : Int} (h0 : 2 ≤ b) (h1 : b ≤ 16) {i : Nat} (hi : i ≤ 40) : b ^ i ≤ 16 ^ 40 := by
  have mono : ∀ n : Nat, b ^ n ≤ 16 ^ n := fun n => by
    induction n with
    | zero => rw [Int.pow_zero, Int.pow_zero]; exact Int.le_refl _
    | succ n ih =>
      rw [Int.pow_succ, Int.pow_succ]
      exact Int.le_trans (Int.mul_le_mul_of_nonneg_right ih (by omega)) (Int.mul_le_mul_of_nonneg_left h1 (Int.le_of_lt (Int.pow_pos (by decide))))
  have up : ∀ n : Nat, (16 : Int) ^ i ≤ 16 ^ (i + n) := fun n => by
    induction n with
    | zero => exact Int.le_refl _
    | succ n ih =>
      rw [← Nat.add_assoc, Int.pow_succ]
      have p : (0 : Int) < 16 ^ (i + n) := Int.pow_pos (by decide)
      omega
  have u := up (40 - i)
  rw [show i + (40 - i) = 40 by omega] at u
  exact Int.le_trans (mono i) u
theorem div_le {x y : Int} (h0 : 0 ≤ x) (h1 : 1 ≤ y) : 0 ≤ x / y ∧ x / y ≤ x := ⟨Int.ediv_nonneg h0 (by omega), Int.ediv_le_self y h0⟩
end Fx

namespace Fx
open PySem PySem.Spec PyProof.Rows L2
/-- the least length from which on numbers go down, w the worth of the greatest figure -/
structure IsLen (b w : Int) (L : Nat) : Prop where
  two : 2 ≤ L
  less : (L : Int) * w < b ^ (L - 1)
  least : ∀ k : Nat, 2 ≤ k → k < L → b ^ (k - 1) ≤ (k : Int) * w
theorem IsLen.uniq {b w : Int} {L M : Nat} (h : IsLen b w L) (g : IsLen b w M) : L = M := by
  rcases Nat.lt_trichotomy L M with l | l | l
  · have := g.least L h.two l
    have := h.less
    omega
  · exact l
  · have := h.least M g.two l
    have := g.less
    omega
theorem pow_mono {a b : Int} (h0 : 0 ≤ a) (h : a ≤ b) : ∀ n : Nat, a ^ n ≤ b ^ n
  | 0 => by rw [Int.pow_zero, Int.pow_zero]; exact Int.le_refl _
  | n + 1 => by
    rw [Int.pow_succ, Int.pow_succ]
    have i := pow_mono h0 h n
    have p : 0 ≤ a ^ n := Int.pow_nonneg h0
    exact Int.le_trans (Int.mul_le_mul_of_nonneg_right i h0) (Int.mul_le_mul_of_nonneg_left h (Int.le_trans p i))
theorem pow_pos {a : Int} (h : 0 < a) (n : Nat) : 0 < a ^ n := Int.pow_pos h
/-- at fifteen figures all is shown -/
theorem len15 {b w : Int} (h : 2 ≤ b) (hw : w ≤ 1024) : (15 : Int) * w < b ^ 14 := by
  have i := pow_mono (a := 2) (b := b) (by decide) h 14
  have e : (2 : Int) ^ 14 = 16384 := by decide
  omega
theorem len_step {b w : Int} {L : Nat} (h : ∀ k : Nat, 2 ≤ k → k < L → b ^ (k - 1) ≤ (k : Int) * w) (t : b ^ (L - 1) ≤ (L : Int) * w) : ∀ k : Nat, 2 ≤ k → k < L + 1 → b ^ (k - 1) ≤ (k : Int) * w := fun k h2 hk => by
  by_cases e : k = L
  · rw [e]
    exact t
  · exact h k h2 (by omega)
theorem len_lt {b w : Int} {L : Nat} (h : 2 ≤ b) (hw : w ≤ 1024) (l : L ≤ 15) (t : b ^ (L - 1) ≤ (L : Int) * w) : L < 15 := by
  by_cases e : L = 15
  · subst e
    have := len15 h hw
    have t' : b ^ 14 ≤ ((15 : Nat) : Int) * w := t
    omega
  · omega
/-- there is one -/
theorem len_ex {b w : Int} (h : 2 ≤ b) (hw : w ≤ 1024) : ∃ L : Nat, IsLen b w L ∧ L ≤ 15 := by
  have go : ∀ k L : Nat, 15 - L = k → 2 ≤ L → L ≤ 15 → (∀ j : Nat, 2 ≤ j → j < L → b ^ (j - 1) ≤ (j : Int) * w) → ∃ L : Nat, IsLen b w L ∧ L ≤ 15 := by
    intro k
    induction k with
    | zero =>
      intro L e l2 l15 ih
      refine ⟨L, ⟨l2, ?_, ih⟩, l15⟩
      obtain rfl : L = 15 := by omega
      exact len15 h hw
    | succ k ihk =>
      intro L e l2 l15 ih
      by_cases t : b ^ (L - 1) ≤ (L : Int) * w
      · exact ihk (L + 1) (by omega) (by omega) (by omega) (len_step ih t)
      · exact ⟨L, ⟨l2, by omega, ih⟩, l15⟩
  exact go 13 2 rfl (by decide) (by decide) fun j _ _ => by omega
end Fx

namespace Fx
/-! ### a step by its last figure, by parts -/
theorem zero_pow' {p : Nat} (h : 1 ≤ p) : 0 ^ p = 0 := Nat.zero_pow (by omega)
theorem stepN_lt_base {b p n : Nat} (h : n < b) : stepN b p n = n ^ p := by
  unfold stepN figs
  rw [lsd_lt h]
  show n ^ p + 0 = _
  omega
theorem stepN_zero {b p : Nat} (hb : 2 ≤ b) (hp : 1 ≤ p) : stepN b p 0 = 0 := by
  rw [stepN_lt_base (by omega), zero_pow' hp]
theorem sum_rev : ∀ l : List Nat, l.reverse.sum = l.sum
  | [] => rfl
  | a :: r => by
    rw [List.reverse_cons, List.sum_append, sum_rev r, List.sum_cons, List.sum_cons, List.sum_nil]
    omega
theorem stepN_lsd (b p n : Nat) : stepN b p n = ((lsd b n).map (· ^ p)).sum := by
  unfold stepN figs
  rw [List.map_reverse, sum_rev]
theorem stepN_rec {b p : Nat} (hb : 2 ≤ b) (hp : 1 ≤ p) (n : Nat) : stepN b p n = stepN b p (n / b) + (n % b) ^ p := by
  by_cases h : b ≤ n
  · rw [stepN_lsd, stepN_lsd, lsd_ge hb h, List.map_cons, List.sum_cons]
    omega
  · rw [stepN_lt_base (by omega), Nat.div_eq_of_lt (by omega), stepN_zero hb hp, Nat.mod_eq_of_lt (by omega)]
    omega
theorem stepN_push {b p x f : Nat} (hb : 2 ≤ b) (hp : 1 ≤ p) (hf : f < b) : stepN b p (x * b + f) = stepN b p x + f ^ p := by
  have e1 : (x * b + f) / b = x := by
    rw [Nat.mul_comm, Nat.mul_add_div (by omega), Nat.div_eq_of_lt hf]
    omega
  have e2 : (x * b + f) % b = f := by
    rw [Nat.mul_comm, Nat.mul_add_mod, Nat.mod_eq_of_lt hf]
  rw [stepN_rec hb hp, e1, e2]
theorem step_split {b p : Nat} (hb : 2 ≤ b) (hp : 1 ≤ p) : ∀ (k y r : Nat), r < b ^ k → stepN b p (y * b ^ k + r) = stepN b p y + stepN b p r
  | 0, y, r, h => by
    rw [Nat.pow_zero] at h
    have : r = 0 := by omega
    subst this
    rw [Nat.pow_zero, Nat.mul_one, stepN_zero hb hp]
    rfl
  | k + 1, y, r, h => by
    have e0 : y * b ^ (k + 1) + r = (y * b ^ k + r / b) * b + r % b := by
      have ep : b ^ k * b = b ^ (k + 1) := by rw [Nat.pow_succ]
      rw [Nat.add_mul, Nat.mul_assoc, ep]
      have := Nat.div_add_mod r b
      rw [Nat.mul_comm] at this
      omega
    have h1 : r / b < b ^ k := by
      rw [Nat.div_lt_iff_lt_mul (by omega), ← Nat.pow_succ]
      exact h
    rw [e0, stepN_push hb hp (Nat.mod_lt _ (by omega)), step_split hb hp k y (r / b) h1, stepN_rec hb hp r]
    omega
/-! ### lengths -/
theorem len_pow {b : Nat} (hb : 2 ≤ b) : ∀ n : Nat, 0 < n → b ^ ((figs b n).length - 1) ≤ n := fun n => by
  induction n using Nat.strongRecOn with
  | ind n ih =>
    intro h0
    by_cases h : b ≤ n
    · have i := ih (n / b) (Nat.div_lt_self (by omega) (by omega)) (Nat.div_pos h (by omega))
      rw [figs_len] at i ⊢
      rw [lsd_ge hb h, List.length_cons]
      have l0 : 0 < (lsd b (n / b)).length := List.length_pos_iff.mpr lsd_ne
      have e : (lsd b (n / b)).length + 1 - 1 = (lsd b (n / b)).length - 1 + 1 := by omega
      rw [e, Nat.pow_succ]
      have := Nat.mul_le_mul_right b i
      have := Nat.div_mul_le_self n b
      omega
    · rw [figs_len, lsd_lt (by omega)]
      exact h0
theorem len_gt {b n k : Nat} (hb : 2 ≤ b) (h : b ^ k ≤ n) : k < (figs b n).length := by
  refine Nat.lt_of_not_le fun z => ?_
  rw [figs_len] at z
  have up : ∀ m : Nat, n < b ^ (lsd b m).length ∨ m ≠ n := fun m => by
    by_cases e : m = n
    · subst e
      have go : ∀ m : Nat, m < b ^ (lsd b m).length := fun m => by
        induction m using Nat.strongRecOn with
        | ind m ih =>
          by_cases g : b ≤ m
          · rw [lsd_ge hb g, List.length_cons, Nat.pow_succ]
            have i := ih (m / b) (Nat.div_lt_self (by omega) (by omega))
            have := Nat.div_add_mod m b
            have := Nat.mod_lt m (show 0 < b by omega)
            have := Nat.mul_le_mul_right b (show m / b + 1 ≤ b ^ (lsd b (m / b)).length from i)
            rw [Nat.succ_mul, Nat.mul_comm (m / b) b] at this
            omega
          · rw [lsd_lt (by omega)]
            show m < b ^ 1
            rw [Nat.pow_one]
            omega
      exact .inl (go m)
    · exact .inr e
  rcases up n with u | u
  · have := Nat.pow_le_pow_right (show 0 < b by omega) z
    omega
  · exact u rfl
/-! ### what goes down -/
/-- the worth of the greatest figure -/
theorem worth_nat (b p : Nat) (hb : 1 ≤ b) : worth (b : Int) (p : Int) = (((b - 1) ^ p : Nat) : Int) := by
  unfold worth
  have e : (b : Int) - 1 = ((b - 1 : Nat) : Int) := by omega
  rw [e, Int.toNat_natCast, Int.natCast_pow]
theorem len_moreN {b w L : Nat} (h1 : L * w < b ^ (L - 1)) (hL : 2 ≤ L) (h2 : 2 ≤ b) : ∀ k : Nat, (L + k) * w < b ^ (L + k - 1)
  | 0 => h1
  | k + 1 => by
    have i := len_moreN h1 hL h2 k
    have e : b ^ (L + (k + 1) - 1) = b ^ (L + k - 1) * b := by
      rw [← Nat.pow_succ]
      congr 1
      omega
    have a1 : (L + (k + 1)) * w = (L + k) * w + w := by
      rw [← Nat.add_assoc, Nat.succ_mul]
    have a2 : w ≤ (L + k) * w := Nat.le_mul_of_pos_left w (by omega)
    have a3 : b ^ (L + k - 1) * 2 ≤ b ^ (L + k - 1) * b := Nat.mul_le_mul_left _ h2
    omega
theorem IsLen.nat {b p L : Nat} (hb : 2 ≤ b) (h : IsLen (b : Int) (worth (b : Int) (p : Int)) L) : L * (b - 1) ^ p < b ^ (L - 1) := by
  have := h.less
  rw [worth_nat b p (by omega), ← Int.natCast_mul, ← Int.natCast_pow] at this
  exact Int.ofNat_lt.mp this
theorem goes_down {b p L n : Nat} (hb : 2 ≤ b) (h : IsLen (b : Int) (worth (b : Int) (p : Int)) L) (hn : b ^ (L - 1) ≤ n) : stepN b p n < n := by
  have h1 := h.nat hb
  have l := len_gt hb hn
  have le := stepN_le (p := p) (n := n) hb
  have m := len_moreN h1 h.two hb ((figs b n).length - L)
  have h2 := h.two
  rw [show L + ((figs b n).length - L) = (figs b n).length by omega] at m
  have n0 : 0 < n := Nat.lt_of_lt_of_le (Nat.pow_pos (by omega)) hn
  have := len_pow hb n n0
  omega
/-- the greatest number whose step is no less -/
structure IsKept (b p G : Nat) : Prop where
  kept : G ≤ stepN b p G
  down : ∀ n, G < n → stepN b p n < n
theorem IsKept.uniq {b p G H : Nat} (h : IsKept b p G) (g : IsKept b p H) : G = H := by
  rcases Nat.lt_trichotomy G H with l | l | l
  · have := h.down H l
    have := g.kept
    omega
  · exact l
  · have := g.down G l
    have := h.kept
    omega
/-! ### place by place -/
def gain (b p j f : Nat) : Int := ((f ^ p : Nat) : Int) - (f : Int) * ((b ^ j : Nat) : Int)
def gainRow (b p j : Nat) : List Int := (List.range b).map (gain b p j)
theorem gainRow_len (b p j : Nat) : (gainRow b p j).length = b := by
  unfold gainRow
  rw [List.length_map, List.length_range]
theorem gainRow_get {b p j f : Nat} (h : f < b) : (gainRow b p j)[f]? = some (gain b p j f) := by
  unfold gainRow
  rw [List.getElem?_map, List.getElem?_range h]
  rfl
def rowMax (b p j : Nat) : Int := (gainRow b p j).max?.getD 0
theorem rowMax_spec {b p j : Nat} (hb : 2 ≤ b) : rowMax b p j ∈ gainRow b p j ∧ ∀ y ∈ gainRow b p j, y ≤ rowMax b p j := by
  unfold rowMax
  cases e : (gainRow b p j).max? with
  | none =>
    rw [List.max?_eq_none_iff] at e
    have := gainRow_len b p j
    rw [e] at this
    have e0 : (0 : Nat) = b := this
    omega
  | some m =>
    exact (List.max?_eq_some_iff).mp e
theorem rowMax_uniq {b p j : Nat} {m : Int} (hb : 2 ≤ b) (h1 : m ∈ gainRow b p j) (h2 : ∀ y ∈ gainRow b p j, y ≤ m) : m = rowMax b p j := by
  have s := rowMax_spec (p := p) (j := j) hb
  have := h2 _ s.1
  have := s.2 _ h1
  omega
theorem gain_le {b p j f : Nat} (hb : 2 ≤ b) (h : f < b) : gain b p j f ≤ rowMax b p j := (rowMax_spec hb).2 _ (List.mem_of_getElem? (gainRow_get h))
def restMax (b p : Nat) : Nat → Int
  | 0 => 0
  | k + 1 => restMax b p k + rowMax b p k
/-- what a number's step has beyond it, its figures at k places behind -/
def over (b p x k : Nat) : Int := (stepN b p x : Int) - (x : Int) * ((b ^ k : Nat) : Int)
theorem over_push {b p x k f : Nat} (hb : 2 ≤ b) (hp : 1 ≤ p) (hf : f < b) : over b p (x * b + f) k = over b p x (k + 1) + gain b p k f := by
  unfold over gain
  rw [stepN_push hb hp hf, Nat.pow_succ]
  simp only [Int.natCast_add, Int.natCast_mul, Int.add_mul, Int.mul_assoc, Int.mul_comm, Int.mul_left_comm]
  omega
theorem over_split {b p k y r : Nat} (hb : 2 ≤ b) (hp : 1 ≤ p) (h : r < b ^ k) : over b p (y * b ^ k + r) 0 = over b p y k + over b p r 0 := by
  unfold over
  rw [step_split hb hp k y r h]
  simp only [Int.natCast_add, Int.natCast_mul, Nat.pow_zero]
  omega
theorem rest_bound {b p : Nat} (hb : 2 ≤ b) (hp : 1 ≤ p) : ∀ k r : Nat, r < b ^ k → over b p r 0 ≤ restMax b p k
  | 0, r, h => by
    rw [Nat.pow_zero] at h
    obtain rfl : r = 0 := by omega
    unfold over restMax
    rw [stepN_zero hb hp]
    simp
  | k + 1, r, h => by
    have e : r / b ^ k < b := by
      rw [Nat.div_lt_iff_lt_mul (Nat.pow_pos (by omega)), Nat.mul_comm, ← Nat.pow_succ]
      exact h
    have e0 : r = r / b ^ k * b ^ k + r % b ^ k := by
      have := Nat.div_add_mod r (b ^ k)
      rw [Nat.mul_comm] at this
      omega
    have lt := Nat.mod_lt r (show 0 < b ^ k from Nat.pow_pos (by omega))
    have i := rest_bound hb hp k (r % b ^ k) lt
    have g := gain_le (p := p) (j := k) hb e
    have z : over b p (r / b ^ k) k = gain b p k (r / b ^ k) := by
      unfold over gain
      rw [stepN_lt_base e]
    rw [e0, over_split hb hp lt, z]
    show _ ≤ restMax b p k + rowMax b p k
    omega
/-- the greatest figures one by one: m places to come, x so far, what is to spare -/
structure Greedy (b p M m x : Nat) (spare : Int) : Prop where
  is : spare = over b p x m + restMax b p m
  pos : 0 ≤ spare
  most : ∀ n, n < b ^ M → n ≤ stepN b p n → n / b ^ m ≤ x
theorem restMax_pos {b p : Nat} (hb : 2 ≤ b) (hp : 1 ≤ p) (k : Nat) : 0 ≤ restMax b p k := by
  have := rest_bound hb hp k 0 (Nat.pow_pos (by omega))
  unfold over at this
  rw [stepN_zero hb hp] at this
  simp at this
  exact this
theorem Greedy.start {b p : Nat} (hb : 2 ≤ b) (hp : 1 ≤ p) (M : Nat) : Greedy b p M M 0 (restMax b p M) := by
  refine ⟨?_, restMax_pos hb hp M, fun n h _ => ?_⟩
  · unfold over
    rw [stepN_zero hb hp]
    simp
  · rw [Nat.div_eq_of_lt h]
    exact Nat.le_refl 0
theorem Greedy.next {b p M m x f : Nat} {spare : Int} (hb : 2 ≤ b) (hp : 1 ≤ p) (g : Greedy b p M (m + 1) x spare) (hf : f < b) (h1 : rowMax b p m - spare ≤ gain b p m f)
    (h2 : ∀ e, e < b → rowMax b p m - spare ≤ gain b p m e → e ≤ f) : Greedy b p M m (x * b + f) (spare - rowMax b p m + gain b p m f) := by
  have gi := g.is
  refine ⟨?_, by omega, fun n hn hk => ?_⟩
  · rw [over_push hb hp hf]
    have : restMax b p (m + 1) = restMax b p m + rowMax b p m := rfl
    omega
  · have y1 := g.most n hn hk
    have ed : n / b ^ (m + 1) = n / b ^ m / b := by rw [Nat.pow_succ, Nat.div_div_eq_div_mul]
    rw [ed] at y1
    generalize hy : n / b ^ m = y at y1 ⊢
    have yy := Nat.div_add_mod y b
    have yl := Nat.mod_lt y (show 0 < b by omega)
    by_cases c : y / b = x
    · have e0 : n = y * b ^ m + n % b ^ m := by
        have := Nat.div_add_mod n (b ^ m)
        rw [hy, Nat.mul_comm] at this
        omega
      have lt := Nat.mod_lt n (show 0 < b ^ m from Nat.pow_pos (by omega))
      have r1 := rest_bound hb hp m (n % b ^ m) lt
      have o1 : 0 ≤ over b p n 0 := by
        unfold over
        simp only [Nat.pow_zero]
        omega
      rw [e0, over_split hb hp lt] at o1
      have ey : y = x * b + y % b := by
        rw [← c, Nat.mul_comm]
        exact yy.symm
      rw [ey, over_push hb hp yl] at o1
      have rm : restMax b p (m + 1) = restMax b p m + rowMax b p m := rfl
      have := h2 (y % b) yl (by omega)
      rw [ey]
      omega
    · have : y / b + 1 ≤ x := by omega
      have := Nat.mul_le_mul_right b this
      rw [Nat.succ_mul, Nat.mul_comm (y / b) b] at this
      omega
theorem Greedy.done {b p L x : Nat} {spare : Int} (hb : 2 ≤ b) (h : IsLen (b : Int) (worth (b : Int) (p : Int)) L) (g : Greedy b p (L - 1) 0 x spare) : IsKept b p x := by
  have gi := g.is
  have gp := g.pos
  refine ⟨?_, fun n hn => ?_⟩
  · have : restMax b p 0 = 0 := rfl
    unfold over at gi
    simp only [Nat.pow_zero] at gi
    omega
  · by_cases c : n < b ^ (L - 1)
    · refine Nat.lt_of_not_le fun z => ?_
      have := g.most n c z
      rw [Nat.pow_zero, Nat.div_one] at this
      omega
    · exact goes_down hb h (by omega)
/-- no number from here on but goes down -/
theorem down_from {b p M n : Nat} (hb : 2 ≤ b) (h : IsLen (b : Int) (worth (b : Int) (p : Int)) M) (hn : (M - 1) * (b - 1) ^ p < n) : stepN b p n < n := by
  by_cases c : b ^ (M - 1) ≤ n
  · exact goes_down hb h c
  · have l := len_pow hb n (by omega)
    have k : (figs b n).length - 1 < M - 1 := by
      refine Nat.lt_of_not_le fun z => ?_
      have := Nat.pow_le_pow_right (show 0 < b by omega) z
      omega
    have le := stepN_le (p := p) (n := n) hb
    have := Nat.mul_le_mul_right ((b - 1) ^ p) (show (figs b n).length ≤ M - 1 by omega)
    omega
/-- a step that can be reckoned -/
def stepF (b p : Nat) : Nat → Nat → Nat
  | 0, _ => 0
  | k + 1, n => stepF b p k (n / b) + (n % b) ^ p
theorem stepF_eq {b p : Nat} (hb : 2 ≤ b) (hp : 1 ≤ p) : ∀ k n : Nat, n < b ^ k → stepF b p k n = stepN b p n
  | 0, n, h => by
    rw [Nat.pow_zero] at h
    obtain rfl : n = 0 := by omega
    rw [stepN_zero hb hp]
    rfl
  | k + 1, n, h => by
    rw [stepN_rec hb hp n, ← stepF_eq hb hp k (n / b)]
    · rfl
    · rw [Nat.div_lt_iff_lt_mul (by omega), ← Nat.pow_succ]
      exact h
end Fx

namespace Fx
open PySem PySem.Spec PyProof.Rows L2
/-! ### a < b of data; a walk over a list or a tuple -/
def rLtD (K : PySem.W.Frag) : R2 := fun x y H Q => ∃ d e, Dp K H x d ∧ Dp K H y e ∧ PySem.W.alike d e = true ∧ d ≠ .none ∧ d.depth ≤ 60 ∧ Q (.bl (PySem.W.dataLt d e)) H
theorem op_ltD {X : Cx} (hu : X.A.units + 64 < cLine) : OpR X (compareOp .Lt) (rLtD X.K) := by
  intro pins s σ H x y v u Q I rx ry h
  obtain ⟨d, e, hd, he, al, nn, dp, q⟩ := h
  obtain ⟨as, r1⟩ := Dp.reads I d x v hd rx
  obtain ⟨bs, r2⟩ := Dp.reads I e y u he ry
  have hm : min d.depth e.depth ≤ d.depth := Nat.min_le_left _ _
  exact PySem.W.lt_data r1 r2 al nn (by omega) ⟨.bl _, H, I, rfl, q⟩
theorem pi_or {X : Cx} {tg e : Expr} {w1 w2 : TI} (h1 : PI X tg e w1) (h2 : PI X tg e w2) : PI X tg e (fun σ H R => w1 σ H R ∨ w2 σ H R) :=
  ⟨fun pins s σ H R I h => h.elim (h1.run pins s σ H R I) (h2.run pins s σ H R I)⟩
/-! ### lists without one place -/
theorem ixN_of {n j : Nat} (h : j < n) : ixN n (j : Int) = some j := by
  unfold ixN
  rw [if_pos (by omega), if_pos (by omega)]
  simp
theorem seq_of {n j : Nat} (h : j < n) : seqIndex? (j : Int) n = some j := (ixN_seq (ixN_of h)).1
theorem erase_sum : ∀ {l : List Nat} {k : Nat} {d : Nat} (f : Nat → Nat), l[k]? = some d → ((l.eraseIdx k).map f).sum + f d = (l.map f).sum
  | [], _, _, _, h => by simp at h
  | a :: r, 0, d, f, h => by
    cases Option.some.inj h
    show (r.map f).sum + f a = (f a :: r.map f).sum
    rw [List.sum_cons]
    omega
  | a :: r, k + 1, d, f, h => by
    have ih := erase_sum (l := r) (k := k) (d := d) f h
    show ((f a) :: (r.eraseIdx k).map f).sum + f d = (f a :: r.map f).sum
    rw [List.sum_cons, List.sum_cons]
    omega
theorem ivs_erase : ∀ (l : List Nat) (k : Nat), (ivs l).eraseIdx k = ivs (l.eraseIdx k)
  | [], _ => rfl
  | _ :: _, 0 => rfl
  | a :: r, k + 1 => by
    show V.int (a : Int) :: (ivs r).eraseIdx k = V.int (a : Int) :: ivs (r.eraseIdx k)
    rw [ivs_erase r k]
/-! ### steps of what figures are worth -/
theorem step_val {b p : Nat} (hb : 2 ≤ b) (hp : 1 ≤ p) (ds : List Nat) (h : ∀ d ∈ ds, d < b) : stepN b p (val b ds) = (ds.map (· ^ p)).sum := by
  have go : ∀ (ds : List Nat) (a : Nat), (∀ d ∈ ds, d < b) → stepN b p (ds.foldl (fun a d => a * b + d) a) = stepN b p a + (ds.map (· ^ p)).sum := by
    intro ds
    induction ds with
    | nil => intro a _; rfl
    | cons d r ih =>
      intro a h
      show stepN b p (r.foldl (fun a d => a * b + d) (a * b + d)) = _
      rw [ih (a * b + d) (fun e he => h e (List.mem_cons_of_mem _ he)), stepN_push hb hp (h d (List.mem_cons_self ..)), List.map_cons, List.sum_cons]
      omega
  have := go ds 0 h
  rw [stepN_zero hb hp, Nat.zero_add] at this
  exact this
theorem val_lt900 {b : Nat} (hb : 2 ≤ b) (hb16 : b ≤ 16) {ds : List Nat} (h : ∀ d ∈ ds, d < b) (hl : ds.length ≤ 200) : val b ds < 2 ^ 900 := by
  have h1 := val_lt hb ds h
  have h2 : b ^ ds.length ≤ b ^ 200 := Nat.pow_le_pow_right (by omega) hl
  have h3 : b ^ 200 ≤ 16 ^ 200 := Nat.pow_le_pow_left hb16 200
  have h4 : (16 : Nat) ^ 200 = 2 ^ 800 := by
    rw [show (16 : Nat) = 2 ^ 4 by decide, ← Nat.pow_mul]
  have h5 : (2 : Nat) ^ 800 ≤ 2 ^ 900 := Nat.pow_le_pow_right (by decide) (by decide)
  omega
theorem val_append {b : Nat} (ds es : List Nat) : val b (ds ++ es) = val b ds * b ^ es.length + val b es := by
  have go : ∀ (es : List Nat) (a : Nat), es.foldl (fun a d => a * b + d) a = a * b ^ es.length + val b es := by
    intro es
    induction es with
    | nil =>
      intro a
      show a = a * b ^ 0 + 0
      rw [Nat.pow_zero]
      omega
    | cons d r ih =>
      intro a
      show r.foldl (fun a d => a * b + d) (a * b + d) = _
      rw [ih (a * b + d)]
      have e : val b (d :: r) = d * b ^ r.length + val b r := by
        show r.foldl (fun a d => a * b + d) (0 * b + d) = _
        rw [ih (0 * b + d), Nat.zero_mul, Nat.zero_add]
      rw [e, List.length_cons, Nat.pow_succ, Nat.add_mul, Nat.mul_assoc, Nat.mul_comm b]
      omega
  unfold val
  rw [List.foldl_append]
  exact go es _
theorem val_cons {b d : Nat} (r : List Nat) : val b (d :: r) = d * b ^ r.length + val b r := by
  have := val_append (b := b) [d] r
  rw [show val b [d] = d by show 0 * b + d = d; omega] at this
  exact this
/-! ### the order of texts is that of numbers -/
theorem sg_lt {d e : Nat} (h : d < 16) (h' : e < 16) : sg d < sg e ↔ d < e := by
  have a : ∀ d ∈ List.range 16, ∀ e ∈ List.range 16, (sg d < sg e ↔ d < e) := by decide +kernel
  exact a d (List.mem_range.mpr h) e (List.mem_range.mpr h')
theorem lex_val {b : Nat} (hb : 2 ≤ b) (hb16 : b ≤ 16) : ∀ ds es : List Nat, ds.length = es.length → (∀ d ∈ ds, d < b) → (∀ d ∈ es, d < b) → (ds.map sg < es.map sg ↔ val b ds < val b es)
  | [], [], _, _, _ => by
    constructor
    · intro h; exact absurd h (List.not_lt_nil _)
    · intro h; exact absurd h (Nat.lt_irrefl _)
  | [], _ :: _, h, _, _ => by simp at h
  | _ :: _, [], h, _, _ => by simp at h
  | d :: ds, e :: es, hl, h1, h2 => by
    have hl' : ds.length = es.length := by simpa using hl
    have hd := h1 d (List.mem_cons_self ..)
    have he := h2 e (List.mem_cons_self ..)
    have i1 : ∀ x ∈ ds, x < b := fun x hx => h1 x (List.mem_cons_of_mem _ hx)
    have i2 : ∀ x ∈ es, x < b := fun x hx => h2 x (List.mem_cons_of_mem _ hx)
    have ih := lex_val hb hb16 ds es hl' i1 i2
    have v1 := val_lt hb ds i1
    have v2 := val_lt hb es i2
    rw [List.map_cons, List.map_cons, List.cons_lt_cons_iff, ih, sg_lt (by omega) (by omega), val_cons, val_cons, hl']
    rw [hl'] at v1
    constructor
    · rintro (h | ⟨h, g⟩)
      · have := Nat.mul_le_mul_right (b ^ es.length) (show d + 1 ≤ e from h)
        rw [Nat.succ_mul] at this
        omega
      · have := sg_inj (by omega) (by omega) h
        subst this
        omega
    · intro h
      by_cases c : d < e
      · exact .inl c
      · right
        have de : d = e := by
          refine Nat.le_antisymm (Nat.le_of_not_lt fun z => ?_) (by omega)
          have := Nat.mul_le_mul_right (b ^ es.length) (show e + 1 ≤ d from z)
          rw [Nat.succ_mul] at this
          omega
        subst de
        exact ⟨rfl, by omega⟩
theorem len_lt_num {b n m : Nat} (hb : 2 ≤ b) (h : (figs b n).length < (figs b m).length) : n < m := by
  have l0 : 0 < (figs b n).length := List.length_pos_iff.mpr figs_ne
  have h1 := val_lt hb (figs b n) fun d hd => figs_below hb hd
  rw [val_figs hb] at h1
  have m0 : 0 < m := by
    refine Nat.pos_of_ne_zero fun z => ?_
    subst z
    rw [figs_len b 0, lsd_lt (by omega)] at h
    have : [0].length = 1 := rfl
    omega
  have h2 := len_pow hb m m0
  have := Nat.pow_le_pow_right (show 0 < b by omega) (show (figs b n).length ≤ (figs b m).length - 1 by omega)
  omega
theorem txt_inj {b n m : Nat} (hb : 2 ≤ b) (hb16 : b ≤ 16) (h : txt (figs b n) = txt (figs b m)) : n = m := by
  have e := congrArg (fun x : Str => x.cps.toList) h
  have e' : (figs b n).map sg = (figs b m).map sg := e
  have l : (figs b n).length = (figs b m).length := by
    have := congrArg List.length e'
    simpa using this
  rcases Nat.lt_trichotomy n m with c | c | c
  · have := (lex_val hb hb16 _ _ l (fun d hd => figs_below hb hd) (fun d hd => figs_below hb hd)).mpr (by rw [val_figs hb, val_figs hb]; exact c)
    rw [e'] at this
    exact absurd this (List.lt_irrefl _)
  · exact c
  · have := (lex_val hb hb16 _ _ l.symm (fun d hd => figs_below hb hd) (fun d hd => figs_below hb hd)).mpr (by rw [val_figs hb, val_figs hb]; exact c)
    rw [e'] at this
    exact absurd this (List.lt_irrefl _)
/-- (its length, its text), as data -/
def lenTxt (ds : List Nat) : PyData := .tuple [.int (ds.length : Int), .str (txt ds)]
theorem lenTxt_lt {b n m : Nat} (hb : 2 ≤ b) (hb16 : b ≤ 16) : PySem.W.dataLt (lenTxt (figs b n)) (lenTxt (figs b m)) = decide ((n : Int) < (m : Int)) := by
  unfold lenTxt
  rw [PySem.W.dataLt_tuple]
  by_cases c : (figs b n).length = (figs b m).length
  · rw [PySem.W.dataLt_all_yes (by rfl) (by rw [c]; simp [PyData.eqv])]
    by_cases d : txt (figs b n) = txt (figs b m)
    · have nm := txt_inj hb hb16 d
      subst nm
      rw [decide_eq_false (Int.lt_irrefl _)]
      rw [PySem.W.dataLt_all_yes (by rfl) (by simp [PyData.eqv])]
      decide +kernel
    · rw [PySem.W.dataLt_all_no (by rfl) (by simp [PyData.eqv, d]), PySem.W.dataLt_str]
      rw [decide_eq_decide, tl_txt, tl_txt, lex_val hb hb16 _ _ c (fun d hd => figs_below hb hd) (fun d hd => figs_below hb hd), val_figs hb, val_figs hb]
      omega
  · rw [PySem.W.dataLt_all_no (by rfl) (by simp [PyData.eqv]; omega), PySem.W.dataLt_int, decide_eq_decide]
    constructor
    · intro h
      have := len_lt_num hb (n := n) (m := m) (by omega)
      omega
    · intro h
      refine Int.ofNat_lt.mpr (Nat.lt_of_le_of_ne (Nat.le_of_not_lt fun z => ?_) c)
      have := len_lt_num hb z
      omega
end Fx

namespace Fx
open PySem PySem.Spec PyProof.Rows L2
/-- a pair's numbers as naturals -/
theorem OkPair.nat {b p : Int} (h : OkPair b p) : ∃ b' p' : Nat, b = (b' : Int) ∧ p = (p' : Int) ∧ 2 ≤ b' ∧ b' ≤ 16 ∧ 1 ≤ p' ∧ p' ≤ 10 := by
  obtain ⟨h1, h2, h3, h4⟩ := id h
  have h5 := h.le10
  exact ⟨b.toNat, p.toNat, by omega, by omega, by omega, by omega, by omega, by omega⟩
/-- a number with a pair and how many are asked -/
def QuadAt (H : Hp) (v : V) : Prop := ∃ (a : Addr) (n b p m : Nat), v = .ref a ∧ H a = some (.tup [.int (n : Int), .int (b : Int), .int (p : Int), .int (m : Int)]) ∧ 2 ≤ b ∧ b ≤ 16 ∧ p ≤ 10 ∧ n < 16 ^ 40 ∧ m ≤ 60
theorem QuadAt.mono {H H' : Hp} {v : V} (h : QuadAt H v) (k : ∀ a xs, H a = some (.tup xs) → H' a = some (.tup xs)) : QuadAt H' v := by
  obtain ⟨a, n, b, p, m, e1, e2, r⟩ := h
  exact ⟨a, n, b, p, m, e1, k _ _ e2, r⟩
theorem lt900 {n : Nat} (h : n < 16 ^ 40) : n < 2 ^ 900 := Nat.lt_of_lt_of_le h (by
  have e : (16 : Nat) ^ 40 = 2 ^ 160 := by decide
  rw [e]
  exact Nat.pow_le_pow_right (by decide) (by decide))
end Fx

namespace Fx
/-! ### rows come down -/
theorem figs_len_lt {b n k : Nat} (hb : 2 ≤ b) (hk : 1 ≤ k) (h : n < b ^ k) : (figs b n).length ≤ k := by
  by_cases h0 : n = 0
  · subst h0
    rw [figs_len, lsd_lt (by omega)]
    exact hk
  · have l := len_pow hb n (by omega)
    refine Nat.le_of_not_lt fun z => ?_
    have := Nat.pow_le_pow_right (show 0 < b by omega) (show k ≤ (figs b n).length - 1 by omega)
    omega
theorem step_le_len {b p n k : Nat} (hb : 2 ≤ b) (h : (figs b n).length ≤ k) : stepN b p n ≤ k * (b - 1) ^ p := Nat.le_trans (stepN_le hb) (Nat.mul_le_mul_right _ h)
theorem down_one {b p L n k : Nat} (hb : 2 ≤ b) (h : IsLen (b : Int) (worth (b : Int) (p : Int)) L) (hn : n ≤ max (L - 1) k * (b - 1) ^ p) : stepN b p n ≤ max (L - 1) (k - 1) * (b - 1) ^ p := by
  have h1 := h.nat hb
  have h2 := h.two
  by_cases c : k ≤ L - 1
  · have e : max (L - 1) k = L - 1 := by omega
    rw [e] at hn
    refine step_le_len hb (figs_len_lt hb (by omega) ?_)
    have : n < b ^ (L - 1) := by
      have := Nat.mul_le_mul_right ((b - 1) ^ p) (show L - 1 ≤ L by omega)
      omega
    exact Nat.lt_of_lt_of_le this (Nat.pow_le_pow_right (by omega) (by omega))
  · have e : max (L - 1) k = k := by omega
    rw [e] at hn
    have m := len_moreN h1 h2 hb (k - L)
    rw [show L + (k - L) = k by omega] at m
    exact step_le_len hb (figs_len_lt hb (by omega) (Nat.lt_of_lt_of_le (show n < b ^ (k - 1) by omega) (Nat.pow_le_pow_right (by omega) (by omega))))
theorem row_down {b p L n : Nat} (hb : 2 ≤ b) (h : IsLen (b : Int) (worth (b : Int) (p : Int)) L) (hw : (b - 1) ^ p ≤ 1024) (hn : n < 2 ^ 160) : ∀ i, itN b p n (i + 2) ≤ max (L - 1) (18 - i) * (b - 1) ^ p
  | 0 => by
    have f1 : (figs b n).length ≤ 160 := by
      rw [figs_len]
      exact lsd_len_le hb 159 n hn
    have s1 : itN b p n 1 ≤ 160 * (b - 1) ^ p := step_le_len hb f1
    have s2 : itN b p n 1 < 2 ^ 18 := by
      have := Nat.mul_le_mul_left 160 hw
      omega
    have f2 : (figs b (itN b p n 1)).length ≤ 18 := by
      rw [figs_len]
      exact lsd_len_le hb 17 _ s2
    show stepN b p (itN b p n 1) ≤ _
    exact Nat.le_trans (step_le_len hb f2) (Nat.mul_le_mul_right _ (by omega))
  | i + 1 => by
    have ih := row_down hb h hw hn i
    have := down_one hb h ih
    rw [show 18 - (i + 1) = 18 - i - 1 by omega]
    exact this
theorem row_late {b p L n i : Nat} (hb : 2 ≤ b) (h : IsLen (b : Int) (worth (b : Int) (p : Int)) L) (hw : (b - 1) ^ p ≤ 1024) (hn : n < 2 ^ 160) (hi : 20 ≤ i) : itN b p n i ≤ (L - 1) * (b - 1) ^ p := by
  have := row_down hb h hw hn (i - 2)
  rw [show i - 2 + 2 = i by omega, show max (L - 1) (18 - (i - 2)) = L - 1 by omega] at this
  exact this
theorem rowN_get (b p n : Nat) : ∀ m i, i < m → (rowN b p n m)[i]? = some (itN b p n i)
  | 0, _, h => by omega
  | m + 1, i, h => by
    rw [rowN]
    by_cases e : i = m
    · subst e
      rw [List.getElem?_append_right (by rw [rowN_len]; exact Nat.le_refl _), rowN_len, Nat.sub_self]
      rfl
    · rw [List.getElem?_append_left (by rw [rowN_len]; omega)]
      exact rowN_get b p n m i (by omega)
theorem kept_lt {b p L G : Nat} (hb : 2 ≤ b) (h : IsLen (b : Int) (worth (b : Int) (p : Int)) L) (g : IsKept b p G) : G < b ^ (L - 1) := by
  refine Nat.lt_of_not_le fun z => ?_
  have := goes_down hb h z
  have := g.kept
  omega
end Fx

namespace Fx
open PySem PySem.Spec PyProof.Rows L2
def topS (i : Nat) : Stmt := PySem.Challenge.pw_figurerounds_k04_whole_numbers_and_steps.main.body.getD i (.Pass ⟨0, 0, 0, 0⟩)
abbrev s_read_number : Stmt := topS 5
theorem sc_read_number : FnScope ["text", "base", "number", "place", "sign", "figure"] ["text", "base"] (defScope s_read_number) := ⟨rfl, rfl, rfl, by decide +kernel, rfl, by decide +kernel, by decide +kernel⟩
abbrev s_figures_of : Stmt := topS 7
theorem sc_figures_of : FnScope ["number", "base", "figures", "rest"] ["number", "base"] (defScope s_figures_of) := ⟨rfl, rfl, rfl, by decide +kernel, rfl, by decide +kernel, by decide +kernel⟩
abbrev s_number_shown : Stmt := topS 6
theorem sc_number_shown : FnScope ["number", "base", "figure"] ["number", "base"] (defScope s_number_shown) := ⟨rfl, rfl, rfl, by decide +kernel, rfl, by decide +kernel, by decide +kernel⟩
abbrev s_power_of : Stmt := topS 8
theorem sc_power_of : FnScope ["figure", "power", "worth", "_"] ["figure", "power"] (defScope s_power_of) := ⟨rfl, rfl, rfl, by decide +kernel, rfl, by decide +kernel, by decide +kernel⟩
abbrev s_step_of : Stmt := topS 9
theorem sc_step_of : FnScope ["number", "base", "power", "figure"] ["number", "base", "power"] (defScope s_step_of) := ⟨rfl, rfl, rfl, by decide +kernel, rfl, by decide +kernel, by decide +kernel⟩
abbrev s_row_from : Stmt := topS 10
theorem sc_row_from : FnScope ["number", "base", "power", "many", "row", "_"] ["number", "base", "power", "many"] (defScope s_row_from) := ⟨rfl, rfl, rfl, by decide +kernel, rfl, by decide +kernel, by decide +kernel⟩
abbrev s__law_mix : Stmt := topS 12
theorem sc__law_mix : FnScope ["cell", "k", "number"] ["cell", "k"] (defScope s__law_mix) := ⟨rfl, rfl, rfl, by decide +kernel, rfl, by decide +kernel, by decide +kernel⟩
abbrev s__law_deck : Stmt := topS 13
theorem sc__law_deck : FnScope ["script"] ["script"] (defScope s__law_deck) := ⟨rfl, rfl, rfl, by decide +kernel, rfl, by decide +kernel, by decide +kernel⟩
abbrev s__law_next : Stmt := topS 14
theorem sc__law_next : FnScope ["deck", "many", "cell", "found"] ["deck", "many"] (defScope s__law_next) := ⟨rfl, rfl, rfl, by decide +kernel, rfl, by decide +kernel, by decide +kernel⟩
abbrev s__law_pair : Stmt := topS 15
theorem sc__law_pair : FnScope ["deck", "base", "most"] ["deck"] (defScope s__law_pair) := ⟨rfl, rfl, rfl, by decide +kernel, rfl, by decide +kernel, by decide +kernel⟩
abbrev s__law_number : Stmt := topS 16
theorem sc__law_number : FnScope ["deck", "base", "great", "k", "same", "figure", "edge", "some"] ["deck", "base"] (defScope s__law_number) := ⟨rfl, rfl, rfl, by decide +kernel, rfl, by decide +kernel, by decide +kernel⟩
abbrev s__law_of : Stmt := topS 17
theorem sc__law_of : FnScope ["figures", "base", "number", "figure"] ["figures", "base"] (defScope s__law_of) := ⟨rfl, rfl, rfl, by decide +kernel, rfl, by decide +kernel, by decide +kernel⟩
abbrev s__law_shown_right : Stmt := topS 18
theorem sc__law_shown_right : FnScope ["number", "other", "base", "text", "figures", "sign", "beside"] ["number", "other", "base"] (defScope s__law_shown_right) := ⟨rfl, rfl, rfl, by decide +kernel, rfl, by decide +kernel, by decide +kernel⟩
abbrev s__law_steps_right : Stmt := topS 19
theorem sc__law_steps_right : FnScope ["deck", "number", "other", "base", "power", "step", "figures", "mixed", "k", "at", "both"] ["deck", "number", "other", "base", "power"] (defScope s__law_steps_right) := ⟨rfl, rfl, rfl, by decide +kernel, rfl, by decide +kernel, by decide +kernel⟩
abbrev s_law : Stmt := topS 20
theorem sc_law : FnScope ["script", "deck", "turn", "base", "power", "number", "other", "less", "k", "row", "at"] ["script"] (defScope s_law) := ⟨rfl, rfl, rfl, by decide +kernel, rfl, by decide +kernel, by decide +kernel⟩
structure Txt (K : PySem.W.Frag) (mg : Str → Option Value) where
  f_read_number : Addr
  fd_read_number : FuncData
  F_read_number : Fun K "read_number" "read_number" s_read_number f_read_number fd_read_number
  g_read_number : mg "read_number" = some (.ref f_read_number)
  b_read_number : Binds K fd_read_number ["text", "base"] []
  f_figures_of : Addr
  fd_figures_of : FuncData
  F_figures_of : Fun K "figures_of" "figures_of" s_figures_of f_figures_of fd_figures_of
  g_figures_of : mg "figures_of" = some (.ref f_figures_of)
  b_figures_of : Binds K fd_figures_of ["number", "base"] []
  f_number_shown : Addr
  fd_number_shown : FuncData
  F_number_shown : Fun K "number_shown" "number_shown" s_number_shown f_number_shown fd_number_shown
  g_number_shown : mg "number_shown" = some (.ref f_number_shown)
  b_number_shown : Binds K fd_number_shown ["number", "base"] []
  f_power_of : Addr
  fd_power_of : FuncData
  F_power_of : Fun K "power_of" "power_of" s_power_of f_power_of fd_power_of
  g_power_of : mg "power_of" = some (.ref f_power_of)
  b_power_of : Binds K fd_power_of ["figure", "power"] []
  f_step_of : Addr
  fd_step_of : FuncData
  F_step_of : Fun K "step_of" "step_of" s_step_of f_step_of fd_step_of
  g_step_of : mg "step_of" = some (.ref f_step_of)
  b_step_of : Binds K fd_step_of ["number", "base", "power"] []
  f_row_from : Addr
  fd_row_from : FuncData
  F_row_from : Fun K "row_from" "row_from" s_row_from f_row_from fd_row_from
  g_row_from : mg "row_from" = some (.ref f_row_from)
  b_row_from : Binds K fd_row_from ["number", "base", "power", "many"] []
  f__law_mix : Addr
  fd__law_mix : FuncData
  F__law_mix : Fun K "_law_mix" "_law_mix" s__law_mix f__law_mix fd__law_mix
  g__law_mix : mg "_law_mix" = some (.ref f__law_mix)
  b__law_mix : Binds K fd__law_mix ["cell", "k"] []
  f__law_deck : Addr
  fd__law_deck : FuncData
  F__law_deck : Fun K "_law_deck" "_law_deck" s__law_deck f__law_deck fd__law_deck
  g__law_deck : mg "_law_deck" = some (.ref f__law_deck)
  b__law_deck : Binds K fd__law_deck ["script"] []
  f__law_next : Addr
  fd__law_next : FuncData
  F__law_next : Fun K "_law_next" "_law_next" s__law_next f__law_next fd__law_next
  g__law_next : mg "_law_next" = some (.ref f__law_next)
  b__law_next : Binds K fd__law_next ["deck", "many"] []
  f__law_pair : Addr
  fd__law_pair : FuncData
  F__law_pair : Fun K "_law_pair" "_law_pair" s__law_pair f__law_pair fd__law_pair
  g__law_pair : mg "_law_pair" = some (.ref f__law_pair)
  b__law_pair : Binds K fd__law_pair ["deck"] []
  f__law_number : Addr
  fd__law_number : FuncData
  F__law_number : Fun K "_law_number" "_law_number" s__law_number f__law_number fd__law_number
  g__law_number : mg "_law_number" = some (.ref f__law_number)
  b__law_number : Binds K fd__law_number ["deck", "base"] []
  f__law_of : Addr
  fd__law_of : FuncData
  F__law_of : Fun K "_law_of" "_law_of" s__law_of f__law_of fd__law_of
  g__law_of : mg "_law_of" = some (.ref f__law_of)
  b__law_of : Binds K fd__law_of ["figures", "base"] []
  f__law_shown_right : Addr
  fd__law_shown_right : FuncData
  F__law_shown_right : Fun K "_law_shown_right" "_law_shown_right" s__law_shown_right f__law_shown_right fd__law_shown_right
  g__law_shown_right : mg "_law_shown_right" = some (.ref f__law_shown_right)
  b__law_shown_right : Binds K fd__law_shown_right ["number", "other", "base"] []
  f__law_steps_right : Addr
  fd__law_steps_right : FuncData
  F__law_steps_right : Fun K "_law_steps_right" "_law_steps_right" s__law_steps_right f__law_steps_right fd__law_steps_right
  g__law_steps_right : mg "_law_steps_right" = some (.ref f__law_steps_right)
  b__law_steps_right : Binds K fd__law_steps_right ["deck", "number", "other", "base", "power"] []
  f_law : Addr
  fd_law : FuncData
  F_law : Fun K "law" "law" s_law f_law fd_law
  g_law : mg "law" = some (.ref f_law)
  b_law : Binds K fd_law ["script"] []
  m_enumerate : mg "enumerate" = none
  m_int : mg "int" = none
  m_len : mg "len" = none
  m_list : mg "list" = none
  m_max : mg "max" = none
  m_range : mg "range" = none
  m_sum : mg "sum" = none
  m_tuple : mg "tuple" = none
  t_FIGURES : Tok
  c_FIGURES : mg "FIGURES" = some (.str "0123456789abcdef" t_FIGURES)
section
variable {P : Program} {w : World} {K : PySem.W.Frag} {mg : Str → Option Value} {base : Heap}
/-! ### read_number -/
def sp_read_number (K : PySem.W.Frag) : Sp := fun vs H Q _ => ∃ (ds : List Nat) (b : Nat), vs = [.str (txt ds), .int (b : Int)] ∧ 2 ≤ b ∧ b ≤ 16 ∧ Reads b ds ∧ ds.length ≤ 900 ∧ ∀ H', Same H H' → Q (.int (val b ds : Nat)) H'
theorem txt_ne {ds : List Nat} (h : ds ≠ []) : txt ds ≠ ("" : Str) := fun e => by
  have e1 := congrArg (fun x : Str => x.cps.toList.length) e
  have e2 : ("" : Str).cps.toList.length = 0 := by decide +kernel
  simp only [tl_txt, List.length_map, e2] at e1
  exact h (List.length_eq_zero_iff.mp e1)
theorem one_nought {d : Nat} (h : d < 16) (e : V.str (one (sg d)) = V.str ("0" : Str)) : d = 0 := by
  have e0 : ("0" : Str) = one (sg 0) := by decide +kernel
  rw [e0] at e
  injection e with e
  injection e with e
  have e1 := congrArg Array.toList e
  injection e1 with e1 _
  exact sg_inj h (by decide) e1
theorem ok_read_number (T : Txt K mg) : FnOk P w K mg base CX0 1 T.f_read_number T.fd_read_number ["text", "base"] (sp_read_number K) := by
  refine T.F_read_number.ok sc_read_number (fun vs H Q E h => ?_) (fun cdv A outer s H vs Q E hr h => ?_)
  · obtain ⟨_, _, rfl, _⟩ := h
    rfl
  · obtain ⟨ds, b, rfl, hb, hb16, hr, hl, q⟩ := h
    obtain ⟨d0, h0⟩ : ∃ d0, ds[0]? = some d0 := by
      cases ds with
      | nil => exact absurd rfl hr.ne
      | cons x r => exact ⟨x, rfl⟩
    have zl : (txt ds).length ≤ sizeLine := by
      rw [txt_len]
      exact Nat.le_of_lt (small1000 (by omega))
    have d0b := hr.below d0 (List.mem_of_getElem? h0)
    refine ⟨_, (C8.pss_cut (ps_if (PW.pt (pw_or (pt_cmpR op_eq (pv 0) pe_str (nomark _)) (pw_or1 (PW.pt (pw_and (pt_cmpR op_eq (pe_ix ix_str (pv 0) pe_int (fun _ _ => rfl)) pe_str (nomark _)) (pw_and1 (pt_cmpR op_gt (pe_callB (id := "len") call_len_str (by rfl) T.m_len (by decide +kernel) (pa_cons (pv 0) pa_nil)) pe_int (nomark _)))))))) (pss_one ps_never) pss_nil)
      (pss_cons (ps_set (i := 2) sc_read_number.nd rfl (Or.inl rfl) pe_int)
      (pss_cons (ps_for PassesOwn.never rfl (pi_enumS (by rfl) T.m_enumerate (pa_cons (pv 0) pa_nil)) (pg_tup rfl (pgs_cons (pg_name (i := 3) sc_read_number.nd rfl (Or.inl rfl)) (pgs_cons (pg_name (i := 4) sc_read_number.nd rfl (Or.inl rfl)) pgs_nil))) (pss_cons (ps_set (i := 5) sc_read_number.nd rfl (Or.inl rfl) (pe_m1 PySem.F.slot_str_find PySem.F.type_str_find mt_find (pe_glob (v := .str "0123456789abcdef") (by rfl) T.c_FIGURES ⟨_, rfl⟩) (pv 4)))
      (pss_cons (ps_if (PW.pt (pw_or (pt_cmpR op_lt (pv 5) pe_int (nomark _)) (pw_or1 (pt_cmpR op_ge (pv 5) (pv 1) (nomark _))))) (pss_one ps_never) pss_nil)
      (pss_one (ps_set (i := 2) sc_read_number.nd rfl (Or.inl rfl) (pe_op op_add (pe_op op_mul (pv 2) (pv 1)) (pv 5)))))))
      (pss_one (ps_ret (pv 2)))))), ?_⟩
    refine ⟨fun σ' H' => H' = H ∧ σ' = [some (.str (txt ds)), some (.int (b : Int)), none, none, none, none], ?_, ?_⟩
    · refine ⟨_, rfl, rfl, _, rfl, ?_⟩
      rw [decide_eq_false (fun z => txt_ne hr.ne (V.str.inj z))]
      refine iteF ?_
      refine ⟨_, rfl, _, 0, _, rfl, rfl, zl, txt_atI h0, rfl, _, rfl, ite2 (fun e => ?_) (fun e => ?_)⟩
      · have e1 := one_nought (by omega) (of_decide_eq_true e)
        have e2 := hr.head d0 h0 e1
        refine ⟨_, rfl, _, rfl, zl, _, _, rfl, rfl, _, rfl, ?_⟩
        rw [txt_len, e2]
        exact ⟨rfl, rfl⟩
      · exact ⟨rfl, rfl⟩
    · rintro σ' H' ⟨rfl, rfl⟩
      refine ⟨_, rfl, _, rfl, for_it walk_enumS (fun i σ' H1 => Same H' H1 ∧ ∃ y3 y4 y5, σ' = [some (.str (txt ds)), some (.int (b : Int)), some (.int (val b (ds.take i) : Nat)), y3, y4, y5]) ⟨Same.refl _, _, _, _, rfl⟩ (fun _ _ _ _ _ => trivial) ?_ ?_⟩
      · rintro i x σ' H1 H2 hi ⟨s1, y3, y4, y5, rfl⟩ ⟨t, c, rfl, ht, hc, rfl⟩
        have hi' : i < ds.length := by
          have z := txt_len ds
          unfold Str.length at z
          omega
        have hd : ds[i]? = some ds[i] := List.getElem?_eq_getElem hi'
        rw [txt_at hd] at hc
        cases hc
        have db := hr.below _ (List.mem_of_getElem? hd)
        refine ⟨t, _, rfl, .of upd_same, rfl, _, _, rfl, _, _, rfl, rfl, ?_⟩
        refine ⟨⟨_, rfl⟩, _, rfl, FIG, _, rfl, rfl, ?_⟩
        rw [fig_find (by omega)]
        refine ⟨_, rfl, _, _, rfl, rfl, _, rfl, ?_⟩
        rw [decide_eq_false (by omega)]
        refine iteF ?_
        refine ⟨_, rfl, _, rfl, _, _, rfl, rfl, _, rfl, ?_⟩
        rw [decide_eq_false (by omega)]
        refine iteF ?_
        refine ⟨_, rfl, _, rfl, _, _, rfl, rfl, .inr (by omega), _, rfl, _, _, rfl, rfl, s1.trans (Same.new ht), some (.int (i : Nat)), some (.str (one (sg ds[i]))), some (.int (ds[i] : Nat)), ?_⟩
        rw [val_take hd]
        rfl
      · rintro σ' H1 ⟨s1, y3, y4, y5, rfl⟩
        have z := txt_len ds
        unfold Str.length at z
        rw [z, List.take_length]
        exact ⟨_, rfl, q _ s1⟩

/-! ### figures_of -/
def sp_figures_of (K : PySem.W.Frag) : Sp := fun vs H Q _ => ∃ n b : Nat, vs = [.int (n : Int), .int (b : Int)] ∧ 2 ≤ b ∧ b ≤ 16 ∧ n < 2 ^ 900 ∧ ∀ H' p, Same H H' → H p = none → H' p = some (.tup (ivs (figs b n))) → Q (.ref p) H'
def W_figures_of (n b : Nat) (H : Hp) (fl : Addr) (m : Nat) (σ' : L2.St) (H' : Hp) : Prop := ∃ pre : List Nat, σ' = [some (.int (n : Int)), some (.int (b : Int)), some (.ref fl), some (.int (m : Int))] ∧ Same H H' ∧ H' fl = some (.lst (ivs pre)) ∧ pre ++ (if m = 0 then [] else lsd b m) = lsd b n
theorem W_figures_of.len {n b : Nat} {pre : List Nat} {r : Nat} (hb : 2 ≤ b) (hn : n < 2 ^ 900) (h : pre ++ (if r = 0 then [] else lsd b r) = lsd b n) : pre.length ≤ 900 := by
  have h1 := congrArg List.length h
  rw [List.length_append] at h1
  have h2 := lsd_len_le hb 899 n hn
  omega
theorem ok_figures_of (T : Txt K mg) : FnOk P w K mg base CX0 1 T.f_figures_of T.fd_figures_of ["number", "base"] (sp_figures_of K) := by
  refine T.F_figures_of.ok sc_figures_of (fun vs H Q E h => ?_) (fun cdv A outer s H vs Q E hr h => ?_)
  · obtain ⟨_, _, rfl, _⟩ := h
    rfl
  · obtain ⟨n, b, rfl, hb, hb16, hn, q⟩ := h
    have wd : ∀ x : Int, CDivW x (b : Int) := fun x => divW 60 (by omega) (by omega)
    refine ⟨_, (pss_cons (ps_set (i := 2) sc_figures_of.nd rfl (Or.inl rfl) (pe_lst (pa_cons (pe_op op_mod (pv 0) (pv 1)) pa_nil)))
      (pss_cons (ps_set (i := 3) sc_figures_of.nd rfl (Or.inl rfl) (pe_op op_fdivW (pv 0) (pv 1)))
      (pss_cons (ps_while PassesOwn.never (pt_cmpR op_gt (pv 3) pe_int (nomark _)) (pss_cons (ps_expr (pe_bm PySem.F.plainAttrs_list PySem.F.slot_list_append PySem.F.type_list_append mt_append (pv 2) (pa_cons (pe_op op_mod (pv 3) (pv 1)) pa_nil)))
      (pss_one (ps_set (i := 3) sc_figures_of.nd rfl (Or.inl rfl) (pe_op op_fdivW (pv 3) (pv 1))))))
      (pss_one (ps_ret (pe_callTy (T := "tuple") call_tuple_of (by rfl) T.m_tuple (by decide +kernel) (pa_cons (pe_revL (pv 2)) pa_nil))))))), ?_⟩
    refine ⟨_, rfl, _, rfl, _, _, rfl, rfl, by walk_at "p", by show 1 ≤ sizeLine; decide, fun fl hfl => ?_⟩
    generalize g1 : upd H fl _ = H1
    obtain ⟨s1, t1⟩ := new_of g1 hfl
    refine ⟨_, rfl, _, rfl, _, _, rfl, rfl, wd _, ?_⟩
    refine ⟨W_figures_of n b H fl, ⟨n / b, [n % b], rfl, s1, t1, (lsd_split hb).symm⟩, ?_⟩
    rintro r σ' H2 ⟨pre, rfl, s2, t2, e⟩
    have lp := W_figures_of.len hb hn e
    refine ⟨_, rfl, _, _, rfl, rfl, _, rfl, ?_⟩
    by_cases h0 : r = 0
    · subst h0
      rw [if_pos rfl, List.append_nil] at e
      subst e
      refine iteF ?_
      refine ⟨_, rfl, fl, _, rfl, .of t2, fun p3 hp3 => ?_⟩
      generalize g3 : upd H2 p3 _ = H3
      obtain ⟨s3, t3⟩ := new_of g3 hp3
      refine ⟨p3, _, rfl, .inl ⟨.of t3, fun p4 hp4 => ?_⟩⟩
      rw [ivs_reverse]
      exact q _ p4 (s2.trans (s3.trans (Same.new hp4))) (s2.free (s3.free hp4)) upd_same
    · have hr : (0 : Int) < (r : Int) := by omega
      rw [decide_eq_true hr]
      refine iteT ⟨Nx (W_figures_of n b H fl) r, Nx.id, ?_⟩
      refine ⟨_, rfl, .inl ⟨rfl, _, .of t2⟩, _, rfl, _, rfl, _, _, rfl, rfl, by walk_at "p", fl, _, _, rfl, rfl, t2, small1000 (by rw [ivs_length]; omega), ?_⟩
      refine ⟨_, rfl, _, rfl, _, _, rfl, rfl, wd _, ?_⟩
      refine ⟨r / b, Nat.div_lt_self (by omega) (by omega), pre ++ [r % b], rfl, same_own s2 hfl, ?_, ?_⟩
      · rw [upd_same, ivs_append]
        rfl
      · rw [if_neg h0, lsd_split hb] at e
        rw [List.append_assoc]
        exact e

/-! ### number_shown -/
def sp_number_shown (K : PySem.W.Frag) : Sp := fun vs H Q _ => ∃ n b : Nat, vs = [.int (n : Int), .int (b : Int)] ∧ 2 ≤ b ∧ b ≤ 16 ∧ n < 2 ^ 900 ∧ ∀ H', Same H H' → Q (.str (txt (figs b n))) H'
theorem ok_number_shown (T : Txt K mg) : FnOk P w K mg base CX0 2 T.f_number_shown T.fd_number_shown ["number", "base"] (sp_number_shown K) := by
  refine T.F_number_shown.ok sc_number_shown (fun vs H Q E h => ?_) (fun cdv A outer s H vs Q E hr h => ?_)
  · obtain ⟨_, _, rfl, _⟩ := h
    rfl
  · obtain ⟨n, b, rfl, hb, hb16, hn, q⟩ := h
    have fl := figs_le hb hn
    refine ⟨_, (pss_one (ps_ret (pe_join pe_str (pe_lc (own := [("figure", 2)]) (g := (gName 2)) (tt := tYes) rfl sc_number_shown.nd (pi_tup (pe_call (ok_figures_of T) hr (by rfl) T.g_figures_of T.F_figures_of.kp T.b_figures_of .nil pass0 (pa_cons (pv 0) (pa_cons (pv 1) pa_nil)))) (blkOk_by (own := [("figure", 2)]) (N := ["number", "base", "figure"]) (sc := defScope s_number_shown) (by decide +kernel)) (fun _ _ _ _ _ => (pg_name (i := 2) sc_number_shown.nd rfl (Or.inl rfl))) (fun _ _ _ _ _ => pts_nil) (fun _ _ _ _ _ => (pe_ix ix_str (pe_glob (v := .str "0123456789abcdef") (by rfl) T.c_FIGURES ⟨_, rfl⟩) (pv 2) (fun _ _ => rfl))))))), ?_⟩
    refine ⟨⟨_, rfl⟩, ?_⟩
    refine ⟨_, rfl, _, rfl, n, b, rfl, hb, hb16, hn, fun H1 t s1 n1 e1 => ⟨t, rfl, ⟨_, .of e1⟩, fun D hD => ?_⟩⟩
    refine lc_tup (xs := ivs (figs b n)) (fun i H' => Same H1 H' ∧ H' D = some (.lst ((((figs b n).take i).map fun d => one (sg d)).map V.str))) ⟨Same.new hD, upd_same⟩ ?_ ?_ ?_
    · rintro i H' hi ⟨s2, e2⟩
      exact .of (s2 _ _ e1)
    · rintro i x H' hx ⟨s2, e2⟩
      obtain ⟨k, hk, rfl⟩ := ivs_get hx
      have kb := figs_below hb (List.mem_of_getElem? hk)
      have hi : i < (figs b n).length := (List.getElem?_eq_some_iff.mp hk).1
      refine ⟨rfl, _, rfl, _, _, _, rfl, rfl, fig_len, fig_at (by omega), ?_⟩
      refine ⟨_, e2, small1000 ?_, same_own s2 hD, ?_⟩
      · rw [List.length_map, List.length_map, List.length_take]
        omega
      · rw [upd_same, List.take_add_one, hk, List.map_append, List.map_append]
        rfl
    · rintro H' ⟨s2, e2⟩
      rw [ivs_length, List.take_length] at e2
      refine ⟨"", D, (figs b n).map fun d => one (sg d), rfl, rfl, .inl (.of e2), ?_, ?_⟩
      · have e : (((figs b n).map fun d => one (sg d)).map (·.length)).sum ≤ ((figs b n).map fun d => one (sg d)).length * 1 := by
          refine Nat.le_trans (sum_le_mul (m := 1) fun x hx => ?_) ?_
          · obtain ⟨y, hy, rfl⟩ := List.mem_map.mp hx
            obtain ⟨d, hd, rfl⟩ := List.mem_map.mp hy
            exact Nat.le_refl 1
          · rw [List.length_map]
            exact Nat.le_refl _
        have z : ("" : Str).length = 0 := by decide +kernel
        rw [List.length_map] at e ⊢
        rw [z]
        omega
      · have e3 : ((figs b n).map fun d => one (sg d)) = ((figs b n).map sg).map one := by rw [List.map_map]; rfl
        rw [e3, join_ones]
        exact q H' (s1.trans s2)

/-! ### power_of -/
def sp_power_of (K : PySem.W.Frag) : Sp := fun vs H Q _ => ∃ f p : Int, vs = [.int f, .int p] ∧ 0 ≤ p ∧ p < 2 ^ 62 ∧ -(2 ^ 64) < f ∧ f < 2 ^ 64 ∧ Q (.int (f ^ p.toNat)) H
theorem ok_power_of (T : Txt K mg) : FnOk P w K mg base CX0 1 T.f_power_of T.fd_power_of ["figure", "power"] (sp_power_of K) := by
  refine T.F_power_of.ok sc_power_of (fun vs H Q E h => ?_) (fun cdv A outer s H vs Q E hr h => ?_)
  · obtain ⟨_, _, rfl, _⟩ := h
    rfl
  · obtain ⟨f, p, rfl, h0, h1, h2, h3, q⟩ := h
    refine ⟨_, (pss_cons (ps_set (i := 2) sc_power_of.nd rfl (Or.inl rfl) pe_int)
      (pss_cons (ps_for PassesOwn.never rfl (pi_range1 (by rfl) T.m_range (pa_cons (pv 1) pa_nil)) (pg_name (i := 3) sc_power_of.nd rfl (Or.inl rfl)) (pss_one (ps_set (i := 2) sc_power_of.nd rfl (Or.inl rfl) (pe_op op_mul (pv 2) (pv 0)))))
      (pss_one (ps_ret (pv 2))))), ?_⟩
    refine ⟨_, rfl, _, rfl, by omega, by omega, for_range (lo := 0) (n := p.toNat) (fun i σ' H' => H' = H ∧ ∃ y, σ' = [some (.int f), some (.int p), some (.int (f ^ i)), y]) ⟨rfl, none, by rw [Int.pow_zero]; rfl⟩ ?_ ?_⟩
    · rintro i σ' H' hi ⟨rfl, y, rfl⟩
      refine ⟨_, rfl, _, rfl, _, _, rfl, rfl, .inr ⟨h2, h3⟩, rfl, some (.int (0 + i)), ?_⟩
      rw [Int.pow_succ]
      rfl
    · rintro σ' H' ⟨rfl, y, rfl⟩
      exact ⟨_, rfl, q⟩

/-! ### step_of -/
def sp_step_of (K : PySem.W.Frag) : Sp := fun vs H Q _ => ∃ n b p : Nat, vs = [.int (n : Int), .int (b : Int), .int (p : Int)] ∧ 2 ≤ b ∧ b ≤ 16 ∧ p ≤ 10 ∧ n < 2 ^ 900 ∧ ∀ H', Same H H' → Q (.int (stepN b p n : Nat)) H'
theorem ok_step_of (T : Txt K mg) : FnOk P w K mg base CX0 2 T.f_step_of T.fd_step_of ["number", "base", "power"] (sp_step_of K) := by
  refine T.F_step_of.ok sc_step_of (fun vs H Q E h => ?_) (fun cdv A outer s H vs Q E hr h => ?_)
  · obtain ⟨_, _, _, rfl, _⟩ := h
    rfl
  · obtain ⟨n, b, p, rfl, hb, hb16, hp, hn, q⟩ := h
    have fl := figs_le hb hn
    refine ⟨_, (pss_one (ps_ret (pe_callB (id := "sum") (cr_sum rfl) (by rfl) T.m_sum (by decide +kernel) (pa_cons (pe_lc (own := [("figure", 3)]) (g := (gName 3)) (tt := tYes) rfl sc_step_of.nd (pi_tup (pe_call (ok_figures_of T) hr (by rfl) T.g_figures_of T.F_figures_of.kp T.b_figures_of .nil pass0 (pa_cons (pv 0) (pa_cons (pv 1) pa_nil)))) (blkOk_by (own := [("figure", 3)]) (N := ["number", "base", "power", "figure"]) (sc := defScope s_step_of) (by decide +kernel)) (fun _ _ _ _ _ => (pg_name (i := 3) sc_step_of.nd rfl (Or.inl rfl))) (fun _ _ _ _ _ => pts_nil) (fun _ _ _ _ _ => (pe_call (ok_power_of T) hr (by rfl) T.g_power_of T.F_power_of.kp T.b_power_of .nil pass0 (pa_cons (pv 3) (pa_cons (pv 2) pa_nil))))) pa_nil)))), ?_⟩
    refine ⟨_, rfl, _, rfl, n, b, rfl, hb, hb16, hn, fun H1 t s1 n1 e1 => ⟨t, rfl, ⟨_, .of e1⟩, fun D hD => ?_⟩⟩
    refine lc_tup (xs := ivs (figs b n)) (fun i H' => Same H1 H' ∧ H' D = some (.lst (ivs (((figs b n).take i).map (· ^ p))))) ⟨Same.new hD, upd_same⟩ ?_ ?_ ?_
    · rintro i H' hi ⟨s2, e2⟩
      exact .of (s2 _ _ e1)
    · rintro i x H' hx ⟨s2, e2⟩
      obtain ⟨k, hk, rfl⟩ := ivs_get hx
      have kb := figs_below hb (List.mem_of_getElem? hk)
      have hi : i < (figs b n).length := (List.getElem?_eq_some_iff.mp hk).1
      refine ⟨rfl, _, rfl, _, rfl, (k : Int), (p : Int), rfl, by omega, by omega, by omega, by omega, ?_⟩
      refine ⟨_, e2, small1000 ?_, same_own s2 hD, ?_⟩
      · rw [ivs_length, List.length_map, List.length_take]
        omega
      · rw [upd_same, List.take_add_one, hk, List.map_append, ivs_append]
        show some (HO.lst (_ ++ [V.int ((k : Int) ^ p)])) = some (HO.lst (_ ++ [V.int ((k ^ p : Nat) : Int)]))
        rw [Int.natCast_pow]
    · rintro H' ⟨s2, e2⟩
      rw [ivs_length, List.take_length, ivs_map] at e2
      refine ⟨D, _, rfl, .of e2, ?_⟩
      rw [sum_cast]
      exact q H' (s1.trans s2)

/-! ### row_from -/
def sp_row_from (K : PySem.W.Frag) : Sp := fun vs H Q _ => ∃ n b p m : Nat, vs = [.int (n : Int), .int (b : Int), .int (p : Int), .int (m : Int)] ∧ 2 ≤ b ∧ b ≤ 16 ∧ p ≤ 10 ∧ n < 2 ^ 900 ∧ m ≤ 900 ∧ ∀ H' t, Same H H' → H t = none → H' t = some (.tup (ivs (rowN b p n m))) → Q (.ref t) H'
theorem ok_row_from (T : Txt K mg) : FnOk P w K mg base CX0 3 T.f_row_from T.fd_row_from ["number", "base", "power", "many"] (sp_row_from K) := by
  refine T.F_row_from.ok sc_row_from (fun vs H Q E h => ?_) (fun cdv A outer s H vs Q E hr h => ?_)
  · obtain ⟨_, _, _, _, rfl, _⟩ := h
    rfl
  · obtain ⟨n, b, p, m, rfl, hb, hb16, hp, hn, hm, q⟩ := h
    refine ⟨_, (pss_cons (ps_set (i := 4) sc_row_from.nd rfl (Or.inl rfl) (pe_lst pa_nil))
      (pss_cons (ps_for PassesOwn.never rfl (pi_range1 (by rfl) T.m_range (pa_cons (pv 3) pa_nil)) (pg_name (i := 5) sc_row_from.nd rfl (Or.inl rfl)) (pss_cons (ps_expr (pe_bm PySem.F.plainAttrs_list PySem.F.slot_list_append PySem.F.type_list_append mt_append (pv 4) (pa_cons (pv 0) pa_nil)))
      (pss_one (ps_set (i := 0) sc_row_from.nd rfl (Or.inl rfl) (pe_call (ok_step_of T) hr (by rfl) T.g_step_of T.F_step_of.kp T.b_step_of .nil pass0 (pa_cons (pv 0) (pa_cons (pv 1) (pa_cons (pv 2) pa_nil))))))))
      (pss_one (ps_ret (pe_callTy (T := "tuple") call_tuple_of (by rfl) T.m_tuple (by decide +kernel) (pa_cons (pv 4) pa_nil)))))), ?_⟩
    refine ⟨Nat.zero_le _, fun r hr => ?_⟩
    generalize g1 : upd H r _ = H1
    obtain ⟨s1, t1⟩ := new_of g1 hr
    refine ⟨_, rfl, _, rfl, by omega, by omega, for_range (lo := 0) (n := m) (fun i σ' H' => Same H H' ∧ H' r = some (.lst (ivs (rowN b p n i))) ∧ ∃ y, σ' = [some (.int (itN b p n i : Nat)), some (.int (b : Int)), some (.int (p : Int)), some (.int (m : Int)), some (.ref r), y]) ⟨s1, t1, none, rfl⟩ ?_ ?_⟩
    · rintro i σ' H2 hi ⟨s2, t2, y, rfl⟩
      refine ⟨_, rfl, .inl ⟨rfl, _, .of t2⟩, _, rfl, r, _, _, rfl, rfl, t2, small1000 (by rw [ivs_length, rowN_len]; omega), ?_⟩
      have s3 := same_own (o := .lst (ivs (rowN b p n i) ++ [.int (itN b p n i : Nat)])) s2 hr
      refine ⟨_, rfl, _, rfl, _, rfl, itN b p n i, b, p, rfl, hb, hb16, hp, itN_lt hb hb16 hp hn i, fun H4 s4 => ?_⟩
      refine ⟨s3.trans s4, ?_, _, rfl⟩
      rw [s4 _ _ upd_same, rowN, ivs_append]
      rfl
    · rintro σ' H2 ⟨s2, t2, y, rfl⟩
      refine ⟨_, rfl, r, _, rfl, .inl ⟨.of t2, fun t ht => ?_⟩⟩
      exact q _ t (s2.trans (Same.new ht)) (s2.free ht) upd_same

/-! ### _law_mix -/
def sp__law_mix (K : PySem.W.Frag) : Sp := fun vs H Q _ => ∃ c k : Int, vs = [.int c, .int k] ∧ 0 ≤ k ∧ k < 2 ^ 44 ∧ ∀ r : Int, Q (.int r) H
theorem mix_bound {a b : Int} (h : 0 < b) : 0 ≤ a % b ∧ a % b < b := ⟨Int.emod_nonneg _ (by omega), Int.emod_lt_of_pos _ h⟩
theorem ok__law_mix (T : Txt K mg) : FnOk P w K mg base CX0 1 T.f__law_mix T.fd__law_mix ["cell", "k"] (sp__law_mix K) := by
  refine T.F__law_mix.ok sc__law_mix (fun vs H Q E h => ?_) (fun cdv A outer s H vs Q E hr h => ?_)
  · obtain ⟨_, _, rfl, _⟩ := h
    rfl
  · obtain ⟨c, k, rfl, h0, h1, q⟩ := h
    refine ⟨_, (pss_cons (ps_set (i := 2) sc__law_mix.nd rfl (Or.inl rfl) (pe_op op_add (pe_op op_mod (pv 0) pe_int) (pe_op op_mul (pe_op op_mul pe_int (pv 1)) (pv 1))))
      (pss_cons (ps_set (i := 2) sc__law_mix.nd rfl (Or.inl rfl) (pe_op op_mod (pe_op op_add (pv 2) (pe_op op_mul pe_int (pv 1))) pe_int))
      (pss_cons (ps_set (i := 2) sc__law_mix.nd rfl (Or.inl rfl) (pe_op op_mod (pe_op op_mul (pv 2) (pv 2)) pe_int))
      (pss_one (ps_ret (pe_op op_fdivW (pe_op op_mod (pe_op op_mul (pv 2) (pe_op op_add (pv 2) pe_int)) pe_int) pe_int)))))), ?_⟩
    have hk : -(2 ^ 64) < 1000003 * k ∧ 1000003 * k < 2 ^ 64 := by omega
    refine ⟨_, rfl, _, _, rfl, rfl, by walk_at "p", _, rfl, _, _, rfl, rfl, .inl (by decide), _, rfl, _, _, rfl, rfl, .inl hk, _, _, rfl, rfl, ?_⟩
    refine ⟨_, rfl, _, rfl, _, _, rfl, rfl, .inl (by decide), _, _, rfl, rfl, _, _, rfl, rfl, by walk_at "p", ?_⟩
    refine ⟨_, rfl, _, rfl, _, _, rfl, rfl, .inl ?_, _, _, rfl, rfl, by walk_at "p", ?_⟩
    · have b := mix_bound (a := c % 2147483629 + 1000003 * k * k + 7919 * k) (b := 2147483629) (by decide)
      exact ⟨by omega, by omega⟩
    generalize (c % 2147483629 + 1000003 * k * k + 7919 * k) % 2147483629 = n1
    have b := mix_bound (a := n1 * n1) (b := 2147483587) (by decide)
    generalize n1 * n1 % 2147483587 = n2 at b ⊢
    refine ⟨_, rfl, _, rfl, _, _, rfl, rfl, _, _, rfl, rfl, .inl ⟨by omega, by omega⟩, _, _, rfl, rfl, by walk_at "p", _, _, rfl, rfl, ⟨by decide, by decide +kernel⟩, ?_⟩
    exact q _

/-! ### _law_deck -/
def sp__law_deck (K : PySem.W.Frag) : Sp := fun vs H Q _ => ∃ (a : Addr) (ns : List Int), vs = [.ref a] ∧ SqL K H a (ns.map V.int) ∧ ∀ H' d c, Same H H' → H d = none → H c = none → Deck H' d c 0 → Q (.ref d) H'
theorem ok__law_deck (T : Txt K mg) : FnOk P w K mg base CX0 1 T.f__law_deck T.fd__law_deck ["script"] (sp__law_deck K) := by
  refine T.F__law_deck.ok sc__law_deck (fun vs H Q E h => ?_) (fun cdv A outer s H vs Q E hr h => ?_)
  · obtain ⟨_, _, rfl, _⟩ := h
    rfl
  · obtain ⟨a, ns, rfl, hS, q⟩ := h
    refine ⟨_, (pss_one (ps_ret (pe_lst (pa_cons (pe_slice sl_list (pv 0) po_none (po_some pe_int)) (pa_cons pe_int (pa_cons pe_int (pa_cons pe_int (pa_cons (pe_callB (id := "sum") (cr_sum rfl) (by rfl) T.m_sum (by decide +kernel) (pa_cons (pe_slice sl_list (pv 0) po_none (po_some pe_int)) pa_nil)) pa_nil)))))))), ?_⟩
    have ec : cutV (ns.map V.int) none (some 63) = (ns.take 63).map V.int := by
      rw [List.map_take]
      exact cut_to _ 63
    refine ⟨_, rfl, _, rfl, a, _, rfl, hS, fun c hc => ?_⟩
    rw [ec]
    have s1 : Same H (upd H c (.lst ((ns.take 63).map V.int))) := Same.new hc
    refine ⟨_, rfl, _, rfl, a, _, rfl, s1.seq hS, fun e he => ?_⟩
    rw [ec]
    generalize hH1 : upd H c (.lst ((ns.take 63).map V.int)) = H1 at s1 he ⊢
    have s2 : Same H1 (upd H1 e (.lst ((ns.take 63).map V.int))) := Same.new he
    refine ⟨e, _, rfl, .of upd_same, by show 5 ≤ sizeLine; decide, fun d hd => ?_⟩
    generalize hH2 : upd H1 e (.lst ((ns.take 63).map V.int)) = H2 at s2 hd ⊢
    have hc1 : H1 c = some (.lst ((ns.take 63).map V.int)) := by rw [← hH1]; exact upd_same
    have s3 : Same H2 (upd H2 d (.lst [.ref c, .int 0, .int 0, .int 0, .int (ns.take 63).sum])) := Same.new hd
    refine q _ d c (s1.trans (s2.trans s3)) (s1.free (s2.free hd)) hc ⟨ns.take 63, 0, 0, 0, (ns.take 63).sum, upd_same, s3 _ _ (s2 _ _ hc1), ?_⟩
    omega

/-! ### _law_next -/
def sp__law_next (K : PySem.W.Frag) : Sp := fun vs H Q _ => ∃ (d : Addr) (many : Int) (c : Addr) (n : Nat), vs = [.ref d, .int many] ∧ Deck H d c n ∧ n < 2 ^ 40 ∧ 0 < many ∧ many < 2 ^ 200 ∧
  ∀ H' (r : Int), But d H H' → Deck H' d c (n + 1) → 0 ≤ r → r < many → Q (.int r) H'
theorem ok__law_next (T : Txt K mg) : FnOk P w K mg base CX0 2 T.f__law_next T.fd__law_next ["deck", "many"] (sp__law_next K) := by
  refine T.F__law_next.ok sc__law_next (fun vs H Q E h => ?_) (fun cdv A outer s H vs Q E hr h => ?_)
  · obtain ⟨_, _, _, _, rfl, _⟩ := h
    rfl
  · obtain ⟨d, many, c, n, rfl, hD, hn, h0, h9, q⟩ := h
    have hcd := hD.ne
    obtain ⟨ns, i, l, m, t, eD, eC, i0, i1, m0, m1⟩ := hD.ex
    have hw : ∀ x : Int, CDivW x many := fun x => divW 200 h0 h9
    have r0 : ∀ x : Int, 0 ≤ x % many := fun x => Int.emod_nonneg _ (by omega)
    have r1 : ∀ x : Int, x % many < many := fun x => Int.emod_lt_of_pos _ h0
    refine ⟨_, (C8.pss_cut (ps_if (PW.pt (pw_and (pt_cmpR op_eq (pe_ix ix_list (pv 0) pe_int (fun _ _ => rfl)) pe_int (nomark _)) (pw_and1 (pt_cmpR op_lt (pe_ix ix_list (pv 0) pe_int (fun _ _ => rfl)) (pe_callB (id := "len") call_len_seq (by rfl) T.m_len (by decide +kernel) (pa_cons (pe_ix ix_list (pv 0) pe_int (fun _ _ => rfl)) pa_nil)) (nomark _))))) (pss_cons (ps_set (i := 2) sc__law_next.nd rfl (Or.inl rfl) (pe_ix ix_list (pe_ix ix_list (pv 0) pe_int (fun _ _ => rfl)) (pe_ix ix_list (pv 0) pe_int (fun _ _ => rfl)) (fun _ _ => rfl)))
      (pss_cons (ps_asg (pe_op op_add (pe_ix ix_list (pv 0) pe_int (fun _ _ => rfl)) pe_int) (pg_sub (pv 0) pe_int set_list))
      (pss_cons (ps_if (pt_cmpR op_lt (pv 2) (pe_op op_pow pe_int pe_int) (nomark _)) (pss_one (ps_ret (pe_op op_mod (pe_call (ok__law_mix T) hr (by rfl) T.g__law_mix T.F__law_mix.kp T.b__law_mix .nil pass0 (pa_cons (pv 2) (pa_cons (pe_ix ix_list (pv 0) pe_int (fun _ _ => rfl)) pa_nil))) (pv 1)))) pss_nil)
      (pss_one (ps_asg (pv 2) (pg_sub (pv 0) pe_int set_list)))))) pss_nil)
      (pss_cons (ps_if (pt_cmpR op_gt (pe_ix ix_list (pv 0) pe_int (fun _ _ => rfl)) pe_int (nomark _)) (pss_cons (ps_set (i := 3) sc__law_next.nd rfl (Or.inl rfl) (pe_op op_mod (pe_ix ix_list (pv 0) pe_int (fun _ _ => rfl)) (pv 1)))
      (pss_cons (ps_asg (pe_op op_fdivW (pe_ix ix_list (pv 0) pe_int (fun _ _ => rfl)) (pv 1)) (pg_sub (pv 0) pe_int set_list))
      (pss_one (ps_ret (pv 3))))) pss_nil)
      (pss_cons (ps_asg (pe_op op_add (pe_ix ix_list (pv 0) pe_int (fun _ _ => rfl)) pe_int) (pg_sub (pv 0) pe_int set_list))
      (pss_one (ps_ret (pe_op op_mod (pe_call (ok__law_mix T) hr (by rfl) T.g__law_mix T.F__law_mix.kp T.b__law_mix .nil pass0 (pa_cons (pe_ix ix_list (pv 0) pe_int (fun _ _ => rfl)) (pa_cons (pe_op op_add (pe_ix ix_list (pv 0) pe_int (fun _ _ => rfl)) pe_int) pa_nil))) (pv 1))))))), ?_⟩
    refine ⟨fun σ' H1 => ∃ i' l' y, σ' = [some (.ref d), some (.int many), y, none] ∧ But d H H1 ∧ H1 d = some (.lst [.ref c, .int i', .int l', .int m, .int t]) ∧ H1 c = some (.lst (ns.map V.int)) ∧ 0 ≤ i' ∧ i' ≤ i + 1, ?_, ?_⟩
    · -- deck[2] == 0 and deck[1] < len(deck[0])
      refine ⟨_, rfl, d, _, 2, .int l, rfl, rfl, .of eD, atI_nat (j := 2) rfl, rfl, _, rfl, ite2 (fun e => ?_) (fun e => ?_)⟩
      · refine ⟨_, rfl, d, _, 1, .int i, rfl, rfl, .of eD, atI_nat (j := 1) rfl, _, rfl, d, _, 0, .ref c, rfl, rfl, .of eD, atI_nat (j := 0) rfl, c, _, rfl, .inl (.of eC), _, _, rfl, rfl, _, rfl, ite2 (fun e2 => ?_) (fun e2 => ?_)⟩
        · -- cell = deck[0][deck[1]]
          have e3 : i < (ns.length : Int) := by
            have z := of_decide_eq_true e2
            rw [List.length_map] at z
            exact z
          have hi : i.toNat < ns.length := by omega
          have ci : atI (ns.map V.int) i = some (.int ns[i.toNat]) := by
            have z : (ns.map V.int)[i.toNat]? = some (.int ns[i.toNat]) := by
              rw [List.getElem?_map, List.getElem?_eq_getElem hi]
              rfl
            have y := atI_nat z
            rw [show ((i.toNat : Nat) : Int) = i by omega] at y
            exact y
          generalize ns[i.toNat] = cell at ci
          refine ⟨_, rfl, d, _, 0, .ref c, rfl, rfl, .of eD, atI_nat (j := 0) rfl, _, rfl, d, _, 1, .int i, rfl, rfl, .of eD, atI_nat (j := 1) rfl, c, _, i, .int cell, rfl, rfl, .of eC, ci, ?_⟩
          -- deck[1] = deck[1] + 1
          refine ⟨_, rfl, d, _, 1, .int i, rfl, rfl, .of eD, atI_nat (j := 1) rfl, _, _, rfl, rfl, _, rfl, d, _, 1, 1, rfl, rfl, eD, rfl, ?_⟩
          have b1 : But d H (upd H d (.lst [.ref c, .int (i + 1), .int l, .int m, .int t])) := But.set
          have d1 : (upd H d (.lst [.ref c, .int (i + 1), .int l, .int m, .int t])) d = some (.lst [.ref c, .int (i + 1), .int l, .int m, .int t]) := upd_same
          have c1 : (upd H d (.lst [.ref c, .int (i + 1), .int l, .int m, .int t])) c = some (.lst (ns.map V.int)) := by rw [upd_ne hcd]; exact eC
          -- if cell < 10 ** 18
          refine ⟨_, rfl, 10, 18, rfl, rfl, ⟨by decide, by decide, by decide⟩, _, _, rfl, rfl, _, rfl, ite2 (fun e4 => ?_) (fun e4 => ?_)⟩
          · refine ⟨_, rfl, _, rfl, d, _, 1, .int (i + 1), rfl, rfl, .of d1, atI_nat (j := 1) rfl, cell, i + 1, rfl, by omega, by omega, fun r => ?_⟩
            exact ⟨_, rfl, _, _, rfl, rfl, h0, q _ _ b1 ⟨ns, i + 1, l, m, t, d1, c1, by omega, by omega, m0, by omega⟩ (r0 _) (r1 _)⟩
          · refine ⟨_, rfl, _, rfl, d, _, 2, 2, rfl, rfl, d1, rfl, ?_⟩
            refine ⟨i + 1, cell, some (.int cell), rfl, b1.trans But.set, upd_same, ?_, by omega, by omega⟩
            rw [upd_ne hcd]
            exact c1
        · exact ⟨i, l, none, rfl, But.refl _ _, eD, eC, i0, by omega⟩
      · exact ⟨i, l, none, rfl, But.refl _ _, eD, eC, i0, by omega⟩
    · -- if deck[2] > 0
      rintro σ' H1 ⟨i', l', y, rfl, b1, d1, c1, j0, j1⟩
      refine ⟨_, rfl, d, _, 2, .int l', rfl, rfl, .of d1, atI_nat (j := 2) rfl, _, _, rfl, rfl, _, rfl, ite2 (fun e => ?_) (fun e => ?_)⟩
      · refine ⟨_, rfl, d, _, 2, .int l', rfl, rfl, .of d1, atI_nat (j := 2) rfl, _, rfl, _, _, rfl, rfl, h0, ?_⟩
        refine ⟨_, rfl, d, _, 2, .int l', rfl, rfl, .of d1, atI_nat (j := 2) rfl, _, rfl, _, _, rfl, rfl, hw _, _, rfl, d, _, 2, 2, rfl, rfl, d1, rfl, ?_⟩
        refine ⟨_, rfl, q _ _ (b1.trans But.set) ⟨ns, i', l' / many, m, t, upd_same, ?_, j0, by omega, m0, by omega⟩ (r0 _) (r1 _)⟩
        rw [upd_ne hcd]
        exact c1
      · refine ⟨_, rfl, d, _, 3, .int m, rfl, rfl, .of d1, atI_nat (j := 3) rfl, _, _, rfl, rfl, _, rfl, d, _, 3, 3, rfl, rfl, d1, rfl, ?_⟩
        have d2 : (upd H1 d (.lst [.ref c, .int i', .int l', .int (m + 1), .int t])) d = some (.lst [.ref c, .int i', .int l', .int (m + 1), .int t]) := upd_same
        have c2 : (upd H1 d (.lst [.ref c, .int i', .int l', .int (m + 1), .int t])) c = some (.lst (ns.map V.int)) := by rw [upd_ne hcd]; exact c1
        refine ⟨_, rfl, d, _, 4, .int t, rfl, rfl, .of d2, atI_nat (j := 4) rfl, _, rfl, d, _, 3, .int (m + 1), rfl, rfl, .of d2, atI_nat (j := 3) rfl, _, _, rfl, rfl, t, _, rfl, by omega, by omega, fun r => ?_⟩
        exact ⟨_, rfl, _, _, rfl, rfl, h0, q _ _ (b1.trans But.set) ⟨ns, i', l', m + 1, t, d2, c2, j0, by omega, by omega, by omega⟩ (r0 _) (r1 _)⟩

/-! ### _law_pair -/
def sp__law_pair (K : PySem.W.Frag) : Sp := fun vs H Q _ => ∃ (d c : Addr) (n : Nat), vs = [.ref d] ∧ Deck H d c n ∧ n < 2 ^ 39 ∧
  ∀ H' (p : Addr) (b pw : Int), But d H H' → Deck H' d c (n + 3) → H p = none → H' p = some (.tup [.int b, .int pw]) → OkPair b pw → Q (.ref p) H'
theorem ok__law_pair (T : Txt K mg) : FnOk P w K mg base CX0 3 T.f__law_pair T.fd__law_pair ["deck"] (sp__law_pair K) := by
  refine T.F__law_pair.ok sc__law_pair (fun vs H Q E h => ?_) (fun cdv A outer s H vs Q E hr h => ?_)
  · obtain ⟨_, _, _, rfl, _⟩ := h
    rfl
  · obtain ⟨d, c, n, rfl, hD, hn, q⟩ := h
    refine ⟨_, (pss_cons (ps_set (i := 1) sc__law_pair.nd rfl (Or.inl rfl) (pe_op op_add pe_int (pe_call (ok__law_next T) hr (by rfl) T.g__law_next T.F__law_next.kp T.b__law_next .nil pass0 (pa_cons (pv 0) (pa_cons pe_int pa_nil)))))
      (pss_cons (ps_set (i := 2) sc__law_pair.nd rfl (Or.inl rfl) (pe_ix ix_list (pe_lst (pa_cons pe_int (pa_cons pe_int (pa_cons pe_int (pa_cons pe_int (pa_cons pe_int (pa_cons pe_int (pa_cons pe_int (pa_cons pe_int (pa_cons pe_int (pa_cons pe_int (pa_cons pe_int (pa_cons pe_int (pa_cons pe_int (pa_cons pe_int (pa_cons pe_int pa_nil)))))))))))))))) (pe_op op_sub (pv 1) pe_int) (fun _ _ => rfl)))
      (pss_one (ps_ret (pe_ix ix_list (pe_lst (pa_cons (pe_tup (pa_cons (pv 1) (pa_cons (pe_op op_add pe_int (pe_call (ok__law_next T) hr (by rfl) T.g__law_next T.F__law_next.kp T.b__law_next .nil pass0 (pa_cons (pv 0) (pa_cons (pv 2) pa_nil)))) pa_nil))) (pa_cons (pe_tup (pa_cons (pv 1) (pa_cons (pv 2) pa_nil))) pa_nil))) (pe_call (ok__law_next T) hr (by rfl) T.g__law_next T.F__law_next.kp T.b__law_next .nil pass0 (pa_cons (pv 0) (pa_cons pe_int pa_nil))) (fun _ _ => rfl)))))), ?_⟩
    refine ⟨_, rfl, d, 15, c, n, rfl, hD, by omega, by decide, by decide, fun H1 r b1 D1 r0 r1 => ?_⟩
    refine ⟨2, r, rfl, rfl, ?_⟩
    -- most = [..][base - 2]
    refine ⟨by show 15 ≤ sizeLine; decide, fun p1 hp1 => ?_⟩
    generalize g2 : upd _ p1 _ = H2
    obtain ⟨s2, t2⟩ := new_of g2 hp1
    have e1 : 2 ≤ 2 + r := by omega
    have e2 : 2 + r ≤ 16 := by omega
    have bm := most_pos e1 e2
    refine ⟨_, rfl, _, _, rfl, rfl, p1, mosts.map V.int, _, _, rfl, rfl, .of t2, most_at e1 e2, ?_⟩
    have D2 := D1.same s2
    -- the two pairs
    refine ⟨_, rfl, _, rfl, _, rfl, d, mostOf (2 + r), c, n + 1, rfl, D2, by omega, by omega, by omega, fun H3 r3 b3 D3 r30 r31 => ?_⟩
    refine ⟨1, r3, rfl, rfl, by show 2 ≤ sizeLine; decide, fun p4 hp4 => ?_⟩
    generalize g4 : upd _ p4 _ = H4
    obtain ⟨s4, t4⟩ := new_of g4 hp4
    refine ⟨_, rfl, _, rfl, by show 2 ≤ sizeLine; decide, fun p5 hp5 => ?_⟩
    generalize g5 : upd _ p5 _ = H5
    obtain ⟨s5, t5⟩ := new_of g5 hp5
    refine ⟨by show 2 ≤ sizeLine; decide, fun p6 hp6 => ?_⟩
    generalize g6 : upd _ p6 _ = H6
    obtain ⟨s6, t6⟩ := new_of g6 hp6
    have D6 : Deck H6 d c (n + 1 + 1) := ((D3.same s4).same s5).same s6
    refine ⟨_, rfl, d, 2, c, n + 1 + 1, rfl, D6, by omega, by decide, by decide, fun H7 r7 b7 D7 r70 r71 => ?_⟩
    have bAll : But d H H7 := b1.trans ((But.of s2).trans (b3.trans ((But.of (s4.trans (s5.trans s6))).trans b7)))
    have n6 : p6 ≠ d := by
      obtain ⟨xs, z⟩ := (((D3.same s4).same s5)).some
      exact (ne_of_none z hp6).symm
    have l7 : H7 p6 = some (.lst [.ref p4, .ref p5]) := b7 _ _ n6 t6
    have f0 : ∀ {p : Addr}, H3 p = none → H p = none := fun {p} z => b1.fresh D1.there (s2.free (b3.fresh D3.there z))
    have c01 : r7 = 0 ∨ r7 = 1 := by omega
    rcases c01 with rfl | rfl
    · refine ⟨p6, _, 0, .ref p4, rfl, rfl, .of l7, atI_nat (j := 0) rfl, ?_⟩
      exact q H7 p4 (2 + r) (1 + r3) bAll D7 (f0 hp4) (b7.tup D6 (s6 _ _ (s5 _ _ t4))) ⟨e1, e2, by omega, by omega⟩
    · refine ⟨p6, _, 1, .ref p5, rfl, rfl, .of l7, atI_nat (j := 1) rfl, ?_⟩
      exact q H7 p5 (2 + r) (mostOf (2 + r)) bAll D7 (f0 (s4.free hp5)) (b7.tup D6 (s6 _ _ t5)) ⟨e1, e2, by omega, by omega⟩

/-! ### _law_number -/
def sp__law_number (K : PySem.W.Frag) : Sp := fun vs H Q _ => ∃ (d : Addr) (b : Int) (c : Addr) (n : Nat), vs = [.ref d, .int b] ∧ Deck H d c n ∧ n < 2 ^ 39 ∧ 2 ≤ b ∧ b ≤ 16 ∧
  ∀ H' (r : Int), But d H H' → Deck H' d c (n + 17) → 0 ≤ r → r < 16 ^ 40 → Q (.int r) H'
theorem ok__law_number (T : Txt K mg) : FnOk P w K mg base CX0 3 T.f__law_number T.fd__law_number ["deck", "base"] (sp__law_number K) := by
  refine T.F__law_number.ok sc__law_number (fun vs H Q E h => ?_) (fun cdv A outer s H vs Q E hr h => ?_)
  · obtain ⟨_, _, _, _, rfl, _⟩ := h
    rfl
  · obtain ⟨d, b, c, n, rfl, hD, hn, hb, hb16, q⟩ := h
    have e40 : (16 : Int) ^ Int.toNat 40 = 16 ^ 40 := rfl
    have e6 : (10 : Int) ^ Int.toNat 6 = 1000000 := rfl
    refine ⟨_, (pss_cons (ps_set (i := 2) sc__law_number.nd rfl (Or.inl rfl) pe_int)
      (pss_cons (ps_for PassesOwn.never rfl (pi_range1 (by rfl) T.m_range (pa_cons pe_int pa_nil)) (pg_name (i := 3) sc__law_number.nd rfl (Or.inl rfl)) (pss_one (ps_set (i := 2) sc__law_number.nd rfl (Or.inl rfl) (pe_op op_add (pe_op op_mul (pv 2) (pe_op op_pow pe_int pe_int)) (pe_call (ok__law_next T) hr (by rfl) T.g__law_next T.F__law_next.kp T.b__law_next .nil pass0 (pa_cons (pv 0) (pa_cons (pe_op op_pow pe_int pe_int) pa_nil)))))))
      (pss_cons (ps_set (i := 2) sc__law_number.nd rfl (Or.inl rfl) (pe_op op_mod (pv 2) (pe_op op_pow pe_int pe_int)))
      (pss_cons (ps_set (i := 4) sc__law_number.nd rfl (Or.inl rfl) pe_int)
      (pss_cons (ps_set (i := 5) sc__law_number.nd rfl (Or.inl rfl) (pe_call (ok__law_next T) hr (by rfl) T.g__law_next T.F__law_next.kp T.b__law_next .nil pass0 (pa_cons (pv 0) (pa_cons (pv 1) pa_nil))))
      (pss_cons (ps_for PassesOwn.never rfl (pi_range1 (by rfl) T.m_range (pa_cons (pe_op op_add pe_int (pe_call (ok__law_next T) hr (by rfl) T.g__law_next T.F__law_next.kp T.b__law_next .nil pass0 (pa_cons (pv 0) (pa_cons pe_int pa_nil)))) pa_nil)) (pg_name (i := 3) sc__law_number.nd rfl (Or.inl rfl)) (pss_one (ps_set (i := 4) sc__law_number.nd rfl (Or.inl rfl) (pe_op op_add (pe_op op_mul (pv 1) (pv 4)) (pv 5)))))
      (pss_cons (ps_set (i := 6) sc__law_number.nd rfl (Or.inl rfl) pe_int)
      (pss_cons (ps_for PassesOwn.never rfl (pi_range1 (by rfl) T.m_range (pa_cons (pe_call (ok__law_next T) hr (by rfl) T.g__law_next T.F__law_next.kp T.b__law_next .nil pass0 (pa_cons (pv 0) (pa_cons pe_int pa_nil))) pa_nil)) (pg_name (i := 3) sc__law_number.nd rfl (Or.inl rfl)) (pss_one (ps_set (i := 6) sc__law_number.nd rfl (Or.inl rfl) (pe_op op_mul (pv 6) (pe_ix ix_list (pe_lst (pa_cons pe_int (pa_cons (pv 1) pa_nil))) (pe_callTy (T := "int") call_int1 (by rfl) T.m_int (by decide +kernel) (pa_cons (pe_cmpR op_lt (pe_op op_mul (pv 6) (pv 1)) (pe_op op_pow pe_int pe_int) (nomark _)) pa_nil)) (fun _ _ => rfl))))))
      (pss_cons (ps_set (i := 7) sc__law_number.nd rfl (Or.inl rfl) (pe_lst (pa_cons (pe_call (ok__law_next T) hr (by rfl) T.g__law_next T.F__law_next.kp T.b__law_next .nil pass0 (pa_cons (pv 0) (pa_cons pe_int pa_nil))) (pa_cons (pe_call (ok__law_next T) hr (by rfl) T.g__law_next T.F__law_next.kp T.b__law_next .nil pass0 (pa_cons (pv 0) (pa_cons (pe_op op_pow pe_int pe_int) pa_nil))) (pa_cons (pv 2) (pa_cons (pe_op op_sub (pe_op op_sub (pe_op op_pow pe_int pe_int) pe_int) (pe_call (ok__law_next T) hr (by rfl) T.g__law_next T.F__law_next.kp T.b__law_next .nil pass0 (pa_cons (pv 0) (pa_cons pe_int pa_nil)))) (pa_cons (pv 4) pa_nil)))))))
      (pss_one (ps_ret (pe_ix ix_list (pe_op op_cat (pv 7) (pe_lst (pa_cons (pe_callB (id := "max") (call_max2 rfl) (by rfl) T.m_max (by decide +kernel) (pa_cons pe_int (pa_cons (pe_op op_sub (pv 6) (pe_call (ok__law_next T) hr (by rfl) T.g__law_next T.F__law_next.kp T.b__law_next .nil pass0 (pa_cons (pv 0) (pa_cons pe_int pa_nil)))) pa_nil))) (pa_cons (pe_op op_fdivW (pv 2) (pv 6)) pa_nil)))) (pe_call (ok__law_next T) hr (by rfl) T.g__law_next T.F__law_next.kp T.b__law_next .nil pass0 (pa_cons (pv 0) (pa_cons pe_int pa_nil))) (fun _ _ => rfl))))))))))))), ?_⟩
    -- great
    refine ⟨9, rfl, by decide, by decide, for_range (lo := 0) (n := 9) (fun i σ' H' => But d H H' ∧ Deck H' d c (n + i) ∧ ∃ (g : Int) (y : Option V), 0 ≤ g ∧ σ' = [some (.ref d), some (.int b), some (.int g), y, none, none, none, none]) ⟨But.refl _ _, hD, 0, none, Int.le_refl _, rfl⟩ ?_ ?_⟩
    · rintro i σ' H1 hi ⟨b1, D1, g, y, g0, rfl⟩
      refine ⟨_, rfl, 10, 6, rfl, rfl, ⟨by decide, by decide, by decide⟩, _, _, rfl, rfl, .inr (by decide), ?_⟩
      refine ⟨_, rfl, 10, 6, rfl, rfl, ⟨by decide, by decide, by decide⟩, d, _, c, n + i, rfl, D1, by omega, by decide, by decide, fun H2 r b2 D2 r0 r1 => ?_⟩
      refine ⟨_, _, rfl, rfl, b1.trans b2, D2, _, _, ?_, rfl⟩
      rw [e6]
      omega
    rintro σ' H1 ⟨b1, D1, g, y, g0, rfl⟩
    refine ⟨_, rfl, 16, 40, rfl, rfl, ⟨by decide, by decide, by decide⟩, _, _, rfl, rfl, by show (0 : Int) < 16 ^ 40; decide, ?_⟩
    rw [e40]
    have gb : 0 ≤ g % 16 ^ 40 ∧ g % 16 ^ 40 < 16 ^ 40 := ⟨Int.emod_nonneg _ (by decide), Int.emod_lt_of_pos _ (by decide)⟩
    -- same
    refine ⟨_, rfl, _, rfl, d, b, c, n + 9, rfl, D1, by omega, by omega, by omega, fun H2 f b2 D2 f0 f1 => ?_⟩
    refine ⟨_, rfl, d, 40, c, n + 10, rfl, D2, by omega, by decide, by decide, fun H3 r3 b3 D3 u3 v3 => ?_⟩
    refine ⟨_, _, rfl, rfl, _, rfl, by omega, by omega, ?_⟩
    have en : (1 + r3).toNat ≤ 40 := by omega
    refine for_range (lo := 0) (n := (1 + r3).toNat) (fun i σ' H' => H' = H3 ∧ ∃ (z : Int) (y : Option V), 0 ≤ z ∧ z < b ^ i ∧ σ' = [some (.ref d), some (.int b), some (.int (g % 16 ^ 40)), y, some (.int z), some (.int f), none, none]) ⟨rfl, 0, y, Int.le_refl _, by rw [Int.pow_zero]; decide, rfl⟩ ?_ ?_
    · rintro i σ' H' hi ⟨rfl, z, y, z0, z1, rfl⟩
      have st := same_step hb z0 z1 f0 f1
      exact ⟨_, rfl, _, rfl, _, _, rfl, rfl, .inl (by omega), _, rfl, _, _, rfl, rfl, rfl, _, _, st.1, st.2, rfl⟩
    rintro σ' H' ⟨rfl, z, y, z0, z1, rfl⟩
    have z2 : z < 16 ^ 40 := Int.lt_of_lt_of_le z1 (pow_le16 hb hb16 en)
    -- edge
    refine ⟨_, rfl, d, 160, c, n + 11, rfl, D3, by omega, by decide, by decide, fun H4 r4 b4 D4 u4 v4 => ?_⟩
    refine ⟨_, rfl, by omega, by omega, ?_⟩
    refine for_range (lo := 0) (n := r4.toNat) (fun i σ' H5 => Same H4 H5 ∧ ∃ (e : Int) (y : Option V), 1 ≤ e ∧ e < 16 ^ 40 ∧ σ' = [some (.ref d), some (.int b), some (.int (g % 16 ^ 40)), y, some (.int z), some (.int f), some (.int e), none]) ⟨Same.refl _, 1, y, by decide, by decide, rfl⟩ ?_ ?_
    · rintro i σ' H5 hi ⟨s5, e, y, e0, e1, rfl⟩
      refine ⟨_, rfl, _, rfl, by show 2 ≤ sizeLine; decide, fun p hp => ?_⟩
      generalize g6 : upd H5 p _ = H6
      obtain ⟨s6, t6⟩ := new_of g6 hp
      refine ⟨_, rfl, _, rfl, _, _, rfl, rfl, .inr (by omega), 16, 40, rfl, rfl, ⟨by decide, by decide, by decide⟩, _, _, rfl, rfl, .inr ⟨_, rfl, ?_⟩⟩
      rw [e40]
      by_cases t : e * b < 16 ^ 40
      · rw [decide_eq_true t]
        refine ⟨p, _, 1, .int b, rfl, rfl, .of t6, atI_nat (j := 1) rfl, _, _, rfl, rfl, .inr (by omega), ?_⟩
        have e2 : 1 ≤ e * b := by
          have := Int.mul_le_mul_of_nonneg_left (show (1 : Int) ≤ b by omega) (show 0 ≤ e by omega)
          omega
        exact ⟨s5.trans s6, _, _, e2, t, rfl⟩
      · rw [decide_eq_false t]
        refine ⟨p, _, 0, .int 1, rfl, rfl, .of t6, atI_nat (j := 0) rfl, _, _, rfl, rfl, .inr (by decide), ?_⟩
        exact ⟨s5.trans s6, _, _, by omega, by omega, rfl⟩
    rintro σ' H5 ⟨s5, e, y, e0, e1, rfl⟩
    have D5 := D4.same s5
    -- some
    refine ⟨_, rfl, d, 40, c, n + 12, rfl, D5, by omega, by decide, by decide, fun H6 r6 b6 D6 u6 v6 => ?_⟩
    refine ⟨_, rfl, 10, 6, rfl, rfl, ⟨by decide, by decide, by decide⟩, d, _, c, n + 13, rfl, D6, by omega, by decide, by decide, fun H7 r7 b7 D7 u7 v7 => ?_⟩
    refine ⟨_, rfl, 16, 40, rfl, rfl, ⟨by decide, by decide, by decide⟩, _, _, rfl, rfl, _, rfl, d, 9, c, n + 14, rfl, D7, by omega, by decide, by decide, fun H8 r8 b8 D8 u8 v8 => ?_⟩
    refine ⟨_, _, rfl, rfl, _, rfl, by show 5 ≤ sizeLine; decide, fun p9 hp9 => ?_⟩
    rw [e40]
    generalize g9 : upd H8 p9 _ = H9
    obtain ⟨s9, t9⟩ := new_of g9 hp9
    have o9 := D8.out hp9
    have D9 := D8.same s9
    refine ⟨_, rfl, _, rfl, _, rfl, d, 3, c, n + 15, rfl, D9, by omega, by decide, by decide, fun Ha ra ba Da ua va => ?_⟩
    refine ⟨_, _, rfl, rfl, 0, e - ra, rfl, ?_⟩
    refine ⟨_, rfl, _, rfl, _, _, rfl, rfl, divW 200 (by omega) (by omega), by show 2 ≤ sizeLine; decide, fun pb hpb => ?_⟩
    generalize gb' : upd Ha pb _ = Hb
    obtain ⟨sb, tb⟩ := new_of gb' hpb
    refine ⟨p9, pb, _, _, rfl, rfl, sb _ _ (ba _ _ o9.1 t9), tb, by show 7 ≤ sizeLine; decide, fun pc hpc => ?_⟩
    generalize gc : upd Hb pc _ = Hc
    obtain ⟨sc, tc⟩ := new_of gc hpc
    have Db := Da.same sb
    have oc := Db.out hpc
    refine ⟨_, rfl, d, 7, c, n + 16, rfl, Db.same sc, by omega, by decide, by decide, fun Hd rd bd Dd ud vd => ?_⟩
    have tl := bd _ _ oc.1 tc
    have bAll : But d H Hd := b1.trans (b2.trans (b3.trans (b4.trans ((But.of s5).trans (b6.trans (b7.trans (b8.trans ((But.of s9).trans (ba.trans ((But.of (sb.trans sc)).trans bd))))))))))
    have mx : 0 ≤ (if e - ra > 0 then e - ra else (0 : Int)) ∧ (if e - ra > 0 then e - ra else (0 : Int)) < 16 ^ 40 := by split <;> omega
    have dv := div_le gb.1 e0
    have cases7 : rd = 0 ∨ rd = 1 ∨ rd = 2 ∨ rd = 3 ∨ rd = 4 ∨ rd = 5 ∨ rd = 6 := by omega
    rcases cases7 with rfl | rfl | rfl | rfl | rfl | rfl | rfl
    · exact ⟨pc, _, 0, _, rfl, rfl, .of tl, atI_nat (j := 0) rfl, q _ _ bAll Dd (by omega) (by omega)⟩
    · exact ⟨pc, _, 1, _, rfl, rfl, .of tl, atI_nat (j := 1) rfl, q _ _ bAll Dd (by omega) (by omega)⟩
    · exact ⟨pc, _, 2, _, rfl, rfl, .of tl, atI_nat (j := 2) rfl, q _ _ bAll Dd (by omega) (by omega)⟩
    · exact ⟨pc, _, 3, _, rfl, rfl, .of tl, atI_nat (j := 3) rfl, q _ _ bAll Dd (by omega) (by omega)⟩
    · exact ⟨pc, _, 4, _, rfl, rfl, .of tl, atI_nat (j := 4) rfl, q _ _ bAll Dd z0 z2⟩
    · exact ⟨pc, _, 5, _, rfl, rfl, .of tl, atI_nat (j := 5) rfl, q _ _ bAll Dd mx.1 mx.2⟩
    · exact ⟨pc, _, 6, _, rfl, rfl, .of tl, atI_nat (j := 6) rfl, q _ _ bAll Dd dv.1 (by omega)⟩

/-! ### _law_of -/
def sp__law_of (K : PySem.W.Frag) : Sp := fun vs H Q _ => ∃ (a : Addr) (b : Nat) (ds : List Nat), vs = [.ref a, .int (b : Int)] ∧ b ≤ 16 ∧ (SqL K H a (ivs ds) ∨ SqT K H a (ivs ds)) ∧ Q (.int (val b ds : Nat)) H
theorem ok__law_of (T : Txt K mg) : FnOk P w K mg base CX0 1 T.f__law_of T.fd__law_of ["figures", "base"] (sp__law_of K) := by
  refine T.F__law_of.ok sc__law_of (fun vs H Q E h => ?_) (fun cdv A outer s H vs Q E hr h => ?_)
  · obtain ⟨_, _, _, rfl, _⟩ := h
    rfl
  · obtain ⟨a, b, ds, rfl, hb16, hs, q⟩ := h
    have turn : ∀ (i d : Nat), ds[i]? = some d → ((val b (ds.take i) : Nat) : Int) * (b : Int) + (d : Int) = ((val b (ds.take (i + 1)) : Nat) : Int) := fun i d h => by
      rw [val_take h, Int.natCast_add, Int.natCast_mul]
    refine ⟨_, (pss_cons (ps_set (i := 2) sc__law_of.nd rfl (Or.inl rfl) pe_int)
      (pss_cons (ps_for PassesOwn.never rfl (pi_or (pi_list (pv 0)) (pi_tup (pv 0))) (pg_name (i := 3) sc__law_of.nd rfl (Or.inl rfl)) (pss_one (ps_set (i := 2) sc__law_of.nd rfl (Or.inl rfl) (pe_op op_add (pe_op op_mul (pv 2) (pv 1)) (pv 3)))))
      (pss_one (ps_ret (pv 2))))), ?_⟩
    rcases hs with hs | hs
    · refine .inl ⟨_, rfl, a, rfl, ⟨_, hs⟩, for_list (xs := ivs ds) (fun i σ' H' => H' = H ∧ ∃ y, σ' = [some (.ref a), some (.int (b : Int)), some (.int (val b (ds.take i) : Nat)), y]) ⟨rfl, none, rfl⟩ ?_ ?_ ?_⟩
      · rintro i σ' H' hi ⟨rfl, _⟩
        exact hs
      · rintro i x σ' H' hx ⟨rfl, y, rfl⟩
        obtain ⟨d, hd, rfl⟩ := ivs_get hx
        refine ⟨_, rfl, _, rfl, _, _, rfl, rfl, .inr (by omega), _, rfl, _, _, rfl, rfl, rfl, some (.int (d : Int)), ?_⟩
        rw [← turn i d hd]
        rfl
      · rintro σ' H' ⟨rfl, y, rfl⟩
        rw [ivs_length, List.take_length]
        exact ⟨_, rfl, q⟩
    · refine .inr ⟨_, rfl, a, rfl, ⟨_, hs⟩, for_tup (xs := ivs ds) (fun i σ' H' => H' = H ∧ ∃ y, σ' = [some (.ref a), some (.int (b : Int)), some (.int (val b (ds.take i) : Nat)), y]) ⟨rfl, none, rfl⟩ ?_ ?_ ?_⟩
      · rintro i σ' H' hi ⟨rfl, _⟩
        exact hs
      · rintro i x σ' H' hx ⟨rfl, y, rfl⟩
        obtain ⟨d, hd, rfl⟩ := ivs_get hx
        refine ⟨_, rfl, _, rfl, _, _, rfl, rfl, .inr (by omega), _, rfl, _, _, rfl, rfl, rfl, some (.int (d : Int)), ?_⟩
        rw [← turn i d hd]
        rfl
      · rintro σ' H' ⟨rfl, y, rfl⟩
        rw [ivs_length, List.take_length]
        exact ⟨_, rfl, q⟩

/-! ### _law_shown_right -/
def sp__law_shown_right (K : PySem.W.Frag) : Sp := fun vs H Q _ => ∃ n m b : Nat, vs = [.int (n : Int), .int (m : Int), .int (b : Int)] ∧ 2 ≤ b ∧ b ≤ 16 ∧ n < 16 ^ 40 ∧ m < 16 ^ 40 ∧ ∀ H', Same H H' → Q (.bl true) H'
theorem reads1 {b d : Nat} (h : d < b) : Reads b [d] := ⟨by simp, fun e he => by cases List.mem_singleton.mp he; exact h, fun _ _ _ => rfl⟩
theorem val1 (b d : Nat) : val b [d] = d := by
  show 0 * b + d = d
  omega
theorem dp_lenTxt {K : PySem.W.Frag} {H : Hp} {a : Addr} {ds : List Nat} (h : H a = some (.tup [.int (ds.length : Int), .str (txt ds)])) : Dp K H (.ref a) (lenTxt ds) := .tup (.of h) (.cons (.int _) (.cons (.str _) .nil))
theorem figs_le40 {b n : Nat} (hb : 2 ≤ b) (h : n < 16 ^ 40) : (figs b n).length ≤ 160 := by
  rw [figs_len]
  refine lsd_len_le hb 159 n ?_
  have e : (16 : Nat) ^ 40 = 2 ^ 160 := by decide
  omega
theorem ok__law_shown_right (T : Txt K mg) : FnOk P w K mg base CX0 3 T.f__law_shown_right T.fd__law_shown_right ["number", "other", "base"] (sp__law_shown_right K) := by
  refine T.F__law_shown_right.ok sc__law_shown_right (fun vs H Q E h => ?_) (fun cdv A outer s H vs Q E hr h => ?_)
  · obtain ⟨_, _, _, rfl, _⟩ := h
    rfl
  · obtain ⟨n, m, b, rfl, hb, hb16, hn', hm', q⟩ := h
    have hn := lt900 hn'
    have hm := lt900 hm'
    have ln := figs_le40 hb hn'
    have lm := figs_le40 hb hm'
    have zl : (txt (figs b n)).length ≤ sizeLine := by
      rw [txt_len]
      exact Nat.le_of_lt (small1000 (by omega))
    have zm : (txt (figs b m)).length ≤ sizeLine := by
      rw [txt_len]
      exact Nat.le_of_lt (small1000 (by omega))
    refine ⟨_, (pss_cons (ps_set (i := 3) sc__law_shown_right.nd rfl (Or.inl rfl) (pe_call (ok_number_shown T) hr (by rfl) T.g_number_shown T.F_number_shown.kp T.b_number_shown .nil pass0 (pa_cons (pv 0) (pa_cons (pv 2) pa_nil))))
      (pss_cons (ps_set (i := 4) sc__law_shown_right.nd rfl (Or.inl rfl) (pe_call (ok_figures_of T) (hr.mono (by decide)) (by rfl) T.g_figures_of T.F_figures_of.kp T.b_figures_of .nil pass0 (pa_cons (pv 0) (pa_cons (pv 2) pa_nil))))
      (pss_cons (ps_if (PW.pt (pw_or (pt_cmpR op_ne (pe_call (ok_read_number T) (hr.mono (by decide)) (by rfl) T.g_read_number T.F_read_number.kp T.b_read_number .nil pass0 (pa_cons (pv 3) (pa_cons (pv 2) pa_nil))) (pv 0) (nomark _)) (pw_or (pt_cmpR op_ne (pe_call (ok__law_of T) (hr.mono (by decide)) (by rfl) T.g__law_of T.F__law_of.kp T.b__law_of .nil pass0 (pa_cons (pv 4) (pa_cons (pv 2) pa_nil))) (pv 0) (nomark _)) (pw_or1 (pt_cmpR op_ne (pe_callB (id := "len") call_len_str (by rfl) T.m_len (by decide +kernel) (pa_cons (pv 3) pa_nil)) (pe_callB (id := "len") call_len_seq (by rfl) T.m_len (by decide +kernel) (pa_cons (pv 4) pa_nil)) (nomark _)))))) (pss_one (ps_ret pe_bl)) pss_nil)
      (pss_cons (ps_if (pt_cmpR (op_neD hr.units) (pe_lc (own := [("sign", 5)]) (g := (gName 5)) (tt := tYes) rfl sc__law_shown_right.nd (pi_str (pv 3)) (blkOk_by (own := [("sign", 5)]) (N := ["number", "other", "base", "text", "figures", "sign", "beside"]) (sc := defScope s__law_shown_right) (by decide +kernel)) (fun _ _ _ _ _ => (pg_name (i := 5) sc__law_shown_right.nd rfl (Or.inl rfl))) (fun _ _ _ _ _ => pts_nil) (fun _ _ _ _ _ => (pe_call (ok_read_number T) (hr.mono (by decide)) (by rfl) T.g_read_number T.F_read_number.kp T.b_read_number .nil pass0 (pa_cons (pv 5) (pa_cons (pv 2) pa_nil))))) (pe_callTy (T := "list") call_list_of (by rfl) T.m_list (by decide +kernel) (pa_cons (pv 4) pa_nil)) (nomark _)) (pss_one (ps_ret pe_bl)) pss_nil)
      (pss_cons (ps_set (i := 6) sc__law_shown_right.nd rfl (Or.inl rfl) (pe_call (ok_number_shown T) hr (by rfl) T.g_number_shown T.F_number_shown.kp T.b_number_shown .nil pass0 (pa_cons (pv 1) (pa_cons (pv 2) pa_nil))))
      (pss_one (ps_ret (pe_and (pe_cmpR op_eq (pe_cmpR (op_ltD hr.units) (pe_tup (pa_cons (pe_callB (id := "len") call_len_str (by rfl) T.m_len (by decide +kernel) (pa_cons (pv 3) pa_nil)) (pa_cons (pv 3) pa_nil))) (pe_tup (pa_cons (pe_callB (id := "len") call_len_str (by rfl) T.m_len (by decide +kernel) (pa_cons (pv 6) pa_nil)) (pa_cons (pv 6) pa_nil))) (nomark _)) (pe_cmpR op_lt (pv 0) (pv 1) (nomark _)) (nomark _)) (pe_one (pe_cmpR op_eq (pe_cmpR op_eq (pv 3) (pv 6) (nomark _)) (pe_cmpR op_eq (pv 0) (pv 1) (nomark _)) (nomark _))))))))))), ?_⟩
    refine ⟨_, rfl, _, rfl, n, b, rfl, hb, hb16, hn, fun H1 s1 => ?_⟩
    refine ⟨_, rfl, _, rfl, n, b, rfl, hb, hb16, hn, fun H2 f s2 n2 e2 => ?_⟩
    refine ⟨_, rfl, _, rfl, figs b n, b, rfl, hb, hb16, Reads.figs hb n, by omega, fun H3 s3 => ?_⟩
    rw [val_figs hb n]
    refine ⟨_, rfl, rfl, _, rfl, ?_⟩
    rw [decide_eq_true (p := V.int _ = V.int _) rfl]
    refine iteF ?_
    have e3 := s3 _ _ e2
    refine ⟨_, rfl, _, rfl, f, b, figs b n, rfl, hb16, .inr (.of e3), ?_⟩
    rw [val_figs hb n]
    refine ⟨_, rfl, rfl, _, rfl, ?_⟩
    rw [decide_eq_true (p := V.int _ = V.int _) rfl]
    refine iteF ?_
    refine ⟨_, rfl, _, rfl, zl, _, rfl, f, _, rfl, .inr (.of e3), rfl, _, rfl, ?_⟩
    rw [txt_len, ivs_length, decide_eq_true (p := V.int _ = V.int _) rfl]
    refine iteF ?_
    -- each sign by itself
    refine ⟨_, rfl, _, rfl, fun D hD => lc_it walk_str (fun i H' => Same H3 H' ∧ H' D = some (.lst (ivs ((figs b n).take i)))) ⟨Same.new hD, upd_same⟩ (fun _ _ _ _ => trivial) ?_ ?_⟩
    · rintro i x H4 H5 hi ⟨s4, e4⟩ ⟨rfl, c, hc, rfl⟩
      have hi' : i < (figs b n).length := by
        have z := txt_len (figs b n)
        unfold Str.length at z
        omega
      have hd : (figs b n)[i]? = some (figs b n)[i] := List.getElem?_eq_getElem hi'
      rw [txt_at hd] at hc
      cases hc
      have db := figs_below hb (List.mem_of_getElem? hd)
      refine ⟨rfl, _, rfl, _, rfl, [(figs b n)[i]], b, rfl, hb, hb16, reads1 db, by show 1 ≤ 900; decide, fun H6 s6 => ?_⟩
      rw [val1]
      refine ⟨_, s6 _ _ e4, small1000 (by rw [ivs_length, List.length_take]; omega), same_own (s4.trans s6) hD, ?_⟩
      rw [upd_same, List.take_add_one, hd, ivs_append]
      rfl
    rintro H4 ⟨s4, e4⟩
    have z := txt_len (figs b n)
    unfold Str.length at z
    rw [z, List.take_length] at e4
    refine ⟨_, rfl, f, _, rfl, .inr (.of (s4 _ _ e3)), fun D2 hD2 => ?_⟩
    generalize g5 : upd H4 D2 _ = H5
    obtain ⟨s5, t5⟩ := new_of g5 hD2
    refine ⟨_, _, .lst (.of (s5 _ _ e4)) (dpAll_ivs _), .lst (.of t5) (dpAll_ivs _), shaped_ints _, shaped_ints _, _, rfl, ?_⟩
    rw [eqv_same (shaped_ints _)]
    refine iteF ?_
    -- the order
    refine ⟨_, rfl, _, rfl, m, b, rfl, hb, hb16, hm, fun H6 s6 => ?_⟩
    refine ⟨_, rfl, _, rfl, zl, _, rfl, by show 2 ≤ sizeLine; decide, fun p hp => ?_⟩
    rw [txt_len]
    generalize g7 : upd H6 p _ = H7
    obtain ⟨s7, t7⟩ := new_of g7 hp
    refine ⟨_, rfl, _, rfl, zm, _, rfl, by show 2 ≤ sizeLine; decide, fun p2 hp2 => ?_⟩
    rw [txt_len]
    generalize g8 : upd H7 p2 _ = H8
    obtain ⟨s8, t8⟩ := new_of g8 hp2
    refine ⟨_, _, dp_lenTxt (s8 _ _ t7), dp_lenTxt t8, by rfl, (fun z => by cases z), (by unfold lenTxt PyData.depth; simp [PyData.depthAll, PyData.depth]), ?_⟩
    rw [lenTxt_lt hb hb16]
    refine ⟨_, rfl, _, rfl, _, _, rfl, rfl, rfl, true, by rw [decide_eq_true rfl], iteT ?_⟩
    refine ⟨_, rfl, _, rfl, rfl, _, rfl, _, rfl, rfl, rfl, ?_⟩
    have e9 : decide (V.str (txt (figs b n)) = V.str (txt (figs b m))) = decide (V.int (n : Int) = V.int (m : Int)) := by
      rw [decide_eq_decide]
      constructor
      · intro h
        rw [txt_inj hb hb16 (V.str.inj h)]
      · intro h
        have : n = m := Int.ofNat_inj.mp (V.int.inj h)
        rw [this]
    rw [e9, decide_eq_true (p := V.bl _ = V.bl _) rfl]
    exact q _ (s1.trans (s2.trans (s3.trans (s4.trans (s5.trans (s6.trans (s7.trans s8)))))))

/-! ### _law_steps_right -/
def sp__law_steps_right (K : PySem.W.Frag) : Sp := fun vs H Q _ => ∃ (d c : Addr) (k n m b p : Nat), vs = [.ref d, .int (n : Int), .int (m : Int), .int (b : Int), .int (p : Int)] ∧ Deck H d c k ∧ k < 2 ^ 38 ∧ 2 ≤ b ∧ b ≤ 16 ∧ 1 ≤ p ∧ p ≤ 10 ∧ 1 ≤ n ∧ n ≤ b ^ 18 ∧ m < b ^ 18 ∧
  ∀ H', Deck H' d c (k + 30) → Q (.bl true) H'
theorem figs_le19 {b n : Nat} (hb : 2 ≤ b) (h : n ≤ b ^ 18) : (figs b n).length ≤ 19 := by
  rw [figs_len]
  by_cases c : n = 0
  · subst c
    rw [lsd_lt (by omega)]
    decide
  · have l := len_pow hb n (by omega)
    refine Nat.le_of_not_lt fun z => ?_
    rw [figs_len] at l
    have h1 := Nat.pow_le_pow_right (show 0 < b by omega) (show 19 ≤ (lsd b n).length - 1 by omega)
    have h2 : b ^ 18 < b ^ 19 := Nat.pow_lt_pow_right (by omega) (by decide)
    omega
theorem pow_le_900 {b n : Nat} (hb16 : b ≤ 16) (h : n ≤ b ^ 18) : n < 2 ^ 900 := by
  have h1 : b ^ 18 ≤ 16 ^ 18 := Nat.pow_le_pow_left hb16 18
  have h2 : (16 : Nat) ^ 18 < 2 ^ 80 := by decide
  have h3 : (2 : Nat) ^ 80 ≤ 2 ^ 900 := Nat.pow_le_pow_right (by decide) (by decide)
  omega
theorem stepN_figs (b p n : Nat) : stepN b p n = ((figs b n).map (· ^ p)).sum := rfl
theorem sum_cut (f : Nat → Nat) (l : List Nat) (i : Nat) : ((l.take i).map f).sum + ((l.drop i).map f).sum = (l.map f).sum := by
  rw [← List.sum_append, ← List.map_append, List.take_append_drop]
theorem cut_ivs_to (l : List Nat) (i : Nat) : cutV (ivs l) none (some (i : Int)) = ivs (l.take i) := by
  rw [cut_to]
  unfold ivs
  rw [List.map_take]
theorem cut_ivs_from (l : List Nat) (i : Nat) : cutV (ivs l) (some (i : Int)) none = ivs (l.drop i) := by
  rw [cut_from]
  unfold ivs
  rw [List.map_drop]
theorem txt_append (ds es : List Nat) : txt ds ++ txt es = txt (ds ++ es) := by
  show Str.mk ((ds.map sg).toArray ++ (es.map sg).toArray) = Str.mk ((ds ++ es).map sg).toArray
  rw [List.map_append]
  simp
theorem Reads.more {b : Nat} {ds es : List Nat} (h : Reads b ds) (g : ∀ d ∈ es, d < b) (n : ∀ d, ds[0]? = some d → d ≠ 0) : Reads b (ds ++ es) := by
  refine ⟨fun z => h.ne (List.append_eq_nil_iff.mp z).1, fun d hd => (List.mem_append.mp hd).elim (h.below d) (g d), fun d hd h0 => ?_⟩
  have l : 0 < ds.length := List.length_pos_iff.mpr h.ne
  rw [List.getElem?_append_left l] at hd
  exact absurd h0 (n d hd)
theorem figs_first {b n : Nat} (hb : 2 ≤ b) (h : 1 ≤ n) : ∀ d, (figs b n)[0]? = some d → d ≠ 0 := fun d hd h0 => by
  have l := figs_head hb n d hd h0
  obtain ⟨x, hx⟩ := List.length_eq_one_iff.mp l
  have v := val_figs hb n
  rw [hx] at hd v
  have : x = d := Option.some.inj hd
  have v' : 0 * b + x = n := v
  omega
theorem ok__law_steps_right (T : Txt K mg) : FnOk P w K mg base CX0 3 T.f__law_steps_right T.fd__law_steps_right ["deck", "number", "other", "base", "power"] (sp__law_steps_right K) := by
  refine T.F__law_steps_right.ok sc__law_steps_right (fun vs H Q E h => ?_) (fun cdv A outer s H vs Q E hr h => ?_)
  · obtain ⟨_, _, _, _, _, _, _, rfl, _⟩ := h
    rfl
  · obtain ⟨d, c, k, n, m, b, p, rfl, hD, hk, hb, hb16, hp1, hp, n1, hn, hm, q⟩ := h
    have ln := figs_le19 hb hn
    have lm := figs_le19 hb (Nat.le_of_lt hm)
    have hn9 := pow_le_900 hb16 hn
    have hm9 := pow_le_900 hb16 (Nat.le_of_lt hm)
    have l0 : 0 < (figs b n).length := List.length_pos_iff.mpr figs_ne
    refine ⟨_, (pss_cons (ps_set (i := 5) sc__law_steps_right.nd rfl (Or.inl rfl) (pe_call (ok_step_of T) hr (by rfl) T.g_step_of T.F_step_of.kp T.b_step_of .nil pass0 (pa_cons (pv 1) (pa_cons (pv 3) (pa_cons (pv 4) pa_nil)))))
      (pss_cons (ps_set (i := 6) sc__law_steps_right.nd rfl (Or.inr rfl) (pe_callTy (T := "list") call_list_of (by rfl) T.m_list (by decide +kernel) (pa_cons (pe_call (ok_figures_of T) (hr.mono (by decide)) (by rfl) T.g_figures_of T.F_figures_of.kp T.b_figures_of .nil pass0 (pa_cons (pv 1) (pa_cons (pv 3) pa_nil))) pa_nil)))
      (pss_cons (ps_setLc (i := 7) (own := [("k", 8)]) (g := (gName 8)) (tt := tYes) rfl sc__law_steps_right.nd rfl rfl (sw_true rfl rfl rfl (by decide +kernel)) (pi_range1 (by rfl) T.m_range (pa_cons (pe_callB (id := "len") call_len_seq (by rfl) T.m_len (by decide +kernel) (pa_cons (pv 6) pa_nil)) pa_nil)) (blkOk_by (own := [("k", 8)]) (N := ["deck", "number", "other", "base", "power", "step", "figures", "mixed", "k", "at", "both"]) (sc := defScope s__law_steps_right) (by decide +kernel)) (fun _ _ _ _ _ => (pg_name (i := 8) sc__law_steps_right.nd rfl (Or.inl rfl))) (fun _ _ _ _ _ => pts_nil) (fun _ _ _ _ _ => (show PE _ _ (tBM K "list" _ _ _) from pe_bm PySem.F.plainAttrs_list PySem.F.slot_list_pop PySem.F.type_list_pop mt_popAt (pv 6) (pa_cons (pe_call (ok__law_next T) hr (by rfl) T.g__law_next T.F__law_next.kp T.b__law_next .nil pass0 (pa_cons (pv 0) (pa_cons (pe_callB (id := "len") (show CallR _ (.builtin "len") (rLenQ K) from call_len_seq) (by rfl) T.m_len (by decide +kernel) (pa_cons (pv 6) pa_nil)) pa_nil))) pa_nil))))
      (pss_cons (ps_if (pt_cmpR op_ne (pe_call (ok_step_of T) hr (by rfl) T.g_step_of T.F_step_of.kp T.b_step_of .nil pass0 (pa_cons (pe_call (ok__law_of T) (hr.mono (by decide)) (by rfl) T.g__law_of T.F__law_of.kp T.b__law_of .nil pass0 (pa_cons (pv 7) (pa_cons (pv 3) pa_nil))) (pa_cons (pv 3) (pa_cons (pv 4) pa_nil)))) (pv 5) (nomark _)) (pss_one (ps_ret pe_bl)) pss_nil)
      (pss_cons (ps_set (i := 9) sc__law_steps_right.nd rfl (Or.inl rfl) (pe_call (ok__law_next T) hr (by rfl) T.g__law_next T.F__law_next.kp T.b__law_next .nil pass0 (pa_cons (pv 0) (pa_cons (pe_op op_add (pe_callB (id := "len") call_len_seq (by rfl) T.m_len (by decide +kernel) (pa_cons (pv 7) pa_nil)) pe_int) pa_nil))))
      (pss_cons (ps_if (pt_cmpR op_ne (pe_call (ok_step_of T) hr (by rfl) T.g_step_of T.F_step_of.kp T.b_step_of .nil pass0 (pa_cons (pe_call (ok__law_of T) (hr.mono (by decide)) (by rfl) T.g__law_of T.F__law_of.kp T.b__law_of .nil pass0 (pa_cons (pe_op op_cat (pe_op op_cat (pe_slice sl_list (pv 7) po_none (po_some (pv 9))) (pe_lst (pa_cons pe_int pa_nil))) (pe_slice sl_list (pv 7) (po_some (pv 9)) po_none)) (pa_cons (pv 3) pa_nil))) (pa_cons (pv 3) (pa_cons (pv 4) pa_nil)))) (pv 5) (nomark _)) (pss_one (ps_ret pe_bl)) pss_nil)
      (pss_cons (ps_set (i := 10) sc__law_steps_right.nd rfl (Or.inl rfl) (pe_op op_add_str (pe_call (ok_number_shown T) hr (by rfl) T.g_number_shown T.F_number_shown.kp T.b_number_shown .nil pass0 (pa_cons (pv 1) (pa_cons (pv 3) pa_nil))) (pe_call (ok_number_shown T) hr (by rfl) T.g_number_shown T.F_number_shown.kp T.b_number_shown .nil pass0 (pa_cons (pv 2) (pa_cons (pv 3) pa_nil)))))
      (pss_one (ps_ret (pe_cmpR op_eq (pe_call (ok_step_of T) hr (by rfl) T.g_step_of T.F_step_of.kp T.b_step_of .nil pass0 (pa_cons (pe_call (ok_read_number T) (hr.mono (by decide)) (by rfl) T.g_read_number T.F_read_number.kp T.b_read_number .nil pass0 (pa_cons (pv 10) (pa_cons (pv 3) pa_nil))) (pa_cons (pv 3) (pa_cons (pv 4) pa_nil)))) (pe_op op_add (pv 5) (pe_call (ok_step_of T) hr (by rfl) T.g_step_of T.F_step_of.kp T.b_step_of .nil pass0 (pa_cons (pv 2) (pa_cons (pv 3) (pa_cons (pv 4) pa_nil))))) (nomark _))))))))))), ?_⟩
    refine ⟨_, rfl, _, rfl, _, rfl, n, b, p, rfl, hb, hb16, hp, hn9, fun H1 s1 => ?_⟩
    refine ⟨_, rfl, _, rfl, n, b, rfl, hb, hb16, hn9, fun H2 f s2 n2 e2 => ?_⟩
    refine ⟨f, _, rfl, .inr (.of e2), fun F hF => ?_⟩
    generalize g3 : upd H2 F _ = H3
    obtain ⟨s3, t3⟩ := new_of g3 hF
    have D2 := (hD.same s1).same s2
    have D3 := D2.same s3
    have oF := D2.out hF
    -- mixed
    refine ⟨_, rfl, _, _, rfl, .inl (.of t3), _, rfl, by rw [ivs_length]; omega, by rw [ivs_length]; omega, fun M hM => ?_⟩
    have oM := D3.out hM
    have nMF : F ≠ M := ne_of_none t3 hM
    refine lc_range (lo := 0) (n := ((ivs (figs b n)).length : Int).toNat) (fun i H' => But d H3 (upd H' F (.lst (ivs (figs b n)))) ∧ Deck H' d c (k + i) ∧ ∃ mx rs : List Nat, H' M = some (.lst (ivs mx)) ∧ H' F = some (.lst (ivs rs)) ∧ mx.length = i ∧ rs.length + i = (figs b n).length ∧ (∀ x ∈ mx, x < b) ∧ (∀ x ∈ rs, x < b) ∧ (mx.map (· ^ p)).sum + (rs.map (· ^ p)).sum = stepN b p n)
      ⟨fun x o _ e => ?_, D3.new hM, [], figs b n, upd_same, by rw [upd_ne nMF]; exact t3, rfl, by omega, (fun x hx => nomatch hx), (fun x hx => figs_below hb hx), by show 0 + _ = _; rw [Nat.zero_add]; rfl⟩ ?_ ?_
    · by_cases z : x = F
      · subst z
        rw [upd_same]
        rw [t3] at e
        exact e
      · rw [upd_ne z, upd_ne (ne_of_none e hM)]
        exact e
    · rintro i H4 hi ⟨b4, D4, mx, rs, eM, eF, lmx, lrs, hx, hr, hs⟩
      have hi' : i < (figs b n).length := by
        rw [ivs_length] at hi
        omega
      refine ⟨rfl, _, rfl, .inl ⟨rfl, _, .of eF⟩, ?_⟩
      refine ⟨_, rfl, _, rfl, _, _, rfl, .inl (.of eF), d, _, c, k + i, rfl, D4, by omega, by rw [ivs_length]; omega, by rw [ivs_length]; omega, fun H5 r b5 D5 r0 r1 => ?_⟩
      rw [ivs_length] at r1
      have eF5 := b5 _ _ oF.1 eF
      have eM5 := b5 _ _ oM.1 eM
      obtain ⟨j, rfl⟩ : ∃ j : Nat, r = (j : Int) := ⟨r.toNat, by omega⟩
      have hj : j < rs.length := by omega
      have ej : rs[j]? = some rs[j] := List.getElem?_eq_getElem hj
      generalize rs[j] = y at ej
      have yb := hr y (List.mem_of_getElem? ej)
      refine ⟨F, ivs rs, (j : Int), j, _, rfl, rfl, eF5, by omega, by omega, by rw [ivs_length]; exact seq_of hj, ivs_at ej, ?_⟩
      rw [ivs_erase]
      refine ⟨_, by rw [upd_ne nMF.symm]; exact eM5, small1000 (by rw [ivs_length]; omega), fun x o nd e => ?_, ((D5.off oF.1 oF.2).off oM.1 oM.2), mx ++ [y], rs.eraseIdx j, ?_, by rw [upd_ne nMF, upd_same], by rw [List.length_append, lmx]; rfl, ?_, ?_, ?_, ?_⟩
      · have e' := b4 x o nd e
        by_cases z : x = F
        · subst z
          rw [upd_same] at e' ⊢
          exact e'
        · rw [upd_ne z] at e' ⊢
          have nM : x ≠ M := ne_of_none e hM
          rw [upd_ne nM, upd_ne z]
          exact b5 _ _ nd e'
      · rw [upd_same, ivs_append]
        rfl
      · have := List.length_eraseIdx_of_lt hj
        omega
      · intro x hx'
        rcases List.mem_append.mp hx' with h | h
        · exact hx x h
        · cases List.mem_singleton.mp h
          exact yb
      · intro x hx'
        exact hr x (List.mem_of_mem_eraseIdx hx')
      · have := erase_sum (· ^ p) ej
        rw [List.map_append, List.sum_append]
        show _ + (y ^ p + 0) + _ = _
        have t : ((rs.eraseIdx j).map (· ^ p)).sum + y ^ p = (rs.map (· ^ p)).sum := this
        omega
    rintro H4 ⟨b4, D4, mx, rs, eM, eF, lmx, lrs, hx, hr, hs⟩
    have en : ((ivs (figs b n)).length : Int).toNat = (figs b n).length := by rw [ivs_length]; omega
    rw [en] at D4 lmx lrs
    have rs0 : rs = [] := List.length_eq_zero_iff.mp (by omega)
    subst rs0
    have hs' : (mx.map (· ^ p)).sum = stepN b p n := hs
    -- any order
    refine ⟨_, rfl, _, rfl, M, b, mx, rfl, hb16, .inl (.of eM), ?_⟩
    refine ⟨_, rfl, _, rfl, val b mx, b, p, rfl, hb, hb16, hp, val_lt900 hb hb16 hx (by omega), fun H5 s5 => ?_⟩
    rw [step_val hb hp1 mx hx, hs']
    refine ⟨_, rfl, rfl, _, rfl, ?_⟩
    rw [decide_eq_true (p := V.int _ = V.int _) rfl]
    refine iteF ?_
    have D5 := D4.same s5
    have eM5 := s5 _ _ eM
    -- noughts amid
    refine ⟨_, rfl, _, rfl, _, _, rfl, .inl (.of eM5), _, _, rfl, rfl, d, _, c, _, rfl, D5, by omega, by rw [ivs_length]; omega, by rw [ivs_length]; omega, fun H6 r b6 D6 r0 r1 => ?_⟩
    obtain ⟨j, rfl⟩ : ∃ j : Nat, r = (j : Int) := ⟨r.toNat, by omega⟩
    have eM6 := b6 _ _ oM.1 eM5
    refine ⟨_, rfl, _, rfl, _, rfl, M, _, rfl, .of eM6, fun A1 h1 => ?_⟩
    rw [cut_ivs_to]
    generalize g7 : upd H6 A1 _ = H7
    obtain ⟨s7, t7⟩ := new_of g7 h1
    refine ⟨by show 1 ≤ sizeLine; decide, fun A2 h2 => ?_⟩
    generalize g8 : upd H7 A2 _ = H8
    obtain ⟨s8, t8⟩ := new_of g8 h2
    refine ⟨A1, A2, _, _, rfl, rfl, s8 _ _ t7, t8, ?_, fun A3 h3 => ?_⟩
    · rw [ivs_length, List.length_take]
      show _ + 1 ≤ _
      exact Nat.le_of_lt (small1000 (by omega))
    generalize g9 : upd H8 A3 _ = H9
    obtain ⟨s9, t9⟩ := new_of g9 h3
    refine ⟨_, rfl, _, rfl, _, rfl, M, _, rfl, .of (s9 _ _ (s8 _ _ (s7 _ _ eM6))), fun A4 h4 => ?_⟩
    rw [cut_ivs_from]
    generalize ga : upd H9 A4 _ = Ha
    obtain ⟨sa, ta⟩ := new_of ga h4
    refine ⟨A3, A4, _, _, rfl, rfl, sa _ _ t9, ta, ?_, fun A5 h5 => ?_⟩
    · rw [List.length_append, ivs_length, ivs_length, List.length_take, List.length_drop]
      show _ + 1 + _ ≤ _
      exact Nat.le_of_lt (small1000 (by omega))
    have eW : ivs (mx.take j) ++ [V.int 0] ++ ivs (mx.drop j) = ivs (mx.take j ++ [0] ++ mx.drop j) := by
      rw [ivs_append, ivs_append]
      rfl
    rw [eW]
    generalize gb : upd Ha A5 _ = Hb
    obtain ⟨sb, tb⟩ := new_of gb h5
    have wb : ∀ x ∈ mx.take j ++ [0] ++ mx.drop j, x < b := fun x h => by
      rcases List.mem_append.mp h with h | h
      · rcases List.mem_append.mp h with h | h
        · exact hx x (List.mem_of_mem_take h)
        · cases List.mem_singleton.mp h
          omega
      · exact hx x (List.mem_of_mem_drop h)
    have ws : ((mx.take j ++ [0] ++ mx.drop j).map (· ^ p)).sum = stepN b p n := by
      rw [List.map_append, List.map_append, List.sum_append, List.sum_append, ← hs', ← sum_cut (· ^ p) mx j]
      show _ + (0 ^ p + 0) + _ = _
      rw [zero_pow' hp1]
      omega
    have wl : (mx.take j ++ [0] ++ mx.drop j).length ≤ 200 := by
      rw [List.length_append, List.length_append, List.length_take, List.length_drop]
      show _ + 1 + _ ≤ _
      omega
    generalize mx.take j ++ [0] ++ mx.drop j = w' at wb ws wl tb
    refine ⟨_, rfl, A5, b, w', rfl, hb16, .inl (.of tb), ?_⟩
    refine ⟨_, rfl, _, rfl, val b w', b, p, rfl, hb, hb16, hp, val_lt900 hb hb16 wb wl, fun Hc sc => ?_⟩
    rw [step_val hb hp1 w' wb, ws]
    refine ⟨_, rfl, rfl, _, rfl, ?_⟩
    rw [decide_eq_true (p := V.int _ = V.int _) rfl]
    refine iteF ?_
    have Dc := (((((D6.same s7).same s8).same s9).same sa).same sb).same sc
    -- both, one behind the other
    refine ⟨_, rfl, _, rfl, n, b, rfl, hb, hb16, hn9, fun Hd sd => ?_⟩
    refine ⟨_, rfl, _, rfl, m, b, rfl, hb, hb16, hm9, fun He se => ?_⟩
    refine ⟨_, _, rfl, rfl, ?_, ?_⟩
    · rw [txt_len, txt_len]
      exact Nat.le_of_lt (small1000 (by omega))
    have bb : ∀ x ∈ figs b n ++ figs b m, x < b := fun x h => (List.mem_append.mp h).elim (fun h => figs_below hb h) fun h => figs_below hb h
    refine ⟨_, rfl, _, rfl, figs b n ++ figs b m, b, ?_, hb, hb16, (Reads.figs hb n).more (fun x h => figs_below hb h) (figs_first hb n1), by rw [List.length_append]; omega, fun Hf sf => ?_⟩
    · show [V.str (txt (figs b n) ++ txt (figs b m)), _] = _
      rw [txt_append]
    refine ⟨_, rfl, _, rfl, val b (figs b n ++ figs b m), b, p, rfl, hb, hb16, hp, val_lt900 hb hb16 bb (by rw [List.length_append]; omega), fun Hg sg' => ?_⟩
    refine ⟨_, rfl, _, rfl, _, rfl, _, rfl, m, b, p, rfl, hb, hb16, hp, hm9, fun Hh sh => ?_⟩
    have eS : stepN b p (val b (figs b n ++ figs b m)) = stepN b p n + stepN b p m := by
      rw [step_val hb hp1 _ bb, List.map_append, List.sum_append]
      rfl
    refine ⟨_, _, rfl, rfl, rfl, ?_⟩
    rw [eS]
    show Q (.bl (decide (V.int ((stepN b p n + stepN b p m : Nat) : Int) = V.int ((stepN b p n : Nat) + (stepN b p m : Nat) : Int)))) Hh
    rw [Int.natCast_add, decide_eq_true rfl]
    exact q _ ((((((Dc.same sd).same se).same sf).same sg').same sh).mono (by omega))

/-! ### law -/
def sp_law (K : PySem.W.Frag) : Sp := fun vs H Q _ => ∃ (a : Addr) (ns : List Int), vs = [.ref a] ∧ SqL K H a (ns.map V.int) ∧ ns.length ≤ 63 ∧ ∀ H', Q (.bl true) H'
theorem law_start {K : PySem.W.Frag} {H : Hp} {a : Addr} {ns : List Int} {E : XK} (hl : ns.length ≤ 63) (hS : SqL K H a (ns.map V.int)) : sp_law K [.ref a] H (fun v _ => v = .bl true) E := ⟨a, ns, rfl, hS, hl, fun _ => rfl⟩
theorem itN_add (b p n : Nat) (i : Nat) : ∀ j, itN b p (itN b p n i) j = itN b p n (i + j)
  | 0 => rfl
  | j + 1 => by
    show stepN b p (itN b p (itN b p n i) j) = stepN b p (itN b p n (i + j))
    rw [itN_add b p n i j]
theorem row_ext {b p n m i : Nat} : (rowN b p n m)[i]? = if i < m then some (itN b p n i) else none := by
  by_cases h : i < m
  · rw [if_pos h, rowN_get b p n m i h]
  · rw [if_neg h, List.getElem?_eq_none (by rw [rowN_len]; omega)]
theorem row_from_at {b p n m i : Nat} (h : i ≤ m) : rowN b p (itN b p n i) (m - i) = (rowN b p n m).drop i := by
  refine List.ext_getElem? fun j => ?_
  rw [List.getElem?_drop, row_ext, row_ext, itN_add]
  by_cases c : j < m - i
  · rw [if_pos c, if_pos (by omega)]
  · rw [if_neg c, if_neg (by omega)]
theorem row_to {b p n m i : Nat} (h : i ≤ m) : rowN b p n i = (rowN b p n m).take i := by
  refine List.ext_getElem? fun j => ?_
  rw [List.getElem?_take, row_ext, row_ext]
  by_cases c : j < i
  · rw [if_pos c, if_pos c, if_pos (by omega)]
  · rw [if_neg c, if_neg c]
/-- a slice of a tuple of numbers, the whole one or a new one -/
theorem slice_tup {K : PySem.W.Frag} {H : Hp} {a : Addr} {xs : List V} {lo hi : Option Int} {Q : V → Hp → Prop} (h : H a = some (.tup xs)) (k : ∀ H' p, Same H H' → H' p = some (.tup (cutV xs lo hi)) → Q (.ref p) H') : rSlA K (.ref a) lo hi H Q := by
  refine ⟨a, xs, rfl, .of h, fun ⟨z1, z2⟩ => ?_, fun _ p hp => k _ p (Same.new hp) upd_same⟩
  refine k H a (Same.refl _) ?_
  rw [h]
  unfold cutV
  rw [z1, z2, List.drop_zero, Nat.sub_zero, List.take_length]
theorem drop_ivs (l : List Nat) (i : Nat) : cutV (ivs l) (some (i : Int)) none = ivs (l.drop i) := by
  rw [cut_from]
  unfold ivs
  rw [List.map_drop]
theorem take_ivs (l : List Nat) (i : Nat) : cutV (ivs l) none (some (i : Int)) = ivs (l.take i) := by
  rw [cut_to]
  unfold ivs
  rw [List.map_take]
theorem ok_law (T : Txt K mg) : FnOk P w K mg base CX0 4 T.f_law T.fd_law ["script"] (sp_law K) := by
  refine T.F_law.ok sc_law (fun vs H Q E h => ?_) (fun cdv A outer s H vs Q E hr h => ?_)
  · obtain ⟨_, _, rfl, _⟩ := h
    rfl
  · obtain ⟨a, ns, rfl, hS, hl, q⟩ := h
    refine ⟨_, (pss_cons (ps_set (i := 1) sc_law.nd rfl (Or.inl rfl) (pe_call (ok__law_deck T) (hr.mono (by decide)) (by rfl) T.g__law_deck T.F__law_deck.kp T.b__law_deck .nil pass0 (pa_cons (pv 0) pa_nil)))
      (pss_cons (ps_for PassesOwn.never rfl (pi_range1 (by rfl) T.m_range (pa_cons pe_int pa_nil)) (pg_name (i := 2) sc_law.nd rfl (Or.inl rfl)) (pss_cons (ps_asg (pe_call (ok__law_pair T) hr (by rfl) T.g__law_pair T.F__law_pair.kp T.b__law_pair .nil pass0 (pa_cons (pv 1) pa_nil)) (pg_tup rfl (pgs_cons (pg_name (i := 3) sc_law.nd rfl (Or.inl rfl)) (pgs_cons (pg_name (i := 4) sc_law.nd rfl (Or.inl rfl)) pgs_nil))))
      (pss_cons (ps_set (i := 5) sc_law.nd rfl (Or.inl rfl) (pe_call (ok__law_number T) hr (by rfl) T.g__law_number T.F__law_number.kp T.b__law_number .nil pass0 (pa_cons (pv 1) (pa_cons (pv 3) pa_nil))))
      (pss_cons (ps_set (i := 6) sc_law.nd rfl (Or.inl rfl) (pe_call (ok__law_number T) hr (by rfl) T.g__law_number T.F__law_number.kp T.b__law_number .nil pass0 (pa_cons (pv 1) (pa_cons (pv 3) pa_nil))))
      (pss_cons (ps_if (pt_not (pt_val (pe_call (ok__law_shown_right T) hr (by rfl) T.g__law_shown_right T.F__law_shown_right.kp T.b__law_shown_right .nil pass0 (pa_cons (pv 5) (pa_cons (pv 6) (pa_cons (pv 3) pa_nil)))))) (pss_one (ps_ret pe_bl)) pss_nil)
      (pss_cons (ps_set (i := 7) sc_law.nd rfl (Or.inl rfl) pe_int)
      (pss_cons (ps_for PassesOwn.never rfl (pi_range1 (by rfl) T.m_range (pa_cons pe_int pa_nil)) (pg_name (i := 8) sc_law.nd rfl (Or.inl rfl)) (pss_one (ps_set (i := 7) sc_law.nd rfl (Or.inl rfl) (pe_op op_mul (pv 7) (pv 3)))))
      (pss_cons (ps_if (pt_not (pt_val (pe_call (ok__law_steps_right T) hr (by rfl) T.g__law_steps_right T.F__law_steps_right.kp T.b__law_steps_right .nil pass0 (pa_cons (pv 1) (pa_cons (pe_op op_add pe_int (pe_op op_mod (pv 5) (pv 7))) (pa_cons (pe_op op_mod (pv 6) (pv 7)) (pa_cons (pv 3) (pa_cons (pv 4) pa_nil)))))))) (pss_one (ps_ret pe_bl)) pss_nil)
      (pss_cons (ps_set (i := 9) sc_law.nd rfl (Or.inl rfl) (pe_call (ok_row_from T) hr (by rfl) T.g_row_from T.F_row_from.kp T.b_row_from .nil pass0 (pa_cons (pv 5) (pa_cons (pv 3) (pa_cons (pv 4) (pa_cons pe_int pa_nil))))))
      (pss_cons (ps_set (i := 10) sc_law.nd rfl (Or.inl rfl) (pe_call (ok__law_next T) (hr.mono (by decide)) (by rfl) T.g__law_next T.F__law_next.kp T.b__law_next .nil pass0 (pa_cons (pv 1) (pa_cons pe_int pa_nil))))
      (pss_cons (ps_if (PW.pt (pw_or (pt_cmpR (op_neD hr.units) (pe_call (ok_row_from T) hr (by rfl) T.g_row_from T.F_row_from.kp T.b_row_from .nil pass0 (pa_cons (pe_ix ix_tup (pv 9) (pv 10) (fun _ _ => rfl)) (pa_cons (pv 3) (pa_cons (pv 4) (pa_cons (pe_op op_sub pe_int (pv 10)) pa_nil))))) (pe_slice sl_tupA (pv 9) (po_some (pv 10)) po_none) (nomark _)) (pw_or1 (pt_cmpR (op_neD hr.units) (pe_call (ok_row_from T) hr (by rfl) T.g_row_from T.F_row_from.kp T.b_row_from .nil pass0 (pa_cons (pv 5) (pa_cons (pv 3) (pa_cons (pv 4) (pa_cons (pv 10) pa_nil))))) (pe_slice sl_tupA (pv 9) po_none (po_some (pv 10))) (nomark _))))) (pss_one (ps_ret pe_bl)) pss_nil)
      (pss_one (ps_if (pt_cmpR op_ne (pe_call (ok_step_of T) (hr.mono (by decide)) (by rfl) T.g_step_of T.F_step_of.kp T.b_step_of .nil pass0 (pa_cons (pe_ix ix_tup (pv 9) pe_int (fun _ _ => rfl)) (pa_cons (pv 3) (pa_cons (pv 4) pa_nil)))) (pe_ix ix_tup (pv 9) pe_int (fun _ _ => rfl)) (nomark _)) (pss_one (ps_ret pe_bl)) pss_nil)))))))))))))
      (pss_one (ps_ret pe_bl)))), ?_⟩
    refine ⟨_, rfl, a, ns, rfl, hS, fun H1 d c s1 nd nc D1 => ?_⟩
    refine ⟨6, rfl, by decide, by decide, for_range (lo := 0) (n := 6) (fun i σ' H' => Deck H' d c (100 * i) ∧ ∃ y2 y3 y4 y5 y6 y7 y8 y9 y10, σ' = [some (.ref a), some (.ref d), y2, y3, y4, y5, y6, y7, y8, y9, y10]) ⟨D1, _, _, _, _, _, _, _, _, _, rfl⟩ ?_ ?_⟩
    · rintro i σ' H2 hi ⟨D2, y2, y3, y4, y5, y6, y7, y8, y9, y10, rfl⟩
      refine ⟨_, rfl, d, c, 100 * i, rfl, D2, by omega, fun H3 pa b' p' b3 D3 n3 e3 ok => ?_⟩
      obtain ⟨b, p, rfl, rfl, hb, hb16, hp1, hp⟩ := ok.nat
      refine ⟨pa, _, rfl, .of e3, rfl, _, _, rfl, _, _, rfl, rfl, ?_⟩
      refine ⟨_, rfl, _, rfl, d, (b : Int), c, _, rfl, D3, by omega, by omega, by omega, fun H4 r4 b4 D4 u4 v4 => ?_⟩
      refine ⟨_, rfl, _, rfl, d, (b : Int), c, _, rfl, D4, by omega, by omega, by omega, fun H5 r5 b5 D5 u5 v5 => ?_⟩
      obtain ⟨n, rfl⟩ : ∃ n : Nat, r4 = (n : Int) := ⟨r4.toNat, by omega⟩
      obtain ⟨m, rfl⟩ : ∃ m : Nat, r5 = (m : Int) := ⟨r5.toNat, by omega⟩
      have hn : n < 16 ^ 40 := by omega
      have hm : m < 16 ^ 40 := by omega
      refine ⟨_, rfl, _, rfl, _, rfl, n, m, b, rfl, hb, hb16, hn, hm, fun H6 s6 => ⟨_, rfl, iteF ?_⟩⟩
      have D6 := D5.same s6
      -- less
      refine ⟨18, rfl, by decide, by decide, for_range (lo := 0) (n := 18) (fun k σ' H' => H' = H6 ∧ ∃ y8, σ' = [some (.ref a), some (.ref d), some (.int (0 + (i : Int))), some (.int (b : Int)), some (.int (p : Int)), some (.int (n : Int)), some (.int (m : Int)), some (.int (b ^ k : Nat)), y8, y9, y10]) ⟨rfl, y8, rfl⟩ ?_ ?_⟩
      · rintro k σ' H' hk ⟨rfl, z8, rfl⟩
        refine ⟨_, rfl, _, rfl, _, _, rfl, rfl, .inr (by omega), rfl, some (.int (0 + (k : Int))), ?_⟩
        rw [Nat.pow_succ]
        rfl
      rintro σ' H' ⟨rfl, z8, rfl⟩
      have lp : 0 < b ^ 18 := Nat.pow_pos (by omega)
      have l1 := Nat.mod_lt n lp
      have q1 : 1 ≤ 1 + n % b ^ 18 := Nat.le_add_right 1 _
      have q2 : 1 + n % b ^ 18 ≤ b ^ 18 := by
        rw [Nat.add_comm]
        exact l1
      have wp : (0 : Int) < ((b ^ 18 : Nat) : Int) := by omega
      have l2 := Nat.mod_lt m lp
      refine ⟨_, rfl, _, rfl, _, rfl, _, _, rfl, rfl, wp, 1, _, rfl, rfl, _, rfl, _, rfl, _, _, rfl, rfl, wp, _, rfl, _, rfl, d, c, _, 1 + n % b ^ 18, m % b ^ 18, b, p, ?_, D6, by omega, hb, hb16, hp1, hp, q1, q2, l2, fun H7 D7 => ⟨_, rfl, iteF ?_⟩⟩
      · rw [Int.natCast_add]
        rfl
      -- the row
      refine ⟨_, rfl, _, rfl, _, rfl, n, b, p, 60, rfl, hb, hb16, hp, lt900 hn, by decide, fun H8 ro s8 n8 e8 => ?_⟩
      have D8 := D7.same s8
      refine ⟨_, rfl, d, 60, c, _, rfl, D8, by omega, by decide, by decide, fun H9 r9 b9 D9 u9 v9 => ?_⟩
      obtain ⟨j, rfl⟩ : ∃ j : Nat, r9 = (j : Int) := ⟨r9.toNat, by omega⟩
      have hj : j < 60 := by omega
      have e9 := b9.tup D8 e8
      have rj : atI (ivs (rowN b p n 60)) (j : Int) = some (.int (itN b p n j : Nat)) := atI_nat (ivs_at (rowN_get b p n 60 j hj))
      refine ⟨_, rfl, _, rfl, ro, _, _, _, rfl, rfl, .of e9, rj, _, rfl, _, rfl, _, rfl, 60, _, rfl, rfl, itN b p n j, b, p, 60 - j, ?_, hb, hb16, hp, itN_lt hb hb16 hp (lt900 hn) j, by omega, fun Ha ta sa na ea => ?_⟩
      · show [_, _, _, V.int ((60 : Int) - (j : Int))] ++ [] = _
        rw [show (60 : Int) - (j : Int) = ((60 - j : Nat) : Int) by omega]
        rfl
      refine ⟨_, rfl, _, rfl, _, rfl, ?_⟩
      dsimp only [tNoPart]
      refine slice_tup (sa _ _ e9) fun Hb tb sb eb => ?_
      rw [drop_ivs, ← row_from_at (Nat.le_of_lt hj)] at eb
      refine ⟨_, _, .tup (.of (sb _ _ ea)) (dpAll_ivs _), .tup (.of eb) (dpAll_ivs _), shaped_tints _, shaped_tints _, _, rfl, ?_⟩
      rw [eqv_same (shaped_tints _)]
      refine iteF ?_
      refine ⟨_, rfl, _, rfl, _, rfl, _, rfl, n, b, p, j, rfl, hb, hb16, hp, lt900 hn, by omega, fun Hc tc sc nc ec => ?_⟩
      refine ⟨_, rfl, _, rfl, _, rfl, ?_⟩
      dsimp only [tNoPart]
      refine slice_tup (sc _ _ (sb _ _ (sa _ _ e9))) fun Hd td sd ed => ?_
      rw [take_ivs, ← row_to (Nat.le_of_lt hj)] at ed
      refine ⟨_, _, .tup (.of (sd _ _ ec)) (dpAll_ivs _), .tup (.of ed) (dpAll_ivs _), shaped_tints _, shaped_tints _, _, rfl, ?_⟩
      rw [eqv_same (shaped_tints _)]
      refine iteF ?_
      have ee := sd _ _ (sc _ _ (sb _ _ (sa _ _ e9)))
      refine ⟨_, rfl, ro, _, 58, _, rfl, rfl, .of ee, atI_nat (j := 58) (ivs_at (rowN_get b p n 60 58 (by decide))), ?_⟩
      refine ⟨_, rfl, _, rfl, itN b p n 58, b, p, rfl, hb, hb16, hp, itN_lt hb hb16 hp (lt900 hn) 58, fun Hf sf => ?_⟩
      refine ⟨_, rfl, ro, _, 59, _, rfl, rfl, .of (sf _ _ ee), atI_nat (j := 59) (ivs_at (rowN_get b p n 60 59 (by decide))), rfl, _, rfl, ?_⟩
      rw [decide_eq_true (show V.int (stepN b p (itN b p n 58) : Nat) = V.int (itN b p n 59 : Nat) from rfl)]
      refine iteF ?_
      exact ⟨(((((D9.same sa).same sb).same sc).same sd).same sf).mono (by omega), _, _, _, _, _, _, _, _, _, rfl⟩
    · rintro σ' H2 ⟨D2, y2, y3, y4, y5, y6, y7, y8, y9, y10, rfl⟩
      exact q _

end
theorem all_mk {l : PySem.W.OpenLaw} {w : World} {K : PySem.W.Frag} {h : Heap} {mg : Str → Option Value} {fa f0 f1 f2 f3 f4 f5 f6 f7 f8 f9 f10 f11 f12 f13 f14 : Addr} (X : K.In h) (G : h.Ns mainGlobals mg) (hfa : mg "law" = some (.ref fa))
    {od0 an0 od1 an1 od2 an2 od3 an3 od4 an4 od5 an5 od6 an6 od7 an7 od8 an8 od9 an9 od10 an10 od11 an11 od12 an12 od13 an13 od14 an14 : Option Addr} {sl0 sl1 sl2 sl3 sl4 sl5 sl6 sl7 sl8 sl9 sl10 sl11 sl12 sl13 sl14 : Array (Option Value)} {oc0 kV0 dc0 pm0 cd0 ct0 oc1 kV1 dc1 pm1 cd1 ct1 oc2 kV2 dc2 pm2 cd2 ct2 oc3 kV3 dc3 pm3 cd3 ct3 oc4 kV4 dc4 pm4 cd4 ct4 oc5 kV5 dc5 pm5 cd5 ct5 oc6 kV6 dc6 pm6 cd6 ct6 oc7 kV7 dc7 pm7 cd7 ct7 oc8 kV8 dc8 pm8 cd8 ct8 oc9 kV9 dc9 pm9 cd9 ct9 oc10 kV10 dc10 pm10 cd10 ct10 oc11 kV11 dc11 pm11 cd11 ct11 oc12 kV12 dc12 pm12 cd12 ct12 oc13 kV13 dc13 pm13 cd13 ct13 oc14 kV14 dc14 pm14 cd14 ct14 : Value}
    (a0 : PySem.W.nsIn K mainGlobals "read_number" = some (some (.ref f0))) (l0 : K.lookup f0 = some ⟨oc0, od0, .func (PySem.W.fnOf "read_number" "read_number" (defArgs s_read_number) (defBody s_read_number) (defScope s_read_number) .none kV0 dc0 pm0 an0 cd0 ct0), sl0⟩) (c0 : PySem.W.codeIn K cd0 "read_number" = true) (k0 : PySem.W.keepIn K (.ref f0) = true)
    (a1 : PySem.W.nsIn K mainGlobals "figures_of" = some (some (.ref f1))) (l1 : K.lookup f1 = some ⟨oc1, od1, .func (PySem.W.fnOf "figures_of" "figures_of" (defArgs s_figures_of) (defBody s_figures_of) (defScope s_figures_of) .none kV1 dc1 pm1 an1 cd1 ct1), sl1⟩) (c1 : PySem.W.codeIn K cd1 "figures_of" = true) (k1 : PySem.W.keepIn K (.ref f1) = true)
    (a2 : PySem.W.nsIn K mainGlobals "number_shown" = some (some (.ref f2))) (l2 : K.lookup f2 = some ⟨oc2, od2, .func (PySem.W.fnOf "number_shown" "number_shown" (defArgs s_number_shown) (defBody s_number_shown) (defScope s_number_shown) .none kV2 dc2 pm2 an2 cd2 ct2), sl2⟩) (c2 : PySem.W.codeIn K cd2 "number_shown" = true) (k2 : PySem.W.keepIn K (.ref f2) = true)
    (a3 : PySem.W.nsIn K mainGlobals "power_of" = some (some (.ref f3))) (l3 : K.lookup f3 = some ⟨oc3, od3, .func (PySem.W.fnOf "power_of" "power_of" (defArgs s_power_of) (defBody s_power_of) (defScope s_power_of) .none kV3 dc3 pm3 an3 cd3 ct3), sl3⟩) (c3 : PySem.W.codeIn K cd3 "power_of" = true) (k3 : PySem.W.keepIn K (.ref f3) = true)
    (a4 : PySem.W.nsIn K mainGlobals "step_of" = some (some (.ref f4))) (l4 : K.lookup f4 = some ⟨oc4, od4, .func (PySem.W.fnOf "step_of" "step_of" (defArgs s_step_of) (defBody s_step_of) (defScope s_step_of) .none kV4 dc4 pm4 an4 cd4 ct4), sl4⟩) (c4 : PySem.W.codeIn K cd4 "step_of" = true) (k4 : PySem.W.keepIn K (.ref f4) = true)
    (a5 : PySem.W.nsIn K mainGlobals "row_from" = some (some (.ref f5))) (l5 : K.lookup f5 = some ⟨oc5, od5, .func (PySem.W.fnOf "row_from" "row_from" (defArgs s_row_from) (defBody s_row_from) (defScope s_row_from) .none kV5 dc5 pm5 an5 cd5 ct5), sl5⟩) (c5 : PySem.W.codeIn K cd5 "row_from" = true) (k5 : PySem.W.keepIn K (.ref f5) = true)
    (a6 : PySem.W.nsIn K mainGlobals "_law_mix" = some (some (.ref f6))) (l6 : K.lookup f6 = some ⟨oc6, od6, .func (PySem.W.fnOf "_law_mix" "_law_mix" (defArgs s__law_mix) (defBody s__law_mix) (defScope s__law_mix) .none kV6 dc6 pm6 an6 cd6 ct6), sl6⟩) (c6 : PySem.W.codeIn K cd6 "_law_mix" = true) (k6 : PySem.W.keepIn K (.ref f6) = true)
    (a7 : PySem.W.nsIn K mainGlobals "_law_deck" = some (some (.ref f7))) (l7 : K.lookup f7 = some ⟨oc7, od7, .func (PySem.W.fnOf "_law_deck" "_law_deck" (defArgs s__law_deck) (defBody s__law_deck) (defScope s__law_deck) .none kV7 dc7 pm7 an7 cd7 ct7), sl7⟩) (c7 : PySem.W.codeIn K cd7 "_law_deck" = true) (k7 : PySem.W.keepIn K (.ref f7) = true)
    (a8 : PySem.W.nsIn K mainGlobals "_law_next" = some (some (.ref f8))) (l8 : K.lookup f8 = some ⟨oc8, od8, .func (PySem.W.fnOf "_law_next" "_law_next" (defArgs s__law_next) (defBody s__law_next) (defScope s__law_next) .none kV8 dc8 pm8 an8 cd8 ct8), sl8⟩) (c8 : PySem.W.codeIn K cd8 "_law_next" = true) (k8 : PySem.W.keepIn K (.ref f8) = true)
    (a9 : PySem.W.nsIn K mainGlobals "_law_pair" = some (some (.ref f9))) (l9 : K.lookup f9 = some ⟨oc9, od9, .func (PySem.W.fnOf "_law_pair" "_law_pair" (defArgs s__law_pair) (defBody s__law_pair) (defScope s__law_pair) .none kV9 dc9 pm9 an9 cd9 ct9), sl9⟩) (c9 : PySem.W.codeIn K cd9 "_law_pair" = true) (k9 : PySem.W.keepIn K (.ref f9) = true)
    (a10 : PySem.W.nsIn K mainGlobals "_law_number" = some (some (.ref f10))) (l10 : K.lookup f10 = some ⟨oc10, od10, .func (PySem.W.fnOf "_law_number" "_law_number" (defArgs s__law_number) (defBody s__law_number) (defScope s__law_number) .none kV10 dc10 pm10 an10 cd10 ct10), sl10⟩) (c10 : PySem.W.codeIn K cd10 "_law_number" = true) (k10 : PySem.W.keepIn K (.ref f10) = true)
    (a11 : PySem.W.nsIn K mainGlobals "_law_of" = some (some (.ref f11))) (l11 : K.lookup f11 = some ⟨oc11, od11, .func (PySem.W.fnOf "_law_of" "_law_of" (defArgs s__law_of) (defBody s__law_of) (defScope s__law_of) .none kV11 dc11 pm11 an11 cd11 ct11), sl11⟩) (c11 : PySem.W.codeIn K cd11 "_law_of" = true) (k11 : PySem.W.keepIn K (.ref f11) = true)
    (a12 : PySem.W.nsIn K mainGlobals "_law_shown_right" = some (some (.ref f12))) (l12 : K.lookup f12 = some ⟨oc12, od12, .func (PySem.W.fnOf "_law_shown_right" "_law_shown_right" (defArgs s__law_shown_right) (defBody s__law_shown_right) (defScope s__law_shown_right) .none kV12 dc12 pm12 an12 cd12 ct12), sl12⟩) (c12 : PySem.W.codeIn K cd12 "_law_shown_right" = true) (k12 : PySem.W.keepIn K (.ref f12) = true)
    (a13 : PySem.W.nsIn K mainGlobals "_law_steps_right" = some (some (.ref f13))) (l13 : K.lookup f13 = some ⟨oc13, od13, .func (PySem.W.fnOf "_law_steps_right" "_law_steps_right" (defArgs s__law_steps_right) (defBody s__law_steps_right) (defScope s__law_steps_right) .none kV13 dc13 pm13 an13 cd13 ct13), sl13⟩) (c13 : PySem.W.codeIn K cd13 "_law_steps_right" = true) (k13 : PySem.W.keepIn K (.ref f13) = true)
    (a14 : PySem.W.nsIn K mainGlobals "law" = some (some (.ref f14))) (l14 : K.lookup f14 = some ⟨oc14, od14, .func (PySem.W.fnOf "law" "law" (defArgs s_law) (defBody s_law) (defScope s_law) .none kV14 dc14 pm14 an14 cd14 ct14), sl14⟩) (c14 : PySem.W.codeIn K cd14 "law" = true) (k14 : PySem.W.keepIn K (.ref f14) = true)
    (z0 : PySem.W.nsIn K mainGlobals "enumerate" = some none)
    (z1 : PySem.W.nsIn K mainGlobals "int" = some none)
    (z2 : PySem.W.nsIn K mainGlobals "len" = some none)
    (z3 : PySem.W.nsIn K mainGlobals "list" = some none)
    (z4 : PySem.W.nsIn K mainGlobals "max" = some none)
    (z5 : PySem.W.nsIn K mainGlobals "range" = some none)
    (z6 : PySem.W.nsIn K mainGlobals "sum" = some none)
    (z7 : PySem.W.nsIn K mainGlobals "tuple" = some none)
    {u0 : Tok} (y0 : PySem.W.nsIn K mainGlobals "FIGURES" = some (some (.str "0123456789abcdef" u0)))
    : ∃ fd : FuncData, (∀ (s : Shared) (v : Value), BindsTo s fd ⟨[v], []⟩ [("script", v)]) ∧ ∀ base : Heap, K.In base → base.Ns mainGlobals mg → FnOk l.prog w K mg base CX0 4 fa fd ["script"] (sp_law K) := by
  have e := hfa.symm.trans (PySem.W.mg_of X G a14)
  cases e
  have F0 := fun_mk (st := s_read_number) l0 c0 k0
  have F1 := fun_mk (st := s_figures_of) l1 c1 k1
  have F2 := fun_mk (st := s_number_shown) l2 c2 k2
  have F3 := fun_mk (st := s_power_of) l3 c3 k3
  have F4 := fun_mk (st := s_step_of) l4 c4 k4
  have F5 := fun_mk (st := s_row_from) l5 c5 k5
  have F6 := fun_mk (st := s__law_mix) l6 c6 k6
  have F7 := fun_mk (st := s__law_deck) l7 c7 k7
  have F8 := fun_mk (st := s__law_next) l8 c8 k8
  have F9 := fun_mk (st := s__law_pair) l9 c9 k9
  have F10 := fun_mk (st := s__law_number) l10 c10 k10
  have F11 := fun_mk (st := s__law_of) l11 c11 k11
  have F12 := fun_mk (st := s__law_shown_right) l12 c12 k12
  have F13 := fun_mk (st := s__law_steps_right) l13 c13 k13
  have F14 := fun_mk (st := s_law) l14 c14 k14
  let T : Txt K mg := {
    f_read_number := f0,
    fd_read_number := _,
    F_read_number := F0,
    g_read_number := PySem.W.mg_of X G a0,
    b_read_number := F0.binds (ps := ["text", "base"]) (fun _ _ _ _ _ _ us hl => match us, hl with | [_, _], _ => rfl),
    f_figures_of := f1,
    fd_figures_of := _,
    F_figures_of := F1,
    g_figures_of := PySem.W.mg_of X G a1,
    b_figures_of := F1.binds (ps := ["number", "base"]) (fun _ _ _ _ _ _ us hl => match us, hl with | [_, _], _ => rfl),
    f_number_shown := f2,
    fd_number_shown := _,
    F_number_shown := F2,
    g_number_shown := PySem.W.mg_of X G a2,
    b_number_shown := F2.binds (ps := ["number", "base"]) (fun _ _ _ _ _ _ us hl => match us, hl with | [_, _], _ => rfl),
    f_power_of := f3,
    fd_power_of := _,
    F_power_of := F3,
    g_power_of := PySem.W.mg_of X G a3,
    b_power_of := F3.binds (ps := ["figure", "power"]) (fun _ _ _ _ _ _ us hl => match us, hl with | [_, _], _ => rfl),
    f_step_of := f4,
    fd_step_of := _,
    F_step_of := F4,
    g_step_of := PySem.W.mg_of X G a4,
    b_step_of := F4.binds (ps := ["number", "base", "power"]) (fun _ _ _ _ _ _ us hl => match us, hl with | [_, _, _], _ => rfl),
    f_row_from := f5,
    fd_row_from := _,
    F_row_from := F5,
    g_row_from := PySem.W.mg_of X G a5,
    b_row_from := F5.binds (ps := ["number", "base", "power", "many"]) (fun _ _ _ _ _ _ us hl => match us, hl with | [_, _, _, _], _ => rfl),
    f__law_mix := f6,
    fd__law_mix := _,
    F__law_mix := F6,
    g__law_mix := PySem.W.mg_of X G a6,
    b__law_mix := F6.binds (ps := ["cell", "k"]) (fun _ _ _ _ _ _ us hl => match us, hl with | [_, _], _ => rfl),
    f__law_deck := f7,
    fd__law_deck := _,
    F__law_deck := F7,
    g__law_deck := PySem.W.mg_of X G a7,
    b__law_deck := F7.binds (ps := ["script"]) (fun _ _ _ _ _ _ us hl => match us, hl with | [_], _ => rfl),
    f__law_next := f8,
    fd__law_next := _,
    F__law_next := F8,
    g__law_next := PySem.W.mg_of X G a8,
    b__law_next := F8.binds (ps := ["deck", "many"]) (fun _ _ _ _ _ _ us hl => match us, hl with | [_, _], _ => rfl),
    f__law_pair := f9,
    fd__law_pair := _,
    F__law_pair := F9,
    g__law_pair := PySem.W.mg_of X G a9,
    b__law_pair := F9.binds (ps := ["deck"]) (fun _ _ _ _ _ _ us hl => match us, hl with | [_], _ => rfl),
    f__law_number := f10,
    fd__law_number := _,
    F__law_number := F10,
    g__law_number := PySem.W.mg_of X G a10,
    b__law_number := F10.binds (ps := ["deck", "base"]) (fun _ _ _ _ _ _ us hl => match us, hl with | [_, _], _ => rfl),
    f__law_of := f11,
    fd__law_of := _,
    F__law_of := F11,
    g__law_of := PySem.W.mg_of X G a11,
    b__law_of := F11.binds (ps := ["figures", "base"]) (fun _ _ _ _ _ _ us hl => match us, hl with | [_, _], _ => rfl),
    f__law_shown_right := f12,
    fd__law_shown_right := _,
    F__law_shown_right := F12,
    g__law_shown_right := PySem.W.mg_of X G a12,
    b__law_shown_right := F12.binds (ps := ["number", "other", "base"]) (fun _ _ _ _ _ _ us hl => match us, hl with | [_, _, _], _ => rfl),
    f__law_steps_right := f13,
    fd__law_steps_right := _,
    F__law_steps_right := F13,
    g__law_steps_right := PySem.W.mg_of X G a13,
    b__law_steps_right := F13.binds (ps := ["deck", "number", "other", "base", "power"]) (fun _ _ _ _ _ _ us hl => match us, hl with | [_, _, _, _, _], _ => rfl),
    f_law := fa,
    fd_law := _,
    F_law := F14,
    g_law := PySem.W.mg_of X G a14,
    b_law := F14.binds (ps := ["script"]) (fun _ _ _ _ _ _ us hl => match us, hl with | [_], _ => rfl),
    m_enumerate := PySem.W.mg_none_of X G z0,
    m_int := PySem.W.mg_none_of X G z1,
    m_len := PySem.W.mg_none_of X G z2,
    m_list := PySem.W.mg_none_of X G z3,
    m_max := PySem.W.mg_none_of X G z4,
    m_range := PySem.W.mg_none_of X G z5,
    m_sum := PySem.W.mg_none_of X G z6,
    m_tuple := PySem.W.mg_none_of X G z7,
    t_FIGURES := u0,
    c_FIGURES := PySem.W.mg_of X G y0 }
  exact ⟨_, fun s v => .of_eq rfl, fun base _ _ => ok_law T⟩
end Fx
open PySem PySem.W PyProof.Rows
set_option maxHeartbeats 0 in
theorem PySem.Challenge.cw_figurerounds_k04_whole_numbers_and_steps_holds : PySem.Challenge.rw_figurerounds_k04_whole_numbers_and_steps.Holds := by
  w_on; o_law; k_head; (case hw => w_witness2)
  k_fill
  refine L2.walk_of (l := PySem.Challenge.rw_figurerounds_k04_whole_numbers_and_steps) (n := 63) (k := 4) (x := "script") (CX := fun _ => L2.CX0) (sp := fun w => Fx.sp_law _) rfl (by decide) rfl ⟨rfl, by decide, by decide⟩ (fun w h Y => PySem.W.kIn_of Y) ?F (fun _ _ a ns hl _ hS => Fx.law_start hl hS) (fun _ _ _ _ _ h => h)
  case F =>
    intro w mg fa h KX G hmg
    refine' Fx.all_mk KX G hmg ?a0 ?l0 ?c0 ?k0 ?a1 ?l1 ?c1 ?k1 ?a2 ?l2 ?c2 ?k2 ?a3 ?l3 ?c3 ?k3 ?a4 ?l4 ?c4 ?k4 ?a5 ?l5 ?c5 ?k5 ?a6 ?l6 ?c6 ?k6 ?a7 ?l7 ?c7 ?k7 ?a8 ?l8 ?c8 ?k8 ?a9 ?l9 ?c9 ?k9 ?a10 ?l10 ?c10 ?k10 ?a11 ?l11 ?c11 ?k11 ?a12 ?l12 ?c12 ?k12 ?a13 ?l13 ?c13 ?k13 ?a14 ?l14 ?c14 ?k14 ?z0 ?z1 ?z2 ?z3 ?z4 ?z5 ?z6 ?z7 ?y0
    (case a0 => k_is); (case l0 => k_is); (case c0 => k_is); (case k0 => k_is); (case a1 => k_is); (case l1 => k_is); (case c1 => k_is); (case k1 => k_is); (case a2 => k_is); (case l2 => k_is); (case c2 => k_is); (case k2 => k_is); (case a3 => k_is); (case l3 => k_is); (case c3 => k_is); (case k3 => k_is); (case a4 => k_is); (case l4 => k_is); (case c4 => k_is); (case k4 => k_is); (case a5 => k_is); (case l5 => k_is); (case c5 => k_is); (case k5 => k_is); (case a6 => k_is); (case l6 => k_is); (case c6 => k_is); (case k6 => k_is); (case a7 => k_is); (case l7 => k_is); (case c7 => k_is); (case k7 => k_is); (case a8 => k_is); (case l8 => k_is); (case c8 => k_is); (case k8 => k_is); (case a9 => k_is); (case l9 => k_is); (case c9 => k_is); (case k9 => k_is); (case a10 => k_is); (case l10 => k_is); (case c10 => k_is); (case k10 => k_is); (case a11 => k_is); (case l11 => k_is); (case c11 => k_is); (case k11 => k_is); (case a12 => k_is); (case l12 => k_is); (case c12 => k_is); (case k12 => k_is); (case a13 => k_is); (case l13 => k_is); (case c13 => k_is); (case k13 => k_is); (case a14 => k_is); (case l14 => k_is); (case c14 => k_is); (case k14 => k_is); (case z0 => k_is); (case z1 => k_is); (case z2 => k_is); (case z3 => k_is); (case z4 => k_is); (case z5 => k_is); (case z6 => k_is); (case z7 => k_is); (case y0 => k_is)
