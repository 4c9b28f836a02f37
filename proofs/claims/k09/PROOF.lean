import PyProof.Rows.All
import Wide.All
import OpenK.AllK
import Wide.FinOn
import HandS.ForMost
import HandS.Wide
import HandS.Style
import HandS.IsInst
import HandS.Conv
import HandS.Codes
import HandS.TupAny
import HandS.NoneIn
import HandS.SetFor
import HandS.Walk
import HandS.More
import HandS.TupMul
import PyProof.MinMaxWalk
import PyProof.WalkInts
import HandS.SortInts
import HandS.SortRule
import HandS.Deep
import PySem.Challenge.RW_figurerounds_k09_rounds_of
set_option Elab.async false
set_option linter.all false
set_option maxRecDepth 100000
set_option maxHeartbeats 4000000

/-! my own words for readings: "rd" goes on while there is one way only -/
local macro_rules | `(tactic| walk_at "cc") => `(tactic| first
  | (with_reducible exact rfl) | (dsimp only [CMul, CDivW]; omega) | (exact ⟨by decide +kernel, by decide +kernel⟩) | decide +kernel)
local macro_rules | `(tactic| walk_at "rd1") => `(tactic| first
  | refine ⟨_, rfl, ?_⟩ | refine ⟨_, _, rfl, rfl, ?_⟩ | refine ⟨rfl, ?_⟩)
local macro_rules | `(tactic| walk_at "rd") => `(tactic| repeat (walk_at "rd1"))

local macro_rules | `(tactic| walk_at "p") => `(tactic| ((show (0 : Int) < _); first | assumption | omega | decide))

namespace Fx
open PySem PySem.Spec PyProof.Rows L2

/-! ### rules named by their readings, for comprehensions -/
def rLenQ (K : PySem.W.Frag) : List V → Hp → VK → Prop := fun xs H Q => ∃ p ys, xs = [V.ref p] ∧ (SqL K H p ys ∨ SqT K H p ys) ∧ Q (.int ys.length) H
def rListQ (K : PySem.W.Frag) : List V → Hp → VK → Prop := fun xs H Q => ∃ p ys, xs = [V.ref p] ∧ (SqL K H p ys ∨ SqT K H p ys) ∧ ∀ l, H l = none → Q (.ref l) (upd H l (.lst ys))

def rTupQ (K : PySem.W.Frag) : List V → Hp → VK → Prop := fun xs H Q => ∃ p ys, xs = [V.ref p] ∧ ((SqL K H p ys ∧ ∀ l, H l = none → Q (.ref l) (upd H l (.tup ys))) ∨ SqT K H p ys ∧ Q (.ref p) H)

/-! ### what stays -/
def But (d : Addr) (H H' : Hp) : Prop := ∀ b o, b ≠ d → H b = some o → H' b = some o
theorem But.refl (d : Addr) (H : Hp) : But d H H := fun _ _ _ h => h
theorem But.trans {d : Addr} {H H1 H2 : Hp} (a : But d H H1) (b : But d H1 H2) : But d H H2 := fun x o n h => b x o n (a x o n h)
theorem But.of {d : Addr} {H H' : Hp} (a : Same H H') : But d H H' := fun x o _ h => a x o h
theorem But.new {d p : Addr} {H : Hp} {o : HO} (h : H p = none) : But d H (upd H p o) := fun b u _ e => by
  rw [upd_ne (ne_of_none e h)]
  exact e
theorem But.set {d : Addr} {H : Hp} {o : HO} : But d H (upd H d o) := fun b u n e => by
  rw [upd_ne n]
  exact e
theorem But.fresh {d p : Addr} {H H' : Hp} (a : But d H H') (hd : ∃ o, H' d = some o) (h : H' p = none) : H p = none := by
  cases e : H p with
  | none => rfl
  | some o =>
    by_cases z : p = d
    · obtain ⟨u, hu⟩ := hd
      rw [z, hu] at h
      cases h
    · rw [a p o z e] at h
      cases h
theorem Same.new {p : Addr} {H : Hp} {o : HO} (h : H p = none) : Same H (upd H p o) := fun b u e => by
  rw [upd_ne (ne_of_none e h)]
  exact e

/-- behind a new object, named by «generalize g : upd H p _ = H'» -/
theorem new_of {H H' : Hp} {p : Addr} {o : HO} (g : upd H p o = H') (hp : H p = none) : Same H H' ∧ H' p = some o := by
  subst g
  exact ⟨Same.new hp, upd_same⟩
theorem set_of {H H' : Hp} {p : Addr} {o : HO} (g : upd H p o = H') : But p H H' ∧ H' p = some o := by
  subst g
  exact ⟨But.set, upd_same⟩

/-! ### the draws -/
/-- the cells at c, the deck at d, at most n draws so far -/
structure Deck (H : Hp) (d c : Addr) (n : Nat) : Prop where
  ex : ∃ (ns : List Int) (i l m t : Int), H d = some (.lst [.ref c, .int i, .int l, .int m, .int t]) ∧ H c = some (.lst (ns.map V.int)) ∧ 0 ≤ i ∧ i ≤ n ∧ 0 ≤ m ∧ m ≤ n
theorem Deck.there {H : Hp} {d c : Addr} {n : Nat} (h : Deck H d c n) : ∃ o, H d = some o := by
  obtain ⟨ns, i, l, m, t, e, _⟩ := h.ex
  exact ⟨_, e⟩
theorem Deck.some {H : Hp} {d c : Addr} {n : Nat} (h : Deck H d c n) : ∃ xs, H d = some (.lst xs) := by
  obtain ⟨ns, i, l, m, t, e, _⟩ := h.ex
  exact ⟨_, e⟩
theorem Deck.ne {H : Hp} {d c : Addr} {n : Nat} (h : Deck H d c n) : c ≠ d := by
  obtain ⟨ns, i, l, m, t, e, e2, _⟩ := h.ex
  intro z
  rw [z, e] at e2
  cases ns with
  | nil => cases e2
  | cons x r => cases e2
theorem Deck.mono {H : Hp} {d c : Addr} {n k : Nat} (h : Deck H d c n) (l : n ≤ k) : Deck H d c k := by
  obtain ⟨ns, i, l, m, t, e, e2, h1, h2, h3, h4⟩ := h.ex
  exact ⟨ns, i, l, m, t, e, e2, h1, by omega, h3, by omega⟩
theorem Deck.same {H H' : Hp} {d c : Addr} {n : Nat} (h : Deck H d c n) (a : Same H H') : Deck H' d c n := by
  obtain ⟨ns, i, l, m, t, e, e2, r⟩ := h.ex
  exact ⟨ns, i, l, m, t, a _ _ e, a _ _ e2, r⟩
theorem Deck.new {H : Hp} {d c p : Addr} {n : Nat} {o : HO} (h : Deck H d c n) (hp : H p = none) : Deck (upd H p o) d c n := h.same (Same.new hp)
/-- something else than the deck and its cells is written -/
theorem Deck.off {H : Hp} {d c p : Addr} {n : Nat} {o : HO} (h : Deck H d c n) (h1 : p ≠ d) (h2 : p ≠ c) : Deck (upd H p o) d c n := by
  obtain ⟨ns, i, l, m, t, e, e2, r⟩ := h.ex
  exact ⟨ns, i, l, m, t, by rw [upd_ne (Ne.symm h1)]; exact e, by rw [upd_ne (Ne.symm h2)]; exact e2, r⟩
/-- a list of our own grows -/
theorem But.own {d p : Addr} {H H' : Hp} {o : HO} (a : But d H H') (hp : H p = none) : But d H (upd H' p o) := fun b u n e => by
  rw [upd_ne (ne_of_none e hp)]
  exact a b u n e
theorem Deck.out {H : Hp} {d c p : Addr} {n : Nat} (h : Deck H d c n) (hp : H p = none) : p ≠ d ∧ p ≠ c := by
  obtain ⟨ns, i, l, m, t, e, e2, r⟩ := h.ex
  exact ⟨(ne_of_none e hp).symm, (ne_of_none e2 hp).symm⟩
/-- an object that is no list stays -/
theorem But.tup {d c p : Addr} {n : Nat} {H H' : Hp} {xs : List V} (a : But d H H') (h : Deck H d c n) (e : H p = some (.tup xs)) : H' p = some (.tup xs) := by
  obtain ⟨ys, q⟩ := h.some
  exact a p _ (ne_of e q (fun z => by cases z)) e

/-- a slice from the first on -/
theorem cut_to (xs : List V) (n : Nat) : cutV xs none (some (n : Int)) = xs.take n := by
  unfold cutV
  rw [HT.sIx_none, HT.sIx_nat]
  show List.take (min n xs.length - 0) (xs.drop 0) = _
  rw [List.drop_zero, Nat.sub_zero]
  by_cases h : n ≤ xs.length
  · rw [Nat.min_eq_left h]
  · rw [Nat.min_eq_right (by omega), List.take_length, List.take_of_length_le (by omega)]
/-- a slice from the n-th on -/
theorem cut_from (xs : List V) (n : Nat) : cutV xs (some (n : Int)) none = xs.drop n := by
  unfold cutV
  rw [HT.sIx_none, HT.sIx_nat]
  by_cases h : n ≤ xs.length
  · rw [Nat.min_eq_left h]
    exact List.take_of_length_le (by rw [List.length_drop]; omega)
  · rw [Nat.min_eq_right (by omega), Nat.sub_self, List.take_zero, List.drop_eq_nil_of_le (by omega)]

/-- a while's next turn -/
def Nx (W : Nat → L2.St → Hp → Prop) (m : Nat) : L2.St → Hp → Prop := fun σ' H' => ∃ m', m' < m ∧ W m' σ' H'
theorem Nx.id {W : Nat → L2.St → Hp → Prop} {m : Nat} : ∀ σ' H', Nx W m σ' H' → ∃ m', m' < m ∧ W m' σ' H' := fun _ _ h => h

theorem small5 {n : Nat} (h : n < 100000) : n < sizeLine := Nat.lt_of_lt_of_le h (by decide)

/-- a divisor's, a factor's bound -/
theorem divW {i j : Int} (b : Nat) (h : 0 < j) (hb : j < 2 ^ b) (h0 : 0 < b := by decide) (h9 : b ≤ 9000 := by decide) : CDivW i j := wide_div h (b := b) (by
  have e : ((2 ^ b : Nat) : Int) = (2 : Int) ^ b := by simp
  omega) h0 h9
end Fx

namespace Fx
open PySem PySem.Spec PyProof.Rows L2
/-! ### lists of numbers as they stand -/
def ivs (l : List Nat) : List V := l.map fun (k : Nat) => V.int (k : Int)
theorem ivs_map (l : List Nat) : ivs l = (l.map fun (k : Nat) => (k : Int)).map V.int := by
  unfold ivs
  rw [List.map_map]
  rfl
theorem ivs_append (l r : List Nat) : ivs (l ++ r) = ivs l ++ ivs r := List.map_append
theorem ivs_length (l : List Nat) : (ivs l).length = l.length := List.length_map ..
theorem ivs_reverse (l : List Nat) : (ivs l).reverse = ivs l.reverse := by
  unfold ivs
  rw [List.map_reverse]
theorem ivs_get {l : List Nat} {i : Nat} {x : V} (h : (ivs l)[i]? = some x) : ∃ k, l[i]? = some k ∧ x = V.int (k : Int) := by
  unfold ivs at h
  rw [List.getElem?_map] at h
  cases e : l[i]? with
  | none => rw [e] at h; cases h
  | some k =>
    rw [e] at h
    exact ⟨k, rfl, (Option.some.inj h).symm⟩
theorem ivs_at {l : List Nat} {i k : Nat} (h : l[i]? = some k) : (ivs l)[i]? = some (V.int (k : Int)) := by
  unfold ivs
  rw [List.getElem?_map, h]
  rfl
theorem sum_cast : ∀ l : List Nat, (l.map fun (k : Nat) => (k : Int)).sum = ((l.sum : Nat) : Int)
  | [] => rfl
  | a :: r => by
    rw [List.map_cons, List.sum_cons, List.sum_cons, sum_cast r]
    simp
theorem same_own {H H' : Hp} {p : Addr} {o : HO} (a : Same H H') (hp : H p = none) : Same H (upd H' p o) := fun b u e => by
  rw [upd_ne (ne_of_none e hp)]
  exact a b u e

/-! ### data that are compared -/
def dInts (l : List Int) : List PyData := l.map PyData.int
theorem dpAll_ints {K : PySem.W.Frag} {H : Hp} : ∀ l : List Int, DpAll K H (l.map V.int) (dInts l)
  | [] => .nil
  | a :: r => .cons (.int a) (dpAll_ints r)
theorem dpAll_ivs {K : PySem.W.Frag} {H : Hp} (l : List Nat) : DpAll K H (ivs l) (dInts (l.map fun (k : Nat) => (k : Int))) := by
  rw [ivs_map]
  exact dpAll_ints _
theorem canLay_ints : ∀ l : List Int, PyData.canLayAll0 (dInts l) = true
  | [] => rfl
  | a :: r => by
    unfold dInts
    rw [List.map_cons, PyData.canLayAll0]
    have h := canLay_ints r
    unfold dInts at h
    rw [h]
    rfl
theorem depth_ints : ∀ l : List Int, PyData.depthAll (dInts l) ≤ 1
  | [] => by unfold dInts; rw [List.map_nil]; unfold PyData.depthAll; decide
  | a :: r => by
    have h := depth_ints r
    unfold dInts at h ⊢
    rw [List.map_cons]
    unfold PyData.depthAll PyData.depth
    omega
theorem shaped_list {ds : List PyData} (h : PyData.canLayAll0 ds = true) (d : PyData.depthAll ds ≤ 60) : SeqAt.shaped (.list ds) = true := by
  unfold SeqAt.shaped
  rw [Bool.and_eq_true]
  refine ⟨by rw [PyData.canLay0]; exact h, decide_eq_true ?_⟩
  unfold PyData.depth
  omega
theorem shaped_tup {ds : List PyData} (h : PyData.canLayAll0 ds = true) (d : PyData.depthAll ds ≤ 60) : SeqAt.shaped (.tuple ds) = true := by
  unfold SeqAt.shaped
  rw [Bool.and_eq_true]
  refine ⟨by rw [PyData.canLay0]; exact h, decide_eq_true ?_⟩
  unfold PyData.depth
  omega
theorem shaped_ints (l : List Int) : SeqAt.shaped (.list (dInts l)) = true := shaped_list (canLay_ints l) (Nat.le_trans (depth_ints l) (by decide))
theorem shaped_tints (l : List Int) : SeqAt.shaped (.tuple (dInts l)) = true := shaped_tup (canLay_ints l) (Nat.le_trans (depth_ints l) (by decide))
theorem eqv_same {d : PyData} (h : SeqAt.shaped d = true) : PyData.eqv d d = true := SeqAt.eqv_refl d (SeqAt.canLay_of_shaped h)
end Fx

namespace Fx
/-! ### figures -/
/-- figures, the least place first -/
def lsd (b n : Nat) : List Nat := if h : 2 ≤ b ∧ b ≤ n then (n % b) :: lsd b (n / b) else [n]
termination_by n
decreasing_by exact Nat.div_lt_self (by omega) (by omega)
theorem lsd_lt {b n : Nat} (h : n < b) : lsd b n = [n] := by
  rw [lsd, dif_neg (by omega)]
theorem lsd_ge {b n : Nat} (hb : 2 ≤ b) (h : b ≤ n) : lsd b n = n % b :: lsd b (n / b) := by
  rw [lsd, dif_pos ⟨hb, h⟩]
theorem lsd_split {b r : Nat} (hb : 2 ≤ b) : lsd b r = r % b :: (if r / b = 0 then [] else lsd b (r / b)) := by
  by_cases h : b ≤ r
  · have : r / b ≠ 0 := by
      have := Nat.div_pos h (by omega)
      omega
    rw [if_neg this, lsd_ge hb h]
  · rw [if_pos (Nat.div_eq_of_lt (by omega)), lsd_lt (by omega), Nat.mod_eq_of_lt (by omega)]
theorem lsd_below {b : Nat} (hb : 2 ≤ b) : ∀ n : Nat, ∀ d ∈ lsd b n, d < b := fun n => by
  induction n using Nat.strongRecOn with
  | ind n ih =>
    intro d hd
    by_cases h : b ≤ n
    · rw [lsd_ge hb h] at hd
      rcases List.mem_cons.mp hd with rfl | hd
      · exact Nat.mod_lt _ (by omega)
      · exact ih (n / b) (Nat.div_lt_self (by omega) (by omega)) d hd
    · rw [lsd_lt (by omega)] at hd
      cases List.mem_singleton.mp hd
      omega
theorem lsd_ne {b n : Nat} : lsd b n ≠ [] := by
  rw [lsd]
  split <;> simp
theorem lsd_len {b : Nat} (hb : 2 ≤ b) : ∀ (k n : Nat), n < b ^ (k + 1) → (k = 0 ∨ b ^ k ≤ n) → (lsd b n).length = k + 1
  | 0, n, h, _ => by
    rw [Nat.zero_add, Nat.pow_one] at h
    rw [lsd_lt h]
    rfl
  | k + 1, n, h, g => by
    have g' : b ^ (k + 1) ≤ n := by
      rcases g with g | g
      · omega
      · exact g
    have p : 0 < b ^ k := Nat.pow_pos (by omega)
    have h1 : b ≤ n := by
      rw [Nat.pow_succ] at g'
      have := Nat.mul_le_mul_right b (show 1 ≤ b ^ k by omega)
      omega
    rw [lsd_ge hb h1, List.length_cons, lsd_len hb k (n / b)]
    · rw [Nat.div_lt_iff_lt_mul (by omega), ← Nat.pow_succ]
      exact h
    · right
      rw [Nat.le_div_iff_mul_le (by omega), ← Nat.pow_succ]
      exact g'
theorem lsd_get {b : Nat} (hb : 2 ≤ b) : ∀ (i n : Nat), i < (lsd b n).length → (lsd b n)[i]? = some (n / b ^ i % b)
  | 0, n, _ => by
    rw [lsd_split hb, Nat.pow_zero, Nat.div_one]
    rfl
  | i + 1, n, h => by
    rw [lsd_split hb] at h ⊢
    split at h
    · simp at h
    · rename_i hr
      rw [if_neg hr, List.getElem?_cons_succ, lsd_get hb i (n / b) (by simpa using h)]
      rw [Nat.div_div_eq_div_mul, Nat.pow_succ, Nat.mul_comm]
theorem lsd_len_le {b : Nat} (hb : 2 ≤ b) : ∀ (k n : Nat), n < 2 ^ (k + 1) → (lsd b n).length ≤ k + 1
  | 0, n, h => by
    rw [lsd_lt (by omega)]
    exact Nat.le_refl _
  | k + 1, n, h => by
    by_cases g : b ≤ n
    · rw [lsd_ge hb g, List.length_cons]
      have : n / b < 2 ^ (k + 1) := by
        rw [Nat.div_lt_iff_lt_mul (by omega)]
        have := Nat.mul_le_mul_left (2 ^ (k + 1)) hb
        rw [Nat.pow_succ] at h
        omega
      have := lsd_len_le hb k (n / b) this
      omega
    · rw [lsd_lt (by omega)]
      show 1 ≤ _
      omega
/-- figures, the greatest place first -/
def figs (b n : Nat) : List Nat := (lsd b n).reverse
theorem figs_len (b n : Nat) : (figs b n).length = (lsd b n).length := List.length_reverse ..
theorem figs_below {b n d : Nat} (hb : 2 ≤ b) (h : d ∈ figs b n) : d < b := lsd_below hb n d (List.mem_reverse.mp h)
theorem figs_le {b n : Nat} (hb : 2 ≤ b) (h : n < 2 ^ 900) : (figs b n).length ≤ 900 := by
  rw [figs_len]
  exact lsd_len_le hb 899 n h
/-! ### steps -/
def stepN (b p n : Nat) : Nat := ((figs b n).map (· ^ p)).sum
theorem sum_le_mul {l : List Nat} {m : Nat} (h : ∀ x ∈ l, x ≤ m) : l.sum ≤ l.length * m := by
  induction l with
  | nil => simp
  | cons a r ih =>
    rw [List.sum_cons, List.length_cons, Nat.succ_mul]
    have h1 := h a (List.mem_cons_self ..)
    have h2 := ih fun x hx => h x (List.mem_cons_of_mem _ hx)
    omega
theorem pow_le_base {d b p : Nat} (h : d < b) : d ^ p ≤ (b - 1) ^ p := Nat.pow_le_pow_left (by omega) p
theorem stepN_le {b p n : Nat} (hb : 2 ≤ b) : stepN b p n ≤ (figs b n).length * (b - 1) ^ p := by
  unfold stepN
  have := sum_le_mul (l := (figs b n).map (· ^ p)) (m := (b - 1) ^ p) fun x hx => by
    obtain ⟨d, hd, rfl⟩ := List.mem_map.mp hx
    exact pow_le_base (figs_below hb hd)
  rwa [List.length_map] at this
theorem worth_lt {b p : Nat} (hb : b ≤ 16) (hp : p ≤ 10) : (b - 1) ^ p < 2 ^ 40 := by
  have h1 : (b - 1) ^ p ≤ 15 ^ p := Nat.pow_le_pow_left (by omega) p
  have h2 : 15 ^ p ≤ 15 ^ 10 := Nat.pow_le_pow_right (by decide) hp
  have h3 : 15 ^ 10 < 2 ^ 40 := by decide
  omega
theorem stepN_lt {b p n : Nat} (hb : 2 ≤ b) (hb16 : b ≤ 16) (hp : p ≤ 10) (hn : n < 2 ^ 900) : stepN b p n < 2 ^ 50 := by
  have h1 := stepN_le (p := p) (n := n) hb
  have h2 := figs_le hb hn
  have h3 := worth_lt hb16 hp
  have h4 : (figs b n).length * (b - 1) ^ p ≤ 900 * 2 ^ 40 := Nat.mul_le_mul h2 (by omega)
  omega
/-- steps again and again -/
def itN (b p n : Nat) : Nat → Nat
  | 0 => n
  | k + 1 => stepN b p (itN b p n k)
theorem itN_lt {b p n : Nat} (hb : 2 ≤ b) (hb16 : b ≤ 16) (hp : p ≤ 10) (hn : n < 2 ^ 900) : ∀ k, itN b p n k < 2 ^ 900
  | 0 => hn
  | k + 1 => by
    have := stepN_lt hb hb16 hp (itN_lt hb hb16 hp hn k)
    have : itN b p n (k + 1) = stepN b p (itN b p n k) := rfl
    have e : (2 : Nat) ^ 50 ≤ 2 ^ 900 := Nat.pow_le_pow_right (by decide) (by decide)
    omega
def rowN (b p n : Nat) : Nat → List Nat
  | 0 => []
  | m + 1 => rowN b p n m ++ [itN b p n m]
theorem rowN_len (b p n : Nat) : ∀ m, (rowN b p n m).length = m
  | 0 => rfl
  | m + 1 => by
    rw [rowN, List.length_append, rowN_len b p n m]
    rfl
end Fx
namespace Fx
/-! ### the law's own figures -/
def powsN (b : Nat) : Nat → List Nat
  | 0 => []
  | k + 1 => powsN b k ++ [b ^ k]
theorem powsN_len (b : Nat) : ∀ k, (powsN b k).length = k
  | 0 => rfl
  | k + 1 => by
    rw [powsN, List.length_append, powsN_len b k]
    rfl
theorem powsN_get (b : Nat) : ∀ k i, i < k → (powsN b k)[i]? = some (b ^ i)
  | 0, _, h => by omega
  | k + 1, i, h => by
    rw [powsN]
    by_cases e : i = k
    · subst e
      rw [List.getElem?_append_right (by rw [powsN_len]; exact Nat.le_refl _), powsN_len, Nat.sub_self]
      rfl
    · rw [List.getElem?_append_left (by rw [powsN_len]; omega)]
      exact powsN_get b k i (by omega)
theorem powsN_rev {b k i : Nat} (h : i < k + 1) : (powsN b (k + 1)).reverse[i]? = some (b ^ (k - i)) := by
  rw [List.getElem?_reverse (by rw [powsN_len]; exact h), powsN_len, powsN_get b (k + 1) _ (by omega)]
  rw [show k + 1 - 1 - i = k - i by omega]
def fndN (b n k i : Nat) : List Nat := (List.range i).map fun t => n / b ^ (k - t) % b
theorem fndN_succ (b n k i : Nat) : fndN b n k (i + 1) = fndN b n k i ++ [n / b ^ (k - i) % b] := by
  unfold fndN
  rw [List.range_succ, List.map_append]
  rfl
theorem fndN_len (b n k i : Nat) : (fndN b n k i).length = i := by
  unfold fndN
  rw [List.length_map, List.length_range]
theorem fndN_all {b n k : Nat} (hb : 2 ≤ b) (h1 : n < b ^ (k + 1)) (h2 : k = 0 ∨ b ^ k ≤ n) : fndN b n k (k + 1) = figs b n := by
  have hl := lsd_len hb k n h1 h2
  refine List.ext_getElem? fun i => ?_
  by_cases hi : i < k + 1
  · unfold figs fndN
    rw [List.getElem?_reverse (by rw [hl]; exact hi), hl, lsd_get hb _ n (by rw [hl]; omega), List.getElem?_map, List.getElem?_range hi]
    have e : k + 1 - 1 - i = k - i := by omega
    rw [e]
    rfl
  · rw [List.getElem?_eq_none (by rw [fndN_len]; omega), List.getElem?_eq_none (by rw [figs_len, hl]; omega)]
theorem fig_div {b n j : Nat} : n % b ^ (j + 1) / b ^ j = n / b ^ j % b := by
  rw [Nat.pow_succ, Nat.mod_mul_right_div_self]
theorem fig_mod {b n j : Nat} : n % b ^ (j + 1) % b ^ j = n % b ^ j := by
  rw [Nat.pow_succ, Nat.mod_mul_right_mod]
theorem lt_pow' {b : Nat} (hb : 2 ≤ b) : ∀ k : Nat, k < b ^ k
  | 0 => by rw [Nat.pow_zero]; decide
  | k + 1 => by
    have := lt_pow' hb k
    rw [Nat.pow_succ]
    have := Nat.mul_le_mul_left (b ^ k) hb
    omega
open L2 in
theorem divN {x : Int} {j : Nat} (h0 : 0 < j) (h : j < 2 ^ 900) : CDivW x (j : Int) := wide_div (b := 900) (by omega) h (by decide) (by decide)
end Fx

namespace Fx
open PySem PySem.Spec PyProof.Rows L2
/-- the greatest power that a base lets -/
def mosts : List Int := [10, 9, 6, 4, 4, 3, 3, 3, 3, 3, 2, 2, 2, 2, 2]
def mostOf (b : Int) : Int := mosts.getD (b - 2).toNat 0
def OkPair (b p : Int) : Prop := 2 ≤ b ∧ b ≤ 16 ∧ 1 ≤ p ∧ p ≤ mostOf b
/-- all of a pair's places, to be shown one by one -/
def pairsAll : List (Int × Int) := (List.range 15).flatMap fun (i : Nat) => (List.range (mosts.getD i 0).toNat).map fun (j : Nat) => (((i : Nat) : Int) + 2, ((j : Nat) : Int) + 1)
theorem OkPair.mem {b p : Int} (h : OkPair b p) : (b, p) ∈ pairsAll := by
  obtain ⟨h1, h2, h3, h4⟩ := h
  refine List.mem_flatMap.mpr ⟨(b - 2).toNat, List.mem_range.mpr (by omega), List.mem_map.mpr ⟨(p - 1).toNat, List.mem_range.mpr ?_, ?_⟩⟩
  · unfold mostOf at h4
    omega
  · show (((b - 2).toNat : Int) + 2, ((p - 1).toNat : Int) + 1) = (b, p)
    rw [Prod.mk.injEq]
    omega
theorem OkPair.all {P : Int → Int → Prop} {b p : Int} (h : OkPair b p) (a : ∀ q ∈ pairsAll, P q.1 q.2) : P b p := a _ h.mem
theorem OkPair.le10 {b p : Int} (h : OkPair b p) : p ≤ 10 := h.all (P := fun _ p => p ≤ 10) (by decide +kernel)
/-- what the greatest figure is worth -/
def worth (b p : Int) : Int := (b - 1) ^ p.toNat
theorem OkPair.worth {b p : Int} (h : OkPair b p) : 1 ≤ worth b p ∧ worth b p ≤ 1000 + 24 := h.all (P := fun b p => 1 ≤ Fx.worth b p ∧ Fx.worth b p ≤ 1024) (by decide +kernel)
theorem most_pos {b : Int} (h1 : 2 ≤ b) (h2 : b ≤ 16) : 1 ≤ mostOf b ∧ mostOf b ≤ 10 := by
  have a : ∀ i ∈ List.range 15, 1 ≤ mosts.getD i 0 ∧ mosts.getD i 0 ≤ 10 := by decide +kernel
  exact a (b - 2).toNat (List.mem_range.mpr (by omega))
theorem most_at {b : Int} (h1 : 2 ≤ b) (h2 : b ≤ 16) : atI (mosts.map V.int) (b - 2) = some (.int (mostOf b)) := by
  have hi : (b - 2).toNat < mosts.length := by
    show (b - 2).toNat < 15
    omega
  have z : (mosts.map V.int)[(b - 2).toNat]? = some (.int (mostOf b)) := by
    rw [List.getElem?_map, List.getElem?_eq_getElem hi]
    unfold mostOf
    rw [List.getD_eq_getElem?_getD, List.getElem?_eq_getElem hi]
    rfl
  have y := atI_nat z
  rw [show (((b - 2).toNat : Nat) : Int) = b - 2 by omega] at y
  exact y
/-- a pair's tuple as it stands -/
def PairAt (H : Hp) (v : V) (b p : Int) : Prop := ∃ a, v = .ref a ∧ H a = some (.tup [.int b, .int p]) ∧ OkPair b p
theorem PairAt.but {H H' : Hp} {d c : Addr} {n : Nat} {v : V} {b p : Int} (h : PairAt H v b p) (D : Deck H d c n) (e : But d H H') : PairAt H' v b p := by
  obtain ⟨a, e1, e2, e3⟩ := h
  exact ⟨a, e1, e.tup D e2, e3⟩
theorem PairAt.same {H H' : Hp} {v : V} {b p : Int} (h : PairAt H v b p) (e : Same H H') : PairAt H' v b p := by
  obtain ⟨a, e1, e2, e3⟩ := h
  exact ⟨a, e1, e _ _ e2, e3⟩
theorem PairAt.upd {H : Hp} {D : Addr} {xs : List V} {o : HO} {v : V} {b p : Int} (h : PairAt H v b p) (e : H D = some (.lst xs)) : PairAt (upd H D o) v b p := by
  obtain ⟨a, e1, e2, e3⟩ := h
  exact ⟨a, e1, by rw [upd_ne (ne_of e2 e fun z => by cases z)]; exact e2, e3⟩
/-- all things of a list are pairs -/
def Pairs (H : Hp) (xs : List V) : Prop := ∀ v ∈ xs, ∃ b p, PairAt H v b p
theorem Pairs.mono {H H' : Hp} {xs : List V} (h : Pairs H xs) (k : ∀ v b p, PairAt H v b p → PairAt H' v b p) : Pairs H' xs := fun v hv => by
  obtain ⟨b, p, q⟩ := h v hv
  exact ⟨b, p, k v b p q⟩
theorem Pairs.app {H : Hp} {xs ys : List V} (h : Pairs H xs) (g : Pairs H ys) : Pairs H (xs ++ ys) := fun v hv => (List.mem_append.mp hv).elim (h v) (g v)
theorem Pairs.rev {H : Hp} {xs : List V} (h : Pairs H xs) : Pairs H xs.reverse := fun v hv => h v (List.mem_reverse.mp hv)
theorem Pairs.one {H : Hp} {v : V} {b p : Int} (h : PairAt H v b p) : Pairs H [v] := fun u hu => by
  cases List.mem_singleton.mp hu
  exact ⟨b, p, h⟩
/-- pairs drawn one by one: n at the start, k draws a pair -/
structure Drawn (H H' : Hp) (d c D : Addr) (n i : Nat) : Prop where
  but : But d H H'
  deck : Deck H' d c (n + 3 * i)
  list : ∃ acc, H' D = some (.lst acc) ∧ acc.length = i ∧ Pairs H' acc
theorem Drawn.next {H H1 H2 : Hp} {d c D p : Addr} {n i : Nat} {b pw : Int} (h : Drawn H H1 d c D n i) (hD : H D = none) (hd : D ≠ d) (hc : D ≠ c) (b1 : But d H1 H2) (D2 : Deck H2 d c (n + 3 * i + 3)) (e : H2 p = some (.tup [.int b, .int pw])) (ok : OkPair b pw) :
    ∃ acc, H2 D = some (.lst acc) ∧ acc.length = i ∧ Drawn H (L2.upd H2 D (.lst (acc ++ [.ref p]))) d c D n (i + 1) := by
  obtain ⟨acc, e1, e2, e3⟩ := h.list
  have e4 : H2 D = some (.lst acc) := b1 _ _ hd e1
  refine ⟨acc, e4, e2, (h.but.trans b1).own hD, D2.off hd hc, acc ++ [.ref p], upd_same, by rw [List.length_append, e2]; rfl, ?_⟩
  refine Pairs.app ?_ (Pairs.one (PairAt.upd ⟨p, rfl, e, ok⟩ e4))
  exact e3.mono fun v b p q => (q.but h.deck b1).upd e4
end Fx

namespace Fx
open PySem PySem.Spec PyProof.Rows L2
/-- the least length from which on numbers go down, w the worth of the greatest figure -/
structure IsLen (b w : Int) (L : Nat) : Prop where
  two : 2 ≤ L
  less : (L : Int) * w < b ^ (L - 1)
  least : ∀ k : Nat, 2 ≤ k → k < L → b ^ (k - 1) ≤ (k : Int) * w
theorem IsLen.uniq {b w : Int} {L M : Nat} (h : IsLen b w L) (g : IsLen b w M) : L = M := by
  rcases Nat.lt_trichotomy L M with l | l | l
  · have := g.least L h.two l
    have := h.less
    omega
  · exact l
  · have := h.least M g.two l
    have := g.less
    omega
theorem pow_mono {a b : Int} (h0 : 0 ≤ a) (h : a ≤ b) : ∀ n : Nat, a ^ n ≤ b ^ n
  | 0 => by rw [Int.pow_zero, Int.pow_zero]; exact Int.le_refl _
  | n + 1 => by
    rw [Int.pow_succ, Int.pow_succ]
    have i := pow_mono h0 h n
    have p : 0 ≤ a ^ n := Int.pow_nonneg h0
    exact Int.le_trans (Int.mul_le_mul_of_nonneg_right i h0) (Int.mul_le_mul_of_nonneg_left h (Int.le_trans p i))
theorem pow_pos {a : Int} (h : 0 < a) (n : Nat) : 0 < a ^ n := Int.pow_pos h
/-- at fifteen figures all is shown -/
theorem len15 {b w : Int} (h : 2 ≤ b) (hw : w ≤ 1024) : (15 : Int) * w < b ^ 14 := by
  have i := pow_mono (a := 2) (b := b) (by decide) h 14
  have e : (2 : Int) ^ 14 = 16384 := by decide
  omega
theorem len_step {b w : Int} {L : Nat} (h : ∀ k : Nat, 2 ≤ k → k < L → b ^ (k - 1) ≤ (k : Int) * w) (t : b ^ (L - 1) ≤ (L : Int) * w) : ∀ k : Nat, 2 ≤ k → k < L + 1 → b ^ (k - 1) ≤ (k : Int) * w := fun k h2 hk => by
  by_cases e : k = L
  · rw [e]
    exact t
  · exact h k h2 (by omega)
theorem len_lt {b w : Int} {L : Nat} (h : 2 ≤ b) (hw : w ≤ 1024) (l : L ≤ 15) (t : b ^ (L - 1) ≤ (L : Int) * w) : L < 15 := by
  by_cases e : L = 15
  · subst e
    have := len15 h hw
    have t' : b ^ 14 ≤ ((15 : Nat) : Int) * w := t
    omega
  · omega
/-- there is one -/
theorem len_ex {b w : Int} (h : 2 ≤ b) (hw : w ≤ 1024) : ∃ L : Nat, IsLen b w L ∧ L ≤ 15 := by
  have go : ∀ k L : Nat, 15 - L = k → 2 ≤ L → L ≤ 15 → (∀ j : Nat, 2 ≤ j → j < L → b ^ (j - 1) ≤ (j : Int) * w) → ∃ L : Nat, IsLen b w L ∧ L ≤ 15 := by
    intro k
    induction k with
    | zero =>
      intro L e l2 l15 ih
      refine ⟨L, ⟨l2, ?_, ih⟩, l15⟩
      obtain rfl : L = 15 := by omega
      exact len15 h hw
    | succ k ihk =>
      intro L e l2 l15 ih
      by_cases t : b ^ (L - 1) ≤ (L : Int) * w
      · exact ihk (L + 1) (by omega) (by omega) (by omega) (len_step ih t)
      · exact ⟨L, ⟨l2, by omega, ih⟩, l15⟩
  exact go 13 2 rfl (by decide) (by decide) fun j _ _ => by omega
end Fx

namespace Fx
/-! ### a step by its last figure, by parts -/
theorem zero_pow' {p : Nat} (h : 1 ≤ p) : 0 ^ p = 0 := Nat.zero_pow (by omega)
theorem stepN_lt_base {b p n : Nat} (h : n < b) : stepN b p n = n ^ p := by
  unfold stepN figs
  rw [lsd_lt h]
  show n ^ p + 0 = _
  omega
theorem stepN_zero {b p : Nat} (hb : 2 ≤ b) (hp : 1 ≤ p) : stepN b p 0 = 0 := by
  rw [stepN_lt_base (by omega), zero_pow' hp]
theorem sum_rev : ∀ l : List Nat, l.reverse.sum = l.sum
  | [] => rfl
  | a :: r => by
    rw [List.reverse_cons, List.sum_append, sum_rev r, List.sum_cons, List.sum_cons, List.sum_nil]
    omega
theorem stepN_lsd (b p n : Nat) : stepN b p n = ((lsd b n).map (· ^ p)).sum := by
  unfold stepN figs
  rw [List.map_reverse, sum_rev]
theorem stepN_rec {b p : Nat} (hb : 2 ≤ b) (hp : 1 ≤ p) (n : Nat) : stepN b p n = stepN b p (n / b) + (n % b) ^ p := by
  by_cases h : b ≤ n
  · rw [stepN_lsd, stepN_lsd, lsd_ge hb h, List.map_cons, List.sum_cons]
    omega
  · rw [stepN_lt_base (by omega), Nat.div_eq_of_lt (by omega), stepN_zero hb hp, Nat.mod_eq_of_lt (by omega)]
    omega
theorem stepN_push {b p x f : Nat} (hb : 2 ≤ b) (hp : 1 ≤ p) (hf : f < b) : stepN b p (x * b + f) = stepN b p x + f ^ p := by
  have e1 : (x * b + f) / b = x := by
    rw [Nat.mul_comm, Nat.mul_add_div (by omega), Nat.div_eq_of_lt hf]
    omega
  have e2 : (x * b + f) % b = f := by
    rw [Nat.mul_comm, Nat.mul_add_mod, Nat.mod_eq_of_lt hf]
  rw [stepN_rec hb hp, e1, e2]
theorem step_split {b p : Nat} (hb : 2 ≤ b) (hp : 1 ≤ p) : ∀ (k y r : Nat), r < b ^ k → stepN b p (y * b ^ k + r) = stepN b p y + stepN b p r
  | 0, y, r, h => by
    rw [Nat.pow_zero] at h
    have : r = 0 := by omega
    subst this
    rw [Nat.pow_zero, Nat.mul_one, stepN_zero hb hp]
    rfl
  | k + 1, y, r, h => by
    have e0 : y * b ^ (k + 1) + r = (y * b ^ k + r / b) * b + r % b := by
      have ep : b ^ k * b = b ^ (k + 1) := by rw [Nat.pow_succ]
      rw [Nat.add_mul, Nat.mul_assoc, ep]
      have := Nat.div_add_mod r b
      rw [Nat.mul_comm] at this
      omega
    have h1 : r / b < b ^ k := by
      rw [Nat.div_lt_iff_lt_mul (by omega), ← Nat.pow_succ]
      exact h
    rw [e0, stepN_push hb hp (Nat.mod_lt _ (by omega)), step_split hb hp k y (r / b) h1, stepN_rec hb hp r]
    omega
/-! ### lengths -/
theorem len_pow {b : Nat} (hb : 2 ≤ b) : ∀ n : Nat, 0 < n → b ^ ((figs b n).length - 1) ≤ n := fun n => by
  induction n using Nat.strongRecOn with
  | ind n ih =>
    intro h0
    by_cases h : b ≤ n
    · have i := ih (n / b) (Nat.div_lt_self (by omega) (by omega)) (Nat.div_pos h (by omega))
      rw [figs_len] at i ⊢
      rw [lsd_ge hb h, List.length_cons]
      have l0 : 0 < (lsd b (n / b)).length := List.length_pos_iff.mpr lsd_ne
      have e : (lsd b (n / b)).length + 1 - 1 = (lsd b (n / b)).length - 1 + 1 := by omega
      rw [e, Nat.pow_succ]
      have := Nat.mul_le_mul_right b i
      have := Nat.div_mul_le_self n b
      omega
    · rw [figs_len, lsd_lt (by omega)]
      exact h0
theorem len_gt {b n k : Nat} (hb : 2 ≤ b) (h : b ^ k ≤ n) : k < (figs b n).length := by
  refine Nat.lt_of_not_le fun z => ?_
  rw [figs_len] at z
  have up : ∀ m : Nat, n < b ^ (lsd b m).length ∨ m ≠ n := fun m => by
    by_cases e : m = n
    · subst e
      have go : ∀ m : Nat, m < b ^ (lsd b m).length := fun m => by
        induction m using Nat.strongRecOn with
        | ind m ih =>
          by_cases g : b ≤ m
          · rw [lsd_ge hb g, List.length_cons, Nat.pow_succ]
            have i := ih (m / b) (Nat.div_lt_self (by omega) (by omega))
            have := Nat.div_add_mod m b
            have := Nat.mod_lt m (show 0 < b by omega)
            have := Nat.mul_le_mul_right b (show m / b + 1 ≤ b ^ (lsd b (m / b)).length from i)
            rw [Nat.succ_mul, Nat.mul_comm (m / b) b] at this
            omega
          · rw [lsd_lt (by omega)]
            show m < b ^ 1
            rw [Nat.pow_one]
            omega
      exact .inl (go m)
    · exact .inr e
  rcases up n with u | u
  · have := Nat.pow_le_pow_right (show 0 < b by omega) z
    omega
  · exact u rfl
/-! ### what goes down -/
/-- the worth of the greatest figure -/
theorem worth_nat (b p : Nat) (hb : 1 ≤ b) : worth (b : Int) (p : Int) = (((b - 1) ^ p : Nat) : Int) := by
  unfold worth
  have e : (b : Int) - 1 = ((b - 1 : Nat) : Int) := by omega
  rw [e, Int.toNat_natCast, Int.natCast_pow]
theorem len_moreN {b w L : Nat} (h1 : L * w < b ^ (L - 1)) (hL : 2 ≤ L) (h2 : 2 ≤ b) : ∀ k : Nat, (L + k) * w < b ^ (L + k - 1)
  | 0 => h1
  | k + 1 => by
    have i := len_moreN h1 hL h2 k
    have e : b ^ (L + (k + 1) - 1) = b ^ (L + k - 1) * b := by
      rw [← Nat.pow_succ]
      congr 1
      omega
    have a1 : (L + (k + 1)) * w = (L + k) * w + w := by
      rw [← Nat.add_assoc, Nat.succ_mul]
    have a2 : w ≤ (L + k) * w := Nat.le_mul_of_pos_left w (by omega)
    have a3 : b ^ (L + k - 1) * 2 ≤ b ^ (L + k - 1) * b := Nat.mul_le_mul_left _ h2
    omega
theorem IsLen.nat {b p L : Nat} (hb : 2 ≤ b) (h : IsLen (b : Int) (worth (b : Int) (p : Int)) L) : L * (b - 1) ^ p < b ^ (L - 1) := by
  have := h.less
  rw [worth_nat b p (by omega), ← Int.natCast_mul, ← Int.natCast_pow] at this
  exact Int.ofNat_lt.mp this
theorem goes_down {b p L n : Nat} (hb : 2 ≤ b) (h : IsLen (b : Int) (worth (b : Int) (p : Int)) L) (hn : b ^ (L - 1) ≤ n) : stepN b p n < n := by
  have h1 := h.nat hb
  have l := len_gt hb hn
  have le := stepN_le (p := p) (n := n) hb
  have m := len_moreN h1 h.two hb ((figs b n).length - L)
  have h2 := h.two
  rw [show L + ((figs b n).length - L) = (figs b n).length by omega] at m
  have n0 : 0 < n := Nat.lt_of_lt_of_le (Nat.pow_pos (by omega)) hn
  have := len_pow hb n n0
  omega
/-- the greatest number whose step is no less -/
structure IsKept (b p G : Nat) : Prop where
  kept : G ≤ stepN b p G
  down : ∀ n, G < n → stepN b p n < n
theorem IsKept.uniq {b p G H : Nat} (h : IsKept b p G) (g : IsKept b p H) : G = H := by
  rcases Nat.lt_trichotomy G H with l | l | l
  · have := h.down H l
    have := g.kept
    omega
  · exact l
  · have := g.down G l
    have := h.kept
    omega
/-! ### place by place -/
def gain (b p j f : Nat) : Int := ((f ^ p : Nat) : Int) - (f : Int) * ((b ^ j : Nat) : Int)
def gainRow (b p j : Nat) : List Int := (List.range b).map (gain b p j)
theorem gainRow_len (b p j : Nat) : (gainRow b p j).length = b := by
  unfold gainRow
  rw [List.length_map, List.length_range]
theorem gainRow_get {b p j f : Nat} (h : f < b) : (gainRow b p j)[f]? = some (gain b p j f) := by
  unfold gainRow
  rw [List.getElem?_map, List.getElem?_range h]
  rfl
def rowMax (b p j : Nat) : Int := (gainRow b p j).max?.getD 0
theorem rowMax_spec {b p j : Nat} (hb : 2 ≤ b) : rowMax b p j ∈ gainRow b p j ∧ ∀ y ∈ gainRow b p j, y ≤ rowMax b p j := by
  unfold rowMax
  cases e : (gainRow b p j).max? with
  | none =>
    rw [List.max?_eq_none_iff] at e
    have := gainRow_len b p j
    rw [e] at this
    have e0 : (0 : Nat) = b := this
    omega
  | some m =>
    exact (List.max?_eq_some_iff).mp e
theorem rowMax_uniq {b p j : Nat} {m : Int} (hb : 2 ≤ b) (h1 : m ∈ gainRow b p j) (h2 : ∀ y ∈ gainRow b p j, y ≤ m) : m = rowMax b p j := by
  have s := rowMax_spec (p := p) (j := j) hb
  have := h2 _ s.1
  have := s.2 _ h1
  omega
theorem gain_le {b p j f : Nat} (hb : 2 ≤ b) (h : f < b) : gain b p j f ≤ rowMax b p j := (rowMax_spec hb).2 _ (List.mem_of_getElem? (gainRow_get h))
def restMax (b p : Nat) : Nat → Int
  | 0 => 0
  | k + 1 => restMax b p k + rowMax b p k
/-- what a number's step has beyond it, its figures at k places behind -/
def over (b p x k : Nat) : Int := (stepN b p x : Int) - (x : Int) * ((b ^ k : Nat) : Int)
theorem over_push {b p x k f : Nat} (hb : 2 ≤ b) (hp : 1 ≤ p) (hf : f < b) : over b p (x * b + f) k = over b p x (k + 1) + gain b p k f := by
  unfold over gain
  rw [stepN_push hb hp hf, Nat.pow_succ]
  simp only [Int.natCast_add, Int.natCast_mul, Int.add_mul, Int.mul_assoc, Int.mul_comm, Int.mul_left_comm]
  omega
theorem over_split {b p k y r : Nat} (hb : 2 ≤ b) (hp : 1 ≤ p) (h : r < b ^ k) : over b p (y * b ^ k + r) 0 = over b p y k + over b p r 0 := by
  unfold over
  rw [step_split hb hp k y r h]
  simp only [Int.natCast_add, Int.natCast_mul, Nat.pow_zero]
  omega
theorem rest_bound {b p : Nat} (hb : 2 ≤ b) (hp : 1 ≤ p) : ∀ k r : Nat, r < b ^ k → over b p r 0 ≤ restMax b p k
  | 0, r, h => by
    rw [Nat.pow_zero] at h
    obtain rfl : r = 0 := by omega
    unfold over restMax
    rw [stepN_zero hb hp]
    simp
  | k + 1, r, h => by
    have e : r / b ^ k < b := by
      rw [Nat.div_lt_iff_lt_mul (Nat.pow_pos (by omega)), Nat.mul_comm, ← Nat.pow_succ]
      exact h
    have e0 : r = r / b ^ k * b ^ k + r % b ^ k := by
      have := Nat.div_add_mod r (b ^ k)
      rw [Nat.mul_comm] at this
      omega
    have lt := Nat.mod_lt r (show 0 < b ^ k from Nat.pow_pos (by omega))
    have i := rest_bound hb hp k (r % b ^ k) lt
    have g := gain_le (p := p) (j := k) hb e
    have z : over b p (r / b ^ k) k = gain b p k (r / b ^ k) := by
      unfold over gain
      rw [stepN_lt_base e]
    rw [e0, over_split hb hp lt, z]
    show _ ≤ restMax b p k + rowMax b p k
    omega
/-- the greatest figures one by one: m places to come, x so far, what is to spare -/
structure Greedy (b p M m x : Nat) (spare : Int) : Prop where
  is : spare = over b p x m + restMax b p m
  pos : 0 ≤ spare
  most : ∀ n, n < b ^ M → n ≤ stepN b p n → n / b ^ m ≤ x
theorem restMax_pos {b p : Nat} (hb : 2 ≤ b) (hp : 1 ≤ p) (k : Nat) : 0 ≤ restMax b p k := by
  have := rest_bound hb hp k 0 (Nat.pow_pos (by omega))
  unfold over at this
  rw [stepN_zero hb hp] at this
  simp at this
  exact this
theorem Greedy.start {b p : Nat} (hb : 2 ≤ b) (hp : 1 ≤ p) (M : Nat) : Greedy b p M M 0 (restMax b p M) := by
  refine ⟨?_, restMax_pos hb hp M, fun n h _ => ?_⟩
  · unfold over
    rw [stepN_zero hb hp]
    simp
  · rw [Nat.div_eq_of_lt h]
    exact Nat.le_refl 0
theorem Greedy.next {b p M m x f : Nat} {spare : Int} (hb : 2 ≤ b) (hp : 1 ≤ p) (g : Greedy b p M (m + 1) x spare) (hf : f < b) (h1 : rowMax b p m - spare ≤ gain b p m f)
    (h2 : ∀ e, e < b → rowMax b p m - spare ≤ gain b p m e → e ≤ f) : Greedy b p M m (x * b + f) (spare - rowMax b p m + gain b p m f) := by
  have gi := g.is
  refine ⟨?_, by omega, fun n hn hk => ?_⟩
  · rw [over_push hb hp hf]
    have : restMax b p (m + 1) = restMax b p m + rowMax b p m := rfl
    omega
  · have y1 := g.most n hn hk
    have ed : n / b ^ (m + 1) = n / b ^ m / b := by rw [Nat.pow_succ, Nat.div_div_eq_div_mul]
    rw [ed] at y1
    generalize hy : n / b ^ m = y at y1 ⊢
    have yy := Nat.div_add_mod y b
    have yl := Nat.mod_lt y (show 0 < b by omega)
    by_cases c : y / b = x
    · have e0 : n = y * b ^ m + n % b ^ m := by
        have := Nat.div_add_mod n (b ^ m)
        rw [hy, Nat.mul_comm] at this
        omega
      have lt := Nat.mod_lt n (show 0 < b ^ m from Nat.pow_pos (by omega))
      have r1 := rest_bound hb hp m (n % b ^ m) lt
      have o1 : 0 ≤ over b p n 0 := by
        unfold over
        simp only [Nat.pow_zero]
        omega
      rw [e0, over_split hb hp lt] at o1
      have ey : y = x * b + y % b := by
        rw [← c, Nat.mul_comm]
        exact yy.symm
      rw [ey, over_push hb hp yl] at o1
      have rm : restMax b p (m + 1) = restMax b p m + rowMax b p m := rfl
      have := h2 (y % b) yl (by omega)
      rw [ey]
      omega
    · have : y / b + 1 ≤ x := by omega
      have := Nat.mul_le_mul_right b this
      rw [Nat.succ_mul, Nat.mul_comm (y / b) b] at this
      omega
theorem Greedy.done {b p L x : Nat} {spare : Int} (hb : 2 ≤ b) (h : IsLen (b : Int) (worth (b : Int) (p : Int)) L) (g : Greedy b p (L - 1) 0 x spare) : IsKept b p x := by
  have gi := g.is
  have gp := g.pos
  refine ⟨?_, fun n hn => ?_⟩
  · have : restMax b p 0 = 0 := rfl
    unfold over at gi
    simp only [Nat.pow_zero] at gi
    omega
  · by_cases c : n < b ^ (L - 1)
    · refine Nat.lt_of_not_le fun z => ?_
      have := g.most n c z
      rw [Nat.pow_zero, Nat.div_one] at this
      omega
    · exact goes_down hb h (by omega)
/-- no number from here on but goes down -/
theorem down_from {b p M n : Nat} (hb : 2 ≤ b) (h : IsLen (b : Int) (worth (b : Int) (p : Int)) M) (hn : (M - 1) * (b - 1) ^ p < n) : stepN b p n < n := by
  by_cases c : b ^ (M - 1) ≤ n
  · exact goes_down hb h c
  · have l := len_pow hb n (by omega)
    have k : (figs b n).length - 1 < M - 1 := by
      refine Nat.lt_of_not_le fun z => ?_
      have := Nat.pow_le_pow_right (show 0 < b by omega) z
      omega
    have le := stepN_le (p := p) (n := n) hb
    have := Nat.mul_le_mul_right ((b - 1) ^ p) (show (figs b n).length ≤ M - 1 by omega)
    omega
/-- a step that can be reckoned -/
def stepF (b p : Nat) : Nat → Nat → Nat
  | 0, _ => 0
  | k + 1, n => stepF b p k (n / b) + (n % b) ^ p
theorem stepF_eq {b p : Nat} (hb : 2 ≤ b) (hp : 1 ≤ p) : ∀ k n : Nat, n < b ^ k → stepF b p k n = stepN b p n
  | 0, n, h => by
    rw [Nat.pow_zero] at h
    obtain rfl : n = 0 := by omega
    rw [stepN_zero hb hp]
    rfl
  | k + 1, n, h => by
    rw [stepN_rec hb hp n, ← stepF_eq hb hp k (n / b)]
    · rfl
    · rw [Nat.div_lt_iff_lt_mul (by omega), ← Nat.pow_succ]
      exact h
end Fx

namespace Fx
/-! ### rows come down -/
theorem figs_len_lt {b n k : Nat} (hb : 2 ≤ b) (hk : 1 ≤ k) (h : n < b ^ k) : (figs b n).length ≤ k := by
  by_cases h0 : n = 0
  · subst h0
    rw [figs_len, lsd_lt (by omega)]
    exact hk
  · have l := len_pow hb n (by omega)
    refine Nat.le_of_not_lt fun z => ?_
    have := Nat.pow_le_pow_right (show 0 < b by omega) (show k ≤ (figs b n).length - 1 by omega)
    omega
theorem step_le_len {b p n k : Nat} (hb : 2 ≤ b) (h : (figs b n).length ≤ k) : stepN b p n ≤ k * (b - 1) ^ p := Nat.le_trans (stepN_le hb) (Nat.mul_le_mul_right _ h)
theorem down_one {b p L n k : Nat} (hb : 2 ≤ b) (h : IsLen (b : Int) (worth (b : Int) (p : Int)) L) (hn : n ≤ max (L - 1) k * (b - 1) ^ p) : stepN b p n ≤ max (L - 1) (k - 1) * (b - 1) ^ p := by
  have h1 := h.nat hb
  have h2 := h.two
  by_cases c : k ≤ L - 1
  · have e : max (L - 1) k = L - 1 := by omega
    rw [e] at hn
    refine step_le_len hb (figs_len_lt hb (by omega) ?_)
    have : n < b ^ (L - 1) := by
      have := Nat.mul_le_mul_right ((b - 1) ^ p) (show L - 1 ≤ L by omega)
      omega
    exact Nat.lt_of_lt_of_le this (Nat.pow_le_pow_right (by omega) (by omega))
  · have e : max (L - 1) k = k := by omega
    rw [e] at hn
    have m := len_moreN h1 h2 hb (k - L)
    rw [show L + (k - L) = k by omega] at m
    exact step_le_len hb (figs_len_lt hb (by omega) (Nat.lt_of_lt_of_le (show n < b ^ (k - 1) by omega) (Nat.pow_le_pow_right (by omega) (by omega))))
theorem row_down {b p L n : Nat} (hb : 2 ≤ b) (h : IsLen (b : Int) (worth (b : Int) (p : Int)) L) (hw : (b - 1) ^ p ≤ 1024) (hn : n < 2 ^ 160) : ∀ i, itN b p n (i + 2) ≤ max (L - 1) (18 - i) * (b - 1) ^ p
  | 0 => by
    have f1 : (figs b n).length ≤ 160 := by
      rw [figs_len]
      exact lsd_len_le hb 159 n hn
    have s1 : itN b p n 1 ≤ 160 * (b - 1) ^ p := step_le_len hb f1
    have s2 : itN b p n 1 < 2 ^ 18 := by
      have := Nat.mul_le_mul_left 160 hw
      omega
    have f2 : (figs b (itN b p n 1)).length ≤ 18 := by
      rw [figs_len]
      exact lsd_len_le hb 17 _ s2
    show stepN b p (itN b p n 1) ≤ _
    exact Nat.le_trans (step_le_len hb f2) (Nat.mul_le_mul_right _ (by omega))
  | i + 1 => by
    have ih := row_down hb h hw hn i
    have := down_one hb h ih
    rw [show 18 - (i + 1) = 18 - i - 1 by omega]
    exact this
theorem row_late {b p L n i : Nat} (hb : 2 ≤ b) (h : IsLen (b : Int) (worth (b : Int) (p : Int)) L) (hw : (b - 1) ^ p ≤ 1024) (hn : n < 2 ^ 160) (hi : 20 ≤ i) : itN b p n i ≤ (L - 1) * (b - 1) ^ p := by
  have := row_down hb h hw hn (i - 2)
  rw [show i - 2 + 2 = i by omega, show max (L - 1) (18 - (i - 2)) = L - 1 by omega] at this
  exact this
theorem rowN_get (b p n : Nat) : ∀ m i, i < m → (rowN b p n m)[i]? = some (itN b p n i)
  | 0, _, h => by omega
  | m + 1, i, h => by
    rw [rowN]
    by_cases e : i = m
    · subst e
      rw [List.getElem?_append_right (by rw [rowN_len]; exact Nat.le_refl _), rowN_len, Nat.sub_self]
      rfl
    · rw [List.getElem?_append_left (by rw [rowN_len]; omega)]
      exact rowN_get b p n m i (by omega)
theorem kept_lt {b p L G : Nat} (hb : 2 ≤ b) (h : IsLen (b : Int) (worth (b : Int) (p : Int)) L) (g : IsKept b p G) : G < b ^ (L - 1) := by
  refine Nat.lt_of_not_le fun z => ?_
  have := goes_down hb h z
  have := g.kept
  omega
end Fx

namespace Fx
open PySem PySem.Spec PyProof.Rows L2
/-- a pair's numbers as naturals -/
theorem OkPair.nat {b p : Int} (h : OkPair b p) : ∃ b' p' : Nat, b = (b' : Int) ∧ p = (p' : Int) ∧ 2 ≤ b' ∧ b' ≤ 16 ∧ 1 ≤ p' ∧ p' ≤ 10 := by
  obtain ⟨h1, h2, h3, h4⟩ := id h
  have h5 := h.le10
  exact ⟨b.toNat, p.toNat, by omega, by omega, by omega, by omega, by omega, by omega⟩
/-- a number with a pair and how many are asked -/
def QuadAt (H : Hp) (v : V) : Prop := ∃ (a : Addr) (n b p m : Nat), v = .ref a ∧ H a = some (.tup [.int (n : Int), .int (b : Int), .int (p : Int), .int (m : Int)]) ∧ 2 ≤ b ∧ b ≤ 16 ∧ p ≤ 10 ∧ n < 16 ^ 40 ∧ m ≤ 60
theorem QuadAt.mono {H H' : Hp} {v : V} (h : QuadAt H v) (k : ∀ a xs, H a = some (.tup xs) → H' a = some (.tup xs)) : QuadAt H' v := by
  obtain ⟨a, n, b, p, m, e1, e2, r⟩ := h
  exact ⟨a, n, b, p, m, e1, k _ _ e2, r⟩
theorem lt900 {n : Nat} (h : n < 16 ^ 40) : n < 2 ^ 900 := Nat.lt_of_lt_of_le h (by
  have e : (16 : Nat) ^ 40 = 2 ^ 160 := by decide
  rw [e]
  exact Nat.pow_le_pow_right (by decide) (by decide))
end Fx

namespace Fx
/-! ### where numbers end -/
theorem nodup_len : ∀ (M : Nat) (l : List Nat), l.Nodup → (∀ x ∈ l, x < M) → l.length ≤ M
  | 0, l, _, h => by
    cases l with
    | nil => exact Nat.le_refl _
    | cons a r => exact absurd (h a (List.mem_cons_self ..)) (Nat.not_lt_zero _)
  | M + 1, l, nd, h => by
    have e := nodup_len M (l.erase M) (nd.erase M) fun x hx => by
      have hx' := (List.Nodup.mem_erase_iff nd).mp hx
      have := h x hx'.2
      omega
    rw [List.length_erase] at e
    split at e <;> omega
theorem itN_zero (b p n : Nat) : itN b p n 0 = n := rfl
theorem itN_succ (b p n k : Nat) : itN b p n (k + 1) = stepN b p (itN b p n k) := rfl
theorem itN_add (b p n j : Nat) : ∀ k, itN b p n (j + k) = itN b p (itN b p n j) k
  | 0 => rfl
  | k + 1 => by
    rw [← Nat.add_assoc, itN_succ, itN_succ, itN_add b p n j k]
theorem itN_first (b p n k : Nat) : itN b p n (k + 1) = itN b p (stepN b p n) k := by
  rw [Nat.add_comm, itN_add]
  rfl
/-- it stands in a round -/
def Per (b p x : Nat) : Prop := ∃ k, 0 < k ∧ itN b p x k = x
theorem Per.it {b p x : Nat} (h : Per b p x) (j : Nat) : Per b p (itN b p x j) := by
  obtain ⟨k, k0, e⟩ := h
  refine ⟨k, k0, ?_⟩
  rw [← itN_add, Nat.add_comm, itN_add, e]
theorem Per.mul {b p x k : Nat} (e : itN b p x k = x) : ∀ m, itN b p x (m * k) = x
  | 0 => by rw [Nat.zero_mul]; rfl
  | m + 1 => by rw [Nat.succ_mul, itN_add, Per.mul e m, e]
/-- from a number of a round on, each later one leads back -/
theorem Per.back {b p x : Nat} (h : Per b p x) (j : Nat) : ∃ i, itN b p (itN b p x j) i = x := by
  obtain ⟨k, k0, e⟩ := h
  refine ⟨j * k - j, ?_⟩
  have : j ≤ j * k := Nat.le_mul_of_pos_right j k0
  rw [← itN_add, show j + (j * k - j) = j * k by omega]
  exact Per.mul e j
/-- a steps away from the round of the least number m -/
structure EndAt (b p n a m : Nat) : Prop where
  per : Per b p (itN b p n a)
  first : ∀ j, j < a → ¬ Per b p (itN b p n j)
  on : ∃ i, a ≤ i ∧ itN b p n i = m
  least : ∀ i, a ≤ i → m ≤ itN b p n i
theorem EndAt.uniq {b p n a m a' m' : Nat} (h : EndAt b p n a m) (g : EndAt b p n a' m') : a = a' ∧ m = m' := by
  have ea : a = a' := by
    rcases Nat.lt_trichotomy a a' with l | l | l
    · exact absurd h.per (g.first a l)
    · exact l
    · exact absurd g.per (h.first a' l)
  subst ea
  obtain ⟨i, hi, rfl⟩ := h.on
  obtain ⟨j, hj, rfl⟩ := g.on
  exact ⟨rfl, Nat.le_antisymm (h.least j hj) (g.least i hi)⟩
/-- the first number that stands twice -/
theorem EndAt.of_row {b p n A L : Nat} (hA : A < L) (e : itN b p n L = itN b p n A) (nd : ∀ i j, i < L → j < L → itN b p n i = itN b p n j → i = j) {m : Nat}
    (on : ∃ i, A ≤ i ∧ i < L ∧ itN b p n i = m) (le : ∀ i, A ≤ i → i < L → m ≤ itN b p n i) : EndAt b p n A m := by
  have round : ∀ i, A ≤ i → ∃ j, A ≤ j ∧ j < L ∧ itN b p n i = itN b p n j := fun i => by
    induction i with
    | zero => intro h; exact ⟨0, h, by omega, rfl⟩
    | succ i ih =>
      intro h
      by_cases c : A ≤ i
      · obtain ⟨j, j1, j2, ej⟩ := ih c
        by_cases d : j + 1 < L
        · exact ⟨j + 1, by omega, d, by rw [itN_succ, itN_succ, ej]⟩
        · have : j + 1 = L := by omega
          refine ⟨A, Nat.le_refl _, hA, ?_⟩
          rw [itN_succ, ej, ← itN_succ, this, e]
      · have : i + 1 = A := by omega
        exact ⟨A, Nat.le_refl _, hA, by rw [this]⟩
  refine ⟨⟨L - A, by omega, ?_⟩, fun j hj => ?_, ?_, fun i hi => ?_⟩
  · rw [← itN_add, show A + (L - A) = L by omega, e]
  · rintro ⟨k, k0, ek⟩
    have z := Per.mul ek A
    rw [← itN_add] at z
    have : A ≤ A * k := Nat.le_mul_of_pos_right A k0
    obtain ⟨i, i1, i2, ei⟩ := round (j + A * k) (by omega)
    have := nd j i (by omega) i2 (by rw [← z, ei])
    omega
  · obtain ⟨i, i1, i2, ei⟩ := on
    exact ⟨i, i1, ei⟩
  · obtain ⟨j, j1, j2, ej⟩ := round i hi
    rw [ej]
    exact le j j1 j2
theorem EndAt.step {b p n a m : Nat} (h : EndAt b p n (a + 1) m) : EndAt b p (stepN b p n) a m := by
  refine ⟨by rw [← itN_first]; exact h.per, fun j hj => by rw [← itN_first]; exact h.first (j + 1) (by omega), ?_, fun i hi => by rw [← itN_first]; exact h.least (i + 1) (by omega)⟩
  obtain ⟨i, i1, i2⟩ := h.on
  obtain ⟨i', rfl⟩ : ∃ i', i = i' + 1 := ⟨i - 1, by omega⟩
  exact ⟨i', by omega, by rw [← itN_first]; exact i2⟩
theorem EndAt.succ {b p n a m : Nat} (h : EndAt b p (stepN b p n) a m) (np : ¬ Per b p n) : EndAt b p n (a + 1) m := by
  refine ⟨by rw [itN_first]; exact h.per, fun j hj => ?_, ?_, fun i hi => ?_⟩
  · cases j with
    | zero => exact np
    | succ j => rw [itN_first]; exact h.first j (by omega)
  · obtain ⟨i, i1, i2⟩ := h.on
    exact ⟨i + 1, by omega, by rw [itN_first]; exact i2⟩
  · obtain ⟨i', rfl⟩ : ∃ i', i = i' + 1 := ⟨i - 1, by omega⟩
    rw [itN_first]
    exact h.least i' (by omega)
/-- in the round: each number of it ends in it, away no step -/
theorem EndAt.round {b p n m : Nat} (h : EndAt b p n 0 m) (j : Nat) : EndAt b p (itN b p n j) 0 m := by
  refine ⟨h.per.it j, fun i hi => by omega, ?_, fun i _ => ?_⟩
  · obtain ⟨i, _, e⟩ := h.on
    obtain ⟨k, ek⟩ := h.per.back j
    have ek' : itN b p (itN b p n j) k = n := ek
    exact ⟨k + i, Nat.zero_le _, by rw [itN_add, ek']; exact e⟩
  · rw [← itN_add]
    exact h.least _ (Nat.zero_le _)
theorem EndAt.later {b p n a m : Nat} (h : EndAt b p n a m) : ∀ j, EndAt b p (itN b p n j) (a - j) m
  | 0 => h
  | j + 1 => by
    have i := EndAt.later h j
    rw [itN_succ]
    by_cases c : a - j = 0
    · rw [c] at i
      have := i.round 1
      rw [show a - (j + 1) = 0 by omega]
      exact this
    · rw [show a - j = (a - (j + 1)) + 1 by omega] at i
      exact i.step
theorem EndAt.self {b p n a m : Nat} (h : EndAt b p n a m) : EndAt b p m 0 m := by
  obtain ⟨i, hi, e⟩ := h.on
  have := h.later i
  rw [e, show a - i = 0 by omega] at this
  exact this
/-- the least number is that of the step -/
theorem EndAt.least_step {b p n a m a' m' : Nat} (h : EndAt b p n a m) (g : EndAt b p (stepN b p n) a' m') : m = m' ∧ a' = a - 1 := by
  have := h.later 1
  have := this.uniq g
  exact ⟨this.2, this.1.symm⟩
theorem per_iff {b p n a m : Nat} (h : EndAt b p n a m) : Per b p n ↔ a = 0 := by
  constructor
  · intro z
    refine Nat.le_antisymm (Nat.le_of_not_lt fun c => h.first 0 c z) (Nat.zero_le _)
  · rintro rfl
    exact h.per
/-! ### each number ends -/
/-- a number beyond which no row goes far -/
structure Near (b p n : Nat) : Prop where
  hb : 2 ≤ b
  lt : ∀ i, 20 ≤ i → itN b p n i ≤ 15000
theorem Near.rep {b p n : Nat} (h : Near b p n) {L : Nat} (nd : ∀ i j, i < L → j < L → itN b p n i = itN b p n j → i = j) : L ≤ 15030 := by
  refine Nat.le_of_not_lt fun z => ?_
  have l := nodup_len 15001 ((List.range (L - 20)).map fun i => itN b p n (20 + i)) ?_ ?_
  · rw [List.length_map, List.length_range] at l
    omega
  · refine List.pairwise_map.mpr (List.Pairwise.imp_of_mem ?_ (List.nodup_range (n := L - 20)))
    intro x y hx hy ne e
    have := List.mem_range.mp hx
    have := List.mem_range.mp hy
    have := nd _ _ (by omega) (by omega) e
    omega
  · intro x hx
    obtain ⟨i, hi, rfl⟩ := List.mem_map.mp hx
    have := h.lt (20 + i) (by omega)
    omega
theorem exists_end {b p n : Nat} (h : Near b p n) : ∃ a m, EndAt b p n a m := by
  -- the first number that stood ahead
  have go : ∀ k L : Nat, 15031 - L = k → (∀ i j, i < L → j < L → itN b p n i = itN b p n j → i = j) → ∃ A L, A < L ∧ itN b p n L = itN b p n A ∧ ∀ i j, i < L → j < L → itN b p n i = itN b p n j → i = j := by
    intro k
    induction k with
    | zero =>
      intro L hL nd
      have := h.rep nd
      omega
    | succ k ih =>
      intro L hL nd
      by_cases c : ∃ A, A < L ∧ itN b p n L = itN b p n A
      · obtain ⟨A, a1, a2⟩ := c
        exact ⟨A, L, a1, a2, nd⟩
      · refine ih (L + 1) (by omega) fun i j hi hj e => ?_
        by_cases ci : i = L
        · by_cases cj : j = L
          · omega
          · subst ci
            exact absurd ⟨j, by omega, e⟩ c
        · by_cases cj : j = L
          · subst cj
            exact absurd ⟨i, by omega, e.symm⟩ c
          · exact nd i j (by omega) (by omega) e
  obtain ⟨A, L, hA, e, nd⟩ := go _ 0 rfl fun i j hi => by omega
  -- the least one of these
  have mn : ∀ k, A + k < L → ∃ m, (∃ i, A ≤ i ∧ i ≤ A + k ∧ itN b p n i = m) ∧ ∀ i, A ≤ i → i ≤ A + k → m ≤ itN b p n i := by
    intro k
    induction k with
    | zero =>
      intro _
      exact ⟨_, ⟨A, Nat.le_refl _, by omega, rfl⟩, fun i h1 h2 => by
        have : i = A := by omega
        subst this
        exact Nat.le_refl _⟩
    | succ k ih =>
      intro hk
      obtain ⟨m, ⟨i, i1, i2, i3⟩, lm⟩ := ih (by omega)
      by_cases c : itN b p n (A + (k + 1)) < m
      · refine ⟨_, ⟨A + (k + 1), by omega, Nat.le_refl _, rfl⟩, fun j h1 h2 => ?_⟩
        by_cases d : j = A + (k + 1)
        · subst d
          exact Nat.le_refl _
        · have := lm j h1 (by omega)
          omega
      · refine ⟨m, ⟨i, i1, by omega, i3⟩, fun j h1 h2 => ?_⟩
        by_cases d : j = A + (k + 1)
        · subst d
          omega
        · exact lm j h1 (by omega)
  obtain ⟨m, ⟨i, i1, i2, i3⟩, lm⟩ := mn (L - 1 - A) (by omega)
  exact ⟨A, m, .of_row hA e nd ⟨i, i1, by omega, i3⟩ fun j j1 j2 => lm j j1 (by omega)⟩
/-! ### pairs -/
structure OkN (b p : Nat) : Prop where
  ok : OkPair (b : Int) (p : Int)
theorem OkN.hb {b p : Nat} (h : OkN b p) : 2 ≤ b := by have := h.ok.1; omega
theorem OkN.hb16 {b p : Nat} (h : OkN b p) : b ≤ 16 := by have := h.ok.2.1; omega
theorem OkN.hp1 {b p : Nat} (h : OkN b p) : 1 ≤ p := by have := h.ok.2.2.1; omega
theorem OkN.hp {b p : Nat} (h : OkN b p) : p ≤ 10 := by have := h.ok.le10; omega
theorem OkN.worth {b p : Nat} (h : OkN b p) : 1 ≤ (b - 1) ^ p ∧ (b - 1) ^ p ≤ 1024 := by
  have h1 := h.ok.worth
  have h2 := h.hb
  rw [worth_nat b p (by omega)] at h1
  omega
theorem row_down2 {b p L n : Nat} (hb : 2 ≤ b) (h : IsLen (b : Int) (Fx.worth (b : Int) (p : Int)) L) (hw : (b - 1) ^ p ≤ 1024) (hn : n < 2 ^ 200) : ∀ i, itN b p n (i + 2) ≤ max (L - 1) (18 - i) * (b - 1) ^ p
  | 0 => by
    have f1 : (figs b n).length ≤ 200 := by
      rw [figs_len]
      exact lsd_len_le hb 199 n hn
    have s1 : itN b p n 1 ≤ 200 * (b - 1) ^ p := step_le_len hb f1
    have s2 : itN b p n 1 < 2 ^ 18 := by
      have := Nat.mul_le_mul_left 200 hw
      omega
    have f2 : (figs b (itN b p n 1)).length ≤ 18 := by
      rw [figs_len]
      exact lsd_len_le hb 17 _ s2
    show stepN b p (itN b p n 1) ≤ _
    exact Nat.le_trans (step_le_len hb f2) (Nat.mul_le_mul_right _ (by omega))
  | i + 1 => by
    have ih := row_down2 hb h hw hn i
    have := down_one hb h ih
    rw [show 18 - (i + 1) = 18 - i - 1 by omega]
    exact this
theorem near_of {b p n : Nat} (h : OkN b p) (hn : n < 2 ^ 200) : Near b p n := by
  have hw := h.worth
  obtain ⟨L, hL, l15⟩ := len_ex h.ok.1 (show Fx.worth (b : Int) (p : Int) ≤ 1024 by have := h.ok.worth; omega)
  refine ⟨h.hb, fun i hi => ?_⟩
  have := row_down2 h.hb hL hw.2 hn (i - 2)
  rw [show i - 2 + 2 = i by omega, show max (L - 1) (18 - (i - 2)) = L - 1 by omega] at this
  have := Nat.mul_le_mul (show L - 1 ≤ 14 by omega) hw.2
  omega
theorem lt200 {n : Nat} (h : n < 2 ^ 200) : n < 2 ^ 900 := Nat.lt_of_lt_of_le h (Nat.pow_le_pow_right (by decide) (by decide))
theorem itN_lt200 {b p n : Nat} (h : OkN b p) (hn : n < 2 ^ 200) : ∀ k, itN b p n k < 2 ^ 200
  | 0 => hn
  | k + 1 => by
    have := stepN_lt h.hb h.hb16 h.hp (lt200 (itN_lt200 h hn k))
    have e : itN b p n (k + 1) = stepN b p (itN b p n k) := rfl
    have u : (2 : Nat) ^ 50 ≤ 2 ^ 200 := Nat.pow_le_pow_right (by decide) (by decide)
    omega
/-- a way to the first number that stood ahead -/
structure Way (b p n A L : Nat) : Prop where
  lt : A < L
  back : itN b p n L = itN b p n A
  nd : ∀ i j, i < L → j < L → itN b p n i = itN b p n j → i = j
/-- a round from its least number on -/
structure Rnd (b p m k : Nat) : Prop where
  pos : 0 < k
  back : itN b p m k = m
  nd : ∀ i j, i < k → j < k → itN b p m i = itN b p m j → i = j
  least : ∀ i, m ≤ itN b p m i
theorem Way.end_of {b p n A L m : Nat} (w : Way b p n A L) (on : ∃ i, A ≤ i ∧ i < L ∧ itN b p n i = m) (le : ∀ i, A ≤ i → i < L → m ≤ itN b p n i) : EndAt b p n A m := .of_row w.lt w.back w.nd on le
theorem Way.turn {b p n A L : Nat} (w : Way b p n A L) (i : Nat) : itN b p n (L + i) = itN b p n (A + i) := by
  rw [itN_add, w.back, ← itN_add]
theorem Way.rnd {b p n A L i : Nat} (w : Way b p n A L) (h1 : A ≤ i) (h2 : i < L) (le : ∀ j, A ≤ j → j < L → itN b p n i ≤ itN b p n j) : Rnd b p (itN b p n i) (L - A) := by
  have e := w.end_of ⟨i, h1, h2, rfl⟩ le
  have lt := w.lt
  refine ⟨by omega, ?_, fun x y hx hy exy => ?_, fun j => ?_⟩
  · rw [← itN_add, show i + (L - A) = L + (i - A) by omega, w.turn, show A + (i - A) = i by omega]
  · rw [← itN_add, ← itN_add] at exy
    by_cases cx : i + x < L
    · by_cases cy : i + y < L
      · have := w.nd _ _ cx cy exy
        omega
      · rw [show i + y = L + (i + y - L) by omega, w.turn] at exy
        have := w.nd _ _ cx (by omega) exy
        omega
    · rw [show i + x = L + (i + x - L) by omega, w.turn] at exy
      by_cases cy : i + y < L
      · have := w.nd _ _ (by omega) cy exy
        omega
      · rw [show i + y = L + (i + y - L) by omega, w.turn] at exy
        have := w.nd _ _ (by omega) (by omega) exy
        omega
  · rw [← itN_add]
    exact e.least _ (by omega)
theorem Rnd.at0 {b p m k : Nat} (h : Rnd b p m k) : EndAt b p m 0 m := ⟨⟨k, h.pos, h.back⟩, fun j hj => by omega, ⟨0, Nat.le_refl _, rfl⟩, fun i _ => h.least i⟩
theorem Rnd.uniq {b p m k l : Nat} (h : Rnd b p m k) (g : Rnd b p m l) : k = l := by
  rcases Nat.lt_trichotomy k l with c | c | c
  · have := g.nd k 0 c g.pos (by rw [h.back]; rfl)
    have := h.pos
    omega
  · exact c
  · have := h.nd l 0 c h.pos (by rw [g.back]; rfl)
    have := g.pos
    omega
theorem Rnd.le {b p m k : Nat} (h : Rnd b p m k) (nr : Near b p m) : k ≤ 15030 := nr.rep h.nd
theorem rowN_eq (b p n : Nat) : ∀ m, rowN b p n m = (List.range m).map (itN b p n)
  | 0 => rfl
  | m + 1 => by
    rw [rowN, rowN_eq b p n m, List.range_succ, List.map_append]
    rfl
theorem rowN_drop {b p n A L : Nat} : (rowN b p n L).drop A = rowN b p (itN b p n A) (L - A) := by
  rw [rowN_eq, rowN_eq]
  refine List.ext_getElem? fun i => ?_
  rw [List.getElem?_drop, List.getElem?_map, List.getElem?_map]
  by_cases c : A + i < L
  · rw [List.getElem?_range c, List.getElem?_range (by omega)]
    show some (itN b p n (A + i)) = some (itN b p (itN b p n A) i)
    rw [itN_add]
  · rw [List.getElem?_eq_none (by rw [List.length_range]; omega), List.getElem?_eq_none (by rw [List.length_range]; omega)]
    rfl
theorem rowN_take {b p n i : Nat} {L : Nat} (h : i ≤ L) : (rowN b p n L).take i = rowN b p n i := by
  rw [rowN_eq, rowN_eq, ← List.map_take, List.take_range]
  rw [Nat.min_eq_left h]
theorem rowN_app {b p n i j : Nat} : rowN b p n i ++ rowN b p (itN b p n i) j = rowN b p n (i + j) := by
  rw [← rowN_take (L := i + j) (i := i) (by omega), show rowN b p (itN b p n i) j = (rowN b p n (i + j)).drop i by rw [rowN_drop]; congr 1; omega, List.take_append_drop]
theorem mem_rowN {b p n L x : Nat} : x ∈ rowN b p n L ↔ ∃ i, i < L ∧ itN b p n i = x := by
  rw [rowN_eq, List.mem_map]
  exact ⟨fun ⟨i, h, e⟩ => ⟨i, List.mem_range.mp h, e⟩, fun ⟨i, h, e⟩ => ⟨i, List.mem_range.mpr h, e⟩⟩
/-- from another number of a round on, gone round: the whole round -/
theorem Way.rot {b p n A L i : Nat} (w : Way b p n A L) (h1 : A ≤ i) (h2 : i < L) : ((rowN b p n L).drop A).drop (i - A) ++ ((rowN b p n L).drop A).take (i - A) = rowN b p (itN b p n i) (L - A) := by
  have lt := w.lt
  rw [rowN_drop, rowN_drop, rowN_take (by omega), ← itN_add, show A + (i - A) = i by omega]
  have e : itN b p n A = itN b p (itN b p n i) (L - A - (i - A)) := by
    rw [← itN_add, show i + (L - A - (i - A)) = L by omega, w.back]
  rw [e, rowN_app, show L - A - (i - A) + (i - A) = L - A by omega]
end Fx
namespace Fx
theorem itN_lt160 {b p n : Nat} (h : OkN b p) (hn : n < 16 ^ 40) : ∀ k, itN b p n k < 16 ^ 40
  | 0 => hn
  | k + 1 => by
    have u1 : (16 : Nat) ^ 40 < 2 ^ 200 := by decide
    have u2 : (2 : Nat) ^ 50 < 16 ^ 40 := by decide
    have ih := itN_lt160 h hn k
    have := stepN_lt h.hb h.hb16 h.hp (lt200 (show itN b p n k < 2 ^ 200 by omega))
    have e : itN b p n (k + 1) = stepN b p (itN b p n k) := rfl
    omega
end Fx

namespace Fx
open PySem PySem.Spec PyProof.Rows L2
/-! ### a dict by places -/
def kvsOf (f : Nat → Int) (g : Nat → V) (L : Nat) : List (Key × V) := (List.range L).map fun i => (Sum.inl (f i), g i)
theorem kvsOf_len (f : Nat → Int) (g : Nat → V) (L : Nat) : (kvsOf f g L).length = L := by
  unfold kvsOf
  rw [List.length_map, List.length_range]
theorem kvsOf_succ (f : Nat → Int) (g : Nat → V) (L : Nat) : kvsOf f g (L + 1) = kvsOf f g L ++ [(Sum.inl (f L), g L)] := by
  unfold kvsOf
  rw [List.range_succ, List.map_append]
  rfl
theorem kvsOf_none {f : Nat → Int} {g : Nat → V} {k : Int} {L : Nat} (h : ∀ i, i < L → f i ≠ k) : valV (kvsOf f g L) (Sum.inl k : Key) = none := by
  unfold valV kvsOf
  rw [List.find?_eq_none.mpr]
  · rfl
  · intro x hx
    obtain ⟨i, hi, rfl⟩ := List.mem_map.mp hx
    rw [decide_eq_true_iff]
    intro e
    exact h i (List.mem_range.mp hi) (Sum.inl.inj e)
theorem kvsOf_some {f : Nat → Int} {g : Nat → V} : ∀ {L i : Nat}, (∀ i j, i < L → j < L → f i = f j → i = j) → i < L → valV (kvsOf f g L) (Sum.inl (f i) : Key) = some (g i)
  | 0, i, _, h => by omega
  | L + 1, i, nd, h => by
    rw [kvsOf_succ, valV_snoc _ _ _ _ (kvsOf_none fun j hj e => by
      have := nd j L (by omega) (by omega) e
      omega)]
    by_cases c : i = L
    · subst c
      rw [if_pos rfl]
    · rw [if_neg (fun e => c (nd i L h (by omega) (Sum.inl.inj e))), kvsOf_some (fun a b ha hb => nd a b (by omega) (by omega)) (by omega)]
theorem kvsOf_put {f : Nat → Int} {g : Nat → V} {L : Nat} (h : ∀ i, i < L → f i ≠ f L) : putK (kvsOf f g L) (Sum.inl (f L) : Key) (g L) = kvsOf f g (L + 1) := by
  rw [putK_new _ (kvsOf_none h), kvsOf_succ]
theorem kvsOf_keys (f : Nat → Int) (g : Nat → V) (L : Nat) : ((kvsOf f g L).map fun kv => kV kv.1) = (List.range L).map fun i => V.int (f i) := by
  unfold kvsOf
  rw [List.map_map]
  rfl
/-! ### numbers in lists -/
theorem inV_ivs (n : Nat) (l : List Nat) : inV (.int (n : Int)) (ivs l) = decide (n ∈ l) := by
  unfold inV ivs
  rw [List.any_map]
  by_cases c : n ∈ l
  · rw [decide_eq_true c, List.any_eq_true]
    refine ⟨n, c, ?_⟩
    show ((n : Int) == (n : Int)) = true
    exact beq_self_eq_true _
  · rw [decide_eq_false c, List.any_eq_false]
    intro x hx e
    have e' : ((x : Int) == (n : Int)) = true := e
    have := eq_of_beq e'
    have : x = n := by omega
    exact c (this ▸ hx)
theorem flat_ivs (l : List Nat) : (ivs l).all flatV = true := by
  unfold ivs
  rw [List.all_map, List.all_eq_true]
  intro x _
  rfl
theorem eqV_int (a b : Nat) : eqV (.int (a : Int)) (.int (b : Int)) = decide (a = b) := by
  show ((a : Int) == (b : Int)) = _
  by_cases c : a = b
  · subst c
    rw [decide_eq_true rfl]
    exact beq_self_eq_true _
  · rw [decide_eq_false c]
    exact beq_eq_false_iff_ne.mpr (by omega)
theorem dget {H : Hp} {a : Addr} {kvs : List (Key × V)} {k : Key} {r : Option V} (e : H a = some (.dK kvs)) (v : valV kvs k = r) : DGet H a (kV k) r := by
  subst v
  exact .k e
theorem small_len {n : Nat} (h : n ≤ 16000000) : n < sizeLine := Nat.lt_of_le_of_lt h (by decide)
end Fx

namespace Fx
open PySem PySem.Spec PyProof.Rows L2
/-! ### the laws' draws from a seed -/
def Seed (H : Hp) (d : Addr) : Prop := ∃ a f t r : Int, H d = some (.lst [.int a, .int f, .int t, .int r])
theorem Seed.same {H H' : Hp} {d : Addr} (h : Seed H d) (s : Same H H') : Seed H' d := by
  obtain ⟨a, f, t, r, e⟩ := h
  exact ⟨a, f, t, r, s _ _ e⟩
theorem Seed.off {H : Hp} {d p : Addr} {o : HO} (h : Seed H d) (n : p ≠ d) : Seed (upd H p o) d := by
  obtain ⟨a, f, t, r, e⟩ := h
  exact ⟨a, f, t, r, by rw [upd_ne (Ne.symm n)]; exact e⟩
theorem Seed.there {H : Hp} {d : Addr} (h : Seed H d) : ∃ o, H d = some o := by
  obtain ⟨a, f, t, r, e⟩ := h
  exact ⟨_, e⟩
theorem Seed.out {H : Hp} {d p : Addr} (h : Seed H d) (hp : H p = none) : p ≠ d := by
  obtain ⟨o, e⟩ := h.there
  exact (ne_of_none e hp).symm
theorem Seed.tup {H H' : Hp} {d t : Addr} {xs : List V} (h : Seed H d) (b : But d H H') (e : H t = some (.tup xs)) : H' t = some (.tup xs) := by
  obtain ⟨_, _, _, _, q⟩ := h
  exact b t _ (ne_of e q (fun z => by cases z)) e
/-- what each figure is worth -/
def wts (b p : Nat) : List Nat := (List.range b).map (· ^ p)
theorem wts_len (b p : Nat) : (wts b p).length = b := by
  unfold wts
  rw [List.length_map, List.length_range]
theorem wts_get {b p i : Nat} (h : i < b) : (wts b p)[i]? = some (i ^ p) := by
  unfold wts
  rw [List.getElem?_map, List.getElem?_range h]
  rfl
/-- base, power, and what figures are worth -/
def PairW (H : Hp) (d t : Addr) (b p : Nat) : Prop := ∃ w, H t = some (.tup [.int (b : Int), .int (p : Int), .ref w]) ∧ H w = some (.lst (ivs (wts b p))) ∧ w ≠ d ∧ t ≠ d ∧ OkN b p
theorem PairW.but {H H' : Hp} {d t : Addr} {b p : Nat} (h : PairW H d t b p) (s : But d H H') : PairW H' d t b p := by
  obtain ⟨w, e1, e2, n1, n2, ok⟩ := h
  exact ⟨w, s _ _ n2 e1, s _ _ n1 e2, n1, n2, ok⟩
theorem PairW.same {H H' : Hp} {d t : Addr} {b p : Nat} (h : PairW H d t b p) (s : Same H H') : PairW H' d t b p := h.but (.of s)
theorem PairW.ok {H : Hp} {d t : Addr} {b p : Nat} (h : PairW H d t b p) : OkN b p := by
  obtain ⟨w, e1, e2, n1, n2, ok⟩ := h
  exact ok
theorem cut_ivs_to (l : List Nat) (i : Nat) : cutV (ivs l) none (some (i : Int)) = ivs (l.take i) := by
  rw [cut_to]
  unfold ivs
  rw [List.map_take]
theorem cut_ivs_from (l : List Nat) (i : Nat) : cutV (ivs l) (some (i : Int)) none = ivs (l.drop i) := by
  rw [cut_from]
  unfold ivs
  rw [List.map_drop]
/-- the powers that a base lets -/
def mostN (b : Nat) : Nat := (mostOf (b : Int)).toNat
def upTo (m : Nat) : List Nat := (List.range m).map (· + 1)
theorem upTo_len (m : Nat) : (upTo m).length = m := by
  unfold upTo
  rw [List.length_map, List.length_range]
theorem upTo_get {m i : Nat} (h : i < m) : (upTo m)[i]? = some (i + 1) := by
  unfold upTo
  rw [List.getElem?_map, List.getElem?_range h]
  rfl
theorem upTo_succ (m : Nat) : upTo (m + 1) = upTo m ++ [m + 1] := by
  unfold upTo
  rw [List.range_succ, List.map_append]
  rfl
theorem most_iff {b k : Nat} (h1 : 2 ≤ b) (h2 : b ≤ 16) (k1 : 1 ≤ k) (k2 : k ≤ 10) : (b - 1) ^ k ≤ 1000 ↔ k ≤ mostN b := by
  have a : ∀ i ∈ List.range 15, ∀ j ∈ List.range 10, ((i + 2 - 1) ^ (j + 1) ≤ 1000 ↔ j + 1 ≤ mostN (i + 2)) := by decide +kernel
  have := a (b - 2) (List.mem_range.mpr (by omega)) (k - 1) (List.mem_range.mpr (by omega))
  rwa [show b - 2 + 2 = b by omega, show k - 1 + 1 = k by omega] at this
theorem mostN_pos {b : Nat} (h1 : 2 ≤ b) (h2 : b ≤ 16) : 1 ≤ mostN b ∧ mostN b ≤ 10 := by
  have := most_pos (b := (b : Int)) (by omega) (by omega)
  unfold mostN
  omega
theorem okN_of {b p : Nat} (h1 : 2 ≤ b) (h2 : b ≤ 16) (h3 : 1 ≤ p) (h4 : p ≤ mostN b) : OkN b p := by
  have := most_pos (b := (b : Int)) (by omega) (by omega)
  unfold mostN at h4
  exact ⟨by omega, by omega, by omega, by omega⟩
end Fx

namespace Fx
open PySem PySem.Spec PyProof.Rows L2
/-! ### papers -/
structure PaperAt (b p n m s t : Nat) : Prop where
  lt : t < s
  one : itN b p n t = m
  two : itN b p n s = m
  only : ∀ i, i < s → itN b p n i = m → i = t
def PaperOf (b p n s : Nat) : Prop := ∃ A m t, EndAt b p n A m ∧ PaperAt b p n m s t
theorem PaperAt.uniq {b p n m s t s' t' : Nat} (h : PaperAt b p n m s t) (g : PaperAt b p n m s' t') : s = s' := by
  rcases Nat.lt_trichotomy s s' with c | c | c
  · have := g.only s c h.two
    have := g.only t (by have := h.lt; omega) h.one
    have := h.lt
    omega
  · exact c
  · have := h.only s' c g.two
    have := h.only t' (by have := g.lt; omega) g.one
    have := g.lt
    omega
theorem PaperOf.uniq {b p n s s' : Nat} (h : PaperOf b p n s) (g : PaperOf b p n s') : s = s' := by
  obtain ⟨A, m, t, e, w⟩ := h
  obtain ⟨A', m', t', e', w'⟩ := g
  obtain ⟨rfl, rfl⟩ := e.uniq e'
  exact w.uniq w'
theorem Way.paper {b p n A L t : Nat} (w : Way b p n A L) (h1 : A ≤ t) (h2 : t < L) : PaperAt b p n (itN b p n t) (t + (L - A)) t := by
  have lt := w.lt
  refine ⟨by omega, rfl, ?_, fun i hi e => ?_⟩
  · rw [show t + (L - A) = L + (t - A) by omega, w.turn, show A + (t - A) = t by omega]
  · by_cases c : i < L
    · exact w.nd i t c h2 e
    · rw [show i = L + (i - L) by omega, w.turn] at e
      have := w.nd _ _ (by omega) h2 e
      omega
/-- one that ends at m comes there -/
theorem EndAt.ge {b p n A m t : Nat} (h : EndAt b p n A m) (e : itN b p n t = m) : A ≤ t := by
  refine Nat.le_of_not_lt fun c => h.first t c ?_
  rw [e]
  exact h.self.per
/-! ### how often a number stands in a row -/
theorem cnt_succ {f : Nat → Int} {x : Int} (K : Nat) : (((List.range (K + 1)).map f).count x) = ((List.range K).map f).count x + if f K = x then 1 else 0 := by
  rw [List.range_succ, List.map_append, List.count_append]
  congr 1
  show [f K].count x = _
  rw [List.count_singleton]
  by_cases c : f K = x
  · rw [if_pos c, if_pos (by rw [c]; exact beq_self_eq_true _)]
  · rw [if_neg c, if_neg (by rw [beq_iff_eq]; exact c)]
theorem cnt_none {f : Nat → Int} {x : Int} : ∀ K, (∀ i, i < K → f i ≠ x) → ((List.range K).map f).count x = 0
  | 0, _ => rfl
  | K + 1, h => by rw [cnt_succ, cnt_none K (fun i hi => h i (by omega)), if_neg (h K (by omega))]
theorem cnt_zero {f : Nat → Int} {x : Int} : ∀ K, ((List.range K).map f).count x = 0 → ∀ i, i < K → f i ≠ x
  | 0, _, i, hi => by omega
  | K + 1, h, i, hi => by
    rw [cnt_succ] at h
    by_cases c : i = K
    · subst c
      intro e
      rw [if_pos e] at h
      omega
    · exact cnt_zero K (by omega) i (by omega)
theorem cnt_one {f : Nat → Int} {x : Int} : ∀ K, ((List.range K).map f).count x = 1 → ∃ j, j < K ∧ f j = x ∧ ∀ i, i < K → f i = x → i = j
  | 0, h => by simp at h
  | K + 1, h => by
    rw [cnt_succ] at h
    by_cases c : f K = x
    · rw [if_pos c] at h
      have z := cnt_zero (f := f) (x := x) K (by omega)
      exact ⟨K, by omega, c, fun i hi e => by
        by_cases d : i = K
        · exact d
        · exact absurd e (z i (by omega))⟩
    · rw [if_neg c] at h
      obtain ⟨j, j1, j2, j3⟩ := cnt_one K (by omega)
      refine ⟨j, by omega, j2, fun i hi e => ?_⟩
      by_cases d : i = K
      · subst d
        exact absurd e c
      · exact j3 i (by omega) e
theorem cnt_of_one {f : Nat → Int} {x : Int} {j : Nat} : ∀ K, j < K → f j = x → (∀ i, i < K → f i = x → i = j) → ((List.range K).map f).count x = 1
  | 0, h, _, _ => by omega
  | K + 1, h, e, u => by
    rw [cnt_succ]
    by_cases c : j = K
    · subst c
      rw [if_pos e, cnt_none j fun i hi z => by
        have := u i (by omega) z
        omega]
    · rw [if_neg fun z => c (u K (by omega) z).symm, cnt_of_one K (by omega) e fun i hi z => u i (by omega) z]
/-- the row as whole numbers -/
def seqI (b p n K : Nat) : List Int := (List.range K).map fun i => ((itN b p n i : Nat) : Int)
theorem ivs_row (b p n K : Nat) : ivs (rowN b p n K) = (seqI b p n K).map V.int := by
  unfold ivs seqI
  rw [rowN_eq, List.map_map, List.map_map]
  rfl
theorem seqI_len (b p n K : Nat) : (seqI b p n K).length = K := by
  unfold seqI
  rw [List.length_map, List.length_range]
theorem seqI_get {b p n K i : Nat} (h : i < K) : (seqI b p n K)[i]? = some ((itN b p n i : Nat) : Int) := by
  unfold seqI
  rw [List.getElem?_map, List.getElem?_range h]
  rfl
theorem seqI_succ (b p n K : Nat) : seqI b p n (K + 1) = seqI b p n K ++ [((itN b p n K : Nat) : Int)] := by
  unfold seqI
  rw [List.range_succ, List.map_append]
  rfl
theorem PaperAt.cnt {b p n m s t : Nat} (h : PaperAt b p n m s t) {K : Nat} (hK : K ≤ s) : (seqI b p n K).count (m : Int) < 2 := by
  unfold seqI
  by_cases c : t < K
  · rw [cnt_of_one (f := fun i => ((itN b p n i : Nat) : Int)) (x := (m : Int)) (j := t) K c (by show ((itN b p n t : Nat) : Int) = _; rw [h.one]) fun i hi e => h.only i (by omega) (Int.ofNat.inj e)]
    decide
  · rw [cnt_none (f := fun i => ((itN b p n i : Nat) : Int)) (x := (m : Int)) K fun i hi e => by
      have := h.only i (by omega) (Int.ofNat.inj e)
      omega]
    decide
theorem PaperAt.cnt2 {b p n m s t : Nat} (h : PaperAt b p n m s t) : (seqI b p n (s + 1)).count (m : Int) = 2 := by
  unfold seqI
  rw [cnt_succ, if_pos (by rw [h.two]), cnt_of_one (f := fun i => ((itN b p n i : Nat) : Int)) (x := (m : Int)) (j := t) s h.lt (by show ((itN b p n t : Nat) : Int) = _; rw [h.one]) fun i hi e => h.only i hi (Int.ofNat.inj e)]
/-- what is asked of a paper, in order -/
structure Heads (n : Nat) (xs : List Int) (l : Int) : Prop where
  two : 2 ≤ xs.length
  zero : xs[0]? = some (n : Int)
  last : xs[xs.length - 1]? = some l
  count : xs.count l = 2
theorem heads_of {b p n s : Nat} (h : PaperOf b p n s) : ∃ l, Heads n (seqI b p n (s + 1)) l := by
  obtain ⟨A, m, t, e, w⟩ := h
  have := w.lt
  refine ⟨(m : Int), by rw [seqI_len]; omega, seqI_get (by omega), ?_, w.cnt2⟩
  rw [seqI_len, seqI_get (by omega), show s + 1 - 1 = s by omega, w.two]
/-- all that is asked -/
theorem seq_of_steps {b p n : Nat} {xs : List Int} (h0 : xs[0]? = some (n : Int)) (hs : ∀ i x y, xs[i]? = some x → xs[i + 1]? = some y → ∃ k : Nat, x = (k : Int) ∧ y = ((stepN b p k : Nat) : Int)) : xs = seqI b p n xs.length := by
  have go : ∀ i, i < xs.length → xs[i]? = some ((itN b p n i : Nat) : Int) := fun i => by
    induction i with
    | zero => intro _; exact h0
    | succ i ih =>
      intro hi
      have e := ih (by omega)
      have e2 : xs[i + 1]? = some xs[i + 1] := List.getElem?_eq_getElem hi
      obtain ⟨k, k1, k2⟩ := hs i _ _ e e2
      rw [e2, k2, ← Int.ofNat.inj k1]
      rfl
  refine List.ext_getElem? fun i => ?_
  by_cases c : i < xs.length
  · rw [go i c, seqI_get c]
  · rw [List.getElem?_eq_none (by omega), List.getElem?_eq_none (by rw [seqI_len]; omega)]
/-- gone round for ever -/
theorem it_far {b p n j k : Nat} (h : j < k) (e : itN b p n k = itN b p n j) (i : Nat) (hi : j ≤ i) (N : Nat) : ∃ i', N ≤ i' ∧ itN b p n i' = itN b p n i := by
  have pr : itN b p (itN b p n i) (k - j) = itN b p n i := by
    rw [← itN_add, show i + (k - j) = k + (i - j) by omega, itN_add, e, ← itN_add, show j + (i - j) = i by omega]
  refine ⟨i + N * (k - j), ?_, ?_⟩
  · have : N ≤ N * (k - j) := Nat.le_mul_of_pos_right N (by omega)
    omega
  · rw [itN_add]
    exact Per.mul pr N
theorem it_within {b p n j k : Nat} (h : j < k) (e : itN b p n k = itN b p n j) : ∀ i, j ≤ i → ∃ i', j ≤ i' ∧ i' < k ∧ itN b p n i' = itN b p n i := fun i => by
  induction i with
  | zero => intro z; exact ⟨0, z, by omega, rfl⟩
  | succ i ih =>
    intro hi
    by_cases c : j ≤ i
    · obtain ⟨i', a1, a2, a3⟩ := ih c
      by_cases d : i' + 1 < k
      · exact ⟨i' + 1, by omega, d, by rw [itN_succ, itN_succ, a3]⟩
      · refine ⟨j, Nat.le_refl _, h, ?_⟩
        rw [itN_succ, ← a3, ← itN_succ, show i' + 1 = k by omega, e]
    · exact ⟨j, Nat.le_refl _, h, by rw [show j = i + 1 by omega]⟩
/-- the last one is the least from its first time on: then it is the paper -/
theorem paper_last {b p n s k j : Nat} (hp : PaperOf b p n s) (hj : j < k) (ej : itN b p n j = itN b p n k) (u : ∀ i, i < k → itN b p n i = itN b p n k → i = j) : (∀ i, j ≤ i → i ≤ k → itN b p n k ≤ itN b p n i) ↔ k = s := by
  obtain ⟨A, m, t, e, w⟩ := hp
  constructor
  · intro le
    have far : ∀ i, j ≤ i → itN b p n k ≤ itN b p n i := fun i hi => by
      obtain ⟨i', a1, a2, a3⟩ := it_within hj ej.symm i hi
      rw [← a3]
      exact le i' a1 (by omega)
    have km : itN b p n k = m := by
      refine Nat.le_antisymm ?_ ?_
      · obtain ⟨i, i1, i2⟩ := e.on
        obtain ⟨x, x0, ex⟩ := e.per
        have : itN b p n (i + j * x) = m := by
          have pi : itN b p m x = m := by
            rw [← i2, ← itN_add, show i + x = A + (i - A + x) by omega, itN_add, Nat.add_comm, itN_add, ex, ← itN_add, show A + (i - A) = i by omega]
          rw [itN_add, i2]
          exact Per.mul pi j
        rw [← this]
        refine far _ ?_
        have : j ≤ j * x := Nat.le_mul_of_pos_right j x0
        omega
      · obtain ⟨i', a1, a2⟩ := it_far hj ej.symm k (by omega) A
        rw [← a2]
        exact e.least i' a1
    have w' : PaperAt b p n m k j := ⟨hj, ej.trans km, km, fun i hi ei => u i hi (ei.trans km.symm)⟩
    exact w'.uniq w
  · rintro rfl
    intro i i1 i2
    have tj : t = j := u t w.lt (w.one.trans w.two.symm)
    rw [w.two]
    exact e.least i (by have := e.ge w.one; omega)
end Fx
namespace Fx
open PySem PySem.Spec PyProof.Rows L2
/-! ### data compared, alike or not -/
theorem eqvAll_ints : ∀ xs ys : List Int, PyData.eqvAll (dInts xs) (dInts ys) = decide (xs = ys)
  | [], [] => by unfold dInts; simp [PyData.eqvAll]
  | [], _ :: _ => by unfold dInts; simp [PyData.eqvAll]
  | _ :: _, [] => by unfold dInts; simp [PyData.eqvAll]
  | a :: r, b :: q => by
    have ih := eqvAll_ints r q
    unfold dInts at ih ⊢
    rw [List.map_cons, List.map_cons, PyData.eqvAll, ih]
    by_cases c : a = b
    · subst c
      simp [PyData.eqv]
    · simp [PyData.eqv, c]
theorem eqv_ints (xs ys : List Int) : PyData.eqv (.list (dInts xs)) (.list (dInts ys)) = decide (xs = ys) := by
  rw [PyData.eqv]
  exact eqvAll_ints xs ys
theorem eqv_tints (xs ys : List Int) : PyData.eqv (.tuple (dInts xs)) (.tuple (dInts ys)) = decide (xs = ys) := by
  rw [PyData.eqv]
  exact eqvAll_ints xs ys
end Fx
namespace Fx
theorem way_ex {b p n : Nat} (h : Near b p n) : ∃ A L, Way b p n A L := by
  have go : ∀ k L : Nat, 15031 - L = k → (∀ i j, i < L → j < L → itN b p n i = itN b p n j → i = j) → ∃ A L, Way b p n A L := by
    intro k
    induction k with
    | zero =>
      intro L hL nd
      have := h.rep nd
      omega
    | succ k ih =>
      intro L hL nd
      by_cases c : ∃ A, A < L ∧ itN b p n L = itN b p n A
      · obtain ⟨A, a1, a2⟩ := c
        exact ⟨A, L, a1, a2, nd⟩
      · refine ih (L + 1) (by omega) fun i j hi hj e => ?_
        by_cases ci : i = L
        · by_cases cj : j = L
          · omega
          · subst ci
            exact absurd ⟨j, by omega, e⟩ c
        · by_cases cj : j = L
          · subst cj
            exact absurd ⟨i, by omega, e.symm⟩ c
          · exact nd i j (by omega) (by omega) e
  exact go _ 0 rfl fun i j hi => by omega
theorem Way.least {b p n A L : Nat} (w : Way b p n A L) : ∃ t, A ≤ t ∧ t < L ∧ ∀ j, A ≤ j → j < L → itN b p n t ≤ itN b p n j := by
  have lt := w.lt
  have go : ∀ k, A + k < L → ∃ t, A ≤ t ∧ t ≤ A + k ∧ ∀ j, A ≤ j → j ≤ A + k → itN b p n t ≤ itN b p n j := by
    intro k
    induction k with
    | zero =>
      intro _
      exact ⟨A, Nat.le_refl _, Nat.le_refl _, fun j h1 h2 => by
        obtain rfl : j = A := by omega
        exact Nat.le_refl _⟩
    | succ k ih =>
      intro hk
      obtain ⟨t, t1, t2, t3⟩ := ih (by omega)
      by_cases c : itN b p n t ≤ itN b p n (A + (k + 1))
      · refine ⟨t, t1, by omega, fun j h1 h2 => ?_⟩
        by_cases d : j = A + (k + 1)
        · subst d
          exact c
        · exact t3 j h1 (by omega)
      · refine ⟨A + (k + 1), by omega, Nat.le_refl _, fun j h1 h2 => ?_⟩
        by_cases d : j = A + (k + 1)
        · subst d
          exact Nat.le_refl _
        · have := t3 j h1 (by omega)
          omega
  obtain ⟨t, t1, t2, t3⟩ := go (L - 1 - A) (by omega)
  exact ⟨t, t1, by omega, fun j h1 h2 => t3 j h1 (by omega)⟩
theorem paper_at {b p n A m : Nat} (nr : Near b p n) (e : EndAt b p n A m) : ∃ s t, PaperAt b p n m s t ∧ s ≤ 30100 := by
  obtain ⟨A', L, w⟩ := way_ex nr
  have := nr.rep w.nd
  obtain ⟨t, t1, t2, t3⟩ := w.least
  have e' := w.end_of ⟨t, t1, t2, rfl⟩ t3
  obtain ⟨rfl, rfl⟩ := e.uniq e'
  exact ⟨_, t, w.paper t1 t2, by omega⟩
theorem paper_ex {b p n : Nat} (nr : Near b p n) : ∃ s, PaperOf b p n s ∧ s ≤ 30100 := by
  obtain ⟨A, m, e⟩ := exists_end nr
  obtain ⟨s, t, w, h⟩ := paper_at nr e
  exact ⟨s, ⟨A, m, t, e, w⟩, h⟩
end Fx
namespace Fx
open PySem PySem.Spec PyProof.Rows L2
theorem at_last {xs : List Int} {l : Int} (h : xs[xs.length - 1]? = some l) : atI (xs.map V.int) (-1) = some (.int l) := by
  have h1 : xs.length - 1 < xs.length := (List.getElem?_eq_some_iff.mp h).1
  have h2 : xs = xs.take (xs.length - 1) ++ [l] := by
    have e := List.take_add_one (l := xs) (i := xs.length - 1)
    rw [show xs.length - 1 + 1 = xs.length by omega, List.take_length, h] at e
    exact e
  rw [h2, List.map_append]
  exact atI_last _ _
theorem flat_ints (xs : List Int) : (xs.map V.int).all flatV = true := by
  rw [List.all_map, List.all_eq_true]
  intro x _
  rfl
theorem seqI_inj {b p n k l : Nat} (h : seqI b p n k = seqI b p n l) : k = l := by
  have := congrArg List.length h
  rwa [seqI_len, seqI_len] at this
theorem map_erase (f : Int → V) : ∀ (l : List Int) (k : Nat), (l.map f).eraseIdx k = (l.eraseIdx k).map f
  | [], _ => rfl
  | _ :: _, 0 => rfl
  | a :: r, k + 1 => by
    show f a :: (r.map f).eraseIdx k = f a :: (r.eraseIdx k).map f
    rw [map_erase f r k]
theorem cut_i_to (l : List Int) (i : Nat) : cutV (l.map V.int) none (some (i : Int)) = (l.take i).map V.int := by
  rw [cut_to, List.map_take]
theorem cut_i_from (l : List Int) (i : Nat) : cutV (l.map V.int) (some (i : Int)) none = (l.drop i).map V.int := by
  rw [cut_from, List.map_drop]
theorem ixN_lt {n j : Nat} (h : j < n) : ixN n (j : Int) = some j := by
  unfold ixN
  rw [if_pos (by omega), if_pos (by omega)]
  simp
theorem seq_lt {n j : Nat} (h : j < n) : seqIndex? (j : Int) n = some j := (ixN_seq (ixN_lt h)).1
theorem get_lt {xs : List Int} {i : Nat} (h : i < xs.length) : ∃ x, xs[i]? = some x := ⟨_, List.getElem?_eq_getElem h⟩
/-! ### lists of lists of numbers, whatever they hold -/
def LL (d : Addr) (H : Hp) (vs : List V) : Prop := ∀ v ∈ vs, ∃ (a : Addr) (xs : List Int), v = .ref a ∧ H a = some (.lst (xs.map V.int)) ∧ a ≠ d ∧ xs.length ≤ 2000000
theorem LL.nil {d : Addr} {H : Hp} : LL d H [] := fun v h => nomatch h
theorem LL.but {d : Addr} {H H' : Hp} {vs : List V} (h : LL d H vs) (b : But d H H') : LL d H' vs := fun v hv => by
  obtain ⟨a, xs, e1, e2, e3, e4⟩ := h v hv
  exact ⟨a, xs, e1, b _ _ e3 e2, e3, e4⟩
theorem LL.same {d : Addr} {H H' : Hp} {vs : List V} (h : LL d H vs) (b : Same H H') : LL d H' vs := h.but (.of b)
theorem LL.app {d : Addr} {H : Hp} {vs us : List V} (h : LL d H vs) (g : LL d H us) : LL d H (vs ++ us) := fun v hv => (List.mem_append.mp hv).elim (h v) (g v)
theorem LL.cons {d a : Addr} {H : Hp} {us : List V} {xs : List Int} (e : H a = some (.lst (xs.map V.int))) (n : a ≠ d) (l : xs.length ≤ 2000000) (g : LL d H us) : LL d H (.ref a :: us) := fun v hv => by
  rcases List.mem_cons.mp hv with rfl | hv
  · exact ⟨a, xs, rfl, e, n, l⟩
  · exact g v hv
theorem LL.put {d R a : Addr} {H : Hp} {vs r : List V} {o : HO} (h : LL d H vs) (e : H R = some (.lst (.ref a :: r))) : LL d (upd H R o) vs := fun v hv => by
  obtain ⟨a', xs, e1, e2, e3, e4⟩ := h v hv
  refine ⟨a', xs, e1, ?_, e3, e4⟩
  rw [upd_ne]
  · exact e2
  · rintro rfl
    rw [e] at e2
    cases xs with
    | nil => cases e2
    | cons x xs => cases e2
/-- behind a store to a list that stands nowhere ahead -/
theorem LL.new {d R : Addr} {H H' : Hp} {vs : List V} {o : HO} (h : LL d H vs) (hR : H R = none) (b : But d H H') : LL d (upd H' R o) vs := h.but (b.own hR)
end Fx

namespace Fx
open PySem PySem.Spec PyProof.Rows L2
/-! ### steps in a row -/
theorem wts_steps' {b m : Nat} : wts b m = (List.range b).map (stepN b m) := by
  unfold wts
  refine List.map_congr_left fun r hr => ?_
  exact (stepN_lt_base (List.mem_range.mp hr)).symm
def stpN (b m k : Nat) : List Nat := (List.range k).map (stepN b m)
theorem stpN_len (b m k : Nat) : (stpN b m k).length = k := by
  unfold stpN
  rw [List.length_map, List.length_range]
theorem stpN_get {b m k i : Nat} (h : i < k) : (stpN b m k)[i]? = some (stepN b m i) := by
  unfold stpN
  rw [List.getElem?_map, List.getElem?_range h]
  rfl
theorem stpN_succ (b m k : Nat) : stpN b m (k + 1) = stpN b m k ++ [stepN b m k] := by
  unfold stpN
  rw [List.range_succ, List.map_append]
  rfl
/-! ### where all numbers end, in a dict -/
structure EK (H : Hp) (E : Addr) (b p N : Nat) (ks : List Nat) (kvs : List (Key × V)) : Prop where
  at' : H E = some (.dK kvs)
  keys : kvs.map (·.1) = ks.map fun (n : Nat) => (Sum.inl (n : Int) : Key)
  nd : ks.Nodup
  lt : ∀ n ∈ ks, n < N
  val : ∀ n ∈ ks, ∃ t a m, valV kvs (Sum.inl ((n : Nat) : Int) : Key) = some (.ref t) ∧ H t = some (.tup (ivs [a, m])) ∧ EndAt b p n a m
theorem EK.len {H : Hp} {E : Addr} {b p N : Nat} {ks : List Nat} {kvs : List (Key × V)} (h : EK H E b p N ks kvs) : kvs.length ≤ N := by
  have := congrArg List.length h.keys
  rw [List.length_map, List.length_map] at this
  rw [this]
  exact nodup_len N ks h.nd h.lt
theorem EK.no {H : Hp} {E : Addr} {b p N n : Nat} {ks : List Nat} {kvs : List (Key × V)} (h : EK H E b p N ks kvs) (hn : n ∉ ks) : valV kvs (Sum.inl ((n : Nat) : Int) : Key) = none := by
  cases e : valV kvs (Sum.inl ((n : Nat) : Int) : Key) with
  | none => rfl
  | some v =>
    have := valV_in e
    rw [h.keys] at this
    obtain ⟨m, hm, z⟩ := List.mem_map.mp this
    have : m = n := by
      have := Sum.inl.inj z
      omega
    exact absurd (this ▸ hm) hn
theorem EK.keep {H H' : Hp} {E : Addr} {b p N : Nat} {ks : List Nat} {kvs : List (Key × V)} (h : EK H E b p N ks kvs) (s : Same H H') : EK H' E b p N ks kvs :=
  ⟨s _ _ h.at', h.keys, h.nd, h.lt, fun n hn => by
    obtain ⟨t, a, m, e1, e2, e3⟩ := h.val n hn
    exact ⟨t, a, m, e1, s _ _ e2, e3⟩⟩
theorem EK.put {H : Hp} {E t : Addr} {b p N n a m : Nat} {ks : List Nat} {kvs : List (Key × V)} (h : EK H E b p N ks kvs) (hn : n ∉ ks) (lt : n < N) (et : H t = some (.tup (ivs [a, m]))) (en : EndAt b p n a m) :
    EK (upd H E (.dK (putK kvs (Sum.inl ((n : Nat) : Int)) (.ref t)))) E b p N (ks ++ [n]) (putK kvs (Sum.inl ((n : Nat) : Int)) (.ref t)) := by
  have off : ∀ x xs, H x = some (HO.tup xs) → x ≠ E := fun x xs e => (ne_of h.at' e fun z => by cases z).symm
  have vn := h.no hn
  refine ⟨upd_same, ?_, ?_, fun x hx => ?_, fun x hx => ?_⟩
  · rw [putK_new _ vn, List.map_append, List.map_append, h.keys]
    rfl
  · exact nd_snoc h.nd hn
  · rcases List.mem_append.mp hx with c | c
    · exact h.lt x c
    · cases List.mem_singleton.mp c
      exact lt
  · rcases List.mem_append.mp hx with c | c
    · obtain ⟨t', a', m', e1, e2, e3⟩ := h.val x c
      refine ⟨t', a', m', ?_, by rw [upd_ne (off _ _ e2)]; exact e2, e3⟩
      rw [valV_put, if_neg]
      · exact e1
      · intro z
        have : x = n := by
          have := Sum.inl.inj z
          omega
        exact hn (this ▸ c)
    · cases List.mem_singleton.mp c
      exact ⟨t, a, m, by rw [valV_put, if_pos rfl], by rw [upd_ne (off _ _ et)]; exact et, en⟩
/-- steps lead to numbers that stand there -/
def Cl (b p : Nat) (ks : List Nat) : Prop := ∀ n ∈ ks, stepN b p n ∈ ks
theorem Cl.it {b p n : Nat} {ks : List Nat} (h : Cl b p ks) (hn : n ∈ ks) : ∀ j, itN b p n j ∈ ks
  | 0 => hn
  | j + 1 => h _ (Cl.it h hn j)
/-- a way from a number of a round on comes round at the first number -/
theorem EndAt.from {b p n a m : Nat} (h : EndAt b p n a m) (np : ¬ Per b p n → True) : True := trivial
theorem rnd_at {b p n A L m : Nat} (w : Way b p n A L) (h : EndAt b p n A m) {i : Nat} (h1 : A ≤ i) : EndAt b p (itN b p n i) 0 m := by
  have := h.later i
  rwa [show A - i = 0 by omega] at this
theorem before_at {b p n A m : Nat} (h : EndAt b p n A m) {i : Nat} : EndAt b p (itN b p n i) (A - i) m := h.later i
/-- periodic numbers are few -/
theorem per_le {b p L x : Nat} (hb : 2 ≤ b) (hL : IsLen (b : Int) (Fx.worth (b : Int) (p : Int)) L) (h : Per b p x) : x ≤ (L - 1) * (b - 1) ^ p := by
  obtain ⟨k, k0, e⟩ := h
  -- the greatest one of the round
  have mx : ∀ n, 0 < n → ∃ i, i < n ∧ ∀ j, j < n → itN b p x j ≤ itN b p x i := by
    intro n
    induction n with
    | zero => intro h; omega
    | succ n ih =>
      intro _
      by_cases c : n = 0
      · subst c
        exact ⟨0, by omega, fun j hj => by
          obtain rfl : j = 0 := by omega
          exact Nat.le_refl _⟩
      · obtain ⟨i, i1, i2⟩ := ih (by omega)
        by_cases d : itN b p x n ≤ itN b p x i
        · exact ⟨i, by omega, fun j hj => by
            by_cases ej : j = n
            · subst ej; exact d
            · exact i2 j (by omega)⟩
        · exact ⟨n, by omega, fun j hj => by
            by_cases ej : j = n
            · subst ej; exact Nat.le_refl _
            · have := i2 j (by omega)
              omega⟩
  obtain ⟨i, i1, i2⟩ := mx k k0
  have all : ∀ j, itN b p x j ≤ itN b p x i := fun j => by
    have : ∀ q, itN b p x (q * k + j) = itN b p x j := fun q => by
      rw [itN_add, Per.mul e q]
    rw [← Nat.div_add_mod j k, Nat.mul_comm]
    have e2 : itN b p x (j / k * k + j % k) = itN b p x (j % k) := by rw [itN_add, Per.mul e (j / k)]
    rw [e2]
    exact i2 _ (Nat.mod_lt _ k0)
  -- the one ahead of it
  have pr : ∃ j, itN b p x (j + 1) = itN b p x i := by
    refine ⟨i + k - 1, ?_⟩
    rw [show i + k - 1 + 1 = k + i by omega, itN_add, e]
  obtain ⟨j, ej⟩ := pr
  have hx := all 0
  rw [itN_zero] at hx
  have h2 := hL.two
  by_cases c : b ^ (L - 1) ≤ itN b p x j
  · have := goes_down hb hL c
    rw [itN_succ] at ej
    have := all j
    omega
  · rw [← ej, itN_succ] at hx
    have := step_le_len (b := b) (p := p) hb (figs_len_lt (k := L - 1) hb (by omega) (Nat.lt_of_not_le c))
    omega
/-- a table that steps do not leave -/
structure Big (b p N : Nat) : Prop where
  closed : ∀ x, x < N → stepN b p x < N
  per : ∀ x, Per b p x → x < N
theorem big_of {b p L N : Nat} (hb : 2 ≤ b) (hL : IsLen (b : Int) (Fx.worth (b : Int) (p : Int)) L) (h : (L - 1) * (b - 1) ^ p < N) : Big b p N := by
  refine ⟨fun x hx => ?_, fun x hx => Nat.lt_of_le_of_lt (per_le hb hL hx) h⟩
  have h2 := hL.two
  by_cases c : b ^ (L - 1) ≤ x
  · have := goes_down hb hL c
    omega
  · have := step_le_len (b := b) (p := p) hb (figs_len_lt (k := L - 1) hb (by omega) (Nat.lt_of_not_le c))
    omega
/-- least numbers of all rounds -/
def LeastsAt (b p : Nat) (ls : List Nat) : Prop := ∀ i m, ls[i]? = some m → ∃ A, EndAt b p i A m
end Fx

namespace Fx
open PySem PySem.Spec PyProof.Rows L2
/-! ### min of a tuple, a list that grows by a tuple, a tuple once -/
section
variable {pg : Program} {wd : World} {B : Around} {Er : Value → Shared → Prop} {st : Shared} {tp : Addr} {vals : List Value} {nums : List Int} {Z : Value → Shared → Prop}
theorem min_tup (calm : B.handled = none) (isT : st.heap.IsTuple tp vals.toArray) (whole : IntsAre vals nums) (some1 : 0 < nums.length)
    (go : ∀ hp tk M t', (∀ b o, st.heap.get? b = some o → hp.get? b = some o) → M ∈ nums → (∀ a, a ∈ nums → M ≤ a) → Z (.int M t') { st with heap := hp, toks := tk }) : wpAny (model pg wd) B (call (.builtin "min") [.ref tp]) Z Er st := by
  obtain ⟨ys, ey⟩ := whole.allInts.items
  have en : numsOf (intItems ys).toList = nums := ey ▸ whole.numsOf
  rw [nums_intItems] at en
  subst en
  rw [ey] at isT
  have below : tp < st.heap.objs.size := by
    obtain ⟨ob, hob, _⟩ := isT
    exact Heap.lt_size hob
  refine call_min_walk (wpAny_pyIter_tuple isT ?_)
  have st0 : (st.heap.push { cls := .type "tuple_iterator", data := .fields #[.ref tp, .int 0 0] }).IsTupleIter st.heap.objs.size tp 0 := ⟨_, Heap.get?_push_size _ rfl, rfl, rfl⟩
  refine ⟨_, [st.heap.objs.size, tp], [st.heap.objs.size], _, _, _, _, rfl, Walks.tuple (A := B.in1) calm _ tp (Nat.ne_of_lt below) (intItems ys), ⟨st0, isT.push _⟩, fun b hb => ?_, by simpa [intItems] using some1, CmpOf.ints_lt (numAt ys) (fun _ _ => intItems_at), fun v hp tk at' keep => ?_⟩
  · show b < (st.heap.push _).objs.size
    rw [Heap.size_push]
    have hb2 : b = st.heap.objs.size ∨ b = tp := by simpa using hb
    rcases hb2 with e | e
    · rw [e]
      exact Nat.lt_succ_self _
    · rw [e]
      exact Nat.lt_succ_of_lt below
  · have at2 : (intItems ys)[argBest (fun i j => decide (numAt ys i < numAt ys j)) (ys.size - 1)]? = some v := by simpa [intItems] using at'
    obtain ⟨t, rfl⟩ := intItems_at at2
    obtain ⟨lt1, lt2⟩ := argBest_lt (numAt ys) (ys.size - 1)
    have sz : 0 < ys.size := by simpa using some1
    refine go hp tk _ t (fun b o e => keep b o (fun hm => ?_) (Heap.get?_push_of_some _ e)) ?_ fun a ha => ?_
    · have eb : b = st.heap.objs.size := by simpa using hm
      exact absurd (eb ▸ Heap.lt_size e) (Nat.lt_irrefl _)
    · rw [numAt_eq]
      refine PySem.getD_mem ?_
      rw [List.length_map, Array.length_toList]
      omega
    · obtain ⟨j, hj, rfl⟩ := mem_getD ha
      rw [List.length_map, Array.length_toList] at hj
      have := lt2 j (by omega)
      rw [numAt_eq ys j] at this
      exact this
end
section
variable {X : Cx}
def rMinT (K : PySem.W.Frag) : List V → Hp → VK → Prop := fun vs H Q => ∃ (a : Addr) (ns : List Int), vs = [V.ref a] ∧ SqT K H a (ns.map V.int) ∧ 0 < ns.length ∧ ∀ m, m ∈ ns → (∀ y, y ∈ ns → m ≤ y) → Q (.int m) H
theorem cr_minT (hc : X.calm = true) : CallR X (.builtin "min") (rMinT X.K) := by
  intro pins s σ H vs us Q I r h
  obtain ⟨tp, nums, rfl, isT, some1, z⟩ := h
  obtain ⟨vals, rv, plain, _⟩ := I.tuple isT
  rw [Vals.ref1 r]
  have is2 : s.heap.IsTuple tp vals.toArray := plain
  exact min_tup (I.ok.hd hc) is2 rv.ints some1 fun hp tk m t' keep h1 h2 => ⟨.int _, H, I.kept keep, ⟨_, rfl⟩, z m h1 h2⟩
/-- the model's own walk through extend, the tuple whatever its other parts -/
theorem extend_tup (p : Addr) (own : Array Value) (n : Nat) (q : Addr) (more : Array Value) (k : Nat) (dd : Option Addr) (sl : Array (Option Value)) (few : ¬(!own.isEmpty && Builtin.List.listTooLong (own.size + more.size)) = true) (fit1 : own.size ≤ sizeLine) (fit2 : own.size + more.size ≤ sizeLine + 1) :
    Meets (Builtin.«list.extend» ⟨[.ref p, .ref q], []⟩) (fun _ R s => s.heap.get? p = some { cls := .type "list", dict := none, data := .seq own n, slots := #[] } ∧
      s.heap.get? q = some { cls := .type "tuple", dict := dd, data := .seq more k, slots := sl } ∧
      R (.ok (.ret Value.none)) { s with heap := s.heap.update p (Obj.mapSeq fun x => x ++ more), toks := s.toks }) :=
  .of_wp fun prog w A R s ask => by
    obtain ⟨hp, g, d, tk, os⟩ := s
    obtain ⟨at1, at2, ask⟩ := ask
    have i1 := AutoSeq1.idx_int
    have i2 := AutoSeq1.sub_tuple_tuple
    have i3 := AutoSeq1.sub_list_list
    have i4 := AutoSeq1.sub_tuple_list
    have i5 := AutoSeq1.sub_list_tuple
    have fit3 : (own ++ more).size ≤ sizeLine + 1 := by
      rw [Array.size_append]
      exact fit2
    wp_walk using (wpAny_updateSeq at1 rfl (hz := fit1) (_hz' := fit3)), wpAny_loadPart' at1, wpAny_loadPart' at2
    exact ⟨_, rfl, ask⟩
def rExtendT (K : PySem.W.Frag) : V → List V → Hp → VK → Prop := fun x vs H Q => ∃ l b xs zs, x = .ref l ∧ vs = [.ref b] ∧ H l = some (.lst xs) ∧ SqT K H b zs ∧ xs.length + zs.length < sizeLine ∧ Q .non (upd H l (.lst (xs ++ zs)))
theorem mt_extendT : MtM X "list.extend" (rExtendT X.K) := by
  intro pins s σ H x vs v us Q I rx rv h
  obtain ⟨l, b, xs, zs, rfl, rfl, hL, hT, fit, z⟩ := h
  cases rx
  obtain ⟨u, rfl, ru⟩ := rv.one
  cases ru
  obtain ⟨z1, its, n, r1, hl, e1⟩ := I.lstM hL
  obtain ⟨its2, r2, ⟨⟨cls, dd, data, sl⟩, e2, hc2, n2, hd2⟩, hs2⟩ := I.tuple hT
  simp only at hc2 hd2
  subst hc2 hd2
  have l2 : zs.length = its2.length := r2.length
  have fit1 : its.toArray.size + its2.toArray.size ≤ sizeLine := by
    rw [List.size_toArray, List.size_toArray]
    omega
  have few : ¬ (!its.toArray.isEmpty && Builtin.List.listTooLong (its.toArray.size + its2.toArray.size)) = true := by
    rw [notLongL fit1, Bool.and_false]
    exact Bool.false_ne_true
  refine call_meets F.slot_list_extend ⟨_, e1, rfl⟩ F.entry_list_extend (F.args_list_extend_2 _ _) (extend_tup l its.toArray n b its2.toArray n2 dd sl few (by rw [List.size_toArray]; omega) (by omega)) ⟨e1, e2, ?_⟩
  have len : (xs ++ zs).length ≤ sizeLine := by
    rw [List.length_append]
    omega
  exact ⟨.non, _, I.lset (its' := its ++ its2) hL e1 (by simp) (r1.append r2) len, rfl, z⟩
/-- a tuple once is the tuple itself -/
theorem tuple_mul1 (l : Addr) (items : Array Value) (n : Nat) (dd : Option Addr) (sl : Array (Option Value)) (x : Int) (u : Tok) (c0 : (decide (x < -(2 ^ 63)) || decide (x ≥ 2 ^ 63)) = false) (c1 : (items.isEmpty || x == 1) = true) :
    Meets (Builtin.«tuple.__mul__» ⟨[.ref l, .int x u], []⟩) (fun _ R s => s.heap.get? l = some { cls := .type "tuple", dict := dd, data := .seq items n, slots := sl } ∧ R (.ok (.ret (Value.ref l))) { s with heap := s.heap, toks := s.toks }) :=
  .of_wp fun prog w A R s h => by
    obtain ⟨hp, g, d, tk, os⟩ := s
    obtain ⟨hl, h⟩ := h
    have f1 := AutoSeq1.idx_int
    wp_walk using wpAny_loadPart' hl
    repeat (first
      | (refine wpAny_ite_false (decide_eq_false (by rw [c0]; exact Bool.false_ne_true)) ?_; wp_walk using wpAny_loadPart' hl)
      | (refine wpAny_ite_true (decide_eq_true c1) ?_; wp_walk using wpAny_loadPart' hl))
    exact ⟨_, rfl, h⟩
def rRepT1 (K : PySem.W.Frag) : R2 := fun x y H Q => ∃ l k xs, x = .ref l ∧ y = .int k ∧ SqT K H l xs ∧ xs ≠ [] ∧ 1 ≤ k ∧ k ≤ 1000 ∧ xs.length ≤ 1000 ∧ (k = 1 → Q (.ref l) H) ∧ (2 ≤ k → ∀ p, H p = none → Q (.ref p) (upd H p (.tup (List.replicate k.toNat xs).flatten)))
theorem op_repT1 : OpR X (binaryOp .Mult) (rRepT1 X.K) := by
  intro pins s σ H x y v u Q I rx ry h
  obtain ⟨l, k, xs, rfl, rfl, hT, hne, h1, h2, hz, q1, q2⟩ := h
  by_cases c : k = 1
  · subst c
    cases rx
    obtain ⟨t, rfl⟩ := ry
    obtain ⟨its, r, ⟨⟨cls, dd, data, sl⟩, ho, hc, n, hd⟩, hs⟩ := I.tuple hT
    simp only at hc hd
    subst hc hd
    have c0 : (decide ((1 : Int) < -(2 ^ 63)) || decide ((1 : Int) ≥ 2 ^ 63)) = false := by decide
    have c1 : (its.toArray.isEmpty || (1 : Int) == 1) = true := by
      rw [show ((1 : Int) == 1) = true from rfl, Bool.or_true]
    exact wpAny_binaryOp_repeat_ref (T := "tuple") (U := "int") (by decide) ⟨_, ho, rfl⟩ (fun s' => typeIs_int s' 1 t) noFill_tuple_mul F.fills_int_mul F.slot_int_rmul repeat_tuple F.slot_int_index.lookup
      (call_meets F.slot_int_rmul (typeIs_int s 1 t) F.entry_int_rmul (F.args_int_rmul_2 _ _) (int_rmul_tuple 1 t l its.toArray n dd sl)
        ⟨ho, rfl, ⟨_, ho, rfl⟩, call_meets F.slot_tuple_mul ⟨_, ho, rfl⟩ F.entry_tuple_mul (F.args_tuple_mul_2 _ _) (tuple_mul1 l its.toArray n dd sl 1 t c0 c1) ⟨ho, .ref l, H, I, rfl, q1 rfl⟩⟩)
  · exact op_repT pins s σ H _ _ v u Q I rx ry ⟨l, k, xs, rfl, rfl, hT, hne, by omega, h2, hz, q2 (by omega)⟩
end
end Fx

namespace Fx
open PySem PySem.Spec PyProof.Rows L2
/-- all rounds by their least numbers, as they stand in a tuple -/
structure RoundsAt (b p : Nat) (H : Hp) (vs : List V) (ms ks : List Nat) : Prop where
  l1 : vs.length = ms.length
  l2 : ks.length = ms.length
  at' : ∀ (i : Nat) v m k, vs[i]? = some v → ms[i]? = some m → ks[i]? = some k → ∃ t, v = .ref t ∧ H t = some (.tup (ivs (rowN b p m k))) ∧ Rnd b p m k
  srt : ms.Pairwise (· < ·)
  all : ∀ m, m ∈ ms ↔ EndAt b p m 0 m
/-- a slice of a tuple, the whole one or a new one -/
theorem slice_tup {K : PySem.W.Frag} {H : Hp} {a : Addr} {xs : List V} {lo hi : Option Int} {Q : V → Hp → Prop} (h : H a = some (.tup xs)) (k : ∀ H' p, Same H H' → H' p = some (.tup (cutV xs lo hi)) → Q (.ref p) H') : rSlA K (.ref a) lo hi H Q := by
  refine ⟨a, xs, rfl, .of h, fun ⟨z1, z2⟩ => ?_, fun _ p hp => k _ p (Same.new hp) upd_same⟩
  refine k H a (Same.refl _) ?_
  rw [h]
  unfold cutV
  rw [z1, z2, List.drop_zero, Nat.sub_zero, List.take_length]
theorem slice_tupF {K : PySem.W.Frag} {σ : L2.St} {H : Hp} {a : Addr} {xs : List V} {lo : Option Int} {Q : V → Hp → Prop} (h : H a = some (.tup xs)) (k : ∀ H' p, Same H H' → H' p = some (.tup (cutV xs lo none)) → Q (.ref p) H') : tNoPart σ H fun u H3 => rSlA K (.ref a) lo u H3 Q := slice_tup h k
theorem cat_tup {K : PySem.W.Frag} {H : Hp} {a b : Addr} {xs ys : List V} {Q : V → Hp → Prop} (ha : H a = some (.tup xs)) (hb : H b = some (.tup ys)) (l : xs.length + ys.length ≤ sizeLine) (k : ∀ H' p, Same H H' → H' p = some (.tup (xs ++ ys)) → Q (.ref p) H') : rCatA K (.ref a) (.ref b) H Q :=
  ⟨a, b, xs, ys, rfl, rfl, .of ha, .of hb, l, fun e => k H b (Same.refl _) (by subst e; exact hb), fun _ e => k H a (Same.refl _) (by subst e; rw [List.append_nil]; exact ha), fun _ _ p hp => k _ p (Same.new hp) upd_same⟩
theorem rep_flat (v : V) : ∀ n : Nat, (List.replicate n [v]).flatten = List.replicate n v
  | 0 => rfl
  | n + 1 => by
    rw [List.replicate_succ, List.flatten_cons, rep_flat v n, List.replicate_succ]
    rfl
theorem rep_tup {K : PySem.W.Frag} {H : Hp} {a : Addr} {v : V} {n : Nat} {Q : V → Hp → Prop} (h : H a = some (.tup [v])) (h1 : 1 ≤ n) (h2 : n ≤ 1000) (k : ∀ H' p, Same H H' → H' p = some (.tup (List.replicate n v)) → Q (.ref p) H') : rRepT1 K (.ref a) (.int (n : Int)) H Q := by
  refine ⟨a, n, [v], rfl, rfl, .of h, (by simp), by omega, by omega, by show 1 ≤ 1000; omega, fun e => k H a (Same.refl _) ?_, fun _ p hp => k _ p (Same.new hp) ?_⟩
  · obtain rfl : n = 1 := by omega
    exact h
  · rw [upd_same, Int.toNat_natCast, rep_flat]
theorem RoundsAt.same {b p : Nat} {H H' : Hp} {vs : List V} {ms ks : List Nat} (h : RoundsAt b p H vs ms ks) (s : Same H H') : RoundsAt b p H' vs ms ks :=
  ⟨h.l1, h.l2, fun i v m k a1 a2 a3 => by
    obtain ⟨t, x1, x2, x3⟩ := h.at' i v m k a1 a2 a3
    exact ⟨t, x1, s _ _ x2, x3⟩, h.srt, h.all⟩
theorem RoundsAt.get {b p : Nat} {H : Hp} {vs : List V} {ms ks : List Nat} (h : RoundsAt b p H vs ms ks) {i : Nat} {v : V} (e : vs[i]? = some v) : ∃ t m k, v = .ref t ∧ ms[i]? = some m ∧ ks[i]? = some k ∧ H t = some (.tup (ivs (rowN b p m k))) ∧ Rnd b p m k := by
  have li := (List.getElem?_eq_some_iff.mp e).1
  have l1 := h.l1
  have l2 := h.l2
  have e1 : ms[i]? = some (ms[i]'(by omega)) := List.getElem?_eq_getElem _
  have e2 : ks[i]? = some (ks[i]'(by omega)) := List.getElem?_eq_getElem _
  obtain ⟨t, x1, x2, x3⟩ := h.at' i v _ _ e e1 e2
  exact ⟨t, _, _, x1, e1, e2, x2, x3⟩
theorem per_bound {b p x : Nat} (ok : OkN b p) (h : Per b p x) : x < 15000 := by
  obtain ⟨L, hL, l15⟩ := len_ex ok.ok.1 (show Fx.worth (b : Int) (p : Int) ≤ 1024 by have := ok.ok.worth; omega)
  have h1 := per_le ok.hb hL h
  have h2 := Nat.mul_le_mul (show L - 1 ≤ 14 by omega) ok.worth.2
  omega
theorem lt_of_bound {x : Nat} (h : x < 15000) : x < 2 ^ 200 := Nat.lt_of_lt_of_le (show x < 2 ^ 20 by omega) (Nat.pow_le_pow_right (by decide) (by decide))
theorem dpAll_rep {K : PySem.W.Frag} {H : Hp} {d : PyData} : ∀ {vs : List V}, (∀ v ∈ vs, Dp K H v d) → DpAll K H vs (List.replicate vs.length d)
  | [], _ => .nil
  | v :: vs, h => .cons (h v (List.mem_cons_self ..)) (dpAll_rep fun u hu => h u (List.mem_cons_of_mem _ hu))
theorem dpAll_same {K : PySem.W.Frag} {H : Hp} {d : PyData} {v : V} (h : Dp K H v d) : ∀ n : Nat, DpAll K H (List.replicate n v) (List.replicate n d)
  | 0 => .nil
  | n + 1 => .cons h (dpAll_same h n)
theorem canLay_reps (l : List Int) : ∀ n : Nat, PyData.canLayAll0 (List.replicate n (.tuple (dInts l))) = true
  | 0 => rfl
  | n + 1 => by
    rw [List.replicate_succ, PyData.canLayAll0, canLay_reps l n, PyData.canLay0, canLay_ints l]
    rfl
theorem depth_reps (l : List Int) : ∀ n : Nat, PyData.depthAll (List.replicate n (.tuple (dInts l))) ≤ 2
  | 0 => by rw [List.replicate_zero]; unfold PyData.depthAll; decide
  | n + 1 => by
    have h := depth_reps l n
    have g := depth_ints l
    rw [List.replicate_succ]
    unfold PyData.depthAll PyData.depth
    omega
theorem shaped_reps (l : List Int) (n : Nat) : SeqAt.shaped (.tuple (List.replicate n (.tuple (dInts l)))) = true := shaped_tup (canLay_reps l n) (Nat.le_trans (depth_reps l n) (by decide))
end Fx

namespace Fx
open PySem PySem.Spec PyProof.Rows L2
/-! ### a list of lists of numbers -/
def Lists (H : Hp) (vs : List V) (ls : List (List Int)) : Prop := vs.length = ls.length ∧ ∀ (i : Nat) v l, vs[i]? = some v → ls[i]? = some l → ∃ a, v = .ref a ∧ H a = some (.lst (l.map V.int))
theorem Lists.nil {H : Hp} : Lists H [] [] := ⟨rfl, fun i v l h => by simp at h⟩
theorem Lists.mono {H H' : Hp} {vs : List V} {ls : List (List Int)} (h : Lists H vs ls) (s : Same H H') : Lists H' vs ls := ⟨h.1, fun i v l a b => by
  obtain ⟨x, e1, e2⟩ := h.2 i v l a b
  exact ⟨x, e1, s _ _ e2⟩⟩
theorem Lists.off {H : Hp} {vs : List V} {ls : List (List Int)} {R : Addr} {o : HO} (h : Lists H vs ls) (n : ∀ a l, (V.ref a) ∈ vs → H a = some (.lst l) → a ≠ R) : Lists (upd H R o) vs ls := ⟨h.1, fun i v l a b => by
  obtain ⟨x, e1, e2⟩ := h.2 i v l a b
  refine ⟨x, e1, ?_⟩
  rw [upd_ne (n x _ (e1 ▸ List.mem_of_getElem? a) e2)]
  exact e2⟩
theorem Lists.push {H : Hp} {vs : List V} {ls : List (List Int)} {a : Addr} {l : List Int} (h : Lists H vs ls) (e : H a = some (.lst (l.map V.int))) : Lists H (vs ++ [.ref a]) (ls ++ [l]) := by
  refine ⟨by rw [List.length_append, List.length_append, h.1]; rfl, fun i v m p q => ?_⟩
  by_cases c : i < vs.length
  · rw [List.getElem?_append_left c] at p
    rw [List.getElem?_append_left (by rw [← h.1]; exact c)] at q
    exact h.2 i v m p q
  · rw [List.getElem?_append_right (by omega)] at p
    rw [List.getElem?_append_right (by rw [← h.1]; omega)] at q
    have z : i - vs.length = 0 := by
      have := (List.getElem?_eq_some_iff.mp p).1
      simp at this
      omega
    rw [z] at p
    rw [← h.1, z] at q
    cases p
    cases q
    exact ⟨a, rfl, e⟩
theorem Lists.rev {H : Hp} {vs : List V} {ls : List (List Int)} (h : Lists H vs ls) : Lists H vs.reverse ls.reverse := by
  refine ⟨by rw [List.length_reverse, List.length_reverse, h.1], fun i v l p q => ?_⟩
  have hi : i < vs.length := by
    have := (List.getElem?_eq_some_iff.mp p).1
    rwa [List.length_reverse] at this
  rw [List.getElem?_reverse hi] at p
  rw [List.getElem?_reverse (by rw [← h.1]; exact hi), ← h.1] at q
  exact h.2 _ v l p q
theorem Lists.at {H : Hp} {vs : List V} {ls : List (List Int)} (h : Lists H vs ls) {i : Nat} {v : V} (p : vs[i]? = some v) : ∃ l a, ls[i]? = some l ∧ v = .ref a ∧ H a = some (.lst (l.map V.int)) := by
  have hi := (List.getElem?_eq_some_iff.mp p).1
  have q : ls[i]? = some (ls[i]'(by rw [← h.1]; exact hi)) := List.getElem?_eq_getElem _
  obtain ⟨a, e1, e2⟩ := h.2 i v _ p q
  exact ⟨_, a, q, e1, e2⟩
theorem int_get {l : List Int} {i : Nat} {x : V} (h : (l.map V.int)[i]? = some x) : ∃ k, l[i]? = some k ∧ x = V.int k := by
  rw [List.getElem?_map] at h
  cases e : l[i]? with
  | none => rw [e] at h; cases h
  | some k =>
    rw [e] at h
    exact ⟨k, rfl, (Option.some.inj h).symm⟩
theorem int_at {l : List Int} {i : Nat} {k : Int} (h : l[i]? = some k) : (l.map V.int)[i]? = some (V.int k) := by
  rw [List.getElem?_map, h]
  rfl
end Fx

namespace Fx
open PySem PySem.Spec PyProof.Rows L2
/-! ### sorted of rows: tuples of whole numbers, one at least in each, of any length, any number of them -/
def lexI : List Int → List Int → Bool
  | [], [] => false
  | [], _ :: _ => true
  | _ :: _, [] => false
  | x :: xs, y :: ys => if x = y then lexI xs ys else decide (x < y)
theorem lexI_asym : ∀ {xs ys : List Int}, lexI xs ys = true → lexI ys xs = false
  | [], [], h => nomatch h
  | [], _ :: _, _ => rfl
  | _ :: _, [], h => nomatch h
  | x :: xs, y :: ys, h => by
    unfold lexI at h ⊢
    by_cases c : x = y
    · subst c
      rw [if_pos rfl] at h ⊢
      exact lexI_asym h
    · rw [if_neg c] at h
      rw [if_neg fun z => c z.symm]
      have := of_decide_eq_true h
      exact decide_eq_false (by omega)
theorem lexI_tr : ∀ {xs ys zs : List Int}, lexI xs ys = false → lexI ys zs = false → lexI xs zs = false
  | [], [], _, _, h => h
  | [], _ :: _, _, h, _ => nomatch h
  | _ :: _, _, [], _, _ => rfl
  | _ :: _, [], _ :: _, _, h => nomatch h
  | x :: xs, y :: ys, z :: zs, h1, h2 => by
    unfold lexI at h1 h2 ⊢
    by_cases a : x = y
    · subst a
      rw [if_pos rfl] at h1
      by_cases c : x = z
      · subst c
        rw [if_pos rfl] at h2 ⊢
        exact lexI_tr h1 h2
      · rw [if_neg c] at h2 ⊢
        exact h2
    · rw [if_neg a] at h1
      have n1 := of_decide_eq_false h1
      by_cases c : y = z
      · subst c
        rw [if_neg a]
        exact h1
      · rw [if_neg c] at h2
        have n2 := of_decide_eq_false h2
        rw [if_neg (by omega)]
        exact decide_eq_false (by omega)
theorem lexI_anti : ∀ {xs ys : List Int}, lexI xs ys = false → lexI ys xs = false → xs = ys
  | [], [], _, _ => rfl
  | [], _ :: _, h, _ => nomatch h
  | _ :: _, [], _, h => nomatch h
  | x :: xs, y :: ys, h1, h2 => by
    unfold lexI at h1 h2
    by_cases c : x = y
    · subst c
      rw [if_pos rfl] at h1 h2
      rw [lexI_anti h1 h2]
    · rw [if_neg c] at h1
      rw [if_neg fun z => c z.symm] at h2
      have := of_decide_eq_false h1
      have := of_decide_eq_false h2
      omega
theorem lex_swo {α : Type} (f : α → List Int) : SrtO.Swo fun x y => lexI (f x) (f y) := ⟨fun _ _ h => lexI_asym h, fun _ _ _ h g => lexI_tr g h⟩
/-- so far alike, then as their lengths say -/
def lexF (e : Bool) : List Int → List Int → Bool
  | x :: xs, y :: ys => if x = y then lexF e xs ys else decide (x < y)
  | _, _ => e
theorem lexF_eq : ∀ xs ys : List Int, lexF (decide (xs.length < ys.length)) xs ys = lexI xs ys
  | [], [] => rfl
  | [], _ :: _ => decide_eq_true (Nat.succ_pos _)
  | _ :: _, [] => decide_eq_false (Nat.not_lt_zero _)
  | x :: xs, y :: ys => by
    have ih := lexF_eq xs ys
    have l : decide ((x :: xs).length < (y :: ys).length) = decide (xs.length < ys.length) := decide_eq_decide.mpr Nat.succ_lt_succ_iff
    unfold lexF lexI
    rw [l, ih]
def IsRow (h : Heap) (v : Value) (ns : List Int) : Prop := ∃ a o us n, v = .ref a ∧ h.get? a = some o ∧ o.cls = .type "tuple" ∧ o.data = .seq (List.toArray us) n ∧ IntsAre us ns
theorem IsRow.keeps {h h' : Heap} {v : Value} {ns : List Int} (r : IsRow h v ns) (k : ∀ b o, h.get? b = some o → o.cls = .type "tuple" → h'.get? b = some o) : IsRow h' v ns := by
  obtain ⟨a, o, us, n, e, g, c, d, i⟩ := r
  exact ⟨a, o, us, n, e, k a o g c, c, d, i⟩
section
variable {prog : Program} {w : World} {A : Around} {s : Shared}
theorem rows_lex {e : Bool} : ∀ {us vs : List Value} {xs ys : List Int} (i : Nat), IntsAre us xs → IntsAre vs ys → PySem.W.KatLex prog w A true e (fun r t => t = s ∧ r = lexF e xs ys) (us.zip vs) i s
  | _, _, _, _, _, .nil, _ => PySem.W.kat_nil ⟨rfl, rfl⟩
  | _, _, _, _, _, .cons _ _ _, .nil => PySem.W.kat_nil ⟨rfl, rfl⟩
  | _, _, _, _, i, .cons x t r, .cons y u q => by
    refine PySem.W.kat_cons (SeqAt.EqAt.int_int x t y u prog w _ _ ?_)
    refine PySem.W.kat_go (fun same => ?_) (fun other => ?_)
    · have c : x = y := by simpa using same
      have z := rows_lex (e := e) (i + 1) r q
      refine PySem.W.kat_yes ?_
      unfold lexF
      rw [if_pos c]
      exact z
    · have c : ¬ x = y := by simpa using other
      refine PySem.W.kat_no ?_
      unfold lexF
      rw [if_neg c]
      cases i with
      | zero => exact oneLt_int ⟨rfl, rfl⟩
      | succ i => exact PySem.W.kat_one _ _ (PyProof.Rows.lt_int ⟨rfl, rfl⟩)
theorem rows_cmp {vs : List Value} {f : Value → List Int} (hp : ∀ v ∈ vs, IsRow s.heap v (f v)) : SrtO.Cmp prog w A s (tuples' true) (fun p => p.1 ∈ vs) (SrtO.lt2 fun v u => lexI (f v) (f u)) := by
  intro p q hm hn
  obtain ⟨a, o, us, n, e, g, _, d, i⟩ := hp _ hm
  obtain ⟨a', o', us', n', e', g', _, d', i'⟩ := hp _ hn
  show wpAny (model prog w) A (keyLt' (tuples' true) p.1 q.1) (fun r t => t = s ∧ r = lexI (f p.1) (f q.1)) (fun _ _ => False) s
  rw [e, e']
  refine PySem.W.kat_lt g d g' d' ?_
  rw [← e, ← e', ← lexF_eq, List.size_toArray, List.size_toArray, i.length, i'.length]
  exact rows_lex 0 i i'
theorem row_firsts {h : Heap} {f : Value → List Int} : ∀ {vs : List Value}, (∀ v ∈ vs, IsRow h v (f v) ∧ f v ≠ []) → ∃ fs : List Value, PySem.W.KatTups h vs fs ∧ fs.length = vs.length ∧ ∀ u ∈ fs, ∃ x t, u = Value.int x t
  | [], _ => ⟨[], PySem.W.KatTups.nil, rfl, fun u hu => nomatch hu⟩
  | v :: vs, hp => by
    obtain ⟨fs, k, l, i⟩ := row_firsts (vs := vs) fun u hu => hp u (List.mem_cons_of_mem _ hu)
    obtain ⟨⟨a, o, us, n, rfl, g, c, d, ia⟩, ne⟩ := hp v (List.mem_cons_self ..)
    generalize f (.ref a) = ns at ia ne
    cases ia with
    | nil => exact absurd rfl ne
    | cons x t r =>
      refine ⟨.int x t :: fs, PySem.W.KatTups.cons g c d rfl k, by rw [List.length_cons, List.length_cons, l], fun u hu => ?_⟩
      rcases List.mem_cons.mp hu with e | hu
      · exact ⟨x, t, e⟩
      · exact i u hu
theorem rows_sortable {a : Addr} {vs : List Value} {f : Value → List Int} (h0 : 0 < vs.length) (hp : ∀ v ∈ vs, IsRow s.heap v (f v) ∧ f v ≠ []) (ha : ∀ o, s.heap.get? a = some o → o.cls ≠ .type "tuple") : SrtO.SortableO prog w A s a vs fun v u => lexI (f v) (f u) := by
  intro h' keep
  have hp' : ∀ v ∈ vs, IsRow h' v (f v) ∧ f v ≠ [] := fun v hv => ⟨(hp v hv).1.keeps fun b o e c => keep b o (fun z => by subst z; exact ha o e c) e, (hp v hv).2⟩
  obtain ⟨fs, k, l, i⟩ := row_firsts hp'
  refine ⟨tuples' true, fun Q E hq => PySem.W.kat_kind (T := .type "int") k (by omega) (fun u hu => ?_) (by rfl) ?_, rows_cmp fun v hv => (hp' v hv).1⟩
  · obtain ⟨x, t, rfl⟩ := i u hu
    exact PySem.W.Looks.now
  · rw [show (Value.type "int" != Value.type "tuple") = true by decide +kernel]
    exact hq
end
theorem hu65 {k : Nat} {A : Around} (r : Room k A) : A.units + 65 < cLine := by
  have := r.un
  omega
section
variable {X : Cx}
/-- sorted(xs), xs a list of rows: a new list -/
def rSortedR (K : PySem.W.Frag) : List V → Hp → VK → Prop := fun vs H Q => ∃ (a : Addr) (xs : List V) (f : V → List Int), vs = [V.ref a] ∧ SqL K H a xs ∧ (∀ x ∈ xs, ∃ t, x = V.ref t ∧ H t = some (.tup ((f x).map V.int)) ∧ f x ≠ []) ∧
  ∀ ys p, ys.Perm xs → (ys.map f).Pairwise (fun u v => lexI v u = false) → H p = none → Q (.ref p) (upd H p (.lst ys))
theorem cr_sortedR : CallR X (.builtin "sorted") (rSortedR X.K) := by
  intro pins s σ H vs us Q I r h
  obtain ⟨a, xs, f, rfl, hs, hx, q⟩ := h
  obtain ⟨its, rv, hl, hz⟩ := I.list hs
  rw [Vals.ref1 r]
  obtain ⟨e1, e2⟩ := refs_back rv fun x m => by
    obtain ⟨t, e, _⟩ := hx x m
    exact ⟨t, e⟩
  have rows : ∀ v ∈ its, IsRow s.heap v (f (backV v)) ∧ f (backV v) ≠ [] := fun v hv => by
    obtain ⟨t, rfl⟩ := e2 v hv
    obtain ⟨t', e, ht, ne⟩ := hx (.ref t) (by rw [e1]; exact List.mem_map.mpr ⟨_, hv, rfl⟩)
    cases e
    obtain ⟨_, us, r2, o, ho, hc, n, hd⟩ := I.hok _ _ ht
    exact ⟨⟨t, o, us, n, rfl, ho, hc, hd, r2.ints⟩, ne⟩
  refine SrtO.sorted_ord (lex_swo fun v => f (backV v)) hl.isList (by rw [← rv.length]; exact hz) (fun h2 h1 b hb kk => ?_) fun out o1 o2 => ?_
  · refine rows_sortable (s := { s with heap := h1 }) (by omega) (fun v hv => ⟨(rows v hv).1.keeps fun c o e _ => (kk c o e).2, (rows v hv).2⟩) fun o e c => ?_
    have e' := e.symm.trans hb
    cases e'
    exact absurd (Value.type.inj c) (by decide)
  · have back : ∀ u ∈ out, ∃ a, u = Value.ref a := fun u hu => e2 u (o2.perm.mem_iff.mp hu)
    obtain ⟨ep, at'⟩ := PyProof.Rows.sortedAll_at s.heap its out.toArray
    have pm : (out.map backV).Perm xs := by
      rw [e1]
      exact o2.perm.map backV
    refine ⟨.ref _, upd H (s.heap.objs.size + 1) (.lst (out.map backV)), I.laid (t' := s.toks) (fun _ _ => PyProof.Rows.sortedAll_old) (Nat.le_succ _) ⟨by rw [pm.length_eq]; exact hz, out, ep, vals_back back, at'⟩, rfl, q _ _ pm ?_ (I.hok.fresh (Nat.le_succ _))⟩
    rw [List.map_map, List.pairwise_map]
    exact o1
end
end Fx

namespace Fx
open PySem PySem.Spec PyProof.Rows L2
def topS (i : Nat) : Stmt := PySem.Challenge.pw_figurerounds_k09_rounds_of.main.body.getD i (.Pass ⟨0, 0, 0, 0⟩)
abbrev s_figures_of : Stmt := topS 1
theorem sc_figures_of : FnScope ["number", "base", "figures", "rest"] ["number", "base"] (defScope s_figures_of) := ⟨rfl, rfl, rfl, by decide +kernel, rfl, by decide +kernel, by decide +kernel⟩
abbrev s_power_of : Stmt := topS 2
theorem sc_power_of : FnScope ["figure", "power", "worth", "_"] ["figure", "power"] (defScope s_power_of) := ⟨rfl, rfl, rfl, by decide +kernel, rfl, by decide +kernel, by decide +kernel⟩
abbrev s_step_of : Stmt := topS 3
theorem sc_step_of : FnScope ["number", "base", "power", "figure"] ["number", "base", "power"] (defScope s_step_of) := ⟨rfl, rfl, rfl, by decide +kernel, rfl, by decide +kernel, by decide +kernel⟩
abbrev s_worths_of : Stmt := topS 5
theorem sc_worths_of : FnScope ["base", "power", "figure"] ["base", "power"] (defScope s_worths_of) := ⟨rfl, rfl, rfl, by decide +kernel, rfl, by decide +kernel, by decide +kernel⟩
abbrev s_length_down : Stmt := topS 7
theorem sc_length_down : FnScope ["base", "power", "most", "length", "least"] ["base", "power"] (defScope s_length_down) := ⟨rfl, rfl, rfl, by decide +kernel, rfl, by decide +kernel, by decide +kernel⟩
abbrev s_steps_to : Stmt := topS 11
theorem sc_steps_to : FnScope ["most", "worths", "base", "steps", "number"] ["most", "worths"] (defScope s_steps_to) := ⟨rfl, rfl, rfl, by decide +kernel, rfl, by decide +kernel, by decide +kernel⟩
abbrev s_add_ends : Stmt := topS 12
theorem sc_add_ends : FnScope ["ends", "steps", "number", "places", "path", "turn", "least", "passed", "away"] ["ends", "steps", "number"] (defScope s_add_ends) := ⟨rfl, rfl, rfl, by decide +kernel, rfl, by decide +kernel, by decide +kernel⟩
abbrev s_ends_to : Stmt := topS 9
theorem sc_ends_to : FnScope ["most", "base", "power", "worths", "enough", "steps", "ends", "number"] ["most", "base", "power"] (defScope s_ends_to) := ⟨rfl, rfl, rfl, by decide +kernel, rfl, by decide +kernel, by decide +kernel⟩
abbrev s_leasts_to : Stmt := topS 10
theorem sc_leasts_to : FnScope ["most", "base", "power", "_", "least"] ["most", "base", "power"] (defScope s_leasts_to) := ⟨rfl, rfl, rfl, by decide +kernel, rfl, by decide +kernel, by decide +kernel⟩
abbrev s_way_of : Stmt := topS 15
theorem sc_way_of : FnScope ["number", "base", "power", "places"] ["number", "base", "power"] (defScope s_way_of) := ⟨rfl, rfl, rfl, by decide +kernel, rfl, by decide +kernel, by decide +kernel⟩
abbrev s_rounds_of : Stmt := topS 14
theorem sc_rounds_of : FnScope ["base", "power", "leasts", "firsts", "number", "least", "first"] ["base", "power"] (defScope s_rounds_of) := ⟨rfl, rfl, rfl, by decide +kernel, rfl, by decide +kernel, by decide +kernel⟩
abbrev s__law_folded : Stmt := topS 17
theorem sc__law_folded : FnScope ["script", "found", "cell"] ["script"] (defScope s__law_folded) := ⟨rfl, rfl, rfl, by decide +kernel, rfl, by decide +kernel, by decide +kernel⟩
abbrev s__law_seed : Stmt := topS 18
theorem sc__law_seed : FnScope ["cell", "number"] ["cell"] (defScope s__law_seed) := ⟨rfl, rfl, rfl, by decide +kernel, rfl, by decide +kernel, by decide +kernel⟩
abbrev s__law_draw : Stmt := topS 19
theorem sc__law_draw : FnScope ["seed", "most", "found", "number"] ["seed", "most"] (defScope s__law_draw) := ⟨rfl, rfl, rfl, by decide +kernel, rfl, by decide +kernel, by decide +kernel⟩
abbrev s__law_power : Stmt := topS 20
theorem sc__law_power : FnScope ["number", "often", "found", "turn"] ["number", "often"] (defScope s__law_power) := ⟨rfl, rfl, rfl, by decide +kernel, rfl, by decide +kernel, by decide +kernel⟩
abbrev s__law_worths : Stmt := topS 21
theorem sc__law_worths : FnScope ["base", "often", "figure"] ["base", "often"] (defScope s__law_worths) := ⟨rfl, rfl, rfl, by decide +kernel, rfl, by decide +kernel, by decide +kernel⟩
abbrev s__law_pair : Stmt := topS 22
theorem sc__law_pair : FnScope ["seed", "base", "powers", "often"] ["seed"] (defScope s__law_pair) := ⟨rfl, rfl, rfl, by decide +kernel, rfl, by decide +kernel, by decide +kernel⟩
abbrev s__law_step : Stmt := topS 23
theorem sc__law_step : FnScope ["number", "pair", "found"] ["number", "pair"] (defScope s__law_step) := ⟨rfl, rfl, rfl, by decide +kernel, rfl, by decide +kernel, by decide +kernel⟩
abbrev s__law_most : Stmt := topS 25
theorem sc__law_most : FnScope ["pair", "many"] ["pair"] (defScope s__law_most) := ⟨rfl, rfl, rfl, by decide +kernel, rfl, by decide +kernel, by decide +kernel⟩
abbrev s__law_rounds : Stmt := topS 26
theorem sc__law_rounds : FnScope ["pair", "met", "found", "number", "begin", "row", "at"] ["pair"] (defScope s__law_rounds) := ⟨rfl, rfl, rfl, by decide +kernel, rfl, by decide +kernel, by decide +kernel⟩
abbrev s__law_same : Stmt := topS 27
theorem sc__law_same : FnScope ["found", "due", "row", "one"] ["found", "due"] (defScope s__law_same) := ⟨rfl, rfl, rfl, by decide +kernel, rfl, by decide +kernel, by decide +kernel⟩
abbrev s_law : Stmt := topS 28
theorem sc_law : FnScope ["script", "cell", "seed", "pair", "due"] ["script"] (defScope s_law) := ⟨rfl, rfl, rfl, by decide +kernel, rfl, by decide +kernel, by decide +kernel⟩
structure Txt (K : PySem.W.Frag) (mg : Str → Option Value) where
  f_figures_of : Addr
  fd_figures_of : FuncData
  F_figures_of : Fun K "figures_of" "figures_of" s_figures_of f_figures_of fd_figures_of
  g_figures_of : mg "figures_of" = some (.ref f_figures_of)
  b_figures_of : Binds K fd_figures_of ["number", "base"] []
  f_power_of : Addr
  fd_power_of : FuncData
  F_power_of : Fun K "power_of" "power_of" s_power_of f_power_of fd_power_of
  g_power_of : mg "power_of" = some (.ref f_power_of)
  b_power_of : Binds K fd_power_of ["figure", "power"] []
  f_step_of : Addr
  fd_step_of : FuncData
  F_step_of : Fun K "step_of" "step_of" s_step_of f_step_of fd_step_of
  g_step_of : mg "step_of" = some (.ref f_step_of)
  b_step_of : Binds K fd_step_of ["number", "base", "power"] []
  f_worths_of : Addr
  fd_worths_of : FuncData
  F_worths_of : Fun K "worths_of" "worths_of" s_worths_of f_worths_of fd_worths_of
  g_worths_of : mg "worths_of" = some (.ref f_worths_of)
  b_worths_of : Binds K fd_worths_of ["base", "power"] []
  f_length_down : Addr
  fd_length_down : FuncData
  F_length_down : Fun K "length_down" "length_down" s_length_down f_length_down fd_length_down
  g_length_down : mg "length_down" = some (.ref f_length_down)
  b_length_down : Binds K fd_length_down ["base", "power"] []
  f_steps_to : Addr
  fd_steps_to : FuncData
  F_steps_to : Fun K "steps_to" "steps_to" s_steps_to f_steps_to fd_steps_to
  g_steps_to : mg "steps_to" = some (.ref f_steps_to)
  b_steps_to : Binds K fd_steps_to ["most", "worths"] []
  f_add_ends : Addr
  fd_add_ends : FuncData
  F_add_ends : Fun K "add_ends" "add_ends" s_add_ends f_add_ends fd_add_ends
  g_add_ends : mg "add_ends" = some (.ref f_add_ends)
  b_add_ends : Binds K fd_add_ends ["ends", "steps", "number"] []
  f_ends_to : Addr
  fd_ends_to : FuncData
  F_ends_to : Fun K "ends_to" "ends_to" s_ends_to f_ends_to fd_ends_to
  g_ends_to : mg "ends_to" = some (.ref f_ends_to)
  b_ends_to : Binds K fd_ends_to ["most", "base", "power"] []
  f_leasts_to : Addr
  fd_leasts_to : FuncData
  F_leasts_to : Fun K "leasts_to" "leasts_to" s_leasts_to f_leasts_to fd_leasts_to
  g_leasts_to : mg "leasts_to" = some (.ref f_leasts_to)
  b_leasts_to : Binds K fd_leasts_to ["most", "base", "power"] []
  f_way_of : Addr
  fd_way_of : FuncData
  F_way_of : Fun K "way_of" "way_of" s_way_of f_way_of fd_way_of
  g_way_of : mg "way_of" = some (.ref f_way_of)
  b_way_of : Binds K fd_way_of ["number", "base", "power"] []
  f_rounds_of : Addr
  fd_rounds_of : FuncData
  F_rounds_of : Fun K "rounds_of" "rounds_of" s_rounds_of f_rounds_of fd_rounds_of
  g_rounds_of : mg "rounds_of" = some (.ref f_rounds_of)
  b_rounds_of : Binds K fd_rounds_of ["base", "power"] []
  f__law_folded : Addr
  fd__law_folded : FuncData
  F__law_folded : Fun K "_law_folded" "_law_folded" s__law_folded f__law_folded fd__law_folded
  g__law_folded : mg "_law_folded" = some (.ref f__law_folded)
  b__law_folded : Binds K fd__law_folded ["script"] []
  f__law_seed : Addr
  fd__law_seed : FuncData
  F__law_seed : Fun K "_law_seed" "_law_seed" s__law_seed f__law_seed fd__law_seed
  g__law_seed : mg "_law_seed" = some (.ref f__law_seed)
  b__law_seed : Binds K fd__law_seed ["cell"] []
  f__law_draw : Addr
  fd__law_draw : FuncData
  F__law_draw : Fun K "_law_draw" "_law_draw" s__law_draw f__law_draw fd__law_draw
  g__law_draw : mg "_law_draw" = some (.ref f__law_draw)
  b__law_draw : Binds K fd__law_draw ["seed", "most"] []
  f__law_power : Addr
  fd__law_power : FuncData
  F__law_power : Fun K "_law_power" "_law_power" s__law_power f__law_power fd__law_power
  g__law_power : mg "_law_power" = some (.ref f__law_power)
  b__law_power : Binds K fd__law_power ["number", "often"] []
  f__law_worths : Addr
  fd__law_worths : FuncData
  F__law_worths : Fun K "_law_worths" "_law_worths" s__law_worths f__law_worths fd__law_worths
  g__law_worths : mg "_law_worths" = some (.ref f__law_worths)
  b__law_worths : Binds K fd__law_worths ["base", "often"] []
  f__law_pair : Addr
  fd__law_pair : FuncData
  F__law_pair : Fun K "_law_pair" "_law_pair" s__law_pair f__law_pair fd__law_pair
  g__law_pair : mg "_law_pair" = some (.ref f__law_pair)
  b__law_pair : Binds K fd__law_pair ["seed"] []
  f__law_step : Addr
  fd__law_step : FuncData
  F__law_step : Fun K "_law_step" "_law_step" s__law_step f__law_step fd__law_step
  g__law_step : mg "_law_step" = some (.ref f__law_step)
  b__law_step : Binds K fd__law_step ["number", "pair"] []
  f__law_most : Addr
  fd__law_most : FuncData
  F__law_most : Fun K "_law_most" "_law_most" s__law_most f__law_most fd__law_most
  g__law_most : mg "_law_most" = some (.ref f__law_most)
  b__law_most : Binds K fd__law_most ["pair"] []
  f__law_rounds : Addr
  fd__law_rounds : FuncData
  F__law_rounds : Fun K "_law_rounds" "_law_rounds" s__law_rounds f__law_rounds fd__law_rounds
  g__law_rounds : mg "_law_rounds" = some (.ref f__law_rounds)
  b__law_rounds : Binds K fd__law_rounds ["pair"] []
  f__law_same : Addr
  fd__law_same : FuncData
  F__law_same : Fun K "_law_same" "_law_same" s__law_same f__law_same fd__law_same
  g__law_same : mg "_law_same" = some (.ref f__law_same)
  b__law_same : Binds K fd__law_same ["found", "due"] []
  f_law : Addr
  fd_law : FuncData
  F_law : Fun K "law" "law" s_law f_law fd_law
  g_law : mg "law" = some (.ref f_law)
  b_law : Binds K fd_law ["script"] []
  m_bool : mg "bool" = none
  m_enumerate : mg "enumerate" = none
  m_int : mg "int" = none
  m_isinstance : mg "isinstance" = none
  m_len : mg "len" = none
  m_list : mg "list" = none
  m_max : mg "max" = none
  m_min : mg "min" = none
  m_range : mg "range" = none
  m_sorted : mg "sorted" = none
  m_sum : mg "sum" = none
  m_tuple : mg "tuple" = none
section
variable {P : Program} {w : World} {K : PySem.W.Frag} {mg : Str → Option Value} {base : Heap}
/-! ### figures_of -/
def sp_figures_of (K : PySem.W.Frag) : Sp := fun vs H Q _ => ∃ n b : Nat, vs = [.int (n : Int), .int (b : Int)] ∧ 2 ≤ b ∧ b ≤ 16 ∧ n < 2 ^ 900 ∧ ∀ H' p, Same H H' → H p = none → H' p = some (.tup (ivs (figs b n))) → Q (.ref p) H'
def W_figures_of (n b : Nat) (H : Hp) (fl : Addr) (m : Nat) (σ' : L2.St) (H' : Hp) : Prop := ∃ pre : List Nat, σ' = [some (.int (n : Int)), some (.int (b : Int)), some (.ref fl), some (.int (m : Int))] ∧ Same H H' ∧ H' fl = some (.lst (ivs pre)) ∧ pre ++ (if m = 0 then [] else lsd b m) = lsd b n
theorem W_figures_of.len {n b : Nat} {pre : List Nat} {r : Nat} (hb : 2 ≤ b) (hn : n < 2 ^ 900) (h : pre ++ (if r = 0 then [] else lsd b r) = lsd b n) : pre.length ≤ 900 := by
  have h1 := congrArg List.length h
  rw [List.length_append] at h1
  have h2 := lsd_len_le hb 899 n hn
  omega
theorem ok_figures_of (T : Txt K mg) : FnOk P w K mg base CX0 1 T.f_figures_of T.fd_figures_of ["number", "base"] (sp_figures_of K) := by
  refine T.F_figures_of.ok sc_figures_of (fun vs H Q E h => ?_) (fun cdv A outer s H vs Q E hr h => ?_)
  · obtain ⟨_, _, rfl, _⟩ := h
    rfl
  · obtain ⟨n, b, rfl, hb, hb16, hn, q⟩ := h
    have wd : ∀ x : Int, CDivW x (b : Int) := fun x => divW 60 (by omega) (by omega)
    refine ⟨_, (pss_cons (ps_set (i := 2) sc_figures_of.nd rfl (Or.inl rfl) (pe_lst (pa_cons (pe_op op_mod (pv 0) (pv 1)) pa_nil)))
      (pss_cons (ps_set (i := 3) sc_figures_of.nd rfl (Or.inl rfl) (pe_op op_fdivW (pv 0) (pv 1)))
      (pss_cons (ps_while PassesOwn.never (pt_cmpR op_gt (pv 3) pe_int (nomark _)) (pss_cons (ps_expr (pe_bm PySem.F.plainAttrs_list PySem.F.slot_list_append PySem.F.type_list_append mt_append (pv 2) (pa_cons (pe_op op_mod (pv 3) (pv 1)) pa_nil)))
      (pss_one (ps_set (i := 3) sc_figures_of.nd rfl (Or.inl rfl) (pe_op op_fdivW (pv 3) (pv 1))))))
      (pss_one (ps_ret (pe_callTy (T := "tuple") call_tuple_of (by rfl) T.m_tuple (by decide +kernel) (pa_cons (pe_revL (pv 2)) pa_nil))))))), ?_⟩
    refine ⟨_, rfl, _, rfl, _, _, rfl, rfl, by walk_at "p", by show 1 ≤ sizeLine; decide, fun fl hfl => ?_⟩
    generalize g1 : upd H fl _ = H1
    obtain ⟨s1, t1⟩ := new_of g1 hfl
    refine ⟨_, rfl, _, rfl, _, _, rfl, rfl, wd _, ?_⟩
    refine ⟨W_figures_of n b H fl, ⟨n / b, [n % b], rfl, s1, t1, (lsd_split hb).symm⟩, ?_⟩
    rintro r σ' H2 ⟨pre, rfl, s2, t2, e⟩
    have lp := W_figures_of.len hb hn e
    refine ⟨_, rfl, _, _, rfl, rfl, _, rfl, ?_⟩
    by_cases h0 : r = 0
    · subst h0
      rw [if_pos rfl, List.append_nil] at e
      subst e
      refine iteF ?_
      refine ⟨_, rfl, fl, _, rfl, .of t2, fun p3 hp3 => ?_⟩
      generalize g3 : upd H2 p3 _ = H3
      obtain ⟨s3, t3⟩ := new_of g3 hp3
      refine ⟨p3, _, rfl, .inl ⟨.of t3, fun p4 hp4 => ?_⟩⟩
      rw [ivs_reverse]
      exact q _ p4 (s2.trans (s3.trans (Same.new hp4))) (s2.free (s3.free hp4)) upd_same
    · have hr : (0 : Int) < (r : Int) := by omega
      rw [decide_eq_true hr]
      refine iteT ⟨Nx (W_figures_of n b H fl) r, Nx.id, ?_⟩
      refine ⟨_, rfl, .inl ⟨rfl, _, .of t2⟩, _, rfl, _, rfl, _, _, rfl, rfl, by walk_at "p", fl, _, _, rfl, rfl, t2, small1000 (by rw [ivs_length]; omega), ?_⟩
      refine ⟨_, rfl, _, rfl, _, _, rfl, rfl, wd _, ?_⟩
      refine ⟨r / b, Nat.div_lt_self (by omega) (by omega), pre ++ [r % b], rfl, same_own s2 hfl, ?_, ?_⟩
      · rw [upd_same, ivs_append]
        rfl
      · rw [if_neg h0, lsd_split hb] at e
        rw [List.append_assoc]
        exact e

/-! ### power_of -/
def sp_power_of (K : PySem.W.Frag) : Sp := fun vs H Q _ => ∃ f p : Int, vs = [.int f, .int p] ∧ 0 ≤ p ∧ p < 2 ^ 62 ∧ -(2 ^ 64) < f ∧ f < 2 ^ 64 ∧ Q (.int (f ^ p.toNat)) H
theorem ok_power_of (T : Txt K mg) : FnOk P w K mg base CX0 1 T.f_power_of T.fd_power_of ["figure", "power"] (sp_power_of K) := by
  refine T.F_power_of.ok sc_power_of (fun vs H Q E h => ?_) (fun cdv A outer s H vs Q E hr h => ?_)
  · obtain ⟨_, _, rfl, _⟩ := h
    rfl
  · obtain ⟨f, p, rfl, h0, h1, h2, h3, q⟩ := h
    refine ⟨_, (pss_cons (ps_set (i := 2) sc_power_of.nd rfl (Or.inl rfl) pe_int)
      (pss_cons (ps_for PassesOwn.never rfl (pi_range1 (by rfl) T.m_range (pa_cons (pv 1) pa_nil)) (pg_name (i := 3) sc_power_of.nd rfl (Or.inl rfl)) (pss_one (ps_set (i := 2) sc_power_of.nd rfl (Or.inl rfl) (pe_op op_mul (pv 2) (pv 0)))))
      (pss_one (ps_ret (pv 2))))), ?_⟩
    refine ⟨_, rfl, _, rfl, by omega, by omega, for_range (lo := 0) (n := p.toNat) (fun i σ' H' => H' = H ∧ ∃ y, σ' = [some (.int f), some (.int p), some (.int (f ^ i)), y]) ⟨rfl, none, by rw [Int.pow_zero]; rfl⟩ ?_ ?_⟩
    · rintro i σ' H' hi ⟨rfl, y, rfl⟩
      refine ⟨_, rfl, _, rfl, _, _, rfl, rfl, .inr ⟨h2, h3⟩, rfl, some (.int (0 + i)), ?_⟩
      rw [Int.pow_succ]
      rfl
    · rintro σ' H' ⟨rfl, y, rfl⟩
      exact ⟨_, rfl, q⟩

/-! ### step_of -/
def sp_step_of (K : PySem.W.Frag) : Sp := fun vs H Q _ => ∃ n b p : Nat, vs = [.int (n : Int), .int (b : Int), .int (p : Int)] ∧ 2 ≤ b ∧ b ≤ 16 ∧ p ≤ 10 ∧ n < 2 ^ 900 ∧ ∀ H', Same H H' → Q (.int (stepN b p n : Nat)) H'
theorem ok_step_of (T : Txt K mg) : FnOk P w K mg base CX0 2 T.f_step_of T.fd_step_of ["number", "base", "power"] (sp_step_of K) := by
  refine T.F_step_of.ok sc_step_of (fun vs H Q E h => ?_) (fun cdv A outer s H vs Q E hr h => ?_)
  · obtain ⟨_, _, _, rfl, _⟩ := h
    rfl
  · obtain ⟨n, b, p, rfl, hb, hb16, hp, hn, q⟩ := h
    have fl := figs_le hb hn
    refine ⟨_, (pss_one (ps_ret (pe_callB (id := "sum") (cr_sum rfl) (by rfl) T.m_sum (by decide +kernel) (pa_cons (pe_lc (own := [("figure", 3)]) (g := (gName 3)) (tt := tYes) rfl sc_step_of.nd (pi_tup (pe_call (ok_figures_of T) hr (by rfl) T.g_figures_of T.F_figures_of.kp T.b_figures_of .nil pass0 (pa_cons (pv 0) (pa_cons (pv 1) pa_nil)))) (blkOk_by (own := [("figure", 3)]) (N := ["number", "base", "power", "figure"]) (sc := defScope s_step_of) (by decide +kernel)) (fun _ _ _ _ _ => (pg_name (i := 3) sc_step_of.nd rfl (Or.inl rfl))) (fun _ _ _ _ _ => pts_nil) (fun _ _ _ _ _ => (pe_call (ok_power_of T) hr (by rfl) T.g_power_of T.F_power_of.kp T.b_power_of .nil pass0 (pa_cons (pv 3) (pa_cons (pv 2) pa_nil))))) pa_nil)))), ?_⟩
    refine ⟨_, rfl, _, rfl, n, b, rfl, hb, hb16, hn, fun H1 t s1 n1 e1 => ⟨t, rfl, ⟨_, .of e1⟩, fun D hD => ?_⟩⟩
    refine lc_tup (xs := ivs (figs b n)) (fun i H' => Same H1 H' ∧ H' D = some (.lst (ivs (((figs b n).take i).map (· ^ p))))) ⟨Same.new hD, upd_same⟩ ?_ ?_ ?_
    · rintro i H' hi ⟨s2, e2⟩
      exact .of (s2 _ _ e1)
    · rintro i x H' hx ⟨s2, e2⟩
      obtain ⟨k, hk, rfl⟩ := ivs_get hx
      have kb := figs_below hb (List.mem_of_getElem? hk)
      have hi : i < (figs b n).length := (List.getElem?_eq_some_iff.mp hk).1
      refine ⟨rfl, _, rfl, _, rfl, (k : Int), (p : Int), rfl, by omega, by omega, by omega, by omega, ?_⟩
      refine ⟨_, e2, small1000 ?_, same_own s2 hD, ?_⟩
      · rw [ivs_length, List.length_map, List.length_take]
        omega
      · rw [upd_same, List.take_add_one, hk, List.map_append, ivs_append]
        show some (HO.lst (_ ++ [V.int ((k : Int) ^ p)])) = some (HO.lst (_ ++ [V.int ((k ^ p : Nat) : Int)]))
        rw [Int.natCast_pow]
    · rintro H' ⟨s2, e2⟩
      rw [ivs_length, List.take_length, ivs_map] at e2
      refine ⟨D, _, rfl, .of e2, ?_⟩
      rw [sum_cast]
      exact q H' (s1.trans s2)

/-! ### worths_of -/
def sp_worths_of (K : PySem.W.Frag) : Sp := fun vs H Q _ => ∃ b p : Nat, vs = [.int (b : Int), .int (p : Int)] ∧ b ≤ 16 ∧ p ≤ 10 ∧ ∀ H' w, Same H H' → H w = none → H' w = some (.lst (ivs (wts b p))) → Q (.ref w) H'
theorem ok_worths_of (T : Txt K mg) : FnOk P w K mg base CX0 2 T.f_worths_of T.fd_worths_of ["base", "power"] (sp_worths_of K) := by
  refine T.F_worths_of.ok sc_worths_of (fun vs H Q E h => ?_) (fun cdv A outer s H vs Q E hr h => ?_)
  · obtain ⟨_, _, rfl, _⟩ := h
    rfl
  · obtain ⟨b, p, rfl, hb, hp, q⟩ := h
    refine ⟨_, (pss_one (ps_ret (pe_lc (own := [("figure", 2)]) (g := (gName 2)) (tt := tYes) rfl sc_worths_of.nd (pi_range1 (by rfl) T.m_range (pa_cons (pv 0) pa_nil)) (blkOk_by (own := [("figure", 2)]) (N := ["base", "power", "figure"]) (sc := defScope s_worths_of) (by decide +kernel)) (fun _ _ _ _ _ => (pg_name (i := 2) sc_worths_of.nd rfl (Or.inl rfl))) (fun _ _ _ _ _ => pts_nil) (fun _ _ _ _ _ => (pe_call (ok_power_of T) hr (by rfl) T.g_power_of T.F_power_of.kp T.b_power_of .nil pass0 (pa_cons (pv 2) (pa_cons (pv 1) pa_nil))))))), ?_⟩
    refine ⟨_, rfl, _, rfl, by omega, by omega, fun D hD => lc_range (lo := 0) (n := b) (fun i H' => Same H H' ∧ H' D = some (.lst (ivs ((wts b p).take i)))) ⟨Same.new hD, upd_same⟩ ?_ ?_⟩
    · rintro i H' hi ⟨s2, e2⟩
      refine ⟨rfl, _, rfl, _, rfl, ((0 + i : Nat) : Int), (p : Int), by rw [Int.natCast_add]; rfl, by omega, by omega, by omega, by omega, ?_⟩
      refine ⟨_, e2, small_len (by rw [ivs_length, List.length_take, wts_len]; omega), same_own s2 hD, ?_⟩
      rw [upd_same, List.take_add_one, wts_get hi, ivs_append, Nat.zero_add]
      show some (HO.lst (_ ++ [V.int ((i : Int) ^ p)])) = some (HO.lst (_ ++ [V.int ((i ^ p : Nat) : Int)]))
      rw [Int.natCast_pow]
    · rintro H' ⟨s2, e2⟩
      rw [List.take_of_length_le (by rw [wts_len]; exact Nat.le_refl _)] at e2
      exact q H' D s2 hD e2

/-! ### length_down -/
def sp_length_down (K : PySem.W.Frag) : Sp := fun vs H Q _ => ∃ b p : Int, vs = [.int b, .int p] ∧ OkPair b p ∧ ∀ L : Nat, IsLen b (worth b p) L → L ≤ 15 → Q (.int (L : Int)) H
def W_length_down (b p : Int) (H : Hp) (m : Nat) (σ' : L2.St) (H' : Hp) : Prop := ∃ L : Nat, m = 15 - L ∧ H' = H ∧ σ' = [some (.int b), some (.int p), some (.int (worth b p)), some (.int (L : Int)), some (.int (b ^ (L - 1)))] ∧ 2 ≤ L ∧ L ≤ 15 ∧ ∀ k : Nat, 2 ≤ k → k < L → b ^ (k - 1) ≤ (k : Int) * worth b p
theorem ok_length_down (T : Txt K mg) : FnOk P w K mg base CX0 2 T.f_length_down T.fd_length_down ["base", "power"] (sp_length_down K) := by
  refine T.F_length_down.ok sc_length_down (fun vs H Q E h => ?_) (fun cdv A outer s H vs Q E hr h => ?_)
  · obtain ⟨_, _, rfl, _⟩ := h
    rfl
  · obtain ⟨b, p, rfl, hp, q⟩ := h
    obtain ⟨h1, h2, h3, h4⟩ := id hp
    have p10 := hp.le10
    have hw := hp.worth
    refine ⟨_, (pss_cons (ps_set (i := 2) sc_length_down.nd rfl (Or.inl rfl) (pe_call (ok_power_of T) hr (by rfl) T.g_power_of T.F_power_of.kp T.b_power_of .nil pass0 (pa_cons (pe_op op_sub (pv 0) pe_int) (pa_cons (pv 1) pa_nil))))
      (pss_cons (ps_set (i := 3) sc_length_down.nd rfl (Or.inl rfl) pe_int)
      (pss_cons (ps_set (i := 4) sc_length_down.nd rfl (Or.inl rfl) (pv 0))
      (pss_cons (ps_while PassesOwn.never (pt_cmpR op_ge (pe_op op_mul (pv 3) (pv 2)) (pv 4) (nomark _)) (pss_cons (ps_aug (i := 3) sc_length_down.nd rfl (Or.inl rfl) pe_int ip_add)
      (pss_one (ps_set (i := 4) sc_length_down.nd rfl (Or.inl rfl) (pe_op op_mul (pv 4) (pv 0))))))
      (pss_one (ps_ret (pv 3))))))), ?_⟩
    refine ⟨_, rfl, b, 1, rfl, rfl, _, rfl, b - 1, p, rfl, by omega, by omega, by omega, by omega, ?_⟩
    refine ⟨_, rfl, W_length_down b p H, ⟨13, 2, rfl, rfl, ?_, by decide, by decide, fun k _ _ => by omega⟩, ?_⟩
    · have e : b ^ (2 - 1) = b := Int.pow_one b
      rw [e]
      rfl
    · rintro m σ' H' ⟨L, rfl, rfl, rfl, l2, l15, ih⟩
      have w1 : ∀ x : Int, -(2 ^ 64) < (L : Int) ∧ (L : Int) < 2 ^ 64 := fun _ => by omega
      refine ⟨_, rfl, _, rfl, _, _, rfl, rfl, .inl (w1 0), _, rfl, _, _, rfl, rfl, _, rfl, ?_⟩
      by_cases t : b ^ (L - 1) ≤ (L : Int) * worth b p
      · rw [decide_eq_true t]
        have l := len_lt h1 (by omega) l15 t
        refine iteT ⟨Nx (W_length_down b p H') (15 - L), Nx.id, ?_⟩
        refine ⟨_, rfl, _, _, rfl, rfl, _, rfl, _, rfl, _, _, rfl, rfl, .inr (by omega), ?_⟩
        refine ⟨15 - (L + 1), by omega, L + 1, rfl, rfl, ?_, by omega, by omega, len_step ih t⟩
        have e : b ^ (L + 1 - 1) = b ^ (L - 1) * b := by
          rw [← Int.pow_succ]
          congr 1
          omega
        rw [e]
        rfl
      · rw [decide_eq_false t]
        exact iteF ⟨_, rfl, q L ⟨l2, by omega, ih⟩ l15⟩

/-! ### steps_to -/
def sp_steps_to (K : PySem.W.Frag) : Sp := fun vs H Q _ => ∃ (k b p : Nat) (W : Addr), vs = [.int (k : Int), .ref W] ∧ H W = some (.lst (ivs (wts b p))) ∧ OkN b p ∧ k ≤ 1000000 ∧ ∀ H' R, Same H H' → H R = none → H' R = some (.lst (ivs (stpN b p (max b (k + 1))))) → Q (.ref R) H'
theorem ok_steps_to (T : Txt K mg) : FnOk P w K mg base CX0 1 T.f_steps_to T.fd_steps_to ["most", "worths"] (sp_steps_to K) := by
  refine T.F_steps_to.ok sc_steps_to (fun vs H Q E h => ?_) (fun cdv A outer s H vs Q E hr h => ?_)
  · obtain ⟨_, _, _, _, rfl, _⟩ := h
    rfl
  · obtain ⟨k, b, p, P, rfl, eP, ok, hk, q⟩ := h
    have hb := ok.hb
    have hb16 := ok.hb16
    have lw : ((ivs (wts b p)).length : Int) = (b : Int) := by rw [ivs_length, wts_len]
    refine ⟨_, (pss_cons (ps_set (i := 2) sc_steps_to.nd rfl (Or.inl rfl) (pe_callB (id := "len") call_len_seq (by rfl) T.m_len (by decide +kernel) (pa_cons (pv 1) pa_nil)))
      (pss_cons (ps_set (i := 3) sc_steps_to.nd rfl (Or.inl rfl) (pe_callTy (T := "list") call_list_of (by rfl) T.m_list (by decide +kernel) (pa_cons (pv 1) pa_nil)))
      (pss_cons (ps_for PassesOwn.never rfl (pi_range2 (by rfl) T.m_range (pa_cons (pv 2) (pa_cons (pe_op op_add (pv 0) pe_int) pa_nil))) (pg_name (i := 4) sc_steps_to.nd rfl (Or.inl rfl)) (pss_one (ps_expr (pe_bm PySem.F.plainAttrs_list PySem.F.slot_list_append PySem.F.type_list_append mt_append (pv 3) (pa_cons (pe_op op_add (pe_ix ix_list (pv 3) (pe_op op_fdivW (pv 4) (pv 2)) (fun _ _ => rfl)) (pe_ix ix_list (pv 1) (pe_op op_mod (pv 4) (pv 2)) (fun _ _ => rfl))) pa_nil)))))
      (pss_one (ps_ret (pv 3)))))), ?_⟩
    refine ⟨_, rfl, P, _, rfl, .inl (.of eP), _, rfl, P, _, rfl, .inl (.of eP), fun R hR => ?_⟩
    rw [wts_steps']
    rw [wts_steps'] at lw
    rw [lw]
    rw [wts_steps'] at eP
    generalize g1 : upd H R _ = H1
    obtain ⟨s1, t1⟩ := new_of g1 hR
    refine ⟨_, rfl, _, rfl, _, _, rfl, rfl, _, _, rfl, by omega, for_range (lo := (b : Int)) (n := ((k : Int) + 1 - (b : Int)).toNat) (fun i σ' H' => Same H H' ∧ H' R = some (.lst (ivs (stpN b p (b + i)))) ∧ ∃ y, σ' = [some (.int (k : Int)), some (.ref P), some (.int (b : Int)), some (.ref R), y]) ⟨s1, t1, none, rfl⟩ ?_ ?_⟩
    · rintro i σ' H2 hi ⟨s2, t2, y, rfl⟩
      have mb : (b + i) % b < b := Nat.mod_lt _ (by omega)
      have db : (b + i) / b < b + i := Nat.div_lt_self (by omega) (by omega)
      have e1 : atI (ivs (stpN b p (b + i))) (((b : Int) + (i : Int)) / (b : Int)) = some (.int ((stepN b p ((b + i) / b) : Nat) : Int)) := by
        rw [show ((b : Int) + (i : Int)) / (b : Int) = (((b + i) / b : Nat) : Int) by rw [Int.natCast_ediv, Int.natCast_add]]
        exact atI_nat (ivs_at (stpN_get db))
      have e2 : atI (ivs ((List.range b).map (stepN b p))) (((b : Int) + (i : Int)) % (b : Int)) = some (.int (((b + i) % b : Nat) ^ p : Nat)) := by
        rw [← wts_steps', show ((b : Int) + (i : Int)) % (b : Int) = (((b + i) % b : Nat) : Int) by rw [Int.natCast_emod, Int.natCast_add]]
        exact atI_nat (ivs_at (wts_get mb))
      refine ⟨_, rfl, .inl ⟨rfl, _, .of t2⟩, _, rfl, _, rfl, _, rfl, _, _, rfl, rfl, divW 60 (by omega) (by omega), R, _, _, _, rfl, rfl, .of t2, e1, ?_⟩
      refine ⟨_, rfl, _, rfl, _, rfl, _, _, rfl, rfl, by walk_at "p", P, _, _, _, rfl, rfl, .of (s2 _ _ eP), e2, _, _, rfl, rfl, R, _, _, rfl, rfl, t2, small_len (by rw [ivs_length, stpN_len]; omega), same_own s2 hR, ?_, _, rfl⟩
      rw [upd_same, show b + (i + 1) = (b + i) + 1 by omega, stpN_succ, ivs_append, stepN_rec hb ok.hp1 (b + i)]
      rfl
    · rintro σ' H2 ⟨s2, t2, y, rfl⟩
      rw [show b + ((k : Int) + 1 - (b : Int)).toNat = max b (k + 1) by omega] at t2
      exact ⟨_, rfl, q H2 R s2 hR t2⟩

/-! ### add_ends -/
def sp_add_ends (K : PySem.W.Frag) : Sp := fun vs H Q _ => ∃ (E S : Addr) (n b p N : Nat) (ks : List Nat) (kvs : List (Key × V)), vs = [.ref E, .ref S, .int (n : Int)] ∧ EK H E b p N ks kvs ∧ Cl b p ks ∧ H S = some (.lst (ivs (stpN b p N))) ∧ n < N ∧ Big b p N ∧ OkN b p ∧ N ≤ 1100000 ∧
  ∀ H' ks' kvs', But E H H' → EK H' E b p N ks' kvs' → Cl b p ks' → (∀ x ∈ ks, x ∈ ks') → n ∈ ks' → Q .non H'
def plK (b p n L : Nat) : List (Key × V) := kvsOf (fun i => ((itN b p n i : Nat) : Int)) (fun i => .int (i : Int)) L
theorem plK_none {b p n L x : Nat} (h : ∀ i, i < L → itN b p n i ≠ x) : valV (plK b p n L) (Sum.inl ((x : Nat) : Int) : Key) = none := kvsOf_none fun i hi e => h i hi (Int.ofNat.inj e)
theorem plK_some {b p n L A x : Nat} (nd : ∀ i j, i < L → j < L → itN b p n i = itN b p n j → i = j) (hA : A < L) (e : itN b p n A = x) : valV (plK b p n L) (Sum.inl ((x : Nat) : Int) : Key) = some (.int (A : Int)) := by
  subst e
  exact kvsOf_some (f := fun i => ((itN b p n i : Nat) : Int)) (g := fun i => V.int (i : Int)) (fun i j hi hj z => nd i j hi hj (Int.ofNat.inj z)) hA
theorem EK.but {H H' : Hp} {E : Addr} {b p N : Nat} {ks : List Nat} {kvs : List (Key × V)} (h : EK H E b p N ks kvs) (s : Same H H') : EK H' E b p N ks kvs := h.keep s
def W_add_ends (n b p N : Nat) (ks : List Nat) (E S : Addr) (H : Hp) (P : Addr) (m : Nat) (σ' : L2.St) (H' : Hp) : Prop := ∃ L : Nat, m = N + 1 - L ∧ σ' = [some (.ref E), some (.ref S), some (.int ((itN b p n L : Nat) : Int)), some (.ref P), none, none, none, none, none] ∧ Same H H' ∧ H' P = some (.dK (plK b p n L)) ∧ (∀ i j, i < L → j < L → itN b p n i = itN b p n j → i = j) ∧ ∀ i, i < L → itN b p n i ∉ ks
def M_add_ends (n b p N : Nat) (ks : List Nat) (E S : Addr) (H : Hp) (P : Addr) (σ' : L2.St) (H' : Hp) : Prop := ∃ L : Nat, σ' = [some (.ref E), some (.ref S), some (.int ((itN b p n L : Nat) : Int)), some (.ref P), none, none, none, none, none] ∧ Same H H' ∧ H' P = some (.dK (plK b p n L)) ∧ (∀ i j, i < L → j < L → itN b p n i = itN b p n j → i = j) ∧ (∀ i, i < L → itN b p n i ∉ ks) ∧ L ≤ N ∧ (itN b p n L ∈ ks ∨ ∃ A, A < L ∧ itN b p n L = itN b p n A)
def M2_add_ends (n b p N : Nat) (ks : List Nat) (E S : Addr) (H : Hp) (σ' : L2.St) (H' : Hp) : Prop := ∃ (A : Nat) (P R : Addr) (ks' : List Nat) (kvs' : List (Key × V)) (y5 y6 y7 : Option V), σ' = [some (.ref E), some (.ref S), some (.int ((itN b p n A : Nat) : Int)), some (.ref P), some (.ref R), y5, y6, y7, none] ∧ But E H H' ∧ R ≠ E ∧ H' R = some (.lst (ivs (rowN b p n A))) ∧ EK H' E b p N ks' kvs' ∧ Cl b p ks' ∧ (∀ x ∈ ks, x ∈ ks') ∧ (∀ j, j < A → itN b p n j ∉ ks') ∧ itN b p n A ∈ ks' ∧ (∀ i j, i < A → j < A → itN b p n i = itN b p n j → i = j)
theorem ok_add_ends (T : Txt K mg) : FnOk P w K mg base CX0 1 T.f_add_ends T.fd_add_ends ["ends", "steps", "number"] (sp_add_ends K) := by
  refine T.F_add_ends.ok sc_add_ends (fun vs H Q E h => ?_) (fun cdv A outer s H vs Q E hr h => ?_)
  · obtain ⟨_, _, _, _, _, _, _, _, rfl, _⟩ := h
    rfl
  · obtain ⟨E, S, n, b, p, N, ks, kvs, rfl, ek, cl, eS, hn, big, ok, N9, q⟩ := h
    have inN : ∀ i, itN b p n i < N := fun i => by
      induction i with
      | zero => exact hn
      | succ i ih => exact big.closed _ ih
    have repN : ∀ L, (∀ i j, i < L → j < L → itN b p n i = itN b p n j → i = j) → L ≤ N := fun L nd => by
      have l := nodup_len N ((List.range L).map fun i => itN b p n i) ?_ ?_
      · rwa [List.length_map, List.length_range] at l
      · refine List.pairwise_map.mpr (List.Pairwise.imp_of_mem ?_ (List.nodup_range (n := L)))
        intro x y hx hy ne e
        exact ne (nd x y (List.mem_range.mp hx) (List.mem_range.mp hy) e)
      · intro x hx
        obtain ⟨i, _, rfl⟩ := List.mem_map.mp hx
        exact inN i
    refine ⟨_, (pss_cons (ps_set (i := 3) sc_add_ends.nd rfl (Or.inl rfl) pe_dnewK)
      (C8.pss_cut (ps_while PassesOwn.never (PW.pt (pw_and (pt_cmp (pc_dnotin (hu_of hr) (pv 2) (pv 0)) rfl) (pw_and1 (pt_cmp (pc_dnotin (hu_of hr) (pv 2) (pv 3)) rfl)))) (pss_cons (ps_dput (hu_of hr) (pv 3) (pv 2) (pe_callB (id := "len") call_lenD (by rfl) T.m_len (by decide +kernel) (pa_cons (pv 3) pa_nil)) rfl)
      (pss_one (ps_set (i := 2) sc_add_ends.nd rfl (Or.inl rfl) (pe_ix ix_list (pv 1) (pv 2) (fun _ _ => rfl))))))
      (pss_cons (ps_set (i := 4) sc_add_ends.nd rfl (Or.inl rfl) (pe_callTy (T := "list") (call_list_dK rfl) (by rfl) T.m_list (by decide +kernel) (pa_cons (pv 3) pa_nil)))
      (C8.pss_cut (ps_if (pt_cmp (pc_din (hu_of hr) (pv 2) (pv 3)) rfl) (pss_cons (ps_set (i := 5) sc_add_ends.nd rfl (Or.inl rfl) (pe_slice sl_list (pv 4) (po_some (pe_dget (hu_of hr) (pv 3) (pv 2) (fun _ _ => rfl))) po_none))
      (pss_cons (ps_set (i := 4) sc_add_ends.nd rfl (Or.inl rfl) (pe_slice sl_list (pv 4) po_none (po_some (pe_dget (hu_of hr) (pv 3) (pv 2) (fun _ _ => rfl)))))
      (pss_cons (ps_set (i := 6) sc_add_ends.nd rfl (Or.inl rfl) (pe_callB (id := "min") (cr_min rfl) (by rfl) T.m_min (by decide +kernel) (pa_cons (pv 5) pa_nil)))
      (pss_one (ps_for PassesOwn.never rfl (pi_list (pv 5)) (pg_name (i := 7) sc_add_ends.nd rfl (Or.inl rfl)) (pss_one (ps_dput (hu_of hr) (pv 0) (pv 7) (pe_tup (pa_cons pe_int (pa_cons (pv 6) pa_nil))) rfl))))))) pss_nil)
      (pss_cons (ps_asg (pe_dget (hu_of hr) (pv 0) (pv 2) (fun _ _ => rfl)) (pg_tup rfl (pgs_cons (pg_name (i := 8) sc_add_ends.nd rfl (Or.inl rfl)) (pgs_cons (pg_name (i := 6) sc_add_ends.nd rfl (Or.inl rfl)) pgs_nil))))
      (pss_one (ps_for PassesOwn.never rfl (pi_list (pe_revL (pv 4))) (pg_name (i := 7) sc_add_ends.nd rfl (Or.inl rfl)) (pss_cons (ps_aug (i := 8) sc_add_ends.nd rfl (Or.inl rfl) pe_int ip_add)
      (pss_one (ps_dput (hu_of hr) (pv 0) (pv 7) (pe_tup (pa_cons (pv 8) (pa_cons (pv 6) pa_nil))) rfl)))))))))), ?_⟩
    refine fun P hP => ?_
    generalize g1 : upd H P _ = H1
    obtain ⟨s1, t1⟩ := new_of g1 hP
    refine ⟨M_add_ends n b p N ks E S H P, ?_, ?_⟩
    · refine ⟨W_add_ends n b p N ks E S H P, ⟨N + 1, 0, rfl, rfl, s1, t1, fun i j hi => by omega, fun i hi => by omega⟩, ?_⟩
      rintro m σ' H2 ⟨L, rfl, rfl, s2, t2, nd, nk⟩
      have LN := repN L nd
      have ek2 := ek.keep s2
      by_cases c1 : itN b p n L ∈ ks
      · obtain ⟨t, a, m, v1, v2, v3⟩ := ek2.val _ c1
        refine ⟨_, rfl, _, rfl, E, _, rfl, dget (k := Sum.inl _) ek2.at' v1, false, rfl, iteF (iteF ?_)⟩
        exact ⟨L, rfl, s2, t2, nd, nk, LN, .inl c1⟩
      · refine ⟨_, rfl, _, rfl, E, _, rfl, dget (k := Sum.inl _) ek2.at' (ek2.no c1), true, rfl, iteT ?_⟩
        by_cases c2 : ∃ A, A < L ∧ itN b p n L = itN b p n A
        · obtain ⟨A, hA, e⟩ := c2
          refine ⟨_, rfl, _, rfl, P, _, rfl, dget (k := Sum.inl _) t2 (plK_some nd hA e.symm), false, rfl, iteF ?_⟩
          exact ⟨L, rfl, s2, t2, nd, nk, LN, .inr ⟨A, hA, e⟩⟩
        · have fr : ∀ i, i < L → itN b p n i ≠ itN b p n L := fun i hi z => c2 ⟨i, hi, z.symm⟩
          refine ⟨_, rfl, _, rfl, P, _, rfl, dget (k := Sum.inl _) t2 (plK_none fr), true, rfl, iteT ⟨Nx (W_add_ends n b p N ks E S H P) (N + 1 - L), Nx.id, ?_⟩⟩
          refine ⟨_, rfl, P, _, rfl, t2, ?_⟩
          have lk : (plK b p n L).length = L := kvsOf_len ..
          rw [lk]
          refine ⟨_, rfl, _, rfl, P, _, rfl, .k (k := Sum.inl _) t2 (small_len (by rw [lk]; omega)), ?_⟩
          have z : putK (plK b p n L) (Sum.inl ((itN b p n L : Nat) : Int) : Key) (.int (L : Int)) = plK b p n (L + 1) := kvsOf_put (f := fun i => ((itN b p n i : Nat) : Int)) (g := fun i => V.int (i : Int)) (L := L) fun i hi z => fr i hi (Int.ofNat.inj z)
          rw [z]
          have PS : S ≠ P := ne_of_none eS hP
          have eS2 : (upd H2 P (.dK (plK b p n (L + 1)))) S = some (.lst (ivs (stpN b p N))) := by
            rw [upd_ne PS]
            exact s2 _ _ eS
          refine ⟨_, rfl, _, rfl, S, _, _, _, rfl, rfl, .of eS2, atI_nat (ivs_at (stpN_get (inN L))), ?_⟩
          refine ⟨N + 1 - (L + 1), by omega, L + 1, rfl, rfl, same_own s2 hP, upd_same, fun i j hi hj ez => ?_, fun i hi => ?_⟩
          · by_cases ci : i = L
            · by_cases cj : j = L
              · omega
              · subst ci
                exact absurd ez.symm (fr j (by omega))
            · by_cases cj : j = L
              · subst cj
                exact absurd ez (fr i (by omega))
              · exact nd i j (by omega) (by omega) ez
          · by_cases ci : i = L
            · subst ci
              exact c1
            · exact nk i (by omega)
    rintro σ' H2 ⟨L, rfl, s2, t2, nd, nk, LN, en⟩
    -- path
    have lk : ((plK b p n L).map fun kv => kV kv.1) = ivs (rowN b p n L) := by
      unfold plK
      rw [kvsOf_keys, rowN_eq]
      unfold ivs
      rw [List.map_map]
      rfl
    refine ⟨_, rfl, P, _, rfl, t2, fun R hR => ?_⟩
    rw [lk]
    generalize g3 : upd H2 R _ = H3
    obtain ⟨s3, t3⟩ := new_of g3 hR
    have s03 := s2.trans s3
    have ek3 := ek.keep s03
    have RE : R ≠ E := (ne_of_none (ek.keep s2).at' hR).symm
    have tP3 := s3 _ _ t2
    refine ⟨M2_add_ends n b p N ks E S H, ?_, ?_⟩
    · by_cases c : ∃ A, A < L ∧ itN b p n L = itN b p n A
      · obtain ⟨A, hA, e⟩ := c
        have wy : Way b p n A L := ⟨hA, e, nd⟩
        have v := plK_some nd hA e.symm
        refine ⟨_, rfl, _, rfl, P, _, rfl, dget (k := Sum.inl _) tP3 v, true, rfl, iteT ?_⟩
        refine ⟨_, rfl, _, rfl, _, rfl, P, _, rfl, dget (k := Sum.inl _) tP3 v, _, rfl, R, _, rfl, .of t3, fun D1 h1 => ?_⟩
        rw [cut_ivs_from, rowN_drop]
        generalize g4 : upd H3 D1 _ = H4
        obtain ⟨s4, t4⟩ := new_of g4 h1
        refine ⟨_, rfl, _, rfl, _, rfl, P, _, rfl, dget (k := Sum.inl _) (s4 _ _ tP3) v, _, rfl, R, _, rfl, .of (s4 _ _ t3), fun D2 h2 => ?_⟩
        rw [cut_ivs_to, rowN_take (Nat.le_of_lt hA)]
        generalize g5 : upd H4 D2 _ = H5
        obtain ⟨s5, t5⟩ := new_of g5 h2
        have t45 := s5 _ _ t4
        have t45' := t45
        rw [ivs_map] at t45'
        refine ⟨_, rfl, D1, _, rfl, .of t45', by rw [List.length_map, rowN_len]; omega, fun m h1' h2' => ?_⟩
        obtain ⟨k, hk, rfl⟩ := List.mem_map.mp h1'
        obtain ⟨i0, hi0, rfl⟩ := mem_rowN.mp hk
        rw [← itN_add]
        have lem : ∀ x, A ≤ x → x < L → itN b p n (A + i0) ≤ itN b p n x := fun x x1 x2 => by
          have := h2' ((itN b p n x : Nat) : Int) (List.mem_map.mpr ⟨_, mem_rowN.mpr ⟨x - A, by omega, rfl⟩, by rw [← itN_add, show A + (x - A) = x by omega]⟩)
          rw [← itN_add] at this
          omega
        have ea := wy.end_of ⟨A + i0, by omega, by omega, rfl⟩ lem
        have s05 := s03.trans (s4.trans s5)
        have ek5 := ek.keep s05
        have DE1 : D1 ≠ E := (ne_of_none ek3.at' h1).symm
        have DE2 : D2 ≠ E := (ne_of_none (ek3.keep s4).at' h2).symm
        refine ⟨_, rfl, D1, rfl, ⟨_, .of t45⟩, for_list (xs := ivs (rowN b p (itN b p n A) (L - A))) (fun i σ' H' => But E H5 H' ∧ i ≤ L - A ∧ (∃ kvs', EK H' E b p N (ks ++ rowN b p (itN b p n A) i) kvs') ∧ ∃ y7 : Option V, σ' = [some (.ref E), some (.ref S), some (.int ((itN b p n L : Nat) : Int)), some (.ref P), some (.ref D2), some (.ref D1), some (.int ((itN b p n (A + i0) : Nat) : Int)), y7, none]) ⟨But.refl _ _, Nat.zero_le _, ⟨kvs, by rw [show rowN b p (itN b p n A) 0 = [] from rfl, List.append_nil]; exact ek5⟩, none, rfl⟩ ?_ ?_ ?_⟩
        · rintro i σ' H' hi ⟨z, _⟩
          exact .of (z _ _ DE1 t45)
        · rintro i x σ' H6 hx ⟨b6, il, ⟨kvs', ek6⟩, y7, rfl⟩
          obtain ⟨r, hr, rfl⟩ := ivs_get hx
          have hi : i < L - A := by
            have := (List.getElem?_eq_some_iff.mp hr).1
            rwa [rowN_len] at this
          rw [rowN_get _ _ _ _ _ hi] at hr
          obtain rfl : itN b p (itN b p n A) i = r := Option.some.inj hr
          refine ⟨_, rfl, by show 2 ≤ sizeLine; decide, fun t ht => ?_⟩
          generalize g7 : upd H6 t _ = H7
          obtain ⟨s7, t7⟩ := new_of g7 ht
          have ek7 := ek6.keep s7
          have fr : itN b p (itN b p n A) i ∉ ks ++ rowN b p (itN b p n A) i := fun z => by
            rcases List.mem_append.mp z with z | z
            · rw [← itN_add] at z
              exact nk _ (by omega) z
            · obtain ⟨j, j1, j2⟩ := mem_rowN.mp z
              rw [← itN_add, ← itN_add] at j2
              have := nd _ _ (by omega) (by omega) j2
              omega
          have put := ek7.put (a := 0) (m := itN b p n (A + i0)) fr (by rw [← itN_add]; exact inN _) t7 (by rw [← itN_add]; exact rnd_at wy ea (by omega))
          rw [List.append_assoc] at put
          exact ⟨_, rfl, _, rfl, E, _, rfl, .inl ⟨kvs', Sum.inl _, ek7.at', rfl, small_len (by have := ek7.len; omega), rfl⟩, b6.trans ((But.of s7).trans But.set), hi, ⟨_, put⟩, _, rfl⟩
        · rintro σ' H6 ⟨b6, il, ⟨kvs', ek6⟩, y7, rfl⟩
          rw [ivs_length, rowN_len] at ek6
          refine ⟨A, P, D2, _, kvs', _, _, y7, by rw [e], (But.of s05).trans b6, DE2, b6 _ _ DE2 t5, ek6, fun x hx => ?_, fun x hx => List.mem_append_left _ hx, fun j hj z => ?_, List.mem_append_right _ (mem_rowN.mpr ⟨0, by omega, rfl⟩), fun i j hi hj => nd i j (by omega) (by omega)⟩
          · rcases List.mem_append.mp hx with z | z
            · exact List.mem_append_left _ (cl x z)
            · obtain ⟨j, j1, j2⟩ := mem_rowN.mp z
              refine List.mem_append_right _ (mem_rowN.mpr ?_)
              by_cases cj : j + 1 < L - A
              · exact ⟨j + 1, cj, by rw [itN_succ, j2]⟩
              · refine ⟨0, by omega, ?_⟩
                rw [itN_zero, ← e, ← j2, ← itN_succ, ← itN_add, show A + (j + 1) = L by omega]
          · rcases List.mem_append.mp z with z | z
            · exact nk j (by omega) z
            · obtain ⟨i, i1, i2⟩ := mem_rowN.mp z
              rw [← itN_add] at i2
              have := nd _ _ (by omega) (by omega) i2
              omega
      · have inK : itN b p n L ∈ ks := en.resolve_right c
        refine ⟨_, rfl, _, rfl, P, _, rfl, dget (k := Sum.inl _) tP3 (plK_none fun i hi z => c ⟨i, hi, z.symm⟩), false, rfl, iteF ?_⟩
        exact ⟨L, P, R, ks, kvs, none, none, none, rfl, .of s03, RE, t3, ek3, cl, fun x hx => hx, nk, inK, nd⟩
    rintro σ' H4 ⟨A, P, R, ks', kvs', y5, y6, y7, rfl, b4, RE, tR, ek4, cl', sub, nk', inA, nd'⟩
    obtain ⟨t, a, m, v1, v2, v3⟩ := ek4.val _ inA
    refine ⟨_, rfl, _, rfl, E, _, rfl, dget (k := Sum.inl _) ek4.at' v1, t, _, rfl, .of v2, rfl, _, _, rfl, _, _, rfl, rfl, ?_⟩
    refine ⟨_, rfl, R, _, rfl, .of tR, fun R2 h2 => ?_⟩
    rw [ivs_reverse]
    generalize g5 : upd H4 R2 _ = H5
    obtain ⟨s5, t5⟩ := new_of g5 h2
    have RE2 : R2 ≠ E := (ne_of_none ek4.at' h2).symm
    have np : ∀ j, j < A → ¬ Per b p (itN b p n j) := fun j hj z => by
      obtain ⟨i, hi⟩ := z.back (A - j)
      rw [← itN_add b p n j (A - j), show j + (A - j) = A by omega] at hi
      exact nk' j hj (hi ▸ Cl.it cl' inA i)
    have gen : ∀ i, i ≤ A → EndAt b p (itN b p n (A - i)) (a + i) m := fun i => by
      induction i with
      | zero => intro _; exact v3
      | succ i ih =>
        intro hi
        have h1 := ih (by omega)
        rw [show A - i = (A - (i + 1)) + 1 by omega, itN_succ] at h1
        exact h1.succ (np _ (by omega))
    refine ⟨R2, rfl, ⟨_, .of t5⟩, for_list (xs := ivs (rowN b p n A).reverse) (fun i σ' H' => But E H5 H' ∧ i ≤ A ∧ (∃ kvs'', EK H' E b p N (ks' ++ (rowN b p n A).reverse.take i) kvs'') ∧ ∃ y5 y7 : Option V, σ' = [some (.ref E), some (.ref S), some (.int ((itN b p n A : Nat) : Int)), some (.ref P), some (.ref R), y5, some (.int (m : Int)), y7, some (.int ((a + i : Nat) : Int))]) ⟨But.refl _ _, Nat.zero_le _, ⟨kvs', by rw [List.take_zero, List.append_nil]; exact ek4.keep s5⟩, y5, y7, rfl⟩ ?_ ?_ ?_⟩
    · rintro i σ' H' hi ⟨z, _⟩
      exact .of (z _ _ RE2 t5)
    · rintro i x σ' H6 hx ⟨b6, il, ⟨kvs'', ek6⟩, y5, y7, rfl⟩
      obtain ⟨r, hr, rfl⟩ := ivs_get hx
      have hi : i < A := by
        have := (List.getElem?_eq_some_iff.mp hr).1
        rwa [List.length_reverse, rowN_len] at this
      have hr0 := hr
      rw [List.getElem?_reverse (by rw [rowN_len]; exact hi), rowN_len, rowN_get _ _ _ _ _ (by omega)] at hr
      obtain rfl : itN b p n (A - 1 - i) = r := Option.some.inj hr
      refine ⟨_, rfl, _, _, rfl, rfl, _, rfl, _, rfl, by show 2 ≤ sizeLine; decide, fun t' ht' => ?_⟩
      generalize g7 : upd H6 t' _ = H7
      obtain ⟨s7, t7⟩ := new_of g7 ht'
      have ek7 := ek6.keep s7
      have fr : itN b p n (A - 1 - i) ∉ ks' ++ (rowN b p n A).reverse.take i := fun z => by
        rcases List.mem_append.mp z with z | z
        · exact nk' _ (by omega) z
        · obtain ⟨j, hj⟩ := List.mem_iff_getElem?.mp z
          have jl := (List.getElem?_eq_some_iff.mp hj).1
          rw [List.length_take] at jl
          rw [List.getElem?_take_of_lt (by omega), List.getElem?_reverse (by rw [rowN_len]; omega), rowN_len, rowN_get _ _ _ _ _ (by omega)] at hj
          have := nd' _ _ (by omega) (by omega) (Option.some.inj hj)
          omega
      have ge := gen (i + 1) hi
      rw [show A - (i + 1) = A - 1 - i by omega, show a + (i + 1) = a + i + 1 by omega] at ge
      have put := ek7.put (a := a + i + 1) (m := m) fr (inN _) t7 ge
      rw [List.append_assoc, show (rowN b p n A).reverse.take i ++ [itN b p n (A - 1 - i)] = (rowN b p n A).reverse.take (i + 1) by rw [List.take_add_one, hr0]; rfl] at put
      exact ⟨_, rfl, _, rfl, E, _, rfl, .inl ⟨kvs'', Sum.inl _, ek7.at', rfl, small_len (by have := ek7.len; omega), rfl⟩, b6.trans ((But.of s7).trans But.set), hi, ⟨_, put⟩, _, _, rfl⟩
    · rintro σ' H6 ⟨b6, il, ⟨kvs'', ek6⟩, y5, y7, rfl⟩
      rw [ivs_length, List.take_length] at ek6
      refine q H6 _ kvs'' (b4.trans ((But.of s5).trans b6)) ek6 (fun x hx => ?_) (fun x hx => List.mem_append_left _ (sub x hx)) ?_
      · rcases List.mem_append.mp hx with z | z
        · exact List.mem_append_left _ (cl' x z)
        · obtain ⟨j, j1, rfl⟩ := mem_rowN.mp (List.mem_reverse.mp z)
          by_cases cj : j + 1 < A
          · exact List.mem_append_right _ (List.mem_reverse.mpr (mem_rowN.mpr ⟨j + 1, cj, itN_succ ..⟩))
          · rw [← itN_succ, show j + 1 = A by omega]
            exact List.mem_append_left _ inA
      · by_cases c0 : A = 0
        · subst c0
          exact List.mem_append_left _ inA
        · exact List.mem_append_right _ (List.mem_reverse.mpr (mem_rowN.mpr ⟨0, by omega, rfl⟩))

/-! ### ends_to -/
/-- where each number ends, as it stands in a list -/
def EndsL (b p : Nat) (H : Hp) (vs : List V) : Prop := ∀ (i : Nat) v, vs[i]? = some v → ∃ t a m, v = .ref t ∧ H t = some (.tup (ivs [a, m])) ∧ EndAt b p i a m
def sp_ends_to (K : PySem.W.Frag) : Sp := fun vs H Q _ => ∃ k b p : Nat, vs = [.int (k : Int), .int (b : Int), .int (p : Int)] ∧ OkN b p ∧ k ≤ 900000 ∧ ∀ H' R rs, Same H H' → H R = none → H' R = some (.lst rs) → EndsL b p H' rs → Big b p rs.length → k < rs.length → rs.length ≤ 1000000 → Q (.ref R) H'
theorem ok_ends_to (T : Txt K mg) : FnOk P w K mg base CX0 3 T.f_ends_to T.fd_ends_to ["most", "base", "power"] (sp_ends_to K) := by
  refine T.F_ends_to.ok sc_ends_to (fun vs H Q E h => ?_) (fun cdv A outer s H vs Q E hr h => ?_)
  · obtain ⟨_, _, _, rfl, _⟩ := h
    rfl
  · obtain ⟨k, b, p, rfl, ok, hk, q⟩ := h
    have hb := ok.hb
    have hb16 := ok.hb16
    have wl := ok.worth
    refine ⟨_, (pss_cons (ps_set (i := 3) sc_ends_to.nd rfl (Or.inl rfl) (pe_call (ok_worths_of T) hr (by rfl) T.g_worths_of T.F_worths_of.kp T.b_worths_of .nil pass0 (pa_cons (pv 1) (pa_cons (pv 2) pa_nil))))
      (pss_cons (ps_set (i := 4) sc_ends_to.nd rfl (Or.inl rfl) (pe_op op_mul (pe_op op_sub (pe_call (ok_length_down T) hr (by rfl) T.g_length_down T.F_length_down.kp T.b_length_down .nil pass0 (pa_cons (pv 1) (pa_cons (pv 2) pa_nil))) pe_int) (pe_callB (id := "max") (cr_max rfl) (by rfl) T.m_max (by decide +kernel) (pa_cons (pv 3) pa_nil))))
      (pss_cons (ps_set (i := 5) sc_ends_to.nd rfl (Or.inl rfl) (pe_call (ok_steps_to T) (hr.mono (by decide)) (by rfl) T.g_steps_to T.F_steps_to.kp T.b_steps_to .nil pass0 (pa_cons (pe_callB (id := "max") (call_max2 rfl) (by rfl) T.m_max (by decide +kernel) (pa_cons (pv 0) (pa_cons (pv 4) pa_nil))) (pa_cons (pv 3) pa_nil))))
      (pss_cons (ps_set (i := 6) sc_ends_to.nd rfl (Or.inr rfl) pe_dnewK)
      (pss_cons (ps_for PassesOwn.never rfl (pi_range1 (by rfl) T.m_range (pa_cons (pe_callB (id := "len") call_len_seq (by rfl) T.m_len (by decide +kernel) (pa_cons (pv 5) pa_nil)) pa_nil)) (pg_name (i := 7) sc_ends_to.nd rfl (Or.inl rfl)) (pss_one (ps_expr (pe_call (ok_add_ends T) (hr.mono (by decide)) (by rfl) T.g_add_ends T.F_add_ends.kp T.b_add_ends .nil pass0 (pa_cons (pv 6) (pa_cons (pv 5) (pa_cons (pv 7) pa_nil)))))))
      (pss_one (ps_ret (pe_lc (own := [("number", 7)]) (g := (gName 7)) (tt := tYes) rfl sc_ends_to.nd (pi_range1 (by rfl) T.m_range (pa_cons (pe_callB (id := "len") call_len_seq (by rfl) T.m_len (by decide +kernel) (pa_cons (pv 5) pa_nil)) pa_nil)) (blkOk_by (own := [("number", 7)]) (N := ["most", "base", "power", "worths", "enough", "steps", "ends", "number"]) (sc := defScope s_ends_to) (by decide +kernel)) (fun _ _ _ _ _ => (pg_name (i := 7) sc_ends_to.nd rfl (Or.inl rfl))) (fun _ _ _ _ _ => pts_nil) (fun _ _ _ _ _ => (pe_dget (hu_of hr) (pv 6) (pv 7) (fun _ _ => rfl))))))))))), ?_⟩
    refine ⟨_, rfl, _, rfl, b, p, rfl, hb16, ok.hp, fun H1 W s1 nW eW => ?_⟩
    refine ⟨_, rfl, _, rfl, (b : Int), (p : Int), rfl, ok.ok, fun L hL l15 => ⟨_, _, rfl, rfl, ?_⟩⟩
    have l2 := hL.two
    have eW' := eW
    rw [ivs_map] at eW'
    refine ⟨_, rfl, W, _, rfl, .of eW', by rw [List.length_map, wts_len]; omega, fun m h1 h2 => ?_⟩
    have em : m = (((b - 1) ^ p : Nat) : Int) := by
      have mem : ∀ d, d < b → ((d ^ p : Nat) : Int) ∈ (wts b p).map fun (k : Nat) => (k : Int) := fun d hd => List.mem_map.mpr ⟨_, List.mem_of_getElem? (wts_get hd), rfl⟩
      obtain ⟨x, hx, rfl⟩ := List.mem_map.mp h1
      obtain ⟨d, hd, rfl⟩ := List.mem_map.mp hx
      have := pow_le_base (p := p) (List.mem_range.mp hd)
      have := h2 _ (mem (b - 1) (by omega))
      omega
    subst em
    refine ⟨_, _, rfl, rfl, .inl (by omega), ?_⟩
    have ee : ((L : Int) - 1) * (((b - 1) ^ p : Nat) : Int) = (((L - 1) * (b - 1) ^ p : Nat) : Int) := by
      rw [Int.natCast_mul, show ((L - 1 : Nat) : Int) = (L : Int) - 1 by omega]
    have el : (L - 1) * (b - 1) ^ p ≤ 14336 := by
      have := Nat.mul_le_mul (show L - 1 ≤ 14 by omega) wl.2
      omega
    have big : ∀ N, (L - 1) * (b - 1) ^ p < N → Big b p N := fun N hN => big_of hb hL hN
    generalize hen : (L - 1) * (b - 1) ^ p = en at ee el big
    refine ⟨_, rfl, _, rfl, _, _, rfl, _, rfl, max k en, b, p, W, ?_, eW, ok, by omega, fun H2 S s2 nS eS => ?_⟩
    · have e : (if ((L : Int) - 1) * (((b - 1) ^ p : Nat) : Int) > (k : Int) then ((L : Int) - 1) * (((b - 1) ^ p : Nat) : Int) else (k : Int)) = ((max k en : Nat) : Int) := by
        rw [ee]
        split <;> omega
      rw [← e]
      rfl
    have bigN := big (max b (max k en + 1)) (by omega)
    have Nb : max b (max k en + 1) ≤ 1000000 := by omega
    have kN : k < max b (max k en + 1) := by omega
    generalize max b (max k en + 1) = N at eS bigN Nb kN
    have s02 := s1.trans s2
    refine fun E hE => ?_
    generalize g3 : upd H2 E _ = H3
    obtain ⟨s3, t3⟩ := new_of g3 hE
    have E0 : H E = none := s02.free hE
    have SE : S ≠ E := ne_of_none eS hE
    have eS3 := s3 _ _ eS
    refine ⟨_, rfl, S, _, rfl, .inl (.of eS3), _, rfl, by rw [ivs_length, stpN_len]; omega, by rw [ivs_length, stpN_len]; omega, ?_⟩
    rw [ivs_length, stpN_len]
    refine for_range (lo := 0) (n := N) (fun i σ' H' => But E H3 H' ∧ (∃ ks kvs, EK H' E b p N ks kvs ∧ Cl b p ks ∧ ∀ x, x < i → x ∈ ks) ∧ ∃ y, σ' = [some (.int (k : Int)), some (.int (b : Int)), some (.int (p : Int)), some (.ref W), some (.int (((L : Int) - 1) * (((b - 1) ^ p : Nat) : Int))), some (.ref S), some (.ref E), y]) ⟨But.refl _ _, ⟨[], [], ⟨t3, rfl, List.nodup_nil, (fun n h => nomatch h), (fun n h => nomatch h)⟩, (fun n h => nomatch h), fun x hx => by omega⟩, none, rfl⟩ ?_ ?_
    · rintro i σ' H4 hi ⟨b4, ⟨ks, kvs, ek, cl, all⟩, y, rfl⟩
      refine ⟨_, rfl, _, rfl, _, rfl, E, S, i, b, p, N, ks, kvs, by rw [Int.zero_add]; rfl, ek, cl, b4 _ _ SE eS3, hi, bigN, ok, by omega, fun H5 ks' kvs' b5 ek5 cl5 sub inn => ?_⟩
      refine ⟨b4.trans b5, ⟨ks', kvs', ek5, cl5, fun x hx => ?_⟩, _, rfl⟩
      by_cases c : x = i
      · subst c
        exact inn
      · exact sub x (all x (by omega))
    · rintro σ' H4 ⟨b4, ⟨ks, kvs, ek, cl, all⟩, y, rfl⟩
      refine ⟨_, rfl, S, _, rfl, .inl (.of (b4 _ _ SE eS3)), _, rfl, by rw [ivs_length, stpN_len]; omega, by rw [ivs_length, stpN_len]; omega, fun R hR => ?_⟩
      rw [ivs_length, stpN_len]
      have s04 : Same H H4 := fun x o e => b4 _ _ (ne_of_none e E0) (s3 _ _ (s02 _ _ e))
      refine lc_range (lo := 0) (n := N) (fun i H' => Same H4 H' ∧ ∃ rs, H' R = some (.lst rs) ∧ rs.length = i ∧ EndsL b p H4 rs) ⟨Same.new hR, [], upd_same, rfl, fun i v e => by simp at e⟩ ?_ ?_
      · rintro i H5 hi ⟨s5, rs, e5, l5, en5⟩
        obtain ⟨t, a, m, v1, v2, v3⟩ := ek.val i (all i hi)
        refine ⟨rfl, _, rfl, _, rfl, E, _, rfl, ?_, rs, e5, small_len (by omega), same_own s5 hR, rs ++ [.ref t], upd_same, by rw [List.length_append, l5]; rfl, fun j v e => ?_⟩
        · rw [Int.zero_add]
          exact dget (k := Sum.inl _) (s5 _ _ ek.at') v1
        · by_cases cj : j < rs.length
          · rw [List.getElem?_append_left cj] at e
            exact en5 j v e
          · rw [List.getElem?_append_right (by omega)] at e
            have z : j - rs.length = 0 := by
              have := (List.getElem?_eq_some_iff.mp e).1
              simp at this
              omega
            rw [z] at e
            cases e
            exact ⟨t, a, m, rfl, v2, by rw [show j = i by omega]; exact v3⟩
      · rintro H5 ⟨s5, rs, e5, l5, en5⟩
        refine q H5 R rs (s04.trans s5) (s04.free hR) e5 (fun i v e => ?_) (by rw [l5]; exact bigN) (by omega) (by omega)
        obtain ⟨t, a, m, v1, v2, v3⟩ := en5 i v e
        exact ⟨t, a, m, v1, s5 _ _ v2, v3⟩

/-! ### leasts_to -/
def sp_leasts_to (K : PySem.W.Frag) : Sp := fun vs H Q _ => ∃ k b p : Nat, vs = [.int (k : Int), .int (b : Int), .int (p : Int)] ∧ OkN b p ∧ k ≤ 900000 ∧ ∀ H' R ls, Same H H' → H R = none → H' R = some (.lst (ivs ls)) → LeastsAt b p ls → Big b p ls.length → k < ls.length → ls.length ≤ 1000000 → Q (.ref R) H'
theorem ok_leasts_to (T : Txt K mg) : FnOk P w K mg base CX0 4 T.f_leasts_to T.fd_leasts_to ["most", "base", "power"] (sp_leasts_to K) := by
  refine T.F_leasts_to.ok sc_leasts_to (fun vs H Q E h => ?_) (fun cdv A outer s H vs Q E hr h => ?_)
  · obtain ⟨_, _, _, rfl, _⟩ := h
    rfl
  · obtain ⟨k, b, p, rfl, ok, hk, q⟩ := h
    refine ⟨_, (pss_one (ps_ret (pe_lc (own := [("_", 3), ("least", 4)]) (g := (gTup K 2 (gCons (gName 3) (gCons (gName 4) gNil)))) (tt := tYes) rfl sc_leasts_to.nd (pi_list (pe_call (ok_ends_to T) hr (by rfl) T.g_ends_to T.F_ends_to.kp T.b_ends_to .nil pass0 (pa_cons (pv 0) (pa_cons (pv 1) (pa_cons (pv 2) pa_nil))))) (blkOk_by (own := [("_", 3), ("least", 4)]) (N := ["most", "base", "power", "_", "least"]) (sc := defScope s_leasts_to) (by decide +kernel)) (fun _ _ _ _ _ => (pg_tup rfl (pgs_cons (pg_name (i := 3) sc_leasts_to.nd rfl (Or.inl rfl)) (pgs_cons (pg_name (i := 4) sc_leasts_to.nd rfl (Or.inl rfl)) pgs_nil)))) (fun _ _ _ _ _ => pts_nil) (fun _ _ _ _ _ => (pv 4))))), ?_⟩
    refine ⟨_, rfl, _, rfl, _, rfl, k, b, p, rfl, ok, hk, fun H1 A rs s1 nA eA en big kl l9 => ?_⟩
    refine ⟨A, rfl, ⟨_, .of eA⟩, fun R hR => lc_list (xs := rs) (fun i H' => Same H1 H' ∧ ∃ ls : List Nat, H' R = some (.lst (ivs ls)) ∧ ls.length = i ∧ LeastsAt b p ls) ⟨Same.new hR, [], upd_same, rfl, fun i m e => by simp at e⟩ ?_ ?_ ?_⟩
    · rintro i H' hi ⟨z, _⟩
      exact .of (z _ _ eA)
    · rintro i v H2 hv ⟨s2, ls, e2, l2, at2⟩
      obtain ⟨t, a, m, rfl, et, ev⟩ := en i v hv
      have hi := (List.getElem?_eq_some_iff.mp hv).1
      refine ⟨t, _, rfl, .of (s2 _ _ et), rfl, _, _, rfl, _, _, rfl, rfl, rfl, _, rfl, _, e2, small_len (by rw [ivs_length]; omega), same_own s2 hR, ls ++ [m], ?_, by rw [List.length_append, l2]; rfl, fun j x e => ?_⟩
      · rw [upd_same, ivs_append]
        rfl
      · by_cases cj : j < ls.length
        · rw [List.getElem?_append_left cj] at e
          exact at2 j x e
        · rw [List.getElem?_append_right (by omega)] at e
          have z : j - ls.length = 0 := by
            have := (List.getElem?_eq_some_iff.mp e).1
            simp at this
            omega
          rw [z] at e
          cases e
          exact ⟨a, by rw [show j = i by omega]; exact ev⟩
    · rintro H2 ⟨s2, ls, e2, l2, at2⟩
      exact q H2 R ls (s1.trans s2) (s1.free hR) e2 at2 (by rw [l2]; exact big) (by omega) (by omega)

/-! ### way_of -/
def sp_way_of (K : PySem.W.Frag) : Sp := fun vs H Q _ => ∃ n b p : Nat, vs = [.int (n : Int), .int (b : Int), .int (p : Int)] ∧ OkN b p ∧ n < 2 ^ 200 ∧ ∀ H' t w A L, Same H H' → H t = none → H' t = some (.tup [.ref w, .int ((A : Nat) : Int)]) → H w = none → H' w = some (.lst (ivs (rowN b p n L))) → Way b p n A L → Q (.ref t) H'
def W_way_of (n b p : Nat) (H : Hp) (P : Addr) (m : Nat) (σ' : L2.St) (H' : Hp) : Prop := ∃ L : Nat, m = 15031 - L ∧ σ' = [some (.int ((itN b p n L : Nat) : Int)), some (.int (b : Int)), some (.int (p : Int)), some (.ref P)] ∧ Same H H' ∧ H' P = some (.dK (kvsOf (fun i => ((itN b p n i : Nat) : Int)) (fun i => .int (i : Int)) L)) ∧ ∀ i j, i < L → j < L → itN b p n i = itN b p n j → i = j
theorem ok_way_of (T : Txt K mg) : FnOk P w K mg base CX0 3 T.f_way_of T.fd_way_of ["number", "base", "power"] (sp_way_of K) := by
  refine T.F_way_of.ok sc_way_of (fun vs H Q E h => ?_) (fun cdv A outer s H vs Q E hr h => ?_)
  · obtain ⟨_, _, _, rfl, _⟩ := h
    rfl
  · obtain ⟨n, b, p, rfl, ok, hn, q⟩ := h
    have nr := near_of ok hn
    refine ⟨_, (pss_cons (ps_set (i := 3) sc_way_of.nd rfl (Or.inl rfl) pe_dnewK)
      (pss_cons (ps_while PassesOwn.never (pt_cmp (pc_dnotin (hu_of hr) (pv 0) (pv 3)) rfl) (pss_cons (ps_dput (hu_of hr) (pv 3) (pv 0) (pe_callB (id := "len") call_lenD (by rfl) T.m_len (by decide +kernel) (pa_cons (pv 3) pa_nil)) rfl)
      (pss_one (ps_set (i := 0) sc_way_of.nd rfl (Or.inl rfl) (pe_call (ok_step_of T) hr (by rfl) T.g_step_of T.F_step_of.kp T.b_step_of .nil pass0 (pa_cons (pv 0) (pa_cons (pv 1) (pa_cons (pv 2) pa_nil))))))))
      (pss_one (ps_ret (pe_tup (pa_cons (pe_callTy (T := "list") (call_list_dK rfl) (by rfl) T.m_list (by decide +kernel) (pa_cons (pv 3) pa_nil)) (pa_cons (pe_dget (hu_of hr) (pv 3) (pv 0) (fun _ _ => rfl)) pa_nil))))))), ?_⟩
    refine fun P hP => ?_
    generalize g1 : upd H P _ = H1
    obtain ⟨s1, t1⟩ := new_of g1 hP
    refine ⟨W_way_of n b p H P, ⟨15031, 0, rfl, rfl, s1, t1, fun i j hi => by omega⟩, ?_⟩
    rintro m σ' H2 ⟨L, rfl, rfl, s2, t2, nd⟩
    have lL := nr.rep nd
    by_cases c : ∃ i, i < L ∧ itN b p n i = itN b p n L
    · obtain ⟨A, hA, e⟩ := c
      have v : valV (kvsOf (fun i => ((itN b p n i : Nat) : Int)) (fun i => V.int (i : Int)) L) (Sum.inl ((itN b p n L : Nat) : Int) : Key) = some (.int (A : Int)) := by
        rw [← e]
        exact kvsOf_some (f := fun i => ((itN b p n i : Nat) : Int)) (g := fun i => V.int (i : Int)) (fun i j hi hj z => nd i j hi hj (Int.ofNat.inj z)) hA
      refine ⟨_, rfl, _, rfl, P, some (.int (A : Int)), rfl, dget (k := Sum.inl _) t2 v, false, rfl, iteF ?_⟩
      refine ⟨_, rfl, P, _, rfl, t2, fun w hw => ?_⟩
      rw [kvsOf_keys]
      generalize g3 : upd H2 w _ = H3
      obtain ⟨s3, t3⟩ := new_of g3 hw
      have t3' : H3 w = some (.lst (ivs (rowN b p n L))) := by
        rw [t3, rowN_eq]
        unfold ivs
        rw [List.map_map]
        rfl
      refine ⟨_, rfl, _, rfl, P, _, rfl, dget (k := Sum.inl _) (s3 _ _ t2) v, by show 2 ≤ sizeLine; decide, fun t ht => ?_⟩
      exact q _ t w A L (s2.trans (s3.trans (Same.new ht))) (s2.free (s3.free ht)) upd_same (s2.free hw) (Same.new ht _ _ t3') ⟨hA, e.symm, nd⟩
    · have v : valV (kvsOf (fun i => ((itN b p n i : Nat) : Int)) (fun i => V.int (i : Int)) L) (Sum.inl ((itN b p n L : Nat) : Int) : Key) = none := kvsOf_none fun i hi z => c ⟨i, hi, Int.ofNat.inj z⟩
      refine ⟨_, rfl, _, rfl, P, none, rfl, dget (k := Sum.inl _) t2 v, true, rfl, iteT ⟨Nx (W_way_of n b p H P) (15031 - L), Nx.id, ?_⟩⟩
      refine ⟨_, rfl, P, _, rfl, t2, ?_⟩
      rw [kvsOf_len]
      refine ⟨_, rfl, _, rfl, P, _, rfl, .k (k := Sum.inl _) t2 (small_len (by rw [kvsOf_len]; omega)), ?_⟩
      have z := kvsOf_put (f := fun i => ((itN b p n i : Nat) : Int)) (g := fun i => V.int (i : Int)) (L := L) fun i hi z => c ⟨i, hi, Int.ofNat.inj z⟩
      rw [z]
      have s3 := same_own (o := .dK (kvsOf (fun i => ((itN b p n i : Nat) : Int)) (fun i => V.int (i : Int)) (L + 1))) s2 hP
      refine ⟨_, rfl, _, rfl, _, rfl, itN b p n L, b, p, rfl, ok.hb, ok.hb16, ok.hp, lt200 (itN_lt200 ok hn L), fun H4 s4 => ?_⟩
      refine ⟨15031 - (L + 1), by omega, L + 1, rfl, rfl, s3.trans s4, s4 _ _ upd_same, fun i j hi hj ez => ?_⟩
      by_cases ci : i = L
      · by_cases cj : j = L
        · omega
        · subst ci
          exact absurd ⟨j, by omega, ez.symm⟩ c
      · by_cases cj : j = L
        · subst cj
          exact absurd ⟨i, by omega, ez⟩ c
        · exact nd i j (by omega) (by omega) ez

/-! ### rounds_of -/
def sp_rounds_of (K : PySem.W.Frag) : Sp := fun vs H Q _ => ∃ b p : Nat, vs = [.int (b : Int), .int (p : Int)] ∧ OkN b p ∧ ∀ H' T rs ms ks, Same H H' → H T = none → H' T = some (.tup rs) → RoundsAt b p H' rs ms ks → ms.length ≤ 1000000 → Q (.ref T) H'
theorem way_zero {b p m A L : Nat} (w : Way b p m A L) (h : EndAt b p m 0 m) : A = 0 ∧ Rnd b p m L := by
  obtain ⟨t, t1, t2, t3⟩ := w.least
  have e := w.end_of ⟨t, t1, t2, rfl⟩ t3
  obtain ⟨h1, h2⟩ := e.uniq h
  subst h1
  refine ⟨rfl, w.lt, w.back, w.nd, fun i => h.least i (Nat.zero_le _)⟩
theorem ok_rounds_of (T : Txt K mg) : FnOk P w K mg base CX0 5 T.f_rounds_of T.fd_rounds_of ["base", "power"] (sp_rounds_of K) := by
  refine T.F_rounds_of.ok sc_rounds_of (fun vs H Q E h => ?_) (fun cdv A outer s H vs Q E hr h => ?_)
  · obtain ⟨_, _, rfl, _⟩ := h
    rfl
  · obtain ⟨b, p, rfl, ok, q⟩ := h
    refine ⟨_, (pss_cons (ps_set (i := 2) sc_rounds_of.nd rfl (Or.inl rfl) (pe_call (ok_leasts_to T) hr (by rfl) T.g_leasts_to T.F_leasts_to.kp T.b_leasts_to .nil pass0 (pa_cons pe_int (pa_cons (pv 0) (pa_cons (pv 1) pa_nil)))))
      (pss_cons (ps_setLc (i := 3) (own := [("number", 4), ("least", 5)]) (g := (gTup K 2 (gCons (gName 4) (gCons (gName 5) gNil)))) rfl sc_rounds_of.nd rfl rfl (sw_true rfl rfl rfl (by decide +kernel)) (pi_enum (by rfl) T.m_enumerate (pa_cons (pv 2) pa_nil)) (blkOk_by (own := [("number", 4), ("least", 5)]) (N := ["base", "power", "leasts", "firsts", "number", "least", "first"]) (sc := defScope s_rounds_of) (by decide +kernel)) (fun _ _ _ _ _ => (pg_tup rfl (pgs_cons (pg_name (i := 4) sc_rounds_of.nd rfl (Or.inl rfl)) (pgs_cons (pg_name (i := 5) sc_rounds_of.nd rfl (Or.inl rfl)) pgs_nil)))) (fun _ _ _ _ _ => pts_one (pt_cmpR op_eq (pv 4) (pv 5) (nomark _))) (fun _ _ _ _ _ => (pv 4)))
      (pss_one (ps_ret (pe_callTy (T := "tuple") call_tuple_of (by rfl) T.m_tuple (by decide +kernel) (pa_cons (pe_lc (own := [("first", 6)]) (g := (gName 6)) (tt := tYes) rfl sc_rounds_of.nd (pi_list (pv 3)) (blkOk_by (own := [("first", 6)]) (N := ["base", "power", "leasts", "firsts", "number", "least", "first"]) (sc := defScope s_rounds_of) (by decide +kernel)) (fun _ _ _ _ _ => (pg_name (i := 6) sc_rounds_of.nd rfl (Or.inl rfl))) (fun _ _ _ _ _ => pts_nil) (fun _ _ _ _ _ => (pe_callTy (T := "tuple") (show CallR _ (.type "tuple") (rTupQ K) from call_tuple_of) (by rfl) T.m_tuple (by decide +kernel) (pa_cons (pe_ix (show IxR _ (rIxT K) from ix_tup) (pe_call (ok_way_of T) (hr.mono (by decide)) (by rfl) T.g_way_of T.F_way_of.kp T.b_way_of .nil pass0 (pa_cons (pv 6) (pa_cons (pv 0) (pa_cons (pv 1) pa_nil)))) pe_int (fun _ _ => rfl)) pa_nil)))) pa_nil)))))), ?_⟩
    refine ⟨_, rfl, _, rfl, 0, b, p, rfl, ok, by decide, fun H1 A ls s1 nA eA at1 big kl l9 => ?_⟩
    -- firsts
    refine ⟨_, rfl, A, _, rfl, .of eA, fun F hF => ?_⟩
    have selfAt : ∀ i m, ls[i]? = some m → (i = m ↔ EndAt b p i 0 i) := fun i m e => by
      obtain ⟨a, h⟩ := at1 i m e
      constructor
      · rintro rfl
        exact h.self
      · intro g
        exact (h.uniq g).2.symm
    refine lc_it (walk_enum (xs := ivs ls)) (fun i H' => Same H1 H' ∧ ∃ ms : List Nat, H' F = some (.lst (ivs ms)) ∧ ms.length ≤ i ∧ ms.Pairwise (· < ·) ∧ ∀ m, m ∈ ms ↔ m < i ∧ EndAt b p m 0 m) ⟨Same.new hF, [], upd_same, Nat.le_refl _, List.Pairwise.nil, fun m => ⟨fun h => absurd h (List.not_mem_nil), fun h => by omega⟩⟩ ?_ ?_ ?_
    · rintro i H' hi ⟨z, _⟩
      exact .of (z _ _ eA)
    · rintro i x H2 H3 hi ⟨s2, ms, e2, l2, srt, all⟩ ⟨T, u, v, rfl, hT, rfl, hu, hv⟩
      cases hu
      obtain ⟨m, hm, rfl⟩ := ivs_get hv
      have s3 : Same H2 (upd H2 T (.tup [V.int (i : Nat), V.int (m : Int)])) := Same.new hT
      have sa := selfAt i m hm
      have hi' : i < ls.length := (List.getElem?_eq_some_iff.mp hm).1
      refine ⟨T, _, rfl, .of upd_same, rfl, _, _, rfl, _, _, rfl, rfl, rfl, _, rfl, _, rfl, rfl, _, rfl, ite2 (fun c => ?_) (fun c => ?_)⟩
      · have em : i = m := by
          have := V.int.inj (of_decide_eq_true c)
          omega
        have ea := sa.mp em
        refine ⟨_, rfl, _, s3 _ _ e2, small_len (by rw [ivs_length]; omega), same_own (s2.trans s3) hF, ms ++ [i], ?_, by rw [List.length_append]; show _ + 1 ≤ _; omega, ?_, fun x => ?_⟩
        · rw [upd_same, ivs_append]
          rfl
        · rw [List.pairwise_append]
          exact ⟨srt, List.pairwise_singleton _ _, fun x hx y hy => by
            cases List.mem_singleton.mp hy
            exact ((all x).mp hx).1⟩
        · rw [List.mem_append, List.mem_singleton, all]
          constructor
          · rintro (⟨h1, h2⟩ | rfl)
            · exact ⟨by omega, h2⟩
            · exact ⟨by omega, ea⟩
          · rintro ⟨h1, h2⟩
            by_cases cx : x = i
            · exact .inr cx
            · exact .inl ⟨by omega, h2⟩
      · have em : i ≠ m := fun z => c (decide_eq_true (by rw [z]))
        refine ⟨s2.trans s3, ms, s3 _ _ e2, by omega, srt, fun x => ?_⟩
        rw [all]
        constructor
        · rintro ⟨h1, h2⟩
          exact ⟨by omega, h2⟩
        · rintro ⟨h1, h2⟩
          by_cases cx : x = i
          · subst cx
            exact absurd (sa.mpr h2) em
          · exact ⟨by omega, h2⟩
    rintro H2 ⟨s2, ms, e2, l2, srt, all⟩
    rw [ivs_length] at l2 all
    have allM : ∀ m, m ∈ ms ↔ EndAt b p m 0 m := fun m => by
      rw [all]
      exact ⟨fun h => h.2, fun h => ⟨big.per m h.per, h⟩⟩
    -- the rounds
    refine ⟨_, rfl, F, rfl, ⟨_, .of e2⟩, fun D hD => lc_list (xs := ivs ms) (fun i H' => Same H2 H' ∧ ∃ (vs : List V) (ks : List Nat), H' D = some (.lst vs) ∧ vs.length = i ∧ ks.length = i ∧ ∀ (j : Nat) v m k, vs[j]? = some v → ms[j]? = some m → ks[j]? = some k → ∃ t, v = .ref t ∧ H' t = some (.tup (ivs (rowN b p m k))) ∧ Rnd b p m k) ⟨Same.new hD, [], [], upd_same, rfl, rfl, fun j v m k e => by simp at e⟩ ?_ ?_ ?_⟩
    · rintro i H' hi ⟨z, _⟩
      exact .of (z _ _ e2)
    · rintro i x H3 hx ⟨s3, vs, ks, e3, lv, lk, at3⟩
      obtain ⟨m, hm, rfl⟩ := ivs_get hx
      have hi := (List.getElem?_eq_some_iff.mp hm).1
      have em := (allM m).mp (List.mem_of_getElem? hm)
      have mN := big.per m em.per
      have m9 : m < 2 ^ 200 := Nat.lt_of_lt_of_le (show m < 2 ^ 20 by omega) (Nat.pow_le_pow_right (by decide) (by decide))
      refine ⟨rfl, _, rfl, _, rfl, _, rfl, m, b, p, rfl, ok, m9, fun H4 t w A' L s4 nt et nw ew wy => ?_⟩
      obtain ⟨rfl, rn⟩ := way_zero wy em
      refine ⟨t, _, 0, _, rfl, rfl, .of et, atI_nat (j := 0) rfl, w, _, rfl, .inl ⟨.of ew, fun u hu => ?_⟩⟩
      generalize g5 : upd H4 u _ = H5
      obtain ⟨s5, t5⟩ := new_of g5 hu
      have e5 := s5 _ _ (s4 _ _ e3)
      have nuD : ∀ x xs, H5 x = some (HO.tup xs) → x ≠ D := fun x xs e => ne_of e e5 fun z => by cases z
      refine ⟨vs, e5, small_len (by omega), same_own (s3.trans (s4.trans s5)) hD, vs ++ [.ref u], ks ++ [L], upd_same, by rw [List.length_append, lv]; rfl, by rw [List.length_append, lk]; rfl, fun j v m' k a1 a2 a3 => ?_⟩
      by_cases cj : j < i
      · rw [List.getElem?_append_left (by omega)] at a1 a3
        obtain ⟨t', x1, x2, x3⟩ := at3 j v m' k a1 a2 a3
        have x2' := s5 _ _ (s4 _ _ x2)
        exact ⟨t', x1, by rw [upd_ne (nuD _ _ x2')]; exact x2', x3⟩
      · have jl : j < (vs ++ [V.ref u]).length := (List.getElem?_eq_some_iff.mp a1).1
        rw [List.length_append] at jl
        have ji : j = i := by
          have : [V.ref u].length = 1 := rfl
          omega
        subst ji
        rw [List.getElem?_append_right (by omega), lv, Nat.sub_self] at a1
        rw [List.getElem?_append_right (by omega), lk, Nat.sub_self] at a3
        cases a1
        cases a3
        rw [hm] at a2
        cases a2
        exact ⟨u, rfl, by rw [upd_ne (nuD _ _ t5)]; exact t5, rn⟩
    · rintro H3 ⟨s3, vs, ks, e3, lv, lk, at3⟩
      rw [ivs_length] at lv lk
      refine ⟨D, _, rfl, .inl ⟨.of e3, fun T hT => ?_⟩⟩
      have s03 := s1.trans (s2.trans s3)
      refine q _ T vs ms ks (s03.trans (Same.new hT)) (s03.free hT) upd_same ⟨lv, lk, fun i v m k a1 a2 a3 => ?_, srt, allM⟩ (by omega)
      obtain ⟨t, x1, x2, x3⟩ := at3 i v m k a1 a2 a3
      exact ⟨t, x1, Same.new hT _ _ x2, x3⟩

/-! ### _law_folded -/
def sp__law_folded (K : PySem.W.Frag) : Sp := fun vs H Q _ => ∃ (a : Addr) (ns : List Int), vs = [.ref a] ∧ SqL K H a (ns.map V.int) ∧ ∀ r : Int, Q (.int r) H
theorem ok__law_folded (T : Txt K mg) : FnOk P w K mg base CX0 1 T.f__law_folded T.fd__law_folded ["script"] (sp__law_folded K) := by
  refine T.F__law_folded.ok sc__law_folded (fun vs H Q E h => ?_) (fun cdv A outer s H vs Q E hr h => ?_)
  · obtain ⟨_, _, rfl, _⟩ := h
    rfl
  · obtain ⟨a, ns, rfl, hS, q⟩ := h
    refine ⟨_, (pss_cons (ps_set (i := 1) sc__law_folded.nd rfl (Or.inl rfl) (pe_callB (id := "len") call_len_seq (by rfl) T.m_len (by decide +kernel) (pa_cons (pv 0) pa_nil)))
      (pss_cons (ps_for PassesOwn.never rfl (pi_list (pv 0)) (pg_name (i := 2) sc__law_folded.nd rfl (Or.inl rfl)) (pss_one (ps_set (i := 1) sc__law_folded.nd rfl (Or.inl rfl) (pe_op op_mod (pe_op op_add (pe_op op_mul (pv 1) pe_int) (pe_op op_mod (pv 2) pe_int)) pe_int))))
      (pss_one (ps_ret (pv 1))))), ?_⟩
    refine ⟨_, rfl, a, _, rfl, .inl hS, ?_⟩
    refine ⟨_, rfl, a, rfl, ⟨_, hS⟩, for_list (xs := ns.map V.int) (fun i σ' H' => H' = H ∧ ∃ (r : Int) (y : Option V), σ' = [some (.ref a), some (.int r), y]) ⟨rfl, _, none, rfl⟩ ?_ ?_ ?_⟩
    · rintro i σ' H' hi ⟨rfl, _⟩
      exact hS
    · rintro i x σ' H' hx ⟨rfl, r, y, rfl⟩
      obtain ⟨c, hc, rfl⟩ := int_get hx
      exact ⟨_, rfl, _, _, rfl, rfl, .inr (by decide), _, rfl, _, _, rfl, rfl, by walk_at "p", _, _, rfl, rfl, _, _, rfl, rfl, by walk_at "p", rfl, _, _, rfl⟩
    · rintro σ' H' ⟨rfl, r, y, rfl⟩
      exact ⟨_, rfl, q r⟩

/-! ### _law_seed -/
def sp__law_seed (K : PySem.W.Frag) : Sp := fun vs H Q _ => ∃ x : Int, vs = [.int x] ∧ ∀ H' d, Same H H' → H d = none → Seed H' d → Q (.ref d) H'
theorem ok__law_seed (T : Txt K mg) : FnOk P w K mg base CX0 1 T.f__law_seed T.fd__law_seed ["cell"] (sp__law_seed K) := by
  refine T.F__law_seed.ok sc__law_seed (fun vs H Q E h => ?_) (fun cdv A outer s H vs Q E hr h => ?_)
  · obtain ⟨_, rfl, _⟩ := h
    rfl
  · obtain ⟨x, rfl, q⟩ := h
    refine ⟨_, (pss_cons (ps_set (i := 1) sc__law_seed.nd rfl (Or.inl rfl) (pe_callB (id := "max") (call_max2 rfl) (by rfl) T.m_max (by decide +kernel) (pa_cons (pv 0) (pa_cons (pe_op op_sub pe_int (pv 0)) pa_nil))))
      (pss_one (ps_ret (pe_lst (pa_cons (pv 1) (pa_cons (pe_callTy (T := "int") call_int1 (by rfl) T.m_int (by decide +kernel) (pa_cons (pe_cmpR op_ge (pv 1) (pe_op op_pow pe_int pe_int) (nomark _)) pa_nil)) (pa_cons pe_int (pa_cons (pe_op op_mod (pv 0) pe_int) pa_nil)))))))), ?_⟩
    refine ⟨_, rfl, _, rfl, _, _, rfl, rfl, _, _, rfl, ?_⟩
    refine ⟨_, rfl, _, rfl, 10, 18, rfl, rfl, ⟨by decide, by decide, by decide⟩, _, _, rfl, rfl, .inr ⟨_, rfl, ?_⟩⟩
    refine ⟨_, rfl, _, _, rfl, rfl, by walk_at "p", by show 4 ≤ sizeLine; decide, fun d hd => ?_⟩
    exact q _ d (Same.new hd) hd ⟨_, _, _, _, upd_same⟩

/-! ### _law_draw -/
def sp__law_draw (K : PySem.W.Frag) : Sp := fun vs H Q _ => ∃ (d : Addr) (m : Int), vs = [.ref d, .int m] ∧ Seed H d ∧ 0 < m ∧ m < 2 ^ 900 ∧ ∀ H' (r : Int), But d H H' → Seed H' d → 0 ≤ r → r < m → Q (.int r) H'
theorem ok__law_draw (T : Txt K mg) : FnOk P w K mg base CX0 1 T.f__law_draw T.fd__law_draw ["seed", "most"] (sp__law_draw K) := by
  refine T.F__law_draw.ok sc__law_draw (fun vs H Q E h => ?_) (fun cdv A outer s H vs Q E hr h => ?_)
  · obtain ⟨_, _, rfl, _⟩ := h
    rfl
  · obtain ⟨d, m, rfl, ⟨a, f, t, r, eD⟩, m0, m9, q⟩ := h
    have hw : ∀ x : Int, CDivW x m := fun x => divW 900 m0 m9
    have r0 : ∀ x : Int, 0 ≤ x % m := fun x => Int.emod_nonneg _ (by omega)
    have r1 : ∀ x : Int, x % m < m := fun x => Int.emod_lt_of_pos _ m0
    refine ⟨_, (pss_cons (ps_asg (pe_op op_add (pe_ix ix_list (pv 0) pe_int (fun _ _ => rfl)) pe_int) (pg_sub (pv 0) pe_int set_list))
      (C8.pss_cut (ps_if (PW.pt (pw_and (pt_cmpR op_eq (pe_ix ix_list (pv 0) pe_int (fun _ _ => rfl)) pe_int (nomark _)) (pw_and1 (pt_cmpR op_gt (pe_ix ix_list (pv 0) pe_int (fun _ _ => rfl)) pe_int (nomark _))))) (pss_cons (ps_set (i := 2) sc__law_draw.nd rfl (Or.inl rfl) (pe_op op_mod (pe_ix ix_list (pv 0) pe_int (fun _ _ => rfl)) (pv 1)))
      (pss_cons (ps_asg (pe_op op_fdivW (pe_ix ix_list (pv 0) pe_int (fun _ _ => rfl)) (pv 1)) (pg_sub (pv 0) pe_int set_list))
      (pss_one (ps_ret (pv 2))))) pss_nil)
      (pss_cons (ps_set (i := 3) sc__law_draw.nd rfl (Or.inl rfl) (pe_op op_mod (pe_op op_mul (pe_op op_add (pe_op op_add (pe_ix ix_list (pv 0) pe_int (fun _ _ => rfl)) (pe_op op_mul pe_int (pe_ix ix_list (pv 0) pe_int (fun _ _ => rfl)))) pe_int) pe_int) pe_int))
      (pss_cons (ps_set (i := 3) sc__law_draw.nd rfl (Or.inl rfl) (pe_op op_mod (pe_op op_mul (pe_op op_mod (pe_op op_mul (pv 3) (pv 3)) pe_int) pe_int) pe_int))
      (pss_one (ps_ret (pe_op op_mod (pe_op op_fdivW (pv 3) pe_int) (pv 1)))))))), ?_⟩
    refine ⟨_, rfl, d, _, 2, .int t, rfl, rfl, .of eD, atI_nat (j := 2) rfl, _, _, rfl, rfl, _, rfl, d, _, 2, 2, rfl, rfl, eD, rfl, ?_⟩
    generalize g1 : upd H d _ = H1
    obtain ⟨b1, e1⟩ := set_of g1
    have e1' : H1 d = some (.lst [.int a, .int f, .int (t + 1), .int r]) := e1
    refine ⟨fun σ' H' => H' = H1 ∧ σ' = [some (.ref d), some (.int m), none, none], ?_, ?_⟩
    · refine ⟨_, rfl, d, _, 1, .int f, rfl, rfl, .of e1', atI_nat (j := 1) rfl, rfl, _, rfl, ite2 (fun c => ?_) (fun c => ?_)⟩
      · refine ⟨_, rfl, d, _, 0, .int a, rfl, rfl, .of e1', atI_nat (j := 0) rfl, _, _, rfl, rfl, _, rfl, ite2 (fun c2 => ?_) (fun c2 => ?_)⟩
        · refine ⟨_, rfl, d, _, 0, .int a, rfl, rfl, .of e1', atI_nat (j := 0) rfl, _, rfl, _, _, rfl, rfl, m0, ?_⟩
          refine ⟨_, rfl, d, _, 0, .int a, rfl, rfl, .of e1', atI_nat (j := 0) rfl, _, rfl, _, _, rfl, rfl, hw _, _, rfl, d, _, 0, 0, rfl, rfl, e1', rfl, ?_⟩
          refine ⟨_, rfl, q _ _ (b1.trans But.set) ⟨_, _, _, _, upd_same⟩ (r0 _) (r1 _)⟩
        · exact ⟨rfl, rfl⟩
      · exact ⟨rfl, rfl⟩
    · rintro σ' H' ⟨rfl, rfl⟩
      refine ⟨_, rfl, d, _, 3, .int r, rfl, rfl, .of e1', atI_nat (j := 3) rfl, _, rfl, d, _, 2, .int (t + 1), rfl, rfl, .of e1', atI_nat (j := 2) rfl, _, _, rfl, rfl, .inl (by decide), _, _, rfl, rfl, _, _, rfl, rfl, _, _, rfl, rfl, .inr (by decide), _, _, rfl, rfl, by walk_at "p", ?_⟩
      have b := Int.emod_lt_of_pos ((r + 6997 * (t + 1) + 11) * 48271) (b := 2147483647) (by decide)
      have b' := Int.emod_nonneg ((r + 6997 * (t + 1) + 11) * 48271) (b := 2147483647) (by decide)
      generalize (r + 6997 * (t + 1) + 11) * 48271 % 2147483647 = n1 at b b'
      refine ⟨_, rfl, _, rfl, _, _, rfl, rfl, .inl (by omega), _, _, rfl, rfl, by walk_at "p", _, _, rfl, rfl, .inr (by decide), _, _, rfl, rfl, by walk_at "p", ?_⟩
      refine ⟨_, rfl, _, _, rfl, rfl, ⟨by decide, by decide +kernel⟩, _, rfl, _, _, rfl, rfl, m0, q _ _ b1 ⟨_, _, _, _, e1'⟩ (r0 _) (r1 _)⟩

/-! ### _law_power -/
def sp__law_power (K : PySem.W.Frag) : Sp := fun vs H Q _ => ∃ f p : Int, vs = [.int f, .int p] ∧ 0 ≤ p ∧ p < 2 ^ 62 ∧ -(2 ^ 64) < f ∧ f < 2 ^ 64 ∧ Q (.int (f ^ p.toNat)) H
theorem ok__law_power (T : Txt K mg) : FnOk P w K mg base CX0 1 T.f__law_power T.fd__law_power ["number", "often"] (sp__law_power K) := by
  refine T.F__law_power.ok sc__law_power (fun vs H Q E h => ?_) (fun cdv A outer s H vs Q E hr h => ?_)
  · obtain ⟨_, _, rfl, _⟩ := h
    rfl
  · obtain ⟨f, p, rfl, h0, h1, h2, h3, q⟩ := h
    refine ⟨_, (pss_cons (ps_set (i := 2) sc__law_power.nd rfl (Or.inl rfl) pe_int)
      (pss_cons (ps_for PassesOwn.never rfl (pi_range1 (by rfl) T.m_range (pa_cons (pv 1) pa_nil)) (pg_name (i := 3) sc__law_power.nd rfl (Or.inl rfl)) (pss_one (ps_set (i := 2) sc__law_power.nd rfl (Or.inl rfl) (pe_op op_mul (pv 2) (pv 0)))))
      (pss_one (ps_ret (pv 2))))), ?_⟩
    refine ⟨_, rfl, _, rfl, by omega, by omega, for_range (lo := 0) (n := p.toNat) (fun i σ' H' => H' = H ∧ ∃ y, σ' = [some (.int f), some (.int p), some (.int (f ^ i)), y]) ⟨rfl, none, by rw [Int.pow_zero]; rfl⟩ ?_ ?_⟩
    · rintro i σ' H' hi ⟨rfl, y, rfl⟩
      refine ⟨_, rfl, _, rfl, _, _, rfl, rfl, .inr ⟨h2, h3⟩, rfl, some (.int (0 + i)), ?_⟩
      rw [Int.pow_succ]
      rfl
    · rintro σ' H' ⟨rfl, y, rfl⟩
      exact ⟨_, rfl, q⟩

/-! ### _law_worths -/
def sp__law_worths (K : PySem.W.Frag) : Sp := fun vs H Q _ => ∃ b p : Nat, vs = [.int (b : Int), .int (p : Int)] ∧ b ≤ 16 ∧ p ≤ 10 ∧ ∀ H' t w, Same H H' → H t = none → H w = none → H' t = some (.tup [.int (b : Int), .int (p : Int), .ref w]) → H' w = some (.lst (ivs (wts b p))) → Q (.ref t) H'
theorem ok__law_worths (T : Txt K mg) : FnOk P w K mg base CX0 2 T.f__law_worths T.fd__law_worths ["base", "often"] (sp__law_worths K) := by
  refine T.F__law_worths.ok sc__law_worths (fun vs H Q E h => ?_) (fun cdv A outer s H vs Q E hr h => ?_)
  · obtain ⟨_, _, rfl, _⟩ := h
    rfl
  · obtain ⟨b, p, rfl, hb, hp, q⟩ := h
    refine ⟨_, (pss_one (ps_ret (pe_tup (pa_cons (pv 0) (pa_cons (pv 1) (pa_cons (pe_lc (own := [("figure", 2)]) (g := (gName 2)) (tt := tYes) rfl sc__law_worths.nd (pi_range1 (by rfl) T.m_range (pa_cons (pv 0) pa_nil)) (blkOk_by (own := [("figure", 2)]) (N := ["base", "often", "figure"]) (sc := defScope s__law_worths) (by decide +kernel)) (fun _ _ _ _ _ => (pg_name (i := 2) sc__law_worths.nd rfl (Or.inl rfl))) (fun _ _ _ _ _ => pts_nil) (fun _ _ _ _ _ => (pe_call (ok__law_power T) hr (by rfl) T.g__law_power T.F__law_power.kp T.b__law_power .nil pass0 (pa_cons (pv 2) (pa_cons (pv 1) pa_nil))))) pa_nil)))))), ?_⟩
    refine ⟨_, rfl, _, rfl, _, rfl, _, rfl, by omega, by omega, fun D hD => lc_range (lo := 0) (n := b) (fun i H' => Same H H' ∧ H' D = some (.lst (ivs ((wts b p).take i)))) ⟨Same.new hD, upd_same⟩ ?_ ?_⟩
    · rintro i H' hi ⟨s2, e2⟩
      refine ⟨rfl, _, rfl, _, rfl, ((0 + i : Nat) : Int), (p : Int), by rw [Int.natCast_add]; rfl, by omega, by omega, by omega, by omega, ?_⟩
      refine ⟨_, e2, small_len (by rw [ivs_length, List.length_take, wts_len]; omega), same_own s2 hD, ?_⟩
      rw [upd_same, List.take_add_one, wts_get hi, ivs_append, Nat.zero_add]
      show some (HO.lst (_ ++ [V.int ((i : Int) ^ p)])) = some (HO.lst (_ ++ [V.int ((i ^ p : Nat) : Int)]))
      rw [Int.natCast_pow]
    · rintro H' ⟨s2, e2⟩
      rw [List.take_of_length_le (by rw [wts_len]; exact Nat.le_refl _)] at e2
      refine ⟨by show 3 ≤ sizeLine; decide, fun t ht => ?_⟩
      exact q _ t D (s2.trans (Same.new ht)) (s2.free ht) hD upd_same (Same.new ht _ _ e2)

/-! ### _law_pair -/
def sp__law_pair (K : PySem.W.Frag) : Sp := fun vs H Q _ => ∃ d : Addr, vs = [.ref d] ∧ Seed H d ∧ ∀ H' t b p, But d H H' → Seed H' d → H t = none → PairW H' d t b p → Q (.ref t) H'
theorem ok__law_pair (T : Txt K mg) : FnOk P w K mg base CX0 3 T.f__law_pair T.fd__law_pair ["seed"] (sp__law_pair K) := by
  refine T.F__law_pair.ok sc__law_pair (fun vs H Q E h => ?_) (fun cdv A outer s H vs Q E hr h => ?_)
  · obtain ⟨_, rfl, _⟩ := h
    rfl
  · obtain ⟨d, rfl, hS, q⟩ := h
    refine ⟨_, (pss_cons (ps_set (i := 1) sc__law_pair.nd rfl (Or.inr rfl) (pe_ix ix_list (pe_lst (pa_cons (pe_op op_add pe_int (pe_call (ok__law_draw T) (hr.mono (by decide)) (by rfl) T.g__law_draw T.F__law_draw.kp T.b__law_draw .nil pass0 (pa_cons (pv 0) (pa_cons pe_int pa_nil)))) (pa_cons pe_int (pa_cons (pe_op op_add pe_int (pe_call (ok__law_draw T) (hr.mono (by decide)) (by rfl) T.g__law_draw T.F__law_draw.kp T.b__law_draw .nil pass0 (pa_cons (pv 0) (pa_cons pe_int pa_nil)))) (pa_cons pe_int pa_nil))))) (pe_call (ok__law_draw T) (hr.mono (by decide)) (by rfl) T.g__law_draw T.F__law_draw.kp T.b__law_draw .nil pass0 (pa_cons (pv 0) (pa_cons pe_int pa_nil))) (fun _ _ => rfl)))
      (pss_cons (ps_setLc (i := 2) (own := [("often", 3)]) (g := (gName 3)) rfl sc__law_pair.nd rfl rfl (sw_true rfl rfl rfl (by decide +kernel)) (pi_range2 (by rfl) T.m_range (pa_cons pe_int (pa_cons pe_int pa_nil))) (blkOk_by (own := [("often", 3)]) (N := ["seed", "base", "powers", "often"]) (sc := defScope s__law_pair) (by decide +kernel)) (fun _ _ _ _ _ => (pg_name (i := 3) sc__law_pair.nd rfl (Or.inl rfl))) (fun _ _ _ _ _ => pts_one (pt_cmpR op_le (pe_call (ok__law_power T) (hr.mono (by decide)) (by rfl) T.g__law_power T.F__law_power.kp T.b__law_power .nil pass0 (pa_cons (pe_op op_sub (pv 1) pe_int) (pa_cons (pv 3) pa_nil))) pe_int (nomark _))) (fun _ _ _ _ _ => (pv 3)))
      (pss_cons (ps_set (i := 3) sc__law_pair.nd rfl (Or.inl rfl) (pe_ix ix_list (pe_lst (pa_cons (pe_ix ix_list (pv 2) (pe_call (ok__law_draw T) (hr.mono (by decide)) (by rfl) T.g__law_draw T.F__law_draw.kp T.b__law_draw .nil pass0 (pa_cons (pv 0) (pa_cons (pe_callB (id := "len") call_len_seq (by rfl) T.m_len (by decide +kernel) (pa_cons (pv 2) pa_nil)) pa_nil))) (fun _ _ => rfl)) (pa_cons (pe_ix ix_list (pv 2) (pe_un un_neg pe_int) (fun _ _ => rfl)) pa_nil))) (pe_call (ok__law_draw T) (hr.mono (by decide)) (by rfl) T.g__law_draw T.F__law_draw.kp T.b__law_draw .nil pass0 (pa_cons (pv 0) (pa_cons pe_int pa_nil))) (fun _ _ => rfl)))
      (pss_one (ps_ret (pe_call (ok__law_worths T) hr (by rfl) T.g__law_worths T.F__law_worths.kp T.b__law_worths .nil pass0 (pa_cons (pv 1) (pa_cons (pv 3) pa_nil)))))))), ?_⟩
    -- base
    refine ⟨_, rfl, d, 15, rfl, hS, by decide, by decide, fun H1 r1 b1 S1 u1 v1 => ⟨_, _, rfl, rfl, ?_⟩⟩
    refine ⟨_, rfl, d, 5, rfl, S1, by decide, by decide, fun H2 r2 b2 S2 u2 v2 => ⟨_, _, rfl, rfl, by show 4 ≤ sizeLine; decide, fun l hl => ?_⟩⟩
    generalize g3 : upd H2 l _ = H3
    obtain ⟨s3, t3⟩ := new_of g3 hl
    have S3 := S2.same s3
    have nl := S2.out hl
    refine ⟨_, rfl, d, 4, rfl, S3, by decide, by decide, fun H4 r4 b4 S4 u4 v4 => ?_⟩
    have b04 : But d H H4 := b1.trans (b2.trans ((But.of s3).trans b4))
    have t4 := b4 _ _ nl t3
    obtain ⟨b, hb, hb16, eb⟩ : ∃ b : Nat, 2 ≤ b ∧ b ≤ 16 ∧ atI [V.int (2 + r1), V.int 10, V.int (2 + r2), V.int 16] r4 = some (V.int (b : Int)) := by
      have c4 : r4 = 0 ∨ r4 = 1 ∨ r4 = 2 ∨ r4 = 3 := by omega
      rcases c4 with rfl | rfl | rfl | rfl
      · exact ⟨(2 + r1).toNat, by omega, by omega, by rw [show (((2 + r1).toNat : Nat) : Int) = 2 + r1 by omega]; rfl⟩
      · exact ⟨10, by omega, by omega, rfl⟩
      · exact ⟨(2 + r2).toNat, by omega, by omega, by rw [show (((2 + r2).toNat : Nat) : Int) = 2 + r2 by omega]; rfl⟩
      · exact ⟨16, by omega, by omega, rfl⟩
    refine ⟨l, _, _, _, rfl, rfl, .of t4, eb, ?_⟩
    -- powers
    have mp := mostN_pos hb hb16
    refine ⟨1, 11, rfl, by decide, fun D hD => lc_range (lo := 1) (n := 10) (fun i H' => Same H4 H' ∧ H' D = some (.lst (ivs (upTo (min i (mostN b)))))) ⟨Same.new hD, upd_same⟩ ?_ ?_⟩
    · rintro i H5 hi ⟨s5, e5⟩
      have e1 : ((1 : Int) + (i : Int)).toNat = i + 1 := by omega
      have mi := most_iff hb hb16 (k := i + 1) (by omega) (by omega)
      refine ⟨rfl, _, rfl, _, _, rfl, rfl, _, rfl, (b : Int) - 1, 1 + (i : Int), rfl, by omega, by omega, by omega, by omega, ?_⟩
      rw [e1, show (b : Int) - 1 = ((b - 1 : Nat) : Int) by omega, ← Int.natCast_pow]
      refine ⟨_, _, rfl, rfl, _, rfl, ?_⟩
      by_cases c : i + 1 ≤ mostN b
      · have c2 := mi.mpr c
        rw [decide_eq_true (by omega)]
        refine iteT ⟨_, rfl, _, e5, small_len (by rw [ivs_length, upTo_len]; omega), same_own s5 hD, ?_⟩
        rw [upd_same, show min i (mostN b) = i by omega, show min (i + 1) (mostN b) = i + 1 by omega, upTo_succ, ivs_append]
        show some (HO.lst (_ ++ [V.int (1 + (i : Int))])) = some (HO.lst (_ ++ [V.int ((i + 1 : Nat) : Int)]))
        rw [show (1 : Int) + (i : Int) = ((i + 1 : Nat) : Int) by omega]
      · have c2 : ¬ (b - 1) ^ (i + 1) ≤ 1000 := fun z => c (mi.mp z)
        rw [decide_eq_false (by omega)]
        refine iteF ⟨s5, ?_⟩
        rw [show min (i + 1) (mostN b) = min i (mostN b) by omega]
        exact e5
    rintro H5 ⟨s5, e5⟩
    rw [show min 10 (mostN b) = mostN b by omega] at e5
    have S5 := S4.same s5
    have nD := S4.out hD
    -- often
    refine ⟨_, rfl, _, rfl, _, rfl, D, _, rfl, .inl (.of e5), d, _, rfl, S5, by rw [ivs_length, upTo_len]; omega, by rw [ivs_length, upTo_len]; omega, fun H6 r6 b6 S6 u6 v6 => ?_⟩
    rw [ivs_length, upTo_len] at v6
    have e6 := b6 _ _ nD e5
    obtain ⟨k6, rfl⟩ : ∃ k : Nat, r6 = (k : Int) := ⟨r6.toNat, by omega⟩
    have k6l : k6 < mostN b := by omega
    refine ⟨D, _, _, _, rfl, rfl, .of e6, atI_nat (ivs_at (upTo_get k6l)), ?_⟩
    have el : ivs (upTo (mostN b)) = ivs (upTo (mostN b - 1)) ++ [V.int ((mostN b : Nat) : Int)] := by
      have := upTo_succ (mostN b - 1)
      rw [show mostN b - 1 + 1 = mostN b by omega] at this
      rw [this, ivs_append]
      rfl
    have e6' := e6
    rw [el] at e6'
    refine ⟨_, rfl, 1, rfl, D, _, -1, _, rfl, rfl, .of e6', atI_last _ _, by show 2 ≤ sizeLine; decide, fun l2 hl2 => ?_⟩
    generalize g7 : upd H6 l2 _ = H7
    obtain ⟨s7, t7⟩ := new_of g7 hl2
    have S7 := S6.same s7
    have nl2 := S6.out hl2
    refine ⟨_, rfl, d, 2, rfl, S7, by decide, by decide, fun H8 r8 b8 S8 u8 v8 => ?_⟩
    have t8 := b8 _ _ nl2 t7
    obtain ⟨p, hp1, hp2, ep⟩ : ∃ p : Nat, 1 ≤ p ∧ p ≤ mostN b ∧ atI [V.int ((k6 + 1 : Nat) : Int), V.int ((mostN b : Nat) : Int)] r8 = some (V.int (p : Int)) := by
      have c2 : r8 = 0 ∨ r8 = 1 := by omega
      rcases c2 with rfl | rfl
      · exact ⟨k6 + 1, by omega, by omega, rfl⟩
      · exact ⟨mostN b, by omega, by omega, rfl⟩
    refine ⟨l2, _, _, _, rfl, rfl, .of t8, ep, ?_⟩
    have b08 : But d H H8 := b04.trans ((But.of s5).trans (b6.trans ((But.of s7).trans b8)))
    refine ⟨_, rfl, _, rfl, b, p, rfl, hb16, by omega, fun H9 t w s9 nt nw et ew => ?_⟩
    have S9 := S8.same s9
    exact q H9 t b p (b08.trans (.of s9)) S9 (b08.fresh S8.there nt) ⟨w, et, ew, S8.out nw, S8.out nt, okN_of hb hb16 hp1 hp2⟩

/-! ### _law_step -/
def sp__law_step (K : PySem.W.Frag) : Sp := fun vs H Q _ => ∃ (n b p : Nat) (d t : Addr), vs = [.int (n : Int), .ref t] ∧ PairW H d t b p ∧ Q (.int ((stepN b p n : Nat) : Int)) H
def W__law_step (n b p : Nat) (t : Addr) (H : Hp) (m : Nat) (σ' : L2.St) (H' : Hp) : Prop := ∃ f : Nat, H' = H ∧ σ' = [some (.int (m : Int)), some (.ref t), some (.int (f : Int))] ∧ f + stepN b p m = stepN b p n
theorem ok__law_step (T : Txt K mg) : FnOk P w K mg base CX0 1 T.f__law_step T.fd__law_step ["number", "pair"] (sp__law_step K) := by
  refine T.F__law_step.ok sc__law_step (fun vs H Q E h => ?_) (fun cdv A outer s H vs Q E hr h => ?_)
  · obtain ⟨_, _, _, _, _, rfl, _⟩ := h
    rfl
  · obtain ⟨n, b, p, d, t, rfl, ⟨w, et, ew, nw, nt, ok⟩, q⟩ := h
    have hb := ok.hb
    have hb16 := ok.hb16
    refine ⟨_, (pss_cons (ps_set (i := 2) sc__law_step.nd rfl (Or.inl rfl) pe_int)
      (pss_cons (ps_while PassesOwn.never (pt_cmpR op_gt (pv 0) pe_int (nomark _)) (pss_cons (ps_set (i := 2) sc__law_step.nd rfl (Or.inl rfl) (pe_op op_add (pv 2) (pe_ix ix_list (pe_ix ix_tup (pv 1) pe_int (fun _ _ => rfl)) (pe_op op_mod (pv 0) (pe_ix ix_tup (pv 1) pe_int (fun _ _ => rfl))) (fun _ _ => rfl))))
      (pss_one (ps_set (i := 0) sc__law_step.nd rfl (Or.inl rfl) (pe_op op_fdivW (pv 0) (pe_ix ix_tup (pv 1) pe_int (fun _ _ => rfl)))))))
      (pss_one (ps_ret (pv 2))))), ?_⟩
    refine ⟨W__law_step n b p t H, ⟨n, 0, rfl, rfl, Nat.zero_add _⟩, ?_⟩
    rintro m σ' H' ⟨f, rfl, rfl, e⟩
    refine ⟨_, rfl, _, _, rfl, rfl, _, rfl, ?_⟩
    by_cases c : 0 < m
    · rw [decide_eq_true (by omega)]
      refine iteT ⟨Nx (W__law_step n b p t H') m, Nx.id, ?_⟩
      have mb : m % b < b := Nat.mod_lt _ (by omega)
      refine ⟨_, rfl, _, rfl, t, _, 2, _, rfl, rfl, .of et, atI_nat (j := 2) rfl, _, rfl, _, rfl, t, _, 0, _, rfl, rfl, .of et, atI_nat (j := 0) rfl, _, _, rfl, rfl, by walk_at "p", ?_⟩
      have at1 : atI (ivs (wts b p)) ((m : Int) % (b : Int)) = some (.int (((m % b) ^ p : Nat) : Int)) := by
        rw [← Int.natCast_emod]
        exact atI_nat (ivs_at (wts_get mb))
      refine ⟨w, _, _, _, rfl, rfl, .of ew, at1, _, _, rfl, rfl, ?_⟩
      refine ⟨_, rfl, _, rfl, t, _, 0, _, rfl, rfl, .of et, atI_nat (j := 0) rfl, _, _, rfl, rfl, divW 60 (by omega) (by omega), ?_⟩
      refine ⟨m / b, Nat.div_lt_self c (by omega), f + (m % b) ^ p, rfl, by rw [Int.natCast_ediv, Int.natCast_add]; rfl, ?_⟩
      rw [stepN_rec hb ok.hp1 m] at e
      omega
    · rw [decide_eq_false (by omega)]
      have m0 : m = 0 := by omega
      subst m0
      rw [stepN_zero hb ok.hp1] at e
      refine iteF ⟨_, rfl, ?_⟩
      rw [show f = stepN b p n by omega]
      exact q

/-! ### _law_most -/
def sp__law_most (K : PySem.W.Frag) : Sp := fun vs H Q _ => ∃ (d t : Addr) (b p : Nat), vs = [.ref t] ∧ PairW H d t b p ∧ ∀ L : Nat, IsLen (b : Int) (Fx.worth (b : Int) (p : Int)) L → L ≤ 15 → Q (.int ((L * (b - 1) ^ p : Nat) : Int)) H
def W__law_most (b p : Nat) (t : Addr) (H : Hp) (m : Nat) (σ' : L2.St) (H' : Hp) : Prop := ∃ L : Nat, m = 15 - L ∧ H' = H ∧ σ' = [some (.ref t), some (.int (L : Int))] ∧ 2 ≤ L ∧ L ≤ 15 ∧ ∀ k : Nat, 2 ≤ k → k < L → (b : Int) ^ (k - 1) ≤ (k : Int) * Fx.worth (b : Int) (p : Int)
theorem ok__law_most (T : Txt K mg) : FnOk P w K mg base CX0 2 T.f__law_most T.fd__law_most ["pair"] (sp__law_most K) := by
  refine T.F__law_most.ok sc__law_most (fun vs H Q E h => ?_) (fun cdv A outer s H vs Q E hr h => ?_)
  · obtain ⟨_, _, _, _, rfl, _⟩ := h
    rfl
  · obtain ⟨d, t, b, p, rfl, ⟨w, et, ew, nw, nt, ok⟩, q⟩ := h
    refine ⟨_, (pss_cons (ps_set (i := 1) sc__law_most.nd rfl (Or.inl rfl) pe_int)
      (pss_cons (ps_while PassesOwn.never (pt_cmpR op_ge (pe_op op_mul (pv 1) (pe_ix ix_list (pe_ix ix_tup (pv 0) pe_int (fun _ _ => rfl)) (pe_un un_neg pe_int) (fun _ _ => rfl))) (pe_call (ok__law_power T) hr (by rfl) T.g__law_power T.F__law_power.kp T.b__law_power .nil pass0 (pa_cons (pe_ix ix_tup (pv 0) pe_int (fun _ _ => rfl)) (pa_cons (pe_op op_sub (pv 1) pe_int) pa_nil))) (nomark _)) (pss_one (ps_set (i := 1) sc__law_most.nd rfl (Or.inl rfl) (pe_op op_add (pv 1) pe_int))))
      (pss_one (ps_ret (pe_op op_mul (pv 1) (pe_ix ix_list (pe_ix ix_tup (pv 0) pe_int (fun _ _ => rfl)) (pe_un un_neg pe_int) (fun _ _ => rfl))))))), ?_⟩
    have wl := ok.worth
    have hb := ok.hb
    obtain ⟨L0, hL0, l015⟩ := len_ex ok.ok.1 (show Fx.worth (b : Int) (p : Int) ≤ 1024 by have := ok.ok.worth; omega)
    have wn : Fx.worth (b : Int) (p : Int) = (((b - 1) ^ p : Nat) : Int) := worth_nat b p (by omega)
    have lastW : atI (ivs (wts b p)) (-1) = some (.int (((b - 1) ^ p : Nat) : Int)) := by
      rw [ivs_map]
      exact at_last (by rw [List.length_map, wts_len, List.getElem?_map, wts_get (show b - 1 < b by omega)]; rfl)
    refine ⟨W__law_most b p t H, ⟨13, 2, rfl, rfl, rfl, by omega, by omega, fun k h1 h2 => by omega⟩, ?_⟩
    rintro m σ' H' ⟨L, rfl, rfl, rfl, l2, l15, least⟩
    have ew' : ((L : Int) - 1).toNat = L - 1 := by omega
    refine ⟨_, rfl, _, rfl, t, _, 2, _, rfl, rfl, .of et, atI_nat (j := 2) rfl, 1, rfl, w, _, -1, _, rfl, rfl, .of ew, lastW, _, _, rfl, rfl, .inr ⟨by omega, by omega⟩, ?_⟩
    refine ⟨_, rfl, t, _, 0, _, rfl, rfl, .of et, atI_nat (j := 0) rfl, _, rfl, _, _, rfl, rfl, (b : Int), (L : Int) - 1, rfl, by omega, by omega, by omega, by have := ok.hb16; omega, _, _, rfl, rfl, ?_⟩
    rw [ew']
    by_cases c : (b : Int) ^ (L - 1) ≤ (L : Int) * Fx.worth (b : Int) (p : Int)
    · have L14 : L < L0 := by
        refine Nat.lt_of_not_le fun z => ?_
        have h1 := hL0.less
        rcases Nat.lt_or_eq_of_le z with h2 | h2
        · have := least L0 hL0.two h2
          omega
        · subst h2
          omega
      rw [wn] at c
      refine ⟨true, congrArg V.bl (decide_eq_true c), iteT ⟨Nx (W__law_most b p t H') (15 - L), Nx.id, ?_⟩⟩
      refine ⟨_, rfl, _, _, rfl, rfl, 15 - (L + 1), by omega, L + 1, rfl, rfl, rfl, by omega, by omega, fun k h1 h2 => ?_⟩
      rcases Nat.lt_or_eq_of_le (Nat.le_of_lt_succ h2) with h3 | h3
      · exact least k h1 h3
      · subst h3
        rw [wn]
        exact c
    · have hL : IsLen (b : Int) (Fx.worth (b : Int) (p : Int)) L := ⟨l2, by omega, least⟩
      rw [wn] at c
      refine ⟨false, congrArg V.bl (decide_eq_false c), iteF ?_⟩
      refine ⟨_, rfl, _, rfl, t, _, 2, _, rfl, rfl, .of et, atI_nat (j := 2) rfl, 1, rfl, w, _, -1, _, rfl, rfl, .of ew, lastW, _, _, rfl, rfl, .inr ⟨by omega, by omega⟩, ?_⟩
      have z := q L hL l15
      rw [Int.natCast_mul] at z
      exact z

/-! ### _law_rounds -/
structure MetAt (H : Hp) (M : Addr) (N : Nat) (v : Nat → Nat) (ks : List Nat) (kvs : List (Key × V)) : Prop where
  at' : H M = some (.dK kvs)
  len : kvs.length = ks.length
  nd : ks.Nodup
  lt : ∀ n ∈ ks, n < N
  val : ∀ n, n ∈ ks → valV kvs (Sum.inl ((n : Nat) : Int) : Key) = some (.int ((v n : Nat) : Int))
  no : ∀ n, n ∉ ks → valV kvs (Sum.inl ((n : Nat) : Int) : Key) = none
theorem MetAt.keep {H H' : Hp} {M : Addr} {N : Nat} {v : Nat → Nat} {ks : List Nat} {kvs : List (Key × V)} (h : MetAt H M N v ks kvs) (e : H' M = some (.dK kvs)) : MetAt H' M N v ks kvs := ⟨e, h.len, h.nd, h.lt, h.val, h.no⟩
theorem MetAt.same {H : Hp} {M : Addr} {N : Nat} {v v' : Nat → Nat} {ks : List Nat} {kvs : List (Key × V)} (h : MetAt H M N v ks kvs) (e : ∀ n ∈ ks, v' n = v n) : MetAt H M N v' ks kvs := ⟨h.at', h.len, h.nd, h.lt, fun n hn => by rw [e n hn]; exact h.val n hn, h.no⟩
theorem MetAt.put {H : Hp} {M : Addr} {N : Nat} {v : Nat → Nat} {ks : List Nat} {kvs : List (Key × V)} {n : Nat} (h : MetAt H M N v ks kvs) (hn : n ∉ ks) (lt : n < N) :
    MetAt (upd H M (.dK (putK kvs (Sum.inl ((n : Nat) : Int)) (.int ((v n : Nat) : Int))))) M N v (ks ++ [n]) (putK kvs (Sum.inl ((n : Nat) : Int)) (.int ((v n : Nat) : Int))) := by
  refine ⟨upd_same, ?_, nd_snoc h.nd hn, fun x hx => ?_, fun x hx => ?_, fun x hx => ?_⟩
  · rw [putK_new _ (h.no n hn), List.length_append, List.length_append, h.len]
    rfl
  · rcases List.mem_append.mp hx with c | c
    · exact h.lt x c
    · cases List.mem_singleton.mp c
      exact lt
  · rcases List.mem_append.mp hx with c | c
    · rw [valV_put, if_neg]
      · exact h.val x c
      · intro z
        have : x = n := by
          have := Sum.inl.inj z
          omega
        exact hn (this ▸ c)
    · cases List.mem_singleton.mp c
      rw [valV_put, if_pos rfl]
  · rw [valV_put, if_neg]
    · exact h.no x fun z => hx (List.mem_append_left _ z)
    · intro z
      have : x = n := by
        have := Sum.inl.inj z
        omega
      exact hx (List.mem_append_right _ (List.mem_singleton.mpr this))
structure FoundAt (b p : Nat) (H : Hp) (F : Addr) (fs : List V) (ms : List Nat) : Prop where
  at' : H F = some (.lst fs)
  len : fs.length = ms.length
  nd : ms.Nodup
  row : ∀ (i : Nat) x m, fs[i]? = some x → ms[i]? = some m → ∃ t k, x = .ref t ∧ H t = some (.tup (ivs (rowN b p m k))) ∧ Rnd b p m k
theorem FoundAt.keep {b p : Nat} {H H' : Hp} {F : Addr} {fs : List V} {ms : List Nat} (h : FoundAt b p H F fs ms) (e : H' F = some (.lst fs)) (k : ∀ x xs, H x = some (HO.tup xs) → H' x = some (HO.tup xs)) : FoundAt b p H' F fs ms :=
  ⟨e, h.len, h.nd, fun i x m a1 a2 => by
    obtain ⟨t, l, x1, x2, x3⟩ := h.row i x m a1 a2
    exact ⟨t, l, x1, k _ _ x2, x3⟩⟩
theorem FoundAt.push {b p : Nat} {H : Hp} {F t : Addr} {fs : List V} {ms : List Nat} {m k : Nat} (h : FoundAt b p H F fs ms) (et : H t = some (.tup (ivs (rowN b p m k)))) (rn : Rnd b p m k) (hm : m ∉ ms) : FoundAt b p (upd H F (.lst (fs ++ [.ref t]))) F (fs ++ [.ref t]) (ms ++ [m]) := by
  have off : ∀ x xs, H x = some (HO.tup xs) → (upd H F (.lst (fs ++ [.ref t]))) x = some (HO.tup xs) := fun x xs e => by
    rw [upd_ne (ne_of e h.at' fun z => by cases z)]
    exact e
  have l := h.len
  refine ⟨upd_same, by rw [List.length_append, List.length_append, l]; rfl, nd_snoc h.nd hm, fun i x m' a1 a2 => ?_⟩
  by_cases c : i < ms.length
  · rw [List.getElem?_append_left (by omega)] at a1 a2
    obtain ⟨t', k', x1, x2, x3⟩ := h.row i x m' a1 a2
    exact ⟨t', k', x1, off _ _ x2, x3⟩
  · rw [List.getElem?_append_right (by omega)] at a1 a2
    rw [l] at a1
    have ii := (List.getElem?_eq_some_iff.mp a2).1
    have i0 : i - ms.length = 0 := by
      have : [m].length = 1 := rfl
      omega
    rw [i0] at a1 a2
    cases a1
    cases a2
    exact ⟨t, k, rfl, off _ _ et, rn⟩
def intOf : V → Int
  | .int i => i
  | _ => 0
def rowI (H : Hp) : V → List Int
  | .ref a => match H a with
    | some (.tup xs) => xs.map intOf
    | _ => []
  | _ => []
theorem rowI_at {H : Hp} {t : Addr} {l : List Nat} (e : H t = some (.tup (ivs l))) : rowI H (.ref t) = l.map fun (k : Nat) => (k : Int) := by
  unfold rowI
  simp only
  rw [e]
  show (ivs l).map intOf = _
  unfold ivs
  rw [List.map_map]
  rfl
theorem rowN_head (b p m : Nat) : ∀ k, 0 < k → ∃ r, (rowN b p m k).map (fun (k : Nat) => (k : Int)) = (m : Int) :: r := fun k hk => by
  rw [rowN_eq]
  obtain ⟨j, rfl⟩ : ∃ j, k = j + 1 := ⟨k - 1, by omega⟩
  rw [List.range_succ_eq_map, List.map_cons, List.map_cons]
  exact ⟨_, rfl⟩
/-- found rows, sorted, are the rounds by their least numbers -/
theorem found_rounds {b p : Nat} {H H' : Hp} {F : Addr} {fs ys : List V} {ms : List Nat} (h : FoundAt b p H F fs ms) (all : ∀ m, m ∈ ms ↔ EndAt b p m 0 m) (pm : ys.Perm fs) (srt : (ys.map (rowI H)).Pairwise fun u v => lexI v u = false) (keep : ∀ x xs, H x = some (HO.tup xs) → H' x = some (HO.tup xs)) : ∃ ms' ks', RoundsAt b p H' ys ms' ks' := by
  have each : ∀ y ∈ ys, ∃ t m k, y = .ref t ∧ m ∈ ms ∧ H t = some (.tup (ivs (rowN b p m k))) ∧ Rnd b p m k := fun y hy => by
    obtain ⟨i, hi⟩ := List.mem_iff_getElem?.mp (pm.mem_iff.mp hy)
    have il := (List.getElem?_eq_some_iff.mp hi).1
    have l := h.len
    have em : ms[i]? = some (ms[i]'(by omega)) := List.getElem?_eq_getElem _
    obtain ⟨t, k, x1, x2, x3⟩ := h.row i y _ hi em
    exact ⟨t, _, k, x1, List.mem_of_getElem? em, x2, x3⟩
  have hd : ∀ {t m k : Nat}, H t = some (.tup (ivs (rowN b p m k))) → Rnd b p m k → ((rowI H (.ref t)).headD 0).toNat = m ∧ (rowI H (.ref t)).length = k := fun {t m k} e rn => by
    rw [rowI_at e]
    obtain ⟨r, er⟩ := rowN_head b p m k rn.pos
    refine ⟨?_, by rw [List.length_map, rowN_len]⟩
    rw [er]
    rfl
  have hms : fs.map (fun y => ((rowI H y).headD 0).toNat) = ms := by
    refine List.ext_getElem? fun i => ?_
    rw [List.getElem?_map]
    cases e : fs[i]? with
    | none =>
      have := List.getElem?_eq_none_iff.mp e
      have l := h.len
      exact (List.getElem?_eq_none_iff.mpr (by omega)).symm
    | some y =>
      have il := (List.getElem?_eq_some_iff.mp e).1
      have l := h.len
      have em : ms[i]? = some (ms[i]'(by omega)) := List.getElem?_eq_getElem _
      obtain ⟨t, k, rfl, x2, x3⟩ := h.row i y _ e em
      rw [em]
      exact congrArg some (hd x2 x3).1
  have pm' : (ys.map fun y => ((rowI H y).headD 0).toNat).Perm ms := by
    rw [← hms]
    exact pm.map _
  refine ⟨ys.map fun y => ((rowI H y).headD 0).toNat, ys.map fun y => (rowI H y).length, by rw [List.length_map], by rw [List.length_map, List.length_map], fun i y m k a1 a2 a3 => ?_, ?_, fun m => ?_⟩
  · rw [List.getElem?_map, a1] at a2 a3
    obtain ⟨t, m', k', rfl, _, x2, x3⟩ := each y (List.mem_of_getElem? a1)
    obtain ⟨z1, z2⟩ := hd x2 x3
    have e2 : ((rowI H (.ref t)).headD 0).toNat = m := Option.some.inj a2
    have e3 : (rowI H (.ref t)).length = k := Option.some.inj a3
    rw [z1] at e2
    rw [z2] at e3
    subst e2 e3
    exact ⟨t, rfl, keep _ _ x2, x3⟩
  · have nd : (ys.map fun y => ((rowI H y).headD 0).toNat).Nodup := pm'.nodup_iff.mpr h.nd
    have nd' := List.pairwise_map.mp nd
    have srt' := List.pairwise_map.mp srt
    rw [List.pairwise_map]
    refine List.Pairwise.imp_of_mem ?_ (nd'.and srt')
    rintro u v hu hv ⟨n1, n2⟩
    obtain ⟨t1, m1, k1, rfl, _, x1, r1⟩ := each u hu
    obtain ⟨t2, m2, k2, rfl, _, x2, r2⟩ := each v hv
    rw [(hd x1 r1).1, (hd x2 r2).1] at n1 ⊢
    rw [rowI_at x1, rowI_at x2] at n2
    obtain ⟨q1, e1⟩ := rowN_head b p m1 k1 r1.pos
    obtain ⟨q2, e2⟩ := rowN_head b p m2 k2 r2.pos
    rw [e1, e2] at n2
    unfold lexI at n2
    rw [if_neg (fun z => n1 (by omega))] at n2
    have := of_decide_eq_false n2
    omega
  · rw [pm'.mem_iff]
    exact all m
theorem FoundAt.dp {K : PySem.W.Frag} {b p : Nat} {H : Hp} : ∀ {fs : List V} {ms : List Nat}, fs.length = ms.length → (∀ (i : Nat) x m, fs[i]? = some x → ms[i]? = some m → ∃ t k, x = V.ref t ∧ H t = some (.tup (ivs (rowN b p m k))) ∧ Rnd b p m k) → ∃ ds, DpAll K H fs ds ∧ PyData.canLayAll0 ds = true ∧ PyData.depthAll ds ≤ 2 ∧ ∀ z ∈ ds, ∃ m k, m ∈ ms ∧ 0 < k ∧ z = .tuple (dInts ((rowN b p m k).map fun (k : Nat) => (k : Int)))
  | [], ms, l, h => ⟨[], .nil, rfl, by unfold PyData.depthAll; decide, fun z hz => nomatch hz⟩
  | x :: fs, [], l, h => nomatch l
  | x :: fs, m :: ms, l, h => by
    obtain ⟨t, k, rfl, e, rn⟩ := h 0 x m rfl rfl
    obtain ⟨ds, d1, d2, d3, d4⟩ := FoundAt.dp (K := K) (fs := fs) (ms := ms) (Nat.succ.inj l) fun i => h (i + 1)
    refine ⟨.tuple (dInts ((rowN b p m k).map fun (k : Nat) => (k : Int))) :: ds, .cons (.tup (.of e) (dpAll_ivs _)) d1, ?_, ?_, fun z hz => ?_⟩
    · rw [PyData.canLayAll0, d2, PyData.canLay0, canLay_ints]
      rfl
    · have := depth_ints ((rowN b p m k).map fun (k : Nat) => (k : Int))
      unfold PyData.depthAll PyData.depth
      omega
    · rcases List.mem_cons.mp hz with rfl | hz
      · exact ⟨m, k, List.mem_cons_self .., rn.pos, rfl⟩
      · obtain ⟨m', k', h1, h2, h3⟩ := d4 z hz
        exact ⟨m', k', List.mem_cons_of_mem _ h1, h2, h3⟩
def sp__law_rounds (K : PySem.W.Frag) : Sp := fun vs H Q _ => ∃ (d t : Addr) (b p : Nat), vs = [.ref t] ∧ PairW H d t b p ∧ ∀ H' T rs ms ks, Same H H' → H T = none → H' T = some (.tup rs) → RoundsAt b p H' rs ms ks → Q (.ref T) H'
def W1__law_rounds (b p N i : Nat) (v : Nat → Nat) (ks : List Nat) (fs : List V) (ms : List Nat) (t M F : Addr) (y5 y6 : Option V) (H : Hp) (m : Nat) (σ' : L2.St) (H' : Hp) : Prop := ∃ (L : Nat) (kvs : List (Key × V)), m = N + 1 - L ∧ σ' = [some (.ref t), some (.ref M), some (.ref F), some (.int ((itN b p i L : Nat) : Int)), some (.int (i : Int)), y5, y6] ∧ Same H H' ∧ MetAt H' M N (fun x => if x ∈ ks then v x else i) (ks ++ rowN b p i L) kvs ∧ FoundAt b p H' F fs ms
def W2__law_rounds (b p x k : Nat) (i : Nat) (t M F R : Addr) (y6 : Option V) (H : Hp) (m : Nat) (σ' : L2.St) (H' : Hp) : Prop := ∃ j : Nat, m = k - j ∧ j < k ∧ σ' = [some (.ref t), some (.ref M), some (.ref F), some (.int (x : Int)), some (.int (i : Int)), some (.ref R), y6] ∧ Same H H' ∧ H' R = some (.lst (ivs (rowN b p x (j + 1))))
def I__law_rounds (b p N : Nat) (t M F : Addr) (H : Hp) (i : Nat) (σ' : L2.St) (H' : Hp) : Prop := (∃ y3 y4 y5 y6 : Option V, σ' = [some (.ref t), some (.ref M), some (.ref F), y3, y4, y5, y6]) ∧ Same H H' ∧ ∃ (v : Nat → Nat) (ks : List Nat) (kvs : List (Key × V)) (fs : List V) (ms : List Nat), MetAt H' M N v ks kvs ∧ (∀ x ∈ ks, v x < i) ∧ Cl b p ks ∧ (∀ j, j < i → j ∈ ks) ∧ FoundAt b p H' F fs ms ∧ ∀ m, m ∈ ms ↔ (m ∈ ks ∧ EndAt b p m 0 m)
theorem ok__law_rounds (T : Txt K mg) : FnOk P w K mg base CX0 3 T.f__law_rounds T.fd__law_rounds ["pair"] (sp__law_rounds K) := by
  refine T.F__law_rounds.ok sc__law_rounds (fun vs H Q E h => ?_) (fun cdv A outer s H vs Q E hr h => ?_)
  · obtain ⟨_, _, _, _, rfl, _⟩ := h
    rfl
  · obtain ⟨d, t, b, p, rfl, hP, q⟩ := h
    have ok := hP.ok
    have hb := ok.hb
    have wl := ok.worth
    obtain ⟨L0, hL0, l15⟩ := len_ex ok.ok.1 (show Fx.worth (b : Int) (p : Int) ≤ 1024 by have := ok.ok.worth; omega)
    have two := hL0.two
    refine ⟨_, (pss_cons (ps_set (i := 1) sc__law_rounds.nd rfl (Or.inl rfl) pe_dnewK)
      (pss_cons (ps_set (i := 2) sc__law_rounds.nd rfl (Or.inl rfl) (pe_lst pa_nil))
      (pss_cons (ps_for PassesOwn.never rfl (pi_range1 (by rfl) T.m_range (pa_cons (pe_op op_add (pe_call (ok__law_most T) hr (by rfl) T.g__law_most T.F__law_most.kp T.b__law_most .nil pass0 (pa_cons (pv 0) pa_nil)) pe_int) pa_nil)) (pg_name (i := 3) sc__law_rounds.nd rfl (Or.inl rfl)) (pss_cons (ps_set (i := 4) sc__law_rounds.nd rfl (Or.inl rfl) (pv 3))
      (pss_cons (ps_while PassesOwn.never (pt_cmp (pc_dnotin (hu_of hr) (pv 3) (pv 1)) rfl) (pss_cons (ps_dput (hu_of hr) (pv 1) (pv 3) (pv 4) rfl)
      (pss_one (ps_set (i := 3) sc__law_rounds.nd rfl (Or.inl rfl) (pe_call (ok__law_step T) (hr.mono (by decide)) (by rfl) T.g__law_step T.F__law_step.kp T.b__law_step .nil pass0 (pa_cons (pv 3) (pa_cons (pv 0) pa_nil)))))))
      (pss_one (ps_if (pt_cmpR op_eq (pe_dget (hu_of hr) (pv 1) (pv 3) (fun _ _ => rfl)) (pv 4) (nomark _)) (pss_cons (ps_set (i := 5) sc__law_rounds.nd rfl (Or.inl rfl) (pe_lst (pa_cons (pv 3) pa_nil)))
      (pss_cons (ps_while PassesOwn.never (pt_cmpR op_ne (pe_call (ok__law_step T) (hr.mono (by decide)) (by rfl) T.g__law_step T.F__law_step.kp T.b__law_step .nil pass0 (pa_cons (pe_ix ix_list (pv 5) (pe_un un_neg pe_int) (fun _ _ => rfl)) (pa_cons (pv 0) pa_nil))) (pv 3) (nomark _)) (pss_one (ps_expr (pe_bm PySem.F.plainAttrs_list PySem.F.slot_list_append PySem.F.type_list_append mt_append (pv 5) (pa_cons (pe_call (ok__law_step T) (hr.mono (by decide)) (by rfl) T.g__law_step T.F__law_step.kp T.b__law_step .nil pass0 (pa_cons (pe_ix ix_list (pv 5) (pe_un un_neg pe_int) (fun _ _ => rfl)) (pa_cons (pv 0) pa_nil))) pa_nil)))))
      (pss_cons (ps_set (i := 6) sc__law_rounds.nd rfl (Or.inl rfl) (pe_bm PySem.F.plainAttrs_list PySem.F.slot_list_index PySem.F.type_list_index mt_index (pv 5) (pa_cons (pe_callB (id := "min") (cr_min rfl) (by rfl) T.m_min (by decide +kernel) (pa_cons (pv 5) pa_nil)) pa_nil)))
      (pss_one (ps_if (pt_cmpR (op_notInD (hu65 hr)) (pe_callTy (T := "tuple") call_tuple_of (by rfl) T.m_tuple (by decide +kernel) (pa_cons (pe_op op_cat (pe_slice sl_list (pv 5) (po_some (pv 6)) po_none) (pe_slice sl_list (pv 5) po_none (po_some (pv 6)))) pa_nil)) (pv 2) rfl) (pss_one (ps_expr (pe_bm PySem.F.plainAttrs_list PySem.F.slot_list_append PySem.F.type_list_append mt_append (pv 2) (pa_cons (pe_callTy (T := "tuple") call_tuple_of (by rfl) T.m_tuple (by decide +kernel) (pa_cons (pe_op op_cat (pe_slice sl_list (pv 5) (po_some (pv 6)) po_none) (pe_slice sl_list (pv 5) po_none (po_some (pv 6)))) pa_nil)) pa_nil)))) pss_nil))))) pss_nil)))))
      (pss_one (ps_ret (pe_callTy (T := "tuple") call_tuple_of (by rfl) T.m_tuple (by decide +kernel) (pa_cons (pe_callB (id := "sorted") cr_sortedR (by rfl) T.m_sorted (by decide +kernel) (pa_cons (pv 2) pa_nil)) pa_nil))))))), ?_⟩
    refine fun M hM => ?_
    generalize g1 : upd H M _ = H1
    obtain ⟨s1, t1⟩ := new_of g1 hM
    refine ⟨Nat.zero_le _, fun F hF => ?_⟩
    generalize g2 : upd H1 F _ = H2
    obtain ⟨s2, t2⟩ := new_of g2 hF
    have FM : M ≠ F := ne_of_none t1 hF
    have F0 : H F = none := s1.free hF
    refine ⟨_, rfl, d, t, b, p, rfl, hP.same (s1.trans s2), fun L hL _ => ⟨_, _, rfl, rfl, ?_⟩⟩
    obtain rfl := hL.uniq hL0
    have big : Big b p (L * (b - 1) ^ p + 1) := big_of hb hL (by
      have := Nat.mul_le_mul_right ((b - 1) ^ p) (show L - 1 ≤ L by omega)
      omega)
    have N9 : L * (b - 1) ^ p + 1 ≤ 15361 := by
      have := Nat.mul_le_mul l15 wl.2
      omega
    refine ⟨((L * (b - 1) ^ p + 1 : Nat) : Int), rfl, by omega, by omega, ?_⟩
    generalize L * (b - 1) ^ p + 1 = N at big N9
    refine for_range (lo := 0) (n := N) (I__law_rounds b p N t M F H) ⟨⟨none, none, none, none, rfl⟩, s1.trans s2, fun _ => 0, [], [], [], [], ⟨s2 _ _ t1, rfl, List.nodup_nil, (fun n h => nomatch h), (fun n h => nomatch h), fun n _ => rfl⟩, (fun x h => nomatch h), (fun x h => nomatch h), fun j h => absurd h (Nat.not_lt_zero _), ⟨t2, rfl, List.nodup_nil, fun i x m e => by simp at e⟩, fun m => ⟨fun h => (nomatch h), fun h => (nomatch h.1)⟩⟩ ?_ ?_
    · rintro i σ' H3 hi ⟨⟨y3, y4, y5, y6, rfl⟩, s3, v, ks, kvs, fs, ms, met, vlt, cl, below, fd, all⟩
      have inN : ∀ j, itN b p i j < N := fun j => by
        induction j with
        | zero => exact hi
        | succ j ih => exact big.closed _ ih
      refine ⟨_, rfl, W1__law_rounds b p N i v ks fs ms t M F y5 y6 H, ⟨N + 1, 0, kvs, rfl, by rw [Int.zero_add]; rfl, s3, ?_, fd⟩, ?_⟩
      · rw [show rowN b p i 0 = [] from rfl, List.append_nil]
        exact met.same fun n hn => if_pos hn
      rintro m σ' H4 ⟨L', kvs', rfl, rfl, s4, met4, fd4⟩
      have nd := met4.nd
      have ndr : ∀ a c, a < c → c < L' → itN b p i a ≠ itN b p i c := fun a c h1 h2 e => by
        obtain ⟨z1, e1⟩ := List.getElem?_eq_some_iff.mp (rowN_get b p i L' a (by omega))
        obtain ⟨z2, e2⟩ := List.getElem?_eq_some_iff.mp (rowN_get b p i L' c h2)
        have := List.pairwise_iff_getElem.mp (List.nodup_append.mp nd).2.1 a c z1 z2 h1
        rw [e1, e2] at this
        exact this e
      have inj : ∀ a c, a < L' → c < L' → itN b p i a = itN b p i c → a = c := fun a c h1 h2 e => by
        rcases Nat.lt_trichotomy a c with z | z | z
        · exact absurd e (ndr a c z h2)
        · exact z
        · exact absurd e.symm (ndr c a z h1)
      have dis : ∀ x ∈ ks, x ∉ rowN b p i L' := fun x h1 h2 => (List.nodup_append.mp nd).2.2 x h1 x h2 rfl
      have LN : ks.length + L' ≤ N := by
        have := nodup_len N _ nd met4.lt
        rwa [List.length_append, rowN_len] at this
      have kl : kvs'.length ≤ N := by
        rw [met4.len, List.length_append, rowN_len]
        exact LN
      by_cases c : itN b p i L' ∈ ks ++ rowN b p i L'
      · have vlt' : ∀ x ∈ ks ++ rowN b p i L', (if x ∈ ks then v x else i) < i + 1 := fun x hx => by
          by_cases z : x ∈ ks
          · rw [if_pos z]
            have := vlt x z
            omega
          · rw [if_neg z]
            omega
        have cl' : Cl b p (ks ++ rowN b p i L') := fun x hx => by
          rcases List.mem_append.mp hx with h | h
          · exact List.mem_append_left _ (cl x h)
          · obtain ⟨j, hj, rfl⟩ := mem_rowN.mp h
            by_cases z : j + 1 = L'
            · subst z
              exact c
            · exact List.mem_append_right _ (mem_rowN.mpr ⟨j + 1, by omega, rfl⟩)
        have below' : ∀ j, j < i + 1 → j ∈ ks ++ rowN b p i L' := fun j hj => by
          by_cases z : j = i
          · subst z
            by_cases y : L' = 0
            · subst y
              exact c
            · exact List.mem_append_right _ (mem_rowN.mpr ⟨0, by omega, rfl⟩)
          · exact List.mem_append_left _ (below j (by omega))
        refine ⟨_, rfl, _, rfl, M, _, rfl, dget (k := Sum.inl _) met4.at' (met4.val _ c), false, rfl, iteF ?_⟩
        refine ⟨_, rfl, _, rfl, M, _, rfl, dget (k := Sum.inl _) met4.at' (met4.val _ c), _, rfl, rfl, ?_⟩
        by_cases ck : itN b p i L' ∈ ks
        · rw [if_pos ck]
          refine ⟨false, congrArg V.bl (decide_eq_false fun z => ?_), iteF ?_⟩
          · have := V.int.inj z
            have := vlt _ ck
            omega
          refine ⟨⟨_, _, _, _, rfl⟩, s4, _, _, _, _, _, met4, vlt', cl', below', fd4, fun m => ?_⟩
          rw [all]
          constructor
          · rintro ⟨h1, h2⟩
            exact ⟨List.mem_append_left _ h1, h2⟩
          · rintro ⟨h1, h2⟩
            refine ⟨?_, h2⟩
            rcases List.mem_append.mp h1 with h | h
            · exact h
            · obtain ⟨j, hj, rfl⟩ := mem_rowN.mp h
              have hp : Per b p (itN b p i j) := h2.per
              obtain ⟨s', hs⟩ := hp.back (L' - j)
              have z := cl.it ck s'
              have e1 : itN b p i L' = itN b p (itN b p i j) (L' - j) := by rw [← itN_add, show j + (L' - j) = L' by omega]
              rw [e1, hs] at z
              exact z
        · rw [if_neg ck]
          refine ⟨true, congrArg V.bl (decide_eq_true rfl), iteT ?_⟩
          have cr : itN b p i L' ∈ rowN b p i L' := (List.mem_append.mp c).elim (fun h => absurd h ck) id
          obtain ⟨A, hA, eA⟩ := mem_rowN.mp cr
          have P4 := hP.same s4
          generalize hx : itN b p i L' = x at ck eA c cr ⊢
          have k0 : 0 < L' - A := by omega
          have wx : Way b p x 0 (L' - A) := by
            refine ⟨k0, ?_, fun a c h1 h2 e => ?_⟩
            · rw [← eA, ← itN_add, show A + (L' - A) = L' by omega, hx, eA]
              rfl
            · rw [← eA, ← itN_add, ← itN_add] at e
              have := inj _ _ (by omega) (by omega) e
              omega
          have xN : x < N := hx ▸ inN L'
          generalize L' - A = k at k0 wx
          have kN : k ≤ N := by
            have := nodup_len N ((List.range k).map fun j => itN b p x j) ?_ ?_
            · rwa [List.length_map, List.length_range] at this
            · refine List.pairwise_map.mpr (List.Pairwise.imp_of_mem ?_ (List.nodup_range (n := k)))
              intro a c ha hc ne e
              exact ne (wx.nd a c (List.mem_range.mp ha) (List.mem_range.mp hc) e)
            · intro y hy
              obtain ⟨j, _, rfl⟩ := List.mem_map.mp hy
              rw [← hx, ← itN_add]
              exact inN _
          refine ⟨_, rfl, by show 1 ≤ sizeLine; decide, fun R hR => ?_⟩
          generalize g5 : upd H4 R _ = H5
          obtain ⟨s5, t5⟩ := new_of g5 hR
          refine ⟨W2__law_rounds b p x k i t M F R y6 H4, ⟨k, 0, rfl, k0, rfl, s5, t5⟩, ?_⟩
          rintro m σ' H6 ⟨j, rfl, hj, rfl, s6, eR⟩
          have lastR : atI (ivs (rowN b p x (j + 1))) (-1) = some (.int ((itN b p x j : Nat) : Int)) := by
            rw [ivs_map]
            exact at_last (by rw [List.length_map, rowN_len, List.getElem?_map, rowN_get b p x (j + 1) (j + 1 - 1) (by omega)]; rfl)
          refine ⟨_, rfl, 1, rfl, R, _, -1, _, rfl, rfl, .of eR, lastR, _, rfl, itN b p x j, b, p, d, t, rfl, P4.same s6, _, rfl, rfl, ?_⟩
          rw [show stepN b p (itN b p x j) = itN b p x (j + 1) from rfl]
          by_cases cj : j + 1 = k
          · -- the round stands
            have ej : itN b p x (j + 1) = x := by
              rw [cj]
              exact wx.back
            rw [ej]
            refine ⟨false, by rw [decide_eq_true rfl]; rfl, iteF ?_⟩
            rw [cj] at eR
            have gA : ∀ i, i < k → (rowN b p x k)[i]? = some (itN b p x i) := fun i hi => rowN_get b p x k i hi
            have eR' := eR
            rw [ivs_map] at eR'
            refine ⟨_, rfl, .inl ⟨rfl, _, .of eR⟩, _, rfl, R, _, rfl, .of eR', by rw [List.length_map, rowN_len]; exact k0, fun m h1 h2 => ?_⟩
            obtain ⟨m', hm', rfl⟩ := List.mem_map.mp h1
            obtain ⟨o, ho, rfl⟩ := mem_rowN.mp hm'
            have lem : ∀ y, 0 ≤ y → y < k → itN b p x o ≤ itN b p x y := fun y _ y2 => by
              have := h2 ((itN b p x y : Nat) : Int) (List.mem_map.mpr ⟨_, mem_rowN.mpr ⟨y, y2, rfl⟩, rfl⟩)
              omega
            refine ⟨R, _, _, o, _, rfl, rfl, .of eR, rfl, flat_ivs _, ivs_at (gA o ho), by rw [eqV_int]; exact decide_eq_true rfl, fun i' z hi' hz => ?_, ?_⟩
            · rw [ivs_at (gA i' (by omega))] at hz
              cases hz
              rw [eqV_int, decide_eq_false]
              intro ez
              have := wx.nd i' o (by omega) ho ez
              omega
            have rn := wx.rnd (Nat.zero_le o) ho lem
            rw [Nat.sub_zero] at rn
            have rot := wx.rot (Nat.zero_le o) ho
            rw [List.drop_zero, Nat.sub_zero, Nat.sub_zero] at rot
            have perx : Per b p x := ⟨k, k0, wx.back⟩
            obtain ⟨s', hs⟩ := perx.back o
            have endx : EndAt b p x 0 (itN b p x o) := by
              have := rn.at0.round s'
              rwa [hs] at this
            have mno : itN b p x o ∉ ms := fun z => by
              have z1 := cl.it ((all _).mp z).1 s'
              rw [hs] at z1
              exact ck z1
            -- its tuple
            refine ⟨_, rfl, _, rfl, _, rfl, R, _, rfl, .of eR, fun D2 hD2 => ?_⟩
            rw [cut_ivs_from]
            generalize g7 : upd H6 D2 _ = H7
            obtain ⟨s7, t7⟩ := new_of g7 hD2
            refine ⟨_, rfl, _, rfl, _, rfl, R, _, rfl, .of (s7 _ _ eR), fun D3 hD3 => ?_⟩
            rw [cut_ivs_to]
            generalize g8 : upd H7 D3 _ = H8
            obtain ⟨s8, t8⟩ := new_of g8 hD3
            refine ⟨D2, D3, _, _, rfl, rfl, s8 _ _ t7, t8, ?_, fun D4 hD4 => ?_⟩
            · rw [ivs_length, ivs_length, List.length_drop, List.length_take, rowN_len]
              exact Nat.le_of_lt (small_len (by omega))
            rw [← ivs_append, rot]
            generalize g9 : upd H8 D4 _ = H9
            obtain ⟨s9, t9⟩ := new_of g9 hD4
            refine ⟨D4, _, rfl, .inl ⟨.of t9, fun D5 hD5 => ?_⟩⟩
            generalize ga : upd H9 D5 _ = Ha
            obtain ⟨sa, ta⟩ := new_of ga hD5
            have s6a := s7.trans (s8.trans (s9.trans sa))
            have s4a := s6.trans s6a
            have fda := fd4.keep (H' := Ha) (s4a _ _ fd4.at') fun x xs e => s4a _ _ e
            obtain ⟨ds, d1, d2, d3, d4⟩ := FoundAt.dp fda.len fda.row
            refine ⟨_, rfl, _, _, .tup (.of ta) (dpAll_ivs _), .lst (.of fda.at') d1, shaped_tints _, shaped_list d2 (Nat.le_trans d3 (by decide)), true, ?_, iteT ?_⟩
            · rw [List.any_eq_false.mpr fun z hz => ?_]
              · rfl
              obtain ⟨m', k', h1', h2', rfl⟩ := d4 z hz
              rw [eqv_tints, decide_eq_false fun e => ?_]
              · exact Bool.false_ne_true
              obtain ⟨r1, e1⟩ := rowN_head b p m' k' h2'
              obtain ⟨r2, e2⟩ := rowN_head b p (itN b p x o) k k0
              rw [e1, e2] at e
              have := (List.cons.inj e).1
              have : m' = itN b p x o := by omega
              exact mno (this ▸ h1')
            have eRa := s6a _ _ eR
            refine ⟨_, rfl, .inl ⟨rfl, _, .of fda.at'⟩, ?_⟩
            refine ⟨_, rfl, _, rfl, _, rfl, R, _, rfl, .of eRa, fun D2 hD2 => ?_⟩
            rw [cut_ivs_from]
            generalize gb : upd Ha D2 _ = Hb
            obtain ⟨sb, tb⟩ := new_of gb hD2
            refine ⟨_, rfl, _, rfl, _, rfl, R, _, rfl, .of (sb _ _ eRa), fun D3 hD3 => ?_⟩
            rw [cut_ivs_to]
            generalize gc : upd Hb D3 _ = Hc
            obtain ⟨sc, tc⟩ := new_of gc hD3
            refine ⟨D2, D3, _, _, rfl, rfl, sc _ _ tb, tc, ?_, fun D4 hD4 => ?_⟩
            · rw [ivs_length, ivs_length, List.length_drop, List.length_take, rowN_len]
              exact Nat.le_of_lt (small_len (by omega))
            rw [← ivs_append, rot]
            generalize gd : upd Hc D4 _ = Hd
            obtain ⟨sd, td⟩ := new_of gd hD4
            refine ⟨D4, _, rfl, .inl ⟨.of td, fun D6 hD6 => ?_⟩⟩
            generalize ge : upd Hd D6 _ = He
            obtain ⟨se, te⟩ := new_of ge hD6
            have sae := sb.trans (sc.trans (sd.trans se))
            have fde := fda.keep (H' := He) (sae _ _ fda.at') fun x xs e => sae _ _ e
            have fl : fs.length ≤ N := by
              rw [fde.len]
              exact nodup_len N ms fde.nd fun y hy => met.lt y ((all y).mp hy).1
            refine ⟨F, _, _, rfl, rfl, fde.at', small_len (by omega), ?_⟩
            have s4e := s4a.trans sae
            refine ⟨⟨_, _, _, _, rfl⟩, same_own (s4.trans s4e) F0, _, _, _, _, _, met4.keep ?_, vlt', cl', below', fde.push te rn mno, fun m => ?_⟩
            · rw [upd_ne FM]
              exact s4e _ _ met4.at'
            · rw [List.mem_append, List.mem_singleton, all]
              constructor
              · rintro (⟨h1, h2⟩ | rfl)
                · exact ⟨List.mem_append_left _ h1, h2⟩
                · exact ⟨cl'.it c o, rn.at0⟩
              · rintro ⟨h1, h2⟩
                rcases List.mem_append.mp h1 with h | h
                · exact .inl ⟨h, h2⟩
                · obtain ⟨y, hy, rfl⟩ := mem_rowN.mp h
                  have e1 : itN b p (itN b p i y) (L' - y) = x := by rw [← itN_add, show y + (L' - y) = L' by omega, hx]
                  have e2 := h2.round (L' - y)
                  rw [e1] at e2
                  exact .inr (e2.uniq endx).2
          · have nx : itN b p x (j + 1) ≠ x := fun z => by
              have := wx.nd (j + 1) 0 (by omega) k0 z
              omega
            refine ⟨true, by rw [decide_eq_false (show ¬ (V.int ((itN b p x (j + 1) : Nat) : Int) = V.int (x : Int)) from fun z => nx (by have := V.int.inj z; omega))]; rfl, iteT ⟨Nx (W2__law_rounds b p x k i t M F R y6 H4) (k - j), Nx.id, ?_⟩⟩
            refine ⟨_, rfl, .inl ⟨rfl, _, .of eR⟩, _, rfl, 1, rfl, R, _, -1, _, rfl, rfl, .of eR, lastR, _, rfl, itN b p x j, b, p, d, t, rfl, P4.same s6, R, _, _, rfl, rfl, eR, small_len (by rw [ivs_length, rowN_len]; omega), k - (j + 1), by omega, j + 1, rfl, by omega, rfl, same_own s6 hR, ?_⟩
            rw [upd_same, show rowN b p x (j + 1 + 1) = rowN b p x (j + 1) ++ [itN b p x (j + 1)] from rfl, ivs_append]
            rfl
      · have cs : itN b p i L' ∉ ks := fun h => c (List.mem_append_left _ h)
        refine ⟨_, rfl, _, rfl, M, _, rfl, dget (k := Sum.inl _) met4.at' (met4.no _ c), true, rfl, iteT ⟨Nx (W1__law_rounds b p N i v ks fs ms t M F y5 y6 H) (N + 1 - L'), Nx.id, ?_⟩⟩
        have pt := met4.put c (inN L')
        rw [if_neg cs] at pt
        refine ⟨_, rfl, _, rfl, _, rfl, M, _, rfl, .k (k := Sum.inl _) met4.at' (small_len (by omega)), ?_⟩
        have s5 := same_own (o := .dK (putK kvs' (Sum.inl ((itN b p i L' : Nat) : Int)) (.int (i : Int)))) s4 hM
        refine ⟨_, rfl, _, rfl, itN b p i L', b, p, d, t, rfl, hP.same s5, ?_⟩
        refine ⟨N + 1 - (L' + 1), by omega, L' + 1, putK kvs' (Sum.inl ((itN b p i L' : Nat) : Int)) (.int (i : Int)), rfl, rfl, s5, ?_, fd4.keep ?_ fun x xs e => ?_⟩
        · rw [show rowN b p i (L' + 1) = rowN b p i L' ++ [itN b p i L'] from rfl, ← List.append_assoc]
          exact pt
        · rw [upd_ne FM.symm]
          exact fd4.at'
        · rw [upd_ne (ne_of e met4.at' fun z => by cases z)]
          exact e
    · rintro σ' H3 ⟨⟨y3, y4, y5, y6, rfl⟩, s3, v, ks, kvs, fs, ms, met, vlt, cl, below, fd, all⟩
      have all' : ∀ m, m ∈ ms ↔ EndAt b p m 0 m := fun m => by
        rw [all]
        exact ⟨fun h => h.2, fun h => ⟨below m (big.per m h.per), h⟩⟩
      refine ⟨_, rfl, F, fs, rowI H3, rfl, .of fd.at', fun x hx => ?_, fun ys P pm srt hPn => ?_⟩
      · obtain ⟨j, hj⟩ := List.mem_iff_getElem?.mp hx
        have jl := (List.getElem?_eq_some_iff.mp hj).1
        have l := fd.len
        have em : ms[j]? = some (ms[j]'(by omega)) := List.getElem?_eq_getElem _
        obtain ⟨t', k, x1, x2, x3⟩ := fd.row j x _ hj em
        refine ⟨t', x1, ?_, ?_⟩
        · rw [x1, rowI_at x2, ← ivs_map]
          exact x2
        · rw [x1, rowI_at x2]
          obtain ⟨r, er⟩ := rowN_head b p _ k x3.pos
          rw [er]
          exact List.cons_ne_nil _ _
      generalize g4 : upd H3 P _ = H4
      obtain ⟨s4, t4⟩ := new_of g4 hPn
      refine ⟨P, _, rfl, .inl ⟨.of t4, fun T hT => ?_⟩⟩
      have s5 : Same H4 (upd H4 T (.tup ys)) := Same.new hT
      obtain ⟨ms', ks', hR⟩ := found_rounds (H' := upd H4 T (.tup ys)) fd all' pm srt fun x xs e => s5 _ _ (s4 _ _ e)
      exact q _ T ys ms' ks' (s3.trans (s4.trans s5)) (s3.free (s4.free hT)) upd_same hR

/-! ### _law_same -/
theorem rows_dp {K : PySem.W.Frag} {b p : Nat} {H : Hp} : ∀ {ms : List Nat} {vs us : List V}, vs.length = ms.length → us.length = ms.length → (∀ (i : Nat) v m, vs[i]? = some v → ms[i]? = some m → ∃ t k, v = V.ref t ∧ H t = some (.tup (ivs (rowN b p m k))) ∧ Rnd b p m k) → (∀ (i : Nat) v m, us[i]? = some v → ms[i]? = some m → ∃ t k, v = V.ref t ∧ H t = some (.tup (ivs (rowN b p m k))) ∧ Rnd b p m k) → ∃ ds, DpAll K H vs ds ∧ DpAll K H us ds ∧ PyData.canLayAll0 ds = true ∧ PyData.depthAll ds ≤ 2
  | [], vs, us, l1, l2, _, _ => by
    obtain rfl := List.eq_nil_of_length_eq_zero l1
    obtain rfl := List.eq_nil_of_length_eq_zero l2
    exact ⟨[], .nil, .nil, rfl, by unfold PyData.depthAll; decide⟩
  | m :: ms, v :: vs, u :: us, l1, l2, h, g => by
    obtain ⟨t, k, rfl, e, rn⟩ := h 0 v m rfl rfl
    obtain ⟨t', k', rfl, e', rn'⟩ := g 0 u m rfl rfl
    obtain rfl := rn.uniq rn'
    obtain ⟨ds, d1, d2, d3, d4⟩ := rows_dp (K := K) (Nat.succ.inj l1) (Nat.succ.inj l2) (fun i => h (i + 1)) fun i => g (i + 1)
    refine ⟨.tuple (dInts ((rowN b p m k).map fun (k : Nat) => (k : Int))) :: ds, .cons (.tup (.of e) (dpAll_ivs _)) d1, .cons (.tup (.of e') (dpAll_ivs _)) d2, ?_, ?_⟩
    · rw [PyData.canLayAll0, d3, PyData.canLay0, canLay_ints]
      rfl
    · have := depth_ints ((rowN b p m k).map fun (k : Nat) => (k : Int))
      unfold PyData.depthAll PyData.depth
      omega
  | m :: ms, [], us, l1, l2, _, _ => nomatch l1
  | m :: ms, v :: vs, [], l1, l2, _, _ => nomatch l2
theorem RoundsAt.dp {K : PySem.W.Frag} {b p : Nat} {H : Hp} {vs us : List V} {ms ks ms' ks' : List Nat} (h : RoundsAt b p H vs ms ks) (g : RoundsAt b p H us ms' ks') : ∃ ds, DpAll K H vs ds ∧ DpAll K H us ds ∧ SeqAt.shaped (.tuple ds) = true := by
  have nd1 : ms.Nodup := h.srt.imp fun z => Nat.ne_of_lt z
  have nd2 : ms'.Nodup := g.srt.imp fun z => Nat.ne_of_lt z
  have pm : ms.Perm ms' := (List.perm_ext_iff_of_nodup nd1 nd2).mpr fun m => (h.all m).trans (g.all m).symm
  obtain rfl : ms = ms' := List.Perm.eq_of_pairwise (le := (· ≤ ·)) (fun a b _ _ h1 h2 => Nat.le_antisymm h1 h2) (h.srt.imp fun z => Nat.le_of_lt z) (g.srt.imp fun z => Nat.le_of_lt z) pm
  have row : ∀ {vs ks}, RoundsAt b p H vs ms ks → ∀ (i : Nat) v m, vs[i]? = some v → ms[i]? = some m → ∃ t k, v = V.ref t ∧ H t = some (.tup (ivs (rowN b p m k))) ∧ Rnd b p m k := fun {vs ks} r i v m a1 a2 => by
    obtain ⟨t, m', k, x1, x2, _, x4, x5⟩ := r.get a1
    rw [a2] at x2
    cases x2
    exact ⟨t, k, x1, x4, x5⟩
  obtain ⟨ds, d1, d2, d3, d4⟩ := rows_dp (K := K) h.l1 g.l1 (row h) (row g)
  exact ⟨ds, d1, d2, shaped_tup d3 (Nat.le_trans d4 (by decide))⟩
def sp__law_same (K : PySem.W.Frag) : Sp := fun vs H Q _ => ∃ (F D : Addr) (b p : Nat) (rs fs : List V) (ms ks ms' ks' : List Nat), vs = [.ref F, .ref D] ∧ H F = some (.tup rs) ∧ RoundsAt b p H rs ms ks ∧ H D = some (.tup fs) ∧ RoundsAt b p H fs ms' ks' ∧ ∀ H', Same H H' → Q (.bl true) H'
theorem ok__law_same (T : Txt K mg) : FnOk P w K mg base CX0 1 T.f__law_same T.fd__law_same ["found", "due"] (sp__law_same K) := by
  refine T.F__law_same.ok sc__law_same (fun vs H Q E h => ?_) (fun cdv A outer s H vs Q E hr h => ?_)
  · obtain ⟨_, _, _, _, _, _, _, _, _, _, rfl, _⟩ := h
    rfl
  · obtain ⟨F, D, b, p, rs, fs, ms, ks, ms', ks', rfl, eF, hR, eD, hS, q⟩ := h
    refine ⟨_, (pss_cons (ps_if (PW.pt (pw_or (pt_not (pt_val (pe_callB (id := "isinstance") call_isi (by rfl) T.m_isinstance (by decide +kernel) (pa_cons (pv 0) (pa_cons (pe_bltn (v := .ty "tuple") (by rfl) T.m_tuple (by decide +kernel) rfl) pa_nil))))) (pw_or1 (pt_cmpR (op_neD hr.units) (pv 0) (pv 1) (nomark _))))) (pss_one (ps_ret pe_bl)) pss_nil)
      (pss_cons (ps_for PassesOwn.never rfl (pi_tup (pv 0)) (pg_name (i := 2) sc__law_same.nd rfl (Or.inl rfl)) (pss_one (ps_if (PW.pt (pw_or (pt_not (pt_val (pe_callB (id := "isinstance") call_isi (by rfl) T.m_isinstance (by decide +kernel) (pa_cons (pv 2) (pa_cons (pe_bltn (v := .ty "tuple") (by rfl) T.m_tuple (by decide +kernel) rfl) pa_nil))))) (pw_or1 (pt_cmpR (op_neD hr.units) (pe_lc (own := [("one", 3)]) (g := (gName 3)) rfl sc__law_same.nd (pi_tup (pv 2)) (blkOk_by (own := [("one", 3)]) (N := ["found", "due", "row", "one"]) (sc := defScope s__law_same) (by decide +kernel)) (fun _ _ _ _ _ => (pg_name (i := 3) sc__law_same.nd rfl (Or.inl rfl))) (fun _ _ _ _ _ => pts_one (pt_val (pe_callB (id := "isinstance") (show CallR _ (.builtin "isinstance") (rIsi K) from call_isi) (by rfl) T.m_isinstance (by decide +kernel) (pa_cons (pv 3) (pa_cons (pe_bltn (v := .ty "bool") (by rfl) T.m_bool (by decide +kernel) rfl) pa_nil))))) (fun _ _ _ _ _ => pe_int)) (pe_lst pa_nil) (nomark _))))) (pss_one (ps_ret pe_bl)) pss_nil)))
      (pss_one (ps_ret pe_bl)))), ?_⟩
    refine ⟨_, rfl, _, _, _, _, true, rfl, .ty "tuple", .base (.tup eF), kit_ty (by decide +kernel), true, rfl, iteF ?_⟩
    obtain ⟨ds, d1, d2, d3⟩ := hR.dp hS
    refine ⟨_, rfl, _, rfl, _, _, .tup (.of eF) d1, .tup (.of eD) d2, d3, d3, _, rfl, ?_⟩
    rw [eqv_same d3]
    refine ite2 (fun c => nomatch c) (fun _ => ?_)
    refine ⟨_, rfl, F, rfl, ⟨_, .of eF⟩, for_tup (xs := rs) (fun i σ' H' => Same H H' ∧ ∃ y2 y3 : Option V, σ' = [some (.ref F), some (.ref D), y2, y3]) ⟨Same.refl _, none, none, rfl⟩ ?_ ?_ ?_⟩
    · rintro i σ' H' hi ⟨z, _⟩
      exact .of (z _ _ eF)
    · rintro i v σ' H1 hv ⟨s1, y2, y3, rfl⟩
      obtain ⟨r, m, k, rfl, hm, hk, er0, rn⟩ := hR.get hv
      have er := s1 _ _ er0
      refine ⟨_, rfl, _, _, _, _, true, rfl, .ty "tuple", .base (.tup er), kit_ty (by decide +kernel), true, rfl, iteF ?_⟩
      refine ⟨_, rfl, r, rfl, ⟨_, .of er⟩, fun Dc hDc => lc_tup (xs := ivs (rowN b p m k)) (fun i H' => Same H1 H' ∧ H' Dc = some (.lst [])) ⟨Same.new hDc, upd_same⟩ ?_ ?_ ?_⟩
      · rintro i H' hi ⟨z, _⟩
        exact .of (z _ _ er)
      · rintro i x H' hx ⟨z, e⟩
        obtain ⟨c, hc, rfl⟩ := ivs_get hx
        exact ⟨rfl, _, rfl, _, _, _, _, false, rfl, .ty "bool", .base (.int _), kit_ty (by decide +kernel), false, rfl, iteF ⟨z, e⟩⟩
      rintro H2 ⟨s2, e2⟩
      refine ⟨Nat.zero_le _, fun z hz => ?_⟩
      generalize g3 : upd H2 z _ = H3
      obtain ⟨s3, t3⟩ := new_of g3 hz
      refine ⟨.list [], .list [], .lst (.of (s3 _ _ e2)) .nil, .lst (.of t3) .nil, shaped_ints [], shaped_ints [], _, rfl, ?_⟩
      rw [eqv_same (show SeqAt.shaped (.list []) = true from shaped_ints [])]
      exact ite2 (fun c => nomatch c) (fun _ => ⟨s1.trans (s2.trans s3), _, _, rfl⟩)
    · rintro σ' H1 ⟨s1, y2, y3, rfl⟩
      exact q _ s1

/-! ### law -/
def sp_law (K : PySem.W.Frag) : Sp := fun vs H Q _ => ∃ (a : Addr) (ns : List Int), vs = [.ref a] ∧ SqL K H a (ns.map V.int) ∧ ns.length ≤ 63 ∧ ∀ H', Q (.bl true) H'
theorem law_start {K : PySem.W.Frag} {H : Hp} {a : Addr} {ns : List Int} {E : XK} (hl : ns.length ≤ 63) (hS : SqL K H a (ns.map V.int)) : sp_law K [.ref a] H (fun v _ => v = .bl true) E := ⟨a, ns, rfl, hS, hl, fun _ => rfl⟩
theorem ok_law (T : Txt K mg) : FnOk P w K mg base CX0 6 T.f_law T.fd_law ["script"] (sp_law K) := by
  refine T.F_law.ok sc_law (fun vs H Q E h => ?_) (fun cdv A outer s H vs Q E hr h => ?_)
  · obtain ⟨_, _, rfl, _⟩ := h
    rfl
  · obtain ⟨a, ns, rfl, hS, hl, q⟩ := h
    refine ⟨_, (pss_cons (ps_for PassesOwn.never rfl (pi_list (pe_op op_cat (pe_slice sl_list (pv 0) po_none (po_some pe_int)) (pe_lst (pa_cons (pe_call (ok__law_folded T) (hr.mono (by decide)) (by rfl) T.g__law_folded T.F__law_folded.kp T.b__law_folded .nil pass0 (pa_cons (pv 0) pa_nil)) pa_nil)))) (pg_name (i := 1) sc_law.nd rfl (Or.inl rfl)) (pss_cons (ps_set (i := 2) sc_law.nd rfl (Or.inl rfl) (pe_call (ok__law_seed T) (hr.mono (by decide)) (by rfl) T.g__law_seed T.F__law_seed.kp T.b__law_seed .nil pass0 (pa_cons (pv 1) pa_nil)))
      (pss_cons (ps_set (i := 3) sc_law.nd rfl (Or.inl rfl) (pe_call (ok__law_pair T) (hr.mono (by decide)) (by rfl) T.g__law_pair T.F__law_pair.kp T.b__law_pair .nil pass0 (pa_cons (pv 2) pa_nil)))
      (pss_cons (ps_set (i := 4) sc_law.nd rfl (Or.inl rfl) (pe_call (ok__law_rounds T) (hr.mono (by decide)) (by rfl) T.g__law_rounds T.F__law_rounds.kp T.b__law_rounds .nil pass0 (pa_cons (pv 3) pa_nil)))
      (pss_one (ps_if (PW.pt (pw_or (pt_not (pt_val (pe_call (ok__law_same T) (hr.mono (by decide)) (by rfl) T.g__law_same T.F__law_same.kp T.b__law_same .nil pass0 (pa_cons (pe_call (ok_rounds_of T) hr (by rfl) T.g_rounds_of T.F_rounds_of.kp T.b_rounds_of .nil pass0 (pa_cons (pe_ix ix_tup (pv 3) pe_int (fun _ _ => rfl)) (pa_cons (pe_ix ix_tup (pv 3) pe_int (fun _ _ => rfl)) pa_nil))) (pa_cons (pv 4) pa_nil))))) (pw_or1 (pt_cmpR (op_neD hr.units) (pe_call (ok_rounds_of T) hr (by rfl) T.g_rounds_of T.F_rounds_of.kp T.b_rounds_of .nil pass0 (pa_cons (pe_ix ix_tup (pv 3) pe_int (fun _ _ => rfl)) (pa_cons (pe_ix ix_tup (pv 3) pe_int (fun _ _ => rfl)) pa_nil))) (pv 4) (nomark _))))) (pss_one (ps_ret pe_bl)) pss_nil))))))
      (pss_one (ps_ret pe_bl))), ?_⟩
    refine ⟨_, rfl, _, rfl, a, _, rfl, hS, fun D1 h1 => ?_⟩
    rw [show (some (1 : Int)) = some ((1 : Nat) : Int) from rfl, cut_i_to]
    generalize g1 : upd H D1 _ = H1
    obtain ⟨s1, t1⟩ := new_of g1 h1
    refine ⟨_, rfl, a, ns, rfl, s1.seq hS, fun r => ⟨by show 1 ≤ sizeLine; decide, fun D2 h2 => ?_⟩⟩
    generalize g2 : upd H1 D2 _ = H2
    obtain ⟨s2, t2⟩ := new_of g2 h2
    refine ⟨D1, D2, _, [.int r], rfl, rfl, s2 _ _ t1, t2, ?_, fun D3 h3 => ?_⟩
    · rw [List.length_map, List.length_take]
      exact Nat.le_of_lt (small_len (by show _ + 1 ≤ _; omega))
    rw [show [V.int r] = [r].map V.int from rfl, ← List.map_append]
    generalize g3 : upd H2 D3 _ = H3
    obtain ⟨s3, t3⟩ := new_of g3 h3
    refine ⟨D3, rfl, ⟨_, .of t3⟩, for_list (xs := (ns.take 1 ++ [r]).map V.int) (fun i σ' H' => Same H3 H' ∧ ∃ y1 y2 y3 y4 : Option V, σ' = [some (.ref a), y1, y2, y3, y4]) ⟨Same.refl _, none, none, none, none, rfl⟩ ?_ ?_ ?_⟩
    · rintro i σ' H' hi ⟨z, _⟩
      exact .of (z _ _ t3)
    · rintro i v σ' H4 hv ⟨s4, y1, y2, y3, y4, rfl⟩
      obtain ⟨c, hc, rfl⟩ := int_get hv
      refine ⟨_, rfl, c, rfl, fun H5 d s5 nd S5 => ?_⟩
      refine ⟨_, rfl, d, rfl, S5, fun H6 t b p b6 S6 nt P6 => ?_⟩
      have ok := P6.ok
      refine ⟨_, rfl, d, t, b, p, rfl, P6, fun H7 D fs ms' ks' s7 nD eD hS => ?_⟩
      obtain ⟨w, et, ew, nw, ntd, _⟩ := id (P6.same s7)
      refine ⟨_, rfl, t, _, 0, _, rfl, rfl, .of et, atI_nat (j := 0) rfl, _, rfl, t, _, 1, _, rfl, rfl, .of et, atI_nat (j := 1) rfl, b, p, rfl, ok, fun H8 R rs ms ks s8 nR eR hR _ => ?_⟩
      refine ⟨_, rfl, R, D, b, p, rs, fs, ms, ks, ms', ks', rfl, eR, hR, s8 _ _ eD, hS.same s8, fun H9 s9 => ⟨true, rfl, iteF ?_⟩⟩
      have s79 := s8.trans s9
      have et9 := s79 _ _ et
      refine ⟨_, rfl, t, _, 0, _, rfl, rfl, .of et9, atI_nat (j := 0) rfl, _, rfl, t, _, 1, _, rfl, rfl, .of et9, atI_nat (j := 1) rfl, b, p, rfl, ok, fun Ha R' rs' ms2 ks2 sa nR' eR' hR' _ => ?_⟩
      obtain ⟨ds, d1, d2, d3⟩ := hR'.dp (hS.same (s79.trans sa))
      refine ⟨_, rfl, _, _, .tup (.of eR') d1, .tup (.of (sa _ _ (s79 _ _ eD))) d2, d3, d3, _, rfl, ?_⟩
      rw [eqv_same d3]
      refine ite2 (fun c => nomatch c) (fun _ => ?_)
      have bAll : But d H5 Ha := b6.trans (.of (s7.trans (s79.trans sa)))
      refine ⟨fun x o e => ?_, _, _, _, _, rfl⟩
      have e5 := s5 _ _ (s4 _ _ e)
      exact bAll _ _ (ne_of_none (s4 _ _ e) nd) e5
    · rintro σ' H4 ⟨s4, y1, y2, y3, y4, rfl⟩
      exact q _

end
theorem all_mk {l : PySem.W.OpenLaw} {w : World} {K : PySem.W.Frag} {h : Heap} {mg : Str → Option Value} {fa f0 f1 f2 f3 f4 f5 f6 f7 f8 f9 f10 f11 f12 f13 f14 f15 f16 f17 f18 f19 f20 f21 : Addr} (X : K.In h) (G : h.Ns mainGlobals mg) (hfa : mg "law" = some (.ref fa))
    {od0 an0 od1 an1 od2 an2 od3 an3 od4 an4 od5 an5 od6 an6 od7 an7 od8 an8 od9 an9 od10 an10 od11 an11 od12 an12 od13 an13 od14 an14 od15 an15 od16 an16 od17 an17 od18 an18 od19 an19 od20 an20 od21 an21 : Option Addr} {sl0 sl1 sl2 sl3 sl4 sl5 sl6 sl7 sl8 sl9 sl10 sl11 sl12 sl13 sl14 sl15 sl16 sl17 sl18 sl19 sl20 sl21 : Array (Option Value)} {oc0 kV0 dc0 pm0 cd0 ct0 oc1 kV1 dc1 pm1 cd1 ct1 oc2 kV2 dc2 pm2 cd2 ct2 oc3 kV3 dc3 pm3 cd3 ct3 oc4 kV4 dc4 pm4 cd4 ct4 oc5 kV5 dc5 pm5 cd5 ct5 oc6 kV6 dc6 pm6 cd6 ct6 oc7 kV7 dc7 pm7 cd7 ct7 oc8 kV8 dc8 pm8 cd8 ct8 oc9 kV9 dc9 pm9 cd9 ct9 oc10 kV10 dc10 pm10 cd10 ct10 oc11 kV11 dc11 pm11 cd11 ct11 oc12 kV12 dc12 pm12 cd12 ct12 oc13 kV13 dc13 pm13 cd13 ct13 oc14 kV14 dc14 pm14 cd14 ct14 oc15 kV15 dc15 pm15 cd15 ct15 oc16 kV16 dc16 pm16 cd16 ct16 oc17 kV17 dc17 pm17 cd17 ct17 oc18 kV18 dc18 pm18 cd18 ct18 oc19 kV19 dc19 pm19 cd19 ct19 oc20 kV20 dc20 pm20 cd20 ct20 oc21 kV21 dc21 pm21 cd21 ct21 : Value}
    (a0 : PySem.W.nsIn K mainGlobals "figures_of" = some (some (.ref f0))) (l0 : K.lookup f0 = some ⟨oc0, od0, .func (PySem.W.fnOf "figures_of" "figures_of" (defArgs s_figures_of) (defBody s_figures_of) (defScope s_figures_of) .none kV0 dc0 pm0 an0 cd0 ct0), sl0⟩) (c0 : PySem.W.codeIn K cd0 "figures_of" = true) (k0 : PySem.W.keepIn K (.ref f0) = true)
    (a1 : PySem.W.nsIn K mainGlobals "power_of" = some (some (.ref f1))) (l1 : K.lookup f1 = some ⟨oc1, od1, .func (PySem.W.fnOf "power_of" "power_of" (defArgs s_power_of) (defBody s_power_of) (defScope s_power_of) .none kV1 dc1 pm1 an1 cd1 ct1), sl1⟩) (c1 : PySem.W.codeIn K cd1 "power_of" = true) (k1 : PySem.W.keepIn K (.ref f1) = true)
    (a2 : PySem.W.nsIn K mainGlobals "step_of" = some (some (.ref f2))) (l2 : K.lookup f2 = some ⟨oc2, od2, .func (PySem.W.fnOf "step_of" "step_of" (defArgs s_step_of) (defBody s_step_of) (defScope s_step_of) .none kV2 dc2 pm2 an2 cd2 ct2), sl2⟩) (c2 : PySem.W.codeIn K cd2 "step_of" = true) (k2 : PySem.W.keepIn K (.ref f2) = true)
    (a3 : PySem.W.nsIn K mainGlobals "worths_of" = some (some (.ref f3))) (l3 : K.lookup f3 = some ⟨oc3, od3, .func (PySem.W.fnOf "worths_of" "worths_of" (defArgs s_worths_of) (defBody s_worths_of) (defScope s_worths_of) .none kV3 dc3 pm3 an3 cd3 ct3), sl3⟩) (c3 : PySem.W.codeIn K cd3 "worths_of" = true) (k3 : PySem.W.keepIn K (.ref f3) = true)
    (a4 : PySem.W.nsIn K mainGlobals "length_down" = some (some (.ref f4))) (l4 : K.lookup f4 = some ⟨oc4, od4, .func (PySem.W.fnOf "length_down" "length_down" (defArgs s_length_down) (defBody s_length_down) (defScope s_length_down) .none kV4 dc4 pm4 an4 cd4 ct4), sl4⟩) (c4 : PySem.W.codeIn K cd4 "length_down" = true) (k4 : PySem.W.keepIn K (.ref f4) = true)
    (a5 : PySem.W.nsIn K mainGlobals "steps_to" = some (some (.ref f5))) (l5 : K.lookup f5 = some ⟨oc5, od5, .func (PySem.W.fnOf "steps_to" "steps_to" (defArgs s_steps_to) (defBody s_steps_to) (defScope s_steps_to) .none kV5 dc5 pm5 an5 cd5 ct5), sl5⟩) (c5 : PySem.W.codeIn K cd5 "steps_to" = true) (k5 : PySem.W.keepIn K (.ref f5) = true)
    (a6 : PySem.W.nsIn K mainGlobals "add_ends" = some (some (.ref f6))) (l6 : K.lookup f6 = some ⟨oc6, od6, .func (PySem.W.fnOf "add_ends" "add_ends" (defArgs s_add_ends) (defBody s_add_ends) (defScope s_add_ends) .none kV6 dc6 pm6 an6 cd6 ct6), sl6⟩) (c6 : PySem.W.codeIn K cd6 "add_ends" = true) (k6 : PySem.W.keepIn K (.ref f6) = true)
    (a7 : PySem.W.nsIn K mainGlobals "ends_to" = some (some (.ref f7))) (l7 : K.lookup f7 = some ⟨oc7, od7, .func (PySem.W.fnOf "ends_to" "ends_to" (defArgs s_ends_to) (defBody s_ends_to) (defScope s_ends_to) .none kV7 dc7 pm7 an7 cd7 ct7), sl7⟩) (c7 : PySem.W.codeIn K cd7 "ends_to" = true) (k7 : PySem.W.keepIn K (.ref f7) = true)
    (a8 : PySem.W.nsIn K mainGlobals "leasts_to" = some (some (.ref f8))) (l8 : K.lookup f8 = some ⟨oc8, od8, .func (PySem.W.fnOf "leasts_to" "leasts_to" (defArgs s_leasts_to) (defBody s_leasts_to) (defScope s_leasts_to) .none kV8 dc8 pm8 an8 cd8 ct8), sl8⟩) (c8 : PySem.W.codeIn K cd8 "leasts_to" = true) (k8 : PySem.W.keepIn K (.ref f8) = true)
    (a9 : PySem.W.nsIn K mainGlobals "way_of" = some (some (.ref f9))) (l9 : K.lookup f9 = some ⟨oc9, od9, .func (PySem.W.fnOf "way_of" "way_of" (defArgs s_way_of) (defBody s_way_of) (defScope s_way_of) .none kV9 dc9 pm9 an9 cd9 ct9), sl9⟩) (c9 : PySem.W.codeIn K cd9 "way_of" = true) (k9 : PySem.W.keepIn K (.ref f9) = true)
    (a10 : PySem.W.nsIn K mainGlobals "rounds_of" = some (some (.ref f10))) (l10 : K.lookup f10 = some ⟨oc10, od10, .func (PySem.W.fnOf "rounds_of" "rounds_of" (defArgs s_rounds_of) (defBody s_rounds_of) (defScope s_rounds_of) .none kV10 dc10 pm10 an10 cd10 ct10), sl10⟩) (c10 : PySem.W.codeIn K cd10 "rounds_of" = true) (k10 : PySem.W.keepIn K (.ref f10) = true)
    (a11 : PySem.W.nsIn K mainGlobals "_law_folded" = some (some (.ref f11))) (l11 : K.lookup f11 = some ⟨oc11, od11, .func (PySem.W.fnOf "_law_folded" "_law_folded" (defArgs s__law_folded) (defBody s__law_folded) (defScope s__law_folded) .none kV11 dc11 pm11 an11 cd11 ct11), sl11⟩) (c11 : PySem.W.codeIn K cd11 "_law_folded" = true) (k11 : PySem.W.keepIn K (.ref f11) = true)
    (a12 : PySem.W.nsIn K mainGlobals "_law_seed" = some (some (.ref f12))) (l12 : K.lookup f12 = some ⟨oc12, od12, .func (PySem.W.fnOf "_law_seed" "_law_seed" (defArgs s__law_seed) (defBody s__law_seed) (defScope s__law_seed) .none kV12 dc12 pm12 an12 cd12 ct12), sl12⟩) (c12 : PySem.W.codeIn K cd12 "_law_seed" = true) (k12 : PySem.W.keepIn K (.ref f12) = true)
    (a13 : PySem.W.nsIn K mainGlobals "_law_draw" = some (some (.ref f13))) (l13 : K.lookup f13 = some ⟨oc13, od13, .func (PySem.W.fnOf "_law_draw" "_law_draw" (defArgs s__law_draw) (defBody s__law_draw) (defScope s__law_draw) .none kV13 dc13 pm13 an13 cd13 ct13), sl13⟩) (c13 : PySem.W.codeIn K cd13 "_law_draw" = true) (k13 : PySem.W.keepIn K (.ref f13) = true)
    (a14 : PySem.W.nsIn K mainGlobals "_law_power" = some (some (.ref f14))) (l14 : K.lookup f14 = some ⟨oc14, od14, .func (PySem.W.fnOf "_law_power" "_law_power" (defArgs s__law_power) (defBody s__law_power) (defScope s__law_power) .none kV14 dc14 pm14 an14 cd14 ct14), sl14⟩) (c14 : PySem.W.codeIn K cd14 "_law_power" = true) (k14 : PySem.W.keepIn K (.ref f14) = true)
    (a15 : PySem.W.nsIn K mainGlobals "_law_worths" = some (some (.ref f15))) (l15 : K.lookup f15 = some ⟨oc15, od15, .func (PySem.W.fnOf "_law_worths" "_law_worths" (defArgs s__law_worths) (defBody s__law_worths) (defScope s__law_worths) .none kV15 dc15 pm15 an15 cd15 ct15), sl15⟩) (c15 : PySem.W.codeIn K cd15 "_law_worths" = true) (k15 : PySem.W.keepIn K (.ref f15) = true)
    (a16 : PySem.W.nsIn K mainGlobals "_law_pair" = some (some (.ref f16))) (l16 : K.lookup f16 = some ⟨oc16, od16, .func (PySem.W.fnOf "_law_pair" "_law_pair" (defArgs s__law_pair) (defBody s__law_pair) (defScope s__law_pair) .none kV16 dc16 pm16 an16 cd16 ct16), sl16⟩) (c16 : PySem.W.codeIn K cd16 "_law_pair" = true) (k16 : PySem.W.keepIn K (.ref f16) = true)
    (a17 : PySem.W.nsIn K mainGlobals "_law_step" = some (some (.ref f17))) (l17 : K.lookup f17 = some ⟨oc17, od17, .func (PySem.W.fnOf "_law_step" "_law_step" (defArgs s__law_step) (defBody s__law_step) (defScope s__law_step) .none kV17 dc17 pm17 an17 cd17 ct17), sl17⟩) (c17 : PySem.W.codeIn K cd17 "_law_step" = true) (k17 : PySem.W.keepIn K (.ref f17) = true)
    (a18 : PySem.W.nsIn K mainGlobals "_law_most" = some (some (.ref f18))) (l18 : K.lookup f18 = some ⟨oc18, od18, .func (PySem.W.fnOf "_law_most" "_law_most" (defArgs s__law_most) (defBody s__law_most) (defScope s__law_most) .none kV18 dc18 pm18 an18 cd18 ct18), sl18⟩) (c18 : PySem.W.codeIn K cd18 "_law_most" = true) (k18 : PySem.W.keepIn K (.ref f18) = true)
    (a19 : PySem.W.nsIn K mainGlobals "_law_rounds" = some (some (.ref f19))) (l19 : K.lookup f19 = some ⟨oc19, od19, .func (PySem.W.fnOf "_law_rounds" "_law_rounds" (defArgs s__law_rounds) (defBody s__law_rounds) (defScope s__law_rounds) .none kV19 dc19 pm19 an19 cd19 ct19), sl19⟩) (c19 : PySem.W.codeIn K cd19 "_law_rounds" = true) (k19 : PySem.W.keepIn K (.ref f19) = true)
    (a20 : PySem.W.nsIn K mainGlobals "_law_same" = some (some (.ref f20))) (l20 : K.lookup f20 = some ⟨oc20, od20, .func (PySem.W.fnOf "_law_same" "_law_same" (defArgs s__law_same) (defBody s__law_same) (defScope s__law_same) .none kV20 dc20 pm20 an20 cd20 ct20), sl20⟩) (c20 : PySem.W.codeIn K cd20 "_law_same" = true) (k20 : PySem.W.keepIn K (.ref f20) = true)
    (a21 : PySem.W.nsIn K mainGlobals "law" = some (some (.ref f21))) (l21 : K.lookup f21 = some ⟨oc21, od21, .func (PySem.W.fnOf "law" "law" (defArgs s_law) (defBody s_law) (defScope s_law) .none kV21 dc21 pm21 an21 cd21 ct21), sl21⟩) (c21 : PySem.W.codeIn K cd21 "law" = true) (k21 : PySem.W.keepIn K (.ref f21) = true)
    (z0 : PySem.W.nsIn K mainGlobals "bool" = some none)
    (z1 : PySem.W.nsIn K mainGlobals "enumerate" = some none)
    (z2 : PySem.W.nsIn K mainGlobals "int" = some none)
    (z3 : PySem.W.nsIn K mainGlobals "isinstance" = some none)
    (z4 : PySem.W.nsIn K mainGlobals "len" = some none)
    (z5 : PySem.W.nsIn K mainGlobals "list" = some none)
    (z6 : PySem.W.nsIn K mainGlobals "max" = some none)
    (z7 : PySem.W.nsIn K mainGlobals "min" = some none)
    (z8 : PySem.W.nsIn K mainGlobals "range" = some none)
    (z9 : PySem.W.nsIn K mainGlobals "sorted" = some none)
    (z10 : PySem.W.nsIn K mainGlobals "sum" = some none)
    (z11 : PySem.W.nsIn K mainGlobals "tuple" = some none)
    : ∃ fd : FuncData, (∀ (s : Shared) (v : Value), BindsTo s fd ⟨[v], []⟩ [("script", v)]) ∧ ∀ base : Heap, K.In base → base.Ns mainGlobals mg → FnOk l.prog w K mg base CX0 6 fa fd ["script"] (sp_law K) := by
  have e := hfa.symm.trans (PySem.W.mg_of X G a21)
  cases e
  have F0 := fun_mk (st := s_figures_of) l0 c0 k0
  have F1 := fun_mk (st := s_power_of) l1 c1 k1
  have F2 := fun_mk (st := s_step_of) l2 c2 k2
  have F3 := fun_mk (st := s_worths_of) l3 c3 k3
  have F4 := fun_mk (st := s_length_down) l4 c4 k4
  have F5 := fun_mk (st := s_steps_to) l5 c5 k5
  have F6 := fun_mk (st := s_add_ends) l6 c6 k6
  have F7 := fun_mk (st := s_ends_to) l7 c7 k7
  have F8 := fun_mk (st := s_leasts_to) l8 c8 k8
  have F9 := fun_mk (st := s_way_of) l9 c9 k9
  have F10 := fun_mk (st := s_rounds_of) l10 c10 k10
  have F11 := fun_mk (st := s__law_folded) l11 c11 k11
  have F12 := fun_mk (st := s__law_seed) l12 c12 k12
  have F13 := fun_mk (st := s__law_draw) l13 c13 k13
  have F14 := fun_mk (st := s__law_power) l14 c14 k14
  have F15 := fun_mk (st := s__law_worths) l15 c15 k15
  have F16 := fun_mk (st := s__law_pair) l16 c16 k16
  have F17 := fun_mk (st := s__law_step) l17 c17 k17
  have F18 := fun_mk (st := s__law_most) l18 c18 k18
  have F19 := fun_mk (st := s__law_rounds) l19 c19 k19
  have F20 := fun_mk (st := s__law_same) l20 c20 k20
  have F21 := fun_mk (st := s_law) l21 c21 k21
  let T : Txt K mg := {
    f_figures_of := f0,
    fd_figures_of := _,
    F_figures_of := F0,
    g_figures_of := PySem.W.mg_of X G a0,
    b_figures_of := F0.binds (ps := ["number", "base"]) (fun _ _ _ _ _ _ us hl => match us, hl with | [_, _], _ => rfl),
    f_power_of := f1,
    fd_power_of := _,
    F_power_of := F1,
    g_power_of := PySem.W.mg_of X G a1,
    b_power_of := F1.binds (ps := ["figure", "power"]) (fun _ _ _ _ _ _ us hl => match us, hl with | [_, _], _ => rfl),
    f_step_of := f2,
    fd_step_of := _,
    F_step_of := F2,
    g_step_of := PySem.W.mg_of X G a2,
    b_step_of := F2.binds (ps := ["number", "base", "power"]) (fun _ _ _ _ _ _ us hl => match us, hl with | [_, _, _], _ => rfl),
    f_worths_of := f3,
    fd_worths_of := _,
    F_worths_of := F3,
    g_worths_of := PySem.W.mg_of X G a3,
    b_worths_of := F3.binds (ps := ["base", "power"]) (fun _ _ _ _ _ _ us hl => match us, hl with | [_, _], _ => rfl),
    f_length_down := f4,
    fd_length_down := _,
    F_length_down := F4,
    g_length_down := PySem.W.mg_of X G a4,
    b_length_down := F4.binds (ps := ["base", "power"]) (fun _ _ _ _ _ _ us hl => match us, hl with | [_, _], _ => rfl),
    f_steps_to := f5,
    fd_steps_to := _,
    F_steps_to := F5,
    g_steps_to := PySem.W.mg_of X G a5,
    b_steps_to := F5.binds (ps := ["most", "worths"]) (fun _ _ _ _ _ _ us hl => match us, hl with | [_, _], _ => rfl),
    f_add_ends := f6,
    fd_add_ends := _,
    F_add_ends := F6,
    g_add_ends := PySem.W.mg_of X G a6,
    b_add_ends := F6.binds (ps := ["ends", "steps", "number"]) (fun _ _ _ _ _ _ us hl => match us, hl with | [_, _, _], _ => rfl),
    f_ends_to := f7,
    fd_ends_to := _,
    F_ends_to := F7,
    g_ends_to := PySem.W.mg_of X G a7,
    b_ends_to := F7.binds (ps := ["most", "base", "power"]) (fun _ _ _ _ _ _ us hl => match us, hl with | [_, _, _], _ => rfl),
    f_leasts_to := f8,
    fd_leasts_to := _,
    F_leasts_to := F8,
    g_leasts_to := PySem.W.mg_of X G a8,
    b_leasts_to := F8.binds (ps := ["most", "base", "power"]) (fun _ _ _ _ _ _ us hl => match us, hl with | [_, _, _], _ => rfl),
    f_way_of := f9,
    fd_way_of := _,
    F_way_of := F9,
    g_way_of := PySem.W.mg_of X G a9,
    b_way_of := F9.binds (ps := ["number", "base", "power"]) (fun _ _ _ _ _ _ us hl => match us, hl with | [_, _, _], _ => rfl),
    f_rounds_of := f10,
    fd_rounds_of := _,
    F_rounds_of := F10,
    g_rounds_of := PySem.W.mg_of X G a10,
    b_rounds_of := F10.binds (ps := ["base", "power"]) (fun _ _ _ _ _ _ us hl => match us, hl with | [_, _], _ => rfl),
    f__law_folded := f11,
    fd__law_folded := _,
    F__law_folded := F11,
    g__law_folded := PySem.W.mg_of X G a11,
    b__law_folded := F11.binds (ps := ["script"]) (fun _ _ _ _ _ _ us hl => match us, hl with | [_], _ => rfl),
    f__law_seed := f12,
    fd__law_seed := _,
    F__law_seed := F12,
    g__law_seed := PySem.W.mg_of X G a12,
    b__law_seed := F12.binds (ps := ["cell"]) (fun _ _ _ _ _ _ us hl => match us, hl with | [_], _ => rfl),
    f__law_draw := f13,
    fd__law_draw := _,
    F__law_draw := F13,
    g__law_draw := PySem.W.mg_of X G a13,
    b__law_draw := F13.binds (ps := ["seed", "most"]) (fun _ _ _ _ _ _ us hl => match us, hl with | [_, _], _ => rfl),
    f__law_power := f14,
    fd__law_power := _,
    F__law_power := F14,
    g__law_power := PySem.W.mg_of X G a14,
    b__law_power := F14.binds (ps := ["number", "often"]) (fun _ _ _ _ _ _ us hl => match us, hl with | [_, _], _ => rfl),
    f__law_worths := f15,
    fd__law_worths := _,
    F__law_worths := F15,
    g__law_worths := PySem.W.mg_of X G a15,
    b__law_worths := F15.binds (ps := ["base", "often"]) (fun _ _ _ _ _ _ us hl => match us, hl with | [_, _], _ => rfl),
    f__law_pair := f16,
    fd__law_pair := _,
    F__law_pair := F16,
    g__law_pair := PySem.W.mg_of X G a16,
    b__law_pair := F16.binds (ps := ["seed"]) (fun _ _ _ _ _ _ us hl => match us, hl with | [_], _ => rfl),
    f__law_step := f17,
    fd__law_step := _,
    F__law_step := F17,
    g__law_step := PySem.W.mg_of X G a17,
    b__law_step := F17.binds (ps := ["number", "pair"]) (fun _ _ _ _ _ _ us hl => match us, hl with | [_, _], _ => rfl),
    f__law_most := f18,
    fd__law_most := _,
    F__law_most := F18,
    g__law_most := PySem.W.mg_of X G a18,
    b__law_most := F18.binds (ps := ["pair"]) (fun _ _ _ _ _ _ us hl => match us, hl with | [_], _ => rfl),
    f__law_rounds := f19,
    fd__law_rounds := _,
    F__law_rounds := F19,
    g__law_rounds := PySem.W.mg_of X G a19,
    b__law_rounds := F19.binds (ps := ["pair"]) (fun _ _ _ _ _ _ us hl => match us, hl with | [_], _ => rfl),
    f__law_same := f20,
    fd__law_same := _,
    F__law_same := F20,
    g__law_same := PySem.W.mg_of X G a20,
    b__law_same := F20.binds (ps := ["found", "due"]) (fun _ _ _ _ _ _ us hl => match us, hl with | [_, _], _ => rfl),
    f_law := fa,
    fd_law := _,
    F_law := F21,
    g_law := PySem.W.mg_of X G a21,
    b_law := F21.binds (ps := ["script"]) (fun _ _ _ _ _ _ us hl => match us, hl with | [_], _ => rfl),
    m_bool := PySem.W.mg_none_of X G z0,
    m_enumerate := PySem.W.mg_none_of X G z1,
    m_int := PySem.W.mg_none_of X G z2,
    m_isinstance := PySem.W.mg_none_of X G z3,
    m_len := PySem.W.mg_none_of X G z4,
    m_list := PySem.W.mg_none_of X G z5,
    m_max := PySem.W.mg_none_of X G z6,
    m_min := PySem.W.mg_none_of X G z7,
    m_range := PySem.W.mg_none_of X G z8,
    m_sorted := PySem.W.mg_none_of X G z9,
    m_sum := PySem.W.mg_none_of X G z10,
    m_tuple := PySem.W.mg_none_of X G z11 }
  exact ⟨_, fun s v => .of_eq rfl, fun base _ _ => ok_law T⟩
end Fx
open PySem PySem.W PyProof.Rows
set_option maxHeartbeats 0 in
theorem PySem.Challenge.cw_figurerounds_k09_rounds_of_holds : PySem.Challenge.rw_figurerounds_k09_rounds_of.Holds := by
  w_on; o_law; k_head; (case hw => w_witness2)
  k_fill
  refine L2.walk_of (l := PySem.Challenge.rw_figurerounds_k09_rounds_of) (n := 63) (k := 6) (x := "script") (CX := fun _ => L2.CX0) (sp := fun w => Fx.sp_law _) rfl (by decide) rfl ⟨rfl, by decide, by decide⟩ (fun w h Y => PySem.W.kIn_of Y) ?F (fun _ _ a ns hl _ hS => Fx.law_start hl hS) (fun _ _ _ _ _ h => h)
  case F =>
    intro w mg fa h KX G hmg
    refine' Fx.all_mk KX G hmg ?a0 ?l0 ?c0 ?k0 ?a1 ?l1 ?c1 ?k1 ?a2 ?l2 ?c2 ?k2 ?a3 ?l3 ?c3 ?k3 ?a4 ?l4 ?c4 ?k4 ?a5 ?l5 ?c5 ?k5 ?a6 ?l6 ?c6 ?k6 ?a7 ?l7 ?c7 ?k7 ?a8 ?l8 ?c8 ?k8 ?a9 ?l9 ?c9 ?k9 ?a10 ?l10 ?c10 ?k10 ?a11 ?l11 ?c11 ?k11 ?a12 ?l12 ?c12 ?k12 ?a13 ?l13 ?c13 ?k13 ?a14 ?l14 ?c14 ?k14 ?a15 ?l15 ?c15 ?k15 ?a16 ?l16 ?c16 ?k16 ?a17 ?l17 ?c17 ?k17 ?a18 ?l18 ?c18 ?k18 ?a19 ?l19 ?c19 ?k19 ?a20 ?l20 ?c20 ?k20 ?a21 ?l21 ?c21 ?k21 ?z0 ?z1 ?z2 ?z3 ?z4 ?z5 ?z6 ?z7 ?z8 ?z9 ?z10 ?z11
    (case a0 => k_is); (case l0 => k_is); (case c0 => k_is); (case k0 => k_is); (case a1 => k_is); (case l1 => k_is); (case c1 => k_is); (case k1 => k_is); (case a2 => k_is); (case l2 => k_is); (case c2 => k_is); (case k2 => k_is); (case a3 => k_is); (case l3 => k_is); (case c3 => k_is); (case k3 => k_is); (case a4 => k_is); (case l4 => k_is); (case c4 => k_is); (case k4 => k_is); (case a5 => k_is); (case l5 => k_is); (case c5 => k_is); (case k5 => k_is); (case a6 => k_is); (case l6 => k_is); (case c6 => k_is); (case k6 => k_is); (case a7 => k_is); (case l7 => k_is); (case c7 => k_is); (case k7 => k_is); (case a8 => k_is); (case l8 => k_is); (case c8 => k_is); (case k8 => k_is); (case a9 => k_is); (case l9 => k_is); (case c9 => k_is); (case k9 => k_is); (case a10 => k_is); (case l10 => k_is); (case c10 => k_is); (case k10 => k_is); (case a11 => k_is); (case l11 => k_is); (case c11 => k_is); (case k11 => k_is); (case a12 => k_is); (case l12 => k_is); (case c12 => k_is); (case k12 => k_is); (case a13 => k_is); (case l13 => k_is); (case c13 => k_is); (case k13 => k_is); (case a14 => k_is); (case l14 => k_is); (case c14 => k_is); (case k14 => k_is); (case a15 => k_is); (case l15 => k_is); (case c15 => k_is); (case k15 => k_is); (case a16 => k_is); (case l16 => k_is); (case c16 => k_is); (case k16 => k_is); (case a17 => k_is); (case l17 => k_is); (case c17 => k_is); (case k17 => k_is); (case a18 => k_is); (case l18 => k_is); (case c18 => k_is); (case k18 => k_is); (case a19 => k_is); (case l19 => k_is); (case c19 => k_is); (case k19 => k_is); (case a20 => k_is); (case l20 => k_is); (case c20 => k_is); (case k20 => k_is); (case a21 => k_is); (case l21 => k_is); (case c21 => k_is); (case k21 => k_is); (case z0 => k_is); (case z1 => k_is); (case z2 => k_is); (case z3 => k_is); (case z4 => k_is); (case z5 => k_is); (case z6 => k_is); (case z7 => k_is); (case z8 => k_is); (case z9 => k_is); (case z10 => k_is); (case z11 => k_is)
