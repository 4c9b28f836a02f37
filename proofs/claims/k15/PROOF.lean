import PyProof.Rows.All
import Wide.All
import OpenK.AllK
import Wide.FinOn
import HandS.ForMost
import HandS.Wide
import HandS.Style
import HandS.IsInst
import HandS.Conv
import HandS.Codes
import HandS.TupAny
import HandS.NoneIn
import HandS.SetKeys
import HandS.SortInts
import HandS.SetFor
import HandS.Walk
import HandS.More
import HandS.TupMul
import PyProof.MinMaxWalk
import PyProof.WalkInts
import KE.GoesEnum
import KE.DataCmp
import HandS.Strs
import PySem.Challenge.RW_figurerounds_k15_whole_own_numbers
set_option Elab.async false
set_option linter.all false
set_option maxRecDepth 100000
set_option maxHeartbeats 4000000

/-! my own words for readings: "rd" goes on while there is one way only -/
local macro_rules | `(tactic| walk_at "cc") => `(tactic| first
  | (with_reducible exact rfl) | (dsimp only [CMul, CDivW]; omega) | (exact ⟨by decide +kernel, by decide +kernel⟩) | decide +kernel)
local macro_rules | `(tactic| walk_at "rd1") => `(tactic| first
  | refine ⟨_, rfl, ?_⟩ | refine ⟨_, _, rfl, rfl, ?_⟩ | refine ⟨rfl, ?_⟩)
local macro_rules | `(tactic| walk_at "rd") => `(tactic| repeat (walk_at "rd1"))

local macro_rules | `(tactic| walk_at "p") => `(tactic| ((show (0 : Int) < _); first | assumption | omega | decide))

namespace Fx
open PySem PySem.Spec PyProof.Rows L2

/-! ### rules named by their readings, for comprehensions -/
def rLenQ (K : PySem.W.Frag) : List V → Hp → VK → Prop := fun xs H Q => ∃ p ys, xs = [V.ref p] ∧ (SqL K H p ys ∨ SqT K H p ys) ∧ Q (.int ys.length) H
def rListQ (K : PySem.W.Frag) : List V → Hp → VK → Prop := fun xs H Q => ∃ p ys, xs = [V.ref p] ∧ (SqL K H p ys ∨ SqT K H p ys) ∧ ∀ l, H l = none → Q (.ref l) (upd H l (.lst ys))

def rTupQ (K : PySem.W.Frag) : List V → Hp → VK → Prop := fun xs H Q => ∃ p ys, xs = [V.ref p] ∧ ((SqL K H p ys ∧ ∀ l, H l = none → Q (.ref l) (upd H l (.tup ys))) ∨ SqT K H p ys ∧ Q (.ref p) H)

/-! ### what stays -/
def But (d : Addr) (H H' : Hp) : Prop := ∀ b o, b ≠ d → H b = some o → H' b = some o
theorem But.refl (d : Addr) (H : Hp) : But d H H := fun _ _ _ h => h
theorem But.trans {d : Addr} {H H1 H2 : Hp} (a : But d H H1) (b : But d H1 H2) : But d H H2 := fun x o n h => b x o n (a x o n h)
theorem But.of {d : Addr} {H H' : Hp} (a : Same H H') : But d H H' := fun x o _ h => a x o h
theorem But.new {d p : Addr} {H : Hp} {o : HO} (h : H p = none) : But d H (upd H p o) := fun b u _ e => by
  rw [upd_ne (ne_of_none e h)]
  exact e
theorem But.set {d : Addr} {H : Hp} {o : HO} : But d H (upd H d o) := fun b u n e => by
  rw [upd_ne n]
  exact e
theorem But.fresh {d p : Addr} {H H' : Hp} (a : But d H H') (hd : ∃ o, H' d = some o) (h : H' p = none) : H p = none := by
  cases e : H p with
  | none => rfl
  | some o =>
    by_cases z : p = d
    · obtain ⟨u, hu⟩ := hd
      rw [z, hu] at h
      cases h
    · rw [a p o z e] at h
      cases h
theorem Same.new {p : Addr} {H : Hp} {o : HO} (h : H p = none) : Same H (upd H p o) := fun b u e => by
  rw [upd_ne (ne_of_none e h)]
  exact e

/-- behind a new object, named by «generalize g : upd H p _ = H'» -/
theorem new_of {H H' : Hp} {p : Addr} {o : HO} (g : upd H p o = H') (hp : H p = none) : Same H H' ∧ H' p = some o := by
  subst g
  exact ⟨Same.new hp, upd_same⟩
theorem set_of {H H' : Hp} {p : Addr} {o : HO} (g : upd H p o = H') : But p H H' ∧ H' p = some o := by
  subst g
  exact ⟨But.set, upd_same⟩

/-! ### the draws -/
/-- the cells at c, the deck at d, at most n draws so far -/
structure Deck (H : Hp) (d c : Addr) (n : Nat) : Prop where
  ex : ∃ (ns : List Int) (i l m t : Int), H d = some (.lst [.ref c, .int i, .int l, .int m, .int t]) ∧ H c = some (.lst (ns.map V.int)) ∧ 0 ≤ i ∧ i ≤ n ∧ 0 ≤ m ∧ m ≤ n
theorem Deck.there {H : Hp} {d c : Addr} {n : Nat} (h : Deck H d c n) : ∃ o, H d = some o := by
  obtain ⟨ns, i, l, m, t, e, _⟩ := h.ex
  exact ⟨_, e⟩
theorem Deck.some {H : Hp} {d c : Addr} {n : Nat} (h : Deck H d c n) : ∃ xs, H d = some (.lst xs) := by
  obtain ⟨ns, i, l, m, t, e, _⟩ := h.ex
  exact ⟨_, e⟩
theorem Deck.ne {H : Hp} {d c : Addr} {n : Nat} (h : Deck H d c n) : c ≠ d := by
  obtain ⟨ns, i, l, m, t, e, e2, _⟩ := h.ex
  intro z
  rw [z, e] at e2
  cases ns with
  | nil => cases e2
  | cons x r => cases e2
theorem Deck.mono {H : Hp} {d c : Addr} {n k : Nat} (h : Deck H d c n) (l : n ≤ k) : Deck H d c k := by
  obtain ⟨ns, i, l, m, t, e, e2, h1, h2, h3, h4⟩ := h.ex
  exact ⟨ns, i, l, m, t, e, e2, h1, by omega, h3, by omega⟩
theorem Deck.same {H H' : Hp} {d c : Addr} {n : Nat} (h : Deck H d c n) (a : Same H H') : Deck H' d c n := by
  obtain ⟨ns, i, l, m, t, e, e2, r⟩ := h.ex
  exact ⟨ns, i, l, m, t, a _ _ e, a _ _ e2, r⟩
theorem Deck.new {H : Hp} {d c p : Addr} {n : Nat} {o : HO} (h : Deck H d c n) (hp : H p = none) : Deck (upd H p o) d c n := h.same (Same.new hp)
/-- something else than the deck and its cells is written -/
theorem Deck.off {H : Hp} {d c p : Addr} {n : Nat} {o : HO} (h : Deck H d c n) (h1 : p ≠ d) (h2 : p ≠ c) : Deck (upd H p o) d c n := by
  obtain ⟨ns, i, l, m, t, e, e2, r⟩ := h.ex
  exact ⟨ns, i, l, m, t, by rw [upd_ne (Ne.symm h1)]; exact e, by rw [upd_ne (Ne.symm h2)]; exact e2, r⟩
/-- a list of our own grows -/
theorem But.own {d p : Addr} {H H' : Hp} {o : HO} (a : But d H H') (hp : H p = none) : But d H (upd H' p o) := fun b u n e => by
  rw [upd_ne (ne_of_none e hp)]
  exact a b u n e
theorem Deck.out {H : Hp} {d c p : Addr} {n : Nat} (h : Deck H d c n) (hp : H p = none) : p ≠ d ∧ p ≠ c := by
  obtain ⟨ns, i, l, m, t, e, e2, r⟩ := h.ex
  exact ⟨(ne_of_none e hp).symm, (ne_of_none e2 hp).symm⟩
/-- an object that is no list stays -/
theorem But.tup {d c p : Addr} {n : Nat} {H H' : Hp} {xs : List V} (a : But d H H') (h : Deck H d c n) (e : H p = some (.tup xs)) : H' p = some (.tup xs) := by
  obtain ⟨ys, q⟩ := h.some
  exact a p _ (ne_of e q (fun z => by cases z)) e

/-- a slice from the first on -/
theorem cut_to (xs : List V) (n : Nat) : cutV xs none (some (n : Int)) = xs.take n := by
  unfold cutV
  rw [HT.sIx_none, HT.sIx_nat]
  show List.take (min n xs.length - 0) (xs.drop 0) = _
  rw [List.drop_zero, Nat.sub_zero]
  by_cases h : n ≤ xs.length
  · rw [Nat.min_eq_left h]
  · rw [Nat.min_eq_right (by omega), List.take_length, List.take_of_length_le (by omega)]
/-- a slice from the n-th on -/
theorem cut_from (xs : List V) (n : Nat) : cutV xs (some (n : Int)) none = xs.drop n := by
  unfold cutV
  rw [HT.sIx_none, HT.sIx_nat]
  by_cases h : n ≤ xs.length
  · rw [Nat.min_eq_left h]
    exact List.take_of_length_le (by rw [List.length_drop]; omega)
  · rw [Nat.min_eq_right (by omega), Nat.sub_self, List.take_zero, List.drop_eq_nil_of_le (by omega)]

/-- a while's next turn -/
def Nx (W : Nat → L2.St → Hp → Prop) (m : Nat) : L2.St → Hp → Prop := fun σ' H' => ∃ m', m' < m ∧ W m' σ' H'
theorem Nx.id {W : Nat → L2.St → Hp → Prop} {m : Nat} : ∀ σ' H', Nx W m σ' H' → ∃ m', m' < m ∧ W m' σ' H' := fun _ _ h => h

theorem small5 {n : Nat} (h : n < 100000) : n < sizeLine := Nat.lt_of_lt_of_le h (by decide)

/-- a divisor's, a factor's bound -/
theorem divW {i j : Int} (b : Nat) (h : 0 < j) (hb : j < 2 ^ b) (h0 : 0 < b := by decide) (h9 : b ≤ 9000 := by decide) : CDivW i j := wide_div h (b := b) (by
  have e : ((2 ^ b : Nat) : Int) = (2 : Int) ^ b := by simp
  omega) h0 h9
end Fx

namespace Fx
open PySem PySem.Spec PyProof.Rows L2
/-! ### lists of numbers as they stand -/
def ivs (l : List Nat) : List V := l.map fun (k : Nat) => V.int (k : Int)
theorem ivs_map (l : List Nat) : ivs l = (l.map fun (k : Nat) => (k : Int)).map V.int := by
  unfold ivs
  rw [List.map_map]
  rfl
theorem ivs_append (l r : List Nat) : ivs (l ++ r) = ivs l ++ ivs r := List.map_append
theorem ivs_length (l : List Nat) : (ivs l).length = l.length := List.length_map ..
theorem ivs_reverse (l : List Nat) : (ivs l).reverse = ivs l.reverse := by
  unfold ivs
  rw [List.map_reverse]
theorem ivs_get {l : List Nat} {i : Nat} {x : V} (h : (ivs l)[i]? = some x) : ∃ k, l[i]? = some k ∧ x = V.int (k : Int) := by
  unfold ivs at h
  rw [List.getElem?_map] at h
  cases e : l[i]? with
  | none => rw [e] at h; cases h
  | some k =>
    rw [e] at h
    exact ⟨k, rfl, (Option.some.inj h).symm⟩
theorem ivs_at {l : List Nat} {i k : Nat} (h : l[i]? = some k) : (ivs l)[i]? = some (V.int (k : Int)) := by
  unfold ivs
  rw [List.getElem?_map, h]
  rfl
theorem sum_cast : ∀ l : List Nat, (l.map fun (k : Nat) => (k : Int)).sum = ((l.sum : Nat) : Int)
  | [] => rfl
  | a :: r => by
    rw [List.map_cons, List.sum_cons, List.sum_cons, sum_cast r]
    simp
theorem same_own {H H' : Hp} {p : Addr} {o : HO} (a : Same H H') (hp : H p = none) : Same H (upd H' p o) := fun b u e => by
  rw [upd_ne (ne_of_none e hp)]
  exact a b u e

/-! ### data that are compared -/
def dInts (l : List Int) : List PyData := l.map PyData.int
theorem dpAll_ints {K : PySem.W.Frag} {H : Hp} : ∀ l : List Int, DpAll K H (l.map V.int) (dInts l)
  | [] => .nil
  | a :: r => .cons (.int a) (dpAll_ints r)
theorem dpAll_ivs {K : PySem.W.Frag} {H : Hp} (l : List Nat) : DpAll K H (ivs l) (dInts (l.map fun (k : Nat) => (k : Int))) := by
  rw [ivs_map]
  exact dpAll_ints _
theorem canLay_ints : ∀ l : List Int, PyData.canLayAll0 (dInts l) = true
  | [] => rfl
  | a :: r => by
    unfold dInts
    rw [List.map_cons, PyData.canLayAll0]
    have h := canLay_ints r
    unfold dInts at h
    rw [h]
    rfl
theorem depth_ints : ∀ l : List Int, PyData.depthAll (dInts l) ≤ 1
  | [] => by unfold dInts; rw [List.map_nil]; unfold PyData.depthAll; decide
  | a :: r => by
    have h := depth_ints r
    unfold dInts at h ⊢
    rw [List.map_cons]
    unfold PyData.depthAll PyData.depth
    omega
theorem shaped_list {ds : List PyData} (h : PyData.canLayAll0 ds = true) (d : PyData.depthAll ds ≤ 60) : SeqAt.shaped (.list ds) = true := by
  unfold SeqAt.shaped
  rw [Bool.and_eq_true]
  refine ⟨by rw [PyData.canLay0]; exact h, decide_eq_true ?_⟩
  unfold PyData.depth
  omega
theorem shaped_tup {ds : List PyData} (h : PyData.canLayAll0 ds = true) (d : PyData.depthAll ds ≤ 60) : SeqAt.shaped (.tuple ds) = true := by
  unfold SeqAt.shaped
  rw [Bool.and_eq_true]
  refine ⟨by rw [PyData.canLay0]; exact h, decide_eq_true ?_⟩
  unfold PyData.depth
  omega
theorem shaped_ints (l : List Int) : SeqAt.shaped (.list (dInts l)) = true := shaped_list (canLay_ints l) (Nat.le_trans (depth_ints l) (by decide))
theorem shaped_tints (l : List Int) : SeqAt.shaped (.tuple (dInts l)) = true := shaped_tup (canLay_ints l) (Nat.le_trans (depth_ints l) (by decide))
theorem eqv_same {d : PyData} (h : SeqAt.shaped d = true) : PyData.eqv d d = true := SeqAt.eqv_refl d (SeqAt.canLay_of_shaped h)
end Fx

namespace Fx
/-! ### figures -/
/-- figures, the least place first -/
def lsd (b n : Nat) : List Nat := if h : 2 ≤ b ∧ b ≤ n then (n % b) :: lsd b (n / b) else [n]
termination_by n
decreasing_by exact Nat.div_lt_self (by omega) (by omega)
theorem lsd_lt {b n : Nat} (h : n < b) : lsd b n = [n] := by
  rw [lsd, dif_neg (by omega)]
theorem lsd_ge {b n : Nat} (hb : 2 ≤ b) (h : b ≤ n) : lsd b n = n % b :: lsd b (n / b) := by
  rw [lsd, dif_pos ⟨hb, h⟩]
theorem lsd_split {b r : Nat} (hb : 2 ≤ b) : lsd b r = r % b :: (if r / b = 0 then [] else lsd b (r / b)) := by
  by_cases h : b ≤ r
  · have : r / b ≠ 0 := by
      have := Nat.div_pos h (by omega)
      omega
    rw [if_neg this, lsd_ge hb h]
  · rw [if_pos (Nat.div_eq_of_lt (by omega)), lsd_lt (by omega), Nat.mod_eq_of_lt (by omega)]
theorem lsd_below {b : Nat} (hb : 2 ≤ b) : ∀ n : Nat, ∀ d ∈ lsd b n, d < b := fun n => by
  induction n using Nat.strongRecOn with
  | ind n ih =>
    intro d hd
    by_cases h : b ≤ n
    · rw [lsd_ge hb h] at hd
      rcases List.mem_cons.mp hd with rfl | hd
      · exact Nat.mod_lt _ (by omega)
      · exact ih (n / b) (Nat.div_lt_self (by omega) (by omega)) d hd
    · rw [lsd_lt (by omega)] at hd
      cases List.mem_singleton.mp hd
      omega
theorem lsd_ne {b n : Nat} : lsd b n ≠ [] := by
  rw [lsd]
  split <;> simp
theorem lsd_len {b : Nat} (hb : 2 ≤ b) : ∀ (k n : Nat), n < b ^ (k + 1) → (k = 0 ∨ b ^ k ≤ n) → (lsd b n).length = k + 1
  | 0, n, h, _ => by
    rw [Nat.zero_add, Nat.pow_one] at h
    rw [lsd_lt h]
    rfl
  | k + 1, n, h, g => by
    have g' : b ^ (k + 1) ≤ n := by
      rcases g with g | g
      · omega
      · exact g
    have p : 0 < b ^ k := Nat.pow_pos (by omega)
    have h1 : b ≤ n := by
      rw [Nat.pow_succ] at g'
      have := Nat.mul_le_mul_right b (show 1 ≤ b ^ k by omega)
      omega
    rw [lsd_ge hb h1, List.length_cons, lsd_len hb k (n / b)]
    · rw [Nat.div_lt_iff_lt_mul (by omega), ← Nat.pow_succ]
      exact h
    · right
      rw [Nat.le_div_iff_mul_le (by omega), ← Nat.pow_succ]
      exact g'
theorem lsd_get {b : Nat} (hb : 2 ≤ b) : ∀ (i n : Nat), i < (lsd b n).length → (lsd b n)[i]? = some (n / b ^ i % b)
  | 0, n, _ => by
    rw [lsd_split hb, Nat.pow_zero, Nat.div_one]
    rfl
  | i + 1, n, h => by
    rw [lsd_split hb] at h ⊢
    split at h
    · simp at h
    · rename_i hr
      rw [if_neg hr, List.getElem?_cons_succ, lsd_get hb i (n / b) (by simpa using h)]
      rw [Nat.div_div_eq_div_mul, Nat.pow_succ, Nat.mul_comm]
theorem lsd_len_le {b : Nat} (hb : 2 ≤ b) : ∀ (k n : Nat), n < 2 ^ (k + 1) → (lsd b n).length ≤ k + 1
  | 0, n, h => by
    rw [lsd_lt (by omega)]
    exact Nat.le_refl _
  | k + 1, n, h => by
    by_cases g : b ≤ n
    · rw [lsd_ge hb g, List.length_cons]
      have : n / b < 2 ^ (k + 1) := by
        rw [Nat.div_lt_iff_lt_mul (by omega)]
        have := Nat.mul_le_mul_left (2 ^ (k + 1)) hb
        rw [Nat.pow_succ] at h
        omega
      have := lsd_len_le hb k (n / b) this
      omega
    · rw [lsd_lt (by omega)]
      show 1 ≤ _
      omega
/-- figures, the greatest place first -/
def figs (b n : Nat) : List Nat := (lsd b n).reverse
theorem figs_len (b n : Nat) : (figs b n).length = (lsd b n).length := List.length_reverse ..
theorem figs_below {b n d : Nat} (hb : 2 ≤ b) (h : d ∈ figs b n) : d < b := lsd_below hb n d (List.mem_reverse.mp h)
theorem figs_le {b n : Nat} (hb : 2 ≤ b) (h : n < 2 ^ 900) : (figs b n).length ≤ 900 := by
  rw [figs_len]
  exact lsd_len_le hb 899 n h
/-! ### steps -/
def stepN (b p n : Nat) : Nat := ((figs b n).map (· ^ p)).sum
theorem sum_le_mul {l : List Nat} {m : Nat} (h : ∀ x ∈ l, x ≤ m) : l.sum ≤ l.length * m := by
  induction l with
  | nil => simp
  | cons a r ih =>
    rw [List.sum_cons, List.length_cons, Nat.succ_mul]
    have h1 := h a (List.mem_cons_self ..)
    have h2 := ih fun x hx => h x (List.mem_cons_of_mem _ hx)
    omega
theorem pow_le_base {d b p : Nat} (h : d < b) : d ^ p ≤ (b - 1) ^ p := Nat.pow_le_pow_left (by omega) p
theorem stepN_le {b p n : Nat} (hb : 2 ≤ b) : stepN b p n ≤ (figs b n).length * (b - 1) ^ p := by
  unfold stepN
  have := sum_le_mul (l := (figs b n).map (· ^ p)) (m := (b - 1) ^ p) fun x hx => by
    obtain ⟨d, hd, rfl⟩ := List.mem_map.mp hx
    exact pow_le_base (figs_below hb hd)
  rwa [List.length_map] at this
theorem worth_lt {b p : Nat} (hb : b ≤ 16) (hp : p ≤ 10) : (b - 1) ^ p < 2 ^ 40 := by
  have h1 : (b - 1) ^ p ≤ 15 ^ p := Nat.pow_le_pow_left (by omega) p
  have h2 : 15 ^ p ≤ 15 ^ 10 := Nat.pow_le_pow_right (by decide) hp
  have h3 : 15 ^ 10 < 2 ^ 40 := by decide
  omega
theorem stepN_lt {b p n : Nat} (hb : 2 ≤ b) (hb16 : b ≤ 16) (hp : p ≤ 10) (hn : n < 2 ^ 900) : stepN b p n < 2 ^ 50 := by
  have h1 := stepN_le (p := p) (n := n) hb
  have h2 := figs_le hb hn
  have h3 := worth_lt hb16 hp
  have h4 : (figs b n).length * (b - 1) ^ p ≤ 900 * 2 ^ 40 := Nat.mul_le_mul h2 (by omega)
  omega
/-- steps again and again -/
def itN (b p n : Nat) : Nat → Nat
  | 0 => n
  | k + 1 => stepN b p (itN b p n k)
theorem itN_lt {b p n : Nat} (hb : 2 ≤ b) (hb16 : b ≤ 16) (hp : p ≤ 10) (hn : n < 2 ^ 900) : ∀ k, itN b p n k < 2 ^ 900
  | 0 => hn
  | k + 1 => by
    have := stepN_lt hb hb16 hp (itN_lt hb hb16 hp hn k)
    have : itN b p n (k + 1) = stepN b p (itN b p n k) := rfl
    have e : (2 : Nat) ^ 50 ≤ 2 ^ 900 := Nat.pow_le_pow_right (by decide) (by decide)
    omega
def rowN (b p n : Nat) : Nat → List Nat
  | 0 => []
  | m + 1 => rowN b p n m ++ [itN b p n m]
theorem rowN_len (b p n : Nat) : ∀ m, (rowN b p n m).length = m
  | 0 => rfl
  | m + 1 => by
    rw [rowN, List.length_append, rowN_len b p n m]
    rfl
end Fx
namespace Fx
/-! ### the law's own figures -/
def powsN (b : Nat) : Nat → List Nat
  | 0 => []
  | k + 1 => powsN b k ++ [b ^ k]
theorem powsN_len (b : Nat) : ∀ k, (powsN b k).length = k
  | 0 => rfl
  | k + 1 => by
    rw [powsN, List.length_append, powsN_len b k]
    rfl
theorem powsN_get (b : Nat) : ∀ k i, i < k → (powsN b k)[i]? = some (b ^ i)
  | 0, _, h => by omega
  | k + 1, i, h => by
    rw [powsN]
    by_cases e : i = k
    · subst e
      rw [List.getElem?_append_right (by rw [powsN_len]; exact Nat.le_refl _), powsN_len, Nat.sub_self]
      rfl
    · rw [List.getElem?_append_left (by rw [powsN_len]; omega)]
      exact powsN_get b k i (by omega)
theorem powsN_rev {b k i : Nat} (h : i < k + 1) : (powsN b (k + 1)).reverse[i]? = some (b ^ (k - i)) := by
  rw [List.getElem?_reverse (by rw [powsN_len]; exact h), powsN_len, powsN_get b (k + 1) _ (by omega)]
  rw [show k + 1 - 1 - i = k - i by omega]
def fndN (b n k i : Nat) : List Nat := (List.range i).map fun t => n / b ^ (k - t) % b
theorem fndN_succ (b n k i : Nat) : fndN b n k (i + 1) = fndN b n k i ++ [n / b ^ (k - i) % b] := by
  unfold fndN
  rw [List.range_succ, List.map_append]
  rfl
theorem fndN_len (b n k i : Nat) : (fndN b n k i).length = i := by
  unfold fndN
  rw [List.length_map, List.length_range]
theorem fndN_all {b n k : Nat} (hb : 2 ≤ b) (h1 : n < b ^ (k + 1)) (h2 : k = 0 ∨ b ^ k ≤ n) : fndN b n k (k + 1) = figs b n := by
  have hl := lsd_len hb k n h1 h2
  refine List.ext_getElem? fun i => ?_
  by_cases hi : i < k + 1
  · unfold figs fndN
    rw [List.getElem?_reverse (by rw [hl]; exact hi), hl, lsd_get hb _ n (by rw [hl]; omega), List.getElem?_map, List.getElem?_range hi]
    have e : k + 1 - 1 - i = k - i := by omega
    rw [e]
    rfl
  · rw [List.getElem?_eq_none (by rw [fndN_len]; omega), List.getElem?_eq_none (by rw [figs_len, hl]; omega)]
theorem fig_div {b n j : Nat} : n % b ^ (j + 1) / b ^ j = n / b ^ j % b := by
  rw [Nat.pow_succ, Nat.mod_mul_right_div_self]
theorem fig_mod {b n j : Nat} : n % b ^ (j + 1) % b ^ j = n % b ^ j := by
  rw [Nat.pow_succ, Nat.mod_mul_right_mod]
theorem lt_pow' {b : Nat} (hb : 2 ≤ b) : ∀ k : Nat, k < b ^ k
  | 0 => by rw [Nat.pow_zero]; decide
  | k + 1 => by
    have := lt_pow' hb k
    rw [Nat.pow_succ]
    have := Nat.mul_le_mul_left (b ^ k) hb
    omega
open L2 in
theorem divN {x : Int} {j : Nat} (h0 : 0 < j) (h : j < 2 ^ 900) : CDivW x (j : Int) := wide_div (b := 900) (by omega) h (by decide) (by decide)
end Fx

namespace Fx
open PySem PySem.Spec PyProof.Rows L2
/-- the greatest power that a base lets -/
def mosts : List Int := [10, 9, 6, 4, 4, 3, 3, 3, 3, 3, 2, 2, 2, 2, 2]
def mostOf (b : Int) : Int := mosts.getD (b - 2).toNat 0
def OkPair (b p : Int) : Prop := 2 ≤ b ∧ b ≤ 16 ∧ 1 ≤ p ∧ p ≤ mostOf b
/-- all of a pair's places, to be shown one by one -/
def pairsAll : List (Int × Int) := (List.range 15).flatMap fun (i : Nat) => (List.range (mosts.getD i 0).toNat).map fun (j : Nat) => (((i : Nat) : Int) + 2, ((j : Nat) : Int) + 1)
theorem OkPair.mem {b p : Int} (h : OkPair b p) : (b, p) ∈ pairsAll := by
  obtain ⟨h1, h2, h3, h4⟩ := h
  refine List.mem_flatMap.mpr ⟨(b - 2).toNat, List.mem_range.mpr (by omega), List.mem_map.mpr ⟨(p - 1).toNat, List.mem_range.mpr ?_, ?_⟩⟩
  · unfold mostOf at h4
    omega
  · show (((b - 2).toNat : Int) + 2, ((p - 1).toNat : Int) + 1) = (b, p)
    rw [Prod.mk.injEq]
    omega
theorem OkPair.all {P : Int → Int → Prop} {b p : Int} (h : OkPair b p) (a : ∀ q ∈ pairsAll, P q.1 q.2) : P b p := a _ h.mem
theorem OkPair.le10 {b p : Int} (h : OkPair b p) : p ≤ 10 := h.all (P := fun _ p => p ≤ 10) (by decide +kernel)
/-- what the greatest figure is worth -/
def worth (b p : Int) : Int := (b - 1) ^ p.toNat
theorem OkPair.worth {b p : Int} (h : OkPair b p) : 1 ≤ worth b p ∧ worth b p ≤ 1000 + 24 := h.all (P := fun b p => 1 ≤ Fx.worth b p ∧ Fx.worth b p ≤ 1024) (by decide +kernel)
theorem most_pos {b : Int} (h1 : 2 ≤ b) (h2 : b ≤ 16) : 1 ≤ mostOf b ∧ mostOf b ≤ 10 := by
  have a : ∀ i ∈ List.range 15, 1 ≤ mosts.getD i 0 ∧ mosts.getD i 0 ≤ 10 := by decide +kernel
  exact a (b - 2).toNat (List.mem_range.mpr (by omega))
theorem most_at {b : Int} (h1 : 2 ≤ b) (h2 : b ≤ 16) : atI (mosts.map V.int) (b - 2) = some (.int (mostOf b)) := by
  have hi : (b - 2).toNat < mosts.length := by
    show (b - 2).toNat < 15
    omega
  have z : (mosts.map V.int)[(b - 2).toNat]? = some (.int (mostOf b)) := by
    rw [List.getElem?_map, List.getElem?_eq_getElem hi]
    unfold mostOf
    rw [List.getD_eq_getElem?_getD, List.getElem?_eq_getElem hi]
    rfl
  have y := atI_nat z
  rw [show (((b - 2).toNat : Nat) : Int) = b - 2 by omega] at y
  exact y
/-- a pair's tuple as it stands -/
def PairAt (H : Hp) (v : V) (b p : Int) : Prop := ∃ a, v = .ref a ∧ H a = some (.tup [.int b, .int p]) ∧ OkPair b p
theorem PairAt.but {H H' : Hp} {d c : Addr} {n : Nat} {v : V} {b p : Int} (h : PairAt H v b p) (D : Deck H d c n) (e : But d H H') : PairAt H' v b p := by
  obtain ⟨a, e1, e2, e3⟩ := h
  exact ⟨a, e1, e.tup D e2, e3⟩
theorem PairAt.same {H H' : Hp} {v : V} {b p : Int} (h : PairAt H v b p) (e : Same H H') : PairAt H' v b p := by
  obtain ⟨a, e1, e2, e3⟩ := h
  exact ⟨a, e1, e _ _ e2, e3⟩
theorem PairAt.upd {H : Hp} {D : Addr} {xs : List V} {o : HO} {v : V} {b p : Int} (h : PairAt H v b p) (e : H D = some (.lst xs)) : PairAt (upd H D o) v b p := by
  obtain ⟨a, e1, e2, e3⟩ := h
  exact ⟨a, e1, by rw [upd_ne (ne_of e2 e fun z => by cases z)]; exact e2, e3⟩
/-- all things of a list are pairs -/
def Pairs (H : Hp) (xs : List V) : Prop := ∀ v ∈ xs, ∃ b p, PairAt H v b p
theorem Pairs.mono {H H' : Hp} {xs : List V} (h : Pairs H xs) (k : ∀ v b p, PairAt H v b p → PairAt H' v b p) : Pairs H' xs := fun v hv => by
  obtain ⟨b, p, q⟩ := h v hv
  exact ⟨b, p, k v b p q⟩
theorem Pairs.app {H : Hp} {xs ys : List V} (h : Pairs H xs) (g : Pairs H ys) : Pairs H (xs ++ ys) := fun v hv => (List.mem_append.mp hv).elim (h v) (g v)
theorem Pairs.rev {H : Hp} {xs : List V} (h : Pairs H xs) : Pairs H xs.reverse := fun v hv => h v (List.mem_reverse.mp hv)
theorem Pairs.one {H : Hp} {v : V} {b p : Int} (h : PairAt H v b p) : Pairs H [v] := fun u hu => by
  cases List.mem_singleton.mp hu
  exact ⟨b, p, h⟩
/-- pairs drawn one by one: n at the start, k draws a pair -/
structure Drawn (H H' : Hp) (d c D : Addr) (n i : Nat) : Prop where
  but : But d H H'
  deck : Deck H' d c (n + 3 * i)
  list : ∃ acc, H' D = some (.lst acc) ∧ acc.length = i ∧ Pairs H' acc
theorem Drawn.next {H H1 H2 : Hp} {d c D p : Addr} {n i : Nat} {b pw : Int} (h : Drawn H H1 d c D n i) (hD : H D = none) (hd : D ≠ d) (hc : D ≠ c) (b1 : But d H1 H2) (D2 : Deck H2 d c (n + 3 * i + 3)) (e : H2 p = some (.tup [.int b, .int pw])) (ok : OkPair b pw) :
    ∃ acc, H2 D = some (.lst acc) ∧ acc.length = i ∧ Drawn H (L2.upd H2 D (.lst (acc ++ [.ref p]))) d c D n (i + 1) := by
  obtain ⟨acc, e1, e2, e3⟩ := h.list
  have e4 : H2 D = some (.lst acc) := b1 _ _ hd e1
  refine ⟨acc, e4, e2, (h.but.trans b1).own hD, D2.off hd hc, acc ++ [.ref p], upd_same, by rw [List.length_append, e2]; rfl, ?_⟩
  refine Pairs.app ?_ (Pairs.one (PairAt.upd ⟨p, rfl, e, ok⟩ e4))
  exact e3.mono fun v b p q => (q.but h.deck b1).upd e4
end Fx

namespace Fx
open PySem PySem.Spec PyProof.Rows L2
/-- the least length from which on numbers go down, w the worth of the greatest figure -/
structure IsLen (b w : Int) (L : Nat) : Prop where
  two : 2 ≤ L
  less : (L : Int) * w < b ^ (L - 1)
  least : ∀ k : Nat, 2 ≤ k → k < L → b ^ (k - 1) ≤ (k : Int) * w
theorem IsLen.uniq {b w : Int} {L M : Nat} (h : IsLen b w L) (g : IsLen b w M) : L = M := by
  rcases Nat.lt_trichotomy L M with l | l | l
  · have := g.least L h.two l
    have := h.less
    omega
  · exact l
  · have := h.least M g.two l
    have := g.less
    omega
theorem pow_mono {a b : Int} (h0 : 0 ≤ a) (h : a ≤ b) : ∀ n : Nat, a ^ n ≤ b ^ n
  | 0 => by rw [Int.pow_zero, Int.pow_zero]; exact Int.le_refl _
  | n + 1 => by
    rw [Int.pow_succ, Int.pow_succ]
    have i := pow_mono h0 h n
    have p : 0 ≤ a ^ n := Int.pow_nonneg h0
    exact Int.le_trans (Int.mul_le_mul_of_nonneg_right i h0) (Int.mul_le_mul_of_nonneg_left h (Int.le_trans p i))
theorem pow_pos {a : Int} (h : 0 < a) (n : Nat) : 0 < a ^ n := Int.pow_pos h
/-- at fifteen figures all is shown -/
theorem len15 {b w : Int} (h : 2 ≤ b) (hw : w ≤ 1024) : (15 : Int) * w < b ^ 14 := by
  have i := pow_mono (a := 2) (b := b) (by decide) h 14
  have e : (2 : Int) ^ 14 = 16384 := by decide
  omega
theorem len_step {b w : Int} {L : Nat} (h : ∀ k : Nat, 2 ≤ k → k < L → b ^ (k - 1) ≤ (k : Int) * w) (t : b ^ (L - 1) ≤ (L : Int) * w) : ∀ k : Nat, 2 ≤ k → k < L + 1 → b ^ (k - 1) ≤ (k : Int) * w := fun k h2 hk => by
  by_cases e : k = L
  · rw [e]
    exact t
  · exact h k h2 (by omega)
theorem len_lt {b w : Int} {L : Nat} (h : 2 ≤ b) (hw : w ≤ 1024) (l : L ≤ 15) (t : b ^ (L - 1) ≤ (L : Int) * w) : L < 15 := by
  by_cases e : L = 15
  · subst e
    have := len15 h hw
    have t' : b ^ 14 ≤ ((15 : Nat) : Int) * w := t
    omega
  · omega
/-- there is one -/
theorem len_ex {b w : Int} (h : 2 ≤ b) (hw : w ≤ 1024) : ∃ L : Nat, IsLen b w L ∧ L ≤ 15 := by
  have go : ∀ k L : Nat, 15 - L = k → 2 ≤ L → L ≤ 15 → (∀ j : Nat, 2 ≤ j → j < L → b ^ (j - 1) ≤ (j : Int) * w) → ∃ L : Nat, IsLen b w L ∧ L ≤ 15 := by
    intro k
    induction k with
    | zero =>
      intro L e l2 l15 ih
      refine ⟨L, ⟨l2, ?_, ih⟩, l15⟩
      obtain rfl : L = 15 := by omega
      exact len15 h hw
    | succ k ihk =>
      intro L e l2 l15 ih
      by_cases t : b ^ (L - 1) ≤ (L : Int) * w
      · exact ihk (L + 1) (by omega) (by omega) (by omega) (len_step ih t)
      · exact ⟨L, ⟨l2, by omega, ih⟩, l15⟩
  exact go 13 2 rfl (by decide) (by decide) fun j _ _ => by omega
end Fx

namespace Fx
/-! ### a step by its last figure, by parts -/
theorem zero_pow' {p : Nat} (h : 1 ≤ p) : 0 ^ p = 0 := Nat.zero_pow (by omega)
theorem stepN_lt_base {b p n : Nat} (h : n < b) : stepN b p n = n ^ p := by
  unfold stepN figs
  rw [lsd_lt h]
  show n ^ p + 0 = _
  omega
theorem stepN_zero {b p : Nat} (hb : 2 ≤ b) (hp : 1 ≤ p) : stepN b p 0 = 0 := by
  rw [stepN_lt_base (by omega), zero_pow' hp]
theorem sum_rev : ∀ l : List Nat, l.reverse.sum = l.sum
  | [] => rfl
  | a :: r => by
    rw [List.reverse_cons, List.sum_append, sum_rev r, List.sum_cons, List.sum_cons, List.sum_nil]
    omega
theorem stepN_lsd (b p n : Nat) : stepN b p n = ((lsd b n).map (· ^ p)).sum := by
  unfold stepN figs
  rw [List.map_reverse, sum_rev]
theorem stepN_rec {b p : Nat} (hb : 2 ≤ b) (hp : 1 ≤ p) (n : Nat) : stepN b p n = stepN b p (n / b) + (n % b) ^ p := by
  by_cases h : b ≤ n
  · rw [stepN_lsd, stepN_lsd, lsd_ge hb h, List.map_cons, List.sum_cons]
    omega
  · rw [stepN_lt_base (by omega), Nat.div_eq_of_lt (by omega), stepN_zero hb hp, Nat.mod_eq_of_lt (by omega)]
    omega
theorem stepN_push {b p x f : Nat} (hb : 2 ≤ b) (hp : 1 ≤ p) (hf : f < b) : stepN b p (x * b + f) = stepN b p x + f ^ p := by
  have e1 : (x * b + f) / b = x := by
    rw [Nat.mul_comm, Nat.mul_add_div (by omega), Nat.div_eq_of_lt hf]
    omega
  have e2 : (x * b + f) % b = f := by
    rw [Nat.mul_comm, Nat.mul_add_mod, Nat.mod_eq_of_lt hf]
  rw [stepN_rec hb hp, e1, e2]
theorem step_split {b p : Nat} (hb : 2 ≤ b) (hp : 1 ≤ p) : ∀ (k y r : Nat), r < b ^ k → stepN b p (y * b ^ k + r) = stepN b p y + stepN b p r
  | 0, y, r, h => by
    rw [Nat.pow_zero] at h
    have : r = 0 := by omega
    subst this
    rw [Nat.pow_zero, Nat.mul_one, stepN_zero hb hp]
    rfl
  | k + 1, y, r, h => by
    have e0 : y * b ^ (k + 1) + r = (y * b ^ k + r / b) * b + r % b := by
      have ep : b ^ k * b = b ^ (k + 1) := by rw [Nat.pow_succ]
      rw [Nat.add_mul, Nat.mul_assoc, ep]
      have := Nat.div_add_mod r b
      rw [Nat.mul_comm] at this
      omega
    have h1 : r / b < b ^ k := by
      rw [Nat.div_lt_iff_lt_mul (by omega), ← Nat.pow_succ]
      exact h
    rw [e0, stepN_push hb hp (Nat.mod_lt _ (by omega)), step_split hb hp k y (r / b) h1, stepN_rec hb hp r]
    omega
/-! ### lengths -/
theorem len_pow {b : Nat} (hb : 2 ≤ b) : ∀ n : Nat, 0 < n → b ^ ((figs b n).length - 1) ≤ n := fun n => by
  induction n using Nat.strongRecOn with
  | ind n ih =>
    intro h0
    by_cases h : b ≤ n
    · have i := ih (n / b) (Nat.div_lt_self (by omega) (by omega)) (Nat.div_pos h (by omega))
      rw [figs_len] at i ⊢
      rw [lsd_ge hb h, List.length_cons]
      have l0 : 0 < (lsd b (n / b)).length := List.length_pos_iff.mpr lsd_ne
      have e : (lsd b (n / b)).length + 1 - 1 = (lsd b (n / b)).length - 1 + 1 := by omega
      rw [e, Nat.pow_succ]
      have := Nat.mul_le_mul_right b i
      have := Nat.div_mul_le_self n b
      omega
    · rw [figs_len, lsd_lt (by omega)]
      exact h0
theorem len_gt {b n k : Nat} (hb : 2 ≤ b) (h : b ^ k ≤ n) : k < (figs b n).length := by
  refine Nat.lt_of_not_le fun z => ?_
  rw [figs_len] at z
  have up : ∀ m : Nat, n < b ^ (lsd b m).length ∨ m ≠ n := fun m => by
    by_cases e : m = n
    · subst e
      have go : ∀ m : Nat, m < b ^ (lsd b m).length := fun m => by
        induction m using Nat.strongRecOn with
        | ind m ih =>
          by_cases g : b ≤ m
          · rw [lsd_ge hb g, List.length_cons, Nat.pow_succ]
            have i := ih (m / b) (Nat.div_lt_self (by omega) (by omega))
            have := Nat.div_add_mod m b
            have := Nat.mod_lt m (show 0 < b by omega)
            have := Nat.mul_le_mul_right b (show m / b + 1 ≤ b ^ (lsd b (m / b)).length from i)
            rw [Nat.succ_mul, Nat.mul_comm (m / b) b] at this
            omega
          · rw [lsd_lt (by omega)]
            show m < b ^ 1
            rw [Nat.pow_one]
            omega
      exact .inl (go m)
    · exact .inr e
  rcases up n with u | u
  · have := Nat.pow_le_pow_right (show 0 < b by omega) z
    omega
  · exact u rfl
/-! ### what goes down -/
/-- the worth of the greatest figure -/
theorem worth_nat (b p : Nat) (hb : 1 ≤ b) : worth (b : Int) (p : Int) = (((b - 1) ^ p : Nat) : Int) := by
  unfold worth
  have e : (b : Int) - 1 = ((b - 1 : Nat) : Int) := by omega
  rw [e, Int.toNat_natCast, Int.natCast_pow]
theorem len_moreN {b w L : Nat} (h1 : L * w < b ^ (L - 1)) (hL : 2 ≤ L) (h2 : 2 ≤ b) : ∀ k : Nat, (L + k) * w < b ^ (L + k - 1)
  | 0 => h1
  | k + 1 => by
    have i := len_moreN h1 hL h2 k
    have e : b ^ (L + (k + 1) - 1) = b ^ (L + k - 1) * b := by
      rw [← Nat.pow_succ]
      congr 1
      omega
    have a1 : (L + (k + 1)) * w = (L + k) * w + w := by
      rw [← Nat.add_assoc, Nat.succ_mul]
    have a2 : w ≤ (L + k) * w := Nat.le_mul_of_pos_left w (by omega)
    have a3 : b ^ (L + k - 1) * 2 ≤ b ^ (L + k - 1) * b := Nat.mul_le_mul_left _ h2
    omega
theorem IsLen.nat {b p L : Nat} (hb : 2 ≤ b) (h : IsLen (b : Int) (worth (b : Int) (p : Int)) L) : L * (b - 1) ^ p < b ^ (L - 1) := by
  have := h.less
  rw [worth_nat b p (by omega), ← Int.natCast_mul, ← Int.natCast_pow] at this
  exact Int.ofNat_lt.mp this
theorem goes_down {b p L n : Nat} (hb : 2 ≤ b) (h : IsLen (b : Int) (worth (b : Int) (p : Int)) L) (hn : b ^ (L - 1) ≤ n) : stepN b p n < n := by
  have h1 := h.nat hb
  have l := len_gt hb hn
  have le := stepN_le (p := p) (n := n) hb
  have m := len_moreN h1 h.two hb ((figs b n).length - L)
  have h2 := h.two
  rw [show L + ((figs b n).length - L) = (figs b n).length by omega] at m
  have n0 : 0 < n := Nat.lt_of_lt_of_le (Nat.pow_pos (by omega)) hn
  have := len_pow hb n n0
  omega
/-- the greatest number whose step is no less -/
structure IsKept (b p G : Nat) : Prop where
  kept : G ≤ stepN b p G
  down : ∀ n, G < n → stepN b p n < n
theorem IsKept.uniq {b p G H : Nat} (h : IsKept b p G) (g : IsKept b p H) : G = H := by
  rcases Nat.lt_trichotomy G H with l | l | l
  · have := h.down H l
    have := g.kept
    omega
  · exact l
  · have := g.down G l
    have := h.kept
    omega
/-! ### place by place -/
def gain (b p j f : Nat) : Int := ((f ^ p : Nat) : Int) - (f : Int) * ((b ^ j : Nat) : Int)
def gainRow (b p j : Nat) : List Int := (List.range b).map (gain b p j)
theorem gainRow_len (b p j : Nat) : (gainRow b p j).length = b := by
  unfold gainRow
  rw [List.length_map, List.length_range]
theorem gainRow_get {b p j f : Nat} (h : f < b) : (gainRow b p j)[f]? = some (gain b p j f) := by
  unfold gainRow
  rw [List.getElem?_map, List.getElem?_range h]
  rfl
def rowMax (b p j : Nat) : Int := (gainRow b p j).max?.getD 0
theorem rowMax_spec {b p j : Nat} (hb : 2 ≤ b) : rowMax b p j ∈ gainRow b p j ∧ ∀ y ∈ gainRow b p j, y ≤ rowMax b p j := by
  unfold rowMax
  cases e : (gainRow b p j).max? with
  | none =>
    rw [List.max?_eq_none_iff] at e
    have := gainRow_len b p j
    rw [e] at this
    have e0 : (0 : Nat) = b := this
    omega
  | some m =>
    exact (List.max?_eq_some_iff).mp e
theorem rowMax_uniq {b p j : Nat} {m : Int} (hb : 2 ≤ b) (h1 : m ∈ gainRow b p j) (h2 : ∀ y ∈ gainRow b p j, y ≤ m) : m = rowMax b p j := by
  have s := rowMax_spec (p := p) (j := j) hb
  have := h2 _ s.1
  have := s.2 _ h1
  omega
theorem gain_le {b p j f : Nat} (hb : 2 ≤ b) (h : f < b) : gain b p j f ≤ rowMax b p j := (rowMax_spec hb).2 _ (List.mem_of_getElem? (gainRow_get h))
def restMax (b p : Nat) : Nat → Int
  | 0 => 0
  | k + 1 => restMax b p k + rowMax b p k
/-- what a number's step has beyond it, its figures at k places behind -/
def over (b p x k : Nat) : Int := (stepN b p x : Int) - (x : Int) * ((b ^ k : Nat) : Int)
theorem over_push {b p x k f : Nat} (hb : 2 ≤ b) (hp : 1 ≤ p) (hf : f < b) : over b p (x * b + f) k = over b p x (k + 1) + gain b p k f := by
  unfold over gain
  rw [stepN_push hb hp hf, Nat.pow_succ]
  simp only [Int.natCast_add, Int.natCast_mul, Int.add_mul, Int.mul_assoc, Int.mul_comm, Int.mul_left_comm]
  omega
theorem over_split {b p k y r : Nat} (hb : 2 ≤ b) (hp : 1 ≤ p) (h : r < b ^ k) : over b p (y * b ^ k + r) 0 = over b p y k + over b p r 0 := by
  unfold over
  rw [step_split hb hp k y r h]
  simp only [Int.natCast_add, Int.natCast_mul, Nat.pow_zero]
  omega
theorem rest_bound {b p : Nat} (hb : 2 ≤ b) (hp : 1 ≤ p) : ∀ k r : Nat, r < b ^ k → over b p r 0 ≤ restMax b p k
  | 0, r, h => by
    rw [Nat.pow_zero] at h
    obtain rfl : r = 0 := by omega
    unfold over restMax
    rw [stepN_zero hb hp]
    simp
  | k + 1, r, h => by
    have e : r / b ^ k < b := by
      rw [Nat.div_lt_iff_lt_mul (Nat.pow_pos (by omega)), Nat.mul_comm, ← Nat.pow_succ]
      exact h
    have e0 : r = r / b ^ k * b ^ k + r % b ^ k := by
      have := Nat.div_add_mod r (b ^ k)
      rw [Nat.mul_comm] at this
      omega
    have lt := Nat.mod_lt r (show 0 < b ^ k from Nat.pow_pos (by omega))
    have i := rest_bound hb hp k (r % b ^ k) lt
    have g := gain_le (p := p) (j := k) hb e
    have z : over b p (r / b ^ k) k = gain b p k (r / b ^ k) := by
      unfold over gain
      rw [stepN_lt_base e]
    rw [e0, over_split hb hp lt, z]
    show _ ≤ restMax b p k + rowMax b p k
    omega
/-- the greatest figures one by one: m places to come, x so far, what is to spare -/
structure Greedy (b p M m x : Nat) (spare : Int) : Prop where
  is : spare = over b p x m + restMax b p m
  pos : 0 ≤ spare
  most : ∀ n, n < b ^ M → n ≤ stepN b p n → n / b ^ m ≤ x
theorem restMax_pos {b p : Nat} (hb : 2 ≤ b) (hp : 1 ≤ p) (k : Nat) : 0 ≤ restMax b p k := by
  have := rest_bound hb hp k 0 (Nat.pow_pos (by omega))
  unfold over at this
  rw [stepN_zero hb hp] at this
  simp at this
  exact this
theorem Greedy.start {b p : Nat} (hb : 2 ≤ b) (hp : 1 ≤ p) (M : Nat) : Greedy b p M M 0 (restMax b p M) := by
  refine ⟨?_, restMax_pos hb hp M, fun n h _ => ?_⟩
  · unfold over
    rw [stepN_zero hb hp]
    simp
  · rw [Nat.div_eq_of_lt h]
    exact Nat.le_refl 0
theorem Greedy.next {b p M m x f : Nat} {spare : Int} (hb : 2 ≤ b) (hp : 1 ≤ p) (g : Greedy b p M (m + 1) x spare) (hf : f < b) (h1 : rowMax b p m - spare ≤ gain b p m f)
    (h2 : ∀ e, e < b → rowMax b p m - spare ≤ gain b p m e → e ≤ f) : Greedy b p M m (x * b + f) (spare - rowMax b p m + gain b p m f) := by
  have gi := g.is
  refine ⟨?_, by omega, fun n hn hk => ?_⟩
  · rw [over_push hb hp hf]
    have : restMax b p (m + 1) = restMax b p m + rowMax b p m := rfl
    omega
  · have y1 := g.most n hn hk
    have ed : n / b ^ (m + 1) = n / b ^ m / b := by rw [Nat.pow_succ, Nat.div_div_eq_div_mul]
    rw [ed] at y1
    generalize hy : n / b ^ m = y at y1 ⊢
    have yy := Nat.div_add_mod y b
    have yl := Nat.mod_lt y (show 0 < b by omega)
    by_cases c : y / b = x
    · have e0 : n = y * b ^ m + n % b ^ m := by
        have := Nat.div_add_mod n (b ^ m)
        rw [hy, Nat.mul_comm] at this
        omega
      have lt := Nat.mod_lt n (show 0 < b ^ m from Nat.pow_pos (by omega))
      have r1 := rest_bound hb hp m (n % b ^ m) lt
      have o1 : 0 ≤ over b p n 0 := by
        unfold over
        simp only [Nat.pow_zero]
        omega
      rw [e0, over_split hb hp lt] at o1
      have ey : y = x * b + y % b := by
        rw [← c, Nat.mul_comm]
        exact yy.symm
      rw [ey, over_push hb hp yl] at o1
      have rm : restMax b p (m + 1) = restMax b p m + rowMax b p m := rfl
      have := h2 (y % b) yl (by omega)
      rw [ey]
      omega
    · have : y / b + 1 ≤ x := by omega
      have := Nat.mul_le_mul_right b this
      rw [Nat.succ_mul, Nat.mul_comm (y / b) b] at this
      omega
theorem Greedy.done {b p L x : Nat} {spare : Int} (hb : 2 ≤ b) (h : IsLen (b : Int) (worth (b : Int) (p : Int)) L) (g : Greedy b p (L - 1) 0 x spare) : IsKept b p x := by
  have gi := g.is
  have gp := g.pos
  refine ⟨?_, fun n hn => ?_⟩
  · have : restMax b p 0 = 0 := rfl
    unfold over at gi
    simp only [Nat.pow_zero] at gi
    omega
  · by_cases c : n < b ^ (L - 1)
    · refine Nat.lt_of_not_le fun z => ?_
      have := g.most n c z
      rw [Nat.pow_zero, Nat.div_one] at this
      omega
    · exact goes_down hb h (by omega)
/-- no number from here on but goes down -/
theorem down_from {b p M n : Nat} (hb : 2 ≤ b) (h : IsLen (b : Int) (worth (b : Int) (p : Int)) M) (hn : (M - 1) * (b - 1) ^ p < n) : stepN b p n < n := by
  by_cases c : b ^ (M - 1) ≤ n
  · exact goes_down hb h c
  · have l := len_pow hb n (by omega)
    have k : (figs b n).length - 1 < M - 1 := by
      refine Nat.lt_of_not_le fun z => ?_
      have := Nat.pow_le_pow_right (show 0 < b by omega) z
      omega
    have le := stepN_le (p := p) (n := n) hb
    have := Nat.mul_le_mul_right ((b - 1) ^ p) (show (figs b n).length ≤ M - 1 by omega)
    omega
/-- a step that can be reckoned -/
def stepF (b p : Nat) : Nat → Nat → Nat
  | 0, _ => 0
  | k + 1, n => stepF b p k (n / b) + (n % b) ^ p
theorem stepF_eq {b p : Nat} (hb : 2 ≤ b) (hp : 1 ≤ p) : ∀ k n : Nat, n < b ^ k → stepF b p k n = stepN b p n
  | 0, n, h => by
    rw [Nat.pow_zero] at h
    obtain rfl : n = 0 := by omega
    rw [stepN_zero hb hp]
    rfl
  | k + 1, n, h => by
    rw [stepN_rec hb hp n, ← stepF_eq hb hp k (n / b)]
    · rfl
    · rw [Nat.div_lt_iff_lt_mul (by omega), ← Nat.pow_succ]
      exact h
end Fx

namespace Fx
open PySem PySem.Spec PyProof.Rows L2
/-! ### a dict by places -/
def kvsOf (f : Nat → Int) (g : Nat → V) (L : Nat) : List (Key × V) := (List.range L).map fun i => (Sum.inl (f i), g i)
theorem kvsOf_len (f : Nat → Int) (g : Nat → V) (L : Nat) : (kvsOf f g L).length = L := by
  unfold kvsOf
  rw [List.length_map, List.length_range]
theorem kvsOf_succ (f : Nat → Int) (g : Nat → V) (L : Nat) : kvsOf f g (L + 1) = kvsOf f g L ++ [(Sum.inl (f L), g L)] := by
  unfold kvsOf
  rw [List.range_succ, List.map_append]
  rfl
theorem kvsOf_none {f : Nat → Int} {g : Nat → V} {k : Int} {L : Nat} (h : ∀ i, i < L → f i ≠ k) : valV (kvsOf f g L) (Sum.inl k : Key) = none := by
  unfold valV kvsOf
  rw [List.find?_eq_none.mpr]
  · rfl
  · intro x hx
    obtain ⟨i, hi, rfl⟩ := List.mem_map.mp hx
    rw [decide_eq_true_iff]
    intro e
    exact h i (List.mem_range.mp hi) (Sum.inl.inj e)
theorem kvsOf_some {f : Nat → Int} {g : Nat → V} : ∀ {L i : Nat}, (∀ i j, i < L → j < L → f i = f j → i = j) → i < L → valV (kvsOf f g L) (Sum.inl (f i) : Key) = some (g i)
  | 0, i, _, h => by omega
  | L + 1, i, nd, h => by
    rw [kvsOf_succ, valV_snoc _ _ _ _ (kvsOf_none fun j hj e => by
      have := nd j L (by omega) (by omega) e
      omega)]
    by_cases c : i = L
    · subst c
      rw [if_pos rfl]
    · rw [if_neg (fun e => c (nd i L h (by omega) (Sum.inl.inj e))), kvsOf_some (fun a b ha hb => nd a b (by omega) (by omega)) (by omega)]
theorem kvsOf_put {f : Nat → Int} {g : Nat → V} {L : Nat} (h : ∀ i, i < L → f i ≠ f L) : putK (kvsOf f g L) (Sum.inl (f L) : Key) (g L) = kvsOf f g (L + 1) := by
  rw [putK_new _ (kvsOf_none h), kvsOf_succ]
theorem kvsOf_keys (f : Nat → Int) (g : Nat → V) (L : Nat) : ((kvsOf f g L).map fun kv => kV kv.1) = (List.range L).map fun i => V.int (f i) := by
  unfold kvsOf
  rw [List.map_map]
  rfl
/-! ### numbers in lists -/
theorem inV_ivs (n : Nat) (l : List Nat) : inV (.int (n : Int)) (ivs l) = decide (n ∈ l) := by
  unfold inV ivs
  rw [List.any_map]
  by_cases c : n ∈ l
  · rw [decide_eq_true c, List.any_eq_true]
    refine ⟨n, c, ?_⟩
    show ((n : Int) == (n : Int)) = true
    exact beq_self_eq_true _
  · rw [decide_eq_false c, List.any_eq_false]
    intro x hx e
    have e' : ((x : Int) == (n : Int)) = true := e
    have := eq_of_beq e'
    have : x = n := by omega
    exact c (this ▸ hx)
theorem flat_ivs (l : List Nat) : (ivs l).all flatV = true := by
  unfold ivs
  rw [List.all_map, List.all_eq_true]
  intro x _
  rfl
theorem eqV_int (a b : Nat) : eqV (.int (a : Int)) (.int (b : Int)) = decide (a = b) := by
  show ((a : Int) == (b : Int)) = _
  by_cases c : a = b
  · subst c
    rw [decide_eq_true rfl]
    exact beq_self_eq_true _
  · rw [decide_eq_false c]
    exact beq_eq_false_iff_ne.mpr (by omega)
theorem dget {H : Hp} {a : Addr} {kvs : List (Key × V)} {k : Key} {r : Option V} (e : H a = some (.dK kvs)) (v : valV kvs k = r) : DGet H a (kV k) r := by
  subst v
  exact .k e
theorem small_len {n : Nat} (h : n ≤ 16000000) : n < sizeLine := Nat.lt_of_le_of_lt h (by decide)
end Fx

namespace Fx
open PySem PySem.Spec PyProof.Rows L2
/-- a pair's numbers as naturals -/
theorem OkPair.nat {b p : Int} (h : OkPair b p) : ∃ b' p' : Nat, b = (b' : Int) ∧ p = (p' : Int) ∧ 2 ≤ b' ∧ b' ≤ 16 ∧ 1 ≤ p' ∧ p' ≤ 10 := by
  obtain ⟨h1, h2, h3, h4⟩ := id h
  have h5 := h.le10
  exact ⟨b.toNat, p.toNat, by omega, by omega, by omega, by omega, by omega, by omega⟩
/-- a number with a pair and how many are asked -/
def QuadAt (H : Hp) (v : V) : Prop := ∃ (a : Addr) (n b p m : Nat), v = .ref a ∧ H a = some (.tup [.int (n : Int), .int (b : Int), .int (p : Int), .int (m : Int)]) ∧ 2 ≤ b ∧ b ≤ 16 ∧ p ≤ 10 ∧ n < 16 ^ 40 ∧ m ≤ 60
theorem QuadAt.mono {H H' : Hp} {v : V} (h : QuadAt H v) (k : ∀ a xs, H a = some (.tup xs) → H' a = some (.tup xs)) : QuadAt H' v := by
  obtain ⟨a, n, b, p, m, e1, e2, r⟩ := h
  exact ⟨a, n, b, p, m, e1, k _ _ e2, r⟩
theorem lt900 {n : Nat} (h : n < 16 ^ 40) : n < 2 ^ 900 := Nat.lt_of_lt_of_le h (by
  have e : (16 : Nat) ^ 40 = 2 ^ 160 := by decide
  rw [e]
  exact Nat.pow_le_pow_right (by decide) (by decide))
end Fx

namespace Fx
open PySem PySem.Spec PyProof.Rows L2
/-! ### own numbers -/
/-- the least number of so many figures -/
def lowOf (b m : Nat) : Nat := if m = 1 then 0 else b ^ (m - 1)
def isOwn (b m n : Nat) : Bool := decide (stepN b m n = n)
def ownN (b m : Nat) : List Nat := (List.range' (lowOf b m) (b ^ m - lowOf b m)).filter (isOwn b m)
/-- what a step has beyond its number -/
def gainOf (b m r : Nat) : Int := ((stepN b m r : Nat) : Int) - (r : Int)
def bk (b m : Nat) (g : Int) (i : Nat) : List Nat := (List.range i).filter fun r => decide (gainOf b m r = g)
theorem bk_succ (b m : Nat) (g : Int) (i : Nat) : bk b m g (i + 1) = bk b m g i ++ if gainOf b m i = g then [i] else [] := by
  unfold bk
  rw [List.range_succ, List.filter_append]
  congr 1
  by_cases c : gainOf b m i = g
  · rw [if_pos c]
    simp [c]
  · rw [if_neg c]
    simp [c]
theorem bk_len (b m : Nat) (g : Int) (i : Nat) : (bk b m g i).length ≤ i := by
  unfold bk
  exact Nat.le_trans (List.length_filter_le ..) (by rw [List.length_range]; exact Nat.le_refl _)
theorem bk_lt {b m : Nat} {g : Int} {i r : Nat} (h : r ∈ bk b m g i) : r < i := by
  unfold bk at h
  exact List.mem_range.mp (List.mem_filter.mp h).1
/-- what lacks for a number in front -/
def lackOf (b m w f : Nat) : Int := (f : Int) * (w : Int) - ((stepN b m f : Nat) : Int)
theorem own_front {b m k f : Nat} (hb : 2 ≤ b) (hm : 1 ≤ m) : (List.range' (f * b ^ k) (b ^ k)).filter (isOwn b m) = (bk b m (lackOf b m (b ^ k) f) (b ^ k)).map (f * b ^ k + ·) := by
  rw [List.range'_eq_map_range, List.filter_map]
  unfold bk
  congr 1
  refine List.filter_congr fun r hr => ?_
  have hr' := List.mem_range.mp hr
  have e := step_split hb hm k f r hr'
  unfold isOwn gainOf lackOf
  show decide (stepN b m (f * b ^ k + r) = f * b ^ k + r) = _
  rw [decide_eq_decide, e, ← Int.natCast_mul]
  generalize f * b ^ k = x
  omega
/-- found behind so many in front -/
def foundN (b m w first k : Nat) : List Nat := (List.range' (first * w) (k * w)).filter (isOwn b m)
theorem foundN_succ {b m j first k : Nat} (hb : 2 ≤ b) (hm : 1 ≤ m) : foundN b m (b ^ j) first (k + 1) = foundN b m (b ^ j) first k ++ (bk b m (lackOf b m (b ^ j) (first + k)) (b ^ j)).map ((first + k) * b ^ j + ·) := by
  unfold foundN
  rw [← own_front hb hm, ← List.filter_append, Nat.succ_mul, Nat.add_mul]
  congr 1
  have := List.range'_append (s := first * b ^ j) (m := k * b ^ j) (n := b ^ j) (step := 1)
  rw [Nat.one_mul] at this
  exact this.symm
theorem foundN_len (b m w first k : Nat) : (foundN b m w first k).length ≤ k * w := by
  unfold foundN
  exact Nat.le_trans (List.length_filter_le ..) (by rw [List.length_range']; exact Nat.le_refl _)
theorem low_at {b m : Nat} (hb : 2 ≤ b) (hm : 1 ≤ m) : (if m = 1 then 0 else b ^ (m - m / 2 - 1)) * b ^ (m / 2) = lowOf b m := by
  unfold lowOf
  by_cases c : m = 1
  · subst c
    rfl
  · rw [if_neg c, if_neg c, ← Nat.pow_add]
    congr 1
    omega
theorem found_all {b m : Nat} (hb : 2 ≤ b) (hm : 1 ≤ m) : foundN b m (b ^ (m / 2)) (if m = 1 then 0 else b ^ (m - m / 2 - 1)) (b ^ (m - m / 2) - if m = 1 then 0 else b ^ (m - m / 2 - 1)) = ownN b m := by
  unfold foundN ownN
  rw [Nat.sub_mul, low_at hb hm, ← Nat.pow_add, show m - m / 2 + m / 2 = m by omega]
theorem pow6 {b m : Nat} (h1 : b ≤ 16) (h2 : m ≤ 3) : b ^ m ≤ 4096 := by
  have a : b ^ m ≤ 16 ^ m := Nat.pow_le_pow_left h1 m
  have c : (16 : Nat) ^ m ≤ 16 ^ 3 := Nat.pow_le_pow_right (by decide) h2
  omega
theorem own_sorted (b m : Nat) : (ownN b m).Pairwise (· < ·) := by
  unfold ownN
  exact List.Pairwise.filter _ (List.pairwise_lt_range' ..)
theorem own_lt {b m n : Nat} (hm : lowOf b m ≤ b ^ m) (h : n ∈ ownN b m) : lowOf b m ≤ n ∧ n < b ^ m ∧ stepN b m n = n := by
  unfold ownN at h
  obtain ⟨h1, h2⟩ := List.mem_filter.mp h
  rw [List.mem_range'_1] at h1
  exact ⟨h1.1, by omega, of_decide_eq_true h2⟩
theorem low_le {b m : Nat} (hb : 2 ≤ b) : lowOf b m ≤ b ^ m := by
  unfold lowOf
  split
  · exact Nat.zero_le _
  · exact Nat.pow_le_pow_right (by omega) (by omega)
/-! ### the dict of lists -/
structure Backs (H0 H : Hp) (D : Addr) (b m i : Nat) (kvs : List (Key × V)) : Prop where
  at' : H D = some (.dK kvs)
  len : kvs.length ≤ i
  no : ∀ g : Int, valV kvs (Sum.inl g : Key) = none → bk b m g i = []
  yes : ∀ (g : Int) v, valV kvs (Sum.inl g : Key) = some v → ∃ a, v = .ref a ∧ H a = some (.lst (ivs (bk b m g i))) ∧ H0 a = none
  inj : ∀ (g g' : Int) a, valV kvs (Sum.inl g : Key) = some (.ref a) → valV kvs (Sum.inl g' : Key) = some (.ref a) → g = g'
theorem Backs.same {H0 H H' : Hp} {D : Addr} {b m i : Nat} {kvs : List (Key × V)} (h : Backs H0 H D b m i kvs) (s : Same H H') : Backs H0 H' D b m i kvs :=
  ⟨s _ _ h.at', h.len, h.no, fun g v e => by
    obtain ⟨a, e1, e2, e3⟩ := h.yes g v e
    exact ⟨a, e1, s _ _ e2, e3⟩, h.inj⟩
/-- its gain was met: its list grows -/
theorem Backs.old {H0 H : Hp} {D a : Addr} {b m i : Nat} {kvs : List (Key × V)} (h : Backs H0 H D b m i kvs) (e : valV kvs (Sum.inl (gainOf b m i) : Key) = Option.some (V.ref a)) : Backs H0 (upd H a (.lst (ivs (bk b m (gainOf b m i) (i + 1))))) D b m (i + 1) kvs := by
  obtain ⟨a', z, ea, e0⟩ := h.yes _ _ e
  cases z
  have nD : D ≠ a := ne_of h.at' ea fun z => by cases z
  refine ⟨by rw [upd_ne nD]; exact h.at', by have := h.len; omega, fun g hg => ?_, fun g v hv => ?_, h.inj⟩
  · rw [bk_succ, h.no g hg, if_neg]
    · rfl
    · rintro rfl
      rw [e] at hg
      cases hg
  · obtain ⟨a2, rfl, e2, e3⟩ := h.yes g v hv
    refine ⟨a2, rfl, ?_, e3⟩
    by_cases c : a2 = a
    · subst c
      rw [h.inj g _ a2 hv e, upd_same]
    · rw [upd_ne c, e2, bk_succ, if_neg, List.append_nil]
      rintro rfl
      rw [hv] at e
      cases e
      exact c rfl
/-- its gain is new -/
theorem Backs.new {H0 H : Hp} {D a : Addr} {b m i : Nat} {kvs : List (Key × V)} (h : Backs H0 H D b m i kvs) (e : valV kvs (Sum.inl (gainOf b m i) : Key) = Option.none) (ha : H a = Option.none) (h0 : H0 a = Option.none) :
    Backs H0 (upd (upd (upd H a (.lst [])) D (.dK (putK kvs (Sum.inl (gainOf b m i)) (.ref a)))) a (.lst [.int (i : Int)])) D b m (i + 1) (putK kvs (Sum.inl (gainOf b m i)) (.ref a)) := by
  have nD : D ≠ a := ne_of_none h.at' ha
  have vp : ∀ g : Int, valV (putK kvs (Sum.inl (gainOf b m i)) (.ref a)) (Sum.inl g : Key) = if g = gainOf b m i then Option.some (V.ref a) else valV kvs (Sum.inl g : Key) := fun g => by
    rw [valV_put]
    by_cases c : g = gainOf b m i
    · subst c
      rw [if_pos rfl, if_pos rfl]
    · rw [if_neg c, if_neg fun z => c (Sum.inl.inj z)]
  have notA : ∀ (g : Int), valV kvs (Sum.inl g : Key) ≠ Option.some (V.ref a) := fun g z => by
    obtain ⟨a2, z2, e2, _⟩ := h.yes g _ z
    cases z2
    rw [ha] at e2
    cases e2
  refine ⟨by rw [upd_ne nD, upd_same], ?_, fun g hg => ?_, fun g v hv => ?_, fun g g' a2 h1 h2 => ?_⟩
  · have := length_putK kvs (Sum.inl (gainOf b m i)) (V.ref a)
    have := h.len
    omega
  · rw [vp] at hg
    by_cases c : g = gainOf b m i
    · rw [if_pos c] at hg
      cases hg
    · rw [if_neg c] at hg
      rw [bk_succ, h.no g hg, if_neg (Ne.symm c)]
      rfl
  · rw [vp] at hv
    by_cases c : g = gainOf b m i
    · rw [if_pos c] at hv
      cases hv
      refine ⟨a, rfl, ?_, h0⟩
      rw [upd_same, bk_succ, c, h.no _ e, if_pos rfl]
      rfl
    · rw [if_neg c] at hv
      obtain ⟨a2, rfl, e2, e3⟩ := h.yes g v hv
      have n2 : a2 ≠ a := ne_of_none e2 ha
      have n3 : a2 ≠ D := (ne_of h.at' e2 fun z => by cases z).symm
      refine ⟨a2, rfl, ?_, e3⟩
      rw [upd_ne n2, upd_ne n3, upd_ne n2, e2, bk_succ, if_neg (Ne.symm c), List.append_nil]
  · rw [vp] at h1 h2
    by_cases c : g = gainOf b m i
    · by_cases c' : g' = gainOf b m i
      · rw [c, c']
      · rw [if_pos c] at h1
        rw [if_neg c'] at h2
        cases h1
        exact absurd h2 (notA g')
    · rw [if_neg c] at h1
      by_cases c' : g' = gainOf b m i
      · rw [if_pos c'] at h2
        cases h2
        exact absurd h1 (notA g)
      · rw [if_neg c'] at h2
        exact h.inj g g' a2 h1 h2
end Fx

namespace Fx
/-! ### rows come down -/
theorem figs_len_lt {b n k : Nat} (hb : 2 ≤ b) (hk : 1 ≤ k) (h : n < b ^ k) : (figs b n).length ≤ k := by
  by_cases h0 : n = 0
  · subst h0
    rw [figs_len, lsd_lt (by omega)]
    exact hk
  · have l := len_pow hb n (by omega)
    refine Nat.le_of_not_lt fun z => ?_
    have := Nat.pow_le_pow_right (show 0 < b by omega) (show k ≤ (figs b n).length - 1 by omega)
    omega
theorem step_le_len {b p n k : Nat} (hb : 2 ≤ b) (h : (figs b n).length ≤ k) : stepN b p n ≤ k * (b - 1) ^ p := Nat.le_trans (stepN_le hb) (Nat.mul_le_mul_right _ h)
theorem down_one {b p L n k : Nat} (hb : 2 ≤ b) (h : IsLen (b : Int) (worth (b : Int) (p : Int)) L) (hn : n ≤ max (L - 1) k * (b - 1) ^ p) : stepN b p n ≤ max (L - 1) (k - 1) * (b - 1) ^ p := by
  have h1 := h.nat hb
  have h2 := h.two
  by_cases c : k ≤ L - 1
  · have e : max (L - 1) k = L - 1 := by omega
    rw [e] at hn
    refine step_le_len hb (figs_len_lt hb (by omega) ?_)
    have : n < b ^ (L - 1) := by
      have := Nat.mul_le_mul_right ((b - 1) ^ p) (show L - 1 ≤ L by omega)
      omega
    exact Nat.lt_of_lt_of_le this (Nat.pow_le_pow_right (by omega) (by omega))
  · have e : max (L - 1) k = k := by omega
    rw [e] at hn
    have m := len_moreN h1 h2 hb (k - L)
    rw [show L + (k - L) = k by omega] at m
    exact step_le_len hb (figs_len_lt hb (by omega) (Nat.lt_of_lt_of_le (show n < b ^ (k - 1) by omega) (Nat.pow_le_pow_right (by omega) (by omega))))
theorem row_down {b p L n : Nat} (hb : 2 ≤ b) (h : IsLen (b : Int) (worth (b : Int) (p : Int)) L) (hw : (b - 1) ^ p ≤ 1024) (hn : n < 2 ^ 160) : ∀ i, itN b p n (i + 2) ≤ max (L - 1) (18 - i) * (b - 1) ^ p
  | 0 => by
    have f1 : (figs b n).length ≤ 160 := by
      rw [figs_len]
      exact lsd_len_le hb 159 n hn
    have s1 : itN b p n 1 ≤ 160 * (b - 1) ^ p := step_le_len hb f1
    have s2 : itN b p n 1 < 2 ^ 18 := by
      have := Nat.mul_le_mul_left 160 hw
      omega
    have f2 : (figs b (itN b p n 1)).length ≤ 18 := by
      rw [figs_len]
      exact lsd_len_le hb 17 _ s2
    show stepN b p (itN b p n 1) ≤ _
    exact Nat.le_trans (step_le_len hb f2) (Nat.mul_le_mul_right _ (by omega))
  | i + 1 => by
    have ih := row_down hb h hw hn i
    have := down_one hb h ih
    rw [show 18 - (i + 1) = 18 - i - 1 by omega]
    exact this
theorem row_late {b p L n i : Nat} (hb : 2 ≤ b) (h : IsLen (b : Int) (worth (b : Int) (p : Int)) L) (hw : (b - 1) ^ p ≤ 1024) (hn : n < 2 ^ 160) (hi : 20 ≤ i) : itN b p n i ≤ (L - 1) * (b - 1) ^ p := by
  have := row_down hb h hw hn (i - 2)
  rw [show i - 2 + 2 = i by omega, show max (L - 1) (18 - (i - 2)) = L - 1 by omega] at this
  exact this
theorem rowN_get (b p n : Nat) : ∀ m i, i < m → (rowN b p n m)[i]? = some (itN b p n i)
  | 0, _, h => by omega
  | m + 1, i, h => by
    rw [rowN]
    by_cases e : i = m
    · subst e
      rw [List.getElem?_append_right (by rw [rowN_len]; exact Nat.le_refl _), rowN_len, Nat.sub_self]
      rfl
    · rw [List.getElem?_append_left (by rw [rowN_len]; omega)]
      exact rowN_get b p n m i (by omega)
theorem kept_lt {b p L G : Nat} (hb : 2 ≤ b) (h : IsLen (b : Int) (worth (b : Int) (p : Int)) L) (g : IsKept b p G) : G < b ^ (L - 1) := by
  refine Nat.lt_of_not_le fun z => ?_
  have := goes_down hb h z
  have := g.kept
  omega
end Fx

namespace Fx
/-! ### where numbers end -/
theorem nodup_len : ∀ (M : Nat) (l : List Nat), l.Nodup → (∀ x ∈ l, x < M) → l.length ≤ M
  | 0, l, _, h => by
    cases l with
    | nil => exact Nat.le_refl _
    | cons a r => exact absurd (h a (List.mem_cons_self ..)) (Nat.not_lt_zero _)
  | M + 1, l, nd, h => by
    have e := nodup_len M (l.erase M) (nd.erase M) fun x hx => by
      have hx' := (List.Nodup.mem_erase_iff nd).mp hx
      have := h x hx'.2
      omega
    rw [List.length_erase] at e
    split at e <;> omega
theorem itN_zero (b p n : Nat) : itN b p n 0 = n := rfl
theorem itN_succ (b p n k : Nat) : itN b p n (k + 1) = stepN b p (itN b p n k) := rfl
theorem itN_add (b p n j : Nat) : ∀ k, itN b p n (j + k) = itN b p (itN b p n j) k
  | 0 => rfl
  | k + 1 => by
    rw [← Nat.add_assoc, itN_succ, itN_succ, itN_add b p n j k]
theorem itN_first (b p n k : Nat) : itN b p n (k + 1) = itN b p (stepN b p n) k := by
  rw [Nat.add_comm, itN_add]
  rfl
/-- it stands in a round -/
def Per (b p x : Nat) : Prop := ∃ k, 0 < k ∧ itN b p x k = x
theorem Per.it {b p x : Nat} (h : Per b p x) (j : Nat) : Per b p (itN b p x j) := by
  obtain ⟨k, k0, e⟩ := h
  refine ⟨k, k0, ?_⟩
  rw [← itN_add, Nat.add_comm, itN_add, e]
theorem Per.mul {b p x k : Nat} (e : itN b p x k = x) : ∀ m, itN b p x (m * k) = x
  | 0 => by rw [Nat.zero_mul]; rfl
  | m + 1 => by rw [Nat.succ_mul, itN_add, Per.mul e m, e]
/-- from a number of a round on, each later one leads back -/
theorem Per.back {b p x : Nat} (h : Per b p x) (j : Nat) : ∃ i, itN b p (itN b p x j) i = x := by
  obtain ⟨k, k0, e⟩ := h
  refine ⟨j * k - j, ?_⟩
  have : j ≤ j * k := Nat.le_mul_of_pos_right j k0
  rw [← itN_add, show j + (j * k - j) = j * k by omega]
  exact Per.mul e j
/-- a steps away from the round of the least number m -/
structure EndAt (b p n a m : Nat) : Prop where
  per : Per b p (itN b p n a)
  first : ∀ j, j < a → ¬ Per b p (itN b p n j)
  on : ∃ i, a ≤ i ∧ itN b p n i = m
  least : ∀ i, a ≤ i → m ≤ itN b p n i
theorem EndAt.uniq {b p n a m a' m' : Nat} (h : EndAt b p n a m) (g : EndAt b p n a' m') : a = a' ∧ m = m' := by
  have ea : a = a' := by
    rcases Nat.lt_trichotomy a a' with l | l | l
    · exact absurd h.per (g.first a l)
    · exact l
    · exact absurd g.per (h.first a' l)
  subst ea
  obtain ⟨i, hi, rfl⟩ := h.on
  obtain ⟨j, hj, rfl⟩ := g.on
  exact ⟨rfl, Nat.le_antisymm (h.least j hj) (g.least i hi)⟩
/-- the first number that stands twice -/
theorem EndAt.of_row {b p n A L : Nat} (hA : A < L) (e : itN b p n L = itN b p n A) (nd : ∀ i j, i < L → j < L → itN b p n i = itN b p n j → i = j) {m : Nat}
    (on : ∃ i, A ≤ i ∧ i < L ∧ itN b p n i = m) (le : ∀ i, A ≤ i → i < L → m ≤ itN b p n i) : EndAt b p n A m := by
  have round : ∀ i, A ≤ i → ∃ j, A ≤ j ∧ j < L ∧ itN b p n i = itN b p n j := fun i => by
    induction i with
    | zero => intro h; exact ⟨0, h, by omega, rfl⟩
    | succ i ih =>
      intro h
      by_cases c : A ≤ i
      · obtain ⟨j, j1, j2, ej⟩ := ih c
        by_cases d : j + 1 < L
        · exact ⟨j + 1, by omega, d, by rw [itN_succ, itN_succ, ej]⟩
        · have : j + 1 = L := by omega
          refine ⟨A, Nat.le_refl _, hA, ?_⟩
          rw [itN_succ, ej, ← itN_succ, this, e]
      · have : i + 1 = A := by omega
        exact ⟨A, Nat.le_refl _, hA, by rw [this]⟩
  refine ⟨⟨L - A, by omega, ?_⟩, fun j hj => ?_, ?_, fun i hi => ?_⟩
  · rw [← itN_add, show A + (L - A) = L by omega, e]
  · rintro ⟨k, k0, ek⟩
    have z := Per.mul ek A
    rw [← itN_add] at z
    have : A ≤ A * k := Nat.le_mul_of_pos_right A k0
    obtain ⟨i, i1, i2, ei⟩ := round (j + A * k) (by omega)
    have := nd j i (by omega) i2 (by rw [← z, ei])
    omega
  · obtain ⟨i, i1, i2, ei⟩ := on
    exact ⟨i, i1, ei⟩
  · obtain ⟨j, j1, j2, ej⟩ := round i hi
    rw [ej]
    exact le j j1 j2
theorem EndAt.step {b p n a m : Nat} (h : EndAt b p n (a + 1) m) : EndAt b p (stepN b p n) a m := by
  refine ⟨by rw [← itN_first]; exact h.per, fun j hj => by rw [← itN_first]; exact h.first (j + 1) (by omega), ?_, fun i hi => by rw [← itN_first]; exact h.least (i + 1) (by omega)⟩
  obtain ⟨i, i1, i2⟩ := h.on
  obtain ⟨i', rfl⟩ : ∃ i', i = i' + 1 := ⟨i - 1, by omega⟩
  exact ⟨i', by omega, by rw [← itN_first]; exact i2⟩
theorem EndAt.succ {b p n a m : Nat} (h : EndAt b p (stepN b p n) a m) (np : ¬ Per b p n) : EndAt b p n (a + 1) m := by
  refine ⟨by rw [itN_first]; exact h.per, fun j hj => ?_, ?_, fun i hi => ?_⟩
  · cases j with
    | zero => exact np
    | succ j => rw [itN_first]; exact h.first j (by omega)
  · obtain ⟨i, i1, i2⟩ := h.on
    exact ⟨i + 1, by omega, by rw [itN_first]; exact i2⟩
  · obtain ⟨i', rfl⟩ : ∃ i', i = i' + 1 := ⟨i - 1, by omega⟩
    rw [itN_first]
    exact h.least i' (by omega)
/-- in the round: each number of it ends in it, away no step -/
theorem EndAt.round {b p n m : Nat} (h : EndAt b p n 0 m) (j : Nat) : EndAt b p (itN b p n j) 0 m := by
  refine ⟨h.per.it j, fun i hi => by omega, ?_, fun i _ => ?_⟩
  · obtain ⟨i, _, e⟩ := h.on
    obtain ⟨k, ek⟩ := h.per.back j
    have ek' : itN b p (itN b p n j) k = n := ek
    exact ⟨k + i, Nat.zero_le _, by rw [itN_add, ek']; exact e⟩
  · rw [← itN_add]
    exact h.least _ (Nat.zero_le _)
theorem EndAt.later {b p n a m : Nat} (h : EndAt b p n a m) : ∀ j, EndAt b p (itN b p n j) (a - j) m
  | 0 => h
  | j + 1 => by
    have i := EndAt.later h j
    rw [itN_succ]
    by_cases c : a - j = 0
    · rw [c] at i
      have := i.round 1
      rw [show a - (j + 1) = 0 by omega]
      exact this
    · rw [show a - j = (a - (j + 1)) + 1 by omega] at i
      exact i.step
theorem EndAt.self {b p n a m : Nat} (h : EndAt b p n a m) : EndAt b p m 0 m := by
  obtain ⟨i, hi, e⟩ := h.on
  have := h.later i
  rw [e, show a - i = 0 by omega] at this
  exact this
/-- the least number is that of the step -/
theorem EndAt.least_step {b p n a m a' m' : Nat} (h : EndAt b p n a m) (g : EndAt b p (stepN b p n) a' m') : m = m' ∧ a' = a - 1 := by
  have := h.later 1
  have := this.uniq g
  exact ⟨this.2, this.1.symm⟩
theorem per_iff {b p n a m : Nat} (h : EndAt b p n a m) : Per b p n ↔ a = 0 := by
  constructor
  · intro z
    refine Nat.le_antisymm (Nat.le_of_not_lt fun c => h.first 0 c z) (Nat.zero_le _)
  · rintro rfl
    exact h.per
/-! ### each number ends -/
/-- a number beyond which no row goes far -/
structure Near (b p n : Nat) : Prop where
  hb : 2 ≤ b
  lt : ∀ i, 20 ≤ i → itN b p n i ≤ 15000
theorem Near.rep {b p n : Nat} (h : Near b p n) {L : Nat} (nd : ∀ i j, i < L → j < L → itN b p n i = itN b p n j → i = j) : L ≤ 15030 := by
  refine Nat.le_of_not_lt fun z => ?_
  have l := nodup_len 15001 ((List.range (L - 20)).map fun i => itN b p n (20 + i)) ?_ ?_
  · rw [List.length_map, List.length_range] at l
    omega
  · refine List.pairwise_map.mpr (List.Pairwise.imp_of_mem ?_ (List.nodup_range (n := L - 20)))
    intro x y hx hy ne e
    have := List.mem_range.mp hx
    have := List.mem_range.mp hy
    have := nd _ _ (by omega) (by omega) e
    omega
  · intro x hx
    obtain ⟨i, hi, rfl⟩ := List.mem_map.mp hx
    have := h.lt (20 + i) (by omega)
    omega
theorem exists_end {b p n : Nat} (h : Near b p n) : ∃ a m, EndAt b p n a m := by
  -- the first number that stood ahead
  have go : ∀ k L : Nat, 15031 - L = k → (∀ i j, i < L → j < L → itN b p n i = itN b p n j → i = j) → ∃ A L, A < L ∧ itN b p n L = itN b p n A ∧ ∀ i j, i < L → j < L → itN b p n i = itN b p n j → i = j := by
    intro k
    induction k with
    | zero =>
      intro L hL nd
      have := h.rep nd
      omega
    | succ k ih =>
      intro L hL nd
      by_cases c : ∃ A, A < L ∧ itN b p n L = itN b p n A
      · obtain ⟨A, a1, a2⟩ := c
        exact ⟨A, L, a1, a2, nd⟩
      · refine ih (L + 1) (by omega) fun i j hi hj e => ?_
        by_cases ci : i = L
        · by_cases cj : j = L
          · omega
          · subst ci
            exact absurd ⟨j, by omega, e⟩ c
        · by_cases cj : j = L
          · subst cj
            exact absurd ⟨i, by omega, e.symm⟩ c
          · exact nd i j (by omega) (by omega) e
  obtain ⟨A, L, hA, e, nd⟩ := go _ 0 rfl fun i j hi => by omega
  -- the least one of these
  have mn : ∀ k, A + k < L → ∃ m, (∃ i, A ≤ i ∧ i ≤ A + k ∧ itN b p n i = m) ∧ ∀ i, A ≤ i → i ≤ A + k → m ≤ itN b p n i := by
    intro k
    induction k with
    | zero =>
      intro _
      exact ⟨_, ⟨A, Nat.le_refl _, by omega, rfl⟩, fun i h1 h2 => by
        have : i = A := by omega
        subst this
        exact Nat.le_refl _⟩
    | succ k ih =>
      intro hk
      obtain ⟨m, ⟨i, i1, i2, i3⟩, lm⟩ := ih (by omega)
      by_cases c : itN b p n (A + (k + 1)) < m
      · refine ⟨_, ⟨A + (k + 1), by omega, Nat.le_refl _, rfl⟩, fun j h1 h2 => ?_⟩
        by_cases d : j = A + (k + 1)
        · subst d
          exact Nat.le_refl _
        · have := lm j h1 (by omega)
          omega
      · refine ⟨m, ⟨i, i1, by omega, i3⟩, fun j h1 h2 => ?_⟩
        by_cases d : j = A + (k + 1)
        · subst d
          omega
        · exact lm j h1 (by omega)
  obtain ⟨m, ⟨i, i1, i2, i3⟩, lm⟩ := mn (L - 1 - A) (by omega)
  exact ⟨A, m, .of_row hA e nd ⟨i, i1, by omega, i3⟩ fun j j1 j2 => lm j j1 (by omega)⟩
/-! ### pairs -/
structure OkN (b p : Nat) : Prop where
  ok : OkPair (b : Int) (p : Int)
theorem OkN.hb {b p : Nat} (h : OkN b p) : 2 ≤ b := by have := h.ok.1; omega
theorem OkN.hb16 {b p : Nat} (h : OkN b p) : b ≤ 16 := by have := h.ok.2.1; omega
theorem OkN.hp1 {b p : Nat} (h : OkN b p) : 1 ≤ p := by have := h.ok.2.2.1; omega
theorem OkN.hp {b p : Nat} (h : OkN b p) : p ≤ 10 := by have := h.ok.le10; omega
theorem OkN.worth {b p : Nat} (h : OkN b p) : 1 ≤ (b - 1) ^ p ∧ (b - 1) ^ p ≤ 1024 := by
  have h1 := h.ok.worth
  have h2 := h.hb
  rw [worth_nat b p (by omega)] at h1
  omega
theorem row_down2 {b p L n : Nat} (hb : 2 ≤ b) (h : IsLen (b : Int) (Fx.worth (b : Int) (p : Int)) L) (hw : (b - 1) ^ p ≤ 1024) (hn : n < 2 ^ 200) : ∀ i, itN b p n (i + 2) ≤ max (L - 1) (18 - i) * (b - 1) ^ p
  | 0 => by
    have f1 : (figs b n).length ≤ 200 := by
      rw [figs_len]
      exact lsd_len_le hb 199 n hn
    have s1 : itN b p n 1 ≤ 200 * (b - 1) ^ p := step_le_len hb f1
    have s2 : itN b p n 1 < 2 ^ 18 := by
      have := Nat.mul_le_mul_left 200 hw
      omega
    have f2 : (figs b (itN b p n 1)).length ≤ 18 := by
      rw [figs_len]
      exact lsd_len_le hb 17 _ s2
    show stepN b p (itN b p n 1) ≤ _
    exact Nat.le_trans (step_le_len hb f2) (Nat.mul_le_mul_right _ (by omega))
  | i + 1 => by
    have ih := row_down2 hb h hw hn i
    have := down_one hb h ih
    rw [show 18 - (i + 1) = 18 - i - 1 by omega]
    exact this
theorem near_of {b p n : Nat} (h : OkN b p) (hn : n < 2 ^ 200) : Near b p n := by
  have hw := h.worth
  obtain ⟨L, hL, l15⟩ := len_ex h.ok.1 (show Fx.worth (b : Int) (p : Int) ≤ 1024 by have := h.ok.worth; omega)
  refine ⟨h.hb, fun i hi => ?_⟩
  have := row_down2 h.hb hL hw.2 hn (i - 2)
  rw [show i - 2 + 2 = i by omega, show max (L - 1) (18 - (i - 2)) = L - 1 by omega] at this
  have := Nat.mul_le_mul (show L - 1 ≤ 14 by omega) hw.2
  omega
theorem lt200 {n : Nat} (h : n < 2 ^ 200) : n < 2 ^ 900 := Nat.lt_of_lt_of_le h (Nat.pow_le_pow_right (by decide) (by decide))
theorem itN_lt200 {b p n : Nat} (h : OkN b p) (hn : n < 2 ^ 200) : ∀ k, itN b p n k < 2 ^ 200
  | 0 => hn
  | k + 1 => by
    have := stepN_lt h.hb h.hb16 h.hp (lt200 (itN_lt200 h hn k))
    have e : itN b p n (k + 1) = stepN b p (itN b p n k) := rfl
    have u : (2 : Nat) ^ 50 ≤ 2 ^ 200 := Nat.pow_le_pow_right (by decide) (by decide)
    omega
/-- a way to the first number that stood ahead -/
structure Way (b p n A L : Nat) : Prop where
  lt : A < L
  back : itN b p n L = itN b p n A
  nd : ∀ i j, i < L → j < L → itN b p n i = itN b p n j → i = j
/-- a round from its least number on -/
structure Rnd (b p m k : Nat) : Prop where
  pos : 0 < k
  back : itN b p m k = m
  nd : ∀ i j, i < k → j < k → itN b p m i = itN b p m j → i = j
  least : ∀ i, m ≤ itN b p m i
theorem Way.end_of {b p n A L m : Nat} (w : Way b p n A L) (on : ∃ i, A ≤ i ∧ i < L ∧ itN b p n i = m) (le : ∀ i, A ≤ i → i < L → m ≤ itN b p n i) : EndAt b p n A m := .of_row w.lt w.back w.nd on le
theorem Way.turn {b p n A L : Nat} (w : Way b p n A L) (i : Nat) : itN b p n (L + i) = itN b p n (A + i) := by
  rw [itN_add, w.back, ← itN_add]
theorem Way.rnd {b p n A L i : Nat} (w : Way b p n A L) (h1 : A ≤ i) (h2 : i < L) (le : ∀ j, A ≤ j → j < L → itN b p n i ≤ itN b p n j) : Rnd b p (itN b p n i) (L - A) := by
  have e := w.end_of ⟨i, h1, h2, rfl⟩ le
  have lt := w.lt
  refine ⟨by omega, ?_, fun x y hx hy exy => ?_, fun j => ?_⟩
  · rw [← itN_add, show i + (L - A) = L + (i - A) by omega, w.turn, show A + (i - A) = i by omega]
  · rw [← itN_add, ← itN_add] at exy
    by_cases cx : i + x < L
    · by_cases cy : i + y < L
      · have := w.nd _ _ cx cy exy
        omega
      · rw [show i + y = L + (i + y - L) by omega, w.turn] at exy
        have := w.nd _ _ cx (by omega) exy
        omega
    · rw [show i + x = L + (i + x - L) by omega, w.turn] at exy
      by_cases cy : i + y < L
      · have := w.nd _ _ (by omega) cy exy
        omega
      · rw [show i + y = L + (i + y - L) by omega, w.turn] at exy
        have := w.nd _ _ (by omega) (by omega) exy
        omega
  · rw [← itN_add]
    exact e.least _ (by omega)
theorem Rnd.at0 {b p m k : Nat} (h : Rnd b p m k) : EndAt b p m 0 m := ⟨⟨k, h.pos, h.back⟩, fun j hj => by omega, ⟨0, Nat.le_refl _, rfl⟩, fun i _ => h.least i⟩
theorem Rnd.uniq {b p m k l : Nat} (h : Rnd b p m k) (g : Rnd b p m l) : k = l := by
  rcases Nat.lt_trichotomy k l with c | c | c
  · have := g.nd k 0 c g.pos (by rw [h.back]; rfl)
    have := h.pos
    omega
  · exact c
  · have := h.nd l 0 c h.pos (by rw [g.back]; rfl)
    have := g.pos
    omega
theorem Rnd.le {b p m k : Nat} (h : Rnd b p m k) (nr : Near b p m) : k ≤ 15030 := nr.rep h.nd
theorem rowN_eq (b p n : Nat) : ∀ m, rowN b p n m = (List.range m).map (itN b p n)
  | 0 => rfl
  | m + 1 => by
    rw [rowN, rowN_eq b p n m, List.range_succ, List.map_append]
    rfl
theorem rowN_drop {b p n A L : Nat} : (rowN b p n L).drop A = rowN b p (itN b p n A) (L - A) := by
  rw [rowN_eq, rowN_eq]
  refine List.ext_getElem? fun i => ?_
  rw [List.getElem?_drop, List.getElem?_map, List.getElem?_map]
  by_cases c : A + i < L
  · rw [List.getElem?_range c, List.getElem?_range (by omega)]
    show some (itN b p n (A + i)) = some (itN b p (itN b p n A) i)
    rw [itN_add]
  · rw [List.getElem?_eq_none (by rw [List.length_range]; omega), List.getElem?_eq_none (by rw [List.length_range]; omega)]
    rfl
theorem rowN_take {b p n i : Nat} {L : Nat} (h : i ≤ L) : (rowN b p n L).take i = rowN b p n i := by
  rw [rowN_eq, rowN_eq, ← List.map_take, List.take_range]
  rw [Nat.min_eq_left h]
theorem rowN_app {b p n i j : Nat} : rowN b p n i ++ rowN b p (itN b p n i) j = rowN b p n (i + j) := by
  rw [← rowN_take (L := i + j) (i := i) (by omega), show rowN b p (itN b p n i) j = (rowN b p n (i + j)).drop i by rw [rowN_drop]; congr 1; omega, List.take_append_drop]
theorem mem_rowN {b p n L x : Nat} : x ∈ rowN b p n L ↔ ∃ i, i < L ∧ itN b p n i = x := by
  rw [rowN_eq, List.mem_map]
  exact ⟨fun ⟨i, h, e⟩ => ⟨i, List.mem_range.mp h, e⟩, fun ⟨i, h, e⟩ => ⟨i, List.mem_range.mpr h, e⟩⟩
/-- from another number of a round on, gone round: the whole round -/
theorem Way.rot {b p n A L i : Nat} (w : Way b p n A L) (h1 : A ≤ i) (h2 : i < L) : ((rowN b p n L).drop A).drop (i - A) ++ ((rowN b p n L).drop A).take (i - A) = rowN b p (itN b p n i) (L - A) := by
  have lt := w.lt
  rw [rowN_drop, rowN_drop, rowN_take (by omega), ← itN_add, show A + (i - A) = i by omega]
  have e : itN b p n A = itN b p (itN b p n i) (L - A - (i - A)) := by
    rw [← itN_add, show i + (L - A - (i - A)) = L by omega, w.back]
  rw [e, rowN_app, show L - A - (i - A) + (i - A) = L - A by omega]
end Fx
namespace Fx
theorem itN_lt160 {b p n : Nat} (h : OkN b p) (hn : n < 16 ^ 40) : ∀ k, itN b p n k < 16 ^ 40
  | 0 => hn
  | k + 1 => by
    have u1 : (16 : Nat) ^ 40 < 2 ^ 200 := by decide
    have u2 : (2 : Nat) ^ 50 < 16 ^ 40 := by decide
    have ih := itN_lt160 h hn k
    have := stepN_lt h.hb h.hb16 h.hp (lt200 (show itN b p n k < 2 ^ 200 by omega))
    have e : itN b p n (k + 1) = stepN b p (itN b p n k) := rfl
    omega
end Fx

namespace Fx
open PySem PySem.Spec PyProof.Rows L2
/-! ### the laws' draws from a seed -/
def Seed (H : Hp) (d : Addr) : Prop := ∃ a f t r : Int, H d = some (.lst [.int a, .int f, .int t, .int r])
theorem Seed.same {H H' : Hp} {d : Addr} (h : Seed H d) (s : Same H H') : Seed H' d := by
  obtain ⟨a, f, t, r, e⟩ := h
  exact ⟨a, f, t, r, s _ _ e⟩
theorem Seed.off {H : Hp} {d p : Addr} {o : HO} (h : Seed H d) (n : p ≠ d) : Seed (upd H p o) d := by
  obtain ⟨a, f, t, r, e⟩ := h
  exact ⟨a, f, t, r, by rw [upd_ne (Ne.symm n)]; exact e⟩
theorem Seed.there {H : Hp} {d : Addr} (h : Seed H d) : ∃ o, H d = some o := by
  obtain ⟨a, f, t, r, e⟩ := h
  exact ⟨_, e⟩
theorem Seed.out {H : Hp} {d p : Addr} (h : Seed H d) (hp : H p = none) : p ≠ d := by
  obtain ⟨o, e⟩ := h.there
  exact (ne_of_none e hp).symm
theorem Seed.tup {H H' : Hp} {d t : Addr} {xs : List V} (h : Seed H d) (b : But d H H') (e : H t = some (.tup xs)) : H' t = some (.tup xs) := by
  obtain ⟨_, _, _, _, q⟩ := h
  exact b t _ (ne_of e q (fun z => by cases z)) e
/-- what each figure is worth -/
def wts (b p : Nat) : List Nat := (List.range b).map (· ^ p)
theorem wts_len (b p : Nat) : (wts b p).length = b := by
  unfold wts
  rw [List.length_map, List.length_range]
theorem wts_get {b p i : Nat} (h : i < b) : (wts b p)[i]? = some (i ^ p) := by
  unfold wts
  rw [List.getElem?_map, List.getElem?_range h]
  rfl
/-- base, power, and what figures are worth -/
def PairW (H : Hp) (d t : Addr) (b p : Nat) : Prop := ∃ w, H t = some (.tup [.int (b : Int), .int (p : Int), .ref w]) ∧ H w = some (.lst (ivs (wts b p))) ∧ w ≠ d ∧ t ≠ d ∧ OkN b p
theorem PairW.but {H H' : Hp} {d t : Addr} {b p : Nat} (h : PairW H d t b p) (s : But d H H') : PairW H' d t b p := by
  obtain ⟨w, e1, e2, n1, n2, ok⟩ := h
  exact ⟨w, s _ _ n2 e1, s _ _ n1 e2, n1, n2, ok⟩
theorem PairW.same {H H' : Hp} {d t : Addr} {b p : Nat} (h : PairW H d t b p) (s : Same H H') : PairW H' d t b p := h.but (.of s)
theorem PairW.ok {H : Hp} {d t : Addr} {b p : Nat} (h : PairW H d t b p) : OkN b p := by
  obtain ⟨w, e1, e2, n1, n2, ok⟩ := h
  exact ok
theorem cut_ivs_to (l : List Nat) (i : Nat) : cutV (ivs l) none (some (i : Int)) = ivs (l.take i) := by
  rw [cut_to]
  unfold ivs
  rw [List.map_take]
theorem cut_ivs_from (l : List Nat) (i : Nat) : cutV (ivs l) (some (i : Int)) none = ivs (l.drop i) := by
  rw [cut_from]
  unfold ivs
  rw [List.map_drop]
/-- the powers that a base lets -/
def mostN (b : Nat) : Nat := (mostOf (b : Int)).toNat
def upTo (m : Nat) : List Nat := (List.range m).map (· + 1)
theorem upTo_len (m : Nat) : (upTo m).length = m := by
  unfold upTo
  rw [List.length_map, List.length_range]
theorem upTo_get {m i : Nat} (h : i < m) : (upTo m)[i]? = some (i + 1) := by
  unfold upTo
  rw [List.getElem?_map, List.getElem?_range h]
  rfl
theorem upTo_succ (m : Nat) : upTo (m + 1) = upTo m ++ [m + 1] := by
  unfold upTo
  rw [List.range_succ, List.map_append]
  rfl
theorem most_iff {b k : Nat} (h1 : 2 ≤ b) (h2 : b ≤ 16) (k1 : 1 ≤ k) (k2 : k ≤ 10) : (b - 1) ^ k ≤ 1000 ↔ k ≤ mostN b := by
  have a : ∀ i ∈ List.range 15, ∀ j ∈ List.range 10, ((i + 2 - 1) ^ (j + 1) ≤ 1000 ↔ j + 1 ≤ mostN (i + 2)) := by decide +kernel
  have := a (b - 2) (List.mem_range.mpr (by omega)) (k - 1) (List.mem_range.mpr (by omega))
  rwa [show b - 2 + 2 = b by omega, show k - 1 + 1 = k by omega] at this
theorem mostN_pos {b : Nat} (h1 : 2 ≤ b) (h2 : b ≤ 16) : 1 ≤ mostN b ∧ mostN b ≤ 10 := by
  have := most_pos (b := (b : Int)) (by omega) (by omega)
  unfold mostN
  omega
theorem okN_of {b p : Nat} (h1 : 2 ≤ b) (h2 : b ≤ 16) (h3 : 1 ≤ p) (h4 : p ≤ mostN b) : OkN b p := by
  have := most_pos (b := (b : Int)) (by omega) (by omega)
  unfold mostN at h4
  exact ⟨by omega, by omega, by omega, by omega⟩
end Fx

namespace Fx
open PySem PySem.Spec PyProof.Rows L2
/-! ### papers -/
structure PaperAt (b p n m s t : Nat) : Prop where
  lt : t < s
  one : itN b p n t = m
  two : itN b p n s = m
  only : ∀ i, i < s → itN b p n i = m → i = t
def PaperOf (b p n s : Nat) : Prop := ∃ A m t, EndAt b p n A m ∧ PaperAt b p n m s t
theorem PaperAt.uniq {b p n m s t s' t' : Nat} (h : PaperAt b p n m s t) (g : PaperAt b p n m s' t') : s = s' := by
  rcases Nat.lt_trichotomy s s' with c | c | c
  · have := g.only s c h.two
    have := g.only t (by have := h.lt; omega) h.one
    have := h.lt
    omega
  · exact c
  · have := h.only s' c g.two
    have := h.only t' (by have := g.lt; omega) g.one
    have := g.lt
    omega
theorem PaperOf.uniq {b p n s s' : Nat} (h : PaperOf b p n s) (g : PaperOf b p n s') : s = s' := by
  obtain ⟨A, m, t, e, w⟩ := h
  obtain ⟨A', m', t', e', w'⟩ := g
  obtain ⟨rfl, rfl⟩ := e.uniq e'
  exact w.uniq w'
theorem Way.paper {b p n A L t : Nat} (w : Way b p n A L) (h1 : A ≤ t) (h2 : t < L) : PaperAt b p n (itN b p n t) (t + (L - A)) t := by
  have lt := w.lt
  refine ⟨by omega, rfl, ?_, fun i hi e => ?_⟩
  · rw [show t + (L - A) = L + (t - A) by omega, w.turn, show A + (t - A) = t by omega]
  · by_cases c : i < L
    · exact w.nd i t c h2 e
    · rw [show i = L + (i - L) by omega, w.turn] at e
      have := w.nd _ _ (by omega) h2 e
      omega
/-- one that ends at m comes there -/
theorem EndAt.ge {b p n A m t : Nat} (h : EndAt b p n A m) (e : itN b p n t = m) : A ≤ t := by
  refine Nat.le_of_not_lt fun c => h.first t c ?_
  rw [e]
  exact h.self.per
/-! ### how often a number stands in a row -/
theorem cnt_succ {f : Nat → Int} {x : Int} (K : Nat) : (((List.range (K + 1)).map f).count x) = ((List.range K).map f).count x + if f K = x then 1 else 0 := by
  rw [List.range_succ, List.map_append, List.count_append]
  congr 1
  show [f K].count x = _
  rw [List.count_singleton]
  by_cases c : f K = x
  · rw [if_pos c, if_pos (by rw [c]; exact beq_self_eq_true _)]
  · rw [if_neg c, if_neg (by rw [beq_iff_eq]; exact c)]
theorem cnt_none {f : Nat → Int} {x : Int} : ∀ K, (∀ i, i < K → f i ≠ x) → ((List.range K).map f).count x = 0
  | 0, _ => rfl
  | K + 1, h => by rw [cnt_succ, cnt_none K (fun i hi => h i (by omega)), if_neg (h K (by omega))]
theorem cnt_zero {f : Nat → Int} {x : Int} : ∀ K, ((List.range K).map f).count x = 0 → ∀ i, i < K → f i ≠ x
  | 0, _, i, hi => by omega
  | K + 1, h, i, hi => by
    rw [cnt_succ] at h
    by_cases c : i = K
    · subst c
      intro e
      rw [if_pos e] at h
      omega
    · exact cnt_zero K (by omega) i (by omega)
theorem cnt_one {f : Nat → Int} {x : Int} : ∀ K, ((List.range K).map f).count x = 1 → ∃ j, j < K ∧ f j = x ∧ ∀ i, i < K → f i = x → i = j
  | 0, h => by simp at h
  | K + 1, h => by
    rw [cnt_succ] at h
    by_cases c : f K = x
    · rw [if_pos c] at h
      have z := cnt_zero (f := f) (x := x) K (by omega)
      exact ⟨K, by omega, c, fun i hi e => by
        by_cases d : i = K
        · exact d
        · exact absurd e (z i (by omega))⟩
    · rw [if_neg c] at h
      obtain ⟨j, j1, j2, j3⟩ := cnt_one K (by omega)
      refine ⟨j, by omega, j2, fun i hi e => ?_⟩
      by_cases d : i = K
      · subst d
        exact absurd e c
      · exact j3 i (by omega) e
theorem cnt_of_one {f : Nat → Int} {x : Int} {j : Nat} : ∀ K, j < K → f j = x → (∀ i, i < K → f i = x → i = j) → ((List.range K).map f).count x = 1
  | 0, h, _, _ => by omega
  | K + 1, h, e, u => by
    rw [cnt_succ]
    by_cases c : j = K
    · subst c
      rw [if_pos e, cnt_none j fun i hi z => by
        have := u i (by omega) z
        omega]
    · rw [if_neg fun z => c (u K (by omega) z).symm, cnt_of_one K (by omega) e fun i hi z => u i (by omega) z]
/-- the row as whole numbers -/
def seqI (b p n K : Nat) : List Int := (List.range K).map fun i => ((itN b p n i : Nat) : Int)
theorem ivs_row (b p n K : Nat) : ivs (rowN b p n K) = (seqI b p n K).map V.int := by
  unfold ivs seqI
  rw [rowN_eq, List.map_map, List.map_map]
  rfl
theorem seqI_len (b p n K : Nat) : (seqI b p n K).length = K := by
  unfold seqI
  rw [List.length_map, List.length_range]
theorem seqI_get {b p n K i : Nat} (h : i < K) : (seqI b p n K)[i]? = some ((itN b p n i : Nat) : Int) := by
  unfold seqI
  rw [List.getElem?_map, List.getElem?_range h]
  rfl
theorem seqI_succ (b p n K : Nat) : seqI b p n (K + 1) = seqI b p n K ++ [((itN b p n K : Nat) : Int)] := by
  unfold seqI
  rw [List.range_succ, List.map_append]
  rfl
theorem PaperAt.cnt {b p n m s t : Nat} (h : PaperAt b p n m s t) {K : Nat} (hK : K ≤ s) : (seqI b p n K).count (m : Int) < 2 := by
  unfold seqI
  by_cases c : t < K
  · rw [cnt_of_one (f := fun i => ((itN b p n i : Nat) : Int)) (x := (m : Int)) (j := t) K c (by show ((itN b p n t : Nat) : Int) = _; rw [h.one]) fun i hi e => h.only i (by omega) (Int.ofNat.inj e)]
    decide
  · rw [cnt_none (f := fun i => ((itN b p n i : Nat) : Int)) (x := (m : Int)) K fun i hi e => by
      have := h.only i (by omega) (Int.ofNat.inj e)
      omega]
    decide
theorem PaperAt.cnt2 {b p n m s t : Nat} (h : PaperAt b p n m s t) : (seqI b p n (s + 1)).count (m : Int) = 2 := by
  unfold seqI
  rw [cnt_succ, if_pos (by rw [h.two]), cnt_of_one (f := fun i => ((itN b p n i : Nat) : Int)) (x := (m : Int)) (j := t) s h.lt (by show ((itN b p n t : Nat) : Int) = _; rw [h.one]) fun i hi e => h.only i hi (Int.ofNat.inj e)]
/-- what is asked of a paper, in order -/
structure Heads (n : Nat) (xs : List Int) (l : Int) : Prop where
  two : 2 ≤ xs.length
  zero : xs[0]? = some (n : Int)
  last : xs[xs.length - 1]? = some l
  count : xs.count l = 2
theorem heads_of {b p n s : Nat} (h : PaperOf b p n s) : ∃ l, Heads n (seqI b p n (s + 1)) l := by
  obtain ⟨A, m, t, e, w⟩ := h
  have := w.lt
  refine ⟨(m : Int), by rw [seqI_len]; omega, seqI_get (by omega), ?_, w.cnt2⟩
  rw [seqI_len, seqI_get (by omega), show s + 1 - 1 = s by omega, w.two]
/-- all that is asked -/
theorem seq_of_steps {b p n : Nat} {xs : List Int} (h0 : xs[0]? = some (n : Int)) (hs : ∀ i x y, xs[i]? = some x → xs[i + 1]? = some y → ∃ k : Nat, x = (k : Int) ∧ y = ((stepN b p k : Nat) : Int)) : xs = seqI b p n xs.length := by
  have go : ∀ i, i < xs.length → xs[i]? = some ((itN b p n i : Nat) : Int) := fun i => by
    induction i with
    | zero => intro _; exact h0
    | succ i ih =>
      intro hi
      have e := ih (by omega)
      have e2 : xs[i + 1]? = some xs[i + 1] := List.getElem?_eq_getElem hi
      obtain ⟨k, k1, k2⟩ := hs i _ _ e e2
      rw [e2, k2, ← Int.ofNat.inj k1]
      rfl
  refine List.ext_getElem? fun i => ?_
  by_cases c : i < xs.length
  · rw [go i c, seqI_get c]
  · rw [List.getElem?_eq_none (by omega), List.getElem?_eq_none (by rw [seqI_len]; omega)]
/-- gone round for ever -/
theorem it_far {b p n j k : Nat} (h : j < k) (e : itN b p n k = itN b p n j) (i : Nat) (hi : j ≤ i) (N : Nat) : ∃ i', N ≤ i' ∧ itN b p n i' = itN b p n i := by
  have pr : itN b p (itN b p n i) (k - j) = itN b p n i := by
    rw [← itN_add, show i + (k - j) = k + (i - j) by omega, itN_add, e, ← itN_add, show j + (i - j) = i by omega]
  refine ⟨i + N * (k - j), ?_, ?_⟩
  · have : N ≤ N * (k - j) := Nat.le_mul_of_pos_right N (by omega)
    omega
  · rw [itN_add]
    exact Per.mul pr N
theorem it_within {b p n j k : Nat} (h : j < k) (e : itN b p n k = itN b p n j) : ∀ i, j ≤ i → ∃ i', j ≤ i' ∧ i' < k ∧ itN b p n i' = itN b p n i := fun i => by
  induction i with
  | zero => intro z; exact ⟨0, z, by omega, rfl⟩
  | succ i ih =>
    intro hi
    by_cases c : j ≤ i
    · obtain ⟨i', a1, a2, a3⟩ := ih c
      by_cases d : i' + 1 < k
      · exact ⟨i' + 1, by omega, d, by rw [itN_succ, itN_succ, a3]⟩
      · refine ⟨j, Nat.le_refl _, h, ?_⟩
        rw [itN_succ, ← a3, ← itN_succ, show i' + 1 = k by omega, e]
    · exact ⟨j, Nat.le_refl _, h, by rw [show j = i + 1 by omega]⟩
/-- the last one is the least from its first time on: then it is the paper -/
theorem paper_last {b p n s k j : Nat} (hp : PaperOf b p n s) (hj : j < k) (ej : itN b p n j = itN b p n k) (u : ∀ i, i < k → itN b p n i = itN b p n k → i = j) : (∀ i, j ≤ i → i ≤ k → itN b p n k ≤ itN b p n i) ↔ k = s := by
  obtain ⟨A, m, t, e, w⟩ := hp
  constructor
  · intro le
    have far : ∀ i, j ≤ i → itN b p n k ≤ itN b p n i := fun i hi => by
      obtain ⟨i', a1, a2, a3⟩ := it_within hj ej.symm i hi
      rw [← a3]
      exact le i' a1 (by omega)
    have km : itN b p n k = m := by
      refine Nat.le_antisymm ?_ ?_
      · obtain ⟨i, i1, i2⟩ := e.on
        obtain ⟨x, x0, ex⟩ := e.per
        have : itN b p n (i + j * x) = m := by
          have pi : itN b p m x = m := by
            rw [← i2, ← itN_add, show i + x = A + (i - A + x) by omega, itN_add, Nat.add_comm, itN_add, ex, ← itN_add, show A + (i - A) = i by omega]
          rw [itN_add, i2]
          exact Per.mul pi j
        rw [← this]
        refine far _ ?_
        have : j ≤ j * x := Nat.le_mul_of_pos_right j x0
        omega
      · obtain ⟨i', a1, a2⟩ := it_far hj ej.symm k (by omega) A
        rw [← a2]
        exact e.least i' a1
    have w' : PaperAt b p n m k j := ⟨hj, ej.trans km, km, fun i hi ei => u i hi (ei.trans km.symm)⟩
    exact w'.uniq w
  · rintro rfl
    intro i i1 i2
    have tj : t = j := u t w.lt (w.one.trans w.two.symm)
    rw [w.two]
    exact e.least i (by have := e.ge w.one; omega)
end Fx
namespace Fx
open PySem PySem.Spec PyProof.Rows L2
/-! ### data compared, alike or not -/
theorem eqvAll_ints : ∀ xs ys : List Int, PyData.eqvAll (dInts xs) (dInts ys) = decide (xs = ys)
  | [], [] => by unfold dInts; simp [PyData.eqvAll]
  | [], _ :: _ => by unfold dInts; simp [PyData.eqvAll]
  | _ :: _, [] => by unfold dInts; simp [PyData.eqvAll]
  | a :: r, b :: q => by
    have ih := eqvAll_ints r q
    unfold dInts at ih ⊢
    rw [List.map_cons, List.map_cons, PyData.eqvAll, ih]
    by_cases c : a = b
    · subst c
      simp [PyData.eqv]
    · simp [PyData.eqv, c]
theorem eqv_ints (xs ys : List Int) : PyData.eqv (.list (dInts xs)) (.list (dInts ys)) = decide (xs = ys) := by
  rw [PyData.eqv]
  exact eqvAll_ints xs ys
theorem eqv_tints (xs ys : List Int) : PyData.eqv (.tuple (dInts xs)) (.tuple (dInts ys)) = decide (xs = ys) := by
  rw [PyData.eqv]
  exact eqvAll_ints xs ys
end Fx
namespace Fx
theorem way_ex {b p n : Nat} (h : Near b p n) : ∃ A L, Way b p n A L := by
  have go : ∀ k L : Nat, 15031 - L = k → (∀ i j, i < L → j < L → itN b p n i = itN b p n j → i = j) → ∃ A L, Way b p n A L := by
    intro k
    induction k with
    | zero =>
      intro L hL nd
      have := h.rep nd
      omega
    | succ k ih =>
      intro L hL nd
      by_cases c : ∃ A, A < L ∧ itN b p n L = itN b p n A
      · obtain ⟨A, a1, a2⟩ := c
        exact ⟨A, L, a1, a2, nd⟩
      · refine ih (L + 1) (by omega) fun i j hi hj e => ?_
        by_cases ci : i = L
        · by_cases cj : j = L
          · omega
          · subst ci
            exact absurd ⟨j, by omega, e⟩ c
        · by_cases cj : j = L
          · subst cj
            exact absurd ⟨i, by omega, e.symm⟩ c
          · exact nd i j (by omega) (by omega) e
  exact go _ 0 rfl fun i j hi => by omega
theorem Way.least {b p n A L : Nat} (w : Way b p n A L) : ∃ t, A ≤ t ∧ t < L ∧ ∀ j, A ≤ j → j < L → itN b p n t ≤ itN b p n j := by
  have lt := w.lt
  have go : ∀ k, A + k < L → ∃ t, A ≤ t ∧ t ≤ A + k ∧ ∀ j, A ≤ j → j ≤ A + k → itN b p n t ≤ itN b p n j := by
    intro k
    induction k with
    | zero =>
      intro _
      exact ⟨A, Nat.le_refl _, Nat.le_refl _, fun j h1 h2 => by
        obtain rfl : j = A := by omega
        exact Nat.le_refl _⟩
    | succ k ih =>
      intro hk
      obtain ⟨t, t1, t2, t3⟩ := ih (by omega)
      by_cases c : itN b p n t ≤ itN b p n (A + (k + 1))
      · refine ⟨t, t1, by omega, fun j h1 h2 => ?_⟩
        by_cases d : j = A + (k + 1)
        · subst d
          exact c
        · exact t3 j h1 (by omega)
      · refine ⟨A + (k + 1), by omega, Nat.le_refl _, fun j h1 h2 => ?_⟩
        by_cases d : j = A + (k + 1)
        · subst d
          exact Nat.le_refl _
        · have := t3 j h1 (by omega)
          omega
  obtain ⟨t, t1, t2, t3⟩ := go (L - 1 - A) (by omega)
  exact ⟨t, t1, by omega, fun j h1 h2 => t3 j h1 (by omega)⟩
theorem paper_at {b p n A m : Nat} (nr : Near b p n) (e : EndAt b p n A m) : ∃ s t, PaperAt b p n m s t ∧ s ≤ 30100 := by
  obtain ⟨A', L, w⟩ := way_ex nr
  have := nr.rep w.nd
  obtain ⟨t, t1, t2, t3⟩ := w.least
  have e' := w.end_of ⟨t, t1, t2, rfl⟩ t3
  obtain ⟨rfl, rfl⟩ := e.uniq e'
  exact ⟨_, t, w.paper t1 t2, by omega⟩
theorem paper_ex {b p n : Nat} (nr : Near b p n) : ∃ s, PaperOf b p n s ∧ s ≤ 30100 := by
  obtain ⟨A, m, e⟩ := exists_end nr
  obtain ⟨s, t, w, h⟩ := paper_at nr e
  exact ⟨s, ⟨A, m, t, e, w⟩, h⟩
end Fx
namespace Fx
open PySem PySem.Spec PyProof.Rows L2
theorem at_last {xs : List Int} {l : Int} (h : xs[xs.length - 1]? = some l) : atI (xs.map V.int) (-1) = some (.int l) := by
  have h1 : xs.length - 1 < xs.length := (List.getElem?_eq_some_iff.mp h).1
  have h2 : xs = xs.take (xs.length - 1) ++ [l] := by
    have e := List.take_add_one (l := xs) (i := xs.length - 1)
    rw [show xs.length - 1 + 1 = xs.length by omega, List.take_length, h] at e
    exact e
  rw [h2, List.map_append]
  exact atI_last _ _
theorem flat_ints (xs : List Int) : (xs.map V.int).all flatV = true := by
  rw [List.all_map, List.all_eq_true]
  intro x _
  rfl
theorem seqI_inj {b p n k l : Nat} (h : seqI b p n k = seqI b p n l) : k = l := by
  have := congrArg List.length h
  rwa [seqI_len, seqI_len] at this
theorem map_erase (f : Int → V) : ∀ (l : List Int) (k : Nat), (l.map f).eraseIdx k = (l.eraseIdx k).map f
  | [], _ => rfl
  | _ :: _, 0 => rfl
  | a :: r, k + 1 => by
    show f a :: (r.map f).eraseIdx k = f a :: (r.eraseIdx k).map f
    rw [map_erase f r k]
theorem cut_i_to (l : List Int) (i : Nat) : cutV (l.map V.int) none (some (i : Int)) = (l.take i).map V.int := by
  rw [cut_to, List.map_take]
theorem cut_i_from (l : List Int) (i : Nat) : cutV (l.map V.int) (some (i : Int)) none = (l.drop i).map V.int := by
  rw [cut_from, List.map_drop]
theorem ixN_lt {n j : Nat} (h : j < n) : ixN n (j : Int) = some j := by
  unfold ixN
  rw [if_pos (by omega), if_pos (by omega)]
  simp
theorem seq_lt {n j : Nat} (h : j < n) : seqIndex? (j : Int) n = some j := (ixN_seq (ixN_lt h)).1
theorem get_lt {xs : List Int} {i : Nat} (h : i < xs.length) : ∃ x, xs[i]? = some x := ⟨_, List.getElem?_eq_getElem h⟩
/-! ### lists of lists of numbers, whatever they hold -/
def LL (d : Addr) (H : Hp) (vs : List V) : Prop := ∀ v ∈ vs, ∃ (a : Addr) (xs : List Int), v = .ref a ∧ H a = some (.lst (xs.map V.int)) ∧ a ≠ d ∧ xs.length ≤ 2000000
theorem LL.nil {d : Addr} {H : Hp} : LL d H [] := fun v h => nomatch h
theorem LL.but {d : Addr} {H H' : Hp} {vs : List V} (h : LL d H vs) (b : But d H H') : LL d H' vs := fun v hv => by
  obtain ⟨a, xs, e1, e2, e3, e4⟩ := h v hv
  exact ⟨a, xs, e1, b _ _ e3 e2, e3, e4⟩
theorem LL.same {d : Addr} {H H' : Hp} {vs : List V} (h : LL d H vs) (b : Same H H') : LL d H' vs := h.but (.of b)
theorem LL.app {d : Addr} {H : Hp} {vs us : List V} (h : LL d H vs) (g : LL d H us) : LL d H (vs ++ us) := fun v hv => (List.mem_append.mp hv).elim (h v) (g v)
theorem LL.cons {d a : Addr} {H : Hp} {us : List V} {xs : List Int} (e : H a = some (.lst (xs.map V.int))) (n : a ≠ d) (l : xs.length ≤ 2000000) (g : LL d H us) : LL d H (.ref a :: us) := fun v hv => by
  rcases List.mem_cons.mp hv with rfl | hv
  · exact ⟨a, xs, rfl, e, n, l⟩
  · exact g v hv
theorem LL.put {d R a : Addr} {H : Hp} {vs r : List V} {o : HO} (h : LL d H vs) (e : H R = some (.lst (.ref a :: r))) : LL d (upd H R o) vs := fun v hv => by
  obtain ⟨a', xs, e1, e2, e3, e4⟩ := h v hv
  refine ⟨a', xs, e1, ?_, e3, e4⟩
  rw [upd_ne]
  · exact e2
  · rintro rfl
    rw [e] at e2
    cases xs with
    | nil => cases e2
    | cons x xs => cases e2
/-- behind a store to a list that stands nowhere ahead -/
theorem LL.new {d R : Addr} {H H' : Hp} {vs : List V} {o : HO} (h : LL d H vs) (hR : H R = none) (b : But d H H') : LL d (upd H' R o) vs := h.but (b.own hR)
end Fx

namespace Fx
open PySem PySem.Spec PyProof.Rows L2
/-! ### steps in a row -/
theorem wts_steps' {b m : Nat} : wts b m = (List.range b).map (stepN b m) := by
  unfold wts
  refine List.map_congr_left fun r hr => ?_
  exact (stepN_lt_base (List.mem_range.mp hr)).symm
def stpN (b m k : Nat) : List Nat := (List.range k).map (stepN b m)
theorem stpN_len (b m k : Nat) : (stpN b m k).length = k := by
  unfold stpN
  rw [List.length_map, List.length_range]
theorem stpN_get {b m k i : Nat} (h : i < k) : (stpN b m k)[i]? = some (stepN b m i) := by
  unfold stpN
  rw [List.getElem?_map, List.getElem?_range h]
  rfl
theorem stpN_succ (b m k : Nat) : stpN b m (k + 1) = stpN b m k ++ [stepN b m k] := by
  unfold stpN
  rw [List.range_succ, List.map_append]
  rfl
/-! ### where all numbers end, in a dict -/
structure EK (H : Hp) (E : Addr) (b p N : Nat) (ks : List Nat) (kvs : List (Key × V)) : Prop where
  at' : H E = some (.dK kvs)
  keys : kvs.map (·.1) = ks.map fun (n : Nat) => (Sum.inl (n : Int) : Key)
  nd : ks.Nodup
  lt : ∀ n ∈ ks, n < N
  val : ∀ n ∈ ks, ∃ t a m, valV kvs (Sum.inl ((n : Nat) : Int) : Key) = some (.ref t) ∧ H t = some (.tup (ivs [a, m])) ∧ EndAt b p n a m
theorem EK.len {H : Hp} {E : Addr} {b p N : Nat} {ks : List Nat} {kvs : List (Key × V)} (h : EK H E b p N ks kvs) : kvs.length ≤ N := by
  have := congrArg List.length h.keys
  rw [List.length_map, List.length_map] at this
  rw [this]
  exact nodup_len N ks h.nd h.lt
theorem EK.no {H : Hp} {E : Addr} {b p N n : Nat} {ks : List Nat} {kvs : List (Key × V)} (h : EK H E b p N ks kvs) (hn : n ∉ ks) : valV kvs (Sum.inl ((n : Nat) : Int) : Key) = none := by
  cases e : valV kvs (Sum.inl ((n : Nat) : Int) : Key) with
  | none => rfl
  | some v =>
    have := valV_in e
    rw [h.keys] at this
    obtain ⟨m, hm, z⟩ := List.mem_map.mp this
    have : m = n := by
      have := Sum.inl.inj z
      omega
    exact absurd (this ▸ hm) hn
theorem EK.keep {H H' : Hp} {E : Addr} {b p N : Nat} {ks : List Nat} {kvs : List (Key × V)} (h : EK H E b p N ks kvs) (s : Same H H') : EK H' E b p N ks kvs :=
  ⟨s _ _ h.at', h.keys, h.nd, h.lt, fun n hn => by
    obtain ⟨t, a, m, e1, e2, e3⟩ := h.val n hn
    exact ⟨t, a, m, e1, s _ _ e2, e3⟩⟩
theorem EK.put {H : Hp} {E t : Addr} {b p N n a m : Nat} {ks : List Nat} {kvs : List (Key × V)} (h : EK H E b p N ks kvs) (hn : n ∉ ks) (lt : n < N) (et : H t = some (.tup (ivs [a, m]))) (en : EndAt b p n a m) :
    EK (upd H E (.dK (putK kvs (Sum.inl ((n : Nat) : Int)) (.ref t)))) E b p N (ks ++ [n]) (putK kvs (Sum.inl ((n : Nat) : Int)) (.ref t)) := by
  have off : ∀ x xs, H x = some (HO.tup xs) → x ≠ E := fun x xs e => (ne_of h.at' e fun z => by cases z).symm
  have vn := h.no hn
  refine ⟨upd_same, ?_, ?_, fun x hx => ?_, fun x hx => ?_⟩
  · rw [putK_new _ vn, List.map_append, List.map_append, h.keys]
    rfl
  · exact nd_snoc h.nd hn
  · rcases List.mem_append.mp hx with c | c
    · exact h.lt x c
    · cases List.mem_singleton.mp c
      exact lt
  · rcases List.mem_append.mp hx with c | c
    · obtain ⟨t', a', m', e1, e2, e3⟩ := h.val x c
      refine ⟨t', a', m', ?_, by rw [upd_ne (off _ _ e2)]; exact e2, e3⟩
      rw [valV_put, if_neg]
      · exact e1
      · intro z
        have : x = n := by
          have := Sum.inl.inj z
          omega
        exact hn (this ▸ c)
    · cases List.mem_singleton.mp c
      exact ⟨t, a, m, by rw [valV_put, if_pos rfl], by rw [upd_ne (off _ _ et)]; exact et, en⟩
/-- steps lead to numbers that stand there -/
def Cl (b p : Nat) (ks : List Nat) : Prop := ∀ n ∈ ks, stepN b p n ∈ ks
theorem Cl.it {b p n : Nat} {ks : List Nat} (h : Cl b p ks) (hn : n ∈ ks) : ∀ j, itN b p n j ∈ ks
  | 0 => hn
  | j + 1 => h _ (Cl.it h hn j)
/-- a way from a number of a round on comes round at the first number -/
theorem EndAt.from {b p n a m : Nat} (h : EndAt b p n a m) (np : ¬ Per b p n → True) : True := trivial
theorem rnd_at {b p n A L m : Nat} (w : Way b p n A L) (h : EndAt b p n A m) {i : Nat} (h1 : A ≤ i) : EndAt b p (itN b p n i) 0 m := by
  have := h.later i
  rwa [show A - i = 0 by omega] at this
theorem before_at {b p n A m : Nat} (h : EndAt b p n A m) {i : Nat} : EndAt b p (itN b p n i) (A - i) m := h.later i
/-- periodic numbers are few -/
theorem per_le {b p L x : Nat} (hb : 2 ≤ b) (hL : IsLen (b : Int) (Fx.worth (b : Int) (p : Int)) L) (h : Per b p x) : x ≤ (L - 1) * (b - 1) ^ p := by
  obtain ⟨k, k0, e⟩ := h
  -- the greatest one of the round
  have mx : ∀ n, 0 < n → ∃ i, i < n ∧ ∀ j, j < n → itN b p x j ≤ itN b p x i := by
    intro n
    induction n with
    | zero => intro h; omega
    | succ n ih =>
      intro _
      by_cases c : n = 0
      · subst c
        exact ⟨0, by omega, fun j hj => by
          obtain rfl : j = 0 := by omega
          exact Nat.le_refl _⟩
      · obtain ⟨i, i1, i2⟩ := ih (by omega)
        by_cases d : itN b p x n ≤ itN b p x i
        · exact ⟨i, by omega, fun j hj => by
            by_cases ej : j = n
            · subst ej; exact d
            · exact i2 j (by omega)⟩
        · exact ⟨n, by omega, fun j hj => by
            by_cases ej : j = n
            · subst ej; exact Nat.le_refl _
            · have := i2 j (by omega)
              omega⟩
  obtain ⟨i, i1, i2⟩ := mx k k0
  have all : ∀ j, itN b p x j ≤ itN b p x i := fun j => by
    have : ∀ q, itN b p x (q * k + j) = itN b p x j := fun q => by
      rw [itN_add, Per.mul e q]
    rw [← Nat.div_add_mod j k, Nat.mul_comm]
    have e2 : itN b p x (j / k * k + j % k) = itN b p x (j % k) := by rw [itN_add, Per.mul e (j / k)]
    rw [e2]
    exact i2 _ (Nat.mod_lt _ k0)
  -- the one ahead of it
  have pr : ∃ j, itN b p x (j + 1) = itN b p x i := by
    refine ⟨i + k - 1, ?_⟩
    rw [show i + k - 1 + 1 = k + i by omega, itN_add, e]
  obtain ⟨j, ej⟩ := pr
  have hx := all 0
  rw [itN_zero] at hx
  have h2 := hL.two
  by_cases c : b ^ (L - 1) ≤ itN b p x j
  · have := goes_down hb hL c
    rw [itN_succ] at ej
    have := all j
    omega
  · rw [← ej, itN_succ] at hx
    have := step_le_len (b := b) (p := p) hb (figs_len_lt (k := L - 1) hb (by omega) (Nat.lt_of_not_le c))
    omega
/-- a table that steps do not leave -/
structure Big (b p N : Nat) : Prop where
  closed : ∀ x, x < N → stepN b p x < N
  per : ∀ x, Per b p x → x < N
theorem big_of {b p L N : Nat} (hb : 2 ≤ b) (hL : IsLen (b : Int) (Fx.worth (b : Int) (p : Int)) L) (h : (L - 1) * (b - 1) ^ p < N) : Big b p N := by
  refine ⟨fun x hx => ?_, fun x hx => Nat.lt_of_le_of_lt (per_le hb hL hx) h⟩
  have h2 := hL.two
  by_cases c : b ^ (L - 1) ≤ x
  · have := goes_down hb hL c
    omega
  · have := step_le_len (b := b) (p := p) hb (figs_len_lt (k := L - 1) hb (by omega) (Nat.lt_of_not_le c))
    omega
/-- least numbers of all rounds -/
def LeastsAt (b p : Nat) (ls : List Nat) : Prop := ∀ i m, ls[i]? = some m → ∃ A, EndAt b p i A m
end Fx

namespace Fx
open PySem PySem.Spec PyProof.Rows L2
/-! ### min of a tuple, a list that grows by a tuple, a tuple once -/
section
variable {pg : Program} {wd : World} {B : Around} {Er : Value → Shared → Prop} {st : Shared} {tp : Addr} {vals : List Value} {nums : List Int} {Z : Value → Shared → Prop}
theorem min_tup (calm : B.handled = none) (isT : st.heap.IsTuple tp vals.toArray) (whole : IntsAre vals nums) (some1 : 0 < nums.length)
    (go : ∀ hp tk M t', (∀ b o, st.heap.get? b = some o → hp.get? b = some o) → M ∈ nums → (∀ a, a ∈ nums → M ≤ a) → Z (.int M t') { st with heap := hp, toks := tk }) : wpAny (model pg wd) B (call (.builtin "min") [.ref tp]) Z Er st := by
  obtain ⟨ys, ey⟩ := whole.allInts.items
  have en : numsOf (intItems ys).toList = nums := ey ▸ whole.numsOf
  rw [nums_intItems] at en
  subst en
  rw [ey] at isT
  have below : tp < st.heap.objs.size := by
    obtain ⟨ob, hob, _⟩ := isT
    exact Heap.lt_size hob
  refine call_min_walk (wpAny_pyIter_tuple isT ?_)
  have st0 : (st.heap.push { cls := .type "tuple_iterator", data := .fields #[.ref tp, .int 0 0] }).IsTupleIter st.heap.objs.size tp 0 := ⟨_, Heap.get?_push_size _ rfl, rfl, rfl⟩
  refine ⟨_, [st.heap.objs.size, tp], [st.heap.objs.size], _, _, _, _, rfl, Walks.tuple (A := B.in1) calm _ tp (Nat.ne_of_lt below) (intItems ys), ⟨st0, isT.push _⟩, fun b hb => ?_, by simpa [intItems] using some1, CmpOf.ints_lt (numAt ys) (fun _ _ => intItems_at), fun v hp tk at' keep => ?_⟩
  · show b < (st.heap.push _).objs.size
    rw [Heap.size_push]
    have hb2 : b = st.heap.objs.size ∨ b = tp := by simpa using hb
    rcases hb2 with e | e
    · rw [e]
      exact Nat.lt_succ_self _
    · rw [e]
      exact Nat.lt_succ_of_lt below
  · have at2 : (intItems ys)[argBest (fun i j => decide (numAt ys i < numAt ys j)) (ys.size - 1)]? = some v := by simpa [intItems] using at'
    obtain ⟨t, rfl⟩ := intItems_at at2
    obtain ⟨lt1, lt2⟩ := argBest_lt (numAt ys) (ys.size - 1)
    have sz : 0 < ys.size := by simpa using some1
    refine go hp tk _ t (fun b o e => keep b o (fun hm => ?_) (Heap.get?_push_of_some _ e)) ?_ fun a ha => ?_
    · have eb : b = st.heap.objs.size := by simpa using hm
      exact absurd (eb ▸ Heap.lt_size e) (Nat.lt_irrefl _)
    · rw [numAt_eq]
      refine PySem.getD_mem ?_
      rw [List.length_map, Array.length_toList]
      omega
    · obtain ⟨j, hj, rfl⟩ := mem_getD ha
      rw [List.length_map, Array.length_toList] at hj
      have := lt2 j (by omega)
      rw [numAt_eq ys j] at this
      exact this
end
section
variable {X : Cx}
def rMinT (K : PySem.W.Frag) : List V → Hp → VK → Prop := fun vs H Q => ∃ (a : Addr) (ns : List Int), vs = [V.ref a] ∧ SqT K H a (ns.map V.int) ∧ 0 < ns.length ∧ ∀ m, m ∈ ns → (∀ y, y ∈ ns → m ≤ y) → Q (.int m) H
theorem cr_minT (hc : X.calm = true) : CallR X (.builtin "min") (rMinT X.K) := by
  intro pins s σ H vs us Q I r h
  obtain ⟨tp, nums, rfl, isT, some1, z⟩ := h
  obtain ⟨vals, rv, plain, _⟩ := I.tuple isT
  rw [Vals.ref1 r]
  have is2 : s.heap.IsTuple tp vals.toArray := plain
  exact min_tup (I.ok.hd hc) is2 rv.ints some1 fun hp tk m t' keep h1 h2 => ⟨.int _, H, I.kept keep, ⟨_, rfl⟩, z m h1 h2⟩
/-- the model's own walk through extend, the tuple whatever its other parts -/
theorem extend_tup (p : Addr) (own : Array Value) (n : Nat) (q : Addr) (more : Array Value) (k : Nat) (dd : Option Addr) (sl : Array (Option Value)) (few : ¬(!own.isEmpty && Builtin.List.listTooLong (own.size + more.size)) = true) (fit1 : own.size ≤ sizeLine) (fit2 : own.size + more.size ≤ sizeLine + 1) :
    Meets (Builtin.«list.extend» ⟨[.ref p, .ref q], []⟩) (fun _ R s => s.heap.get? p = some { cls := .type "list", dict := none, data := .seq own n, slots := #[] } ∧
      s.heap.get? q = some { cls := .type "tuple", dict := dd, data := .seq more k, slots := sl } ∧
      R (.ok (.ret Value.none)) { s with heap := s.heap.update p (Obj.mapSeq fun x => x ++ more), toks := s.toks }) :=
  .of_wp fun prog w A R s ask => by
    obtain ⟨hp, g, d, tk, os⟩ := s
    obtain ⟨at1, at2, ask⟩ := ask
    have i1 := AutoSeq1.idx_int
    have i2 := AutoSeq1.sub_tuple_tuple
    have i3 := AutoSeq1.sub_list_list
    have i4 := AutoSeq1.sub_tuple_list
    have i5 := AutoSeq1.sub_list_tuple
    have fit3 : (own ++ more).size ≤ sizeLine + 1 := by
      rw [Array.size_append]
      exact fit2
    wp_walk using (wpAny_updateSeq at1 rfl (hz := fit1) (_hz' := fit3)), wpAny_loadPart' at1, wpAny_loadPart' at2
    exact ⟨_, rfl, ask⟩
def rExtendT (K : PySem.W.Frag) : V → List V → Hp → VK → Prop := fun x vs H Q => ∃ l b xs zs, x = .ref l ∧ vs = [.ref b] ∧ H l = some (.lst xs) ∧ SqT K H b zs ∧ xs.length + zs.length < sizeLine ∧ Q .non (upd H l (.lst (xs ++ zs)))
theorem mt_extendT : MtM X "list.extend" (rExtendT X.K) := by
  intro pins s σ H x vs v us Q I rx rv h
  obtain ⟨l, b, xs, zs, rfl, rfl, hL, hT, fit, z⟩ := h
  cases rx
  obtain ⟨u, rfl, ru⟩ := rv.one
  cases ru
  obtain ⟨z1, its, n, r1, hl, e1⟩ := I.lstM hL
  obtain ⟨its2, r2, ⟨⟨cls, dd, data, sl⟩, e2, hc2, n2, hd2⟩, hs2⟩ := I.tuple hT
  simp only at hc2 hd2
  subst hc2 hd2
  have l2 : zs.length = its2.length := r2.length
  have fit1 : its.toArray.size + its2.toArray.size ≤ sizeLine := by
    rw [List.size_toArray, List.size_toArray]
    omega
  have few : ¬ (!its.toArray.isEmpty && Builtin.List.listTooLong (its.toArray.size + its2.toArray.size)) = true := by
    rw [notLongL fit1, Bool.and_false]
    exact Bool.false_ne_true
  refine call_meets F.slot_list_extend ⟨_, e1, rfl⟩ F.entry_list_extend (F.args_list_extend_2 _ _) (extend_tup l its.toArray n b its2.toArray n2 dd sl few (by rw [List.size_toArray]; omega) (by omega)) ⟨e1, e2, ?_⟩
  have len : (xs ++ zs).length ≤ sizeLine := by
    rw [List.length_append]
    omega
  exact ⟨.non, _, I.lset (its' := its ++ its2) hL e1 (by simp) (r1.append r2) len, rfl, z⟩
/-- a tuple once is the tuple itself -/
theorem tuple_mul1 (l : Addr) (items : Array Value) (n : Nat) (dd : Option Addr) (sl : Array (Option Value)) (x : Int) (u : Tok) (c0 : (decide (x < -(2 ^ 63)) || decide (x ≥ 2 ^ 63)) = false) (c1 : (items.isEmpty || x == 1) = true) :
    Meets (Builtin.«tuple.__mul__» ⟨[.ref l, .int x u], []⟩) (fun _ R s => s.heap.get? l = some { cls := .type "tuple", dict := dd, data := .seq items n, slots := sl } ∧ R (.ok (.ret (Value.ref l))) { s with heap := s.heap, toks := s.toks }) :=
  .of_wp fun prog w A R s h => by
    obtain ⟨hp, g, d, tk, os⟩ := s
    obtain ⟨hl, h⟩ := h
    have f1 := AutoSeq1.idx_int
    wp_walk using wpAny_loadPart' hl
    repeat (first
      | (refine wpAny_ite_false (decide_eq_false (by rw [c0]; exact Bool.false_ne_true)) ?_; wp_walk using wpAny_loadPart' hl)
      | (refine wpAny_ite_true (decide_eq_true c1) ?_; wp_walk using wpAny_loadPart' hl))
    exact ⟨_, rfl, h⟩
def rRepT1 (K : PySem.W.Frag) : R2 := fun x y H Q => ∃ l k xs, x = .ref l ∧ y = .int k ∧ SqT K H l xs ∧ xs ≠ [] ∧ 1 ≤ k ∧ k ≤ 1000 ∧ xs.length ≤ 1000 ∧ (k = 1 → Q (.ref l) H) ∧ (2 ≤ k → ∀ p, H p = none → Q (.ref p) (upd H p (.tup (List.replicate k.toNat xs).flatten)))
theorem op_repT1 : OpR X (binaryOp .Mult) (rRepT1 X.K) := by
  intro pins s σ H x y v u Q I rx ry h
  obtain ⟨l, k, xs, rfl, rfl, hT, hne, h1, h2, hz, q1, q2⟩ := h
  by_cases c : k = 1
  · subst c
    cases rx
    obtain ⟨t, rfl⟩ := ry
    obtain ⟨its, r, ⟨⟨cls, dd, data, sl⟩, ho, hc, n, hd⟩, hs⟩ := I.tuple hT
    simp only at hc hd
    subst hc hd
    have c0 : (decide ((1 : Int) < -(2 ^ 63)) || decide ((1 : Int) ≥ 2 ^ 63)) = false := by decide
    have c1 : (its.toArray.isEmpty || (1 : Int) == 1) = true := by
      rw [show ((1 : Int) == 1) = true from rfl, Bool.or_true]
    exact wpAny_binaryOp_repeat_ref (T := "tuple") (U := "int") (by decide) ⟨_, ho, rfl⟩ (fun s' => typeIs_int s' 1 t) noFill_tuple_mul F.fills_int_mul F.slot_int_rmul repeat_tuple F.slot_int_index.lookup
      (call_meets F.slot_int_rmul (typeIs_int s 1 t) F.entry_int_rmul (F.args_int_rmul_2 _ _) (int_rmul_tuple 1 t l its.toArray n dd sl)
        ⟨ho, rfl, ⟨_, ho, rfl⟩, call_meets F.slot_tuple_mul ⟨_, ho, rfl⟩ F.entry_tuple_mul (F.args_tuple_mul_2 _ _) (tuple_mul1 l its.toArray n dd sl 1 t c0 c1) ⟨ho, .ref l, H, I, rfl, q1 rfl⟩⟩)
  · exact op_repT pins s σ H _ _ v u Q I rx ry ⟨l, k, xs, rfl, rfl, hT, hne, by omega, h2, hz, q2 (by omega)⟩
end
end Fx

namespace Fx
open PySem PySem.Spec PyProof.Rows L2
/-- all rounds by their least numbers, as they stand in a tuple -/
structure RoundsAt (b p : Nat) (H : Hp) (vs : List V) (ms ks : List Nat) : Prop where
  l1 : vs.length = ms.length
  l2 : ks.length = ms.length
  at' : ∀ (i : Nat) v m k, vs[i]? = some v → ms[i]? = some m → ks[i]? = some k → ∃ t, v = .ref t ∧ H t = some (.tup (ivs (rowN b p m k))) ∧ Rnd b p m k
  srt : ms.Pairwise (· < ·)
  all : ∀ m, m ∈ ms ↔ EndAt b p m 0 m
/-- a slice of a tuple, the whole one or a new one -/
theorem slice_tup {K : PySem.W.Frag} {H : Hp} {a : Addr} {xs : List V} {lo hi : Option Int} {Q : V → Hp → Prop} (h : H a = some (.tup xs)) (k : ∀ H' p, Same H H' → H' p = some (.tup (cutV xs lo hi)) → Q (.ref p) H') : rSlA K (.ref a) lo hi H Q := by
  refine ⟨a, xs, rfl, .of h, fun ⟨z1, z2⟩ => ?_, fun _ p hp => k _ p (Same.new hp) upd_same⟩
  refine k H a (Same.refl _) ?_
  rw [h]
  unfold cutV
  rw [z1, z2, List.drop_zero, Nat.sub_zero, List.take_length]
theorem slice_tupF {K : PySem.W.Frag} {σ : L2.St} {H : Hp} {a : Addr} {xs : List V} {lo : Option Int} {Q : V → Hp → Prop} (h : H a = some (.tup xs)) (k : ∀ H' p, Same H H' → H' p = some (.tup (cutV xs lo none)) → Q (.ref p) H') : tNoPart σ H fun u H3 => rSlA K (.ref a) lo u H3 Q := slice_tup h k
theorem cat_tup {K : PySem.W.Frag} {H : Hp} {a b : Addr} {xs ys : List V} {Q : V → Hp → Prop} (ha : H a = some (.tup xs)) (hb : H b = some (.tup ys)) (l : xs.length + ys.length ≤ sizeLine) (k : ∀ H' p, Same H H' → H' p = some (.tup (xs ++ ys)) → Q (.ref p) H') : rCatA K (.ref a) (.ref b) H Q :=
  ⟨a, b, xs, ys, rfl, rfl, .of ha, .of hb, l, fun e => k H b (Same.refl _) (by subst e; exact hb), fun _ e => k H a (Same.refl _) (by subst e; rw [List.append_nil]; exact ha), fun _ _ p hp => k _ p (Same.new hp) upd_same⟩
theorem rep_flat (v : V) : ∀ n : Nat, (List.replicate n [v]).flatten = List.replicate n v
  | 0 => rfl
  | n + 1 => by
    rw [List.replicate_succ, List.flatten_cons, rep_flat v n, List.replicate_succ]
    rfl
theorem rep_tup {K : PySem.W.Frag} {H : Hp} {a : Addr} {v : V} {n : Nat} {Q : V → Hp → Prop} (h : H a = some (.tup [v])) (h1 : 1 ≤ n) (h2 : n ≤ 1000) (k : ∀ H' p, Same H H' → H' p = some (.tup (List.replicate n v)) → Q (.ref p) H') : rRepT1 K (.ref a) (.int (n : Int)) H Q := by
  refine ⟨a, n, [v], rfl, rfl, .of h, (by simp), by omega, by omega, by show 1 ≤ 1000; omega, fun e => k H a (Same.refl _) ?_, fun _ p hp => k _ p (Same.new hp) ?_⟩
  · obtain rfl : n = 1 := by omega
    exact h
  · rw [upd_same, Int.toNat_natCast, rep_flat]
theorem RoundsAt.same {b p : Nat} {H H' : Hp} {vs : List V} {ms ks : List Nat} (h : RoundsAt b p H vs ms ks) (s : Same H H') : RoundsAt b p H' vs ms ks :=
  ⟨h.l1, h.l2, fun i v m k a1 a2 a3 => by
    obtain ⟨t, x1, x2, x3⟩ := h.at' i v m k a1 a2 a3
    exact ⟨t, x1, s _ _ x2, x3⟩, h.srt, h.all⟩
theorem RoundsAt.get {b p : Nat} {H : Hp} {vs : List V} {ms ks : List Nat} (h : RoundsAt b p H vs ms ks) {i : Nat} {v : V} (e : vs[i]? = some v) : ∃ t m k, v = .ref t ∧ ms[i]? = some m ∧ ks[i]? = some k ∧ H t = some (.tup (ivs (rowN b p m k))) ∧ Rnd b p m k := by
  have li := (List.getElem?_eq_some_iff.mp e).1
  have l1 := h.l1
  have l2 := h.l2
  have e1 : ms[i]? = some (ms[i]'(by omega)) := List.getElem?_eq_getElem _
  have e2 : ks[i]? = some (ks[i]'(by omega)) := List.getElem?_eq_getElem _
  obtain ⟨t, x1, x2, x3⟩ := h.at' i v _ _ e e1 e2
  exact ⟨t, _, _, x1, e1, e2, x2, x3⟩
theorem per_bound {b p x : Nat} (ok : OkN b p) (h : Per b p x) : x < 15000 := by
  obtain ⟨L, hL, l15⟩ := len_ex ok.ok.1 (show Fx.worth (b : Int) (p : Int) ≤ 1024 by have := ok.ok.worth; omega)
  have h1 := per_le ok.hb hL h
  have h2 := Nat.mul_le_mul (show L - 1 ≤ 14 by omega) ok.worth.2
  omega
theorem lt_of_bound {x : Nat} (h : x < 15000) : x < 2 ^ 200 := Nat.lt_of_lt_of_le (show x < 2 ^ 20 by omega) (Nat.pow_le_pow_right (by decide) (by decide))
theorem dpAll_rep {K : PySem.W.Frag} {H : Hp} {d : PyData} : ∀ {vs : List V}, (∀ v ∈ vs, Dp K H v d) → DpAll K H vs (List.replicate vs.length d)
  | [], _ => .nil
  | v :: vs, h => .cons (h v (List.mem_cons_self ..)) (dpAll_rep fun u hu => h u (List.mem_cons_of_mem _ hu))
theorem dpAll_same {K : PySem.W.Frag} {H : Hp} {d : PyData} {v : V} (h : Dp K H v d) : ∀ n : Nat, DpAll K H (List.replicate n v) (List.replicate n d)
  | 0 => .nil
  | n + 1 => .cons h (dpAll_same h n)
theorem canLay_reps (l : List Int) : ∀ n : Nat, PyData.canLayAll0 (List.replicate n (.tuple (dInts l))) = true
  | 0 => rfl
  | n + 1 => by
    rw [List.replicate_succ, PyData.canLayAll0, canLay_reps l n, PyData.canLay0, canLay_ints l]
    rfl
theorem depth_reps (l : List Int) : ∀ n : Nat, PyData.depthAll (List.replicate n (.tuple (dInts l))) ≤ 2
  | 0 => by rw [List.replicate_zero]; unfold PyData.depthAll; decide
  | n + 1 => by
    have h := depth_reps l n
    have g := depth_ints l
    rw [List.replicate_succ]
    unfold PyData.depthAll PyData.depth
    omega
theorem shaped_reps (l : List Int) (n : Nat) : SeqAt.shaped (.tuple (List.replicate n (.tuple (dInts l)))) = true := shaped_tup (canLay_reps l n) (Nat.le_trans (depth_reps l n) (by decide))
end Fx

namespace Fx
open PySem PySem.Spec PyProof.Rows L2
/-! ### for i, c in enumerate(text) -/
def IteS (x : Str) : It := ⟨fun i _ => i < x.cps.size, fun i H v H' => ∃ (T : Addr) (c : Nat), v = .ref T ∧ H T = none ∧ x.cps[i]? = some c ∧ H' = upd H T (.tup [.int (i : Nat), .str ⟨#[c]⟩]), fun i _ => x.cps.size ≤ i⟩
theorem turn_enumS {P : Program} {w : World} {K : PySem.W.Frag} {elts : List Expr} {kk : Nat} {tpos : Pos} (x : Str) (t : Tok) (e it : Addr) (hne : e ≠ it) :
    Turn P w K (.Tuple elts kk tpos) (IteS x) [e, it] e (fun i h => (∃ old, IsEnum h e it (0 + (i : Int)) old) ∧ h.IsStrIter it (strIterType x) x t i ∧ i ≤ x.cps.size) where
  mem := by simp
  obj := fun i h st b hb => by
    obtain ⟨⟨_, he⟩, ⟨o, ho, _, hd⟩, _⟩ := st
    have two : b = e ∨ b = it := by simpa using hb
    rcases two with rfl | rfl
    · exact ⟨_, he, fun _ q => nomatch q⟩
    · exact ⟨o, ho, fun _ q => nomatch (hd.symm.trans q)⟩
  keep := fun i h h' st k => by
    obtain ⟨⟨old, he⟩, ⟨o, ho, r⟩, le⟩ := st
    exact ⟨⟨old, k e (by simp) _ he⟩, ⟨o, k it (by simp) o ho, r⟩, le⟩
  item := by
    intro X p1 p2 p3 hc i pins s σ H E I hf st hg
    subst p1 p2 p3
    have W := WalksT.enumFrom (prog := X.prog) (w := X.w) (A := X.A) 0 (Draws.text (A := X.A.in1) (I.ok.hd hc) it x t) e hne (fun z => hne (List.mem_singleton.mp z)) (List.mem_singleton.mpr rfl)
    refine W.item i s _ _ hg ⟨st.1, st.2.1⟩ fun T vals h1 tk hP hsz hT hM hk => ⟨_, rfl, W.go _ _ _ i T _ _ _ hM fun h2 st2 hk2 => ?_⟩
    obtain ⟨u, y, ⟨c, v, hcx, rfl⟩, rfl⟩ := hP
    have kk2 : ∀ b o, b ∉ [e, it] → s.heap.get? b = some o → h2.get? b = some o := fun b o hb z => hk2 b o hb (hk b o hb z)
    have hTn : T ∉ [e, it] := W.apart i T _ hM
    obtain ⟨oT, hT1, hT2, n3, hT3⟩ := hT
    have new : ObjOk X.prog X.w (upd H T (.tup [.int (i : Nat), .str ⟨#[c]⟩])) h2 T (.tup [.int (i : Nat), .str ⟨#[c]⟩]) := by
      refine ⟨by show 2 ≤ sizeLine; decide, [.int (0 + (i : Int)) u, .str ⟨#[c]⟩ v], .cons ⟨u, ?_⟩ (.cons ⟨v, rfl⟩ .nil), ⟨oT, hk2 T _ hTn hT1, hT2, n3, hT3⟩⟩
      rw [Int.zero_add]
    have I1 : Inv X pins σ (upd H T (.tup [.int (i : Nat), .str ⟨#[c]⟩])) { s with heap := h2, toks := tk } := I.turnedNew (ch := [e, it]) kk2 hf hsz new
    refine ⟨.ref T, _, I1, rfl, ⟨T, c, rfl, I.hok.fresh hsz, hcx, rfl⟩, ?_, fun b hb => ?_⟩
    · exact ⟨st2.1, st2.2, hg⟩
    · rw [upd_ne (fun z => hTn (by rw [← z]; exact hb))]
      exact (hf b hb).1
  done := by
    intro X p1 p2 p3 hc i pins s σ H E I hf st hg
    subst p1 p2 p3
    obtain ⟨⟨old, he⟩, hit, le⟩ := st
    have fit := hf it (by simp)
    obtain rfl : i = x.cps.size := Nat.le_antisymm le hg
    exact wpAny_pyNext_enum_endD (Draws.text (A := X.A.in1) (I.ok.hd hc) it x t) he hit fun h' eb => ⟨rfl, I.turned (t' := s.toks) (fun b o hb q => eb b o hb q) fit.1 fit.2.1 fit.2.2.2.1 fit.2.2.2.2.1 fit.2.2.2.2.2⟩
  self := fun _ _ _ _ _ st h => wpAny_pyIter_enum st.1.choose_spec h
def iEnumS (ta : TA) : TI := fun σ H R => ta σ H fun vs H1 => ∃ x, vs = [.str x] ∧ R (IteS x) H1
theorem pi_enumS {X : Cx} {e : Expr} {ta : TA} {p pos tpos : Pos} {elts : List Expr} {kk : Nat} (hg : Gl X "enumerate") (hm : X.mg "enumerate" = none) (ha : PA X [e] ta) (hs : starEach [e] X.env = [(false, eval e X.env)] := by rfl) :
    PI X (.Tuple elts kk tpos) (.Call (.Name "enumerate" p) [e] [] pos) (iEnumS ta) := by
  refine ⟨fun pn s σ H R I h => Call_ (ld_blt I hg hm boot_enumerate (PyProof.Rows.callWith_type1 (thn (ha.run pos pn s σ H _ I h) fun us s1 ⟨vs, H1, I1, r1, q1⟩ => ?_) hs rfl))⟩
  obtain ⟨x, ex, q⟩ := q1
  subst ex
  cases r1 with
  | cons r rr =>
    cases rr
    obtain ⟨t, rfl⟩ := r
    refine call_enumerate_str fun h' he hit hsz hk => wpAny_pyIter_enum he ?_
    have I2 : Inv X pn σ H1 { s1 with heap := h' } := I1.kept (t' := s1.toks) hk
    refine ⟨s1.heap.objs.size + 1, [s1.heap.objs.size + 1, s1.heap.objs.size], _, _, H1, rfl, I2, turn_enumS x t (s1.heap.objs.size + 1) s1.heap.objs.size (Nat.succ_ne_self _), ⟨⟨.none, he⟩, hit, Nat.zero_le _⟩, fun b hb => ?_, q⟩
    have two : b = s1.heap.objs.size + 1 ∨ b = s1.heap.objs.size := by simpa only [List.mem_cons, List.not_mem_nil, or_false] using hb
    have behind : s1.heap.objs.size ≤ b := two.elim (fun z => z ▸ Nat.le_succ _) fun z => Nat.le_of_eq z.symm
    exact I1.fpOk behind (I1.hok.fresh behind)
theorem walk_enumS {x : Str} : Walk (IteS x) x.cps.size (fun _ => True) (fun i H v H' => ∃ (T : Addr) (c : Nat), v = .ref T ∧ H T = none ∧ x.cps[i]? = some c ∧ H' = upd H T (.tup [.int (i : Nat), .str ⟨#[c]⟩])) :=
  ⟨fun _ _ hi _ => hi, fun _ _ => Nat.le_refl _, fun _ _ _ _ _ _ y => y⟩
end Fx

namespace Fx
open PySem PySem.Spec PyProof.Rows L2
/-! ### texts of figures -/
/-- the signs of the figures -/
def figCodes : List Nat := [48, 49, 50, 51, 52, 53, 54, 55, 56, 57, 97, 98, 99, 100, 101, 102]
def sg (d : Nat) : Nat := figCodes.getD d 0
abbrev one (c : Nat) : Str := ⟨#[c]⟩
def txt (ds : List Nat) : Str := ⟨(ds.map sg).toArray⟩
abbrev FIG : Str := "0123456789abcdef"
theorem fig_codes : FIG.cps.toList = figCodes := by decide +kernel
theorem fig_len : FIG.length ≤ sizeLine := by decide +kernel
theorem fig_at {d : Nat} (h : d < 16) : atI FIG.cps.toList (d : Int) = some (sg d) := by
  refine atI_nat ?_
  rw [fig_codes]
  have a : ∀ d ∈ List.range 16, figCodes[d]? = some (sg d) := by decide +kernel
  exact a d (List.mem_range.mpr h)
theorem fig_find {d : Nat} (h : d < 16) : Txt.find FIG (one (sg d)) = (d : Int) := by
  have a : ∀ d ∈ List.range 16, Txt.find FIG (one (sg d)) = (d : Int) := by decide +kernel
  exact a d (List.mem_range.mpr h)
theorem sg_inj {d e : Nat} (h : d < 16) (h' : e < 16) (q : sg d = sg e) : d = e := by
  have a : ∀ d ∈ List.range 16, ∀ e ∈ List.range 16, sg d = sg e → d = e := by decide +kernel
  exact a d (List.mem_range.mpr h) e (List.mem_range.mpr h') q
theorem tl_txt (ds : List Nat) : (txt ds).cps.toList = ds.map sg := rfl
theorem txt_len (ds : List Nat) : (txt ds).length = ds.length := by
  show (ds.map sg).toArray.size = _
  rw [List.size_toArray, List.length_map]
theorem txt_at {ds : List Nat} {i : Nat} {d : Nat} (h : ds[i]? = some d) : (txt ds).cps[i]? = some (sg d) := by
  show ((ds.map sg).toArray)[i]? = _
  rw [List.getElem?_toArray, List.getElem?_map, h]
  rfl
theorem txt_atI {ds : List Nat} {i : Nat} {d : Nat} (h : ds[i]? = some d) : atI (txt ds).cps.toList (i : Int) = some (sg d) := by
  refine atI_nat ?_
  rw [tl_txt, List.getElem?_map, h]
  rfl
/-- signs joined -/
theorem joinL_ones : ∀ cs : List Nat, TL.joinL [] (cs.map fun c => [c]) = cs
  | [] => rfl
  | [c] => rfl
  | c :: e :: r => by
    show [c] ++ ([] ++ TL.joinL [] ((e :: r).map fun c => [c])) = _
    rw [joinL_ones (e :: r)]
    rfl
theorem join_ones (cs : List Nat) : Txt.join "" (cs.map one) = ⟨cs.toArray⟩ := by
  rw [TL.join_eq]
  have e : TL.tl (Str.join "" (cs.map one)) = TL.tl ⟨cs.toArray⟩ := by
    rw [TL.tl_join, List.map_map]
    exact joinL_ones cs
  have f : ∀ x y : Str, TL.tl x = TL.tl y → x = y := fun x y h => by
    cases x with
    | mk a =>
      cases y with
      | mk b =>
        have h' : a.toList = b.toList := h
        rw [show a = b from Array.toList_inj.mp h']
  exact f _ _ e
/-- what figures are worth -/
def val (b : Nat) (ds : List Nat) : Nat := ds.foldl (fun a d => a * b + d) 0
theorem val_take {b : Nat} {ds : List Nat} {i d : Nat} (h : ds[i]? = some d) : val b (ds.take (i + 1)) = val b (ds.take i) * b + d := by
  unfold val
  rw [List.take_add_one, h, List.foldl_append]
  rfl
theorem val_figs {b : Nat} (hb : 2 ≤ b) : ∀ n : Nat, val b (figs b n) = n := fun n => by
  induction n using Nat.strongRecOn with
  | ind n ih =>
    by_cases h : b ≤ n
    · have e : figs b n = figs b (n / b) ++ [n % b] := by
        unfold figs
        rw [lsd_ge hb h, List.reverse_cons]
      have i := ih (n / b) (Nat.div_lt_self (by omega) (by omega))
      rw [e]
      unfold val at i ⊢
      rw [List.foldl_append, i]
      show n / b * b + n % b = n
      rw [Nat.mul_comm]
      exact Nat.div_add_mod n b
    · unfold figs
      rw [lsd_lt (by omega)]
      show 0 * b + n = n
      omega
theorem val_lt {b : Nat} (hb : 2 ≤ b) : ∀ ds : List Nat, (∀ d ∈ ds, d < b) → val b ds < b ^ ds.length := fun ds h => by
  have go : ∀ (ds : List Nat) (a k : Nat), (∀ d ∈ ds, d < b) → a < b ^ k → ds.foldl (fun a d => a * b + d) a < b ^ (k + ds.length) := by
    intro ds
    induction ds with
    | nil => intro a k _ h; exact h
    | cons d r ih =>
      intro a k h0 h1
      have hd := h0 d (List.mem_cons_self ..)
      have := ih (a * b + d) (k + 1) (fun e he => h0 e (List.mem_cons_of_mem _ he)) (by
        rw [Nat.pow_succ]
        have := Nat.mul_le_mul_right b (show a + 1 ≤ b ^ k from h1)
        rw [Nat.succ_mul] at this
        omega)
      rw [List.length_cons]
      rw [show k + (r.length + 1) = k + 1 + r.length by omega]
      exact this
  have := go ds 0 0 h (by rw [Nat.pow_zero]; decide)
  rwa [Nat.zero_add] at this
/-- a number's figures: no nought ahead of others -/
theorem figs_head {b : Nat} (hb : 2 ≤ b) : ∀ n : Nat, ∀ d : Nat, (figs b n)[0]? = some d → d = 0 → (figs b n).length = 1 := fun n => by
  induction n using Nat.strongRecOn with
  | ind n ih =>
    intro d hd h0
    by_cases h : b ≤ n
    · have e : figs b n = figs b (n / b) ++ [n % b] := by
        unfold figs
        rw [lsd_ge hb h, List.reverse_cons]
      have hlen : 0 < (figs b (n / b)).length := by
        rw [figs_len]
        exact List.length_pos_iff.mpr lsd_ne
      rw [e, List.getElem?_append_left hlen] at hd
      have l1 := ih (n / b) (Nat.div_lt_self (by omega) (by omega)) d hd h0
      have hq : 0 < n / b := Nat.div_pos h (by omega)
      have ev := val_figs hb (n / b)
      have : ∃ x, figs b (n / b) = [x] := List.length_eq_one_iff.mp l1
      obtain ⟨x, hx⟩ := this
      rw [hx] at hd ev
      have : x = d := Option.some.inj hd
      have ev' : 0 * b + x = n / b := ev
      omega
    · unfold figs
      rw [lsd_lt (by omega)]
      rfl
theorem figs_ne {b n : Nat} : figs b n ≠ [] := fun h => lsd_ne (List.reverse_eq_nil_iff.mp h)
/-- figures that may be read: some, below the base, no nought ahead of others -/
structure Reads (b : Nat) (ds : List Nat) : Prop where
  ne : ds ≠ []
  below : ∀ d ∈ ds, d < b
  head : ∀ d, ds[0]? = some d → d = 0 → ds.length = 1
theorem Reads.figs {b : Nat} (hb : 2 ≤ b) (n : Nat) : Reads b (figs b n) := ⟨figs_ne, fun _ h => figs_below hb h, figs_head hb n⟩
end Fx

namespace Fx
open PySem PySem.Spec PyProof.Rows L2
/-! ### a < b of data; a walk over a list or a tuple -/
def rLtD (K : PySem.W.Frag) : R2 := fun x y H Q => ∃ d e, Dp K H x d ∧ Dp K H y e ∧ PySem.W.alike d e = true ∧ d ≠ .none ∧ d.depth ≤ 60 ∧ Q (.bl (PySem.W.dataLt d e)) H
theorem op_ltD {X : Cx} (hu : X.A.units + 64 < cLine) : OpR X (compareOp .Lt) (rLtD X.K) := by
  intro pins s σ H x y v u Q I rx ry h
  obtain ⟨d, e, hd, he, al, nn, dp, q⟩ := h
  obtain ⟨as, r1⟩ := Dp.reads I d x v hd rx
  obtain ⟨bs, r2⟩ := Dp.reads I e y u he ry
  have hm : min d.depth e.depth ≤ d.depth := Nat.min_le_left _ _
  exact PySem.W.lt_data r1 r2 al nn (by omega) ⟨.bl _, H, I, rfl, q⟩
theorem pi_or {X : Cx} {tg e : Expr} {w1 w2 : TI} (h1 : PI X tg e w1) (h2 : PI X tg e w2) : PI X tg e (fun σ H R => w1 σ H R ∨ w2 σ H R) :=
  ⟨fun pins s σ H R I h => h.elim (h1.run pins s σ H R I) (h2.run pins s σ H R I)⟩
/-! ### lists without one place -/
theorem ixN_of {n j : Nat} (h : j < n) : ixN n (j : Int) = some j := by
  unfold ixN
  rw [if_pos (by omega), if_pos (by omega)]
  simp
theorem seq_of {n j : Nat} (h : j < n) : seqIndex? (j : Int) n = some j := (ixN_seq (ixN_of h)).1
theorem erase_sum : ∀ {l : List Nat} {k : Nat} {d : Nat} (f : Nat → Nat), l[k]? = some d → ((l.eraseIdx k).map f).sum + f d = (l.map f).sum
  | [], _, _, _, h => by simp at h
  | a :: r, 0, d, f, h => by
    cases Option.some.inj h
    show (r.map f).sum + f a = (f a :: r.map f).sum
    rw [List.sum_cons]
    omega
  | a :: r, k + 1, d, f, h => by
    have ih := erase_sum (l := r) (k := k) (d := d) f h
    show ((f a) :: (r.eraseIdx k).map f).sum + f d = (f a :: r.map f).sum
    rw [List.sum_cons, List.sum_cons]
    omega
theorem ivs_erase : ∀ (l : List Nat) (k : Nat), (ivs l).eraseIdx k = ivs (l.eraseIdx k)
  | [], _ => rfl
  | _ :: _, 0 => rfl
  | a :: r, k + 1 => by
    show V.int (a : Int) :: (ivs r).eraseIdx k = V.int (a : Int) :: ivs (r.eraseIdx k)
    rw [ivs_erase r k]
/-! ### steps of what figures are worth -/
theorem step_val {b p : Nat} (hb : 2 ≤ b) (hp : 1 ≤ p) (ds : List Nat) (h : ∀ d ∈ ds, d < b) : stepN b p (val b ds) = (ds.map (· ^ p)).sum := by
  have go : ∀ (ds : List Nat) (a : Nat), (∀ d ∈ ds, d < b) → stepN b p (ds.foldl (fun a d => a * b + d) a) = stepN b p a + (ds.map (· ^ p)).sum := by
    intro ds
    induction ds with
    | nil => intro a _; rfl
    | cons d r ih =>
      intro a h
      show stepN b p (r.foldl (fun a d => a * b + d) (a * b + d)) = _
      rw [ih (a * b + d) (fun e he => h e (List.mem_cons_of_mem _ he)), stepN_push hb hp (h d (List.mem_cons_self ..)), List.map_cons, List.sum_cons]
      omega
  have := go ds 0 h
  rw [stepN_zero hb hp, Nat.zero_add] at this
  exact this
theorem val_lt900 {b : Nat} (hb : 2 ≤ b) (hb16 : b ≤ 16) {ds : List Nat} (h : ∀ d ∈ ds, d < b) (hl : ds.length ≤ 200) : val b ds < 2 ^ 900 := by
  have h1 := val_lt hb ds h
  have h2 : b ^ ds.length ≤ b ^ 200 := Nat.pow_le_pow_right (by omega) hl
  have h3 : b ^ 200 ≤ 16 ^ 200 := Nat.pow_le_pow_left hb16 200
  have h4 : (16 : Nat) ^ 200 = 2 ^ 800 := by
    rw [show (16 : Nat) = 2 ^ 4 by decide, ← Nat.pow_mul]
  have h5 : (2 : Nat) ^ 800 ≤ 2 ^ 900 := Nat.pow_le_pow_right (by decide) (by decide)
  omega
theorem val_append {b : Nat} (ds es : List Nat) : val b (ds ++ es) = val b ds * b ^ es.length + val b es := by
  have go : ∀ (es : List Nat) (a : Nat), es.foldl (fun a d => a * b + d) a = a * b ^ es.length + val b es := by
    intro es
    induction es with
    | nil =>
      intro a
      show a = a * b ^ 0 + 0
      rw [Nat.pow_zero]
      omega
    | cons d r ih =>
      intro a
      show r.foldl (fun a d => a * b + d) (a * b + d) = _
      rw [ih (a * b + d)]
      have e : val b (d :: r) = d * b ^ r.length + val b r := by
        show r.foldl (fun a d => a * b + d) (0 * b + d) = _
        rw [ih (0 * b + d), Nat.zero_mul, Nat.zero_add]
      rw [e, List.length_cons, Nat.pow_succ, Nat.add_mul, Nat.mul_assoc, Nat.mul_comm b]
      omega
  unfold val
  rw [List.foldl_append]
  exact go es _
theorem val_cons {b d : Nat} (r : List Nat) : val b (d :: r) = d * b ^ r.length + val b r := by
  have := val_append (b := b) [d] r
  rw [show val b [d] = d by show 0 * b + d = d; omega] at this
  exact this
/-! ### the order of texts is that of numbers -/
theorem sg_lt {d e : Nat} (h : d < 16) (h' : e < 16) : sg d < sg e ↔ d < e := by
  have a : ∀ d ∈ List.range 16, ∀ e ∈ List.range 16, (sg d < sg e ↔ d < e) := by decide +kernel
  exact a d (List.mem_range.mpr h) e (List.mem_range.mpr h')
theorem lex_val {b : Nat} (hb : 2 ≤ b) (hb16 : b ≤ 16) : ∀ ds es : List Nat, ds.length = es.length → (∀ d ∈ ds, d < b) → (∀ d ∈ es, d < b) → (ds.map sg < es.map sg ↔ val b ds < val b es)
  | [], [], _, _, _ => by
    constructor
    · intro h; exact absurd h (List.not_lt_nil _)
    · intro h; exact absurd h (Nat.lt_irrefl _)
  | [], _ :: _, h, _, _ => by simp at h
  | _ :: _, [], h, _, _ => by simp at h
  | d :: ds, e :: es, hl, h1, h2 => by
    have hl' : ds.length = es.length := by simpa using hl
    have hd := h1 d (List.mem_cons_self ..)
    have he := h2 e (List.mem_cons_self ..)
    have i1 : ∀ x ∈ ds, x < b := fun x hx => h1 x (List.mem_cons_of_mem _ hx)
    have i2 : ∀ x ∈ es, x < b := fun x hx => h2 x (List.mem_cons_of_mem _ hx)
    have ih := lex_val hb hb16 ds es hl' i1 i2
    have v1 := val_lt hb ds i1
    have v2 := val_lt hb es i2
    rw [List.map_cons, List.map_cons, List.cons_lt_cons_iff, ih, sg_lt (by omega) (by omega), val_cons, val_cons, hl']
    rw [hl'] at v1
    constructor
    · rintro (h | ⟨h, g⟩)
      · have := Nat.mul_le_mul_right (b ^ es.length) (show d + 1 ≤ e from h)
        rw [Nat.succ_mul] at this
        omega
      · have := sg_inj (by omega) (by omega) h
        subst this
        omega
    · intro h
      by_cases c : d < e
      · exact .inl c
      · right
        have de : d = e := by
          refine Nat.le_antisymm (Nat.le_of_not_lt fun z => ?_) (by omega)
          have := Nat.mul_le_mul_right (b ^ es.length) (show e + 1 ≤ d from z)
          rw [Nat.succ_mul] at this
          omega
        subst de
        exact ⟨rfl, by omega⟩
theorem len_lt_num {b n m : Nat} (hb : 2 ≤ b) (h : (figs b n).length < (figs b m).length) : n < m := by
  have l0 : 0 < (figs b n).length := List.length_pos_iff.mpr figs_ne
  have h1 := val_lt hb (figs b n) fun d hd => figs_below hb hd
  rw [val_figs hb] at h1
  have m0 : 0 < m := by
    refine Nat.pos_of_ne_zero fun z => ?_
    subst z
    rw [figs_len b 0, lsd_lt (by omega)] at h
    have : [0].length = 1 := rfl
    omega
  have h2 := len_pow hb m m0
  have := Nat.pow_le_pow_right (show 0 < b by omega) (show (figs b n).length ≤ (figs b m).length - 1 by omega)
  omega
theorem txt_inj {b n m : Nat} (hb : 2 ≤ b) (hb16 : b ≤ 16) (h : txt (figs b n) = txt (figs b m)) : n = m := by
  have e := congrArg (fun x : Str => x.cps.toList) h
  have e' : (figs b n).map sg = (figs b m).map sg := e
  have l : (figs b n).length = (figs b m).length := by
    have := congrArg List.length e'
    simpa using this
  rcases Nat.lt_trichotomy n m with c | c | c
  · have := (lex_val hb hb16 _ _ l (fun d hd => figs_below hb hd) (fun d hd => figs_below hb hd)).mpr (by rw [val_figs hb, val_figs hb]; exact c)
    rw [e'] at this
    exact absurd this (List.lt_irrefl _)
  · exact c
  · have := (lex_val hb hb16 _ _ l.symm (fun d hd => figs_below hb hd) (fun d hd => figs_below hb hd)).mpr (by rw [val_figs hb, val_figs hb]; exact c)
    rw [e'] at this
    exact absurd this (List.lt_irrefl _)
/-- (its length, its text), as data -/
def lenTxt (ds : List Nat) : PyData := .tuple [.int (ds.length : Int), .str (txt ds)]
theorem lenTxt_lt {b n m : Nat} (hb : 2 ≤ b) (hb16 : b ≤ 16) : PySem.W.dataLt (lenTxt (figs b n)) (lenTxt (figs b m)) = decide ((n : Int) < (m : Int)) := by
  unfold lenTxt
  rw [PySem.W.dataLt_tuple]
  by_cases c : (figs b n).length = (figs b m).length
  · rw [PySem.W.dataLt_all_yes (by rfl) (by rw [c]; simp [PyData.eqv])]
    by_cases d : txt (figs b n) = txt (figs b m)
    · have nm := txt_inj hb hb16 d
      subst nm
      rw [decide_eq_false (Int.lt_irrefl _)]
      rw [PySem.W.dataLt_all_yes (by rfl) (by simp [PyData.eqv])]
      decide +kernel
    · rw [PySem.W.dataLt_all_no (by rfl) (by simp [PyData.eqv, d]), PySem.W.dataLt_str]
      rw [decide_eq_decide, tl_txt, tl_txt, lex_val hb hb16 _ _ c (fun d hd => figs_below hb hd) (fun d hd => figs_below hb hd), val_figs hb, val_figs hb]
      omega
  · rw [PySem.W.dataLt_all_no (by rfl) (by simp [PyData.eqv]; omega), PySem.W.dataLt_int, decide_eq_decide]
    constructor
    · intro h
      have := len_lt_num hb (n := n) (m := m) (by omega)
      omega
    · intro h
      refine Int.ofNat_lt.mpr (Nat.lt_of_le_of_ne (Nat.le_of_not_lt fun z => ?_) c)
      have := len_lt_num hb z
      omega
end Fx

namespace Fx
/-! ### own numbers that are known -/
theorem sorted_ext : ∀ {l r : List Nat}, l.Pairwise (· < ·) → r.Pairwise (· < ·) → (∀ x, x ∈ l ↔ x ∈ r) → l = r
  | [], [], _, _, _ => rfl
  | [], b :: r, _, _, h => absurd ((h b).mpr (List.mem_cons_self ..)) (List.not_mem_nil)
  | a :: l, [], _, _, h => absurd ((h a).mp (List.mem_cons_self ..)) (List.not_mem_nil)
  | a :: l, b :: r, h1, h2, h => by
    obtain ⟨p1, p2⟩ := List.pairwise_cons.mp h1
    obtain ⟨q1, q2⟩ := List.pairwise_cons.mp h2
    have ab : a = b := by
      have m1 := (h a).mp (List.mem_cons_self ..)
      have m2 := (h b).mpr (List.mem_cons_self ..)
      rcases List.mem_cons.mp m1 with e | e
      · exact e
      · rcases List.mem_cons.mp m2 with e' | e'
        · exact e'.symm
        · have := q1 a e
          have := p1 b e'
          omega
    subst ab
    have : l = r := sorted_ext p2 q2 fun x => by
      constructor
      · intro hx
        rcases List.mem_cons.mp ((h x).mp (List.mem_cons_of_mem _ hx)) with e | e
        · have := p1 x hx
          omega
        · exact e
      · intro hx
        rcases List.mem_cons.mp ((h x).mpr (List.mem_cons_of_mem _ hx)) with e | e
        · have := q1 x hx
          omega
        · exact e
    rw [this]
/-- the sums of so many figures, none greater than the greatest, whatever their order -/
def msumRow (w : Nat) (prev : Nat → List Nat) : Nat → List Nat
  | 0 => [0]
  | c + 1 => prev (c + 1) ++ (msumRow w prev c).map (· + w)
def msum (m : Nat) : Nat → Nat → List Nat
  | 0 => fun _ => [0]
  | d + 1 => msumRow ((d + 1) ^ m) (msum m d)
theorem sum_nought {m : Nat} (hm : 1 ≤ m) : ∀ ds : List Nat, (∀ x ∈ ds, x ≤ 0) → (ds.map (· ^ m)).sum = 0
  | [], _ => rfl
  | a :: r, h => by
    have a0 : a = 0 := by
      have := h a (List.mem_cons_self ..)
      omega
    rw [List.map_cons, List.sum_cons, sum_nought hm r fun x hx => h x (List.mem_cons_of_mem _ hx), a0, Nat.zero_pow (by omega)]
theorem mem_msum {m : Nat} (hm : 1 ≤ m) : ∀ (d c : Nat) (ds : List Nat), ds.length = c → (∀ x ∈ ds, x ≤ d) → (ds.map (· ^ m)).sum ∈ msum m d c
  | 0, c, ds, _, h => by
    rw [sum_nought hm ds h]
    exact List.mem_singleton.mpr rfl
  | d + 1, 0, ds, l, _ => by
    obtain rfl : ds = [] := List.length_eq_zero_iff.mp l
    exact List.mem_singleton.mpr rfl
  | d + 1, c + 1, ds, l, h => by
    show _ ∈ msum m d (c + 1) ++ (msum m (d + 1) c).map (· + (d + 1) ^ m)
    by_cases e : d + 1 ∈ ds
    · obtain ⟨k, hk⟩ := List.mem_iff_getElem?.mp e
      have s := erase_sum (· ^ m) hk
      have ih := mem_msum hm (d + 1) c (ds.eraseIdx k) (by
        have := List.length_eraseIdx_of_lt (List.getElem?_eq_some_iff.mp hk).1
        omega) fun x hx => h x (List.mem_of_mem_eraseIdx hx)
      refine List.mem_append_right _ (List.mem_map.mpr ⟨_, ih, s⟩)
    · refine List.mem_append_left _ (mem_msum hm d (c + 1) ds l fun x hx => ?_)
      have := h x hx
      have : x ≠ d + 1 := fun z => e (z ▸ hx)
      omega
theorem own_known {b m : Nat} (hb : 2 ≤ b) (m2 : 2 ≤ m) {known : List Nat} (srt : known.Pairwise (· < ·)) (h1 : ∀ x ∈ msum m (b - 1) m, b ^ (m - 1) ≤ x → x < b ^ m → stepF b m m x = x → x ∈ known)
    (h2 : ∀ x ∈ known, b ^ (m - 1) ≤ x ∧ x < b ^ m ∧ stepF b m m x = x) : ownN b m = known := by
  have lo : lowOf b m = b ^ (m - 1) := by
    unfold lowOf
    rw [if_neg (by omega)]
  have ll := low_le (m := m) hb
  refine sorted_ext (own_sorted b m) srt fun x => ?_
  constructor
  · intro hx
    obtain ⟨x1, x2, x3⟩ := own_lt ll hx
    rw [lo] at x1
    have len : (figs b x).length = m := by
      rw [figs_len]
      have := lsd_len hb (m - 1) x (by rw [show m - 1 + 1 = m by omega]; exact x2) (.inr x1)
      omega
    have mm := mem_msum (m := m) (by omega) (b - 1) m (figs b x) len fun d hd => by
      have := figs_below hb hd
      omega
    have e : ((figs b x).map (· ^ m)).sum = x := x3
    rw [e] at mm
    exact h1 x mm x1 x2 (by rw [stepF_eq hb (by omega) m x x2]; exact x3)
  · intro hx
    obtain ⟨x1, x2, x3⟩ := h2 x hx
    unfold ownN
    refine List.mem_filter.mpr ⟨?_, ?_⟩
    · rw [List.mem_range'_1, lo]
      omega
    · unfold isOwn
      rw [← stepF_eq hb (by omega) m x x2]
      exact decide_eq_true x3
theorem known2 : ownN 10 2 = [] := own_known (by decide) (by decide) (by decide) (by decide +kernel) (by decide +kernel)
theorem known3 : ownN 10 3 = [153, 370, 371, 407] := own_known (by decide) (by decide) (by decide) (by decide +kernel) (by decide +kernel)
theorem known4 : ownN 10 4 = [1634, 8208, 9474] := own_known (by decide) (by decide) (by decide) (by decide +kernel) (by decide +kernel)
theorem known5 : ownN 10 5 = [54748, 92727, 93084] := own_known (by decide) (by decide) (by decide) (by decide +kernel) (by decide +kernel)
theorem known6 : ownN 10 6 = [548834] := own_known (by decide) (by decide) (by decide) (by decide +kernel) (by decide +kernel)
theorem known21 : ownN 2 1 = [0, 1] := by
  refine sorted_ext (own_sorted 2 1) (by decide) fun x => ?_
  constructor
  · intro hx
    obtain ⟨x1, x2, x3⟩ := own_lt (low_le (by decide)) hx
    have : x < 2 := x2
    have : x = 0 ∨ x = 1 := by omega
    rcases this with rfl | rfl <;> decide
  · intro hx
    have : x = 0 ∨ x = 1 := by simpa using hx
    unfold ownN
    rcases this with rfl | rfl
    · refine List.mem_filter.mpr ⟨by decide, decide_eq_true ?_⟩
      exact stepN_lt_base (by decide)
    · refine List.mem_filter.mpr ⟨by decide, decide_eq_true ?_⟩
      exact stepN_lt_base (by decide)
end Fx

namespace Fx
/-! ### own numbers are few -/
theorem sub_len : ∀ {l r : List Nat}, l.Nodup → (∀ x ∈ l, x ∈ r) → l.length ≤ r.length
  | [], _, _, _ => Nat.zero_le _
  | a :: l, r, nd, h => by
    obtain ⟨n1, n2⟩ := List.nodup_cons.mp nd
    have ha := h a (List.mem_cons_self ..)
    have := sub_len (r := r.erase a) n2 fun x hx => (List.mem_erase_of_ne (show x ≠ a from fun z => n1 (by rw [← z]; exact hx))).mpr (h x (List.mem_cons_of_mem _ hx))
    rw [List.length_erase_of_mem ha] at this
    have := List.length_pos_of_mem ha
    rw [List.length_cons]
    omega
def ownish (b m x : Nat) : Bool := if b ^ (m - 1) ≤ x then if x < b ^ m then Nat.beq (stepF b m m x) x else false else false
def fewOwn (b m : Nat) : Bool := Nat.blt ((msum m (b - 1) m).filter (ownish b m)).length 64
theorem few_of {b m : Nat} (hb : 2 ≤ b) (m2 : 2 ≤ m) (h : fewOwn b m = true) : (ownN b m).length < 64 := by
  have lo : lowOf b m = b ^ (m - 1) := by
    unfold lowOf
    rw [if_neg (by omega)]
  have ll := low_le (m := m) hb
  refine Nat.lt_of_le_of_lt (sub_len (r := (msum m (b - 1) m).filter (ownish b m)) ((own_sorted b m).imp fun z => Nat.ne_of_lt z) fun x hx => ?_) (Nat.blt_eq.mp h)
  obtain ⟨x1, x2, x3⟩ := own_lt ll hx
  rw [lo] at x1
  have len : (figs b x).length = m := by
    rw [figs_len]
    have := lsd_len hb (m - 1) x (by rw [show m - 1 + 1 = m by omega]; exact x2) (.inr x1)
    omega
  have mm := mem_msum (m := m) (by omega) (b - 1) m (figs b x) len fun d hd => by
    have := figs_below hb hd
    omega
  have e : ((figs b x).map (· ^ m)).sum = x := x3
  rw [e] at mm
  refine List.mem_filter.mpr ⟨mm, ?_⟩
  unfold ownish
  rw [if_pos x1, if_pos x2, stepF_eq hb (by omega) m x x2]
  exact Nat.beq_eq.mpr x3
/-- those whose greatest figure is told, so many figures beside it -/
def topOwn (b m d c : Nat) : Nat := (((msum m d c).map (· + d ^ m)).filter (ownish b m)).length
def topOk (b m d c : Nat) : Bool := Nat.ble (topOwn b m d c) 4
theorem few_by {b m c : Nat} : ∀ D, (∀ d, d < D → topOk b m (d + 1) c = true) → ((msum m D (c + 1)).filter (ownish b m)).length ≤ 1 + 4 * D
  | 0, _ => by
    show (([0] : List Nat).filter _).length ≤ _
    exact List.length_filter_le _ _
  | D + 1, h => by
    have i := few_by D fun d hd => h d (by omega)
    have t := Nat.le_of_ble_eq_true (h D (by omega))
    unfold topOwn at t
    show ((msum m D (c + 1) ++ (msum m (D + 1) c).map (· + (D + 1) ^ m)).filter (ownish b m)).length ≤ _
    rw [List.filter_append, List.length_append]
    omega
theorem few_top {b m : Nat} (hb : 2 ≤ b) (hb16 : b ≤ 16) (m2 : 2 ≤ m) (h : ∀ d, d < b - 1 → topOk b m (d + 1) (m - 1) = true) : fewOwn b m = true := by
  have z := few_by (b := b) (m := m) (c := m - 1) (b - 1) h
  rw [show m - 1 + 1 = m by omega] at z
  refine Nat.blt_eq.mpr ?_
  omega
theorem few2 : ∀ b, b < 15 → fewOwn (b + 2) 2 = true := by decide +kernel
theorem few3 : ∀ b, b < 15 → fewOwn (b + 2) 3 = true := by decide +kernel
theorem few4 : ∀ b, b < 15 → fewOwn (b + 2) 4 = true := by decide +kernel
theorem few5_0 : fewOwn 2 5 = true := by decide +kernel
theorem few5_1 : fewOwn 3 5 = true := by decide +kernel
theorem few5_2 : fewOwn 4 5 = true := by decide +kernel
theorem few5_3 : fewOwn 5 5 = true := by decide +kernel
theorem few5_4 : fewOwn 6 5 = true := by decide +kernel
theorem few5_5 : fewOwn 7 5 = true := by decide +kernel
theorem few5_6 : fewOwn 8 5 = true := by decide +kernel
theorem few5_7 : fewOwn 9 5 = true := by decide +kernel
theorem few5_8 : fewOwn 10 5 = true := by decide +kernel
theorem few5_9 : fewOwn 11 5 = true := by decide +kernel
theorem few5_10 : fewOwn 12 5 = true := by decide +kernel
theorem few5_11 : fewOwn 13 5 = true := by decide +kernel
theorem few5_12 : fewOwn 14 5 = true := by decide +kernel
theorem few5_13 : fewOwn 15 5 = true := by decide +kernel
theorem few5_14 : fewOwn 16 5 = true := by decide +kernel
theorem few5 : ∀ b, b < 15 → fewOwn (b + 2) 5 = true
  | 0, _ => few5_0
  | 1, _ => few5_1
  | 2, _ => few5_2
  | 3, _ => few5_3
  | 4, _ => few5_4
  | 5, _ => few5_5
  | 6, _ => few5_6
  | 7, _ => few5_7
  | 8, _ => few5_8
  | 9, _ => few5_9
  | 10, _ => few5_10
  | 11, _ => few5_11
  | 12, _ => few5_12
  | 13, _ => few5_13
  | 14, _ => few5_14
  | n + 15, h => by omega
theorem few6_0 : fewOwn 2 6 = true := by decide +kernel
theorem few6_1 : fewOwn 3 6 = true := by decide +kernel
theorem few6_2 : fewOwn 4 6 = true := by decide +kernel
theorem few6_3 : fewOwn 5 6 = true := by decide +kernel
theorem few6_4 : fewOwn 6 6 = true := by decide +kernel
theorem few6_5 : fewOwn 7 6 = true := by decide +kernel
theorem few6_6 : fewOwn 8 6 = true := by decide +kernel
theorem top6_7_1 : topOk 9 6 1 5 = true := by decide +kernel
theorem top6_7_2 : topOk 9 6 2 5 = true := by decide +kernel
theorem top6_7_3 : topOk 9 6 3 5 = true := by decide +kernel
theorem top6_7_4 : topOk 9 6 4 5 = true := by decide +kernel
theorem top6_7_5 : topOk 9 6 5 5 = true := by decide +kernel
theorem top6_7_6 : topOk 9 6 6 5 = true := by decide +kernel
theorem top6_7_7 : topOk 9 6 7 5 = true := by decide +kernel
theorem top6_7_8 : topOk 9 6 8 5 = true := by decide +kernel
theorem few6_7 : fewOwn 9 6 = true := few_top (by decide) (by decide) (by decide) fun d hd => match d, hd with
  | 0, _ => top6_7_1
  | 1, _ => top6_7_2
  | 2, _ => top6_7_3
  | 3, _ => top6_7_4
  | 4, _ => top6_7_5
  | 5, _ => top6_7_6
  | 6, _ => top6_7_7
  | 7, _ => top6_7_8
  | n + 8, h => absurd h (by omega)
theorem top6_8_1 : topOk 10 6 1 5 = true := by decide +kernel
theorem top6_8_2 : topOk 10 6 2 5 = true := by decide +kernel
theorem top6_8_3 : topOk 10 6 3 5 = true := by decide +kernel
theorem top6_8_4 : topOk 10 6 4 5 = true := by decide +kernel
theorem top6_8_5 : topOk 10 6 5 5 = true := by decide +kernel
theorem top6_8_6 : topOk 10 6 6 5 = true := by decide +kernel
theorem top6_8_7 : topOk 10 6 7 5 = true := by decide +kernel
theorem top6_8_8 : topOk 10 6 8 5 = true := by decide +kernel
theorem top6_8_9 : topOk 10 6 9 5 = true := by decide +kernel
theorem few6_8 : fewOwn 10 6 = true := few_top (by decide) (by decide) (by decide) fun d hd => match d, hd with
  | 0, _ => top6_8_1
  | 1, _ => top6_8_2
  | 2, _ => top6_8_3
  | 3, _ => top6_8_4
  | 4, _ => top6_8_5
  | 5, _ => top6_8_6
  | 6, _ => top6_8_7
  | 7, _ => top6_8_8
  | 8, _ => top6_8_9
  | n + 9, h => absurd h (by omega)
theorem top6_9_1 : topOk 11 6 1 5 = true := by decide +kernel
theorem top6_9_2 : topOk 11 6 2 5 = true := by decide +kernel
theorem top6_9_3 : topOk 11 6 3 5 = true := by decide +kernel
theorem top6_9_4 : topOk 11 6 4 5 = true := by decide +kernel
theorem top6_9_5 : topOk 11 6 5 5 = true := by decide +kernel
theorem top6_9_6 : topOk 11 6 6 5 = true := by decide +kernel
theorem top6_9_7 : topOk 11 6 7 5 = true := by decide +kernel
theorem top6_9_8 : topOk 11 6 8 5 = true := by decide +kernel
theorem top6_9_9 : topOk 11 6 9 5 = true := by decide +kernel
theorem top6_9_10 : topOk 11 6 10 5 = true := by decide +kernel
theorem few6_9 : fewOwn 11 6 = true := few_top (by decide) (by decide) (by decide) fun d hd => match d, hd with
  | 0, _ => top6_9_1
  | 1, _ => top6_9_2
  | 2, _ => top6_9_3
  | 3, _ => top6_9_4
  | 4, _ => top6_9_5
  | 5, _ => top6_9_6
  | 6, _ => top6_9_7
  | 7, _ => top6_9_8
  | 8, _ => top6_9_9
  | 9, _ => top6_9_10
  | n + 10, h => absurd h (by omega)
theorem top6_10_1 : topOk 12 6 1 5 = true := by decide +kernel
theorem top6_10_2 : topOk 12 6 2 5 = true := by decide +kernel
theorem top6_10_3 : topOk 12 6 3 5 = true := by decide +kernel
theorem top6_10_4 : topOk 12 6 4 5 = true := by decide +kernel
theorem top6_10_5 : topOk 12 6 5 5 = true := by decide +kernel
theorem top6_10_6 : topOk 12 6 6 5 = true := by decide +kernel
theorem top6_10_7 : topOk 12 6 7 5 = true := by decide +kernel
theorem top6_10_8 : topOk 12 6 8 5 = true := by decide +kernel
theorem top6_10_9 : topOk 12 6 9 5 = true := by decide +kernel
theorem top6_10_10 : topOk 12 6 10 5 = true := by decide +kernel
theorem top6_10_11 : topOk 12 6 11 5 = true := by decide +kernel
theorem few6_10 : fewOwn 12 6 = true := few_top (by decide) (by decide) (by decide) fun d hd => match d, hd with
  | 0, _ => top6_10_1
  | 1, _ => top6_10_2
  | 2, _ => top6_10_3
  | 3, _ => top6_10_4
  | 4, _ => top6_10_5
  | 5, _ => top6_10_6
  | 6, _ => top6_10_7
  | 7, _ => top6_10_8
  | 8, _ => top6_10_9
  | 9, _ => top6_10_10
  | 10, _ => top6_10_11
  | n + 11, h => absurd h (by omega)
theorem top6_11_1 : topOk 13 6 1 5 = true := by decide +kernel
theorem top6_11_2 : topOk 13 6 2 5 = true := by decide +kernel
theorem top6_11_3 : topOk 13 6 3 5 = true := by decide +kernel
theorem top6_11_4 : topOk 13 6 4 5 = true := by decide +kernel
theorem top6_11_5 : topOk 13 6 5 5 = true := by decide +kernel
theorem top6_11_6 : topOk 13 6 6 5 = true := by decide +kernel
theorem top6_11_7 : topOk 13 6 7 5 = true := by decide +kernel
theorem top6_11_8 : topOk 13 6 8 5 = true := by decide +kernel
theorem top6_11_9 : topOk 13 6 9 5 = true := by decide +kernel
theorem top6_11_10 : topOk 13 6 10 5 = true := by decide +kernel
theorem top6_11_11 : topOk 13 6 11 5 = true := by decide +kernel
theorem top6_11_12 : topOk 13 6 12 5 = true := by decide +kernel
theorem few6_11 : fewOwn 13 6 = true := few_top (by decide) (by decide) (by decide) fun d hd => match d, hd with
  | 0, _ => top6_11_1
  | 1, _ => top6_11_2
  | 2, _ => top6_11_3
  | 3, _ => top6_11_4
  | 4, _ => top6_11_5
  | 5, _ => top6_11_6
  | 6, _ => top6_11_7
  | 7, _ => top6_11_8
  | 8, _ => top6_11_9
  | 9, _ => top6_11_10
  | 10, _ => top6_11_11
  | 11, _ => top6_11_12
  | n + 12, h => absurd h (by omega)
theorem top6_12_1 : topOk 14 6 1 5 = true := by decide +kernel
theorem top6_12_2 : topOk 14 6 2 5 = true := by decide +kernel
theorem top6_12_3 : topOk 14 6 3 5 = true := by decide +kernel
theorem top6_12_4 : topOk 14 6 4 5 = true := by decide +kernel
theorem top6_12_5 : topOk 14 6 5 5 = true := by decide +kernel
theorem top6_12_6 : topOk 14 6 6 5 = true := by decide +kernel
theorem top6_12_7 : topOk 14 6 7 5 = true := by decide +kernel
theorem top6_12_8 : topOk 14 6 8 5 = true := by decide +kernel
theorem top6_12_9 : topOk 14 6 9 5 = true := by decide +kernel
theorem top6_12_10 : topOk 14 6 10 5 = true := by decide +kernel
theorem top6_12_11 : topOk 14 6 11 5 = true := by decide +kernel
theorem top6_12_12 : topOk 14 6 12 5 = true := by decide +kernel
theorem top6_12_13 : topOk 14 6 13 5 = true := by decide +kernel
theorem few6_12 : fewOwn 14 6 = true := few_top (by decide) (by decide) (by decide) fun d hd => match d, hd with
  | 0, _ => top6_12_1
  | 1, _ => top6_12_2
  | 2, _ => top6_12_3
  | 3, _ => top6_12_4
  | 4, _ => top6_12_5
  | 5, _ => top6_12_6
  | 6, _ => top6_12_7
  | 7, _ => top6_12_8
  | 8, _ => top6_12_9
  | 9, _ => top6_12_10
  | 10, _ => top6_12_11
  | 11, _ => top6_12_12
  | 12, _ => top6_12_13
  | n + 13, h => absurd h (by omega)
theorem top6_13_1 : topOk 15 6 1 5 = true := by decide +kernel
theorem top6_13_2 : topOk 15 6 2 5 = true := by decide +kernel
theorem top6_13_3 : topOk 15 6 3 5 = true := by decide +kernel
theorem top6_13_4 : topOk 15 6 4 5 = true := by decide +kernel
theorem top6_13_5 : topOk 15 6 5 5 = true := by decide +kernel
theorem top6_13_6 : topOk 15 6 6 5 = true := by decide +kernel
theorem top6_13_7 : topOk 15 6 7 5 = true := by decide +kernel
theorem top6_13_8 : topOk 15 6 8 5 = true := by decide +kernel
theorem top6_13_9 : topOk 15 6 9 5 = true := by decide +kernel
theorem top6_13_10 : topOk 15 6 10 5 = true := by decide +kernel
theorem top6_13_11 : topOk 15 6 11 5 = true := by decide +kernel
theorem top6_13_12 : topOk 15 6 12 5 = true := by decide +kernel
theorem top6_13_13 : topOk 15 6 13 5 = true := by decide +kernel
theorem top6_13_14 : topOk 15 6 14 5 = true := by decide +kernel
theorem few6_13 : fewOwn 15 6 = true := few_top (by decide) (by decide) (by decide) fun d hd => match d, hd with
  | 0, _ => top6_13_1
  | 1, _ => top6_13_2
  | 2, _ => top6_13_3
  | 3, _ => top6_13_4
  | 4, _ => top6_13_5
  | 5, _ => top6_13_6
  | 6, _ => top6_13_7
  | 7, _ => top6_13_8
  | 8, _ => top6_13_9
  | 9, _ => top6_13_10
  | 10, _ => top6_13_11
  | 11, _ => top6_13_12
  | 12, _ => top6_13_13
  | 13, _ => top6_13_14
  | n + 14, h => absurd h (by omega)
theorem top6_14_1 : topOk 16 6 1 5 = true := by decide +kernel
theorem top6_14_2 : topOk 16 6 2 5 = true := by decide +kernel
theorem top6_14_3 : topOk 16 6 3 5 = true := by decide +kernel
theorem top6_14_4 : topOk 16 6 4 5 = true := by decide +kernel
theorem top6_14_5 : topOk 16 6 5 5 = true := by decide +kernel
theorem top6_14_6 : topOk 16 6 6 5 = true := by decide +kernel
theorem top6_14_7 : topOk 16 6 7 5 = true := by decide +kernel
theorem top6_14_8 : topOk 16 6 8 5 = true := by decide +kernel
theorem top6_14_9 : topOk 16 6 9 5 = true := by decide +kernel
theorem top6_14_10 : topOk 16 6 10 5 = true := by decide +kernel
theorem top6_14_11 : topOk 16 6 11 5 = true := by decide +kernel
theorem top6_14_12 : topOk 16 6 12 5 = true := by decide +kernel
theorem top6_14_13 : topOk 16 6 13 5 = true := by decide +kernel
theorem top6_14_14 : topOk 16 6 14 5 = true := by decide +kernel
theorem top6_14_15 : topOk 16 6 15 5 = true := by decide +kernel
theorem few6_14 : fewOwn 16 6 = true := few_top (by decide) (by decide) (by decide) fun d hd => match d, hd with
  | 0, _ => top6_14_1
  | 1, _ => top6_14_2
  | 2, _ => top6_14_3
  | 3, _ => top6_14_4
  | 4, _ => top6_14_5
  | 5, _ => top6_14_6
  | 6, _ => top6_14_7
  | 7, _ => top6_14_8
  | 8, _ => top6_14_9
  | 9, _ => top6_14_10
  | 10, _ => top6_14_11
  | 11, _ => top6_14_12
  | 12, _ => top6_14_13
  | 13, _ => top6_14_14
  | 14, _ => top6_14_15
  | n + 15, h => absurd h (by omega)
theorem few6 : ∀ b, b < 15 → fewOwn (b + 2) 6 = true
  | 0, _ => few6_0
  | 1, _ => few6_1
  | 2, _ => few6_2
  | 3, _ => few6_3
  | 4, _ => few6_4
  | 5, _ => few6_5
  | 6, _ => few6_6
  | 7, _ => few6_7
  | 8, _ => few6_8
  | 9, _ => few6_9
  | 10, _ => few6_10
  | 11, _ => few6_11
  | 12, _ => few6_12
  | 13, _ => few6_13
  | 14, _ => few6_14
  | n + 15, h => by omega
end Fx

namespace Fx
theorem few1 {b : Nat} (hb : 2 ≤ b) (hb16 : b ≤ 16) : (ownN b 1).length < 64 := by
  have := nodup_len (b ^ 1) (ownN b 1) ((own_sorted b 1).imp fun z => Nat.ne_of_lt z) fun x hx => (own_lt (low_le hb) hx).2.1
  rw [Nat.pow_one] at this
  omega
theorem few {b m : Nat} (hb : 2 ≤ b) (hb16 : b ≤ 16) (m1 : 1 ≤ m) (m6 : m ≤ 6) : (ownN b m).length < 64 := by
  obtain ⟨c, rfl⟩ : ∃ c, b = c + 2 := ⟨b - 2, by omega⟩
  have c15 : c < 15 := by omega
  rcases (show m = 1 ∨ m = 2 ∨ m = 3 ∨ m = 4 ∨ m = 5 ∨ m = 6 by omega) with rfl | rfl | rfl | rfl | rfl | rfl
  · exact few1 hb hb16
  · exact few_of hb (by decide) (few2 c c15)
  · exact few_of hb (by decide) (few3 c c15)
  · exact few_of hb (by decide) (few4 c c15)
  · exact few_of hb (by decide) (few5 c c15)
  · exact few_of hb (by decide) (few6 c c15)
end Fx

namespace Fx
open PySem PySem.Spec PyProof.Rows L2
/-! ### the set of a tuple of whole numbers -/
section
variable {X : Cx}
def rSetT (K : PySem.W.Frag) (w : World) : List V → Hp → VK → Prop := fun vs H Q => ∃ (t : Addr) (ns : List Int), vs = [V.ref t] ∧ SqT K H t (ns.map V.int) ∧ ns.length ≤ 1000 ∧ ∀ a n, H a = none → n ≤ ns.length → Q (.ref a) (upd H a (SetO w a (fun j => decide (j ∈ ns)) n))
theorem cr_setT (hc : X.calm = true) : CallR X (.type "set") (rSetT X.K X.w) := by
  intro pins s σ H vs us Q I r h
  obtain ⟨t, ns, rfl, hT, l, q⟩ := h
  rw [Vals.ref1 r]
  obtain ⟨its, rv, pt, _⟩ := I.tuple hT
  refine call_set_tupI ns (I.ok.hd hc) (show s.heap.IsTuple t its.toArray from pt) rv.ints (by unfold scanBound; omega) fun h' tk n made few keep => ?_
  exact ⟨.ref _, _, I.laid (t' := tk) keep (Nat.le_refl _) (setO_new made), rfl, q _ n (I.hok.fresh (Nat.le_refl _)) few⟩
end
end Fx

namespace Fx
open PySem PySem.Spec PyProof.Rows L2
/-! ### a list of lists of numbers -/
def Lists (H : Hp) (vs : List V) (ls : List (List Int)) : Prop := vs.length = ls.length ∧ ∀ (i : Nat) v l, vs[i]? = some v → ls[i]? = some l → ∃ a, v = .ref a ∧ H a = some (.lst (l.map V.int))
theorem Lists.nil {H : Hp} : Lists H [] [] := ⟨rfl, fun i v l h => by simp at h⟩
theorem Lists.mono {H H' : Hp} {vs : List V} {ls : List (List Int)} (h : Lists H vs ls) (s : Same H H') : Lists H' vs ls := ⟨h.1, fun i v l a b => by
  obtain ⟨x, e1, e2⟩ := h.2 i v l a b
  exact ⟨x, e1, s _ _ e2⟩⟩
theorem Lists.off {H : Hp} {vs : List V} {ls : List (List Int)} {R : Addr} {o : HO} (h : Lists H vs ls) (n : ∀ a l, (V.ref a) ∈ vs → H a = some (.lst l) → a ≠ R) : Lists (upd H R o) vs ls := ⟨h.1, fun i v l a b => by
  obtain ⟨x, e1, e2⟩ := h.2 i v l a b
  refine ⟨x, e1, ?_⟩
  rw [upd_ne (n x _ (e1 ▸ List.mem_of_getElem? a) e2)]
  exact e2⟩
theorem Lists.push {H : Hp} {vs : List V} {ls : List (List Int)} {a : Addr} {l : List Int} (h : Lists H vs ls) (e : H a = some (.lst (l.map V.int))) : Lists H (vs ++ [.ref a]) (ls ++ [l]) := by
  refine ⟨by rw [List.length_append, List.length_append, h.1]; rfl, fun i v m p q => ?_⟩
  by_cases c : i < vs.length
  · rw [List.getElem?_append_left c] at p
    rw [List.getElem?_append_left (by rw [← h.1]; exact c)] at q
    exact h.2 i v m p q
  · rw [List.getElem?_append_right (by omega)] at p
    rw [List.getElem?_append_right (by rw [← h.1]; omega)] at q
    have z : i - vs.length = 0 := by
      have := (List.getElem?_eq_some_iff.mp p).1
      simp at this
      omega
    rw [z] at p
    rw [← h.1, z] at q
    cases p
    cases q
    exact ⟨a, rfl, e⟩
theorem Lists.rev {H : Hp} {vs : List V} {ls : List (List Int)} (h : Lists H vs ls) : Lists H vs.reverse ls.reverse := by
  refine ⟨by rw [List.length_reverse, List.length_reverse, h.1], fun i v l p q => ?_⟩
  have hi : i < vs.length := by
    have := (List.getElem?_eq_some_iff.mp p).1
    rwa [List.length_reverse] at this
  rw [List.getElem?_reverse hi] at p
  rw [List.getElem?_reverse (by rw [← h.1]; exact hi), ← h.1] at q
  exact h.2 _ v l p q
theorem Lists.at {H : Hp} {vs : List V} {ls : List (List Int)} (h : Lists H vs ls) {i : Nat} {v : V} (p : vs[i]? = some v) : ∃ l a, ls[i]? = some l ∧ v = .ref a ∧ H a = some (.lst (l.map V.int)) := by
  have hi := (List.getElem?_eq_some_iff.mp p).1
  have q : ls[i]? = some (ls[i]'(by rw [← h.1]; exact hi)) := List.getElem?_eq_getElem _
  obtain ⟨a, e1, e2⟩ := h.2 i v _ p q
  exact ⟨_, a, q, e1, e2⟩
theorem int_get {l : List Int} {i : Nat} {x : V} (h : (l.map V.int)[i]? = some x) : ∃ k, l[i]? = some k ∧ x = V.int k := by
  rw [List.getElem?_map] at h
  cases e : l[i]? with
  | none => rw [e] at h; cases h
  | some k =>
    rw [e] at h
    exact ⟨k, rfl, (Option.some.inj h).symm⟩
theorem int_at {l : List Int} {i : Nat} {k : Int} (h : l[i]? = some k) : (l.map V.int)[i]? = some (V.int k) := by
  rw [List.getElem?_map, h]
  rfl
end Fx

namespace Fx
open PySem PySem.Spec PyProof.Rows L2
def topS (i : Nat) : Stmt := PySem.Challenge.pw_figurerounds_k15_whole_own_numbers.main.body.getD i (.Pass ⟨0, 0, 0, 0⟩)
abbrev s_figures_of : Stmt := topS 1
theorem sc_figures_of : FnScope ["number", "base", "figures", "rest"] ["number", "base"] (defScope s_figures_of) := ⟨rfl, rfl, rfl, by decide +kernel, rfl, by decide +kernel, by decide +kernel⟩
abbrev s_power_of : Stmt := topS 2
theorem sc_power_of : FnScope ["figure", "power", "worth", "_"] ["figure", "power"] (defScope s_power_of) := ⟨rfl, rfl, rfl, by decide +kernel, rfl, by decide +kernel, by decide +kernel⟩
abbrev s_step_of : Stmt := topS 3
theorem sc_step_of : FnScope ["number", "base", "power", "figure"] ["number", "base", "power"] (defScope s_step_of) := ⟨rfl, rfl, rfl, by decide +kernel, rfl, by decide +kernel, by decide +kernel⟩
abbrev s_backs_by_gain : Stmt := topS 7
theorem sc_backs_by_gain : FnScope ["weight", "base", "many", "backs", "back"] ["weight", "base", "many"] (defScope s_backs_by_gain) := ⟨rfl, rfl, rfl, by decide +kernel, rfl, by decide +kernel, by decide +kernel⟩
abbrev s_fronts_of : Stmt := topS 6
theorem sc_fronts_of : FnScope ["base", "many", "ahead", "first"] ["base", "many", "ahead"] (defScope s_fronts_of) := ⟨rfl, rfl, rfl, by decide +kernel, rfl, by decide +kernel, by decide +kernel⟩
abbrev s_own_numbers : Stmt := topS 5
theorem sc_own_numbers : FnScope ["base", "many", "behind", "weight", "backs", "found", "front", "lacking", "back"] ["base", "many"] (defScope s_own_numbers) := ⟨rfl, rfl, rfl, by decide +kernel, rfl, by decide +kernel, by decide +kernel⟩
abbrev s_worths_of : Stmt := topS 9
theorem sc_worths_of : FnScope ["base", "power", "figure"] ["base", "power"] (defScope s_worths_of) := ⟨rfl, rfl, rfl, by decide +kernel, rfl, by decide +kernel, by decide +kernel⟩
abbrev s_length_down : Stmt := topS 11
theorem sc_length_down : FnScope ["base", "power", "most", "length", "least"] ["base", "power"] (defScope s_length_down) := ⟨rfl, rfl, rfl, by decide +kernel, rfl, by decide +kernel, by decide +kernel⟩
abbrev s_steps_to : Stmt := topS 15
theorem sc_steps_to : FnScope ["most", "worths", "base", "steps", "number"] ["most", "worths"] (defScope s_steps_to) := ⟨rfl, rfl, rfl, by decide +kernel, rfl, by decide +kernel, by decide +kernel⟩
abbrev s_add_ends : Stmt := topS 16
theorem sc_add_ends : FnScope ["ends", "steps", "number", "places", "path", "turn", "least", "passed", "away"] ["ends", "steps", "number"] (defScope s_add_ends) := ⟨rfl, rfl, rfl, by decide +kernel, rfl, by decide +kernel, by decide +kernel⟩
abbrev s_ends_to : Stmt := topS 13
theorem sc_ends_to : FnScope ["most", "base", "power", "worths", "enough", "steps", "ends", "number"] ["most", "base", "power"] (defScope s_ends_to) := ⟨rfl, rfl, rfl, by decide +kernel, rfl, by decide +kernel, by decide +kernel⟩
abbrev s_leasts_to : Stmt := topS 14
theorem sc_leasts_to : FnScope ["most", "base", "power", "_", "least"] ["most", "base", "power"] (defScope s_leasts_to) := ⟨rfl, rfl, rfl, by decide +kernel, rfl, by decide +kernel, by decide +kernel⟩
abbrev s_way_of : Stmt := topS 19
theorem sc_way_of : FnScope ["number", "base", "power", "places"] ["number", "base", "power"] (defScope s_way_of) := ⟨rfl, rfl, rfl, by decide +kernel, rfl, by decide +kernel, by decide +kernel⟩
abbrev s_rounds_of : Stmt := topS 18
theorem sc_rounds_of : FnScope ["base", "power", "leasts", "firsts", "number", "least", "first"] ["base", "power"] (defScope s_rounds_of) := ⟨rfl, rfl, rfl, by decide +kernel, rfl, by decide +kernel, by decide +kernel⟩
abbrev s__law_mix : Stmt := topS 21
theorem sc__law_mix : FnScope ["cell", "k", "number"] ["cell", "k"] (defScope s__law_mix) := ⟨rfl, rfl, rfl, by decide +kernel, rfl, by decide +kernel, by decide +kernel⟩
abbrev s__law_deck : Stmt := topS 22
theorem sc__law_deck : FnScope ["script"] ["script"] (defScope s__law_deck) := ⟨rfl, rfl, rfl, by decide +kernel, rfl, by decide +kernel, by decide +kernel⟩
abbrev s__law_next : Stmt := topS 23
theorem sc__law_next : FnScope ["deck", "many", "cell", "found"] ["deck", "many"] (defScope s__law_next) := ⟨rfl, rfl, rfl, by decide +kernel, rfl, by decide +kernel, by decide +kernel⟩
abbrev s__law_power : Stmt := topS 24
theorem sc__law_power : FnScope ["number", "often", "found", "turn"] ["number", "often"] (defScope s__law_power) := ⟨rfl, rfl, rfl, by decide +kernel, rfl, by decide +kernel, by decide +kernel⟩
abbrev s__law_told_right : Stmt := topS 25
theorem sc__law_told_right : FnScope ["deck", "base", "many", "told", "number", "figures", "figure", "other"] ["deck", "base", "many", "told"] (defScope s__law_told_right) := ⟨rfl, rfl, rfl, by decide +kernel, rfl, by decide +kernel, by decide +kernel⟩
abbrev s_law : Stmt := topS 26
theorem sc_law : FnScope ["script", "deck", "turn", "base", "many", "told", "number", "alone", "one"] ["script"] (defScope s_law) := ⟨rfl, rfl, rfl, by decide +kernel, rfl, by decide +kernel, by decide +kernel⟩
structure Txt (K : PySem.W.Frag) (mg : Str → Option Value) where
  f_figures_of : Addr
  fd_figures_of : FuncData
  F_figures_of : Fun K "figures_of" "figures_of" s_figures_of f_figures_of fd_figures_of
  g_figures_of : mg "figures_of" = some (.ref f_figures_of)
  b_figures_of : Binds K fd_figures_of ["number", "base"] []
  f_power_of : Addr
  fd_power_of : FuncData
  F_power_of : Fun K "power_of" "power_of" s_power_of f_power_of fd_power_of
  g_power_of : mg "power_of" = some (.ref f_power_of)
  b_power_of : Binds K fd_power_of ["figure", "power"] []
  f_step_of : Addr
  fd_step_of : FuncData
  F_step_of : Fun K "step_of" "step_of" s_step_of f_step_of fd_step_of
  g_step_of : mg "step_of" = some (.ref f_step_of)
  b_step_of : Binds K fd_step_of ["number", "base", "power"] []
  f_backs_by_gain : Addr
  fd_backs_by_gain : FuncData
  F_backs_by_gain : Fun K "backs_by_gain" "backs_by_gain" s_backs_by_gain f_backs_by_gain fd_backs_by_gain
  g_backs_by_gain : mg "backs_by_gain" = some (.ref f_backs_by_gain)
  b_backs_by_gain : Binds K fd_backs_by_gain ["weight", "base", "many"] []
  f_fronts_of : Addr
  fd_fronts_of : FuncData
  F_fronts_of : Fun K "fronts_of" "fronts_of" s_fronts_of f_fronts_of fd_fronts_of
  g_fronts_of : mg "fronts_of" = some (.ref f_fronts_of)
  b_fronts_of : Binds K fd_fronts_of ["base", "many", "ahead"] []
  f_own_numbers : Addr
  fd_own_numbers : FuncData
  F_own_numbers : Fun K "own_numbers" "own_numbers" s_own_numbers f_own_numbers fd_own_numbers
  g_own_numbers : mg "own_numbers" = some (.ref f_own_numbers)
  b_own_numbers : Binds K fd_own_numbers ["base", "many"] []
  f_worths_of : Addr
  fd_worths_of : FuncData
  F_worths_of : Fun K "worths_of" "worths_of" s_worths_of f_worths_of fd_worths_of
  g_worths_of : mg "worths_of" = some (.ref f_worths_of)
  b_worths_of : Binds K fd_worths_of ["base", "power"] []
  f_length_down : Addr
  fd_length_down : FuncData
  F_length_down : Fun K "length_down" "length_down" s_length_down f_length_down fd_length_down
  g_length_down : mg "length_down" = some (.ref f_length_down)
  b_length_down : Binds K fd_length_down ["base", "power"] []
  f_steps_to : Addr
  fd_steps_to : FuncData
  F_steps_to : Fun K "steps_to" "steps_to" s_steps_to f_steps_to fd_steps_to
  g_steps_to : mg "steps_to" = some (.ref f_steps_to)
  b_steps_to : Binds K fd_steps_to ["most", "worths"] []
  f_add_ends : Addr
  fd_add_ends : FuncData
  F_add_ends : Fun K "add_ends" "add_ends" s_add_ends f_add_ends fd_add_ends
  g_add_ends : mg "add_ends" = some (.ref f_add_ends)
  b_add_ends : Binds K fd_add_ends ["ends", "steps", "number"] []
  f_ends_to : Addr
  fd_ends_to : FuncData
  F_ends_to : Fun K "ends_to" "ends_to" s_ends_to f_ends_to fd_ends_to
  g_ends_to : mg "ends_to" = some (.ref f_ends_to)
  b_ends_to : Binds K fd_ends_to ["most", "base", "power"] []
  f_leasts_to : Addr
  fd_leasts_to : FuncData
  F_leasts_to : Fun K "leasts_to" "leasts_to" s_leasts_to f_leasts_to fd_leasts_to
  g_leasts_to : mg "leasts_to" = some (.ref f_leasts_to)
  b_leasts_to : Binds K fd_leasts_to ["most", "base", "power"] []
  f_way_of : Addr
  fd_way_of : FuncData
  F_way_of : Fun K "way_of" "way_of" s_way_of f_way_of fd_way_of
  g_way_of : mg "way_of" = some (.ref f_way_of)
  b_way_of : Binds K fd_way_of ["number", "base", "power"] []
  f_rounds_of : Addr
  fd_rounds_of : FuncData
  F_rounds_of : Fun K "rounds_of" "rounds_of" s_rounds_of f_rounds_of fd_rounds_of
  g_rounds_of : mg "rounds_of" = some (.ref f_rounds_of)
  b_rounds_of : Binds K fd_rounds_of ["base", "power"] []
  f__law_mix : Addr
  fd__law_mix : FuncData
  F__law_mix : Fun K "_law_mix" "_law_mix" s__law_mix f__law_mix fd__law_mix
  g__law_mix : mg "_law_mix" = some (.ref f__law_mix)
  b__law_mix : Binds K fd__law_mix ["cell", "k"] []
  f__law_deck : Addr
  fd__law_deck : FuncData
  F__law_deck : Fun K "_law_deck" "_law_deck" s__law_deck f__law_deck fd__law_deck
  g__law_deck : mg "_law_deck" = some (.ref f__law_deck)
  b__law_deck : Binds K fd__law_deck ["script"] []
  f__law_next : Addr
  fd__law_next : FuncData
  F__law_next : Fun K "_law_next" "_law_next" s__law_next f__law_next fd__law_next
  g__law_next : mg "_law_next" = some (.ref f__law_next)
  b__law_next : Binds K fd__law_next ["deck", "many"] []
  f__law_power : Addr
  fd__law_power : FuncData
  F__law_power : Fun K "_law_power" "_law_power" s__law_power f__law_power fd__law_power
  g__law_power : mg "_law_power" = some (.ref f__law_power)
  b__law_power : Binds K fd__law_power ["number", "often"] []
  f__law_told_right : Addr
  fd__law_told_right : FuncData
  F__law_told_right : Fun K "_law_told_right" "_law_told_right" s__law_told_right f__law_told_right fd__law_told_right
  g__law_told_right : mg "_law_told_right" = some (.ref f__law_told_right)
  b__law_told_right : Binds K fd__law_told_right ["deck", "base", "many", "told"] []
  f_law : Addr
  fd_law : FuncData
  F_law : Fun K "law" "law" s_law f_law fd_law
  g_law : mg "law" = some (.ref f_law)
  b_law : Binds K fd_law ["script"] []
  m_enumerate : mg "enumerate" = none
  m_len : mg "len" = none
  m_list : mg "list" = none
  m_max : mg "max" = none
  m_min : mg "min" = none
  m_range : mg "range" = none
  m_set : mg "set" = none
  m_sorted : mg "sorted" = none
  m_sum : mg "sum" = none
  m_tuple : mg "tuple" = none
section
variable {P : Program} {w : World} {K : PySem.W.Frag} {mg : Str → Option Value} {base : Heap}
/-! ### figures_of -/
def sp_figures_of (K : PySem.W.Frag) : Sp := fun vs H Q _ => ∃ n b : Nat, vs = [.int (n : Int), .int (b : Int)] ∧ 2 ≤ b ∧ b ≤ 16 ∧ n < 2 ^ 900 ∧ ∀ H' p, Same H H' → H p = none → H' p = some (.tup (ivs (figs b n))) → Q (.ref p) H'
def W_figures_of (n b : Nat) (H : Hp) (fl : Addr) (m : Nat) (σ' : L2.St) (H' : Hp) : Prop := ∃ pre : List Nat, σ' = [some (.int (n : Int)), some (.int (b : Int)), some (.ref fl), some (.int (m : Int))] ∧ Same H H' ∧ H' fl = some (.lst (ivs pre)) ∧ pre ++ (if m = 0 then [] else lsd b m) = lsd b n
theorem W_figures_of.len {n b : Nat} {pre : List Nat} {r : Nat} (hb : 2 ≤ b) (hn : n < 2 ^ 900) (h : pre ++ (if r = 0 then [] else lsd b r) = lsd b n) : pre.length ≤ 900 := by
  have h1 := congrArg List.length h
  rw [List.length_append] at h1
  have h2 := lsd_len_le hb 899 n hn
  omega
theorem ok_figures_of (T : Txt K mg) : FnOk P w K mg base CX0 1 T.f_figures_of T.fd_figures_of ["number", "base"] (sp_figures_of K) := by
  refine T.F_figures_of.ok sc_figures_of (fun vs H Q E h => ?_) (fun cdv A outer s H vs Q E hr h => ?_)
  · obtain ⟨_, _, rfl, _⟩ := h
    rfl
  · obtain ⟨n, b, rfl, hb, hb16, hn, q⟩ := h
    have wd : ∀ x : Int, CDivW x (b : Int) := fun x => divW 60 (by omega) (by omega)
    refine ⟨_, (pss_cons (ps_set (i := 2) sc_figures_of.nd rfl (Or.inl rfl) (pe_lst (pa_cons (pe_op op_mod (pv 0) (pv 1)) pa_nil)))
      (pss_cons (ps_set (i := 3) sc_figures_of.nd rfl (Or.inl rfl) (pe_op op_fdivW (pv 0) (pv 1)))
      (pss_cons (ps_while PassesOwn.never (pt_cmpR op_gt (pv 3) pe_int (nomark _)) (pss_cons (ps_expr (pe_bm PySem.F.plainAttrs_list PySem.F.slot_list_append PySem.F.type_list_append mt_append (pv 2) (pa_cons (pe_op op_mod (pv 3) (pv 1)) pa_nil)))
      (pss_one (ps_set (i := 3) sc_figures_of.nd rfl (Or.inl rfl) (pe_op op_fdivW (pv 3) (pv 1))))))
      (pss_one (ps_ret (pe_callTy (T := "tuple") call_tuple_of (by rfl) T.m_tuple (by decide +kernel) (pa_cons (pe_revL (pv 2)) pa_nil))))))), ?_⟩
    refine ⟨_, rfl, _, rfl, _, _, rfl, rfl, by walk_at "p", by show 1 ≤ sizeLine; decide, fun fl hfl => ?_⟩
    generalize g1 : upd H fl _ = H1
    obtain ⟨s1, t1⟩ := new_of g1 hfl
    refine ⟨_, rfl, _, rfl, _, _, rfl, rfl, wd _, ?_⟩
    refine ⟨W_figures_of n b H fl, ⟨n / b, [n % b], rfl, s1, t1, (lsd_split hb).symm⟩, ?_⟩
    rintro r σ' H2 ⟨pre, rfl, s2, t2, e⟩
    have lp := W_figures_of.len hb hn e
    refine ⟨_, rfl, _, _, rfl, rfl, _, rfl, ?_⟩
    by_cases h0 : r = 0
    · subst h0
      rw [if_pos rfl, List.append_nil] at e
      subst e
      refine iteF ?_
      refine ⟨_, rfl, fl, _, rfl, .of t2, fun p3 hp3 => ?_⟩
      generalize g3 : upd H2 p3 _ = H3
      obtain ⟨s3, t3⟩ := new_of g3 hp3
      refine ⟨p3, _, rfl, .inl ⟨.of t3, fun p4 hp4 => ?_⟩⟩
      rw [ivs_reverse]
      exact q _ p4 (s2.trans (s3.trans (Same.new hp4))) (s2.free (s3.free hp4)) upd_same
    · have hr : (0 : Int) < (r : Int) := by omega
      rw [decide_eq_true hr]
      refine iteT ⟨Nx (W_figures_of n b H fl) r, Nx.id, ?_⟩
      refine ⟨_, rfl, .inl ⟨rfl, _, .of t2⟩, _, rfl, _, rfl, _, _, rfl, rfl, by walk_at "p", fl, _, _, rfl, rfl, t2, small1000 (by rw [ivs_length]; omega), ?_⟩
      refine ⟨_, rfl, _, rfl, _, _, rfl, rfl, wd _, ?_⟩
      refine ⟨r / b, Nat.div_lt_self (by omega) (by omega), pre ++ [r % b], rfl, same_own s2 hfl, ?_, ?_⟩
      · rw [upd_same, ivs_append]
        rfl
      · rw [if_neg h0, lsd_split hb] at e
        rw [List.append_assoc]
        exact e

/-! ### power_of -/
def sp_power_of (K : PySem.W.Frag) : Sp := fun vs H Q _ => ∃ f p : Int, vs = [.int f, .int p] ∧ 0 ≤ p ∧ p < 2 ^ 62 ∧ -(2 ^ 64) < f ∧ f < 2 ^ 64 ∧ Q (.int (f ^ p.toNat)) H
theorem ok_power_of (T : Txt K mg) : FnOk P w K mg base CX0 1 T.f_power_of T.fd_power_of ["figure", "power"] (sp_power_of K) := by
  refine T.F_power_of.ok sc_power_of (fun vs H Q E h => ?_) (fun cdv A outer s H vs Q E hr h => ?_)
  · obtain ⟨_, _, rfl, _⟩ := h
    rfl
  · obtain ⟨f, p, rfl, h0, h1, h2, h3, q⟩ := h
    refine ⟨_, (pss_cons (ps_set (i := 2) sc_power_of.nd rfl (Or.inl rfl) pe_int)
      (pss_cons (ps_for PassesOwn.never rfl (pi_range1 (by rfl) T.m_range (pa_cons (pv 1) pa_nil)) (pg_name (i := 3) sc_power_of.nd rfl (Or.inl rfl)) (pss_one (ps_set (i := 2) sc_power_of.nd rfl (Or.inl rfl) (pe_op op_mul (pv 2) (pv 0)))))
      (pss_one (ps_ret (pv 2))))), ?_⟩
    refine ⟨_, rfl, _, rfl, by omega, by omega, for_range (lo := 0) (n := p.toNat) (fun i σ' H' => H' = H ∧ ∃ y, σ' = [some (.int f), some (.int p), some (.int (f ^ i)), y]) ⟨rfl, none, by rw [Int.pow_zero]; rfl⟩ ?_ ?_⟩
    · rintro i σ' H' hi ⟨rfl, y, rfl⟩
      refine ⟨_, rfl, _, rfl, _, _, rfl, rfl, .inr ⟨h2, h3⟩, rfl, some (.int (0 + i)), ?_⟩
      rw [Int.pow_succ]
      rfl
    · rintro σ' H' ⟨rfl, y, rfl⟩
      exact ⟨_, rfl, q⟩

/-! ### step_of -/
def sp_step_of (K : PySem.W.Frag) : Sp := fun vs H Q _ => ∃ n b p : Nat, vs = [.int (n : Int), .int (b : Int), .int (p : Int)] ∧ 2 ≤ b ∧ b ≤ 16 ∧ p ≤ 10 ∧ n < 2 ^ 900 ∧ ∀ H', Same H H' → Q (.int (stepN b p n : Nat)) H'
theorem ok_step_of (T : Txt K mg) : FnOk P w K mg base CX0 2 T.f_step_of T.fd_step_of ["number", "base", "power"] (sp_step_of K) := by
  refine T.F_step_of.ok sc_step_of (fun vs H Q E h => ?_) (fun cdv A outer s H vs Q E hr h => ?_)
  · obtain ⟨_, _, _, rfl, _⟩ := h
    rfl
  · obtain ⟨n, b, p, rfl, hb, hb16, hp, hn, q⟩ := h
    have fl := figs_le hb hn
    refine ⟨_, (pss_one (ps_ret (pe_callB (id := "sum") (cr_sum rfl) (by rfl) T.m_sum (by decide +kernel) (pa_cons (pe_lc (own := [("figure", 3)]) (g := (gName 3)) (tt := tYes) rfl sc_step_of.nd (pi_tup (pe_call (ok_figures_of T) hr (by rfl) T.g_figures_of T.F_figures_of.kp T.b_figures_of .nil pass0 (pa_cons (pv 0) (pa_cons (pv 1) pa_nil)))) (blkOk_by (own := [("figure", 3)]) (N := ["number", "base", "power", "figure"]) (sc := defScope s_step_of) (by decide +kernel)) (fun _ _ _ _ _ => (pg_name (i := 3) sc_step_of.nd rfl (Or.inl rfl))) (fun _ _ _ _ _ => pts_nil) (fun _ _ _ _ _ => (pe_call (ok_power_of T) hr (by rfl) T.g_power_of T.F_power_of.kp T.b_power_of .nil pass0 (pa_cons (pv 3) (pa_cons (pv 2) pa_nil))))) pa_nil)))), ?_⟩
    refine ⟨_, rfl, _, rfl, n, b, rfl, hb, hb16, hn, fun H1 t s1 n1 e1 => ⟨t, rfl, ⟨_, .of e1⟩, fun D hD => ?_⟩⟩
    refine lc_tup (xs := ivs (figs b n)) (fun i H' => Same H1 H' ∧ H' D = some (.lst (ivs (((figs b n).take i).map (· ^ p))))) ⟨Same.new hD, upd_same⟩ ?_ ?_ ?_
    · rintro i H' hi ⟨s2, e2⟩
      exact .of (s2 _ _ e1)
    · rintro i x H' hx ⟨s2, e2⟩
      obtain ⟨k, hk, rfl⟩ := ivs_get hx
      have kb := figs_below hb (List.mem_of_getElem? hk)
      have hi : i < (figs b n).length := (List.getElem?_eq_some_iff.mp hk).1
      refine ⟨rfl, _, rfl, _, rfl, (k : Int), (p : Int), rfl, by omega, by omega, by omega, by omega, ?_⟩
      refine ⟨_, e2, small1000 ?_, same_own s2 hD, ?_⟩
      · rw [ivs_length, List.length_map, List.length_take]
        omega
      · rw [upd_same, List.take_add_one, hk, List.map_append, ivs_append]
        show some (HO.lst (_ ++ [V.int ((k : Int) ^ p)])) = some (HO.lst (_ ++ [V.int ((k ^ p : Nat) : Int)]))
        rw [Int.natCast_pow]
    · rintro H' ⟨s2, e2⟩
      rw [ivs_length, List.take_length, ivs_map] at e2
      refine ⟨D, _, rfl, .of e2, ?_⟩
      rw [sum_cast]
      exact q H' (s1.trans s2)

/-! ### backs_by_gain -/
def sp_backs_by_gain (K : PySem.W.Frag) : Sp := fun vs H Q _ => ∃ w b m : Nat, vs = [.int (w : Int), .int (b : Int), .int (m : Int)] ∧ 2 ≤ b ∧ b ≤ 16 ∧ m ≤ 10 ∧ w ≤ 4096 ∧ ∀ H' D kvs, Same H H' → H D = none → Backs H H' D b m w kvs → Q (.ref D) H'
theorem ok_backs_by_gain (T : Txt K mg) : FnOk P w K mg base CX0 3 T.f_backs_by_gain T.fd_backs_by_gain ["weight", "base", "many"] (sp_backs_by_gain K) := by
  refine T.F_backs_by_gain.ok sc_backs_by_gain (fun vs H Q E h => ?_) (fun cdv A outer s H vs Q E hr h => ?_)
  · obtain ⟨_, _, _, rfl, _⟩ := h
    rfl
  · obtain ⟨w, b, m, rfl, hb, hb16, hm, hw, q⟩ := h
    refine ⟨_, (pss_cons (ps_set (i := 3) sc_backs_by_gain.nd rfl (Or.inl rfl) pe_dnewK)
      (pss_cons (ps_for PassesOwn.never rfl (pi_range1 (by rfl) T.m_range (pa_cons (pv 0) pa_nil)) (pg_name (i := 4) sc_backs_by_gain.nd rfl (Or.inl rfl)) (pss_one (ps_expr (pe_bm PySem.F.plainAttrs_list PySem.F.slot_list_append PySem.F.type_list_append mt_append (pe_dsetd (pv 3) (pe_op op_sub (pe_call (ok_step_of T) hr (by rfl) T.g_step_of T.F_step_of.kp T.b_step_of .nil pass0 (pa_cons (pv 4) (pa_cons (pv 1) (pa_cons (pv 2) pa_nil)))) (pv 4)) (pe_lst pa_nil) ⟨rfl, rfl, rfl, rfl⟩) (pa_cons (pv 4) pa_nil)))))
      (pss_one (ps_ret (pv 3))))), ?_⟩
    refine fun D hD => ?_
    generalize g1 : upd H D _ = H1
    obtain ⟨s1, t1⟩ := new_of g1 hD
    refine ⟨_, rfl, _, rfl, by omega, by omega, for_range (lo := 0) (n := w) (fun i σ' H' => Same H H' ∧ (∃ kvs, Backs H H' D b m i kvs) ∧ ∃ y : Option V, σ' = [some (.int (w : Int)), some (.int (b : Int)), some (.int (m : Int)), some (.ref D), y]) ⟨s1, ⟨[], t1, Nat.le_refl _, (fun g _ => rfl), (fun g v e => nomatch e), (fun g g' a e => nomatch e)⟩, none, rfl⟩ ?_ ?_⟩
    · rintro i σ' H2 hi ⟨s2, ⟨kvs, B⟩, y, rfl⟩
      have i9 : i < 2 ^ 900 := Nat.lt_of_lt_of_le (show i < 2 ^ 20 by omega) (Nat.pow_le_pow_right (by decide) (by decide))
      refine ⟨_, rfl, D, rfl, .inl ⟨kvs, .inl B.at'⟩, _, rfl, _, rfl, _, rfl, i, b, m, by rw [Int.zero_add]; rfl, hb, hb16, hm, i9, fun H3 s3 => ⟨_, rfl, _, _, rfl, rfl, ?_⟩⟩
      refine ⟨Nat.zero_le _, fun z hz => ?_⟩
      have B3 := B.same s3
      have B4 := B3.same (Same.new (o := .lst []) hz)
      have ek : ((stepN b m i : Nat) : Int) - (0 + (i : Int)) = gainOf b m i := by
        unfold gainOf
        omega
      have hz0 : H z = none := s2.free (s3.free hz)
      refine ⟨kvs, Sum.inl (gainOf b m i), B4.at', congrArg V.int ek, small_len (by have := B.len; omega), fun v hv => ?_, fun hv => ?_⟩
      · obtain ⟨a, rfl, ea, e0⟩ := B4.yes _ _ hv
        refine ⟨.inl ⟨rfl, _, .of ea⟩, _, rfl, a, _, _, rfl, rfl, ea, small_len (by rw [ivs_length]; have := bk_len b m (gainOf b m i) i; omega), ?_⟩
        have B5 := B4.old hv
        have el : ivs (bk b m (gainOf b m i) i) ++ [V.int (0 + (i : Int))] = ivs (bk b m (gainOf b m i) (i + 1)) := by
          rw [bk_succ, if_pos rfl, ivs_append, Int.zero_add]
          rfl
        rw [el]
        refine ⟨fun x o e => ?_, ⟨kvs, B5⟩, _, rfl⟩
        rw [upd_ne (ne_of_none e e0), upd_ne (ne_of_none e hz0)]
        exact s3 _ _ (s2 _ _ e)
      · have nzD : z ≠ D := (ne_of_none B3.at' hz).symm
        refine ⟨.inl ⟨rfl, _, .of (by rw [upd_ne nzD]; exact upd_same)⟩, _, rfl, z, _, _, rfl, rfl, by rw [upd_ne nzD]; exact upd_same, by decide, ?_⟩
        have B5 := B3.new hv hz hz0
        rw [Int.zero_add]
        refine ⟨fun x o e => ?_, ⟨_, B5⟩, _, rfl⟩
        rw [upd_ne (ne_of_none e hz0), upd_ne (ne_of_none e hD), upd_ne (ne_of_none e hz0)]
        exact s3 _ _ (s2 _ _ e)
    · rintro σ' H2 ⟨s2, ⟨kvs, B⟩, y, rfl⟩
      exact ⟨_, rfl, q H2 D kvs s2 hD B⟩

/-! ### fronts_of -/
theorem rgV_ivs {x y : Nat} : rgV (x : Int) (y : Int) = ivs (List.range' x (y - x)) := by
  unfold rgV ivs
  rw [List.range'_eq_map_range, List.map_map, show ((y : Int) - (x : Int)).toNat = y - x by omega]
  refine List.map_congr_left fun i _ => ?_
  show V.int _ = V.int _
  congr 1
def sp_fronts_of (K : PySem.W.Frag) : Sp := fun vs H Q _ => ∃ b m k : Nat, vs = [.int (b : Int), .int (m : Int), .int (k : Int)] ∧ 2 ≤ b ∧ b ≤ 16 ∧ 1 ≤ k ∧ k ≤ 3 ∧ ∀ H' p, Same H H' → H p = none → H' p = some (.lst (ivs (List.range' (if m = 1 then 0 else b ^ (k - 1)) (b ^ k - if m = 1 then 0 else b ^ (k - 1))))) → Q (.ref p) H'
theorem ok_fronts_of (T : Txt K mg) : FnOk P w K mg base CX0 2 T.f_fronts_of T.fd_fronts_of ["base", "many", "ahead"] (sp_fronts_of K) := by
  refine T.F_fronts_of.ok sc_fronts_of (fun vs H Q E h => ?_) (fun cdv A outer s H vs Q E hr h => ?_)
  · obtain ⟨_, _, _, rfl, _⟩ := h
    rfl
  · obtain ⟨b, m, k, rfl, hb, hb16, k1, k3, q⟩ := h
    have p1 := pow6 (b := b) (m := k - 1) hb16 (by omega)
    have p2 := pow6 (b := b) (m := k) hb16 k3
    have fin : ∀ f : Nat, f ≤ 4096 → ∀ A1, H A1 = none → (∀ p, H p = none → Q (.ref p) (upd H p (.lst (ivs (List.range' f (b ^ k - f)))))) → Q (.ref A1) (upd H A1 (.lst (rgV (f : Int) ((b ^ k : Nat) : Int)))) := fun f _ A1 h1 z => by
      rw [rgV_ivs]
      exact z A1 h1
    refine ⟨_, (pss_cons (ps_set (i := 3) sc_fronts_of.nd rfl (Or.inl rfl) (pe_ifExp (pt_cmpR op_eq (pv 1) pe_int (nomark _)) pe_int (pe_call (ok_power_of T) hr (by rfl) T.g_power_of T.F_power_of.kp T.b_power_of .nil pass0 (pa_cons (pv 0) (pa_cons (pe_op op_sub (pv 2) pe_int) pa_nil)))))
      (pss_one (ps_ret (pe_listRg rfl (by rfl) T.m_list (prg_2 (by rfl) T.m_range (pv 3) (pe_call (ok_power_of T) hr (by rfl) T.g_power_of T.F_power_of.kp T.b_power_of .nil pass0 (pa_cons (pv 0) (pa_cons (pv 2) pa_nil)))))))), ?_⟩
    refine ⟨_, rfl, rfl, _, rfl, ite2 (fun c => ?_) (fun c => ?_)⟩
    · have cm : m = 1 := by
        have := V.int.inj (of_decide_eq_true c)
        omega
      rw [if_pos cm] at q
      refine ⟨_, rfl, _, rfl, _, rfl, (b : Int), (k : Int), rfl, by omega, by omega, by omega, by omega, 0, (b : Int) ^ (k : Int).toNat, rfl, rfl, ?_⟩
      rw [Int.toNat_natCast, ← Int.natCast_pow]
      refine ⟨⟨by omega, by omega, by omega, by omega, by omega⟩, fun A1 h1 => ?_⟩
      rw [show (0 : Int) = ((0 : Nat) : Int) from rfl, rgV_ivs]
      exact q _ A1 (Same.new h1) h1 upd_same
    · have cm : m ≠ 1 := fun z => c (decide_eq_true (by rw [z]; rfl))
      rw [if_neg cm] at q
      refine ⟨_, rfl, _, rfl, _, _, rfl, rfl, (b : Int), (k : Int) - 1, rfl, by omega, by omega, by omega, by omega, ?_⟩
      refine ⟨_, rfl, _, rfl, _, rfl, (b : Int), (k : Int), rfl, by omega, by omega, by omega, by omega, (b : Int) ^ ((k : Int) - 1).toNat, (b : Int) ^ (k : Int).toNat, rfl, rfl, ?_⟩
      rw [Int.toNat_natCast, show ((k : Int) - 1).toNat = k - 1 by omega, ← Int.natCast_pow, ← Int.natCast_pow]
      refine ⟨⟨by omega, by omega, by omega, by omega, by omega⟩, fun A1 h1 => ?_⟩
      rw [rgV_ivs]
      exact q _ A1 (Same.new h1) h1 upd_same

/-! ### own_numbers -/
def sp_own_numbers (K : PySem.W.Frag) : Sp := fun vs H Q _ => ∃ b m : Nat, vs = [.int (b : Int), .int (m : Int)] ∧ 2 ≤ b ∧ b ≤ 16 ∧ 1 ≤ m ∧ m ≤ 6 ∧ ∀ H' p, Same H H' → H p = none → H' p = some (.tup (ivs (ownN b m))) → Q (.ref p) H'
theorem ok_own_numbers (T : Txt K mg) : FnOk P w K mg base CX0 4 T.f_own_numbers T.fd_own_numbers ["base", "many"] (sp_own_numbers K) := by
  refine T.F_own_numbers.ok sc_own_numbers (fun vs H Q E h => ?_) (fun cdv A outer s H vs Q E hr h => ?_)
  · obtain ⟨_, _, rfl, _⟩ := h
    rfl
  · obtain ⟨b, m, rfl, hb, hb16, m1, m6, q⟩ := h
    refine ⟨_, (pss_cons (ps_set (i := 2) sc_own_numbers.nd rfl (Or.inl rfl) (pe_op op_fdivW (pv 1) pe_int))
      (pss_cons (ps_set (i := 3) sc_own_numbers.nd rfl (Or.inl rfl) (pe_call (ok_power_of T) (hr.mono (by decide)) (by rfl) T.g_power_of T.F_power_of.kp T.b_power_of .nil pass0 (pa_cons (pv 0) (pa_cons (pv 2) pa_nil))))
      (pss_cons (ps_set (i := 4) sc_own_numbers.nd rfl (Or.inl rfl) (pe_call (ok_backs_by_gain T) hr (by rfl) T.g_backs_by_gain T.F_backs_by_gain.kp T.b_backs_by_gain .nil pass0 (pa_cons (pv 3) (pa_cons (pv 0) (pa_cons (pv 1) pa_nil)))))
      (pss_cons (ps_set (i := 5) sc_own_numbers.nd rfl (Or.inl rfl) (pe_lst pa_nil))
      (pss_cons (ps_for PassesOwn.never rfl (pi_list (pe_call (ok_fronts_of T) (hr.mono (by decide)) (by rfl) T.g_fronts_of T.F_fronts_of.kp T.b_fronts_of .nil pass0 (pa_cons (pv 0) (pa_cons (pv 1) (pa_cons (pe_op op_sub (pv 1) (pv 2)) pa_nil))))) (pg_name (i := 6) sc_own_numbers.nd rfl (Or.inl rfl)) (pss_cons (ps_set (i := 7) sc_own_numbers.nd rfl (Or.inl rfl) (pe_op op_sub (pe_op op_mul (pv 6) (pv 3)) (pe_call (ok_step_of T) (hr.mono (by decide)) (by rfl) T.g_step_of T.F_step_of.kp T.b_step_of .nil pass0 (pa_cons (pv 6) (pa_cons (pv 0) (pa_cons (pv 1) pa_nil))))))
      (pss_one (ps_for PassesOwn.never rfl (pi_list (pe_dget2 (hu_of hr) (pv 4) (pv 7) (pe_lst pa_nil) ⟨rfl, rfl, rfl, rfl⟩)) (pg_name (i := 8) sc_own_numbers.nd rfl (Or.inl rfl)) (pss_one (ps_expr (pe_bm PySem.F.plainAttrs_list PySem.F.slot_list_append PySem.F.type_list_append mt_append (pv 5) (pa_cons (pe_op op_add (pe_op op_mul (pv 6) (pv 3)) (pv 8)) pa_nil))))))))
      (pss_one (ps_ret (pe_callTy (T := "tuple") call_tuple_of (by rfl) T.m_tuple (by decide +kernel) (pa_cons (pv 5) pa_nil))))))))), ?_⟩
    refine ⟨_, rfl, _, _, rfl, rfl, ⟨by decide, by decide⟩, ?_⟩
    have pw := pow6 (b := b) (m := m / 2) hb16 (by omega)
    have pa := pow6 (b := b) (m := m - m / 2) hb16 (by omega)
    refine ⟨_, rfl, _, rfl, (b : Int), ((m / 2 : Nat) : Int), rfl, by omega, by omega, by omega, by omega, ?_⟩
    rw [Int.toNat_natCast, ← Int.natCast_pow]
    refine ⟨_, rfl, _, rfl, _, rfl, b ^ (m / 2), b, m, rfl, hb, hb16, by omega, pw, fun H1 D kvs s1 nD B => ?_⟩
    refine ⟨Nat.zero_le _, fun F hF => ?_⟩
    generalize g2 : upd H1 F _ = H2
    obtain ⟨s2, t2⟩ := new_of g2 hF
    have F0 : H F = none := s1.free hF
    refine ⟨_, rfl, _, rfl, _, rfl, _, rfl, _, _, rfl, rfl, b, m, m - m / 2, by rw [show ((m - m / 2 : Nat) : Int) = (m : Int) - ((m / 2 : Nat) : Int) by omega]; rfl, hb, hb16, by omega, by omega, fun H3 X s3 nX eX => ?_⟩
    have mt := found_all hb m1
    have ml := low_at hb m1
    generalize hfi : (if m = 1 then 0 else b ^ (m - m / 2 - 1)) = first at eX mt ml
    have fl : first ≤ b ^ (m - m / 2) := by
      rw [← hfi]
      split
      · exact Nat.zero_le _
      · exact Nat.pow_le_pow_right (by omega) (by omega)
    have B3 := (B.same s2).same s3
    have FX : F ≠ X := ne_of_none t2 nX
    have eF3 := s3 _ _ t2
    have tot : b ^ (m - m / 2) * b ^ (m / 2) ≤ 16777216 := by
      have := Nat.mul_le_mul pa pw
      omega
    refine ⟨X, rfl, ⟨_, .of eX⟩, for_list (xs := ivs (List.range' first (b ^ (m - m / 2) - first))) (fun i σ' H' => But F H3 H' ∧ H' F = some (.lst (ivs (foundN b m (b ^ (m / 2)) first i))) ∧ i ≤ b ^ (m - m / 2) - first ∧ ∃ y6 y7 y8 : Option V, σ' = [some (.int (b : Int)), some (.int (m : Int)), some (.int ((m / 2 : Nat) : Int)), some (.int ((b ^ (m / 2) : Nat) : Int)), some (.ref D), some (.ref F), y6, y7, y8]) ⟨But.refl _ _, ?_, Nat.zero_le _, none, none, none, rfl⟩ ?_ ?_ ?_⟩
    · rw [eF3]
      unfold foundN
      rw [Nat.zero_mul]
      rfl
    · rintro i σ' H' hi ⟨z, _⟩
      exact .of (z _ _ FX.symm eX)
    · rintro i x σ' H4 hx ⟨b4, e4, il, y6, y7, y8, rfl⟩
      obtain ⟨f, hf, rfl⟩ := ivs_get hx
      have hi : i < b ^ (m - m / 2) - first := by
        have := (List.getElem?_eq_some_iff.mp hf).1
        rwa [List.length_range'] at this
      rw [List.getElem?_range' hi, Nat.one_mul] at hf
      obtain rfl : first + i = f := Option.some.inj hf
      have f9 : first + i < 2 ^ 900 := Nat.lt_of_lt_of_le (show first + i < 2 ^ 20 by omega) (Nat.pow_le_pow_right (by decide) (by decide))
      refine ⟨_, rfl, _, rfl, _, _, rfl, rfl, .inr (by omega), _, rfl, _, rfl, _, rfl, first + i, b, m, rfl, hb, hb16, by omega, f9, fun H5 s5 => ⟨_, _, rfl, rfl, ?_⟩⟩
      have eD5 : H5 D = some (.dK kvs) := s5 _ _ (b4 _ _ (ne_of B3.at' eF3 fun z => by cases z) B3.at')
      have eF5 := s5 _ _ e4
      have lf := foundN_len b m (b ^ (m / 2)) first i
      have lt4 : i * b ^ (m / 2) + b ^ (m / 2) ≤ 16777216 := by
        have := Nat.mul_le_mul_right (b ^ (m / 2)) (show i + 1 ≤ b ^ (m - m / 2) by omega)
        rw [Nat.succ_mul] at this
        omega
      -- the backs
      refine ⟨_, rfl, D, rfl, .inl ⟨kvs, .inl eD5⟩, _, rfl, Nat.zero_le _, fun z hz => ?_⟩
      generalize g6 : upd H5 z _ = H6
      obtain ⟨s6, t6⟩ := new_of g6 hz
      have eF6 := s6 _ _ eF5
      have b36 : But F H3 H6 := b4.trans (.of (s5.trans s6))
      have lb := bk_len b m (lackOf b m (b ^ (m / 2)) (first + i)) (b ^ (m / 2))
      have sc := foundN_succ (j := m / 2) (first := first) (k := i) hb m1
      obtain ⟨o, A, ho, hA, eA, nA⟩ : ∃ (o : Option V) (A : Addr), valV kvs (Sum.inl (lackOf b m (b ^ (m / 2)) (first + i)) : Key) = o ∧ o.getD (.ref z) = .ref A ∧ H6 A = some (.lst (ivs (bk b m (lackOf b m (b ^ (m / 2)) (first + i)) (b ^ (m / 2))))) ∧ A ≠ F := by
        cases e : valV kvs (Sum.inl (lackOf b m (b ^ (m / 2)) (first + i)) : Key) with
        | none =>
          refine ⟨none, z, rfl, rfl, ?_, (ne_of_none eF5 hz).symm⟩
          rw [t6, B3.no _ e]
          rfl
        | some v =>
          obtain ⟨a, rfl, ea, e0⟩ := B.yes _ _ e
          have na : a ≠ F := ne_of_none ea hF
          exact ⟨_, a, rfl, rfl, b36 _ _ na (s3 _ _ (s2 _ _ ea)), na⟩
      generalize bk b m (lackOf b m (b ^ (m / 2)) (first + i)) (b ^ (m / 2)) = bs at lb sc eA
      refine ⟨o, dget (s6 _ _ eD5) ho, A, hA, ⟨_, .of eA⟩, for_list (xs := ivs bs) (fun j σ' H' => But F H6 H' ∧ H' F = some (.lst (ivs (foundN b m (b ^ (m / 2)) first i ++ (bs.take j).map ((first + i) * b ^ (m / 2) + ·)))) ∧ ∃ y8 : Option V, σ' = [some (.int (b : Int)), some (.int (m : Int)), some (.int ((m / 2 : Nat) : Int)), some (.int ((b ^ (m / 2) : Nat) : Int)), some (.ref D), some (.ref F), some (.int ((first + i : Nat) : Int)), some (.int (lackOf b m (b ^ (m / 2)) (first + i))), y8]) ⟨But.refl _ _, ?_, y8, rfl⟩ ?_ ?_ ?_⟩
      · rw [List.take_zero, List.map_nil, List.append_nil]
        exact eF6
      · rintro j σ' H' hj ⟨b7, _⟩
        exact .of (b7 _ _ nA eA)
      · rintro j x σ' H7 hx ⟨b7, e7, y8, rfl⟩
        obtain ⟨r, hr, rfl⟩ := ivs_get hx
        have hj := (List.getElem?_eq_some_iff.mp hr).1
        refine ⟨_, rfl, .inl ⟨rfl, _, .of e7⟩, _, rfl, _, rfl, _, _, rfl, rfl, .inr (by omega), _, rfl, _, _, rfl, rfl, F, _, _, rfl, rfl, e7, ?_, ?_⟩
        · rw [ivs_length, List.length_append, List.length_map, List.length_take]
          show _ < 16777216
          omega
        · refine ⟨b7.trans But.set, ?_, _, rfl⟩
          have e8 : foundN b m (b ^ (m / 2)) first i ++ (bs.take (j + 1)).map ((first + i) * b ^ (m / 2) + ·) = (foundN b m (b ^ (m / 2)) first i ++ (bs.take j).map ((first + i) * b ^ (m / 2) + ·)) ++ [(first + i) * b ^ (m / 2) + r] := by
            rw [List.take_add_one, hr, List.map_append, ← List.append_assoc]
            rfl
          rw [upd_same, e8, ivs_append (_ ++ _) [_]]
          show some (HO.lst (_ ++ [V.int (((first + i : Nat) : Int) * ((b ^ (m / 2) : Nat) : Int) + (r : Int))])) = some (HO.lst (_ ++ [V.int (((first + i) * b ^ (m / 2) + r : Nat) : Int)]))
          rw [Int.natCast_add _ r, Int.natCast_mul]
      · rintro σ' H7 ⟨b7, e7, y8, rfl⟩
        rw [ivs_length, List.take_length, ← sc] at e7
        exact ⟨b36.trans b7, e7, hi, _, _, _, rfl⟩
    · rintro σ' H4 ⟨b4, e4, il, y6, y7, y8, rfl⟩
      rw [ivs_length, List.length_range', mt] at e4
      refine ⟨_, rfl, F, _, rfl, .inl ⟨.of e4, fun p hp => ?_⟩⟩
      have s04 : Same H H4 := fun x o e => b4 _ _ (ne_of_none e F0) (s3 _ _ (s2 _ _ (s1 _ _ e)))
      exact q _ p (s04.trans (Same.new hp)) (s04.free hp) upd_same

/-! ### worths_of -/
def sp_worths_of (K : PySem.W.Frag) : Sp := fun vs H Q _ => ∃ b p : Nat, vs = [.int (b : Int), .int (p : Int)] ∧ b ≤ 16 ∧ p ≤ 10 ∧ ∀ H' w, Same H H' → H w = none → H' w = some (.lst (ivs (wts b p))) → Q (.ref w) H'
theorem ok_worths_of (T : Txt K mg) : FnOk P w K mg base CX0 2 T.f_worths_of T.fd_worths_of ["base", "power"] (sp_worths_of K) := by
  refine T.F_worths_of.ok sc_worths_of (fun vs H Q E h => ?_) (fun cdv A outer s H vs Q E hr h => ?_)
  · obtain ⟨_, _, rfl, _⟩ := h
    rfl
  · obtain ⟨b, p, rfl, hb, hp, q⟩ := h
    refine ⟨_, (pss_one (ps_ret (pe_lc (own := [("figure", 2)]) (g := (gName 2)) (tt := tYes) rfl sc_worths_of.nd (pi_range1 (by rfl) T.m_range (pa_cons (pv 0) pa_nil)) (blkOk_by (own := [("figure", 2)]) (N := ["base", "power", "figure"]) (sc := defScope s_worths_of) (by decide +kernel)) (fun _ _ _ _ _ => (pg_name (i := 2) sc_worths_of.nd rfl (Or.inl rfl))) (fun _ _ _ _ _ => pts_nil) (fun _ _ _ _ _ => (pe_call (ok_power_of T) hr (by rfl) T.g_power_of T.F_power_of.kp T.b_power_of .nil pass0 (pa_cons (pv 2) (pa_cons (pv 1) pa_nil))))))), ?_⟩
    refine ⟨_, rfl, _, rfl, by omega, by omega, fun D hD => lc_range (lo := 0) (n := b) (fun i H' => Same H H' ∧ H' D = some (.lst (ivs ((wts b p).take i)))) ⟨Same.new hD, upd_same⟩ ?_ ?_⟩
    · rintro i H' hi ⟨s2, e2⟩
      refine ⟨rfl, _, rfl, _, rfl, ((0 + i : Nat) : Int), (p : Int), by rw [Int.natCast_add]; rfl, by omega, by omega, by omega, by omega, ?_⟩
      refine ⟨_, e2, small_len (by rw [ivs_length, List.length_take, wts_len]; omega), same_own s2 hD, ?_⟩
      rw [upd_same, List.take_add_one, wts_get hi, ivs_append, Nat.zero_add]
      show some (HO.lst (_ ++ [V.int ((i : Int) ^ p)])) = some (HO.lst (_ ++ [V.int ((i ^ p : Nat) : Int)]))
      rw [Int.natCast_pow]
    · rintro H' ⟨s2, e2⟩
      rw [List.take_of_length_le (by rw [wts_len]; exact Nat.le_refl _)] at e2
      exact q H' D s2 hD e2

/-! ### length_down -/
def sp_length_down (K : PySem.W.Frag) : Sp := fun vs H Q _ => ∃ b p : Int, vs = [.int b, .int p] ∧ OkPair b p ∧ ∀ L : Nat, IsLen b (worth b p) L → L ≤ 15 → Q (.int (L : Int)) H
def W_length_down (b p : Int) (H : Hp) (m : Nat) (σ' : L2.St) (H' : Hp) : Prop := ∃ L : Nat, m = 15 - L ∧ H' = H ∧ σ' = [some (.int b), some (.int p), some (.int (worth b p)), some (.int (L : Int)), some (.int (b ^ (L - 1)))] ∧ 2 ≤ L ∧ L ≤ 15 ∧ ∀ k : Nat, 2 ≤ k → k < L → b ^ (k - 1) ≤ (k : Int) * worth b p
theorem ok_length_down (T : Txt K mg) : FnOk P w K mg base CX0 2 T.f_length_down T.fd_length_down ["base", "power"] (sp_length_down K) := by
  refine T.F_length_down.ok sc_length_down (fun vs H Q E h => ?_) (fun cdv A outer s H vs Q E hr h => ?_)
  · obtain ⟨_, _, rfl, _⟩ := h
    rfl
  · obtain ⟨b, p, rfl, hp, q⟩ := h
    obtain ⟨h1, h2, h3, h4⟩ := id hp
    have p10 := hp.le10
    have hw := hp.worth
    refine ⟨_, (pss_cons (ps_set (i := 2) sc_length_down.nd rfl (Or.inl rfl) (pe_call (ok_power_of T) hr (by rfl) T.g_power_of T.F_power_of.kp T.b_power_of .nil pass0 (pa_cons (pe_op op_sub (pv 0) pe_int) (pa_cons (pv 1) pa_nil))))
      (pss_cons (ps_set (i := 3) sc_length_down.nd rfl (Or.inl rfl) pe_int)
      (pss_cons (ps_set (i := 4) sc_length_down.nd rfl (Or.inl rfl) (pv 0))
      (pss_cons (ps_while PassesOwn.never (pt_cmpR op_ge (pe_op op_mul (pv 3) (pv 2)) (pv 4) (nomark _)) (pss_cons (ps_aug (i := 3) sc_length_down.nd rfl (Or.inl rfl) pe_int ip_add)
      (pss_one (ps_set (i := 4) sc_length_down.nd rfl (Or.inl rfl) (pe_op op_mul (pv 4) (pv 0))))))
      (pss_one (ps_ret (pv 3))))))), ?_⟩
    refine ⟨_, rfl, b, 1, rfl, rfl, _, rfl, b - 1, p, rfl, by omega, by omega, by omega, by omega, ?_⟩
    refine ⟨_, rfl, W_length_down b p H, ⟨13, 2, rfl, rfl, ?_, by decide, by decide, fun k _ _ => by omega⟩, ?_⟩
    · have e : b ^ (2 - 1) = b := Int.pow_one b
      rw [e]
      rfl
    · rintro m σ' H' ⟨L, rfl, rfl, rfl, l2, l15, ih⟩
      have w1 : ∀ x : Int, -(2 ^ 64) < (L : Int) ∧ (L : Int) < 2 ^ 64 := fun _ => by omega
      refine ⟨_, rfl, _, rfl, _, _, rfl, rfl, .inl (w1 0), _, rfl, _, _, rfl, rfl, _, rfl, ?_⟩
      by_cases t : b ^ (L - 1) ≤ (L : Int) * worth b p
      · rw [decide_eq_true t]
        have l := len_lt h1 (by omega) l15 t
        refine iteT ⟨Nx (W_length_down b p H') (15 - L), Nx.id, ?_⟩
        refine ⟨_, rfl, _, _, rfl, rfl, _, rfl, _, rfl, _, _, rfl, rfl, .inr (by omega), ?_⟩
        refine ⟨15 - (L + 1), by omega, L + 1, rfl, rfl, ?_, by omega, by omega, len_step ih t⟩
        have e : b ^ (L + 1 - 1) = b ^ (L - 1) * b := by
          rw [← Int.pow_succ]
          congr 1
          omega
        rw [e]
        rfl
      · rw [decide_eq_false t]
        exact iteF ⟨_, rfl, q L ⟨l2, by omega, ih⟩ l15⟩

/-! ### steps_to -/
def sp_steps_to (K : PySem.W.Frag) : Sp := fun vs H Q _ => ∃ (k b p : Nat) (W : Addr), vs = [.int (k : Int), .ref W] ∧ H W = some (.lst (ivs (wts b p))) ∧ OkN b p ∧ k ≤ 1000000 ∧ ∀ H' R, Same H H' → H R = none → H' R = some (.lst (ivs (stpN b p (max b (k + 1))))) → Q (.ref R) H'
theorem ok_steps_to (T : Txt K mg) : FnOk P w K mg base CX0 1 T.f_steps_to T.fd_steps_to ["most", "worths"] (sp_steps_to K) := by
  refine T.F_steps_to.ok sc_steps_to (fun vs H Q E h => ?_) (fun cdv A outer s H vs Q E hr h => ?_)
  · obtain ⟨_, _, _, _, rfl, _⟩ := h
    rfl
  · obtain ⟨k, b, p, P, rfl, eP, ok, hk, q⟩ := h
    have hb := ok.hb
    have hb16 := ok.hb16
    have lw : ((ivs (wts b p)).length : Int) = (b : Int) := by rw [ivs_length, wts_len]
    refine ⟨_, (pss_cons (ps_set (i := 2) sc_steps_to.nd rfl (Or.inl rfl) (pe_callB (id := "len") call_len_seq (by rfl) T.m_len (by decide +kernel) (pa_cons (pv 1) pa_nil)))
      (pss_cons (ps_set (i := 3) sc_steps_to.nd rfl (Or.inl rfl) (pe_callTy (T := "list") call_list_of (by rfl) T.m_list (by decide +kernel) (pa_cons (pv 1) pa_nil)))
      (pss_cons (ps_for PassesOwn.never rfl (pi_range2 (by rfl) T.m_range (pa_cons (pv 2) (pa_cons (pe_op op_add (pv 0) pe_int) pa_nil))) (pg_name (i := 4) sc_steps_to.nd rfl (Or.inl rfl)) (pss_one (ps_expr (pe_bm PySem.F.plainAttrs_list PySem.F.slot_list_append PySem.F.type_list_append mt_append (pv 3) (pa_cons (pe_op op_add (pe_ix ix_list (pv 3) (pe_op op_fdivW (pv 4) (pv 2)) (fun _ _ => rfl)) (pe_ix ix_list (pv 1) (pe_op op_mod (pv 4) (pv 2)) (fun _ _ => rfl))) pa_nil)))))
      (pss_one (ps_ret (pv 3)))))), ?_⟩
    refine ⟨_, rfl, P, _, rfl, .inl (.of eP), _, rfl, P, _, rfl, .inl (.of eP), fun R hR => ?_⟩
    rw [wts_steps']
    rw [wts_steps'] at lw
    rw [lw]
    rw [wts_steps'] at eP
    generalize g1 : upd H R _ = H1
    obtain ⟨s1, t1⟩ := new_of g1 hR
    refine ⟨_, rfl, _, rfl, _, _, rfl, rfl, _, _, rfl, by omega, for_range (lo := (b : Int)) (n := ((k : Int) + 1 - (b : Int)).toNat) (fun i σ' H' => Same H H' ∧ H' R = some (.lst (ivs (stpN b p (b + i)))) ∧ ∃ y, σ' = [some (.int (k : Int)), some (.ref P), some (.int (b : Int)), some (.ref R), y]) ⟨s1, t1, none, rfl⟩ ?_ ?_⟩
    · rintro i σ' H2 hi ⟨s2, t2, y, rfl⟩
      have mb : (b + i) % b < b := Nat.mod_lt _ (by omega)
      have db : (b + i) / b < b + i := Nat.div_lt_self (by omega) (by omega)
      have e1 : atI (ivs (stpN b p (b + i))) (((b : Int) + (i : Int)) / (b : Int)) = some (.int ((stepN b p ((b + i) / b) : Nat) : Int)) := by
        rw [show ((b : Int) + (i : Int)) / (b : Int) = (((b + i) / b : Nat) : Int) by rw [Int.natCast_ediv, Int.natCast_add]]
        exact atI_nat (ivs_at (stpN_get db))
      have e2 : atI (ivs ((List.range b).map (stepN b p))) (((b : Int) + (i : Int)) % (b : Int)) = some (.int (((b + i) % b : Nat) ^ p : Nat)) := by
        rw [← wts_steps', show ((b : Int) + (i : Int)) % (b : Int) = (((b + i) % b : Nat) : Int) by rw [Int.natCast_emod, Int.natCast_add]]
        exact atI_nat (ivs_at (wts_get mb))
      refine ⟨_, rfl, .inl ⟨rfl, _, .of t2⟩, _, rfl, _, rfl, _, rfl, _, _, rfl, rfl, divW 60 (by omega) (by omega), R, _, _, _, rfl, rfl, .of t2, e1, ?_⟩
      refine ⟨_, rfl, _, rfl, _, rfl, _, _, rfl, rfl, by walk_at "p", P, _, _, _, rfl, rfl, .of (s2 _ _ eP), e2, _, _, rfl, rfl, R, _, _, rfl, rfl, t2, small_len (by rw [ivs_length, stpN_len]; omega), same_own s2 hR, ?_, _, rfl⟩
      rw [upd_same, show b + (i + 1) = (b + i) + 1 by omega, stpN_succ, ivs_append, stepN_rec hb ok.hp1 (b + i)]
      rfl
    · rintro σ' H2 ⟨s2, t2, y, rfl⟩
      rw [show b + ((k : Int) + 1 - (b : Int)).toNat = max b (k + 1) by omega] at t2
      exact ⟨_, rfl, q H2 R s2 hR t2⟩

/-! ### add_ends -/
def sp_add_ends (K : PySem.W.Frag) : Sp := fun vs H Q _ => ∃ (E S : Addr) (n b p N : Nat) (ks : List Nat) (kvs : List (Key × V)), vs = [.ref E, .ref S, .int (n : Int)] ∧ EK H E b p N ks kvs ∧ Cl b p ks ∧ H S = some (.lst (ivs (stpN b p N))) ∧ n < N ∧ Big b p N ∧ OkN b p ∧ N ≤ 1100000 ∧
  ∀ H' ks' kvs', But E H H' → EK H' E b p N ks' kvs' → Cl b p ks' → (∀ x ∈ ks, x ∈ ks') → n ∈ ks' → Q .non H'
def plK (b p n L : Nat) : List (Key × V) := kvsOf (fun i => ((itN b p n i : Nat) : Int)) (fun i => .int (i : Int)) L
theorem plK_none {b p n L x : Nat} (h : ∀ i, i < L → itN b p n i ≠ x) : valV (plK b p n L) (Sum.inl ((x : Nat) : Int) : Key) = none := kvsOf_none fun i hi e => h i hi (Int.ofNat.inj e)
theorem plK_some {b p n L A x : Nat} (nd : ∀ i j, i < L → j < L → itN b p n i = itN b p n j → i = j) (hA : A < L) (e : itN b p n A = x) : valV (plK b p n L) (Sum.inl ((x : Nat) : Int) : Key) = some (.int (A : Int)) := by
  subst e
  exact kvsOf_some (f := fun i => ((itN b p n i : Nat) : Int)) (g := fun i => V.int (i : Int)) (fun i j hi hj z => nd i j hi hj (Int.ofNat.inj z)) hA
theorem EK.but {H H' : Hp} {E : Addr} {b p N : Nat} {ks : List Nat} {kvs : List (Key × V)} (h : EK H E b p N ks kvs) (s : Same H H') : EK H' E b p N ks kvs := h.keep s
def W_add_ends (n b p N : Nat) (ks : List Nat) (E S : Addr) (H : Hp) (P : Addr) (m : Nat) (σ' : L2.St) (H' : Hp) : Prop := ∃ L : Nat, m = N + 1 - L ∧ σ' = [some (.ref E), some (.ref S), some (.int ((itN b p n L : Nat) : Int)), some (.ref P), none, none, none, none, none] ∧ Same H H' ∧ H' P = some (.dK (plK b p n L)) ∧ (∀ i j, i < L → j < L → itN b p n i = itN b p n j → i = j) ∧ ∀ i, i < L → itN b p n i ∉ ks
def M_add_ends (n b p N : Nat) (ks : List Nat) (E S : Addr) (H : Hp) (P : Addr) (σ' : L2.St) (H' : Hp) : Prop := ∃ L : Nat, σ' = [some (.ref E), some (.ref S), some (.int ((itN b p n L : Nat) : Int)), some (.ref P), none, none, none, none, none] ∧ Same H H' ∧ H' P = some (.dK (plK b p n L)) ∧ (∀ i j, i < L → j < L → itN b p n i = itN b p n j → i = j) ∧ (∀ i, i < L → itN b p n i ∉ ks) ∧ L ≤ N ∧ (itN b p n L ∈ ks ∨ ∃ A, A < L ∧ itN b p n L = itN b p n A)
def M2_add_ends (n b p N : Nat) (ks : List Nat) (E S : Addr) (H : Hp) (σ' : L2.St) (H' : Hp) : Prop := ∃ (A : Nat) (P R : Addr) (ks' : List Nat) (kvs' : List (Key × V)) (y5 y6 y7 : Option V), σ' = [some (.ref E), some (.ref S), some (.int ((itN b p n A : Nat) : Int)), some (.ref P), some (.ref R), y5, y6, y7, none] ∧ But E H H' ∧ R ≠ E ∧ H' R = some (.lst (ivs (rowN b p n A))) ∧ EK H' E b p N ks' kvs' ∧ Cl b p ks' ∧ (∀ x ∈ ks, x ∈ ks') ∧ (∀ j, j < A → itN b p n j ∉ ks') ∧ itN b p n A ∈ ks' ∧ (∀ i j, i < A → j < A → itN b p n i = itN b p n j → i = j)
theorem ok_add_ends (T : Txt K mg) : FnOk P w K mg base CX0 1 T.f_add_ends T.fd_add_ends ["ends", "steps", "number"] (sp_add_ends K) := by
  refine T.F_add_ends.ok sc_add_ends (fun vs H Q E h => ?_) (fun cdv A outer s H vs Q E hr h => ?_)
  · obtain ⟨_, _, _, _, _, _, _, _, rfl, _⟩ := h
    rfl
  · obtain ⟨E, S, n, b, p, N, ks, kvs, rfl, ek, cl, eS, hn, big, ok, N9, q⟩ := h
    have inN : ∀ i, itN b p n i < N := fun i => by
      induction i with
      | zero => exact hn
      | succ i ih => exact big.closed _ ih
    have repN : ∀ L, (∀ i j, i < L → j < L → itN b p n i = itN b p n j → i = j) → L ≤ N := fun L nd => by
      have l := nodup_len N ((List.range L).map fun i => itN b p n i) ?_ ?_
      · rwa [List.length_map, List.length_range] at l
      · refine List.pairwise_map.mpr (List.Pairwise.imp_of_mem ?_ (List.nodup_range (n := L)))
        intro x y hx hy ne e
        exact ne (nd x y (List.mem_range.mp hx) (List.mem_range.mp hy) e)
      · intro x hx
        obtain ⟨i, _, rfl⟩ := List.mem_map.mp hx
        exact inN i
    refine ⟨_, (pss_cons (ps_set (i := 3) sc_add_ends.nd rfl (Or.inl rfl) pe_dnewK)
      (C8.pss_cut (ps_while PassesOwn.never (PW.pt (pw_and (pt_cmp (pc_dnotin (hu_of hr) (pv 2) (pv 0)) rfl) (pw_and1 (pt_cmp (pc_dnotin (hu_of hr) (pv 2) (pv 3)) rfl)))) (pss_cons (ps_dput (hu_of hr) (pv 3) (pv 2) (pe_callB (id := "len") call_lenD (by rfl) T.m_len (by decide +kernel) (pa_cons (pv 3) pa_nil)) rfl)
      (pss_one (ps_set (i := 2) sc_add_ends.nd rfl (Or.inl rfl) (pe_ix ix_list (pv 1) (pv 2) (fun _ _ => rfl))))))
      (pss_cons (ps_set (i := 4) sc_add_ends.nd rfl (Or.inl rfl) (pe_callTy (T := "list") (call_list_dK rfl) (by rfl) T.m_list (by decide +kernel) (pa_cons (pv 3) pa_nil)))
      (C8.pss_cut (ps_if (pt_cmp (pc_din (hu_of hr) (pv 2) (pv 3)) rfl) (pss_cons (ps_set (i := 5) sc_add_ends.nd rfl (Or.inl rfl) (pe_slice sl_list (pv 4) (po_some (pe_dget (hu_of hr) (pv 3) (pv 2) (fun _ _ => rfl))) po_none))
      (pss_cons (ps_set (i := 4) sc_add_ends.nd rfl (Or.inl rfl) (pe_slice sl_list (pv 4) po_none (po_some (pe_dget (hu_of hr) (pv 3) (pv 2) (fun _ _ => rfl)))))
      (pss_cons (ps_set (i := 6) sc_add_ends.nd rfl (Or.inl rfl) (pe_callB (id := "min") (cr_min rfl) (by rfl) T.m_min (by decide +kernel) (pa_cons (pv 5) pa_nil)))
      (pss_one (ps_for PassesOwn.never rfl (pi_list (pv 5)) (pg_name (i := 7) sc_add_ends.nd rfl (Or.inl rfl)) (pss_one (ps_dput (hu_of hr) (pv 0) (pv 7) (pe_tup (pa_cons pe_int (pa_cons (pv 6) pa_nil))) rfl))))))) pss_nil)
      (pss_cons (ps_asg (pe_dget (hu_of hr) (pv 0) (pv 2) (fun _ _ => rfl)) (pg_tup rfl (pgs_cons (pg_name (i := 8) sc_add_ends.nd rfl (Or.inl rfl)) (pgs_cons (pg_name (i := 6) sc_add_ends.nd rfl (Or.inl rfl)) pgs_nil))))
      (pss_one (ps_for PassesOwn.never rfl (pi_list (pe_revL (pv 4))) (pg_name (i := 7) sc_add_ends.nd rfl (Or.inl rfl)) (pss_cons (ps_aug (i := 8) sc_add_ends.nd rfl (Or.inl rfl) pe_int ip_add)
      (pss_one (ps_dput (hu_of hr) (pv 0) (pv 7) (pe_tup (pa_cons (pv 8) (pa_cons (pv 6) pa_nil))) rfl)))))))))), ?_⟩
    refine fun P hP => ?_
    generalize g1 : upd H P _ = H1
    obtain ⟨s1, t1⟩ := new_of g1 hP
    refine ⟨M_add_ends n b p N ks E S H P, ?_, ?_⟩
    · refine ⟨W_add_ends n b p N ks E S H P, ⟨N + 1, 0, rfl, rfl, s1, t1, fun i j hi => by omega, fun i hi => by omega⟩, ?_⟩
      rintro m σ' H2 ⟨L, rfl, rfl, s2, t2, nd, nk⟩
      have LN := repN L nd
      have ek2 := ek.keep s2
      by_cases c1 : itN b p n L ∈ ks
      · obtain ⟨t, a, m, v1, v2, v3⟩ := ek2.val _ c1
        refine ⟨_, rfl, _, rfl, E, _, rfl, dget (k := Sum.inl _) ek2.at' v1, false, rfl, iteF (iteF ?_)⟩
        exact ⟨L, rfl, s2, t2, nd, nk, LN, .inl c1⟩
      · refine ⟨_, rfl, _, rfl, E, _, rfl, dget (k := Sum.inl _) ek2.at' (ek2.no c1), true, rfl, iteT ?_⟩
        by_cases c2 : ∃ A, A < L ∧ itN b p n L = itN b p n A
        · obtain ⟨A, hA, e⟩ := c2
          refine ⟨_, rfl, _, rfl, P, _, rfl, dget (k := Sum.inl _) t2 (plK_some nd hA e.symm), false, rfl, iteF ?_⟩
          exact ⟨L, rfl, s2, t2, nd, nk, LN, .inr ⟨A, hA, e⟩⟩
        · have fr : ∀ i, i < L → itN b p n i ≠ itN b p n L := fun i hi z => c2 ⟨i, hi, z.symm⟩
          refine ⟨_, rfl, _, rfl, P, _, rfl, dget (k := Sum.inl _) t2 (plK_none fr), true, rfl, iteT ⟨Nx (W_add_ends n b p N ks E S H P) (N + 1 - L), Nx.id, ?_⟩⟩
          refine ⟨_, rfl, P, _, rfl, t2, ?_⟩
          have lk : (plK b p n L).length = L := kvsOf_len ..
          rw [lk]
          refine ⟨_, rfl, _, rfl, P, _, rfl, .k (k := Sum.inl _) t2 (small_len (by rw [lk]; omega)), ?_⟩
          have z : putK (plK b p n L) (Sum.inl ((itN b p n L : Nat) : Int) : Key) (.int (L : Int)) = plK b p n (L + 1) := kvsOf_put (f := fun i => ((itN b p n i : Nat) : Int)) (g := fun i => V.int (i : Int)) (L := L) fun i hi z => fr i hi (Int.ofNat.inj z)
          rw [z]
          have PS : S ≠ P := ne_of_none eS hP
          have eS2 : (upd H2 P (.dK (plK b p n (L + 1)))) S = some (.lst (ivs (stpN b p N))) := by
            rw [upd_ne PS]
            exact s2 _ _ eS
          refine ⟨_, rfl, _, rfl, S, _, _, _, rfl, rfl, .of eS2, atI_nat (ivs_at (stpN_get (inN L))), ?_⟩
          refine ⟨N + 1 - (L + 1), by omega, L + 1, rfl, rfl, same_own s2 hP, upd_same, fun i j hi hj ez => ?_, fun i hi => ?_⟩
          · by_cases ci : i = L
            · by_cases cj : j = L
              · omega
              · subst ci
                exact absurd ez.symm (fr j (by omega))
            · by_cases cj : j = L
              · subst cj
                exact absurd ez (fr i (by omega))
              · exact nd i j (by omega) (by omega) ez
          · by_cases ci : i = L
            · subst ci
              exact c1
            · exact nk i (by omega)
    rintro σ' H2 ⟨L, rfl, s2, t2, nd, nk, LN, en⟩
    -- path
    have lk : ((plK b p n L).map fun kv => kV kv.1) = ivs (rowN b p n L) := by
      unfold plK
      rw [kvsOf_keys, rowN_eq]
      unfold ivs
      rw [List.map_map]
      rfl
    refine ⟨_, rfl, P, _, rfl, t2, fun R hR => ?_⟩
    rw [lk]
    generalize g3 : upd H2 R _ = H3
    obtain ⟨s3, t3⟩ := new_of g3 hR
    have s03 := s2.trans s3
    have ek3 := ek.keep s03
    have RE : R ≠ E := (ne_of_none (ek.keep s2).at' hR).symm
    have tP3 := s3 _ _ t2
    refine ⟨M2_add_ends n b p N ks E S H, ?_, ?_⟩
    · by_cases c : ∃ A, A < L ∧ itN b p n L = itN b p n A
      · obtain ⟨A, hA, e⟩ := c
        have wy : Way b p n A L := ⟨hA, e, nd⟩
        have v := plK_some nd hA e.symm
        refine ⟨_, rfl, _, rfl, P, _, rfl, dget (k := Sum.inl _) tP3 v, true, rfl, iteT ?_⟩
        refine ⟨_, rfl, _, rfl, _, rfl, P, _, rfl, dget (k := Sum.inl _) tP3 v, _, rfl, R, _, rfl, .of t3, fun D1 h1 => ?_⟩
        rw [cut_ivs_from, rowN_drop]
        generalize g4 : upd H3 D1 _ = H4
        obtain ⟨s4, t4⟩ := new_of g4 h1
        refine ⟨_, rfl, _, rfl, _, rfl, P, _, rfl, dget (k := Sum.inl _) (s4 _ _ tP3) v, _, rfl, R, _, rfl, .of (s4 _ _ t3), fun D2 h2 => ?_⟩
        rw [cut_ivs_to, rowN_take (Nat.le_of_lt hA)]
        generalize g5 : upd H4 D2 _ = H5
        obtain ⟨s5, t5⟩ := new_of g5 h2
        have t45 := s5 _ _ t4
        have t45' := t45
        rw [ivs_map] at t45'
        refine ⟨_, rfl, D1, _, rfl, .of t45', by rw [List.length_map, rowN_len]; omega, fun m h1' h2' => ?_⟩
        obtain ⟨k, hk, rfl⟩ := List.mem_map.mp h1'
        obtain ⟨i0, hi0, rfl⟩ := mem_rowN.mp hk
        rw [← itN_add]
        have lem : ∀ x, A ≤ x → x < L → itN b p n (A + i0) ≤ itN b p n x := fun x x1 x2 => by
          have := h2' ((itN b p n x : Nat) : Int) (List.mem_map.mpr ⟨_, mem_rowN.mpr ⟨x - A, by omega, rfl⟩, by rw [← itN_add, show A + (x - A) = x by omega]⟩)
          rw [← itN_add] at this
          omega
        have ea := wy.end_of ⟨A + i0, by omega, by omega, rfl⟩ lem
        have s05 := s03.trans (s4.trans s5)
        have ek5 := ek.keep s05
        have DE1 : D1 ≠ E := (ne_of_none ek3.at' h1).symm
        have DE2 : D2 ≠ E := (ne_of_none (ek3.keep s4).at' h2).symm
        refine ⟨_, rfl, D1, rfl, ⟨_, .of t45⟩, for_list (xs := ivs (rowN b p (itN b p n A) (L - A))) (fun i σ' H' => But E H5 H' ∧ i ≤ L - A ∧ (∃ kvs', EK H' E b p N (ks ++ rowN b p (itN b p n A) i) kvs') ∧ ∃ y7 : Option V, σ' = [some (.ref E), some (.ref S), some (.int ((itN b p n L : Nat) : Int)), some (.ref P), some (.ref D2), some (.ref D1), some (.int ((itN b p n (A + i0) : Nat) : Int)), y7, none]) ⟨But.refl _ _, Nat.zero_le _, ⟨kvs, by rw [show rowN b p (itN b p n A) 0 = [] from rfl, List.append_nil]; exact ek5⟩, none, rfl⟩ ?_ ?_ ?_⟩
        · rintro i σ' H' hi ⟨z, _⟩
          exact .of (z _ _ DE1 t45)
        · rintro i x σ' H6 hx ⟨b6, il, ⟨kvs', ek6⟩, y7, rfl⟩
          obtain ⟨r, hr, rfl⟩ := ivs_get hx
          have hi : i < L - A := by
            have := (List.getElem?_eq_some_iff.mp hr).1
            rwa [rowN_len] at this
          rw [rowN_get _ _ _ _ _ hi] at hr
          obtain rfl : itN b p (itN b p n A) i = r := Option.some.inj hr
          refine ⟨_, rfl, by show 2 ≤ sizeLine; decide, fun t ht => ?_⟩
          generalize g7 : upd H6 t _ = H7
          obtain ⟨s7, t7⟩ := new_of g7 ht
          have ek7 := ek6.keep s7
          have fr : itN b p (itN b p n A) i ∉ ks ++ rowN b p (itN b p n A) i := fun z => by
            rcases List.mem_append.mp z with z | z
            · rw [← itN_add] at z
              exact nk _ (by omega) z
            · obtain ⟨j, j1, j2⟩ := mem_rowN.mp z
              rw [← itN_add, ← itN_add] at j2
              have := nd _ _ (by omega) (by omega) j2
              omega
          have put := ek7.put (a := 0) (m := itN b p n (A + i0)) fr (by rw [← itN_add]; exact inN _) t7 (by rw [← itN_add]; exact rnd_at wy ea (by omega))
          rw [List.append_assoc] at put
          exact ⟨_, rfl, _, rfl, E, _, rfl, .inl ⟨kvs', Sum.inl _, ek7.at', rfl, small_len (by have := ek7.len; omega), rfl⟩, b6.trans ((But.of s7).trans But.set), hi, ⟨_, put⟩, _, rfl⟩
        · rintro σ' H6 ⟨b6, il, ⟨kvs', ek6⟩, y7, rfl⟩
          rw [ivs_length, rowN_len] at ek6
          refine ⟨A, P, D2, _, kvs', _, _, y7, by rw [e], (But.of s05).trans b6, DE2, b6 _ _ DE2 t5, ek6, fun x hx => ?_, fun x hx => List.mem_append_left _ hx, fun j hj z => ?_, List.mem_append_right _ (mem_rowN.mpr ⟨0, by omega, rfl⟩), fun i j hi hj => nd i j (by omega) (by omega)⟩
          · rcases List.mem_append.mp hx with z | z
            · exact List.mem_append_left _ (cl x z)
            · obtain ⟨j, j1, j2⟩ := mem_rowN.mp z
              refine List.mem_append_right _ (mem_rowN.mpr ?_)
              by_cases cj : j + 1 < L - A
              · exact ⟨j + 1, cj, by rw [itN_succ, j2]⟩
              · refine ⟨0, by omega, ?_⟩
                rw [itN_zero, ← e, ← j2, ← itN_succ, ← itN_add, show A + (j + 1) = L by omega]
          · rcases List.mem_append.mp z with z | z
            · exact nk j (by omega) z
            · obtain ⟨i, i1, i2⟩ := mem_rowN.mp z
              rw [← itN_add] at i2
              have := nd _ _ (by omega) (by omega) i2
              omega
      · have inK : itN b p n L ∈ ks := en.resolve_right c
        refine ⟨_, rfl, _, rfl, P, _, rfl, dget (k := Sum.inl _) tP3 (plK_none fun i hi z => c ⟨i, hi, z.symm⟩), false, rfl, iteF ?_⟩
        exact ⟨L, P, R, ks, kvs, none, none, none, rfl, .of s03, RE, t3, ek3, cl, fun x hx => hx, nk, inK, nd⟩
    rintro σ' H4 ⟨A, P, R, ks', kvs', y5, y6, y7, rfl, b4, RE, tR, ek4, cl', sub, nk', inA, nd'⟩
    obtain ⟨t, a, m, v1, v2, v3⟩ := ek4.val _ inA
    refine ⟨_, rfl, _, rfl, E, _, rfl, dget (k := Sum.inl _) ek4.at' v1, t, _, rfl, .of v2, rfl, _, _, rfl, _, _, rfl, rfl, ?_⟩
    refine ⟨_, rfl, R, _, rfl, .of tR, fun R2 h2 => ?_⟩
    rw [ivs_reverse]
    generalize g5 : upd H4 R2 _ = H5
    obtain ⟨s5, t5⟩ := new_of g5 h2
    have RE2 : R2 ≠ E := (ne_of_none ek4.at' h2).symm
    have np : ∀ j, j < A → ¬ Per b p (itN b p n j) := fun j hj z => by
      obtain ⟨i, hi⟩ := z.back (A - j)
      rw [← itN_add b p n j (A - j), show j + (A - j) = A by omega] at hi
      exact nk' j hj (hi ▸ Cl.it cl' inA i)
    have gen : ∀ i, i ≤ A → EndAt b p (itN b p n (A - i)) (a + i) m := fun i => by
      induction i with
      | zero => intro _; exact v3
      | succ i ih =>
        intro hi
        have h1 := ih (by omega)
        rw [show A - i = (A - (i + 1)) + 1 by omega, itN_succ] at h1
        exact h1.succ (np _ (by omega))
    refine ⟨R2, rfl, ⟨_, .of t5⟩, for_list (xs := ivs (rowN b p n A).reverse) (fun i σ' H' => But E H5 H' ∧ i ≤ A ∧ (∃ kvs'', EK H' E b p N (ks' ++ (rowN b p n A).reverse.take i) kvs'') ∧ ∃ y5 y7 : Option V, σ' = [some (.ref E), some (.ref S), some (.int ((itN b p n A : Nat) : Int)), some (.ref P), some (.ref R), y5, some (.int (m : Int)), y7, some (.int ((a + i : Nat) : Int))]) ⟨But.refl _ _, Nat.zero_le _, ⟨kvs', by rw [List.take_zero, List.append_nil]; exact ek4.keep s5⟩, y5, y7, rfl⟩ ?_ ?_ ?_⟩
    · rintro i σ' H' hi ⟨z, _⟩
      exact .of (z _ _ RE2 t5)
    · rintro i x σ' H6 hx ⟨b6, il, ⟨kvs'', ek6⟩, y5, y7, rfl⟩
      obtain ⟨r, hr, rfl⟩ := ivs_get hx
      have hi : i < A := by
        have := (List.getElem?_eq_some_iff.mp hr).1
        rwa [List.length_reverse, rowN_len] at this
      have hr0 := hr
      rw [List.getElem?_reverse (by rw [rowN_len]; exact hi), rowN_len, rowN_get _ _ _ _ _ (by omega)] at hr
      obtain rfl : itN b p n (A - 1 - i) = r := Option.some.inj hr
      refine ⟨_, rfl, _, _, rfl, rfl, _, rfl, _, rfl, by show 2 ≤ sizeLine; decide, fun t' ht' => ?_⟩
      generalize g7 : upd H6 t' _ = H7
      obtain ⟨s7, t7⟩ := new_of g7 ht'
      have ek7 := ek6.keep s7
      have fr : itN b p n (A - 1 - i) ∉ ks' ++ (rowN b p n A).reverse.take i := fun z => by
        rcases List.mem_append.mp z with z | z
        · exact nk' _ (by omega) z
        · obtain ⟨j, hj⟩ := List.mem_iff_getElem?.mp z
          have jl := (List.getElem?_eq_some_iff.mp hj).1
          rw [List.length_take] at jl
          rw [List.getElem?_take_of_lt (by omega), List.getElem?_reverse (by rw [rowN_len]; omega), rowN_len, rowN_get _ _ _ _ _ (by omega)] at hj
          have := nd' _ _ (by omega) (by omega) (Option.some.inj hj)
          omega
      have ge := gen (i + 1) hi
      rw [show A - (i + 1) = A - 1 - i by omega, show a + (i + 1) = a + i + 1 by omega] at ge
      have put := ek7.put (a := a + i + 1) (m := m) fr (inN _) t7 ge
      rw [List.append_assoc, show (rowN b p n A).reverse.take i ++ [itN b p n (A - 1 - i)] = (rowN b p n A).reverse.take (i + 1) by rw [List.take_add_one, hr0]; rfl] at put
      exact ⟨_, rfl, _, rfl, E, _, rfl, .inl ⟨kvs'', Sum.inl _, ek7.at', rfl, small_len (by have := ek7.len; omega), rfl⟩, b6.trans ((But.of s7).trans But.set), hi, ⟨_, put⟩, _, _, rfl⟩
    · rintro σ' H6 ⟨b6, il, ⟨kvs'', ek6⟩, y5, y7, rfl⟩
      rw [ivs_length, List.take_length] at ek6
      refine q H6 _ kvs'' (b4.trans ((But.of s5).trans b6)) ek6 (fun x hx => ?_) (fun x hx => List.mem_append_left _ (sub x hx)) ?_
      · rcases List.mem_append.mp hx with z | z
        · exact List.mem_append_left _ (cl' x z)
        · obtain ⟨j, j1, rfl⟩ := mem_rowN.mp (List.mem_reverse.mp z)
          by_cases cj : j + 1 < A
          · exact List.mem_append_right _ (List.mem_reverse.mpr (mem_rowN.mpr ⟨j + 1, cj, itN_succ ..⟩))
          · rw [← itN_succ, show j + 1 = A by omega]
            exact List.mem_append_left _ inA
      · by_cases c0 : A = 0
        · subst c0
          exact List.mem_append_left _ inA
        · exact List.mem_append_right _ (List.mem_reverse.mpr (mem_rowN.mpr ⟨0, by omega, rfl⟩))

/-! ### ends_to -/
/-- where each number ends, as it stands in a list -/
def EndsL (b p : Nat) (H : Hp) (vs : List V) : Prop := ∀ (i : Nat) v, vs[i]? = some v → ∃ t a m, v = .ref t ∧ H t = some (.tup (ivs [a, m])) ∧ EndAt b p i a m
def sp_ends_to (K : PySem.W.Frag) : Sp := fun vs H Q _ => ∃ k b p : Nat, vs = [.int (k : Int), .int (b : Int), .int (p : Int)] ∧ OkN b p ∧ k ≤ 900000 ∧ ∀ H' R rs, Same H H' → H R = none → H' R = some (.lst rs) → EndsL b p H' rs → Big b p rs.length → k < rs.length → rs.length ≤ 1000000 → Q (.ref R) H'
theorem ok_ends_to (T : Txt K mg) : FnOk P w K mg base CX0 3 T.f_ends_to T.fd_ends_to ["most", "base", "power"] (sp_ends_to K) := by
  refine T.F_ends_to.ok sc_ends_to (fun vs H Q E h => ?_) (fun cdv A outer s H vs Q E hr h => ?_)
  · obtain ⟨_, _, _, rfl, _⟩ := h
    rfl
  · obtain ⟨k, b, p, rfl, ok, hk, q⟩ := h
    have hb := ok.hb
    have hb16 := ok.hb16
    have wl := ok.worth
    refine ⟨_, (pss_cons (ps_set (i := 3) sc_ends_to.nd rfl (Or.inl rfl) (pe_call (ok_worths_of T) hr (by rfl) T.g_worths_of T.F_worths_of.kp T.b_worths_of .nil pass0 (pa_cons (pv 1) (pa_cons (pv 2) pa_nil))))
      (pss_cons (ps_set (i := 4) sc_ends_to.nd rfl (Or.inl rfl) (pe_op op_mul (pe_op op_sub (pe_call (ok_length_down T) hr (by rfl) T.g_length_down T.F_length_down.kp T.b_length_down .nil pass0 (pa_cons (pv 1) (pa_cons (pv 2) pa_nil))) pe_int) (pe_callB (id := "max") (cr_max rfl) (by rfl) T.m_max (by decide +kernel) (pa_cons (pv 3) pa_nil))))
      (pss_cons (ps_set (i := 5) sc_ends_to.nd rfl (Or.inl rfl) (pe_call (ok_steps_to T) (hr.mono (by decide)) (by rfl) T.g_steps_to T.F_steps_to.kp T.b_steps_to .nil pass0 (pa_cons (pe_callB (id := "max") (call_max2 rfl) (by rfl) T.m_max (by decide +kernel) (pa_cons (pv 0) (pa_cons (pv 4) pa_nil))) (pa_cons (pv 3) pa_nil))))
      (pss_cons (ps_set (i := 6) sc_ends_to.nd rfl (Or.inr rfl) pe_dnewK)
      (pss_cons (ps_for PassesOwn.never rfl (pi_range1 (by rfl) T.m_range (pa_cons (pe_callB (id := "len") call_len_seq (by rfl) T.m_len (by decide +kernel) (pa_cons (pv 5) pa_nil)) pa_nil)) (pg_name (i := 7) sc_ends_to.nd rfl (Or.inl rfl)) (pss_one (ps_expr (pe_call (ok_add_ends T) (hr.mono (by decide)) (by rfl) T.g_add_ends T.F_add_ends.kp T.b_add_ends .nil pass0 (pa_cons (pv 6) (pa_cons (pv 5) (pa_cons (pv 7) pa_nil)))))))
      (pss_one (ps_ret (pe_lc (own := [("number", 7)]) (g := (gName 7)) (tt := tYes) rfl sc_ends_to.nd (pi_range1 (by rfl) T.m_range (pa_cons (pe_callB (id := "len") call_len_seq (by rfl) T.m_len (by decide +kernel) (pa_cons (pv 5) pa_nil)) pa_nil)) (blkOk_by (own := [("number", 7)]) (N := ["most", "base", "power", "worths", "enough", "steps", "ends", "number"]) (sc := defScope s_ends_to) (by decide +kernel)) (fun _ _ _ _ _ => (pg_name (i := 7) sc_ends_to.nd rfl (Or.inl rfl))) (fun _ _ _ _ _ => pts_nil) (fun _ _ _ _ _ => (pe_dget (hu_of hr) (pv 6) (pv 7) (fun _ _ => rfl))))))))))), ?_⟩
    refine ⟨_, rfl, _, rfl, b, p, rfl, hb16, ok.hp, fun H1 W s1 nW eW => ?_⟩
    refine ⟨_, rfl, _, rfl, (b : Int), (p : Int), rfl, ok.ok, fun L hL l15 => ⟨_, _, rfl, rfl, ?_⟩⟩
    have l2 := hL.two
    have eW' := eW
    rw [ivs_map] at eW'
    refine ⟨_, rfl, W, _, rfl, .of eW', by rw [List.length_map, wts_len]; omega, fun m h1 h2 => ?_⟩
    have em : m = (((b - 1) ^ p : Nat) : Int) := by
      have mem : ∀ d, d < b → ((d ^ p : Nat) : Int) ∈ (wts b p).map fun (k : Nat) => (k : Int) := fun d hd => List.mem_map.mpr ⟨_, List.mem_of_getElem? (wts_get hd), rfl⟩
      obtain ⟨x, hx, rfl⟩ := List.mem_map.mp h1
      obtain ⟨d, hd, rfl⟩ := List.mem_map.mp hx
      have := pow_le_base (p := p) (List.mem_range.mp hd)
      have := h2 _ (mem (b - 1) (by omega))
      omega
    subst em
    refine ⟨_, _, rfl, rfl, .inl (by omega), ?_⟩
    have ee : ((L : Int) - 1) * (((b - 1) ^ p : Nat) : Int) = (((L - 1) * (b - 1) ^ p : Nat) : Int) := by
      rw [Int.natCast_mul, show ((L - 1 : Nat) : Int) = (L : Int) - 1 by omega]
    have el : (L - 1) * (b - 1) ^ p ≤ 14336 := by
      have := Nat.mul_le_mul (show L - 1 ≤ 14 by omega) wl.2
      omega
    have big : ∀ N, (L - 1) * (b - 1) ^ p < N → Big b p N := fun N hN => big_of hb hL hN
    generalize hen : (L - 1) * (b - 1) ^ p = en at ee el big
    refine ⟨_, rfl, _, rfl, _, _, rfl, _, rfl, max k en, b, p, W, ?_, eW, ok, by omega, fun H2 S s2 nS eS => ?_⟩
    · have e : (if ((L : Int) - 1) * (((b - 1) ^ p : Nat) : Int) > (k : Int) then ((L : Int) - 1) * (((b - 1) ^ p : Nat) : Int) else (k : Int)) = ((max k en : Nat) : Int) := by
        rw [ee]
        split <;> omega
      rw [← e]
      rfl
    have bigN := big (max b (max k en + 1)) (by omega)
    have Nb : max b (max k en + 1) ≤ 1000000 := by omega
    have kN : k < max b (max k en + 1) := by omega
    generalize max b (max k en + 1) = N at eS bigN Nb kN
    have s02 := s1.trans s2
    refine fun E hE => ?_
    generalize g3 : upd H2 E _ = H3
    obtain ⟨s3, t3⟩ := new_of g3 hE
    have E0 : H E = none := s02.free hE
    have SE : S ≠ E := ne_of_none eS hE
    have eS3 := s3 _ _ eS
    refine ⟨_, rfl, S, _, rfl, .inl (.of eS3), _, rfl, by rw [ivs_length, stpN_len]; omega, by rw [ivs_length, stpN_len]; omega, ?_⟩
    rw [ivs_length, stpN_len]
    refine for_range (lo := 0) (n := N) (fun i σ' H' => But E H3 H' ∧ (∃ ks kvs, EK H' E b p N ks kvs ∧ Cl b p ks ∧ ∀ x, x < i → x ∈ ks) ∧ ∃ y, σ' = [some (.int (k : Int)), some (.int (b : Int)), some (.int (p : Int)), some (.ref W), some (.int (((L : Int) - 1) * (((b - 1) ^ p : Nat) : Int))), some (.ref S), some (.ref E), y]) ⟨But.refl _ _, ⟨[], [], ⟨t3, rfl, List.nodup_nil, (fun n h => nomatch h), (fun n h => nomatch h)⟩, (fun n h => nomatch h), fun x hx => by omega⟩, none, rfl⟩ ?_ ?_
    · rintro i σ' H4 hi ⟨b4, ⟨ks, kvs, ek, cl, all⟩, y, rfl⟩
      refine ⟨_, rfl, _, rfl, _, rfl, E, S, i, b, p, N, ks, kvs, by rw [Int.zero_add]; rfl, ek, cl, b4 _ _ SE eS3, hi, bigN, ok, by omega, fun H5 ks' kvs' b5 ek5 cl5 sub inn => ?_⟩
      refine ⟨b4.trans b5, ⟨ks', kvs', ek5, cl5, fun x hx => ?_⟩, _, rfl⟩
      by_cases c : x = i
      · subst c
        exact inn
      · exact sub x (all x (by omega))
    · rintro σ' H4 ⟨b4, ⟨ks, kvs, ek, cl, all⟩, y, rfl⟩
      refine ⟨_, rfl, S, _, rfl, .inl (.of (b4 _ _ SE eS3)), _, rfl, by rw [ivs_length, stpN_len]; omega, by rw [ivs_length, stpN_len]; omega, fun R hR => ?_⟩
      rw [ivs_length, stpN_len]
      have s04 : Same H H4 := fun x o e => b4 _ _ (ne_of_none e E0) (s3 _ _ (s02 _ _ e))
      refine lc_range (lo := 0) (n := N) (fun i H' => Same H4 H' ∧ ∃ rs, H' R = some (.lst rs) ∧ rs.length = i ∧ EndsL b p H4 rs) ⟨Same.new hR, [], upd_same, rfl, fun i v e => by simp at e⟩ ?_ ?_
      · rintro i H5 hi ⟨s5, rs, e5, l5, en5⟩
        obtain ⟨t, a, m, v1, v2, v3⟩ := ek.val i (all i hi)
        refine ⟨rfl, _, rfl, _, rfl, E, _, rfl, ?_, rs, e5, small_len (by omega), same_own s5 hR, rs ++ [.ref t], upd_same, by rw [List.length_append, l5]; rfl, fun j v e => ?_⟩
        · rw [Int.zero_add]
          exact dget (k := Sum.inl _) (s5 _ _ ek.at') v1
        · by_cases cj : j < rs.length
          · rw [List.getElem?_append_left cj] at e
            exact en5 j v e
          · rw [List.getElem?_append_right (by omega)] at e
            have z : j - rs.length = 0 := by
              have := (List.getElem?_eq_some_iff.mp e).1
              simp at this
              omega
            rw [z] at e
            cases e
            exact ⟨t, a, m, rfl, v2, by rw [show j = i by omega]; exact v3⟩
      · rintro H5 ⟨s5, rs, e5, l5, en5⟩
        refine q H5 R rs (s04.trans s5) (s04.free hR) e5 (fun i v e => ?_) (by rw [l5]; exact bigN) (by omega) (by omega)
        obtain ⟨t, a, m, v1, v2, v3⟩ := en5 i v e
        exact ⟨t, a, m, v1, s5 _ _ v2, v3⟩

/-! ### leasts_to -/
def sp_leasts_to (K : PySem.W.Frag) : Sp := fun vs H Q _ => ∃ k b p : Nat, vs = [.int (k : Int), .int (b : Int), .int (p : Int)] ∧ OkN b p ∧ k ≤ 900000 ∧ ∀ H' R ls, Same H H' → H R = none → H' R = some (.lst (ivs ls)) → LeastsAt b p ls → Big b p ls.length → k < ls.length → ls.length ≤ 1000000 → Q (.ref R) H'
theorem ok_leasts_to (T : Txt K mg) : FnOk P w K mg base CX0 4 T.f_leasts_to T.fd_leasts_to ["most", "base", "power"] (sp_leasts_to K) := by
  refine T.F_leasts_to.ok sc_leasts_to (fun vs H Q E h => ?_) (fun cdv A outer s H vs Q E hr h => ?_)
  · obtain ⟨_, _, _, rfl, _⟩ := h
    rfl
  · obtain ⟨k, b, p, rfl, ok, hk, q⟩ := h
    refine ⟨_, (pss_one (ps_ret (pe_lc (own := [("_", 3), ("least", 4)]) (g := (gTup K 2 (gCons (gName 3) (gCons (gName 4) gNil)))) (tt := tYes) rfl sc_leasts_to.nd (pi_list (pe_call (ok_ends_to T) hr (by rfl) T.g_ends_to T.F_ends_to.kp T.b_ends_to .nil pass0 (pa_cons (pv 0) (pa_cons (pv 1) (pa_cons (pv 2) pa_nil))))) (blkOk_by (own := [("_", 3), ("least", 4)]) (N := ["most", "base", "power", "_", "least"]) (sc := defScope s_leasts_to) (by decide +kernel)) (fun _ _ _ _ _ => (pg_tup rfl (pgs_cons (pg_name (i := 3) sc_leasts_to.nd rfl (Or.inl rfl)) (pgs_cons (pg_name (i := 4) sc_leasts_to.nd rfl (Or.inl rfl)) pgs_nil)))) (fun _ _ _ _ _ => pts_nil) (fun _ _ _ _ _ => (pv 4))))), ?_⟩
    refine ⟨_, rfl, _, rfl, _, rfl, k, b, p, rfl, ok, hk, fun H1 A rs s1 nA eA en big kl l9 => ?_⟩
    refine ⟨A, rfl, ⟨_, .of eA⟩, fun R hR => lc_list (xs := rs) (fun i H' => Same H1 H' ∧ ∃ ls : List Nat, H' R = some (.lst (ivs ls)) ∧ ls.length = i ∧ LeastsAt b p ls) ⟨Same.new hR, [], upd_same, rfl, fun i m e => by simp at e⟩ ?_ ?_ ?_⟩
    · rintro i H' hi ⟨z, _⟩
      exact .of (z _ _ eA)
    · rintro i v H2 hv ⟨s2, ls, e2, l2, at2⟩
      obtain ⟨t, a, m, rfl, et, ev⟩ := en i v hv
      have hi := (List.getElem?_eq_some_iff.mp hv).1
      refine ⟨t, _, rfl, .of (s2 _ _ et), rfl, _, _, rfl, _, _, rfl, rfl, rfl, _, rfl, _, e2, small_len (by rw [ivs_length]; omega), same_own s2 hR, ls ++ [m], ?_, by rw [List.length_append, l2]; rfl, fun j x e => ?_⟩
      · rw [upd_same, ivs_append]
        rfl
      · by_cases cj : j < ls.length
        · rw [List.getElem?_append_left cj] at e
          exact at2 j x e
        · rw [List.getElem?_append_right (by omega)] at e
          have z : j - ls.length = 0 := by
            have := (List.getElem?_eq_some_iff.mp e).1
            simp at this
            omega
          rw [z] at e
          cases e
          exact ⟨a, by rw [show j = i by omega]; exact ev⟩
    · rintro H2 ⟨s2, ls, e2, l2, at2⟩
      exact q H2 R ls (s1.trans s2) (s1.free hR) e2 at2 (by rw [l2]; exact big) (by omega) (by omega)

/-! ### way_of -/
def sp_way_of (K : PySem.W.Frag) : Sp := fun vs H Q _ => ∃ n b p : Nat, vs = [.int (n : Int), .int (b : Int), .int (p : Int)] ∧ OkN b p ∧ n < 2 ^ 200 ∧ ∀ H' t w A L, Same H H' → H t = none → H' t = some (.tup [.ref w, .int ((A : Nat) : Int)]) → H w = none → H' w = some (.lst (ivs (rowN b p n L))) → Way b p n A L → Q (.ref t) H'
def W_way_of (n b p : Nat) (H : Hp) (P : Addr) (m : Nat) (σ' : L2.St) (H' : Hp) : Prop := ∃ L : Nat, m = 15031 - L ∧ σ' = [some (.int ((itN b p n L : Nat) : Int)), some (.int (b : Int)), some (.int (p : Int)), some (.ref P)] ∧ Same H H' ∧ H' P = some (.dK (kvsOf (fun i => ((itN b p n i : Nat) : Int)) (fun i => .int (i : Int)) L)) ∧ ∀ i j, i < L → j < L → itN b p n i = itN b p n j → i = j
theorem ok_way_of (T : Txt K mg) : FnOk P w K mg base CX0 3 T.f_way_of T.fd_way_of ["number", "base", "power"] (sp_way_of K) := by
  refine T.F_way_of.ok sc_way_of (fun vs H Q E h => ?_) (fun cdv A outer s H vs Q E hr h => ?_)
  · obtain ⟨_, _, _, rfl, _⟩ := h
    rfl
  · obtain ⟨n, b, p, rfl, ok, hn, q⟩ := h
    have nr := near_of ok hn
    refine ⟨_, (pss_cons (ps_set (i := 3) sc_way_of.nd rfl (Or.inl rfl) pe_dnewK)
      (pss_cons (ps_while PassesOwn.never (pt_cmp (pc_dnotin (hu_of hr) (pv 0) (pv 3)) rfl) (pss_cons (ps_dput (hu_of hr) (pv 3) (pv 0) (pe_callB (id := "len") call_lenD (by rfl) T.m_len (by decide +kernel) (pa_cons (pv 3) pa_nil)) rfl)
      (pss_one (ps_set (i := 0) sc_way_of.nd rfl (Or.inl rfl) (pe_call (ok_step_of T) hr (by rfl) T.g_step_of T.F_step_of.kp T.b_step_of .nil pass0 (pa_cons (pv 0) (pa_cons (pv 1) (pa_cons (pv 2) pa_nil))))))))
      (pss_one (ps_ret (pe_tup (pa_cons (pe_callTy (T := "list") (call_list_dK rfl) (by rfl) T.m_list (by decide +kernel) (pa_cons (pv 3) pa_nil)) (pa_cons (pe_dget (hu_of hr) (pv 3) (pv 0) (fun _ _ => rfl)) pa_nil))))))), ?_⟩
    refine fun P hP => ?_
    generalize g1 : upd H P _ = H1
    obtain ⟨s1, t1⟩ := new_of g1 hP
    refine ⟨W_way_of n b p H P, ⟨15031, 0, rfl, rfl, s1, t1, fun i j hi => by omega⟩, ?_⟩
    rintro m σ' H2 ⟨L, rfl, rfl, s2, t2, nd⟩
    have lL := nr.rep nd
    by_cases c : ∃ i, i < L ∧ itN b p n i = itN b p n L
    · obtain ⟨A, hA, e⟩ := c
      have v : valV (kvsOf (fun i => ((itN b p n i : Nat) : Int)) (fun i => V.int (i : Int)) L) (Sum.inl ((itN b p n L : Nat) : Int) : Key) = some (.int (A : Int)) := by
        rw [← e]
        exact kvsOf_some (f := fun i => ((itN b p n i : Nat) : Int)) (g := fun i => V.int (i : Int)) (fun i j hi hj z => nd i j hi hj (Int.ofNat.inj z)) hA
      refine ⟨_, rfl, _, rfl, P, some (.int (A : Int)), rfl, dget (k := Sum.inl _) t2 v, false, rfl, iteF ?_⟩
      refine ⟨_, rfl, P, _, rfl, t2, fun w hw => ?_⟩
      rw [kvsOf_keys]
      generalize g3 : upd H2 w _ = H3
      obtain ⟨s3, t3⟩ := new_of g3 hw
      have t3' : H3 w = some (.lst (ivs (rowN b p n L))) := by
        rw [t3, rowN_eq]
        unfold ivs
        rw [List.map_map]
        rfl
      refine ⟨_, rfl, _, rfl, P, _, rfl, dget (k := Sum.inl _) (s3 _ _ t2) v, by show 2 ≤ sizeLine; decide, fun t ht => ?_⟩
      exact q _ t w A L (s2.trans (s3.trans (Same.new ht))) (s2.free (s3.free ht)) upd_same (s2.free hw) (Same.new ht _ _ t3') ⟨hA, e.symm, nd⟩
    · have v : valV (kvsOf (fun i => ((itN b p n i : Nat) : Int)) (fun i => V.int (i : Int)) L) (Sum.inl ((itN b p n L : Nat) : Int) : Key) = none := kvsOf_none fun i hi z => c ⟨i, hi, Int.ofNat.inj z⟩
      refine ⟨_, rfl, _, rfl, P, none, rfl, dget (k := Sum.inl _) t2 v, true, rfl, iteT ⟨Nx (W_way_of n b p H P) (15031 - L), Nx.id, ?_⟩⟩
      refine ⟨_, rfl, P, _, rfl, t2, ?_⟩
      rw [kvsOf_len]
      refine ⟨_, rfl, _, rfl, P, _, rfl, .k (k := Sum.inl _) t2 (small_len (by rw [kvsOf_len]; omega)), ?_⟩
      have z := kvsOf_put (f := fun i => ((itN b p n i : Nat) : Int)) (g := fun i => V.int (i : Int)) (L := L) fun i hi z => c ⟨i, hi, Int.ofNat.inj z⟩
      rw [z]
      have s3 := same_own (o := .dK (kvsOf (fun i => ((itN b p n i : Nat) : Int)) (fun i => V.int (i : Int)) (L + 1))) s2 hP
      refine ⟨_, rfl, _, rfl, _, rfl, itN b p n L, b, p, rfl, ok.hb, ok.hb16, ok.hp, lt200 (itN_lt200 ok hn L), fun H4 s4 => ?_⟩
      refine ⟨15031 - (L + 1), by omega, L + 1, rfl, rfl, s3.trans s4, s4 _ _ upd_same, fun i j hi hj ez => ?_⟩
      by_cases ci : i = L
      · by_cases cj : j = L
        · omega
        · subst ci
          exact absurd ⟨j, by omega, ez.symm⟩ c
      · by_cases cj : j = L
        · subst cj
          exact absurd ⟨i, by omega, ez⟩ c
        · exact nd i j (by omega) (by omega) ez

/-! ### rounds_of -/
def sp_rounds_of (K : PySem.W.Frag) : Sp := fun vs H Q _ => ∃ b p : Nat, vs = [.int (b : Int), .int (p : Int)] ∧ OkN b p ∧ ∀ H' T rs ms ks, Same H H' → H T = none → H' T = some (.tup rs) → RoundsAt b p H' rs ms ks → ms.length ≤ 1000000 → Q (.ref T) H'
theorem way_zero {b p m A L : Nat} (w : Way b p m A L) (h : EndAt b p m 0 m) : A = 0 ∧ Rnd b p m L := by
  obtain ⟨t, t1, t2, t3⟩ := w.least
  have e := w.end_of ⟨t, t1, t2, rfl⟩ t3
  obtain ⟨h1, h2⟩ := e.uniq h
  subst h1
  refine ⟨rfl, w.lt, w.back, w.nd, fun i => h.least i (Nat.zero_le _)⟩
theorem ok_rounds_of (T : Txt K mg) : FnOk P w K mg base CX0 5 T.f_rounds_of T.fd_rounds_of ["base", "power"] (sp_rounds_of K) := by
  refine T.F_rounds_of.ok sc_rounds_of (fun vs H Q E h => ?_) (fun cdv A outer s H vs Q E hr h => ?_)
  · obtain ⟨_, _, rfl, _⟩ := h
    rfl
  · obtain ⟨b, p, rfl, ok, q⟩ := h
    refine ⟨_, (pss_cons (ps_set (i := 2) sc_rounds_of.nd rfl (Or.inl rfl) (pe_call (ok_leasts_to T) hr (by rfl) T.g_leasts_to T.F_leasts_to.kp T.b_leasts_to .nil pass0 (pa_cons pe_int (pa_cons (pv 0) (pa_cons (pv 1) pa_nil)))))
      (pss_cons (ps_setLc (i := 3) (own := [("number", 4), ("least", 5)]) (g := (gTup K 2 (gCons (gName 4) (gCons (gName 5) gNil)))) rfl sc_rounds_of.nd rfl rfl (sw_true rfl rfl rfl (by decide +kernel)) (pi_enum (by rfl) T.m_enumerate (pa_cons (pv 2) pa_nil)) (blkOk_by (own := [("number", 4), ("least", 5)]) (N := ["base", "power", "leasts", "firsts", "number", "least", "first"]) (sc := defScope s_rounds_of) (by decide +kernel)) (fun _ _ _ _ _ => (pg_tup rfl (pgs_cons (pg_name (i := 4) sc_rounds_of.nd rfl (Or.inl rfl)) (pgs_cons (pg_name (i := 5) sc_rounds_of.nd rfl (Or.inl rfl)) pgs_nil)))) (fun _ _ _ _ _ => pts_one (pt_cmpR op_eq (pv 4) (pv 5) (nomark _))) (fun _ _ _ _ _ => (pv 4)))
      (pss_one (ps_ret (pe_callTy (T := "tuple") call_tuple_of (by rfl) T.m_tuple (by decide +kernel) (pa_cons (pe_lc (own := [("first", 6)]) (g := (gName 6)) (tt := tYes) rfl sc_rounds_of.nd (pi_list (pv 3)) (blkOk_by (own := [("first", 6)]) (N := ["base", "power", "leasts", "firsts", "number", "least", "first"]) (sc := defScope s_rounds_of) (by decide +kernel)) (fun _ _ _ _ _ => (pg_name (i := 6) sc_rounds_of.nd rfl (Or.inl rfl))) (fun _ _ _ _ _ => pts_nil) (fun _ _ _ _ _ => (pe_callTy (T := "tuple") (show CallR _ (.type "tuple") (rTupQ K) from call_tuple_of) (by rfl) T.m_tuple (by decide +kernel) (pa_cons (pe_ix (show IxR _ (rIxT K) from ix_tup) (pe_call (ok_way_of T) (hr.mono (by decide)) (by rfl) T.g_way_of T.F_way_of.kp T.b_way_of .nil pass0 (pa_cons (pv 6) (pa_cons (pv 0) (pa_cons (pv 1) pa_nil)))) pe_int (fun _ _ => rfl)) pa_nil)))) pa_nil)))))), ?_⟩
    refine ⟨_, rfl, _, rfl, 0, b, p, rfl, ok, by decide, fun H1 A ls s1 nA eA at1 big kl l9 => ?_⟩
    -- firsts
    refine ⟨_, rfl, A, _, rfl, .of eA, fun F hF => ?_⟩
    have selfAt : ∀ i m, ls[i]? = some m → (i = m ↔ EndAt b p i 0 i) := fun i m e => by
      obtain ⟨a, h⟩ := at1 i m e
      constructor
      · rintro rfl
        exact h.self
      · intro g
        exact (h.uniq g).2.symm
    refine lc_it (walk_enum (xs := ivs ls)) (fun i H' => Same H1 H' ∧ ∃ ms : List Nat, H' F = some (.lst (ivs ms)) ∧ ms.length ≤ i ∧ ms.Pairwise (· < ·) ∧ ∀ m, m ∈ ms ↔ m < i ∧ EndAt b p m 0 m) ⟨Same.new hF, [], upd_same, Nat.le_refl _, List.Pairwise.nil, fun m => ⟨fun h => absurd h (List.not_mem_nil), fun h => by omega⟩⟩ ?_ ?_ ?_
    · rintro i H' hi ⟨z, _⟩
      exact .of (z _ _ eA)
    · rintro i x H2 H3 hi ⟨s2, ms, e2, l2, srt, all⟩ ⟨T, u, v, rfl, hT, rfl, hu, hv⟩
      cases hu
      obtain ⟨m, hm, rfl⟩ := ivs_get hv
      have s3 : Same H2 (upd H2 T (.tup [V.int (i : Nat), V.int (m : Int)])) := Same.new hT
      have sa := selfAt i m hm
      have hi' : i < ls.length := (List.getElem?_eq_some_iff.mp hm).1
      refine ⟨T, _, rfl, .of upd_same, rfl, _, _, rfl, _, _, rfl, rfl, rfl, _, rfl, _, rfl, rfl, _, rfl, ite2 (fun c => ?_) (fun c => ?_)⟩
      · have em : i = m := by
          have := V.int.inj (of_decide_eq_true c)
          omega
        have ea := sa.mp em
        refine ⟨_, rfl, _, s3 _ _ e2, small_len (by rw [ivs_length]; omega), same_own (s2.trans s3) hF, ms ++ [i], ?_, by rw [List.length_append]; show _ + 1 ≤ _; omega, ?_, fun x => ?_⟩
        · rw [upd_same, ivs_append]
          rfl
        · rw [List.pairwise_append]
          exact ⟨srt, List.pairwise_singleton _ _, fun x hx y hy => by
            cases List.mem_singleton.mp hy
            exact ((all x).mp hx).1⟩
        · rw [List.mem_append, List.mem_singleton, all]
          constructor
          · rintro (⟨h1, h2⟩ | rfl)
            · exact ⟨by omega, h2⟩
            · exact ⟨by omega, ea⟩
          · rintro ⟨h1, h2⟩
            by_cases cx : x = i
            · exact .inr cx
            · exact .inl ⟨by omega, h2⟩
      · have em : i ≠ m := fun z => c (decide_eq_true (by rw [z]))
        refine ⟨s2.trans s3, ms, s3 _ _ e2, by omega, srt, fun x => ?_⟩
        rw [all]
        constructor
        · rintro ⟨h1, h2⟩
          exact ⟨by omega, h2⟩
        · rintro ⟨h1, h2⟩
          by_cases cx : x = i
          · subst cx
            exact absurd (sa.mpr h2) em
          · exact ⟨by omega, h2⟩
    rintro H2 ⟨s2, ms, e2, l2, srt, all⟩
    rw [ivs_length] at l2 all
    have allM : ∀ m, m ∈ ms ↔ EndAt b p m 0 m := fun m => by
      rw [all]
      exact ⟨fun h => h.2, fun h => ⟨big.per m h.per, h⟩⟩
    -- the rounds
    refine ⟨_, rfl, F, rfl, ⟨_, .of e2⟩, fun D hD => lc_list (xs := ivs ms) (fun i H' => Same H2 H' ∧ ∃ (vs : List V) (ks : List Nat), H' D = some (.lst vs) ∧ vs.length = i ∧ ks.length = i ∧ ∀ (j : Nat) v m k, vs[j]? = some v → ms[j]? = some m → ks[j]? = some k → ∃ t, v = .ref t ∧ H' t = some (.tup (ivs (rowN b p m k))) ∧ Rnd b p m k) ⟨Same.new hD, [], [], upd_same, rfl, rfl, fun j v m k e => by simp at e⟩ ?_ ?_ ?_⟩
    · rintro i H' hi ⟨z, _⟩
      exact .of (z _ _ e2)
    · rintro i x H3 hx ⟨s3, vs, ks, e3, lv, lk, at3⟩
      obtain ⟨m, hm, rfl⟩ := ivs_get hx
      have hi := (List.getElem?_eq_some_iff.mp hm).1
      have em := (allM m).mp (List.mem_of_getElem? hm)
      have mN := big.per m em.per
      have m9 : m < 2 ^ 200 := Nat.lt_of_lt_of_le (show m < 2 ^ 20 by omega) (Nat.pow_le_pow_right (by decide) (by decide))
      refine ⟨rfl, _, rfl, _, rfl, _, rfl, m, b, p, rfl, ok, m9, fun H4 t w A' L s4 nt et nw ew wy => ?_⟩
      obtain ⟨rfl, rn⟩ := way_zero wy em
      refine ⟨t, _, 0, _, rfl, rfl, .of et, atI_nat (j := 0) rfl, w, _, rfl, .inl ⟨.of ew, fun u hu => ?_⟩⟩
      generalize g5 : upd H4 u _ = H5
      obtain ⟨s5, t5⟩ := new_of g5 hu
      have e5 := s5 _ _ (s4 _ _ e3)
      have nuD : ∀ x xs, H5 x = some (HO.tup xs) → x ≠ D := fun x xs e => ne_of e e5 fun z => by cases z
      refine ⟨vs, e5, small_len (by omega), same_own (s3.trans (s4.trans s5)) hD, vs ++ [.ref u], ks ++ [L], upd_same, by rw [List.length_append, lv]; rfl, by rw [List.length_append, lk]; rfl, fun j v m' k a1 a2 a3 => ?_⟩
      by_cases cj : j < i
      · rw [List.getElem?_append_left (by omega)] at a1 a3
        obtain ⟨t', x1, x2, x3⟩ := at3 j v m' k a1 a2 a3
        have x2' := s5 _ _ (s4 _ _ x2)
        exact ⟨t', x1, by rw [upd_ne (nuD _ _ x2')]; exact x2', x3⟩
      · have jl : j < (vs ++ [V.ref u]).length := (List.getElem?_eq_some_iff.mp a1).1
        rw [List.length_append] at jl
        have ji : j = i := by
          have : [V.ref u].length = 1 := rfl
          omega
        subst ji
        rw [List.getElem?_append_right (by omega), lv, Nat.sub_self] at a1
        rw [List.getElem?_append_right (by omega), lk, Nat.sub_self] at a3
        cases a1
        cases a3
        rw [hm] at a2
        cases a2
        exact ⟨u, rfl, by rw [upd_ne (nuD _ _ t5)]; exact t5, rn⟩
    · rintro H3 ⟨s3, vs, ks, e3, lv, lk, at3⟩
      rw [ivs_length] at lv lk
      refine ⟨D, _, rfl, .inl ⟨.of e3, fun T hT => ?_⟩⟩
      have s03 := s1.trans (s2.trans s3)
      refine q _ T vs ms ks (s03.trans (Same.new hT)) (s03.free hT) upd_same ⟨lv, lk, fun i v m k a1 a2 a3 => ?_, srt, allM⟩ (by omega)
      obtain ⟨t, x1, x2, x3⟩ := at3 i v m k a1 a2 a3
      exact ⟨t, x1, Same.new hT _ _ x2, x3⟩

/-! ### _law_mix -/
def sp__law_mix (K : PySem.W.Frag) : Sp := fun vs H Q _ => ∃ c k : Int, vs = [.int c, .int k] ∧ 0 ≤ k ∧ k < 2 ^ 44 ∧ ∀ r : Int, Q (.int r) H
theorem mix_bound {a b : Int} (h : 0 < b) : 0 ≤ a % b ∧ a % b < b := ⟨Int.emod_nonneg _ (by omega), Int.emod_lt_of_pos _ h⟩
theorem ok__law_mix (T : Txt K mg) : FnOk P w K mg base CX0 1 T.f__law_mix T.fd__law_mix ["cell", "k"] (sp__law_mix K) := by
  refine T.F__law_mix.ok sc__law_mix (fun vs H Q E h => ?_) (fun cdv A outer s H vs Q E hr h => ?_)
  · obtain ⟨_, _, rfl, _⟩ := h
    rfl
  · obtain ⟨c, k, rfl, h0, h1, q⟩ := h
    refine ⟨_, (pss_cons (ps_set (i := 2) sc__law_mix.nd rfl (Or.inl rfl) (pe_op op_add (pe_op op_mod (pv 0) pe_int) (pe_op op_mul (pe_op op_mul pe_int (pv 1)) (pv 1))))
      (pss_cons (ps_set (i := 2) sc__law_mix.nd rfl (Or.inl rfl) (pe_op op_mod (pe_op op_add (pv 2) (pe_op op_mul pe_int (pv 1))) pe_int))
      (pss_cons (ps_set (i := 2) sc__law_mix.nd rfl (Or.inl rfl) (pe_op op_mod (pe_op op_mul (pv 2) (pv 2)) pe_int))
      (pss_one (ps_ret (pe_op op_fdivW (pe_op op_mod (pe_op op_mul (pv 2) (pe_op op_add (pv 2) pe_int)) pe_int) pe_int)))))), ?_⟩
    have hk : -(2 ^ 64) < 1000003 * k ∧ 1000003 * k < 2 ^ 64 := by omega
    refine ⟨_, rfl, _, _, rfl, rfl, by walk_at "p", _, rfl, _, _, rfl, rfl, .inl (by decide), _, rfl, _, _, rfl, rfl, .inl hk, _, _, rfl, rfl, ?_⟩
    refine ⟨_, rfl, _, rfl, _, _, rfl, rfl, .inl (by decide), _, _, rfl, rfl, _, _, rfl, rfl, by walk_at "p", ?_⟩
    refine ⟨_, rfl, _, rfl, _, _, rfl, rfl, .inl ?_, _, _, rfl, rfl, by walk_at "p", ?_⟩
    · have b := mix_bound (a := c % 2147483629 + 1000003 * k * k + 7919 * k) (b := 2147483629) (by decide)
      exact ⟨by omega, by omega⟩
    generalize (c % 2147483629 + 1000003 * k * k + 7919 * k) % 2147483629 = n1
    have b := mix_bound (a := n1 * n1) (b := 2147483587) (by decide)
    generalize n1 * n1 % 2147483587 = n2 at b ⊢
    refine ⟨_, rfl, _, rfl, _, _, rfl, rfl, _, _, rfl, rfl, .inl ⟨by omega, by omega⟩, _, _, rfl, rfl, by walk_at "p", _, _, rfl, rfl, ⟨by decide, by decide +kernel⟩, ?_⟩
    exact q _

/-! ### _law_deck -/
def sp__law_deck (K : PySem.W.Frag) : Sp := fun vs H Q _ => ∃ (a : Addr) (ns : List Int), vs = [.ref a] ∧ SqL K H a (ns.map V.int) ∧ ∀ H' d c, Same H H' → H d = none → H c = none → Deck H' d c 0 → Q (.ref d) H'
theorem ok__law_deck (T : Txt K mg) : FnOk P w K mg base CX0 1 T.f__law_deck T.fd__law_deck ["script"] (sp__law_deck K) := by
  refine T.F__law_deck.ok sc__law_deck (fun vs H Q E h => ?_) (fun cdv A outer s H vs Q E hr h => ?_)
  · obtain ⟨_, _, rfl, _⟩ := h
    rfl
  · obtain ⟨a, ns, rfl, hS, q⟩ := h
    refine ⟨_, (pss_one (ps_ret (pe_lst (pa_cons (pe_slice sl_list (pv 0) po_none (po_some pe_int)) (pa_cons pe_int (pa_cons pe_int (pa_cons pe_int (pa_cons (pe_callB (id := "sum") (cr_sum rfl) (by rfl) T.m_sum (by decide +kernel) (pa_cons (pe_slice sl_list (pv 0) po_none (po_some pe_int)) pa_nil)) pa_nil)))))))), ?_⟩
    have ec : cutV (ns.map V.int) none (some 63) = (ns.take 63).map V.int := by
      rw [List.map_take]
      exact cut_to _ 63
    refine ⟨_, rfl, _, rfl, a, _, rfl, hS, fun c hc => ?_⟩
    rw [ec]
    have s1 : Same H (upd H c (.lst ((ns.take 63).map V.int))) := Same.new hc
    refine ⟨_, rfl, _, rfl, a, _, rfl, s1.seq hS, fun e he => ?_⟩
    rw [ec]
    generalize hH1 : upd H c (.lst ((ns.take 63).map V.int)) = H1 at s1 he ⊢
    have s2 : Same H1 (upd H1 e (.lst ((ns.take 63).map V.int))) := Same.new he
    refine ⟨e, _, rfl, .of upd_same, by show 5 ≤ sizeLine; decide, fun d hd => ?_⟩
    generalize hH2 : upd H1 e (.lst ((ns.take 63).map V.int)) = H2 at s2 hd ⊢
    have hc1 : H1 c = some (.lst ((ns.take 63).map V.int)) := by rw [← hH1]; exact upd_same
    have s3 : Same H2 (upd H2 d (.lst [.ref c, .int 0, .int 0, .int 0, .int (ns.take 63).sum])) := Same.new hd
    refine q _ d c (s1.trans (s2.trans s3)) (s1.free (s2.free hd)) hc ⟨ns.take 63, 0, 0, 0, (ns.take 63).sum, upd_same, s3 _ _ (s2 _ _ hc1), ?_⟩
    omega

/-! ### _law_next -/
def sp__law_next (K : PySem.W.Frag) : Sp := fun vs H Q _ => ∃ (d : Addr) (many : Int) (c : Addr) (n : Nat), vs = [.ref d, .int many] ∧ Deck H d c n ∧ n < 2 ^ 40 ∧ 0 < many ∧ many < 2 ^ 200 ∧
  ∀ H' (r : Int), But d H H' → Deck H' d c (n + 1) → 0 ≤ r → r < many → Q (.int r) H'
theorem ok__law_next (T : Txt K mg) : FnOk P w K mg base CX0 2 T.f__law_next T.fd__law_next ["deck", "many"] (sp__law_next K) := by
  refine T.F__law_next.ok sc__law_next (fun vs H Q E h => ?_) (fun cdv A outer s H vs Q E hr h => ?_)
  · obtain ⟨_, _, _, _, rfl, _⟩ := h
    rfl
  · obtain ⟨d, many, c, n, rfl, hD, hn, h0, h9, q⟩ := h
    have hcd := hD.ne
    obtain ⟨ns, i, l, m, t, eD, eC, i0, i1, m0, m1⟩ := hD.ex
    have hw : ∀ x : Int, CDivW x many := fun x => divW 200 h0 h9
    have r0 : ∀ x : Int, 0 ≤ x % many := fun x => Int.emod_nonneg _ (by omega)
    have r1 : ∀ x : Int, x % many < many := fun x => Int.emod_lt_of_pos _ h0
    refine ⟨_, (C8.pss_cut (ps_if (PW.pt (pw_and (pt_cmpR op_eq (pe_ix ix_list (pv 0) pe_int (fun _ _ => rfl)) pe_int (nomark _)) (pw_and1 (pt_cmpR op_lt (pe_ix ix_list (pv 0) pe_int (fun _ _ => rfl)) (pe_callB (id := "len") call_len_seq (by rfl) T.m_len (by decide +kernel) (pa_cons (pe_ix ix_list (pv 0) pe_int (fun _ _ => rfl)) pa_nil)) (nomark _))))) (pss_cons (ps_set (i := 2) sc__law_next.nd rfl (Or.inl rfl) (pe_ix ix_list (pe_ix ix_list (pv 0) pe_int (fun _ _ => rfl)) (pe_ix ix_list (pv 0) pe_int (fun _ _ => rfl)) (fun _ _ => rfl)))
      (pss_cons (ps_asg (pe_op op_add (pe_ix ix_list (pv 0) pe_int (fun _ _ => rfl)) pe_int) (pg_sub (pv 0) pe_int set_list))
      (pss_cons (ps_if (pt_cmpR op_lt (pv 2) (pe_op op_pow pe_int pe_int) (nomark _)) (pss_one (ps_ret (pe_op op_mod (pe_call (ok__law_mix T) hr (by rfl) T.g__law_mix T.F__law_mix.kp T.b__law_mix .nil pass0 (pa_cons (pv 2) (pa_cons (pe_ix ix_list (pv 0) pe_int (fun _ _ => rfl)) pa_nil))) (pv 1)))) pss_nil)
      (pss_one (ps_asg (pv 2) (pg_sub (pv 0) pe_int set_list)))))) pss_nil)
      (pss_cons (ps_if (pt_cmpR op_gt (pe_ix ix_list (pv 0) pe_int (fun _ _ => rfl)) pe_int (nomark _)) (pss_cons (ps_set (i := 3) sc__law_next.nd rfl (Or.inl rfl) (pe_op op_mod (pe_ix ix_list (pv 0) pe_int (fun _ _ => rfl)) (pv 1)))
      (pss_cons (ps_asg (pe_op op_fdivW (pe_ix ix_list (pv 0) pe_int (fun _ _ => rfl)) (pv 1)) (pg_sub (pv 0) pe_int set_list))
      (pss_one (ps_ret (pv 3))))) pss_nil)
      (pss_cons (ps_asg (pe_op op_add (pe_ix ix_list (pv 0) pe_int (fun _ _ => rfl)) pe_int) (pg_sub (pv 0) pe_int set_list))
      (pss_one (ps_ret (pe_op op_mod (pe_call (ok__law_mix T) hr (by rfl) T.g__law_mix T.F__law_mix.kp T.b__law_mix .nil pass0 (pa_cons (pe_ix ix_list (pv 0) pe_int (fun _ _ => rfl)) (pa_cons (pe_op op_add (pe_ix ix_list (pv 0) pe_int (fun _ _ => rfl)) pe_int) pa_nil))) (pv 1))))))), ?_⟩
    refine ⟨fun σ' H1 => ∃ i' l' y, σ' = [some (.ref d), some (.int many), y, none] ∧ But d H H1 ∧ H1 d = some (.lst [.ref c, .int i', .int l', .int m, .int t]) ∧ H1 c = some (.lst (ns.map V.int)) ∧ 0 ≤ i' ∧ i' ≤ i + 1, ?_, ?_⟩
    · -- deck[2] == 0 and deck[1] < len(deck[0])
      refine ⟨_, rfl, d, _, 2, .int l, rfl, rfl, .of eD, atI_nat (j := 2) rfl, rfl, _, rfl, ite2 (fun e => ?_) (fun e => ?_)⟩
      · refine ⟨_, rfl, d, _, 1, .int i, rfl, rfl, .of eD, atI_nat (j := 1) rfl, _, rfl, d, _, 0, .ref c, rfl, rfl, .of eD, atI_nat (j := 0) rfl, c, _, rfl, .inl (.of eC), _, _, rfl, rfl, _, rfl, ite2 (fun e2 => ?_) (fun e2 => ?_)⟩
        · -- cell = deck[0][deck[1]]
          have e3 : i < (ns.length : Int) := by
            have z := of_decide_eq_true e2
            rw [List.length_map] at z
            exact z
          have hi : i.toNat < ns.length := by omega
          have ci : atI (ns.map V.int) i = some (.int ns[i.toNat]) := by
            have z : (ns.map V.int)[i.toNat]? = some (.int ns[i.toNat]) := by
              rw [List.getElem?_map, List.getElem?_eq_getElem hi]
              rfl
            have y := atI_nat z
            rw [show ((i.toNat : Nat) : Int) = i by omega] at y
            exact y
          generalize ns[i.toNat] = cell at ci
          refine ⟨_, rfl, d, _, 0, .ref c, rfl, rfl, .of eD, atI_nat (j := 0) rfl, _, rfl, d, _, 1, .int i, rfl, rfl, .of eD, atI_nat (j := 1) rfl, c, _, i, .int cell, rfl, rfl, .of eC, ci, ?_⟩
          -- deck[1] = deck[1] + 1
          refine ⟨_, rfl, d, _, 1, .int i, rfl, rfl, .of eD, atI_nat (j := 1) rfl, _, _, rfl, rfl, _, rfl, d, _, 1, 1, rfl, rfl, eD, rfl, ?_⟩
          have b1 : But d H (upd H d (.lst [.ref c, .int (i + 1), .int l, .int m, .int t])) := But.set
          have d1 : (upd H d (.lst [.ref c, .int (i + 1), .int l, .int m, .int t])) d = some (.lst [.ref c, .int (i + 1), .int l, .int m, .int t]) := upd_same
          have c1 : (upd H d (.lst [.ref c, .int (i + 1), .int l, .int m, .int t])) c = some (.lst (ns.map V.int)) := by rw [upd_ne hcd]; exact eC
          -- if cell < 10 ** 18
          refine ⟨_, rfl, 10, 18, rfl, rfl, ⟨by decide, by decide, by decide⟩, _, _, rfl, rfl, _, rfl, ite2 (fun e4 => ?_) (fun e4 => ?_)⟩
          · refine ⟨_, rfl, _, rfl, d, _, 1, .int (i + 1), rfl, rfl, .of d1, atI_nat (j := 1) rfl, cell, i + 1, rfl, by omega, by omega, fun r => ?_⟩
            exact ⟨_, rfl, _, _, rfl, rfl, h0, q _ _ b1 ⟨ns, i + 1, l, m, t, d1, c1, by omega, by omega, m0, by omega⟩ (r0 _) (r1 _)⟩
          · refine ⟨_, rfl, _, rfl, d, _, 2, 2, rfl, rfl, d1, rfl, ?_⟩
            refine ⟨i + 1, cell, some (.int cell), rfl, b1.trans But.set, upd_same, ?_, by omega, by omega⟩
            rw [upd_ne hcd]
            exact c1
        · exact ⟨i, l, none, rfl, But.refl _ _, eD, eC, i0, by omega⟩
      · exact ⟨i, l, none, rfl, But.refl _ _, eD, eC, i0, by omega⟩
    · -- if deck[2] > 0
      rintro σ' H1 ⟨i', l', y, rfl, b1, d1, c1, j0, j1⟩
      refine ⟨_, rfl, d, _, 2, .int l', rfl, rfl, .of d1, atI_nat (j := 2) rfl, _, _, rfl, rfl, _, rfl, ite2 (fun e => ?_) (fun e => ?_)⟩
      · refine ⟨_, rfl, d, _, 2, .int l', rfl, rfl, .of d1, atI_nat (j := 2) rfl, _, rfl, _, _, rfl, rfl, h0, ?_⟩
        refine ⟨_, rfl, d, _, 2, .int l', rfl, rfl, .of d1, atI_nat (j := 2) rfl, _, rfl, _, _, rfl, rfl, hw _, _, rfl, d, _, 2, 2, rfl, rfl, d1, rfl, ?_⟩
        refine ⟨_, rfl, q _ _ (b1.trans But.set) ⟨ns, i', l' / many, m, t, upd_same, ?_, j0, by omega, m0, by omega⟩ (r0 _) (r1 _)⟩
        rw [upd_ne hcd]
        exact c1
      · refine ⟨_, rfl, d, _, 3, .int m, rfl, rfl, .of d1, atI_nat (j := 3) rfl, _, _, rfl, rfl, _, rfl, d, _, 3, 3, rfl, rfl, d1, rfl, ?_⟩
        have d2 : (upd H1 d (.lst [.ref c, .int i', .int l', .int (m + 1), .int t])) d = some (.lst [.ref c, .int i', .int l', .int (m + 1), .int t]) := upd_same
        have c2 : (upd H1 d (.lst [.ref c, .int i', .int l', .int (m + 1), .int t])) c = some (.lst (ns.map V.int)) := by rw [upd_ne hcd]; exact c1
        refine ⟨_, rfl, d, _, 4, .int t, rfl, rfl, .of d2, atI_nat (j := 4) rfl, _, rfl, d, _, 3, .int (m + 1), rfl, rfl, .of d2, atI_nat (j := 3) rfl, _, _, rfl, rfl, t, _, rfl, by omega, by omega, fun r => ?_⟩
        exact ⟨_, rfl, _, _, rfl, rfl, h0, q _ _ (b1.trans But.set) ⟨ns, i', l', m + 1, t, d2, c2, j0, by omega, by omega, by omega⟩ (r0 _) (r1 _)⟩

/-! ### _law_power -/
def sp__law_power (K : PySem.W.Frag) : Sp := fun vs H Q _ => ∃ f p : Int, vs = [.int f, .int p] ∧ 0 ≤ p ∧ p < 2 ^ 62 ∧ -(2 ^ 64) < f ∧ f < 2 ^ 64 ∧ Q (.int (f ^ p.toNat)) H
theorem ok__law_power (T : Txt K mg) : FnOk P w K mg base CX0 1 T.f__law_power T.fd__law_power ["number", "often"] (sp__law_power K) := by
  refine T.F__law_power.ok sc__law_power (fun vs H Q E h => ?_) (fun cdv A outer s H vs Q E hr h => ?_)
  · obtain ⟨_, _, rfl, _⟩ := h
    rfl
  · obtain ⟨f, p, rfl, h0, h1, h2, h3, q⟩ := h
    refine ⟨_, (pss_cons (ps_set (i := 2) sc__law_power.nd rfl (Or.inl rfl) pe_int)
      (pss_cons (ps_for PassesOwn.never rfl (pi_range1 (by rfl) T.m_range (pa_cons (pv 1) pa_nil)) (pg_name (i := 3) sc__law_power.nd rfl (Or.inl rfl)) (pss_one (ps_set (i := 2) sc__law_power.nd rfl (Or.inl rfl) (pe_op op_mul (pv 2) (pv 0)))))
      (pss_one (ps_ret (pv 2))))), ?_⟩
    refine ⟨_, rfl, _, rfl, by omega, by omega, for_range (lo := 0) (n := p.toNat) (fun i σ' H' => H' = H ∧ ∃ y, σ' = [some (.int f), some (.int p), some (.int (f ^ i)), y]) ⟨rfl, none, by rw [Int.pow_zero]; rfl⟩ ?_ ?_⟩
    · rintro i σ' H' hi ⟨rfl, y, rfl⟩
      refine ⟨_, rfl, _, rfl, _, _, rfl, rfl, .inr ⟨h2, h3⟩, rfl, some (.int (0 + i)), ?_⟩
      rw [Int.pow_succ]
      rfl
    · rintro σ' H' ⟨rfl, y, rfl⟩
      exact ⟨_, rfl, q⟩

/-! ### _law_told_right -/
theorem own_figs {b m x : Nat} (hb : 2 ≤ b) (m1 : 1 ≤ m) (h : x ∈ ownN b m) : (figs b x).length = m ∧ x < b ^ m ∧ stepN b m x = x := by
  obtain ⟨x1, x2, x3⟩ := own_lt (low_le hb) h
  refine ⟨?_, x2, x3⟩
  rw [figs_len]
  unfold lowOf at x1
  by_cases c : m = 1
  · subst c
    rw [lsd_lt (by rwa [Nat.pow_one] at x2)]
    rfl
  · rw [if_neg c] at x1
    have := lsd_len hb (m - 1) x (by rw [show m - 1 + 1 = m by omega]; exact x2) (.inr x1)
    omega
theorem castSum : ∀ l : List Nat, (l.map fun (k : Nat) => (k : Int)).sum = ((l.sum : Nat) : Int)
  | [] => rfl
  | a :: r => by
    rw [List.map_cons, List.sum_cons, List.sum_cons, castSum r, Int.natCast_add]
def sp__law_told_right (K : PySem.W.Frag) : Sp := fun vs H Q _ => ∃ (d c t : Addr) (n b m : Nat), vs = [.ref d, .int (b : Int), .int (m : Int), .ref t] ∧ Deck H d c n ∧ n < 2 ^ 38 ∧ 2 ≤ b ∧ b ≤ 16 ∧ 1 ≤ m ∧ m ≤ 6 ∧ t ≠ d ∧ H t = some (.tup (ivs (ownN b m))) ∧ ∀ H' n', But d H H' → Deck H' d c n' → n' ≤ n + 400 → Q (.bl true) H'
def W__law_told_right (x b m : Nat) (d c t F : Addr) (y6 : Option V) (H : Hp) (n0 : Nat) (k : Nat) (σ' : L2.St) (H' : Hp) : Prop := ∃ (ls : List Nat) (o n' : Nat), k = ls.length ∧ σ' = [some (.ref d), some (.int (b : Int)), some (.int (m : Int)), some (.ref t), some (.int (x : Int)), some (.ref F), y6, some (.int (o : Int))] ∧
  But d H H' ∧ Deck H' d c n' ∧ n' + ls.length ≤ n0 ∧ H' F = some (.lst (ivs ls)) ∧ (∀ f ∈ ls, f < b) ∧ stepN b m o + (ls.map (· ^ m)).sum = stepN b m x
theorem ok__law_told_right (T : Txt K mg) : FnOk P w K mg base CX0 3 T.f__law_told_right T.fd__law_told_right ["deck", "base", "many", "told"] (sp__law_told_right K) := by
  refine T.F__law_told_right.ok sc__law_told_right (fun vs H Q E h => ?_) (fun cdv A outer s H vs Q E hr h => ?_)
  · obtain ⟨_, _, _, _, _, _, rfl, _⟩ := h
    rfl
  · obtain ⟨d, c, t, n, b, m, rfl, hD, hn, hb, hb16, m1, m6, td, et, q⟩ := h
    have l64 := few hb hb16 m1 m6
    refine ⟨_, (pss_cons (ps_if (pt_cmpR (op_neD hr.units) (pe_callTy (T := "list") call_list_of (by rfl) T.m_list (by decide +kernel) (pa_cons (pv 3) pa_nil)) (pe_callB (id := "sorted") (cr_sortedSet rfl) (by rfl) T.m_sorted (by decide +kernel) (pa_cons (pe_callTy (T := "set") (cr_setT rfl) (by rfl) T.m_set (by decide +kernel) (pa_cons (pv 3) pa_nil)) pa_nil)) (nomark _)) (pss_one (ps_ret pe_bl)) pss_nil)
      (pss_cons (ps_for PassesOwn.never rfl (pi_tup (pv 3)) (pg_name (i := 4) sc__law_told_right.nd rfl (Or.inl rfl)) (pss_cons (ps_set (i := 5) sc__law_told_right.nd rfl (Or.inl rfl) (pe_callTy (T := "list") call_list_of (by rfl) T.m_list (by decide +kernel) (pa_cons (pe_call (ok_figures_of T) (hr.mono (by decide)) (by rfl) T.g_figures_of T.F_figures_of.kp T.b_figures_of .nil pass0 (pa_cons (pv 4) (pa_cons (pv 1) pa_nil))) pa_nil)))
      (pss_cons (ps_if (PW.pt (pw_or (pt_cmpR op_ne (pe_callB (id := "len") call_len_seq (by rfl) T.m_len (by decide +kernel) (pa_cons (pv 5) pa_nil)) (pv 2) (nomark _)) (pw_or1 (pt_cmpR op_ne (pe_callB (id := "sum") (cr_sum rfl) (by rfl) T.m_sum (by decide +kernel) (pa_cons (pe_lc (own := [("figure", 6)]) (g := (gName 6)) (tt := tYes) rfl sc__law_told_right.nd (pi_list (pv 5)) (blkOk_by (own := [("figure", 6)]) (N := ["deck", "base", "many", "told", "number", "figures", "figure", "other"]) (sc := defScope s__law_told_right) (by decide +kernel)) (fun _ _ _ _ _ => (pg_name (i := 6) sc__law_told_right.nd rfl (Or.inl rfl))) (fun _ _ _ _ _ => pts_nil) (fun _ _ _ _ _ => (pe_call (ok__law_power T) (hr.mono (by decide)) (by rfl) T.g__law_power T.F__law_power.kp T.b__law_power .nil pass0 (pa_cons (pv 6) (pa_cons (pv 2) pa_nil))))) pa_nil)) (pv 4) (nomark _))))) (pss_one (ps_ret pe_bl)) pss_nil)
      (pss_cons (ps_set (i := 7) sc__law_told_right.nd rfl (Or.inl rfl) pe_int)
      (pss_cons (ps_while PassesOwn.never (pt_cmpR (op_neD hr.units) (pv 5) (pe_lst pa_nil) (nomark _)) (pss_one (ps_set (i := 7) sc__law_told_right.nd rfl (Or.inl rfl) (pe_op op_add (pe_op op_mul (pv 7) (pv 1)) (pe_bm PySem.F.plainAttrs_list PySem.F.slot_list_pop PySem.F.type_list_pop mt_popAt (pv 5) (pa_cons (pe_call (ok__law_next T) hr (by rfl) T.g__law_next T.F__law_next.kp T.b__law_next .nil pass0 (pa_cons (pv 0) (pa_cons (pe_callB (id := "len") call_len_seq (by rfl) T.m_len (by decide +kernel) (pa_cons (pv 5) pa_nil)) pa_nil))) pa_nil))))))
      (pss_one (ps_if (PW.pt (pw_and (pt_cmpR op_ne (pv 7) (pv 4) (nomark _)) (pw_and1 (pt_cmpR op_in_seq (pv 7) (pv 3) rfl)))) (pss_one (ps_ret pe_bl)) pss_nil)))))))
      (pss_one (ps_ret pe_bl)))), ?_⟩
    refine ⟨_, rfl, t, _, rfl, .inr (.of et), fun F1 h1 => ?_⟩
    generalize g1 : upd H F1 _ = H1
    obtain ⟨s1, t1⟩ := new_of g1 h1
    have et1 := s1 _ _ et
    have et1' := et1
    rw [ivs_map] at et1'
    refine ⟨_, rfl, t, _, rfl, .of et1', by rw [List.length_map]; omega, fun S k hS kn => ?_⟩
    rw [List.length_map] at kn
    generalize g2 : upd H1 S _ = H2
    obtain ⟨s2, t2⟩ := new_of g2 hS
    refine ⟨S, _, k, rfl, t2, by omega, fun ns' p' srt mem _ hp => ?_⟩
    generalize g3 : upd H2 p' _ = H3
    obtain ⟨s3, t3⟩ := new_of g3 hp
    have pwl : ((ownN b m).map fun (k : Nat) => (k : Int)).Pairwise (· < ·) := by
      rw [List.pairwise_map]
      exact (own_sorted b m).imp fun h => by omega
    have pm : ns'.Perm ((ownN b m).map fun (k : Nat) => (k : Int)) := (List.perm_ext_iff_of_nodup (srt.imp fun h => Int.ne_of_lt h) (pwl.imp fun h => Int.ne_of_lt h)).mpr fun x => by
      rw [mem x]
      exact decide_eq_true_iff
    obtain rfl : ns' = (ownN b m).map fun (k : Nat) => (k : Int) := List.Perm.eq_of_pairwise (le := (· ≤ ·)) (fun a b _ _ h1 h2 => Int.le_antisymm h1 h2) (srt.imp fun h => Int.le_of_lt h) (pwl.imp fun h => Int.le_of_lt h) pm
    refine ⟨_, _, .lst (.of (s3 _ _ (s2 _ _ t1))) (dpAll_ivs _), .lst (.of t3) (dpAll_ints _), shaped_ints _, shaped_ints _, false, by rw [eqv_same (shaped_ints _)]; rfl, iteF ?_⟩
    have s03 := s1.trans (s2.trans s3)
    refine ⟨_, rfl, t, rfl, ⟨_, .of (s03 _ _ et)⟩, for_tup (xs := ivs (ownN b m)) (fun i σ' H' => But d H H' ∧ (∃ n', Deck H' d c n' ∧ n' ≤ n + 6 * i) ∧ ∃ y4 y5 y6 y7 : Option V, σ' = [some (.ref d), some (.int (b : Int)), some (.int (m : Int)), some (.ref t), y4, y5, y6, y7]) ⟨.of s03, ⟨n, hD.same s03, by omega⟩, none, none, none, none, rfl⟩ ?_ ?_ ?_⟩
    · rintro i σ' H' hi ⟨z, _⟩
      exact .of (z _ _ td et)
    · rintro i v σ' H4 hv ⟨b4, ⟨n4, D4, l4⟩, y4, y5, y6, y7, rfl⟩
      obtain ⟨x, hx, rfl⟩ := ivs_get hv
      have il := (List.getElem?_eq_some_iff.mp hx).1
      obtain ⟨fl, xb, xs⟩ := own_figs hb m1 (List.mem_of_getElem? hx)
      have x9 : x < 2 ^ 900 := by
        have h1 : b ^ m ≤ 16 ^ m := Nat.pow_le_pow_left hb16 m
        have h2 : (16 : Nat) ^ m ≤ 16 ^ 6 := Nat.pow_le_pow_right (by decide) m6
        have h3 : (2 : Nat) ^ 24 ≤ 2 ^ 900 := Nat.pow_le_pow_right (by decide) (by decide)
        omega
      refine ⟨_, rfl, _, rfl, x, b, rfl, hb, hb16, x9, fun H5 f s5 n5 e5 => ⟨f, _, rfl, .inr (.of e5), fun F hF => ?_⟩⟩
      generalize g6 : upd H5 F _ = H6
      obtain ⟨s6, t6⟩ := new_of g6 hF
      have s46 := s5.trans s6
      have oF := (D4.same s5).out hF
      refine ⟨_, rfl, F, _, rfl, .inl (.of t6), _, rfl, rfl, false, by rw [ivs_length, fl, decide_eq_true rfl]; rfl, iteF ?_⟩
      refine ⟨_, rfl, F, rfl, ⟨_, .of t6⟩, fun Dc hDc => lc_list (xs := ivs (figs b x)) (fun i H' => Same H6 H' ∧ H' Dc = some (.lst (ivs (((figs b x).take i).map (· ^ m))))) ⟨Same.new hDc, upd_same⟩ ?_ ?_ ?_⟩
      · rintro i H' hi ⟨z, _⟩
        exact .of (z _ _ t6)
      · rintro i y H' hy ⟨z, e⟩
        obtain ⟨g, hg, rfl⟩ := ivs_get hy
        have gb := figs_below hb (List.mem_of_getElem? hg)
        refine ⟨rfl, _, rfl, _, rfl, (g : Int), (m : Int), rfl, by omega, by omega, by omega, by omega, _, e, small_len (by rw [ivs_length, List.length_map, List.length_take]; omega), same_own z hDc, ?_⟩
        rw [upd_same, List.take_add_one, hg, List.map_append, ivs_append, Int.toNat_natCast, ← Int.natCast_pow]
        rfl
      rintro H7 ⟨s7, e7⟩
      rw [ivs_length, List.take_length, ivs_map] at e7
      have es : (((figs b x).map (· ^ m)).map fun (k : Nat) => (k : Int)).sum = (x : Int) := by
        rw [castSum]
        show ((stepN b m x : Nat) : Int) = x
        rw [xs]
      refine ⟨Dc, _, rfl, .of e7, _, rfl, rfl, _, rfl, ite2 (fun c => absurd c (by rw [es, decide_eq_true rfl]; exact Bool.false_ne_true)) (fun _ => ?_)⟩
      have s47 := s46.trans s7
      have F0 : H4 F = none := s5.free hF
      have oc := oF
      refine ⟨W__law_told_right x b m d c t F y6 H4 (n4 + m), ⟨_, figs b x, 0, n4, rfl, rfl, .of s47, D4.same s47, by rw [fl]; omega, s7 _ _ t6, fun g hg => figs_below hb hg, ?_⟩, ?_⟩
      · rw [stepN_zero hb m1, Nat.zero_add]
        rfl
      rintro k σ' H8 ⟨ls, o, n8, rfl, rfl, b8, D8, l8, e8, bel, sum⟩
      refine ⟨_, rfl, Nat.zero_le _, fun z hz => ?_⟩
      generalize g9 : upd H8 z _ = H9
      obtain ⟨s9, t9⟩ := new_of g9 hz
      refine ⟨_, _, .lst (.of (s9 _ _ e8)) (dpAll_ivs _), .lst (.of t9) .nil, shaped_ints _, shaped_ints [], _, rfl, ?_⟩
      have eqe : PyData.eqv (.list (dInts (ls.map fun (k : Nat) => (k : Int)))) (.list []) = decide (ls = []) := by
        rw [show ([] : List PyData) = dInts [] from rfl, eqv_ints]
        cases ls <;> rfl
      rw [eqe]
      have D9 := D8.same s9
      have e9 := s9 _ _ e8
      by_cases cc : ls = []
      · subst cc
        rw [show decide (([] : List Nat) = []) = true from rfl]
        refine iteF ?_
        rw [List.map_nil, List.sum_nil, Nat.add_zero, xs] at sum
        have b9 : But d H4 H9 := b8.trans (.of s9)
        have et9 := (b4.trans b9) _ _ td et
        have fin : But d H H9 ∧ (∃ n', Deck H9 d c n' ∧ n' ≤ n + 6 * (i + 1)) := ⟨b4.trans b9, n8, D9, by have : ([] : List Nat).length = 0 := rfl; omega⟩
        refine ⟨_, rfl, _, rfl, rfl, _, rfl, ite2 (fun c1 => ?_) (fun _ => ⟨fin.1, fin.2, _, _, _, _, rfl⟩)⟩
        have no : o ∉ ownN b m := fun h => by
          have := (own_figs hb m1 h).2.2
          have e : o = x := by omega
          subst e
          rw [decide_eq_true rfl] at c1
          cases c1
        exact ⟨_, rfl, _, rfl, t, _, rfl, .inr (.of et9), rfl, flat_ivs _, false, by rw [inV_ivs, decide_eq_false no]; rfl, ite2 (fun c => nomatch c) (fun _ => ⟨fin.1, fin.2, _, _, _, _, rfl⟩)⟩
      · rw [decide_eq_false cc]
        refine iteT ⟨Nx (W__law_told_right x b m d c t F y6 H4 (n4 + m)) ls.length, Nx.id, ?_⟩
        have l0 : 0 < ls.length := List.length_pos_iff.mpr cc
        refine ⟨_, rfl, _, rfl, _, _, rfl, rfl, .inr ⟨by omega, by omega⟩, _, rfl, .inl ⟨rfl, _, .of e9⟩, _, rfl, _, rfl, F, _, rfl, .inl (.of e9), d, _, c, n8, rfl, D9, by omega, by rw [ivs_length]; omega, by rw [ivs_length]; omega, fun Ha r ba Da r0 r1 => ?_⟩
        rw [ivs_length] at r1
        have eFa := ba _ _ oF.1 e9
        obtain ⟨j, rfl⟩ : ∃ j : Nat, r = (j : Int) := ⟨r.toNat, by omega⟩
        have hj : j < ls.length := by omega
        have ej : ls[j]? = some ls[j] := List.getElem?_eq_getElem hj
        generalize ls[j] = f' at ej
        have fb := bel f' (List.mem_of_getElem? ej)
        refine ⟨F, ivs ls, (j : Int), j, _, rfl, rfl, eFa, by omega, by omega, by rw [ivs_length]; exact seq_of hj, ivs_at ej, ?_⟩
        rw [ivs_erase]
        have ll := List.length_eraseIdx_of_lt hj
        refine ⟨_, _, rfl, rfl, (ls.eraseIdx j).length, by omega, ls.eraseIdx j, o * b + f', n8 + 1, rfl, ?_, ((b8.trans (.of s9)).trans ba).own F0, Da.off oF.1 oF.2, by omega, upd_same, fun g hg => bel g (List.mem_of_mem_eraseIdx hg), ?_⟩
        · rw [Int.natCast_add, Int.natCast_mul]
          rfl
        · have z1 : ((ls.eraseIdx j).map (· ^ m)).sum + f' ^ m = (ls.map (· ^ m)).sum := erase_sum (· ^ m) ej
          have z2 := stepN_push (p := m) (x := o) hb m1 fb
          omega
    · rintro σ' H4 ⟨b4, ⟨n4, D4, l4⟩, y4, y5, y6, y7, rfl⟩
      rw [ivs_length] at l4
      exact q _ n4 b4 D4 (by omega)

/-! ### law -/
def sp_law (K : PySem.W.Frag) : Sp := fun vs H Q _ => ∃ (a : Addr) (ns : List Int), vs = [.ref a] ∧ SqL K H a (ns.map V.int) ∧ ns.length ≤ 63 ∧ ∀ H', Q (.bl true) H'
theorem law_start {K : PySem.W.Frag} {H : Hp} {a : Addr} {ns : List Int} {E : XK} (hl : ns.length ≤ 63) (hS : SqL K H a (ns.map V.int)) : sp_law K [.ref a] H (fun v _ => v = .bl true) E := ⟨a, ns, rfl, hS, hl, fun _ => rfl⟩
theorem own_iff {b m x : Nat} (hb : 2 ≤ b) (m1 : 1 ≤ m) : x ∈ ownN b m ↔ stepN b m x = x ∧ (figs b x).length = m := by
  constructor
  · intro h
    obtain ⟨h1, h2, h3⟩ := own_figs hb m1 h
    exact ⟨h3, h1⟩
  · rintro ⟨h1, h2⟩
    have up := val_lt hb (figs b x) fun d hd => figs_below hb hd
    rw [val_figs hb, h2] at up
    unfold ownN
    refine List.mem_filter.mpr ⟨?_, decide_eq_true h1⟩
    rw [List.mem_range'_1]
    have lo : lowOf b m ≤ x := by
      unfold lowOf
      by_cases c : m = 1
      · rw [if_pos c]
        exact Nat.zero_le _
      · rw [if_neg c]
        have x1 : 1 ≤ x := by
          refine Nat.pos_of_ne_zero fun z => ?_
          subst z
          rw [figs_len, lsd_lt (by omega)] at h2
          exact c h2.symm
        have := len_pow hb x x1
        rwa [h2] at this
    omega
theorem alone_iff {b p m k : Nat} (rn : Rnd b p m k) : k = 1 ↔ stepN b p m = m := by
  constructor
  · rintro rfl
    exact rn.back
  · intro h
    exact rn.uniq ⟨by decide, h, fun i j hi hj _ => by omega, fun i => by
      have : itN b p m i = m := by
        induction i with
        | zero => rfl
        | succ i ih => rw [itN_succ, ih, h]
      omega⟩
theorem ok_law (T : Txt K mg) : FnOk P w K mg base CX0 6 T.f_law T.fd_law ["script"] (sp_law K) := by
  refine T.F_law.ok sc_law (fun vs H Q E h => ?_) (fun cdv A outer s H vs Q E hr h => ?_)
  · obtain ⟨_, _, rfl, _⟩ := h
    rfl
  · obtain ⟨a, ns, rfl, hS, hl, q⟩ := h
    refine ⟨_, (pss_cons (ps_set (i := 1) sc_law.nd rfl (Or.inl rfl) (pe_call (ok__law_deck T) (hr.mono (by decide)) (by rfl) T.g__law_deck T.F__law_deck.kp T.b__law_deck .nil pass0 (pa_cons (pv 0) pa_nil)))
      (pss_cons (ps_for PassesOwn.never rfl (pi_range1 (by rfl) T.m_range (pa_cons pe_int pa_nil)) (pg_name (i := 2) sc_law.nd rfl (Or.inl rfl)) (pss_cons (ps_set (i := 3) sc_law.nd rfl (Or.inr rfl) (pe_op op_add pe_int (pe_call (ok__law_next T) (hr.mono (by decide)) (by rfl) T.g__law_next T.F__law_next.kp T.b__law_next .nil pass0 (pa_cons (pv 1) (pa_cons pe_int pa_nil)))))
      (pss_cons (ps_set (i := 4) sc_law.nd rfl (Or.inr rfl) (pe_op op_add pe_int (pe_call (ok__law_next T) (hr.mono (by decide)) (by rfl) T.g__law_next T.F__law_next.kp T.b__law_next .nil pass0 (pa_cons (pv 1) (pa_cons (pe_ix ix_list (pe_lst (pa_cons pe_int (pa_cons pe_int (pa_cons pe_int pa_nil)))) (pv 2) (fun _ _ => rfl)) pa_nil)))))
      (pss_cons (ps_set (i := 5) sc_law.nd rfl (Or.inl rfl) (pe_call (ok_own_numbers T) (hr.mono (by decide)) (by rfl) T.g_own_numbers T.F_own_numbers.kp T.b_own_numbers .nil pass0 (pa_cons (pv 3) (pa_cons (pv 4) pa_nil))))
      (pss_cons (ps_if (pt_not (pt_val (pe_call (ok__law_told_right T) (hr.mono (by decide)) (by rfl) T.g__law_told_right T.F__law_told_right.kp T.b__law_told_right .nil pass0 (pa_cons (pv 1) (pa_cons (pv 3) (pa_cons (pv 4) (pa_cons (pv 5) pa_nil))))))) (pss_one (ps_ret pe_bl)) pss_nil)
      (pss_one (ps_if (pt_cmpR op_le (pe_call (ok__law_power T) (hr.mono (by decide)) (by rfl) T.g__law_power T.F__law_power.kp T.b__law_power .nil pass0 (pa_cons (pe_op op_sub (pv 3) pe_int) (pa_cons (pv 4) pa_nil))) pe_int (nomark _)) (pss_cons (ps_if (pt_cmpR (op_neD hr.units) (pe_lc (own := [("number", 6)]) (g := (gName 6)) rfl sc_law.nd (pi_tup (pv 5)) (blkOk_by (own := [("number", 6)]) (N := ["script", "deck", "turn", "base", "many", "told", "number", "alone", "one"]) (sc := defScope s_law) (by decide +kernel)) (fun _ _ _ _ _ => (pg_name (i := 6) sc_law.nd rfl (Or.inl rfl))) (fun _ _ _ _ _ => pts_one (pt_cmpR op_ne (pe_call (ok_step_of T) (hr.mono (by decide)) (by rfl) T.g_step_of T.F_step_of.kp T.b_step_of .nil pass0 (pa_cons (pv 6) (pa_cons (pv 3) (pa_cons (pv 4) pa_nil)))) (pv 6) (nomark _))) (fun _ _ _ _ _ => (pv 6))) (pe_lst pa_nil) (nomark _)) (pss_one (ps_ret pe_bl)) pss_nil)
      (pss_cons (ps_setLc (i := 7) (own := [("one", 8)]) (g := (gName 8)) rfl sc_law.nd rfl rfl (sw_true rfl rfl rfl (by decide +kernel)) (pi_tup (pe_call (ok_rounds_of T) hr (by rfl) T.g_rounds_of T.F_rounds_of.kp T.b_rounds_of .nil pass0 (pa_cons (pv 3) (pa_cons (pv 4) pa_nil)))) (blkOk_by (own := [("one", 8)]) (N := ["script", "deck", "turn", "base", "many", "told", "number", "alone", "one"]) (sc := defScope s_law) (by decide +kernel)) (fun _ _ _ _ _ => (pg_name (i := 8) sc_law.nd rfl (Or.inl rfl))) (fun _ _ _ _ _ => pts_one (pt_cmpR op_eq (pe_callB (id := "len") (show CallR _ (.builtin "len") (rLenQ K) from call_len_seq) (by rfl) T.m_len (by decide +kernel) (pa_cons (pv 8) pa_nil)) pe_int (nomark _))) (fun _ _ _ _ _ => (pe_ix (show IxR _ (rIxT K) from ix_tup) (pv 8) pe_int (fun _ _ => rfl))))
      (pss_one (ps_if (pt_cmpR (op_neD hr.units) (pe_lc (own := [("number", 6)]) (g := (gName 6)) rfl sc_law.nd (pi_list (pv 7)) (blkOk_by (own := [("number", 6)]) (N := ["script", "deck", "turn", "base", "many", "told", "number", "alone", "one"]) (sc := defScope s_law) (by decide +kernel)) (fun _ _ _ _ _ => (pg_name (i := 6) sc_law.nd rfl (Or.inl rfl))) (fun _ _ _ _ _ => pts_one (pt_cmpR op_eq (pe_callB (id := "len") (show CallR _ (.builtin "len") (rLenQ K) from call_len_seq) (by rfl) T.m_len (by decide +kernel) (pa_cons (pe_call (ok_figures_of T) (hr.mono (by decide)) (by rfl) T.g_figures_of T.F_figures_of.kp T.b_figures_of .nil pass0 (pa_cons (pv 6) (pa_cons (pv 3) pa_nil))) pa_nil)) (pv 4) (nomark _))) (fun _ _ _ _ _ => (pv 6))) (pe_callTy (T := "list") call_list_of (by rfl) T.m_list (by decide +kernel) (pa_cons (pv 5) pa_nil)) (nomark _)) (pss_one (ps_ret pe_bl)) pss_nil)))) pss_nil)))))))
      (pss_one (ps_ret pe_bl)))), ?_⟩
    refine ⟨_, rfl, a, ns, rfl, hS, fun H1 d c s1 nd nc D1 => ?_⟩
    refine ⟨3, rfl, by decide, by decide, for_range (lo := 0) (n := 3) (fun i σ' H' => Deck H' d c (500 * i) ∧ ∃ y2 y3 y4 y5 y6 y7 y8, σ' = [some (.ref a), some (.ref d), y2, y3, y4, y5, y6, y7, y8]) ⟨D1, _, _, _, _, _, _, _, rfl⟩ ?_ ?_⟩
    · rintro i σ' H2 hi ⟨D2, y2, y3, y4, y5, y6, y7, y8, rfl⟩
      refine ⟨_, rfl, d, 15, c, _, rfl, D2, by omega, by decide, by decide, fun H3 r b3 D3 u3 v3 => ⟨_, _, rfl, rfl, ?_⟩⟩
      obtain ⟨b, eb, hb, hb16⟩ : ∃ b : Nat, 2 + r = (b : Int) ∧ 2 ≤ b ∧ b ≤ 16 := ⟨(2 + r).toNat, by omega, by omega, by omega⟩
      refine ⟨_, rfl, by show 3 ≤ sizeLine; decide, fun A hA => ?_⟩
      generalize g4 : upd H3 A _ = H4
      obtain ⟨s4, t4⟩ := new_of g4 hA
      obtain ⟨k, k1, k6, ek⟩ : ∃ k : Nat, 1 ≤ k ∧ k ≤ 6 ∧ atI [V.int 6, V.int 4, V.int 3] (0 + (i : Int)) = some (.int (k : Int)) := by
        have c3 : i = 0 ∨ i = 1 ∨ i = 2 := by omega
        rcases c3 with rfl | rfl | rfl
        · exact ⟨6, by decide, by decide, rfl⟩
        · exact ⟨4, by decide, by decide, rfl⟩
        · exact ⟨3, by decide, by decide, rfl⟩
      refine ⟨_, rfl, A, _, _, _, rfl, rfl, .of t4, ek, d, (k : Int), c, _, rfl, D3.same s4, by omega, by omega, by omega, fun H5 r5 b5 D5 u5 v5 => ⟨_, _, rfl, rfl, ?_⟩⟩
      obtain ⟨m, em, m1, m6⟩ : ∃ m : Nat, 1 + r5 = (m : Int) ∧ 1 ≤ m ∧ m ≤ 6 := ⟨(1 + r5).toNat, by omega, by omega, by omega⟩
      refine ⟨_, rfl, _, rfl, b, m, by rw [← eb, ← em]; rfl, hb, hb16, m1, m6, fun H6 t s6 nt et => ?_⟩
      have D6 := D5.same s6
      have td := D5.out nt
      refine ⟨_, rfl, _, rfl, _, rfl, _, rfl, d, c, t, _, b, m, by rw [← eb, ← em]; rfl, D6, by omega, hb, hb16, m1, m6, td.1, et, fun H7 n7 b7 D7 l7 => ⟨true, rfl, iteF ?_⟩⟩
      have et7 := b7 _ _ td.1 et
      refine ⟨_, rfl, _, _, rfl, rfl, _, rfl, 2 + r - 1, 1 + r5, rfl, by omega, by omega, by omega, by omega, _, _, rfl, rfl, _, rfl, ite2 (fun c1 => ?_) (fun _ => ⟨D7.mono (by omega), _, _, _, _, _, _, _, rfl⟩)⟩
      have c1' := of_decide_eq_true c1
      have ok : OkN b m := by
        refine okN_of hb hb16 m1 ((most_iff hb hb16 m1 (by omega)).mp ?_)
        rw [em, Int.toNat_natCast, show 2 + r - 1 = ((b - 1 : Nat) : Int) by omega, ← Int.natCast_pow] at c1'
        omega
      have ow9 : ∀ x, x ∈ ownN b m → x < 2 ^ 900 := fun x h => by
        have h1 := (own_figs hb m1 h).2.1
        have h2 : b ^ m ≤ 16 ^ m := Nat.pow_le_pow_left hb16 m
        have h3 : (16 : Nat) ^ m ≤ 16 ^ 6 := Nat.pow_le_pow_right (by decide) m6
        have h4 : (2 : Nat) ^ 24 ≤ 2 ^ 900 := Nat.pow_le_pow_right (by decide) (by decide)
        omega
      -- each its own step
      refine ⟨_, rfl, t, rfl, ⟨_, .of et7⟩, fun D hD => lc_tup (xs := ivs (ownN b m)) (fun i H' => Same H7 H' ∧ H' D = some (.lst [])) ⟨Same.new hD, upd_same⟩ ?_ ?_ ?_⟩
      · rintro i H' hi ⟨z, _⟩
        exact .of (z _ _ et7)
      · rintro i x H' hx ⟨z, e⟩
        obtain ⟨y, hy, rfl⟩ := ivs_get hx
        have own := List.mem_of_getElem? hy
        refine ⟨rfl, _, rfl, _, rfl, _, rfl, y, b, m, by rw [← eb, ← em]; rfl, hb, hb16, by omega, ow9 y own, fun H'' s'' => ⟨_, rfl, rfl, false, ?_, iteF ⟨z.trans s'', s'' _ _ e⟩⟩⟩
        rw [(own_figs hb m1 own).2.2, decide_eq_true rfl]
        rfl
      rintro H8 ⟨s8, e8⟩
      refine ⟨Nat.zero_le _, fun z hz => ?_⟩
      generalize g9 : upd H8 z _ = H9
      obtain ⟨s9, t9⟩ := new_of g9 hz
      refine ⟨.list [], .list [], .lst (.of (s9 _ _ e8)) .nil, .lst (.of t9) .nil, shaped_ints [], shaped_ints [], false, by rw [eqv_same (show SeqAt.shaped (.list []) = true from shaped_ints [])]; rfl, iteF ?_⟩
      have s79 := s8.trans s9
      -- rounds of one
      refine ⟨_, rfl, _, rfl, b, m, by rw [← eb, ← em]; rfl, ok, fun Ha R rs ms ks sa nR eR hR h9 => ?_⟩
      refine ⟨R, rfl, ⟨_, .of eR⟩, fun D hD => lc_tup (xs := rs) (fun i H' => Same Ha H' ∧ ∃ al : List Nat, H' D = some (.lst (ivs al)) ∧ al.length ≤ i ∧ al.Pairwise (· < ·) ∧ ∀ x, x ∈ al ↔ x ∈ ms.take i ∧ stepN b m x = x) ⟨Same.new hD, [], upd_same, Nat.le_refl _, List.Pairwise.nil, fun x => by simp⟩ ?_ ?_ ?_⟩
      · rintro i H' hi ⟨z, _⟩
        exact .of (z _ _ eR)
      · rintro i x H' hx ⟨z, al, e, la, srt, mem⟩
        obtain ⟨rr, mm, kk, rfl, hm, hk, er, rn⟩ := hR.get hx
        have il := (List.getElem?_eq_some_iff.mp hm).1
        have tk : ms.take (i + 1) = ms.take i ++ [mm] := by
          rw [List.take_add_one, hm]
          rfl
        have above : ∀ y ∈ ms.take i, y < mm := fun y hy => by
          obtain ⟨j, hj⟩ := List.mem_iff_getElem?.mp hy
          have jl := (List.getElem?_eq_some_iff.mp hj).1
          rw [List.length_take] at jl
          rw [List.getElem?_take_of_lt (by omega)] at hj
          obtain ⟨z1, z2⟩ := List.getElem?_eq_some_iff.mp hm
          obtain ⟨z3, z4⟩ := List.getElem?_eq_some_iff.mp hj
          have := List.pairwise_iff_getElem.mp hR.srt j i z3 z1 (by omega)
          omega
        have er' := z _ _ er
        refine ⟨rfl, _, rfl, rr, _, rfl, .inr (.of er'), rfl, _, rfl, ite2 (fun c2 => ?_) (fun c2 => ?_)⟩
        · have k1' : kk = 1 := by
            have := V.int.inj (of_decide_eq_true c2)
            rw [ivs_length, rowN_len] at this
            omega
          have st := (alone_iff rn).mp k1'
          refine ⟨_, rfl, rr, _, 0, _, rfl, rfl, .of er', atI_nat (ivs_at (rowN_get b m mm kk 0 rn.pos)), _, e, small_len (by rw [ivs_length]; omega), same_own z hD, al ++ [mm], ?_, by rw [List.length_append]; show _ + 1 ≤ _; omega, ?_, fun x => ?_⟩
          · rw [upd_same, ivs_append]
            rfl
          · rw [List.pairwise_append]
            exact ⟨srt, List.pairwise_singleton _ _, fun x hx y hy => by
              cases List.mem_singleton.mp hy
              exact above x ((mem x).mp hx).1⟩
          · rw [tk, List.mem_append, List.mem_append, List.mem_singleton, mem]
            constructor
            · rintro (⟨h1, h2⟩ | rfl)
              · exact ⟨.inl h1, h2⟩
              · exact ⟨.inr rfl, st⟩
            · rintro ⟨h1 | rfl, h2⟩
              · exact .inl ⟨h1, h2⟩
              · exact .inr rfl
        · have ns1 : stepN b m mm ≠ mm := fun h => c2 (by
            have := (alone_iff rn).mpr h
            rw [ivs_length, rowN_len, this]
            exact decide_eq_true rfl)
          refine ⟨z, al, e, by omega, srt, fun x => ?_⟩
          rw [tk, List.mem_append, List.mem_singleton, mem]
          constructor
          · rintro ⟨h1, h2⟩
            exact ⟨.inl h1, h2⟩
          · rintro ⟨h1 | rfl, h2⟩
            · exact ⟨h1, h2⟩
            · exact absurd h2 ns1
      rintro Hb ⟨sb, al, eA, la, srt, mem⟩
      rw [hR.l1, List.take_length] at mem
      rw [hR.l1] at la
      have alI : ∀ x, x ∈ al ↔ stepN b m x = x := fun x => by
        rw [mem, hR.all]
        constructor
        · exact fun h => h.2
        · intro h
          have r1 : Rnd b m x 1 := ⟨by decide, h, fun i j hi hj _ => by omega, fun i => by
            have : itN b m x i = x := by
              induction i with
              | zero => rfl
              | succ i ih => rw [itN_succ, ih, h]
            omega⟩
          exact ⟨r1.at0, h⟩
      have al9 : ∀ x ∈ al, x < 2 ^ 900 := fun x hx => by
        have h := ((mem x).mp hx).1
        have := (hR.all x).mp h
        exact lt200 (lt_of_bound (per_bound ok this.per))
      -- of so many figures
      refine ⟨_, rfl, _, rfl, ⟨_, .of eA⟩, fun D hD => lc_list (xs := ivs al) (fun i H' => Same Hb H' ∧ ∃ fl : List Nat, H' D = some (.lst (ivs fl)) ∧ fl.length ≤ i ∧ fl = (al.take i).filter fun x => decide ((figs b x).length = m)) ⟨Same.new hD, [], upd_same, Nat.le_refl _, by rw [List.take_zero]; rfl⟩ ?_ ?_ ?_⟩
      · rintro i H' hi ⟨z, _⟩
        exact .of (z _ _ eA)
      · rintro i x H' hx ⟨z, fl, e, lf, ef⟩
        obtain ⟨y, hy, rfl⟩ := ivs_get hx
        have il := (List.getElem?_eq_some_iff.mp hy).1
        have tk : (al.take (i + 1)).filter (fun x => decide ((figs b x).length = m)) = fl ++ if (figs b y).length = m then [y] else [] := by
          rw [List.take_add_one, hy, List.filter_append, ← ef]
          by_cases c : (figs b y).length = m
          · rw [if_pos c]
            show fl ++ List.filter _ [y] = _
            rw [List.filter_cons, if_pos (decide_eq_true c)]
            rfl
          · rw [if_neg c]
            show fl ++ List.filter _ [y] = _
            rw [List.filter_cons, if_neg (by rw [decide_eq_false c]; exact Bool.false_ne_true)]
            rfl
        refine ⟨rfl, _, rfl, _, rfl, y, b, by rw [← eb]; rfl, hb, hb16, al9 y (List.mem_of_getElem? hy), fun H'' f s'' nf ef' => ⟨f, _, rfl, .inr (.of ef'), _, rfl, rfl, _, rfl, ite2 (fun c2 => ?_) (fun c2 => ?_)⟩⟩
        · have k1' : (figs b y).length = m := by
            have := V.int.inj (of_decide_eq_true c2)
            rw [ivs_length] at this
            omega
          rw [if_pos k1'] at tk
          refine ⟨_, rfl, _, s'' _ _ e, small_len (by rw [ivs_length]; omega), same_own (z.trans s'') hD, fl ++ [y], ?_, by rw [List.length_append]; show _ + 1 ≤ _; omega, tk.symm⟩
          rw [upd_same, ivs_append]
          rfl
        · have k1' : (figs b y).length ≠ m := fun h => c2 (by
            rw [ivs_length, h]
            exact decide_eq_true (show V.int (m : Int) = V.int (1 + r5) by rw [em]))
          rw [if_neg k1', List.append_nil] at tk
          exact ⟨z.trans s'', fl, s'' _ _ e, by omega, tk.symm⟩
      rintro Hc ⟨sc, fl, eF, lf, ef⟩
      rw [ivs_length, List.take_length] at ef
      have isOwn' : fl = ownN b m := by
        refine sorted_ext ?_ (own_sorted b m) fun x => ?_
        · rw [ef]
          exact srt.filter _
        · rw [ef, List.mem_filter, alI, own_iff hb m1, decide_eq_true_iff]
      have s7c := s79.trans (sa.trans (sb.trans sc))
      refine ⟨_, rfl, t, _, rfl, .inr (.of (s7c _ _ et7)), fun L hL => ?_⟩
      generalize gd : upd Hc L _ = Hd
      obtain ⟨sd, td'⟩ := new_of gd hL
      refine ⟨_, _, .lst (.of (sd _ _ eF)) (dpAll_ivs _), .lst (.of td') (dpAll_ivs _), shaped_ints _, shaped_ints _, false, by rw [isOwn', eqv_same (shaped_ints _)]; rfl, iteF ?_⟩
      exact ⟨(D7.same (s7c.trans sd)).mono (by omega), _, _, _, _, _, _, _, rfl⟩
    · rintro σ' H2 ⟨D2, y2, y3, y4, y5, y6, y7, y8, rfl⟩
      exact q _

end
theorem all_mk {l : PySem.W.OpenLaw} {w : World} {K : PySem.W.Frag} {h : Heap} {mg : Str → Option Value} {fa f0 f1 f2 f3 f4 f5 f6 f7 f8 f9 f10 f11 f12 f13 f14 f15 f16 f17 f18 f19 : Addr} (X : K.In h) (G : h.Ns mainGlobals mg) (hfa : mg "law" = some (.ref fa))
    {od0 an0 od1 an1 od2 an2 od3 an3 od4 an4 od5 an5 od6 an6 od7 an7 od8 an8 od9 an9 od10 an10 od11 an11 od12 an12 od13 an13 od14 an14 od15 an15 od16 an16 od17 an17 od18 an18 od19 an19 : Option Addr} {sl0 sl1 sl2 sl3 sl4 sl5 sl6 sl7 sl8 sl9 sl10 sl11 sl12 sl13 sl14 sl15 sl16 sl17 sl18 sl19 : Array (Option Value)} {oc0 kV0 dc0 pm0 cd0 ct0 oc1 kV1 dc1 pm1 cd1 ct1 oc2 kV2 dc2 pm2 cd2 ct2 oc3 kV3 dc3 pm3 cd3 ct3 oc4 kV4 dc4 pm4 cd4 ct4 oc5 kV5 dc5 pm5 cd5 ct5 oc6 kV6 dc6 pm6 cd6 ct6 oc7 kV7 dc7 pm7 cd7 ct7 oc8 kV8 dc8 pm8 cd8 ct8 oc9 kV9 dc9 pm9 cd9 ct9 oc10 kV10 dc10 pm10 cd10 ct10 oc11 kV11 dc11 pm11 cd11 ct11 oc12 kV12 dc12 pm12 cd12 ct12 oc13 kV13 dc13 pm13 cd13 ct13 oc14 kV14 dc14 pm14 cd14 ct14 oc15 kV15 dc15 pm15 cd15 ct15 oc16 kV16 dc16 pm16 cd16 ct16 oc17 kV17 dc17 pm17 cd17 ct17 oc18 kV18 dc18 pm18 cd18 ct18 oc19 kV19 dc19 pm19 cd19 ct19 : Value}
    (a0 : PySem.W.nsIn K mainGlobals "figures_of" = some (some (.ref f0))) (l0 : K.lookup f0 = some ⟨oc0, od0, .func (PySem.W.fnOf "figures_of" "figures_of" (defArgs s_figures_of) (defBody s_figures_of) (defScope s_figures_of) .none kV0 dc0 pm0 an0 cd0 ct0), sl0⟩) (c0 : PySem.W.codeIn K cd0 "figures_of" = true) (k0 : PySem.W.keepIn K (.ref f0) = true)
    (a1 : PySem.W.nsIn K mainGlobals "power_of" = some (some (.ref f1))) (l1 : K.lookup f1 = some ⟨oc1, od1, .func (PySem.W.fnOf "power_of" "power_of" (defArgs s_power_of) (defBody s_power_of) (defScope s_power_of) .none kV1 dc1 pm1 an1 cd1 ct1), sl1⟩) (c1 : PySem.W.codeIn K cd1 "power_of" = true) (k1 : PySem.W.keepIn K (.ref f1) = true)
    (a2 : PySem.W.nsIn K mainGlobals "step_of" = some (some (.ref f2))) (l2 : K.lookup f2 = some ⟨oc2, od2, .func (PySem.W.fnOf "step_of" "step_of" (defArgs s_step_of) (defBody s_step_of) (defScope s_step_of) .none kV2 dc2 pm2 an2 cd2 ct2), sl2⟩) (c2 : PySem.W.codeIn K cd2 "step_of" = true) (k2 : PySem.W.keepIn K (.ref f2) = true)
    (a3 : PySem.W.nsIn K mainGlobals "backs_by_gain" = some (some (.ref f3))) (l3 : K.lookup f3 = some ⟨oc3, od3, .func (PySem.W.fnOf "backs_by_gain" "backs_by_gain" (defArgs s_backs_by_gain) (defBody s_backs_by_gain) (defScope s_backs_by_gain) .none kV3 dc3 pm3 an3 cd3 ct3), sl3⟩) (c3 : PySem.W.codeIn K cd3 "backs_by_gain" = true) (k3 : PySem.W.keepIn K (.ref f3) = true)
    (a4 : PySem.W.nsIn K mainGlobals "fronts_of" = some (some (.ref f4))) (l4 : K.lookup f4 = some ⟨oc4, od4, .func (PySem.W.fnOf "fronts_of" "fronts_of" (defArgs s_fronts_of) (defBody s_fronts_of) (defScope s_fronts_of) .none kV4 dc4 pm4 an4 cd4 ct4), sl4⟩) (c4 : PySem.W.codeIn K cd4 "fronts_of" = true) (k4 : PySem.W.keepIn K (.ref f4) = true)
    (a5 : PySem.W.nsIn K mainGlobals "own_numbers" = some (some (.ref f5))) (l5 : K.lookup f5 = some ⟨oc5, od5, .func (PySem.W.fnOf "own_numbers" "own_numbers" (defArgs s_own_numbers) (defBody s_own_numbers) (defScope s_own_numbers) .none kV5 dc5 pm5 an5 cd5 ct5), sl5⟩) (c5 : PySem.W.codeIn K cd5 "own_numbers" = true) (k5 : PySem.W.keepIn K (.ref f5) = true)
    (a6 : PySem.W.nsIn K mainGlobals "worths_of" = some (some (.ref f6))) (l6 : K.lookup f6 = some ⟨oc6, od6, .func (PySem.W.fnOf "worths_of" "worths_of" (defArgs s_worths_of) (defBody s_worths_of) (defScope s_worths_of) .none kV6 dc6 pm6 an6 cd6 ct6), sl6⟩) (c6 : PySem.W.codeIn K cd6 "worths_of" = true) (k6 : PySem.W.keepIn K (.ref f6) = true)
    (a7 : PySem.W.nsIn K mainGlobals "length_down" = some (some (.ref f7))) (l7 : K.lookup f7 = some ⟨oc7, od7, .func (PySem.W.fnOf "length_down" "length_down" (defArgs s_length_down) (defBody s_length_down) (defScope s_length_down) .none kV7 dc7 pm7 an7 cd7 ct7), sl7⟩) (c7 : PySem.W.codeIn K cd7 "length_down" = true) (k7 : PySem.W.keepIn K (.ref f7) = true)
    (a8 : PySem.W.nsIn K mainGlobals "steps_to" = some (some (.ref f8))) (l8 : K.lookup f8 = some ⟨oc8, od8, .func (PySem.W.fnOf "steps_to" "steps_to" (defArgs s_steps_to) (defBody s_steps_to) (defScope s_steps_to) .none kV8 dc8 pm8 an8 cd8 ct8), sl8⟩) (c8 : PySem.W.codeIn K cd8 "steps_to" = true) (k8 : PySem.W.keepIn K (.ref f8) = true)
    (a9 : PySem.W.nsIn K mainGlobals "add_ends" = some (some (.ref f9))) (l9 : K.lookup f9 = some ⟨oc9, od9, .func (PySem.W.fnOf "add_ends" "add_ends" (defArgs s_add_ends) (defBody s_add_ends) (defScope s_add_ends) .none kV9 dc9 pm9 an9 cd9 ct9), sl9⟩) (c9 : PySem.W.codeIn K cd9 "add_ends" = true) (k9 : PySem.W.keepIn K (.ref f9) = true)
    (a10 : PySem.W.nsIn K mainGlobals "ends_to" = some (some (.ref f10))) (l10 : K.lookup f10 = some ⟨oc10, od10, .func (PySem.W.fnOf "ends_to" "ends_to" (defArgs s_ends_to) (defBody s_ends_to) (defScope s_ends_to) .none kV10 dc10 pm10 an10 cd10 ct10), sl10⟩) (c10 : PySem.W.codeIn K cd10 "ends_to" = true) (k10 : PySem.W.keepIn K (.ref f10) = true)
    (a11 : PySem.W.nsIn K mainGlobals "leasts_to" = some (some (.ref f11))) (l11 : K.lookup f11 = some ⟨oc11, od11, .func (PySem.W.fnOf "leasts_to" "leasts_to" (defArgs s_leasts_to) (defBody s_leasts_to) (defScope s_leasts_to) .none kV11 dc11 pm11 an11 cd11 ct11), sl11⟩) (c11 : PySem.W.codeIn K cd11 "leasts_to" = true) (k11 : PySem.W.keepIn K (.ref f11) = true)
    (a12 : PySem.W.nsIn K mainGlobals "way_of" = some (some (.ref f12))) (l12 : K.lookup f12 = some ⟨oc12, od12, .func (PySem.W.fnOf "way_of" "way_of" (defArgs s_way_of) (defBody s_way_of) (defScope s_way_of) .none kV12 dc12 pm12 an12 cd12 ct12), sl12⟩) (c12 : PySem.W.codeIn K cd12 "way_of" = true) (k12 : PySem.W.keepIn K (.ref f12) = true)
    (a13 : PySem.W.nsIn K mainGlobals "rounds_of" = some (some (.ref f13))) (l13 : K.lookup f13 = some ⟨oc13, od13, .func (PySem.W.fnOf "rounds_of" "rounds_of" (defArgs s_rounds_of) (defBody s_rounds_of) (defScope s_rounds_of) .none kV13 dc13 pm13 an13 cd13 ct13), sl13⟩) (c13 : PySem.W.codeIn K cd13 "rounds_of" = true) (k13 : PySem.W.keepIn K (.ref f13) = true)
    (a14 : PySem.W.nsIn K mainGlobals "_law_mix" = some (some (.ref f14))) (l14 : K.lookup f14 = some ⟨oc14, od14, .func (PySem.W.fnOf "_law_mix" "_law_mix" (defArgs s__law_mix) (defBody s__law_mix) (defScope s__law_mix) .none kV14 dc14 pm14 an14 cd14 ct14), sl14⟩) (c14 : PySem.W.codeIn K cd14 "_law_mix" = true) (k14 : PySem.W.keepIn K (.ref f14) = true)
    (a15 : PySem.W.nsIn K mainGlobals "_law_deck" = some (some (.ref f15))) (l15 : K.lookup f15 = some ⟨oc15, od15, .func (PySem.W.fnOf "_law_deck" "_law_deck" (defArgs s__law_deck) (defBody s__law_deck) (defScope s__law_deck) .none kV15 dc15 pm15 an15 cd15 ct15), sl15⟩) (c15 : PySem.W.codeIn K cd15 "_law_deck" = true) (k15 : PySem.W.keepIn K (.ref f15) = true)
    (a16 : PySem.W.nsIn K mainGlobals "_law_next" = some (some (.ref f16))) (l16 : K.lookup f16 = some ⟨oc16, od16, .func (PySem.W.fnOf "_law_next" "_law_next" (defArgs s__law_next) (defBody s__law_next) (defScope s__law_next) .none kV16 dc16 pm16 an16 cd16 ct16), sl16⟩) (c16 : PySem.W.codeIn K cd16 "_law_next" = true) (k16 : PySem.W.keepIn K (.ref f16) = true)
    (a17 : PySem.W.nsIn K mainGlobals "_law_power" = some (some (.ref f17))) (l17 : K.lookup f17 = some ⟨oc17, od17, .func (PySem.W.fnOf "_law_power" "_law_power" (defArgs s__law_power) (defBody s__law_power) (defScope s__law_power) .none kV17 dc17 pm17 an17 cd17 ct17), sl17⟩) (c17 : PySem.W.codeIn K cd17 "_law_power" = true) (k17 : PySem.W.keepIn K (.ref f17) = true)
    (a18 : PySem.W.nsIn K mainGlobals "_law_told_right" = some (some (.ref f18))) (l18 : K.lookup f18 = some ⟨oc18, od18, .func (PySem.W.fnOf "_law_told_right" "_law_told_right" (defArgs s__law_told_right) (defBody s__law_told_right) (defScope s__law_told_right) .none kV18 dc18 pm18 an18 cd18 ct18), sl18⟩) (c18 : PySem.W.codeIn K cd18 "_law_told_right" = true) (k18 : PySem.W.keepIn K (.ref f18) = true)
    (a19 : PySem.W.nsIn K mainGlobals "law" = some (some (.ref f19))) (l19 : K.lookup f19 = some ⟨oc19, od19, .func (PySem.W.fnOf "law" "law" (defArgs s_law) (defBody s_law) (defScope s_law) .none kV19 dc19 pm19 an19 cd19 ct19), sl19⟩) (c19 : PySem.W.codeIn K cd19 "law" = true) (k19 : PySem.W.keepIn K (.ref f19) = true)
    (z0 : PySem.W.nsIn K mainGlobals "enumerate" = some none)
    (z1 : PySem.W.nsIn K mainGlobals "len" = some none)
    (z2 : PySem.W.nsIn K mainGlobals "list" = some none)
    (z3 : PySem.W.nsIn K mainGlobals "max" = some none)
    (z4 : PySem.W.nsIn K mainGlobals "min" = some none)
    (z5 : PySem.W.nsIn K mainGlobals "range" = some none)
    (z6 : PySem.W.nsIn K mainGlobals "set" = some none)
    (z7 : PySem.W.nsIn K mainGlobals "sorted" = some none)
    (z8 : PySem.W.nsIn K mainGlobals "sum" = some none)
    (z9 : PySem.W.nsIn K mainGlobals "tuple" = some none)
    : ∃ fd : FuncData, (∀ (s : Shared) (v : Value), BindsTo s fd ⟨[v], []⟩ [("script", v)]) ∧ ∀ base : Heap, K.In base → base.Ns mainGlobals mg → FnOk l.prog w K mg base CX0 6 fa fd ["script"] (sp_law K) := by
  have e := hfa.symm.trans (PySem.W.mg_of X G a19)
  cases e
  have F0 := fun_mk (st := s_figures_of) l0 c0 k0
  have F1 := fun_mk (st := s_power_of) l1 c1 k1
  have F2 := fun_mk (st := s_step_of) l2 c2 k2
  have F3 := fun_mk (st := s_backs_by_gain) l3 c3 k3
  have F4 := fun_mk (st := s_fronts_of) l4 c4 k4
  have F5 := fun_mk (st := s_own_numbers) l5 c5 k5
  have F6 := fun_mk (st := s_worths_of) l6 c6 k6
  have F7 := fun_mk (st := s_length_down) l7 c7 k7
  have F8 := fun_mk (st := s_steps_to) l8 c8 k8
  have F9 := fun_mk (st := s_add_ends) l9 c9 k9
  have F10 := fun_mk (st := s_ends_to) l10 c10 k10
  have F11 := fun_mk (st := s_leasts_to) l11 c11 k11
  have F12 := fun_mk (st := s_way_of) l12 c12 k12
  have F13 := fun_mk (st := s_rounds_of) l13 c13 k13
  have F14 := fun_mk (st := s__law_mix) l14 c14 k14
  have F15 := fun_mk (st := s__law_deck) l15 c15 k15
  have F16 := fun_mk (st := s__law_next) l16 c16 k16
  have F17 := fun_mk (st := s__law_power) l17 c17 k17
  have F18 := fun_mk (st := s__law_told_right) l18 c18 k18
  have F19 := fun_mk (st := s_law) l19 c19 k19
  let T : Txt K mg := {
    f_figures_of := f0,
    fd_figures_of := _,
    F_figures_of := F0,
    g_figures_of := PySem.W.mg_of X G a0,
    b_figures_of := F0.binds (ps := ["number", "base"]) (fun _ _ _ _ _ _ us hl => match us, hl with | [_, _], _ => rfl),
    f_power_of := f1,
    fd_power_of := _,
    F_power_of := F1,
    g_power_of := PySem.W.mg_of X G a1,
    b_power_of := F1.binds (ps := ["figure", "power"]) (fun _ _ _ _ _ _ us hl => match us, hl with | [_, _], _ => rfl),
    f_step_of := f2,
    fd_step_of := _,
    F_step_of := F2,
    g_step_of := PySem.W.mg_of X G a2,
    b_step_of := F2.binds (ps := ["number", "base", "power"]) (fun _ _ _ _ _ _ us hl => match us, hl with | [_, _, _], _ => rfl),
    f_backs_by_gain := f3,
    fd_backs_by_gain := _,
    F_backs_by_gain := F3,
    g_backs_by_gain := PySem.W.mg_of X G a3,
    b_backs_by_gain := F3.binds (ps := ["weight", "base", "many"]) (fun _ _ _ _ _ _ us hl => match us, hl with | [_, _, _], _ => rfl),
    f_fronts_of := f4,
    fd_fronts_of := _,
    F_fronts_of := F4,
    g_fronts_of := PySem.W.mg_of X G a4,
    b_fronts_of := F4.binds (ps := ["base", "many", "ahead"]) (fun _ _ _ _ _ _ us hl => match us, hl with | [_, _, _], _ => rfl),
    f_own_numbers := f5,
    fd_own_numbers := _,
    F_own_numbers := F5,
    g_own_numbers := PySem.W.mg_of X G a5,
    b_own_numbers := F5.binds (ps := ["base", "many"]) (fun _ _ _ _ _ _ us hl => match us, hl with | [_, _], _ => rfl),
    f_worths_of := f6,
    fd_worths_of := _,
    F_worths_of := F6,
    g_worths_of := PySem.W.mg_of X G a6,
    b_worths_of := F6.binds (ps := ["base", "power"]) (fun _ _ _ _ _ _ us hl => match us, hl with | [_, _], _ => rfl),
    f_length_down := f7,
    fd_length_down := _,
    F_length_down := F7,
    g_length_down := PySem.W.mg_of X G a7,
    b_length_down := F7.binds (ps := ["base", "power"]) (fun _ _ _ _ _ _ us hl => match us, hl with | [_, _], _ => rfl),
    f_steps_to := f8,
    fd_steps_to := _,
    F_steps_to := F8,
    g_steps_to := PySem.W.mg_of X G a8,
    b_steps_to := F8.binds (ps := ["most", "worths"]) (fun _ _ _ _ _ _ us hl => match us, hl with | [_, _], _ => rfl),
    f_add_ends := f9,
    fd_add_ends := _,
    F_add_ends := F9,
    g_add_ends := PySem.W.mg_of X G a9,
    b_add_ends := F9.binds (ps := ["ends", "steps", "number"]) (fun _ _ _ _ _ _ us hl => match us, hl with | [_, _, _], _ => rfl),
    f_ends_to := f10,
    fd_ends_to := _,
    F_ends_to := F10,
    g_ends_to := PySem.W.mg_of X G a10,
    b_ends_to := F10.binds (ps := ["most", "base", "power"]) (fun _ _ _ _ _ _ us hl => match us, hl with | [_, _, _], _ => rfl),
    f_leasts_to := f11,
    fd_leasts_to := _,
    F_leasts_to := F11,
    g_leasts_to := PySem.W.mg_of X G a11,
    b_leasts_to := F11.binds (ps := ["most", "base", "power"]) (fun _ _ _ _ _ _ us hl => match us, hl with | [_, _, _], _ => rfl),
    f_way_of := f12,
    fd_way_of := _,
    F_way_of := F12,
    g_way_of := PySem.W.mg_of X G a12,
    b_way_of := F12.binds (ps := ["number", "base", "power"]) (fun _ _ _ _ _ _ us hl => match us, hl with | [_, _, _], _ => rfl),
    f_rounds_of := f13,
    fd_rounds_of := _,
    F_rounds_of := F13,
    g_rounds_of := PySem.W.mg_of X G a13,
    b_rounds_of := F13.binds (ps := ["base", "power"]) (fun _ _ _ _ _ _ us hl => match us, hl with | [_, _], _ => rfl),
    f__law_mix := f14,
    fd__law_mix := _,
    F__law_mix := F14,
    g__law_mix := PySem.W.mg_of X G a14,
    b__law_mix := F14.binds (ps := ["cell", "k"]) (fun _ _ _ _ _ _ us hl => match us, hl with | [_, _], _ => rfl),
    f__law_deck := f15,
    fd__law_deck := _,
    F__law_deck := F15,
    g__law_deck := PySem.W.mg_of X G a15,
    b__law_deck := F15.binds (ps := ["script"]) (fun _ _ _ _ _ _ us hl => match us, hl with | [_], _ => rfl),
    f__law_next := f16,
    fd__law_next := _,
    F__law_next := F16,
    g__law_next := PySem.W.mg_of X G a16,
    b__law_next := F16.binds (ps := ["deck", "many"]) (fun _ _ _ _ _ _ us hl => match us, hl with | [_, _], _ => rfl),
    f__law_power := f17,
    fd__law_power := _,
    F__law_power := F17,
    g__law_power := PySem.W.mg_of X G a17,
    b__law_power := F17.binds (ps := ["number", "often"]) (fun _ _ _ _ _ _ us hl => match us, hl with | [_, _], _ => rfl),
    f__law_told_right := f18,
    fd__law_told_right := _,
    F__law_told_right := F18,
    g__law_told_right := PySem.W.mg_of X G a18,
    b__law_told_right := F18.binds (ps := ["deck", "base", "many", "told"]) (fun _ _ _ _ _ _ us hl => match us, hl with | [_, _, _, _], _ => rfl),
    f_law := fa,
    fd_law := _,
    F_law := F19,
    g_law := PySem.W.mg_of X G a19,
    b_law := F19.binds (ps := ["script"]) (fun _ _ _ _ _ _ us hl => match us, hl with | [_], _ => rfl),
    m_enumerate := PySem.W.mg_none_of X G z0,
    m_len := PySem.W.mg_none_of X G z1,
    m_list := PySem.W.mg_none_of X G z2,
    m_max := PySem.W.mg_none_of X G z3,
    m_min := PySem.W.mg_none_of X G z4,
    m_range := PySem.W.mg_none_of X G z5,
    m_set := PySem.W.mg_none_of X G z6,
    m_sorted := PySem.W.mg_none_of X G z7,
    m_sum := PySem.W.mg_none_of X G z8,
    m_tuple := PySem.W.mg_none_of X G z9 }
  exact ⟨_, fun s v => .of_eq rfl, fun base _ _ => ok_law T⟩
end Fx
open PySem PySem.W PyProof.Rows
set_option maxHeartbeats 0 in
theorem PySem.Challenge.cw_figurerounds_k15_whole_own_numbers_holds : PySem.Challenge.rw_figurerounds_k15_whole_own_numbers.Holds := by
  w_on; o_law; k_head; (case hw => w_witness2)
  k_fill
  refine L2.walk_of (l := PySem.Challenge.rw_figurerounds_k15_whole_own_numbers) (n := 63) (k := 6) (x := "script") (CX := fun _ => L2.CX0) (sp := fun w => Fx.sp_law _) rfl (by decide) rfl ⟨rfl, by decide, by decide⟩ (fun w h Y => PySem.W.kIn_of Y) ?F (fun _ _ a ns hl _ hS => Fx.law_start hl hS) (fun _ _ _ _ _ h => h)
  case F =>
    intro w mg fa h KX G hmg
    refine' Fx.all_mk KX G hmg ?a0 ?l0 ?c0 ?k0 ?a1 ?l1 ?c1 ?k1 ?a2 ?l2 ?c2 ?k2 ?a3 ?l3 ?c3 ?k3 ?a4 ?l4 ?c4 ?k4 ?a5 ?l5 ?c5 ?k5 ?a6 ?l6 ?c6 ?k6 ?a7 ?l7 ?c7 ?k7 ?a8 ?l8 ?c8 ?k8 ?a9 ?l9 ?c9 ?k9 ?a10 ?l10 ?c10 ?k10 ?a11 ?l11 ?c11 ?k11 ?a12 ?l12 ?c12 ?k12 ?a13 ?l13 ?c13 ?k13 ?a14 ?l14 ?c14 ?k14 ?a15 ?l15 ?c15 ?k15 ?a16 ?l16 ?c16 ?k16 ?a17 ?l17 ?c17 ?k17 ?a18 ?l18 ?c18 ?k18 ?a19 ?l19 ?c19 ?k19 ?z0 ?z1 ?z2 ?z3 ?z4 ?z5 ?z6 ?z7 ?z8 ?z9
    (case a0 => k_is); (case l0 => k_is); (case c0 => k_is); (case k0 => k_is); (case a1 => k_is); (case l1 => k_is); (case c1 => k_is); (case k1 => k_is); (case a2 => k_is); (case l2 => k_is); (case c2 => k_is); (case k2 => k_is); (case a3 => k_is); (case l3 => k_is); (case c3 => k_is); (case k3 => k_is); (case a4 => k_is); (case l4 => k_is); (case c4 => k_is); (case k4 => k_is); (case a5 => k_is); (case l5 => k_is); (case c5 => k_is); (case k5 => k_is); (case a6 => k_is); (case l6 => k_is); (case c6 => k_is); (case k6 => k_is); (case a7 => k_is); (case l7 => k_is); (case c7 => k_is); (case k7 => k_is); (case a8 => k_is); (case l8 => k_is); (case c8 => k_is); (case k8 => k_is); (case a9 => k_is); (case l9 => k_is); (case c9 => k_is); (case k9 => k_is); (case a10 => k_is); (case l10 => k_is); (case c10 => k_is); (case k10 => k_is); (case a11 => k_is); (case l11 => k_is); (case c11 => k_is); (case k11 => k_is); (case a12 => k_is); (case l12 => k_is); (case c12 => k_is); (case k12 => k_is); (case a13 => k_is); (case l13 => k_is); (case c13 => k_is); (case k13 => k_is); (case a14 => k_is); (case l14 => k_is); (case c14 => k_is); (case k14 => k_is); (case a15 => k_is); (case l15 => k_is); (case c15 => k_is); (case k15 => k_is); (case a16 => k_is); (case l16 => k_is); (case c16 => k_is); (case k16 => k_is); (case a17 => k_is); (case l17 => k_is); (case c17 => k_is); (case k17 => k_is); (case a18 => k_is); (case l18 => k_is); (case c18 => k_is); (case k18 => k_is); (case a19 => k_is); (case l19 => k_is); (case c19 => k_is); (case k19 => k_is); (case z0 => k_is); (case z1 => k_is); (case z2 => k_is); (case z3 => k_is); (case z4 => k_is); (case z5 => k_is); (case z6 => k_is); (case z7 => k_is); (case z8 => k_is); (case z9 => k_is)
