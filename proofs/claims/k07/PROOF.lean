import PyProof.Rows.All
import Wide.All
import OpenK.AllK
import Wide.FinOn
import HandS.ForMost
import HandS.Wide
import HandS.Style
import HandS.IsInst
import HandS.Conv
import HandS.Codes
import PySem.Challenge.RW_figurerounds_k07_lengths_looked_at
set_option Elab.async false
set_option linter.all false
set_option maxRecDepth 100000
set_option maxHeartbeats 4000000

/-! my own words for readings: "rd" goes on while there is one way only -/
local macro_rules | `(tactic| walk_at "cc") => `(tactic| first
  | (with_reducible exact rfl) | (dsimp only [CMul, CDivW]; omega) | (exact ⟨by decide +kernel, by decide +kernel⟩) | decide +kernel)
local macro_rules | `(tactic| walk_at "rd1") => `(tactic| first
  | refine ⟨_, rfl, ?_⟩ | refine ⟨_, _, rfl, rfl, ?_⟩ | refine ⟨rfl, ?_⟩)
local macro_rules | `(tactic| walk_at "rd") => `(tactic| repeat (walk_at "rd1"))

local macro_rules | `(tactic| walk_at "p") => `(tactic| ((show (0 : Int) < _); first | assumption | omega | decide))

namespace Fx
open PySem PySem.Spec PyProof.Rows L2

/-! ### what stays -/
def But (d : Addr) (H H' : Hp) : Prop := ∀ b o, b ≠ d → H b = some o → H' b = some o
theorem But.refl (d : Addr) (H : Hp) : But d H H := fun _ _ _ h => h
theorem But.trans {d : Addr} {H H1 H2 : Hp} (a : But d H H1) (b : But d H1 H2) : But d H H2 := fun x o n h => b x o n (a x o n h)
theorem But.of {d : Addr} {H H' : Hp} (a : Same H H') : But d H H' := fun x o _ h => a x o h
theorem But.new {d p : Addr} {H : Hp} {o : HO} (h : H p = none) : But d H (upd H p o) := fun b u _ e => by
  rw [upd_ne (ne_of_none e h)]
  exact e
theorem But.set {d : Addr} {H : Hp} {o : HO} : But d H (upd H d o) := fun b u n e => by
  rw [upd_ne n]
  exact e
theorem But.fresh {d p : Addr} {H H' : Hp} (a : But d H H') (hd : ∃ o, H' d = some o) (h : H' p = none) : H p = none := by
  cases e : H p with
  | none => rfl
  | some o =>
    by_cases z : p = d
    · obtain ⟨u, hu⟩ := hd
      rw [z, hu] at h
      cases h
    · rw [a p o z e] at h
      cases h
theorem Same.new {p : Addr} {H : Hp} {o : HO} (h : H p = none) : Same H (upd H p o) := fun b u e => by
  rw [upd_ne (ne_of_none e h)]
  exact e

/-- behind a new object, named by «generalize g : upd H p _ = H'» -/
theorem new_of {H H' : Hp} {p : Addr} {o : HO} (g : upd H p o = H') (hp : H p = none) : Same H H' ∧ H' p = some o := by
  subst g
  exact ⟨Same.new hp, upd_same⟩
theorem set_of {H H' : Hp} {p : Addr} {o : HO} (g : upd H p o = H') : But p H H' ∧ H' p = some o := by
  subst g
  exact ⟨But.set, upd_same⟩

/-! ### the draws -/
/-- the cells at c, the deck at d, at most n draws so far -/
structure Deck (H : Hp) (d c : Addr) (n : Nat) : Prop where
  ex : ∃ (ns : List Int) (i l m t : Int), H d = some (.lst [.ref c, .int i, .int l, .int m, .int t]) ∧ H c = some (.lst (ns.map V.int)) ∧ 0 ≤ i ∧ i ≤ n ∧ 0 ≤ m ∧ m ≤ n
theorem Deck.there {H : Hp} {d c : Addr} {n : Nat} (h : Deck H d c n) : ∃ o, H d = some o := by
  obtain ⟨ns, i, l, m, t, e, _⟩ := h.ex
  exact ⟨_, e⟩
theorem Deck.some {H : Hp} {d c : Addr} {n : Nat} (h : Deck H d c n) : ∃ xs, H d = some (.lst xs) := by
  obtain ⟨ns, i, l, m, t, e, _⟩ := h.ex
  exact ⟨_, e⟩
theorem Deck.ne {H : Hp} {d c : Addr} {n : Nat} (h : Deck H d c n) : c ≠ d := by
  obtain ⟨ns, i, l, m, t, e, e2, _⟩ := h.ex
  intro z
  rw [z, e] at e2
  cases ns with
  | nil => cases e2
  | cons x r => cases e2
theorem Deck.mono {H : Hp} {d c : Addr} {n k : Nat} (h : Deck H d c n) (l : n ≤ k) : Deck H d c k := by
  obtain ⟨ns, i, l, m, t, e, e2, h1, h2, h3, h4⟩ := h.ex
  exact ⟨ns, i, l, m, t, e, e2, h1, by omega, h3, by omega⟩
theorem Deck.same {H H' : Hp} {d c : Addr} {n : Nat} (h : Deck H d c n) (a : Same H H') : Deck H' d c n := by
  obtain ⟨ns, i, l, m, t, e, e2, r⟩ := h.ex
  exact ⟨ns, i, l, m, t, a _ _ e, a _ _ e2, r⟩
theorem Deck.new {H : Hp} {d c p : Addr} {n : Nat} {o : HO} (h : Deck H d c n) (hp : H p = none) : Deck (upd H p o) d c n := h.same (Same.new hp)
/-- something else than the deck and its cells is written -/
theorem Deck.off {H : Hp} {d c p : Addr} {n : Nat} {o : HO} (h : Deck H d c n) (h1 : p ≠ d) (h2 : p ≠ c) : Deck (upd H p o) d c n := by
  obtain ⟨ns, i, l, m, t, e, e2, r⟩ := h.ex
  exact ⟨ns, i, l, m, t, by rw [upd_ne (Ne.symm h1)]; exact e, by rw [upd_ne (Ne.symm h2)]; exact e2, r⟩
/-- a list of our own grows -/
theorem But.own {d p : Addr} {H H' : Hp} {o : HO} (a : But d H H') (hp : H p = none) : But d H (upd H' p o) := fun b u n e => by
  rw [upd_ne (ne_of_none e hp)]
  exact a b u n e
theorem Deck.out {H : Hp} {d c p : Addr} {n : Nat} (h : Deck H d c n) (hp : H p = none) : p ≠ d ∧ p ≠ c := by
  obtain ⟨ns, i, l, m, t, e, e2, r⟩ := h.ex
  exact ⟨(ne_of_none e hp).symm, (ne_of_none e2 hp).symm⟩
/-- an object that is no list stays -/
theorem But.tup {d c p : Addr} {n : Nat} {H H' : Hp} {xs : List V} (a : But d H H') (h : Deck H d c n) (e : H p = some (.tup xs)) : H' p = some (.tup xs) := by
  obtain ⟨ys, q⟩ := h.some
  exact a p _ (ne_of e q (fun z => by cases z)) e

/-- a slice from the first on -/
theorem cut_to (xs : List V) (n : Nat) : cutV xs none (some (n : Int)) = xs.take n := by
  unfold cutV
  rw [HT.sIx_none, HT.sIx_nat]
  show List.take (min n xs.length - 0) (xs.drop 0) = _
  rw [List.drop_zero, Nat.sub_zero]
  by_cases h : n ≤ xs.length
  · rw [Nat.min_eq_left h]
  · rw [Nat.min_eq_right (by omega), List.take_length, List.take_of_length_le (by omega)]
/-- a slice from the n-th on -/
theorem cut_from (xs : List V) (n : Nat) : cutV xs (some (n : Int)) none = xs.drop n := by
  unfold cutV
  rw [HT.sIx_none, HT.sIx_nat]
  by_cases h : n ≤ xs.length
  · rw [Nat.min_eq_left h]
    exact List.take_of_length_le (by rw [List.length_drop]; omega)
  · rw [Nat.min_eq_right (by omega), Nat.sub_self, List.take_zero, List.drop_eq_nil_of_le (by omega)]

/-- a while's next turn -/
def Nx (W : Nat → L2.St → Hp → Prop) (m : Nat) : L2.St → Hp → Prop := fun σ' H' => ∃ m', m' < m ∧ W m' σ' H'
theorem Nx.id {W : Nat → L2.St → Hp → Prop} {m : Nat} : ∀ σ' H', Nx W m σ' H' → ∃ m', m' < m ∧ W m' σ' H' := fun _ _ h => h

/-- a divisor's, a factor's bound -/
theorem divW {i j : Int} (b : Nat) (h : 0 < j) (hb : j < 2 ^ b) (h0 : 0 < b := by decide) (h9 : b ≤ 9000 := by decide) : CDivW i j := wide_div h (b := b) (by
  have e : ((2 ^ b : Nat) : Int) = (2 : Int) ^ b := by simp
  omega) h0 h9
end Fx

namespace Fx
open PySem PySem.Spec PyProof.Rows L2
/-- the greatest power that a base lets -/
def mosts : List Int := [10, 9, 6, 4, 4, 3, 3, 3, 3, 3, 2, 2, 2, 2, 2]
def mostOf (b : Int) : Int := mosts.getD (b - 2).toNat 0
def OkPair (b p : Int) : Prop := 2 ≤ b ∧ b ≤ 16 ∧ 1 ≤ p ∧ p ≤ mostOf b
/-- all of a pair's places, to be shown one by one -/
def pairsAll : List (Int × Int) := (List.range 15).flatMap fun (i : Nat) => (List.range (mosts.getD i 0).toNat).map fun (j : Nat) => (((i : Nat) : Int) + 2, ((j : Nat) : Int) + 1)
theorem OkPair.mem {b p : Int} (h : OkPair b p) : (b, p) ∈ pairsAll := by
  obtain ⟨h1, h2, h3, h4⟩ := h
  refine List.mem_flatMap.mpr ⟨(b - 2).toNat, List.mem_range.mpr (by omega), List.mem_map.mpr ⟨(p - 1).toNat, List.mem_range.mpr ?_, ?_⟩⟩
  · unfold mostOf at h4
    omega
  · show (((b - 2).toNat : Int) + 2, ((p - 1).toNat : Int) + 1) = (b, p)
    rw [Prod.mk.injEq]
    omega
theorem OkPair.all {P : Int → Int → Prop} {b p : Int} (h : OkPair b p) (a : ∀ q ∈ pairsAll, P q.1 q.2) : P b p := a _ h.mem
theorem OkPair.le10 {b p : Int} (h : OkPair b p) : p ≤ 10 := h.all (P := fun _ p => p ≤ 10) (by decide +kernel)
/-- what the greatest figure is worth -/
def worth (b p : Int) : Int := (b - 1) ^ p.toNat
theorem OkPair.worth {b p : Int} (h : OkPair b p) : 1 ≤ worth b p ∧ worth b p ≤ 1000 + 24 := h.all (P := fun b p => 1 ≤ Fx.worth b p ∧ Fx.worth b p ≤ 1024) (by decide +kernel)
theorem most_pos {b : Int} (h1 : 2 ≤ b) (h2 : b ≤ 16) : 1 ≤ mostOf b ∧ mostOf b ≤ 10 := by
  have a : ∀ i ∈ List.range 15, 1 ≤ mosts.getD i 0 ∧ mosts.getD i 0 ≤ 10 := by decide +kernel
  exact a (b - 2).toNat (List.mem_range.mpr (by omega))
theorem most_at {b : Int} (h1 : 2 ≤ b) (h2 : b ≤ 16) : atI (mosts.map V.int) (b - 2) = some (.int (mostOf b)) := by
  have hi : (b - 2).toNat < mosts.length := by
    show (b - 2).toNat < 15
    omega
  have z : (mosts.map V.int)[(b - 2).toNat]? = some (.int (mostOf b)) := by
    rw [List.getElem?_map, List.getElem?_eq_getElem hi]
    unfold mostOf
    rw [List.getD_eq_getElem?_getD, List.getElem?_eq_getElem hi]
    rfl
  have y := atI_nat z
  rw [show (((b - 2).toNat : Nat) : Int) = b - 2 by omega] at y
  exact y
/-- a pair's tuple as it stands -/
def PairAt (H : Hp) (v : V) (b p : Int) : Prop := ∃ a, v = .ref a ∧ H a = some (.tup [.int b, .int p]) ∧ OkPair b p
theorem PairAt.but {H H' : Hp} {d c : Addr} {n : Nat} {v : V} {b p : Int} (h : PairAt H v b p) (D : Deck H d c n) (e : But d H H') : PairAt H' v b p := by
  obtain ⟨a, e1, e2, e3⟩ := h
  exact ⟨a, e1, e.tup D e2, e3⟩
theorem PairAt.same {H H' : Hp} {v : V} {b p : Int} (h : PairAt H v b p) (e : Same H H') : PairAt H' v b p := by
  obtain ⟨a, e1, e2, e3⟩ := h
  exact ⟨a, e1, e _ _ e2, e3⟩
theorem PairAt.upd {H : Hp} {D : Addr} {xs : List V} {o : HO} {v : V} {b p : Int} (h : PairAt H v b p) (e : H D = some (.lst xs)) : PairAt (upd H D o) v b p := by
  obtain ⟨a, e1, e2, e3⟩ := h
  exact ⟨a, e1, by rw [upd_ne (ne_of e2 e fun z => by cases z)]; exact e2, e3⟩
/-- all things of a list are pairs -/
def Pairs (H : Hp) (xs : List V) : Prop := ∀ v ∈ xs, ∃ b p, PairAt H v b p
theorem Pairs.mono {H H' : Hp} {xs : List V} (h : Pairs H xs) (k : ∀ v b p, PairAt H v b p → PairAt H' v b p) : Pairs H' xs := fun v hv => by
  obtain ⟨b, p, q⟩ := h v hv
  exact ⟨b, p, k v b p q⟩
theorem Pairs.app {H : Hp} {xs ys : List V} (h : Pairs H xs) (g : Pairs H ys) : Pairs H (xs ++ ys) := fun v hv => (List.mem_append.mp hv).elim (h v) (g v)
theorem Pairs.rev {H : Hp} {xs : List V} (h : Pairs H xs) : Pairs H xs.reverse := fun v hv => h v (List.mem_reverse.mp hv)
theorem Pairs.one {H : Hp} {v : V} {b p : Int} (h : PairAt H v b p) : Pairs H [v] := fun u hu => by
  cases List.mem_singleton.mp hu
  exact ⟨b, p, h⟩
/-- pairs drawn one by one: n at the start, k draws a pair -/
structure Drawn (H H' : Hp) (d c D : Addr) (n i : Nat) : Prop where
  but : But d H H'
  deck : Deck H' d c (n + 3 * i)
  list : ∃ acc, H' D = some (.lst acc) ∧ acc.length = i ∧ Pairs H' acc
theorem Drawn.next {H H1 H2 : Hp} {d c D p : Addr} {n i : Nat} {b pw : Int} (h : Drawn H H1 d c D n i) (hD : H D = none) (hd : D ≠ d) (hc : D ≠ c) (b1 : But d H1 H2) (D2 : Deck H2 d c (n + 3 * i + 3)) (e : H2 p = some (.tup [.int b, .int pw])) (ok : OkPair b pw) :
    ∃ acc, H2 D = some (.lst acc) ∧ acc.length = i ∧ Drawn H (L2.upd H2 D (.lst (acc ++ [.ref p]))) d c D n (i + 1) := by
  obtain ⟨acc, e1, e2, e3⟩ := h.list
  have e4 : H2 D = some (.lst acc) := b1 _ _ hd e1
  refine ⟨acc, e4, e2, (h.but.trans b1).own hD, D2.off hd hc, acc ++ [.ref p], upd_same, by rw [List.length_append, e2]; rfl, ?_⟩
  refine Pairs.app ?_ (Pairs.one (PairAt.upd ⟨p, rfl, e, ok⟩ e4))
  exact e3.mono fun v b p q => (q.but h.deck b1).upd e4
end Fx

namespace Fx
open PySem PySem.Spec PyProof.Rows L2
/-- the least length from which on numbers go down, w the worth of the greatest figure -/
structure IsLen (b w : Int) (L : Nat) : Prop where
  two : 2 ≤ L
  less : (L : Int) * w < b ^ (L - 1)
  least : ∀ k : Nat, 2 ≤ k → k < L → b ^ (k - 1) ≤ (k : Int) * w
theorem IsLen.uniq {b w : Int} {L M : Nat} (h : IsLen b w L) (g : IsLen b w M) : L = M := by
  rcases Nat.lt_trichotomy L M with l | l | l
  · have := g.least L h.two l
    have := h.less
    omega
  · exact l
  · have := h.least M g.two l
    have := g.less
    omega
theorem pow_mono {a b : Int} (h0 : 0 ≤ a) (h : a ≤ b) : ∀ n : Nat, a ^ n ≤ b ^ n
  | 0 => by rw [Int.pow_zero, Int.pow_zero]; exact Int.le_refl _
  | n + 1 => by
    rw [Int.pow_succ, Int.pow_succ]
    have i := pow_mono h0 h n
    have p : 0 ≤ a ^ n := Int.pow_nonneg h0
    exact Int.le_trans (Int.mul_le_mul_of_nonneg_right i h0) (Int.mul_le_mul_of_nonneg_left h (Int.le_trans p i))
theorem pow_pos {a : Int} (h : 0 < a) (n : Nat) : 0 < a ^ n := Int.pow_pos h
/-- at fifteen figures all is shown -/
theorem len15 {b w : Int} (h : 2 ≤ b) (hw : w ≤ 1024) : (15 : Int) * w < b ^ 14 := by
  have i := pow_mono (a := 2) (b := b) (by decide) h 14
  have e : (2 : Int) ^ 14 = 16384 := by decide
  omega
theorem len_step {b w : Int} {L : Nat} (h : ∀ k : Nat, 2 ≤ k → k < L → b ^ (k - 1) ≤ (k : Int) * w) (t : b ^ (L - 1) ≤ (L : Int) * w) : ∀ k : Nat, 2 ≤ k → k < L + 1 → b ^ (k - 1) ≤ (k : Int) * w := fun k h2 hk => by
  by_cases e : k = L
  · rw [e]
    exact t
  · exact h k h2 (by omega)
theorem len_lt {b w : Int} {L : Nat} (h : 2 ≤ b) (hw : w ≤ 1024) (l : L ≤ 15) (t : b ^ (L - 1) ≤ (L : Int) * w) : L < 15 := by
  by_cases e : L = 15
  · subst e
    have := len15 h hw
    have t' : b ^ 14 ≤ ((15 : Nat) : Int) * w := t
    omega
  · omega
/-- there is one -/
theorem len_ex {b w : Int} (h : 2 ≤ b) (hw : w ≤ 1024) : ∃ L : Nat, IsLen b w L ∧ L ≤ 15 := by
  have go : ∀ k L : Nat, 15 - L = k → 2 ≤ L → L ≤ 15 → (∀ j : Nat, 2 ≤ j → j < L → b ^ (j - 1) ≤ (j : Int) * w) → ∃ L : Nat, IsLen b w L ∧ L ≤ 15 := by
    intro k
    induction k with
    | zero =>
      intro L e l2 l15 ih
      refine ⟨L, ⟨l2, ?_, ih⟩, l15⟩
      obtain rfl : L = 15 := by omega
      exact len15 h hw
    | succ k ihk =>
      intro L e l2 l15 ih
      by_cases t : b ^ (L - 1) ≤ (L : Int) * w
      · exact ihk (L + 1) (by omega) (by omega) (by omega) (len_step ih t)
      · exact ⟨L, ⟨l2, by omega, ih⟩, l15⟩
  exact go 13 2 rfl (by decide) (by decide) fun j _ _ => by omega
end Fx

namespace Fx
open PySem PySem.Spec PyProof.Rows L2
def topS (i : Nat) : Stmt := PySem.Challenge.pw_figurerounds_k07_lengths_looked_at.main.body.getD i (.Pass ⟨0, 0, 0, 0⟩)
abbrev s_power_of : Stmt := topS 1
theorem sc_power_of : FnScope ["figure", "power", "worth", "_"] ["figure", "power"] (defScope s_power_of) := ⟨rfl, rfl, rfl, by decide +kernel, rfl, by decide +kernel, by decide +kernel⟩
abbrev s_length_down : Stmt := topS 3
theorem sc_length_down : FnScope ["base", "power", "most", "length", "least"] ["base", "power"] (defScope s_length_down) := ⟨rfl, rfl, rfl, by decide +kernel, rfl, by decide +kernel, by decide +kernel⟩
abbrev s_length_shown : Stmt := topS 4
theorem sc_length_shown : FnScope ["base", "power", "length"] ["base", "power", "length"] (defScope s_length_shown) := ⟨rfl, rfl, rfl, by decide +kernel, rfl, by decide +kernel, by decide +kernel⟩
abbrev s__law_mix : Stmt := topS 6
theorem sc__law_mix : FnScope ["cell", "k", "number"] ["cell", "k"] (defScope s__law_mix) := ⟨rfl, rfl, rfl, by decide +kernel, rfl, by decide +kernel, by decide +kernel⟩
abbrev s__law_deck : Stmt := topS 7
theorem sc__law_deck : FnScope ["script"] ["script"] (defScope s__law_deck) := ⟨rfl, rfl, rfl, by decide +kernel, rfl, by decide +kernel, by decide +kernel⟩
abbrev s__law_next : Stmt := topS 8
theorem sc__law_next : FnScope ["deck", "many", "cell", "found"] ["deck", "many"] (defScope s__law_next) := ⟨rfl, rfl, rfl, by decide +kernel, rfl, by decide +kernel, by decide +kernel⟩
abbrev s__law_pair : Stmt := topS 9
theorem sc__law_pair : FnScope ["deck", "base", "most"] ["deck"] (defScope s__law_pair) := ⟨rfl, rfl, rfl, by decide +kernel, rfl, by decide +kernel, by decide +kernel⟩
abbrev s__law_power : Stmt := topS 10
theorem sc__law_power : FnScope ["number", "often", "found", "turn"] ["number", "often"] (defScope s__law_power) := ⟨rfl, rfl, rfl, by decide +kernel, rfl, by decide +kernel, by decide +kernel⟩
abbrev s__law_due : Stmt := topS 11
theorem sc__law_due : FnScope ["base", "power", "length", "some"] ["base", "power", "length"] (defScope s__law_due) := ⟨rfl, rfl, rfl, by decide +kernel, rfl, by decide +kernel, by decide +kernel⟩
abbrev s_law : Stmt := topS 12
theorem sc_law : FnScope ["script", "deck", "turn", "base", "power", "far", "some", "length", "found"] ["script"] (defScope s_law) := ⟨rfl, rfl, rfl, by decide +kernel, rfl, by decide +kernel, by decide +kernel⟩
structure Txt (K : PySem.W.Frag) (mg : Str → Option Value) where
  f_power_of : Addr
  fd_power_of : FuncData
  F_power_of : Fun K "power_of" "power_of" s_power_of f_power_of fd_power_of
  g_power_of : mg "power_of" = some (.ref f_power_of)
  b_power_of : Binds K fd_power_of ["figure", "power"] []
  f_length_down : Addr
  fd_length_down : FuncData
  F_length_down : Fun K "length_down" "length_down" s_length_down f_length_down fd_length_down
  g_length_down : mg "length_down" = some (.ref f_length_down)
  b_length_down : Binds K fd_length_down ["base", "power"] []
  f_length_shown : Addr
  fd_length_shown : FuncData
  F_length_shown : Fun K "length_shown" "length_shown" s_length_shown f_length_shown fd_length_shown
  g_length_shown : mg "length_shown" = some (.ref f_length_shown)
  b_length_shown : Binds K fd_length_shown ["base", "power", "length"] []
  f__law_mix : Addr
  fd__law_mix : FuncData
  F__law_mix : Fun K "_law_mix" "_law_mix" s__law_mix f__law_mix fd__law_mix
  g__law_mix : mg "_law_mix" = some (.ref f__law_mix)
  b__law_mix : Binds K fd__law_mix ["cell", "k"] []
  f__law_deck : Addr
  fd__law_deck : FuncData
  F__law_deck : Fun K "_law_deck" "_law_deck" s__law_deck f__law_deck fd__law_deck
  g__law_deck : mg "_law_deck" = some (.ref f__law_deck)
  b__law_deck : Binds K fd__law_deck ["script"] []
  f__law_next : Addr
  fd__law_next : FuncData
  F__law_next : Fun K "_law_next" "_law_next" s__law_next f__law_next fd__law_next
  g__law_next : mg "_law_next" = some (.ref f__law_next)
  b__law_next : Binds K fd__law_next ["deck", "many"] []
  f__law_pair : Addr
  fd__law_pair : FuncData
  F__law_pair : Fun K "_law_pair" "_law_pair" s__law_pair f__law_pair fd__law_pair
  g__law_pair : mg "_law_pair" = some (.ref f__law_pair)
  b__law_pair : Binds K fd__law_pair ["deck"] []
  f__law_power : Addr
  fd__law_power : FuncData
  F__law_power : Fun K "_law_power" "_law_power" s__law_power f__law_power fd__law_power
  g__law_power : mg "_law_power" = some (.ref f__law_power)
  b__law_power : Binds K fd__law_power ["number", "often"] []
  f__law_due : Addr
  fd__law_due : FuncData
  F__law_due : Fun K "_law_due" "_law_due" s__law_due f__law_due fd__law_due
  g__law_due : mg "_law_due" = some (.ref f__law_due)
  b__law_due : Binds K fd__law_due ["base", "power", "length"] []
  f_law : Addr
  fd_law : FuncData
  F_law : Fun K "law" "law" s_law f_law fd_law
  g_law : mg "law" = some (.ref f_law)
  b_law : Binds K fd_law ["script"] []
  m_bool : mg "bool" = none
  m_isinstance : mg "isinstance" = none
  m_len : mg "len" = none
  m_list : mg "list" = none
  m_min : mg "min" = none
  m_range : mg "range" = none
  m_sum : mg "sum" = none
section
variable {P : Program} {w : World} {K : PySem.W.Frag} {mg : Str → Option Value} {base : Heap}
/-! ### power_of -/
def sp_power_of (K : PySem.W.Frag) : Sp := fun vs H Q _ => ∃ f p : Int, vs = [.int f, .int p] ∧ 0 ≤ p ∧ p < 2 ^ 62 ∧ -(2 ^ 64) < f ∧ f < 2 ^ 64 ∧ Q (.int (f ^ p.toNat)) H
theorem ok_power_of (T : Txt K mg) : FnOk P w K mg base CX0 1 T.f_power_of T.fd_power_of ["figure", "power"] (sp_power_of K) := by
  refine T.F_power_of.ok sc_power_of (fun vs H Q E h => ?_) (fun cdv A outer s H vs Q E hr h => ?_)
  · obtain ⟨_, _, rfl, _⟩ := h
    rfl
  · obtain ⟨f, p, rfl, h0, h1, h2, h3, q⟩ := h
    refine ⟨_, (pss_cons (ps_set (i := 2) sc_power_of.nd rfl (Or.inl rfl) pe_int)
      (pss_cons (ps_for PassesOwn.never rfl (pi_range1 (by rfl) T.m_range (pa_cons (pv 1) pa_nil)) (pg_name (i := 3) sc_power_of.nd rfl (Or.inl rfl)) (pss_one (ps_set (i := 2) sc_power_of.nd rfl (Or.inl rfl) (pe_op op_mul (pv 2) (pv 0)))))
      (pss_one (ps_ret (pv 2))))), ?_⟩
    refine ⟨_, rfl, _, rfl, by omega, by omega, for_range (lo := 0) (n := p.toNat) (fun i σ' H' => H' = H ∧ ∃ y, σ' = [some (.int f), some (.int p), some (.int (f ^ i)), y]) ⟨rfl, none, by rw [Int.pow_zero]; rfl⟩ ?_ ?_⟩
    · rintro i σ' H' hi ⟨rfl, y, rfl⟩
      refine ⟨_, rfl, _, rfl, _, _, rfl, rfl, .inr ⟨h2, h3⟩, rfl, some (.int (0 + i)), ?_⟩
      rw [Int.pow_succ]
      rfl
    · rintro σ' H' ⟨rfl, y, rfl⟩
      exact ⟨_, rfl, q⟩

/-! ### length_down -/
def sp_length_down (K : PySem.W.Frag) : Sp := fun vs H Q _ => ∃ b p : Int, vs = [.int b, .int p] ∧ OkPair b p ∧ ∀ L : Nat, IsLen b (worth b p) L → L ≤ 15 → Q (.int (L : Int)) H
def W_length_down (b p : Int) (H : Hp) (m : Nat) (σ' : L2.St) (H' : Hp) : Prop := ∃ L : Nat, m = 15 - L ∧ H' = H ∧ σ' = [some (.int b), some (.int p), some (.int (worth b p)), some (.int (L : Int)), some (.int (b ^ (L - 1)))] ∧ 2 ≤ L ∧ L ≤ 15 ∧ ∀ k : Nat, 2 ≤ k → k < L → b ^ (k - 1) ≤ (k : Int) * worth b p
theorem ok_length_down (T : Txt K mg) : FnOk P w K mg base CX0 2 T.f_length_down T.fd_length_down ["base", "power"] (sp_length_down K) := by
  refine T.F_length_down.ok sc_length_down (fun vs H Q E h => ?_) (fun cdv A outer s H vs Q E hr h => ?_)
  · obtain ⟨_, _, rfl, _⟩ := h
    rfl
  · obtain ⟨b, p, rfl, hp, q⟩ := h
    obtain ⟨h1, h2, h3, h4⟩ := id hp
    have p10 := hp.le10
    have hw := hp.worth
    refine ⟨_, (pss_cons (ps_set (i := 2) sc_length_down.nd rfl (Or.inl rfl) (pe_call (ok_power_of T) hr (by rfl) T.g_power_of T.F_power_of.kp T.b_power_of .nil pass0 (pa_cons (pe_op op_sub (pv 0) pe_int) (pa_cons (pv 1) pa_nil))))
      (pss_cons (ps_set (i := 3) sc_length_down.nd rfl (Or.inl rfl) pe_int)
      (pss_cons (ps_set (i := 4) sc_length_down.nd rfl (Or.inl rfl) (pv 0))
      (pss_cons (ps_while PassesOwn.never (pt_cmpR op_ge (pe_op op_mul (pv 3) (pv 2)) (pv 4) (nomark _)) (pss_cons (ps_aug (i := 3) sc_length_down.nd rfl (Or.inl rfl) pe_int ip_add)
      (pss_one (ps_set (i := 4) sc_length_down.nd rfl (Or.inl rfl) (pe_op op_mul (pv 4) (pv 0))))))
      (pss_one (ps_ret (pv 3))))))), ?_⟩
    refine ⟨_, rfl, b, 1, rfl, rfl, _, rfl, b - 1, p, rfl, by omega, by omega, by omega, by omega, ?_⟩
    refine ⟨_, rfl, W_length_down b p H, ⟨13, 2, rfl, rfl, ?_, by decide, by decide, fun k _ _ => by omega⟩, ?_⟩
    · have e : b ^ (2 - 1) = b := Int.pow_one b
      rw [e]
      rfl
    · rintro m σ' H' ⟨L, rfl, rfl, rfl, l2, l15, ih⟩
      have w1 : ∀ x : Int, -(2 ^ 64) < (L : Int) ∧ (L : Int) < 2 ^ 64 := fun _ => by omega
      refine ⟨_, rfl, _, rfl, _, _, rfl, rfl, .inl (w1 0), _, rfl, _, _, rfl, rfl, _, rfl, ?_⟩
      by_cases t : b ^ (L - 1) ≤ (L : Int) * worth b p
      · rw [decide_eq_true t]
        have l := len_lt h1 (by omega) l15 t
        refine iteT ⟨Nx (W_length_down b p H') (15 - L), Nx.id, ?_⟩
        refine ⟨_, rfl, _, _, rfl, rfl, _, rfl, _, rfl, _, _, rfl, rfl, .inr (by omega), ?_⟩
        refine ⟨15 - (L + 1), by omega, L + 1, rfl, rfl, ?_, by omega, by omega, len_step ih t⟩
        have e : b ^ (L + 1 - 1) = b ^ (L - 1) * b := by
          rw [← Int.pow_succ]
          congr 1
          omega
        rw [e]
        rfl
      · rw [decide_eq_false t]
        exact iteF ⟨_, rfl, q L ⟨l2, by omega, ih⟩ l15⟩

/-! ### length_shown -/
def sp_length_shown (K : PySem.W.Frag) : Sp := fun vs H Q _ => ∃ b p n : Int, vs = [.int b, .int p, .int n] ∧ OkPair b p ∧ ∀ L : Nat, IsLen b (worth b p) L → L ≤ 15 → Q (.bl (decide ((L : Int) ≤ n))) H
theorem ok_length_shown (T : Txt K mg) : FnOk P w K mg base CX0 3 T.f_length_shown T.fd_length_shown ["base", "power", "length"] (sp_length_shown K) := by
  refine T.F_length_shown.ok sc_length_shown (fun vs H Q E h => ?_) (fun cdv A outer s H vs Q E hr h => ?_)
  · obtain ⟨_, _, _, rfl, _⟩ := h
    rfl
  · obtain ⟨b, p, n, rfl, hp, q⟩ := h
    refine ⟨_, (pss_one (ps_ret (pe_cmpR op_ge (pv 2) (pe_call (ok_length_down T) hr (by rfl) T.g_length_down T.F_length_down.kp T.b_length_down .nil pass0 (pa_cons (pv 0) (pa_cons (pv 1) pa_nil))) (nomark _)))), ?_⟩
    exact ⟨_, rfl, _, rfl, _, rfl, b, p, rfl, hp, fun L hL l15 => ⟨_, _, rfl, rfl, q L hL l15⟩⟩

/-! ### _law_mix -/
def sp__law_mix (K : PySem.W.Frag) : Sp := fun vs H Q _ => ∃ c k : Int, vs = [.int c, .int k] ∧ 0 ≤ k ∧ k < 2 ^ 44 ∧ ∀ r : Int, Q (.int r) H
theorem mix_bound {a b : Int} (h : 0 < b) : 0 ≤ a % b ∧ a % b < b := ⟨Int.emod_nonneg _ (by omega), Int.emod_lt_of_pos _ h⟩
theorem ok__law_mix (T : Txt K mg) : FnOk P w K mg base CX0 1 T.f__law_mix T.fd__law_mix ["cell", "k"] (sp__law_mix K) := by
  refine T.F__law_mix.ok sc__law_mix (fun vs H Q E h => ?_) (fun cdv A outer s H vs Q E hr h => ?_)
  · obtain ⟨_, _, rfl, _⟩ := h
    rfl
  · obtain ⟨c, k, rfl, h0, h1, q⟩ := h
    refine ⟨_, (pss_cons (ps_set (i := 2) sc__law_mix.nd rfl (Or.inl rfl) (pe_op op_add (pe_op op_mod (pv 0) pe_int) (pe_op op_mul (pe_op op_mul pe_int (pv 1)) (pv 1))))
      (pss_cons (ps_set (i := 2) sc__law_mix.nd rfl (Or.inl rfl) (pe_op op_mod (pe_op op_add (pv 2) (pe_op op_mul pe_int (pv 1))) pe_int))
      (pss_cons (ps_set (i := 2) sc__law_mix.nd rfl (Or.inl rfl) (pe_op op_mod (pe_op op_mul (pv 2) (pv 2)) pe_int))
      (pss_one (ps_ret (pe_op op_fdivW (pe_op op_mod (pe_op op_mul (pv 2) (pe_op op_add (pv 2) pe_int)) pe_int) pe_int)))))), ?_⟩
    have hk : -(2 ^ 64) < 1000003 * k ∧ 1000003 * k < 2 ^ 64 := by omega
    refine ⟨_, rfl, _, _, rfl, rfl, by walk_at "p", _, rfl, _, _, rfl, rfl, .inl (by decide), _, rfl, _, _, rfl, rfl, .inl hk, _, _, rfl, rfl, ?_⟩
    refine ⟨_, rfl, _, rfl, _, _, rfl, rfl, .inl (by decide), _, _, rfl, rfl, _, _, rfl, rfl, by walk_at "p", ?_⟩
    refine ⟨_, rfl, _, rfl, _, _, rfl, rfl, .inl ?_, _, _, rfl, rfl, by walk_at "p", ?_⟩
    · have b := mix_bound (a := c % 2147483629 + 1000003 * k * k + 7919 * k) (b := 2147483629) (by decide)
      exact ⟨by omega, by omega⟩
    generalize (c % 2147483629 + 1000003 * k * k + 7919 * k) % 2147483629 = n1
    have b := mix_bound (a := n1 * n1) (b := 2147483587) (by decide)
    generalize n1 * n1 % 2147483587 = n2 at b ⊢
    refine ⟨_, rfl, _, rfl, _, _, rfl, rfl, _, _, rfl, rfl, .inl ⟨by omega, by omega⟩, _, _, rfl, rfl, by walk_at "p", _, _, rfl, rfl, ⟨by decide, by decide +kernel⟩, ?_⟩
    exact q _

/-! ### _law_deck -/
def sp__law_deck (K : PySem.W.Frag) : Sp := fun vs H Q _ => ∃ (a : Addr) (ns : List Int), vs = [.ref a] ∧ SqL K H a (ns.map V.int) ∧ ∀ H' d c, Same H H' → H d = none → H c = none → Deck H' d c 0 → Q (.ref d) H'
theorem ok__law_deck (T : Txt K mg) : FnOk P w K mg base CX0 1 T.f__law_deck T.fd__law_deck ["script"] (sp__law_deck K) := by
  refine T.F__law_deck.ok sc__law_deck (fun vs H Q E h => ?_) (fun cdv A outer s H vs Q E hr h => ?_)
  · obtain ⟨_, _, rfl, _⟩ := h
    rfl
  · obtain ⟨a, ns, rfl, hS, q⟩ := h
    refine ⟨_, (pss_one (ps_ret (pe_lst (pa_cons (pe_slice sl_list (pv 0) po_none (po_some pe_int)) (pa_cons pe_int (pa_cons pe_int (pa_cons pe_int (pa_cons (pe_callB (cr_sum rfl) (by rfl) T.m_sum (by decide +kernel) (pa_cons (pe_slice sl_list (pv 0) po_none (po_some pe_int)) pa_nil)) pa_nil)))))))), ?_⟩
    have ec : cutV (ns.map V.int) none (some 63) = (ns.take 63).map V.int := by
      rw [List.map_take]
      exact cut_to _ 63
    refine ⟨_, rfl, _, rfl, a, _, rfl, hS, fun c hc => ?_⟩
    rw [ec]
    have s1 : Same H (upd H c (.lst ((ns.take 63).map V.int))) := Same.new hc
    refine ⟨_, rfl, _, rfl, a, _, rfl, s1.seq hS, fun e he => ?_⟩
    rw [ec]
    generalize hH1 : upd H c (.lst ((ns.take 63).map V.int)) = H1 at s1 he ⊢
    have s2 : Same H1 (upd H1 e (.lst ((ns.take 63).map V.int))) := Same.new he
    refine ⟨e, _, rfl, .of upd_same, by show 5 ≤ sizeLine; decide, fun d hd => ?_⟩
    generalize hH2 : upd H1 e (.lst ((ns.take 63).map V.int)) = H2 at s2 hd ⊢
    have hc1 : H1 c = some (.lst ((ns.take 63).map V.int)) := by rw [← hH1]; exact upd_same
    have s3 : Same H2 (upd H2 d (.lst [.ref c, .int 0, .int 0, .int 0, .int (ns.take 63).sum])) := Same.new hd
    refine q _ d c (s1.trans (s2.trans s3)) (s1.free (s2.free hd)) hc ⟨ns.take 63, 0, 0, 0, (ns.take 63).sum, upd_same, s3 _ _ (s2 _ _ hc1), ?_⟩
    omega

/-! ### _law_next -/
def sp__law_next (K : PySem.W.Frag) : Sp := fun vs H Q _ => ∃ (d : Addr) (many : Int) (c : Addr) (n : Nat), vs = [.ref d, .int many] ∧ Deck H d c n ∧ n < 2 ^ 40 ∧ 0 < many ∧ many < 2 ^ 200 ∧
  ∀ H' (r : Int), But d H H' → Deck H' d c (n + 1) → 0 ≤ r → r < many → Q (.int r) H'
theorem ok__law_next (T : Txt K mg) : FnOk P w K mg base CX0 2 T.f__law_next T.fd__law_next ["deck", "many"] (sp__law_next K) := by
  refine T.F__law_next.ok sc__law_next (fun vs H Q E h => ?_) (fun cdv A outer s H vs Q E hr h => ?_)
  · obtain ⟨_, _, _, _, rfl, _⟩ := h
    rfl
  · obtain ⟨d, many, c, n, rfl, hD, hn, h0, h9, q⟩ := h
    have hcd := hD.ne
    obtain ⟨ns, i, l, m, t, eD, eC, i0, i1, m0, m1⟩ := hD.ex
    have hw : ∀ x : Int, CDivW x many := fun x => divW 200 h0 h9
    have r0 : ∀ x : Int, 0 ≤ x % many := fun x => Int.emod_nonneg _ (by omega)
    have r1 : ∀ x : Int, x % many < many := fun x => Int.emod_lt_of_pos _ h0
    refine ⟨_, (C8.pss_cut (ps_if (PW.pt (pw_and (pt_cmpR op_eq (pe_ix ix_list (pv 0) pe_int (fun _ _ => rfl)) pe_int (nomark _)) (pw_and1 (pt_cmpR op_lt (pe_ix ix_list (pv 0) pe_int (fun _ _ => rfl)) (pe_callB call_len_seq (by rfl) T.m_len (by decide +kernel) (pa_cons (pe_ix ix_list (pv 0) pe_int (fun _ _ => rfl)) pa_nil)) (nomark _))))) (pss_cons (ps_set (i := 2) sc__law_next.nd rfl (Or.inl rfl) (pe_ix ix_list (pe_ix ix_list (pv 0) pe_int (fun _ _ => rfl)) (pe_ix ix_list (pv 0) pe_int (fun _ _ => rfl)) (fun _ _ => rfl)))
      (pss_cons (ps_asg (pe_op op_add (pe_ix ix_list (pv 0) pe_int (fun _ _ => rfl)) pe_int) (pg_sub (pv 0) pe_int set_list))
      (pss_cons (ps_if (pt_cmpR op_lt (pv 2) (pe_op op_pow pe_int pe_int) (nomark _)) (pss_one (ps_ret (pe_op op_mod (pe_call (ok__law_mix T) hr (by rfl) T.g__law_mix T.F__law_mix.kp T.b__law_mix .nil pass0 (pa_cons (pv 2) (pa_cons (pe_ix ix_list (pv 0) pe_int (fun _ _ => rfl)) pa_nil))) (pv 1)))) pss_nil)
      (pss_one (ps_asg (pv 2) (pg_sub (pv 0) pe_int set_list)))))) pss_nil)
      (pss_cons (ps_if (pt_cmpR op_gt (pe_ix ix_list (pv 0) pe_int (fun _ _ => rfl)) pe_int (nomark _)) (pss_cons (ps_set (i := 3) sc__law_next.nd rfl (Or.inl rfl) (pe_op op_mod (pe_ix ix_list (pv 0) pe_int (fun _ _ => rfl)) (pv 1)))
      (pss_cons (ps_asg (pe_op op_fdivW (pe_ix ix_list (pv 0) pe_int (fun _ _ => rfl)) (pv 1)) (pg_sub (pv 0) pe_int set_list))
      (pss_one (ps_ret (pv 3))))) pss_nil)
      (pss_cons (ps_asg (pe_op op_add (pe_ix ix_list (pv 0) pe_int (fun _ _ => rfl)) pe_int) (pg_sub (pv 0) pe_int set_list))
      (pss_one (ps_ret (pe_op op_mod (pe_call (ok__law_mix T) hr (by rfl) T.g__law_mix T.F__law_mix.kp T.b__law_mix .nil pass0 (pa_cons (pe_ix ix_list (pv 0) pe_int (fun _ _ => rfl)) (pa_cons (pe_op op_add (pe_ix ix_list (pv 0) pe_int (fun _ _ => rfl)) pe_int) pa_nil))) (pv 1))))))), ?_⟩
    refine ⟨fun σ' H1 => ∃ i' l' y, σ' = [some (.ref d), some (.int many), y, none] ∧ But d H H1 ∧ H1 d = some (.lst [.ref c, .int i', .int l', .int m, .int t]) ∧ H1 c = some (.lst (ns.map V.int)) ∧ 0 ≤ i' ∧ i' ≤ i + 1, ?_, ?_⟩
    · -- deck[2] == 0 and deck[1] < len(deck[0])
      refine ⟨_, rfl, d, _, 2, .int l, rfl, rfl, .of eD, atI_nat (j := 2) rfl, rfl, _, rfl, ite2 (fun e => ?_) (fun e => ?_)⟩
      · refine ⟨_, rfl, d, _, 1, .int i, rfl, rfl, .of eD, atI_nat (j := 1) rfl, _, rfl, d, _, 0, .ref c, rfl, rfl, .of eD, atI_nat (j := 0) rfl, c, _, rfl, .inl (.of eC), _, _, rfl, rfl, _, rfl, ite2 (fun e2 => ?_) (fun e2 => ?_)⟩
        · -- cell = deck[0][deck[1]]
          have e3 : i < (ns.length : Int) := by
            have z := of_decide_eq_true e2
            rw [List.length_map] at z
            exact z
          have hi : i.toNat < ns.length := by omega
          have ci : atI (ns.map V.int) i = some (.int ns[i.toNat]) := by
            have z : (ns.map V.int)[i.toNat]? = some (.int ns[i.toNat]) := by
              rw [List.getElem?_map, List.getElem?_eq_getElem hi]
              rfl
            have y := atI_nat z
            rw [show ((i.toNat : Nat) : Int) = i by omega] at y
            exact y
          generalize ns[i.toNat] = cell at ci
          refine ⟨_, rfl, d, _, 0, .ref c, rfl, rfl, .of eD, atI_nat (j := 0) rfl, _, rfl, d, _, 1, .int i, rfl, rfl, .of eD, atI_nat (j := 1) rfl, c, _, i, .int cell, rfl, rfl, .of eC, ci, ?_⟩
          -- deck[1] = deck[1] + 1
          refine ⟨_, rfl, d, _, 1, .int i, rfl, rfl, .of eD, atI_nat (j := 1) rfl, _, _, rfl, rfl, _, rfl, d, _, 1, 1, rfl, rfl, eD, rfl, ?_⟩
          have b1 : But d H (upd H d (.lst [.ref c, .int (i + 1), .int l, .int m, .int t])) := But.set
          have d1 : (upd H d (.lst [.ref c, .int (i + 1), .int l, .int m, .int t])) d = some (.lst [.ref c, .int (i + 1), .int l, .int m, .int t]) := upd_same
          have c1 : (upd H d (.lst [.ref c, .int (i + 1), .int l, .int m, .int t])) c = some (.lst (ns.map V.int)) := by rw [upd_ne hcd]; exact eC
          -- if cell < 10 ** 18
          refine ⟨_, rfl, 10, 18, rfl, rfl, ⟨by decide, by decide, by decide⟩, _, _, rfl, rfl, _, rfl, ite2 (fun e4 => ?_) (fun e4 => ?_)⟩
          · refine ⟨_, rfl, _, rfl, d, _, 1, .int (i + 1), rfl, rfl, .of d1, atI_nat (j := 1) rfl, cell, i + 1, rfl, by omega, by omega, fun r => ?_⟩
            exact ⟨_, rfl, _, _, rfl, rfl, h0, q _ _ b1 ⟨ns, i + 1, l, m, t, d1, c1, by omega, by omega, m0, by omega⟩ (r0 _) (r1 _)⟩
          · refine ⟨_, rfl, _, rfl, d, _, 2, 2, rfl, rfl, d1, rfl, ?_⟩
            refine ⟨i + 1, cell, some (.int cell), rfl, b1.trans But.set, upd_same, ?_, by omega, by omega⟩
            rw [upd_ne hcd]
            exact c1
        · exact ⟨i, l, none, rfl, But.refl _ _, eD, eC, i0, by omega⟩
      · exact ⟨i, l, none, rfl, But.refl _ _, eD, eC, i0, by omega⟩
    · -- if deck[2] > 0
      rintro σ' H1 ⟨i', l', y, rfl, b1, d1, c1, j0, j1⟩
      refine ⟨_, rfl, d, _, 2, .int l', rfl, rfl, .of d1, atI_nat (j := 2) rfl, _, _, rfl, rfl, _, rfl, ite2 (fun e => ?_) (fun e => ?_)⟩
      · refine ⟨_, rfl, d, _, 2, .int l', rfl, rfl, .of d1, atI_nat (j := 2) rfl, _, rfl, _, _, rfl, rfl, h0, ?_⟩
        refine ⟨_, rfl, d, _, 2, .int l', rfl, rfl, .of d1, atI_nat (j := 2) rfl, _, rfl, _, _, rfl, rfl, hw _, _, rfl, d, _, 2, 2, rfl, rfl, d1, rfl, ?_⟩
        refine ⟨_, rfl, q _ _ (b1.trans But.set) ⟨ns, i', l' / many, m, t, upd_same, ?_, j0, by omega, m0, by omega⟩ (r0 _) (r1 _)⟩
        rw [upd_ne hcd]
        exact c1
      · refine ⟨_, rfl, d, _, 3, .int m, rfl, rfl, .of d1, atI_nat (j := 3) rfl, _, _, rfl, rfl, _, rfl, d, _, 3, 3, rfl, rfl, d1, rfl, ?_⟩
        have d2 : (upd H1 d (.lst [.ref c, .int i', .int l', .int (m + 1), .int t])) d = some (.lst [.ref c, .int i', .int l', .int (m + 1), .int t]) := upd_same
        have c2 : (upd H1 d (.lst [.ref c, .int i', .int l', .int (m + 1), .int t])) c = some (.lst (ns.map V.int)) := by rw [upd_ne hcd]; exact c1
        refine ⟨_, rfl, d, _, 4, .int t, rfl, rfl, .of d2, atI_nat (j := 4) rfl, _, rfl, d, _, 3, .int (m + 1), rfl, rfl, .of d2, atI_nat (j := 3) rfl, _, _, rfl, rfl, t, _, rfl, by omega, by omega, fun r => ?_⟩
        exact ⟨_, rfl, _, _, rfl, rfl, h0, q _ _ (b1.trans But.set) ⟨ns, i', l', m + 1, t, d2, c2, j0, by omega, by omega, by omega⟩ (r0 _) (r1 _)⟩

/-! ### _law_pair -/
def sp__law_pair (K : PySem.W.Frag) : Sp := fun vs H Q _ => ∃ (d c : Addr) (n : Nat), vs = [.ref d] ∧ Deck H d c n ∧ n < 2 ^ 39 ∧
  ∀ H' (p : Addr) (b pw : Int), But d H H' → Deck H' d c (n + 3) → H p = none → H' p = some (.tup [.int b, .int pw]) → OkPair b pw → Q (.ref p) H'
theorem ok__law_pair (T : Txt K mg) : FnOk P w K mg base CX0 3 T.f__law_pair T.fd__law_pair ["deck"] (sp__law_pair K) := by
  refine T.F__law_pair.ok sc__law_pair (fun vs H Q E h => ?_) (fun cdv A outer s H vs Q E hr h => ?_)
  · obtain ⟨_, _, _, rfl, _⟩ := h
    rfl
  · obtain ⟨d, c, n, rfl, hD, hn, q⟩ := h
    refine ⟨_, (pss_cons (ps_set (i := 1) sc__law_pair.nd rfl (Or.inl rfl) (pe_op op_add pe_int (pe_call (ok__law_next T) hr (by rfl) T.g__law_next T.F__law_next.kp T.b__law_next .nil pass0 (pa_cons (pv 0) (pa_cons pe_int pa_nil)))))
      (pss_cons (ps_set (i := 2) sc__law_pair.nd rfl (Or.inl rfl) (pe_ix ix_list (pe_lst (pa_cons pe_int (pa_cons pe_int (pa_cons pe_int (pa_cons pe_int (pa_cons pe_int (pa_cons pe_int (pa_cons pe_int (pa_cons pe_int (pa_cons pe_int (pa_cons pe_int (pa_cons pe_int (pa_cons pe_int (pa_cons pe_int (pa_cons pe_int (pa_cons pe_int pa_nil)))))))))))))))) (pe_op op_sub (pv 1) pe_int) (fun _ _ => rfl)))
      (pss_one (ps_ret (pe_ix ix_list (pe_lst (pa_cons (pe_tup (pa_cons (pv 1) (pa_cons (pe_op op_add pe_int (pe_call (ok__law_next T) hr (by rfl) T.g__law_next T.F__law_next.kp T.b__law_next .nil pass0 (pa_cons (pv 0) (pa_cons (pv 2) pa_nil)))) pa_nil))) (pa_cons (pe_tup (pa_cons (pv 1) (pa_cons (pv 2) pa_nil))) pa_nil))) (pe_call (ok__law_next T) hr (by rfl) T.g__law_next T.F__law_next.kp T.b__law_next .nil pass0 (pa_cons (pv 0) (pa_cons pe_int pa_nil))) (fun _ _ => rfl)))))), ?_⟩
    refine ⟨_, rfl, d, 15, c, n, rfl, hD, by omega, by decide, by decide, fun H1 r b1 D1 r0 r1 => ?_⟩
    refine ⟨2, r, rfl, rfl, ?_⟩
    -- most = [..][base - 2]
    refine ⟨by show 15 ≤ sizeLine; decide, fun p1 hp1 => ?_⟩
    generalize g2 : upd _ p1 _ = H2
    obtain ⟨s2, t2⟩ := new_of g2 hp1
    have e1 : 2 ≤ 2 + r := by omega
    have e2 : 2 + r ≤ 16 := by omega
    have bm := most_pos e1 e2
    refine ⟨_, rfl, _, _, rfl, rfl, p1, mosts.map V.int, _, _, rfl, rfl, .of t2, most_at e1 e2, ?_⟩
    have D2 := D1.same s2
    -- the two pairs
    refine ⟨_, rfl, _, rfl, _, rfl, d, mostOf (2 + r), c, n + 1, rfl, D2, by omega, by omega, by omega, fun H3 r3 b3 D3 r30 r31 => ?_⟩
    refine ⟨1, r3, rfl, rfl, by show 2 ≤ sizeLine; decide, fun p4 hp4 => ?_⟩
    generalize g4 : upd _ p4 _ = H4
    obtain ⟨s4, t4⟩ := new_of g4 hp4
    refine ⟨_, rfl, _, rfl, by show 2 ≤ sizeLine; decide, fun p5 hp5 => ?_⟩
    generalize g5 : upd _ p5 _ = H5
    obtain ⟨s5, t5⟩ := new_of g5 hp5
    refine ⟨by show 2 ≤ sizeLine; decide, fun p6 hp6 => ?_⟩
    generalize g6 : upd _ p6 _ = H6
    obtain ⟨s6, t6⟩ := new_of g6 hp6
    have D6 : Deck H6 d c (n + 1 + 1) := ((D3.same s4).same s5).same s6
    refine ⟨_, rfl, d, 2, c, n + 1 + 1, rfl, D6, by omega, by decide, by decide, fun H7 r7 b7 D7 r70 r71 => ?_⟩
    have bAll : But d H H7 := b1.trans ((But.of s2).trans (b3.trans ((But.of (s4.trans (s5.trans s6))).trans b7)))
    have n6 : p6 ≠ d := by
      obtain ⟨xs, z⟩ := (((D3.same s4).same s5)).some
      exact (ne_of_none z hp6).symm
    have l7 : H7 p6 = some (.lst [.ref p4, .ref p5]) := b7 _ _ n6 t6
    have f0 : ∀ {p : Addr}, H3 p = none → H p = none := fun {p} z => b1.fresh D1.there (s2.free (b3.fresh D3.there z))
    have c01 : r7 = 0 ∨ r7 = 1 := by omega
    rcases c01 with rfl | rfl
    · refine ⟨p6, _, 0, .ref p4, rfl, rfl, .of l7, atI_nat (j := 0) rfl, ?_⟩
      exact q H7 p4 (2 + r) (1 + r3) bAll D7 (f0 hp4) (b7.tup D6 (s6 _ _ (s5 _ _ t4))) ⟨e1, e2, by omega, by omega⟩
    · refine ⟨p6, _, 1, .ref p5, rfl, rfl, .of l7, atI_nat (j := 1) rfl, ?_⟩
      exact q H7 p5 (2 + r) (mostOf (2 + r)) bAll D7 (f0 (s4.free hp5)) (b7.tup D6 (s6 _ _ t5)) ⟨e1, e2, by omega, by omega⟩

/-! ### _law_power -/
def sp__law_power (K : PySem.W.Frag) : Sp := fun vs H Q _ => ∃ f p : Int, vs = [.int f, .int p] ∧ 0 ≤ p ∧ p < 2 ^ 62 ∧ -(2 ^ 64) < f ∧ f < 2 ^ 64 ∧ Q (.int (f ^ p.toNat)) H
theorem ok__law_power (T : Txt K mg) : FnOk P w K mg base CX0 1 T.f__law_power T.fd__law_power ["number", "often"] (sp__law_power K) := by
  refine T.F__law_power.ok sc__law_power (fun vs H Q E h => ?_) (fun cdv A outer s H vs Q E hr h => ?_)
  · obtain ⟨_, _, rfl, _⟩ := h
    rfl
  · obtain ⟨f, p, rfl, h0, h1, h2, h3, q⟩ := h
    refine ⟨_, (pss_cons (ps_set (i := 2) sc__law_power.nd rfl (Or.inl rfl) pe_int)
      (pss_cons (ps_for PassesOwn.never rfl (pi_range1 (by rfl) T.m_range (pa_cons (pv 1) pa_nil)) (pg_name (i := 3) sc__law_power.nd rfl (Or.inl rfl)) (pss_one (ps_set (i := 2) sc__law_power.nd rfl (Or.inl rfl) (pe_op op_mul (pv 2) (pv 0)))))
      (pss_one (ps_ret (pv 2))))), ?_⟩
    refine ⟨_, rfl, _, rfl, by omega, by omega, for_range (lo := 0) (n := p.toNat) (fun i σ' H' => H' = H ∧ ∃ y, σ' = [some (.int f), some (.int p), some (.int (f ^ i)), y]) ⟨rfl, none, by rw [Int.pow_zero]; rfl⟩ ?_ ?_⟩
    · rintro i σ' H' hi ⟨rfl, y, rfl⟩
      refine ⟨_, rfl, _, rfl, _, _, rfl, rfl, .inr ⟨h2, h3⟩, rfl, some (.int (0 + i)), ?_⟩
      rw [Int.pow_succ]
      rfl
    · rintro σ' H' ⟨rfl, y, rfl⟩
      exact ⟨_, rfl, q⟩

/-! ### _law_due -/
def sp__law_due (K : PySem.W.Frag) : Sp := fun vs H Q _ => ∃ b p n : Int, vs = [.int b, .int p, .int n] ∧ OkPair b p ∧ ∀ L : Nat, IsLen b (worth b p) L → L ≤ 15 → Q (.bl (decide ((L : Int) ≤ n))) H
theorem len_more {b w : Int} {L : Nat} (h : IsLen b w L) (h2 : 2 ≤ b) (hw : 0 ≤ w) : ∀ k : Nat, ((L + k : Nat) : Int) * w < b ^ (L + k - 1)
  | 0 => h.less
  | k + 1 => by
    have i := len_more h h2 hw k
    have e : b ^ (L + (k + 1) - 1) = b ^ (L + k - 1) * b := by
      rw [← Int.pow_succ]
      congr 1
      have := h.two
      omega
    have t := h.two
    have a1 : ((L + (k + 1) : Nat) : Int) * w ≤ ((L + k : Nat) : Int) * w * 2 := by
      have : ((L + (k + 1) : Nat) : Int) * w = ((L + k : Nat) : Int) * w + w := by
        rw [← Nat.add_assoc, Int.natCast_add (L + k) 1, Int.add_mul]
        simp
      have a2 : w ≤ ((L + k : Nat) : Int) * w := by
        have := Int.mul_le_mul_of_nonneg_right (show (1 : Int) ≤ ((L + k : Nat) : Int) by omega) hw
        omega
      omega
    have a3 : b ^ (L + k - 1) * 2 ≤ b ^ (L + k - 1) * b := Int.mul_le_mul_of_nonneg_left h2 (Int.pow_nonneg (by omega))
    rw [e]
    omega
theorem len_iff {b w : Int} {L : Nat} (h : IsLen b w L) (h2 : 2 ≤ b) (hw : 0 ≤ w) {n : Int} (hn : 2 ≤ n) : (n * w < b ^ (n - 1).toNat) ↔ (L : Int) ≤ n := by
  have e1 : n = (n.toNat : Int) := by omega
  have e2 : (n - 1).toNat = n.toNat - 1 := by omega
  constructor
  · intro l
    by_cases z : (L : Int) ≤ n
    · exact z
    · have := h.least n.toNat (by omega) (by omega)
      rw [← e1, ← e2] at this
      omega
  · intro l
    have := len_more h h2 hw (n.toNat - L)
    rw [show L + (n.toNat - L) = n.toNat by omega, ← e1, ← e2] at this
    exact this
theorem ok__law_due (T : Txt K mg) : FnOk P w K mg base CX0 2 T.f__law_due T.fd__law_due ["base", "power", "length"] (sp__law_due K) := by
  refine T.F__law_due.ok sc__law_due (fun vs H Q E h => ?_) (fun cdv A outer s H vs Q E hr h => ?_)
  · obtain ⟨_, _, _, rfl, _⟩ := h
    rfl
  · obtain ⟨b, p, n, rfl, hp, q⟩ := h
    obtain ⟨h1, h2, h3, h4⟩ := id hp
    have p10 := hp.le10
    have hw := hp.worth
    obtain ⟨L, hL, l15⟩ := len_ex h1 hw.2
    refine ⟨_, (pss_cons (ps_if (pt_cmpR op_lt (pv 2) pe_int (nomark _)) (pss_one (ps_ret pe_bl)) pss_nil)
      (pss_cons (ps_set (i := 3) sc__law_due.nd rfl (Or.inl rfl) (pe_callB (call_min2 rfl) (by rfl) T.m_min (by decide +kernel) (pa_cons (pv 2) (pa_cons pe_int pa_nil))))
      (pss_one (ps_ret (pe_cmpR op_lt (pe_op op_mul (pv 3) (pe_call (ok__law_power T) hr (by rfl) T.g__law_power T.F__law_power.kp T.b__law_power .nil pass0 (pa_cons (pe_op op_sub (pv 0) pe_int) (pa_cons (pv 1) pa_nil)))) (pe_call (ok__law_power T) hr (by rfl) T.g__law_power T.F__law_power.kp T.b__law_power .nil pass0 (pa_cons (pv 0) (pa_cons (pe_op op_sub (pv 3) pe_int) pa_nil))) (nomark _)))))), ?_⟩
    have e0 := hL.two
    refine ⟨_, rfl, n, 2, rfl, rfl, _, rfl, ite2 (fun e => ?_) (fun e => ?_)⟩
    · have e1 : n < 2 := of_decide_eq_true e
      have e2 := q L hL l15
      rw [decide_eq_false (by omega)] at e2
      exact e2
    · have e1 : ¬ n < 2 := fun z => e (decide_eq_true z)
      refine ⟨_, rfl, n, 200, rfl, ?_⟩
      generalize hm : (if (200 : Int) < n then (200 : Int) else n) = m
      have m2 : 2 ≤ m ∧ m ≤ 200 ∧ ((L : Int) ≤ m ↔ (L : Int) ≤ n) := by
        split at hm <;> omega
      refine ⟨_, rfl, _, rfl, b, 1, rfl, rfl, _, rfl, b - 1, p, rfl, by omega, by omega, by omega, by omega, m, _, rfl, rfl, .inl (by omega), _, rfl, _, rfl, m, 1, rfl, rfl, b, m - 1, rfl, by omega, by omega, by omega, by omega, _, _, rfl, rfl, ?_⟩
      have e3 : decide (m * worth b p < b ^ (m - 1).toNat) = decide ((L : Int) ≤ n) := by
        rw [decide_eq_decide]
        exact (len_iff hL h1 (by omega) m2.1).trans m2.2.2
      show Q (.bl (decide (m * worth b p < b ^ (m - 1).toNat))) H
      rw [e3]
      exact q L hL l15

/-! ### law -/
def sp_law (K : PySem.W.Frag) : Sp := fun vs H Q _ => ∃ (a : Addr) (ns : List Int), vs = [.ref a] ∧ SqL K H a (ns.map V.int) ∧ ns.length ≤ 63 ∧ ∀ H', Q (.bl true) H'
theorem law_start {K : PySem.W.Frag} {H : Hp} {a : Addr} {ns : List Int} {E : XK} (hl : ns.length ≤ 63) (hS : SqL K H a (ns.map V.int)) : sp_law K [.ref a] H (fun v _ => v = .bl true) E := ⟨a, ns, rfl, hS, hl, fun _ => rfl⟩
theorem ok1 : OkPair 10 3 := by unfold OkPair; decide
theorem at1 : IsLen 10 (worth 10 3) 5 := by
  refine ⟨by decide, by decide, fun k a b => ?_⟩
  obtain rfl | rfl | rfl : k = 2 ∨ k = 3 ∨ k = 4 := by omega
  all_goals decide
theorem ok_law (T : Txt K mg) : FnOk P w K mg base CX0 4 T.f_law T.fd_law ["script"] (sp_law K) := by
  refine T.F_law.ok sc_law (fun vs H Q E h => ?_) (fun cdv A outer s H vs Q E hr h => ?_)
  · obtain ⟨_, _, rfl, _⟩ := h
    rfl
  · obtain ⟨a, ns, rfl, hS, hl, q⟩ := h
    refine ⟨_, (pss_cons (ps_set (i := 1) sc_law.nd rfl (Or.inl rfl) (pe_call (ok__law_deck T) (hr.mono (by decide)) (by rfl) T.g__law_deck T.F__law_deck.kp T.b__law_deck .nil pass0 (pa_cons (pv 0) pa_nil)))
      (pss_cons (ps_for PassesOwn.never rfl (pi_range1 (by rfl) T.m_range (pa_cons pe_int pa_nil)) (pg_name (i := 2) sc_law.nd rfl (Or.inl rfl)) (pss_cons (ps_asg (pe_call (ok__law_pair T) hr (by rfl) T.g__law_pair T.F__law_pair.kp T.b__law_pair .nil pass0 (pa_cons (pv 1) pa_nil)) (pg_tup rfl (pgs_cons (pg_name (i := 3) sc_law.nd rfl (Or.inl rfl)) (pgs_cons (pg_name (i := 4) sc_law.nd rfl (Or.inl rfl)) pgs_nil))))
      (pss_cons (ps_set (i := 5) sc_law.nd rfl (Or.inl rfl) (pe_op op_add (pe_op op_mulW (pe_call (ok__law_next T) (hr.mono (by decide)) (by rfl) T.g__law_next T.F__law_next.kp T.b__law_next .nil pass0 (pa_cons (pv 1) (pa_cons (pe_op op_pow pe_int pe_int) pa_nil))) (pe_op op_pow pe_int pe_int)) (pe_call (ok__law_next T) (hr.mono (by decide)) (by rfl) T.g__law_next T.F__law_next.kp T.b__law_next .nil pass0 (pa_cons (pv 1) (pa_cons (pe_op op_pow pe_int pe_int) pa_nil)))))
      (pss_cons (ps_set (i := 6) sc_law.nd rfl (Or.inl rfl) (pe_op op_cat (pe_listRg rfl (by rfl) T.m_list (prg_2 (by rfl) T.m_range (pe_un un_neg pe_int) pe_int)) (pe_lst (pa_cons (pe_call (ok__law_next T) (hr.mono (by decide)) (by rfl) T.g__law_next T.F__law_next.kp T.b__law_next .nil pass0 (pa_cons (pv 1) (pa_cons pe_int pa_nil))) (pa_cons (pe_op op_sub pe_int (pv 5)) (pa_cons (pv 5) (pa_cons (pe_op op_sub (pe_op op_pow pe_int pe_int) pe_int) (pa_cons (pe_op op_sub pe_int (pe_op op_pow pe_int pe_int)) pa_nil))))))))
      (pss_one (ps_for PassesOwn.never rfl (pi_list (pv 6)) (pg_name (i := 7) sc_law.nd rfl (Or.inl rfl)) (pss_cons (ps_set (i := 8) sc_law.nd rfl (Or.inl rfl) (pe_call (ok_length_shown T) hr (by rfl) T.g_length_shown T.F_length_shown.kp T.b_length_shown .nil pass0 (pa_cons (pv 3) (pa_cons (pv 4) (pa_cons (pv 7) pa_nil)))))
      (pss_cons (ps_if (PW.pt (pw_or (pt_not (pt_val (pe_callB call_isi (by rfl) T.m_isinstance (by decide +kernel) (pa_cons (pv 8) (pa_cons (pe_bltn (v := .ty "bool") (by rfl) T.m_bool (by decide +kernel) rfl) pa_nil))))) (pw_or1 (pt_cmpR op_ne (pv 8) (pe_call (ok__law_due T) (hr.mono (by decide)) (by rfl) T.g__law_due T.F__law_due.kp T.b__law_due .nil pass0 (pa_cons (pv 3) (pa_cons (pv 4) (pa_cons (pv 7) pa_nil)))) (nomark _))))) (pss_one (ps_ret pe_bl)) pss_nil)
      (pss_one (ps_if (pt_cmpR op_ne (pe_call (ok_length_shown T) hr (by rfl) T.g_length_shown T.F_length_shown.kp T.b_length_shown .nil pass0 (pa_cons (pv 3) (pa_cons (pv 4) (pa_cons (pv 7) pa_nil)))) (pv 8) (nomark _)) (pss_one (ps_ret pe_bl)) pss_nil))))))))))
      (pss_one (ps_ret (pe_and (pe_cmpR op_isBl (pe_call (ok_length_shown T) hr (by rfl) T.g_length_shown T.F_length_shown.kp T.b_length_shown .nil pass0 (pa_cons pe_int (pa_cons pe_int (pa_cons pe_int pa_nil)))) pe_bl (nomark _)) (pe_one (pe_cmpR op_isBl (pe_call (ok_length_shown T) hr (by rfl) T.g_length_shown T.F_length_shown.kp T.b_length_shown .nil pass0 (pa_cons pe_int (pa_cons pe_int (pa_cons pe_int pa_nil)))) pe_bl (nomark _)))))))), ?_⟩
    refine ⟨_, rfl, a, ns, rfl, hS, fun H1 d c s1 nd nc D1 => ?_⟩
    refine ⟨8, rfl, by decide, by decide, for_range (lo := 0) (n := 8) (fun i σ' H' => Deck H' d c (6 * i) ∧ ∃ y2 y3 y4 y5 y6 y7 y8, σ' = [some (.ref a), some (.ref d), y2, y3, y4, y5, y6, y7, y8]) ⟨D1, _, _, _, _, _, _, _, rfl⟩ ?_ ?_⟩
    · rintro i σ' H2 hi ⟨D2, y2, y3, y4, y5, y6, y7, y8, rfl⟩
      -- base, power
      refine ⟨_, rfl, d, c, 6 * i, rfl, D2, by omega, fun H3 pa b p b3 D3 n3 e3 ok => ?_⟩
      refine ⟨pa, _, rfl, .of e3, rfl, _, _, rfl, _, _, rfl, rfl, ?_⟩
      -- far
      refine ⟨_, rfl, 10, 20, rfl, rfl, ⟨by decide, by decide, by decide⟩, d, 10 ^ 20, c, _, rfl, D3, by omega, by decide, by decide, fun H4 r4 b4 D4 u4 v4 => ?_⟩
      refine ⟨10, 20, rfl, rfl, ⟨by decide, by decide, by decide⟩, r4, 10 ^ 20, rfl, rfl, wide_mul (a := 200) (b := 200) (by omega) (by decide) (by decide) (by decide) (by decide), ?_⟩
      refine ⟨_, rfl, 10, 20, rfl, rfl, ⟨by decide, by decide, by decide⟩, d, 10 ^ 20, c, _, rfl, D4, by omega, by decide, by decide, fun H5 r5 b5 D5 u5 v5 => ⟨_, _, rfl, rfl, ?_⟩⟩
      -- some
      refine ⟨1, rfl, -1, 18, rfl, rfl, by unfold RgOk; decide, fun p6 hp6 => ?_⟩
      generalize g6 : upd H5 p6 _ = H6
      obtain ⟨s6, t6⟩ := new_of g6 hp6
      have D6 := D5.same s6
      have o6 := D5.out hp6
      refine ⟨_, rfl, d, 61, c, _, rfl, D6, by omega, by decide, by decide, fun H7 r7 b7 D7 u7 v7 => ?_⟩
      refine ⟨_, rfl, _, _, rfl, rfl, _, rfl, 10, 40, rfl, rfl, ⟨by decide, by decide, by decide⟩, _, _, rfl, rfl, 10, 40, rfl, rfl, ⟨by decide, by decide, by decide⟩, _, _, rfl, rfl, by show 5 ≤ sizeLine; decide, fun p8 hp8 => ?_⟩
      generalize g8 : upd H7 p8 _ = H8
      obtain ⟨s8, t8⟩ := new_of g8 hp8
      refine ⟨p6, p8, _, _, rfl, rfl, s8 _ _ (b7 _ _ o6.1 t6), t8, by rw [rgV_length]; show 24 ≤ sizeLine; decide, fun p9 hp9 => ?_⟩
      generalize g9 : upd H8 p9 _ = H9
      obtain ⟨s9, t9⟩ := new_of g9 hp9
      have D9 := (D7.same s8).same s9
      -- the lengths
      have ai : ∃ zs : List Int, H9 p9 = some (.lst (zs.map V.int)) := by
        refine ⟨(List.range 19).map (fun (i : Nat) => (-1 : Int) + ((i : Nat) : Int)) ++ [r7, 0 - (r4 * 10 ^ 20 + r5), r4 * 10 ^ 20 + r5, 10 ^ 40 - 1, 1 - 10 ^ 40], ?_⟩
        rw [t9, List.map_append, List.map_map]
        rfl
      obtain ⟨zs, t⟩ := ai
      obtain ⟨L, hL, l15⟩ := len_ex ok.1 ok.worth.2
      refine ⟨_, rfl, p9, rfl, ⟨_, .of t⟩, for_list (xs := zs.map V.int) (fun i σ' H' => H' = H9 ∧ ∃ y2 y5 y6 y7 y8, σ' = [some (.ref a), some (.ref d), y2, some (.int b), some (.int p), y5, y6, y7, y8]) ⟨rfl, _, _, _, _, _, rfl⟩ ?_ ?_ ?_⟩
      · rintro j σ' H' hj ⟨rfl, _⟩
        exact .of t
      · rintro j x σ' H' hx ⟨rfl, z2, z5, z6, z7, z8, rfl⟩
        obtain ⟨n, hn, rfl⟩ : ∃ n, n ∈ zs ∧ V.int n = x := List.mem_map.mp (List.mem_of_getElem? hx)
        refine ⟨_, rfl, _, rfl, _, rfl, b, p, n, rfl, ok, fun L1 hL1 l1 => ?_⟩
        rw [hL1.uniq hL]
        refine ⟨_, rfl, _, _, _, _, true, rfl, .ty "bool", .base (.bl _), kit_ty (by decide +kernel), true, rfl, ?_⟩
        refine ⟨_, rfl, _, rfl, _, rfl, _, rfl, b, p, n, rfl, ok, fun L2 hL2 l2 => ?_⟩
        rw [hL2.uniq hL]
        refine ⟨rfl, _, rfl, ?_⟩
        rw [decide_eq_true (p := V.bl _ = V.bl _) rfl]
        refine iteF ?_
        refine ⟨_, rfl, _, rfl, _, rfl, b, p, n, rfl, ok, fun L3 hL3 l3 => ?_⟩
        rw [hL3.uniq hL]
        refine ⟨_, rfl, rfl, _, rfl, ?_⟩
        rw [decide_eq_true (p := V.bl _ = V.bl _) rfl]
        exact iteF ⟨rfl, _, _, _, _, _, rfl⟩
      · rintro σ' H' ⟨rfl, z2, z5, z6, z7, z8, rfl⟩
        exact ⟨D9.mono (by omega), _, _, _, _, _, _, _, rfl⟩
    · rintro σ' H2 ⟨D2, y2, y3, y4, y5, y6, y7, y8, rfl⟩
      refine ⟨10, 3, 4, rfl, ok1, fun L hL l15 => ⟨_, false, rfl, rfl, true, ?_, iteT ?_⟩⟩
      · rw [hL.uniq at1]
        rfl
      refine ⟨10, 3, 5, rfl, ok1, fun L hL l15 => ⟨_, true, rfl, rfl, ?_⟩⟩
      rw [hL.uniq at1]
      exact q _

end
theorem all_mk {l : PySem.W.OpenLaw} {w : World} {K : PySem.W.Frag} {h : Heap} {mg : Str → Option Value} {fa f0 f1 f2 f3 f4 f5 f6 f7 f8 f9 : Addr} (X : K.In h) (G : h.Ns mainGlobals mg) (hfa : mg "law" = some (.ref fa))
    {od0 an0 od1 an1 od2 an2 od3 an3 od4 an4 od5 an5 od6 an6 od7 an7 od8 an8 od9 an9 : Option Addr} {sl0 sl1 sl2 sl3 sl4 sl5 sl6 sl7 sl8 sl9 : Array (Option Value)} {oc0 kV0 dc0 pm0 cd0 ct0 oc1 kV1 dc1 pm1 cd1 ct1 oc2 kV2 dc2 pm2 cd2 ct2 oc3 kV3 dc3 pm3 cd3 ct3 oc4 kV4 dc4 pm4 cd4 ct4 oc5 kV5 dc5 pm5 cd5 ct5 oc6 kV6 dc6 pm6 cd6 ct6 oc7 kV7 dc7 pm7 cd7 ct7 oc8 kV8 dc8 pm8 cd8 ct8 oc9 kV9 dc9 pm9 cd9 ct9 : Value}
    (a0 : PySem.W.nsIn K mainGlobals "power_of" = some (some (.ref f0))) (l0 : K.lookup f0 = some ⟨oc0, od0, .func (PySem.W.fnOf "power_of" "power_of" (defArgs s_power_of) (defBody s_power_of) (defScope s_power_of) .none kV0 dc0 pm0 an0 cd0 ct0), sl0⟩) (c0 : PySem.W.codeIn K cd0 "power_of" = true) (k0 : PySem.W.keepIn K (.ref f0) = true)
    (a1 : PySem.W.nsIn K mainGlobals "length_down" = some (some (.ref f1))) (l1 : K.lookup f1 = some ⟨oc1, od1, .func (PySem.W.fnOf "length_down" "length_down" (defArgs s_length_down) (defBody s_length_down) (defScope s_length_down) .none kV1 dc1 pm1 an1 cd1 ct1), sl1⟩) (c1 : PySem.W.codeIn K cd1 "length_down" = true) (k1 : PySem.W.keepIn K (.ref f1) = true)
    (a2 : PySem.W.nsIn K mainGlobals "length_shown" = some (some (.ref f2))) (l2 : K.lookup f2 = some ⟨oc2, od2, .func (PySem.W.fnOf "length_shown" "length_shown" (defArgs s_length_shown) (defBody s_length_shown) (defScope s_length_shown) .none kV2 dc2 pm2 an2 cd2 ct2), sl2⟩) (c2 : PySem.W.codeIn K cd2 "length_shown" = true) (k2 : PySem.W.keepIn K (.ref f2) = true)
    (a3 : PySem.W.nsIn K mainGlobals "_law_mix" = some (some (.ref f3))) (l3 : K.lookup f3 = some ⟨oc3, od3, .func (PySem.W.fnOf "_law_mix" "_law_mix" (defArgs s__law_mix) (defBody s__law_mix) (defScope s__law_mix) .none kV3 dc3 pm3 an3 cd3 ct3), sl3⟩) (c3 : PySem.W.codeIn K cd3 "_law_mix" = true) (k3 : PySem.W.keepIn K (.ref f3) = true)
    (a4 : PySem.W.nsIn K mainGlobals "_law_deck" = some (some (.ref f4))) (l4 : K.lookup f4 = some ⟨oc4, od4, .func (PySem.W.fnOf "_law_deck" "_law_deck" (defArgs s__law_deck) (defBody s__law_deck) (defScope s__law_deck) .none kV4 dc4 pm4 an4 cd4 ct4), sl4⟩) (c4 : PySem.W.codeIn K cd4 "_law_deck" = true) (k4 : PySem.W.keepIn K (.ref f4) = true)
    (a5 : PySem.W.nsIn K mainGlobals "_law_next" = some (some (.ref f5))) (l5 : K.lookup f5 = some ⟨oc5, od5, .func (PySem.W.fnOf "_law_next" "_law_next" (defArgs s__law_next) (defBody s__law_next) (defScope s__law_next) .none kV5 dc5 pm5 an5 cd5 ct5), sl5⟩) (c5 : PySem.W.codeIn K cd5 "_law_next" = true) (k5 : PySem.W.keepIn K (.ref f5) = true)
    (a6 : PySem.W.nsIn K mainGlobals "_law_pair" = some (some (.ref f6))) (l6 : K.lookup f6 = some ⟨oc6, od6, .func (PySem.W.fnOf "_law_pair" "_law_pair" (defArgs s__law_pair) (defBody s__law_pair) (defScope s__law_pair) .none kV6 dc6 pm6 an6 cd6 ct6), sl6⟩) (c6 : PySem.W.codeIn K cd6 "_law_pair" = true) (k6 : PySem.W.keepIn K (.ref f6) = true)
    (a7 : PySem.W.nsIn K mainGlobals "_law_power" = some (some (.ref f7))) (l7 : K.lookup f7 = some ⟨oc7, od7, .func (PySem.W.fnOf "_law_power" "_law_power" (defArgs s__law_power) (defBody s__law_power) (defScope s__law_power) .none kV7 dc7 pm7 an7 cd7 ct7), sl7⟩) (c7 : PySem.W.codeIn K cd7 "_law_power" = true) (k7 : PySem.W.keepIn K (.ref f7) = true)
    (a8 : PySem.W.nsIn K mainGlobals "_law_due" = some (some (.ref f8))) (l8 : K.lookup f8 = some ⟨oc8, od8, .func (PySem.W.fnOf "_law_due" "_law_due" (defArgs s__law_due) (defBody s__law_due) (defScope s__law_due) .none kV8 dc8 pm8 an8 cd8 ct8), sl8⟩) (c8 : PySem.W.codeIn K cd8 "_law_due" = true) (k8 : PySem.W.keepIn K (.ref f8) = true)
    (a9 : PySem.W.nsIn K mainGlobals "law" = some (some (.ref f9))) (l9 : K.lookup f9 = some ⟨oc9, od9, .func (PySem.W.fnOf "law" "law" (defArgs s_law) (defBody s_law) (defScope s_law) .none kV9 dc9 pm9 an9 cd9 ct9), sl9⟩) (c9 : PySem.W.codeIn K cd9 "law" = true) (k9 : PySem.W.keepIn K (.ref f9) = true)
    (z0 : PySem.W.nsIn K mainGlobals "bool" = some none)
    (z1 : PySem.W.nsIn K mainGlobals "isinstance" = some none)
    (z2 : PySem.W.nsIn K mainGlobals "len" = some none)
    (z3 : PySem.W.nsIn K mainGlobals "list" = some none)
    (z4 : PySem.W.nsIn K mainGlobals "min" = some none)
    (z5 : PySem.W.nsIn K mainGlobals "range" = some none)
    (z6 : PySem.W.nsIn K mainGlobals "sum" = some none)
    : ∃ fd : FuncData, (∀ (s : Shared) (v : Value), BindsTo s fd ⟨[v], []⟩ [("script", v)]) ∧ ∀ base : Heap, K.In base → base.Ns mainGlobals mg → FnOk l.prog w K mg base CX0 4 fa fd ["script"] (sp_law K) := by
  have e := hfa.symm.trans (PySem.W.mg_of X G a9)
  cases e
  have F0 := fun_mk (st := s_power_of) l0 c0 k0
  have F1 := fun_mk (st := s_length_down) l1 c1 k1
  have F2 := fun_mk (st := s_length_shown) l2 c2 k2
  have F3 := fun_mk (st := s__law_mix) l3 c3 k3
  have F4 := fun_mk (st := s__law_deck) l4 c4 k4
  have F5 := fun_mk (st := s__law_next) l5 c5 k5
  have F6 := fun_mk (st := s__law_pair) l6 c6 k6
  have F7 := fun_mk (st := s__law_power) l7 c7 k7
  have F8 := fun_mk (st := s__law_due) l8 c8 k8
  have F9 := fun_mk (st := s_law) l9 c9 k9
  let T : Txt K mg := {
    f_power_of := f0,
    fd_power_of := _,
    F_power_of := F0,
    g_power_of := PySem.W.mg_of X G a0,
    b_power_of := F0.binds (ps := ["figure", "power"]) (fun _ _ _ _ _ _ us hl => match us, hl with | [_, _], _ => rfl),
    f_length_down := f1,
    fd_length_down := _,
    F_length_down := F1,
    g_length_down := PySem.W.mg_of X G a1,
    b_length_down := F1.binds (ps := ["base", "power"]) (fun _ _ _ _ _ _ us hl => match us, hl with | [_, _], _ => rfl),
    f_length_shown := f2,
    fd_length_shown := _,
    F_length_shown := F2,
    g_length_shown := PySem.W.mg_of X G a2,
    b_length_shown := F2.binds (ps := ["base", "power", "length"]) (fun _ _ _ _ _ _ us hl => match us, hl with | [_, _, _], _ => rfl),
    f__law_mix := f3,
    fd__law_mix := _,
    F__law_mix := F3,
    g__law_mix := PySem.W.mg_of X G a3,
    b__law_mix := F3.binds (ps := ["cell", "k"]) (fun _ _ _ _ _ _ us hl => match us, hl with | [_, _], _ => rfl),
    f__law_deck := f4,
    fd__law_deck := _,
    F__law_deck := F4,
    g__law_deck := PySem.W.mg_of X G a4,
    b__law_deck := F4.binds (ps := ["script"]) (fun _ _ _ _ _ _ us hl => match us, hl with | [_], _ => rfl),
    f__law_next := f5,
    fd__law_next := _,
    F__law_next := F5,
    g__law_next := PySem.W.mg_of X G a5,
    b__law_next := F5.binds (ps := ["deck", "many"]) (fun _ _ _ _ _ _ us hl => match us, hl with | [_, _], _ => rfl),
    f__law_pair := f6,
    fd__law_pair := _,
    F__law_pair := F6,
    g__law_pair := PySem.W.mg_of X G a6,
    b__law_pair := F6.binds (ps := ["deck"]) (fun _ _ _ _ _ _ us hl => match us, hl with | [_], _ => rfl),
    f__law_power := f7,
    fd__law_power := _,
    F__law_power := F7,
    g__law_power := PySem.W.mg_of X G a7,
    b__law_power := F7.binds (ps := ["number", "often"]) (fun _ _ _ _ _ _ us hl => match us, hl with | [_, _], _ => rfl),
    f__law_due := f8,
    fd__law_due := _,
    F__law_due := F8,
    g__law_due := PySem.W.mg_of X G a8,
    b__law_due := F8.binds (ps := ["base", "power", "length"]) (fun _ _ _ _ _ _ us hl => match us, hl with | [_, _, _], _ => rfl),
    f_law := fa,
    fd_law := _,
    F_law := F9,
    g_law := PySem.W.mg_of X G a9,
    b_law := F9.binds (ps := ["script"]) (fun _ _ _ _ _ _ us hl => match us, hl with | [_], _ => rfl),
    m_bool := PySem.W.mg_none_of X G z0,
    m_isinstance := PySem.W.mg_none_of X G z1,
    m_len := PySem.W.mg_none_of X G z2,
    m_list := PySem.W.mg_none_of X G z3,
    m_min := PySem.W.mg_none_of X G z4,
    m_range := PySem.W.mg_none_of X G z5,
    m_sum := PySem.W.mg_none_of X G z6 }
  exact ⟨_, fun s v => .of_eq rfl, fun base _ _ => ok_law T⟩
end Fx
open PySem PySem.W PyProof.Rows
set_option maxHeartbeats 0 in
theorem PySem.Challenge.cw_figurerounds_k07_lengths_looked_at_holds : PySem.Challenge.rw_figurerounds_k07_lengths_looked_at.Holds := by
  w_on; o_law; k_head; (case hw => w_witness2)
  k_fill
  refine L2.walk_of (l := PySem.Challenge.rw_figurerounds_k07_lengths_looked_at) (n := 63) (k := 4) (x := "script") (CX := fun _ => L2.CX0) (sp := fun w => Fx.sp_law _) rfl (by decide) rfl ⟨rfl, by decide, by decide⟩ (fun w h Y => PySem.W.kIn_of Y) ?F (fun _ _ a ns hl _ hS => Fx.law_start hl hS) (fun _ _ _ _ _ h => h)
  case F =>
    intro w mg fa h KX G hmg
    refine' Fx.all_mk KX G hmg ?a0 ?l0 ?c0 ?k0 ?a1 ?l1 ?c1 ?k1 ?a2 ?l2 ?c2 ?k2 ?a3 ?l3 ?c3 ?k3 ?a4 ?l4 ?c4 ?k4 ?a5 ?l5 ?c5 ?k5 ?a6 ?l6 ?c6 ?k6 ?a7 ?l7 ?c7 ?k7 ?a8 ?l8 ?c8 ?k8 ?a9 ?l9 ?c9 ?k9 ?z0 ?z1 ?z2 ?z3 ?z4 ?z5 ?z6
    (case a0 => k_is); (case l0 => k_is); (case c0 => k_is); (case k0 => k_is); (case a1 => k_is); (case l1 => k_is); (case c1 => k_is); (case k1 => k_is); (case a2 => k_is); (case l2 => k_is); (case c2 => k_is); (case k2 => k_is); (case a3 => k_is); (case l3 => k_is); (case c3 => k_is); (case k3 => k_is); (case a4 => k_is); (case l4 => k_is); (case c4 => k_is); (case k4 => k_is); (case a5 => k_is); (case l5 => k_is); (case c5 => k_is); (case k5 => k_is); (case a6 => k_is); (case l6 => k_is); (case c6 => k_is); (case k6 => k_is); (case a7 => k_is); (case l7 => k_is); (case c7 => k_is); (case k7 => k_is); (case a8 => k_is); (case l8 => k_is); (case c8 => k_is); (case k8 => k_is); (case a9 => k_is); (case l9 => k_is); (case c9 => k_is); (case k9 => k_is); (case z0 => k_is); (case z1 => k_is); (case z2 => k_is); (case z3 => k_is); (case z4 => k_is); (case z5 => k_is); (case z6 => k_is)
