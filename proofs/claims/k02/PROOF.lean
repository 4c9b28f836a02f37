import PyProof.Rows.All
import Wide.All
import OpenK.AllK
import Wide.FinOn
import HandS.ForMost
import HandS.Wide
import HandS.Style
import HandS.IsInst
import HandS.Conv
import HandS.Codes
import HandS.TupAny
import HandS.Exc
import HandS.ExcIs
import HandS.ExcField
import HandS.ExcInit
import KE.KExcIs
import HandS.ExcOwn
import HandS.Nested
import HandS.FStr
import KE.KExcSuper
import HandS.ForExc
import HandS.WordsExc
import KE.RegKSuper
import HandS.Walk
import KE.GoesEnum
import HandS.SetFor
import PyProof.StrOps2
import PyProof.EqKinds
import PySem.Challenge.RW_figurerounds_k02_no_numbers
set_option Elab.async false
set_option linter.all false
set_option maxRecDepth 100000
set_option maxHeartbeats 4000000

/-! my own words for readings: "rd" goes on while there is one way only -/
local macro_rules | `(tactic| walk_at "cc") => `(tactic| first
  | (with_reducible exact rfl) | (dsimp only [CMul, CDivW]; omega) | (exact ⟨by decide +kernel, by decide +kernel⟩) | decide +kernel)
local macro_rules | `(tactic| walk_at "rd1") => `(tactic| first
  | refine ⟨_, rfl, ?_⟩ | refine ⟨_, _, rfl, rfl, ?_⟩ | refine ⟨rfl, ?_⟩)
local macro_rules | `(tactic| walk_at "rd") => `(tactic| repeat (walk_at "rd1"))

local macro_rules | `(tactic| walk_at "p") => `(tactic| ((show (0 : Int) < _); first | assumption | omega | decide))

namespace Fx
open PySem PySem.Spec PyProof.Rows L2

/-! ### rules named by their readings, for comprehensions -/
def rLenQ (K : PySem.W.Frag) : List V → Hp → VK → Prop := fun xs H Q => ∃ p ys, xs = [V.ref p] ∧ (SqL K H p ys ∨ SqT K H p ys) ∧ Q (.int ys.length) H
def rListQ (K : PySem.W.Frag) : List V → Hp → VK → Prop := fun xs H Q => ∃ p ys, xs = [V.ref p] ∧ (SqL K H p ys ∨ SqT K H p ys) ∧ ∀ l, H l = none → Q (.ref l) (upd H l (.lst ys))

/-! ### what stays -/
def But (d : Addr) (H H' : Hp) : Prop := ∀ b o, b ≠ d → H b = some o → H' b = some o
theorem But.refl (d : Addr) (H : Hp) : But d H H := fun _ _ _ h => h
theorem But.trans {d : Addr} {H H1 H2 : Hp} (a : But d H H1) (b : But d H1 H2) : But d H H2 := fun x o n h => b x o n (a x o n h)
theorem But.of {d : Addr} {H H' : Hp} (a : Same H H') : But d H H' := fun x o _ h => a x o h
theorem But.new {d p : Addr} {H : Hp} {o : HO} (h : H p = none) : But d H (upd H p o) := fun b u _ e => by
  rw [upd_ne (ne_of_none e h)]
  exact e
theorem But.set {d : Addr} {H : Hp} {o : HO} : But d H (upd H d o) := fun b u n e => by
  rw [upd_ne n]
  exact e
theorem But.fresh {d p : Addr} {H H' : Hp} (a : But d H H') (hd : ∃ o, H' d = some o) (h : H' p = none) : H p = none := by
  cases e : H p with
  | none => rfl
  | some o =>
    by_cases z : p = d
    · obtain ⟨u, hu⟩ := hd
      rw [z, hu] at h
      cases h
    · rw [a p o z e] at h
      cases h
theorem Same.new {p : Addr} {H : Hp} {o : HO} (h : H p = none) : Same H (upd H p o) := fun b u e => by
  rw [upd_ne (ne_of_none e h)]
  exact e

/-- behind a new object, named by «generalize g : upd H p _ = H'» -/
theorem new_of {H H' : Hp} {p : Addr} {o : HO} (g : upd H p o = H') (hp : H p = none) : Same H H' ∧ H' p = some o := by
  subst g
  exact ⟨Same.new hp, upd_same⟩
theorem set_of {H H' : Hp} {p : Addr} {o : HO} (g : upd H p o = H') : But p H H' ∧ H' p = some o := by
  subst g
  exact ⟨But.set, upd_same⟩

/-! ### the draws -/
/-- the cells at c, the deck at d, at most n draws so far -/
structure Deck (H : Hp) (d c : Addr) (n : Nat) : Prop where
  ex : ∃ (ns : List Int) (i l m t : Int), H d = some (.lst [.ref c, .int i, .int l, .int m, .int t]) ∧ H c = some (.lst (ns.map V.int)) ∧ 0 ≤ i ∧ i ≤ n ∧ 0 ≤ m ∧ m ≤ n
theorem Deck.there {H : Hp} {d c : Addr} {n : Nat} (h : Deck H d c n) : ∃ o, H d = some o := by
  obtain ⟨ns, i, l, m, t, e, _⟩ := h.ex
  exact ⟨_, e⟩
theorem Deck.some {H : Hp} {d c : Addr} {n : Nat} (h : Deck H d c n) : ∃ xs, H d = some (.lst xs) := by
  obtain ⟨ns, i, l, m, t, e, _⟩ := h.ex
  exact ⟨_, e⟩
theorem Deck.ne {H : Hp} {d c : Addr} {n : Nat} (h : Deck H d c n) : c ≠ d := by
  obtain ⟨ns, i, l, m, t, e, e2, _⟩ := h.ex
  intro z
  rw [z, e] at e2
  cases ns with
  | nil => cases e2
  | cons x r => cases e2
theorem Deck.mono {H : Hp} {d c : Addr} {n k : Nat} (h : Deck H d c n) (l : n ≤ k) : Deck H d c k := by
  obtain ⟨ns, i, l, m, t, e, e2, h1, h2, h3, h4⟩ := h.ex
  exact ⟨ns, i, l, m, t, e, e2, h1, by omega, h3, by omega⟩
theorem Deck.same {H H' : Hp} {d c : Addr} {n : Nat} (h : Deck H d c n) (a : Same H H') : Deck H' d c n := by
  obtain ⟨ns, i, l, m, t, e, e2, r⟩ := h.ex
  exact ⟨ns, i, l, m, t, a _ _ e, a _ _ e2, r⟩
theorem Deck.new {H : Hp} {d c p : Addr} {n : Nat} {o : HO} (h : Deck H d c n) (hp : H p = none) : Deck (upd H p o) d c n := h.same (Same.new hp)
/-- something else than the deck and its cells is written -/
theorem Deck.off {H : Hp} {d c p : Addr} {n : Nat} {o : HO} (h : Deck H d c n) (h1 : p ≠ d) (h2 : p ≠ c) : Deck (upd H p o) d c n := by
  obtain ⟨ns, i, l, m, t, e, e2, r⟩ := h.ex
  exact ⟨ns, i, l, m, t, by rw [upd_ne (Ne.symm h1)]; exact e, by rw [upd_ne (Ne.symm h2)]; exact e2, r⟩
/-- a list of our own grows -/
theorem But.own {d p : Addr} {H H' : Hp} {o : HO} (a : But d H H') (hp : H p = none) : But d H (upd H' p o) := fun b u n e => by
  rw [upd_ne (ne_of_none e hp)]
  exact a b u n e
theorem Deck.out {H : Hp} {d c p : Addr} {n : Nat} (h : Deck H d c n) (hp : H p = none) : p ≠ d ∧ p ≠ c := by
  obtain ⟨ns, i, l, m, t, e, e2, r⟩ := h.ex
  exact ⟨(ne_of_none e hp).symm, (ne_of_none e2 hp).symm⟩
/-- an object that is no list stays -/
theorem But.tup {d c p : Addr} {n : Nat} {H H' : Hp} {xs : List V} (a : But d H H') (h : Deck H d c n) (e : H p = some (.tup xs)) : H' p = some (.tup xs) := by
  obtain ⟨ys, q⟩ := h.some
  exact a p _ (ne_of e q (fun z => by cases z)) e

/-- a slice from the first on -/
theorem cut_to (xs : List V) (n : Nat) : cutV xs none (some (n : Int)) = xs.take n := by
  unfold cutV
  rw [HT.sIx_none, HT.sIx_nat]
  show List.take (min n xs.length - 0) (xs.drop 0) = _
  rw [List.drop_zero, Nat.sub_zero]
  by_cases h : n ≤ xs.length
  · rw [Nat.min_eq_left h]
  · rw [Nat.min_eq_right (by omega), List.take_length, List.take_of_length_le (by omega)]
/-- a slice from the n-th on -/
theorem cut_from (xs : List V) (n : Nat) : cutV xs (some (n : Int)) none = xs.drop n := by
  unfold cutV
  rw [HT.sIx_none, HT.sIx_nat]
  by_cases h : n ≤ xs.length
  · rw [Nat.min_eq_left h]
    exact List.take_of_length_le (by rw [List.length_drop]; omega)
  · rw [Nat.min_eq_right (by omega), Nat.sub_self, List.take_zero, List.drop_eq_nil_of_le (by omega)]

/-- a while's next turn -/
def Nx (W : Nat → L2.St → Hp → Prop) (m : Nat) : L2.St → Hp → Prop := fun σ' H' => ∃ m', m' < m ∧ W m' σ' H'
theorem Nx.id {W : Nat → L2.St → Hp → Prop} {m : Nat} : ∀ σ' H', Nx W m σ' H' → ∃ m', m' < m ∧ W m' σ' H' := fun _ _ h => h

theorem small5 {n : Nat} (h : n < 100000) : n < sizeLine := Nat.lt_of_lt_of_le h (by decide)

/-- a divisor's, a factor's bound -/
theorem divW {i j : Int} (b : Nat) (h : 0 < j) (hb : j < 2 ^ b) (h0 : 0 < b := by decide) (h9 : b ≤ 9000 := by decide) : CDivW i j := wide_div h (b := b) (by
  have e : ((2 ^ b : Nat) : Int) = (2 : Int) ^ b := by simp
  omega) h0 h9
end Fx

namespace Fx
open PySem PySem.Spec PyProof.Rows L2
/-! ### a caught exception that is kept behind its clause -/
/-- at a: a caught exception of the class, with its dict -/
def heldO (cls : Value) (d : Option Addr) (a : Addr) : HO :=
  .ext fun h => ∃ oe vs, h.get? a = some oe ∧ Zc cls d oe ∧ oe.data = .fields vs
theorem heldO_ok {P : Program} {w : World} {H : Hp} {h : Heap} {cls : Value} {d : Option Addr} {a : Addr} {o : Obj} {vs : Array Value}
    (e : h.get? a = some o) (z : Zc cls d o) (f : o.data = .fields vs) : ObjOk P w H h a (heldO cls d a) :=
  ⟨⟨o, vs, e, z, f⟩, ⟨o, e⟩, fun _ _ ⟨u, ws, q, r⟩ keep => ⟨u, ws, keep u q, r⟩⟩

section
variable {X : Cx} {pins : List (Addr × Obj)} {σ : L2.St}
variable {H : Hp} {s : Shared}
/-- an object that the entry hasn't seen may be told of from now on -/
theorem inv_tell {a : Addr} {φ : Heap → Prop} (I : Inv X pins σ H s) (free : H a = none) (new : X.s_0.heap.get? a = none)
    (notL : a ≠ X.env.locals) (notC : ∀ x c, X.env.cells.lookup x = some c → c ≠ a)
    (notP : ∀ p ∈ X.pn ++ pins, p.1 ≠ a) (ok : ObjOk X.prog X.w (upd H a (.ext φ)) s.heap a (.ext φ)) :
    Inv X pins σ (upd H a (.ext φ)) s := by
  have at0 : ∀ {b : Addr} {o : Obj}, X.s_0.heap.get? b = some o → b ≠ a := fun {b o} e z => by
    subst z
    exact nomatch new.symm.trans e
  have atH : ∀ {b : Addr} {o : HO}, H b = some o → upd H a (.ext φ) b = some o := fun {b o} e =>
    (upd_ne (ne_of_none e free)).trans e
  exact {
    ok := I.ok
    os := I.os
    bare := I.bare
    base := {
      keep := I.base.keep
      slot := I.base.slot
      free := fun b o e n x => (upd_ne (at0 e)).trans (I.base.free b o e n x)
      there := I.base.there
      tups := fun b xs e => atH (I.base.tups b xs e)
      frzs := fun b o u e => atH (I.base.frzs b o u e)
      tbls := fun b ps e => by
        obtain ⟨more, q⟩ := I.base.tbls b ps e
        exact ⟨more, atH q⟩ }
    loc := I.loc
    cell := I.cell
    free := (upd_ne (Ne.symm notL)).trans I.free
    freeC := fun x c e => (upd_ne (notC x c e)).trans (I.freeC x c e)
    pin := fun p hp => by
      obtain ⟨e, n, r⟩ := I.pin p hp
      exact ⟨e, (upd_ne (notP p hp)).trans n, r⟩
    hok := fun b o e => by
      by_cases z : b = a
      · subst z
        rw [upd_same] at e
        cases e
        exact ok
      · rw [upd_ne z] at e
        exact ObjOk.stay (I.hok b o e) (fun _ _ _ q => q) (fun _ q => atH q) (fun _ _ q => atH q)
    len := I.len }
end

/-- what 'except x as n' wishes, if the exception is kept: behind the suite it is told of -/
def wKept (K : PySem.W.Frag) (c : Value) (i : Nat) (ts : Addr → Value → Option Addr → TS) (Wout : WX) (D : Ends) : WX :=
  fun cls d σ H => ∃ b, PySem.W.exmOne K cls c = some b ∧
    (b = true → ∀ a, H a = none → ts a cls d {
        nx := fun τ G => G a = none → D.nx (τ.set i none) (upd G a (heldO cls d a))
        rt := fun v G => G a = none → D.rt v (upd G a (heldO cls d a))
        bk := fun τ G => G a = none → D.bk (τ.set i none) (upd G a (heldO cls d a))
        ct := fun τ G => G a = none → D.ct (τ.set i none) (upd G a (heldO cls d a)) }
      (σ.set i (some (.ref a))) H) ∧
    (b = false → Wout cls d σ H)

section
variable {X : Cx} {x n : Str} {c : Value} {i : Nat} {body suite : List Stmt} {b₀ : Stmt} {np pos pos' : Pos}
variable {tb : WX → TS} {ts : Addr → Value → Option Addr → TS} {Wout : WX}
theorem ps_try_kept (hex : X.ex = []) (hstk : X.stack = X.env :: X.outer) (hfrm : X.env.frame = some X.env.locals) (nd : X.N.Nodup)
    (at_i : X.N[i]? = some n) (own : X.env.kindOf n = some .local) (hc : Names X x c) (tk : Takes X Wout)
    (hbody : ∀ (W : WX) (pn : List (Addr × Obj)) (xe : Value → Shared → Prop), Takes (X.tr pn xe) W →
      PassesOwn (model X.prog X.w) X.A X.env xe → PSs (X.tr pn xe) body (tb W))
    (hsuite : ∀ (a : Addr) (oe : Obj) (cls : Value) (d : Option Addr) (pn : List (Addr × Obj)), Zc cls d oe →
      (∃ vs, oe.data = .fields vs) → PSs (X.suite a ((a, oe) :: pn)) (b₀ :: suite) (ts a cls d)) :
    PS X (.Try body [.ExceptHandler (some (.Name x np)) (some n) (b₀ :: suite) pos'] [] [] pos)
      (fun D σ H => tb (wKept X.K c i ts Wout D) D σ H) := by
  refine ⟨fun pins s σ H D I h => wpAny_Try_except ?_⟩
  have ok := I.ok
  have frames : X.A.frames = some (X.env :: X.outer) := hstk ▸ ok.frames
  have R := (hbody (wKept X.K c i ts Wout D) (X.pn ++ pins)
    (fun e s₁ => wpAny (model X.prog X.w) X.A (noteFrame e X.env) (fun _ s₂ =>
      wpAny (model X.prog X.w) X.A (setFlight e none) (fun _ s₃ =>
        wpAny (model X.prog X.w) X.A (handleBy e X.env [.ExceptHandler (some (.Name x np)) (some n) (b₀ :: suite) pos'])
          (SP X pins D) X.xe s₃) X.xe s₂) X.xe s₁) ?caught PassesOwn.looking).run [] s σ H D (Inv.toTry I _) h
  case caught =>
    rintro _ t ⟨a, B, r, ps, τ, G, cls, d, rfl, J0, gr, up, sky, nG, hos, bare, b, match_, yes, no⟩
    have J : Inv X pins τ G r := Inv.ofTry J0 ok
    rw [hstk] at gr
    replace sky : Sky B (X.env :: X.outer) a (Zc cls d) X.env.locals t.heap := hstk ▸ sky
    have J' : ∀ {u : Heap}, B.StaysIn u → r.heap.UpToSlots u → Inv X pins τ G { t with heap := u } := fun st q =>
      Inv.landed (s' := { t with heap := _ }) J (fun b o e m => gr b o e (hstk ▸ m)) st q hos bare
    refine Sky.land Zc.steady frames hfrm sky fun h₁ fl₁ up₁ => ?_
    obtain ⟨o₁, w₁, e₁, z₁, f₁⟩ := fl₁.there
    have notFrame : a ∉ frs (X.env :: X.outer) := fun m => by
      obtain ⟨_, o, e, q⟩ := fl₁.2.2.1.mem m
      cases e₁.symm.trans e
      exact q _ f₁
    have seen : ∀ {o : Obj}, r.heap.get? a ≠ some o := fun {o} e => by
      have q := gr a o e notFrame
      rw [fl₁.2.1] at q
      cases q
    have new : X.s_0.heap.get? a = none := by
      cases q : X.s_0.heap.get? a with
      | none => rfl
      | some o =>
        obtain ⟨o', e⟩ := J.base.there a o q (by rw [hex]; exact List.not_mem_nil)
        exact absurd e seen
    have notL : a ≠ X.env.locals := fun z => notFrame (List.mem_filterMap.mpr ⟨_, List.mem_cons_self, by rw [hfrm, z]⟩)
    have notF : a ∉ X.fs := fun m => by
      obtain ⟨e, em, q⟩ := List.mem_filterMap.mp m
      exact notFrame (List.mem_filterMap.mpr ⟨e, List.mem_cons_of_mem _ em, q⟩)
    have notC : ∀ y k, X.env.cells.lookup y = some k → k ≠ a := fun y k e z => by
      obtain ⟨v, o, q, _⟩ := J.cell y k e
      rw [z] at q
      exact seen q
    have notP : ∀ p ∈ X.pn ++ pins, p.1 ≠ a := fun p hp z => by
      have q := (J.pin p hp).1
      rw [z] at q
      exact seen q
    have S₁ := (J' fl₁.1 (up.trans up₁)).suite e₁ f₁ nG notL notF
    refine wpAny_handleBy_cons (codeAny_handlers_test ?_) (fun q => nomatch q)
    have ty : PySem.W.Looks (model X.prog X.w) h₁ (typeOf (.ref a)) cls := fun _ _ _ _ keep q =>
      wpAny_typeOf_ref (keep _ _ e₁) (z₁.1.symm ▸ q)
    have look := PySem.W.exm_one (M := model X.prog X.w) (J' fl₁.1 (up.trans up₁)).kIn ty match_
    suffices go : wpAny (model X.prog X.w) (X.A.mark (some (.ref a))) (eval (.Name x np) X.env) _ _ { t with heap := h₁ } from go
    have class_ : ∀ {Q : Value → Shared → Prop} {E : Value → Shared → Prop}, Q c { t with heap := h₁ } →
        wpAny (model X.prog X.w) (X.A.mark (some (.ref a))) (eval (.Name x np) X.env) Q E { t with heap := h₁ } := fun {Q E} q => by
      obtain ⟨gl, nodbg, m | ⟨m, v, nn⟩⟩ := hc
      · exact ld_glob (X := X.suite a ((a, o₁) :: (X.pn ++ pins))) S₁ gl m q nodbg
      · exact ld_blt (X := X.suite a ((a, o₁) :: (X.pn ++ pins))) S₁ gl m v q nn nodbg
    refine class_ (look.here ?_)
    cases b with
    | false =>
      show wpAny _ X.A (handleBy (.ref a) X.env []) _ _ _
      refine wpAny_handleBy_nil ?_
      obtain ⟨_, _, _, oe, vs, T, oT, us, he, hz, hd, h1, hr⟩ := id fl₁
      unfold PySem.passOn
      refine wpAny_bind (wpAny_field he hd h1 ?_)
      rw [if_neg (by simp : ¬ ((Value.ref T == Value.none) = true))]
      have out : wpAny (model X.prog X.w) X.A (setFlight (.ref a) X.env.frame) (fun _ s4 =>
          wpAny (model X.prog X.w) X.A (throw (.ref a) : Sem Flow) (SP X pins D) X.xe s4) X.xe { t with heap := h₁ } := by
        rw [hfrm]
        refine HandSPX.setFlight_upZ fl₁ fun h₂ held up₂ => wpAny_throw (tk _ _ ?_)
        exact ⟨a, B, r, pins, τ, G, cls, d, rfl, J, fun b o e m => gr b o e (hstk ▸ m), (up.trans up₁).trans up₂,
          .inr (.inr (by rw [hstk]; exact held)), nG, hos, bare, no rfl⟩
      first
        | exact wpAny_bind (wpAny_pure (wpAny_bind out))
        | exact wpAny_bind out
    | true =>
      refine codeAny_handlers_suite_as (HandSPX.lands_againZ fl₁ fun h₂ fl₂ up₂ => ?_)
      obtain ⟨o₂, w₂, e₂, z₂, f₂⟩ := fl₂.there
      have S₂ := (J' fl₂.1 ((up.trans up₁).trans up₂)).suite e₂ f₂ nG notL notF
      refine store_ok (X := X.suite a ((a, o₂) :: (X.pn ++ pins))) (v := .ref a) S₂ nd at_i (.inl own) rfl (fun s5 S5 => ?_) (.inr own)
      refine wpAny_mono ((hsuite a o₂ cls d (X.pn ++ pins) z₂ ⟨_, f₂⟩).run [] s5 _ G _ S5 (yes rfl a nG)) ?_ fun _ _ z => z.elim
      have close : ∀ {s6 : Shared} {τ6 : L2.St} {G6 : Hp} {Q : Shared → Prop}, Inv (X.suite a ((a, o₂) :: (X.pn ++ pins))) [] τ6 G6 s6 →
          (∀ s7, G6 a = none → Inv X pins (τ6.set i none) (upd G6 a (heldO cls d a)) s7 → Q s7) →
          wpAny (model X.prog X.w) X.A (do bindName X.env n .none; unbindBehindTheSuite X.env n pos') (fun _ s7 => Q s7) X.xe s6 :=
        fun {s6 τ6 G6 Q} S6 q => gone_ok (X := X.suite a ((a, o₂) :: (X.pn ++ pins))) S6 nd at_i own fun s7 S7 => by
          obtain ⟨e7, n7, _⟩ := S7.pin (a, o₂) List.mem_cons_self
          exact q s7 n7 (inv_tell (S7.unsuite ok) n7 new notL notC notP (heldO_ok e7 z₂ f₂))
      intro f s6 hs
      cases f with
      | next =>
        obtain ⟨τ6, G6, S6, q6⟩ := hs
        exact close S6 fun s7 n7 J7 => ⟨_, _, J7, q6 n7⟩
      | brk =>
        obtain ⟨τ6, G6, S6, q6⟩ := hs
        exact close S6 fun s7 n7 J7 => ⟨_, _, J7, q6 n7⟩
      | cont =>
        obtain ⟨τ6, G6, S6, q6⟩ := hs
        exact close S6 fun s7 n7 J7 => ⟨_, _, J7, q6 n7⟩
      | ret u =>
        obtain ⟨v6, τ6, G6, S6, r6, q6⟩ := hs
        exact close S6 fun s7 n7 J7 => ⟨_, _, _, J7, r6, q6 n7⟩
  refine wpAny_mono R (fun f s1 hs => ?_) fun _ _ z => z
  cases f with
  | next =>
    obtain ⟨τ, G, J, q⟩ := hs
    exact wpAny_execs_nil ⟨τ, G, Inv.ofTry J ok, q⟩
  | brk =>
    obtain ⟨τ, G, J, q⟩ := hs
    exact ⟨τ, G, Inv.ofTry J ok, q⟩
  | cont =>
    obtain ⟨τ, G, J, q⟩ := hs
    exact ⟨τ, G, Inv.ofTry J ok, q⟩
  | ret u =>
    obtain ⟨v, τ, G, J, r, q⟩ := hs
    exact ⟨v, τ, G, Inv.ofTry J ok, r, q⟩
end
end Fx

namespace Fx
open PySem PySem.Spec
open PyProof.Rows L2
/-! ### what a kept exception tells -/
/-- at a: an exception of the class at C, its own dict d -/
def KX (H : Hp) (a C : Addr) (d : Option Addr) : Prop :=
  ∃ φ : Heap → Prop, H a = some (.ext φ) ∧ ∀ h, φ h → ∃ oe vs, h.get? a = some oe ∧ Zc (.ref C) d oe ∧ oe.data = .fields vs
theorem kx_held {H : Hp} {a C : Addr} {d : Option Addr} (e : H a = some (heldO (.ref C) d a)) : KX H a C d := ⟨_, e, fun _ z => z⟩
theorem kx_made {H : Hp} {a C : Addr} {d : Option Addr} (e : H a = some (exo a C d)) : KX H a C d :=
  ⟨_, e, fun _ ⟨_, z⟩ => ⟨_, _, z, ⟨rfl, rfl⟩, rfl⟩⟩
theorem KX.same {H H' : Hp} {a C : Addr} {d : Option Addr} (k : KX H a C d) (e : ∀ o, H a = some o → H' a = some o) : KX H' a C d := by
  obtain ⟨φ, q, r⟩ := k
  exact ⟨φ, e _ q, r⟩
/-- its dict is tracked -/
def KD (H : Hp) (d : Option Addr) : Prop := ∀ x, d = some x → ∃ o, H x = some o
/-- its dict holds the value by the name -/
def KF (H : Hp) (x : Addr) (f : Str) (v : V) : Prop := ∃ fs, (H x = some (.xd fs) ∨ H x = some (exd x fs)) ∧ fs.lookup f = some v
theorem KF.same {H H' : Hp} {x : Addr} {f : Str} {v : V} (k : KF H x f v) (e : ∀ o, H x = some o → H' x = some o) : KF H' x f v := by
  obtain ⟨fs, q, r⟩ := k
  exact ⟨fs, q.imp (e _) (e _), r⟩
theorem KF.kd {H : Hp} {x : Addr} {f : Str} {v : V} (k : KF H x f v) : KD H (some x) := fun y z => by
  cases z
  obtain ⟨fs, q, _⟩ := k
  exact q.elim (fun q => ⟨_, q⟩) fun q => ⟨_, q⟩

section
variable {X : Cx} {pins : List (Addr × Obj)} {σ : L2.St} {H : Hp} {s : Shared} {a C : Addr} {d : Option Addr}
theorem kx_inst (I : Inv X pins σ H s) (k : KX H a C d) (kd : KD H d) : ∃ oe od, PySem.W.InstAt s.heap a oe C od ∧ oe.dict = d := by
  obtain ⟨φ, e, r⟩ := k
  have x : ObjOk X.prog X.w H s.heap a (.ext φ) := I.hok a _ e
  obtain ⟨oe, vs, g, z, f⟩ := r _ x.1
  have no : PySem.W.notCls oe = true := by
    unfold PySem.W.notCls
    rw [f]
  cases d with
  | none => exact ⟨oe, none, ⟨g, z.1, no, by rw [z.2]; trivial⟩, z.2⟩
  | some x =>
    obtain ⟨o, q⟩ := kd x rfl
    obtain ⟨od, hd⟩ := objOk_get (I.hok x o q)
    exact ⟨oe, some od, ⟨g, z.1, no, by rw [z.2]; exact hd⟩, z.2⟩

/-- isinstance of a kept exception -/
def rIsK (K : PySem.W.Frag) : List V → Hp → VK → Prop := fun xs H Q =>
  ∃ (a C : Addr) (d : Option Addr) (c : V) (u : Value) (b : Bool), xs = [.ref a, c] ∧ ClsV c u ∧ KX H a C d ∧ KD H d ∧ ExcC K C ∧
    PySem.W.kitOne K (.ref C) u = some b ∧ Q (.bl b) H
theorem call_isK : CallR X (.builtin "isinstance") (rIsK X.K) := by
  intro pins s σ H xs us Q I r ⟨a, C, d, c, u, b, exs, hc, k, kd, ec, e, q⟩
  subst exs
  obtain ⟨u1, u2, rfl, r1, r2⟩ := vals2 r
  obtain rfl := hc.eq r2
  obtain rfl : u1 = Value.ref a := r1
  obtain ⟨oe, od, J, _⟩ := kx_inst I k kd
  have some_ : (PySem.W.clsIn X.K C).isSome = true := by
    obtain ⟨cd, z, _⟩ := PySem.W.any_some ec.hd
    rw [z]
    rfl
  exact PySem.W.kia_one (PySem.W.kitx_exc (ox := oe) (od := od) some_ ec.hg ec.hk ec.hs ec.ha ec.hn ec.ht ec.hm) I.kIn J e
    (fun z => nomatch z) fun tk => ⟨.bl b, H, I.tok tk, rfl, q⟩

/-- e.f of a kept exception -/
def tXk (K : PySem.W.Frag) (f : Str) (te : TE) : TE := fun σ H Q => te σ H fun x H1 =>
  ∃ (a C dx : Addr) (v : V), x = .ref a ∧ KX H1 a C (some dx) ∧ XfC K C ∧ PySem.W.findIn K (.ref C) f = some none ∧ KF H1 dx f v ∧ Q v H1
theorem pe_xk {e : Expr} {te : TE} {pos : Pos} {n : Str} (he : PE X e te) (hb : attributeBase e n X.env (eval e X.env) = eval e X.env := by rfl) :
    PE X (.Attribute e n pos) (tXk X.K n te) := by
  refine ⟨fun pins s σ H Q I h => attr_of hb (thn (he.run pins s σ H _ I h) ?_)⟩
  rintro u t ⟨x, G, J, rx, a, C, dx, v, rfl, k, T, no, kf, q⟩
  obtain rfl : u = Value.ref a := rx
  obtain ⟨fs, at_, l⟩ := id kf
  obtain ⟨φ, e1, r1⟩ := k
  have x1 : ObjOk X.prog X.w G t.heap a (.ext φ) := J.hok a _ e1
  obtain ⟨oe, vs, g, z, f⟩ := r1 _ x1.1
  have ns : ∃ mA, t.heap.Ns1 dx mA ∧ ∀ y, RelO (fs.lookup y) (mA y) := by
    rcases at_ with w | w
    · exact (show ObjOk X.prog X.w G t.heap dx (.xd fs) from J.hok dx _ w)
    · exact exd_at J.hok w
  obtain ⟨mA, hn, rel⟩ := ns
  obtain ⟨od, ho, look⟩ := lookIn_ns hn
  obtain ⟨w, hw, rw_⟩ := RelO.some_of (v := v) (o := mA n) (by rw [← l]; exact rel n)
  have I2 : PySem.W.InstAt t.heap a oe C (some od) := ⟨g, z.1, by unfold PySem.W.notCls; rw [f], by rw [z.2]; exact ho⟩
  exact HandSPX.exc_get J.kIn I2 T.ga T.gg T.exC (PySem.W.findObj_own T.hdC no rfl (by rw [look, hw])) (handed_of rw_)
    ⟨v, G, J.tok _, rw_, q⟩
end

section
variable {X : Cx} {e : Expr} {es : List Expr} {p pos : Pos} {ta : TA}
/-- C(e, ..) as a value, C's own __init__ keeping sp -/
def tMkK (C : Addr) (sp : Sp) (dvs : List V) (ta : TA) : TE := fun σ H Q => ta σ H fun vs H1 => vs.length ≤ 1000 ∧
  ∀ a, H1 a = none → sp (.ref a :: (vs ++ dvs)) (upd H1 a (exo a C none)) (fun v H2 => v = .non ∧ Q (.ref a) H2) (fun _ _ _ => False)
theorem pe_oex {CX : CXT} {x : Str} {C fI : Addr} {k : Nat} {fd : FuncData} {ps : List Str} {sp : Sp} {ds : List Value} {dvs : List V} (T : OexC X.K C)
    (init : PySem.W.findIn X.K (.ref C) "__init__" = some (some (.ref fI))) (fn : PySem.W.typeIn X.K (.ref fI) = some (.type "function"))
    (F1 : FnOk X.prog X.w X.K X.mg X.base CX k fI fd ps sp) (room : Room (k + 1) X.A) (bind : Binds X.K fd ps ds) (vd : Vals dvs ds)
    (pass : Passes CX X (fun _ _ _ => False)) (hg : Gl X x) (hm : X.mg x = some (.ref C)) (args : PA X (e :: es) ta)
    (nodbg : (x == ("__debug__" : Str)) = false := by decide) (he : starEach (e :: es) X.env = (false, eval e X.env) :: starEach es X.env := by rfl)
    (plain : (backTo pos (starEach es X.env)).any (·.1) = false := by rfl) :
    PE X (.Call (.Name x p) (e :: es) [] pos) (tMkK C sp dvs ta) := by
  refine ⟨fun pins s σ H Q I h => ?_⟩
  obtain ⟨nm, q, NS, bs, bm, sn, sub, ab, col, dd, k0, k1, k2, k3, k5, hC, hbm⟩ := T.cls
  refine wpAny_Call_Name_kw (ld_glob I hg hm ?_ nodbg)
  refine PySem.W.callWith_K (h₀ := X.base) I.ok.mod.kin T.kC (thn (args.run pos pins s σ H _ I h) ?_) he plain
  rintro us ⟨hp, g, dr, tk, os⟩ ⟨vs, H1, I1, r1, short, q1⟩
  refine ⟨I1.kIn, ?_⟩
  have above : hp.objs.size ≤ hp.objs.size + 1 := Nat.le_succ _
  have new : H1 (hp.objs.size + 1) = none := I1.hok.fresh above
  have pr := q1 _ new
  obtain ⟨L, eL⟩ : ∃ L, L = (hp.push (PySem.W.kdv_tup us)).push (PySem.HandSPX.excO C hp.objs.size) := ⟨_, rfl⟩
  have kept : ∀ b o, hp.get? b = some o → L.get? b = some o := fun b o z => by
    rw [eL]
    exact Heap.get?_push_of_some _ (Heap.get?_push_of_some _ z)
  have laid : L.get? (hp.objs.size + 1) = some (PySem.HandSPX.excO C hp.objs.size) := by
    rw [eL]
    heap_get
  have I2 : Inv X pins σ (upd H1 (hp.objs.size + 1) (exo (hp.objs.size + 1) C none)) ⟨L, g, dr, tk, os⟩ :=
    I1.laid (t' := tk) kept above (exo_ok laid)
  have vals : Vals (V.ref (hp.objs.size + 1) :: (vs ++ dvs)) (Value.ref (hp.objs.size + 1) :: (us ++ ds)) := .cons rfl (r1.append vd)
  have many : (Value.ref (hp.objs.size + 1) :: us ++ ds).length = ps.length := by
    have z := vals.length
    rw [F1.len _ _ _ _ pr] at z
    exact z.symm
  have fits : us.length ≤ sizeLine := by
    rw [← Paired.length r1, sizeLine_eq]
    omega
  have run := F1.run _ X.stack _ _ ⟨Value.ref (hp.objs.size + 1) :: us, []⟩ (Value.ref (hp.objs.size + 1) :: (us ++ ds)) _ _ (fun _ _ _ => False)
    (room.make C us []) (I2.env0.make C us []) (bind _ (Value.ref (hp.objs.size + 1) :: us) I2.kIn many) vals pr
  refine (?_ : wpAny _ _ (call (.ref C) us) _ _ _)
  refine wpAny_call (PySem.HandSPX.call_own F.excBase_ValueError (fun Y => PySem.HandSPX.refsVE_contains Y bm hbm) (I1.kIn _ _ hC)
    (PySem.W.looks_findIn I1.kIn init) (fun self => PySem.W.bind_fn I1.kIn self fn) fits ?_)
  rw [← eL]
  refine codeAny_mono run fun r s' end_ => ?_
  cases r with
  | error er => exact pass pins σ _ _ er s' I2 end_
  | ok fl =>
    cases fl with
    | ret u =>
      obtain ⟨v, H2, J, rv, ev, q2⟩ := I2.after end_
      subst ev
      exact ⟨rv, .ref (hp.objs.size + 1), H2, J, rfl, q2⟩
    | next => exact False.elim end_
    | brk => exact False.elim end_
    | cont => exact False.elim end_
end
end Fx

namespace Fx
open PySem PySem.Spec PyProof.Rows L2 NdefX
/-! ### an __init__ that begins with super().__init__(..), its class over ValueError -/
section
variable {prog : Program} {w : World} {A : Around} {E : Value → Shared → Prop}
variable {h : Heap} {g : Array GenState} {d : Drawn} {t : Nat} {os : OsState}
variable {nm q : Str} {C N : Addr} {bs bm : List Value} {dct : Bool} {sn : List Str} {sub : List Value} {ab : Bool} {col : Option Bool}
variable {dd : Option Addr} {k0 k1 k2 k3 k5 : Option Value}
/-- ValueError.__init__, bound to the object, called: the object's arguments are laid anew -/
theorem call_bound_VE {u e t0 : Addr} {rest : List Value} {Q : Value → Shared → Prop}
    (cls : h.get? C = some (excClassObj nm q C N bs bm dct sn sub ab col dd k0 k1 k2 k3 k5 "ValueError.__new__"))
    (he : h.get? e = some (HandSPX.excO C t0)) (hu : h.get? u = some (PySem.W.kxs_mw "ValueError.__init__" e)) (short : rest.length ≤ sizeLine)
    (fin : ∀ h' t1, (∀ b o, b ≠ e → h.get? b = some o → h'.get? b = some o) → h'.get? e = some (HandSPX.excO C t1) → Q .none ⟨h', g, d, t, os⟩) :
    wpAny (model prog w) A (call (.ref u) rest) Q E ⟨h, g, d, t, os⟩ := by
  refine wpAny_call (codeAny_of_tree (show wpAny _ A.in1 (callAny (.ref u) ⟨rest, []⟩) _ _ _ from ?_))
  unfold callAny
  refine wpAny_bind (wpAny_load hu ?_)
  have eqs : (Value.type "method-wrapper" == Value.type "method" || Value.type "method-wrapper" == Value.type "builtin_function_or_method" ||
      Value.type "method-wrapper" == Value.type "method-wrapper") = true := by decide
  simp only [PySem.W.kxs_mw, eqs, if_true]
  refine PySem.W.KFB.if_so (by decide) ?_
  refine wpAny_bind (PySem.W.check_bound_init F.excBase_ValueError.toExcCallFacts cls he rfl ?_)
  refine wpAny_bind (wpAny_pure (wpAny_pure ⟨plainId_quiet F.excBase_ValueError.init.plain _, ?_⟩))
  refine codeAny_builtin F.excBase_ValueError.initEntry ?_
  exact PySem.W.exc_init_tree (cls := .ref C) (t0 := t0) (dv := none) (c2 := .none) (c3 := .none) (b4 := .bool false) he short
    fun h' keep own _ => fin h' _ keep own
end

section
variable {X : Cx} {σ : L2.St} {H : Hp} {s : Shared} {f cc C cda a : Addr} {body : List Stmt} {fd : FuncData} {ccl cl oc : Value} {cdd cld od : Option Addr}
variable {ccs csl osl : Array (Option Value)} {e : Expr} {p0 p1 p2 p3 p4 : Pos} {ar : Arg} {vs0 : Array Value} {file : Str} {tf : Tok} {pl : Sem Bool}
variable {m : Str → Option Value} {ta : TA} {Q : Hp → Prop}
/-- the statement super().__init__(e) -/
theorem sup_run (I : Inv X [] σ H s) (fu : X.env.func = some f) (lk : X.K.lookup f = some ⟨oc, od, .func fd, osl⟩)
    (first : (fd.params.posonlyargs ++ fd.params.args).head? = some ar) (co : X.env.code = .ref cda)
    (code : X.K.lookup cda = some ⟨ccl, cdd, .fields vs0, ccs⟩) (hvs : vs0[2]? = some (.str file tf))
    (main : ((X.prog.main.file : Str) == file) = true) (top : (X.prog.main.scope.names.lookup ("super" : Str)).isSome = false)
    (hcc : X.env.cells.lookup ("__class__" : Str) = some cc)
    (cell : X.K.lookup cc = some ⟨cl, cld, .cell (some (.ref C)), csl⟩) (T : OexC X.K C)
    (sup : PySem.W.ks_superIn X.K C C "__init__" = some (some (.builtin "ValueError.__init__")))
    (subV : PySem.W.subIn X.K (.ref C) (.type "ValueError") = some true) (subC : PySem.W.mroIn X.K C (.ref C) = some true)
    (hob : PySem.W.nsIn X.K cStatics "thirdparty.any" = some none)
    (ks : X.env.kindOf "super" = some .globalImplicit) (kc : X.env.kindOf "__class__" = some .free) (mgs : X.mg "super" = none)
    (ka : X.env.kindOf ar.arg = some .local) (hns : s.heap.Ns X.env.locals m) (hv : m ar.arg = some (.ref a)) (ha : H a = some (exo a C none))
    (quiet : interactive X.env = false)
    (hs : swapsWith (.Call (.Attribute (.Call (.Name "super" p0) [] [] p1) "__init__" p2) [e] [] p3) none p4.line X.env = pure false)
    (hev : eval (.Call (.Attribute (.Call (.Name "super" p0) [] [] p1) "__init__" p2) [e] [] p3) X.env = (do
      let ov ← attributeBase (.Call (.Name "super" p0) [] [] p1) "__init__" X.env (eval (.Call (.Name "super" p0) [] [] p1) X.env)
      standAt p2.atName
      let (f, first) ← holding [ov] (getMethod ov "__init__" pl)
      callWith p3 f first (backTo p3 (starEach [e] X.env)) []))
    (star : starEach [e] X.env = (false, eval e X.env) :: starEach [] X.env)
    (hargs : PA X [e] ta) (hq : ta σ H fun ws H1 => ws.length ≤ 1000 ∧ H1 a = some (exo a C none) ∧ Q H1) :
    _root_.PySem.wpAt (model X.prog X.w) X.A (.func body X.env)
      (exec (.Expr (.Call (.Attribute (.Call (.Name "super" p0) [] [] p1) "__init__" p2) [e] [] p3) p4) X.env)
      (fun fl s' => fl = .next ∧ ∃ H1, Inv X [] σ H1 s' ∧ Q H1) X.xe s := by
  obtain ⟨nm, q, NS, bs, bm, sn, sub, ab, col, dd, k0, k1, k2, k3, k5, hC, hbm⟩ := T.cls
  have KI := I.kIn
  obtain ⟨t1, ho⟩ := exo_at I.hok ha
  have hcl : ∃ cd, PySem.W.clsIn X.K C = some cd := ⟨_, by unfold PySem.W.clsIn; rw [hC] <;> rfl⟩
  obtain ⟨cd, hcd⟩ := hcl
  have inst : PySem.W.InstAt s.heap a { cls := .ref C, dict := none, data := .fields #[.ref t1, .none, .none, .none, .bool false, .none] } C none :=
    ⟨ho, rfl, rfl, trivial⟩
  have neC : a ≠ C := PySem.W.ks_ne KI inst hcd
  refine ks_wpAt_Expr_any ?_ quiet hs
  refine ks_wpAt_MethodCall (pl := pl) ?_ hev
  obtain ⟨hp, g, d, tk, os⟩ := s
  obtain ⟨mb, b1, b2⟩ := I.mod.blt
  refine ks_wpAt_super_base ks kc (by decide) fu (KI _ _ lk) rfl first co (KI _ _ code) rfl hvs main top ?_
  refine PySem.W.ks_loadName_global I.ok.kind ks (Calls.loadGlobal_builtin (by rw [I.ok.glob]; exact I.mod.glob.keeps I.bk) mgs
    (by rw [I.ok.blt]; exact b1.keeps I.bk) (b2 _ (by decide)) ⟨by first | boot_by_name | rfl | kernel_rfl, ?_⟩)
  refine wpAny_loadName_free I.ok.kind kc hcc ⟨_, KI _ _ cell, rfl⟩ ?_
  refine wpAny_loadName_local I.ok.kind ka hns hv ?_
  have hCd : hp.get? C = _ := KI _ _ hC
  refine ks_wpAny_isType_cls hCd rfl ⟨rfl, ?_⟩
  refine ks_wpAny_call_super hCd rfl ho rfl (fun c z => by cases z) (PySem.W.looks_mroIn KI subC) (fun h₂ so keep₂ => ?_)
  have I₂ : Inv X [] σ H ⟨h₂, g, d, tk, os⟩ := I.kept (t' := tk) keep₂
  have KI₂ := I₂.kIn
  have inst₂ : PySem.W.InstAt h₂ a { cls := .ref C, dict := none, data := .fields #[.ref t1, .none, .none, .none, .bool false, .none] } C none :=
    ⟨keep₂ _ _ ho, rfl, rfl, trivial⟩
  have isV : PySem.W.Looks (model X.prog X.w) h₂ (isInstance (.ref a) (.type "ValueError")) true := inst₂.type.andThen (PySem.W.looks_subIn KI₂ subV)
  unfold PySem.W.ks_superIn at sup
  rw [hcd] at sup
  refine PySem.W.kxs_getMethod PySem.W.kxs_ValueError so (PySem.W.looks_opaque KI₂ hob) (l₀ := cd.mro)
    (fun A Q E s k q => wpAny_bind ((PySem.W.looks_clsIn KI₂ hcd) A _ E s k (wpAny_pure q))) rfl KI₂ sup isV neC (by decide) ?_
  have lay : ∀ b o, h₂.get? b = some o → (h₂.push (PySem.W.kxs_mw "ValueError.__init__" a)).get? b = some o := fun b o z => Heap.get?_push_of_some _ z
  have I₃ : Inv X [] σ H ⟨h₂.push (PySem.W.kxs_mw "ValueError.__init__" a), g, d, tk + 1, os⟩ := I₂.kept (t' := tk + 1) lay
  have I₄ : Inv X [(h₂.objs.size, PySem.W.kxs_mw "ValueError.__init__" a)] σ H ⟨h₂.push (PySem.W.kxs_mw "ValueError.__init__" a), g, d, tk + 1, os⟩ :=
    I₃.pins_of fun p hp' => by
      rw [List.mem_singleton] at hp'
      subst hp'
      exact ⟨Heap.get?_push_at rfl rfl, I₂.hok.fresh (Nat.le_refl _), Nat.ne_of_gt I₂.lt, I₂.nofs (Nat.le_refl _), fun v z => by cases z⟩
  rw [star]
  refine PySem.W.kxs_callWith (i := "ValueError.__init__") (x := a) rfl ?_
  refine Calls.evalArgs_plain ?_
  have A1 := hargs.run p3 _ _ σ H _ I₄ hq
  rw [star] at A1
  refine thn A1 fun us s5 ⟨ws, H5, I5, r5, hlen, ha5, q5⟩ => ?_
  have hu5 := (I5.pin (h₂.objs.size, PySem.W.kxs_mw "ValueError.__init__" a) (List.mem_append.mpr (.inr List.mem_cons_self))).1
  refine ⟨hu5, ?_⟩
  obtain ⟨t5, ho5⟩ := exo_at I5.hok ha5
  have I6 : Inv X [] σ H5 s5 := I5.pins_of fun p z => nomatch z
  obtain ⟨hp5, g5, d5, tk5, os5⟩ := s5
  have short : us.length ≤ sizeLine := by
    rw [← Paired.length r5, sizeLine_eq]
    omega
  refine call_bound_VE (I6.kIn _ _ hC) ho5 hu5 short fun h' t' keep own => ⟨rfl, H5, ?_, q5⟩
  have J := I6.write (t' := tk5) (x := a) (e := a) (o := exo a C none) (by rw [ha5]; exact True.intro) (.inl rfl) keep ⟨_, own⟩ (exo_ok own)
  have same : upd H5 a (exo a C none) = H5 := by
    funext b
    by_cases z : b = a
    · rw [z, upd_same, ha5]
    · rw [upd_ne z]
  rw [same] at J
  exact J
end

section
variable {CX : CXT} {P : Program} {w : World} {K : PySem.W.Frag} {mg : Str → Option Value} {base : Heap} {k : Nat} {f cc C cda : Addr}
variable {name qual : Str} {params : Arguments} {st : Stmt} {rest : List Stmt} {scope : Scope} {dV kV doc pm ct oc ccl cl : Value}
variable {an od cdd cld : Option Addr} {osl ccs csl : Array (Option Value)} {N ps : List Str} {sp : Sp} {e : Expr} {p0 p1 p2 p3 p4 : Pos}
variable {ar : Arg} {vs0 : Array Value} {file : Str} {tf : Tok} {pl : Env → Sem Bool}
abbrev supNF (name qual : Str) (params : Arguments) (body : List Stmt) (scope : Scope) (cc cda : Addr) : NF :=
  ⟨name, qual, params, body, scope, [("__class__", cc)], cda⟩
theorem fn_sup
    (lk : K.lookup f = some ⟨oc, od, .func (PySem.W.ksFn name qual params (st :: rest) scope dV kV doc pm an (.ref cda) ct cc), osl⟩)
    (hcd : PySem.W.codeIn K (.ref cda) qual = true)
    (hst : st = .Expr (.Call (.Attribute (.Call (.Name "super" p0) [] [] p1) "__init__" p2) [e] [] p3) p4)
    (S : NScope N ps ["__class__"] scope)
    (code : K.lookup cda = some ⟨ccl, cdd, .fields vs0, ccs⟩) (hvs : vs0[2]? = some (.str file tf))
    (main : ((P.main.file : Str) == file) = true) (top : (P.main.scope.names.lookup ("super" : Str)).isSome = false)
    (cell : K.lookup cc = some ⟨cl, cld, .cell (some (.ref C)), csl⟩) (T : OexC K C)
    (sup : PySem.W.ks_superIn K C C "__init__" = some (some (.builtin "ValueError.__init__")))
    (subV : PySem.W.subIn K (.ref C) (.type "ValueError") = some true) (subC : PySem.W.mroIn K C (.ref C) = some true)
    (hob : PySem.W.nsIn K cStatics "thirdparty.any" = some none)
    (ks : scope.names.lookup ("super" : Str) = some .globalImplicit) (mgs : mg "super" = none)
    (first : (params.posonlyargs ++ params.args).head? = some ar) (par0 : ps[0]? = some ar.arg)
    (len : ∀ vs H Q E, sp vs H Q E → vs.length = ps.length)
    (hs : ∀ env : Env, swapsWith (.Call (.Attribute (.Call (.Name "super" p0) [] [] p1) "__init__" p2) [e] [] p3) none p4.line env = pure false)
    (hev : ∀ env : Env, eval (.Call (.Attribute (.Call (.Name "super" p0) [] [] p1) "__init__" p2) [e] [] p3) env = (do
      let ov ← attributeBase (.Call (.Name "super" p0) [] [] p1) "__init__" env (eval (.Call (.Name "super" p0) [] [] p1) env)
      standAt p2.atName
      let (f, first) ← holding [ov] (getMethod ov "__init__" (pl env))
      callWith p3 f first (backTo p3 (starEach [e] env)) []))
    (star : ∀ env : Env, starEach [e] env = (false, eval e env) :: starEach [] env)
    (hbody : ∀ (A : Around) (outer : List Env) (s : Shared) (H : Hp) (vs : List V) (Q : VK) (E : XK),
      Room k (A.deeper (envF (supNF name qual params (st :: rest) scope cc cda) f s.heap.objs.size)) → sp vs H Q E → ∃ (a : Addr) (ta : TA) (tr : TS),
        vs[0]? = some (.ref a) ∧ H a = some (exo a C none) ∧
        PA (ncx CX P w K mg base N (supNF name qual params (st :: rest) scope cc cda) f A outer s H E) [e] ta ∧
        PSs (ncx CX P w K mg base N (supNF name qual params (st :: rest) scope cc cda) f A outer s H E) rest tr ∧
        ta (startF N vs [some (.ref C)]) H fun ws H1 => ws.length ≤ 1000 ∧ H1 a = some (exo a C none) ∧
          tr { nx := fun _ H' => Q .non H', rt := Q } (startF N vs [some (.ref C)]) H1) :
    FnOk P w K mg base CX (k + 1) f (PySem.W.ksFn name qual params (st :: rest) scope dV kV doc pm an (.ref cda) ct cc) ps sp := by
  refine ⟨len, fun A outer s H args us vs Q E room e0 bind r hsp => ?_⟩
  have hl := len _ _ _ _ hsp
  have KX : K.In s.heap := e0.mod.kin.keeps fun b o q => (e0.bs b o q).1
  have lim : s.heap.NoLimit := e0.mod.nolimit.keeps fun b o q => (e0.bs b o q).1
  obtain ⟨a, ta, tr, va, ha, hta, htr, hq⟩ := hbody A outer s H vs Q E (room.deeper _) hsp
  have cells : CellsAt [(("__class__" : Str), cc)] ["__class__"] [some (.ref C)] s.heap H := by
    have lcc : ∀ {y : Str} {c : Addr}, List.lookup y [(("__class__" : Str), cc)] = some c → y = "__class__" ∧ c = cc := fun {y c} q => by
      have m := PySem.mem_of_lookup q
      simp only [List.mem_singleton, Prod.mk.injEq] at m
      exact m
    refine ⟨rfl, fun y c q => ?_, fun x y c q1 q2 => (lcc q1).1.trans (lcc q2).1.symm, fun i y q => ?_⟩
    · rw [(lcc q).2]
      exact ⟨(e0.bs _ _ (e0.mod.kin _ _ cell)).2, _, _, KX _ _ cell, rfl⟩
    · cases i with
      | succ n => cases n <;> cases q
      | zero =>
        cases q
        refine ⟨cc, by simp [List.lookup], fun v z => ?_⟩
        cases z
        exact ⟨_, rfl, _, KX _ _ cell, rfl⟩
  refine ks_codeAny_call_defAt (body := st :: rest) (binds := ps.zip us) room.depth (KX _ _ lk) rfl lim (PySem.W.codeRec_of KX hcd) rfl bind
    S.nocell (fun ⟨n, _⟩ m => S.par n (List.of_mem_zip m).1) (fun h₁ hns kp => ?_) S.co S.gen S.kind
  have I : Inv (ncx CX P w K mg base N (supNF name qual params (st :: rest) scope cc cda) f A outer s H E) [] (startF N vs [some (.ref C)]) H
      { s with heap := h₁, toks := s.toks + (ps.zip us).length } := inv_startN S room.hd e0 hl r cells hns kp
  obtain ⟨X, eX⟩ : ∃ X, X = ncx CX P w K mg base N (supNF name qual params (st :: rest) scope cc cda) f A outer s H E := ⟨_, rfl⟩
  obtain ⟨env, ee⟩ : ∃ env, env = envF (supNF name qual params (st :: rest) scope cc cda) f s.heap.objs.size := ⟨_, rfl⟩
  show _root_.PySem.wpAt (model P w) (A.deeper (envF (supNF name qual params (st :: rest) scope cc cda) f s.heap.objs.size))
    (.func (st :: rest) (envF (supNF name qual params (st :: rest) scope cc cda) f s.heap.objs.size))
    (execs (st :: rest) (envF (supNF name qual params (st :: rest) scope cc cda) f s.heap.objs.size)) _ _ _
  refine ks_wpAt_execs_cons ?_
  have frs_ : ∀ {y : Str} {v : Value}, (ps.zip us)[0]? = some (y, v) → ((ps.zip us).reverse).lookup y = some v := fun {y v} q => by
    rw [List.getElem?_zip_eq_some] at q
    exact zip_look (by
      have z := congrArg (List.take ps.length) S.pre
      rw [List.take_take, Nat.min_eq_left (Nat.le_add_right _ _), List.take_left'  rfl] at z
      rw [← z]
      exact S.nd.sublist (List.take_sublist _ _)) q.1 q.2
  obtain ⟨u0, hu0, ru0⟩ := r.get va
  obtain rfl : u0 = Value.ref a := ru0
  have hv : ((ps.zip us).reverse).lookup ar.arg = some (.ref a) := frs_ (by rw [List.getElem?_zip_eq_some]; exact ⟨par0, hu0⟩)
  have run := sup_run (body := st :: rest) (pl := pl _) (p0 := p0) (p1 := p1) (p2 := p2) (p3 := p3) (p4 := p4) (Q := fun H1 =>
      tr { nx := fun _ H' => Q .non H', rt := Q } (startF N vs [some (.ref C)]) H1) I rfl lk first rfl code hvs main top (show List.lookup _ [(_, cc)] = some cc by simp [List.lookup]) cell T sup subV subC hob
    ks (S.frk _ List.mem_cons_self) mgs (S.par _ (List.mem_of_getElem? par0)) hns hv ha (by
      show (scope.kind == .module && _) = false
      rw [show scope.kind = .function from S.kind]; rfl) (hs _) (hev _) (star _) hta hq
  rw [← hst] at run
  refine ks_wpAt_mono run (fun fl s' ⟨efl, H1, J, q⟩ => ?_) fun _ _ z => z
  subst efl
  refine wpAt_of_wpAny (wpAny_mono (htr.run [] s' _ H1 _ J q) (fun fl s6 h6 => ?_) fun _ _ z => z)
  have fin : ∀ {τ : L2.St} {G : Hp} {v : V} {u : Value}, Inv (ncx CX P w K mg base N (supNF name qual params (st :: rest) scope cc cda) f A outer s H E) [] τ G s6 →
      L2.RelV v u → Q v G → CE outer P w H s Q u s6 := fun {τ G v u} J rv q => ⟨v, G, J.os, J.bare, J.base, J.hok, rv, q⟩
  cases fl with
  | ret u =>
    obtain ⟨v, τ, G, J, rv, q⟩ := h6
    exact fin J rv q
  | next =>
    obtain ⟨τ, G, J, q⟩ := h6
    exact fin (v := V.non) (u := Value.none) J rfl q
  | brk =>
    obtain ⟨_, _, _, q⟩ := h6
    exact False.elim q
  | cont =>
    obtain ⟨_, _, _, q⟩ := h6
    exact False.elim q
end
end Fx

namespace Fx
open PySem PySem.Spec
open PyProof.Rows L2 NdefX
/-! ### what the written part says of the text's exception classes -/
structure XCls (K : PySem.W.Frag) (C : Addr) : Prop where
  hd : PySem.W.hasDictIn K C = true
  ty : PySem.W.typeIn K (.ref C) = some (.type "type")
  bx : PySem.W.subIn K (.ref C) (.type "BaseException") = some true
/-- of a class that has instances -/
structure XIns (K : PySem.W.Frag) (R : Addr) : Prop where
  sa : PySem.W.findIn K (.ref R) "__setattr__" = some (some (.builtin "object.__setattr__"))
  ga : PySem.W.findIn K (.ref R) "__getattribute__" = some (some (.builtin "BaseException.__getattribute__"))
  gg : PySem.W.findIn K (.ref R) "__getattr__" = some none
  ca : PySem.W.findIn K (.ref R) "__class__" = some (some (.builtin "object.__class__"))
  cn : PySem.W.specialIn K (.builtin "object.__class__") "__get__" =
    some (some (.builtin "getset_descriptor.__get__"))
  ct : PySem.W.takesIn K
    (.builtin "object.__class__") = some true
  mo : PySem.W.mroIn K R (.type "object") = some true
  kp : PySem.W.keepIn K (.ref R) = true
  me : PySem.W.subIn K (.ref R) (.ref R) = some true
  ve : PySem.W.subIn K (.ref R) (.type "ValueError") = some true
  cls : ∃ nm q N bs bm sn sub ab col dd k0 k1 k2 k3 k5,
    K.lookup R = some (excClassObj nm q R N bs bm true sn sub ab col dd k0 k1 k2 k3 k5 "ValueError.__new__") ∧ HandSPX.refsVE bm = true
section
variable {K : PySem.W.Frag} {C R : Addr} {b : Bool}
theorem XIns.exc (x : XIns K R) (c : XCls K R) : ExcC K R := ⟨x.ga, x.gg, c.bx, c.hd, x.ca, x.cn, x.ct, x.mo⟩
theorem XIns.oex (x : XIns K R) (c : XCls K R) : OexC K R := ⟨x.cls, x.sa, c.bx, c.ty, x.kp⟩
theorem XIns.fld (x : XIns K R) (c : XCls K R) : XfC K R := ⟨x.ga, x.gg, c.bx, c.hd⟩
theorem kit_own (c : XCls K C) (me : PySem.W.subIn K (.ref R) (.ref R) = some true) (s : PySem.W.subIn K (.ref R) (.ref C) = some b) :
    PySem.W.kitOne K (.ref R) (.ref C) = some b := by
  unfold PySem.W.kitOne
  by_cases e : ((Value.ref R : Value) == .ref C) = true
  · have z : R = C := Value.ref.inj (beq_iff_eq.mp e)
    rw [if_pos e, ← s, ← z, me]
  · rw [if_neg e]
    unfold PySem.W.kitCls
    obtain ⟨cd, h, _⟩ := PySem.W.any_some c.hd
    have t : ((PySem.W.clsIn K C).isSome && PySem.W.typeIn K (.ref C) == some (.type "type")) = true := by
      rw [h, c.ty]
      rfl
    dsimp only
    rw [if_pos t]
    exact s
theorem kit_VE (s : PySem.W.subIn K (.ref R) (.type "ValueError") = some b) : PySem.W.kitOne K (.ref R) (.type "ValueError") = some b := by
  unfold PySem.W.kitOne
  have ne : ¬ ((Value.ref R : Value) == .type "ValueError") = true := fun z => by
    have e : Value.ref R = Value.type "ValueError" := beq_iff_eq.mp z
    cases e
  rw [if_neg ne]
  unfold PySem.W.kitCls
  dsimp only
  rw [if_pos (by decide +kernel)]
  exact s
theorem exm_own (c : XCls K C) (s : PySem.W.subIn K (.ref R) (.ref C) = some b) : PySem.W.exmOne K (.ref R) (.ref C) = some b :=
  PySem.W.exm_ref c.bx c.hd c.ty s
end

/-- the __init__ of R, at f: the text st, beginning with super().__init__(..) -/
structure SupTx (P : Program) (K : PySem.W.Frag) (R f : Addr) (fd : FuncData) (name qual : Str) (st : Stmt) : Prop where
  init : PySem.W.findIn K (.ref R) "__init__" = some (some (.ref f))
  fn : PySem.W.typeIn K (.ref f) = some (.type "function")
  ex : ∃ (oc dV kV doc pm ct ccl cl : Value) (an od cdd cld : Option Addr) (osl ccs csl : Array (Option Value)) (cc cda : Addr) (vs0 : Array Value) (file : Str) (tf : Tok),
    fd = PySem.W.ksFn name qual (defArgs st) (defBody st) (defScope st) dV kV doc pm an (.ref cda) ct cc ∧
    K.lookup f = some ⟨oc, od, .func fd, osl⟩ ∧
    PySem.W.codeIn K (.ref cda) qual = true ∧
    K.lookup cda = some ⟨ccl, cdd, .fields vs0, ccs⟩ ∧ vs0[2]? = some (.str file tf) ∧ ((P.main.file : Str) == file) = true ∧
    K.lookup cc = some ⟨cl, cld, .cell (some (.ref R)), csl⟩
  sup : PySem.W.ks_superIn K R R "__init__" = some (some (.builtin "ValueError.__init__"))
  top : (P.main.scope.names.lookup ("super" : Str)).isSome = false
  mr : PySem.W.mroIn K R (.ref R) = some true
  ob : PySem.W.nsIn K cStatics "thirdparty.any" = some none

/-- what such an __init__ promises: the one field, its value a whole number -/
def sp_exc1 (R : Addr) (f : Str) : Sp := fun vs H Q _ => ∃ (a : Addr) (i : Int), vs = [.ref a, .int i] ∧ i.natAbs.log2 < 1920 ∧ H a = some (exo a R none) ∧
  ∀ dx, H dx = none → dx ≠ a → Q .non (upd (upd H dx (exd dx [(f, .int i)])) a (exo a R (some dx)))
end Fx

namespace Fx
open PySem PySem.Spec PyProof.Rows L2
/-! ### for i, c in enumerate(text) -/
def IteS (x : Str) : It := ⟨fun i _ => i < x.cps.size, fun i H v H' => ∃ (T : Addr) (c : Nat), v = .ref T ∧ H T = none ∧ x.cps[i]? = some c ∧ H' = upd H T (.tup [.int (i : Nat), .str ⟨#[c]⟩]), fun i _ => x.cps.size ≤ i⟩
theorem turn_enumS {P : Program} {w : World} {K : PySem.W.Frag} {elts : List Expr} {kk : Nat} {tpos : Pos} (x : Str) (t : Tok) (e it : Addr) (hne : e ≠ it) :
    Turn P w K (.Tuple elts kk tpos) (IteS x) [e, it] e (fun i h => (∃ old, IsEnum h e it (0 + (i : Int)) old) ∧ h.IsStrIter it (strIterType x) x t i ∧ i ≤ x.cps.size) where
  mem := by simp
  obj := fun i h st b hb => by
    obtain ⟨⟨_, he⟩, ⟨o, ho, _, hd⟩, _⟩ := st
    have two : b = e ∨ b = it := by simpa using hb
    rcases two with rfl | rfl
    · exact ⟨_, he, fun _ q => nomatch q⟩
    · exact ⟨o, ho, fun _ q => nomatch (hd.symm.trans q)⟩
  keep := fun i h h' st k => by
    obtain ⟨⟨old, he⟩, ⟨o, ho, r⟩, le⟩ := st
    exact ⟨⟨old, k e (by simp) _ he⟩, ⟨o, k it (by simp) o ho, r⟩, le⟩
  item := by
    intro X p1 p2 p3 hc i pins s σ H E I hf st hg
    subst p1 p2 p3
    have W := WalksT.enumFrom (prog := X.prog) (w := X.w) (A := X.A) 0 (Draws.text (A := X.A.in1) (I.ok.hd hc) it x t) e hne (fun z => hne (List.mem_singleton.mp z)) (List.mem_singleton.mpr rfl)
    refine W.item i s _ _ hg ⟨st.1, st.2.1⟩ fun T vals h1 tk hP hsz hT hM hk => ⟨_, rfl, W.go _ _ _ i T _ _ _ hM fun h2 st2 hk2 => ?_⟩
    obtain ⟨u, y, ⟨c, v, hcx, rfl⟩, rfl⟩ := hP
    have kk2 : ∀ b o, b ∉ [e, it] → s.heap.get? b = some o → h2.get? b = some o := fun b o hb z => hk2 b o hb (hk b o hb z)
    have hTn : T ∉ [e, it] := W.apart i T _ hM
    obtain ⟨oT, hT1, hT2, n3, hT3⟩ := hT
    have new : ObjOk X.prog X.w (upd H T (.tup [.int (i : Nat), .str ⟨#[c]⟩])) h2 T (.tup [.int (i : Nat), .str ⟨#[c]⟩]) := by
      refine ⟨by show 2 ≤ sizeLine; decide, [.int (0 + (i : Int)) u, .str ⟨#[c]⟩ v], .cons ⟨u, ?_⟩ (.cons ⟨v, rfl⟩ .nil), ⟨oT, hk2 T _ hTn hT1, hT2, n3, hT3⟩⟩
      rw [Int.zero_add]
    have I1 : Inv X pins σ (upd H T (.tup [.int (i : Nat), .str ⟨#[c]⟩])) { s with heap := h2, toks := tk } := I.turnedNew (ch := [e, it]) kk2 hf hsz new
    refine ⟨.ref T, _, I1, rfl, ⟨T, c, rfl, I.hok.fresh hsz, hcx, rfl⟩, ?_, fun b hb => ?_⟩
    · exact ⟨st2.1, st2.2, hg⟩
    · rw [upd_ne (fun z => hTn (by rw [← z]; exact hb))]
      exact (hf b hb).1
  done := by
    intro X p1 p2 p3 hc i pins s σ H E I hf st hg
    subst p1 p2 p3
    obtain ⟨⟨old, he⟩, hit, le⟩ := st
    have fit := hf it (by simp)
    obtain rfl : i = x.cps.size := Nat.le_antisymm le hg
    exact wpAny_pyNext_enum_endD (Draws.text (A := X.A.in1) (I.ok.hd hc) it x t) he hit fun h' eb => ⟨rfl, I.turned (t' := s.toks) (fun b o hb q => eb b o hb q) fit.1 fit.2.1 fit.2.2.2.1 fit.2.2.2.2.1 fit.2.2.2.2.2⟩
  self := fun _ _ _ _ _ st h => wpAny_pyIter_enum st.1.choose_spec h
def iEnumS (ta : TA) : TI := fun σ H R => ta σ H fun vs H1 => ∃ x, vs = [.str x] ∧ R (IteS x) H1
theorem pi_enumS {X : Cx} {e : Expr} {ta : TA} {p pos tpos : Pos} {elts : List Expr} {kk : Nat} (hg : Gl X "enumerate") (hm : X.mg "enumerate" = none) (ha : PA X [e] ta) (hs : starEach [e] X.env = [(false, eval e X.env)] := by rfl) :
    PI X (.Tuple elts kk tpos) (.Call (.Name "enumerate" p) [e] [] pos) (iEnumS ta) := by
  refine ⟨fun pn s σ H R I h => Call_ (ld_blt I hg hm boot_enumerate (PyProof.Rows.callWith_type1 (thn (ha.run pos pn s σ H _ I h) fun us s1 ⟨vs, H1, I1, r1, q1⟩ => ?_) hs rfl))⟩
  obtain ⟨x, ex, q⟩ := q1
  subst ex
  cases r1 with
  | cons r rr =>
    cases rr
    obtain ⟨t, rfl⟩ := r
    refine call_enumerate_str fun h' he hit hsz hk => wpAny_pyIter_enum he ?_
    have I2 : Inv X pn σ H1 { s1 with heap := h' } := I1.kept (t' := s1.toks) hk
    refine ⟨s1.heap.objs.size + 1, [s1.heap.objs.size + 1, s1.heap.objs.size], _, _, H1, rfl, I2, turn_enumS x t (s1.heap.objs.size + 1) s1.heap.objs.size (Nat.succ_ne_self _), ⟨⟨.none, he⟩, hit, Nat.zero_le _⟩, fun b hb => ?_, q⟩
    have two : b = s1.heap.objs.size + 1 ∨ b = s1.heap.objs.size := by simpa only [List.mem_cons, List.not_mem_nil, or_false] using hb
    have behind : s1.heap.objs.size ≤ b := two.elim (fun z => z ▸ Nat.le_succ _) fun z => Nat.le_of_eq z.symm
    exact I1.fpOk behind (I1.hok.fresh behind)
theorem walk_enumS {x : Str} : Walk (IteS x) x.cps.size (fun _ => True) (fun i H v H' => ∃ (T : Addr) (c : Nat), v = .ref T ∧ H T = none ∧ x.cps[i]? = some c ∧ H' = upd H T (.tup [.int (i : Nat), .str ⟨#[c]⟩])) :=
  ⟨fun _ _ hi _ => hi, fun _ _ => Nat.le_refl _, fun _ _ _ _ _ _ y => y⟩
end Fx

namespace Fx
open PySem PySem.Spec PyProof.Rows L2
/-! ### lists of numbers as they stand -/
def ivs (l : List Nat) : List V := l.map fun (k : Nat) => V.int (k : Int)
theorem ivs_map (l : List Nat) : ivs l = (l.map fun (k : Nat) => (k : Int)).map V.int := by
  unfold ivs
  rw [List.map_map]
  rfl
theorem ivs_append (l r : List Nat) : ivs (l ++ r) = ivs l ++ ivs r := List.map_append
theorem ivs_length (l : List Nat) : (ivs l).length = l.length := List.length_map ..
theorem ivs_reverse (l : List Nat) : (ivs l).reverse = ivs l.reverse := by
  unfold ivs
  rw [List.map_reverse]
theorem ivs_get {l : List Nat} {i : Nat} {x : V} (h : (ivs l)[i]? = some x) : ∃ k, l[i]? = some k ∧ x = V.int (k : Int) := by
  unfold ivs at h
  rw [List.getElem?_map] at h
  cases e : l[i]? with
  | none => rw [e] at h; cases h
  | some k =>
    rw [e] at h
    exact ⟨k, rfl, (Option.some.inj h).symm⟩
theorem ivs_at {l : List Nat} {i k : Nat} (h : l[i]? = some k) : (ivs l)[i]? = some (V.int (k : Int)) := by
  unfold ivs
  rw [List.getElem?_map, h]
  rfl
theorem sum_cast : ∀ l : List Nat, (l.map fun (k : Nat) => (k : Int)).sum = ((l.sum : Nat) : Int)
  | [] => rfl
  | a :: r => by
    rw [List.map_cons, List.sum_cons, List.sum_cons, sum_cast r]
    simp
theorem same_own {H H' : Hp} {p : Addr} {o : HO} (a : Same H H') (hp : H p = none) : Same H (upd H' p o) := fun b u e => by
  rw [upd_ne (ne_of_none e hp)]
  exact a b u e

/-! ### data that are compared -/
def dInts (l : List Int) : List PyData := l.map PyData.int
theorem dpAll_ints {K : PySem.W.Frag} {H : Hp} : ∀ l : List Int, DpAll K H (l.map V.int) (dInts l)
  | [] => .nil
  | a :: r => .cons (.int a) (dpAll_ints r)
theorem dpAll_ivs {K : PySem.W.Frag} {H : Hp} (l : List Nat) : DpAll K H (ivs l) (dInts (l.map fun (k : Nat) => (k : Int))) := by
  rw [ivs_map]
  exact dpAll_ints _
theorem canLay_ints : ∀ l : List Int, PyData.canLayAll0 (dInts l) = true
  | [] => rfl
  | a :: r => by
    unfold dInts
    rw [List.map_cons, PyData.canLayAll0]
    have h := canLay_ints r
    unfold dInts at h
    rw [h]
    rfl
theorem depth_ints : ∀ l : List Int, PyData.depthAll (dInts l) ≤ 1
  | [] => by unfold dInts; rw [List.map_nil]; unfold PyData.depthAll; decide
  | a :: r => by
    have h := depth_ints r
    unfold dInts at h ⊢
    rw [List.map_cons]
    unfold PyData.depthAll PyData.depth
    omega
theorem shaped_list {ds : List PyData} (h : PyData.canLayAll0 ds = true) (d : PyData.depthAll ds ≤ 60) : SeqAt.shaped (.list ds) = true := by
  unfold SeqAt.shaped
  rw [Bool.and_eq_true]
  refine ⟨by rw [PyData.canLay0]; exact h, decide_eq_true ?_⟩
  unfold PyData.depth
  omega
theorem shaped_tup {ds : List PyData} (h : PyData.canLayAll0 ds = true) (d : PyData.depthAll ds ≤ 60) : SeqAt.shaped (.tuple ds) = true := by
  unfold SeqAt.shaped
  rw [Bool.and_eq_true]
  refine ⟨by rw [PyData.canLay0]; exact h, decide_eq_true ?_⟩
  unfold PyData.depth
  omega
theorem shaped_ints (l : List Int) : SeqAt.shaped (.list (dInts l)) = true := shaped_list (canLay_ints l) (Nat.le_trans (depth_ints l) (by decide))
theorem shaped_tints (l : List Int) : SeqAt.shaped (.tuple (dInts l)) = true := shaped_tup (canLay_ints l) (Nat.le_trans (depth_ints l) (by decide))
theorem eqv_same {d : PyData} (h : SeqAt.shaped d = true) : PyData.eqv d d = true := SeqAt.eqv_refl d (SeqAt.canLay_of_shaped h)
end Fx

namespace Fx
/-! ### figures -/
/-- figures, the least place first -/
def lsd (b n : Nat) : List Nat := if h : 2 ≤ b ∧ b ≤ n then (n % b) :: lsd b (n / b) else [n]
termination_by n
decreasing_by exact Nat.div_lt_self (by omega) (by omega)
theorem lsd_lt {b n : Nat} (h : n < b) : lsd b n = [n] := by
  rw [lsd, dif_neg (by omega)]
theorem lsd_ge {b n : Nat} (hb : 2 ≤ b) (h : b ≤ n) : lsd b n = n % b :: lsd b (n / b) := by
  rw [lsd, dif_pos ⟨hb, h⟩]
theorem lsd_split {b r : Nat} (hb : 2 ≤ b) : lsd b r = r % b :: (if r / b = 0 then [] else lsd b (r / b)) := by
  by_cases h : b ≤ r
  · have : r / b ≠ 0 := by
      have := Nat.div_pos h (by omega)
      omega
    rw [if_neg this, lsd_ge hb h]
  · rw [if_pos (Nat.div_eq_of_lt (by omega)), lsd_lt (by omega), Nat.mod_eq_of_lt (by omega)]
theorem lsd_below {b : Nat} (hb : 2 ≤ b) : ∀ n : Nat, ∀ d ∈ lsd b n, d < b := fun n => by
  induction n using Nat.strongRecOn with
  | ind n ih =>
    intro d hd
    by_cases h : b ≤ n
    · rw [lsd_ge hb h] at hd
      rcases List.mem_cons.mp hd with rfl | hd
      · exact Nat.mod_lt _ (by omega)
      · exact ih (n / b) (Nat.div_lt_self (by omega) (by omega)) d hd
    · rw [lsd_lt (by omega)] at hd
      cases List.mem_singleton.mp hd
      omega
theorem lsd_ne {b n : Nat} : lsd b n ≠ [] := by
  rw [lsd]
  split <;> simp
theorem lsd_len {b : Nat} (hb : 2 ≤ b) : ∀ (k n : Nat), n < b ^ (k + 1) → (k = 0 ∨ b ^ k ≤ n) → (lsd b n).length = k + 1
  | 0, n, h, _ => by
    rw [Nat.zero_add, Nat.pow_one] at h
    rw [lsd_lt h]
    rfl
  | k + 1, n, h, g => by
    have g' : b ^ (k + 1) ≤ n := by
      rcases g with g | g
      · omega
      · exact g
    have p : 0 < b ^ k := Nat.pow_pos (by omega)
    have h1 : b ≤ n := by
      rw [Nat.pow_succ] at g'
      have := Nat.mul_le_mul_right b (show 1 ≤ b ^ k by omega)
      omega
    rw [lsd_ge hb h1, List.length_cons, lsd_len hb k (n / b)]
    · rw [Nat.div_lt_iff_lt_mul (by omega), ← Nat.pow_succ]
      exact h
    · right
      rw [Nat.le_div_iff_mul_le (by omega), ← Nat.pow_succ]
      exact g'
theorem lsd_get {b : Nat} (hb : 2 ≤ b) : ∀ (i n : Nat), i < (lsd b n).length → (lsd b n)[i]? = some (n / b ^ i % b)
  | 0, n, _ => by
    rw [lsd_split hb, Nat.pow_zero, Nat.div_one]
    rfl
  | i + 1, n, h => by
    rw [lsd_split hb] at h ⊢
    split at h
    · simp at h
    · rename_i hr
      rw [if_neg hr, List.getElem?_cons_succ, lsd_get hb i (n / b) (by simpa using h)]
      rw [Nat.div_div_eq_div_mul, Nat.pow_succ, Nat.mul_comm]
theorem lsd_len_le {b : Nat} (hb : 2 ≤ b) : ∀ (k n : Nat), n < 2 ^ (k + 1) → (lsd b n).length ≤ k + 1
  | 0, n, h => by
    rw [lsd_lt (by omega)]
    exact Nat.le_refl _
  | k + 1, n, h => by
    by_cases g : b ≤ n
    · rw [lsd_ge hb g, List.length_cons]
      have : n / b < 2 ^ (k + 1) := by
        rw [Nat.div_lt_iff_lt_mul (by omega)]
        have := Nat.mul_le_mul_left (2 ^ (k + 1)) hb
        rw [Nat.pow_succ] at h
        omega
      have := lsd_len_le hb k (n / b) this
      omega
    · rw [lsd_lt (by omega)]
      show 1 ≤ _
      omega
/-- figures, the greatest place first -/
def figs (b n : Nat) : List Nat := (lsd b n).reverse
theorem figs_len (b n : Nat) : (figs b n).length = (lsd b n).length := List.length_reverse ..
theorem figs_below {b n d : Nat} (hb : 2 ≤ b) (h : d ∈ figs b n) : d < b := lsd_below hb n d (List.mem_reverse.mp h)
theorem figs_le {b n : Nat} (hb : 2 ≤ b) (h : n < 2 ^ 900) : (figs b n).length ≤ 900 := by
  rw [figs_len]
  exact lsd_len_le hb 899 n h
/-! ### steps -/
def stepN (b p n : Nat) : Nat := ((figs b n).map (· ^ p)).sum
theorem sum_le_mul {l : List Nat} {m : Nat} (h : ∀ x ∈ l, x ≤ m) : l.sum ≤ l.length * m := by
  induction l with
  | nil => simp
  | cons a r ih =>
    rw [List.sum_cons, List.length_cons, Nat.succ_mul]
    have h1 := h a (List.mem_cons_self ..)
    have h2 := ih fun x hx => h x (List.mem_cons_of_mem _ hx)
    omega
theorem pow_le_base {d b p : Nat} (h : d < b) : d ^ p ≤ (b - 1) ^ p := Nat.pow_le_pow_left (by omega) p
theorem stepN_le {b p n : Nat} (hb : 2 ≤ b) : stepN b p n ≤ (figs b n).length * (b - 1) ^ p := by
  unfold stepN
  have := sum_le_mul (l := (figs b n).map (· ^ p)) (m := (b - 1) ^ p) fun x hx => by
    obtain ⟨d, hd, rfl⟩ := List.mem_map.mp hx
    exact pow_le_base (figs_below hb hd)
  rwa [List.length_map] at this
theorem worth_lt {b p : Nat} (hb : b ≤ 16) (hp : p ≤ 10) : (b - 1) ^ p < 2 ^ 40 := by
  have h1 : (b - 1) ^ p ≤ 15 ^ p := Nat.pow_le_pow_left (by omega) p
  have h2 : 15 ^ p ≤ 15 ^ 10 := Nat.pow_le_pow_right (by decide) hp
  have h3 : 15 ^ 10 < 2 ^ 40 := by decide
  omega
theorem stepN_lt {b p n : Nat} (hb : 2 ≤ b) (hb16 : b ≤ 16) (hp : p ≤ 10) (hn : n < 2 ^ 900) : stepN b p n < 2 ^ 50 := by
  have h1 := stepN_le (p := p) (n := n) hb
  have h2 := figs_le hb hn
  have h3 := worth_lt hb16 hp
  have h4 : (figs b n).length * (b - 1) ^ p ≤ 900 * 2 ^ 40 := Nat.mul_le_mul h2 (by omega)
  omega
/-- steps again and again -/
def itN (b p n : Nat) : Nat → Nat
  | 0 => n
  | k + 1 => stepN b p (itN b p n k)
theorem itN_lt {b p n : Nat} (hb : 2 ≤ b) (hb16 : b ≤ 16) (hp : p ≤ 10) (hn : n < 2 ^ 900) : ∀ k, itN b p n k < 2 ^ 900
  | 0 => hn
  | k + 1 => by
    have := stepN_lt hb hb16 hp (itN_lt hb hb16 hp hn k)
    have : itN b p n (k + 1) = stepN b p (itN b p n k) := rfl
    have e : (2 : Nat) ^ 50 ≤ 2 ^ 900 := Nat.pow_le_pow_right (by decide) (by decide)
    omega
def rowN (b p n : Nat) : Nat → List Nat
  | 0 => []
  | m + 1 => rowN b p n m ++ [itN b p n m]
theorem rowN_len (b p n : Nat) : ∀ m, (rowN b p n m).length = m
  | 0 => rfl
  | m + 1 => by
    rw [rowN, List.length_append, rowN_len b p n m]
    rfl
end Fx
namespace Fx
/-! ### the law's own figures -/
def powsN (b : Nat) : Nat → List Nat
  | 0 => []
  | k + 1 => powsN b k ++ [b ^ k]
theorem powsN_len (b : Nat) : ∀ k, (powsN b k).length = k
  | 0 => rfl
  | k + 1 => by
    rw [powsN, List.length_append, powsN_len b k]
    rfl
theorem powsN_get (b : Nat) : ∀ k i, i < k → (powsN b k)[i]? = some (b ^ i)
  | 0, _, h => by omega
  | k + 1, i, h => by
    rw [powsN]
    by_cases e : i = k
    · subst e
      rw [List.getElem?_append_right (by rw [powsN_len]; exact Nat.le_refl _), powsN_len, Nat.sub_self]
      rfl
    · rw [List.getElem?_append_left (by rw [powsN_len]; omega)]
      exact powsN_get b k i (by omega)
theorem powsN_rev {b k i : Nat} (h : i < k + 1) : (powsN b (k + 1)).reverse[i]? = some (b ^ (k - i)) := by
  rw [List.getElem?_reverse (by rw [powsN_len]; exact h), powsN_len, powsN_get b (k + 1) _ (by omega)]
  rw [show k + 1 - 1 - i = k - i by omega]
def fndN (b n k i : Nat) : List Nat := (List.range i).map fun t => n / b ^ (k - t) % b
theorem fndN_succ (b n k i : Nat) : fndN b n k (i + 1) = fndN b n k i ++ [n / b ^ (k - i) % b] := by
  unfold fndN
  rw [List.range_succ, List.map_append]
  rfl
theorem fndN_len (b n k i : Nat) : (fndN b n k i).length = i := by
  unfold fndN
  rw [List.length_map, List.length_range]
theorem fndN_all {b n k : Nat} (hb : 2 ≤ b) (h1 : n < b ^ (k + 1)) (h2 : k = 0 ∨ b ^ k ≤ n) : fndN b n k (k + 1) = figs b n := by
  have hl := lsd_len hb k n h1 h2
  refine List.ext_getElem? fun i => ?_
  by_cases hi : i < k + 1
  · unfold figs fndN
    rw [List.getElem?_reverse (by rw [hl]; exact hi), hl, lsd_get hb _ n (by rw [hl]; omega), List.getElem?_map, List.getElem?_range hi]
    have e : k + 1 - 1 - i = k - i := by omega
    rw [e]
    rfl
  · rw [List.getElem?_eq_none (by rw [fndN_len]; omega), List.getElem?_eq_none (by rw [figs_len, hl]; omega)]
theorem fig_div {b n j : Nat} : n % b ^ (j + 1) / b ^ j = n / b ^ j % b := by
  rw [Nat.pow_succ, Nat.mod_mul_right_div_self]
theorem fig_mod {b n j : Nat} : n % b ^ (j + 1) % b ^ j = n % b ^ j := by
  rw [Nat.pow_succ, Nat.mod_mul_right_mod]
theorem lt_pow' {b : Nat} (hb : 2 ≤ b) : ∀ k : Nat, k < b ^ k
  | 0 => by rw [Nat.pow_zero]; decide
  | k + 1 => by
    have := lt_pow' hb k
    rw [Nat.pow_succ]
    have := Nat.mul_le_mul_left (b ^ k) hb
    omega
open L2 in
theorem divN {x : Int} {j : Nat} (h0 : 0 < j) (h : j < 2 ^ 900) : CDivW x (j : Int) := wide_div (b := 900) (by omega) h (by decide) (by decide)
end Fx

namespace Fx
open PySem PySem.Spec PyProof.Rows L2
/-! ### texts of figures -/
/-- the signs of the figures -/
def figCodes : List Nat := [48, 49, 50, 51, 52, 53, 54, 55, 56, 57, 97, 98, 99, 100, 101, 102]
def sg (d : Nat) : Nat := figCodes.getD d 0
abbrev one (c : Nat) : Str := ⟨#[c]⟩
def txt (ds : List Nat) : Str := ⟨(ds.map sg).toArray⟩
abbrev FIG : Str := "0123456789abcdef"
theorem fig_codes : FIG.cps.toList = figCodes := by decide +kernel
theorem fig_len : FIG.length ≤ sizeLine := by decide +kernel
theorem fig_at {d : Nat} (h : d < 16) : atI FIG.cps.toList (d : Int) = some (sg d) := by
  refine atI_nat ?_
  rw [fig_codes]
  have a : ∀ d ∈ List.range 16, figCodes[d]? = some (sg d) := by decide +kernel
  exact a d (List.mem_range.mpr h)
theorem fig_find {d : Nat} (h : d < 16) : Txt.find FIG (one (sg d)) = (d : Int) := by
  have a : ∀ d ∈ List.range 16, Txt.find FIG (one (sg d)) = (d : Int) := by decide +kernel
  exact a d (List.mem_range.mpr h)
theorem sg_inj {d e : Nat} (h : d < 16) (h' : e < 16) (q : sg d = sg e) : d = e := by
  have a : ∀ d ∈ List.range 16, ∀ e ∈ List.range 16, sg d = sg e → d = e := by decide +kernel
  exact a d (List.mem_range.mpr h) e (List.mem_range.mpr h') q
theorem tl_txt (ds : List Nat) : (txt ds).cps.toList = ds.map sg := rfl
theorem txt_len (ds : List Nat) : (txt ds).length = ds.length := by
  show (ds.map sg).toArray.size = _
  rw [List.size_toArray, List.length_map]
theorem txt_at {ds : List Nat} {i : Nat} {d : Nat} (h : ds[i]? = some d) : (txt ds).cps[i]? = some (sg d) := by
  show ((ds.map sg).toArray)[i]? = _
  rw [List.getElem?_toArray, List.getElem?_map, h]
  rfl
theorem txt_atI {ds : List Nat} {i : Nat} {d : Nat} (h : ds[i]? = some d) : atI (txt ds).cps.toList (i : Int) = some (sg d) := by
  refine atI_nat ?_
  rw [tl_txt, List.getElem?_map, h]
  rfl
/-- signs joined -/
theorem joinL_ones : ∀ cs : List Nat, TL.joinL [] (cs.map fun c => [c]) = cs
  | [] => rfl
  | [c] => rfl
  | c :: e :: r => by
    show [c] ++ ([] ++ TL.joinL [] ((e :: r).map fun c => [c])) = _
    rw [joinL_ones (e :: r)]
    rfl
theorem join_ones (cs : List Nat) : Txt.join "" (cs.map one) = ⟨cs.toArray⟩ := by
  rw [TL.join_eq]
  have e : TL.tl (Str.join "" (cs.map one)) = TL.tl ⟨cs.toArray⟩ := by
    rw [TL.tl_join, List.map_map]
    exact joinL_ones cs
  have f : ∀ x y : Str, TL.tl x = TL.tl y → x = y := fun x y h => by
    cases x with
    | mk a =>
      cases y with
      | mk b =>
        have h' : a.toList = b.toList := h
        rw [show a = b from Array.toList_inj.mp h']
  exact f _ _ e
/-- what figures are worth -/
def val (b : Nat) (ds : List Nat) : Nat := ds.foldl (fun a d => a * b + d) 0
theorem val_take {b : Nat} {ds : List Nat} {i d : Nat} (h : ds[i]? = some d) : val b (ds.take (i + 1)) = val b (ds.take i) * b + d := by
  unfold val
  rw [List.take_add_one, h, List.foldl_append]
  rfl
theorem val_figs {b : Nat} (hb : 2 ≤ b) : ∀ n : Nat, val b (figs b n) = n := fun n => by
  induction n using Nat.strongRecOn with
  | ind n ih =>
    by_cases h : b ≤ n
    · have e : figs b n = figs b (n / b) ++ [n % b] := by
        unfold figs
        rw [lsd_ge hb h, List.reverse_cons]
      have i := ih (n / b) (Nat.div_lt_self (by omega) (by omega))
      rw [e]
      unfold val at i ⊢
      rw [List.foldl_append, i]
      show n / b * b + n % b = n
      rw [Nat.mul_comm]
      exact Nat.div_add_mod n b
    · unfold figs
      rw [lsd_lt (by omega)]
      show 0 * b + n = n
      omega
theorem val_lt {b : Nat} (hb : 2 ≤ b) : ∀ ds : List Nat, (∀ d ∈ ds, d < b) → val b ds < b ^ ds.length := fun ds h => by
  have go : ∀ (ds : List Nat) (a k : Nat), (∀ d ∈ ds, d < b) → a < b ^ k → ds.foldl (fun a d => a * b + d) a < b ^ (k + ds.length) := by
    intro ds
    induction ds with
    | nil => intro a k _ h; exact h
    | cons d r ih =>
      intro a k h0 h1
      have hd := h0 d (List.mem_cons_self ..)
      have := ih (a * b + d) (k + 1) (fun e he => h0 e (List.mem_cons_of_mem _ he)) (by
        rw [Nat.pow_succ]
        have := Nat.mul_le_mul_right b (show a + 1 ≤ b ^ k from h1)
        rw [Nat.succ_mul] at this
        omega)
      rw [List.length_cons]
      rw [show k + (r.length + 1) = k + 1 + r.length by omega]
      exact this
  have := go ds 0 0 h (by rw [Nat.pow_zero]; decide)
  rwa [Nat.zero_add] at this
/-- a number's figures: no nought ahead of others -/
theorem figs_head {b : Nat} (hb : 2 ≤ b) : ∀ n : Nat, ∀ d : Nat, (figs b n)[0]? = some d → d = 0 → (figs b n).length = 1 := fun n => by
  induction n using Nat.strongRecOn with
  | ind n ih =>
    intro d hd h0
    by_cases h : b ≤ n
    · have e : figs b n = figs b (n / b) ++ [n % b] := by
        unfold figs
        rw [lsd_ge hb h, List.reverse_cons]
      have hlen : 0 < (figs b (n / b)).length := by
        rw [figs_len]
        exact List.length_pos_iff.mpr lsd_ne
      rw [e, List.getElem?_append_left hlen] at hd
      have l1 := ih (n / b) (Nat.div_lt_self (by omega) (by omega)) d hd h0
      have hq : 0 < n / b := Nat.div_pos h (by omega)
      have ev := val_figs hb (n / b)
      have : ∃ x, figs b (n / b) = [x] := List.length_eq_one_iff.mp l1
      obtain ⟨x, hx⟩ := this
      rw [hx] at hd ev
      have : x = d := Option.some.inj hd
      have ev' : 0 * b + x = n / b := ev
      omega
    · unfold figs
      rw [lsd_lt (by omega)]
      rfl
theorem figs_ne {b n : Nat} : figs b n ≠ [] := fun h => lsd_ne (List.reverse_eq_nil_iff.mp h)
/-- figures that may be read: some, below the base, no nought ahead of others -/
structure Reads (b : Nat) (ds : List Nat) : Prop where
  ne : ds ≠ []
  below : ∀ d ∈ ds, d < b
  head : ∀ d, ds[0]? = some d → d = 0 → ds.length = 1
theorem Reads.figs {b : Nat} (hb : 2 ≤ b) (n : Nat) : Reads b (figs b n) := ⟨figs_ne, fun _ h => figs_below hb h, figs_head hb n⟩
end Fx

namespace Fx
open PySem PySem.Spec
open PyProof.Rows L2
/-! ### a text gone along by its signs -/
/-- the figure that a sign is, below 0 if it is none -/
def fi (c : Nat) : Int := Txt.find FIG (one c)
/-- the number (left), or the place of the first wrong sign (right) -/
def scan (b : Nat) : List Nat → Nat → Int → Int ⊕ Nat
  | [], _, n => .inl n
  | c :: r, i, n => if 0 ≤ fi c ∧ fi c < b then scan b r (i + 1) (n * b + fi c) else .inr i
def bad0 (x : Str) : Bool := decide (x = "") || (decide (x.cps[0]? = some 48) && decide (1 < x.length))
def dueOf (b : Nat) (x : Str) : Int ⊕ Nat := if bad0 x = true then .inr 0 else scan b x.cps.toList 0 0
theorem scan_end {b : Nat} {l : List Nat} {i j : Nat} {n : Int} (h : l.length ≤ j) : scan b (l.drop j) i n = .inl n := by
  rw [List.drop_eq_nil_of_le h]
  rfl
theorem scan_good {b : Nat} {l : List Nat} {j i c : Nat} {n : Int} (h : l[j]? = some c) (g : 0 ≤ fi c ∧ fi c < b) : scan b (l.drop j) i n = scan b (l.drop (j + 1)) (i + 1) (n * b + fi c) := by
  obtain ⟨hj, e⟩ := List.getElem?_eq_some_iff.mp h
  rw [List.drop_eq_getElem_cons hj, e]
  show (if _ then _ else _) = _
  rw [if_pos g]
theorem scan_bad {b : Nat} {l : List Nat} {j i c : Nat} {n : Int} (h : l[j]? = some c) (g : ¬ (0 ≤ fi c ∧ fi c < b)) : scan b (l.drop j) i n = .inr i := by
  obtain ⟨hj, e⟩ := List.getElem?_eq_some_iff.mp h
  rw [List.drop_eq_getElem_cons hj, e]
  show (if _ then _ else _) = _
  rw [if_neg g]
theorem scan_place {b : Nat} : ∀ {l : List Nat} {i p : Nat} {n : Int}, scan b l i n = .inr p → p < i + l.length
  | [], _, _, _, h => by cases h
  | c :: r, i, p, n, h => by
    unfold scan at h
    split at h
    · have z := scan_place h
      rw [List.length_cons]
      omega
    · cases h
      rw [List.length_cons]
      omega
theorem due_place {b p : Nat} {x : Str} (h : dueOf b x = .inr p) : p ≤ x.length := by
  unfold dueOf at h
  split at h
  · cases h
    exact Nat.zero_le _
  · have z := scan_place h
    have y : x.cps.toList.length = x.length := by
      unfold Str.length
      rw [Array.length_toList]
    omega
theorem str_empty {x : Str} (h : x.length = 0) : x = "" := by
  cases x with
  | mk a =>
    have z : a.size = 0 := h
    rw [Array.size_eq_zero_iff.mp z]
    rfl
theorem one_is {c d : Nat} (h : V.str (one c) = V.str (one d)) : c = d := by
  injection h with h
  injection h with h
  have e := congrArg Array.toList h
  injection e

section
variable {K : PySem.W.Frag} {R : Addr} {f : Str}
/-- such an exception made, raised -/
theorem made_exc1 {H1 : Hp} {i : Int} {Q : XK} (hi : i.natAbs.log2 < 1920)
    (q : ∀ d H', Same H1 H' → KF H' d f (.int i) → Q (.ref R) (some d) H') :
    ∀ a, H1 a = none → sp_exc1 R f (.ref a :: ([.int i] ++ [])) (upd H1 a (exo a R none))
      (fun v H2 => v = .non ∧ ∃ (d : Addr) (fs : List (Str × V)), H2 a = some (exo a R (some d)) ∧ H2 d = some (exd d fs) ∧ H1 d = none ∧
        Q (.ref R) (some d) (upd (L2.del H2 a) d (.xd fs))) (fun _ _ _ => False) := by
  intro a ha
  refine ⟨a, i, rfl, hi, upd_same, fun dx n ne => ⟨rfl, dx, [(f, .int i)], upd_same, by rw [upd_ne ne, upd_same], by rw [← n, upd_ne ne], ?_⟩⟩
  have n1 : H1 dx = none := by rw [← n, upd_ne ne]
  refine q dx _ (fun b o e => ?_) ⟨_, .inl upd_same, by simp [List.lookup]⟩
  have b1 : b ≠ dx := ne_of_none e n1
  have b2 : b ≠ a := ne_of_none e ha
  rw [upd_ne b1, L2.del_ne b2, upd_ne b2, upd_ne b1, upd_ne b2]
  exact e
/-- such an exception made, as a value -/
theorem made_val1 {H1 : Hp} {i : Int} {Q : Addr → Hp → Prop} (hi : i.natAbs.log2 < 1920)
    (q : ∀ a d H', Same H1 H' → KX H' a R (some d) → KF H' d f (.int i) → Q a H') :
    ∀ a, H1 a = none → sp_exc1 R f (.ref a :: ([.int i] ++ [])) (upd H1 a (exo a R none)) (fun v H2 => v = .non ∧ Q a H2) (fun _ _ _ => False) := by
  intro a ha
  refine ⟨a, i, rfl, hi, upd_same, fun dx n ne => ⟨rfl, ?_⟩⟩
  have n1 : H1 dx = none := by rw [← n, upd_ne ne]
  refine q a dx _ (fun b o e => ?_) (kx_made upd_same) ⟨_, .inr (by rw [upd_ne ne, upd_same]), by simp [List.lookup]⟩
  have b1 : b ≠ dx := ne_of_none e n1
  have b2 : b ≠ a := ne_of_none e ha
  rw [upd_ne b2, upd_ne b1, upd_ne b2]
  exact e
end
theorem small_log {i : Nat} (h : i ≤ 100000) : (i : Int).natAbs.log2 < 1920 := by
  have e : (i : Int).natAbs = i := rfl
  rw [e]
  by_cases z : i = 0
  · subst z
    decide +kernel
  · refine (Nat.log2_lt z).mpr (Nat.lt_of_le_of_lt h ?_)
    exact Nat.lt_of_lt_of_le (by decide : 100000 < 2 ^ 17) (Nat.pow_le_pow_right (by decide) (by decide))
end Fx

namespace Fx
open PySem PySem.Spec PyProof.Rows L2
/-- a bound of all numbers that are drawn -/
theorem same_step {b s f : Int} {i : Nat} (hb : 2 ≤ b) (h0 : 0 ≤ s) (h1 : s < b ^ i) (f0 : 0 ≤ f) (f1 : f < b) : 0 ≤ b * s + f ∧ b * s + f < b ^ (i + 1) := by
  have e : b ^ (i + 1) = b * b ^ i := by rw [Int.pow_succ, Int.mul_comm]
  have h2 : s + 1 ≤ b ^ i := h1
  have h3 := Int.mul_le_mul_of_nonneg_left h2 (show 0 ≤ b by omega)
  have h4 : 0 ≤ b * s := Int.mul_nonneg (by omega) h0
  rw [Int.mul_add, Int.mul_one] at h3
  rw [e]
  omega
theorem pow_le16 {b : Int} (h0 : 2 ≤ b) (h1 : b ≤ 16) {i : Nat} (hi : i ≤ 40) : b ^ i ≤ 16 ^ 40 := by
  have mono : ∀ n : Nat, b ^ n ≤ 16 ^ n := fun n => by
    induction n with
    | zero => rw [Int.pow_zero, Int.pow_zero]; exact Int.le_refl _
    | succ n ih =>
      rw [Int.pow_succ, Int.pow_succ]
      exact Int.le_trans (Int.mul_le_mul_of_nonneg_right ih (by omega)) (Int.mul_le_mul_of_nonneg_left h1 (Int.le_of_lt (Int.pow_pos (by decide))))
  have up : ∀ n : Nat, (16 : Int) ^ i ≤ 16 ^ (i + n) := fun n => by
    induction n with
    | zero => exact Int.le_refl _
    | succ n ih =>
      rw [← Nat.add_assoc, Int.pow_succ]
      have p : (0 : Int) < 16 ^ (i + n) := Int.pow_pos (by decide)
      omega
  have u := up (40 - i)
  rw [show i + (40 - i) = 40 by omega] at u
  exact Int.le_trans (mono i) u
theorem div_le {x y : Int} (h0 : 0 ≤ x) (h1 : 1 ≤ y) : 0 ≤ x / y ∧ x / y ≤ x := ⟨Int.ediv_nonneg h0 (by omega), Int.ediv_le_self y h0⟩
end Fx

namespace Fx
open PySem PySem.Spec
open PyProof.Rows L2
section
variable {X : Cx}
/-! ### a list of truths, counted -/
def isB (k : Bool) : Value → Bool
  | .bool b => b == k
  | _ => false
theorem isB_count {k : Bool} : ∀ {bs : List Bool} {us : List Value}, Vals (bs.map V.bl) us → us.countP (isB k) = bs.count k
  | [], us, r => by
    cases r
    rfl
  | b :: bs, us, r => by
    rw [List.map_cons] at r
    cases r with
    | @cons _ u _ us' ra rr =>
      obtain rfl : u = Value.bool b := ra
      rw [List.countP_cons, List.count_cons, isB_count rr]
      rfl
theorem isB_at {A : Around} {s : Shared} {k : Bool} : ∀ {bs : List Bool} {us : List Value}, Vals (bs.map V.bl) us → ∀ y ∈ us, SeqAt.EqAt A s y (.bool k) (isB k y)
  | [], us, r => fun y hy => by
    cases r
    cases hy
  | b :: bs, us, r => fun y hy => by
    rw [List.map_cons] at r
    cases r with
    | @cons _ u _ us' ra rr =>
      obtain rfl : u = Value.bool b := ra
      rcases List.mem_cons.mp hy with e | e
      · rw [e]
        exact SeqAt.EqAt.bool_bool b k
      · exact isB_at rr y e
def rCntB (K : PySem.W.Frag) : V → List V → Hp → VK → Prop := fun x xs H Q =>
  ∃ (p : Addr) (bs : List Bool) (k : Bool), x = .ref p ∧ xs = [.bl k] ∧ SqL K H p (bs.map V.bl) ∧ Q (.int (bs.count k : Nat)) H
theorem mt_countB : MtR X "list.count" (rCntB X.K) := by
  rintro pins s σ H x xs v us Q I rx rxs ⟨p, bs, k, rfl, rfl, hs, q⟩
  cases rx
  obtain ⟨u, rfl, ru⟩ := rxs.one
  obtain rfl : u = Value.bool k := ru
  obtain ⟨its, rv, ⟨⟨oc, dd, oda, sl⟩, n, ho, hc, _, hd⟩, _⟩ := I.list hs
  dsimp only at hc hd
  subst hc hd
  refine call_meets PySem.F.slot_list_count ⟨_, ho, rfl⟩
    PySem.F.entry_list_count (PySem.F.args_list_count_2 _ _)
    (SeqAt.list_countAt p its.toArray n dd sl (.bool k) (isB k)) ⟨ho, fun y hy => isB_at rv y (by simpa using hy), ?_⟩
  have many : its.toArray.toList.countP (isB k) = bs.count k := isB_count rv
  refine ⟨.int (bs.count k : Nat), H, I.tok _, ⟨s.toks, ?_⟩, q⟩
  show Value.int ((its.toArray.toList.countP (isB k) : Nat) : Int) s.toks = Value.int ((bs.count k : Nat) : Int) s.toks
  rw [many]

/-! ### a text again and again: how long it is -/
def rMulS : R2 := fun x y H Q => ∃ (z : Str) (k : Nat), x = .str z ∧ y = .int (k : Int) ∧ 2 ≤ k ∧ k ≤ 1000 ∧ z.length ≤ 10000 ∧
  ∀ r : Str, r.length ≤ z.length * k → Q (.str r) H
theorem fold_len (a : Array Nat) : ∀ (k : Nat) (acc : Array Nat), ((List.replicate k a).foldl (· ++ ·) acc).size = acc.size + a.size * k
  | 0, acc => by simp
  | k + 1, acc => by
    rw [List.replicate_succ, List.foldl_cons, fold_len a k, Array.size_append, Nat.mul_succ]
    omega
theorem op_mulS : OpR X (binaryOp .Mult) rMulS := by
  rintro pins s σ H x y u v Q I rx ry ⟨z, k, rfl, rfl, hk, hk2, hz, q⟩
  obtain ⟨t, rfl⟩ := rx
  obtain ⟨t2, rfl⟩ := ry
  have big : z.length * k ≤ 10000000 := Nat.le_trans (Nat.mul_le_mul hz hk2) (by decide)
  refine PySem.P.mul_str (by simp; omega) (fun _ _ => ?_) (fun _ _ => ?_) ?_
  · have d : (10000 : Int) ≤ (2 ^ 63 - 1) / (k : Int) := by
      rw [Int.le_ediv_iff_mul_le (by omega)]
      omega
    omega
  · rw [Int.toNat_natCast]
    exact decide_eq_false (by rw [sizeLine_eq]; omega)
  · rw [if_neg (by omega)]
    by_cases e : ((k : Int) == 1 || z.length == 0) = true
    · rw [if_pos e]
      exact ⟨.str z, H, I, ⟨t, rfl⟩, q z (Nat.le_mul_of_pos_right _ (by omega))⟩
    · rw [if_neg e]
      have len : (Str.mk ((List.replicate (k : Int).toNat z.cps).foldl (· ++ ·) #[])).length = z.length * k := by
        show ((List.replicate (k : Int).toNat z.cps).foldl (· ++ ·) #[]).size = _
        rw [Int.toNat_natCast, fold_len]
        show 0 + z.cps.size * k = z.cps.size * k
        omega
      exact ⟨by rw [len, sizeLine_eq]; omega, .str _, H, I.tok _, ⟨s.toks, rfl⟩, q _ (Nat.le_of_eq len)⟩
end
theorem cut_one {x : Str} {c : Nat} (h : x.cps[0]? = some c) : cutS x none (some 1) = one c := by
  obtain ⟨hz, e⟩ := Array.getElem?_eq_some_iff.mp h
  have ne : x.length = x.cps.size := rfl
  have i1 : HT.sIx x.length x.length (some 1) = 1 := by
    have z := HT.sIx_nat x.length x.length 1
    rw [show ((1 : Nat) : Int) = 1 from rfl] at z
    rw [z]
    omega
  unfold cutS
  rw [i1, HT.sIx_none, List.drop_zero]
  have l : x.cps.toList = c :: x.cps.toList.tail := by
    cases q : x.cps.toList with
    | nil =>
      have z : x.cps.toList.length = 0 := by rw [q]; rfl
      rw [Array.length_toList] at z
      omega
    | cons a r =>
      have z : x.cps.toList[0]? = some c := by rw [Array.getElem?_toList]; exact h
      rw [q] at z
      cases z
      rfl
  rw [l]
  rfl
theorem atI_ex {α : Type} {l : List α} {i : Int} (h0 : 0 ≤ i) (h1 : i < (l.length : Int)) : ∃ c, atI l i = some c := by
  obtain ⟨k, rfl⟩ := Int.eq_ofNat_of_zero_le h0
  exact ⟨_, atI_nat (List.getElem?_eq_getElem (by omega))⟩
theorem cut_short (z : Str) (k : Nat) : (cutS z none (some (k : Int))).length ≤ k := by
  show (((z.cps.toList.drop (HT.sIx z.length 0 none)).take (HT.sIx z.length z.length (some (k : Int)) - HT.sIx z.length 0 none)).toArray).size ≤ k
  rw [List.size_toArray, List.length_take, HT.sIx_nat, HT.sIx_none]
  omega
end Fx

namespace Fx
open PySem PySem.Spec PyProof.Rows L2
/-- the greatest power that a base lets -/
def mosts : List Int := [10, 9, 6, 4, 4, 3, 3, 3, 3, 3, 2, 2, 2, 2, 2]
def mostOf (b : Int) : Int := mosts.getD (b - 2).toNat 0
def OkPair (b p : Int) : Prop := 2 ≤ b ∧ b ≤ 16 ∧ 1 ≤ p ∧ p ≤ mostOf b
/-- all of a pair's places, to be shown one by one -/
def pairsAll : List (Int × Int) := (List.range 15).flatMap fun (i : Nat) => (List.range (mosts.getD i 0).toNat).map fun (j : Nat) => (((i : Nat) : Int) + 2, ((j : Nat) : Int) + 1)
theorem OkPair.mem {b p : Int} (h : OkPair b p) : (b, p) ∈ pairsAll := by
  obtain ⟨h1, h2, h3, h4⟩ := h
  refine List.mem_flatMap.mpr ⟨(b - 2).toNat, List.mem_range.mpr (by omega), List.mem_map.mpr ⟨(p - 1).toNat, List.mem_range.mpr ?_, ?_⟩⟩
  · unfold mostOf at h4
    omega
  · show (((b - 2).toNat : Int) + 2, ((p - 1).toNat : Int) + 1) = (b, p)
    rw [Prod.mk.injEq]
    omega
theorem OkPair.all {P : Int → Int → Prop} {b p : Int} (h : OkPair b p) (a : ∀ q ∈ pairsAll, P q.1 q.2) : P b p := a _ h.mem
theorem OkPair.le10 {b p : Int} (h : OkPair b p) : p ≤ 10 := h.all (P := fun _ p => p ≤ 10) (by decide +kernel)
/-- what the greatest figure is worth -/
def worth (b p : Int) : Int := (b - 1) ^ p.toNat
theorem OkPair.worth {b p : Int} (h : OkPair b p) : 1 ≤ worth b p ∧ worth b p ≤ 1000 + 24 := h.all (P := fun b p => 1 ≤ Fx.worth b p ∧ Fx.worth b p ≤ 1024) (by decide +kernel)
theorem most_pos {b : Int} (h1 : 2 ≤ b) (h2 : b ≤ 16) : 1 ≤ mostOf b ∧ mostOf b ≤ 10 := by
  have a : ∀ i ∈ List.range 15, 1 ≤ mosts.getD i 0 ∧ mosts.getD i 0 ≤ 10 := by decide +kernel
  exact a (b - 2).toNat (List.mem_range.mpr (by omega))
theorem most_at {b : Int} (h1 : 2 ≤ b) (h2 : b ≤ 16) : atI (mosts.map V.int) (b - 2) = some (.int (mostOf b)) := by
  have hi : (b - 2).toNat < mosts.length := by
    show (b - 2).toNat < 15
    omega
  have z : (mosts.map V.int)[(b - 2).toNat]? = some (.int (mostOf b)) := by
    rw [List.getElem?_map, List.getElem?_eq_getElem hi]
    unfold mostOf
    rw [List.getD_eq_getElem?_getD, List.getElem?_eq_getElem hi]
    rfl
  have y := atI_nat z
  rw [show (((b - 2).toNat : Nat) : Int) = b - 2 by omega] at y
  exact y
/-- a pair's tuple as it stands -/
def PairAt (H : Hp) (v : V) (b p : Int) : Prop := ∃ a, v = .ref a ∧ H a = some (.tup [.int b, .int p]) ∧ OkPair b p
theorem PairAt.but {H H' : Hp} {d c : Addr} {n : Nat} {v : V} {b p : Int} (h : PairAt H v b p) (D : Deck H d c n) (e : But d H H') : PairAt H' v b p := by
  obtain ⟨a, e1, e2, e3⟩ := h
  exact ⟨a, e1, e.tup D e2, e3⟩
theorem PairAt.same {H H' : Hp} {v : V} {b p : Int} (h : PairAt H v b p) (e : Same H H') : PairAt H' v b p := by
  obtain ⟨a, e1, e2, e3⟩ := h
  exact ⟨a, e1, e _ _ e2, e3⟩
theorem PairAt.upd {H : Hp} {D : Addr} {xs : List V} {o : HO} {v : V} {b p : Int} (h : PairAt H v b p) (e : H D = some (.lst xs)) : PairAt (upd H D o) v b p := by
  obtain ⟨a, e1, e2, e3⟩ := h
  exact ⟨a, e1, by rw [upd_ne (ne_of e2 e fun z => by cases z)]; exact e2, e3⟩
/-- all things of a list are pairs -/
def Pairs (H : Hp) (xs : List V) : Prop := ∀ v ∈ xs, ∃ b p, PairAt H v b p
theorem Pairs.mono {H H' : Hp} {xs : List V} (h : Pairs H xs) (k : ∀ v b p, PairAt H v b p → PairAt H' v b p) : Pairs H' xs := fun v hv => by
  obtain ⟨b, p, q⟩ := h v hv
  exact ⟨b, p, k v b p q⟩
theorem Pairs.app {H : Hp} {xs ys : List V} (h : Pairs H xs) (g : Pairs H ys) : Pairs H (xs ++ ys) := fun v hv => (List.mem_append.mp hv).elim (h v) (g v)
theorem Pairs.rev {H : Hp} {xs : List V} (h : Pairs H xs) : Pairs H xs.reverse := fun v hv => h v (List.mem_reverse.mp hv)
theorem Pairs.one {H : Hp} {v : V} {b p : Int} (h : PairAt H v b p) : Pairs H [v] := fun u hu => by
  cases List.mem_singleton.mp hu
  exact ⟨b, p, h⟩
/-- pairs drawn one by one: n at the start, k draws a pair -/
structure Drawn (H H' : Hp) (d c D : Addr) (n i : Nat) : Prop where
  but : But d H H'
  deck : Deck H' d c (n + 3 * i)
  list : ∃ acc, H' D = some (.lst acc) ∧ acc.length = i ∧ Pairs H' acc
theorem Drawn.next {H H1 H2 : Hp} {d c D p : Addr} {n i : Nat} {b pw : Int} (h : Drawn H H1 d c D n i) (hD : H D = none) (hd : D ≠ d) (hc : D ≠ c) (b1 : But d H1 H2) (D2 : Deck H2 d c (n + 3 * i + 3)) (e : H2 p = some (.tup [.int b, .int pw])) (ok : OkPair b pw) :
    ∃ acc, H2 D = some (.lst acc) ∧ acc.length = i ∧ Drawn H (L2.upd H2 D (.lst (acc ++ [.ref p]))) d c D n (i + 1) := by
  obtain ⟨acc, e1, e2, e3⟩ := h.list
  have e4 : H2 D = some (.lst acc) := b1 _ _ hd e1
  refine ⟨acc, e4, e2, (h.but.trans b1).own hD, D2.off hd hc, acc ++ [.ref p], upd_same, by rw [List.length_append, e2]; rfl, ?_⟩
  refine Pairs.app ?_ (Pairs.one (PairAt.upd ⟨p, rfl, e, ok⟩ e4))
  exact e3.mono fun v b p q => (q.but h.deck b1).upd e4
end Fx

namespace Fx
open PySem PySem.Spec PyProof.Rows L2
/-- a pair's numbers as naturals -/
theorem OkPair.nat {b p : Int} (h : OkPair b p) : ∃ b' p' : Nat, b = (b' : Int) ∧ p = (p' : Int) ∧ 2 ≤ b' ∧ b' ≤ 16 ∧ 1 ≤ p' ∧ p' ≤ 10 := by
  obtain ⟨h1, h2, h3, h4⟩ := id h
  have h5 := h.le10
  exact ⟨b.toNat, p.toNat, by omega, by omega, by omega, by omega, by omega, by omega⟩
/-- a number with a pair and how many are asked -/
def QuadAt (H : Hp) (v : V) : Prop := ∃ (a : Addr) (n b p m : Nat), v = .ref a ∧ H a = some (.tup [.int (n : Int), .int (b : Int), .int (p : Int), .int (m : Int)]) ∧ 2 ≤ b ∧ b ≤ 16 ∧ p ≤ 10 ∧ n < 16 ^ 40 ∧ m ≤ 60
theorem QuadAt.mono {H H' : Hp} {v : V} (h : QuadAt H v) (k : ∀ a xs, H a = some (.tup xs) → H' a = some (.tup xs)) : QuadAt H' v := by
  obtain ⟨a, n, b, p, m, e1, e2, r⟩ := h
  exact ⟨a, n, b, p, m, e1, k _ _ e2, r⟩
theorem lt900 {n : Nat} (h : n < 16 ^ 40) : n < 2 ^ 900 := Nat.lt_of_lt_of_le h (by
  have e : (16 : Nat) ^ 40 = 2 ^ 160 := by decide
  rw [e]
  exact Nat.pow_le_pow_right (by decide) (by decide))
end Fx

namespace Fx
open PySem PySem.Spec PyProof.Rows L2
def topS (i : Nat) : Stmt := PySem.Challenge.pw_figurerounds_k02_no_numbers.main.body.getD i (.Pass ⟨0, 0, 0, 0⟩)
abbrev s_read_number : Stmt := topS 9
theorem sc_read_number : FnScope ["text", "base", "number", "place", "sign", "figure"] ["text", "base"] (defScope s_read_number) := ⟨rfl, rfl, rfl, by decide +kernel, rfl, by decide +kernel, by decide +kernel⟩
abbrev s__law_mix : Stmt := topS 11
theorem sc__law_mix : FnScope ["cell", "k", "number"] ["cell", "k"] (defScope s__law_mix) := ⟨rfl, rfl, rfl, by decide +kernel, rfl, by decide +kernel, by decide +kernel⟩
abbrev s__law_deck : Stmt := topS 12
theorem sc__law_deck : FnScope ["script"] ["script"] (defScope s__law_deck) := ⟨rfl, rfl, rfl, by decide +kernel, rfl, by decide +kernel, by decide +kernel⟩
abbrev s__law_next : Stmt := topS 13
theorem sc__law_next : FnScope ["deck", "many", "cell", "found"] ["deck", "many"] (defScope s__law_next) := ⟨rfl, rfl, rfl, by decide +kernel, rfl, by decide +kernel, by decide +kernel⟩
abbrev s__law_number : Stmt := topS 14
theorem sc__law_number : FnScope ["deck", "base", "great", "k", "same", "figure", "edge", "some"] ["deck", "base"] (defScope s__law_number) := ⟨rfl, rfl, rfl, by decide +kernel, rfl, by decide +kernel, by decide +kernel⟩
abbrev s__law_figures : Stmt := topS 15
theorem sc__law_figures : FnScope ["number", "base", "powers", "found", "power"] ["number", "base"] (defScope s__law_figures) := ⟨rfl, rfl, rfl, by decide +kernel, rfl, by decide +kernel, by decide +kernel⟩
abbrev s__law_text : Stmt := topS 16
theorem sc__law_text : FnScope ["number", "base", "figure"] ["number", "base"] (defScope s__law_text) := ⟨rfl, rfl, rfl, by decide +kernel, rfl, by decide +kernel, by decide +kernel⟩
abbrev s__law_is_whole : Stmt := topS 17
theorem sc__law_is_whole : FnScope ["found", "due"] ["found", "due"] (defScope s__law_is_whole) := ⟨rfl, rfl, rfl, by decide +kernel, rfl, by decide +kernel, by decide +kernel⟩
abbrev s__law_kind : Stmt := topS 18
theorem sc__law_kind : FnScope ["caught", "kinds"] ["caught"] (defScope s__law_kind) := ⟨rfl, rfl, rfl, by decide +kernel, rfl, by decide +kernel, by decide +kernel⟩
abbrev s__law_sign : Stmt := topS 19
theorem sc__law_sign : FnScope ["deck", "base", "signs", "figures", "some"] ["deck", "base"] (defScope s__law_sign) := ⟨rfl, rfl, rfl, by decide +kernel, rfl, by decide +kernel, by decide +kernel⟩
abbrev s__law_spoilt : Stmt := topS 20
theorem sc__law_spoilt : FnScope ["deck", "text", "base", "k", "at", "way", "sign"] ["deck", "text", "base"] (defScope s__law_spoilt) := ⟨rfl, rfl, rfl, by decide +kernel, rfl, by decide +kernel, by decide +kernel⟩
abbrev s__law_due : Stmt := topS 21
theorem sc__law_due : FnScope ["text", "base", "number", "place", "sign", "figure"] ["text", "base"] (defScope s__law_due) := ⟨rfl, rfl, rfl, by decide +kernel, rfl, by decide +kernel, by decide +kernel⟩
abbrev s__law_right : Stmt := topS 22
theorem sc__law_right : FnScope ["text", "base", "due", "again", "found", "caught", "e"] ["text", "base"] (defScope s__law_right) := ⟨rfl, rfl, rfl, by decide +kernel, rfl, by decide +kernel, by decide +kernel⟩
abbrev s_law : Stmt := topS 23
theorem sc_law : FnScope ["script", "deck", "turn", "base", "text", "some", "k", "far", "long", "odd", "fixed"] ["script"] (defScope s_law) := ⟨rfl, rfl, rfl, by decide +kernel, rfl, by decide +kernel, by decide +kernel⟩
abbrev P : Program := PySem.Challenge.pw_figurerounds_k02_no_numbers
abbrev i_NoNumber : Stmt := (C8.clsBody (topS 6)).getD 0 (.Pass ⟨0, 0, 0, 0⟩)
theorem ni_NoNumber : NdefX.NScope ["self", "place", "__class__"] ["self", "place"] ["__class__"] (defScope i_NoNumber) := NdefX.nscope_by (by decide +kernel)
structure Txt (K : PySem.W.Frag) (mg : Str → Option Value) where
  k_FigureError : Addr
  gk_FigureError : mg "FigureError" = some (.ref k_FigureError)
  x_FigureError : XCls K k_FigureError
  k_NoRound : Addr
  gk_NoRound : mg "NoRound" = some (.ref k_NoRound)
  x_NoRound : XCls K k_NoRound
  k_NoFigure : Addr
  gk_NoFigure : mg "NoFigure" = some (.ref k_NoFigure)
  x_NoFigure : XCls K k_NoFigure
  k_NoPlace : Addr
  gk_NoPlace : mg "NoPlace" = some (.ref k_NoPlace)
  x_NoPlace : XCls K k_NoPlace
  k_NoAsk : Addr
  gk_NoAsk : mg "NoAsk" = some (.ref k_NoAsk)
  x_NoAsk : XCls K k_NoAsk
  k_NoNumber : Addr
  gk_NoNumber : mg "NoNumber" = some (.ref k_NoNumber)
  x_NoNumber : XCls K k_NoNumber
  s_NoNumber_FigureError : PySem.W.subIn K (.ref k_NoNumber) (.ref k_FigureError) = some true
  s_NoNumber_NoRound : PySem.W.subIn K (.ref k_NoNumber) (.ref k_NoRound) = some false
  s_NoNumber_NoFigure : PySem.W.subIn K (.ref k_NoNumber) (.ref k_NoFigure) = some false
  s_NoNumber_NoPlace : PySem.W.subIn K (.ref k_NoNumber) (.ref k_NoPlace) = some false
  s_NoNumber_NoAsk : PySem.W.subIn K (.ref k_NoNumber) (.ref k_NoAsk) = some false
  s_NoNumber_NoNumber : PySem.W.subIn K (.ref k_NoNumber) (.ref k_NoNumber) = some true
  I_NoNumber : XIns K k_NoNumber
  j_NoNumber : Addr
  jd_NoNumber : FuncData
  J_NoNumber : SupTx P K k_NoNumber j_NoNumber jd_NoNumber "__init__" "NoNumber.__init__" i_NoNumber
  jb_NoNumber : Binds K jd_NoNumber ["self", "place"] []
  jn_NoNumber_place : PySem.W.findIn K (.ref k_NoNumber) "place" = some none
  f_read_number : Addr
  fd_read_number : FuncData
  F_read_number : Fun K "read_number" "read_number" s_read_number f_read_number fd_read_number
  g_read_number : mg "read_number" = some (.ref f_read_number)
  b_read_number : Binds K fd_read_number ["text", "base"] []
  f__law_mix : Addr
  fd__law_mix : FuncData
  F__law_mix : Fun K "_law_mix" "_law_mix" s__law_mix f__law_mix fd__law_mix
  g__law_mix : mg "_law_mix" = some (.ref f__law_mix)
  b__law_mix : Binds K fd__law_mix ["cell", "k"] []
  f__law_deck : Addr
  fd__law_deck : FuncData
  F__law_deck : Fun K "_law_deck" "_law_deck" s__law_deck f__law_deck fd__law_deck
  g__law_deck : mg "_law_deck" = some (.ref f__law_deck)
  b__law_deck : Binds K fd__law_deck ["script"] []
  f__law_next : Addr
  fd__law_next : FuncData
  F__law_next : Fun K "_law_next" "_law_next" s__law_next f__law_next fd__law_next
  g__law_next : mg "_law_next" = some (.ref f__law_next)
  b__law_next : Binds K fd__law_next ["deck", "many"] []
  f__law_number : Addr
  fd__law_number : FuncData
  F__law_number : Fun K "_law_number" "_law_number" s__law_number f__law_number fd__law_number
  g__law_number : mg "_law_number" = some (.ref f__law_number)
  b__law_number : Binds K fd__law_number ["deck", "base"] []
  f__law_figures : Addr
  fd__law_figures : FuncData
  F__law_figures : Fun K "_law_figures" "_law_figures" s__law_figures f__law_figures fd__law_figures
  g__law_figures : mg "_law_figures" = some (.ref f__law_figures)
  b__law_figures : Binds K fd__law_figures ["number", "base"] []
  f__law_text : Addr
  fd__law_text : FuncData
  F__law_text : Fun K "_law_text" "_law_text" s__law_text f__law_text fd__law_text
  g__law_text : mg "_law_text" = some (.ref f__law_text)
  b__law_text : Binds K fd__law_text ["number", "base"] []
  f__law_is_whole : Addr
  fd__law_is_whole : FuncData
  F__law_is_whole : Fun K "_law_is_whole" "_law_is_whole" s__law_is_whole f__law_is_whole fd__law_is_whole
  g__law_is_whole : mg "_law_is_whole" = some (.ref f__law_is_whole)
  b__law_is_whole : Binds K fd__law_is_whole ["found", "due"] []
  f__law_kind : Addr
  fd__law_kind : FuncData
  F__law_kind : Fun K "_law_kind" "_law_kind" s__law_kind f__law_kind fd__law_kind
  g__law_kind : mg "_law_kind" = some (.ref f__law_kind)
  b__law_kind : Binds K fd__law_kind ["caught"] []
  f__law_sign : Addr
  fd__law_sign : FuncData
  F__law_sign : Fun K "_law_sign" "_law_sign" s__law_sign f__law_sign fd__law_sign
  g__law_sign : mg "_law_sign" = some (.ref f__law_sign)
  b__law_sign : Binds K fd__law_sign ["deck", "base"] []
  f__law_spoilt : Addr
  fd__law_spoilt : FuncData
  F__law_spoilt : Fun K "_law_spoilt" "_law_spoilt" s__law_spoilt f__law_spoilt fd__law_spoilt
  g__law_spoilt : mg "_law_spoilt" = some (.ref f__law_spoilt)
  b__law_spoilt : Binds K fd__law_spoilt ["deck", "text", "base"] []
  f__law_due : Addr
  fd__law_due : FuncData
  F__law_due : Fun K "_law_due" "_law_due" s__law_due f__law_due fd__law_due
  g__law_due : mg "_law_due" = some (.ref f__law_due)
  b__law_due : Binds K fd__law_due ["text", "base"] []
  f__law_right : Addr
  fd__law_right : FuncData
  F__law_right : Fun K "_law_right" "_law_right" s__law_right f__law_right fd__law_right
  g__law_right : mg "_law_right" = some (.ref f__law_right)
  b__law_right : Binds K fd__law_right ["text", "base"] []
  f_law : Addr
  fd_law : FuncData
  F_law : Fun K "law" "law" s_law f_law fd_law
  g_law : mg "law" = some (.ref f_law)
  b_law : Binds K fd_law ["script"] []
  m_ValueError : mg "ValueError" = none
  m_bool : mg "bool" = none
  m_enumerate : mg "enumerate" = none
  m_int : mg "int" = none
  m_isinstance : mg "isinstance" = none
  m_len : mg "len" = none
  m_max : mg "max" = none
  m_range : mg "range" = none
  m_sum : mg "sum" = none
  m_super : mg "super" = none
  m_tuple : mg "tuple" = none
  t_FIGURES : Tok
  c_FIGURES : mg "FIGURES" = some (.str "0123456789abcdef" t_FIGURES)
section
variable {w : World} {K : PySem.W.Frag} {mg : Str → Option Value} {base : Heap}
/-! ### init_NoNumber -/
theorem ok_init_NoNumber (T : Txt K mg) : FnOk P w K mg base CX0 1 T.j_NoNumber T.jd_NoNumber ["self", "place"] (sp_exc1 T.k_NoNumber "place") := by
  obtain ⟨oc, dV, kV, doc, pm, ct, ccl, cl, an, od, cdd, cld, osl, ccs, csl, cc, cda, vs0, file, tf, efd, lk, hcd, code, v2, main, cell⟩ := T.J_NoNumber.ex
  rw [efd] at lk ⊢
  refine fn_sup (k := 0) lk hcd rfl ni_NoNumber code v2 main T.J_NoNumber.top cell (T.I_NoNumber.oex T.x_NoNumber) T.J_NoNumber.sup T.I_NoNumber.ve T.J_NoNumber.mr
    T.J_NoNumber.ob (by decide +kernel) T.m_super rfl rfl (fun vs H Q E h => ?_) (fun _ => rfl) (fun _ => rfl) (fun _ => rfl) (fun A outer s H vs Q E hr h => ?_)
  · obtain ⟨a, i, rfl, _⟩ := h
    rfl
  · obtain ⟨a, i, rfl, hi, ha, q⟩ := h
    refine ⟨a, _, _, rfl, ha, pa_cons (pe_joined (.cons pe_str (.cons (pe_fmt (pv 1)) (.cons pe_str .nil)))) pa_nil, pss_one (ps_ost (pv 0) (pv 1)), ?_⟩
    have zi : (Str.ofString (toString i)).length ≤ 1921 := by
      rw [PySem.ofString_length]
      exact int_text_length_le (k := 1920) (by decide) hi
    have z1 : (Str.empty ++ ("no number: the sign at place " : Str)).length ≤ 40 := by decide +kernel
    have z2 : (" is wrong" : Str).length ≤ 40 := by decide +kernel
    have z3 : ((Str.empty ++ ("no number: the sign at place " : Str)) ++ Str.ofString (toString i)).length ≤ 2000 := by
      rw [Str.length_append]
      omega
    have z4 : (((Str.empty ++ ("no number: the sign at place " : Str)) ++ Str.ofString (toString i)) ++ (" is wrong" : Str)).length ≤ 3000 := by
      rw [Str.length_append]
      omega
    refine ⟨_, rfl, ?_, _, rfl, .inr ⟨i, rfl, hi, _, rfl, ?_, _, rfl, ?_, ?_⟩⟩
    · rw [sizeLine_eq]
      omega
    · rw [sizeLine_eq]
      omega
    · rw [sizeLine_eq]
      omega
    · refine ⟨by show 1 ≤ 1000; decide, ha, _, rfl, _, rfl, a, T.k_NoNumber, rfl, T.I_NoNumber.oex T.x_NoNumber, T.jn_NoNumber_place, .inl ⟨ha, fun dx n ne => q dx n ne⟩⟩

/-! ### read_number -/
def sp_read_number {K : PySem.W.Frag} {mg : Str → Option Value} (T : Txt K mg) : Sp := fun vs H Q E => ∃ (x : Str) (b : Nat), vs = [.str x, .int (b : Int)] ∧ 2 ≤ b ∧ b ≤ 16 ∧ x.length ≤ 90000 ∧
  (∀ n H', dueOf b x = .inl n → Same H H' → Q (.int n) H') ∧
  ∀ p d H', dueOf b x = .inr p → Same H H' → KF H' d "place" (.int (p : Nat)) → E (.ref T.k_NoNumber) (some d) H'
theorem ok_read_number (T : Txt K mg) : FnOk P w K mg base (L2.CX P w) 3 T.f_read_number T.fd_read_number ["text", "base"] (sp_read_number T) := by
  refine T.F_read_number.okX sc_read_number (fun vs H Q E h => ?_) (fun cdv A outer s H vs Q E hr h => ?_)
  · obtain ⟨_, _, rfl, _⟩ := h
    rfl
  · obtain ⟨x, b, rfl, hb, hb16, hl, q, qe⟩ := h
    have zl : x.length ≤ sizeLine := by rw [sizeLine_eq]; omega
    refine ⟨_, (C8.pss_cut (ps_if (PW.pt (pw_or (pt_cmpR op_eq (pv 0) pe_str (nomark _)) (pw_or1 (PW.pt (pw_and (pt_cmpR op_eq (pe_ix ix_str (pv 0) pe_int (fun _ _ => rfl)) pe_str (nomark _)) (pw_and1 (pt_cmpR op_gt (pe_callB (id := "len") call_len_str (by rfl) T.m_len (by decide +kernel) (pa_cons (pv 0) pa_nil)) pe_int (nomark _)))))))) (pss_one (ps_raise rfl (takes_of rfl rfl rfl rfl) (pmk_oex (T.I_NoNumber.oex T.x_NoNumber) T.J_NoNumber.init T.J_NoNumber.fn (ok_init_NoNumber T) hr T.jb_NoNumber .nil pass0 (by rfl) T.gk_NoNumber (pa_cons pe_int pa_nil)))) pss_nil)
      (pss_cons (ps_set (i := 2) sc_read_number.nd rfl (Or.inl rfl) pe_int)
      (pss_cons (ps_for (passes_of rfl) rfl (pi_enumS (by rfl) T.m_enumerate (pa_cons (pv 0) pa_nil)) (pg_tup rfl (pgs_cons (pg_name (i := 3) sc_read_number.nd rfl (Or.inl rfl)) (pgs_cons (pg_name (i := 4) sc_read_number.nd rfl (Or.inl rfl)) pgs_nil))) (pss_cons (ps_set (i := 5) sc_read_number.nd rfl (Or.inl rfl) (pe_m1 PySem.F.slot_str_find PySem.F.type_str_find mt_find (pe_glob (v := .str "0123456789abcdef") (by rfl) T.c_FIGURES ⟨_, rfl⟩) (pv 4)))
      (pss_cons (ps_if (PW.pt (pw_or (pt_cmpR op_lt (pv 5) pe_int (nomark _)) (pw_or1 (pt_cmpR op_ge (pv 5) (pv 1) (nomark _))))) (pss_one (ps_raise rfl (takes_of rfl rfl rfl rfl) (pmk_oex (T.I_NoNumber.oex T.x_NoNumber) T.J_NoNumber.init T.J_NoNumber.fn (ok_init_NoNumber T) hr T.jb_NoNumber .nil pass0 (by rfl) T.gk_NoNumber (pa_cons (pv 3) pa_nil)))) pss_nil)
      (pss_one (ps_set (i := 2) sc_read_number.nd rfl (Or.inl rfl) (pe_op op_add (pe_op op_mul (pv 2) (pv 1)) (pv 5)))))))
      (pss_one (ps_ret (pv 2)))))), ?_⟩
    refine ⟨fun σ' H' => H' = H ∧ σ' = [some (.str x), some (.int (b : Int)), none, none, none, none] ∧ bad0 x = false, ?_, ?_⟩
    · refine ⟨_, rfl, rfl, _, rfl, ite2 (fun e => ?_) (fun e => ?_)⟩
      · have e1 : x = "" := V.str.inj (of_decide_eq_true e)
        have bad : bad0 x = true := by
          unfold bad0
          rw [decide_eq_true e1]
          rfl
        have due : dueOf b x = .inr 0 := by
          unfold dueOf
          rw [if_pos bad]
        refine ⟨by show 1 ≤ 1000; decide, made_exc1 (i := 0) (by decide +kernel) fun d H' s' kf => qe 0 d H' due s' kf⟩
      · have ne : x ≠ "" := fun z => by
          rw [z] at e
          exact absurd e (by decide)
        obtain ⟨c0, h0⟩ : ∃ c0, x.cps[0]? = some c0 := by
          cases h : x.cps[0]? with
          | some c => exact ⟨c, rfl⟩
          | none =>
            have z := Array.getElem?_eq_none_iff.mp h
            exact absurd (str_empty (Nat.le_zero.mp z)) ne
        have z48 : ("0" : Str) = one 48 := by decide +kernel
        refine ⟨_, rfl, _, 0, _, rfl, rfl, zl, (by exact atI_nat (by rw [Array.getElem?_toList]; exact h0)), rfl, _, rfl, ite2 (fun e2 => ?_) (fun e2 => ?_)⟩
        · have c48 : c0 = 48 := one_is (z48 ▸ of_decide_eq_true e2)
          subst c48
          refine ⟨_, rfl, _, rfl, zl, _, _, rfl, rfl, _, rfl, ite2 (fun e3 => ?_) (fun e3 => ?_)⟩
          · have e4 : (1 : Int) < (x.length : Nat) := of_decide_eq_true e3
            have bad : bad0 x = true := by
              unfold bad0
              rw [decide_eq_true h0, decide_eq_true (show 1 < x.length by omega), Bool.and_self, Bool.or_true]
            have due : dueOf b x = .inr 0 := by
              unfold dueOf
              rw [if_pos bad]
            refine ⟨by show 1 ≤ 1000; decide, made_exc1 (i := 0) (by decide +kernel) fun d H' s' kf => qe 0 d H' due s' kf⟩
          · have e4 : ¬ (1 : Int) < (x.length : Nat) := fun z => e3 (decide_eq_true z)
            refine ⟨rfl, rfl, ?_⟩
            unfold bad0
            rw [decide_eq_false ne, decide_eq_false (show ¬ 1 < x.length by omega), Bool.and_false, Bool.or_false]
        · have n48 : c0 ≠ 48 := fun z => e2 (decide_eq_true (by rw [z, z48]))
          refine ⟨rfl, rfl, ?_⟩
          unfold bad0
          rw [decide_eq_false ne, decide_eq_false (show ¬ x.cps[0]? = some 48 from fun z => n48 (Option.some.inj (h0.symm.trans z))), Bool.false_and, Bool.or_false]
    · rintro σ' H' ⟨rfl, rfl, nb⟩
      have due : dueOf b x = scan b x.cps.toList 0 0 := by
        unfold dueOf
        rw [if_neg (by rw [nb]; exact Bool.false_ne_true)]
      refine ⟨_, rfl, _, rfl, for_it walk_enumS (fun i σ' H1 => Same H' H1 ∧ ∃ n y3 y4 y5, σ' = [some (.str x), some (.int (b : Int)), some (.int n), y3, y4, y5] ∧ scan b (x.cps.toList.drop i) i n = scan b x.cps.toList 0 0) ⟨Same.refl _, _, _, _, _, rfl, rfl⟩ (fun _ _ _ _ _ => trivial) ?_ ?_⟩
      · rintro i y σ' H1 H2 hi ⟨s1, n, y3, y4, y5, rfl, inv⟩ ⟨t, c, rfl, ht, hc, rfl⟩
        have hc' : x.cps.toList[i]? = some c := by rw [Array.getElem?_toList]; exact hc
        refine ⟨t, _, rfl, .of upd_same, rfl, _, _, rfl, _, _, rfl, rfl, ?_⟩
        refine ⟨⟨_, rfl⟩, _, rfl, FIG, _, rfl, rfl, ?_⟩
        by_cases g : 0 ≤ fi c ∧ fi c < b
        · refine ⟨_, rfl, _, _, rfl, rfl, _, rfl, ite2 (fun e => ?_) (fun _ => ?_)⟩
          · have z : fi c < 0 := of_decide_eq_true e
            omega
          refine ⟨_, rfl, _, rfl, _, _, rfl, rfl, _, rfl, ite2 (fun e => ?_) (fun _ => ?_)⟩
          · have z : (b : Int) ≤ fi c := of_decide_eq_true e
            omega
          refine ⟨_, rfl, _, rfl, _, _, rfl, rfl, .inr (by omega), _, rfl, _, _, rfl, rfl, s1.trans (Same.new ht), _, some (.int (i : Nat)), some (.str (one c)), some (.int (fi c)), rfl, ?_⟩
          rw [← inv, scan_good hc' g]
          rfl
        · have bad := (scan_bad (i := i) (n := n) hc' g).symm.trans inv
          have rs : ∀ {G : Hp}, Same H' G → ∀ a, G a = none → _ := fun {G} sg => made_exc1 (R := T.k_NoNumber) (f := "place") (Q := E) (i := ((i : Nat) : Int))
            (small_log (by have z : i < x.length := hi; omega)) fun d H9 s9 kf => qe i d H9 (due.trans bad.symm) (sg.trans s9) kf
          refine ⟨_, rfl, _, _, rfl, rfl, _, rfl, ite2 (fun e => ?_) (fun e => ?_)⟩
          · exact ⟨_, rfl, by show 1 ≤ 1000; decide, rs (s1.trans (Same.new ht))⟩
          · refine ⟨_, rfl, _, rfl, _, _, rfl, rfl, _, rfl, ite2 (fun e2 => ?_) (fun e2 => ?_)⟩
            · exact ⟨_, rfl, by show 1 ≤ 1000; decide, rs (s1.trans (Same.new ht))⟩
            · exfalso
              have a3 : ¬ fi c < 0 := fun z => e (decide_eq_true z)
              have a4 : ¬ (b : Int) ≤ fi c := fun z => e2 (decide_eq_true z)
              exact g ⟨by omega, by omega⟩
      · rintro σ' H1 ⟨s1, n, y3, y4, y5, rfl, inv⟩
        rw [scan_end (by rw [Array.length_toList]; exact Nat.le_refl _)] at inv
        exact ⟨_, rfl, q _ _ (due.trans inv.symm) s1⟩

/-! ### _law_mix -/
def sp__law_mix (K : PySem.W.Frag) : Sp := fun vs H Q _ => ∃ c k : Int, vs = [.int c, .int k] ∧ 0 ≤ k ∧ k < 2 ^ 44 ∧ ∀ r : Int, Q (.int r) H
theorem mix_bound {a b : Int} (h : 0 < b) : 0 ≤ a % b ∧ a % b < b := ⟨Int.emod_nonneg _ (by omega), Int.emod_lt_of_pos _ h⟩
theorem ok__law_mix (T : Txt K mg) : FnOk P w K mg base CX0 1 T.f__law_mix T.fd__law_mix ["cell", "k"] (sp__law_mix K) := by
  refine T.F__law_mix.ok sc__law_mix (fun vs H Q E h => ?_) (fun cdv A outer s H vs Q E hr h => ?_)
  · obtain ⟨_, _, rfl, _⟩ := h
    rfl
  · obtain ⟨c, k, rfl, h0, h1, q⟩ := h
    refine ⟨_, (pss_cons (ps_set (i := 2) sc__law_mix.nd rfl (Or.inl rfl) (pe_op op_add (pe_op op_mod (pv 0) pe_int) (pe_op op_mul (pe_op op_mul pe_int (pv 1)) (pv 1))))
      (pss_cons (ps_set (i := 2) sc__law_mix.nd rfl (Or.inl rfl) (pe_op op_mod (pe_op op_add (pv 2) (pe_op op_mul pe_int (pv 1))) pe_int))
      (pss_cons (ps_set (i := 2) sc__law_mix.nd rfl (Or.inl rfl) (pe_op op_mod (pe_op op_mul (pv 2) (pv 2)) pe_int))
      (pss_one (ps_ret (pe_op op_fdivW (pe_op op_mod (pe_op op_mul (pv 2) (pe_op op_add (pv 2) pe_int)) pe_int) pe_int)))))), ?_⟩
    have hk : -(2 ^ 64) < 1000003 * k ∧ 1000003 * k < 2 ^ 64 := by omega
    refine ⟨_, rfl, _, _, rfl, rfl, by walk_at "p", _, rfl, _, _, rfl, rfl, .inl (by decide), _, rfl, _, _, rfl, rfl, .inl hk, _, _, rfl, rfl, ?_⟩
    refine ⟨_, rfl, _, rfl, _, _, rfl, rfl, .inl (by decide), _, _, rfl, rfl, _, _, rfl, rfl, by walk_at "p", ?_⟩
    refine ⟨_, rfl, _, rfl, _, _, rfl, rfl, .inl ?_, _, _, rfl, rfl, by walk_at "p", ?_⟩
    · have b := mix_bound (a := c % 2147483629 + 1000003 * k * k + 7919 * k) (b := 2147483629) (by decide)
      exact ⟨by omega, by omega⟩
    generalize (c % 2147483629 + 1000003 * k * k + 7919 * k) % 2147483629 = n1
    have b := mix_bound (a := n1 * n1) (b := 2147483587) (by decide)
    generalize n1 * n1 % 2147483587 = n2 at b ⊢
    refine ⟨_, rfl, _, rfl, _, _, rfl, rfl, _, _, rfl, rfl, .inl ⟨by omega, by omega⟩, _, _, rfl, rfl, by walk_at "p", _, _, rfl, rfl, ⟨by decide, by decide +kernel⟩, ?_⟩
    exact q _

/-! ### _law_deck -/
def sp__law_deck (K : PySem.W.Frag) : Sp := fun vs H Q _ => ∃ (a : Addr) (ns : List Int), vs = [.ref a] ∧ SqL K H a (ns.map V.int) ∧ ∀ H' d c, Same H H' → H d = none → H c = none → Deck H' d c 0 → Q (.ref d) H'
theorem ok__law_deck (T : Txt K mg) : FnOk P w K mg base CX0 1 T.f__law_deck T.fd__law_deck ["script"] (sp__law_deck K) := by
  refine T.F__law_deck.ok sc__law_deck (fun vs H Q E h => ?_) (fun cdv A outer s H vs Q E hr h => ?_)
  · obtain ⟨_, _, rfl, _⟩ := h
    rfl
  · obtain ⟨a, ns, rfl, hS, q⟩ := h
    refine ⟨_, (pss_one (ps_ret (pe_lst (pa_cons (pe_slice sl_list (pv 0) po_none (po_some pe_int)) (pa_cons pe_int (pa_cons pe_int (pa_cons pe_int (pa_cons (pe_callB (id := "sum") (cr_sum rfl) (by rfl) T.m_sum (by decide +kernel) (pa_cons (pe_slice sl_list (pv 0) po_none (po_some pe_int)) pa_nil)) pa_nil)))))))), ?_⟩
    have ec : cutV (ns.map V.int) none (some 63) = (ns.take 63).map V.int := by
      rw [List.map_take]
      exact cut_to _ 63
    refine ⟨_, rfl, _, rfl, a, _, rfl, hS, fun c hc => ?_⟩
    rw [ec]
    have s1 : Same H (upd H c (.lst ((ns.take 63).map V.int))) := Same.new hc
    refine ⟨_, rfl, _, rfl, a, _, rfl, s1.seq hS, fun e he => ?_⟩
    rw [ec]
    generalize hH1 : upd H c (.lst ((ns.take 63).map V.int)) = H1 at s1 he ⊢
    have s2 : Same H1 (upd H1 e (.lst ((ns.take 63).map V.int))) := Same.new he
    refine ⟨e, _, rfl, .of upd_same, by show 5 ≤ sizeLine; decide, fun d hd => ?_⟩
    generalize hH2 : upd H1 e (.lst ((ns.take 63).map V.int)) = H2 at s2 hd ⊢
    have hc1 : H1 c = some (.lst ((ns.take 63).map V.int)) := by rw [← hH1]; exact upd_same
    have s3 : Same H2 (upd H2 d (.lst [.ref c, .int 0, .int 0, .int 0, .int (ns.take 63).sum])) := Same.new hd
    refine q _ d c (s1.trans (s2.trans s3)) (s1.free (s2.free hd)) hc ⟨ns.take 63, 0, 0, 0, (ns.take 63).sum, upd_same, s3 _ _ (s2 _ _ hc1), ?_⟩
    omega

/-! ### _law_next -/
def sp__law_next (K : PySem.W.Frag) : Sp := fun vs H Q _ => ∃ (d : Addr) (many : Int) (c : Addr) (n : Nat), vs = [.ref d, .int many] ∧ Deck H d c n ∧ n < 2 ^ 40 ∧ 0 < many ∧ many < 2 ^ 200 ∧
  ∀ H' (r : Int), But d H H' → Deck H' d c (n + 1) → 0 ≤ r → r < many → Q (.int r) H'
theorem ok__law_next (T : Txt K mg) : FnOk P w K mg base CX0 2 T.f__law_next T.fd__law_next ["deck", "many"] (sp__law_next K) := by
  refine T.F__law_next.ok sc__law_next (fun vs H Q E h => ?_) (fun cdv A outer s H vs Q E hr h => ?_)
  · obtain ⟨_, _, _, _, rfl, _⟩ := h
    rfl
  · obtain ⟨d, many, c, n, rfl, hD, hn, h0, h9, q⟩ := h
    have hcd := hD.ne
    obtain ⟨ns, i, l, m, t, eD, eC, i0, i1, m0, m1⟩ := hD.ex
    have hw : ∀ x : Int, CDivW x many := fun x => divW 200 h0 h9
    have r0 : ∀ x : Int, 0 ≤ x % many := fun x => Int.emod_nonneg _ (by omega)
    have r1 : ∀ x : Int, x % many < many := fun x => Int.emod_lt_of_pos _ h0
    refine ⟨_, (C8.pss_cut (ps_if (PW.pt (pw_and (pt_cmpR op_eq (pe_ix ix_list (pv 0) pe_int (fun _ _ => rfl)) pe_int (nomark _)) (pw_and1 (pt_cmpR op_lt (pe_ix ix_list (pv 0) pe_int (fun _ _ => rfl)) (pe_callB (id := "len") call_len_seq (by rfl) T.m_len (by decide +kernel) (pa_cons (pe_ix ix_list (pv 0) pe_int (fun _ _ => rfl)) pa_nil)) (nomark _))))) (pss_cons (ps_set (i := 2) sc__law_next.nd rfl (Or.inl rfl) (pe_ix ix_list (pe_ix ix_list (pv 0) pe_int (fun _ _ => rfl)) (pe_ix ix_list (pv 0) pe_int (fun _ _ => rfl)) (fun _ _ => rfl)))
      (pss_cons (ps_asg (pe_op op_add (pe_ix ix_list (pv 0) pe_int (fun _ _ => rfl)) pe_int) (pg_sub (pv 0) pe_int set_list))
      (pss_cons (ps_if (pt_cmpR op_lt (pv 2) (pe_op op_pow pe_int pe_int) (nomark _)) (pss_one (ps_ret (pe_op op_mod (pe_call (ok__law_mix T) hr (by rfl) T.g__law_mix T.F__law_mix.kp T.b__law_mix .nil pass0 (pa_cons (pv 2) (pa_cons (pe_ix ix_list (pv 0) pe_int (fun _ _ => rfl)) pa_nil))) (pv 1)))) pss_nil)
      (pss_one (ps_asg (pv 2) (pg_sub (pv 0) pe_int set_list)))))) pss_nil)
      (pss_cons (ps_if (pt_cmpR op_gt (pe_ix ix_list (pv 0) pe_int (fun _ _ => rfl)) pe_int (nomark _)) (pss_cons (ps_set (i := 3) sc__law_next.nd rfl (Or.inl rfl) (pe_op op_mod (pe_ix ix_list (pv 0) pe_int (fun _ _ => rfl)) (pv 1)))
      (pss_cons (ps_asg (pe_op op_fdivW (pe_ix ix_list (pv 0) pe_int (fun _ _ => rfl)) (pv 1)) (pg_sub (pv 0) pe_int set_list))
      (pss_one (ps_ret (pv 3))))) pss_nil)
      (pss_cons (ps_asg (pe_op op_add (pe_ix ix_list (pv 0) pe_int (fun _ _ => rfl)) pe_int) (pg_sub (pv 0) pe_int set_list))
      (pss_one (ps_ret (pe_op op_mod (pe_call (ok__law_mix T) hr (by rfl) T.g__law_mix T.F__law_mix.kp T.b__law_mix .nil pass0 (pa_cons (pe_ix ix_list (pv 0) pe_int (fun _ _ => rfl)) (pa_cons (pe_op op_add (pe_ix ix_list (pv 0) pe_int (fun _ _ => rfl)) pe_int) pa_nil))) (pv 1))))))), ?_⟩
    refine ⟨fun σ' H1 => ∃ i' l' y, σ' = [some (.ref d), some (.int many), y, none] ∧ But d H H1 ∧ H1 d = some (.lst [.ref c, .int i', .int l', .int m, .int t]) ∧ H1 c = some (.lst (ns.map V.int)) ∧ 0 ≤ i' ∧ i' ≤ i + 1, ?_, ?_⟩
    · -- deck[2] == 0 and deck[1] < len(deck[0])
      refine ⟨_, rfl, d, _, 2, .int l, rfl, rfl, .of eD, atI_nat (j := 2) rfl, rfl, _, rfl, ite2 (fun e => ?_) (fun e => ?_)⟩
      · refine ⟨_, rfl, d, _, 1, .int i, rfl, rfl, .of eD, atI_nat (j := 1) rfl, _, rfl, d, _, 0, .ref c, rfl, rfl, .of eD, atI_nat (j := 0) rfl, c, _, rfl, .inl (.of eC), _, _, rfl, rfl, _, rfl, ite2 (fun e2 => ?_) (fun e2 => ?_)⟩
        · -- cell = deck[0][deck[1]]
          have e3 : i < (ns.length : Int) := by
            have z := of_decide_eq_true e2
            rw [List.length_map] at z
            exact z
          have hi : i.toNat < ns.length := by omega
          have ci : atI (ns.map V.int) i = some (.int ns[i.toNat]) := by
            have z : (ns.map V.int)[i.toNat]? = some (.int ns[i.toNat]) := by
              rw [List.getElem?_map, List.getElem?_eq_getElem hi]
              rfl
            have y := atI_nat z
            rw [show ((i.toNat : Nat) : Int) = i by omega] at y
            exact y
          generalize ns[i.toNat] = cell at ci
          refine ⟨_, rfl, d, _, 0, .ref c, rfl, rfl, .of eD, atI_nat (j := 0) rfl, _, rfl, d, _, 1, .int i, rfl, rfl, .of eD, atI_nat (j := 1) rfl, c, _, i, .int cell, rfl, rfl, .of eC, ci, ?_⟩
          -- deck[1] = deck[1] + 1
          refine ⟨_, rfl, d, _, 1, .int i, rfl, rfl, .of eD, atI_nat (j := 1) rfl, _, _, rfl, rfl, _, rfl, d, _, 1, 1, rfl, rfl, eD, rfl, ?_⟩
          have b1 : But d H (upd H d (.lst [.ref c, .int (i + 1), .int l, .int m, .int t])) := But.set
          have d1 : (upd H d (.lst [.ref c, .int (i + 1), .int l, .int m, .int t])) d = some (.lst [.ref c, .int (i + 1), .int l, .int m, .int t]) := upd_same
          have c1 : (upd H d (.lst [.ref c, .int (i + 1), .int l, .int m, .int t])) c = some (.lst (ns.map V.int)) := by rw [upd_ne hcd]; exact eC
          -- if cell < 10 ** 18
          refine ⟨_, rfl, 10, 18, rfl, rfl, ⟨by decide, by decide, by decide⟩, _, _, rfl, rfl, _, rfl, ite2 (fun e4 => ?_) (fun e4 => ?_)⟩
          · refine ⟨_, rfl, _, rfl, d, _, 1, .int (i + 1), rfl, rfl, .of d1, atI_nat (j := 1) rfl, cell, i + 1, rfl, by omega, by omega, fun r => ?_⟩
            exact ⟨_, rfl, _, _, rfl, rfl, h0, q _ _ b1 ⟨ns, i + 1, l, m, t, d1, c1, by omega, by omega, m0, by omega⟩ (r0 _) (r1 _)⟩
          · refine ⟨_, rfl, _, rfl, d, _, 2, 2, rfl, rfl, d1, rfl, ?_⟩
            refine ⟨i + 1, cell, some (.int cell), rfl, b1.trans But.set, upd_same, ?_, by omega, by omega⟩
            rw [upd_ne hcd]
            exact c1
        · exact ⟨i, l, none, rfl, But.refl _ _, eD, eC, i0, by omega⟩
      · exact ⟨i, l, none, rfl, But.refl _ _, eD, eC, i0, by omega⟩
    · -- if deck[2] > 0
      rintro σ' H1 ⟨i', l', y, rfl, b1, d1, c1, j0, j1⟩
      refine ⟨_, rfl, d, _, 2, .int l', rfl, rfl, .of d1, atI_nat (j := 2) rfl, _, _, rfl, rfl, _, rfl, ite2 (fun e => ?_) (fun e => ?_)⟩
      · refine ⟨_, rfl, d, _, 2, .int l', rfl, rfl, .of d1, atI_nat (j := 2) rfl, _, rfl, _, _, rfl, rfl, h0, ?_⟩
        refine ⟨_, rfl, d, _, 2, .int l', rfl, rfl, .of d1, atI_nat (j := 2) rfl, _, rfl, _, _, rfl, rfl, hw _, _, rfl, d, _, 2, 2, rfl, rfl, d1, rfl, ?_⟩
        refine ⟨_, rfl, q _ _ (b1.trans But.set) ⟨ns, i', l' / many, m, t, upd_same, ?_, j0, by omega, m0, by omega⟩ (r0 _) (r1 _)⟩
        rw [upd_ne hcd]
        exact c1
      · refine ⟨_, rfl, d, _, 3, .int m, rfl, rfl, .of d1, atI_nat (j := 3) rfl, _, _, rfl, rfl, _, rfl, d, _, 3, 3, rfl, rfl, d1, rfl, ?_⟩
        have d2 : (upd H1 d (.lst [.ref c, .int i', .int l', .int (m + 1), .int t])) d = some (.lst [.ref c, .int i', .int l', .int (m + 1), .int t]) := upd_same
        have c2 : (upd H1 d (.lst [.ref c, .int i', .int l', .int (m + 1), .int t])) c = some (.lst (ns.map V.int)) := by rw [upd_ne hcd]; exact c1
        refine ⟨_, rfl, d, _, 4, .int t, rfl, rfl, .of d2, atI_nat (j := 4) rfl, _, rfl, d, _, 3, .int (m + 1), rfl, rfl, .of d2, atI_nat (j := 3) rfl, _, _, rfl, rfl, t, _, rfl, by omega, by omega, fun r => ?_⟩
        exact ⟨_, rfl, _, _, rfl, rfl, h0, q _ _ (b1.trans But.set) ⟨ns, i', l', m + 1, t, d2, c2, j0, by omega, by omega, by omega⟩ (r0 _) (r1 _)⟩

/-! ### _law_number -/
def sp__law_number (K : PySem.W.Frag) : Sp := fun vs H Q _ => ∃ (d : Addr) (b : Int) (c : Addr) (n : Nat), vs = [.ref d, .int b] ∧ Deck H d c n ∧ n < 2 ^ 39 ∧ 2 ≤ b ∧ b ≤ 16 ∧
  ∀ H' (r : Int), But d H H' → Deck H' d c (n + 17) → 0 ≤ r → r < 16 ^ 40 → Q (.int r) H'
theorem ok__law_number (T : Txt K mg) : FnOk P w K mg base CX0 3 T.f__law_number T.fd__law_number ["deck", "base"] (sp__law_number K) := by
  refine T.F__law_number.ok sc__law_number (fun vs H Q E h => ?_) (fun cdv A outer s H vs Q E hr h => ?_)
  · obtain ⟨_, _, _, _, rfl, _⟩ := h
    rfl
  · obtain ⟨d, b, c, n, rfl, hD, hn, hb, hb16, q⟩ := h
    have e40 : (16 : Int) ^ Int.toNat 40 = 16 ^ 40 := rfl
    have e6 : (10 : Int) ^ Int.toNat 6 = 1000000 := rfl
    refine ⟨_, (pss_cons (ps_set (i := 2) sc__law_number.nd rfl (Or.inl rfl) pe_int)
      (pss_cons (ps_for PassesOwn.never rfl (pi_range1 (by rfl) T.m_range (pa_cons pe_int pa_nil)) (pg_name (i := 3) sc__law_number.nd rfl (Or.inl rfl)) (pss_one (ps_set (i := 2) sc__law_number.nd rfl (Or.inl rfl) (pe_op op_add (pe_op op_mul (pv 2) (pe_op op_pow pe_int pe_int)) (pe_call (ok__law_next T) hr (by rfl) T.g__law_next T.F__law_next.kp T.b__law_next .nil pass0 (pa_cons (pv 0) (pa_cons (pe_op op_pow pe_int pe_int) pa_nil)))))))
      (pss_cons (ps_set (i := 2) sc__law_number.nd rfl (Or.inl rfl) (pe_op op_mod (pv 2) (pe_op op_pow pe_int pe_int)))
      (pss_cons (ps_set (i := 4) sc__law_number.nd rfl (Or.inl rfl) pe_int)
      (pss_cons (ps_set (i := 5) sc__law_number.nd rfl (Or.inl rfl) (pe_call (ok__law_next T) hr (by rfl) T.g__law_next T.F__law_next.kp T.b__law_next .nil pass0 (pa_cons (pv 0) (pa_cons (pv 1) pa_nil))))
      (pss_cons (ps_for PassesOwn.never rfl (pi_range1 (by rfl) T.m_range (pa_cons (pe_op op_add pe_int (pe_call (ok__law_next T) hr (by rfl) T.g__law_next T.F__law_next.kp T.b__law_next .nil pass0 (pa_cons (pv 0) (pa_cons pe_int pa_nil)))) pa_nil)) (pg_name (i := 3) sc__law_number.nd rfl (Or.inl rfl)) (pss_one (ps_set (i := 4) sc__law_number.nd rfl (Or.inl rfl) (pe_op op_add (pe_op op_mul (pv 1) (pv 4)) (pv 5)))))
      (pss_cons (ps_set (i := 6) sc__law_number.nd rfl (Or.inl rfl) pe_int)
      (pss_cons (ps_for PassesOwn.never rfl (pi_range1 (by rfl) T.m_range (pa_cons (pe_call (ok__law_next T) hr (by rfl) T.g__law_next T.F__law_next.kp T.b__law_next .nil pass0 (pa_cons (pv 0) (pa_cons pe_int pa_nil))) pa_nil)) (pg_name (i := 3) sc__law_number.nd rfl (Or.inl rfl)) (pss_one (ps_set (i := 6) sc__law_number.nd rfl (Or.inl rfl) (pe_op op_mul (pv 6) (pe_ix ix_list (pe_lst (pa_cons pe_int (pa_cons (pv 1) pa_nil))) (pe_callTy (T := "int") call_int1 (by rfl) T.m_int (by decide +kernel) (pa_cons (pe_cmpR op_lt (pe_op op_mul (pv 6) (pv 1)) (pe_op op_pow pe_int pe_int) (nomark _)) pa_nil)) (fun _ _ => rfl))))))
      (pss_cons (ps_set (i := 7) sc__law_number.nd rfl (Or.inl rfl) (pe_lst (pa_cons (pe_call (ok__law_next T) hr (by rfl) T.g__law_next T.F__law_next.kp T.b__law_next .nil pass0 (pa_cons (pv 0) (pa_cons pe_int pa_nil))) (pa_cons (pe_call (ok__law_next T) hr (by rfl) T.g__law_next T.F__law_next.kp T.b__law_next .nil pass0 (pa_cons (pv 0) (pa_cons (pe_op op_pow pe_int pe_int) pa_nil))) (pa_cons (pv 2) (pa_cons (pe_op op_sub (pe_op op_sub (pe_op op_pow pe_int pe_int) pe_int) (pe_call (ok__law_next T) hr (by rfl) T.g__law_next T.F__law_next.kp T.b__law_next .nil pass0 (pa_cons (pv 0) (pa_cons pe_int pa_nil)))) (pa_cons (pv 4) pa_nil)))))))
      (pss_one (ps_ret (pe_ix ix_list (pe_op op_cat (pv 7) (pe_lst (pa_cons (pe_callB (id := "max") (call_max2 rfl) (by rfl) T.m_max (by decide +kernel) (pa_cons pe_int (pa_cons (pe_op op_sub (pv 6) (pe_call (ok__law_next T) hr (by rfl) T.g__law_next T.F__law_next.kp T.b__law_next .nil pass0 (pa_cons (pv 0) (pa_cons pe_int pa_nil)))) pa_nil))) (pa_cons (pe_op op_fdivW (pv 2) (pv 6)) pa_nil)))) (pe_call (ok__law_next T) hr (by rfl) T.g__law_next T.F__law_next.kp T.b__law_next .nil pass0 (pa_cons (pv 0) (pa_cons pe_int pa_nil))) (fun _ _ => rfl))))))))))))), ?_⟩
    -- great
    refine ⟨9, rfl, by decide, by decide, for_range (lo := 0) (n := 9) (fun i σ' H' => But d H H' ∧ Deck H' d c (n + i) ∧ ∃ (g : Int) (y : Option V), 0 ≤ g ∧ σ' = [some (.ref d), some (.int b), some (.int g), y, none, none, none, none]) ⟨But.refl _ _, hD, 0, none, Int.le_refl _, rfl⟩ ?_ ?_⟩
    · rintro i σ' H1 hi ⟨b1, D1, g, y, g0, rfl⟩
      refine ⟨_, rfl, 10, 6, rfl, rfl, ⟨by decide, by decide, by decide⟩, _, _, rfl, rfl, .inr (by decide), ?_⟩
      refine ⟨_, rfl, 10, 6, rfl, rfl, ⟨by decide, by decide, by decide⟩, d, _, c, n + i, rfl, D1, by omega, by decide, by decide, fun H2 r b2 D2 r0 r1 => ?_⟩
      refine ⟨_, _, rfl, rfl, b1.trans b2, D2, _, _, ?_, rfl⟩
      rw [e6]
      omega
    rintro σ' H1 ⟨b1, D1, g, y, g0, rfl⟩
    refine ⟨_, rfl, 16, 40, rfl, rfl, ⟨by decide, by decide, by decide⟩, _, _, rfl, rfl, by show (0 : Int) < 16 ^ 40; decide, ?_⟩
    rw [e40]
    have gb : 0 ≤ g % 16 ^ 40 ∧ g % 16 ^ 40 < 16 ^ 40 := ⟨Int.emod_nonneg _ (by decide), Int.emod_lt_of_pos _ (by decide)⟩
    -- same
    refine ⟨_, rfl, _, rfl, d, b, c, n + 9, rfl, D1, by omega, by omega, by omega, fun H2 f b2 D2 f0 f1 => ?_⟩
    refine ⟨_, rfl, d, 40, c, n + 10, rfl, D2, by omega, by decide, by decide, fun H3 r3 b3 D3 u3 v3 => ?_⟩
    refine ⟨_, _, rfl, rfl, _, rfl, by omega, by omega, ?_⟩
    have en : (1 + r3).toNat ≤ 40 := by omega
    refine for_range (lo := 0) (n := (1 + r3).toNat) (fun i σ' H' => H' = H3 ∧ ∃ (z : Int) (y : Option V), 0 ≤ z ∧ z < b ^ i ∧ σ' = [some (.ref d), some (.int b), some (.int (g % 16 ^ 40)), y, some (.int z), some (.int f), none, none]) ⟨rfl, 0, y, Int.le_refl _, by rw [Int.pow_zero]; decide, rfl⟩ ?_ ?_
    · rintro i σ' H' hi ⟨rfl, z, y, z0, z1, rfl⟩
      have st := same_step hb z0 z1 f0 f1
      exact ⟨_, rfl, _, rfl, _, _, rfl, rfl, .inl (by omega), _, rfl, _, _, rfl, rfl, rfl, _, _, st.1, st.2, rfl⟩
    rintro σ' H' ⟨rfl, z, y, z0, z1, rfl⟩
    have z2 : z < 16 ^ 40 := Int.lt_of_lt_of_le z1 (pow_le16 hb hb16 en)
    -- edge
    refine ⟨_, rfl, d, 160, c, n + 11, rfl, D3, by omega, by decide, by decide, fun H4 r4 b4 D4 u4 v4 => ?_⟩
    refine ⟨_, rfl, by omega, by omega, ?_⟩
    refine for_range (lo := 0) (n := r4.toNat) (fun i σ' H5 => Same H4 H5 ∧ ∃ (e : Int) (y : Option V), 1 ≤ e ∧ e < 16 ^ 40 ∧ σ' = [some (.ref d), some (.int b), some (.int (g % 16 ^ 40)), y, some (.int z), some (.int f), some (.int e), none]) ⟨Same.refl _, 1, y, by decide, by decide, rfl⟩ ?_ ?_
    · rintro i σ' H5 hi ⟨s5, e, y, e0, e1, rfl⟩
      refine ⟨_, rfl, _, rfl, by show 2 ≤ sizeLine; decide, fun p hp => ?_⟩
      generalize g6 : upd H5 p _ = H6
      obtain ⟨s6, t6⟩ := new_of g6 hp
      refine ⟨_, rfl, _, rfl, _, _, rfl, rfl, .inr (by omega), 16, 40, rfl, rfl, ⟨by decide, by decide, by decide⟩, _, _, rfl, rfl, .inr ⟨_, rfl, ?_⟩⟩
      rw [e40]
      by_cases t : e * b < 16 ^ 40
      · rw [decide_eq_true t]
        refine ⟨p, _, 1, .int b, rfl, rfl, .of t6, atI_nat (j := 1) rfl, _, _, rfl, rfl, .inr (by omega), ?_⟩
        have e2 : 1 ≤ e * b := by
          have := Int.mul_le_mul_of_nonneg_left (show (1 : Int) ≤ b by omega) (show 0 ≤ e by omega)
          omega
        exact ⟨s5.trans s6, _, _, e2, t, rfl⟩
      · rw [decide_eq_false t]
        refine ⟨p, _, 0, .int 1, rfl, rfl, .of t6, atI_nat (j := 0) rfl, _, _, rfl, rfl, .inr (by decide), ?_⟩
        exact ⟨s5.trans s6, _, _, by omega, by omega, rfl⟩
    rintro σ' H5 ⟨s5, e, y, e0, e1, rfl⟩
    have D5 := D4.same s5
    -- some
    refine ⟨_, rfl, d, 40, c, n + 12, rfl, D5, by omega, by decide, by decide, fun H6 r6 b6 D6 u6 v6 => ?_⟩
    refine ⟨_, rfl, 10, 6, rfl, rfl, ⟨by decide, by decide, by decide⟩, d, _, c, n + 13, rfl, D6, by omega, by decide, by decide, fun H7 r7 b7 D7 u7 v7 => ?_⟩
    refine ⟨_, rfl, 16, 40, rfl, rfl, ⟨by decide, by decide, by decide⟩, _, _, rfl, rfl, _, rfl, d, 9, c, n + 14, rfl, D7, by omega, by decide, by decide, fun H8 r8 b8 D8 u8 v8 => ?_⟩
    refine ⟨_, _, rfl, rfl, _, rfl, by show 5 ≤ sizeLine; decide, fun p9 hp9 => ?_⟩
    rw [e40]
    generalize g9 : upd H8 p9 _ = H9
    obtain ⟨s9, t9⟩ := new_of g9 hp9
    have o9 := D8.out hp9
    have D9 := D8.same s9
    refine ⟨_, rfl, _, rfl, _, rfl, d, 3, c, n + 15, rfl, D9, by omega, by decide, by decide, fun Ha ra ba Da ua va => ?_⟩
    refine ⟨_, _, rfl, rfl, 0, e - ra, rfl, ?_⟩
    refine ⟨_, rfl, _, rfl, _, _, rfl, rfl, divW 200 (by omega) (by omega), by show 2 ≤ sizeLine; decide, fun pb hpb => ?_⟩
    generalize gb' : upd Ha pb _ = Hb
    obtain ⟨sb, tb⟩ := new_of gb' hpb
    refine ⟨p9, pb, _, _, rfl, rfl, sb _ _ (ba _ _ o9.1 t9), tb, by show 7 ≤ sizeLine; decide, fun pc hpc => ?_⟩
    generalize gc : upd Hb pc _ = Hc
    obtain ⟨sc, tc⟩ := new_of gc hpc
    have Db := Da.same sb
    have oc := Db.out hpc
    refine ⟨_, rfl, d, 7, c, n + 16, rfl, Db.same sc, by omega, by decide, by decide, fun Hd rd bd Dd ud vd => ?_⟩
    have tl := bd _ _ oc.1 tc
    have bAll : But d H Hd := b1.trans (b2.trans (b3.trans (b4.trans ((But.of s5).trans (b6.trans (b7.trans (b8.trans ((But.of s9).trans (ba.trans ((But.of (sb.trans sc)).trans bd))))))))))
    have mx : 0 ≤ (if e - ra > 0 then e - ra else (0 : Int)) ∧ (if e - ra > 0 then e - ra else (0 : Int)) < 16 ^ 40 := by split <;> omega
    have dv := div_le gb.1 e0
    have cases7 : rd = 0 ∨ rd = 1 ∨ rd = 2 ∨ rd = 3 ∨ rd = 4 ∨ rd = 5 ∨ rd = 6 := by omega
    rcases cases7 with rfl | rfl | rfl | rfl | rfl | rfl | rfl
    · exact ⟨pc, _, 0, _, rfl, rfl, .of tl, atI_nat (j := 0) rfl, q _ _ bAll Dd (by omega) (by omega)⟩
    · exact ⟨pc, _, 1, _, rfl, rfl, .of tl, atI_nat (j := 1) rfl, q _ _ bAll Dd (by omega) (by omega)⟩
    · exact ⟨pc, _, 2, _, rfl, rfl, .of tl, atI_nat (j := 2) rfl, q _ _ bAll Dd (by omega) (by omega)⟩
    · exact ⟨pc, _, 3, _, rfl, rfl, .of tl, atI_nat (j := 3) rfl, q _ _ bAll Dd (by omega) (by omega)⟩
    · exact ⟨pc, _, 4, _, rfl, rfl, .of tl, atI_nat (j := 4) rfl, q _ _ bAll Dd z0 z2⟩
    · exact ⟨pc, _, 5, _, rfl, rfl, .of tl, atI_nat (j := 5) rfl, q _ _ bAll Dd mx.1 mx.2⟩
    · exact ⟨pc, _, 6, _, rfl, rfl, .of tl, atI_nat (j := 6) rfl, q _ _ bAll Dd dv.1 (by omega)⟩

/-! ### _law_figures -/
def sp__law_figures (K : PySem.W.Frag) : Sp := fun vs H Q _ => ∃ n b : Nat, vs = [.int (n : Int), .int (b : Int)] ∧ 2 ≤ b ∧ b ≤ 16 ∧ n < 2 ^ 900 ∧ ∀ H' p, Same H H' → H p = none → H' p = some (.lst (ivs (figs b n))) → Q (.ref p) H'
def W__law_figures (n b : Nat) (H : Hp) (P : Addr) (m : Nat) (σ' : L2.St) (H' : Hp) : Prop := ∃ k : Nat, m = n - k ∧ σ' = [some (.int (n : Int)), some (.int (b : Int)), some (.ref P), none, none] ∧ Same H H' ∧ H' P = some (.lst (ivs (powsN b (k + 1)))) ∧ (k = 0 ∨ b ^ k ≤ n)
theorem W__law_figures.le {n b k : Nat} (hb : 2 ≤ b) (hn : n < 2 ^ 900) (h : k = 0 ∨ b ^ k ≤ n) : k ≤ 899 := by
  rcases h with h | h
  · omega
  · refine Nat.le_of_lt_succ (Nat.lt_of_not_le fun z => ?_)
    have h1 : (2 : Nat) ^ 900 ≤ 2 ^ k := Nat.pow_le_pow_right (by decide) z
    have h2 : (2 : Nat) ^ k ≤ b ^ k := Nat.pow_le_pow_left hb k
    omega
theorem ok__law_figures (T : Txt K mg) : FnOk P w K mg base CX0 1 T.f__law_figures T.fd__law_figures ["number", "base"] (sp__law_figures K) := by
  refine T.F__law_figures.ok sc__law_figures (fun vs H Q E h => ?_) (fun cdv A outer s H vs Q E hr h => ?_)
  · obtain ⟨_, _, rfl, _⟩ := h
    rfl
  · obtain ⟨n, b, rfl, hb, hb16, hn, q⟩ := h
    refine ⟨_, (pss_cons (ps_set (i := 2) sc__law_figures.nd rfl (Or.inl rfl) (pe_lst (pa_cons pe_int pa_nil)))
      (pss_cons (ps_while PassesOwn.never (pt_cmpR op_le (pe_op op_mul (pe_ix ix_list (pv 2) (pe_un un_neg pe_int) (fun _ _ => rfl)) (pv 1)) (pv 0) (nomark _)) (pss_one (ps_expr (pe_bm PySem.F.plainAttrs_list PySem.F.slot_list_append PySem.F.type_list_append mt_append (pv 2) (pa_cons (pe_op op_mul (pe_ix ix_list (pv 2) (pe_un un_neg pe_int) (fun _ _ => rfl)) (pv 1)) pa_nil)))))
      (pss_cons (ps_set (i := 3) sc__law_figures.nd rfl (Or.inl rfl) (pe_lst pa_nil))
      (pss_cons (ps_for PassesOwn.never rfl (pi_list (pe_revL (pv 2))) (pg_name (i := 4) sc__law_figures.nd rfl (Or.inl rfl)) (pss_cons (ps_expr (pe_bm PySem.F.plainAttrs_list PySem.F.slot_list_append PySem.F.type_list_append mt_append (pv 3) (pa_cons (pe_op op_fdivW (pv 0) (pv 4)) pa_nil)))
      (pss_one (ps_set (i := 0) sc__law_figures.nd rfl (Or.inl rfl) (pe_op op_mod (pv 0) (pv 4))))))
      (pss_one (ps_ret (pv 3))))))), ?_⟩
    refine ⟨by show 1 ≤ sizeLine; decide, fun P hP => ?_⟩
    generalize g1 : upd H P _ = H1
    obtain ⟨s1, t1⟩ := new_of g1 hP
    refine ⟨W__law_figures n b H P, ⟨n, 0, rfl, rfl, s1, t1, .inl rfl⟩, ?_⟩
    rintro m σ' H2 ⟨k, rfl, rfl, s2, t2, hk⟩
    have k9 := W__law_figures.le hb hn hk
    have pl : ivs (powsN b (k + 1)) = ivs (powsN b k) ++ [.int ((b ^ k : Nat) : Int)] := ivs_append ..
    have t2' := t2
    rw [pl] at t2'
    have bd : -(2 ^ 64) < (b : Int) ∧ (b : Int) < 2 ^ 64 := by omega
    refine ⟨_, rfl, 1, rfl, P, _, -1, _, rfl, rfl, .of t2', atI_last _ _, _, rfl, _, _, rfl, rfl, .inr bd, _, rfl, _, _, rfl, rfl, _, rfl, ?_⟩
    by_cases t : b ^ k * b ≤ n
    · have t' : ((b ^ k : Nat) : Int) * (b : Int) ≤ (n : Int) := by
        rw [← Int.natCast_mul]
        exact Int.ofNat_le.mpr t
      rw [decide_eq_true t']
      have kn := lt_pow' hb (k + 1)
      rw [Nat.pow_succ] at kn
      refine iteT ⟨Nx (W__law_figures n b H P) (n - k), Nx.id, ?_⟩
      refine ⟨_, rfl, .inl ⟨rfl, _, .of t2⟩, _, rfl, 1, rfl, P, _, -1, _, rfl, rfl, .of t2', atI_last _ _, _, rfl, _, _, rfl, rfl, .inr bd, P, _, _, rfl, rfl, t2, small1000 (by rw [ivs_length, powsN_len]; omega), ?_⟩
      refine ⟨n - (k + 1), by omega, k + 1, rfl, rfl, same_own s2 hP, ?_, .inr (by rw [Nat.pow_succ]; exact t)⟩
      rw [upd_same]
      show _ = some (HO.lst (ivs (powsN b (k + 1) ++ [b ^ (k + 1)])))
      rw [ivs_append, Nat.pow_succ]
      rfl
    · have t' : ¬ ((b ^ k : Nat) : Int) * (b : Int) ≤ (n : Int) := fun z => t (Int.ofNat_le.mp (by rw [Int.natCast_mul]; exact z))
      rw [decide_eq_false t']
      have hn1 : n < b ^ (k + 1) := by
        rw [Nat.pow_succ]
        omega
      refine iteF ?_
      refine ⟨Nat.zero_le _, fun F hF => ?_⟩
      generalize g3 : upd H2 F _ = H3
      obtain ⟨s3, t3⟩ := new_of g3 hF
      refine ⟨_, rfl, P, _, rfl, .of (s3 _ _ t2), fun R hR => ?_⟩
      rw [ivs_reverse]
      generalize g4 : upd H3 R _ = H4
      obtain ⟨s4, t4⟩ := new_of g4 hR
      have t34 := s4 _ _ t3
      have hRF : F ≠ R := ne_of_none t3 hR
      refine ⟨R, rfl, ⟨_, .of t4⟩, for_list (xs := ivs (powsN b (k + 1)).reverse) (fun i σ' H' => But F H4 H' ∧ H' F = some (.lst (ivs (fndN b n k i))) ∧ ∃ y, σ' = [some (.int ((n % b ^ (k + 1 - i) : Nat) : Int)), some (.int (b : Int)), some (.ref P), some (.ref F), y]) ⟨But.refl _ _, t34, none, ?_⟩ ?_ ?_ ?_⟩
      · rw [Nat.sub_zero, Nat.mod_eq_of_lt hn1]
        rfl
      · rintro i σ' H' hi ⟨s5, _⟩
        exact .of (s5 _ _ hRF.symm t4)
      · rintro i x σ' H5 hx ⟨s5, t5, y, rfl⟩
        obtain ⟨w, hw, rfl⟩ := ivs_get hx
        have hi : i < k + 1 := by
          have := (List.getElem?_eq_some_iff.mp hw).1
          rw [List.length_reverse, powsN_len] at this
          exact this
        rw [powsN_rev hi] at hw
        cases hw
        have ej : k + 1 - i = (k - i) + 1 := by omega
        have pw : 0 < b ^ (k - i) := Nat.pow_pos (by omega)
        have dv : ∀ x : Int, CDivW x ((b ^ (k - i) : Nat) : Int) := fun x => divN pw (by
          rcases hk with hk | hk
          · rw [hk, Nat.zero_sub, Nat.pow_zero]
            exact Nat.one_lt_two_pow (by decide)
          · exact Nat.lt_of_le_of_lt (Nat.le_trans (Nat.pow_le_pow_right (by omega) (by omega)) hk) hn)
        refine ⟨_, rfl, .inl ⟨rfl, _, .of t5⟩, _, rfl, _, rfl, _, _, rfl, rfl, dv _, F, _, _, rfl, rfl, t5, small1000 (by rw [ivs_length, fndN_len]; omega), ?_⟩
        refine ⟨_, rfl, _, rfl, _, _, rfl, rfl, by walk_at "p", s5.trans But.set, ?_, some (.int ((b ^ (k - i) : Nat) : Int)), ?_⟩
        · have ed : n / b ^ (k - i) % b = n % b ^ (k + 1 - i) / b ^ (k - i) := by rw [ej, fig_div]
          rw [upd_same, fndN_succ, ivs_append, ed]
          rfl
        · have em : n % b ^ (k + 1 - (i + 1)) = n % b ^ (k + 1 - i) % b ^ (k - i) := by rw [ej, fig_mod, show k + 1 - (i + 1) = k - i by omega]
          rw [em]
          rfl
      · rintro σ' H5 ⟨s5, t5, y, rfl⟩
        rw [ivs_length, List.length_reverse, powsN_len, fndN_all hb hn1 hk] at t5
        have sAll : Same H H5 := fun x o e => by
          have e4 := s4 _ _ (s3 _ _ (s2 _ _ e))
          exact s5 x o (ne_of_none (s2 _ _ e) hF) e4
        exact ⟨_, rfl, q _ F sAll (s2.free hF) t5⟩

/-! ### _law_text -/
def sp__law_text (K : PySem.W.Frag) : Sp := fun vs H Q _ => ∃ n b : Nat, vs = [.int (n : Int), .int (b : Int)] ∧ 2 ≤ b ∧ b ≤ 16 ∧ n < 2 ^ 900 ∧ ∀ H', Same H H' → Q (.str (txt (figs b n))) H'
theorem ok__law_text (T : Txt K mg) : FnOk P w K mg base CX0 2 T.f__law_text T.fd__law_text ["number", "base"] (sp__law_text K) := by
  refine T.F__law_text.ok sc__law_text (fun vs H Q E h => ?_) (fun cdv A outer s H vs Q E hr h => ?_)
  · obtain ⟨_, _, rfl, _⟩ := h
    rfl
  · obtain ⟨n, b, rfl, hb, hb16, hn, q⟩ := h
    have fl := figs_le hb hn
    refine ⟨_, (pss_one (ps_ret (pe_join pe_str (pe_lc (own := [("figure", 2)]) (g := (gName 2)) (tt := tYes) rfl sc__law_text.nd (pi_list (pe_call (ok__law_figures T) hr (by rfl) T.g__law_figures T.F__law_figures.kp T.b__law_figures .nil pass0 (pa_cons (pv 0) (pa_cons (pv 1) pa_nil)))) (blkOk_by (own := [("figure", 2)]) (N := ["number", "base", "figure"]) (sc := defScope s__law_text) (by decide +kernel)) (fun _ _ _ _ _ => (pg_name (i := 2) sc__law_text.nd rfl (Or.inl rfl))) (fun _ _ _ _ _ => pts_nil) (fun _ _ _ _ _ => (pe_ix ix_str pe_str (pv 2) (fun _ _ => rfl))))))), ?_⟩
    refine ⟨⟨_, rfl⟩, ?_⟩
    refine ⟨_, rfl, _, rfl, n, b, rfl, hb, hb16, hn, fun H1 t s1 n1 e1 => ⟨t, rfl, ⟨_, .of e1⟩, fun D hD => ?_⟩⟩
    refine lc_list (xs := ivs (figs b n)) (fun i H' => Same H1 H' ∧ H' D = some (.lst ((((figs b n).take i).map fun d => one (sg d)).map V.str))) ⟨Same.new hD, upd_same⟩ ?_ ?_ ?_
    · rintro i H' hi ⟨s2, e2⟩
      exact .of (s2 _ _ e1)
    · rintro i x H' hx ⟨s2, e2⟩
      obtain ⟨k, hk, rfl⟩ := ivs_get hx
      have kb := figs_below hb (List.mem_of_getElem? hk)
      have hi : i < (figs b n).length := (List.getElem?_eq_some_iff.mp hk).1
      refine ⟨rfl, _, rfl, FIG, _, _, rfl, rfl, fig_len, fig_at (by omega), ?_⟩
      refine ⟨_, e2, small1000 ?_, same_own s2 hD, ?_⟩
      · rw [List.length_map, List.length_map, List.length_take]
        omega
      · rw [upd_same, List.take_add_one, hk, List.map_append, List.map_append]
        rfl
    · rintro H' ⟨s2, e2⟩
      rw [ivs_length, List.take_length] at e2
      refine ⟨"", D, (figs b n).map fun d => one (sg d), rfl, rfl, .inl (.of e2), ?_, ?_⟩
      · have e : (((figs b n).map fun d => one (sg d)).map (·.length)).sum ≤ ((figs b n).map fun d => one (sg d)).length * 1 := by
          refine Nat.le_trans (sum_le_mul (m := 1) fun x hx => ?_) ?_
          · obtain ⟨y, hy, rfl⟩ := List.mem_map.mp hx
            obtain ⟨d, hd, rfl⟩ := List.mem_map.mp hy
            exact Nat.le_refl 1
          · rw [List.length_map]
            exact Nat.le_refl _
        have z : ("" : Str).length = 0 := by decide +kernel
        rw [List.length_map] at e ⊢
        rw [z]
        omega
      · have e3 : ((figs b n).map fun d => one (sg d)) = ((figs b n).map sg).map one := by rw [List.map_map]; rfl
        rw [e3, join_ones]
        exact q H' (s1.trans s2)

/-! ### _law_is_whole -/
def sp__law_is_whole (K : PySem.W.Frag) : Sp := fun vs H Q _ => ∃ x y : Int, vs = [.int x, .int y] ∧ Q (.bl (decide (V.int x = V.int y))) H
theorem ok__law_is_whole (T : Txt K mg) : FnOk P w K mg base CX0 1 T.f__law_is_whole T.fd__law_is_whole ["found", "due"] (sp__law_is_whole K) := by
  refine T.F__law_is_whole.ok sc__law_is_whole (fun vs H Q E h => ?_) (fun cdv A outer s H vs Q E hr h => ?_)
  · obtain ⟨_, _, rfl, _⟩ := h
    rfl
  · obtain ⟨x, y, rfl, q⟩ := h
    refine ⟨_, (pss_one (ps_ret (pe_and (pe_callB (id := "isinstance") call_isi (by rfl) T.m_isinstance (by decide +kernel) (pa_cons (pv 0) (pa_cons (pe_bltn (v := .ty "int") (by rfl) T.m_int (by decide +kernel) rfl) pa_nil))) (pe_and (pe_not (pe_callB (id := "isinstance") call_isi (by rfl) T.m_isinstance (by decide +kernel) (pa_cons (pv 0) (pa_cons (pe_bltn (v := .ty "bool") (by rfl) T.m_bool (by decide +kernel) rfl) pa_nil)))) (pe_one (pe_cmpR op_eq (pv 0) (pv 1) (nomark _))))))), ?_⟩
    refine ⟨_, rfl, _, _, _, _, true, rfl, .ty "int", .base (.int _), kit_ty (by decide +kernel), true, rfl, iteT ?_⟩
    refine ⟨_, rfl, _, _, _, _, false, rfl, .ty "bool", .base (.int _), kit_ty (by decide +kernel), false, rfl, true, rfl, iteT ?_⟩
    exact ⟨_, rfl, _, rfl, rfl, q⟩

/-! ### _law_kind -/
def sp__law_kind {K : PySem.W.Frag} {mg : Str → Option Value} (T : Txt K mg) : Sp := fun vs H Q _ => ∃ (a d : Addr) (p : Nat), vs = [.ref a] ∧ KX H a T.k_NoNumber (some d) ∧ KF H d "place" (.int (p : Nat)) ∧
  ∀ q H', Same H H' → H' q = some (.tup [.str "number", .int (p : Nat)]) → Q (.ref q) H'
theorem ok__law_kind (T : Txt K mg) : FnOk P w K mg base CX0 1 T.f__law_kind T.fd__law_kind ["caught"] (sp__law_kind T) := by
  refine T.F__law_kind.ok sc__law_kind (fun vs H Q E h => ?_) (fun cdv A outer s H vs Q E hr h => ?_)
  · obtain ⟨_, _, _, rfl, _⟩ := h
    rfl
  · obtain ⟨a, d, p, rfl, kx, kf, q⟩ := h
    refine ⟨_, (C8.pss_cut (ps_set (i := 1) sc__law_kind.nd rfl (Or.inl rfl) (pe_lst (pa_cons (pe_callB (id := "isinstance") call_isK (by rfl) T.m_isinstance (by decide +kernel) (pa_cons (pv 0) (pa_cons (pe_glob (v := .ref T.k_NoAsk) (by rfl) T.gk_NoAsk rfl) pa_nil))) (pa_cons (pe_callB (id := "isinstance") call_isK (by rfl) T.m_isinstance (by decide +kernel) (pa_cons (pv 0) (pa_cons (pe_glob (v := .ref T.k_NoFigure) (by rfl) T.gk_NoFigure rfl) pa_nil))) (pa_cons (pe_callB (id := "isinstance") call_isK (by rfl) T.m_isinstance (by decide +kernel) (pa_cons (pv 0) (pa_cons (pe_glob (v := .ref T.k_NoNumber) (by rfl) T.gk_NoNumber rfl) pa_nil))) pa_nil)))))
      (C8.pss_cut (ps_set (i := 1) sc__law_kind.nd rfl (Or.inl rfl) (pe_op op_cat (pv 1) (pe_lst (pa_cons (pe_callB (id := "isinstance") call_isK (by rfl) T.m_isinstance (by decide +kernel) (pa_cons (pv 0) (pa_cons (pe_glob (v := .ref T.k_NoPlace) (by rfl) T.gk_NoPlace rfl) pa_nil))) (pa_cons (pe_callB (id := "isinstance") call_isK (by rfl) T.m_isinstance (by decide +kernel) (pa_cons (pv 0) (pa_cons (pe_glob (v := .ref T.k_NoRound) (by rfl) T.gk_NoRound rfl) pa_nil))) pa_nil)))))
      (pss_cons (ps_if (PW.pt (pw_or (pt_not (pt_val (pe_callB (id := "isinstance") call_isK (by rfl) T.m_isinstance (by decide +kernel) (pa_cons (pv 0) (pa_cons (pe_glob (v := .ref T.k_FigureError) (by rfl) T.gk_FigureError rfl) pa_nil))))) (pw_or (pt_not (pt_val (pe_callB (id := "isinstance") call_isK (by rfl) T.m_isinstance (by decide +kernel) (pa_cons (pv 0) (pa_cons (pe_bltn (v := .ty "ValueError") (by rfl) T.m_ValueError (by decide +kernel) rfl) pa_nil))))) (pw_or1 (pt_cmpR op_ne (pe_bm PySem.F.plainAttrs_list PySem.F.slot_list_count PySem.F.type_list_count mt_countB (pv 1) (pa_cons pe_bl pa_nil)) pe_int (nomark _)))))) (pss_one (ps_ret (pe_tup (pa_cons pe_str pa_nil)))) pss_nil)
      (pss_cons (ps_if (pt_val (pe_ix ix_list (pv 1) pe_int (fun _ _ => rfl))) (pss_cons (ps_if (pt_val (pe_callB (id := "isinstance") call_isi (by rfl) T.m_isinstance (by decide +kernel) (pa_cons (pe_xk (pv 0)) (pa_cons (pe_bltn (v := .ty "bool") (by rfl) T.m_bool (by decide +kernel) rfl) pa_nil)))) (pss_one (ps_ret (pe_tup (pa_cons pe_str pa_nil)))) pss_nil)
      (pss_one (ps_ret (pe_tup (pa_cons pe_str (pa_cons (pe_xk (pv 0)) pa_nil)))))) pss_nil)
      (pss_one (ps_ret (pe_tup (pa_cons (pe_ix ix_list (pe_lst (pa_cons pe_str (pa_cons pe_str (pa_cons pe_str (pa_cons pe_str (pa_cons pe_str pa_nil)))))) (pe_bm PySem.F.plainAttrs_list PySem.F.slot_list_index PySem.F.type_list_index mt_index (pv 1) (pa_cons pe_bl pa_nil)) (fun _ _ => rfl)) pa_nil)))))))), ?_⟩
    refine ⟨fun σ' H' => Same H H' ∧ ∃ k, σ' = [some (.ref a), some (.ref k)] ∧ H' k = some (.lst ([false, false, true].map V.bl)), ?_, ?_⟩
    · have X := T.I_NoNumber.exc T.x_NoNumber
      have me := T.I_NoNumber.me
      refine ⟨_, rfl, a, T.k_NoNumber, some d, _, _, _, rfl, .own _, kx, kf.kd, X, kit_own T.x_NoAsk me T.s_NoNumber_NoAsk, ?_⟩
      refine ⟨_, rfl, a, T.k_NoNumber, some d, _, _, _, rfl, .own _, kx, kf.kd, X, kit_own T.x_NoFigure me T.s_NoNumber_NoFigure, ?_⟩
      refine ⟨_, rfl, a, T.k_NoNumber, some d, _, _, _, rfl, .own _, kx, kf.kd, X, kit_own T.x_NoNumber me T.s_NoNumber_NoNumber, ?_⟩
      exact ⟨by show 3 ≤ sizeLine; decide, fun l hl => ⟨Same.new hl, l, rfl, upd_same⟩⟩
    · rintro σ' H' ⟨s1, k, rfl, hk⟩
      have kx1 := kx.same (s1 a)
      have kf1 := kf.same (s1 d)
      have X := T.I_NoNumber.exc T.x_NoNumber
      have me := T.I_NoNumber.me
      refine ⟨fun σ'' H'' => Same H H'' ∧ ∃ k, σ'' = [some (.ref a), some (.ref k)] ∧ H'' k = some (.lst ([false, false, true, false, false].map V.bl)), ?_, ?_⟩
      · refine ⟨_, rfl, ?_⟩
        refine ⟨_, rfl, a, T.k_NoNumber, some d, _, _, _, rfl, .own _, kx1, kf1.kd, X, kit_own T.x_NoPlace me T.s_NoNumber_NoPlace, ?_⟩
        refine ⟨_, rfl, a, T.k_NoNumber, some d, _, _, _, rfl, .own _, kx1, kf1.kd, X, kit_own T.x_NoRound me T.s_NoNumber_NoRound, ?_⟩
        refine ⟨by show 2 ≤ sizeLine; decide, fun l hl => ?_⟩
        have hk' : upd H' l (.lst [.bl false, .bl false]) k = some (.lst ([false, false, true].map V.bl)) := (upd_ne (ne_of_none hk hl)).trans hk
        refine ⟨k, l, _, _, rfl, rfl, hk', upd_same, by show 3 + 2 ≤ sizeLine; decide, fun l2 hl2 => ⟨s1.trans ((Same.new hl).trans (Same.new hl2)), l2, rfl, upd_same⟩⟩
      · rintro σ'' H'' ⟨s2, k2, rfl, hk2⟩
        have kx2 := kx.same (s2 a)
        have kf2 := kf.same (s2 d)
        refine ⟨_, rfl, a, T.k_NoNumber, some d, _, _, _, rfl, .own _, kx2, kf2.kd, X, kit_own T.x_FigureError me T.s_NoNumber_FigureError, true, rfl, ?_⟩
        refine ite2 (fun e => absurd e (by decide)) (fun _ => ?_)
        refine ⟨_, rfl, a, T.k_NoNumber, some d, _, _, _, rfl, .ty _, kx2, kf2.kd, X, kit_VE T.I_NoNumber.ve, true, rfl, ?_⟩
        refine ite2 (fun e => absurd e (by decide)) (fun _ => ?_)
        refine ⟨_, rfl, .inl ⟨rfl, _, .of hk2⟩, k2, [false, false, true, false, false], true, rfl, rfl, .of hk2, rfl, _, rfl, ite2 (fun e => absurd e (by decide)) (fun _ => ?_)⟩
        refine ⟨_, rfl, _, _, 2, .bl true, rfl, rfl, .of hk2, rfl, true, rfl, iteT ?_⟩
        refine ⟨_, rfl, a, T.k_NoNumber, d, .int (p : Nat), rfl, kx2, T.I_NoNumber.fld T.x_NoNumber, T.jn_NoNumber_place, kf2, _, _, _, _, false, rfl, .ty "bool", .base (.int _), kit_ty (by decide +kernel), false, rfl, iteF ?_⟩
        refine ⟨_, rfl, a, T.k_NoNumber, d, .int (p : Nat), rfl, kx2, T.I_NoNumber.fld T.x_NoNumber, T.jn_NoNumber_place, kf2, ?_⟩
        exact ⟨by show 2 ≤ sizeLine; decide, fun l hl => q l _ (s2.trans (Same.new hl)) upd_same⟩

/-! ### _law_sign -/
abbrev SIGNS : Str := " !\"#$&'()*+,-./0123456789:;<=>?@ABCDEFGHIJKLMNOPQRSTUVWXYZ[\\]^_`abcdefghijklmnopqrstuvwxyz{|}~\n"
abbrev FEWER : Str := "0123456789abcdefgABCDEF"
def sp__law_sign (K : PySem.W.Frag) : Sp := fun vs H Q _ => ∃ (d c : Addr) (n b : Nat), vs = [.ref d, .int (b : Int)] ∧ Deck H d c n ∧ n < 2 ^ 39 ∧ 2 ≤ b ∧ b ≤ 16 ∧
  ∀ (x : Str) H', x.length = 1 → But d H H' → Deck H' d c (n + 3) → Q (.str x) H'
theorem ok__law_sign (T : Txt K mg) : FnOk P w K mg base CX0 3 T.f__law_sign T.fd__law_sign ["deck", "base"] (sp__law_sign K) := by
  refine T.F__law_sign.ok sc__law_sign (fun vs H Q E h => ?_) (fun cdv A outer s H vs Q E hr h => ?_)
  · obtain ⟨_, _, _, _, rfl, _⟩ := h
    rfl
  · obtain ⟨d, c, n, b, rfl, hd, hn, hb, hb16, q⟩ := h
    have l1 : SIGNS.cps.toList.length = 95 := by decide +kernel
    have l1' : SIGNS.length = 95 := by decide +kernel
    have l2 : FEWER.cps.toList.length = 23 := by decide +kernel
    have z1 : SIGNS.length ≤ sizeLine := by decide +kernel
    have z2 : FEWER.length ≤ sizeLine := by decide +kernel
    refine ⟨_, (pss_cons (ps_set (i := 2) sc__law_sign.nd rfl (Or.inl rfl) pe_str)
      (pss_cons (ps_set (i := 3) sc__law_sign.nd rfl (Or.inl rfl) pe_str)
      (pss_cons (ps_set (i := 4) sc__law_sign.nd rfl (Or.inl rfl) (pe_lst (pa_cons (pe_ix ix_str (pv 2) (pe_call (ok__law_next T) hr (by rfl) T.g__law_next T.F__law_next.kp T.b__law_next .nil pass0 (pa_cons (pv 0) (pa_cons (pe_callB (id := "len") call_len_str (by rfl) T.m_len (by decide +kernel) (pa_cons (pv 2) pa_nil)) pa_nil))) (fun _ _ => rfl)) (pa_cons (pe_ix ix_str (pv 3) (pe_call (ok__law_next T) hr (by rfl) T.g__law_next T.F__law_next.kp T.b__law_next .nil pass0 (pa_cons (pv 0) (pa_cons pe_int pa_nil))) (fun _ _ => rfl)) (pa_cons (pe_ix ix_str (pv 3) (pv 1) (fun _ _ => rfl)) (pa_cons pe_str pa_nil))))))
      (pss_one (ps_ret (pe_ix ix_list (pv 4) (pe_call (ok__law_next T) hr (by rfl) T.g__law_next T.F__law_next.kp T.b__law_next .nil pass0 (pa_cons (pv 0) (pa_cons pe_int pa_nil))) (fun _ _ => rfl))))))), ?_⟩
    refine ⟨_, rfl, _, rfl, _, rfl, SIGNS, rfl, z1, d, _, c, n, rfl, hd, by omega, by rw [l1']; decide, by rw [l1']; decide, fun H1 r1 b1 D1 r10 r11 => ?_⟩
    rw [l1'] at r11
    obtain ⟨c1, e1⟩ := atI_ex (l := SIGNS.cps.toList) r10 (by rw [l1]; exact r11)
    refine ⟨SIGNS, _, c1, rfl, rfl, z1, e1, ?_⟩
    refine ⟨_, rfl, _, rfl, d, 23, c, n + 1, rfl, D1, by omega, by decide, by decide, fun H2 r2 b2 D2 r20 r21 => ?_⟩
    obtain ⟨c2, e2⟩ := atI_ex (l := FEWER.cps.toList) r20 (by rw [l2]; exact r21)
    refine ⟨FEWER, _, c2, rfl, rfl, z2, e2, ?_⟩
    obtain ⟨c3, e3⟩ := atI_ex (l := FEWER.cps.toList) (i := (b : Int)) (by omega) (by rw [l2]; omega)
    refine ⟨_, rfl, _, rfl, FEWER, _, c3, rfl, rfl, z2, e3, ?_⟩
    refine ⟨by show 4 ≤ sizeLine; decide, fun l hl => ?_⟩
    generalize g3 : upd _ l _ = H3
    obtain ⟨s3, t3⟩ := new_of g3 hl
    refine ⟨_, rfl, _, rfl, d, 4, c, n + 2, rfl, D2.same s3, by omega, by decide, by decide, fun H4 r4 b4 D4 r40 r41 => ?_⟩
    have nl : l ≠ d := (D2.out hl).1
    have t4 := b4 l _ nl t3
    have bAll : But d H H4 := b1.trans (b2.trans ((But.of s3).trans b4))
    have one1 : ∀ x ∈ [one c1, one c2, one c3, ("0" : Str)], x.length = 1 := fun x hx => by
      simp only [List.mem_cons, List.not_mem_nil, or_false] at hx
      rcases hx with rfl | rfl | rfl | rfl
      · rfl
      · rfl
      · rfl
      · decide +kernel
    obtain ⟨k, rfl⟩ := Int.eq_ofNat_of_zero_le r40
    obtain ⟨x, hx⟩ : ∃ x, [one c1, one c2, one c3, ("0" : Str)][k]? = some x := ⟨_, List.getElem?_eq_getElem (by show k < 4; omega)⟩
    refine ⟨l, [one c1, one c2, one c3, ("0" : Str)].map V.str, _, .str x, rfl, rfl, .of t4, atI_nat (by rw [List.getElem?_map, hx]; rfl), ?_⟩
    exact q x H4 (one1 x (List.mem_of_getElem? hx)) bAll D4

/-! ### _law_spoilt -/
def sp__law_spoilt (K : PySem.W.Frag) : Sp := fun vs H Q _ => ∃ (d c : Addr) (n b : Nat) (x : Str), vs = [.ref d, .str x, .int (b : Int)] ∧ Deck H d c n ∧ n < 2 ^ 38 ∧ 2 ≤ b ∧ b ≤ 16 ∧ x.length ≤ 1000 ∧
  ∀ (y : Str) H', y.length ≤ 9000 → But d H H' → Deck H' d c (n + 19) → Q (.str y) H'
theorem ok__law_spoilt (T : Txt K mg) : FnOk P w K mg base CX0 4 T.f__law_spoilt T.fd__law_spoilt ["deck", "text", "base"] (sp__law_spoilt K) := by
  refine T.F__law_spoilt.ok sc__law_spoilt (fun vs H Q E h => ?_) (fun cdv A outer s H vs Q E hr h => ?_)
  · obtain ⟨_, _, _, _, _, rfl, _⟩ := h
    rfl
  · obtain ⟨d, c, n, b, x, rfl, hd, hn, hb, hb16, hx, q⟩ := h
    refine ⟨_, (pss_cons (ps_for PassesOwn.never rfl (pi_range1 (by rfl) T.m_range (pa_cons (pe_op op_add pe_int (pe_call (ok__law_next T) (hr.mono (by decide)) (by rfl) T.g__law_next T.F__law_next.kp T.b__law_next .nil pass0 (pa_cons (pv 0) (pa_cons pe_int pa_nil)))) pa_nil)) (pg_name (i := 3) sc__law_spoilt.nd rfl (Or.inl rfl)) (pss_cons (ps_set (i := 4) sc__law_spoilt.nd rfl (Or.inl rfl) (pe_ix ix_list (pe_lst (pa_cons (pe_call (ok__law_next T) (hr.mono (by decide)) (by rfl) T.g__law_next T.F__law_next.kp T.b__law_next .nil pass0 (pa_cons (pv 0) (pa_cons (pe_op op_add (pe_callB (id := "len") call_len_str (by rfl) T.m_len (by decide +kernel) (pa_cons (pv 1) pa_nil)) pe_int) pa_nil))) (pa_cons (pe_callB (id := "max") (call_max2 rfl) (by rfl) T.m_max (by decide +kernel) (pa_cons pe_int (pa_cons (pe_op op_sub (pe_callB (id := "len") call_len_str (by rfl) T.m_len (by decide +kernel) (pa_cons (pv 1) pa_nil)) pe_int) pa_nil))) (pa_cons pe_int pa_nil)))) (pe_call (ok__law_next T) (hr.mono (by decide)) (by rfl) T.g__law_next T.F__law_next.kp T.b__law_next .nil pass0 (pa_cons (pv 0) (pa_cons pe_int pa_nil))) (fun _ _ => rfl)))
      (pss_cons (ps_set (i := 5) sc__law_spoilt.nd rfl (Or.inl rfl) (pe_call (ok__law_next T) (hr.mono (by decide)) (by rfl) T.g__law_next T.F__law_next.kp T.b__law_next .nil pass0 (pa_cons (pv 0) (pa_cons pe_int pa_nil))))
      (pss_cons (ps_set (i := 6) sc__law_spoilt.nd rfl (Or.inl rfl) (pe_call (ok__law_sign T) hr (by rfl) T.g__law_sign T.F__law_sign.kp T.b__law_sign .nil pass0 (pa_cons (pv 0) (pa_cons (pv 2) pa_nil))))
      (pss_one (ps_set (i := 1) sc__law_spoilt.nd rfl (Or.inl rfl) (pe_ix ix_list (pe_lst (pa_cons (pe_op op_add_str (pe_op op_add_str (pe_slice sl_str (pv 1) po_none (po_some (pv 4))) (pv 6)) (pe_slice sl_str (pv 1) (po_some (pv 4)) po_none)) (pa_cons (pe_op op_add_str (pe_op op_add_str (pe_slice sl_str (pv 1) po_none (po_some (pv 4))) (pv 6)) (pe_slice sl_str (pv 1) (po_some (pe_op op_add (pv 4) pe_int)) po_none)) (pa_cons (pe_op op_add_str (pe_slice sl_str (pv 1) po_none (po_some (pv 4))) (pe_slice sl_str (pv 1) (po_some (pe_op op_add (pv 4) pe_int)) po_none)) pa_nil)))) (pv 5) (fun _ _ => rfl))))))))
      (pss_one (ps_ret (pv 1)))), ?_⟩
    refine ⟨_, rfl, d, 3, c, n, rfl, hd, by omega, by decide, by decide, fun H1 r b1 D1 r0 r1 => ?_⟩
    refine ⟨_, _, rfl, rfl, _, rfl, by omega, by omega, ?_⟩
    have en : (1 + r).toNat ≤ 3 := by omega
    refine for_range (lo := 0) (n := (1 + r).toNat) (fun i σ' H' => But d H H' ∧ Deck H' d c (n + 1 + 6 * i) ∧ ∃ (z : Str) (y3 y4 y5 y6 : Option V), z.length + 1 ≤ 1001 * 2 ^ i ∧ σ' = [some (.ref d), some (.str z), some (.int (b : Int)), y3, y4, y5, y6]) ⟨b1, D1, x, none, none, none, none, by omega, rfl⟩ ?_ ?_
    · rintro i σ' H2 hi ⟨b2, D2, z, y3, y4, y5, y6, hz, rfl⟩
      have i3 : i < 3 := by omega
      have p2 : 1001 * 2 ^ i ≤ 4004 := Nat.le_trans (Nat.mul_le_mul_left 1001 (Nat.pow_le_pow_right (by decide) (show i ≤ 2 by omega))) (by decide)
      have zz : z.length ≤ sizeLine := by rw [sizeLine_eq]; omega
      refine ⟨_, rfl, _, rfl, z, rfl, zz, _, _, rfl, rfl, d, _, c, n + 1 + 6 * i, rfl, D2, by omega, by omega, by omega, fun H3 r3 b3 D3 r30 r31 => ?_⟩
      refine ⟨_, rfl, z, rfl, zz, _, _, rfl, rfl, _, _, rfl, ?_⟩
      refine ⟨by show 3 ≤ sizeLine; decide, fun l hl => ?_⟩
      generalize g4 : upd _ l _ = H4
      obtain ⟨s4, t4⟩ := new_of g4 hl
      refine ⟨_, rfl, d, 3, c, n + 1 + 6 * i + 1, rfl, D3.same s4, by omega, by decide, by decide, fun H5 r5 b5 D5 r50 r51 => ?_⟩
      have nl : l ≠ d := (D3.out hl).1
      have t5 := b5 l _ nl t4
      obtain ⟨k, rfl⟩ := Int.eq_ofNat_of_zero_le r50
      obtain ⟨mx, t5'⟩ : ∃ mx : Int, H5 l = some (.lst ([r3, mx, (0 : Int)].map V.int)) := ⟨_, t5⟩
      obtain ⟨a, ha⟩ : ∃ a, [r3, mx, (0 : Int)][k]? = some a := ⟨_, List.getElem?_eq_getElem (by show k < 3; omega)⟩
      refine ⟨l, [r3, mx, (0 : Int)].map V.int, _, .int a, rfl, rfl, .of t5', atI_nat (by rw [List.getElem?_map, ha]; rfl), ?_⟩
      refine ⟨_, rfl, d, 3, c, n + 1 + 6 * i + 2, rfl, D5, by omega, by decide, by decide, fun H6 r6 b6 D6 r60 r61 => ?_⟩
      refine ⟨_, rfl, _, rfl, d, c, n + 1 + 6 * i + 3, b, rfl, D6, by omega, hb, hb16, fun sx H7 hs b7 D7 => ?_⟩
      have w1 : ∀ lo hi : Option Int, (cutS z lo hi).length ≤ z.length := fun lo hi => cutS_length z lo hi
      have fits : ∀ k : Nat, k ≤ 100000 → k ≤ sizeLine := fun k hk => by rw [sizeLine_eq]; omega
      have wa := w1 none (some a)
      have wb := w1 (some a) none
      have wc := w1 (some (a + 1)) none
      refine ⟨_, rfl, _, rfl, _, rfl, z, rfl, zz, _, rfl, _, _, rfl, rfl, fits _ (by omega), ?_⟩
      refine ⟨_, rfl, _, rfl, _, rfl, z, rfl, zz, _, _, rfl, rfl, fits _ (by rw [Str.length_append]; omega), ?_⟩
      refine ⟨_, rfl, _, rfl, _, rfl, z, rfl, zz, _, rfl, _, _, rfl, rfl, fits _ (by omega), ?_⟩
      refine ⟨_, rfl, _, rfl, _, _, rfl, rfl, _, rfl, z, rfl, zz, _, _, rfl, rfl, fits _ (by rw [Str.length_append]; omega), ?_⟩
      refine ⟨_, rfl, _, rfl, _, rfl, z, rfl, zz, ?_⟩
      refine ⟨_, rfl, _, rfl, _, _, rfl, rfl, _, rfl, z, rfl, zz, _, _, rfl, rfl, fits _ (by omega), ?_⟩
      refine ⟨by show 3 ≤ sizeLine; decide, fun l8 hl8 => ?_⟩
      generalize g8 : upd _ l8 _ = H8
      obtain ⟨s8, t8⟩ := new_of g8 hl8
      obtain ⟨ts, t8', lts, ets⟩ : ∃ ts : List Str, H8 l8 = some (.lst (ts.map V.str)) ∧ (∀ t ∈ ts, t.length ≤ 2 * z.length + 1) ∧ ts.length = 3 :=
        ⟨[_, _, _], t8, fun t ht => by
          simp only [List.mem_cons, List.not_mem_nil, or_false] at ht
          rcases ht with rfl | rfl | rfl
          · rw [Str.length_append, Str.length_append]
            omega
          · rw [Str.length_append, Str.length_append]
            omega
          · rw [Str.length_append]
            omega, rfl⟩
      obtain ⟨k6, rfl⟩ := Int.eq_ofNat_of_zero_le r60
      obtain ⟨t, ht⟩ : ∃ t, ts[k6]? = some t := ⟨_, List.getElem?_eq_getElem (by omega)⟩
      refine ⟨_, rfl, l8, ts.map V.str, _, .str t, rfl, rfl, .of t8', atI_nat (by rw [List.getElem?_map, ht]; rfl), ?_⟩
      have lt := lts t (List.mem_of_getElem? ht)
      refine ⟨b2.trans (b3.trans ((But.of s4).trans (b5.trans (b6.trans (b7.trans (But.of s8)))))), (D7.same s8).mono (by omega), t, _, _, _, _, ?_, rfl⟩
      rw [Nat.pow_succ]
      omega
    · rintro σ' H2 ⟨b2, D2, z, y3, y4, y5, y6, hz, rfl⟩
      have p3 : 1001 * 2 ^ (1 + r).toNat ≤ 8008 := Nat.le_trans (Nat.mul_le_mul_left 1001 (Nat.pow_le_pow_right (by decide) en)) (by decide)
      exact ⟨_, rfl, q z H2 (by omega) b2 (D2.mono (by omega))⟩

/-! ### _law_due -/
def sp__law_due (K : PySem.W.Frag) : Sp := fun vs H Q _ => ∃ (x : Str) (b : Nat), vs = [.str x, .int (b : Int)] ∧ 2 ≤ b ∧ b ≤ 16 ∧ x.length ≤ 90000 ∧
  (∀ n H', dueOf b x = .inl n → Same H H' → Q (.int n) H') ∧
  ∀ p q H', dueOf b x = .inr p → Same H H' → H' q = some (.tup [.str "number", .int (p : Nat)]) → Q (.ref q) H'
theorem ok__law_due (T : Txt K mg) : FnOk P w K mg base CX0 1 T.f__law_due T.fd__law_due ["text", "base"] (sp__law_due K) := by
  refine T.F__law_due.ok sc__law_due (fun vs H Q E h => ?_) (fun cdv A outer s H vs Q E hr h => ?_)
  · obtain ⟨_, _, rfl, _⟩ := h
    rfl
  · obtain ⟨x, b, rfl, hb, hb16, hl, q, qe⟩ := h
    have zl : x.length ≤ sizeLine := by rw [sizeLine_eq]; omega
    refine ⟨_, (C8.pss_cut (ps_if (PW.pt (pw_or (pt_cmpR op_eq (pv 0) pe_str (nomark _)) (pw_or1 (PW.pt (pw_and (pt_cmpR op_eq (pe_slice sl_str (pv 0) po_none (po_some pe_int)) pe_str (nomark _)) (pw_and1 (pt_cmpR op_gt (pe_callB (id := "len") call_len_str (by rfl) T.m_len (by decide +kernel) (pa_cons (pv 0) pa_nil)) pe_int (nomark _)))))))) (pss_one (ps_ret (pe_tup (pa_cons pe_str (pa_cons pe_int pa_nil))))) pss_nil)
      (pss_cons (ps_set (i := 2) sc__law_due.nd rfl (Or.inl rfl) pe_int)
      (pss_cons (ps_for PassesOwn.never rfl (pi_enumS (by rfl) T.m_enumerate (pa_cons (pv 0) pa_nil)) (pg_tup rfl (pgs_cons (pg_name (i := 3) sc__law_due.nd rfl (Or.inl rfl)) (pgs_cons (pg_name (i := 4) sc__law_due.nd rfl (Or.inl rfl)) pgs_nil))) (pss_cons (ps_set (i := 5) sc__law_due.nd rfl (Or.inl rfl) (pe_m1 PySem.F.slot_str_find PySem.F.type_str_find mt_find pe_str (pv 4)))
      (pss_cons (ps_if (pt_not (pt_chain op_le op_lt pe_int (pv 5) (pv 1))) (pss_one (ps_ret (pe_tup (pa_cons pe_str (pa_cons (pv 3) pa_nil))))) pss_nil)
      (pss_one (ps_set (i := 2) sc__law_due.nd rfl (Or.inl rfl) (pe_op op_add (pe_op op_mul (pv 2) (pv 1)) (pv 5)))))))
      (pss_one (ps_ret (pv 2)))))), ?_⟩
    refine ⟨fun σ' H' => H' = H ∧ σ' = [some (.str x), some (.int (b : Int)), none, none, none, none] ∧ bad0 x = false, ?_, ?_⟩
    · refine ⟨_, rfl, rfl, _, rfl, ite2 (fun e => ?_) (fun e => ?_)⟩
      · have e1 : x = "" := V.str.inj (of_decide_eq_true e)
        have bad : bad0 x = true := by
          unfold bad0
          rw [decide_eq_true e1]
          rfl
        have due : dueOf b x = .inr 0 := by
          unfold dueOf
          rw [if_pos bad]
        exact ⟨(by show 2 ≤ sizeLine; decide), fun p hp => qe 0 p _ due (Same.new hp) upd_same⟩
      · have ne : x ≠ "" := fun z => by
          rw [z] at e
          exact absurd e (by decide)
        obtain ⟨c0, h0⟩ : ∃ c0, x.cps[0]? = some c0 := by
          cases h : x.cps[0]? with
          | some c => exact ⟨c, rfl⟩
          | none =>
            have z := Array.getElem?_eq_none_iff.mp h
            exact absurd (str_empty (Nat.le_zero.mp z)) ne
        have z48 : ("0" : Str) = one 48 := by decide +kernel
        refine ⟨_, rfl, _, rfl, x, rfl, zl, ?_⟩
        rw [cut_one h0]
        refine ⟨rfl, _, rfl, ite2 (fun e2 => ?_) (fun e2 => ?_)⟩
        · have c48 : c0 = 48 := one_is (z48 ▸ of_decide_eq_true e2)
          subst c48
          refine ⟨_, rfl, _, rfl, zl, _, _, rfl, rfl, _, rfl, ite2 (fun e3 => ?_) (fun e3 => ?_)⟩
          · have e4 : (1 : Int) < (x.length : Nat) := of_decide_eq_true e3
            have bad : bad0 x = true := by
              unfold bad0
              rw [decide_eq_true h0, decide_eq_true (show 1 < x.length by omega), Bool.and_self, Bool.or_true]
            have due : dueOf b x = .inr 0 := by
              unfold dueOf
              rw [if_pos bad]
            exact ⟨(by show 2 ≤ sizeLine; decide), fun p hp => qe 0 p _ due (Same.new hp) upd_same⟩
          · have e4 : ¬ (1 : Int) < (x.length : Nat) := fun z => e3 (decide_eq_true z)
            refine ⟨rfl, rfl, ?_⟩
            unfold bad0
            rw [decide_eq_false ne, decide_eq_false (show ¬ 1 < x.length by omega), Bool.and_false, Bool.or_false]
        · have n48 : c0 ≠ 48 := fun z => e2 (decide_eq_true (by rw [z, z48]))
          refine ⟨rfl, rfl, ?_⟩
          unfold bad0
          rw [decide_eq_false ne, decide_eq_false (show ¬ x.cps[0]? = some 48 from fun z => n48 (Option.some.inj (h0.symm.trans z))), Bool.false_and, Bool.or_false]
    · rintro σ' H' ⟨rfl, rfl, nb⟩
      have due : dueOf b x = scan b x.cps.toList 0 0 := by
        unfold dueOf
        rw [if_neg (by rw [nb]; exact Bool.false_ne_true)]
      refine ⟨_, rfl, _, rfl, for_it walk_enumS (fun i σ' H1 => Same H' H1 ∧ ∃ n y3 y4 y5, σ' = [some (.str x), some (.int (b : Int)), some (.int n), y3, y4, y5] ∧ scan b (x.cps.toList.drop i) i n = scan b x.cps.toList 0 0) ⟨Same.refl _, _, _, _, _, rfl, rfl⟩ (fun _ _ _ _ _ => trivial) ?_ ?_⟩
      · rintro i y σ' H1 H2 hi ⟨s1, n, y3, y4, y5, rfl, inv⟩ ⟨t, c, rfl, ht, hc, rfl⟩
        have hc' : x.cps.toList[i]? = some c := by rw [Array.getElem?_toList]; exact hc
        refine ⟨t, _, rfl, .of upd_same, rfl, _, _, rfl, _, _, rfl, rfl, ?_⟩
        refine ⟨⟨_, rfl⟩, _, rfl, FIG, _, rfl, rfl, ?_⟩
        refine ⟨_, rfl, _, _, rfl, rfl, _, rfl, ?_⟩
        by_cases g : 0 ≤ fi c ∧ fi c < b
        · refine ite2 (fun _ => ?_) (fun e => absurd (decide_eq_true g.1) e)
          refine ⟨_, rfl, _, _, rfl, rfl, _, rfl, ?_⟩
          refine ite2 (fun e => ?_) (fun _ => ?_)
          · exfalso
            have e' : (!decide (fi c < (b : Int))) = true := e
            rw [decide_eq_true g.2] at e'
            cases e'
          · refine ⟨_, rfl, _, rfl, _, _, rfl, rfl, .inr (by omega), _, rfl, _, _, rfl, rfl, s1.trans (Same.new ht), _, some (.int (i : Nat)), some (.str (one c)), some (.int (fi c)), rfl, ?_⟩
            rw [← inv, scan_good hc' g]
            rfl
        · have bad := (scan_bad (i := i) (n := n) hc' g).symm.trans inv
          have s2 : Same H' (upd H1 t (.tup [.int (i : Nat), .str ⟨#[c]⟩])) := s1.trans (Same.new ht)
          refine ite2 (fun e1 => ?_) (fun e1 => ?_)
          · refine ⟨_, rfl, _, _, rfl, rfl, _, rfl, ite2 (fun _ => ?_) (fun e => ?_)⟩
            · exact ⟨_, rfl, (by show 2 ≤ sizeLine; decide), fun p hp => qe i p _ (due.trans bad.symm) (s2.trans (Same.new hp)) upd_same⟩
            · exfalso
              have g1 : 0 ≤ fi c := of_decide_eq_true e1
              have e' : ¬ (!decide (fi c < (b : Int))) = true := e
              rw [decide_eq_false (fun z => g ⟨g1, z⟩)] at e'
              exact e' rfl
          · refine ⟨_, rfl, ite2 (fun _ => ?_) (fun e => absurd rfl e)⟩
            exact ⟨_, rfl, (by show 2 ≤ sizeLine; decide), fun p hp => qe i p _ (due.trans bad.symm) (s2.trans (Same.new hp)) upd_same⟩
      · rintro σ' H1 ⟨s1, n, y3, y4, y5, rfl, inv⟩
        rw [scan_end (by rw [Array.length_toList]; exact Nat.le_refl _)] at inv
        exact ⟨_, rfl, q _ _ (due.trans inv.symm) s1⟩

/-! ### _law_right -/
def sp__law_right (K : PySem.W.Frag) : Sp := fun vs H Q _ => ∃ (x : Str) (b : Nat), vs = [.str x, .int (b : Int)] ∧ 2 ≤ b ∧ b ≤ 16 ∧ x.length ≤ 90000 ∧ ∀ H', Same H H' → Q (.bl true) H'
theorem ok__law_right (T : Txt K mg) : FnOk P w K mg base CX0 4 T.f__law_right T.fd__law_right ["text", "base"] (sp__law_right K) := by
  refine T.F__law_right.ok sc__law_right (fun vs H Q E h => ?_) (fun cdv A outer s H vs Q E hr h => ?_)
  · obtain ⟨_, _, rfl, _⟩ := h
    rfl
  · obtain ⟨x, b, rfl, hb, hb16, hl, q⟩ := h
    refine ⟨_, (C8.pss_cut (ps_set (i := 2) sc__law_right.nd rfl (Or.inl rfl) (pe_call (ok__law_due T) (hr.mono (by decide)) (by rfl) T.g__law_due T.F__law_due.kp T.b__law_due .nil pass0 (pa_cons (pv 0) (pa_cons (pv 1) pa_nil))))
      (pss_cons (ps_if (PW.pt (pw_and (pt_val (pe_callB (id := "isinstance") call_isi (by rfl) T.m_isinstance (by decide +kernel) (pa_cons (pv 2) (pa_cons (pe_bltn (v := .ty "int") (by rfl) T.m_int (by decide +kernel) rfl) pa_nil)))) (pw_and1 (pt_cmpR op_ge (pv 2) (pe_op op_pow pe_int pe_int) (nomark _))))) (pss_one (ps_ret pe_bl)) pss_nil)
      (pss_cons (ps_for PassesOwn.never rfl (pi_range1 (by rfl) T.m_range (pa_cons pe_int pa_nil)) (pg_name (i := 3) sc__law_right.nd rfl (Or.inl rfl)) (pss_cons (ps_set (i := 4) sc__law_right.nd rfl (Or.inl rfl) pe_non)
      (pss_cons (ps_set (i := 5) sc__law_right.nd rfl (Or.inl rfl) pe_non)
      (pss_cons (ps_try_kept (i := 6) (tb := fun W => (tAsg (tCallS (sp_read_number T) (WE W) (tCons (tVar 0) (tCons (tVar 1) tNil))) (gName 4))) (ts := fun _ _ _ => (tAsg (tVar 6) (gName 5))) (Wout := fun _ _ _ _ => False) rfl rfl rfl sc__law_right.nd rfl rfl ⟨by rfl, by decide, .inl T.gk_FigureError⟩ takes0
      (fun W pn xe tk _ => (pss_one (ps_set (i := 4) sc__law_right.nd rfl (Or.inl rfl) (pe_callS (ok_read_number T) hr (by rfl) T.g_read_number T.F_read_number.kp T.b_read_number (fun σ => passAt tk σ) (pa_cons (pv 0) (pa_cons (pv 1) pa_nil))))))
      (fun a oe cls d pn hz hf => (pss_one (ps_set (i := 5) sc__law_right.nd rfl (Or.inl rfl) (pv 6)))))
      (pss_cons (ps_if (PW.pt (pw_and (pt_val (pe_callB (id := "isinstance") call_isi (by rfl) T.m_isinstance (by decide +kernel) (pa_cons (pv 2) (pa_cons (pe_bltn (v := .ty "tuple") (by rfl) T.m_tuple (by decide +kernel) rfl) pa_nil)))) (pw_and1 (pt_cmpR (op_neD hr.units) (pe_call (ok__law_kind T) (hr.mono (by decide)) (by rfl) T.g__law_kind T.F__law_kind.kp T.b__law_kind .nil pass0 (pa_cons (pv 5) pa_nil)) (pv 2) (nomark _))))) (pss_one (ps_ret pe_bl)) pss_nil)
      (pss_one (ps_if (PW.pt (pw_and (pt_val (pe_callB (id := "isinstance") call_isi (by rfl) T.m_isinstance (by decide +kernel) (pa_cons (pv 2) (pa_cons (pe_bltn (v := .ty "int") (by rfl) T.m_int (by decide +kernel) rfl) pa_nil)))) (pw_and1 (pt_not (pt_val (pe_call (ok__law_is_whole T) (hr.mono (by decide)) (by rfl) T.g__law_is_whole T.F__law_is_whole.kp T.b__law_is_whole .nil pass0 (pa_cons (pv 4) (pa_cons (pv 2) pa_nil)))))))) (pss_one (ps_ret pe_bl)) pss_nil)))))))
      (pss_one (ps_ret pe_bl))))), ?_⟩
    refine ⟨fun σ' H' => Same H H' ∧ ∃ dv, σ' = [some (.str x), some (.int (b : Int)), some dv, none, none, none, none] ∧
      ((∃ n, dueOf b x = .inl n ∧ dv = .int n) ∨ ∃ p t, dueOf b x = .inr p ∧ dv = .ref t ∧ H' t = some (.tup [.str "number", .int (p : Nat)])), ?_, ?_⟩
    · refine ⟨_, rfl, _, rfl, x, b, rfl, hb, hb16, hl, fun n H1 e s1 => ?_, fun p t H1 e s1 ht => ?_⟩
      · exact ⟨s1, _, rfl, .inl ⟨n, e, rfl⟩⟩
      · exact ⟨s1, _, rfl, .inr ⟨p, t, e, rfl, ht⟩⟩
    · rintro σ' H' ⟨s1, dv, rfl, due⟩
      rcases due with ⟨n, e, rfl⟩ | ⟨p, t, e, rfl, ht⟩
      · refine ⟨_, rfl, _, _, _, _, true, rfl, .ty "int", .base (.int _), kit_ty (by decide +kernel), true, rfl, iteT ?_⟩
        have e40 : (16 : Int) ^ Int.toNat 40 = 16 ^ 40 := rfl
        refine ⟨_, rfl, 16, 40, rfl, rfl, ⟨by decide, by decide, by decide⟩, _, _, rfl, rfl, _, rfl, ite2 (fun _ => q _ s1) (fun _ => ?_)⟩
        refine ⟨2, rfl, by decide, by decide, for_range (lo := 0) (n := 2) (fun i σ' H1 => Same H H1 ∧ ∃ y3 y4 y5 y6, σ' = [some (.str x), some (.int (b : Int)), some (.int n), y3, y4, y5, y6]) ⟨s1, _, _, _, _, rfl⟩ ?_ ?_⟩
        · rintro i σ' H1 hi ⟨s2, y3, y4, y5, y6, rfl⟩
          refine ⟨_, rfl, _, rfl, x, b, rfl, hb, hb16, hl, fun n' H2 e' s3 => ?_, fun p' d H2 e' s3 kf => ?_⟩
          · have en : n = n' := Sum.inl.inj (e.symm.trans e')
            subst en
            refine ⟨_, rfl, _, _, _, _, false, rfl, .ty "tuple", .base (.int _), kit_ty (by decide +kernel), false, rfl, iteF ?_⟩
            refine ⟨_, rfl, _, _, _, _, true, rfl, .ty "int", .base (.int _), kit_ty (by decide +kernel), true, rfl, iteT ?_⟩
            refine ⟨_, rfl, _, rfl, n, n, rfl, _, rfl, ?_⟩
            rw [decide_eq_true (rfl : V.int n = V.int n)]
            exact ⟨s2.trans s3, _, _, _, _, rfl⟩
          · cases e.symm.trans e'
        · rintro σ' H1 ⟨s2, y3, y4, y5, y6, rfl⟩
          exact q _ s2
      · refine ⟨_, rfl, _, _, _, _, false, rfl, .ty "int", .base (.tup ht), kit_ty (by decide +kernel), false, rfl, iteF ?_⟩
        refine ⟨2, rfl, by decide, by decide, for_range (lo := 0) (n := 2) (fun i σ' H1 => Same H' H1 ∧ ∃ y3 y4 y5 y6, σ' = [some (.str x), some (.int (b : Int)), some (.ref t), y3, y4, y5, y6]) ⟨Same.refl _, _, _, _, _, rfl⟩ ?_ ?_⟩
        · rintro i σ' H1 hi ⟨s2, y3, y4, y5, y6, rfl⟩
          refine ⟨_, rfl, _, rfl, x, b, rfl, hb, hb16, hl, fun n' H2 e' s3 => ?_, fun p' d H2 e' s3 kf => ?_⟩
          · cases e.symm.trans e'
          · have ep : p = p' := Sum.inr.inj (e.symm.trans e')
            subst ep
            refine ⟨true, exm_own T.x_FigureError T.s_NoNumber_FigureError, fun _ a ha => ?_, fun z => nomatch z⟩
            refine ⟨_, rfl, fun hn => ?_⟩
            generalize g3 : upd H2 a _ = H3
            obtain ⟨s4, t4⟩ := new_of g3 hn
            have ht3 : H3 t = _ := s4 _ _ (s3 _ _ (s2 _ _ ht))
            refine ⟨_, rfl, _, _, _, _, true, rfl, .ty "tuple", .base (.tup ht3), kit_ty (by decide +kernel), true, rfl, iteT ?_⟩
            refine ⟨_, rfl, a, d, p, rfl, kx_held t4, kf.same (s4 d), fun r H4 s5 hr4 => ?_⟩
            have sh : SeqAt.shaped (.tuple [.str "number", .int (p : Nat)]) = true := shaped_tup (by simp only [PyData.canLayAll0, PyData.canLay0, Bool.and_true]; decide +kernel) (by simp [PyData.depthAll, PyData.depth])
            refine ⟨_, rfl, _, _, .tup (.of hr4) (.cons (.str _) (.cons (.int _) .nil)), .tup (.of (s5 _ _ ht3)) (.cons (.str _) (.cons (.int _) .nil)), sh, sh, _, rfl, ?_⟩
            rw [eqv_same sh]
            refine iteF ?_
            refine ⟨_, rfl, _, _, _, _, false, rfl, .ty "int", .base (.tup (s5 _ _ ht3)), kit_ty (by decide +kernel), false, rfl, iteF ?_⟩
            exact ⟨s2.trans (s3.trans (s4.trans s5)), _, _, _, _, rfl⟩
        · rintro σ' H1 ⟨s2, y3, y4, y5, y6, rfl⟩
          exact q _ (s1.trans s2)

/-! ### law -/
def sp_law (K : PySem.W.Frag) : Sp := fun vs H Q _ => ∃ (a : Addr) (ns : List Int), vs = [.ref a] ∧ SqL K H a (ns.map V.int) ∧ ns.length ≤ 63 ∧ ∀ H', Q (.bl true) H'
theorem law_start {K : PySem.W.Frag} {H : Hp} {a : Addr} {ns : List Int} {E : XK} (hl : ns.length ≤ 63) (hS : SqL K H a (ns.map V.int)) : sp_law K [.ref a] H (fun v _ => v = .bl true) E := ⟨a, ns, rfl, hS, hl, fun _ => rfl⟩
theorem ok_law (T : Txt K mg) : FnOk P w K mg base CX0 5 T.f_law T.fd_law ["script"] (sp_law K) := by
  refine T.F_law.ok sc_law (fun vs H Q E h => ?_) (fun cdv A outer s H vs Q E hr h => ?_)
  · obtain ⟨_, _, rfl, _⟩ := h
    rfl
  · obtain ⟨a, ns, rfl, hS, hl, q⟩ := h
    refine ⟨_, (C8.pss_cut (ps_set (i := 1) sc_law.nd rfl (Or.inr rfl) (pe_call (ok__law_deck T) (hr.mono (by decide)) (by rfl) T.g__law_deck T.F__law_deck.kp T.b__law_deck .nil pass0 (pa_cons (pv 0) pa_nil)))
      (C8.pss_cut (ps_for PassesOwn.never rfl (pi_range1 (by rfl) T.m_range (pa_cons pe_int pa_nil)) (pg_name (i := 2) sc_law.nd rfl (Or.inl rfl)) (pss_cons (ps_set (i := 3) sc_law.nd rfl (Or.inr rfl) (pe_op op_add pe_int (pe_call (ok__law_next T) (hr.mono (by decide)) (by rfl) T.g__law_next T.F__law_next.kp T.b__law_next .nil pass0 (pa_cons (pv 1) (pa_cons pe_int pa_nil)))))
      (pss_cons (ps_set (i := 4) sc_law.nd rfl (Or.inr rfl) (pe_call (ok__law_text T) (hr.mono (by decide)) (by rfl) T.g__law_text T.F__law_text.kp T.b__law_text .nil pass0 (pa_cons (pe_call (ok__law_number T) (hr.mono (by decide)) (by rfl) T.g__law_number T.F__law_number.kp T.b__law_number .nil pass0 (pa_cons (pv 1) (pa_cons (pv 3) pa_nil))) (pa_cons (pv 3) pa_nil))))
      (pss_cons (ps_setLc (i := 5) (own := [("k", 6)]) (g := (gName 6)) (tt := tYes) rfl sc_law.nd rfl rfl (sw_true rfl rfl rfl (by decide +kernel)) (pi_range1 (by rfl) T.m_range (pa_cons pe_int pa_nil)) (blkOk_by (own := [("k", 6)]) (N := ["script", "deck", "turn", "base", "text", "some", "k", "far", "long", "odd", "fixed"]) (sc := defScope s_law) (by decide +kernel)) (fun _ _ _ _ _ => (pg_name (i := 6) sc_law.nd rfl (Or.inl rfl))) (fun _ _ _ _ _ => pts_nil) (fun _ _ _ _ _ => (pe_call (ok__law_spoilt T) hr (by rfl) T.g__law_spoilt T.F__law_spoilt.kp T.b__law_spoilt .nil pass0 (pa_cons (pv 1) (pa_cons (pv 4) (pa_cons (pv 3) pa_nil))))))
      (pss_cons (ps_set (i := 5) sc_law.nd rfl (Or.inl rfl) (pe_op op_cat (pv 5) (pe_lst (pa_cons (pe_op op_add_str pe_str (pv 4)) (pa_cons (pe_op op_add_str pe_str (pv 4)) (pa_cons (pe_op op_add_str (pv 4) pe_str) (pa_cons (pe_op op_add_str (pv 4) pe_str) (pa_cons (pe_op op_add_str pe_str (pv 4)) (pa_cons (pe_op op_add_str pe_str (pv 4)) (pa_cons (pv 4) pa_nil))))))))))
      (pss_cons (ps_set (i := 7) sc_law.nd rfl (Or.inl rfl) (pe_call (ok__law_next T) (hr.mono (by decide)) (by rfl) T.g__law_next T.F__law_next.kp T.b__law_next .nil pass0 (pa_cons (pv 1) (pa_cons pe_int pa_nil))))
      (pss_cons (ps_set (i := 8) sc_law.nd rfl (Or.inl rfl) (pe_op op_add_str (pe_op op_add_str (pe_slice sl_str (pe_op op_mulS (pv 4) pe_int) po_none (po_some (pv 7))) (pe_call (ok__law_sign T) (hr.mono (by decide)) (by rfl) T.g__law_sign T.F__law_sign.kp T.b__law_sign .nil pass0 (pa_cons (pv 1) (pa_cons (pv 3) pa_nil)))) (pe_slice sl_str (pe_op op_mulS (pv 4) pe_int) po_none (po_some (pe_call (ok__law_next T) (hr.mono (by decide)) (by rfl) T.g__law_next T.F__law_next.kp T.b__law_next .nil pass0 (pa_cons (pv 1) (pa_cons (pe_op op_sub pe_int (pv 7)) pa_nil)))))))
      (pss_one (ps_for PassesOwn.never rfl (pi_list (pe_op op_cat (pv 5) (pe_lst (pa_cons (pe_call (ok__law_sign T) (hr.mono (by decide)) (by rfl) T.g__law_sign T.F__law_sign.kp T.b__law_sign .nil pass0 (pa_cons (pv 1) (pa_cons (pv 3) pa_nil))) (pa_cons (pe_op op_add_str (pv 4) (pe_call (ok__law_sign T) (hr.mono (by decide)) (by rfl) T.g__law_sign T.F__law_sign.kp T.b__law_sign .nil pass0 (pa_cons (pv 1) (pa_cons (pv 3) pa_nil)))) (pa_cons (pe_op op_add_str pe_str (pe_call (ok__law_sign T) (hr.mono (by decide)) (by rfl) T.g__law_sign T.F__law_sign.kp T.b__law_sign .nil pass0 (pa_cons (pv 1) (pa_cons (pv 3) pa_nil)))) (pa_cons (pv 8) pa_nil))))))) (pg_name (i := 9) sc_law.nd rfl (Or.inl rfl)) (pss_one (ps_if (PW.pt (pw_or (pt_not (pt_val (pe_call (ok__law_right T) hr (by rfl) T.g__law_right T.F__law_right.kp T.b__law_right .nil pass0 (pa_cons (pv 9) (pa_cons (pv 3) pa_nil))))) (pw_or1 (pt_not (pt_val (pe_call (ok__law_right T) hr (by rfl) T.g__law_right T.F__law_right.kp T.b__law_right .nil pass0 (pa_cons (pv 9) (pa_cons (pe_op op_add pe_int (pe_call (ok__law_next T) (hr.mono (by decide)) (by rfl) T.g__law_next T.F__law_next.kp T.b__law_next .nil pass0 (pa_cons (pv 1) (pa_cons pe_int pa_nil)))) pa_nil)))))))) (pss_one (ps_ret pe_bl)) pss_nil)))))))))))
      (pss_cons (ps_if (PW.pt (pw_or (pt_cmpR op_ne (pe_xk (pe_oex (T.I_NoNumber.oex T.x_NoNumber) T.J_NoNumber.init T.J_NoNumber.fn (ok_init_NoNumber T) (hr.mono (by decide)) T.jb_NoNumber .nil pass0 (by rfl) T.gk_NoNumber (pa_cons pe_int pa_nil))) pe_int (nomark _)) (pw_or1 (pt_cmpR (op_neD hr.units) (pe_call (ok__law_kind T) (hr.mono (by decide)) (by rfl) T.g__law_kind T.F__law_kind.kp T.b__law_kind .nil pass0 (pa_cons (pe_oex (T.I_NoNumber.oex T.x_NoNumber) T.J_NoNumber.init T.J_NoNumber.fn (ok_init_NoNumber T) (hr.mono (by decide)) T.jb_NoNumber .nil pass0 (by rfl) T.gk_NoNumber (pa_cons pe_int pa_nil)) pa_nil)) (pe_tup (pa_cons pe_str (pa_cons pe_int pa_nil))) (nomark _))))) (pss_one (ps_ret pe_bl)) pss_nil)
      (pss_cons (ps_set (i := 10) sc_law.nd rfl (Or.inl rfl) (pe_lst (pa_cons pe_str (pa_cons pe_str (pa_cons pe_str (pa_cons pe_str (pa_cons pe_str (pa_cons pe_str (pa_cons pe_str (pa_cons pe_str (pa_cons pe_str (pa_cons (pe_op op_mulS pe_str pe_int) pa_nil))))))))))))
      (pss_one (ps_ret (pe_cmpR (op_eqD hr.units) (pe_lc (own := [("text", 4)]) (g := (gName 4)) rfl sc_law.nd (pi_list (pv 10)) (blkOk_by (own := [("text", 4)]) (N := ["script", "deck", "turn", "base", "text", "some", "k", "far", "long", "odd", "fixed"]) (sc := defScope s_law) (by decide +kernel)) (fun _ _ _ _ _ => (pg_name (i := 4) sc_law.nd rfl (Or.inl rfl))) (fun _ _ _ _ _ => pts_one (pt_not (pt_val (pe_call (ok__law_right T) hr (by rfl) T.g__law_right T.F__law_right.kp T.b__law_right .nil pass0 (pa_cons (pv 4) (pa_cons pe_int pa_nil)))))) (fun _ _ _ _ _ => (pv 4))) (pe_lst pa_nil) (nomark _)))))))), ?_⟩
    refine ⟨fun σ' H' => ∃ d c, Deck H' d c 0 ∧ σ' = [some (.ref a), some (.ref d), none, none, none, none, none, none, none, none, none], ⟨_, rfl, a, ns, rfl, hS, fun H1 d c _ _ _ D1 => ⟨d, c, D1, rfl⟩⟩, ?_⟩
    rintro σ' H' ⟨d, c, D1, rfl⟩
    refine ⟨fun σ' H' => ∃ y2 y3 y4 y5 y6 y7 y8 y9, σ' = [some (.ref a), some (.ref d), y2, y3, y4, y5, y6, y7, y8, y9, none], ?_, ?_⟩
    · refine ⟨6, rfl, by decide, by decide, for_range (lo := 0) (n := 6) (fun i σ' H' => Deck H' d c (200 * i) ∧ ∃ y2 y3 y4 y5 y6 y7 y8 y9, σ' = [some (.ref a), some (.ref d), y2, y3, y4, y5, y6, y7, y8, y9, none]) ⟨D1, _, _, _, _, _, _, _, _, rfl⟩ ?_ ?_⟩
      · rintro i σ' H1 hi ⟨D1, y2, y3, y4, y5, y6, y7, y8, y9, rfl⟩
        refine ⟨_, rfl, d, 15, c, 200 * i, rfl, D1, by omega, by decide, by decide, fun H2 r2 b2 D2 u2 v2 => ⟨_, _, rfl, rfl, ?_⟩⟩
        obtain ⟨b, eb, hb, hb16⟩ : ∃ b : Nat, 2 + r2 = (b : Int) ∧ 2 ≤ b ∧ b ≤ 16 := ⟨(2 + r2).toNat, by omega, by omega, by omega⟩
        show gName 3 (V.int (2 + r2)) _ _ _
        rw [eb]
        refine ⟨_, rfl, _, rfl, d, (b : Int), c, _, rfl, D2, by omega, by omega, by omega, fun H3 r3 b3 D3 u3 v3 => ?_⟩
        obtain ⟨m, rfl⟩ := Int.eq_ofNat_of_zero_le u3
        have hm : m < 2 ^ 900 := lt900 (by omega)
        refine ⟨_, rfl, m, b, rfl, hb, hb16, hm, fun H4 s4 => ?_⟩
        have hx : (txt (figs b m)).length ≤ 900 := by
          rw [txt_len]
          exact figs_le hb hm
        generalize txt (figs b m) = x at hx ⊢
        have D4 := D3.same s4
        -- some
        refine ⟨4, rfl, by decide, by decide, fun S hS => ?_⟩
        have oS := D4.out hS
        refine lc_range (lo := 0) (n := 4) (fun k G => Deck G d c (200 * i + 18 + 19 * k) ∧ ∃ acc : List Str, G S = some (.lst (acc.map V.str)) ∧ acc.length = k ∧ ∀ t ∈ acc, t.length ≤ 9000)
          ⟨(D4.new hS).mono (by omega), [], upd_same, rfl, fun _ z => nomatch z⟩ ?_ ?_
        · rintro k G hk ⟨DG, acc, eS, lacc, qacc⟩
          refine ⟨rfl, _, rfl, _, rfl, _, rfl, d, c, _, b, x, rfl, DG, by omega, hb, hb16, by omega, fun y G2 hy bG DG2 => ?_⟩
          refine ⟨_, bG _ _ oS.1 eS, by rw [List.length_map, sizeLine_eq]; omega, (DG2.off oS.1 oS.2).mono (by omega), acc ++ [y], by rw [upd_same, List.map_append]; rfl, by rw [List.length_append, lacc]; rfl, fun t ht => ?_⟩
          rcases List.mem_append.mp ht with h | h
          · exact qacc t h
          · cases List.mem_singleton.mp h
            exact hy
        · rintro G ⟨DG, acc, eS, lacc, qacc⟩
          have fits : ∀ k : Nat, k ≤ 100000 → k ≤ sizeLine := fun k hk => by rw [sizeLine_eq]; omega
          have lc : ("0" : Str).length = 1 ∧ (" " : Str).length = 1 ∧ ("\n" : Str).length = 1 ∧ ("-" : Str).length = 1 ∧ ("+" : Str).length = 1 := by decide +kernel
          obtain ⟨z1, z2, z3, z4, z5⟩ := lc
          refine ⟨_, rfl, ?_⟩
          refine ⟨_, rfl, _, _, rfl, rfl, fits _ (by omega), ?_⟩
          refine ⟨_, rfl, _, _, rfl, rfl, fits _ (by omega), ?_⟩
          refine ⟨_, rfl, _, _, rfl, rfl, fits _ (by omega), ?_⟩
          refine ⟨_, rfl, _, _, rfl, rfl, fits _ (by omega), ?_⟩
          refine ⟨_, rfl, _, _, rfl, rfl, fits _ (by omega), ?_⟩
          refine ⟨_, rfl, _, _, rfl, rfl, fits _ (by omega), ?_⟩
          refine ⟨_, rfl, by show 7 ≤ sizeLine; decide, fun l5 hl5 => ?_⟩
          generalize g5 : upd _ l5 _ = G5
          obtain ⟨s5, e5⟩ := new_of g5 hl5
          obtain ⟨us, e5', lus, nus⟩ : ∃ us : List Str, G5 l5 = some (.lst (us.map V.str)) ∧ (∀ t ∈ us, t.length ≤ 9000) ∧ us.length = 7 :=
            ⟨[_, _, _, _, _, _, _], e5, fun t ht => by
              simp only [List.mem_cons, List.not_mem_nil, or_false] at ht
              rcases ht with rfl | rfl | rfl | rfl | rfl | rfl | rfl
              all_goals first | (rw [Str.length_append]; omega) | omega, rfl⟩
          have eS5 := s5 _ _ eS
          refine ⟨S, l5, _, _, rfl, rfl, eS5, e5', fits _ (by rw [List.length_map, List.length_map]; omega), fun p6 hp6 => ?_⟩
          generalize g6 : upd _ p6 _ = G6
          obtain ⟨s6, e6⟩ := new_of g6 hp6
          rw [← List.map_append] at e6
          have D6 := (DG.same s5).same s6
          have np6 : p6 ≠ d := ((DG.same s5).out hp6).1
          -- far
          refine ⟨_, rfl, d, 199, c, _, rfl, D6, by omega, by decide, by decide, fun G7 r7 b7 D7 u7 v7 => ?_⟩
          obtain ⟨far, rfl⟩ := Int.eq_ofNat_of_zero_le u7
          have e7 := b7 _ _ np6 e6
          -- long
          have rl : ∀ R : Str, R.length ≤ x.length * 200 → R.length ≤ sizeLine := fun R hR => by rw [sizeLine_eq]; omega
          refine ⟨_, rfl, x, 200, rfl, rfl, by decide, by decide, by omega, fun R1 hR1 => ?_⟩
          refine ⟨_, rfl, _, rfl, R1, rfl, rl _ hR1, ?_⟩
          refine ⟨_, rfl, _, rfl, d, c, _, b, rfl, D7, by omega, hb, hb16, fun x8 G8 h8 b8 D8 => ?_⟩
          have k1 := cut_short R1 far
          refine ⟨_, _, rfl, rfl, fits _ (by omega), ?_⟩
          refine ⟨_, rfl, x, 200, rfl, rfl, by decide, by decide, by omega, fun R2 hR2 => ?_⟩
          refine ⟨_, rfl, _, rfl, _, _, rfl, rfl, d, 200 - (far : Int), c, _, rfl, D8, by omega, by omega, by omega, fun G9 r9 b9 D9 u9 v9 => ?_⟩
          obtain ⟨near, rfl⟩ := Int.eq_ofNat_of_zero_le u9
          refine ⟨_, rfl, R2, rfl, rl _ hR2, ?_⟩
          have k2 := cut_short R2 near
          refine ⟨_, _, rfl, rfl, fits _ (by rw [Str.length_append]; omega), ?_⟩
          have k3 : (cutS R1 none (some (far : Int)) ++ x8 ++ cutS R2 none (some (near : Int))).length ≤ 1000 := by
            rw [Str.length_append, Str.length_append]
            omega
          generalize cutS R1 none (some (far : Int)) ++ x8 ++ cutS R2 none (some (near : Int)) = long at k3 ⊢
          have e9 := b9 _ _ np6 (b8 _ _ np6 e7)
          refine ⟨_, rfl, ?_⟩
          refine ⟨_, rfl, _, rfl, d, c, _, b, rfl, D9, by omega, hb, hb16, fun xa Ga la ba Da => ?_⟩
          refine ⟨_, rfl, _, rfl, _, rfl, d, c, _, b, rfl, Da, by omega, hb, hb16, fun xb Gb lb bb Db => ?_⟩
          refine ⟨_, _, rfl, rfl, fits _ (by omega), ?_⟩
          refine ⟨_, rfl, _, rfl, d, c, _, b, rfl, Db, by omega, hb, hb16, fun xc Gc lc bc Dc => ?_⟩
          refine ⟨_, _, rfl, rfl, fits _ (by omega), ?_⟩
          refine ⟨_, rfl, by show 4 ≤ sizeLine; decide, fun ld hld => ?_⟩
          generalize gd : upd _ ld _ = Gd
          obtain ⟨sd, ed⟩ := new_of gd hld
          obtain ⟨vs, ed', lvs, nvs⟩ : ∃ vs : List Str, Gd ld = some (.lst (vs.map V.str)) ∧ (∀ t ∈ vs, t.length ≤ 9000) ∧ vs.length = 4 :=
            ⟨[_, _, _, _], ed, fun t ht => by
              simp only [List.mem_cons, List.not_mem_nil, or_false] at ht
              rcases ht with rfl | rfl | rfl | rfl
              all_goals first | (rw [Str.length_append]; omega) | omega, rfl⟩
          have e6d := sd _ _ (bc _ _ np6 (bb _ _ np6 (ba _ _ np6 e9)))
          refine ⟨p6, ld, _, _, rfl, rfl, e6d, ed', fits _ (by rw [List.length_map, List.length_map, List.length_append]; omega), fun pe hpe => ?_⟩
          generalize ge : upd _ pe _ = Ge
          obtain ⟨se, ee⟩ := new_of ge hpe
          rw [← List.map_append] at ee
          have De := (Dc.same sd).same se
          have npe : pe ≠ d := ((Dc.same sd).out hpe).1
          obtain ⟨ws, ews, lws, nws⟩ : ∃ ws : List Str, Ge pe = some (.lst (ws.map V.str)) ∧ (∀ t ∈ ws, t.length ≤ 9000) ∧ ws.length = 15 := by
            refine ⟨_, ee, fun t ht => ?_, by rw [List.length_append, List.length_append]; omega⟩
            rcases List.mem_append.mp ht with h | h
            · rcases List.mem_append.mp h with h | h
              · exact qacc t h
              · exact lus t h
            · exact lvs t h
          have lw : (ws.map V.str).length = 15 := by rw [List.length_map]; exact nws
          refine ⟨pe, rfl, ⟨_, .of ews⟩, for_list (xs := ws.map V.str) (fun j σ' G' => j ≤ 15 ∧ Deck G' d c (200 * i + 108 + j) ∧ G' pe = some (.lst (ws.map V.str)) ∧ ∃ y2 y5 y6 y7 y8 y9, σ' = [some (.ref a), some (.ref d), y2, some (.int (b : Int)), some (.str x), y5, y6, y7, y8, y9, none])
            ⟨Nat.zero_le _, De.mono (by omega), ews, _, _, _, _, _, _, rfl⟩ ?_ ?_ ?_⟩
          · rintro j σ' G' _ ⟨_, _, z, _⟩
            exact .of z
          · rintro j v σ' G' hv ⟨hj, DG', eG', y2, y5, y6, y7, y8, y9, rfl⟩
            obtain ⟨t, ht, rfl⟩ : ∃ t, ws[j]? = some t ∧ v = .str t := by
              rw [List.getElem?_map] at hv
              cases h : ws[j]? with
              | none =>
                rw [h] at hv
                cases hv
              | some t =>
                rw [h] at hv
                exact ⟨t, rfl, (Option.some.inj hv).symm⟩
            have jl := (List.getElem?_eq_some_iff.mp ht).1
            have lt := lws t (List.mem_of_getElem? ht)
            refine ⟨_, rfl, _, rfl, t, b, rfl, hb, hb16, by omega, fun Gf sf => ⟨true, rfl, ?_⟩⟩
            refine iteF ?_
            refine ⟨_, rfl, _, rfl, d, 15, c, _, rfl, DG'.same sf, by omega, by decide, by decide, fun Gg rg bg Dg ug vg => ⟨_, _, rfl, rfl, ?_⟩⟩
            obtain ⟨b', eb', hb', hb16'⟩ : ∃ b' : Nat, 2 + rg = (b' : Int) ∧ 2 ≤ b' ∧ b' ≤ 16 := ⟨(2 + rg).toNat, by omega, by omega, by omega⟩
            refine ⟨t, b', by rw [← eb']; rfl, hb', hb16', by omega, fun Gh sh => ⟨true, rfl, ?_⟩⟩
            refine iteF ?_
            exact ⟨by omega, (Dg.same sh).mono (by omega), sh _ _ (bg _ _ npe (sf _ _ eG')), _, _, _, _, _, _, rfl⟩
          · rintro σ' G' ⟨_, DG', _, y2, y5, y6, y7, y8, y9, rfl⟩
            rw [lw] at DG'
            exact ⟨DG'.mono (by omega), _, _, _, _, _, _, _, _, rfl⟩
      · rintro σ' H1 ⟨_, y⟩
        exact y
    · rintro σ' H1 ⟨y2, y3, y4, y5, y6, y7, y8, y9, rfl⟩
      refine ⟨by show 1 ≤ 1000; decide, made_val1 (i := 7) (by decide +kernel) fun e1 d1 H2 s2 kx kf => ?_⟩
      refine ⟨e1, T.k_NoNumber, d1, .int 7, rfl, kx, T.I_NoNumber.fld T.x_NoNumber, T.jn_NoNumber_place, kf, rfl, _, rfl, ite2 (fun e => absurd e (by decide)) (fun _ => ?_)⟩
      refine ⟨by show 1 ≤ 1000; decide, made_val1 (i := 7) (by decide +kernel) fun e3 d3 H3 s3 kx3 kf3 => ?_⟩
      refine ⟨e3, d3, 7, rfl, kx3, kf3, fun r H4 s4 hr4 => ?_⟩
      refine ⟨by show 2 ≤ sizeLine; decide, fun t5 ht5 => ?_⟩
      generalize g5 : upd _ t5 _ = H5
      obtain ⟨s5, e5⟩ := new_of g5 ht5
      have sh : SeqAt.shaped (.tuple [.str "number", .int 7]) = true := shaped_tup (by simp only [PyData.canLayAll0, PyData.canLay0, Bool.and_true]; decide +kernel) (by simp [PyData.depthAll, PyData.depth])
      refine ⟨.tuple [.str "number", .int 7], .tuple [.str "number", .int 7], .tup (.of (s5 _ _ hr4)) (.cons (.str _) (.cons (.int _) .nil)), .tup (.of e5) (.cons (.str _) (.cons (.int _) .nil)), sh, sh, _, rfl, ?_⟩
      rw [show PyData.eqv (.tuple [.str "number", .int 7]) (.tuple [.str "number", .int 7]) = true from eqv_same sh]
      refine iteF ?_
      refine ⟨"~", 200, rfl, rfl, by decide, by decide, by decide +kernel, fun R hR => ?_⟩
      refine ⟨by show 10 ≤ sizeLine; decide, fun l6 hl6 => ?_⟩
      generalize g6 : upd _ l6 _ = H6
      obtain ⟨s6, e6⟩ := new_of g6 hl6
      obtain ⟨ts, e6', lts⟩ : ∃ ts : List Str, H6 l6 = some (.lst (ts.map V.str)) ∧ ∀ t ∈ ts, t.length ≤ 1000 :=
        ⟨["", "0", "00", "1_0", "0x1", "1.0", "F", "f", "g", R], e6, fun t ht => by
          have all : ∀ t ∈ (["", "0", "00", "1_0", "0x1", "1.0", "F", "f", "g"] : List Str), t.length ≤ 1000 := by decide +kernel
          rcases List.mem_append.mp (show t ∈ (["", "0", "00", "1_0", "0x1", "1.0", "F", "f", "g"] : List Str) ++ [R] from ht) with h | h
          · exact all t h
          · cases List.mem_singleton.mp h
            have one : ("~" : Str).length = 1 := by decide +kernel
            rw [one] at hR
            omega⟩
      refine ⟨_, rfl, l6, rfl, ⟨_, .of e6'⟩, fun S hS => lc_list (xs := ts.map V.str) (fun _ G => G S = some (.lst []) ∧ G l6 = some (.lst (ts.map V.str))) ⟨upd_same, ?_⟩ (fun _ G _ z => .of z.2) ?_ ?_⟩
      · exact (upd_ne (ne_of_none e6' hS)).trans e6'
      · rintro j v G hv ⟨z1, z2⟩
        obtain ⟨t, ht, rfl⟩ : ∃ t, ts[j]? = some t ∧ v = .str t := by
          rw [List.getElem?_map] at hv
          cases h : ts[j]? with
          | none =>
            rw [h] at hv
            cases hv
          | some t =>
            rw [h] at hv
            exact ⟨t, rfl, (Option.some.inj hv).symm⟩
        refine ⟨rfl, _, rfl, t, 16, rfl, by omega, by omega, ?_, fun G2 sG => ⟨true, rfl, ?_⟩⟩
        · have := lts t (List.mem_of_getElem? ht)
          omega
        · exact iteF ⟨sG _ _ z1, sG _ _ z2⟩
      · rintro G ⟨z1, z2⟩
        refine ⟨Nat.zero_le _, fun l7 hl7 => ?_⟩
        refine ⟨.list [], .list [], .lst (.of ((upd_ne (ne_of_none z1 hl7)).trans z1)) .nil, .lst (.of upd_same) .nil, shaped_ints [], shaped_ints [], ?_⟩
        rw [show PyData.eqv (.list []) (.list []) = true from eqv_same (shaped_ints [])]
        exact q _

end
theorem all_mk {w : World} {K : PySem.W.Frag} {h : Heap} {mg : Str → Option Value} {fa f0 f1 f2 f3 f4 f5 f6 f7 f8 f9 f10 f11 f12 f13 : Addr} (X : K.In h) (G : h.Ns mainGlobals mg) (hfa : mg "law" = some (.ref fa))
    {od0 an0 od1 an1 od2 an2 od3 an3 od4 an4 od5 an5 od6 an6 od7 an7 od8 an8 od9 an9 od10 an10 od11 an11 od12 an12 od13 an13 : Option Addr} {sl0 sl1 sl2 sl3 sl4 sl5 sl6 sl7 sl8 sl9 sl10 sl11 sl12 sl13 : Array (Option Value)} {oc0 kV0 dc0 pm0 cd0 ct0 oc1 kV1 dc1 pm1 cd1 ct1 oc2 kV2 dc2 pm2 cd2 ct2 oc3 kV3 dc3 pm3 cd3 ct3 oc4 kV4 dc4 pm4 cd4 ct4 oc5 kV5 dc5 pm5 cd5 ct5 oc6 kV6 dc6 pm6 cd6 ct6 oc7 kV7 dc7 pm7 cd7 ct7 oc8 kV8 dc8 pm8 cd8 ct8 oc9 kV9 dc9 pm9 cd9 ct9 oc10 kV10 dc10 pm10 cd10 ct10 oc11 kV11 dc11 pm11 cd11 ct11 oc12 kV12 dc12 pm12 cd12 ct12 oc13 kV13 dc13 pm13 cd13 ct13 : Value}
    (a0 : PySem.W.nsIn K mainGlobals "read_number" = some (some (.ref f0))) (l0 : K.lookup f0 = some ⟨oc0, od0, .func (PySem.W.fnOf "read_number" "read_number" (defArgs s_read_number) (defBody s_read_number) (defScope s_read_number) .none kV0 dc0 pm0 an0 cd0 ct0), sl0⟩) (c0 : PySem.W.codeIn K cd0 "read_number" = true) (k0 : PySem.W.keepIn K (.ref f0) = true)
    (a1 : PySem.W.nsIn K mainGlobals "_law_mix" = some (some (.ref f1))) (l1 : K.lookup f1 = some ⟨oc1, od1, .func (PySem.W.fnOf "_law_mix" "_law_mix" (defArgs s__law_mix) (defBody s__law_mix) (defScope s__law_mix) .none kV1 dc1 pm1 an1 cd1 ct1), sl1⟩) (c1 : PySem.W.codeIn K cd1 "_law_mix" = true) (k1 : PySem.W.keepIn K (.ref f1) = true)
    (a2 : PySem.W.nsIn K mainGlobals "_law_deck" = some (some (.ref f2))) (l2 : K.lookup f2 = some ⟨oc2, od2, .func (PySem.W.fnOf "_law_deck" "_law_deck" (defArgs s__law_deck) (defBody s__law_deck) (defScope s__law_deck) .none kV2 dc2 pm2 an2 cd2 ct2), sl2⟩) (c2 : PySem.W.codeIn K cd2 "_law_deck" = true) (k2 : PySem.W.keepIn K (.ref f2) = true)
    (a3 : PySem.W.nsIn K mainGlobals "_law_next" = some (some (.ref f3))) (l3 : K.lookup f3 = some ⟨oc3, od3, .func (PySem.W.fnOf "_law_next" "_law_next" (defArgs s__law_next) (defBody s__law_next) (defScope s__law_next) .none kV3 dc3 pm3 an3 cd3 ct3), sl3⟩) (c3 : PySem.W.codeIn K cd3 "_law_next" = true) (k3 : PySem.W.keepIn K (.ref f3) = true)
    (a4 : PySem.W.nsIn K mainGlobals "_law_number" = some (some (.ref f4))) (l4 : K.lookup f4 = some ⟨oc4, od4, .func (PySem.W.fnOf "_law_number" "_law_number" (defArgs s__law_number) (defBody s__law_number) (defScope s__law_number) .none kV4 dc4 pm4 an4 cd4 ct4), sl4⟩) (c4 : PySem.W.codeIn K cd4 "_law_number" = true) (k4 : PySem.W.keepIn K (.ref f4) = true)
    (a5 : PySem.W.nsIn K mainGlobals "_law_figures" = some (some (.ref f5))) (l5 : K.lookup f5 = some ⟨oc5, od5, .func (PySem.W.fnOf "_law_figures" "_law_figures" (defArgs s__law_figures) (defBody s__law_figures) (defScope s__law_figures) .none kV5 dc5 pm5 an5 cd5 ct5), sl5⟩) (c5 : PySem.W.codeIn K cd5 "_law_figures" = true) (k5 : PySem.W.keepIn K (.ref f5) = true)
    (a6 : PySem.W.nsIn K mainGlobals "_law_text" = some (some (.ref f6))) (l6 : K.lookup f6 = some ⟨oc6, od6, .func (PySem.W.fnOf "_law_text" "_law_text" (defArgs s__law_text) (defBody s__law_text) (defScope s__law_text) .none kV6 dc6 pm6 an6 cd6 ct6), sl6⟩) (c6 : PySem.W.codeIn K cd6 "_law_text" = true) (k6 : PySem.W.keepIn K (.ref f6) = true)
    (a7 : PySem.W.nsIn K mainGlobals "_law_is_whole" = some (some (.ref f7))) (l7 : K.lookup f7 = some ⟨oc7, od7, .func (PySem.W.fnOf "_law_is_whole" "_law_is_whole" (defArgs s__law_is_whole) (defBody s__law_is_whole) (defScope s__law_is_whole) .none kV7 dc7 pm7 an7 cd7 ct7), sl7⟩) (c7 : PySem.W.codeIn K cd7 "_law_is_whole" = true) (k7 : PySem.W.keepIn K (.ref f7) = true)
    (a8 : PySem.W.nsIn K mainGlobals "_law_kind" = some (some (.ref f8))) (l8 : K.lookup f8 = some ⟨oc8, od8, .func (PySem.W.fnOf "_law_kind" "_law_kind" (defArgs s__law_kind) (defBody s__law_kind) (defScope s__law_kind) .none kV8 dc8 pm8 an8 cd8 ct8), sl8⟩) (c8 : PySem.W.codeIn K cd8 "_law_kind" = true) (k8 : PySem.W.keepIn K (.ref f8) = true)
    (a9 : PySem.W.nsIn K mainGlobals "_law_sign" = some (some (.ref f9))) (l9 : K.lookup f9 = some ⟨oc9, od9, .func (PySem.W.fnOf "_law_sign" "_law_sign" (defArgs s__law_sign) (defBody s__law_sign) (defScope s__law_sign) .none kV9 dc9 pm9 an9 cd9 ct9), sl9⟩) (c9 : PySem.W.codeIn K cd9 "_law_sign" = true) (k9 : PySem.W.keepIn K (.ref f9) = true)
    (a10 : PySem.W.nsIn K mainGlobals "_law_spoilt" = some (some (.ref f10))) (l10 : K.lookup f10 = some ⟨oc10, od10, .func (PySem.W.fnOf "_law_spoilt" "_law_spoilt" (defArgs s__law_spoilt) (defBody s__law_spoilt) (defScope s__law_spoilt) .none kV10 dc10 pm10 an10 cd10 ct10), sl10⟩) (c10 : PySem.W.codeIn K cd10 "_law_spoilt" = true) (k10 : PySem.W.keepIn K (.ref f10) = true)
    (a11 : PySem.W.nsIn K mainGlobals "_law_due" = some (some (.ref f11))) (l11 : K.lookup f11 = some ⟨oc11, od11, .func (PySem.W.fnOf "_law_due" "_law_due" (defArgs s__law_due) (defBody s__law_due) (defScope s__law_due) .none kV11 dc11 pm11 an11 cd11 ct11), sl11⟩) (c11 : PySem.W.codeIn K cd11 "_law_due" = true) (k11 : PySem.W.keepIn K (.ref f11) = true)
    (a12 : PySem.W.nsIn K mainGlobals "_law_right" = some (some (.ref f12))) (l12 : K.lookup f12 = some ⟨oc12, od12, .func (PySem.W.fnOf "_law_right" "_law_right" (defArgs s__law_right) (defBody s__law_right) (defScope s__law_right) .none kV12 dc12 pm12 an12 cd12 ct12), sl12⟩) (c12 : PySem.W.codeIn K cd12 "_law_right" = true) (k12 : PySem.W.keepIn K (.ref f12) = true)
    (a13 : PySem.W.nsIn K mainGlobals "law" = some (some (.ref f13))) (l13 : K.lookup f13 = some ⟨oc13, od13, .func (PySem.W.fnOf "law" "law" (defArgs s_law) (defBody s_law) (defScope s_law) .none kV13 dc13 pm13 an13 cd13 ct13), sl13⟩) (c13 : PySem.W.codeIn K cd13 "law" = true) (k13 : PySem.W.keepIn K (.ref f13) = true)
    (z0 : PySem.W.nsIn K mainGlobals "ValueError" = some none)
    (z1 : PySem.W.nsIn K mainGlobals "bool" = some none)
    (z2 : PySem.W.nsIn K mainGlobals "enumerate" = some none)
    (z3 : PySem.W.nsIn K mainGlobals "int" = some none)
    (z4 : PySem.W.nsIn K mainGlobals "isinstance" = some none)
    (z5 : PySem.W.nsIn K mainGlobals "len" = some none)
    (z6 : PySem.W.nsIn K mainGlobals "max" = some none)
    (z7 : PySem.W.nsIn K mainGlobals "range" = some none)
    (z8 : PySem.W.nsIn K mainGlobals "sum" = some none)
    (z9 : PySem.W.nsIn K mainGlobals "super" = some none)
    (z10 : PySem.W.nsIn K mainGlobals "tuple" = some none)
    {u0 : Tok} (y0 : PySem.W.nsIn K mainGlobals "FIGURES" = some (some (.str "0123456789abcdef" u0)))
    {k_FigureError : Addr} (xa_FigureError : PySem.W.nsIn K mainGlobals "FigureError" = some (some (.ref k_FigureError))) (xh_FigureError : PySem.W.hasDictIn K k_FigureError = true) (xt_FigureError : PySem.W.typeIn K (.ref k_FigureError) = some (.type "type")) (xb_FigureError : PySem.W.subIn K (.ref k_FigureError) (.type "BaseException") = some true)
    {k_NoRound : Addr} (xa_NoRound : PySem.W.nsIn K mainGlobals "NoRound" = some (some (.ref k_NoRound))) (xh_NoRound : PySem.W.hasDictIn K k_NoRound = true) (xt_NoRound : PySem.W.typeIn K (.ref k_NoRound) = some (.type "type")) (xb_NoRound : PySem.W.subIn K (.ref k_NoRound) (.type "BaseException") = some true)
    {k_NoFigure : Addr} (xa_NoFigure : PySem.W.nsIn K mainGlobals "NoFigure" = some (some (.ref k_NoFigure))) (xh_NoFigure : PySem.W.hasDictIn K k_NoFigure = true) (xt_NoFigure : PySem.W.typeIn K (.ref k_NoFigure) = some (.type "type")) (xb_NoFigure : PySem.W.subIn K (.ref k_NoFigure) (.type "BaseException") = some true)
    {k_NoPlace : Addr} (xa_NoPlace : PySem.W.nsIn K mainGlobals "NoPlace" = some (some (.ref k_NoPlace))) (xh_NoPlace : PySem.W.hasDictIn K k_NoPlace = true) (xt_NoPlace : PySem.W.typeIn K (.ref k_NoPlace) = some (.type "type")) (xb_NoPlace : PySem.W.subIn K (.ref k_NoPlace) (.type "BaseException") = some true)
    {k_NoAsk : Addr} (xa_NoAsk : PySem.W.nsIn K mainGlobals "NoAsk" = some (some (.ref k_NoAsk))) (xh_NoAsk : PySem.W.hasDictIn K k_NoAsk = true) (xt_NoAsk : PySem.W.typeIn K (.ref k_NoAsk) = some (.type "type")) (xb_NoAsk : PySem.W.subIn K (.ref k_NoAsk) (.type "BaseException") = some true)
    {k_NoNumber : Addr} (xa_NoNumber : PySem.W.nsIn K mainGlobals "NoNumber" = some (some (.ref k_NoNumber))) (xh_NoNumber : PySem.W.hasDictIn K k_NoNumber = true) (xt_NoNumber : PySem.W.typeIn K (.ref k_NoNumber) = some (.type "type")) (xb_NoNumber : PySem.W.subIn K (.ref k_NoNumber) (.type "BaseException") = some true)
    (xs_NoNumber_FigureError : PySem.W.subIn K (.ref k_NoNumber) (.ref k_FigureError) = some true)
    (xs_NoNumber_NoRound : PySem.W.subIn K (.ref k_NoNumber) (.ref k_NoRound) = some false)
    (xs_NoNumber_NoFigure : PySem.W.subIn K (.ref k_NoNumber) (.ref k_NoFigure) = some false)
    (xs_NoNumber_NoPlace : PySem.W.subIn K (.ref k_NoNumber) (.ref k_NoPlace) = some false)
    (xs_NoNumber_NoAsk : PySem.W.subIn K (.ref k_NoNumber) (.ref k_NoAsk) = some false)
    (xs_NoNumber_NoNumber : PySem.W.subIn K (.ref k_NoNumber) (.ref k_NoNumber) = some true)
    (xsa_NoNumber : PySem.W.findIn K (.ref k_NoNumber) "__setattr__" = some (some (.builtin "object.__setattr__")))
    (xga_NoNumber : PySem.W.findIn K (.ref k_NoNumber) "__getattribute__" = some (some (.builtin "BaseException.__getattribute__")))
    (xgg_NoNumber : PySem.W.findIn K (.ref k_NoNumber) "__getattr__" = some none)
    (xca_NoNumber : PySem.W.findIn K (.ref k_NoNumber) "__class__" = some (some (.builtin "object.__class__")))
    (xmo_NoNumber : PySem.W.mroIn K k_NoNumber (.type "object") = some true)
    (xkp_NoNumber : PySem.W.keepIn K (.ref k_NoNumber) = true)
    (xve_NoNumber : PySem.W.subIn K (.ref k_NoNumber) (.type "ValueError") = some true)
    (xcn_NoNumber : PySem.W.specialIn K (.builtin "object.__class__") "__get__" = some (some (.builtin "getset_descriptor.__get__"))) (xct_NoNumber : PySem.W.takesIn K (.builtin "object.__class__") = some true)
    {n_NoNumber q_NoNumber : Str} {N_NoNumber : Addr} {bs_NoNumber su_NoNumber : List Value} {sn_NoNumber : List Str} {ab_NoNumber : Bool} {co_NoNumber : Option Bool} {dd_NoNumber : Option Addr} {m0_NoNumber m1_NoNumber m2_NoNumber m3_NoNumber m5_NoNumber : Option Value}
    (xl_NoNumber : K.lookup k_NoNumber = some (excClassObj n_NoNumber q_NoNumber k_NoNumber N_NoNumber bs_NoNumber [.ref k_FigureError, .type "ValueError", .type "Exception", .type "BaseException", .type "object"] true sn_NoNumber su_NoNumber ab_NoNumber co_NoNumber dd_NoNumber m0_NoNumber m1_NoNumber m2_NoNumber m3_NoNumber m5_NoNumber "ValueError.__new__"))
    {j_NoNumber jc_NoNumber jd_NoNumber : Addr} {jo_NoNumber jk_NoNumber jdoc_NoNumber jp_NoNumber jt_NoNumber jx_NoNumber jy_NoNumber : Value} {jan_NoNumber jod_NoNumber jxd_NoNumber jyd_NoNumber : Option Addr} {jsl_NoNumber jxs_NoNumber jys_NoNumber : Array (Option Value)} {jv_NoNumber : Array Value} {jfile_NoNumber : Str} {jtk_NoNumber : Tok}
    (xi_NoNumber : PySem.W.findIn K (.ref k_NoNumber) "__init__" = some (some (.ref j_NoNumber))) (xf_NoNumber : PySem.W.typeIn K (.ref j_NoNumber) = some (.type "function"))
    (xj_NoNumber : K.lookup j_NoNumber = some ⟨jo_NoNumber, jod_NoNumber, .func (PySem.W.ksFn "__init__" "NoNumber.__init__" (defArgs i_NoNumber) (defBody i_NoNumber) (defScope i_NoNumber) .none jk_NoNumber jdoc_NoNumber jp_NoNumber jan_NoNumber (.ref jd_NoNumber) jt_NoNumber jc_NoNumber), jsl_NoNumber⟩) (xo_NoNumber : PySem.W.codeIn K (.ref jd_NoNumber) "NoNumber.__init__" = true)
    (xd_NoNumber : K.lookup jd_NoNumber = some ⟨jx_NoNumber, jxd_NoNumber, .fields jv_NoNumber, jxs_NoNumber⟩) (xe_NoNumber : K.lookup jc_NoNumber = some ⟨jy_NoNumber, jyd_NoNumber, .cell (some (.ref k_NoNumber)), jys_NoNumber⟩)
    (xm_NoNumber : PySem.W.mroIn K k_NoNumber (.ref k_NoNumber) = some true) (xz_NoNumber : PySem.W.nsIn K cStatics "thirdparty.any" = some none)
    (xn_NoNumber_place : PySem.W.findIn K (.ref k_NoNumber) "place" = some none)
    (xv_NoNumber : jv_NoNumber[2]? = some (.str jfile_NoNumber jtk_NoNumber)) (xg_NoNumber : ((P.main.file : Str) == jfile_NoNumber) = true) (xu_NoNumber : PySem.W.ks_superIn K k_NoNumber k_NoNumber "__init__" = some (some (.builtin "ValueError.__init__")))
    : ∃ fd : FuncData, (∀ (s : Shared) (v : Value), BindsTo s fd ⟨[v], []⟩ [("script", v)]) ∧ ∀ base : Heap, K.In base → base.Ns mainGlobals mg → FnOk P w K mg base CX0 5 fa fd ["script"] (sp_law K) := by
  have e := hfa.symm.trans (PySem.W.mg_of X G a13)
  cases e
  have F0 := fun_mk (st := s_read_number) l0 c0 k0
  have F1 := fun_mk (st := s__law_mix) l1 c1 k1
  have F2 := fun_mk (st := s__law_deck) l2 c2 k2
  have F3 := fun_mk (st := s__law_next) l3 c3 k3
  have F4 := fun_mk (st := s__law_number) l4 c4 k4
  have F5 := fun_mk (st := s__law_figures) l5 c5 k5
  have F6 := fun_mk (st := s__law_text) l6 c6 k6
  have F7 := fun_mk (st := s__law_is_whole) l7 c7 k7
  have F8 := fun_mk (st := s__law_kind) l8 c8 k8
  have F9 := fun_mk (st := s__law_sign) l9 c9 k9
  have F10 := fun_mk (st := s__law_spoilt) l10 c10 k10
  have F11 := fun_mk (st := s__law_due) l11 c11 k11
  have F12 := fun_mk (st := s__law_right) l12 c12 k12
  have F13 := fun_mk (st := s_law) l13 c13 k13
  let T : Txt K mg := {
    f_read_number := f0,
    fd_read_number := _,
    F_read_number := F0,
    g_read_number := PySem.W.mg_of X G a0,
    b_read_number := F0.binds (ps := ["text", "base"]) (fun _ _ _ _ _ _ us hl => match us, hl with | [_, _], _ => rfl),
    f__law_mix := f1,
    fd__law_mix := _,
    F__law_mix := F1,
    g__law_mix := PySem.W.mg_of X G a1,
    b__law_mix := F1.binds (ps := ["cell", "k"]) (fun _ _ _ _ _ _ us hl => match us, hl with | [_, _], _ => rfl),
    f__law_deck := f2,
    fd__law_deck := _,
    F__law_deck := F2,
    g__law_deck := PySem.W.mg_of X G a2,
    b__law_deck := F2.binds (ps := ["script"]) (fun _ _ _ _ _ _ us hl => match us, hl with | [_], _ => rfl),
    f__law_next := f3,
    fd__law_next := _,
    F__law_next := F3,
    g__law_next := PySem.W.mg_of X G a3,
    b__law_next := F3.binds (ps := ["deck", "many"]) (fun _ _ _ _ _ _ us hl => match us, hl with | [_, _], _ => rfl),
    f__law_number := f4,
    fd__law_number := _,
    F__law_number := F4,
    g__law_number := PySem.W.mg_of X G a4,
    b__law_number := F4.binds (ps := ["deck", "base"]) (fun _ _ _ _ _ _ us hl => match us, hl with | [_, _], _ => rfl),
    f__law_figures := f5,
    fd__law_figures := _,
    F__law_figures := F5,
    g__law_figures := PySem.W.mg_of X G a5,
    b__law_figures := F5.binds (ps := ["number", "base"]) (fun _ _ _ _ _ _ us hl => match us, hl with | [_, _], _ => rfl),
    f__law_text := f6,
    fd__law_text := _,
    F__law_text := F6,
    g__law_text := PySem.W.mg_of X G a6,
    b__law_text := F6.binds (ps := ["number", "base"]) (fun _ _ _ _ _ _ us hl => match us, hl with | [_, _], _ => rfl),
    f__law_is_whole := f7,
    fd__law_is_whole := _,
    F__law_is_whole := F7,
    g__law_is_whole := PySem.W.mg_of X G a7,
    b__law_is_whole := F7.binds (ps := ["found", "due"]) (fun _ _ _ _ _ _ us hl => match us, hl with | [_, _], _ => rfl),
    f__law_kind := f8,
    fd__law_kind := _,
    F__law_kind := F8,
    g__law_kind := PySem.W.mg_of X G a8,
    b__law_kind := F8.binds (ps := ["caught"]) (fun _ _ _ _ _ _ us hl => match us, hl with | [_], _ => rfl),
    f__law_sign := f9,
    fd__law_sign := _,
    F__law_sign := F9,
    g__law_sign := PySem.W.mg_of X G a9,
    b__law_sign := F9.binds (ps := ["deck", "base"]) (fun _ _ _ _ _ _ us hl => match us, hl with | [_, _], _ => rfl),
    f__law_spoilt := f10,
    fd__law_spoilt := _,
    F__law_spoilt := F10,
    g__law_spoilt := PySem.W.mg_of X G a10,
    b__law_spoilt := F10.binds (ps := ["deck", "text", "base"]) (fun _ _ _ _ _ _ us hl => match us, hl with | [_, _, _], _ => rfl),
    f__law_due := f11,
    fd__law_due := _,
    F__law_due := F11,
    g__law_due := PySem.W.mg_of X G a11,
    b__law_due := F11.binds (ps := ["text", "base"]) (fun _ _ _ _ _ _ us hl => match us, hl with | [_, _], _ => rfl),
    f__law_right := f12,
    fd__law_right := _,
    F__law_right := F12,
    g__law_right := PySem.W.mg_of X G a12,
    b__law_right := F12.binds (ps := ["text", "base"]) (fun _ _ _ _ _ _ us hl => match us, hl with | [_, _], _ => rfl),
    f_law := fa,
    fd_law := _,
    F_law := F13,
    g_law := PySem.W.mg_of X G a13,
    b_law := F13.binds (ps := ["script"]) (fun _ _ _ _ _ _ us hl => match us, hl with | [_], _ => rfl),
    m_ValueError := PySem.W.mg_none_of X G z0,
    m_bool := PySem.W.mg_none_of X G z1,
    m_enumerate := PySem.W.mg_none_of X G z2,
    m_int := PySem.W.mg_none_of X G z3,
    m_isinstance := PySem.W.mg_none_of X G z4,
    m_len := PySem.W.mg_none_of X G z5,
    m_max := PySem.W.mg_none_of X G z6,
    m_range := PySem.W.mg_none_of X G z7,
    m_sum := PySem.W.mg_none_of X G z8,
    m_super := PySem.W.mg_none_of X G z9,
    m_tuple := PySem.W.mg_none_of X G z10,
    t_FIGURES := u0,
    c_FIGURES := PySem.W.mg_of X G y0,
    k_FigureError := k_FigureError,
    gk_FigureError := PySem.W.mg_of X G xa_FigureError,
    x_FigureError := ⟨xh_FigureError, xt_FigureError, xb_FigureError⟩,
    k_NoRound := k_NoRound,
    gk_NoRound := PySem.W.mg_of X G xa_NoRound,
    x_NoRound := ⟨xh_NoRound, xt_NoRound, xb_NoRound⟩,
    k_NoFigure := k_NoFigure,
    gk_NoFigure := PySem.W.mg_of X G xa_NoFigure,
    x_NoFigure := ⟨xh_NoFigure, xt_NoFigure, xb_NoFigure⟩,
    k_NoPlace := k_NoPlace,
    gk_NoPlace := PySem.W.mg_of X G xa_NoPlace,
    x_NoPlace := ⟨xh_NoPlace, xt_NoPlace, xb_NoPlace⟩,
    k_NoAsk := k_NoAsk,
    gk_NoAsk := PySem.W.mg_of X G xa_NoAsk,
    x_NoAsk := ⟨xh_NoAsk, xt_NoAsk, xb_NoAsk⟩,
    k_NoNumber := k_NoNumber,
    gk_NoNumber := PySem.W.mg_of X G xa_NoNumber,
    x_NoNumber := ⟨xh_NoNumber, xt_NoNumber, xb_NoNumber⟩,
    s_NoNumber_FigureError := xs_NoNumber_FigureError,
    s_NoNumber_NoRound := xs_NoNumber_NoRound,
    s_NoNumber_NoFigure := xs_NoNumber_NoFigure,
    s_NoNumber_NoPlace := xs_NoNumber_NoPlace,
    s_NoNumber_NoAsk := xs_NoNumber_NoAsk,
    s_NoNumber_NoNumber := xs_NoNumber_NoNumber,
    I_NoNumber := ⟨xsa_NoNumber, xga_NoNumber, xgg_NoNumber, xca_NoNumber, xcn_NoNumber, xct_NoNumber, xmo_NoNumber, xkp_NoNumber, xs_NoNumber_NoNumber, xve_NoNumber, ⟨_, _, _, _, _, _, _, _, _, _, _, _, _, _, _, xl_NoNumber, rfl⟩⟩,
    jn_NoNumber_place := xn_NoNumber_place,
    j_NoNumber := j_NoNumber,
    jd_NoNumber := _,
    J_NoNumber := ⟨xi_NoNumber, xf_NoNumber, ⟨_, _, _, _, _, _, _, _, _, _, _, _, _, _, _, _, _, _, _, _, rfl, xj_NoNumber, xo_NoNumber, xd_NoNumber, xv_NoNumber, xg_NoNumber, xe_NoNumber⟩, xu_NoNumber, by decide +kernel, xm_NoNumber, xz_NoNumber⟩,
    jb_NoNumber := .all (fun us hl => match us, hl with | [_, _], _ => rfl) }
  exact ⟨_, fun s v => .of_eq rfl, fun base _ _ => ok_law T⟩
end Fx
open PySem PySem.W PyProof.Rows
set_option maxHeartbeats 0 in
theorem PySem.Challenge.cw_figurerounds_k02_no_numbers_holds : PySem.Challenge.rw_figurerounds_k02_no_numbers.Holds := by
  w_on; o_law; k_head; (case hw => w_witness2)
  k_fill
  refine L2.walk_of (l := PySem.Challenge.rw_figurerounds_k02_no_numbers) (n := 63) (k := 5) (x := "script") (CX := fun _ => L2.CX0) (sp := fun w => Fx.sp_law _) rfl (by decide) rfl ⟨rfl, by decide, by decide⟩ (fun w h Y => PySem.W.kIn_of Y) ?F (fun _ _ a ns hl _ hS => Fx.law_start hl hS) (fun _ _ _ _ _ h => h)
  case F =>
    intro w mg fa h KX G hmg
    refine' Fx.all_mk KX G hmg ?a0 ?l0 ?c0 ?k0 ?a1 ?l1 ?c1 ?k1 ?a2 ?l2 ?c2 ?k2 ?a3 ?l3 ?c3 ?k3 ?a4 ?l4 ?c4 ?k4 ?a5 ?l5 ?c5 ?k5 ?a6 ?l6 ?c6 ?k6 ?a7 ?l7 ?c7 ?k7 ?a8 ?l8 ?c8 ?k8 ?a9 ?l9 ?c9 ?k9 ?a10 ?l10 ?c10 ?k10 ?a11 ?l11 ?c11 ?k11 ?a12 ?l12 ?c12 ?k12 ?a13 ?l13 ?c13 ?k13 ?z0 ?z1 ?z2 ?z3 ?z4 ?z5 ?z6 ?z7 ?z8 ?z9 ?z10 ?y0 ?xa_FigureError ?xh_FigureError ?xt_FigureError ?xb_FigureError ?xa_NoRound ?xh_NoRound ?xt_NoRound ?xb_NoRound ?xa_NoFigure ?xh_NoFigure ?xt_NoFigure ?xb_NoFigure ?xa_NoPlace ?xh_NoPlace ?xt_NoPlace ?xb_NoPlace ?xa_NoAsk ?xh_NoAsk ?xt_NoAsk ?xb_NoAsk ?xa_NoNumber ?xh_NoNumber ?xt_NoNumber ?xb_NoNumber ?xs_NoNumber_FigureError ?xs_NoNumber_NoRound ?xs_NoNumber_NoFigure ?xs_NoNumber_NoPlace ?xs_NoNumber_NoAsk ?xs_NoNumber_NoNumber ?xsa_NoNumber ?xga_NoNumber ?xgg_NoNumber ?xca_NoNumber ?xmo_NoNumber ?xkp_NoNumber ?xve_NoNumber ?xcn_NoNumber ?xct_NoNumber ?xl_NoNumber ?xi_NoNumber ?xf_NoNumber ?xj_NoNumber ?xo_NoNumber ?xd_NoNumber ?xe_NoNumber ?xm_NoNumber ?xz_NoNumber ?xn_NoNumber_place ?xv_NoNumber ?xg_NoNumber ?xu_NoNumber
    (case a0 => k_is); (case l0 => k_is); (case c0 => k_is); (case k0 => k_is); (case a1 => k_is); (case l1 => k_is); (case c1 => k_is); (case k1 => k_is); (case a2 => k_is); (case l2 => k_is); (case c2 => k_is); (case k2 => k_is); (case a3 => k_is); (case l3 => k_is); (case c3 => k_is); (case k3 => k_is); (case a4 => k_is); (case l4 => k_is); (case c4 => k_is); (case k4 => k_is); (case a5 => k_is); (case l5 => k_is); (case c5 => k_is); (case k5 => k_is); (case a6 => k_is); (case l6 => k_is); (case c6 => k_is); (case k6 => k_is); (case a7 => k_is); (case l7 => k_is); (case c7 => k_is); (case k7 => k_is); (case a8 => k_is); (case l8 => k_is); (case c8 => k_is); (case k8 => k_is); (case a9 => k_is); (case l9 => k_is); (case c9 => k_is); (case k9 => k_is); (case a10 => k_is); (case l10 => k_is); (case c10 => k_is); (case k10 => k_is); (case a11 => k_is); (case l11 => k_is); (case c11 => k_is); (case k11 => k_is); (case a12 => k_is); (case l12 => k_is); (case c12 => k_is); (case k12 => k_is); (case a13 => k_is); (case l13 => k_is); (case c13 => k_is); (case k13 => k_is); (case z0 => k_is); (case z1 => k_is); (case z2 => k_is); (case z3 => k_is); (case z4 => k_is); (case z5 => k_is); (case z6 => k_is); (case z7 => k_is); (case z8 => k_is); (case z9 => k_is); (case z10 => k_is); (case y0 => k_is); (case xa_FigureError => k_is); (case xh_FigureError => k_is); (case xt_FigureError => k_is); (case xb_FigureError => k_is); (case xa_NoRound => k_is); (case xh_NoRound => k_is); (case xt_NoRound => k_is); (case xb_NoRound => k_is); (case xa_NoFigure => k_is); (case xh_NoFigure => k_is); (case xt_NoFigure => k_is); (case xb_NoFigure => k_is); (case xa_NoPlace => k_is); (case xh_NoPlace => k_is); (case xt_NoPlace => k_is); (case xb_NoPlace => k_is); (case xa_NoAsk => k_is); (case xh_NoAsk => k_is); (case xt_NoAsk => k_is); (case xb_NoAsk => k_is); (case xa_NoNumber => k_is); (case xh_NoNumber => k_is); (case xt_NoNumber => k_is); (case xb_NoNumber => k_is); (case xs_NoNumber_FigureError => k_is); (case xs_NoNumber_NoRound => k_is); (case xs_NoNumber_NoFigure => k_is); (case xs_NoNumber_NoPlace => k_is); (case xs_NoNumber_NoAsk => k_is); (case xs_NoNumber_NoNumber => k_is); (case xsa_NoNumber => k_is); (case xga_NoNumber => k_is); (case xgg_NoNumber => k_is); (case xca_NoNumber => k_is); (case xmo_NoNumber => k_is); (case xkp_NoNumber => k_is); (case xve_NoNumber => k_is); (case xcn_NoNumber => k_is); (case xct_NoNumber => k_is); (case xl_NoNumber => k_is); (case xi_NoNumber => k_is); (case xf_NoNumber => k_is); (case xj_NoNumber => k_is); (case xo_NoNumber => k_is); (case xd_NoNumber => k_is); (case xe_NoNumber => k_is); (case xm_NoNumber => k_is); (case xz_NoNumber => k_is); (case xn_NoNumber_place => k_is); (case xv_NoNumber => rfl); (case xg_NoNumber => first | rfl | decide +kernel); (case xu_NoNumber => ks_is)
