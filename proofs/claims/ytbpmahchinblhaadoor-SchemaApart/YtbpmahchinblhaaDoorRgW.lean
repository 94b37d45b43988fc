/- A region that draws its order, walked whole (RgV); besides, each operation is told that what is done is closed: whatever it leans on is done. -/
import Derived.Test.YtbpmahchinblhaaDoorRgV
namespace Go.Proofs.YtbpmahchinblhaaDoor
open Go.RowKit
set_option linter.unusedVariables false

/-- Whatever is done leans on what is done. -/
def Closed (l : List Oper) (ls : Nat → Bool) : Prop := ∀ (j : Nat) (oj : Oper), l[j]? = some oj → ls j = true → ∀ k, depB oj k = true → ls k = true

theorem wp_region_W {P : Program} {id : Nat} {Q : Exit → Act → World → Prop} {a0 : Act} {w : World} {l : List Oper} (n : Nat) (J : (Nat → Bool) → (Nat → Value) → World → Prop) (R : Nat → Value → World → Prop) (hm : P.follows .mixedOrders = true) (hn : l.length = n) (hB : Region.invVB l.toArray = true) (hf : Region.fitsB l.toArray n a0.tmps.size = true) (ds : List (Option Tmp)) (hds : (List.range n).map (dstAt l.toArray) = ds)
    (hJ0 : ∀ W vs, Below w.heap.size w W → J (fun _ => false) vs W)
    (hop : ∀ i o, i < n → l[i]? = some o → ∀ (a : Act) (W : World) (ls : Nat → Bool) (vs : Nat → Value), J ls vs W → ls i = false → Closed l ls → (∀ k, (∀ j, j < n → dstAt l.toArray j = some k → ls j = false) → a.eval (.tmp k) = a0.eval (.tmp k)) → (∀ j d, depB o j = true → dstAt l.toArray j = some d → R j (a.eval (.tmp d)) W ∧ a.eval (.tmp d) = vs j) → (∀ j, depB o j = true → ls j = true) →
      Guards l.toArray o a ∧ o.wp P a W (fun a' w' => ∃ v, a' = a.put o.dst v ∧ R i v w' ∧ J (updB ls i) (updV vs i v) w' ∧ (∀ j u, j < n → ls j = true → R j u W → R j u w')) Q)
    (h : ∀ vs W (ls : Nat → Bool), (∀ i, i < n → ls i = true) → J ls vs W → (∀ i, i < n → R i (vs i) W) → wpList P l.toArray Q [] (putL vs ds 0 a0) W) : (Code.region id l.toArray true).wp P Q a0 w := by
  refine wp_region_V n (fun ls vs W => J ls vs W ∧ Closed l ls) R hm hn hB hf ds hds (fun W vs hW => ⟨hJ0 W vs hW, fun j oj _ h => by cases h⟩) ?_ (fun vs W ls hls hJ hR => h vs W ls hls hJ.1 hR)
  intro i o hi ho a W ls vs hJ hlf hs hd hall
  obtain ⟨hg, hw⟩ := hop i o hi ho a W ls vs hJ.1 hlf hJ.2 hs hd hall
  refine ⟨hg, Oper.wp_mono ?_ hw⟩
  · rintro a' w' ⟨v, h1, h2, h3, h4⟩
    refine ⟨v, h1, h2, ⟨h3, ?_⟩, h4⟩
    intro j oj hoj hl k hk
    have up : ls k = true → updB ls i k = true := fun h => by unfold updB; split <;> simp_all
    by_cases hji : j = i
    · subst hji
      obtain rfl : oj = o := Option.some.inj (hoj.symm.trans ho)
      exact up (hall k hk)
    · refine up (hJ.2 j oj hoj ?_ k hk)
      simpa [updB, hji] using hl

/-- Each of them leans on the next. -/
def pathB (l : List Oper) : List Nat → Bool
  | i :: j :: r => (match l[i]? with | some o => depB o j | none => false) && pathB l (j :: r)
  | _ => true
theorem Closed.not {l : List Oper} {ls : Nat → Bool} (hc : Closed l ls) : ∀ (p : List Nat) (i j : Nat), pathB l (i :: p) = true → (i :: p).getLast? = some j → ls j = false → ls i = false
  | [], i, j, _, hl, hf => by simp at hl; subst hl; exact hf
  | k :: r, i, j, hp, hl, hf => by
    have hr : ls k = false := Closed.not hc r k j (by simp only [pathB, Bool.and_eq_true] at hp; exact hp.2) (by simpa using hl) hf
    cases h : ls i with
    | false => rfl
    | true =>
      simp only [pathB, Bool.and_eq_true] at hp
      cases ho : l[i]? with
      | none => rw [ho] at hp; simp at hp
      | some o =>
        rw [ho] at hp
        have := hc i o ho h k hp.1
        rw [hr] at this
        cases this
theorem updB_ne {ls : Nat → Bool} {i j : Nat} (h : j ≠ i) : updB ls i j = ls j := by simp [updB, h]
theorem updB_eq {ls : Nat → Bool} {i : Nat} : updB ls i i = true := by simp [updB]
theorem updV_ne {vs : Nat → Value} {i j : Nat} {v : Value} (h : j ≠ i) : updV vs i v j = vs j := by simp [updV, h]
theorem updV_eq {vs : Nat → Value} {i : Nat} {v : Value} : updV vs i v i = v := by simp [updV]
end Go.Proofs.YtbpmahchinblhaaDoor
