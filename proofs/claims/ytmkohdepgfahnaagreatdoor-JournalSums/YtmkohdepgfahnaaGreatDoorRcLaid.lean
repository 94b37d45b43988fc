import Derived.Test.YtmkohdepgfahnaaGreatDoorJBytes
import Derived.Deep.Slices
import Derived.SizedLaws
import Derived.ProofKit
import Derived.Test.YtmkohdepgfahnaaGreatDoorRcOctet
import Derived.Lay
import Derived.Lib.LaidTab
import Derived.MakeChecks
/- Layer 13 (journal): arguments of type []byte, byte, opened. -/
namespace Go.Proofs.YtmkohdepgfahnaaGreatDoor
open Go.RowKit Go.Deep Go.ChangeShapes Go.WideShapes
set_option linter.unusedVariables false

def byteData {H : Type} (c : UInt8) : DataW H := .lit (.int .u8 (c.toNat : Int))
def BytesData {H : Type} (l : List UInt8) (d : DataW H) : Prop := d = .nil ∧ l = [] ∨ ∃ sp, d = .slice (l.map byteData) sp
theorem cells_b : Tryz.prog.cellsOf 5 = 1 := by kernel_rfl
theorem bytes_b : Tryz.prog.bytesOf 5 = 1 := by kernel_rfl
theorem u8_bounds {n : Int} (h : (Lit.int .u8 n).wf = true) : 0 ≤ n ∧ n < 256 := by
  have h1 : IntKind.u8.min = 0 := rfl
  have h2 : IntKind.u8.max = 255 := rfl
  simp only [Lit.wf, Bool.and_eq_true, decide_eq_true_eq, h1, h2] at h
  omega
theorem u8_of {n : Int} (h : (Lit.int .u8 n).wf = true) : ∃ c : UInt8, n = (c.toNat : Int) := ⟨UInt8.ofNat n.toNat, by
  have := u8_bounds h
  rw [UInt8.toNat_ofNat']; omega⟩
theorem open_bytes {H : Type} {enc : TypeId × Value → H} {W : World} {fuel : Nat} {ao : Option Addr} {len cap : Nat} {x : DataW H × List MemPlace}
    (h : DataW.trod enc Tryz.prog W 0 (fun _ => true) true fuel 23 [.slice ao len cap] = some x) :
    ∃ l : List UInt8, l.length = len ∧ BytesData l x.1 ∧ BAt W ao l := by
  rcases open_slice Tryz.underlying23 h with ⟨hc, hx⟩ | ⟨a, len', cap', m, n, D, Pl, hc, hb, hl, hm, hmm, hx, hel⟩
  · simp at hc
    obtain ⟨rfl, rfl, rfl⟩ := hc
    exact ⟨[], rfl, .inl ⟨by rw [hx], rfl⟩, fun h => absurd rfl h⟩
  · simp at hc
    obtain ⟨rfl, rfl, rfl⟩ := hc
    simp only [if_true] at hmm
    subst hmm
    rw [cells_b] at hel
    have each : ∀ i, i < len → ∃ p : UInt8, D i = byteData p ∧ W.cell? (a.add i) = some (.int .u8 (p.toNat : Int)) := by
      intro i hi
      obtain ⟨cs', h1, h2⟩ := hel i (by omega)
      obtain ⟨_, hlen, hcell⟩ := World.cells?_some h1
      match cs', hlen with
      | [v0], _ =>
        obtain ⟨s1, q1, r1, w1⟩ := DataW.trod_int Tryz.underlying5 h2
        have e0 := hcell 0 (by omega)
        rw [add_add] at e0
        obtain ⟨c, rfl⟩ := u8_of w1
        simp at q1
        subst q1
        refine ⟨c, ?_, by simpa using e0⟩
        have := congrArg Prod.fst r1
        simpa [byteData] using this
    obtain ⟨f, hf⟩ : ∃ f : Nat → UInt8, ∀ i, i < len → _ := @choose_lt UInt8 ⟨0⟩ len _ each
    refine ⟨(List.range len).map f, by simp, .inr ⟨(List.range (m - len)).map fun j => D (len + j), ?_⟩, fun hne => ?_⟩
    · rw [hx]
      simp only [DataW.slice.injEq, and_true]
      rw [List.map_map]
      exact List.map_congr_left fun i hi => (hf i (List.mem_range.1 hi)).1
    · have h0 : 0 < len := by
        rcases Nat.eq_zero_or_pos len with h | h
        · subst h; exact absurd rfl hne
        · exact h
      obtain ⟨b, off, spot⟩ := a
      have hspot : spot = none := by simpa [Addr.add] using World.cell?_spot (hf 0 h0).2
      subst hspot
      refine ⟨b, off, rfl, fun j u hj => ?_⟩
      have hj' : j < len := by have := (List.getElem?_eq_some_iff.1 hj).1; simpa [bs] using this
      have hu : u = .int .u8 ((f j).toNat : Int) := by simp [bs, hj'] at hj; exact hj.symm
      rw [hu, ← add_plain]
      exact (hf j hj').2
theorem bytes_reach {H : Type} {l : List UInt8} {d : DataW H} (hd : BytesData l d) (hw : ∀ n ∈ d.weights Tryz.prog 23, n ≤ reachBytes) : l.length ≤ 140737488351232 := by
  rcases hd with ⟨_, rfl⟩ | ⟨sp, rfl⟩
  · simp
  · simp only [DataW.weights, Tryz.underlying23, bytes_b] at hw
    have := hw _ (List.mem_cons_self ..)
    simp only [List.length_map, reachBytes] at this
    omega
theorem bytes_form {H : Type} {enc : TypeId × Value → H} {W : World} {fuel : Nat} {v : Value} {x : DataW H × List MemPlace}
    (h : DataW.trod enc Tryz.prog W 0 (fun _ => true) true fuel 23 [v] = some x) : ∃ ao n c, v = .slice ao n c := by
  rcases open_slice Tryz.underlying23 h with ⟨hc, _⟩ | ⟨a, len', cap', _, _, _, _, hc, _⟩
  · simp at hc; exact ⟨_, _, _, hc⟩
  · simp at hc; exact ⟨_, _, _, hc⟩
end Go.Proofs.YtmkohdepgfahnaaGreatDoor

/- What the listed variables read as, one by one. -/
namespace Go.Proofs.YtmkohdepgfahnaaGreatDoor
open Go.RowKit
set_option linter.unusedVariables false

theorem laid_entry {P : Program} {W : World} : ∀ {laid : List (String × DataW Unit)} {ps : List MemPlace}, DataW.LaidVars P W laid ps → ∀ {n : String} {d : DataW Unit}, (n, d) ∈ laid →
    ∃ g t cs fuel q, P.globalNamed n = some g ∧ (P.globals[g]?).map (·.type) = some t ∧ W.var? P n = some cs ∧ DataW.trod (fun _ => ()) P W 0 (fun _ => true) false fuel t cs.toList = some (d, q) := by
  intro laid
  induction laid with
  | nil => intro ps _ n d hm; simp at hm
  | cons x laid ih =>
    intro ps h n d hm
    obtain ⟨g, t, cs, fuel, p, q, hg, ht, hv, hd, hr, _⟩ := h
    rcases List.mem_cons.1 hm with rfl | hm
    · exact ⟨g, t, cs, fuel, p, hg, ht, hv, hd⟩
    · exact ih hr hm
set_option maxRecDepth 100000 in
theorem pow_of {W : World} {t : TypeId} {cs : Array Value} {fuel : Nat} {q : List MemPlace} (ht : t = 190) (hv : W.var? Tryz.prog "internal/strconv.uint64pow10" = some cs) (hd : DataW.trod (fun _ => ()) Tryz.prog W 0 (fun _ => true) false fuel t cs.toList = some (Lib.tabData .u64 Lib.pow10Tab, q)) : Lib.TabIs Tryz.prog W "internal/strconv.uint64pow10" .u64 Lib.pow10Tab := by
  subst ht
  unfold Lib.TabIs
  rw [hv, ← Lib.cells_of_tab Tryz.underlying190 Tryz.underlying28 (by kernel_rfl) (by kernel_rfl) hd]
set_option maxRecDepth 100000 in
theorem err_of {W : World} {n : String} {t : TypeId} {cs : Array Value} {fuel : Nat} {q : List MemPlace} {nm : String} {d : DataW Unit} (ht : t = 145) (hv : W.var? Tryz.prog n = some cs) (hd : DataW.trod (fun _ => ()) Tryz.prog W 0 (fun _ => true) false fuel t cs.toList = some (.iface nm d, q)) : ∃ t p, W.var? Tryz.prog n = some #[.iface t p] := by
  subst ht
  obtain ⟨_, u, v, hcs, _, _⟩ := iface_of_trod Tryz.underlying145 hd
  exact ⟨u, v, by rw [hv]; congr 1; exact Array.toList_inj.1 hcs⟩
set_option maxRecDepth 100000 in
theorem vs_of {W : World} {laid : List (String × DataW Unit)} (hp : (laid.all fun x => x.2.handleName?.isNone) = true) {nm1 nm2 : String} {d1 d2 : DataW Unit}
    (h1 : ("internal/strconv.uint64pow10", Lib.tabData .u64 Lib.pow10Tab) ∈ laid) (h2 : ("strconv.ErrSyntax", .iface nm1 d1) ∈ laid) (h3 : ("strconv.ErrRange", .iface nm2 d2) ∈ laid) (h : laidMetH Tryz.prog laid W) : Vs W := by
  rw [MakeChecks.laidMetH_plain _ _ _ hp] at h
  obtain ⟨ps, hl, _⟩ := h
  obtain ⟨g1, t1, c1, f1, q1, hg1, ht1, hv1, hd1⟩ := laid_entry hl h1
  obtain ⟨g2, t2, c2, f2, q2, hg2, ht2, hv2, hd2⟩ := laid_entry hl h2
  obtain ⟨g3, t3, c3, f3, q3, hg3, ht3, hv3, hd3⟩ := laid_entry hl h3
  have ty : ∀ {n : String} {g : Nat} {t t' : TypeId}, Tryz.prog.globalNamed n = some g → (Tryz.prog.globals[g]?).map (·.type) = some t → ((Tryz.prog.globalNamed n).bind fun g => (Tryz.prog.globals[g]?).map (·.type)) = some t' → t = t' := fun ha hb hc => by
    rw [ha, Option.bind_some, hb] at hc
    exact Option.some.inj hc
  exact ⟨pow_of (ty hg1 ht1 (by kernel_rfl)) hv1 hd1, err_of (ty hg2 ht2 (by kernel_rfl)) hv2 hd2, err_of (ty hg3 ht3 (by kernel_rfl)) hv3 hd3⟩
end Go.Proofs.YtmkohdepgfahnaaGreatDoor
