/- Layer 3 (radix): toward. -/
import Derived.Test.YtpnmkfbdfggnaaaGreatRToward
namespace Go.Proofs.YtpnmkfbdfggnaaaGreat
open Go.RowKit
set_option linter.unusedVariables false
variable {R : Nat → Prop}

theorem toward_end (t : Tr) (k : ByteArray) (w : World) (h : TAt R w t) (hk : k.size = t.p.size) :
    Calls Tryz.prog 92 #[.pointer (some ⟨t.a, 0, none⟩), .string k] w fun e w' => e = .returned (.tuple #[.int .i64 0, .bool false]) ∧ Below w.heap.size w w' := by
  obtain ⟨ao, cap, c0, -, -, -, -, -⟩ := h.cells
  have hp := h.psz'
  have ha := h.lt
  clear h
  go_enter Tryz.func92, Tryz.ntmps92
  go_wp2
  go_ret2
  exact ⟨rfl, by first | exact (Below.refl _ _).alloc (Nat.le_refl _) _ | exact ((Below.refl _ _).alloc (Nat.le_refl _) _).setCell (Nat.le_refl _) _⟩

set_option maxRecDepth 100000 in
theorem toward_at (t : Tr) (k : ByteArray) (w : World) (h : TAt R w t) (hw : WF t) (hk : t.p.size < k.size) (hks : k.size ≤ 140737488351296) :
    Calls Tryz.prog 92 #[.pointer (some ⟨t.a, 0, none⟩), .string k] w fun e w' =>
      e = .returned (.tuple #[.int .i64 (posn t.ks t.p.size k[t.p.size] : Int), .bool (thereB t.ks t.p.size k[t.p.size])]) ∧ Below w.heap.size w w' := by
  have hmf : ∀ (fn : Fn) (first cap : Array Value) (w : World), (Instr.makeFunc fn first cap).run Tryz.prog w = .ok (.func fn first cap) w := fun _ _ _ _ => rfl
  obtain ⟨ao, cap, c0, -, c2, -, hkids, -⟩ := h.cells
  have hp := h.psz'
  have ha := h.lt
  have hsub := h.sub'
  have hne : ¬ (k.size : Int) = (t.p.size : Int) := by omega
  have hneb : ((k.size : Int) == (t.p.size : Int)) = false := by simpa using hne
  -- the world behind the box of 'beyond'
  obtain ⟨w1, HW1⟩ : ∃ w1, Hid (w1 = w.alloc (.cells #[.int .i64 (t.p.size : Int)] 3)) := ⟨_, rfl⟩
  have hb1 : Below w.heap.size w w1 := by rw [HW1.out]; exact (Below.refl _ _).alloc (Nat.le_refl _) _
  have hc1 : w1.cell? ⟨w.heap.size, 0, none⟩ = some (.int .i64 (t.p.size : Int)) := by rw [HW1.out, World.cell?_alloc_mark]; rfl
  have hbd : ∀ m, Below w.heap.size w (w1.drewN m) := fun m => ⟨hb1.os, hb1.tape, hb1.output, hb1.size, hb1.block⟩
  have HS := fun m => search_calls t.ks ao cap t.p.size k[t.p.size] ⟨w.heap.size, 0, none⟩ (w1.drewN m) (hkids.below (hbd m)) hw.few (fun c hc => (hsub c hc).keep (hbd m)) (fun c hc => (hw.ext' c hc).2) hc1 hw.ord'
  have c2' : w1.cell? ⟨t.a, 2, none⟩ = some (.slice ao t.ks.length cap) := by rw [hb1.cell (by exact ha)]; exact c2
  have HB1 : Hid (∀ m, Below w.heap.size w (w1.drewN m)) := hbd
  clear h hw hkids hsub hb1 c2 hbd
  go_enter Tryz.func92, Tryz.ntmps92
  go_wp2
  rw [← HW1.out]
  go_quiet ((go_at_call 118; exact Calls.quiet_of (HS _)))
  go_wp2
  go_ret2
  exact ⟨rfl, HB1.out _⟩
end Go.Proofs.YtpnmkfbdfggnaaaGreat
