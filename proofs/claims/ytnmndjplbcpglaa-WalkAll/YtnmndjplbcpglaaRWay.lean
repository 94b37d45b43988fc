/- Layer 3 (radix): way. -/
import Derived.Test.YtnmndjplbcpglaaRReach
namespace Go.Proofs.Ytnmndjplbcpglaa
open Go.RowKit
set_option linter.unusedVariables false
variable {R : Rg} {O : Nat → Prop}

def nodeP (t : Tr) : Value := .pointer (some ⟨t.a, 0, none⟩)

theorem infoPN : (Try.prog.info? 61).map (fun i => (i.zero, i.size, i.bytes)) = some (some (.pointer none), 1, 8) := by kernel_rfl

theorem wayK_calls (u : Tr) (b B : Nat) (v : Value) (vs : List Value) (w : World) (hb : w.heap[b]? = some (.cells #[v] 66)) (ho : OwnV w B 61 v vs) (hB : b < B) (hBs : B ≤ w.heap.size) (hl : vs.length + 1 ≤ 17592186044416) :
    Calls Try.prog 49 #[nodeP u, .pointer (some ⟨b, 0, none⟩)] w fun e w' => e = .returned (.tuple #[]) ∧ ∃ v', w'.heap[b]? = some (.cells #[v'] 66) ∧ OwnV w' B 61 v' (vs ++ [nodeP u]) ∧ Below b w w' ∧ w.heap.size ≤ w'.heap.size := by
  obtain ⟨ao, cap, rfl⟩ := ho.shape
  have c0 : w.cell? ⟨b, 0, none⟩ = some (.slice ao vs.length cap) := by rw [cell_of_blk hb]; rfl
  have HBX : Hid (w.heap[b]? = some (.cells #[.slice ao vs.length cap] 66)) := hb
  have hlt : ∀ k, (Value.slice ao vs.length cap).ownBlock = some k → B ≤ k := fun k hk => (ho.lt k hk).1
  have HLT : Hid (∀ k, (Value.slice ao vs.length cap).ownBlock = some k → B ≤ k) := hlt
  clear hb hlt
  unfold nodeP
  go_enter Try.func49, Try.ntmps49
  go_wp2_with (at_builtin; refine append_val _ rfl (.tmp 3) (.tmp 5) 66 61 (.pointer none) 8 Try.underlying66 infoPN rfl rfl B _ vs rfl (.pointer (some ⟨u.a, 0, none⟩)) rfl _ rfl (by simp) ho (by omega) (by omega) hBs ?_)
  intro v1 w2 ho2 hg2
  obtain ⟨ao1, cap1, hv1⟩ := ho2.shape
  rw [List.length_append, List.length_singleton] at hv1
  have e1 : w2.heap[b]? = some (.cells #[.slice ao vs.length cap] 66) := (hg2.grown.block b (by omega) (fun e => by have := HLT.out b e.symm; omega)).trans HBX.out
  have d2 : w2.cell? ⟨b, 0, none⟩ = some (.slice ao vs.length cap) := by rw [cell_of_blk e1]; rfl
  have z2 : w2.frozen? ⟨b, 0, none⟩ = false := frozen_of_blk e1
  have HE : Hid (w2.heap[b]? = some (.cells #[.slice ao vs.length cap] 66)) := e1
  have HO : Hid (OwnV w2 B 61 v1 (vs ++ [.pointer (some ⟨u.a, 0, none⟩)])) := ho2
  have HG : Hid (Below b w w2 ∧ w.heap.size ≤ w2.heap.size) := ⟨hg2.toBelow (by omega) (fun k hk => by have := HLT.out k hk; omega), hg2.size⟩
  clear e1 ho2 hg2 ho c0
  revert HO
  subst hv1
  intro HO
  go_wp2
  go_end0
  revert HO
  generalize (Value.slice ao1 (vs.length + 1) cap1) = v1
  intro HO
  have hne : v1.ownBlock ≠ some b := fun e => by have := (HO.out.lt b e).1; omega
  refine ⟨rfl, v1, ?_, ownsRow_setCell_other HO.out hne _, HG.out.1.setCell (Nat.le_refl _) _, by simpa using HG.out.2⟩
  rw [setCell_blk HE.out]; simp

/-- What way holds between two nodes. -/
structure WI (w : World) (l : List Tr) (i : Nat) (W : World) : Prop where
  below : Below w.heap.size w W
  box : ∃ v, W.heap[w.heap.size]? = some (.cells #[v] 66) ∧ OwnV W (w.heap.size + 1) 61 v ((l.take i).map nodeP)

set_option maxRecDepth 100000 in
theorem way_calls (t : Tr) (k : ByteArray) (w : World) (init : List Tr) (c : Tr) (hA : Along k.data.toList t (init ++ [c])) (h : TAt R w t) (hw : WF t) (hp : t.path <+: k.data.toList) (hks : k.size ≤ 140737488351296) (hd : init.length + 1 ≤ 17592186044416) (hR : ∀ b, R b → b ≤ w.heap.size) :
    Calls Try.prog 26 #[.pointer (some ⟨t.a, 0, none⟩), .string k] w fun e w' => ∃ g cap, e = .returned (.tuple #[.slice (some ⟨g, 0, none⟩) init.length cap, .pointer (some ⟨c.a, 0, none⟩)]) ∧ Below w.heap.size w w' ∧ KidsAt R w' (some ⟨g, 0, none⟩) init ∧ g < w'.heap.size := by
  have hmf : ∀ (fn : Fn) (first cap : Array Value) (w : World), (Instr.makeFunc fn first cap).run Try.prog w = .ok (.func fn first cap) w := fun _ _ _ _ => rfl
  obtain ⟨w1, HW1⟩ : ∃ w1, Hid (w1 = w.alloc (.cells #[.slice none 0 0] 66)) := ⟨_, rfl⟩
  have hb1 : Below w.heap.size w w1 := by rw [HW1.out]; exact (Below.refl _ _).alloc (Nat.le_refl _) _
  have hs1 : w1.heap.size = w.heap.size + 1 := by rw [HW1.out]; simp [World.size_alloc]
  have hbox : w1.heap[w.heap.size]? = some (.cells #[.slice none 0 0] 66) := by rw [HW1.out]; exact heap_alloc_new w _
  have HA := along_calls 49 enters_way (.pointer (some ⟨w.heap.size, 0, none⟩)) t k (init ++ [c]) (WI w (init ++ [c])) w1 hA hw hp hks
    ⟨hb1, _, hbox, by simpa using OwnV.nil w1 _ _⟩
    (fun i W W' hi hb => ⟨hi.below.trans (hb.mono hi.below.size), by
      obtain ⟨v, h1, h2⟩ := hi.box
      exact ⟨v, by rw [hb.block _ (lt_of_heap h1)]; exact h1, h2.touched (Touched.ofBelow hb []) (by simp)⟩⟩)
    (fun i W hi => h.keep hi.below)
    (fun i hi W hI _ => by
      obtain ⟨v, h1, h2⟩ := hI.box
      have hlt := lt_of_heap h1
      have hli : (((init ++ [c]).take i).map nodeP).length = i := by simp at hi ⊢; omega
      refine (wayK_calls (init ++ [c])[i] _ (w.heap.size + 1) v _ W h1 h2 (by omega) (by omega) (by rw [hli]; simp at hi; omega)).mono ?_
      rintro e W' ⟨rfl, v', h3, h4, h5, h6⟩
      refine ⟨rfl, hI.below.trans h5, v', h3, ?_⟩
      rw [List.take_succ_eq_append_getElem hi, List.map_append]
      exact h4)
  clear hA h hw hp hbox hb1 hs1
  go_enter Try.func26, Try.ntmps26
  go_wp2_with fail
  rw [← HW1.out]
  refine HA.mono ?_
  clear HA
  rintro e w2 ⟨rfl, hI⟩
  obtain ⟨v, h1, h2⟩ := hI.box
  rw [List.take_length] at h2
  obtain ⟨ao, cap, rfl⟩ := h2.shape
  have hlen : ((init ++ [c]).map nodeP).length = init.length + 1 := by simp
  rw [hlen] at h1 h2
  obtain ⟨g, rfl, hlast⟩ := h2.at init.length (by simp)
  have hlast' : w2.cell? ⟨g, init.length, none⟩ = some (.pointer (some ⟨c.a, 0, none⟩)) := by rw [hlast]; simp [nodeP]
  have c0 : w2.cell? ⟨w.heap.size, 0, none⟩ = some (.slice (some ⟨g, 0, none⟩) (init.length + 1) cap) := by rw [cell_of_blk h1]; rfl
  have hcap : init.length + 1 ≤ cap := by
    rcases h2.2 with ⟨he, _⟩ | ⟨g', cap', cur, he, _, _, hnc, _⟩
    · cases he
    · simp only [Value.slice.injEq] at he
      obtain ⟨_, _, rfl⟩ := he
      simpa using hnc
  have HK : Hid (KidsAt R w2 (some ⟨g, 0, none⟩) init) := by
    intro i hi
    obtain ⟨g', hg', hc'⟩ := h2.at i (by simp; omega)
    simp only [Option.some.injEq, Addr.mk.injEq] at hg'
    obtain ⟨rfl, _, _⟩ := hg'
    refine ⟨_, _, rfl, ?_, fun e => by have h8 := hR _ e; have h9 : w.heap.size + 1 ≤ _ := (h2.lt _ rfl).1; exact absurd (Nat.lt_of_lt_of_le (Nat.lt_succ_self _) h9) (Nat.not_lt.2 h8)⟩
    rw [Nat.zero_add, hc', List.getElem_map, List.getElem_append_left hi]
    rfl
  have HB : Hid (Below w.heap.size w w2) := hI.below
  have hgl : g < w2.heap.size := World.block_lt_of_cell? w2 _ hlast'
  clear hI h1 h2 hlast hlen
  go_wp2
  go_quiet (fail)
  go_wp2
  go_ret2
  exact ⟨g, cap, rfl, ⟨HB.out.os, HB.out.tape, HB.out.output, HB.out.size, HB.out.block⟩, HK.out, hgl⟩
end Go.Proofs.Ytnmndjplbcpglaa
