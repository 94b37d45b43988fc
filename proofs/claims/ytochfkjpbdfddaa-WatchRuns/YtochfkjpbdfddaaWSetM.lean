/- Layer 2 (watch): NewSet, Len, First, Add. -/
import Derived.Test.YtochfkjpbdfddaaWSet
import Derived.Deep.QuietTactic
import Derived.BigQuiet
namespace Go.Proofs.Ytochfkjpbdfddaa
open Go.RowKit
set_option linter.unusedVariables false

/-- The set at block sb takes at most so many; it holds the watches l, in the slice v. -/
structure SAt (w : World) (B sb : Nat) (most : Int) (v : Value) (l : List Nat) : Prop where
  blk : w.heap[sb]? = some (.cells #[.int .i64 most, v] 61)
  own : OwnV w B 31 v (ptrs l)

theorem SAt.lt {w : World} {B sb : Nat} {most : Int} {v : Value} {l : List Nat} (h : SAt w B sb most v l) : sb < w.heap.size := lt_of_heap h.blk
theorem SAt.touched {w w' : World} {B sb : Nat} {most : Int} {v : Value} {l T : List Nat} (h : SAt w B sb most v l) (ht : Touched T w w') (hs : sb ∉ T) (hn : ∀ k, v.ownBlock = some k → k ∉ T) : SAt w' B sb most v l :=
  ⟨(ht.block sb h.lt hs).trans h.blk, h.own.touched ht hn⟩
theorem SAt.sep {w : World} {B sb : Nat} {most : Int} {v : Value} {l : List Nat} (h : SAt w B sb most v l) : ∀ k, v.ownBlock = some k → k ≠ sb := fun k hk => own_ne (h.own.typed k hk) h.blk (by decide)
theorem WAt.ne_set {w : World} {B sb b c : Nat} {f : Bool} {most : Int} {v : Value} {l : List Nat} (h : WAt w b c f) (hs : SAt w B sb most v l) : b ≠ sb ∧ c ≠ sb ∧ ∀ k, v.ownBlock = some k → k ≠ b ∧ k ≠ c := by
  refine ⟨own_ne ⟨_, h.blk⟩ hs.blk (by decide), ?_, fun k hk => ⟨own_ne (hs.own.typed k hk) h.blk (by decide), own_ne_chan (hs.own.typed k hk) h.chn⟩⟩
  intro e
  subst e
  have := hs.blk.symm.trans h.chn
  cases this

theorem newSet_calls (most : Int) (w : World) : Calls Try.prog 9 #[.int .i64 most] w fun e w' => e = .returned (.pointer (some ⟨w.heap.size, 0, none⟩)) ∧ Below w.heap.size w w' ∧ w'.heap.size = w.heap.size + 1 ∧ ∀ B, SAt w' B w.heap.size (max most 0) (.slice none 0 0) [] := by
  have key : ∀ m : Int, m = max most 0 → Below w.heap.size w (w.alloc (.cells #[.int .i64 m, .slice none 0 0] 61)) ∧ (w.alloc (.cells #[.int .i64 m, .slice none 0 0] 61)).heap.size = w.heap.size + 1 ∧ ∀ B, SAt (w.alloc (.cells #[.int .i64 m, .slice none 0 0] 61)) B w.heap.size (max most 0) (.slice none 0 0) [] := by
    rintro m rfl
    exact ⟨(Below.refl _ w).alloc (Nat.le_refl _) _, by simp [World.size_alloc], fun B => ⟨heap_alloc_new w _, World.ownsRow_nil _ _ _ _⟩⟩
  have KEY : Hid (∀ m : Int, m = max most 0 → _) := key
  clear key
  by_cases h : most < 0
  · go_enter Try.func9, Try.ntmps9
    go_wp2
    all_goals (go_ret; refine ⟨rfl, KEY.out _ ?_⟩; omega)
  · go_enter Try.func9, Try.ntmps9
    go_wp2
    all_goals (go_ret; refine ⟨rfl, KEY.out _ ?_⟩; omega)

theorem setLen_calls (B sb : Nat) (most : Int) (v : Value) (l : List Nat) (w : World) (hs : SAt w B sb most v l) :
    Calls Try.prog 10 #[.pointer (some ⟨sb, 0, none⟩)] w fun e w' => e = .returned (.int .i64 (l.length : Int)) ∧ w' = w := by
  obtain ⟨ao, cap, rfl⟩ := hs.own.shape
  have c1 : w.cell? ⟨sb, 1, none⟩ = some (.slice ao (ptrs l).length cap) := by rw [cell_of_blk hs.blk]; rfl
  rw [ptrs_length] at c1
  go_enter Try.func10, Try.ntmps10
  go_wp2
  go_ret
  exact ⟨rfl, rfl⟩

theorem setFirst_calls (B sb : Nat) (most : Int) (v : Value) (l : List Nat) (fz : Nat → Bool) (w : World) (hs : SAt w B sb most v l) (hl : l.length ≤ 9223372036854775807) (hw : ∀ x ∈ l, ∃ c, WAt w x c (fz x)) :
    Calls Try.prog 11 #[.pointer (some ⟨sb, 0, none⟩)] w fun e w' => e = .returned (.int .i64 (posOf fz l)) ∧ w' = w := by
  have ho := hs.own
  obtain ⟨ao, cap, rfl⟩ := ho.shape
  have c1 : w.cell? ⟨sb, 1, none⟩ = some (.slice ao (ptrs l).length cap) := by rw [cell_of_blk hs.blk]; rfl
  rw [ptrs_length] at c1 ho
  have HI := indexFunc_calls B ao l.length cap l fz w rfl hl ho hw
  clear ho hs hw
  go_enter Try.func11, Try.ntmps11
  go_wp2_with fail
  refine HI.mono ?_
  clear HI
  rintro e w1 ⟨rfl, rfl⟩
  go_wp2
  go_ret
  exact ⟨rfl, rfl⟩

theorem infoPW : (Try.prog.info? 31).map (fun i => (i.zero, i.size, i.bytes)) = some (some (.pointer none), 1, 8) := by kernel_rfl

/-- Add of nil. -/
theorem setAdd_nil (sb : Nat) (w : World) : Calls Try.prog 13 #[.pointer (some ⟨sb, 0, none⟩), .pointer none] w fun e w' => e = .returned (.bool false) ∧ w' = w := by
  go_enter Try.func13, Try.ntmps13
  go_wp2
  go_ret
  exact ⟨rfl, rfl⟩

/-- Add of a watch that the set holds. -/
theorem setAdd_held (B sb b : Nat) (most : Int) (v : Value) (l : List Nat) (w : World) (hs : SAt w B sb most v l) (hl : l.length ≤ 9223372036854775807) (hw : ∀ x ∈ l, ∃ c f, WAt w x c f) (hb : ∃ c f, WAt w b c f) (hin : l.any (b == ·) = true) :
    Calls Try.prog 13 #[.pointer (some ⟨sb, 0, none⟩), .pointer (some ⟨b, 0, none⟩)] w fun e w' => e = .returned (.bool true) ∧ w' = w := by
  have ho := hs.own
  obtain ⟨ao, cap, rfl⟩ := ho.shape
  have c1 : w.cell? ⟨sb, 1, none⟩ = some (.slice ao (ptrs l).length cap) := by rw [cell_of_blk hs.blk]; rfl
  rw [ptrs_length] at c1 ho
  have HI := contains_calls B ao l.length cap l b w rfl hl ho hw hb
  rw [hin] at HI
  clear ho hs hw hb hin
  go_enter Try.func13, Try.ntmps13
  go_wp2_with fail
  refine HI.mono ?_
  clear HI
  rintro e w1 ⟨rfl, rfl⟩
  go_wp2
  go_ret
  exact ⟨rfl, rfl⟩

set_option maxRecDepth 100000 in
set_option maxHeartbeats 1600000 in
/-- Add of a watch that the set does not hold, where it holds its most. -/
theorem setAdd_full (B sb b : Nat) (most : Int) (v : Value) (l : List Nat) (w : World) (hs : SAt w B sb most v l) (hl : l.length ≤ 9223372036854775807) (hw : ∀ x ∈ l, ∃ c f, WAt w x c f) (hb : ∃ c f, WAt w b c f) (hin : l.any (b == ·) = false) (hm : (l.length : Int) = most) :
    Calls Try.prog 13 #[.pointer (some ⟨sb, 0, none⟩), .pointer (some ⟨b, 0, none⟩)] w fun e w' => e = .returned (.bool false) ∧ Below w.heap.size w w' := by
  have ho := hs.own
  have hsep := hs.sep
  obtain ⟨ao, cap, rfl⟩ := ho.shape
  have c1 : w.cell? ⟨sb, 1, none⟩ = some (.slice ao (ptrs l).length cap) := by rw [cell_of_blk hs.blk]; rfl
  have c0 : w.cell? ⟨sb, 0, none⟩ = some (.int .i64 most) := by rw [cell_of_blk hs.blk]; rfl
  rw [ptrs_length] at c1 ho
  have HI := contains_calls B ao l.length cap l b w rfl (by omega) ho hw hb
  rw [hin] at HI
  clear ho hs hw hb hin hsep
  subst hm
  go_enter Try.func13, Try.ntmps13
  go_wp2_with fail
  refine HI.mono ?_
  clear HI
  rintro e w1 ⟨rfl, rfl⟩
  go_wp2
  go_quiet (fail)
  go_wp2
  go_ret
  exact ⟨rfl, ⟨rfl, rfl, rfl, Nat.le_refl _, fun _ _ => rfl⟩⟩

set_option maxRecDepth 100000 in
set_option maxHeartbeats 1600000 in
/-- Add of a watch that the set does not hold, where there is room. -/
theorem setAdd_room (B sb b : Nat) (most : Int) (v : Value) (l : List Nat) (w : World) (hs : SAt w B sb most v l) (hl : l.length + 1 ≤ 17592186044416) (hB : B ≤ w.heap.size) (hw : ∀ x ∈ l, ∃ c f, WAt w x c f) (hb : ∃ c f, WAt w b c f) (hin : l.any (b == ·) = false) (hm : ¬ (l.length : Int) = most) :
    Calls Try.prog 13 #[.pointer (some ⟨sb, 0, none⟩), .pointer (some ⟨b, 0, none⟩)] w fun e w' =>
      e = .returned (.bool true) ∧ ∃ v', SAt w' B sb most v' (l ++ [b]) ∧ Touched (sb :: v.ownBlock.toList) w w' ∧ ∀ k, v'.ownBlock = some k → v.ownBlock = some k ∨ w.heap.size ≤ k := by
  have ho := hs.own
  have hsep := hs.sep
  obtain ⟨ao, cap, rfl⟩ := ho.shape
  have c1 : w.cell? ⟨sb, 1, none⟩ = some (.slice ao (ptrs l).length cap) := by rw [cell_of_blk hs.blk]; rfl
  have c0 : w.cell? ⟨sb, 0, none⟩ = some (.int .i64 most) := by rw [cell_of_blk hs.blk]; rfl
  rw [ptrs_length] at c1 ho
  have HI := contains_calls B ao l.length cap l b w rfl (by omega) ho hw hb
  rw [hin] at HI
  have hq : ((l.length : Int) == most) = false := by simp [hm]
  have HS : Hid (SAt w B sb most (.slice ao l.length cap) l) := by have := hs; rw [ptrs_length] at this; exact this
  rw [ptrs_length]
  clear ho hs hw hb hin hsep hm
  go_enter Try.func13, Try.ntmps13
  go_wp2_with fail
  refine HI.mono ?_
  clear HI
  rintro e w1 ⟨rfl, rfl⟩
  go_wp2
  go_quiet (fail)
  obtain ⟨wd, HWD⟩ : ∃ wd, Hid (wd = w1.drewN nq) := ⟨_, rfl⟩
  have hS : SAt wd B sb most (.slice ao l.length cap) l := by rw [HWD.out]; exact ⟨HS.out.blk, HS.out.own⟩
  have d1 : wd.cell? ⟨sb, 1, none⟩ = some (.slice ao l.length cap) := by rw [HWD.out]; exact c1
  have HT : Hid (Touched [] w1 wd) := by show Touched _ _ _; rw [HWD.out]; exact ⟨rfl, rfl, rfl, Nat.le_refl _, fun _ _ _ => rfl⟩
  have hBd : B ≤ wd.heap.size := Nat.le_trans hB HT.out.size
  rw [← HWD.out]
  clear c1 c0 HWD hq
  have ho := hS.own
  have hsep := hS.sep
  have HSD : Hid (SAt wd B sb most (.slice ao l.length cap) l) := hS
  have HSEP : Hid (∀ k, (Value.slice ao l.length cap).ownBlock = some k → k ≠ sb) := hsep
  clear hS hsep
  go_wp2_with (at_builtin; refine append_val _ rfl (.tmp 27) (.tmp 29) 24 31 (.pointer none) 8 Try.underlying24 infoPW rfl rfl B _ (ptrs l) rfl (ptr b) rfl _ rfl (by simp) ho (by rw [ptrs_length]; omega) (by rw [ptrs_length]; omega) hBd ?_)
  intro v1 w2 ho2 hg2
  obtain ⟨ao1, cap1, hv1⟩ := ho2.shape
  rw [List.length_append, List.length_singleton] at hv1
  have HV1 : Hid (v1 = .slice ao1 ((ptrs l).length + 1) cap1) := hv1
  clear hv1
  have hsz := hg2.size
  have e1 : w2.heap[sb]? = some (.cells #[.int .i64 most, .slice ao l.length cap] 61) := (hg2.grown.block sb HSD.out.lt (fun e => HSEP.out sb e.symm rfl)).trans HSD.out.blk
  have d2 : w2.cell? ⟨sb, 1, none⟩ = some (.slice ao l.length cap) := by rw [cell_of_blk e1]; rfl
  have z2 : w2.frozen? ⟨sb, 1, none⟩ = false := frozen_of_blk e1
  have HE : Hid (w2.heap[sb]? = some (.cells #[.int .i64 most, .slice ao l.length cap] 61)) := e1
  have HO : Hid (OwnV w2 B 31 v1 (ptrs l ++ [ptr b])) := ho2
  have HG : Hid (Grew wd w2 (.slice ao l.length cap) v1) := hg2
  clear e1 ho2 hg2 ho d1
  have hv1 := HV1.out
  clear HV1
  revert HO HG
  subst hv1
  intro HO HG
  go_wp2
  go_ret
  revert HO HG
  generalize (Value.slice ao1 ((ptrs l).length + 1) cap1) = v1
  intro HO HG
  have ho2 := HO.out
  have hne : ∀ k, v1.ownBlock = some k → k ≠ sb := fun k hk => own_ne (ho2.typed k hk) HE.out (by decide)
  have hT : Touched (sb :: (Value.slice ao l.length cap).ownBlock.toList) w1 (w2.setCell ⟨sb, 1, none⟩ v1) :=
    ((HT.out.weaken (by simp)).trans (HG.out.touched.weaken (by intro k hk; exact List.mem_cons_of_mem _ hk))).setCell _ _ (.inl (by simp))
  refine ⟨rfl, v1, ⟨?_, ?_⟩, hT, fun k hk => ?_⟩
  · rw [setCell_blk HE.out]; simp
  · rw [ptrs_append]
    exact ownsRow_setCell_other ho2 (fun e => hne sb e rfl) _
  · rcases HG.out.place k hk with h | h
    · exact .inl h
    · exact .inr (Nat.le_trans HT.out.size h)
end Go.Proofs.Ytochfkjpbdfddaa
