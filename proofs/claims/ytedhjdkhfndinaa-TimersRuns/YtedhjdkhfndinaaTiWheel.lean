/- Layer 14 (timers): a wheel in memory; New, Now, Len, Next, due, Set. -/
import Derived.Test.YtedhjdkhfndinaaTiMap
namespace Go.Proofs.Ytedhjdkhfndinaa
open Go.RowKit Go.MapKept
set_option linter.unusedVariables false

def wCell (most now sets : Int) (v : Value) (mb : Nat) : Array Value := #[.int .i64 most, .int .u64 now, .int .u64 sets, v, .map (some mb)]
def idb (x : Tm) : Int × Nat := (x.id, x.b)
/-- The wheel at block wb, its map at mb: its timers are L, in a heap; all its blocks are in S. -/
structure WhAt (w : World) (S : Nat → Prop) (wb mb : Nat) (most now sets : Int) (v : Value) (L : List Tm) : Prop where
  blk : w.heap[wb]? = some (.cells (wCell most now sets v mb) 60)
  pn : PnAt w v L
  mp : ∃ M, MpAt w mb M ∧ M.Perm (L.map idb)
  hp : HpAll L L.length
  sw : S wb
  sm : S mb
  sv : ∀ k, v.ownBlock = some k → S k
  st : ∀ x ∈ L, S x.b
  sb : ∀ k, S k → k < w.heap.size

variable {w w' : World} {S S' : Nat → Prop} {wb mb : Nat} {most now sets : Int} {v : Value} {L : List Tm}
theorem WhAt.frm {T : Nat → Prop} (h : WhAt w S wb mb most now sets v L) (hf : Frm T w w') (hd : ∀ k, S k → ¬ T k) : WhAt w' S wb mb most now sets v L := by
  obtain ⟨M, hM, hp⟩ := h.mp
  exact ⟨(hf.block wb (h.sb _ h.sw) (hd _ h.sw)).trans h.blk, h.pn.frm hf (fun k hk => hd _ (h.sv k hk)) (fun x hx => hd _ (h.st x hx)), ⟨M, hM.same (hf.block mb (h.sb _ h.sm) (hd _ h.sm)), hp⟩, h.hp, h.sw, h.sm, h.sv, h.st, fun k hk => Nat.lt_of_lt_of_le (h.sb k hk) hf.size⟩
theorem WhAt.below (h : WhAt w S wb mb most now sets v L) (hb : Below w.heap.size w w') : WhAt w' S wb mb most now sets v L :=
  h.frm (Frm.ofBelow hb (fun _ => False)) (fun _ _ h => h)
theorem WhAt.draws (h : WhAt w S wb mb most now sets v L) (n : Nat) : WhAt (w.drewN n) S wb mb most now sets v L := h.below (below_drawsT w n)
/-- Where the map's ids are the timers'. -/
theorem WhAt.no {id : Int} (h : WhAt w S wb mb most now sets v L) (hn : ∀ x ∈ L, x.id ≠ id) {M : List (Int × Nat)} (hp : M.Perm (L.map idb)) : ∀ p ∈ M, p.1 ≠ id := by
  intro p hm
  obtain ⟨x, hx, rfl⟩ := List.mem_map.1 (hp.mem_iff.1 hm)
  exact hn x hx
theorem WhAt.least (h : HpAll L L.length) {x : Tm} (hx : L[0]? = some x) : ∀ y ∈ L, leT x y := by
  have key : ∀ (k : Nat) (y : Tm), L[k]? = some y → leT x y := by
    intro k
    induction k using Nat.strongRecOn with
    | _ k ih =>
      intro y hy
      rcases Nat.eq_zero_or_pos k with rfl | hk
      · rw [Option.some.inj (hx.symm.trans hy)]; exact leT_refl _
      · have hp := par_lt hk
        have hkl : k < L.length := (List.getElem?_eq_some_iff.1 hy).1
        obtain ⟨z, hz⟩ : ∃ z, L[par k]? = some z := ⟨_, List.getElem?_eq_getElem (by omega)⟩
        exact (ih (par k) hp z hz).trans (h k hk hkl z y hz hy)
  intro y hy
  obtain ⟨k, hk⟩ := List.mem_iff_getElem?.1 hy
  exact key k y hk

theorem mkMapT (w : World) : (Instr.makeMap 56 none).run Try.prog w = .ok (.map (some w.heap.size)) (w.alloc (.map #[] 0)) := by
  kernel_rfl

/-- What New leaves. -/
def NewW (w : World) (m : Int) (e : Ending) (w' : World) : Prop := ∃ wb mb, e = .returned (.pointer (some ⟨wb, 0, none⟩)) ∧ WhAt w' (fun k => w.heap.size ≤ k ∧ k < w'.heap.size) wb mb m 0 0 (.slice none 0 0) [] ∧ Below w.heap.size w w'
theorem new_wh (w : World) (m : Int) : NewW w m (.returned (.pointer (some ⟨w.heap.size + 1, 0, none⟩))) ((w.alloc (.map #[] 0)).alloc (.cells (wCell m 0 0 (.slice none 0 0) w.heap.size) 60)) := by
  have hs : ((w.alloc (.map #[] 0)).alloc (.cells (wCell m 0 0 (.slice none 0 0) w.heap.size) 60)).heap.size = w.heap.size + 2 := by simp [World.size_alloc]
  refine ⟨w.heap.size + 1, w.heap.size, rfl, ⟨?_, ⟨World.ownsRow_nil _ _ _ _, fun i x hx => (by cases hx)⟩, ⟨[], ⟨#[], 0, ?_, stamped_empty 0, rfl⟩, List.Perm.refl _⟩, fun k _ hk => (by cases hk), ⟨by omega, by omega⟩, ⟨by omega, by omega⟩, fun k hk => (by cases hk), fun x hx => (by cases hx), fun k hk => hk.2⟩, ((Below.refl _ w).alloc (Nat.le_refl _) _).alloc (by simp [World.size_alloc]) _⟩
  · have := heap_alloc_new (w.alloc (.map #[] 0)) (.cells (wCell m 0 0 (.slice none 0 0) w.heap.size) 60)
    simp only [World.size_alloc] at this
    exact this
  · rw [Below.heap_alloc _ _ _ (by simp [World.size_alloc])]; exact heap_alloc_new w _

set_option maxRecDepth 100000 in
theorem new_calls (most : Int) (w : World) : Calls Try.prog 8 #[.int .i64 most] w (NewW w (max most 0)) := by
  have hmk := mkMapT
  by_cases h : most < 0
  · have hm : max most 0 = 0 := by omega
    rw [hm]
    have HN : Hid (NewW w 0 (.returned (.pointer (some ⟨w.heap.size + 1, 0, none⟩))) ((w.alloc (.map #[] 0)).alloc (.cells (wCell 0 0 0 (.slice none 0 0) w.heap.size) 60))) := new_wh w 0
    go_enter Try.func8, Try.ntmps8
    go_wp2
    go_ret
    exact HN.out
  · have h' : 0 ≤ most := by omega
    have hm : max most 0 = most := by omega
    rw [hm]
    have HN : Hid (NewW w most (.returned (.pointer (some ⟨w.heap.size + 1, 0, none⟩))) ((w.alloc (.map #[] 0)).alloc (.cells (wCell most 0 0 (.slice none 0 0) w.heap.size) 60))) := new_wh w most
    go_enter Try.func8, Try.ntmps8
    go_wp2
    go_ret
    exact HN.out

theorem wnow_calls (w : World) (h : WhAt w S wb mb most now sets v L) :
    Calls Try.prog 20 #[.pointer (some ⟨wb, 0, none⟩)] w fun e w' => e = .returned (.int .u64 now) ∧ w' = w := by
  have c : w.cell? ⟨wb, 1, none⟩ = some (.int .u64 now) := by rw [cell_blkT h.blk]; rfl
  clear h
  go_enter Try.func20, Try.ntmps20
  go_wp2
  go_ret
  exact ⟨rfl, rfl⟩
theorem wlen_calls (w : World) (h : WhAt w S wb mb most now sets v L) :
    Calls Try.prog 21 #[.pointer (some ⟨wb, 0, none⟩)] w fun e w' => e = .returned (.int .i64 (L.length : Int)) ∧ w' = w := by
  obtain ⟨ao, cap, rfl, hm⟩ := h.pn.len
  have c : w.cell? ⟨wb, 3, none⟩ = some (.slice ao L.length cap) := by rw [cell_blkT h.blk]; rfl
  clear h
  go_enter Try.func21, Try.ntmps21
  go_wp2
  go_ret
  exact ⟨rfl, rfl⟩
/-- What Next answers. -/
def nextOf : List Tm → Int × Bool
  | [] => (0, false)
  | x :: _ => (x.tm, true)
set_option maxRecDepth 100000 in
theorem wnext_calls (w : World) (h : WhAt w S wb mb most now sets v L) :
    Calls Try.prog 18 #[.pointer (some ⟨wb, 0, none⟩)] w fun e w' => e = .returned (.tuple #[.int .u64 (nextOf L).1, .bool (nextOf L).2]) ∧ w' = w := by
  cases L with
  | nil =>
    obtain ⟨ao, cap, rfl, hm⟩ := h.pn.len
    have c : w.cell? ⟨wb, 3, none⟩ = some (.slice ao 0 cap) := by rw [cell_blkT h.blk]; rfl
    clear h
    go_enter Try.func18, Try.ntmps18
    go_wp2
    go_ret2
    exact ⟨rfl, rfl⟩
  | cons x L =>
    obtain ⟨g, cap, rfl, hm, hc⟩ := h.pn.at 0 (by simp)
    have c : w.cell? ⟨wb, 3, none⟩ = some (.slice (some ⟨g, 0, none⟩) (L.length + 1) cap) := by rw [cell_blkT h.blk]; rfl
    have c1 : w.cell? ⟨g, 0, none⟩ = some (.pointer (some ⟨x.b, 0, none⟩)) := h.pn.cell 0 (by simp)
    have c2 : w.cell? ⟨x.b, 1, none⟩ = some (.int .u64 x.tm) := by rw [cell_blkT (h.pn.tms 0 x rfl)]; rfl
    have hl : (((L.length : Int) + 1) == 0) = false := by simp; omega
    have hl2 : (0 : Int) < (L.length : Int) + 1 := by omega
    clear h
    show Calls Try.prog 18 #[.pointer (some ⟨wb, 0, none⟩)] w fun e w' => e = .returned (.tuple #[.int .u64 x.tm, .bool true]) ∧ w' = w
    go_enter Try.func18, Try.ntmps18
    go_wp2
    go_ret2
    exact ⟨rfl, rfl⟩
/-- Has the clock come to the first timer's time? -/
def dueOf (now : Int) (L : List Tm) : Bool := (nextOf L).2 && decide ((nextOf L).1 ≤ now)
set_option maxRecDepth 100000 in
theorem wdue_calls (w : World) (h : WhAt w S wb mb most now sets v L) :
    Calls Try.prog 27 #[.pointer (some ⟨wb, 0, none⟩)] w fun e w' => e = .returned (.bool (dueOf now L)) ∧ w' = w := by
  have HN := wnext_calls w h
  have c : w.cell? ⟨wb, 1, none⟩ = some (.int .u64 now) := by rw [cell_blkT h.blk]; rfl
  unfold dueOf
  obtain ⟨p, Hp⟩ : ∃ p, Hid (p = nextOf L) := ⟨_, rfl⟩
  rw [← Hp.out] at HN ⊢
  obtain ⟨t, b⟩ := p
  clear h Hp
  cases b with
  | false =>
    go_enter Try.func27, Try.ntmps27
    go_wp2_with fail
    refine HN.mono ?_
    clear HN
    rintro e w1 ⟨rfl, rfl⟩
    go_wp2
    go_ret
    exact ⟨rfl, rfl⟩
  | true =>
    go_enter Try.func27, Try.ntmps27
    go_wp2_with fail
    refine HN.mono ?_
    clear HN
    rintro e w1 ⟨rfl, rfl⟩
    go_wp2
    go_ret
    exact ⟨ret_bool (by simp), rfl⟩
end Go.Proofs.Ytedhjdkhfndinaa
