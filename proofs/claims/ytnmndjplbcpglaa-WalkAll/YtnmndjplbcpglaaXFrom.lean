/- Layer 4 (walk): From, All. -/
import Derived.Test.YtnmndjplbcpglaaXRise
import Derived.Deep.RegionWith
namespace Go.Proofs.Ytnmndjplbcpglaa
open Go.RowKit Go.Shelf
set_option linter.unusedVariables false

theorem ownFrom_abs {β : Type} {B : Nat} {J : β → World → Prop} (h : OwnM B J) : Abs J := fun s A C hs hb => h s A C none hs ⟨hb.os, hb.tape, hb.output, hb.size, fun k hk _ => hb.block k hk⟩ (fun r e => by cases e)

/-- A tree that lay in w₀, and what is said of it. -/
structure Tin (w₀ : World) (tb : Nat) (T : Tr) (ne : Int) (d : Nat) : Prop where
  tree : TreeAt w₀ tb T ne
  wf : WF T
  dep : Dep (d + 1) T
  root : T.p = kE
theorem Held.tin {w W : World} {tb : Nat} {T : Tr} {ne : Int} {d : Nat} {es : List En} (h : Held w W tb T ne d es) : Tin W tb T ne d := ⟨h.good.tree, h.good.wf, h.good.dep, h.good.root⟩

set_option maxRecDepth 100000 in
set_option maxHeartbeats 4000000 in
theorem from1_calls (w₀ : World) (tb : Nat) (T : Tr) (ne : Int) (d : Nat) (hT : Tin w₀ tb T ne d) (lo : ByteArray) (hlo : lo.size ≤ 140737488355328) (l B0 : Nat) (X : Nat → Prop) (es : List En) (J Jx : List (El es) → World → Prop) (hJ : Abs J) (hY : YOk l w₀.heap.size X es J Jx) (hX : ∀ b, X b → b < B0)
    (Bt Bl : Nat) (W : World) (hb : Below w₀.heap.size w₀ W) (hB : B0 ≤ W.heap.size) (ht : W.cell? ⟨Bt, 0, none⟩ = some (.pointer (some ⟨tb, 0, none⟩))) (hl : W.cell? ⟨Bl, 0, none⟩ = some (.string lo)) (hj : J [] W) (hp : fil (d + 1) T lo <+: es) :
    Calls Try.prog 43 #[.func (.yield l) #[] #[], .pointer (some ⟨Bt, 0, none⟩), .pointer (some ⟨Bl, 0, none⟩)] W fun e W' => (∃ v, e = .returned v) ∧
      ((∃ ys : List (El es), ys.map (·.1) = fil (d + 1) T lo ∧ J ys W') ∨ (∃ ys : List (El es), ys.map (·.1) <+: fil (d + 1) T lo ∧ Jx ys W')) := by
  have HR := root_calls tb T ne W.drew ((hT.tree.keep hb).keep ⟨rfl, rfl, rfl, Nat.le_refl _, fun _ _ => rfl⟩)
  have HRI := fun (W2 : World) (h2 : Below W.heap.size W W2) => rise_calls w₀ l B0 X es J Jx hJ hY hX (d + 1) T lo [] W2 hT.dep hT.wf hT.tree.tat (hb.trans (h2.mono hb.size)) (Nat.le_trans hB h2.size) (hJ _ _ _ hj h2) (by simpa using hp) hlo
  unfold nodeV at HR HRI
  have hbt := World.block_lt_of_cell? W _ ht
  have hbl := World.block_lt_of_cell? W _ hl
  clear hj hp hY hJ
  go_enter Try.func43, Try.ntmps43
  go_wp2_with fail
  go_region_with
    (first
      | (go_at_call 24
         refine HR.mono ?_
         rintro e w2 ⟨rfl, hb2⟩
         have hb2' : Below W.heap.size W w2 := ⟨hb2.os, hb2.tape, hb2.output, hb2.size, hb2.block⟩
         have hl2 : w2.cell? ⟨Bl, 0, none⟩ = some (.string lo) := by rw [hb2'.cell hbl]; exact hl
         have HB2 : Hid (Below W.heap.size W w2) := hb2'
         clear hb2 hb2' HR)
      | (go_at_call 44
         refine (HRI w2 HB2.out).mono ?_
         clear HRI
         intro e w3 h3
         obtain ⟨bb, rfl, HRES⟩ : ∃ bb : Bool, e = .returned (.bool bb) ∧ Hid ((∃ ys : List (El es), ys.map (·.1) = fil (d + 1) T lo ∧ J ys w3) ∨ (∃ ys : List (El es), ys.map (·.1) <+: fil (d + 1) T lo ∧ Jx ys w3)) := by
           rcases h3 with ⟨rfl, ys, hy1, hy2, -⟩ | ⟨rfl, ys, hy1, hy2⟩
           · exact ⟨true, rfl, .inl ⟨ys, hy1, by simpa using hy2⟩⟩
           · exact ⟨false, rfl, .inr ⟨ys, hy1, by simpa using hy2⟩⟩
         clear h3))
  all_goals go_wp2_with fail
  all_goals go_end0
  all_goals exact ⟨⟨_, rfl⟩, HRES.out⟩

theorem from_seqO (w₀ : World) (tb : Nat) (T : Tr) (ne : Int) (d : Nat) (hT : Tin w₀ tb T ne d) (lo : ByteArray) (hlo : lo.size ≤ 140737488355328) (X : Nat → Prop) (Bt Bl : Nat) (w : World) (hb : Below w₀.heap.size w₀ w) (hX : ∀ b, X b → b < w.heap.size)
    (ht : w.cell? ⟨Bt, 0, none⟩ = some (.pointer (some ⟨tb, 0, none⟩))) (hl : w.cell? ⟨Bl, 0, none⟩ = some (.string lo)) :
    SeqO (Kp w₀.heap.size X) 43 #[.pointer (some ⟨Bt, 0, none⟩), .pointer (some ⟨Bl, 0, none⟩)] (encE (fil (d + 1) T lo)) (fun ys => ys.map (·.1) = fil (d + 1) T lo) (fun ys => ys.map (·.1) <+: fil (d + 1) T lo) (fun pre x => (pre ++ [x]).map (·.1) <+: fil (d + 1) T lo) w := fun l J Jx W hW hlt hJ hJx hY h0 =>
  from1_calls w₀ tb T ne d hT lo hlo l w.heap.size X _ J Jx (ownFrom_abs hJ) hY hX Bt Bl W (hb.trans (hW.mono hb.size)) hW.size (by rw [hW.cell (World.block_lt_of_cell? w _ ht)]; exact ht) (by rw [hW.cell (World.block_lt_of_cell? w _ hl)]; exact hl) h0 (List.prefix_refl _)
theorem from_seq (w₀ : World) (tb : Nat) (T : Tr) (ne : Int) (d : Nat) (hT : Tin w₀ tb T ne d) (lo : ByteArray) (hlo : lo.size ≤ 140737488355328) (X : Nat → Prop) (Bt Bl : Nat) (w : World) (hb : Below w₀.heap.size w₀ w) (hX : ∀ b, X b → b < w.heap.size)
    (ht : w.cell? ⟨Bt, 0, none⟩ = some (.pointer (some ⟨tb, 0, none⟩))) (hl : w.cell? ⟨Bl, 0, none⟩ = some (.string lo)) :
    SeqY (Kp w₀.heap.size X) 43 #[.pointer (some ⟨Bt, 0, none⟩), .pointer (some ⟨Bl, 0, none⟩)] (encE (fil (d + 1) T lo)) (fun ys => ys.map (·.1) = fil (d + 1) T lo) (fun ys => ys.map (·.1) <+: fil (d + 1) T lo) (fil (d + 1) T lo).length w := fun l J Jx W hW hlt hJ hJx hY h0 =>
  from_seqO w₀ tb T ne d hT lo hlo X Bt Bl w hb hX ht hl l J Jx W hW hlt hJ hJx (fun m pre x W1 h1 h2 => hY m pre x W1 h1 (by have := h2.length_le; simp at this; omega)) h0

theorem from_calls (ao : Option Addr) (lo : ByteArray) (w : World) :
    Calls Try.prog 21 #[.pointer ao, .string lo] w fun e w' => e = .returned (.func (.func 43) #[] #[.pointer (some ⟨w.heap.size, 0, none⟩), .pointer (some ⟨w.heap.size + 1, 0, none⟩)]) ∧ w' = (w.alloc (.cells #[.pointer ao] 24)).alloc (.cells #[.string lo] 9) := by
  have hmf : ∀ (fn : Fn) (first cap : Array Value) (w : World), (Instr.makeFunc fn first cap).run Try.prog w = .ok (.func fn first cap) w := fun _ _ _ _ => rfl
  go_enter Try.func21, Try.ntmps21
  go_wp2
  go_ret
  exact ⟨rfl, rfl⟩
theorem all_calls (ao : Option Addr) (w : World) :
    Calls Try.prog 7 #[.pointer ao] w fun e w' => e = .returned (.func (.func 43) #[] #[.pointer (some ⟨w.heap.size, 0, none⟩), .pointer (some ⟨w.heap.size + 1, 0, none⟩)]) ∧ w' = (w.alloc (.cells #[.pointer ao] 24)).alloc (.cells #[.string ⟨#[]⟩] 9) := by
  have HF := from_calls ao ⟨#[]⟩ w
  go_enter Try.func7, Try.ntmps7
  go_wp2_with fail
  refine HF.mono ?_
  clear HF
  rintro e w1 ⟨rfl, rfl⟩
  go_wp2
  go_ret
  exact ⟨rfl, rfl⟩

/-- The two boxes that From lays. -/
theorem from_boxes {w w1 : World} {ao : Option Addr} {lo : ByteArray} (h : w1 = (w.alloc (.cells #[.pointer ao] 24)).alloc (.cells #[.string lo] 9)) :
    Below w.heap.size w w1 ∧ w1.heap.size = w.heap.size + 2 ∧ w1.cell? ⟨w.heap.size, 0, none⟩ = some (.pointer ao) ∧ w1.cell? ⟨w.heap.size + 1, 0, none⟩ = some (.string lo) := by
  subst h
  have e1 : ((w.alloc (.cells #[.pointer ao] 24)).alloc (.cells #[.string lo] 9)).heap[w.heap.size]? = some (.cells #[.pointer ao] 24) := by
    rw [Below.heap_alloc _ _ _ (by simp)]; exact heap_alloc_new _ _
  have e2 : ((w.alloc (.cells #[.pointer ao] 24)).alloc (.cells #[.string lo] 9)).heap[w.heap.size + 1]? = some (.cells #[.string lo] 9) := by
    have := heap_alloc_new (w.alloc (.cells #[.pointer ao] 24)) (.cells #[.string lo] 9)
    rwa [World.size_alloc] at this
  exact ⟨((Below.refl _ w).alloc (Nat.le_refl _) _).alloc (by simp) _, by simp [World.size_alloc], by rw [cell_of_blk e1]; rfl, by rw [cell_of_blk e2]; rfl⟩
end Go.Proofs.Ytnmndjplbcpglaa
