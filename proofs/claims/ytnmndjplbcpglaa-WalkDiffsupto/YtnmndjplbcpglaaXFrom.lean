import Derived.Test.YtnmndjplbcpglaaXRemade
import Derived.Test.YtnmndjplbcpglaaXRise
import Derived.Deep.RegionWith
/- The document's From over sorted lists. -/
namespace Go.Proofs.Ytnmndjplbcpglaa
open Go.RowKit
set_option linter.unusedVariables false

/-- The places of the entries at which p holds, among the first j. -/
def idxTo (p : En → Bool) (es : List En) (j : Nat) : List Nat := (List.range j).filter fun i => p (es.getD i (⟨#[]⟩, 0))
theorem idxTo_succ (p : En → Bool) (es : List En) (j : Nat) (hj : j < es.length) : idxTo p es (j + 1) = idxTo p es j ++ (if p es[j] then [j] else []) := by
  unfold idxTo
  rw [List.range_succ, List.filter_append]
  congr 1
  simp [List.filter_cons, hj]
theorem idxTo_len (p : En → Bool) (es : List En) (j : Nat) : (idxTo p es j).length ≤ j := by
  have := List.length_filter_le (fun i => p (es.getD i (⟨#[]⟩, 0))) (List.range j)
  simpa [idxTo] using this
theorem idxTo_map (p : En → Bool) (es : List En) (j : Nat) (hj : j ≤ es.length) : (idxTo p es j).map (fun i => es.getD i (⟨#[]⟩, 0)) = (es.take j).filter p := by
  induction j with
  | zero => simp [idxTo]
  | succ j ih =>
    rw [idxTo_succ p es j (by omega), List.map_append, ih (by omega), List.take_succ_eq_append_getElem (by omega : j < es.length), List.filter_append]
    congr 1
    by_cases h : p es[j] = true
    · simp [h, show j < es.length by omega]
    · simp [h]
theorem idxTo_lt (p : En → Bool) (es : List En) (j : Nat) : ∀ i ∈ idxTo p es j, i < j := fun i hi => by
  have := (List.mem_filter.1 hi).1
  simpa using this
def natV (l : List Nat) : List Value := ints (l.map (fun i : Nat => (i : Int)))
theorem natV_length (l : List Nat) : (natV l).length = l.length := by simp [natV, ints]

structure IdI (w : World) (tc : Array Value) (l : List Nat) (ao : Option Addr) (n cap : Nat) (W : World) : Prop where
  below : Below w.heap.size w W
  tb : W.heap[w.heap.size]? = some (.cells tc 28)
  own : OwnV W w.heap.size 3 (.slice ao n cap) (natV l)
theorem IdI.keep {w : World} {tc : Array Value} {l : List Nat} {ao : Option Addr} {n cap : Nat} {W W' : World} (h : IdI w tc l ao n cap W) (hb : Below W.heap.size W W') : IdI w tc l ao n cap W' := ⟨h.below.trans (hb.mono h.below.size), (hb.block _ (lt_of_heap h.tb)).trans h.tb, h.own.below hb⟩

set_option maxRecDepth 100000 in
set_option maxHeartbeats 1600000 in
theorem refFrom_calls (d : Dv) (es : List En) (ps : List ByteArray) (lo : ByteArray) (w : World) (hd : DocAt w d es ps) (hlo : lo.size ≤ 140737488351296) (hl : es.length ≤ 5864062014650) :
    Calls Try.prog 10 #[.agg (d.cells es.length ps.length), .string lo] w fun e w' => ∃ x : Sv, e = .returned (.slice x.ao (idxTo (notLt (kyb lo)) es es.length).length x.cap) ∧ x.vs = natV (idxTo (notLt (kyb lo)) es es.length) ∧ x.At w' ∧ Below w.heap.size w w' := by
  obtain ⟨w2, HW2⟩ : ∃ w2, Hid (w2 = (w.alloc (.cells (d.cells es.length ps.length) 28)).alloc (.cells #[] 3)) := ⟨_, rfl⟩
  have hs2 : w2.heap.size = w.heap.size + 2 := by rw [HW2.out]; simp [World.size_alloc]
  have e1 : (w.alloc (.cells (d.cells es.length ps.length) 28)).heap.size = w.heap.size + 1 := by simp [World.size_alloc]
  have q0 : w2.heap[w.heap.size]? = some (.cells (d.cells es.length ps.length) 28) := by
    rw [HW2.out, Below.heap_alloc _ _ _ (by omega)]; exact heap_alloc_new _ _
  have HI0 : Hid (IdI w (d.cells es.length ps.length) (idxTo (notLt (kyb lo)) es 0) (some ⟨w.heap.size + 1, 0, none⟩) 0 0 w2) := by
    have hM := OwnV.made (w.alloc (.cells (d.cells es.length ps.length) 28)) 3 [] (by decide)
    rw [e1] at hM
    refine ⟨by rw [HW2.out]; exact ((Below.refl _ w).alloc (Nat.le_refl _) _).alloc (by omega) _, q0, ?_⟩
    rw [HW2.out]; exact OwnV.mono (B' := w.heap.size) hM (by omega)
  have k0 : (((w.alloc (.cells (d.cells es.length ps.length) 28)).alloc (.cells #[] 3))).cell? ⟨w.heap.size, 0, none⟩ = some (.slice d.k.ao es.length d.k.cap) := by rw [← HW2.out, cell_of_blk q0]; rfl
  have HX : Hid (∀ i (hi : i < es.length), ∃ b off, d.k.ao = some ⟨b, off, none⟩ ∧ w.cell? ⟨b, off + i, none⟩ = some (.string es[i].1)) := fun i hi => by
    obtain ⟨b, off, h1, h2⟩ := hd.k.str hd.kk i (by rw [keysOf_len]; exact hi)
    exact ⟨b, off, h1, by rw [h2]; simp [keysOf]⟩
  have HZ : Hid (∀ i (hi : i < es.length), es[i].1.size ≤ 140737488351296) := fun i hi => hd.ksz _ (List.mem_map.2 ⟨_, List.getElem_mem hi, rfl⟩)
  clear hd q0
  obtain ⟨tc, htc⟩ : ∃ tc, tc = d.cells es.length ps.length := ⟨_, rfl⟩
  have HTC : Hid (tc = d.cells es.length ps.length) := htc
  rw [← htc] at HI0 HW2 k0 e1
  have htc' : tc = #[.slice d.k.ao es.length d.k.cap, .slice d.v.ao es.length d.v.cap, .slice d.l.ao es.length d.l.cap, .slice d.p.ao ps.length d.p.cap, .slice d.m.ao ps.length d.m.cap] := htc
  rw [htc'] at HW2 k0
  unfold Dv.cells
  clear htc htc' e1
  go_enter Try.func10, Try.ntmps10
  go_wp2_with fail
  rw [← HW2.out]
  clear HW2 k0
  obtain ⟨⟨ka, kc, kv⟩, dv, dl, dp, dm⟩ := d
  dsimp only at HX ⊢
  go_loopw [5, 12] (fun o i wr => ∃ (j : Nat) (ao : Option Addr) (n cap : Nat), j ≤ es.length ∧ i = .int .i64 j ∧ o = .slice ao n cap ∧ Hid (IdI w tc (idxTo (notLt (kyb lo)) es j) ao n cap wr)) (fun _ i _ => es.length - (intOf i).toNat)
  case atStart => exact ⟨0, _, _, _, Nat.zero_le _, rfl, rfl, HI0⟩
  case round =>
    obtain ⟨j, ao, n, cap, hj, rfl, rfl, HI⟩ := hrel
    clear HI0
    by_cases hlt : j < es.length
    · obtain ⟨b, off, rfl, hc⟩ := HX.out j hlt
      have hcw : wr.cell? ⟨b, off + j, none⟩ = some (.string es[j].1) := by rw [HI.out.below.cell (World.block_lt_of_cell? w _ hc)]; exact hc
      have HL := less_calls es[j].1 lo wr (HZ.out j hlt) hlo
      rw [less_lt] at HL
      have HSN : Hid (idxTo (notLt (kyb lo)) es (j + 1) = idxTo (notLt (kyb lo)) es j ++ (if notLt (kyb lo) es[j] then [j] else [])) := idxTo_succ _ es j hlt
      have hil := idxTo_len (notLt (kyb lo)) es j
      clear hc
      go_wp2_with fail
      refine HL.mono ?_
      clear HL
      rintro e w3 ⟨rfl, q, hw3⟩
      have HI3 : Hid (IdI w tc (idxTo (notLt (kyb lo)) es j) ao n cap w3) := HI.out.keep (by rw [hw3]; exact drewN_below wr q)
      have hbs := HI3.out.below.size
      clear hw3 hcw HI
      by_cases hL : Lt es[j].1.data.toList lo.data.toList
      · rw [decide_eq_true hL]
        have HI4 : Hid (IdI w tc (idxTo (notLt (kyb lo)) es (j + 1)) ao n cap w3) := by
          show IdI _ _ _ _ _ _ _
          rw [HSN.out, show notLt (kyb lo) es[j] = false by unfold notLt; rw [decide_eq_true (show Lt (kyl es[j]) (kyb lo) from hL)]; rfl]
          simpa using HI3.out
        clear HI3
        go_wp2
        go_roundw
        case rel => exact ⟨j + 1, ao, n, cap, by omega, by go_num, rfl, HI4⟩
        case measure => simp [intOf]; omega
      · rw [decide_eq_false hL]
        go_wp2_with (at_builtin; refine append_val w3 rfl (.tmp 21) (.tmp 23) 26 3 (.int .i64 0) 8 Try.underlying26 infoI rfl rfl w.heap.size _ _ rfl (.int .i64 (j : Int)) rfl _ rfl (by first | rfl | simp) HI3.out.own (by rw [natV_length]; omega) (by rw [natV_length]; omega) hbs ?_)
        intro v4 w4 ho4 hg4
        obtain ⟨ao4, cap4, hv4⟩ := ho4.shape
        obtain ⟨n4, hn4⟩ : ∃ n4, n4 = (natV (idxTo (notLt (kyb lo)) es j) ++ [Value.int .i64 (j : Int)]).length := ⟨_, rfl⟩
        rw [← hn4] at hv4
        subst hv4
        clear hn4
        have HI4 : Hid (IdI w tc (idxTo (notLt (kyb lo)) es (j + 1)) ao4 n4 cap4 w4) := by
          refine ⟨HI3.out.below.trans (hg4.toBelow hbs (fun k hk => (HI3.out.own.lt k hk).1)), grew_blk HI3.out.own hg4 HI3.out.tb (by decide), ?_⟩
          rw [HSN.out, show notLt (kyb lo) es[j] = true by unfold notLt; rw [decide_eq_false (show ¬ Lt (kyl es[j]) (kyb lo) from hL)]; rfl]
          have : natV (idxTo (notLt (kyb lo)) es j ++ (if true = true then [j] else [])) = natV (idxTo (notLt (kyb lo)) es j) ++ [Value.int .i64 (j : Int)] := by simp [natV, ints]
          rw [this]; exact ho4
        clear ho4 hg4 HI3
        go_wp2
        go_roundw
        case rel => exact ⟨j + 1, ao4, n4, cap4, by omega, by go_num, rfl, HI4⟩
        case measure => simp [intOf]; omega
    · have hjl : j = es.length := by omega
      subst hjl
      go_wp2
      go_ret
      obtain ⟨x, h1, h2, h3⟩ := HI.out.own.sv
      refine ⟨x, ?_, h2, h3, HI.out.below⟩
      rw [h2, natV_length] at h1
      rw [h1]; rfl
end Go.Proofs.Ytnmndjplbcpglaa

/- Layer 4 (walk): From, All. -/
namespace Go.Proofs.Ytnmndjplbcpglaa
open Go.RowKit Go.Shelf
set_option linter.unusedVariables false

theorem ownFrom_abs {β : Type} {B : Nat} {J : β → World → Prop} (h : OwnM B J) : Abs J := fun s A C hs hb => h s A C none hs ⟨hb.os, hb.tape, hb.output, hb.size, fun k hk _ => hb.block k hk⟩ (fun r e => by cases e)

/-- A tree that lay in w₀, and what is said of it. -/
structure Tin (w₀ : World) (tb : Nat) (T : Tr) (ne : Int) (d : Nat) : Prop where
  tree : TreeAt w₀ tb T ne
  wf : WF T
  dep : Dep (d + 1) T
  root : T.p = kE
theorem Held.tin {w W : World} {tb : Nat} {T : Tr} {ne : Int} {d : Nat} {es : List En} (h : Held w W tb T ne d es) : Tin W tb T ne d := ⟨h.good.tree, h.good.wf, h.good.dep, h.good.root⟩

set_option maxRecDepth 100000 in
set_option maxHeartbeats 4000000 in
theorem from1_calls (w₀ : World) (tb : Nat) (T : Tr) (ne : Int) (d : Nat) (hT : Tin w₀ tb T ne d) (lo : ByteArray) (hlo : lo.size ≤ 140737488355328) (l B0 : Nat) (X : Nat → Prop) (es : List En) (J Jx : List (El es) → World → Prop) (hJ : Abs J) (hY : YOk l w₀.heap.size X es J Jx) (hX : ∀ b, X b → b < B0)
    (Bt Bl : Nat) (W : World) (hb : Below w₀.heap.size w₀ W) (hB : B0 ≤ W.heap.size) (ht : W.cell? ⟨Bt, 0, none⟩ = some (.pointer (some ⟨tb, 0, none⟩))) (hl : W.cell? ⟨Bl, 0, none⟩ = some (.string lo)) (hj : J [] W) (hp : fil (d + 1) T lo <+: es) :
    Calls Try.prog 43 #[.func (.yield l) #[] #[], .pointer (some ⟨Bt, 0, none⟩), .pointer (some ⟨Bl, 0, none⟩)] W fun e W' => (∃ v, e = .returned v) ∧
      ((∃ ys : List (El es), ys.map (·.1) = fil (d + 1) T lo ∧ J ys W') ∨ (∃ ys : List (El es), ys.map (·.1) <+: fil (d + 1) T lo ∧ Jx ys W')) := by
  have HR := root_calls tb T ne W.drew ((hT.tree.keep hb).keep ⟨rfl, rfl, rfl, Nat.le_refl _, fun _ _ => rfl⟩)
  have HRI := fun (W2 : World) (h2 : Below W.heap.size W W2) => rise_calls w₀ l B0 X es J Jx hJ hY hX (d + 1) T lo [] W2 hT.dep hT.wf hT.tree.tat (hb.trans (h2.mono hb.size)) (Nat.le_trans hB h2.size) (hJ _ _ _ hj h2) (by simpa using hp) hlo
  unfold nodeV at HR HRI
  have hbt := World.block_lt_of_cell? W _ ht
  have hbl := World.block_lt_of_cell? W _ hl
  clear hj hp hY hJ
  go_enter Try.func43, Try.ntmps43
  go_wp2_with fail
  go_region_with
    (first
      | (go_at_call 24
         refine HR.mono ?_
         rintro e w2 ⟨rfl, hb2⟩
         have hb2' : Below W.heap.size W w2 := ⟨hb2.os, hb2.tape, hb2.output, hb2.size, hb2.block⟩
         have hl2 : w2.cell? ⟨Bl, 0, none⟩ = some (.string lo) := by rw [hb2'.cell hbl]; exact hl
         have HB2 : Hid (Below W.heap.size W w2) := hb2'
         clear hb2 hb2' HR)
      | (go_at_call 44
         refine (HRI w2 HB2.out).mono ?_
         clear HRI
         intro e w3 h3
         obtain ⟨bb, rfl, HRES⟩ : ∃ bb : Bool, e = .returned (.bool bb) ∧ Hid ((∃ ys : List (El es), ys.map (·.1) = fil (d + 1) T lo ∧ J ys w3) ∨ (∃ ys : List (El es), ys.map (·.1) <+: fil (d + 1) T lo ∧ Jx ys w3)) := by
           rcases h3 with ⟨rfl, ys, hy1, hy2, -⟩ | ⟨rfl, ys, hy1, hy2⟩
           · exact ⟨true, rfl, .inl ⟨ys, hy1, by simpa using hy2⟩⟩
           · exact ⟨false, rfl, .inr ⟨ys, hy1, by simpa using hy2⟩⟩
         clear h3))
  all_goals go_wp2_with fail
  all_goals go_end0
  all_goals exact ⟨⟨_, rfl⟩, HRES.out⟩

theorem from_seqO (w₀ : World) (tb : Nat) (T : Tr) (ne : Int) (d : Nat) (hT : Tin w₀ tb T ne d) (lo : ByteArray) (hlo : lo.size ≤ 140737488355328) (X : Nat → Prop) (Bt Bl : Nat) (w : World) (hb : Below w₀.heap.size w₀ w) (hX : ∀ b, X b → b < w.heap.size)
    (ht : w.cell? ⟨Bt, 0, none⟩ = some (.pointer (some ⟨tb, 0, none⟩))) (hl : w.cell? ⟨Bl, 0, none⟩ = some (.string lo)) :
    SeqO (Kp w₀.heap.size X) 43 #[.pointer (some ⟨Bt, 0, none⟩), .pointer (some ⟨Bl, 0, none⟩)] (encE (fil (d + 1) T lo)) (fun ys => ys.map (·.1) = fil (d + 1) T lo) (fun ys => ys.map (·.1) <+: fil (d + 1) T lo) (fun pre x => (pre ++ [x]).map (·.1) <+: fil (d + 1) T lo) w := fun l J Jx W hW hlt hJ hJx hY h0 =>
  from1_calls w₀ tb T ne d hT lo hlo l w.heap.size X _ J Jx (ownFrom_abs hJ) hY hX Bt Bl W (hb.trans (hW.mono hb.size)) hW.size (by rw [hW.cell (World.block_lt_of_cell? w _ ht)]; exact ht) (by rw [hW.cell (World.block_lt_of_cell? w _ hl)]; exact hl) h0 (List.prefix_refl _)
theorem from_seq (w₀ : World) (tb : Nat) (T : Tr) (ne : Int) (d : Nat) (hT : Tin w₀ tb T ne d) (lo : ByteArray) (hlo : lo.size ≤ 140737488355328) (X : Nat → Prop) (Bt Bl : Nat) (w : World) (hb : Below w₀.heap.size w₀ w) (hX : ∀ b, X b → b < w.heap.size)
    (ht : w.cell? ⟨Bt, 0, none⟩ = some (.pointer (some ⟨tb, 0, none⟩))) (hl : w.cell? ⟨Bl, 0, none⟩ = some (.string lo)) :
    SeqY (Kp w₀.heap.size X) 43 #[.pointer (some ⟨Bt, 0, none⟩), .pointer (some ⟨Bl, 0, none⟩)] (encE (fil (d + 1) T lo)) (fun ys => ys.map (·.1) = fil (d + 1) T lo) (fun ys => ys.map (·.1) <+: fil (d + 1) T lo) (fil (d + 1) T lo).length w := fun l J Jx W hW hlt hJ hJx hY h0 =>
  from_seqO w₀ tb T ne d hT lo hlo X Bt Bl w hb hX ht hl l J Jx W hW hlt hJ hJx (fun m pre x W1 h1 h2 => hY m pre x W1 h1 (by have := h2.length_le; simp at this; omega)) h0

theorem from_calls (ao : Option Addr) (lo : ByteArray) (w : World) :
    Calls Try.prog 21 #[.pointer ao, .string lo] w fun e w' => e = .returned (.func (.func 43) #[] #[.pointer (some ⟨w.heap.size, 0, none⟩), .pointer (some ⟨w.heap.size + 1, 0, none⟩)]) ∧ w' = (w.alloc (.cells #[.pointer ao] 24)).alloc (.cells #[.string lo] 9) := by
  have hmf : ∀ (fn : Fn) (first cap : Array Value) (w : World), (Instr.makeFunc fn first cap).run Try.prog w = .ok (.func fn first cap) w := fun _ _ _ _ => rfl
  go_enter Try.func21, Try.ntmps21
  go_wp2
  go_ret
  exact ⟨rfl, rfl⟩
theorem all_calls (ao : Option Addr) (w : World) :
    Calls Try.prog 7 #[.pointer ao] w fun e w' => e = .returned (.func (.func 43) #[] #[.pointer (some ⟨w.heap.size, 0, none⟩), .pointer (some ⟨w.heap.size + 1, 0, none⟩)]) ∧ w' = (w.alloc (.cells #[.pointer ao] 24)).alloc (.cells #[.string ⟨#[]⟩] 9) := by
  have HF := from_calls ao ⟨#[]⟩ w
  go_enter Try.func7, Try.ntmps7
  go_wp2_with fail
  refine HF.mono ?_
  clear HF
  rintro e w1 ⟨rfl, rfl⟩
  go_wp2
  go_ret
  exact ⟨rfl, rfl⟩

/-- The two boxes that From lays. -/
theorem from_boxes {w w1 : World} {ao : Option Addr} {lo : ByteArray} (h : w1 = (w.alloc (.cells #[.pointer ao] 24)).alloc (.cells #[.string lo] 9)) :
    Below w.heap.size w w1 ∧ w1.heap.size = w.heap.size + 2 ∧ w1.cell? ⟨w.heap.size, 0, none⟩ = some (.pointer ao) ∧ w1.cell? ⟨w.heap.size + 1, 0, none⟩ = some (.string lo) := by
  subst h
  have e1 : ((w.alloc (.cells #[.pointer ao] 24)).alloc (.cells #[.string lo] 9)).heap[w.heap.size]? = some (.cells #[.pointer ao] 24) := by
    rw [Below.heap_alloc _ _ _ (by simp)]; exact heap_alloc_new _ _
  have e2 : ((w.alloc (.cells #[.pointer ao] 24)).alloc (.cells #[.string lo] 9)).heap[w.heap.size + 1]? = some (.cells #[.string lo] 9) := by
    have := heap_alloc_new (w.alloc (.cells #[.pointer ao] 24)) (.cells #[.string lo] 9)
    rwa [World.size_alloc] at this
  exact ⟨((Below.refl _ w).alloc (Nat.le_refl _) _).alloc (by simp) _, by simp [World.size_alloc], by rw [cell_of_blk e1]; rfl, by rw [cell_of_blk e2]; rfl⟩
end Go.Proofs.Ytnmndjplbcpglaa
