/- Layer 4 (walk): Diff. -/
import Derived.Test.YtnmndjplbcpglaaXDiffM
import Derived.Sort.LoopGhostIn
namespace Go.Proofs.Ytnmndjplbcpglaa
open Go.RowKit Go.Shelf
open scoped Classical
set_option linter.unusedVariables false
attribute [local go_sem] Oper.semAt_some
theorem run_store_fn4 {P : Program} {w : World} (a : Addr) (m : Mode) (f : Fn) (x y : Array Value) : (store a (.func f x y) m).run P w = stored P w a (.func f x y) m := run_store P w a _ m rfl
attribute [local go_sem] run_store_fn4
theorem Held.at {w W W' : World} {tb : Nat} {T : Tr} {ne : Int} {d : Nat} {es : List En} (h : Held w W tb T ne d es) (ht : TreeAt W' tb T ne) : Held W' W' tb T ne d es := ⟨⟨Below.refl _ _, ht, h.good.wf, h.good.root, h.good.dep, h.good.lo, h.good.hi⟩, h.has, h.sorted, h.cnt⟩

set_option maxRecDepth 100000 in
set_option maxHeartbeats 8000000 in
theorem diff_calls (tba : Nat) (Ta : Tr) (nea : Int) (da : Nat) (ea : List En) (tbb : Nat) (Tb : Tr) (neb : Int) (db : Nat) (eb : List En) (w : World) (hA : Held w w tba Ta nea da ea) (hB : Held w w tbb Tb neb db eb) (hN : eb.length ≤ 11728124029610) (hD : (diffE ea eb).length ≤ 5864062014800) :
    Calls Try.prog 15 #[.pointer (some ⟨tba, 0, none⟩), .pointer (some ⟨tbb, 0, none⟩)] w fun e w' => ∃ v, e = .returned v ∧ Below w.heap.size w w' ∧ OwnG cgCells 50 2 w' w.heap.size v (diffE ea eb) := by
  have hmf : ∀ (fn : Fn) (first cap : Array Value) (w : World), (Instr.makeFunc fn first cap).run Try.prog w = .ok (.func fn first cap) w := fun _ _ _ _ => rfl
  have hnot : ∀ (x : Bool) (w : World), (Op.unary .not (.bool x)).run Try.prog w = .ok (.bool (!x)) w := fun _ _ => rfl
  obtain ⟨w1, HW1⟩ : ∃ w1, Hid (w1 = w.alloc (.cells #[.slice none 0 0] 47)) := ⟨_, rfl⟩
  have hs1 : w1.heap.size = w.heap.size + 1 := by rw [HW1.out, World.size_alloc]
  have hb1 : Below w.heap.size w w1 := by rw [HW1.out]; exact (Below.refl _ _).alloc (Nat.le_refl _) _
  have q1 : w1.heap[w.heap.size]? = some (.cells #[.slice none 0 0] 47) := by rw [HW1.out]; exact heap_alloc_new _ _
  obtain ⟨w2, HW2⟩ : ∃ w2, Hid (w2 = w1.alloc (.cells #[.func (.func 39) #[] #[.pointer (some ⟨w.heap.size, 0, none⟩)]] 85)) := ⟨_, rfl⟩
  have hb2 : Below w1.heap.size w1 w2 := by rw [HW2.out]; exact (Below.refl _ _).alloc (Nat.le_refl _) _
  have q2 : w2.heap[w.heap.size + 1]? = some (.cells #[.func (.func 39) #[] #[.pointer (some ⟨w.heap.size, 0, none⟩)]] 85) := by rw [HW2.out, ← hs1]; exact heap_alloc_new _ _
  have hb02 : Below w.heap.size w w2 := hb1.trans (hb2.mono hb1.size)
  have q1' : w2.heap[w.heap.size]? = some (.cells #[.slice none 0 0] 47) := (hb2.block _ (lt_of_heap q1)).trans q1
  have HEN := entries_calls tbb Tb neb db eb w2 (hB.at (hB.good.tree.keep hb02)) hN
  have HS : Hid (Below w.heap.size w w2 ∧ w2.heap[w.heap.size]? = some (.cells #[.slice none 0 0] 47) ∧ w2.heap[w.heap.size + 1]? = some (.cells #[.func (.func 39) #[] #[.pointer (some ⟨w.heap.size, 0, none⟩)]] 85)) := ⟨hb02, q1', q2⟩
  have HA : Hid (Held w w tba Ta nea da ea) := hA
  clear hb1 hb2 q1 q2 q1' hb02 hA hB
  refine (callsIn_wide (n := 8)).1 ?_
  refine callsIn_of_wp_marks Try.func15 rfl trivial ?_ rfl
  refine wpIn_wide.2 ?_
  simp only [Try.ntmps15, List.size_toArray, List.length_cons, List.length_nil, Nat.reduceAdd, Nat.reduceSub, Array.replicate_succ, Array.replicate_zero, List.push_toArray, List.append_toArray, List.nil_append, List.cons_append]
  go_wp2_with fail
  rw [← HW1.out, ← HW2.out]
  clear HW1 HW2 hs1
  refine HEN.mono ?_
  clear HEN
  rintro e w3 ⟨v, rfl, hb3, hv⟩
  obtain ⟨aL, cL, hve, hL⟩ := hv.left
  subst hve
  obtain ⟨w4, HW4⟩ : ∃ w4, Hid (w4 = w3.alloc (.cells #[.slice aL eb.length cL] 86)) := ⟨_, rfl⟩
  have hb4 : Below w3.heap.size w3 w4 := by rw [HW4.out]; exact (Below.refl _ _).alloc (Nat.le_refl _) _
  have q4 : w4.heap[w3.heap.size]? = some (.cells #[.slice aL eb.length cL] 86) := by rw [HW4.out]; exact heap_alloc_new _ _
  have hb24 : Below w2.heap.size w2 w4 := hb3.trans (hb4.mono hb3.size)
  have hI4 : DfI w w.heap.size (w.heap.size + 1) w3.heap.size ([], eb) w4 :=
    ⟨⟨HS.out.1.trans (hb24.mono HS.out.1.size), none, 0, 0, (hb24.block _ (lt_of_heap HS.out.2.1)).trans HS.out.2.1, World.ownsRow_nil _ _ _ _⟩, (hb24.block _ (lt_of_heap HS.out.2.2)).trans HS.out.2.2, aL, cL, q4, hL.kept fun b cs hc => (hb4.block b (lt_of_heap hc)).trans hc⟩
  obtain ⟨b7, hb7e⟩ : ∃ b7, b7 = w3.heap.size := ⟨_, rfl⟩
  have hb7 : w.heap.size ≤ b7 := by rw [hb7e]; exact Nat.le_trans HS.out.1.size hb3.size
  rw [← hb7e] at hI4
  have HI4 : Hid (DfI w w.heap.size (w.heap.size + 1) b7 ([], eb) w4) := hI4
  have HF := all_calls (some ⟨tba, 0, none⟩) w4
  clear hb3 hv hL hb4 q4 hb24 hI4 HS
  go_wp2_with fail
  rw [← HW4.out, ← hb7e]
  clear HW4 hb7e
  refine HF.mono ?_
  clear HF
  rintro e w5 ⟨rfl, hw5⟩
  obtain ⟨hb5, hs5, d1, d2⟩ := from_boxes hw5
  have hI5 : DfI w w.heap.size (w.heap.size + 1) b7 ([], eb) w5 := HI4.out.keep hb5
  have hb05 : Below w.heap.size w w5 := hI5.acc.below
  obtain ⟨s4, hs4⟩ : ∃ s4, s4 = w4.heap.size := ⟨_, rfl⟩
  rw [← hs4] at d1 d2 hs5 ⊢
  have hTin := HA.out.tin
  have hfil := filAll' HA.out
  clear hw5 hb5 HI4 hs4
  go_wp2_with fail
  refine (wpIn_wide (n := 8)).1 ?_
  refine range_lawO (n := 8) (by omega) (gf := 43) (lb := #[.pointer (some ⟨s4, 0, none⟩), .pointer (some ⟨s4 + 1, 0, none⟩)]) rfl (enters_of Try.func43 (by kernel_rfl) rfl)
    (from_seqO w tba Ta nea da hTin ⟨#[]⟩ (by decide) (fun _ => False) s4 (s4 + 1) w5 hb05 (fun b h => h.elim) d1 d2) (fun h1 h2 => h1.trans h2) (kp_put hb05.size) (Below.refl _ _) (fun _ => rfl)
    (fun pre W => DfI w w.heap.size (w.heap.size + 1) b7 (runD eb (pre.map (·.1))) W)
    (fun _ _ _ => False) ?hI (fun _ _ _ _ _ h _ _ => h) ?h0 ?a1 ?assign ?body ?done ?stop
  case assign =>
    intro l' m x W' K hK
    dsimp only [encE]
    gi_wp2
    exact hK
  case hI =>
    intro pre A C row hs hg hr
    exact DfI.ownM (α := Unit) (f := fun _ => runD eb (pre.map (·.1))) hb05.size [] A C row hs hg hr
  case h0 => exact hI5
  case body =>
    rintro l' m pre x W' hsz' hI' hok
    have hok' : pre.map (·.1) ++ [x.1] <+: ea := by
      have h1 := hok
      rw [List.map_append] at h1
      exact h1.trans (by rw [hfil]; exact List.prefix_refl _)
    have hle := runD_le (eb := eb) hok'
    rw [runD_snoc] at hle
    obtain ⟨⟨acc, left⟩, hs⟩ : ∃ s, s = runD eb (pre.map (·.1)) := ⟨_, rfl⟩
    rw [← hs] at hI' hle
    have HRS : Hid (runD eb ((pre ++ [x]).map (·.1)) = stepD acc left x.1) := by show _ = _; rw [List.map_append, List.map_cons, List.map_nil, runD_snoc, ← hs]
    have HI0 : Hid (DfI w w.heap.size (w.heap.size + 1) b7 (acc, left) W') := hI'
    have HLE : Hid ((stepD acc left x.1).1.length ≤ 5864062014800) := Nat.le_trans hle hD
    obtain ⟨⟨k, v⟩, hx⟩ : ∃ kv : En, kv = x.1 := ⟨_, rfl⟩
    -- what is left to show at the end
    have HEND : Hid (∀ (s : List En × List En) (W2 : World), s = stepD acc left x.1 → DfI w w.heap.size (w.heap.size + 1) b7 s W2 → KpD w.heap.size b7 w.heap.size W' W2 → KeepsFrom w5.heap.size W' W2 ∧ Kp w.heap.size (fun _ => False) W' W2 ∧ DfI w w.heap.size (w.heap.size + 1) b7 (runD eb ((pre ++ [x]).map (·.1))) W2) := fun s W2 h1 h2 h3 => by
      obtain ⟨k1, k2⟩ := HI0.out.toKp h3
      exact ⟨k1.from _, k2, by rw [HRS.out, ← h1]; exact h2⟩
    have hx1 : x.val.fst = k := by rw [← hx]
    have hx2 : x.val.snd = v := by rw [← hx]
    rw [← hx] at HLE HEND
    clear hI' hok hok' hs hle hI5 hTin hfil HRS hx
    gi_wp2_with fail
    rw [hx1, hx2]
    clear hx1 hx2
    gi_loopg [] left.length (fun gk wr => ∃ acc' left' : List En, left'.length = gk ∧ Hid (DfI w w.heap.size (w.heap.size + 1) b7 (acc', left') wr ∧ KpD w.heap.size b7 w.heap.size W' wr ∧ stepD acc' left' (k, v) = stepD acc left (k, v)))
    case atStart => exact ⟨acc, left, rfl, HI0.out, KpD.refl _ _ _ _, rfl⟩
    case round =>
      obtain ⟨acc', left', hgk, HI⟩ := hrel
      obtain ⟨aX, cX, x3, x4⟩ := HI.out.1.left
      have cf : wr.cell? ⟨w.heap.size + 1, 0, none⟩ = some (.func (.func 39) #[] #[.pointer (some ⟨w.heap.size, 0, none⟩)]) := by rw [cell_of_blk HI.out.1.fn]; rfl
      clear HI0
      cases left' with
      | nil =>
        have cb : wr.cell? ⟨b7, 0, none⟩ = some (.slice aX 0 cX) := by rw [cell_of_blk x3]; rfl
        have hla : acc'.length + 1 ≤ 5864062014805 := by have h1 := HLE.out; rw [← HI.out.2.2] at h1; simp only [stepD, List.length_append, List.length_cons, List.length_nil] at h1; omega
        have HTL := tell_calls w w.heap.size acc' k 2 wr HI.out.1.acc (Nat.le_refl _) hla
        clear x3 x4 hgk
        gi_wp2_with fail
        refine ⟨trivial, (fun h => by cases h), ?_⟩
        refine (CallsIn.inRound l' (callsIn_wide.2 HTL)).mono ?_
        clear HTL
        rintro e w6 ⟨rfl, hg6, hk6⟩
        have HF : Hid (_ ∧ _ ∧ _) := HEND.out (acc' ++ [(k, 2)], []) w6 (by rw [← HI.out.2.2]; simp [stepD]) (HI.out.1.told hg6 hk6) (HI.out.2.1.trans hk6.toD)
        clear hg6 hk6 cf cb HI HEND
        gi_wp2
        exact HF.out
      | cons y r =>
        obtain ⟨yk, yv⟩ := y
        have cb : wr.cell? ⟨b7, 0, none⟩ = some (.slice aX (r.length + 1) cX) := by rw [cell_of_blk x3]; rfl
        have zb : wr.frozen? ⟨b7, 0, none⟩ = false := frozen_of_blk x3
        obtain ⟨eb0, eo, rfl, -, y0, y1⟩ := x4.2 0 (by simp)
        simp only [List.getElem_cons_zero, Nat.zero_mul, Nat.add_zero] at y0 y1
        have hcmp := less_lt yk k
        by_cases hlt : Lt (kyb yk) (kyb k)
        · rw [decide_eq_true (show Lt yk.data.toList k.data.toList from hlt)] at hcmp
          have HST : Hid (stepD (acc' ++ [(yk, 1)]) r (k, v) = stepD acc left (k, v)) := by
            have h1 := HI.out.2.2
            rw [stepD_lt (show Lt (kyb (yk, yv).1) (kyb (k, v).1) from hlt)] at h1
            exact h1
          have hla : acc'.length + 1 ≤ 5864062014805 := by
            have h1 := HLE.out
            rw [← HST.out] at h1
            have h2 := (stepD_acc r (acc' ++ [(yk, 1)]) (k, v)).length_le
            simp only [List.length_append, List.length_cons, List.length_nil] at h2
            omega
          have HID : Hid (DfI w w.heap.size (w.heap.size + 1) b7 (acc', (yk, yv) :: r) wr.drew) := HI.out.1.keep ⟨rfl, rfl, rfl, Nat.le_refl _, fun _ _ => rfl⟩
          have HTL := tell_calls w w.heap.size acc' yk 1 wr.drew HID.out.acc (Nat.le_refl _) hla
          have hmx : Try.prog.follows .mixedOrders = true := by kernel_rfl
          have HKD : Hid (KpD w.heap.size b7 w.heap.size W' wr.drew) := ⟨⟨HI.out.2.1.below.os, HI.out.2.1.below.tape, HI.out.2.1.below.output, HI.out.2.1.below.size, HI.out.2.1.below.block⟩, HI.out.2.1.kept⟩
          clear x3 x4 HI
          gi_wp2_with fail
          gi_region_with_o (first
            | (refine ⟨trivial, (fun h => by cases h), ?_⟩
               refine (CallsIn.inRound l' (callsIn_wide.2 HTL)).mono ?_
               rintro e w6 ⟨rfl, hg6, hk6⟩
               have HI6 : Hid (DfI w w.heap.size (w.heap.size + 1) b7 (acc' ++ [(yk, 1)], (yk, yv) :: r) w6 ∧ KpD w.heap.size b7 w.heap.size W' w6) := ⟨HID.out.told hg6 hk6, HKD.out.trans hk6.toD⟩
               obtain ⟨aY, cY, u3, u4⟩ := HI6.out.1.left
               have cb6 : w6.cell? ⟨b7, 0, none⟩ = some (.slice aY (r.length + 1) cY) := by rw [cell_of_blk u3]; rfl
               have zb6 : w6.frozen? ⟨b7, 0, none⟩ = false := frozen_of_blk u3
               have ht6 := run_tail2 aY (r.length + 1) cY (by omega)
               rw [Nat.add_sub_cancel] at ht6
               have HU : Hid (_ ∧ _) := ⟨u3, u4⟩
               clear hg6 hk6 u3 u4 HTL))
          all_goals gi_wp2_with fail
          all_goals (
            obtain ⟨n1, n2⟩ := HI6.out.1.next HU.out.1 HU.out.2 hb7
            refine Handed.intro r.length (by rw [← hgk]; simp) ?_
            go_step
            (repeat apply Exists.intro)
            refine ⟨?_, rfl⟩
            exact ⟨_, r, rfl, n1, HI6.out.2.trans n2, HST.out⟩)
        · rw [decide_eq_false (show ¬ Lt yk.data.toList k.data.toList from hlt)] at hcmp
          by_cases hek : yk = k
          · subst hek
            have HAL := alike_calls v yv wr
            clear x3 x4 hgk
            gi_wp2_with fail
            refine ⟨trivial, (fun h => by cases h), ?_⟩
            refine (CallsIn.inRound l' (callsIn_wide.2 HAL)).mono ?_
            clear HAL
            rintro e w6 ⟨rfl, hb6⟩
            have HI6 : Hid (DfI w w.heap.size (w.heap.size + 1) b7 (acc', (yk, yv) :: r) w6 ∧ KpD w.heap.size b7 w.heap.size W' w6) := ⟨HI.out.1.keep hb6, HI.out.2.1.trans (KpD.ofBelow hb6 HI.out.1.acc.below.size)⟩
            have HST : Hid (stepD acc left (yk, v) = (if v = yv then acc' else acc' ++ [(yk, 3)], r)) := by
              have h1 := HI.out.2.2
              rw [stepD_eq (show ¬ Lt (kyb (yk, yv).1) (kyb (yk, v).1) from hlt) rfl] at h1
              exact h1.symm
            clear hb6 cb zb cf y0 y1 HI hcmp hlt
            obtain ⟨aY, cY, u3, u4⟩ := HI6.out.1.left
            by_cases hvv : v = yv
            · subst hvv
              have cb6 : w6.cell? ⟨b7, 0, none⟩ = some (.slice aY (r.length + 1) cY) := by rw [cell_of_blk u3]; rfl
              have zb6 : w6.frozen? ⟨b7, 0, none⟩ = false := frozen_of_blk u3
              have ht6 := run_tail2 aY (r.length + 1) cY (by omega)
              rw [Nat.add_sub_cancel] at ht6
              obtain ⟨n1, n2⟩ := HI6.out.1.next u3 u4 hb7
              have HF : Hid (_ ∧ _ ∧ _) := HEND.out (acc', r) _ (by rw [HST.out, if_pos rfl]) n1 (HI6.out.2.trans n2)
              clear u3 u4 n1 n2 HI6 HST HEND
              gi_wp2
              exact HF.out
            · have hvb : (v == yv) = false := by simpa using hvv
              have hla : acc'.length + 1 ≤ 5864062014805 := by have h1 := HLE.out; rw [HST.out, if_neg hvv] at h1; simp only [List.length_append, List.length_cons, List.length_nil] at h1; omega
              have HTL := tell_calls w w.heap.size acc' yk 3 w6 HI6.out.1.acc (Nat.le_refl _) hla
              have cf6 : w6.cell? ⟨w.heap.size + 1, 0, none⟩ = some (.func (.func 39) #[] #[.pointer (some ⟨w.heap.size, 0, none⟩)]) := by rw [cell_of_blk HI6.out.1.fn]; rfl
              clear u3 u4
              gi_wp2_with fail
              refine ⟨trivial, (fun h => by cases h), ?_⟩
              refine (CallsIn.inRound l' (callsIn_wide.2 HTL)).mono ?_
              clear HTL
              rintro e w7 ⟨rfl, hg7, hk7⟩
              have HI7 : Hid (DfI w w.heap.size (w.heap.size + 1) b7 (acc' ++ [(yk, 3)], (yk, yv) :: r) w7 ∧ KpD w.heap.size b7 w.heap.size W' w7) := ⟨HI6.out.1.told hg7 hk7, HI6.out.2.trans hk7.toD⟩
              obtain ⟨aZ, cZ, u3, u4⟩ := HI7.out.1.left
              have cb7 : w7.cell? ⟨b7, 0, none⟩ = some (.slice aZ (r.length + 1) cZ) := by rw [cell_of_blk u3]; rfl
              have zb7 : w7.frozen? ⟨b7, 0, none⟩ = false := frozen_of_blk u3
              have ht7 := run_tail2 aZ (r.length + 1) cZ (by omega)
              rw [Nat.add_sub_cancel] at ht7
              obtain ⟨n1, n2⟩ := HI7.out.1.next u3 u4 hb7
              have HF : Hid (_ ∧ _ ∧ _) := HEND.out (acc' ++ [(yk, 3)], r) _ (by rw [HST.out, if_neg hvv]) n1 (HI7.out.2.trans n2)
              clear u3 u4 n1 n2 hg7 hk7 HI6 HI7 HST HEND cf6
              gi_wp2
              exact HF.out
          · have hne1 : (yk.toList == k.toList) = false := by
              rw [beq_eq_false_iff_ne, ByteArray.toList_eq, ByteArray.toList_eq]
              intro h
              exact hek (kyb_inj h)
            have HST : Hid (stepD acc left (k, v) = (acc' ++ [(k, 2)], (yk, yv) :: r)) := by
              have h1 := HI.out.2.2
              rw [stepD_ne (show ¬ Lt (kyb (yk, yv).1) (kyb (k, v).1) from hlt) (show ¬ (yk, yv).1 = (k, v).1 from hek)] at h1
              exact h1.symm
            have hla : acc'.length + 1 ≤ 5864062014805 := by have h1 := HLE.out; rw [HST.out] at h1; simp only [List.length_append, List.length_cons, List.length_nil] at h1; omega
            have HTL := tell_calls w w.heap.size acc' k 2 wr HI.out.1.acc (Nat.le_refl _) hla
            clear x3 x4 hgk
            gi_wp2_with fail
            refine ⟨trivial, (fun h => by cases h), ?_⟩
            refine (CallsIn.inRound l' (callsIn_wide.2 HTL)).mono ?_
            clear HTL
            rintro e w6 ⟨rfl, hg6, hk6⟩
            have HF : Hid (_ ∧ _ ∧ _) := HEND.out (acc' ++ [(k, 2)], (yk, yv) :: r) w6 (by rw [HST.out]) (HI.out.1.told hg6 hk6) (HI.out.2.1.trans hk6.toD)
            clear hg6 hk6 cf cb zb y0 y1 HI HEND
            gi_wp2
            exact HF.out
  case done =>
    rintro D xs W' hD' hS hI' hK
    rw [hS, hfil] at hI'
    obtain ⟨⟨acc, left⟩, hs⟩ : ∃ s, s = runD eb ea := ⟨_, rfl⟩
    have HDE : Hid (diffE ea eb = acc ++ newD left) := by show _ = _; unfold diffE; rw [← hs]
    rw [← hs] at hI'
    obtain ⟨aX, cX, x3, x4⟩ := hI'.left
    have cb : W'.cell? ⟨b7, 0, none⟩ = some (.slice aX left.length cX) := by rw [cell_of_blk x3]; rfl
    have hlen : acc.length + left.length ≤ 5864062014800 := by have h1 := hD; rw [HDE.out] at h1; simpa [newD] using h1
    have HI0 : Hid (DfI w w.heap.size (w.heap.size + 1) b7 (acc ++ newD (left.take 0), left) W' ∧ LeftAt W' aX cX left ∧ W'.heap[D]? = some (.deferred (some []))) := ⟨by simpa [newD] using hI', x4, hK⟩
    have hDw : w.heap.size ≤ D := Nat.le_trans hb05.size hD'
    clear hI' hs hS hK x3 x4 hI5 hTin hfil
    go_wp2_with fail
    clear cb
    go_loopw [66] (fun i wr => ∃ j : Nat, j ≤ left.length ∧ i = .int .i64 j ∧ Hid (DfI w w.heap.size (w.heap.size + 1) b7 (acc ++ newD (left.take j), left) wr ∧ LeftAt wr aX cX left ∧ wr.heap[D]? = some (.deferred (some [])))) (fun i _ => left.length - (intOf i).toNat)
    case atStart => exact ⟨0, Nat.zero_le _, rfl, HI0⟩
    case round =>
      obtain ⟨j, hj, rfl, HI⟩ := hrel
      clear HI0
      by_cases hlt : j < left.length
      · obtain ⟨eb0, eo, rfl, -, y0, y1⟩ := HI.out.2.1.2 j hlt
        have HSN : Hid (acc ++ newD (left.take (j + 1)) = acc ++ newD (left.take j) ++ [(left[j].1, 1)]) := by show _ = _; unfold newD; rw [List.take_succ_eq_append_getElem hlt, List.map_append, List.append_assoc]; rfl
        obtain ⟨⟨yk, yv⟩, hy⟩ : ∃ e, e = left[j] := ⟨_, rfl⟩
        rw [← hy] at y0 y1 HSN
        clear hy
        simp only at y0 y1 HSN
        obtain ⟨w6, HW6⟩ : ∃ w6, Hid (w6 = wr.alloc (.cells #[.string yk, .int .i64 yv] 89)) := ⟨_, rfl⟩
        have hb6 : Below wr.heap.size wr w6 := by rw [HW6.out]; exact (Below.refl _ _).alloc (Nat.le_refl _) _
        have q6 : w6.heap[wr.heap.size]? = some (.cells #[.string yk, .int .i64 yv] 89) := by rw [HW6.out]; exact heap_alloc_new _ _
        have e0 : w6.cell? ⟨wr.heap.size, 0, none⟩ = some (.string yk) := by rw [cell_of_blk q6]; rfl
        have HI6 : Hid (DfI w w.heap.size (w.heap.size + 1) b7 (acc ++ newD (left.take j), left) w6 ∧ LeftAt w6 (some ⟨eb0, eo, none⟩) cX left ∧ w6.heap[D]? = some (.deferred (some []))) := ⟨HI.out.1.keep hb6, HI.out.2.1.kept fun b cs hc => (hb6.block b (lt_of_heap hc)).trans hc, (hb6.block D (lt_of_heap HI.out.2.2)).trans HI.out.2.2⟩
        have cf : w6.cell? ⟨w.heap.size + 1, 0, none⟩ = some (.func (.func 39) #[] #[.pointer (some ⟨w.heap.size, 0, none⟩)]) := by rw [cell_of_blk HI6.out.1.fn]; rfl
        have HTL := tell_calls w w.heap.size (acc ++ newD (left.take j)) yk 1 w6 HI6.out.1.acc (Nat.le_refl _) (by simp only [newD, List.length_append, List.length_map, List.length_take]; omega)
        have i1 : (0 : Int) ≤ (j : Int) ∧ (j : Int) < (left.length : Int) := by omega
        have cfa : (wr.alloc (.cells #[.string yk, .int .i64 yv] 89)).cell? ⟨w.heap.size + 1, 0, none⟩ = some (.func (.func 39) #[] #[.pointer (some ⟨w.heap.size, 0, none⟩)]) := by rw [← HW6.out]; exact cf
        clear hb6 q6 HI
        go_wp2_with fail
        rw [← HW6.out]
        clear HW6 y0 y1 cf cfa e0
        refine HTL.mono ?_
        clear HTL
        rintro e w7 ⟨rfl, hg7, hk7⟩
        have HI7 : Hid (DfI w w.heap.size (w.heap.size + 1) b7 (acc ++ newD (left.take (j + 1)), left) w7 ∧ LeftAt w7 (some ⟨eb0, eo, none⟩) cX left ∧ w7.heap[D]? = some (.deferred (some []))) := by
          obtain ⟨ao, n, cap, h1, h2⟩ := HI6.out.1.acc.got
          refine ⟨?_, HI6.out.2.1.kept fun b cs hc => hk7.cells hc (by decide) (fun e => by subst e; rw [h1] at hc; simp at hc), hk7.kept D _ HI6.out.2.2 (fun cs e => by cases e) (fun e => by rw [e, h1] at HI6; have := HI6.out.2.2; cases this)⟩
          rw [HSN.out]
          exact HI6.out.1.told hg7 hk7
        clear hg7 hk7 HI6 HSN
        go_wp2_with fail
        go_roundw
        case rel => exact ⟨j + 1, by omega, by go_num, HI7⟩
        case measure => simp [intOf]; omega
      · have hjl : j = left.length := by omega
        subst hjl
        have hI := HI.out
        rw [List.take_length, ← HDE.out] at hI
        obtain ⟨ao, n, cap, h1, h2⟩ := hI.1.acc.got
        have c5 : wr.cell? ⟨w.heap.size, 0, none⟩ = some (.slice ao n cap) := by rw [cell_of_blk h1]; rfl
        have HF : Hid (wr.heap[D]? = some (.deferred (some [])) ∧ Below w.heap.size w wr ∧ OwnG cgCells 50 2 wr w.heap.size (.slice ao n cap) (diffE ea eb)) := ⟨hI.2.2, hI.1.acc.below, h2⟩
        clear hI h1 h2 HI
        go_wp2_with fail
        refine ⟨by simp, .inl ⟨_, _, rfl, run_takeDeferred HF.out.1, ?_⟩⟩
        refine ⟨_, results_tmp rfl _ _ _, _, rfl, ?_⟩
        have hg := grownBy_putObj' wr D (.deferred none)
        refine ⟨HF.out.2.1.grown hg HF.out.2.1.size (fun k e => by cases e; exact hDw), World.ownsRow.kept HF.out.2.2 hg ?_⟩
        by_cases e : (Value.slice ao n cap).ownBlock = none
        · exact .inl e
        · refine .inr fun e' => ?_
          obtain ⟨g, hgb⟩ := Option.ne_none_iff_exists'.1 e
          obtain ⟨cur, hc⟩ := ownsRow_typed HF.out.2.2 g hgb
          have e2 : (Value.slice ao n cap).ownBlock = some D := e'
          rw [hgb] at e2
          cases e2
          rw [HF.out.1] at hc
          cases hc
  case stop =>
    rintro D c xs W' _ _ h _
    exact h.elim
end Go.Proofs.Ytnmndjplbcpglaa
