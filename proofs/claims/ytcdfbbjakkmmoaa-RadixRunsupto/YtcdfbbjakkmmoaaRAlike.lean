import Derived.Test.YtcdfbbjakkmmoaaXFrM
import Derived.Test.YtcdfbbjakkmmoaaRLook
import Derived.Test.YtcdfbbjakkmmoaaRGet
import Derived.Test.YtcdfbbjakkmmoaaXDelN
import Derived.Test.YtcdfbbjakkmmoaaXHeld
import Derived.Test.YtcdfbbjakkmmoaaXBu3
import Derived.BigQuiet
import Derived.Test.YtcdfbbjakkmmoaaXGive
import Derived.Test.YtcdfbbjakkmmoaaRCanon
import Derived.Lib.QuietBelow
import Derived.Deep.QuietTactic
/- Layer 3 (radix): Get, Longest, Reach over a tree that holds just es. -/
namespace Go.Proofs.Ytcdfbbjakkmmoaa
open Go.RowKit
set_option linter.unusedVariables false

theorem ext_kyb (k : ByteArray) (n : Nat) : kyb (k.extract 0 n) = (kyb k).take n := by
  simp only [kyb, ByteArray.data_extract, Array.toList_extract, List.extract_eq_take_drop]
  simp
theorem ext_size {k : ByteArray} {n : Nat} (h : n ≤ k.size) : (k.extract 0 n).size = n := by
  rw [← kyb_len, ext_kyb, List.length_take, kyb_len]; omega
theorem pre_ext {p k : ByteArray} (h : kyb p <+: kyb k) : p = k.extract 0 p.size := by
  apply kyb_inj
  rw [ext_kyb, ← kyb_len]
  exact List.prefix_iff_eq_take.1 h

theorem held_val {w₀ w : World} {tb : Nat} {T : Tr} {ne : Int} {d : Nat} {es : List En} (h : Held w₀ w tb T ne d es) {k : ByteArray} {init : List Tr} {c : Tr} (hA : Along k.data.toList T (init ++ [c])) :
    held (valAt c k) = .int .i64 (oldV es k) ∧ (valAt c k).isSome = decide (k ∈ keysOf es) := by
  have hv := h.has.val h.good.wf (root_pre h.good.root _) hA
  refine ⟨?_, hv⟩
  cases hx : valAt c k with
  | some x =>
    obtain ⟨e, he, g1, g2⟩ := (h.has _ _).1 ((has_along hA rfl h.good.wf (root_pre h.good.root _) x.x).2 ⟨x, hx, rfl⟩)
    show x.x = _
    rw [g2]
    have := oldV_in h.sorted he
    rw [show e.1 = k from ky_inj g1] at this
    rw [this]
  | none =>
    rw [hx] at hv
    have hno : k ∉ keysOf es := of_decide_eq_false hv.symm
    have h0 : oldV es k = 0 := by unfold oldV; rw [if_neg hno]
    rw [h0]; rfl
theorem getH_calls (tb : Nat) (T : Tr) (ne : Int) (d : Nat) (es : List En) (w₀ w : World) (h : Held w₀ w tb T ne d es) (k : ByteArray) (hk : k.size ≤ 140737488351296) :
    Calls Try.prog 41 #[.pointer (some ⟨tb, 0, none⟩), .string k] w fun e w' => e = .returned (.tuple #[.int .i64 (oldV es k), .bool (decide (k ∈ keysOf es))]) ∧ Below w.heap.size w w' := by
  obtain ⟨init, c, hA⟩ := along_split (k := k.data.toList) h.good.wf
  have := get_tree tb T ne k w init c h.good.tree h.good.wf (root_pre h.good.root _) hk hA
  rw [(held_val h hA).1, (held_val h hA).2] at this
  exact this

/-- Found at n, and none longer; or none at all. -/
theorem greatest_of (p : Nat → Prop) (N : Nat) : (∃ n, n ≤ N ∧ p n ∧ ∀ m, n < m → m ≤ N → ¬ p m) ∨ ∀ m, m ≤ N → ¬ p m := by
  induction N with
  | zero =>
    by_cases h : p 0
    · exact .inl ⟨0, Nat.le_refl _, h, fun m h1 h2 => by omega⟩
    · exact .inr fun m hm => by have : m = 0 := by omega
                                subst this; exact h
  | succ N ih =>
    by_cases h : p (N + 1)
    · exact .inl ⟨N + 1, Nat.le_refl _, h, fun m h1 h2 => by omega⟩
    · rcases ih with ⟨n, h1, h2, h3⟩ | h2
      · refine .inl ⟨n, by omega, h2, fun m g1 g2 => ?_⟩
        rcases Nat.lt_or_ge N m with hc | hc
        · have : m = N + 1 := by omega
          subst this; exact h
        · exact h3 m g1 hc
      · refine .inr fun m g2 => ?_
        rcases Nat.lt_or_ge N m with hc | hc
        · have : m = N + 1 := by omega
          subst this; exact h
        · exact h2 m hc

theorem hit_keys {w₀ w : World} {tb : Nat} {T : Tr} {ne : Int} {d : Nat} {es : List En} (h : Held w₀ w tb T ne d es) {k : ByteArray} {l : List Tr} (hA : Along k.data.toList T l) {n : Nat} (hn : n ≤ k.size) :
    held (hit l n) = .int .i64 (oldV es (k.extract 0 n)) ∧ (hit l n).isSome = decide (k.extract 0 n ∈ keysOf es) := by
  have hr0 : T.p.size ≤ n := by rw [h.good.root]; exact Nat.zero_le _
  have hc := hA.cut h.good.wf hr0
  obtain ⟨init, c, hic⟩ : ∃ init c, l.takeWhile (fun c => decide (c.p.size ≤ n)) = init ++ [c] := ⟨_, _, (List.dropLast_concat_getLast hc.ne).symm⟩
  have hv := hit_val (hA.inc h.good.wf).1 hic (k.extract 0 n) (ext_size hn)
  rw [hic] at hc
  have hc' : Along (k.extract 0 n).data.toList T (init ++ [c]) := by
    have := ext_kyb k n
    unfold kyb at this
    rw [this]; exact hc
  rw [← hv]
  exact held_val h hc'

theorem along_small {k : ByteArray} {T : Tr} {l : List Tr} (hA : Along k.data.toList T l) (hp : T.path <+: k.data.toList) : ∀ u ∈ l, u.p.size ≤ k.size := fun u hu => by
  have := (hA.pre hp u hu).length_le
  rw [path_length] at this
  have h2 := kyb_len k
  unfold kyb at h2
  omega
theorem longestH_some (tb : Nat) (T : Tr) (ne : Int) (d : Nat) (es : List En) (w₀ w : World) (h : Held w₀ w tb T ne d es) (k : ByteArray) (hk : k.size ≤ 140737488351296) (n : Nat) (hn : n ≤ k.size) (hin : k.extract 0 n ∈ keysOf es) (hno : ∀ m, n < m → m ≤ k.size → ¬ k.extract 0 m ∈ keysOf es) :
    Calls Try.prog 24 #[.pointer (some ⟨tb, 0, none⟩), .string k] w fun e w' => e = .returned (.tuple #[.string (k.extract 0 n), .int .i64 (oldV es (k.extract 0 n)), .bool true]) ∧ Below w.heap.size w w' := by
  obtain ⟨l, hA⟩ := Along.ex h.good.wf k.data.toList
  have hp := root_pre h.good.root k.data.toList
  have hs := (hA.inc h.good.wf).1
  have h1 := hit_keys h hA hn
  rw [decide_eq_true hin] at h1
  obtain ⟨x, hx⟩ := Option.isSome_iff_exists.1 h1.2
  obtain ⟨g1, g2, g3⟩ := best_hit (t := T) hs (along_small hA hp) hx (fun m hm hm2 => by
    have h2 := (hit_keys h hA hm2).2
    rw [decide_eq_false (hno m hm hm2)] at h2
    simpa using h2)
  have hb := longest_tree tb T ne k w l h.good.tree h.good.wf hp hk hA (along_tat hA h.good.tree.tat _ g3)
  have hbp : (best T l).p = k.extract 0 n := by
    have := pre_ext (hA.pre hp _ g3)
    rw [g2] at this
    exact this
  rw [hbp, g1] at hb
  rw [hx] at h1
  rw [h1.1] at hb
  exact hb
theorem longestH_none (tb : Nat) (T : Tr) (ne : Int) (d : Nat) (es : List En) (w₀ w : World) (h : Held w₀ w tb T ne d es) (k : ByteArray) (hk : k.size ≤ 140737488351296) (hno : ∀ m, m ≤ k.size → ¬ k.extract 0 m ∈ keysOf es) :
    Calls Try.prog 24 #[.pointer (some ⟨tb, 0, none⟩), .string k] w fun e w' => e = .returned (.tuple #[.string ⟨#[]⟩, .int .i64 0, .bool false]) ∧ Below w.heap.size w w' := by
  obtain ⟨l, hA⟩ := Along.ex h.good.wf k.data.toList
  have hp := root_pre h.good.root k.data.toList
  have hs := (hA.inc h.good.wf).1
  obtain ⟨g1, g2⟩ := best_none (t := T) hs (along_small hA hp) (fun m hm2 => by
    have h2 := (hit_keys h hA hm2).2
    rw [decide_eq_false (hno m hm2)] at h2
    simpa using h2)
  have hv : T.v = none := by
    obtain ⟨r, hr⟩ := hA.head
    exact g2 T (by rw [hr]; exact List.mem_cons_self ..)
  have hb := longest_tree tb T ne k w l h.good.tree h.good.wf hp hk hA (by rw [g1]; exact h.good.tree.tat)
  rw [g1, hv, h.good.root] at hb
  exact hb

set_option maxRecDepth 100000 in
theorem reachT_calls (tb : Nat) (T : Tr) (ne : Int) (d : Nat) (es : List En) (w₀ w : World) (h : Held w₀ w tb T ne d es) (k : ByteArray) (hk : k.size ≤ 140737488351296) (init : List Tr) (c : Tr) (hA : Along k.data.toList T (init ++ [c])) :
    Calls Try.prog 25 #[.pointer (some ⟨tb, 0, none⟩), .string k] w fun e w' => e = .returned (.string c.p) ∧ Below w.heap.size w w' := by
  have c0 : w.cell? ⟨tb, 0, none⟩ = some (.pointer (some ⟨T.a, 0, none⟩)) := by rw [cell_of_blk h.good.tree.blk]; rfl
  have HR := reach_calls (R := nR) T k w init c hA h.good.tree.tat h.good.wf (root_pre h.good.root _) hk
  have hc : TAt nR w c := along_tat hA h.good.tree.tat c (by simp)
  obtain ⟨-, -, k0, -, -, -, -, -, -⟩ := hc.cells
  have hlt := hc.lt
  clear h hA hc
  go_enter Try.func25, Try.ntmps25
  go_wp2_with fail
  refine HR.mono ?_
  clear HR
  rintro e w2 ⟨rfl, hb2⟩
  have j0 : w2.cell? ⟨c.a, 0, none⟩ = some (.string c.p) := by rw [hb2.cell (by exact hlt)]; exact k0
  have HB2 : Hid (Below w.heap.size w w2) := hb2
  clear hb2 k0 c0
  go_wp2_with fail
  go_ret
  exact ⟨rfl, HB2.out⟩

theorem pths_nd : ∀ {n : Nat} {t : Tr} {q : ByteArray}, q ∈ pths n t → ∃ x, Nd t x ∧ x.p = q
  | 0, _, _, h => by cases h
  | n + 1, t, q, h => by
    rcases List.mem_cons.1 h with rfl | h
    · exact ⟨t, .top, rfl⟩
    · obtain ⟨c, hc, h⟩ := List.mem_flatMap.1 h
      obtain ⟨x, hx, e⟩ := pths_nd h
      refine ⟨x, ?_, e⟩
      clear e h
      induction hx with
      | top => exact Nd.top.kid hc
      | kid _ hd ih => exact ih.kid hd
theorem nd_pths {T x : Tr} (h : Nd T x) : ∀ {n : Nat}, Dep n T → x.p ∈ pths n T := by
  suffices hg : ∀ {n : Nat} {t : Tr}, Nd T t → Dep n T → ∃ m, Dep m t ∧ ∀ q ∈ pths m t, q ∈ pths n T by
    intro n hd
    obtain ⟨m, h1, h2⟩ := hg h hd
    cases m with
    | zero => cases h1
    | succ m => exact h2 _ (List.mem_cons_self ..)
  intro n t ht hd
  induction ht with
  | top => exact ⟨n, hd, fun q hq => hq⟩
  | @kid t c _ hc ih =>
    obtain ⟨m, h1, h2⟩ := ih
    cases m with
    | zero => cases h1
    | succ m => exact ⟨m, h1 _ hc, fun q hq => h2 q (List.mem_cons_of_mem _ (List.mem_flatMap.2 ⟨c, hc, hq⟩))⟩

/-- The last node along a key has the longest path that is a beginning of it. -/
theorem reach_last {w₀ w : World} {tb : Nat} {T : Tr} {ne : Int} {d : Nat} {es : List En} (h : Held w₀ w tb T ne d es) (hC : Canon T) {k : ByteArray} {init : List Tr} {c : Tr} (hA : Along k.data.toList T (init ++ [c])) :
    (∀ n, n ≤ k.size → 0 < n → k.extract 0 n ∈ pathsOf es → (∀ m, n < m → m ≤ k.size → ¬ k.extract 0 m ∈ pathsOf es) → c.p = k.extract 0 n) ∧ ((∀ m, m ≤ k.size → 0 < m → ¬ k.extract 0 m ∈ pathsOf es) → c.p = ⟨#[]⟩) := by
  have hpe : pths (d + 1) T = pathsOf es := pths_paths h.good.wf hC h.good.root h.good.dep h.has h.sorted
  have hp := root_pre h.good.root k.data.toList
  have hcm : c ∈ init ++ [c] := by simp
  have hcp : kyb c.p <+: kyb k := hA.pre hp c hcm
  have hcz := along_small hA hp c hcm
  have hce := pre_ext hcp
  have hcin : c.p ∈ pathsOf es := by rw [← hpe]; exact nd_pths (along_nd hA .top c hcm) h.good.dep
  constructor
  · intro n hn hn0 hin hno
    rw [← hpe] at hin
    obtain ⟨x, hx, hxp⟩ := pths_nd hin
    obtain ⟨i2, hA2⟩ := hx.along h.good.wf
    have hxk : x.path <+: k.data.toList := by
      show kyb x.p <+: kyb k
      rw [hxp, ext_kyb]; exact List.take_prefix _ _
    obtain ⟨l2, hl2⟩ := Along.ex (hx.wf h.good.wf) k.data.toList
    obtain ⟨r, rfl⟩ := hl2.head
    have hA3 := hA2.more hxk i2 x h.good.wf rfl _ hl2
    have he := hA.uniq hA3
    have hs := (hA.inc h.good.wf).1
    have hxm : x ∈ init ++ [c] := by rw [he]; simp
    have hle : x.p.size ≤ c.p.size := by
      rcases List.mem_append.1 hxm with h1 | h1
      · rw [List.map_append, List.pairwise_append] at hs
        exact Nat.le_of_lt (hs.2.2 _ (List.mem_map_of_mem h1) _ (by simp))
      · simp at h1; subst h1; exact Nat.le_refl _
    rw [hxp, ext_size hn] at hle
    rcases Nat.lt_or_ge n c.p.size with hc2 | hc2
    · exact absurd (hce ▸ hcin) (hno _ hc2 hcz)
    · have : c.p.size = n := by omega
      rw [← this]; exact hce
  · intro hno
    rcases Nat.eq_zero_or_pos c.p.size with h0 | h0
    · rw [hce, h0]
      apply kyb_inj
      rw [ext_kyb]; simp [kyb]
    · exact absurd (hce ▸ hcin) (hno _ hcz h0)
end Go.Proofs.Ytcdfbbjakkmmoaa

/- The document's Longest and Reach. -/
namespace Go.Proofs.Ytcdfbbjakkmmoaa
open Go.RowKit
set_option linter.unusedVariables false

/-- The document's tree in a box. -/
structure MbI (w : World) (d : Dv) (n q : Nat) (W : World) : Prop where
  below : Below w.heap.size w W
  mb : W.heap[w.heap.size]? = some (.cells (d.cells n q) 28)
theorem MbI.keep {w : World} {d : Dv} {n q : Nat} {W W' : World} (h : MbI w d n q W) (hb : Below W.heap.size W W') : MbI w d n q W' :=
  ⟨h.below.trans (hb.mono h.below.size), (hb.block _ (lt_of_heap h.mb)).trans h.mb⟩

set_option maxRecDepth 100000 in
set_option maxHeartbeats 1600000 in
theorem longestD_calls (d : Dv) (es : List En) (ps : List ByteArray) (k : ByteArray) (w : World) (hd : DocAt w d es ps) (hks : k.size ≤ 140737488351296) (hl : es.length ≤ 5864062014650) (r : Int)
    (h1 : ∀ p, p ≤ k.size → (∀ q, p < q → q ≤ k.size → ¬ k.extract 0 q ∈ keysOf es) → k.extract 0 p ∈ keysOf es → r = (place (keysOf es) (k.extract 0 p) : Int)) (h2 : (∀ q, q ≤ k.size → ¬ k.extract 0 q ∈ keysOf es) → r = -1) :
    Calls Try.prog 42 #[.agg (d.cells es.length ps.length), .string k] w fun e w' => e = .returned (.int .i64 r) ∧ Below w.heap.size w w' := by
  have H1 : Hid _ := h1
  have H2 : Hid _ := h2
  obtain ⟨w1, HW1⟩ : ∃ w1, Hid (w1 = w.alloc (.cells (d.cells es.length ps.length) 28)) := ⟨_, rfl⟩
  have HI1 : Hid (MbI w d es.length ps.length w1) := by
    refine ⟨?_, ?_⟩
    · rw [HW1.out]; exact (Below.refl _ w).alloc (Nat.le_refl _) _
    · rw [HW1.out]; exact heap_alloc_new _ _
  have hpl := hd.plen
  have HF : Hid (∀ W, Below w.heap.size w W → ∀ k', k'.size ≤ 140737488351296 → Calls Try.prog 34 #[.slice d.k.ao es.length d.k.cap, .string k'] W fun e w' => e = .returned (.tuple #[.int .i64 (place (keysOf es) k' : Int), .bool (decide (k' ∈ keysOf es))]) ∧ ∃ n, w' = W.drewN n) := fun W hW k' hk' => by
    have := find_calls d.k (keysOf es) k' W (hd.k.below hW) hd.kk hd.sorted.keys hd.ksz hk' (by rw [keysOf_len]; omega)
    rw [keysOf_len] at this
    exact this
  have hnot : ∀ (x : Bool) (w : World), (Op.unary .not (.bool x)).run Try.prog w = .ok (.bool (!x)) w := fun _ _ => rfl
  clear hd h1 h2 hpl
  unfold Dv.cells
  unfold Dv.cells at HW1
  go_enter Try.func42, Try.ntmps42
  go_wp2_with fail
  rw [← HW1.out]
  clear HW1
  go_wp2_with fail
  go_loopw [5] (fun s wr => ∃ p : Nat, p ≤ k.size + 1 ∧ s = .int .i64 ((p : Int) - 1) ∧ Hid (MbI w d es.length ps.length wr) ∧ Hid (∀ q, p ≤ q → q ≤ k.size → ¬ k.extract 0 q ∈ keysOf es)) (fun s _ => (intOf s + 1).toNat)
  case atStart => exact ⟨k.size + 1, by omega, by go_num, HI1, fun q h1 h2 => by omega⟩
  case round =>
    obtain ⟨p, hp, rfl, HI, HN⟩ := hrel
    clear HI1
    cases p with
    | zero => 
      rw [show ((0 : Nat) : Int) - 1 = -1 from rfl]
      have HR : Hid (r = -1) := H2.out fun q hq => HN.out q (Nat.zero_le _) hq
      have HB2 : Hid (Below w.heap.size w wr) := HI.out.below
      clear HN HI
      go_wp2_with fail
      go_ret
      exact ⟨by rw [HR.out]; rfl, HB2.out⟩
    | succ p =>
      skip
      have hpe : ((p + 1 : Nat) : Int) - 1 = (p : Int) := by omega
      rw [hpe]
      have hple : p ≤ k.size := by omega
      have hz : (p : Int) ≤ (k.size : Int) := by omega
      have c0 : wr.cell? ⟨w.heap.size, 0, none⟩ = some (.slice d.k.ao es.length d.k.cap) := by rw [cell_of_blk HI.out.mb]; rfl
      have hsz : (k.extract 0 p).size ≤ 140737488351296 := by rw [ext_size hple]; omega
      have HC := fun n => HF.out (wr.drewN n) (HI.out.below.trans ((drewN_below wr n).mono HI.out.below.size)) (k.extract 0 p) hsz
      obtain ⟨kx, hkx⟩ : ∃ x, x = k.extract 0 p := ⟨_, rfl⟩
      have HKX : Hid (kx = k.extract 0 p) := hkx
      by_cases hin : k.extract 0 p ∈ keysOf es
      · have HR : Hid (r = (place (keysOf es) (k.extract 0 p) : Int)) := H1.out p hple (fun q hq1 hq2 => HN.out q hq1 hq2) hin
        rw [decide_eq_true hin] at HC
        obtain ⟨pl, hpl⟩ : ∃ x, x = place (keysOf es) (k.extract 0 p) := ⟨_, rfl⟩
        rw [← hpl] at HC HR
        clear hin hpl hkx
        go_wp2_with fail
        go_quiet ((go_at_call 34; exact Calls.quiet_of (HC _)))
        have HI2 := HI.out.keep (drewN_below wr nq)
        have HB2 : Hid (Below w.heap.size w (wr.drewN nq)) := HI2.below
        clear HI2
        go_wp2_with fail
        go_ret
        exact ⟨by rw [HR.out]; rfl, HB2.out⟩
      · have HN2 : Hid (∀ q, p ≤ q → q ≤ k.size → ¬ k.extract 0 q ∈ keysOf es) := fun q hq1 hq2 => by
          rcases Nat.lt_or_ge p q with hc | hc
          · exact HN.out q hc hq2
          · have : q = p := by omega
            subst this; exact hin
        rw [decide_eq_false hin] at HC
        obtain ⟨pl, hpl⟩ : ∃ x, x = place (keysOf es) (k.extract 0 p) := ⟨_, rfl⟩
        rw [← hpl] at HC
        clear hin hpl hkx HN
        go_wp2_with fail
        go_quiet ((go_at_call 34; exact Calls.quiet_of (HC _)))
        have HI2 : Hid (MbI w d es.length ps.length (wr.drewN nq)) := HI.out.keep (drewN_below wr nq)
        clear HI
        go_wp2_with fail
        go_roundw
        case rel => exact ⟨p, by omega, by go_num, HI2, HN2⟩
        case measure => simp [intOf]

set_option maxRecDepth 100000 in
set_option maxHeartbeats 1600000 in
theorem reachD_calls (d : Dv) (es : List En) (ps : List ByteArray) (k : ByteArray) (w : World) (hd : DocAt w d es ps) (hks : k.size ≤ 140737488351296) (hl : es.length ≤ 5864062014650) (r : Int)
    (h1 : ∀ p, p ≤ k.size → 0 < p → (∀ q, p < q → q ≤ k.size → ¬ k.extract 0 q ∈ ps) → k.extract 0 p ∈ ps → r = (place (ps) (k.extract 0 p) : Int)) (h2 : (∀ q, q ≤ k.size → 0 < q → ¬ k.extract 0 q ∈ ps) → r = 0) :
    Calls Try.prog 43 #[.agg (d.cells es.length ps.length), .string k] w fun e w' => e = .returned (.int .i64 r) ∧ Below w.heap.size w w' := by
  have H1 : Hid _ := h1
  have H2 : Hid _ := h2
  obtain ⟨w1, HW1⟩ : ∃ w1, Hid (w1 = w.alloc (.cells (d.cells es.length ps.length) 28)) := ⟨_, rfl⟩
  have HI1 : Hid (MbI w d es.length ps.length w1) := by
    refine ⟨?_, ?_⟩
    · rw [HW1.out]; exact (Below.refl _ w).alloc (Nat.le_refl _) _
    · rw [HW1.out]; exact heap_alloc_new _ _
  have hpl := hd.plen
  have HF : Hid (∀ W, Below w.heap.size w W → ∀ k', k'.size ≤ 140737488351296 → Calls Try.prog 34 #[.slice d.p.ao ps.length d.p.cap, .string k'] W fun e w' => e = .returned (.tuple #[.int .i64 (place (ps) k' : Int), .bool (decide (k' ∈ ps))]) ∧ ∃ n, w' = W.drewN n) := fun W hW k' hk' => by
    have := find_calls d.p (ps) k' W (hd.p.below hW) hd.pp hd.psorted hd.psz hk' (by omega)
    exact this
  have hnot : ∀ (x : Bool) (w : World), (Op.unary .not (.bool x)).run Try.prog w = .ok (.bool (!x)) w := fun _ _ => rfl
  clear hd h1 h2 hpl
  unfold Dv.cells
  unfold Dv.cells at HW1
  go_enter Try.func43, Try.ntmps43
  go_wp2_with fail
  rw [← HW1.out]
  clear HW1
  go_wp2_with fail
  go_loopw [5] (fun s wr => ∃ p : Nat, p ≤ k.size + 1 ∧ 1 ≤ p ∧ s = .int .i64 ((p : Int) - 1) ∧ Hid (MbI w d es.length ps.length wr) ∧ Hid (∀ q, p ≤ q → q ≤ k.size → ¬ k.extract 0 q ∈ ps)) (fun s _ => (intOf s + 1).toNat)
  case atStart => exact ⟨k.size + 1, by omega, by omega, by go_num, HI1, fun q h1 h2 => by omega⟩
  case round =>
    obtain ⟨p, hp, hp1, rfl, HI, HN⟩ := hrel
    clear HI1
    cases p with
    | zero => omega
    | succ p =>
      rcases Nat.eq_zero_or_pos p with hp0 | hp0
      · subst hp0
        rw [show ((0 + 1 : Nat) : Int) - 1 = 0 from rfl]
        have HR : Hid (r = 0) := H2.out fun q hq hq0 => HN.out q hq0 hq
        have HB2 : Hid (Below w.heap.size w wr) := HI.out.below
        clear HN HI
        go_wp2_with fail
        go_ret
        exact ⟨by rw [HR.out]; rfl, HB2.out⟩
      have hd1 : decide ((0 : Int) < (p : Int)) = true := by rw [decide_eq_true_iff]; omega
      have hpe : ((p + 1 : Nat) : Int) - 1 = (p : Int) := by omega
      rw [hpe]
      have hple : p ≤ k.size := by omega
      have hz : (p : Int) ≤ (k.size : Int) := by omega
      have c0 : wr.cell? ⟨w.heap.size, 3, none⟩ = some (.slice d.p.ao ps.length d.p.cap) := by rw [cell_of_blk HI.out.mb]; rfl
      have hsz : (k.extract 0 p).size ≤ 140737488351296 := by rw [ext_size hple]; omega
      have HC := fun n => HF.out (wr.drewN n) (HI.out.below.trans ((drewN_below wr n).mono HI.out.below.size)) (k.extract 0 p) hsz
      obtain ⟨kx, hkx⟩ : ∃ x, x = k.extract 0 p := ⟨_, rfl⟩
      have HKX : Hid (kx = k.extract 0 p) := hkx
      by_cases hin : k.extract 0 p ∈ ps
      · have HR : Hid (r = (place (ps) (k.extract 0 p) : Int)) := H1.out p hple (by omega) (fun q hq1 hq2 => HN.out q hq1 hq2) hin
        rw [decide_eq_true hin] at HC
        obtain ⟨pl, hpl⟩ : ∃ x, x = place (ps) (k.extract 0 p) := ⟨_, rfl⟩
        rw [← hpl] at HC HR
        clear hin hpl hkx
        go_wp2_with fail
        go_quiet ((go_at_call 34; exact Calls.quiet_of (HC _)))
        have HI2 := HI.out.keep (drewN_below wr nq)
        have HB2 : Hid (Below w.heap.size w (wr.drewN nq)) := HI2.below
        clear HI2
        go_wp2_with fail
        go_ret
        exact ⟨by rw [HR.out]; rfl, HB2.out⟩
      · have HN2 : Hid (∀ q, p ≤ q → q ≤ k.size → ¬ k.extract 0 q ∈ ps) := fun q hq1 hq2 => by
          rcases Nat.lt_or_ge p q with hc | hc
          · exact HN.out q hc hq2
          · have : q = p := by omega
            subst this; exact hin
        rw [decide_eq_false hin] at HC
        obtain ⟨pl, hpl⟩ : ∃ x, x = place (ps) (k.extract 0 p) := ⟨_, rfl⟩
        rw [← hpl] at HC
        clear hin hpl hkx HN
        go_wp2_with fail
        go_quiet ((go_at_call 34; exact Calls.quiet_of (HC _)))
        have HI2 : Hid (MbI w d es.length ps.length (wr.drewN nq)) := HI.out.keep (drewN_below wr nq)
        clear HI
        go_wp2_with fail
        go_roundw
        case rel => exact ⟨p, by omega, by omega, by go_num, HI2, HN2⟩
        case measure => simp [intOf]
end Go.Proofs.Ytcdfbbjakkmmoaa

/- Layer 3 (radix): alike. -/
namespace Go.Proofs.Ytcdfbbjakkmmoaa
open Go.RowKit Go.Shelf
open Go.Sort (grow)
set_option linter.unusedVariables false
variable {R : Nat → Prop}

/-- All that the tree holds are ints. -/
def AllInt (t : Tr) : Prop := ∀ k x, Has t k x → ∃ m : Int, x = .int .i64 m
theorem AllInt.kid {t c : Tr} (h : AllInt t) (hc : c ∈ t.ks) : AllInt c := fun k x hx => h k x (.kid hc hx)

theorem alike_vals {t s : Tr} (h : Sim (fun _ x y => x = y) t s) (hi : AllInt t) : ∃ (m : Int) (b : Bool), held t.v = .int .i64 m ∧ held s.v = .int .i64 m ∧ t.v.isSome = b ∧ s.v.isSome = b := by
  have hv := h.v
  cases ht : t.v with
  | none =>
    cases hs : s.v with
    | none => exact ⟨0, false, rfl, rfl, rfl, rfl⟩
    | some y => rw [ht, hs] at hv; exact hv.elim
  | some x =>
    cases hs : s.v with
    | none => rw [ht, hs] at hv; exact hv.elim
    | some y =>
      rw [ht, hs] at hv
      obtain ⟨m, hm⟩ := hi _ _ (.here ht)
      have hv' : x.x = y.x := hv
      exact ⟨m, true, hm, by show y.x = _; rw [← hv']; exact hm, rfl, rfl⟩

/-- The rows of kids of both. -/
structure AlI (w : World) (t s : Tr) (kb kc : Nat) (W : World) : Prop where
  below : Below w.heap.size w W
  rt : ∀ i (h : i < t.ks.length), W.cell? ⟨kb, i, none⟩ = some (.pointer (some ⟨t.ks[i].a, 0, none⟩))
  rs : ∀ i (h : i < s.ks.length), W.cell? ⟨kc, i, none⟩ = some (.pointer (some ⟨s.ks[i].a, 0, none⟩))
theorem AlI.keep {w W W' : World} {t s : Tr} {kb kc : Nat} (h : AlI w t s kb kc W) (hb : Below W.heap.size W W') : AlI w t s kb kc W' :=
  ⟨h.below.trans (hb.mono h.below.size), fun i hi => by rw [hb.cell (World.block_lt_of_cell? W _ (h.rt i hi))]; exact h.rt i hi, fun i hi => by rw [hb.cell (World.block_lt_of_cell? W _ (h.rs i hi))]; exact h.rs i hi⟩

end Go.Proofs.Ytcdfbbjakkmmoaa
