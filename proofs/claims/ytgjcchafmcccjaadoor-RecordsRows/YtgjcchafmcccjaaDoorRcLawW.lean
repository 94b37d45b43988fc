/- Layer 9 (records): RecordsRows, the walk. -/
import Derived.Test.YtgjcchafmcccjaaDoorRcFix0
import Derived.Test.YtgjcchafmcccjaaDoorRcRowY
import Derived.Test.YtgjcchafmcccjaaDoorRcRowZ
import Derived.Test.YtgjcchafmcccjaaDoorRcCopyS
import Derived.Test.YtgjcchafmcccjaaDoorRgOps
import Derived.BigQuiet
namespace Go.Proofs.YtgjcchafmcccjaaDoor
open Go.RowKit
set_option linter.unusedVariables false

theorem three_boxW (w : World) (o1 o2 o3 : Obj) : (((w.alloc o1).alloc o2).alloc o3).heap[w.heap.size]? = some o1 ∧ (((w.alloc o1).alloc o2).alloc o3).heap[w.heap.size + 1]? = some o2 ∧ (((w.alloc o1).alloc o2).alloc o3).heap[w.heap.size + 1 + 1]? = some o3 ∧
    Below w.heap.size w (((w.alloc o1).alloc o2).alloc o3) := ⟨(three_alloc w o1 o2 o3).1, (three_alloc w o1 o2 o3).2.1, (three_alloc w o1 o2 o3).2.2.1, (three_alloc w o1 o2 o3).2.2.2.1⟩
theorem Blk.neW {w : World} {a b : Nat} {cs ds : Array Value} {T U : TypeId} (h : Blk w a cs T) (k : Blk w b ds U) (hT : T ≠ U) : a ≠ b := fun e => by
  subst e
  have h' : w.heap[a]? = some (.cells cs T) := h
  have k' : w.heap[a]? = some (.cells ds U) := k
  rw [h'] at k'
  injection k' with k'
  injection k' with _ k'
  exact hT k'
/-- Texts lie in no row's own box: a store there leaves them. -/
theorem texts_off {w : World} {va : Option Addr} {l : List ByteArray} {p n c : Nat} {x : Option Addr} {T : TypeId} (h : CellsAt w va (l.map Value.string)) (hp : Blk w p #[.slice x n c] T) (u : Value) : CellsAt (w.setCell ⟨p, 0, none⟩ u) va (l.map Value.string) := by
  intro hne
  obtain ⟨b, off, rfl, hc⟩ := h hne
  refine ⟨b, off, rfl, fun j v hv => ?_⟩
  have h1 := hc j v hv
  rw [World.cell?_setCell_other _ _ _ _ ?_]
  · exact h1
  · intro e
    simp only [Addr.mk.injEq] at e
    obtain ⟨rfl, e2, -⟩ := e
    rw [← e2, hp.cell 0 rfl] at h1
    obtain ⟨y, _, hy⟩ := List.mem_map.1 (List.mem_of_getElem? hv)
    rw [← hy] at h1
    cases h1
/-- Three rows made by a call, in three variables. -/
structure Three (w : World) (n : Nd) (s : Sp) (c : Ck) (va : Option Addr) (vc g1 g2 g3 p1 p2 p3 : Nat) (W : World) : Prop where
  bel : Below w.heap.size w W
  b1 : Blk W g1 (ccs (nodeCs n)).toArray 66
  b2 : Blk W g2 (ccs (svcCs s va vc)).toArray 66
  b3 : Blk W g3 (ccs (chkCs c)).toArray 66
  tx : CellsAt W va (s.tags.map Value.string)
  k1 : Blk W p1 #[.slice (some ⟨g1, 0, none⟩) 4 4] 60
  k2 : Blk W p2 #[.slice (some ⟨g2, 0, none⟩) 7 7] 60
  k3 : Blk W p3 #[.slice (some ⟨g3, 0, none⟩) 7 7] 60
theorem Three.below {w : World} {n : Nd} {s : Sp} {c : Ck} {va : Option Addr} {vc g1 g2 g3 p1 p2 p3 : Nat} {W W' : World} (h : Three w n s c va vc g1 g2 g3 p1 p2 p3 W) (hb : Below W.heap.size W W') : Three w n s c va vc g1 g2 g3 p1 p2 p3 W' :=
  ⟨h.bel.trans (hb.mono h.bel.size), h.b1.below hb, h.b2.below hb, h.b3.below hb, h.tx.below hb, h.k1.below hb, h.k2.below hb, h.k3.below hb⟩
theorem Three.made {w : World} {n : Nd} {s : Sp} {c : Ck} {va : Option Addr} {vc g1 g2 g3 p1 p2 p3 : Nat} {W : World} (hb : Below w.heap.size w W) (b1 : Blk W g1 (ccs (nodeCs n)).toArray 66) (b2 : Blk W g2 (ccs (svcCs s va vc)).toArray 66) (b3 : Blk W g3 (ccs (chkCs c)).toArray 66) (tx : CellsAt W va (s.tags.map Value.string))
    (k1 : Blk W p1 #[.slice none 0 0] 60) (k2 : Blk W p2 #[.slice none 0 0] 60) (k3 : Blk W p3 #[.slice none 0 0] 60) (h1 : w.heap.size ≤ p1) (h2 : w.heap.size ≤ p2) (h3 : w.heap.size ≤ p3) (h12 : p1 ≠ p2) (h13 : p1 ≠ p3) (h23 : p2 ≠ p3) :
    Three w n s c va vc g1 g2 g3 p1 p2 p3 (((W.setCell ⟨p1, 0, none⟩ (.slice (some ⟨g1, 0, none⟩) 4 4)).setCell ⟨p2, 0, none⟩ (.slice (some ⟨g2, 0, none⟩) 7 7)).setCell ⟨p3, 0, none⟩ (.slice (some ⟨g3, 0, none⟩) 7 7)) := by
  have n1 : ∀ {g : Nat} {cs : Array Value}, Blk W g cs 66 → g ≠ p1 ∧ g ≠ p2 ∧ g ≠ p3 := fun hg => ⟨hg.neW k1 (by decide), hg.neW k2 (by decide), hg.neW k3 (by decide)⟩
  have off : ∀ {g : Nat} {cs : Array Value}, Blk W g cs 66 → ∀ u1 u2 u3, Blk (((W.setCell ⟨p1, 0, none⟩ u1).setCell ⟨p2, 0, none⟩ u2).setCell ⟨p3, 0, none⟩ u3) g cs 66 := fun hg u1 u2 u3 => ((hg.offR (n1 hg).1 u1).offR (n1 hg).2.1 u2).offR (n1 hg).2.2 u3
  have a1 : Blk (W.setCell ⟨p1, 0, none⟩ (.slice (some ⟨g1, 0, none⟩) 4 4)) p2 #[.slice none 0 0] 60 := k2.offR (Ne.symm h12) _
  have a2 : Blk ((W.setCell ⟨p1, 0, none⟩ (.slice (some ⟨g1, 0, none⟩) 4 4)).setCell ⟨p2, 0, none⟩ (.slice (some ⟨g2, 0, none⟩) 7 7)) p3 #[.slice none 0 0] 60 := (k3.offR (Ne.symm h13) _).offR (Ne.symm h23) _
  refine ⟨((hb.setCell (p := ⟨p1, 0, none⟩) h1 _).setCell (p := ⟨p2, 0, none⟩) h2 _).setCell (p := ⟨p3, 0, none⟩) h3 _, off b1 _ _ _, off b2 _ _ _, off b3 _ _ _, ?_, ?_, ?_, ?_⟩
  · exact texts_off (texts_off (texts_off tx k1 _) a1 _) a2 _
  · exact ((k1.setR 0 _).offR h12 _).offR h13 _
  · exact (a1.setR 0 _).offR h23 _
  · exact a2.setR 0 _
theorem nodeCs_lstW {w : World} (n : Nd) : ∀ c ∈ nodeCs n, CellsAt w c.la (c.l.map Value.string) := by
  intro c hc
  simp only [nodeCs, List.mem_cons, List.not_mem_nil, or_false] at hc
  rcases hc with rfl | rfl | rfl | rfl <;> exact fun h => absurd rfl h
theorem chkCs_lstW {w : World} (n : Ck) : ∀ c ∈ chkCs n, CellsAt w c.la (c.l.map Value.string) := by
  intro c hc
  simp only [chkCs, List.mem_cons, List.not_mem_nil, or_false] at hc
  rcases hc with rfl | rfl | rfl | rfl | rfl | rfl | rfl <;> exact fun h => absurd rfl h
theorem svcCs_lstW {w : World} {s : Sp} {va : Option Addr} {vc : Nat} (h : CellsAt w va (s.tags.map Value.string)) : ∀ c ∈ svcCs s va vc, CellsAt w c.la (c.l.map Value.string) := by
  intro c hc
  simp only [svcCs, List.mem_cons, List.not_mem_nil, or_false] at hc
  rcases hc with rfl | rfl | rfl | rfl | rfl | rfl | rfl
  · exact fun h => absurd rfl h
  · exact fun h => absurd rfl h
  · exact fun h => absurd rfl h
  · exact fun h => absurd rfl h
  · exact h
  · exact fun h => absurd rfl h
  · exact fun h => absurd rfl h
theorem cels_t {cs : List CV} (h : ∀ x ∈ cs, x.wf) (k : Nat) : (celAt cs k).t.size ≤ 140737488351296 := by
  by_cases hk : k < cs.length
  · rw [celAt_in hk]
    exact Nat.le_trans (h _ (List.getElem_mem hk)).1 (by decide)
  · rw [celAt_out hk]
    exact Nat.zero_le _
theorem cells_front {w : World} {ao : Option Addr} {c : CV} {cs : List CV} (h : CellsAt w ao (ccs (c :: cs))) : CellsAt w ao (ccs [c]) := by
  intro _
  obtain ⟨b, off, e, hc⟩ := h (by simp [ccs])
  refine ⟨b, off, e, fun j u hu => hc j u ?_⟩
  have : ccs (c :: cs) = ccs [c] ++ ccs cs := by simp [ccs]
  rw [this, List.getElem?_append_left (List.getElem?_eq_some_iff.1 hu).1]
  exact hu
/-- What is asked of the records: texts and numbers as arguments have them. -/
structure RecOk (n : Nd) (s : Sp) (c : Ck) : Prop where
  fn : ∀ x ∈ nodeCs n, x.wf
  fs : ∀ va vc, ∀ x ∈ svcCs s va vc, x.wf
  fc : ∀ x ∈ chkCs c, x.wf
  l : s.tags.length ≤ 8796093021952
  tg : ∀ x ∈ s.tags, x.size ≤ 140737488351296
  p : IntKind.i64.wrap (IntKind.u64.wrap s.port) = s.port
  q : IntKind.i64.wrap (IntKind.u64.wrap c.status) = c.status

set_option maxRecDepth 100000 in
set_option maxHeartbeats 8000000 in
theorem recordsRows_calls (n : Nd) (s : Sp) (c : Ck) (ta : Option Addr) (tc : Nat) (w : World) (hv : Vs w) (hok : RecOk n s c) (hss : s.small) (hcs : c.small) (ht : CellsAt w ta (s.tags.map Value.string)) :
    Calls Tryd.prog 5 #[.agg n.v, .agg (s.v (.slice ta s.tags.length tc)), .agg c.v] w fun e w' => e = .returned (.bool true) ∧ Below w.heap.size w w' := by
  have HV : Hid (Vs w) := hv
  have HT : Hid (CellsAt w ta (s.tags.map Value.string)) := ht
  have HOK : Hid (RecOk n s c) := hok
  have hn1 : n.name.size ≤ 140737488351232 := (hok.fn _ (by simp [nodeCs]) : CV.wf ⟨n.name, 0, [], none, 0⟩).1
  have hn2 : n.addr.size ≤ 140737488351232 := (hok.fn _ (by simp [nodeCs]) : CV.wf ⟨n.addr, 0, [], none, 0⟩).1
  have hl := hok.l
  have CNR : Hid (∀ W, Calls Tryd.prog 15 #[.agg n.v] W fun e w' => RowA W 4 (ccs (nodeCs n)).toArray e w') := fun W => nodeRow_calls n W (by omega) (by omega)
  have CCS : Hid (∀ t c W, CellsAt W t (s.tags.map Value.string) → Calls Tryd.prog 17 #[.agg (s.v (.slice t s.tags.length c))] W fun e w' => CopA W s e w') := fun t c W h => copyService_calls s t c W (by omega) h
  have CSR : Hid (∀ t c W, CellsAt W t (s.tags.map Value.string) → Calls Tryd.prog 16 #[.agg (s.v (.slice t s.tags.length c))] W fun e w' => RowSA W s e w') := fun t c W h => serviceRow_calls s t c W hss (by omega) h
  have CCR : Hid (∀ W, Calls Tryd.prog 18 #[.agg c.v] W fun e w' => RowA W 7 (ccs (chkCs c)).toArray e w') := fun W => checkRow_calls c W hcs
  clear hv ht hok hn1 hn2 hl
  obtain ⟨z1, z2, z3, z4⟩ := three_boxW w (.cells n.v 44) (.cells (s.v (.slice ta s.tags.length tc)) 47) (.cells c.v 49)
  obtain ⟨wx, Hwx⟩ : ∃ x, Hid (x = ((w.alloc (.cells n.v 44)).alloc (.cells (s.v (.slice ta s.tags.length tc)) 47)).alloc (.cells c.v 49)) := ⟨_, rfl⟩
  have KN : Hid (Blk wx w.heap.size n.v 44) := by rw [Hwx.out]; exact z1
  have KS : Hid (Blk wx (w.heap.size + 1) (s.v (.slice ta s.tags.length tc)) 47) := by rw [Hwx.out]; exact z2
  have KC : Hid (Blk wx (w.heap.size + 1 + 1) c.v 49) := by rw [Hwx.out]; exact z3
  have B_wx : Hid (Below w.heap.size w wx) := by rw [Hwx.out]; exact z4
  clear z1 z2 z3 z4
  go_enter Tryd.func5, Tryd.ntmps5
  go_wp2_with fail
  rw [← Hwx.out]
  clear Hwx
  refine (recordsFixed_calls wx (HV.out.stay B_wx.out)).mono ?_
  rintro e w1 ⟨rfl, hb⟩
  have KN1 : Hid (Blk w1 w.heap.size n.v 44) := KN.out.below hb
  have KS1 : Hid (Blk w1 (w.heap.size + 1) (s.v (.slice ta s.tags.length tc)) 47) := KS.out.below hb
  have KC1 : Hid (Blk w1 (w.heap.size + 1 + 1) c.v 49) := KC.out.below hb
  have B1 : Hid (Below w.heap.size w w1) := B_wx.out.trans (hb.mono B_wx.out.size)
  have HT1 : Hid (CellsAt w1 ta (s.tags.map Value.string)) := HT.out.below B1.out
  clear hb KN KS KC B_wx
  go_wp2
  refine wp_region_invF 10 (fun i v W => if 7 ≤ i then (∃ p, v = .pointer (some ⟨p, 0, none⟩) ∧ Blk W p #[.slice none 0 0] 60 ∧ w1.heap.size ≤ p) else match i with
    | 0 => v = .agg n.v
    | 1 => ∃ g, v = .agg #[.slice (some ⟨g, 0, none⟩) 4 4] ∧ Blk W g (ccs (nodeCs n)).toArray 66
    | 2 => v = .agg (s.v (.slice ta s.tags.length tc))
    | 3 => ∃ oa oc, v = .agg (s.v (.slice oa s.tags.length oc)) ∧ CellsAt W oa (s.tags.map Value.string)
    | 4 => ∃ va vc g, v = .agg #[.slice (some ⟨g, 0, none⟩) 7 7] ∧ Blk W g (ccs (svcCs s va vc)).toArray 66 ∧ CellsAt W va (s.tags.map Value.string)
    | 5 => v = .agg c.v
    | 6 => ∃ g, v = .agg #[.slice (some ⟨g, 0, none⟩) 7 7] ∧ Blk W g (ccs (chkCs c)).toArray 66
    | _ => False) (fun i => decide (7 ≤ i)) (by kernel_rfl) (by kernel_rfl) (by kernel_rfl) [some 15, some 16, some 17, some 18, some 19, some 20, some 21, some 7, some 8, some 9] (by kernel_rfl) ?mono ?hop ?tail
  case mono =>
    intro i v W W' h hb
    by_cases h7 : 7 ≤ i
    · simp only [if_pos h7] at h ⊢
      obtain ⟨p, h1, h2, h3⟩ := h
      exact ⟨p, h1, h2.below hb, h3⟩
    · simp only [if_neg h7] at h ⊢
      match i, h with
      | 0, h => exact h
      | 1, ⟨g, h1, h2⟩ => exact ⟨g, h1, h2.below hb⟩
      | 2, h => exact h
      | 3, ⟨oa, oc, h1, h2⟩ => exact ⟨oa, oc, h1, h2.below hb⟩
      | 4, ⟨va, vc, g, h1, h2, h3⟩ => exact ⟨va, vc, g, h1, h2.below hb, h3.below hb⟩
      | 5, h => exact h
      | 6, ⟨g, h1, h2⟩ => exact ⟨g, h1, h2.below hb⟩
  case hop =>
    intro i o hi ho a W hB hs hd
    have hnew : ∀ v : Value, (∀ p : Nat, v = .pointer (some ⟨p, 0, none⟩) → W.heap.size ≤ p) → (∃ p : Nat, v = .pointer (some ⟨p, 0, none⟩)) → ∀ u : Value, (∃ p : Nat, u = .pointer (some ⟨p, 0, none⟩) ∧ Blk W p #[.slice none 0 0] 60 ∧ w1.heap.size ≤ p) → v ≠ u := by
      rintro v hv ⟨p, rfl⟩ u ⟨q, rfl, hq, _⟩ e
      have h1 := hv p rfl
      have h2 := hq.lt
      injection e with e
      injection e with e
      injection e with e
      omega
    match i, hi, ho, hd with
    | 0, _, ho, hd =>
      obtain rfl := Option.some.inj ho
      exact wp_load_row 44 (.tmp 3) rfl w.heap.size ((hs 3 (by kernel_rfl)).trans rfl) 44 n.v (0, 0) _ (KN1.out.below hB) Tryd.underlying44 rfl (by rw [info_nodeR]; rfl) ⟨_, rfl, rfl, Below.refl _ _, fun e => by cases e⟩
    | 1, _, ho, hd =>
      obtain rfl := Option.some.inj ho
      have h1 : a.eval (.tmp 15) = .agg n.v := hd 0 15 (by kernel_rfl) (by kernel_rfl)
      refine wp_callF (f := 15) (vals := #[.agg n.v]) rfl (map1 h1) (by go_simp) ?_
      refine (CNR.out W).mono ?_
      rintro e w' ⟨g, rfl, hg, _, hb⟩
      exact ⟨_, rfl, _, rfl, ⟨g, rfl, hg⟩, hb, fun e => by cases e⟩
    | 2, _, ho, hd =>
      obtain rfl := Option.some.inj ho
      exact wp_load_row 47 (.tmp 4) rfl (w.heap.size + 1) ((hs 4 (by kernel_rfl)).trans rfl) 47 (s.v (.slice ta s.tags.length tc)) (0, 0) _ (KS1.out.below hB) Tryd.underlying47 rfl (by rw [info_svc]; rfl) ⟨_, rfl, rfl, Below.refl _ _, fun e => by cases e⟩
    | 3, _, ho, hd =>
      obtain rfl := Option.some.inj ho
      have h1 : a.eval (.tmp 17) = .agg (s.v (.slice ta s.tags.length tc)) := hd 2 17 (by kernel_rfl) (by kernel_rfl)
      refine wp_callF (f := 17) (vals := #[.agg (s.v (.slice ta s.tags.length tc))]) rfl (map1 h1) (by go_simp) ?_
      refine (CCS.out ta tc W (HT1.out.below hB)).mono ?_
      rintro e w' ⟨v, rfl, ho, hb⟩
      obtain ⟨oa, oc, rfl, -⟩ := row_forms ho
      exact ⟨_, rfl, _, rfl, ⟨oa, oc, rfl, row_cells ho⟩, hb, fun e => by cases e⟩
    | 4, _, ho, hd =>
      obtain rfl := Option.some.inj ho
      obtain ⟨oa, oc, h1, h2⟩ := hd 3 18 (by kernel_rfl) (by kernel_rfl)
      refine wp_callF (f := 16) (vals := #[.agg (s.v (.slice oa s.tags.length oc))]) rfl (map1 h1) (by go_simp) ?_
      refine (CSR.out oa oc W h2).mono ?_
      rintro e w' ⟨va, vc, g, rfl, hg, hl, _, hb⟩
      exact ⟨_, rfl, _, rfl, ⟨va, vc, g, rfl, hg, hl⟩, hb, fun e => by cases e⟩
    | 5, _, ho, hd =>
      obtain rfl := Option.some.inj ho
      exact wp_load_row 49 (.tmp 5) rfl (w.heap.size + 1 + 1) ((hs 5 (by kernel_rfl)).trans rfl) 49 c.v (0, 0) _ (KC1.out.below hB) Tryd.underlying49 rfl (by rw [info_chk]; rfl) ⟨_, rfl, rfl, Below.refl _ _, fun e => by cases e⟩
    | 6, _, ho, hd =>
      obtain rfl := Option.some.inj ho
      have h1 : a.eval (.tmp 20) = .agg c.v := hd 5 20 (by kernel_rfl) (by kernel_rfl)
      refine wp_callF (f := 18) (vals := #[.agg c.v]) rfl (map1 h1) (by go_simp) ?_
      refine (CCR.out W).mono ?_
      rintro e w' ⟨g, rfl, hg, _, hb⟩
      exact ⟨_, rfl, _, rfl, ⟨g, rfl, hg⟩, hb, fun e => by cases e⟩
    | 7, _, ho, hd =>
      obtain rfl := Option.some.inj ho
      refine wp_allocF (cs := #[.slice none 0 0]) rfl (by go_simp) ⟨_, rfl, ⟨W.heap.size, rfl, Blk.new _ _ _, hB.size⟩, below_new _ _, fun _ j u _ hj hr => hnew _ (fun p e => by cases e; exact Nat.le_refl _) ⟨_, rfl⟩ u ?_⟩
      simp only [if_pos (of_decide_eq_true hj)] at hr
      exact hr
    | 8, _, ho, hd =>
      obtain rfl := Option.some.inj ho
      refine wp_allocF (cs := #[.slice none 0 0]) rfl (by go_simp) ⟨_, rfl, ⟨W.heap.size, rfl, Blk.new _ _ _, hB.size⟩, below_new _ _, fun _ j u _ hj hr => hnew _ (fun p e => by cases e; exact Nat.le_refl _) ⟨_, rfl⟩ u ?_⟩
      simp only [if_pos (of_decide_eq_true hj)] at hr
      exact hr
    | 9, _, ho, hd =>
      obtain rfl := Option.some.inj ho
      refine wp_allocF (cs := #[.slice none 0 0]) rfl (by go_simp) ⟨_, rfl, ⟨W.heap.size, rfl, Blk.new _ _ _, hB.size⟩, below_new _ _, fun _ j u _ hj hr => hnew _ (fun p e => by cases e; exact Nat.le_refl _) ⟨_, rfl⟩ u ?_⟩
      simp only [if_pos (of_decide_eq_true hj)] at hr
      exact hr
    | k + 10, hi, _, _ => exact absurd hi (by omega)
  case tail =>
    intro vs W hB hR hF
    have r0 : vs 0 = .agg n.v := hR 0 (by decide)
    obtain ⟨g1, r1, b1⟩ := hR 1 (by decide)
    have r2 : vs 2 = .agg (s.v (.slice ta s.tags.length tc)) := hR 2 (by decide)
    obtain ⟨oa, oc, r3, -⟩ := hR 3 (by decide)
    obtain ⟨va, vc, g2, r4, b2, tx⟩ := hR 4 (by decide)
    have r5 : vs 5 = .agg c.v := hR 5 (by decide)
    obtain ⟨g3, r6, b3⟩ := hR 6 (by decide)
    obtain ⟨p1, r7, k1, h1⟩ := hR 7 (by decide)
    obtain ⟨p2, r8, k2, h2⟩ := hR 8 (by decide)
    obtain ⟨p3, r9, k3, h3⟩ := hR 9 (by decide)
    have h12 : p1 ≠ p2 := fun e => hF 7 8 (by decide) (by decide) (by decide) rfl rfl (by rw [r7, r8, e])
    have h13 : p1 ≠ p3 := fun e => hF 7 9 (by decide) (by decide) (by decide) rfl rfl (by rw [r7, r9, e])
    have h23 : p2 ≠ p3 := fun e => hF 8 9 (by decide) (by decide) (by decide) rfl rfl (by rw [r8, r9, e])
    have HTh : Hid (Three w1 n s c va vc g1 g2 g3 p1 p2 p3 (((W.setCell ⟨p1, 0, none⟩ (.slice (some ⟨g1, 0, none⟩) 4 4)).setCell ⟨p2, 0, none⟩ (.slice (some ⟨g2, 0, none⟩) 7 7)).setCell ⟨p3, 0, none⟩ (.slice (some ⟨g3, 0, none⟩) 7 7))) := Three.made hB b1 b2 b3 tx k1 k2 k3 h1 h2 h3 h12 h13 h23
    have e1 := k1.cell 0 rfl
    have e2 := k2.cell 0 rfl
    have e3 := k3.cell 0 rfl
    have f1 := k1.open
    have f2 := k2.open
    have f3 := k3.open
    have h21 := Ne.symm h12
    have h31 := Ne.symm h13
    have h32 := Ne.symm h23
    clear hB hR hF b1 b2 b3 tx k1 k2 k3 h1 h2 h3
    simp only [putL, put_lit, List.setIfInBounds_toArray, List.set_cons_succ, List.set_cons_zero, List.drop_succ_cons, List.drop_zero]
    rw [r0, r1, r2, r3, r4, r5, r6, r7, r8, r9]
    clear r0 r1 r2 r3 r4 r5 r6 r7 r8 r9
    go_upto_region 4 with fail
    obtain ⟨w4, Hw4⟩ : ∃ x, Hid (x = (((W.setCell ⟨p1, 0, none⟩ (.slice (some ⟨g1, 0, none⟩) 4 4)).setCell ⟨p2, 0, none⟩ (.slice (some ⟨g2, 0, none⟩) 7 7)).setCell ⟨p3, 0, none⟩ (.slice (some ⟨g3, 0, none⟩) 7 7))) := ⟨_, rfl⟩
    rw [← Hw4.out] at HTh ⊢
    clear Hw4 e1 e2 e3 f1 f2 f3 h12 h13 h23 h21 h31 h32
    clear CNR CCS CSR CCR
    have HTh_w4 := HTh
    clear HTh
    have d_0 : w4.cell? ⟨w.heap.size, 0, none⟩ = some (.string n.name) := (KN1.out.below HTh_w4.out.bel).cell 0 rfl
    have d_1 : w4.cell? ⟨w.heap.size, 1, none⟩ = some (.string n.addr) := (KN1.out.below HTh_w4.out.bel).cell 1 rfl
    have d_2 : w4.cell? ⟨w.heap.size, 2, none⟩ = some (.int .u64 n.made) := (KN1.out.below HTh_w4.out.bel).cell 2 rfl
    have d_3 : w4.cell? ⟨w.heap.size, 3, none⟩ = some (.int .u64 n.changed) := (KN1.out.below HTh_w4.out.bel).cell 3 rfl
    go_upto_region 5 with fail
    obtain ⟨w5, Hw5⟩ : ∃ x, Hid (x = (w4.alloc (.cells #[.string n.name, .int .u64 0, .slice none 0 0, .string n.addr, .int .u64 0, .slice none 0 0, .string ⟨#[]⟩, .int .u64 n.made, .slice none 0 0, .string ⟨#[]⟩, .int .u64 n.changed, .slice none 0 0] 66)).alloc (.cells #[.slice (some ⟨w4.heap.size, 0, none⟩) 4 4] 60)) := ⟨_, rfl⟩
    obtain ⟨q1, Hq1⟩ : ∃ x, Hid (x = w4.heap.size) := ⟨_, rfl⟩
    have hzq1 : (w4.alloc (.cells #[.string n.name, .int .u64 0, .slice none 0 0, .string n.addr, .int .u64 0, .slice none 0 0, .string ⟨#[]⟩, .int .u64 n.made, .slice none 0 0, .string ⟨#[]⟩, .int .u64 n.changed, .slice none 0 0] 66)).heap.size = w4.heap.size + 1 := size_new _ _
    have hbq1 : Below w4.heap.size w4 w5 := by rw [Hw5.out]; exact (below_new _ _).alloc (by rw [hzq1]; omega) _
    have Qq1 : Hid (Blk w5 q1 #[.string n.name, .int .u64 0, .slice none 0 0, .string n.addr, .int .u64 0, .slice none 0 0, .string ⟨#[]⟩, .int .u64 n.made, .slice none 0 0, .string ⟨#[]⟩, .int .u64 n.changed, .slice none 0 0] 66) := by rw [Hw5.out, Hq1.out]; exact (Blk.new _ _ _).alloc _
    have Pq1 : Hid (Blk w5 (q1 + 1) #[.slice (some ⟨q1, 0, none⟩) 4 4] 60) := by rw [Hw5.out, Hq1.out, ← hzq1]; exact Blk.new _ _ _
    have HTh_w5 : Hid (Three w1 n s c va vc g1 g2 g3 p1 p2 p3 w5) := HTh_w4.out.below hbq1
    rw [← Hw5.out, ← Hq1.out]
    clear Hw5 Hq1 hzq1 hbq1 d_0 d_1 d_2 d_3
    have d_0 : w5.cell? ⟨w.heap.size + 1, 0, none⟩ = some (.string s.node) := (KS1.out.below HTh_w5.out.bel).cell 0 rfl
    have d_1 : w5.cell? ⟨w.heap.size + 1, 1, none⟩ = some (.string s.id) := (KS1.out.below HTh_w5.out.bel).cell 1 rfl
    have d_2 : w5.cell? ⟨w.heap.size + 1, 2, none⟩ = some (.string s.name) := (KS1.out.below HTh_w5.out.bel).cell 2 rfl
    have d_3 : w5.cell? ⟨w.heap.size + 1, 3, none⟩ = some (.int .i64 s.port) := (KS1.out.below HTh_w5.out.bel).cell 3 rfl
    have d_4 : w5.cell? ⟨w.heap.size + 1, 4, none⟩ = some (.slice ta s.tags.length tc) := (KS1.out.below HTh_w5.out.bel).cell 4 rfl
    have d_5 : w5.cell? ⟨w.heap.size + 1, 5, none⟩ = some (.int .u64 s.made) := (KS1.out.below HTh_w5.out.bel).cell 5 rfl
    have d_6 : w5.cell? ⟨w.heap.size + 1, 6, none⟩ = some (.int .u64 s.changed) := (KS1.out.below HTh_w5.out.bel).cell 6 rfl
    go_upto_region 6 with fail
    obtain ⟨w6, Hw6⟩ : ∃ x, Hid (x = (w5.alloc (.cells #[.string s.node, .int .u64 0, .slice none 0 0, .string s.id, .int .u64 0, .slice none 0 0, .string s.name, .int .u64 0, .slice none 0 0, .string ⟨#[]⟩, .int .u64 (IntKind.u64.wrap s.port), .slice none 0 0, .string ⟨#[]⟩, .int .u64 0, .slice ta s.tags.length tc, .string ⟨#[]⟩, .int .u64 s.made, .slice none 0 0, .string ⟨#[]⟩, .int .u64 s.changed, .slice none 0 0] 66)).alloc (.cells #[.slice (some ⟨w5.heap.size, 0, none⟩) 7 7] 60)) := ⟨_, rfl⟩
    obtain ⟨q2, Hq2⟩ : ∃ x, Hid (x = w5.heap.size) := ⟨_, rfl⟩
    have hzq2 : (w5.alloc (.cells #[.string s.node, .int .u64 0, .slice none 0 0, .string s.id, .int .u64 0, .slice none 0 0, .string s.name, .int .u64 0, .slice none 0 0, .string ⟨#[]⟩, .int .u64 (IntKind.u64.wrap s.port), .slice none 0 0, .string ⟨#[]⟩, .int .u64 0, .slice ta s.tags.length tc, .string ⟨#[]⟩, .int .u64 s.made, .slice none 0 0, .string ⟨#[]⟩, .int .u64 s.changed, .slice none 0 0] 66)).heap.size = w5.heap.size + 1 := size_new _ _
    have hbq2 : Below w5.heap.size w5 w6 := by rw [Hw6.out]; exact (below_new _ _).alloc (by rw [hzq2]; omega) _
    have Qq2 : Hid (Blk w6 q2 #[.string s.node, .int .u64 0, .slice none 0 0, .string s.id, .int .u64 0, .slice none 0 0, .string s.name, .int .u64 0, .slice none 0 0, .string ⟨#[]⟩, .int .u64 (IntKind.u64.wrap s.port), .slice none 0 0, .string ⟨#[]⟩, .int .u64 0, .slice ta s.tags.length tc, .string ⟨#[]⟩, .int .u64 s.made, .slice none 0 0, .string ⟨#[]⟩, .int .u64 s.changed, .slice none 0 0] 66) := by rw [Hw6.out, Hq2.out]; exact (Blk.new _ _ _).alloc _
    have Pq2 : Hid (Blk w6 (q2 + 1) #[.slice (some ⟨q2, 0, none⟩) 7 7] 60) := by rw [Hw6.out, Hq2.out, ← hzq2]; exact Blk.new _ _ _
    have HTh_w6 : Hid (Three w1 n s c va vc g1 g2 g3 p1 p2 p3 w6) := HTh_w5.out.below hbq2
    have Qq1' : Hid (Blk w6 q1 (ccs (nodeCs n)).toArray 66) := Qq1.out.below hbq2
    have Pq1' : Hid (Blk w6 (q1 + 1) #[.slice (some ⟨q1, 0, none⟩) 4 4] 60) := Pq1.out.below hbq2
    rw [← Hw6.out, ← Hq2.out]
    clear Hw6 Hq2 hzq2 hbq2 d_0 d_1 d_2 d_3 d_4 d_5 d_6
    clear Qq1 Pq1
    have d_0 : w6.cell? ⟨w.heap.size + 1 + 1, 0, none⟩ = some (.string c.node) := (KC1.out.below HTh_w6.out.bel).cell 0 rfl
    have d_1 : w6.cell? ⟨w.heap.size + 1 + 1, 1, none⟩ = some (.string c.id) := (KC1.out.below HTh_w6.out.bel).cell 1 rfl
    have d_2 : w6.cell? ⟨w.heap.size + 1 + 1, 2, none⟩ = some (.string c.service) := (KC1.out.below HTh_w6.out.bel).cell 2 rfl
    have d_3 : w6.cell? ⟨w.heap.size + 1 + 1, 3, none⟩ = some (.int .i64 c.status) := (KC1.out.below HTh_w6.out.bel).cell 3 rfl
    have d_4 : w6.cell? ⟨w.heap.size + 1 + 1, 4, none⟩ = some (.string c.note) := (KC1.out.below HTh_w6.out.bel).cell 4 rfl
    have d_5 : w6.cell? ⟨w.heap.size + 1 + 1, 5, none⟩ = some (.int .u64 c.made) := (KC1.out.below HTh_w6.out.bel).cell 5 rfl
    have d_6 : w6.cell? ⟨w.heap.size + 1 + 1, 6, none⟩ = some (.int .u64 c.changed) := (KC1.out.below HTh_w6.out.bel).cell 6 rfl
    go_upto_region 7 with fail
    obtain ⟨w7, Hw7⟩ : ∃ x, Hid (x = (w6.alloc (.cells #[.string c.node, .int .u64 0, .slice none 0 0, .string c.id, .int .u64 0, .slice none 0 0, .string c.service, .int .u64 0, .slice none 0 0, .string ⟨#[]⟩, .int .u64 (IntKind.u64.wrap c.status), .slice none 0 0, .string c.note, .int .u64 0, .slice none 0 0, .string ⟨#[]⟩, .int .u64 c.made, .slice none 0 0, .string ⟨#[]⟩, .int .u64 c.changed, .slice none 0 0] 66)).alloc (.cells #[.slice (some ⟨w6.heap.size, 0, none⟩) 7 7] 60)) := ⟨_, rfl⟩
    obtain ⟨q3, Hq3⟩ : ∃ x, Hid (x = w6.heap.size) := ⟨_, rfl⟩
    have hzq3 : (w6.alloc (.cells #[.string c.node, .int .u64 0, .slice none 0 0, .string c.id, .int .u64 0, .slice none 0 0, .string c.service, .int .u64 0, .slice none 0 0, .string ⟨#[]⟩, .int .u64 (IntKind.u64.wrap c.status), .slice none 0 0, .string c.note, .int .u64 0, .slice none 0 0, .string ⟨#[]⟩, .int .u64 c.made, .slice none 0 0, .string ⟨#[]⟩, .int .u64 c.changed, .slice none 0 0] 66)).heap.size = w6.heap.size + 1 := size_new _ _
    have hbq3 : Below w6.heap.size w6 w7 := by rw [Hw7.out]; exact (below_new _ _).alloc (by rw [hzq3]; omega) _
    have Qq3 : Hid (Blk w7 q3 #[.string c.node, .int .u64 0, .slice none 0 0, .string c.id, .int .u64 0, .slice none 0 0, .string c.service, .int .u64 0, .slice none 0 0, .string ⟨#[]⟩, .int .u64 (IntKind.u64.wrap c.status), .slice none 0 0, .string c.note, .int .u64 0, .slice none 0 0, .string ⟨#[]⟩, .int .u64 c.made, .slice none 0 0, .string ⟨#[]⟩, .int .u64 c.changed, .slice none 0 0] 66) := by rw [Hw7.out, Hq3.out]; exact (Blk.new _ _ _).alloc _
    have Pq3 : Hid (Blk w7 (q3 + 1) #[.slice (some ⟨q3, 0, none⟩) 7 7] 60) := by rw [Hw7.out, Hq3.out, ← hzq3]; exact Blk.new _ _ _
    have HTh_w7 : Hid (Three w1 n s c va vc g1 g2 g3 p1 p2 p3 w7) := HTh_w6.out.below hbq3
    have Qq1 : Hid (Blk w7 q1 (ccs (nodeCs n)).toArray 66) := Qq1'.out.below hbq3
    have Pq1 : Hid (Blk w7 (q1 + 1) #[.slice (some ⟨q1, 0, none⟩) 4 4] 60) := Pq1'.out.below hbq3
    have Qq2 : Hid (Blk w7 q2 (ccs (svcCs s ta tc)).toArray 66) := Qq2.out.below hbq3
    have Pq2 : Hid (Blk w7 (q2 + 1) #[.slice (some ⟨q2, 0, none⟩) 7 7] 60) := Pq2.out.below hbq3
    clear Qq1' Pq1'
    rw [← Hw7.out, ← Hq3.out]
    clear Hw7 Hq3 hzq3 hbq3 d_0 d_1 d_2 d_3 d_4 d_5 d_6
    have HT7 : Hid (CellsAt w7 ta (s.tags.map Value.string)) := HT1.out.below HTh_w7.out.bel
    have RA1 : Hid (∀ W, Below w7.heap.size w7 W → RowAt W (some ⟨g1, 0, none⟩) (nodeCs n) ∧ RowAt W (some ⟨q1, 0, none⟩) (nodeCs n)) := fun W hW => ⟨rowAt_blk (HTh_w7.out.b1.below hW) (nodeCs_lstW n) HOK.out.fn, rowAt_blk (Qq1.out.below hW) (nodeCs_lstW n) HOK.out.fn⟩
    have RA2 : Hid (∀ W, Below w7.heap.size w7 W → RowAt W (some ⟨g2, 0, none⟩) (svcCs s va vc) ∧ RowAt W (some ⟨q2, 0, none⟩) (svcCs s ta tc)) := fun W hW => ⟨rowAt_blk (HTh_w7.out.b2.below hW) (svcCs_lstW (HTh_w7.out.tx.below hW)) (HOK.out.fs va vc), rowAt_blk (Qq2.out.below hW) (svcCs_lstW (HT7.out.below hW)) (HOK.out.fs ta tc)⟩
    have RA3 : Hid (∀ W, Below w7.heap.size w7 W → RowAt W (some ⟨g3, 0, none⟩) (chkCs c) ∧ RowAt W (some ⟨q3, 0, none⟩) (chkCs c)) := fun W hW => ⟨rowAt_blk (HTh_w7.out.b3.below hW) (chkCs_lstW c) HOK.out.fc, rowAt_blk (Qq3.out.below hW) (chkCs_lstW c) HOK.out.fc⟩
    have M1 : Hid (∀ W, Below w7.heap.size w7 W → Calls Tryd.prog 19 #[.agg #[.slice (some ⟨g1, 0, none⟩) 4 4], .agg #[.slice (some ⟨q1, 0, none⟩) 4 4]] W fun e w' => e = .returned (.bool true) ∧ Below W.heap.size W w') := fun W hW => sameRow_calls (some ⟨g1, 0, none⟩) (some ⟨q1, 0, none⟩) 4 4 (nodeCs n) (nodeCs n) W (by show 4 ≤ _; decide) rfl (RA1.out W hW).1 (RA1.out W hW).2
    have M2 : Hid (∀ W, Below w7.heap.size w7 W → Calls Tryd.prog 19 #[.agg #[.slice (some ⟨g2, 0, none⟩) 7 7], .agg #[.slice (some ⟨q2, 0, none⟩) 7 7]] W fun e w' => e = .returned (.bool true) ∧ Below W.heap.size W w') := fun W hW => sameRow_calls (some ⟨g2, 0, none⟩) (some ⟨q2, 0, none⟩) 7 7 (svcCs s va vc) (svcCs s ta tc) W (by show 7 ≤ _; decide) rfl (RA2.out W hW).1 (RA2.out W hW).2
    have M3 : Hid (∀ W, Below w7.heap.size w7 W → Calls Tryd.prog 19 #[.agg #[.slice (some ⟨g3, 0, none⟩) 7 7], .agg #[.slice (some ⟨q3, 0, none⟩) 7 7]] W fun e w' => e = .returned (.bool true) ∧ Below W.heap.size W w') := fun W hW => sameRow_calls (some ⟨g3, 0, none⟩) (some ⟨q3, 0, none⟩) 7 7 (chkCs c) (chkCs c) W (by show 7 ≤ _; decide) rfl (RA3.out W hW).1 (RA3.out W hW).2
    have x1 := HTh_w7.out.k1.cell 0 rfl
    have y1 := Pq1.out.cell 0 rfl
    go_wp2_with fail
    refine (M1.out w7 (Below.refl _ _)).mono ?_
    rintro e w8 ⟨rfl, hb8⟩
    have D8 : Hid (Below w7.heap.size w7 w8) := hb8
    clear hb8 x1 y1
    have x2 := (HTh_w7.out.k2.below D8.out).cell 0 rfl
    have y2 := (Pq2.out.below D8.out).cell 0 rfl
    go_wp2_with fail
    refine (M2.out w8 D8.out).mono ?_
    rintro e w9 ⟨rfl, hb9⟩
    have D9 : Hid (Below w7.heap.size w7 w9) := D8.out.trans (hb9.mono D8.out.size)
    clear hb9 x2 y2 D8
    have x3 := (HTh_w7.out.k3.below D9.out).cell 0 rfl
    have y3 := (Pq3.out.below D9.out).cell 0 rfl
    go_wp2_with fail
    refine (M3.out w9 D9.out).mono ?_
    rintro e w10 ⟨rfl, hb10⟩
    have D10 : Hid (Below w7.heap.size w7 w10) := D9.out.trans (hb10.mono D9.out.size)
    clear hb10 x3 y3 D9 M1 M2 M3 Qq1 Pq1 Qq2 Pq2 Qq3 Pq3
    go_upto_region 9 with fail
    have HS9 : Hid (∀ W, Below w7.heap.size w7 W → W.cell? ⟨p1, 0, none⟩ = some (.slice (some ⟨g1, 0, none⟩) 4 4) ∧ W.cell? ⟨p2, 0, none⟩ = some (.slice (some ⟨g2, 0, none⟩) 7 7) ∧ W.cell? ⟨p3, 0, none⟩ = some (.slice (some ⟨g3, 0, none⟩) 7 7) ∧ W.cell? ⟨w.heap.size, 0, none⟩ = some (.string n.name) ∧ W.cell? ⟨w.heap.size, 1, none⟩ = some (.string n.addr) ∧ W.cell? ⟨w.heap.size, 2, none⟩ = some (.int .u64 n.made) ∧ W.cell? ⟨w.heap.size, 3, none⟩ = some (.int .u64 n.changed) ∧ W.cell? ⟨w.heap.size + 1, 0, none⟩ = some (.string s.node) ∧ W.cell? ⟨w.heap.size + 1, 1, none⟩ = some (.string s.id) ∧ W.cell? ⟨w.heap.size + 1, 2, none⟩ = some (.string s.name) ∧ W.cell? ⟨w.heap.size + 1, 3, none⟩ = some (.int .i64 s.port) ∧ W.cell? ⟨w.heap.size + 1, 4, none⟩ = some (.slice ta s.tags.length tc) ∧ W.cell? ⟨w.heap.size + 1, 5, none⟩ = some (.int .u64 s.made) ∧ W.cell? ⟨w.heap.size + 1, 6, none⟩ = some (.int .u64 s.changed) ∧ W.cell? ⟨w.heap.size + 1 + 1, 0, none⟩ = some (.string c.node) ∧ W.cell? ⟨w.heap.size + 1 + 1, 1, none⟩ = some (.string c.id) ∧ W.cell? ⟨w.heap.size + 1 + 1, 2, none⟩ = some (.string c.service) ∧ W.cell? ⟨w.heap.size + 1 + 1, 3, none⟩ = some (.int .i64 c.status) ∧ W.cell? ⟨w.heap.size + 1 + 1, 4, none⟩ = some (.string c.note) ∧ W.cell? ⟨w.heap.size + 1 + 1, 5, none⟩ = some (.int .u64 c.made) ∧ W.cell? ⟨w.heap.size + 1 + 1, 6, none⟩ = some (.int .u64 c.changed)) := fun W hW => ⟨(HTh_w7.out.k1.below hW).cell 0 rfl, (HTh_w7.out.k2.below hW).cell 0 rfl, (HTh_w7.out.k3.below hW).cell 0 rfl, ((KN1.out.below HTh_w7.out.bel).below hW).cell 0 rfl, ((KN1.out.below HTh_w7.out.bel).below hW).cell 1 rfl, ((KN1.out.below HTh_w7.out.bel).below hW).cell 2 rfl, ((KN1.out.below HTh_w7.out.bel).below hW).cell 3 rfl, ((KS1.out.below HTh_w7.out.bel).below hW).cell 0 rfl, ((KS1.out.below HTh_w7.out.bel).below hW).cell 1 rfl, ((KS1.out.below HTh_w7.out.bel).below hW).cell 2 rfl, ((KS1.out.below HTh_w7.out.bel).below hW).cell 3 rfl, ((KS1.out.below HTh_w7.out.bel).below hW).cell 4 rfl, ((KS1.out.below HTh_w7.out.bel).below hW).cell 5 rfl, ((KS1.out.below HTh_w7.out.bel).below hW).cell 6 rfl, ((KC1.out.below HTh_w7.out.bel).below hW).cell 0 rfl, ((KC1.out.below HTh_w7.out.bel).below hW).cell 1 rfl, ((KC1.out.below HTh_w7.out.bel).below hW).cell 2 rfl, ((KC1.out.below HTh_w7.out.bel).below hW).cell 3 rfl, ((KC1.out.below HTh_w7.out.bel).below hW).cell 4 rfl, ((KC1.out.below HTh_w7.out.bel).below hW).cell 5 rfl, ((KC1.out.below HTh_w7.out.bel).below hW).cell 6 rfl⟩
    have HTn : Hid (∀ k, (celAt (nodeCs n) k).t.size ≤ 140737488351296) := cels_t HOK.out.fn
    have HTs : Hid (∀ k, (celAt (svcCs s va vc) k).t.size ≤ 140737488351296) := cels_t (HOK.out.fs va vc)
    have HTc : Hid (∀ k, (celAt (chkCs c) k).t.size ≤ 140737488351296) := cels_t HOK.out.fc
    have A1 : Hid (∀ W, Below w7.heap.size w7 W → Calls Tryd.prog 20 #[.agg #[.slice (some ⟨g1, 0, none⟩) 4 4]] W fun e w' => e = .returned (.agg #[.string n.name, .string n.addr, .int .u64 n.made, .int .u64 n.changed]) ∧ Below W.heap.size W w') := fun W hW => rowNode_calls (some ⟨g1, 0, none⟩) 4 (nodeCs n) W (by show 4 ≤ _; decide) HTn.out (RA1.out W hW).1.row
    have A2 : Hid (∀ W, Below w7.heap.size w7 W → Calls Tryd.prog 22 #[.agg #[.slice (some ⟨g2, 0, none⟩) 7 7]] W fun e w' => SvcR W s e w') := fun W hW => by
      have h := rowService_calls (some ⟨g2, 0, none⟩) 7 (svcCs s va vc) W (by show 7 ≤ _; decide) HTs.out (by show s.tags.length ≤ _; have := HOK.out.l; omega) (HOK.out.tg) (HTh_w7.out.tx.below hW) (RA2.out W hW).1.row
      have e : (⟨(celAt (svcCs s va vc) 0).t, (celAt (svcCs s va vc) 1).t, (celAt (svcCs s va vc) 2).t, IntKind.i64.wrap (celAt (svcCs s va vc) 3).n, (celAt (svcCs s va vc) 4).l, (celAt (svcCs s va vc) 5).n, (celAt (svcCs s va vc) 6).n⟩ : Sp) = s := by
        show (⟨s.node, s.id, s.name, IntKind.i64.wrap (IntKind.u64.wrap s.port), s.tags, s.made, s.changed⟩ : Sp) = s
        rw [HOK.out.p]
      rw [e] at h
      exact h
    have A3 : Hid (∀ W, Below w7.heap.size w7 W → Calls Tryd.prog 23 #[.agg #[.slice (some ⟨g3, 0, none⟩) 7 7]] W fun e w' => e = .returned (.agg #[.string c.node, .string c.id, .string c.service, .int .i64 c.status, .string c.note, .int .u64 c.made, .int .u64 c.changed]) ∧ Below W.heap.size W w') := fun W hW => by
      have h := rowCheck_calls (some ⟨g3, 0, none⟩) 7 (chkCs c) W (by show 7 ≤ _; decide) HTc.out (RA3.out W hW).1.row
      have e : IntKind.i64.wrap (celAt (chkCs c) 3).n = c.status := HOK.out.q
      rw [e] at h
      exact h
    have A4 : Hid (∀ W, Below w7.heap.size w7 W → Calls Tryd.prog 20 #[.agg #[.slice (some ⟨g1, 0, none⟩) 1 4]] W fun e w' => e = .returned (.agg #[.string n.name, .string ⟨#[]⟩, .int .u64 0, .int .u64 0]) ∧ Below W.heap.size W w') := fun W hW => rowNode_calls (some ⟨g1, 0, none⟩) 4 [⟨n.name, 0, [], none, 0⟩] W (by show 1 ≤ _; decide) (cels_t (cs := [⟨n.name, 0, [], none, 0⟩]) fun x hx => HOK.out.fn x (by simp only [List.mem_singleton] at hx; rw [hx]; simp [nodeCs])) (cells_front (RA1.out W hW).1.row)
    have A5 : Hid (∀ W, Calls Tryd.prog 22 #[.agg #[.slice none 0 0]] W fun e w' => SvcR W svcZ e w') := fun W => rowService_calls none 0 [] W (by decide) (fun k => Nat.zero_le _) (by decide) (fun x hx => by cases hx) (fun h => absurd rfl h) (fun h => absurd rfl h)
    have A6 : Hid (∀ a ac W, CellsAt W a (s.tags.map Value.string) → CellsAt W ta (s.tags.map Value.string) → Calls Tryd.prog 21 #[.agg (s.v (.slice a s.tags.length ac)), .agg (s.v (.slice ta s.tags.length tc))] W fun e w' => e = .returned (.bool true) ∧ Below W.heap.size W w') := fun a ac W h1 h2 => sameService_calls s a ta ac tc W (by have := HOK.out.l; omega) h1 h2
    have A7 : Hid (∀ a ac W, Calls Tryd.prog 21 #[.agg #[.string ⟨#[]⟩, .string ⟨#[]⟩, .string ⟨#[]⟩, .int .i64 0, .slice a 0 ac, .int .u64 0, .int .u64 0], .agg #[.string ⟨#[]⟩, .string ⟨#[]⟩, .string ⟨#[]⟩, .int .i64 0, .slice none 0 0, .int .u64 0, .int .u64 0]] W fun e w' => e = .returned (.bool true) ∧ Below W.heap.size W w') := fun a ac W => sameService_calls svcZ a none ac 0 W (by decide) (fun h => absurd rfl h) (fun h => absurd rfl h)
    have A8 : Hid (∀ g cap W, CellsAt W (some ⟨g, 0, none⟩) (ccs (chkCs c ++ [⟨⟨#[]⟩, 9, [], none, 0⟩])) → Calls Tryd.prog 23 #[.agg #[.slice (some ⟨g, 0, none⟩) 8 cap]] W fun e w' => e = .returned (.agg #[.string c.node, .string c.id, .string c.service, .int .i64 c.status, .string c.note, .int .u64 c.made, .int .u64 c.changed]) ∧ Below W.heap.size W w') := fun g cap W hW => by
      have h := rowCheck_calls (some ⟨g, 0, none⟩) cap (chkCs c ++ [⟨⟨#[]⟩, 9, [], none, 0⟩]) W (by show 8 ≤ _; decide) (cels_t fun x hx => by
        rcases List.mem_append.1 hx with h | h
        · exact HOK.out.fc x h
        · simp only [List.mem_singleton] at h
          rw [h]
          exact ⟨Nat.zero_le _, ⟨by decide, by decide⟩, by simp, by simp⟩) hW
      have e : IntKind.i64.wrap (celAt (chkCs c ++ [⟨⟨#[]⟩, 9, [], none, 0⟩]) 3).n = c.status := HOK.out.q
      rw [e] at h
      exact h
    have D_box : Hid (∀ W, Below w10.heap.size w10 W → Below w7.heap.size w7 W) := fun W hW => D10.out.trans (hW.mono D10.out.size)
    refine wp_region_invG 44 (fun i v W => match i with
    | 0 => v = .agg #[.slice (some ⟨g1, 0, none⟩) 4 4]
    | 1 => v = .agg #[.string n.name, .string n.addr, .int .u64 n.made, .int .u64 n.changed]
    | 2 => v = .agg #[.string n.name, .string n.addr, .int .u64 n.made, .int .u64 n.changed]
    | 3 => v = .bool true
    | 4 => v = .bool true
    | 5 => v = .agg #[.slice (some ⟨g2, 0, none⟩) 7 7]
    | 6 => ∃ xa xc, v = .agg #[.string s.node, .string s.id, .string s.name, .int .i64 s.port, .slice xa s.tags.length xc, .int .u64 s.made, .int .u64 s.changed] ∧ CellsAt W xa (s.tags.map Value.string)
    | 7 => v = .agg #[.string s.node, .string s.id, .string s.name, .int .i64 s.port, .slice ta s.tags.length tc, .int .u64 s.made, .int .u64 s.changed]
    | 8 => v = .bool true
    | 9 => v = .bool true
    | 10 => v = .bool true
    | 11 => v = .agg #[.slice (some ⟨g3, 0, none⟩) 7 7]
    | 12 => v = .agg #[.string c.node, .string c.id, .string c.service, .int .i64 c.status, .string c.note, .int .u64 c.made, .int .u64 c.changed]
    | 13 => v = .agg #[.string c.node, .string c.id, .string c.service, .int .i64 c.status, .string c.note, .int .u64 c.made, .int .u64 c.changed]
    | 14 => v = .bool true
    | 15 => v = .bool true
    | 16 => v = .bool true
    | 17 => v = .pointer (some ⟨p1, 0, none⟩)
    | 18 => v = .slice (some ⟨g1, 0, none⟩) 4 4
    | 19 => v = .slice (some ⟨g1, 0, none⟩) 1 4
    | 20 => v = .agg #[.slice (some ⟨g1, 0, none⟩) 1 4]
    | 21 => v = .agg #[.string n.name, .string ⟨#[]⟩, .int .u64 0, .int .u64 0]
    | 22 => v = .pointer (some ⟨w.heap.size, 0, none⟩)
    | 23 => v = .string n.name
    | 24 => v = .agg #[.string n.name, .string ⟨#[]⟩, .int .u64 0, .int .u64 0]
    | 25 => v = .bool true
    | 26 => v = .bool true
    | 27 => v = .bool true
    | 28 => v = .agg #[.slice none 0 0]
    | 29 => ∃ xa xc, v = .agg #[.string ⟨#[]⟩, .string ⟨#[]⟩, .string ⟨#[]⟩, .int .i64 0, .slice xa 0 xc, .int .u64 0, .int .u64 0]
    | 30 => v = .agg #[.string ⟨#[]⟩, .string ⟨#[]⟩, .string ⟨#[]⟩, .int .i64 0, .slice none 0 0, .int .u64 0, .int .u64 0]
    | 31 => v = .bool true
    | 32 => v = .bool true
    | 33 => v = .bool true
    | 34 => v = .pointer (some ⟨p3, 0, none⟩)
    | 35 => v = .slice (some ⟨g3, 0, none⟩) 7 7
    | 36 => v = .agg #[.string ⟨#[]⟩, .int .u64 9, .slice none 0 0]
    | 37 => ∃ g, v = .slice (some ⟨g, 0, none⟩) 1 1 ∧ Blk W g #[.string ⟨#[]⟩, .int .u64 9, .slice none 0 0] 66
    | 38 => ∃ g cap, v = .slice (some ⟨g, 0, none⟩) 8 cap ∧ CellsAt W (some ⟨g, 0, none⟩) (ccs (chkCs c ++ [⟨⟨#[]⟩, 9, [], none, 0⟩]))
    | 39 => ∃ g cap, v = .agg #[.slice (some ⟨g, 0, none⟩) 8 cap] ∧ CellsAt W (some ⟨g, 0, none⟩) (ccs (chkCs c ++ [⟨⟨#[]⟩, 9, [], none, 0⟩]))
    | 40 => v = .agg #[.string c.node, .string c.id, .string c.service, .int .i64 c.status, .string c.note, .int .u64 c.made, .int .u64 c.changed]
    | 41 => v = .agg #[.string c.node, .string c.id, .string c.service, .int .i64 c.status, .string c.note, .int .u64 c.made, .int .u64 c.changed]
    | 42 => v = .bool true
    | 43 => v = .bool true
    | _ => False) (fun _ => false) (by kernel_rfl) (by kernel_rfl) (by kernel_rfl) [some 100, some 101, some 102, some 103, some 104, some 105, some 106, some 107, some 108, some 109, some 110, some 111, some 112, some 113, some 114, some 115, some 116, some 117, some 118, some 119, some 120, some 121, some 122, some 123, some 124, some 125, some 126, some 127, some 128, some 129, some 130, some 131, some 132, some 133, some 134, some 135, some 136, some 137, some 138, some 139, some 140, some 141, some 142, some 143] (by kernel_rfl) ?mono2 ?hop2 ?tail2
    case mono2 =>
      intro i v W W' h hb
      match i, h with
      | 0, h => exact h
      | 1, h => exact h
      | 2, h => exact h
      | 3, h => exact h
      | 4, h => exact h
      | 5, h => exact h
      | 6, ⟨xa, xc, h1, h2⟩ => exact ⟨xa, xc, h1, h2.below hb⟩
      | 7, h => exact h
      | 8, h => exact h
      | 9, h => exact h
      | 10, h => exact h
      | 11, h => exact h
      | 12, h => exact h
      | 13, h => exact h
      | 14, h => exact h
      | 15, h => exact h
      | 16, h => exact h
      | 17, h => exact h
      | 18, h => exact h
      | 19, h => exact h
      | 20, h => exact h
      | 21, h => exact h
      | 22, h => exact h
      | 23, h => exact h
      | 24, h => exact h
      | 25, h => exact h
      | 26, h => exact h
      | 27, h => exact h
      | 28, h => exact h
      | 29, h => exact h
      | 30, h => exact h
      | 31, h => exact h
      | 32, h => exact h
      | 33, h => exact h
      | 34, h => exact h
      | 35, h => exact h
      | 36, h => exact h
      | 37, ⟨g, h1, h2⟩ => exact ⟨g, h1, h2.below hb⟩
      | 38, ⟨g, cap, h1, h2⟩ => exact ⟨g, cap, h1, h2.below hb⟩
      | 39, ⟨g, cap, h1, h2⟩ => exact ⟨g, cap, h1, h2.below hb⟩
      | 40, h => exact h
      | 41, h => exact h
      | 42, h => exact h
      | 43, h => exact h
    case hop2 =>
      intro i o hi ho a W hB0 hs hd
      have hB := D_box.out W hB0
      match i, hi, ho, hd with
      | 0, _, ho, hd =>
        obtain rfl := Option.some.inj ho
        refine ⟨.inl rfl, ?_⟩
        exact wp_load_row 60 (.tmp 7) rfl (p1) ((hs 7 (by kernel_rfl)).trans rfl) 60 #[.slice (some ⟨g1, 0, none⟩) 4 4] (0, 0) _ (HTh_w7.out.k1.below hB) Tryd.underlying60 rfl (by rw [info_row]; rfl) ⟨_, rfl, rfl, Below.refl _ _, fun e => by cases e⟩
      | 1, _, ho, hd =>
        obtain rfl := Option.some.inj ho
        refine ⟨.inl rfl, ?_⟩
        have h0 : a.eval (.tmp 100) = .agg #[.slice (some ⟨g1, 0, none⟩) 4 4] := hd 0 100 (by kernel_rfl) (by kernel_rfl)
        refine wp_callF (f := 20) (vals := #[.agg #[.slice (some ⟨g1, 0, none⟩) 4 4]]) rfl (map1 h0) (by go_simp) ?_
        exact (A1.out W hB).mono fun e w' ⟨he, hb⟩ => ⟨_, he, _, rfl, rfl, hb, fun e => by cases e⟩
      | 2, _, ho, hd =>
        obtain rfl := Option.some.inj ho
        refine ⟨.inl rfl, ?_⟩
        exact wp_load_row 44 (.tmp 3) rfl (w.heap.size) ((hs 3 (by kernel_rfl)).trans rfl) 44 #[.string n.name, .string n.addr, .int .u64 n.made, .int .u64 n.changed] (0, 0) _ ((KN1.out.below HTh_w7.out.bel).below hB) Tryd.underlying44 rfl (by rw [info_nodeR]; rfl) ⟨_, rfl, rfl, Below.refl _ _, fun e => by cases e⟩
      | 3, _, ho, hd =>
        obtain rfl := Option.some.inj ho
        refine ⟨.inl rfl, ?_⟩
        have h1 : a.eval (.tmp 101) = .agg #[.string n.name, .string n.addr, .int .u64 n.made, .int .u64 n.changed] := hd 1 101 (by kernel_rfl) (by kernel_rfl)
        have h2 : a.eval (.tmp 102) = .agg #[.string n.name, .string n.addr, .int .u64 n.made, .int .u64 n.changed] := hd 2 102 (by kernel_rfl) (by kernel_rfl)
        exact f_eqlNode rfl h1 h2 ⟨_, rfl, rfl, Below.refl _ _, fun e => by cases e⟩
      | 4, _, ho, hd =>
        obtain rfl := Option.some.inj ho
        refine ⟨.inl rfl, ?_⟩
        have h3 : a.eval (.tmp 103) = .bool true := hd 3 103 (by kernel_rfl) (by kernel_rfl)
        exact f_move rfl h3 ⟨_, rfl, rfl, Below.refl _ _, fun e => by cases e⟩
      | 5, _, ho, hd =>
        obtain rfl := Option.some.inj ho
        have hg : a.eval (.tmp 104) = .bool true := hd 4 104 (by kernel_rfl) (by kernel_rfl)
        refine ⟨.inr ⟨4, true, 104, rfl, by kernel_rfl, hg⟩, ?_⟩
        exact wp_load_row 60 (.tmp 8) rfl (p2) ((hs 8 (by kernel_rfl)).trans rfl) 60 #[.slice (some ⟨g2, 0, none⟩) 7 7] (0, 0) _ (HTh_w7.out.k2.below hB) Tryd.underlying60 rfl (by rw [info_row]; rfl) ⟨_, rfl, rfl, Below.refl _ _, fun e => by cases e⟩
      | 6, _, ho, hd =>
        obtain rfl := Option.some.inj ho
        have hg : a.eval (.tmp 104) = .bool true := hd 4 104 (by kernel_rfl) (by kernel_rfl)
        refine ⟨.inr ⟨4, true, 104, rfl, by kernel_rfl, hg⟩, ?_⟩
        have h5 : a.eval (.tmp 105) = .agg #[.slice (some ⟨g2, 0, none⟩) 7 7] := hd 5 105 (by kernel_rfl) (by kernel_rfl)
        refine wp_callF (f := 22) (vals := #[.agg #[.slice (some ⟨g2, 0, none⟩) 7 7]]) rfl (map1 h5) (by go_simp) ?_
        refine (A2.out W hB).mono ?_
        rintro e w' ⟨v, rfl, hor, hb⟩
        obtain ⟨xa, xc, rfl, -⟩ := row_forms hor
        exact ⟨_, rfl, _, rfl, ⟨xa, xc, rfl, row_cells hor⟩, hb, fun e => by cases e⟩
      | 7, _, ho, hd =>
        obtain rfl := Option.some.inj ho
        have hg : a.eval (.tmp 104) = .bool true := hd 4 104 (by kernel_rfl) (by kernel_rfl)
        refine ⟨.inr ⟨4, true, 104, rfl, by kernel_rfl, hg⟩, ?_⟩
        exact wp_load_row 47 (.tmp 4) rfl (w.heap.size + 1) ((hs 4 (by kernel_rfl)).trans rfl) 47 #[.string s.node, .string s.id, .string s.name, .int .i64 s.port, .slice ta s.tags.length tc, .int .u64 s.made, .int .u64 s.changed] (0, 0) _ ((KS1.out.below HTh_w7.out.bel).below hB) Tryd.underlying47 rfl (by rw [info_svc]; rfl) ⟨_, rfl, rfl, Below.refl _ _, fun e => by cases e⟩
      | 8, _, ho, hd =>
        obtain rfl := Option.some.inj ho
        have hg : a.eval (.tmp 104) = .bool true := hd 4 104 (by kernel_rfl) (by kernel_rfl)
        refine ⟨.inr ⟨4, true, 104, rfl, by kernel_rfl, hg⟩, ?_⟩
        have h7 : a.eval (.tmp 107) = .agg #[.string s.node, .string s.id, .string s.name, .int .i64 s.port, .slice ta s.tags.length tc, .int .u64 s.made, .int .u64 s.changed] := hd 7 107 (by kernel_rfl) (by kernel_rfl)
        obtain ⟨xa, xc, h6, hx6⟩ := hd 6 106 (by kernel_rfl) (by kernel_rfl)
        refine wp_callF (f := 21) (vals := #[.agg #[.string s.node, .string s.id, .string s.name, .int .i64 s.port, .slice xa s.tags.length xc, .int .u64 s.made, .int .u64 s.changed], .agg #[.string s.node, .string s.id, .string s.name, .int .i64 s.port, .slice ta s.tags.length tc, .int .u64 s.made, .int .u64 s.changed]]) rfl (map2 h6 h7) (by go_simp) ?_
        exact (A6.out xa xc W hx6 (HT7.out.below hB)).mono fun e w' ⟨he, hb⟩ => ⟨_, he, _, rfl, rfl, hb, fun e => by cases e⟩
      | 9, _, ho, hd =>
        obtain rfl := Option.some.inj ho
        refine ⟨.inl rfl, ?_⟩
        have h4 : a.eval (.tmp 104) = .bool true := hd 4 104 (by kernel_rfl) (by kernel_rfl)
        have h8 : a.eval (.tmp 108) = .bool true := hd 8 108 (by kernel_rfl) (by kernel_rfl)
        exact f_pick rfl h4 h8 ⟨_, rfl, rfl, Below.refl _ _, fun e => by cases e⟩
      | 10, _, ho, hd =>
        obtain rfl := Option.some.inj ho
        refine ⟨.inl rfl, ?_⟩
        have h9 : a.eval (.tmp 109) = .bool true := hd 9 109 (by kernel_rfl) (by kernel_rfl)
        exact f_move rfl h9 ⟨_, rfl, rfl, Below.refl _ _, fun e => by cases e⟩
      | 11, _, ho, hd =>
        obtain rfl := Option.some.inj ho
        have hg : a.eval (.tmp 110) = .bool true := hd 10 110 (by kernel_rfl) (by kernel_rfl)
        refine ⟨.inr ⟨10, true, 110, rfl, by kernel_rfl, hg⟩, ?_⟩
        exact wp_load_row 60 (.tmp 9) rfl (p3) ((hs 9 (by kernel_rfl)).trans rfl) 60 #[.slice (some ⟨g3, 0, none⟩) 7 7] (0, 0) _ (HTh_w7.out.k3.below hB) Tryd.underlying60 rfl (by rw [info_row]; rfl) ⟨_, rfl, rfl, Below.refl _ _, fun e => by cases e⟩
      | 12, _, ho, hd =>
        obtain rfl := Option.some.inj ho
        have hg : a.eval (.tmp 110) = .bool true := hd 10 110 (by kernel_rfl) (by kernel_rfl)
        refine ⟨.inr ⟨10, true, 110, rfl, by kernel_rfl, hg⟩, ?_⟩
        have h11 : a.eval (.tmp 111) = .agg #[.slice (some ⟨g3, 0, none⟩) 7 7] := hd 11 111 (by kernel_rfl) (by kernel_rfl)
        refine wp_callF (f := 23) (vals := #[.agg #[.slice (some ⟨g3, 0, none⟩) 7 7]]) rfl (map1 h11) (by go_simp) ?_
        exact (A3.out W hB).mono fun e w' ⟨he, hb⟩ => ⟨_, he, _, rfl, rfl, hb, fun e => by cases e⟩
      | 13, _, ho, hd =>
        obtain rfl := Option.some.inj ho
        have hg : a.eval (.tmp 110) = .bool true := hd 10 110 (by kernel_rfl) (by kernel_rfl)
        refine ⟨.inr ⟨10, true, 110, rfl, by kernel_rfl, hg⟩, ?_⟩
        exact wp_load_row 49 (.tmp 5) rfl (w.heap.size + 1 + 1) ((hs 5 (by kernel_rfl)).trans rfl) 49 #[.string c.node, .string c.id, .string c.service, .int .i64 c.status, .string c.note, .int .u64 c.made, .int .u64 c.changed] (0, 0) _ ((KC1.out.below HTh_w7.out.bel).below hB) Tryd.underlying49 rfl (by rw [info_chk]; rfl) ⟨_, rfl, rfl, Below.refl _ _, fun e => by cases e⟩
      | 14, _, ho, hd =>
        obtain rfl := Option.some.inj ho
        have hg : a.eval (.tmp 110) = .bool true := hd 10 110 (by kernel_rfl) (by kernel_rfl)
        refine ⟨.inr ⟨10, true, 110, rfl, by kernel_rfl, hg⟩, ?_⟩
        have h12 : a.eval (.tmp 112) = .agg #[.string c.node, .string c.id, .string c.service, .int .i64 c.status, .string c.note, .int .u64 c.made, .int .u64 c.changed] := hd 12 112 (by kernel_rfl) (by kernel_rfl)
        have h13 : a.eval (.tmp 113) = .agg #[.string c.node, .string c.id, .string c.service, .int .i64 c.status, .string c.note, .int .u64 c.made, .int .u64 c.changed] := hd 13 113 (by kernel_rfl) (by kernel_rfl)
        exact f_eqlCheck rfl h12 h13 ⟨_, rfl, rfl, Below.refl _ _, fun e => by cases e⟩
      | 15, _, ho, hd =>
        obtain rfl := Option.some.inj ho
        refine ⟨.inl rfl, ?_⟩
        have h10 : a.eval (.tmp 110) = .bool true := hd 10 110 (by kernel_rfl) (by kernel_rfl)
        have h14 : a.eval (.tmp 114) = .bool true := hd 14 114 (by kernel_rfl) (by kernel_rfl)
        exact f_pick rfl h10 h14 ⟨_, rfl, rfl, Below.refl _ _, fun e => by cases e⟩
      | 16, _, ho, hd =>
        obtain rfl := Option.some.inj ho
        refine ⟨.inl rfl, ?_⟩
        have h15 : a.eval (.tmp 115) = .bool true := hd 15 115 (by kernel_rfl) (by kernel_rfl)
        exact f_move rfl h15 ⟨_, rfl, rfl, Below.refl _ _, fun e => by cases e⟩
      | 17, _, ho, hd =>
        obtain rfl := Option.some.inj ho
        have hg : a.eval (.tmp 116) = .bool true := hd 16 116 (by kernel_rfl) (by kernel_rfl)
        refine ⟨.inr ⟨16, true, 116, rfl, by kernel_rfl, hg⟩, ?_⟩
        exact f_fieldRow rfl ((hs 7 (by kernel_rfl)).trans rfl) ⟨_, rfl, rfl, Below.refl _ _, fun e => by cases e⟩
      | 18, _, ho, hd =>
        obtain rfl := Option.some.inj ho
        have hg : a.eval (.tmp 116) = .bool true := hd 16 116 (by kernel_rfl) (by kernel_rfl)
        refine ⟨.inr ⟨16, true, 116, rfl, by kernel_rfl, hg⟩, ?_⟩
        have h17 : a.eval (.tmp 117) = .pointer (some ⟨p1, 0, none⟩) := hd 17 117 (by kernel_rfl) (by kernel_rfl)
        exact f_loadCells rfl h17 ((HTh_w7.out.k1.below hB).cell 0 rfl) ⟨_, rfl, rfl, Below.refl _ _, fun e => by cases e⟩
      | 19, _, ho, hd =>
        obtain rfl := Option.some.inj ho
        have hg : a.eval (.tmp 116) = .bool true := hd 16 116 (by kernel_rfl) (by kernel_rfl)
        refine ⟨.inr ⟨16, true, 116, rfl, by kernel_rfl, hg⟩, ?_⟩
        have h18 : a.eval (.tmp 118) = .slice (some ⟨g1, 0, none⟩) 4 4 := hd 18 118 (by kernel_rfl) (by kernel_rfl)
        exact f_slice1 rfl h18 ⟨_, rfl, rfl, Below.refl _ _, fun e => by cases e⟩
      | 20, _, ho, hd =>
        obtain rfl := Option.some.inj ho
        have hg : a.eval (.tmp 116) = .bool true := hd 16 116 (by kernel_rfl) (by kernel_rfl)
        refine ⟨.inr ⟨16, true, 116, rfl, by kernel_rfl, hg⟩, ?_⟩
        have h19 : a.eval (.tmp 119) = .slice (some ⟨g1, 0, none⟩) 1 4 := hd 19 119 (by kernel_rfl) (by kernel_rfl)
        exact f_buildRow rfl h19 ⟨_, rfl, rfl, Below.refl _ _, fun e => by cases e⟩
      | 21, _, ho, hd =>
        obtain rfl := Option.some.inj ho
        have hg : a.eval (.tmp 116) = .bool true := hd 16 116 (by kernel_rfl) (by kernel_rfl)
        refine ⟨.inr ⟨16, true, 116, rfl, by kernel_rfl, hg⟩, ?_⟩
        have h20 : a.eval (.tmp 120) = .agg #[.slice (some ⟨g1, 0, none⟩) 1 4] := hd 20 120 (by kernel_rfl) (by kernel_rfl)
        refine wp_callF (f := 20) (vals := #[.agg #[.slice (some ⟨g1, 0, none⟩) 1 4]]) rfl (map1 h20) (by go_simp) ?_
        exact (A4.out W hB).mono fun e w' ⟨he, hb⟩ => ⟨_, he, _, rfl, rfl, hb, fun e => by cases e⟩
      | 22, _, ho, hd =>
        obtain rfl := Option.some.inj ho
        have hg : a.eval (.tmp 116) = .bool true := hd 16 116 (by kernel_rfl) (by kernel_rfl)
        refine ⟨.inr ⟨16, true, 116, rfl, by kernel_rfl, hg⟩, ?_⟩
        exact f_fieldNode rfl ((hs 3 (by kernel_rfl)).trans rfl) ⟨_, rfl, rfl, Below.refl _ _, fun e => by cases e⟩
      | 23, _, ho, hd =>
        obtain rfl := Option.some.inj ho
        have hg : a.eval (.tmp 116) = .bool true := hd 16 116 (by kernel_rfl) (by kernel_rfl)
        refine ⟨.inr ⟨16, true, 116, rfl, by kernel_rfl, hg⟩, ?_⟩
        have h22 : a.eval (.tmp 122) = .pointer (some ⟨w.heap.size, 0, none⟩) := hd 22 122 (by kernel_rfl) (by kernel_rfl)
        exact f_loadStr rfl h22 (((KN1.out.below HTh_w7.out.bel).below hB).cell 0 rfl) ⟨_, rfl, rfl, Below.refl _ _, fun e => by cases e⟩
      | 24, _, ho, hd =>
        obtain rfl := Option.some.inj ho
        have hg : a.eval (.tmp 116) = .bool true := hd 16 116 (by kernel_rfl) (by kernel_rfl)
        refine ⟨.inr ⟨16, true, 116, rfl, by kernel_rfl, hg⟩, ?_⟩
        have h23 : a.eval (.tmp 123) = .string n.name := hd 23 123 (by kernel_rfl) (by kernel_rfl)
        exact f_buildNode1 rfl h23 ⟨_, rfl, rfl, Below.refl _ _, fun e => by cases e⟩
      | 25, _, ho, hd =>
        obtain rfl := Option.some.inj ho
        have hg : a.eval (.tmp 116) = .bool true := hd 16 116 (by kernel_rfl) (by kernel_rfl)
        refine ⟨.inr ⟨16, true, 116, rfl, by kernel_rfl, hg⟩, ?_⟩
        have h21 : a.eval (.tmp 121) = .agg #[.string n.name, .string ⟨#[]⟩, .int .u64 0, .int .u64 0] := hd 21 121 (by kernel_rfl) (by kernel_rfl)
        have h24 : a.eval (.tmp 124) = .agg #[.string n.name, .string ⟨#[]⟩, .int .u64 0, .int .u64 0] := hd 24 124 (by kernel_rfl) (by kernel_rfl)
        exact f_eqlNode rfl h21 h24 ⟨_, rfl, rfl, Below.refl _ _, fun e => by cases e⟩
      | 26, _, ho, hd =>
        obtain rfl := Option.some.inj ho
        refine ⟨.inl rfl, ?_⟩
        have h16 : a.eval (.tmp 116) = .bool true := hd 16 116 (by kernel_rfl) (by kernel_rfl)
        have h25 : a.eval (.tmp 125) = .bool true := hd 25 125 (by kernel_rfl) (by kernel_rfl)
        exact f_pick rfl h16 h25 ⟨_, rfl, rfl, Below.refl _ _, fun e => by cases e⟩
      | 27, _, ho, hd =>
        obtain rfl := Option.some.inj ho
        refine ⟨.inl rfl, ?_⟩
        have h26 : a.eval (.tmp 126) = .bool true := hd 26 126 (by kernel_rfl) (by kernel_rfl)
        exact f_move rfl h26 ⟨_, rfl, rfl, Below.refl _ _, fun e => by cases e⟩
      | 28, _, ho, hd =>
        obtain rfl := Option.some.inj ho
        have hg : a.eval (.tmp 127) = .bool true := hd 27 127 (by kernel_rfl) (by kernel_rfl)
        refine ⟨.inr ⟨27, true, 127, rfl, by kernel_rfl, hg⟩, ?_⟩
        exact f_buildRow0 rfl ⟨_, rfl, rfl, Below.refl _ _, fun e => by cases e⟩
      | 29, _, ho, hd =>
        obtain rfl := Option.some.inj ho
        have hg : a.eval (.tmp 127) = .bool true := hd 27 127 (by kernel_rfl) (by kernel_rfl)
        refine ⟨.inr ⟨27, true, 127, rfl, by kernel_rfl, hg⟩, ?_⟩
        have h28 : a.eval (.tmp 128) = .agg #[.slice none 0 0] := hd 28 128 (by kernel_rfl) (by kernel_rfl)
        refine wp_callF (f := 22) (vals := #[.agg #[.slice none 0 0]]) rfl (map1 h28) (by go_simp) ?_
        refine (A5.out W).mono ?_
        rintro e w' ⟨v, rfl, hor, hb⟩
        obtain ⟨xa, xc, rfl, -⟩ := row_forms hor
        exact ⟨_, rfl, _, rfl, ⟨xa, xc, rfl⟩, hb, fun e => by cases e⟩
      | 30, _, ho, hd =>
        obtain rfl := Option.some.inj ho
        have hg : a.eval (.tmp 127) = .bool true := hd 27 127 (by kernel_rfl) (by kernel_rfl)
        refine ⟨.inr ⟨27, true, 127, rfl, by kernel_rfl, hg⟩, ?_⟩
        exact f_buildSvc0 rfl ⟨_, rfl, rfl, Below.refl _ _, fun e => by cases e⟩
      | 31, _, ho, hd =>
        obtain rfl := Option.some.inj ho
        have hg : a.eval (.tmp 127) = .bool true := hd 27 127 (by kernel_rfl) (by kernel_rfl)
        refine ⟨.inr ⟨27, true, 127, rfl, by kernel_rfl, hg⟩, ?_⟩
        have h30 : a.eval (.tmp 130) = .agg #[.string ⟨#[]⟩, .string ⟨#[]⟩, .string ⟨#[]⟩, .int .i64 0, .slice none 0 0, .int .u64 0, .int .u64 0] := hd 30 130 (by kernel_rfl) (by kernel_rfl)
        obtain ⟨xa, xc, h29⟩ := hd 29 129 (by kernel_rfl) (by kernel_rfl)
        refine wp_callF (f := 21) (vals := #[.agg #[.string ⟨#[]⟩, .string ⟨#[]⟩, .string ⟨#[]⟩, .int .i64 0, .slice xa 0 xc, .int .u64 0, .int .u64 0], .agg #[.string ⟨#[]⟩, .string ⟨#[]⟩, .string ⟨#[]⟩, .int .i64 0, .slice none 0 0, .int .u64 0, .int .u64 0]]) rfl (map2 h29 h30) (by go_simp) ?_
        exact (A7.out xa xc W).mono fun e w' ⟨he, hb⟩ => ⟨_, he, _, rfl, rfl, hb, fun e => by cases e⟩
      | 32, _, ho, hd =>
        obtain rfl := Option.some.inj ho
        refine ⟨.inl rfl, ?_⟩
        have h27 : a.eval (.tmp 127) = .bool true := hd 27 127 (by kernel_rfl) (by kernel_rfl)
        have h31 : a.eval (.tmp 131) = .bool true := hd 31 131 (by kernel_rfl) (by kernel_rfl)
        exact f_pick rfl h27 h31 ⟨_, rfl, rfl, Below.refl _ _, fun e => by cases e⟩
      | 33, _, ho, hd =>
        obtain rfl := Option.some.inj ho
        refine ⟨.inl rfl, ?_⟩
        have h32 : a.eval (.tmp 132) = .bool true := hd 32 132 (by kernel_rfl) (by kernel_rfl)
        exact f_move rfl h32 ⟨_, rfl, rfl, Below.refl _ _, fun e => by cases e⟩
      | 34, _, ho, hd =>
        obtain rfl := Option.some.inj ho
        have hg : a.eval (.tmp 133) = .bool true := hd 33 133 (by kernel_rfl) (by kernel_rfl)
        refine ⟨.inr ⟨33, true, 133, rfl, by kernel_rfl, hg⟩, ?_⟩
        exact f_fieldRow rfl ((hs 9 (by kernel_rfl)).trans rfl) ⟨_, rfl, rfl, Below.refl _ _, fun e => by cases e⟩
      | 35, _, ho, hd =>
        obtain rfl := Option.some.inj ho
        have hg : a.eval (.tmp 133) = .bool true := hd 33 133 (by kernel_rfl) (by kernel_rfl)
        refine ⟨.inr ⟨33, true, 133, rfl, by kernel_rfl, hg⟩, ?_⟩
        have h34 : a.eval (.tmp 134) = .pointer (some ⟨p3, 0, none⟩) := hd 34 134 (by kernel_rfl) (by kernel_rfl)
        exact f_loadCells rfl h34 ((HTh_w7.out.k3.below hB).cell 0 rfl) ⟨_, rfl, rfl, Below.refl _ _, fun e => by cases e⟩
      | 36, _, ho, hd =>
        obtain rfl := Option.some.inj ho
        have hg : a.eval (.tmp 133) = .bool true := hd 33 133 (by kernel_rfl) (by kernel_rfl)
        refine ⟨.inr ⟨33, true, 133, rfl, by kernel_rfl, hg⟩, ?_⟩
        exact f_buildCell9 rfl ⟨_, rfl, rfl, Below.refl _ _, fun e => by cases e⟩
      | 37, _, ho, hd =>
        obtain rfl := Option.some.inj ho
        have hg : a.eval (.tmp 133) = .bool true := hd 33 133 (by kernel_rfl) (by kernel_rfl)
        refine ⟨.inr ⟨33, true, 133, rfl, by kernel_rfl, hg⟩, ?_⟩
        have h36 : a.eval (.tmp 136) = .agg #[.string ⟨#[]⟩, .int .u64 9, .slice none 0 0] := hd 36 136 (by kernel_rfl) (by kernel_rfl)
        exact f_slice9 rfl h36 ⟨_, rfl, ⟨W.heap.size, rfl, Blk.new _ _ _⟩, below_new _ _, fun e => by cases e⟩
      | 38, _, ho, hd =>
        obtain rfl := Option.some.inj ho
        have hg : a.eval (.tmp 133) = .bool true := hd 33 133 (by kernel_rfl) (by kernel_rfl)
        refine ⟨.inr ⟨33, true, 133, rfl, by kernel_rfl, hg⟩, ?_⟩
        have h35 : a.eval (.tmp 135) = .slice (some ⟨g3, 0, none⟩) 7 7 := hd 35 135 (by kernel_rfl) (by kernel_rfl)
        obtain ⟨q, h37, hq⟩ := hd 37 137 (by kernel_rfl) (by kernel_rfl)
        refine f_app9 (olds := ccs (chkCs c)) (news := ccs [⟨⟨#[]⟩, 9, [], none, 0⟩]) rfl h35 h37 rfl (fun j v hv => (HTh_w7.out.b3.below hB).cell j (by simpa using hv)) rfl (fun j v hv => hq.cell j (by simpa [ccs] using hv)) ?_
        intro cap w' hb hc
        exact ⟨_, rfl, ⟨W.heap.size, cap, rfl, by rw [show ccs (chkCs c ++ [⟨⟨#[]⟩, 9, [], none, 0⟩]) = ccs (chkCs c) ++ ccs [⟨⟨#[]⟩, 9, [], none, 0⟩] from by simp [ccs]]; exact hc⟩, hb, fun e => by cases e⟩
      | 39, _, ho, hd =>
        obtain rfl := Option.some.inj ho
        have hg : a.eval (.tmp 133) = .bool true := hd 33 133 (by kernel_rfl) (by kernel_rfl)
        refine ⟨.inr ⟨33, true, 133, rfl, by kernel_rfl, hg⟩, ?_⟩
        obtain ⟨q, cap, h38, hq⟩ := hd 38 138 (by kernel_rfl) (by kernel_rfl)
        exact f_buildRow rfl h38 ⟨_, rfl, ⟨q, cap, rfl, hq⟩, Below.refl _ _, fun e => by cases e⟩
      | 40, _, ho, hd =>
        obtain rfl := Option.some.inj ho
        have hg : a.eval (.tmp 133) = .bool true := hd 33 133 (by kernel_rfl) (by kernel_rfl)
        refine ⟨.inr ⟨33, true, 133, rfl, by kernel_rfl, hg⟩, ?_⟩
        obtain ⟨q, cap, h39, hq⟩ := hd 39 139 (by kernel_rfl) (by kernel_rfl)
        refine wp_callF (f := 23) (vals := #[.agg #[.slice (some ⟨q, 0, none⟩) 8 cap]]) rfl (map1 h39) (by go_simp) ?_
        exact (A8.out q cap W hq).mono fun e w' ⟨he, hb⟩ => ⟨_, he, _, rfl, rfl, hb, fun e => by cases e⟩
      | 41, _, ho, hd =>
        obtain rfl := Option.some.inj ho
        have hg : a.eval (.tmp 133) = .bool true := hd 33 133 (by kernel_rfl) (by kernel_rfl)
        refine ⟨.inr ⟨33, true, 133, rfl, by kernel_rfl, hg⟩, ?_⟩
        exact wp_load_row 49 (.tmp 5) rfl (w.heap.size + 1 + 1) ((hs 5 (by kernel_rfl)).trans rfl) 49 #[.string c.node, .string c.id, .string c.service, .int .i64 c.status, .string c.note, .int .u64 c.made, .int .u64 c.changed] (0, 0) _ ((KC1.out.below HTh_w7.out.bel).below hB) Tryd.underlying49 rfl (by rw [info_chk]; rfl) ⟨_, rfl, rfl, Below.refl _ _, fun e => by cases e⟩
      | 42, _, ho, hd =>
        obtain rfl := Option.some.inj ho
        have hg : a.eval (.tmp 133) = .bool true := hd 33 133 (by kernel_rfl) (by kernel_rfl)
        refine ⟨.inr ⟨33, true, 133, rfl, by kernel_rfl, hg⟩, ?_⟩
        have h40 : a.eval (.tmp 140) = .agg #[.string c.node, .string c.id, .string c.service, .int .i64 c.status, .string c.note, .int .u64 c.made, .int .u64 c.changed] := hd 40 140 (by kernel_rfl) (by kernel_rfl)
        have h41 : a.eval (.tmp 141) = .agg #[.string c.node, .string c.id, .string c.service, .int .i64 c.status, .string c.note, .int .u64 c.made, .int .u64 c.changed] := hd 41 141 (by kernel_rfl) (by kernel_rfl)
        exact f_eqlCheck rfl h40 h41 ⟨_, rfl, rfl, Below.refl _ _, fun e => by cases e⟩
      | 43, _, ho, hd =>
        obtain rfl := Option.some.inj ho
        refine ⟨.inl rfl, ?_⟩
        have h33 : a.eval (.tmp 133) = .bool true := hd 33 133 (by kernel_rfl) (by kernel_rfl)
        have h42 : a.eval (.tmp 142) = .bool true := hd 42 142 (by kernel_rfl) (by kernel_rfl)
        exact f_pick rfl h33 h42 ⟨_, rfl, rfl, Below.refl _ _, fun e => by cases e⟩
      | k + 44, hi, _, _ => exact absurd hi (by omega)
    case tail2 =>
      intro vs W hB hR _
      have r43 : vs 43 = .bool true := hR 43 (by decide)
      have BF : Hid (Below w.heap.size w W) := B1.out.trans ((HTh_w7.out.bel.trans ((D_box.out W hB).mono HTh_w7.out.bel.size)).mono B1.out.size)
      clear hR hB
      simp only [putL, put_lit, List.setIfInBounds_toArray, List.set_cons_succ, List.set_cons_zero, List.drop_succ_cons, List.drop_zero]
      rw [r43]
      clear r43
      go_wp2
      go_ret
      exact ⟨rfl, BF.out⟩
end Go.Proofs.YtgjcchafmcccjaaDoor
