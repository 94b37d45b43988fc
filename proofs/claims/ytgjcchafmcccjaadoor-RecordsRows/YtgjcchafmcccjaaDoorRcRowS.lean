/- Layer 9 (records): copyTexts, ServiceRow. -/
import Derived.Test.YtgjcchafmcccjaaDoorRcAppS
namespace Go.Proofs.YtgjcchafmcccjaaDoor
open Go.RowKit
set_option linter.unusedVariables false

theorem rowR_set1 {w : World} {B g i : Nat} {e T : TypeId} {size : Nat} {v : Value} {n : Nat} {xs : List Value} {cs : Array Value} (hg : Blk w g cs T) (hT : T ≠ e) (h : w.ownsRow B e size v n xs) (u : Value) : (w.setCell ⟨g, i, none⟩ u).ownsRow B e size v n xs := by
  refine ⟨h.1, ?_⟩
  rcases h.2 with h1 | ⟨g', cap, cur, h1, h2, h3, h4⟩
  · exact .inl h1
  · refine .inr ⟨g', cap, cur, h1, h2, ?_, h4⟩
    rw [heap_setCell_other _ _ _ _ (fun e' => by
      have e' : g' = g := e'
      subst e'
      have hg' : w.heap[g']? = some (.cells cs T) := hg
      rw [h3] at hg'
      injection hg' with hg'
      injection hg' with _ hg'
      exact hT hg'.symm)]
    exact h3
theorem append_rowL (W : World) {ops : Array Oper} {rest : List Oper} {o : Oper} {a : Act} {Q : Exit → Act → World → Prop} (hgd : o.guard = none) (s x : Operand) (t e : TypeId) (z : Value) (size bytes : Nat)
    (ht : Tryd.prog.underlying t = some (.slice e)) (hi : (Tryd.prog.info? e).map (fun i => (i.zero, i.size, i.bytes)) = some (some z, size, bytes)) (hzs : z.cells.size = size) (hsz : 0 < size)
    (ho : o.op = .call { callee := .builtin .append, args := #[s, x], argTypes := #[t, t] })
    (B : Nat) (v : Value) (n : Nat) (l : List Value) (hs : a.eval s = v) (us : List Value) (hus : us.length = size) (h1 : ∀ u ∈ us, u.oneCell' = true) (g : Nat) (cs : Array Value) (hcs : cs = us.toArray) (hx : a.eval x = .slice (some ⟨g, 0, none⟩) 1 1)
    (hg : g = W.heap.size) (hown : W.ownsRow B e size v n l) (hn : n + 1 ≤ maxLen) (hlen : (n + 1) * bytes ≤ 140737488355328) (hB : B ≤ W.heap.size)
    (h : ∀ v' w', w'.ownsRow B e size v' (n + 1) (l ++ us) → Grew W w' v v' → wpList Tryd.prog ops Q rest (a.put o.dst v') w') : wpList Tryd.prog ops Q (o :: rest) a (W.alloc (.cells cs e)) := by
  obtain ⟨i0, hi0, hb⟩ := Option.map_eq_some_iff.1 hi
  simp only [Prod.mk.injEq] at hb
  obtain ⟨hz0, hz1, hz2⟩ := hb
  subst hg hcs
  refine wpList_append_grew _ hgd s x t ho B e i0 z size bytes ht hi0 hz0 hz1 hz2 hzs hsz v n l hs (hown.alloc _) ⟨W.heap.size, 0, none⟩ 1 1 us hx (by omega) (cells_new _ _ _) h1 hn hlen (by simp; omega) ?_
  intro v' w' h1 h2 _
  exact h v' w' h1 h2.ofAlloc
/-- The texts are answered, in memory of their own. -/
def CopL (w : World) (l : List ByteArray) (e : Ending) (w' : World) : Prop := ∃ v, e = .returned v ∧ w'.ownsRow w.heap.size 9 1 v l.length (l.map Value.string) ∧ Below w.heap.size w w'
theorem take_strs (l : List ByteArray) (k : Nat) (h : k < l.length) : ((l.take k).map Value.string) ++ [.string l[k]] = (l.take (k + 1)).map Value.string := by
  rw [List.take_succ_eq_append_getElem h, List.map_append]
  rfl
set_option maxRecDepth 100000 in
set_option maxHeartbeats 4000000 in
theorem copyTexts_calls (ta : Option Addr) (tc : Nat) (l : List ByteArray) (w : World) (hl : l.length ≤ 8796093022207) (hs : ∀ x ∈ l, x.size ≤ 140737488351296) (hc : CellsAt w ta (l.map Value.string)) :
    Calls Tryd.prog 39 #[.slice ta l.length tc] w fun e w' => CopL w l e w' := by
  have HC : Hid (CellsAt w ta (l.map Value.string)) := hc
  have HS : Hid (∀ x ∈ l, x.size ≤ 140737488351296) := hs
  have HFin : Hid (∀ v w', w'.ownsRow w.heap.size 9 1 v l.length ((l.take l.length).map Value.string) → Below w.heap.size w w' → CopL w l (.returned v) w') := fun v w' h1 h2 => ⟨v, rfl, by rw [List.take_length] at h1; exact h1, h2⟩
  clear hc hs
  obtain ⟨n, Hn⟩ : ∃ x, Hid (x = l.length) := ⟨_, rfl⟩
  rw [← Hn.out] at hl ⊢
  go_enter Tryd.func39, Tryd.ntmps39
  go_wp2
  go_loopw [3, 5, 8] (fun v u i wr => ∃ (k : Nat) (a : Option Addr) (c : Nat), k ≤ n ∧ i = .int .i64 k ∧ v = .slice a k c ∧ Hid (wr.ownsRow w.heap.size 9 1 (.slice a k c) k ((l.take k).map Value.string)) ∧ Hid (Below w.heap.size w wr)) (fun _ _ i _ => n - (intOf i).toNat)
  case atStart => exact ⟨0, none, 0, Nat.zero_le _, rfl, rfl, World.ownsRow_nil _ _ _ _, Below.refl _ _⟩
  case round =>
    obtain ⟨k, a, c, hk, rfl, rfl, HO, HB⟩ := hrel
    by_cases hlt : k < n
    · have hkl : k < l.length := by rw [← Hn.out]; exact hlt
      obtain ⟨b, off, rfl, c0⟩ := (HC.out.below HB.out).str k hkl
      have HX : Hid (l[k].size ≤ 140737488351296) := HS.out _ (List.getElem_mem hkl)
      have HT : Hid (((l.take k).map Value.string) ++ [.string l[k]] = (l.take (k + 1)).map Value.string) := take_strs l k hkl
      obtain ⟨x, Hx⟩ : ∃ x, Hid (x = l[k]) := ⟨l[k], rfl⟩
      rw [← Hx.out] at c0 HX HT
      clear Hx
      go_wp2_with fail
      refine (rclone_calls x wr HX.out).mono ?_
      rintro e w1 ⟨rfl, hb1⟩
      have HB1 : Hid (Below w.heap.size w w1) := HB.out.trans (hb1.mono HB.out.size)
      have hsz : w.heap.size ≤ w1.heap.size := HB1.out.size
      have ho1 : w1.ownsRow w.heap.size 9 1 (.slice a k c) k ((l.take k).map Value.string) := row_below HO.out hb1
      clear hb1 HO HB c0
      go_wp2_with (at_builtin; refine append_rowL _ rfl (.tmp 12) (.tmp 15) _ 9 _ 1 16 Tryd.underlying45 info_str rfl (by decide) rfl w.heap.size _ k _ rfl [.string x] rfl (by simp [Value.oneCell']) _ _ rfl rfl rfl ho1 (by unfold maxLen; omega) (by omega) hsz ?_)
      intro v3 w3 ho3 hg3
      obtain ⟨a3, c3, rfl, -⟩ := row_forms ho3
      have HB3 : Hid (Below w.heap.size w w3) := HB1.out.trans (hg3.toBelow hsz fun j hj => (World.ownsRow.lt ho1 j hj).1)
      have HO3 : Hid (w3.ownsRow w.heap.size 9 1 (.slice a3 (k + 1) c3) (k + 1) ((l.take (k + 1)).map Value.string)) := by rw [Hid, ← HT.out]; first | exact ho3 | (rw [List.map_take]; exact ho3)
      clear ho1 ho3 hg3 HB1
      go_wp2
      go_roundw
      case rel => exact ⟨k + 1, a3, c3, by omega, by go_num, rfl, HO3, HB3⟩
      case measure => simp [intOf]; omega
    · obtain rfl : k = n := by omega
      have HF : Hid (CopL w l (.returned (.slice a k c)) wr) := HFin.out _ _ (by have := HO.out; rw [Hn.out] at this ⊢; exact this) HB.out
      clear HO HB HFin
      go_wp2
      go_ret
      exact HF.out
def svcCs (s : Sp) (va : Option Addr) (vc : Nat) : List CV := [⟨s.node, 0, [], none, 0⟩, ⟨s.id, 0, [], none, 0⟩, ⟨s.name, 0, [], none, 0⟩, ⟨⟨#[]⟩, IntKind.u64.wrap s.port, [], none, 0⟩, ⟨⟨#[]⟩, 0, s.tags, va, vc⟩, ⟨⟨#[]⟩, s.made, [], none, 0⟩, ⟨⟨#[]⟩, s.changed, [], none, 0⟩]
/-- A service's row is answered, its cells and its tags in memory of their own. -/
def RowSA (w : World) (s : Sp) (e : Ending) (w' : World) : Prop := ∃ va vc g, e = .returned (.agg #[.slice (some ⟨g, 0, none⟩) 7 7]) ∧ Blk w' g (ccs (svcCs s va vc)).toArray 66 ∧ CellsAt w' va (s.tags.map Value.string) ∧ w.heap.size ≤ g ∧ Below w.heap.size w w'
set_option maxRecDepth 100000 in
set_option maxHeartbeats 4000000 in
theorem serviceRow_calls (s : Sp) (ta : Option Addr) (tc : Nat) (w : World) (hs : s.small) (hl : s.tags.length ≤ 8796093022207) (hc : CellsAt w ta (s.tags.map Value.string)) :
    Calls Tryd.prog 16 #[.agg (s.v (.slice ta s.tags.length tc))] w fun e w' => RowSA w s e w' := by
  have h1 : Hid (s.node.size ≤ 140737488351296) := hs.node
  have h2 : Hid (s.id.size ≤ 140737488351296) := hs.id
  have h3 : Hid (s.name.size ≤ 140737488351296) := hs.name
  have HS5 : Hid (∀ x ∈ s.tags, x.size ≤ 140737488351296) := hs.tags
  have HC : Hid (CellsAt w ta (s.tags.map Value.string)) := hc
  clear hs hc
  obtain ⟨nd, id, nm, po, tg, mk, ch⟩ := s
  simp only [Sp.v, RowSA] at *
  obtain ⟨tl, Htl⟩ : ∃ tl, Hid (tl = tg.length) := ⟨_, rfl⟩
  rw [← Htl.out]
  obtain ⟨w2, Hw2⟩ : ∃ x, Hid (x = (w.alloc (.cells #[.string nd, .string id, .string nm, .int .i64 po, .slice ta tl tc, .int .u64 mk, .int .u64 ch] 47)).alloc (.cells #[.slice none 0 0] 60)) := ⟨_, rfl⟩
  have hz : (w.alloc (.cells #[.string nd, .string id, .string nm, .int .i64 po, .slice ta tl tc, .int .u64 mk, .int .u64 ch] 47)).heap.size = w.heap.size + 1 := size_new _ _
  have KX : Hid (Blk w2 w.heap.size #[.string nd, .string id, .string nm, .int .i64 po, .slice ta tl tc, .int .u64 mk, .int .u64 ch] 47) := by rw [Hw2.out]; exact (Blk.new _ _ _).alloc _
  have KR : Hid (Blk w2 (w.heap.size + 1) #[.slice none 0 0] 60) := by rw [Hw2.out, ← hz]; exact Blk.new _ _ _
  have HB2 : Hid (Below w.heap.size w w2) := by rw [Hw2.out]; exact (below_new w _).alloc (by rw [hz]; omega) _
  clear hz
  have HSK : Hid (∀ W, Below w2.heap.size w2 W → W.cell? ⟨w.heap.size, 0, none⟩ = some (.string nd) ∧ W.cell? ⟨w.heap.size, 1, none⟩ = some (.string id) ∧ W.cell? ⟨w.heap.size, 2, none⟩ = some (.string nm) ∧ W.cell? ⟨w.heap.size, 3, none⟩ = some (.int .i64 po) ∧ W.cell? ⟨w.heap.size, 4, none⟩ = some (.slice ta tl tc) ∧ W.cell? ⟨w.heap.size, 5, none⟩ = some (.int .u64 mk) ∧ W.cell? ⟨w.heap.size, 6, none⟩ = some (.int .u64 ch)) := fun W hW =>
    ⟨(KX.out.below hW).cell 0 rfl, (KX.out.below hW).cell 1 rfl, (KX.out.below hW).cell 2 rfl, (KX.out.below hW).cell 3 rfl, (KX.out.below hW).cell 4 rfl, (KX.out.below hW).cell 5 rfl, (KX.out.below hW).cell 6 rfl⟩
  have D0 : Hid (Below w2.heap.size w2 w2.drew) := ⟨rfl, rfl, rfl, Nat.le_refl _, fun _ _ => rfl⟩
  have q0 := HSK.out w2.drew D0.out
  have HCT : Hid (∀ W, Below w2.heap.size w2 W → Calls Tryd.prog 39 #[.slice ta tl tc] W fun e w' => CopL W tg e w') := fun W hW => by
    rw [Htl.out]
    exact copyTexts_calls ta tc tg W hl HS5.out (HC.out.below (HB2.out.trans (hW.mono HB2.out.size)))
  go_enter Tryd.func16, Tryd.ntmps16
  go_wp2
  rw [← Hw2.out]
  clear Hw2
  go_region_held3 (fun W => W.cell? ⟨w.heap.size, 0, none⟩ = some (.string nd) ∧ W.cell? ⟨w.heap.size, 1, none⟩ = some (.string id) ∧ W.cell? ⟨w.heap.size, 2, none⟩ = some (.string nm) ∧ W.cell? ⟨w.heap.size, 3, none⟩ = some (.int .i64 po) ∧ W.cell? ⟨w.heap.size, 4, none⟩ = some (.slice ta tl tc) ∧ W.cell? ⟨w.heap.size, 5, none⟩ = some (.int .u64 mk) ∧ W.cell? ⟨w.heap.size, 6, none⟩ = some (.int .u64 ch)) (first | (exact q4) | (exact q3) | (exact q2) | (exact q1) | (exact q0) | go_keep)
    (first
      | (go_at_call 38
         refine (textCell_calls nd _ h1.out).mono ?_
         rintro e w3 ⟨rfl, hb⟩
         have D1 : Hid (Below w2.heap.size w2 w3) := Below.trans (by first | exact D4.out | exact D3.out | exact D2.out | exact D1.out | exact D0.out) (hb.mono (by first | exact D4.out.size | exact D3.out.size | exact D2.out.size | exact D1.out.size | exact D0.out.size))
         have q1 := HSK.out w3 D1.out
         clear hb)
      | (go_at_call 38
         refine (textCell_calls id _ h2.out).mono ?_
         rintro e w4 ⟨rfl, hb⟩
         have D2 : Hid (Below w2.heap.size w2 w4) := Below.trans (by first | exact D4.out | exact D3.out | exact D2.out | exact D1.out | exact D0.out) (hb.mono (by first | exact D4.out.size | exact D3.out.size | exact D2.out.size | exact D1.out.size | exact D0.out.size))
         have q2 := HSK.out w4 D2.out
         clear hb)
      | (go_at_call 38
         refine (textCell_calls nm _ h3.out).mono ?_
         rintro e w5 ⟨rfl, hb⟩
         have D3 : Hid (Below w2.heap.size w2 w5) := Below.trans (by first | exact D4.out | exact D3.out | exact D2.out | exact D1.out | exact D0.out) (hb.mono (by first | exact D4.out.size | exact D3.out.size | exact D2.out.size | exact D1.out.size | exact D0.out.size))
         have q3 := HSK.out w5 D3.out
         clear hb)
      | (go_at_call 39
         refine (HCT.out _ (by first | exact D4.out | exact D3.out | exact D2.out | exact D1.out | exact D0.out)).mono ?_
         rintro e w6 ⟨v, rfl, ho, hb⟩
         rw [← Htl.out] at ho
         obtain ⟨va, vc, rfl, -⟩ := row_forms ho
         have D4 : Hid (Below w2.heap.size w2 w6) := Below.trans (by first | exact D4.out | exact D3.out | exact D2.out | exact D1.out | exact D0.out) (hb.mono (by first | exact D4.out.size | exact D3.out.size | exact D2.out.size | exact D1.out.size | exact D0.out.size))
         have HO4 : Hid (w6.ownsRow w2.heap.size 9 1 (.slice va tl vc) tl (tg.map Value.string)) := row_weak (by first | exact D4.out.size | exact D3.out.size | exact D2.out.size | exact D1.out.size | exact D0.out.size) ho
         have q4 := HSK.out w6 D4.out
         have kr := (KR.out.below D4.out).cell 0 rfl
         have kz := (KR.out.below D4.out).open
         have kl : w.heap.size + 1 < w6.heap.size := (KR.out.below D4.out).lt
         clear hb ho)
    )
  go_wp2
  obtain ⟨ws, Hws⟩ : ∃ x, Hid (x = w6.setCell ⟨w.heap.size + 1, 0, none⟩ (.slice (some ⟨w6.heap.size, 0, none⟩) 7 7)) := ⟨_, rfl⟩
  obtain ⟨gs, Hgs⟩ : ∃ x, Hid (x = w6.heap.size) := ⟨_, rfl⟩
  have hgs : ws.heap.size = gs := by rw [Hws.out, Hgs.out]; exact World.size_setCell ..
  have KRs : Hid (Blk ws (w.heap.size + 1) #[.slice (some ⟨gs, 0, none⟩) 7 7] 60) := by rw [Hws.out, Hgs.out]; exact (KR.out.below D4.out).setR 0 _
  have BWs : Hid (Below w.heap.size w ws) := by rw [Hid, Hws.out]; exact (HB2.out.trans (D4.out.mono HB2.out.size)).setCell (p := ⟨w.heap.size + 1, 0, none⟩) (by show w.heap.size ≤ w.heap.size + 1; omega) _
  have KC : Hid (Blk (ws.alloc (.cells #[.string nd, .int .u64 0, .slice none 0 0, .string id, .int .u64 0, .slice none 0 0, .string nm, .int .u64 0, .slice none 0 0, .string ⟨#[]⟩, .int .u64 (IntKind.u64.wrap po), .slice none 0 0, .string ⟨#[]⟩, .int .u64 0, .slice va tl vc, .string ⟨#[]⟩, .int .u64 mk, .slice none 0 0, .string ⟨#[]⟩, .int .u64 ch, .slice none 0 0] 66)) gs #[.string nd, .int .u64 0, .slice none 0 0, .string id, .int .u64 0, .slice none 0 0, .string nm, .int .u64 0, .slice none 0 0, .string ⟨#[]⟩, .int .u64 (IntKind.u64.wrap po), .slice none 0 0, .string ⟨#[]⟩, .int .u64 0, .slice va tl vc, .string ⟨#[]⟩, .int .u64 mk, .slice none 0 0, .string ⟨#[]⟩, .int .u64 ch, .slice none 0 0] 66) := by rw [Hid, ← hgs]; exact Blk.new _ _ _
  have HOw : Hid ((ws.alloc (.cells #[.string nd, .int .u64 0, .slice none 0 0, .string id, .int .u64 0, .slice none 0 0, .string nm, .int .u64 0, .slice none 0 0, .string ⟨#[]⟩, .int .u64 (IntKind.u64.wrap po), .slice none 0 0, .string ⟨#[]⟩, .int .u64 0, .slice va tl vc, .string ⟨#[]⟩, .int .u64 mk, .slice none 0 0, .string ⟨#[]⟩, .int .u64 ch, .slice none 0 0] 66)).ownsRow w2.heap.size 9 1 (.slice va tl vc) tl (tg.map Value.string)) := by
    rw [Hid, Hws.out]
    exact row_below (rowR_set1 (KR.out.below D4.out) (by decide) HO4.out _) (below_new _ _)
  rw [← Hws.out, ← Hgs.out]
  clear Hws Hgs
  refine ret_boxR (g := w.heap.size + 1) (w := ws.alloc (.cells #[.string nd, .int .u64 0, .slice none 0 0, .string id, .int .u64 0, .slice none 0 0, .string nm, .int .u64 0, .slice none 0 0, .string ⟨#[]⟩, .int .u64 (IntKind.u64.wrap po), .slice none 0 0, .string ⟨#[]⟩, .int .u64 0, .slice va tl vc, .string ⟨#[]⟩, .int .u64 mk, .slice none 0 0, .string ⟨#[]⟩, .int .u64 ch, .slice none 0 0] 66)) (cs := #[.slice (some ⟨gs, 0, none⟩) 7 7]) rfl rfl rfl (load_row (KRs.out.alloc _) rfl) ⟨va, vc, gs, rfl, ?_, row_cells HOw.out, by rw [← hgs]; exact BWs.out.size, BWs.out.alloc BWs.out.size _⟩
  have := KC.out
  rw [Htl.out] at this ⊢
  exact this
end Go.Proofs.YtgjcchafmcccjaaDoor
