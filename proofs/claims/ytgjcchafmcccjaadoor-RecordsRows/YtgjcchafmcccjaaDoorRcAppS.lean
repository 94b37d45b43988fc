import Derived.Test.YtgjcchafmcccjaaDoorRwSort
import Derived.Test.YtgjcchafmcccjaaDoorRcFixS
import Derived.Test.YtgjcchafmcccjaaDoorRwOwn
import Derived.Deep.RegionHeld3
import Derived.Test.YtgjcchafmcccjaaDoorRwLowR
/- Layer 9 (records): rows of records: a cell of text, NodeRow. -/
namespace Go.Proofs.YtgjcchafmcccjaaDoor
open Go.RowKit
set_option linter.unusedVariables false

theorem ret_boxR {fn : Func} {R : Ending → World → Prop} {a : Act} {w : World} {g : Nat} {cs : Array Value} {T : TypeId} (hres : fn.results = #[.cell 2 T]) (ht : a.tmps.getD 2 undef = .pointer (some ⟨g, 0, none⟩)) (hd : a.defers = [])
    (hl : (loadVar T ⟨g, 0, none⟩).run Tryd.prog w = .ok (.agg cs) w) (hR : R (.returned (.agg cs)) w) : bodyPost Tryd.prog fn R .ret a w := by
  refine bodyPost_ret ?_ hd hR
  have ht' : a.tmps[2]?.getD undef = .pointer (some ⟨g, 0, none⟩) := by simpa using ht
  simp [results, hres, ht', asAddr, hl]
theorem info_cel : (Tryd.prog.info? 66).map (·.size) = some 3 := by kernel_rfl
theorem load_cel {w : World} {g : Nat} {cs : Array Value} (h : Blk w g cs 66) (hs : cs.size = 3) : (loadVar 66 ⟨g, 0, none⟩).run Tryd.prog w = .ok (.agg cs) w :=
  run_loadVar_row (P := Tryd.prog) w g 66 66 cs (0, 0) _ h Tryd.underlying66 rfl (by rw [info_cel, hs])
theorem info_row : (Tryd.prog.info? 60).map (·.size) = some 1 := by kernel_rfl
theorem load_row {w : World} {g : Nat} {cs : Array Value} (h : Blk w g cs 60) (hs : cs.size = 1) : (loadVar 60 ⟨g, 0, none⟩).run Tryd.prog w = .ok (.agg cs) w :=
  run_loadVar_row (P := Tryd.prog) w g 60 60 cs (0, 0) _ h Tryd.underlying60 rfl (by rw [info_row, hs])
theorem Blk.offR {w : World} {b : Nat} {cs : Array Value} {T : TypeId} (h : Blk w b cs T) {a : Addr} (hne : b ≠ a.block) (u : Value) : Blk (w.setCell a u) b cs T := by
  show (w.setCell a u).heap[b]? = _
  rw [heap_setCell_other _ _ _ _ hne]
  exact h
theorem Blk.setR {w : World} {g : Nat} {c : Array Value} {T : TypeId} (h : Blk w g c T) (i : Nat) (v : Value) : Blk (w.setCell ⟨g, i, none⟩ v) g (c.setIfInBounds i v) T := Lib.heap_setCell_same h v

set_option maxRecDepth 100000 in
theorem textCell_calls (s : ByteArray) (w : World) (hs : s.size ≤ 140737488351296) :
    Calls Tryd.prog 38 #[.string s] w fun e w' => e = .returned (.agg #[.string s, .int .u64 0, .slice none 0 0]) ∧ Below w.heap.size w w' := by
  obtain ⟨w2, Hw2⟩ : ∃ x, Hid (x = w.alloc (.cells #[.string ⟨#[]⟩, .int .u64 0, .slice none 0 0] 66)) := ⟨_, rfl⟩
  have K2 : Hid (Blk w2 w.heap.size #[.string ⟨#[]⟩, .int .u64 0, .slice none 0 0] 66) := by rw [Hw2.out]; exact Blk.new _ _ _
  have B2 : Hid (Below w.heap.size w w2) := by rw [Hw2.out]; exact below_new w _
  go_enter Tryd.func38, Tryd.ntmps38
  go_wp2_with fail
  rw [← Hw2.out]
  clear Hw2
  refine (rclone_calls s w2 hs).mono ?_
  rintro e w3 ⟨rfl, hb⟩
  have K3 : Hid (Blk w3 w.heap.size #[.string ⟨#[]⟩, .int .u64 0, .slice none 0 0] 66) := K2.out.below hb
  have B3 : Hid (Below w.heap.size w w3) := B2.out.trans (hb.mono B2.out.size)
  have c0 := K3.out.cell 0 rfl
  have c1 := K3.out.cell 1 rfl
  have c2 := K3.out.cell 2 rfl
  have z := K3.out.open
  clear hb K2 B2
  go_wp2
  exact ret_boxR (g := w.heap.size) (w := putC w3 w.heap.size 0 [.string s, .int .u64 0, .slice none 0 0]) rfl rfl rfl (load_cel (putC_all (l := [.string s, .int .u64 0, .slice none 0 0]) K3.out rfl) rfl) ⟨rfl, putC_below [.string s, .int .u64 0, .slice none 0 0] w3 0 B3.out (Nat.le_refl _)⟩
/-- A row is answered, its cells in memory of their own. -/
def RowA (w : World) (n : Nat) (cs : Array Value) (e : Ending) (w' : World) : Prop := ∃ g, e = .returned (.agg #[.slice (some ⟨g, 0, none⟩) n n]) ∧ Blk w' g cs 66 ∧ w.heap.size ≤ g ∧ Below w.heap.size w w'
/-- A row's cells, as cells that can be read. -/
theorem rowAt_blk {w : World} {g : Nat} {cs : List CV} (h : Blk w g (ccs cs).toArray 66) (hl : ∀ c ∈ cs, CellsAt w c.la (c.l.map Value.string)) (hw : ∀ c ∈ cs, c.wf) : RowAt w (some ⟨g, 0, none⟩) cs :=
  ⟨fun _ => ⟨g, 0, rfl, fun j u hu => by rw [Nat.zero_add]; exact h.cell j (by simpa using hu)⟩, hl, hw⟩
def nodeCs (n : Nd) : List CV := [⟨n.name, 0, [], none, 0⟩, ⟨n.addr, 0, [], none, 0⟩, ⟨⟨#[]⟩, n.made, [], none, 0⟩, ⟨⟨#[]⟩, n.changed, [], none, 0⟩]
set_option maxRecDepth 100000 in
set_option maxHeartbeats 4000000 in
theorem nodeRow_calls (n : Nd) (w : World) (hn1 : n.name.size ≤ 140737488351296) (hn2 : n.addr.size ≤ 140737488351296) :
    Calls Tryd.prog 15 #[.agg n.v] w fun e w' => RowA w 4 (ccs (nodeCs n)).toArray e w' := by
  have h1 : Hid (n.name.size ≤ 140737488351296) := hn1
  have h2 : Hid (n.addr.size ≤ 140737488351296) := hn2
  clear hn1 hn2
  obtain ⟨nn, na, n3, n4⟩ := n
  simp only [Nd.v] at *
  rw [show (ccs (nodeCs ⟨nn, na, n3, n4⟩)).toArray = #[.string nn, .int .u64 0, .slice none 0 0, .string na, .int .u64 0, .slice none 0 0, .string ⟨#[]⟩, .int .u64 n3, .slice none 0 0, .string ⟨#[]⟩, .int .u64 n4, .slice none 0 0] from rfl]
  obtain ⟨w2, Hw2⟩ : ∃ x, Hid (x = (w.alloc (.cells #[.string nn, .string na, .int .u64 n3, .int .u64 n4] 44)).alloc (.cells #[.slice none 0 0] 60)) := ⟨_, rfl⟩
  have hz : (w.alloc (.cells #[.string nn, .string na, .int .u64 n3, .int .u64 n4] 44)).heap.size = w.heap.size + 1 := size_new _ _
  have KX : Hid (Blk w2 w.heap.size #[.string nn, .string na, .int .u64 n3, .int .u64 n4] 44) := by rw [Hw2.out]; exact (Blk.new _ _ _).alloc _
  have KR : Hid (Blk w2 (w.heap.size + 1) #[.slice none 0 0] 60) := by rw [Hw2.out, ← hz]; exact Blk.new _ _ _
  have HB2 : Hid (Below w.heap.size w w2) := by rw [Hw2.out]; exact (below_new w _).alloc (by rw [hz]; omega) _
  clear hz
  have HSK : Hid (∀ W, Below w2.heap.size w2 W → W.cell? ⟨w.heap.size, 0, none⟩ = some (.string nn) ∧ W.cell? ⟨w.heap.size, 1, none⟩ = some (.string na) ∧ W.cell? ⟨w.heap.size, 2, none⟩ = some (.int .u64 n3) ∧ W.cell? ⟨w.heap.size, 3, none⟩ = some (.int .u64 n4)) := fun W hW =>
    ⟨(KX.out.below hW).cell 0 rfl, (KX.out.below hW).cell 1 rfl, (KX.out.below hW).cell 2 rfl, (KX.out.below hW).cell 3 rfl⟩
  have D0 : Hid (Below w2.heap.size w2 w2.drew) := ⟨rfl, rfl, rfl, Nat.le_refl _, fun _ _ => rfl⟩
  have q0 := HSK.out w2.drew D0.out
  go_enter Tryd.func15, Tryd.ntmps15
  go_wp2
  rw [← Hw2.out]
  clear Hw2
  go_region_held3 (fun W => W.cell? ⟨w.heap.size, 0, none⟩ = some (.string nn) ∧ W.cell? ⟨w.heap.size, 1, none⟩ = some (.string na) ∧ W.cell? ⟨w.heap.size, 2, none⟩ = some (.int .u64 n3) ∧ W.cell? ⟨w.heap.size, 3, none⟩ = some (.int .u64 n4)) (first | (exact q2) | (exact q1) | (exact q0) | go_keep)
    (first
      | (go_at_call 38
         refine (textCell_calls nn _ h1.out).mono ?_
         rintro e w3 ⟨rfl, hb⟩
         have D1 : Hid (Below w2.heap.size w2 w3) := Below.trans (by first | exact D2.out | exact D1.out | exact D0.out) (hb.mono (by first | exact D2.out.size | exact D1.out.size | exact D0.out.size))
         have q1 := HSK.out w3 D1.out
         clear hb)
      | (go_at_call 38
         refine (textCell_calls na _ h2.out).mono ?_
         rintro e w4 ⟨rfl, hb⟩
         have D2 : Hid (Below w2.heap.size w2 w4) := Below.trans (by first | exact D2.out | exact D1.out | exact D0.out) (hb.mono (by first | exact D2.out.size | exact D1.out.size | exact D0.out.size))
         have q2 := HSK.out w4 D2.out
         have kr := (KR.out.below D2.out).cell 0 rfl
         have kz := (KR.out.below D2.out).open
         have kl : w.heap.size + 1 < w4.heap.size := (KR.out.below D2.out).lt
         clear hb)
    )
  go_wp2
  obtain ⟨ws, Hws⟩ : ∃ x, Hid (x = w4.setCell ⟨w.heap.size + 1, 0, none⟩ (.slice (some ⟨w4.heap.size, 0, none⟩) 4 4)) := ⟨_, rfl⟩
  obtain ⟨gs, Hgs⟩ : ∃ x, Hid (x = w4.heap.size) := ⟨_, rfl⟩
  have hgs : ws.heap.size = gs := by rw [Hws.out, Hgs.out]; exact World.size_setCell ..
  have KRs : Hid (Blk ws (w.heap.size + 1) #[.slice (some ⟨gs, 0, none⟩) 4 4] 60) := by rw [Hws.out, Hgs.out]; exact (KR.out.below D2.out).setR 0 _
  have BWs : Hid (Below w.heap.size w ws) := by rw [Hid, Hws.out]; exact (HB2.out.trans (D2.out.mono HB2.out.size)).setCell (p := ⟨w.heap.size + 1, 0, none⟩) (by show w.heap.size ≤ w.heap.size + 1; omega) _
  have KC : Hid (Blk (ws.alloc (.cells #[.string nn, .int .u64 0, .slice none 0 0, .string na, .int .u64 0, .slice none 0 0, .string ⟨#[]⟩, .int .u64 n3, .slice none 0 0, .string ⟨#[]⟩, .int .u64 n4, .slice none 0 0] 66)) gs #[.string nn, .int .u64 0, .slice none 0 0, .string na, .int .u64 0, .slice none 0 0, .string ⟨#[]⟩, .int .u64 n3, .slice none 0 0, .string ⟨#[]⟩, .int .u64 n4, .slice none 0 0] 66) := by rw [Hid, ← hgs]; exact Blk.new _ _ _
  rw [← Hws.out, ← Hgs.out]
  clear Hws Hgs
  exact ret_boxR (g := w.heap.size + 1) (w := ws.alloc (.cells #[.string nn, .int .u64 0, .slice none 0 0, .string na, .int .u64 0, .slice none 0 0, .string ⟨#[]⟩, .int .u64 n3, .slice none 0 0, .string ⟨#[]⟩, .int .u64 n4, .slice none 0 0] 66)) (cs := #[.slice (some ⟨gs, 0, none⟩) 4 4]) rfl rfl rfl (load_row (KRs.out.alloc _) rfl) ⟨gs, rfl, KC.out, by rw [← hgs]; exact BWs.out.size, BWs.out.alloc BWs.out.size _⟩
end Go.Proofs.YtgjcchafmcccjaaDoor

/- append of a slice that lies anywhere. -/
namespace Go.Proofs.YtgjcchafmcccjaaDoor
open Go.RowKit
set_option linter.unusedVariables false

theorem run_append_none (t ty e : TypeId) (i : TypeInfo) (ht : Tryd.prog.underlying t = some (.slice e)) (hi : Tryd.prog.info? e = some i) (w : World) (base : Option Addr) (n cap c : Nat) (h : n ≤ cap) :
    (Builtin.append_ #[t, t] ty #[.slice base n cap, .slice none 0 c]).run Tryd.prog w = .ok (.slice base n cap) w := by
  cases base <;> simp [Builtin.append_, run_underlying ht, sizeOf, typeInfo, hi, Builtin.lenOf, h, Builtin.firstCells, storeCells]
/-- append(s, x...), x anywhere, or none. -/
theorem append_src (W : World) {ops : Array Oper} {rest : List Oper} {o : Oper} {a : Act} {Q : Exit → Act → World → Prop} (hgd : o.guard = none) (s x : Operand) (t e : TypeId) (z : Value) (size bytes : Nat)
    (ht : Tryd.prog.underlying t = some (.slice e)) (hi : (Tryd.prog.info? e).map (fun i => (i.zero, i.size, i.bytes)) = some (some z, size, bytes)) (hzs : z.cells.size = size) (hsz : 0 < size)
    (ho : o.op = .call { callee := .builtin .append, args := #[s, x], argTypes := #[t, t] })
    (B : Nat) (v : Value) (n : Nat) (l : List Value) (hs : a.eval s = v) (hown : W.ownsRow B e size v n l) (ao : Option Addr) (m c : Nat) (news : List Value) (hx : a.eval x = .slice ao m c) (hl : news.length = m * size) (hc : CellsAt W ao news) (h1 : ∀ u ∈ news, u.oneCell' = true)
    (h63 : n + m ≤ maxLen) (hlen : (n + m) * bytes ≤ 140737488355328) (hB : B ≤ W.heap.size)
    (h : ∀ v' w', w'.ownsRow B e size v' (n + m) (l ++ news) → Grew W w' v v' → wpList Tryd.prog ops Q rest (a.put o.dst v') w') : wpList Tryd.prog ops Q (o :: rest) a W := by
  obtain ⟨i0, hi0, hb⟩ := Option.map_eq_some_iff.1 hi
  simp only [Prod.mk.injEq] at hb
  obtain ⟨hz0, hz1, hz2⟩ := hb
  cases ao with
  | none =>
    have h0 : news = [] := by
      cases news with
      | nil => rfl
      | cons u us =>
        obtain ⟨b, off, e, _⟩ := hc (by simp)
        cases e
    subst h0
    have hm : m = 0 := by
      rcases Nat.eq_zero_or_pos m with h | h
      · exact h
      · have := Nat.mul_pos h hsz
        rw [← hl] at this
        exact absurd this (by simp)
    subst hm
    obtain ⟨vo, vc, rfl, _⟩ := row_forms hown
    have hnc : n ≤ vc := by
      rcases hown.2 with ⟨e, h0⟩ | ⟨g, cap, cur, e, _, _, hnc, _⟩
      · omega
      · simp only [Value.slice.injEq] at e
        obtain ⟨_, _, rfl⟩ := e
        exact hnc
    refine wpList_plain hgd fun K hK => ?_
    have hr := run_append_none t o.type e i0 ht hi0 W vo n vc c hnc
    unfold Oper.wp execOp
    simp only [ho, resolve, invoke, builtin, Sem.run_bind, Sem.run_pure, Result.andThen_ok, List.map_toArray, List.map_cons, List.map_nil, hs, hx, hr]
    exact hK _ _ (h _ W (by simpa using hown) (Grew.refl _ _))
  | some ad =>
    refine wpList_append_grew W hgd s x t ho B e i0 z size bytes ht hi0 hz0 hz1 hz2 hzs hsz v n l hs hown ad m c news hx hl ?_ h1 h63 hlen hB (fun v' w' h1 h2 _ => h v' w' h1 h2)
    intro j u hj
    obtain ⟨b, off, e, hcc⟩ := hc (by intro e; rw [e] at hj; simp at hj)
    obtain rfl := Option.some.inj e
    rw [Addr.add_lit]
    exact hcc j u hj
end Go.Proofs.YtgjcchafmcccjaaDoor
