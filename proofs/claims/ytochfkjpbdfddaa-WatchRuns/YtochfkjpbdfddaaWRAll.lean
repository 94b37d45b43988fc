/- What WatchRuns keeps, with its four slices. -/
import Derived.Test.YtochfkjpbdfddaaWRInv
import Derived.Deep.DeepAppendWide
namespace Go.Proofs.Ytochfkjpbdfddaa
open Go.RowKit
set_option linter.unusedVariables false

section
variable {P : Program} (w : World)
theorem run_append_grew_wide (base : Nat) (t ty e : TypeId) (i : TypeInfo) (z : Value) (size bytes : Nat) (ht : P.underlying t = some (.slice e)) (hi : P.info? e = some i) (hz : i.zero = some z)
    (hsize : i.size = size) (hby : i.bytes = bytes) (hzs : z.cells.size = size) (hsz : 0 < size)
    (v : Value) (n : Nat) (xs : List Value) (hown : w.ownsRow base e size v n xs)
    (a : Addr) (m c : Nat) (news : List Value) (hl : news.length = m * size) (hnews : ∀ j u, news[j]? = some u → w.cell? (a.add j) = some u) (h1 : ∀ u ∈ news, u.oneCell' = true)
    (h63 : n + m ≤ maxLen) (hbytes : ((n + m) + (n + m) / 4 + 192) * bytes ≤ 281474976710656) (hbase : base ≤ w.heap.size) :
    ∃ v' w', (Builtin.append_ #[t, t] ty #[v, .slice (some a) m c]).run P w = .ok v' w' ∧ w'.ownsRow base e size v' (n + m) (xs ++ news) ∧ Grew w w' v v' ∧ (v' = .slice none 0 0 ↔ v = .slice none 0 0 ∧ m = 0) := by
  obtain ⟨v', w', hr, ho, hg, hn⟩ := run_append_own_wide (P := P) w base t ty e i z size bytes ht hi hz hsize hby hzs hsz v n xs hown a m c news hl hnews h1 h63 hbytes hbase
  refine ⟨v', w', hr, ho, ⟨hg, ?_⟩, hn⟩
  intro k hk
  have hsmall : n + m ≤ 9223372036854775807 := by simp only [maxLen] at h63; omega
  subst hsize
  subst hby
  rcases hown.2 with ⟨rfl, rfl⟩ | ⟨g, cap, cur, rfl, hbg, hgg, hnc, hcm, hcs, htake⟩
  · by_cases hm : m = 0
    · have := hn.2 ⟨rfl, hm⟩; subst this; simp [Value.ownBlock] at hk
    · have hr2 := run_append_nil (P := P) w t ty e i z ht hi hz a m c news hl hnews (by omega) (by omega) (Nat.le_trans (Nat.mul_le_mul_right _ (by omega)) hbytes)
      rw [hr] at hr2
      injection hr2 with e1 e2
      subst e1
      simp [Value.ownBlock] at hk
      right; omega
  · by_cases hroom : n + m ≤ cap
    · have hfit : n * i.size + news.length ≤ cur.size := by rw [hl, hcs, ← Nat.add_mul]; exact Nat.mul_le_mul_right _ hroom
      have hr2 := run_append_room (P := P) w t ty e i ht hi g n cap cur hgg a m c news hl hnews h1 hroom hfit
      rw [hr] at hr2
      injection hr2 with e1 e2
      subst e1
      left; exact hk
    · have holds : ∀ j u, xs[j]? = some u → w.cell? ((⟨g, 0, none⟩ : Addr).add j) = some u := hown.cells (g := g) rfl
      have hr2 := run_append_grow (P := P) w t ty e i z ht hi hz ⟨g, 0, none⟩ n cap xs hown.1 holds a m c news hl hnews (by omega) (by omega) (growslice_fits_wide (by omega) hbytes)
      rw [hr] at hr2
      injection hr2 with e1 e2
      subst e1
      simp [Value.ownBlock] at hk
      right; omega
end

theorem infoMSet : (Try.prog.info? 38).map (fun i => (i.zero, i.size, i.bytes)) = some (some (.agg #[.int .i64 0, .slice none 0 0]), 2, 32) := by kernel_rfl
theorem infoPS : (Try.prog.info? 33).map (fun i => (i.zero, i.size, i.bytes)) = some (some (.pointer none), 1, 8) := by kernel_rfl

/-- append(model, Set of most), laid right ahead. -/
theorem append_mset (W : World) {ops : Array Oper} {rest : List Oper} {o : Oper} {a : Act} {Q : Exit → Act → World → Prop} (hgd : o.guard = none) (s x : Operand)
    (ho : o.op = .call { callee := .builtin .append, args := #[s, x], argTypes := #[27, 27] })
    (B : Nat) (v : Value) (n : Nat) (l : List Value) (hs : a.eval s = v) (most : Int) (g : Nat) (hx : a.eval x = .slice (some ⟨g, 0, none⟩) 1 1)
    (hg : g = W.heap.size) (hown : W.ownsRow B 38 2 v n l) (hm : n + 1 ≤ 5864062014806) (hB : B ≤ W.heap.size)
    (h : ∀ v' w', w'.ownsRow B 38 2 v' (n + 1) (l ++ [.int .i64 most, .slice none 0 0]) → Grew W w' v v' → wpList Try.prog ops Q rest (a.put o.dst v') w') : wpList Try.prog ops Q (o :: rest) a (W.alloc (.cells #[.int .i64 most, .slice none 0 0] 38)) :=
  wpList_plain hgd fun K hK => by
    obtain ⟨i0, hi, hz0, hz1, hz2⟩ := infoOf infoMSet
    subst hg
    obtain ⟨v', w', hr, h2, h3, h4⟩ := run_append_grew_wide (P := Try.prog) (W.alloc (.cells #[.int .i64 most, .slice none 0 0] 38)) B 27 o.type 38 i0 _ 2 32 Try.underlying27 hi hz0 hz1 hz2 rfl (by decide) v n l (World.ownsRow.alloc hown _) ⟨W.heap.size, 0, none⟩ 1 1 [.int .i64 most, .slice none 0 0] rfl (cells_new _ _ _) (by simp [Value.oneCell']) (by unfold maxLen; omega) (by omega) (by simp [World.size_alloc]; omega)
    unfold Oper.wp execOp
    simp only [ho, resolve, invoke, builtin, Sem.run_bind, Sem.run_pure, Result.andThen_ok, List.map_toArray, List.map_cons, List.map_nil, hs, hx, hr]
    exact hK _ _ (h v' w' h2 h3.ofAlloc)

theorem ownsRow_shape {w : World} {B : Nat} {e : TypeId} {size : Nat} {v : Value} {n : Nat} {l : List Value} (h : w.ownsRow B e size v n l) : ∃ ao cap, v = .slice ao n cap := by
  rcases h.2 with ⟨rfl, h0⟩ | ⟨g, cap, cur, rfl, _⟩
  · exact ⟨none, 0, by rw [h0]⟩
  · exact ⟨_, _, rfl⟩

def mcs (sl : List Sx) : List Value := sl.flatMap fun s => [.int .i64 s.most, s.hv]
theorem mcs_length (sl : List Sx) : (mcs sl).length = sl.length * 2 := by
  induction sl with
  | nil => rfl
  | cons s sl ih => simp only [mcs, List.flatMap_cons, List.length_append] at ih ⊢; rw [ih]; simp; omega
theorem mcs_append (sl tl : List Sx) : mcs (sl ++ tl) = mcs sl ++ mcs tl := by simp [mcs]
theorem mcs_at (sl : List Sx) (i : Nat) (h : i < sl.length) : (mcs sl)[i * 2]? = some (.int .i64 sl[i].most) ∧ (mcs sl)[i * 2 + 1]? = some sl[i].hv := by
  induction sl generalizing i with
  | nil => simp at h
  | cons q sl ih =>
    have e : mcs (q :: sl) = [.int .i64 q.most, q.hv] ++ mcs sl := by simp [mcs]
    rw [e]
    cases i with
    | zero => exact ⟨rfl, rfl⟩
    | succ i =>
      have := ih i (by simpa using h)
      rw [List.getElem?_append_right (by simp; omega), List.getElem?_append_right (by simp; omega)]
      rw [show (i + 1) * 2 - [Value.int .i64 q.most, q.hv].length = i * 2 by simp; omega, show (i + 1) * 2 + 1 - [Value.int .i64 q.most, q.hv].length = i * 2 + 1 by simp; omega]
      simpa using this
theorem mcs_set (sl : List Sx) (i : Nat) (h : i < sl.length) (s : Sx) : mcs (sl.set i s) = ((mcs sl).set (i * 2) (.int .i64 s.most)).set (i * 2 + 1) s.hv := by
  induction sl generalizing i with
  | nil => simp at h
  | cons q sl ih =>
    have e : ∀ (q : Sx) sl, mcs (q :: sl) = .int .i64 q.most :: q.hv :: mcs sl := fun q sl => by simp [mcs]
    cases i with
    | zero => rw [List.set_cons_zero, e, e]; rfl
    | succ i =>
      rw [List.set_cons_succ, e, e, ih i (by simpa using h)]
      rw [show (i + 1) * 2 = i * 2 + 1 + 1 by omega]
      simp only [List.set_cons_succ]

structure RAll (W wr : World) (x3 x4 x5 x6 : Value) (wl : List (Nat × Nat)) (fs : List Bool) (sl : List Sx) (k : Nat) : Prop where
  core : Core W wr wl fs sl k
  ws : OwnV wr W.heap.size 31 x3 (ptrs (wl.map (·.1)))
  fz : OwnV wr W.heap.size 4 x4 (bls fs)
  ss : OwnV wr W.heap.size 33 x5 (ptrs (sl.map (·.sb)))
  ms : wr.ownsRow W.heap.size 38 2 x6 sl.length (mcs sl)
  sep3 : ∀ s ∈ sl, ∀ b, x3.ownBlock = some b → s.v.ownBlock ≠ some b

section
variable {W wr w' : World} {x3 x4 x5 x6 : Value} {wl : List (Nat × Nat)} {fs : List Bool} {sl : List Sx} {k : Nat} {T : List Nat}

theorem RAll.start (hb : Below W.heap.size W wr) : RAll W wr (.slice none 0 0) (.slice none 0 0) (.slice none 0 0) (.slice none 0 0) [] [] [] 0 :=
  ⟨⟨hb, rfl, Nat.le_refl _, Nat.le_refl _, by simp, by simp, by simp, by simp, by simp⟩, World.ownsRow_nil _ _ _ _, World.ownsRow_nil _ _ _ _, World.ownsRow_nil _ _ _ _, World.ownsRow_nil _ _ _ _, by simp⟩
theorem RAll.later (h : RAll W wr x3 x4 x5 x6 wl fs sl k) (hb : Below wr.heap.size wr w') : RAll W w' x3 x4 x5 x6 wl fs sl k :=
  have ht := Touched.ofBelow hb []
  ⟨h.core.later hb, h.ws.touched ht (by simp), h.fz.touched ht (by simp), h.ss.touched ht (by simp), ownsRow_touched h.ms ht (by simp), h.sep3⟩
theorem RAll.more (h : RAll W wr x3 x4 x5 x6 wl fs sl k) {k' : Nat} (hk : k ≤ k') : RAll W wr x3 x4 x5 x6 wl fs sl k' := ⟨h.core.more hk, h.ws, h.fz, h.ss, h.ms, h.sep3⟩

/-- A watch is fired. -/
theorem RAll.fire (h : RAll W wr x3 x4 x5 x6 wl fs sl k) {a : Nat} (ha : a < wl.length) (ht : Touched [(wl.getD a (0, 0)).1, (wl.getD a (0, 0)).2] wr w') (hw : WAt w' (wl.getD a (0, 0)).1 (wl.getD a (0, 0)).2 true) :
    Core W w' wl (fs.set a true) sl k ∧ OwnV w' W.heap.size 31 x3 (ptrs (wl.map (·.1))) ∧ OwnV w' W.heap.size 4 x4 (bls fs) ∧ OwnV w' W.heap.size 33 x5 (ptrs (sl.map (·.sb))) ∧ w'.ownsRow W.heap.size 38 2 x6 sl.length (mcs sl) := by
  have hpw := (h.core.wat a ha).1
  have key : ∀ {e : TypeId} {b : Nat}, e ≠ 58 → (∃ cs, wr.heap[b]? = some (.cells cs e)) → b ∉ [(wl.getD a (0, 0)).1, (wl.getD a (0, 0)).2] := fun he hb => by
    simp only [List.mem_cons, List.not_mem_nil, or_false, not_or]
    exact ⟨own_ne hb hpw.blk he, own_ne_chan hb hpw.chn⟩
  exact ⟨h.core.fire ha ht hw, h.ws.touched ht fun b hb => key (by decide) (h.ws.typed b hb), h.fz.touched ht fun b hb => key (by decide) (h.fz.typed b hb), h.ss.touched ht fun b hb => key (by decide) (h.ss.typed b hb),
    ownsRow_touched h.ms ht fun b hb => key (by decide) (ownsRow_typed h.ms b hb)⟩

theorem bls_set (fs : List Bool) (a : Nat) (c : Bool) : bls (fs.set a c) = (bls fs).set a (.bool c) := by simp [bls, List.map_set]

/-- .. and the law takes note of it. -/
theorem RAll.note {g n cap a : Nat} (hc : Core W w' wl (fs.set a true) sl k) (h3 : OwnV w' W.heap.size 31 x3 (ptrs (wl.map (·.1)))) (h4 : OwnV w' W.heap.size 4 (.slice (some ⟨g, 0, none⟩) n cap) (bls fs))
    (h5 : OwnV w' W.heap.size 33 x5 (ptrs (sl.map (·.sb)))) (h6 : w'.ownsRow W.heap.size 38 2 x6 sl.length (mcs sl)) (hs : ∀ s ∈ sl, ∀ b, x3.ownBlock = some b → s.v.ownBlock ≠ some b) (hn : n = fs.length) :
    RAll W (w'.setCell ⟨g, a, none⟩ (.bool true)) x3 (.slice (some ⟨g, 0, none⟩) n cap) x5 x6 wl (fs.set a true) sl k := by
  have ht : Touched [g] w' (w'.setCell ⟨g, a, none⟩ (.bool true)) := (Touched.refl _ w').setCell _ _ (by simp)
  have hg := h4.typed g (by simp [Value.ownBlock])
  have hgB := (h4.lt g (by simp [Value.ownBlock])).1
  have key : ∀ {e : TypeId} {b : Nat}, e ≠ 4 → (∃ cs, w'.heap[b]? = some (.cells cs e)) → b ∉ [g] := fun he hb => by
    obtain ⟨cs, hgc⟩ := hg
    simp only [List.mem_cons, List.not_mem_nil, or_false]
    exact own_ne hb hgc he
  refine ⟨hc.typed' (t := 4) ht (by intro b hb; simp at hb; subst hb; exact ⟨hgB, hg⟩) (by decide) (by decide) (by decide) (by decide), h3.touched ht fun b hb => key (by decide) (h3.typed b hb), ?_, h5.touched ht fun b hb => key (by decide) (h5.typed b hb), ownsRow_touched h6 ht fun b hb => key (by decide) (ownsRow_typed h6 b hb), hs⟩
  subst hn
  have h4' : w'.ownsRow W.heap.size 4 1 (.slice (some ⟨g, 0, none⟩) fs.length cap) fs.length (bls fs) := by have := h4; unfold OwnV at this; rw [bls_length] at this; exact this
  have := (World.ownsRow.stored h4' a (.bool true)).1
  unfold OwnV
  rw [bls_length, List.length_set, bls_set]
  exact this

theorem keep_other {e e' : TypeId} {size : Nat} {n : Nat} {l : List Value} {w w2 : World} {v x : Value} {x' : Value} (hv : w.ownsRow W.heap.size e size v n l) (hg : Grew w w2 x x') (hx : ∀ b, x.ownBlock = some b → ∃ cs, w.heap[b]? = some (.cells cs e')) (hne : e ≠ e') : w2.ownsRow W.heap.size e size v n l :=
  ownsRow_touched hv hg.touched fun b hb hm => by
    simp at hm
    obtain ⟨cs, hc⟩ := hx b hm
    exact own_ne (ownsRow_typed hv b hb) hc hne rfl

theorem RAll.fz_kept {w2 w3 : World} {x3' : Value} (h : RAll W w2 x3 x4 x5 x6 wl fs sl k) (hg3 : Grew w2 w3 x3 x3') : OwnV w3 W.heap.size 4 x4 (bls fs) := keep_other h.fz hg3 h.ws.typed (by decide)
theorem RAll.ms_kept {w2 w3 : World} {x5' : Value} (h : RAll W w2 x3 x4 x5 x6 wl fs sl k) (hg5 : Grew w2 w3 x5 x5') : w3.ownsRow W.heap.size 38 2 x6 sl.length (mcs sl) := keep_other h.ms hg5 h.ss.typed (by decide)

/-- A new watch, noted in two slices. -/
theorem RAll.newWatch {w2 w3 w4 : World} {x3' x4' : Value} {b c : Nat} (h : RAll W w2 x3 x4 x5 x6 wl fs sl k) (hw : WAt w2 b c false) (hb : W.heap.size ≤ b) (hc : W.heap.size ≤ c) (hnb : b ∉ wl.map (·.1)) (hnc : c ∉ wl.map (·.2))
    (ho3 : OwnV w3 W.heap.size 31 x3' (ptrs (wl.map (·.1)) ++ [ptr b])) (hg3 : Grew w2 w3 x3 x3') (ho4 : OwnV w4 W.heap.size 4 x4' (bls fs ++ [.bool false])) (hg4 : Grew w3 w4 x4 x4') :
    RAll W w4 x3' x4' x5 x6 (wl ++ [(b, c)]) (fs ++ [false]) sl (k + 1) := by
  have hf3 := h.fz_kept hg3
  have c2 := h.core.add hw hb hc hnb hnc
  have c3 : Core W w3 (wl ++ [(b, c)]) (fs ++ [false]) sl (k + 1) := c2.typed (t := 31) hg3.touched (by intro b hb; simp at hb; exact ⟨(h.ws.lt b hb).1, h.ws.typed b hb⟩) (by decide) (by decide) (by decide) (by intro s hs b hb; simp at hb; exact h.sep3 s hs b hb)
  have c4 := c3.typed' (t := 4) hg4.touched (by intro b hb; simp at hb; exact ⟨(hf3.lt b hb).1, hf3.typed b hb⟩) (by decide) (by decide) (by decide) (by decide)
  refine ⟨c4, ?_, ?_, keep_other (keep_other h.ss hg3 h.ws.typed (by decide)) hg4 hf3.typed (by decide), keep_other (keep_other h.ms hg3 h.ws.typed (by decide)) hg4 hf3.typed (by decide), ?_⟩
  · rw [List.map_append, ptrs_append]; exact keep_other ho3 hg4 hf3.typed (by decide)
  · have : bls (fs ++ [false]) = bls fs ++ [.bool false] := by simp [bls]
    rw [this]; exact ho4
  · intro s hs b hb e
    rcases hg3.place b hb with h1 | h1
    · exact h.sep3 s hs b h1 e
    · have := ((h.core.sat s hs).set.own.lt b e).2; omega

/-- A new set, and the document's beside it. -/
theorem RAll.newSet {w2 w3 w4 : World} {x5' x6' : Value} {sb : Nat} {most : Int} (h : RAll W w2 x3 x4 x5 x6 wl fs sl k) (hs : SAt w2 W.heap.size sb most (.slice none 0 0) []) (hb : W.heap.size ≤ sb) (hm : 0 ≤ most) (hn : ∀ s ∈ sl, s.sb ≠ sb)
    (ho5 : OwnV w3 W.heap.size 33 x5' (ptrs (sl.map (·.sb)) ++ [ptr sb])) (hg5 : Grew w2 w3 x5 x5') (ho6 : w4.ownsRow W.heap.size 38 2 x6' (sl.length + 1) (mcs sl ++ [.int .i64 most, .slice none 0 0])) (hg6 : Grew w3 w4 x6 x6') :
    RAll W w4 x3 x4 x5' x6' wl fs (sl ++ [⟨sb, most, .slice none 0 0, [], .slice none 0 0⟩]) (k + 1) := by
  have hm3 := h.ms_kept hg5
  have c2 : Core W w2 wl fs (sl ++ [⟨sb, most, .slice none 0 0, [], .slice none 0 0⟩]) (k + 1) := by
    have c := h.core.more (Nat.le_succ k)
    refine ⟨c.below, c.flen, c.wlen, by have := h.core.slen; simp; omega, c.wat, c.nod, c.noc, ?_, ?_⟩
    · intro s hsm
      rcases List.mem_append.1 hsm with hsm | hsm
      · exact c.sat s hsm
      · simp at hsm; subst hsm
        exact ⟨hs, hb, World.ownsRow_nil _ _ _ _, by simp, by simp, by simpa using hm⟩
    · rw [List.pairwise_append]
      refine ⟨c.sep, by simp, ?_⟩
      intro s hs' t ht
      simp at ht; subst ht
      exact ⟨hn s hs', by simp [Value.ownBlock]⟩
  have c3 := c2.typed' (t := 33) hg5.touched (by intro b hb; simp at hb; exact ⟨(h.ss.lt b hb).1, h.ss.typed b hb⟩) (by decide) (by decide) (by decide) (by decide)
  have c4 := c3.typed' (t := 38) hg6.touched (by intro b hb; simp at hb; exact ⟨(World.ownsRow.lt hm3 b hb).1, ownsRow_typed hm3 b hb⟩) (by decide) (by decide) (by decide) (by decide)
  refine ⟨c4, keep_other (keep_other h.ws hg5 h.ss.typed (by decide)) hg6 (ownsRow_typed hm3) (by decide), keep_other (keep_other h.fz hg5 h.ss.typed (by decide)) hg6 (ownsRow_typed hm3) (by decide), ?_, ?_, ?_⟩
  · rw [List.map_append, ptrs_append]; exact keep_other ho5 hg6 (ownsRow_typed hm3) (by decide)
  · rw [mcs_append, List.length_append]; exact ho6
  · intro s hsm
    rcases List.mem_append.1 hsm with hsm | hsm
    · exact h.sep3 s hsm
    · simp at hsm; subst hsm; simp [Value.ownBlock]

theorem pair_of {sl : List Sx} (h : sl.Pairwise fun s t => s.sb ≠ t.sb ∧ ∀ k, s.v.ownBlock = some k → t.v.ownBlock ≠ some k) {i j : Nat} (hi : i < sl.length) (hj : j < sl.length) (hne : i ≠ j) : sl[i].sb ≠ sl[j].sb ∧ ∀ k, sl[i].v.ownBlock = some k → sl[j].v.ownBlock ≠ some k := by
  rw [List.pairwise_iff_getElem] at h
  rcases Nat.lt_or_gt_of_ne hne with h1 | h1
  · exact h i j hi hj h1
  · have := h j i hj hi h1
    exact ⟨fun e => this.1 e.symm, fun k h2 h3 => this.2 k h3 h2⟩

/-- One set is another now, and the document's beside it. -/
theorem RAll.setStore {w2 w3 : World} {g n cap b : Nat} {s' : Sx} (h : RAll W w2 x3 x4 x5 (.slice (some ⟨g, 0, none⟩) n cap) wl fs sl k) (hn : n = sl.length) (hb : b < sl.length) (hs' : SOk W w3 wl (k + 1) s') (hsb : s'.sb = sl[b].sb)
    (ht : Touched (sl[b].sb :: sl[b].v.ownBlock.toList) w2 w3) (hp : ∀ k, s'.v.ownBlock = some k → sl[b].v.ownBlock = some k ∨ w2.heap.size ≤ k) :
    RAll W ((w3.setCell ⟨g, b * 2, none⟩ (.int .i64 s'.most)).setCell ⟨g, b * 2 + 1, none⟩ s'.hv) x3 x4 x5 (.slice (some ⟨g, 0, none⟩) n cap) wl fs (sl.set b s') (k + 1) := by
  subst hn
  have hsk := h.core.sat sl[b] (List.getElem_mem hb)
  -- other slices and sets stay
  have key : ∀ {e : TypeId} {j : Nat}, e ≠ 61 → e ≠ 31 → (∃ cs, w2.heap[j]? = some (.cells cs e)) → j ∉ sl[b].sb :: sl[b].v.ownBlock.toList := fun h1 h2 hj => by
    simp only [List.mem_cons, Option.mem_toList, not_or]
    refine ⟨own_ne hj hsk.set.blk h1, fun e => ?_⟩
    obtain ⟨cs, hc⟩ := hsk.set.own.typed _ e
    exact own_ne hj hc h2 rfl
  have hT : ∀ j ∈ sl[b].sb :: sl[b].v.ownBlock.toList, W.heap.size ≤ j := by
    intro j hj
    simp at hj
    rcases hj with rfl | hj
    · exact hsk.lsb
    · exact (hsk.set.own.lt j hj).1
  have hx3 : OwnV w3 W.heap.size 31 x3 (ptrs (wl.map (·.1))) := h.ws.touched ht fun j hj => by
    simp only [List.mem_cons, Option.mem_toList, not_or]
    exact ⟨own_ne (h.ws.typed j hj) hsk.set.blk (by decide), h.sep3 _ (List.getElem_mem hb) j hj⟩
  have c3 : Core W w3 wl fs (sl.set b s') (k + 1) := by
    have c := h.core.more (Nat.le_succ k)
    refine ⟨c.below.trans (ht.toBelow c.below.size hT), c.flen, c.wlen, by rw [List.length_set]; exact c.slen, ?_, c.nod, c.noc, ?_, ?_⟩
    · intro i hi
      have hw := (c.wat i hi).1
      have hn := hw.ne_set hsk.set
      refine ⟨hw.touched ht ?_ ?_, (c.wat i hi).2⟩
      · simp only [List.mem_cons, Option.mem_toList, not_or]; exact ⟨hn.1, fun e => (hn.2.2 _ e).1 rfl⟩
      · simp only [List.mem_cons, Option.mem_toList, not_or]; exact ⟨hn.2.1, fun e => (hn.2.2 _ e).2 rfl⟩
    · intro t htm
      obtain ⟨j, hj, rfl⟩ := List.getElem_of_mem htm
      rw [List.length_set] at hj
      rw [List.getElem_set]
      split
      · exact hs'
      · rename_i hne
        have hp2 := pair_of h.core.sep hj hb (fun e => hne e.symm)
        refine (c.sat _ (List.getElem_mem hj)).touch ht ?_ ?_ ?_
        · simp only [List.mem_cons, Option.mem_toList, not_or]
          refine ⟨hp2.1, fun e => ?_⟩
          exact own_ne (hsk.set.own.typed _ e) (c.sat _ (List.getElem_mem hj)).set.blk (by decide) rfl
        · intro i hi
          simp only [List.mem_cons, Option.mem_toList, not_or]
          exact ⟨own_ne ((c.sat _ (List.getElem_mem hj)).set.own.typed i hi) hsk.set.blk (by decide), hp2.2 i hi⟩
        · intro i hi
          exact key (by decide) (by decide) ((c.sat _ (List.getElem_mem hj)).held.typed i hi)
    · rw [List.pairwise_iff_getElem]
      intro i j hi hj hij
      rw [List.length_set] at hi hj
      rw [List.getElem_set, List.getElem_set]
      have fresh : ∀ (m : Nat) (hm : m < sl.length), m ≠ b → s'.sb ≠ sl[m].sb ∧ ∀ k, s'.v.ownBlock = some k → sl[m].v.ownBlock ≠ some k := fun m hm hmb => by
        have hp2 := pair_of h.core.sep hb hm (fun e => hmb e.symm)
        refine ⟨by rw [hsb]; exact hp2.1, fun q hq e => ?_⟩
        rcases hp q hq with h1 | h1
        · exact hp2.2 q h1 e
        · have := ((h.core.sat _ (List.getElem_mem hm)).set.own.lt q e).2; omega
      split
      · split
        · omega
        · exact fresh j hj (by omega)
      · split
        · have := fresh i hi (by omega)
          exact ⟨fun e => this.1 e.symm, fun q h1 h2 => this.2 q h2 h1⟩
        · exact pair_of h.core.sep hi hj (by omega)
  have h3ms : w3.ownsRow W.heap.size 38 2 (.slice (some ⟨g, 0, none⟩) sl.length cap) sl.length (mcs sl) := ownsRow_touched h.ms ht fun j hj => key (by decide) (by decide) (ownsRow_typed h.ms j hj)
  have hfz := h.fz.touched ht fun j hj => key (by decide) (by decide) (h.fz.typed j hj)
  have hss := h.ss.touched ht fun j hj => key (by decide) (by decide) (h.ss.typed j hj)
  have st := (World.ownsRow.stored (World.ownsRow.stored h3ms (b * 2) (.int .i64 s'.most)).1 (b * 2 + 1) s'.hv).1
  rw [← mcs_set sl b hb s'] at st
  have hg := ownsRow_typed h3ms g (by simp [Value.ownBlock])
  have hgB := (World.ownsRow.lt h3ms g (by simp [Value.ownBlock])).1
  have ht4 : Touched [g] w3 ((w3.setCell ⟨g, b * 2, none⟩ (.int .i64 s'.most)).setCell ⟨g, b * 2 + 1, none⟩ s'.hv) := ((Touched.refl _ w3).setCell _ _ (by simp)).setCell _ _ (by simp)
  have key2 : ∀ {e : TypeId} {j : Nat}, e ≠ 38 → (∃ cs, w3.heap[j]? = some (.cells cs e)) → j ∉ [g] := fun he hj => by
    obtain ⟨cs, hgc⟩ := hg
    simp only [List.mem_cons, List.not_mem_nil, or_false]
    exact own_ne hj hgc he
  refine ⟨c3.typed' (t := 38) ht4 (by intro j hj; simp at hj; subst hj; exact ⟨hgB, hg⟩) (by decide) (by decide) (by decide) (by decide), hx3.touched ht4 fun j hj => key2 (by decide) (hx3.typed j hj), hfz.touched ht4 fun j hj => key2 (by decide) (hfz.typed j hj), ?_, ?_, ?_⟩
  · have : (sl.set b s').map (·.sb) = sl.map (·.sb) := by
      rw [List.map_set, hsb]
      refine List.ext_getElem (by simp) fun i h1 h2 => ?_
      rw [List.getElem_set]
      split
      · rename_i e; subst e; simp
      · rfl
    rw [this]
    exact hss.touched ht4 fun j hj => key2 (by decide) (hss.typed j hj)
  · rw [List.length_set]; exact st
  · intro t htm q hq e
    obtain ⟨j, hj, rfl⟩ := List.getElem_of_mem htm
    rw [List.length_set] at hj
    rw [List.getElem_set] at e
    split at e
    · rcases hp q e with h1 | h1
      · exact h.sep3 _ (List.getElem_mem hb) q hq h1
      · have := (h.ws.lt q hq).2; omega
    · exact h.sep3 _ (List.getElem_mem hj) q hq e
/-- All that a Fire of watch a wants, and what it leaves. -/
theorem RAll.fireAt {a3 a4 : Option Addr} {c3 c4 a : Nat} (h : RAll W wr (.slice a3 wl.length c3) (.slice a4 wl.length c4) x5 x6 wl fs sl k) (ha : a < wl.length) :
    ∃ (g3 g4 bw cw : Nat) (fa : Bool), a3 = some ⟨g3, 0, none⟩ ∧ a4 = some ⟨g4, 0, none⟩ ∧ wr.cell? ⟨g3, a, none⟩ = some (.pointer (some ⟨bw, 0, none⟩)) ∧ wr.cell? ⟨g4, a, none⟩ = some (.bool fa) ∧ WAt wr bw cw fa ∧
      ∀ w5, Touched [bw, cw] wr.drew w5 → WAt w5 bw cw true → (w5.cell? ⟨g3, a, none⟩ = some (.pointer (some ⟨bw, 0, none⟩)) ∧ w5.cell? ⟨g4, a, none⟩ = some (.bool fa)) ∧ w5.frozen? ⟨g4, a, none⟩ = false ∧
        RAll W (w5.setCell ⟨g4, a, none⟩ (.bool true)) (.slice (some ⟨g3, 0, none⟩) wl.length c3) (.slice (some ⟨g4, 0, none⟩) wl.length c4) x5 x6 wl (fs.set a true) sl (k + 1) := by
  have hfl := h.core.flen
  obtain ⟨g3, rfl, hc3⟩ := h.ws.at a (by rw [ptrs_length, List.length_map]; exact ha)
  obtain ⟨g4, rfl, hc4⟩ := h.fz.at a (by rw [bls_length, hfl]; exact ha)
  have k3 : wr.cell? ⟨g3, a, none⟩ = some (.pointer (some ⟨(wl.getD a (0, 0)).1, 0, none⟩)) := by rw [hc3]; simp [ptrs, ptr, List.getD, ha]
  have k4 : wr.cell? ⟨g4, a, none⟩ = some (.bool (fs.getD a false)) := by rw [hc4]; simp [bls, List.getD, hfl, ha]
  have hwa := (h.core.wat a ha).1
  have key : ∀ {e : TypeId} {b : Nat}, e ≠ 58 → (∃ cs, wr.heap[b]? = some (.cells cs e)) → b ∉ [(wl.getD a (0, 0)).1, (wl.getD a (0, 0)).2] := fun he hb => by
    simp only [List.mem_cons, List.not_mem_nil, or_false, not_or]
    exact ⟨own_ne hb hwa.blk he, own_ne_chan hb hwa.chn⟩
  have G3 := key (by decide) (h.ws.typed g3 (by simp [Value.ownBlock]))
  have G4 := key (by decide) (h.fz.typed g4 (by simp [Value.ownBlock]))
  have Z4 : wr.frozen? ⟨g4, a, none⟩ = false := by
    have := h.fz
    unfold OwnV at this
    rw [bls_length, hfl] at this
    exact World.ownsRow.frozenAt this a
  have L3 : g3 < wr.heap.size := World.block_lt_of_cell? wr _ k3
  have L4 : g4 < wr.heap.size := World.block_lt_of_cell? wr _ k4
  refine ⟨g3, g4, _, _, _, rfl, rfl, k3, k4, hwa, fun w5 ht5 hw5 => ⟨⟨(World.cell?_of_block (ht5.block g3 L3 G3)).trans k3, (World.cell?_of_block (ht5.block g4 L4 G4)).trans k4⟩, (World.frozen?_of_block (ht5.block g4 L4 G4)).trans Z4, ?_⟩⟩
  have hd : RAll W wr.drew (.slice (some ⟨g3, 0, none⟩) wl.length c3) (.slice (some ⟨g4, 0, none⟩) wl.length c4) x5 x6 wl fs sl k := h.later ((Below.refl _ wr).drew)
  obtain ⟨f1, f2, f3, f4, f5⟩ := hd.fire ha ht5 hw5
  exact (RAll.note f1 f2 f3 f4 f5 h.sep3 hfl.symm).more (Nat.le_succ k)

/-- What a Fired of watch a wants. -/
theorem RAll.firedAt {a3 a4 : Option Addr} {c3 c4 a : Nat} (h : RAll W wr (.slice a3 wl.length c3) (.slice a4 wl.length c4) x5 x6 wl fs sl k) (ha : a < wl.length) :
    ∃ (g3 g4 bw cw : Nat) (fa : Bool), a3 = some ⟨g3, 0, none⟩ ∧ a4 = some ⟨g4, 0, none⟩ ∧ wr.cell? ⟨g3, a, none⟩ = some (.pointer (some ⟨bw, 0, none⟩)) ∧ wr.cell? ⟨g4, a, none⟩ = some (.bool fa) ∧ WAt wr bw cw fa := by
  obtain ⟨g3, g4, bw, cw, fa, h1, h2, h3, h4, h5, _⟩ := h.fireAt ha
  exact ⟨g3, g4, bw, cw, fa, h1, h2, h3, h4, h5⟩
end
end Go.Proofs.Ytochfkjpbdfddaa
