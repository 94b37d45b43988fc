/- Layer 6 (schema): one field, one index more in the last table, in memory. -/
import Derived.Test.YtbpmahchinblhaaDoorSRd
namespace Go.Proofs.YtbpmahchinblhaaDoor
open Go.RowKit
set_option linter.unusedVariables false

theorem grew_lies {w w4 : World} {o : Obj} {v v' : Value} {g : Nat} (hg : (w.alloc o).grownBy w4 v.ownBlock) (hat : v.ownBlock = some g ∨ g = (w.alloc o).heap.size) (hv : v'.ownBlock = some g) : Grew w w4 v v' := by
  refine ⟨⟨hg.os, hg.tape, hg.output, Nat.le_trans (by simp) hg.size, fun k hk hne => (hg.block k (by simp; omega) hne).trans (Below.heap_alloc _ _ _ hk)⟩, fun k hk => ?_⟩
  rw [hv] at hk
  cases hk
  rcases hat with h | h
  · exact .inl h
  · right; rw [h]; simp
theorem info_field : (Tryd.prog.info? 40).map (fun i => (i.zero, i.size, i.bytes)) = some (some (.agg #[.string ⟨#[]⟩, .int .i64 0]), 2, 24) := by kernel_rfl
theorem info_index : (Tryd.prog.info? 38).map (fun i => (i.zero, i.size, i.bytes)) = some (some (.agg #[.string ⟨#[]⟩, .slice none 0 0, .bool false, .bool false, .bool false]), 5, 48) := by kernel_rfl
theorem info_num : (Tryd.prog.info? 3).map (fun i => (i.zero, i.size, i.bytes)) = some (some (.int .i64 0), 1, 8) := by kernel_rfl
theorem info_of {P : Program} {e : TypeId} {z : Value} {a b : Nat} (h : (P.info? e).map (fun i => (i.zero, i.size, i.bytes)) = some (some z, a, b)) : ∃ i, P.info? e = some i ∧ i.zero = some z ∧ i.size = a ∧ i.bytes = b := by
  obtain ⟨i, hi, hb⟩ := Option.map_eq_some_iff.1 h
  simp only [Prod.mk.injEq] at hb
  exact ⟨i, hi, hb.1, hb.2.1, hb.2.2⟩

theorem fcs_snoc (fs : List Fd) (f : Fd) : fcs (fs ++ [f]) = fcs fs ++ [.string f.n, .int .i64 f.k] := by simp [fcs]
theorem xcs_snoc (xs : List XV) (x : XV) : xcs (xs ++ [x]) = xcs xs ++ [.string x.x.n, x.v, .bool x.x.u, .bool x.x.l, .bool x.x.s] := by simp [xcs]
theorem tcs_set1 (us : List TV) (t t' : TV) (hn : t'.n = t.n) (hx : t'.xv = t.xv) : (tcs (us ++ [t])).set (us.length * 3 + 1) t'.fv = tcs (us ++ [t']) := by
  rw [tcs_snoc, tcs_snoc, List.set_append_right _ _ (by rw [tcs_length]; omega), tcs_length, show us.length * 3 + 1 - us.length * 3 = 1 by omega, hn, hx]
  rfl
theorem tcs_set2 (us : List TV) (t t' : TV) (hn : t'.n = t.n) (hf : t'.fv = t.fv) : (tcs (us ++ [t])).set (us.length * 3 + 2) t'.xv = tcs (us ++ [t']) := by
  rw [tcs_snoc, tcs_snoc, List.set_append_right _ _ (by rw [tcs_length]; omega), tcs_length, show us.length * 3 + 2 - us.length * 3 = 2 by omega, hn, hf]
  rfl

theorem Tabs.addField {w w1 : World} {B : Nat} {us : List TV} {t : TV} {g cap : Nat} {a2 : Option Addr} {c2 : Nat} {n : ByteArray} {k : Int} (h : Tabs w B (.slice (some ⟨g, 0, none⟩) (us ++ [t]).length cap) (us ++ [t]))
    (hrow : w1.ownsRow B 40 2 (.slice a2 (t.fs.length + 1) c2) (t.fs.length + 1) (fcs t.fs ++ [.string n, .int .i64 k])) (hg : Grew w w1 t.fv (.slice a2 (t.fs.length + 1) c2))
    (hn : n.size ≤ 32) (hk : 1 ≤ k ∧ k ≤ 3) (hm : t.fs.length < 16) :
    Tabs (w1.setCell ⟨g, us.length * 3 + 1, none⟩ (.slice a2 (t.fs.length + 1) c2)) B (.slice (some ⟨g, 0, none⟩) (us ++ [t]).length cap) (us ++ [⟨t.n, t.fs ++ [⟨n, k⟩], a2, c2, t.xs, t.xa, t.xc⟩]) := by
  have ht := h.tab t (by simp)
  have hr1 := row_grew h.row hg (rows_ne h.row ht.fs (by decide))
  obtain ⟨cs, hgb⟩ := row_typed hr1 g rfl
  have hlen : (us ++ [(⟨t.n, t.fs ++ [⟨n, k⟩], a2, c2, t.xs, t.xa, t.xc⟩ : TV)]).length = (us ++ [t]).length := by simp
  have hfv : (⟨t.n, t.fs ++ [⟨n, k⟩], a2, c2, t.xs, t.xa, t.xc⟩ : TV).fv = .slice a2 (t.fs.length + 1) c2 := by simp [TV.fv]
  refine ⟨?_, ?_, ?_, ?_, ?_, by rw [hlen]; exact h.most, ?_⟩
  · have := (World.ownsRow.stored hr1 (us.length * 3 + 1) (.slice a2 (t.fs.length + 1) c2)).1
    rw [← hfv, tcs_set1 us t ⟨t.n, t.fs ++ [(⟨n, k⟩ : Fd)], a2, c2, t.xs, t.xa, t.xc⟩ rfl rfl, hfv] at this
    rw [hlen]
    exact this
  · intro t' ht'
    rcases List.mem_append.1 ht' with hu | hu
    · have h1 := h.tab t' (by simp [hu])
      have hap : ∀ k, t.fv.ownBlock = some k → t'.fv.ownBlock ≠ some k := by
        have := h.afs
        rw [List.map_append] at this
        exact this.ne t'.fv (List.mem_map_of_mem hu)
      have a1 := row_grew h1.fs hg hap
      have a2 := row_grew h1.xs hg (rows_ne h1.xs ht.fs (by decide))
      refine ⟨row_set a1 (row_ne a1 hgb (by decide)) _, row_set a2 (row_ne a2 hgb (by decide)) _, fun x hx => ?_⟩
      have a3 := row_grew (h1.ov x hx) hg (rows_ne (h1.ov x hx) ht.fs (by decide))
      exact row_set a3 (row_ne a3 hgb (by decide)) _
    · simp only [List.mem_singleton] at hu
      subst hu
      have a2 := row_grew ht.xs hg (rows_ne ht.xs ht.fs (by decide))
      refine ⟨?_, row_set a2 (row_ne a2 hgb (by decide)) _, fun x hx => ?_⟩
      · rw [hfv, fcs_snoc, List.length_append]
        exact row_set hrow (row_ne hrow hgb (by decide)) _
      · have a3 := row_grew (ht.ov x hx) hg (rows_ne (ht.ov x hx) ht.fs (by decide))
        exact row_set a3 (row_ne a3 hgb (by decide)) _
  · have ha := h.afs
    rw [List.map_append] at ha ⊢
    simp only [List.map_cons, List.map_nil, hfv] at ha ⊢
    refine ha.last (N := w.heap.size) hg.place fun u hu k hk => ?_
    obtain ⟨t', ht', rfl⟩ := List.mem_map.1 hu
    exact (World.ownsRow.lt (h.tab t' (by simp [ht'])).fs k hk).2
  · have ha := h.axs
    rw [List.map_append] at ha ⊢
    exact ha
  · have ha := h.aov
    rw [List.flatMap_append] at ha ⊢
    exact ha
  · intro t' ht'
    rcases List.mem_append.1 ht' with hu | hu
    · exact h.ok t' (by simp [hu])
    · simp only [List.mem_singleton] at hu
      subst hu
      have ho := h.ok t (by simp)
      refine ⟨ho.size, ?_, by simp; omega, ho.xmost, fun x hx => ?_⟩
      · intro f hf
        rcases List.mem_append.1 hf with hf | hf
        · exact ho.fsize f hf
        · simp only [List.mem_singleton] at hf; subst hf; exact ⟨hn, hk⟩
      · have hx' := ho.xok x hx
        exact ⟨hx'.size, hx'.most, hx'.one, fun p hp => by have := hx'.place p hp; simp; omega⟩

theorem Tabs.addIndex {w w1 : World} {B : Nat} {us : List TV} {t : TV} {g cap : Nat} {a2 : Option Addr} {c2 : Nat} {x : XV} {N : Nat} (h : Tabs w B (.slice (some ⟨g, 0, none⟩) (us ++ [t]).length cap) (us ++ [t]))
    (hrow : w1.ownsRow B 38 5 (.slice a2 (t.xs.length + 1) c2) (t.xs.length + 1) (xcs t.xs ++ [.string x.x.n, x.v, .bool x.x.u, .bool x.x.l, .bool x.x.s])) (hg : Grew w w1 t.xv (.slice a2 (t.xs.length + 1) c2))
    (hov : w.ownsRow B 3 1 x.v x.x.ov.length (ics x.x.ov)) (hnew : ∀ k, x.v.ownBlock = some k → N ≤ k) (hold : ∀ t' ∈ us ++ [t], ∀ y ∈ t'.xs, ∀ k, y.v.ownBlock = some k → k < N)
    (hx : XOk t x) (hm : t.xs.length < 8) :
    Tabs (w1.setCell ⟨g, us.length * 3 + 2, none⟩ (.slice a2 (t.xs.length + 1) c2)) B (.slice (some ⟨g, 0, none⟩) (us ++ [t]).length cap) (us ++ [⟨t.n, t.fs, t.fa, t.fc, t.xs ++ [x], a2, c2⟩]) := by
  have ht := h.tab t (by simp)
  have hr1 := row_grew h.row hg (rows_ne h.row ht.xs (by decide))
  obtain ⟨cs, hgb⟩ := row_typed hr1 g rfl
  have hlen : (us ++ [(⟨t.n, t.fs, t.fa, t.fc, t.xs ++ [x], a2, c2⟩ : TV)]).length = (us ++ [t]).length := by simp
  have hxv : (⟨t.n, t.fs, t.fa, t.fc, t.xs ++ [x], a2, c2⟩ : TV).xv = .slice a2 (t.xs.length + 1) c2 := by simp [TV.xv]
  refine ⟨?_, ?_, ?_, ?_, ?_, by rw [hlen]; exact h.most, ?_⟩
  · have := (World.ownsRow.stored hr1 (us.length * 3 + 2) (.slice a2 (t.xs.length + 1) c2)).1
    rw [← hxv, tcs_set2 us t ⟨t.n, t.fs, t.fa, t.fc, t.xs ++ [x], a2, c2⟩ rfl rfl, hxv] at this
    rw [hlen]
    exact this
  · intro t' ht'
    rcases List.mem_append.1 ht' with hu | hu
    · have h1 := h.tab t' (by simp [hu])
      have hap : ∀ k, t.xv.ownBlock = some k → t'.xv.ownBlock ≠ some k := by
        have := h.axs
        rw [List.map_append] at this
        exact this.ne t'.xv (List.mem_map_of_mem hu)
      have a1 := row_grew h1.fs hg (rows_ne h1.fs ht.xs (by decide))
      have a2 := row_grew h1.xs hg hap
      refine ⟨row_set a1 (row_ne a1 hgb (by decide)) _, row_set a2 (row_ne a2 hgb (by decide)) _, fun y hy => ?_⟩
      have a3 := row_grew (h1.ov y hy) hg (rows_ne (h1.ov y hy) ht.xs (by decide))
      exact row_set a3 (row_ne a3 hgb (by decide)) _
    · simp only [List.mem_singleton] at hu
      subst hu
      have a1 := row_grew ht.fs hg (rows_ne ht.fs ht.xs (by decide))
      refine ⟨row_set a1 (row_ne a1 hgb (by decide)) _, ?_, fun y hy => ?_⟩
      · rw [hxv, xcs_snoc, List.length_append]
        exact row_set hrow (row_ne hrow hgb (by decide)) _
      · rcases List.mem_append.1 hy with hy | hy
        · have a3 := row_grew (ht.ov y hy) hg (rows_ne (ht.ov y hy) ht.xs (by decide))
          exact row_set a3 (row_ne a3 hgb (by decide)) _
        · simp only [List.mem_singleton] at hy
          subst hy
          have a3 := row_grew hov hg (rows_ne hov ht.xs (by decide))
          exact row_set a3 (row_ne a3 hgb (by decide)) _
  · have ha := h.afs
    rw [List.map_append] at ha ⊢
    exact ha
  · have ha := h.axs
    rw [List.map_append] at ha ⊢
    simp only [List.map_cons, List.map_nil, hxv] at ha ⊢
    refine ha.last (N := w.heap.size) hg.place fun u hu k hk => ?_
    obtain ⟨t', ht', rfl⟩ := List.mem_map.1 hu
    exact (World.ownsRow.lt (h.tab t' (by simp [ht'])).xs k hk).2
  · have ha := h.aov
    rw [List.flatMap_append] at ha ⊢
    simp only [List.flatMap_cons, List.flatMap_nil, List.append_nil, List.map_append, List.map_cons, List.map_nil] at ha ⊢
    rw [← List.append_assoc]
    refine ha.snoc fun u hu k hk e => ?_
    have h1 := hnew k e
    rcases List.mem_append.1 hu with hu | hu
    · obtain ⟨t', ht', hu⟩ := List.mem_flatMap.1 hu
      obtain ⟨y, hy, rfl⟩ := List.mem_map.1 hu
      have := hold t' (by simp [ht']) y hy k hk
      omega
    · obtain ⟨y, hy, rfl⟩ := List.mem_map.1 hu
      have := hold t (by simp) y hy k hk
      omega
  · intro t' ht'
    rcases List.mem_append.1 ht' with hu | hu
    · exact h.ok t' (by simp [hu])
    · simp only [List.mem_singleton] at hu
      subst hu
      have ho := h.ok t (by simp)
      refine ⟨ho.size, ho.fsize, ho.fmost, by simp; omega, fun y hy => ?_⟩
      rcases List.mem_append.1 hy with hy | hy
      · have hy' := ho.xok y hy
        exact ⟨hy'.size, hy'.most, hy'.one, hy'.place⟩
      · simp only [List.mem_singleton] at hy; subst hy; exact ⟨hx.size, hx.most, hx.one, hx.place⟩
end Go.Proofs.YtbpmahchinblhaaDoor
