/- Layer 14 (timers): the map from ids to timers. -/
import Derived.Test.YtedhjdkhfndinaaTiHp
import Derived.MapKept
namespace Go.Proofs.Ytedhjdkhfndinaa
open Go.RowKit Go.MapKept
set_option linter.unusedVariables false

theorem eraseIdx_mapT {α β : Type} (f : α → β) : ∀ (l : List α) (j : Nat), (l.map f).eraseIdx j = (l.eraseIdx j).map f
  | [], _ => rfl
  | a :: l, 0 => rfl
  | a :: l, j + 1 => by simp [eraseIdx_mapT f l j]
theorem eraseIdx_permT {α : Type} : ∀ (l : List α) (j : Nat) (p : α), l[j]? = some p → l.Perm (p :: l.eraseIdx j)
  | [], _, _, h => by cases h
  | a :: l, 0, p, h => by
    obtain rfl := Option.some.inj h
    exact List.Perm.refl _
  | a :: l, j + 1, p, h => ((eraseIdx_permT l j p h).cons a).trans (List.Perm.swap _ _ _)

def keyV (p : Int × Nat) : Value × Value := (.int .i64 p.1, .pointer (some ⟨p.2, 0, none⟩))
/-- The map holds just these ids, each with its timer's block. -/
def MpAt (w : World) (mb : Nat) (M : List (Int × Nat)) : Prop :=
  ∃ es clock, w.heap[mb]? = some (.map es clock) ∧ Stamped es clock ∧ es.toList.map (fun e => (e.key, e.val)) = M.map keyV
theorem MpAt.lt {w : World} {mb : Nat} {M : List (Int × Nat)} (h : MpAt w mb M) : mb < w.heap.size := by
  obtain ⟨es, clock, h1, _⟩ := h
  exact lt_of_heapT h1
theorem MpAt.same {w w' : World} {mb : Nat} {M : List (Int × Nat)} (h : MpAt w mb M) (he : w'.heap[mb]? = w.heap[mb]?) : MpAt w' mb M := by
  obtain ⟨es, clock, h1, h2⟩ := h
  exact ⟨es, clock, he.trans h1, h2⟩
theorem MpAt.ne {w : World} {mb b : Nat} {M : List (Int × Nat)} {cs : Array Value} {t : TypeId} (h : MpAt w mb M) (hb : w.heap[b]? = some (.cells cs t)) : b ≠ mb := by
  rintro rfl
  obtain ⟨es, clock, h1, _⟩ := h
  rw [h1] at hb
  cases hb
theorem keyV_inj {p q : Int × Nat} (h : (keyV p).1 = (keyV q).1) : p.1 = q.1 := by simpa [keyV] using h
section
variable {es : Array MapEntry} {M : List (Int × Nat)} (hk : es.toList.map (fun e => (e.key, e.val)) = M.map keyV)
include hk
theorem mp_at {j : Nat} {e : MapEntry} (he : es.toList[j]? = some e) : ∃ p, M[j]? = some p ∧ e.key = .int .i64 p.1 ∧ e.val = .pointer (some ⟨p.2, 0, none⟩) := by
  have h : (es.toList.map (fun e => (e.key, e.val)))[j]? = some (e.key, e.val) := by rw [List.getElem?_map, he]; rfl
  rw [hk, List.getElem?_map] at h
  cases hp : M[j]? with
  | none => rw [hp] at h; cases h
  | some p =>
    rw [hp] at h
    simp [keyV] at h
    exact ⟨p, rfl, h.1.symm, h.2.symm⟩
theorem mp_isKey : ∀ e ∈ es.toList, IsKey (.int .i64) e.key := fun e he => by
  obtain ⟨j, hj⟩ := List.mem_iff_getElem?.1 he
  obtain ⟨p, _, h, _⟩ := mp_at hk hj
  rw [h]; rfl
theorem mp_nodup {clock : Nat} (hs : Stamped es clock) : (M.map (·.1)).Nodup := by
  have h := hs.2.2
  have e1 : es.toList.map (·.key) = (M.map keyV).map (·.1) := by rw [← hk, List.map_map]; rfl
  rw [e1, List.map_map, List.Nodup, List.pairwise_map] at h
  rw [List.Nodup, List.pairwise_map]
  exact h.imp fun hne e => hne (by simp [keyV, e])
end
theorem MpAt.nodup {w : World} {mb : Nat} {M : List (Int × Nat)} (h : MpAt w mb M) : (M.map (·.1)).Nodup := by
  obtain ⟨es, clock, h1, h2, h3⟩ := h
  exact mp_nodup h3 h2
theorem nodup_at {M : List (Int × Nat)} (h : (M.map (·.1)).Nodup) {p q : Int × Nat} (hp : p ∈ M) (hq : q ∈ M) (he : p.1 = q.1) : p = q := by
  induction M with
  | nil => cases hp
  | cons a M ih =>
    rw [List.map_cons, List.nodup_cons] at h
    rcases List.mem_cons.1 hp with rfl | hp1 <;> rcases List.mem_cons.1 hq with rfl | hq1
    · rfl
    · exact absurd (List.mem_map.2 ⟨q, hq1, he.symm⟩) h.1
    · exact absurd (List.mem_map.2 ⟨p, hp1, he⟩) h.1
    · exact ih h.2 hp1 hq1
theorem MpAt.look {w : World} {mb : Nat} {M : List (Int × Nat)} (h : MpAt w mb M) {id : Int} {b : Nat} (hm : (id, b) ∈ M) :
    (Instr.lookup 56 (.map (some mb)) (.int .i64 id) true).run Try.prog w = .ok (.tuple #[.pointer (some ⟨b, 0, none⟩), .bool true]) w := by
  have hn := h.nodup
  obtain ⟨es, clock, h1, h2, h3⟩ := h
  have hk : IsKey (.int .i64) (.int .i64 id) := rfl
  rcases findNow_spec hk es.toList 0 (mp_isKey h3) with ⟨f1, f2⟩ | ⟨j, e, f1, f2, f3⟩
  · exfalso
    obtain ⟨j, hj⟩ := List.mem_iff_getElem?.1 hm
    have : (M.map keyV)[j]? = some (keyV (id, b)) := by rw [List.getElem?_map, hj]; rfl
    rw [← h3, List.getElem?_map] at this
    cases he : es.toList[j]? with
    | none => rw [he] at this; cases this
    | some e =>
      rw [he] at this
      simp [keyV] at this
      exact f2 e (List.mem_of_getElem? he) this.1
  · obtain ⟨p, p1, p2, p3⟩ := mp_at h3 f2
    have hp : p = (id, b) := nodup_at hn (List.mem_of_getElem? p1) hm (by rw [p2] at f3; simpa using f3)
    subst hp
    simp [Instr.lookup, run_underlying Try.underlying56, MapKept.run_getObj_map h1, MapKept.run_checkKey Try.underlying3 hk, MapKept.run_findKey Try.underlying3 f1, Result.andThen, p3]
theorem MpAt.lookNo {w : World} {mb : Nat} {M : List (Int × Nat)} (h : MpAt w mb M) {id : Int} (hm : ∀ p ∈ M, p.1 ≠ id) :
    (Instr.lookup 56 (.map (some mb)) (.int .i64 id) true).run Try.prog w = .ok (.tuple #[.pointer none, .bool false]) w := by
  obtain ⟨es, clock, h1, h2, h3⟩ := h
  have hk : IsKey (.int .i64) (.int .i64 id) := rfl
  rcases findNow_spec hk es.toList 0 (mp_isKey h3) with ⟨f1, f2⟩ | ⟨j, e, f1, f2, f3⟩
  · simp [Instr.lookup, run_underlying Try.underlying56, MapKept.run_getObj_map h1, MapKept.run_checkKey Try.underlying3 hk, MapKept.run_findKey Try.underlying3 f1, Result.andThen]
  · exfalso
    obtain ⟨p, p1, p2, p3⟩ := mp_at h3 f2
    exact hm p (List.mem_of_getElem? p1) (by rw [p2] at f3; simpa using f3)
/-- An id that is not there yet is put in. -/
theorem MpAt.upd {w : World} {mb : Nat} {M : List (Int × Nat)} (h : MpAt w mb M) {id : Int} {b : Nat} (hm : ∀ p ∈ M, p.1 ≠ id) :
    ∃ w', (Instr.mapUpdate 56 (.map (some mb)) (.int .i64 id) (.pointer (some ⟨b, 0, none⟩))).run Try.prog w = .ok () w' ∧ MpAt w' mb (M ++ [(id, b)]) ∧ Frm (fun k => k = mb) w w' ∧ w'.heap.size = w.heap.size := by
  obtain ⟨es, clock, h1, h2, h3⟩ := h
  have hk : IsKey (.int .i64) (.int .i64 id) := rfl
  rcases findNow_spec hk es.toList 0 (mp_isKey h3) with ⟨f1, f2⟩ | ⟨j, e, f1, f2, f3⟩
  · refine ⟨{ w with heap := w.heap.setIfInBounds mb (.map (es.push { key := .int .i64 id, val := .pointer (some ⟨b, 0, none⟩), born := clock }) (clock + 1)) }, ?_, ⟨es.push { key := .int .i64 id, val := .pointer (some ⟨b, 0, none⟩), born := clock }, clock + 1, (heap_set h1).1, stamped_push h2 f2, ?_⟩, ⟨rfl, rfl, rfl, by simp, fun k hk hn => (heap_set h1).2 k hn⟩, by simp⟩
    · simp [Instr.mapUpdate, run_underlying Try.underlying56, MapKept.run_getObj_map h1, MapKept.run_checkKey Try.underlying3 hk, MapKept.run_findKey Try.underlying3 f1, MapKept.run_setObj_map _ h1, Result.andThen]
    · simp [h3, keyV]
  · exfalso
    obtain ⟨p, p1, p2, p3⟩ := mp_at h3 f2
    exact hm p (List.mem_of_getElem? p1) (by rw [p2] at f3; simpa using f3)
/-- An id that is there is taken out. -/
theorem MpAt.del {w : World} {mb : Nat} {M : List (Int × Nat)} (h : MpAt w mb M) {id : Int} {b : Nat} (hm : (id, b) ∈ M) (ty : TypeId) :
    ∃ w' M', (Builtin.delete_ #[56, 3] ty #[.map (some mb), .int .i64 id]).run Try.prog w = .ok (.tuple #[]) w' ∧ MpAt w' mb M' ∧ M.Perm ((id, b) :: M') ∧ Frm (fun k => k = mb) w w' ∧ w'.heap.size = w.heap.size := by
  have hn := h.nodup
  obtain ⟨es, clock, h1, h2, h3⟩ := h
  have hk : IsKey (.int .i64) (.int .i64 id) := rfl
  rcases findNow_spec hk es.toList 0 (mp_isKey h3) with ⟨f1, f2⟩ | ⟨j, e, f1, f2, f3⟩
  · exfalso
    obtain ⟨j, hj⟩ := List.mem_iff_getElem?.1 hm
    have : (M.map keyV)[j]? = some (keyV (id, b)) := by rw [List.getElem?_map, hj]; rfl
    rw [← h3, List.getElem?_map] at this
    cases he : es.toList[j]? with
    | none => rw [he] at this; cases this
    | some e =>
      rw [he] at this
      simp [keyV] at this
      exact f2 e (List.mem_of_getElem? he) this.1
  · obtain ⟨p, p1, p2, p3⟩ := mp_at h3 f2
    have hp : p = (id, b) := nodup_at hn (List.mem_of_getElem? p1) hm (by rw [p2] at f3; simpa using f3)
    subst hp
    have hj : j < es.size := by have := (List.getElem?_eq_some_iff.1 f2).1; simpa using this
    have hjM : j < M.length := (List.getElem?_eq_some_iff.1 p1).1
    refine ⟨{ w with heap := w.heap.setIfInBounds mb (.map (es.eraseIdxIfInBounds j) clock) }, M.eraseIdx j, ?_, ⟨es.eraseIdxIfInBounds j, clock, (heap_set h1).1, stamped_erase h2 j, ?_⟩, ?_, ⟨rfl, rfl, rfl, by simp, fun k hk hn => (heap_set h1).2 k hn⟩, by simp⟩
    · simp [Builtin.delete_, run_underlying Try.underlying56, MapKept.run_getObj_map h1, MapKept.run_checkKey Try.underlying3 hk, MapKept.run_findKey Try.underlying3 f1, MapKept.run_setObj_map _ h1, Result.andThen]
    · have : (es.eraseIdxIfInBounds j).toList = es.toList.eraseIdx j := by
        unfold Array.eraseIdxIfInBounds
        rw [dif_pos hj]
        simp
      rw [this, ← eraseIdx_mapT, h3, eraseIdx_mapT]
    · exact eraseIdx_permT M j _ p1
end Go.Proofs.Ytedhjdkhfndinaa
