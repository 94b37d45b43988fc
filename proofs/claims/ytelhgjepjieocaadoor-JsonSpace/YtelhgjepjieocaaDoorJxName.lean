/- Layer 18 (json): the names that were had; name. -/
import Derived.Test.YtelhgjepjieocaaDoorJxChars
import Derived.MapKept
namespace Go.Proofs.YtelhgjepjieocaaDoor
open Go.RowKit Go.MapKept Go.Sort
set_option linter.unusedVariables false

/-- The map holds just these keys. -/
structure MapAt (w : World) (mb : Nat) (es : Array MapEntry) (clock : Nat) (ks : List ByteArray) : Prop where
  blk : w.heap[mb]? = some (.map es clock)
  st : Stamped es clock
  keys : es.toList.map (·.key) = ks.map Value.string
  vals : ∀ e ∈ es.toList, e.val = .agg #[]
theorem MapAt.below {w w' : World} {mb clock : Nat} {es : Array MapEntry} {ks : List ByteArray} (h : MapAt w mb es clock ks) (hb : Below w.heap.size w w') : MapAt w' mb es clock ks := ⟨(hb.block _ (lt_of_heapT h.blk)).trans h.blk, h.st, h.keys, h.vals⟩
theorem MapAt.isKey {w : World} {mb clock : Nat} {es : Array MapEntry} {ks : List ByteArray} (h : MapAt w mb es clock ks) : ∀ x ∈ es.toList, IsKey .string x.key := fun x hx => by
  have : x.key ∈ ks.map Value.string := by rw [← h.keys]; exact List.mem_map.2 ⟨x, hx, rfl⟩
  obtain ⟨k, _, hk⟩ := List.mem_map.1 this
  rw [← hk]; trivial
theorem MapAt.mem {w : World} {mb clock : Nat} {es : Array MapEntry} {ks : List ByteArray} (h : MapAt w mb es clock ks) (k : ByteArray) : (∃ x ∈ es.toList, x.key = .string k) ↔ k ∈ ks := by
  have : (.string k : Value) ∈ es.toList.map (·.key) ↔ (.string k : Value) ∈ ks.map Value.string := by rw [h.keys]
  simpa using this
theorem MapAt.nodup {w : World} {mb clock : Nat} {es : Array MapEntry} {ks : List ByteArray} (h : MapAt w mb es clock ks) : ks.Nodup := by
  have := h.st.2.2
  rw [h.keys] at this
  rw [List.Nodup, List.pairwise_map] at this
  exact this.imp fun h e => h (by rw [e])
theorem MapAt.look {w : World} {mb clock : Nat} {es : Array MapEntry} {ks : List ByteArray} (h : MapAt w mb es clock ks) (k : ByteArray) (b : Bool) (hb : b = true ↔ k ∈ ks) :
    (Instr.lookup 89 (.map (some mb)) (.string k) true).run Tryd.prog w = .ok (.tuple #[.agg #[], .bool b]) w := by
  have hk : IsKey .string (.string k) := trivial
  rcases findNow_spec hk es.toList 0 h.isKey with ⟨h1, h2⟩ | ⟨j, e, h1, h2, h3⟩
  · have hn : k ∉ ks := fun hm => by
      obtain ⟨x, hx, he⟩ := (h.mem k).2 hm
      exact h2 x hx he
    have hbf : b = false := by
      cases b with
      | false => rfl
      | true => exact absurd (hb.1 rfl) hn
    simp [Instr.lookup, run_underlying Tryd.underlying89, MapKept.run_getObj_map h.blk, MapKept.run_checkKey Tryd.underlying9 hk, MapKept.run_findKey Tryd.underlying9 h1, Result.andThen, hbf]
  · have he : e ∈ es.toList := List.mem_of_getElem? h2
    have hbt : b = true := hb.2 ((h.mem k).1 ⟨e, he, h3⟩)
    simp [Instr.lookup, run_underlying Tryd.underlying89, MapKept.run_getObj_map h.blk, MapKept.run_checkKey Tryd.underlying9 hk, MapKept.run_findKey Tryd.underlying9 h1, Result.andThen, hbt, h.vals e he]
theorem MapAt.frm {S : Nat → Prop} {w w' : World} {mb clock : Nat} {es : Array MapEntry} {ks : List ByteArray} (h : MapAt w mb es clock ks) (hf : Frm S w w') (hn : ¬ S mb) : MapAt w' mb es clock ks := ⟨(hf.block _ (lt_of_heapT h.blk) hn).trans h.blk, h.st, h.keys, h.vals⟩
/-- A key that is not there yet is put in. -/
def mapPut (w : World) (mb : Nat) (es : Array MapEntry) (clock : Nat) (k : ByteArray) : World := { w with heap := w.heap.setIfInBounds mb (.map (es.push { key := .string k, val := .agg #[], born := clock }) (clock + 1)) }
theorem MapAt.upd {w : World} {mb clock : Nat} {es : Array MapEntry} {ks : List ByteArray} (h : MapAt w mb es clock ks) (k : ByteArray) (hn : k ∉ ks) :
    (Instr.mapUpdate 89 (.map (some mb)) (.string k) (.agg #[])).run Tryd.prog w = .ok () (mapPut w mb es clock k) := by
  have hk : IsKey .string (.string k) := trivial
  rcases findNow_spec hk es.toList 0 h.isKey with ⟨h1, h2⟩ | ⟨j, e, h1, h2, h3⟩
  · simp [Instr.mapUpdate, run_underlying Tryd.underlying89, MapKept.run_getObj_map h.blk, MapKept.run_checkKey Tryd.underlying9 hk, MapKept.run_findKey Tryd.underlying9 h1, MapKept.run_setObj_map _ h.blk, Result.andThen]
    rfl
  · exact absurd ((h.mem k).1 ⟨e, List.mem_of_getElem? h2, h3⟩) hn
theorem MapAt.put {w : World} {mb clock : Nat} {es : Array MapEntry} {ks : List ByteArray} (h : MapAt w mb es clock ks) (k : ByteArray) (hn : k ∉ ks) :
    MapAt (mapPut w mb es clock k) mb (es.push { key := .string k, val := .agg #[], born := clock }) (clock + 1) (ks ++ [k]) ∧ Frm (fun k => k = mb) w (mapPut w mb es clock k) := by
  have hlt := lt_of_heapT h.blk
  refine ⟨⟨?_, stamped_push h.st (fun x hx e => hn ((h.mem k).1 ⟨x, hx, e⟩)), ?_, ?_⟩, ⟨rfl, rfl, rfl, by simp [mapPut], fun b _ hb => ?_⟩⟩
  · simp [mapPut, hlt]
  · simp [h.keys]
  · intro e he
    simp at he
    rcases he with he | rfl
    · exact h.vals e (by simpa using he)
    · rfl
  · simp only [mapPut]
    rw [Array.getElem?_setIfInBounds_ne (fun e => hb e.symm)]
def MpAt (w : World) (mb : Nat) (ks : List ByteArray) : Prop := ∃ es clock, MapAt w mb es clock ks
theorem MpAt.frm {S : Nat → Prop} {w w' : World} {mb : Nat} {ks : List ByteArray} (h : MpAt w mb ks) (hf : Frm S w w') (hn : ¬ S mb) : MpAt w' mb ks := by
  obtain ⟨es, c, h⟩ := h
  exact ⟨es, c, h.frm hf hn⟩
theorem MpAt.lt {w : World} {mb : Nat} {ks : List ByteArray} (h : MpAt w mb ks) : mb < w.heap.size := by
  obtain ⟨es, c, h⟩ := h
  exact lt_of_heapT h.blk
/-! ### a name -/
def nmB (t : List UInt8) : ByteArray := ⟨t.toArray⟩
theorem nmB_inj {a b : List UInt8} (h : nmB a = nmB b) : a = b := by
  have := congrArg (fun x : ByteArray => x.data.toList) h
  simpa [nmB] using this
theorem nmB_mem {t : List UInt8} {ns : List (List UInt8)} : nmB t ∈ ns.map nmB ↔ t ∈ ns := by
  constructor
  · intro h
    obtain ⟨x, hx, e⟩ := List.mem_map.1 h
    rw [← nmB_inj e]; exact hx
  · exact fun h => List.mem_map.2 ⟨t, h, rfl⟩
def nameP (ns : List (List UInt8)) (l : List UInt8) : Except Int (List UInt8 × List UInt8) := match textP (spL l) with
  | none => .error 181
  | some (t, r) => if t ∈ ns then .error 183 else if hdN (spL r) = some 58 then .ok (t, (spL r).tail) else .error 181
/-- What name answers. -/
def NmR (w : World) (rb mb : Nat) (s : ByteArray) (ns : List (List UInt8)) (r : Except Int (List UInt8 × List UInt8)) (e : Ending) (w' : World) : Prop :=
  Frm (fun k => k = rb ∨ k = mb) w w' ∧ match r with
  | .ok (t, l') => e = .returned (.tuple #[.string (nmB t), .int .i64 0]) ∧ (∃ n, Rd w' rb s n l') ∧ MpAt w' mb ((ns ++ [t]).map nmB)
  | .error c => e = .returned (.tuple #[.string ⟨#[]⟩, .int .i64 c]) ∧ ∃ l' n, Rd w' rb s n l'
theorem Frm.left {rb mb : Nat} {w w' : World} (h : Frm (fun k => k = rb) w w') : Frm (fun k => k = rb ∨ k = mb) w w' := h.weaken fun _ _ h => .inl h
theorem Frm.right {rb mb : Nat} {w w' : World} (h : Frm (fun k => k = mb) w w') : Frm (fun k => k = rb ∨ k = mb) w w' := h.weaken fun _ _ h => .inr h

set_option maxRecDepth 100000 in
set_option maxHeartbeats 4000000 in
theorem name_calls (w0 w : World) (rb mb n : Nat) (s : ByteArray) (l : List UInt8) (ns : List (List UInt8)) (hb : Bs w0 w rb) (h : Rd w rb s n l) (hm : MpAt w mb (ns.map nmB)) (hne : mb ≠ rb) :
    Calls Tryd.prog 66 #[.pointer (some ⟨rb, 0, none⟩), .map (some mb)] w (NmR w rb mb s ns (nameP ns l)) := by
  have HSK := skip_calls w rb n s l h
  have HM : Hid (MpAt w mb (ns.map nmB)) := hm
  have HBs : Hid (Bs w0 w rb) := hb
  obtain ⟨R, HR⟩ : ∃ R, Hid (R = nameP ns l) := ⟨_, rfl⟩
  rw [← HR.out]
  clear h hb hm
  go_enter Tryd.func66, Tryd.ntmps66
  go_wp2_with fail
  refine HSK.mono ?_
  clear HSK
  rintro e w1 ⟨rfl, ⟨n1, h1⟩, f1⟩
  have HCH := characters_calls w0 w1 rb n1 s (spL l) (HBs.out.frm f1) h1
  have HF1 : Hid (Frm (fun k => k = rb) w w1) := f1
  clear h1 f1
  cases hx : textP (spL l) with
  | none =>
    have HE : Hid (R = .error 181) := by rw [Hid, HR.out, nameP, hx]
    rw [hx] at HCH
    clear hx HR
    go_wp2_with fail
    refine HCH.mono ?_
    clear HCH
    rintro e w2 ⟨rfl, l2, ⟨n2, h2⟩, f2⟩
    go_wp2
    go_ret2
    rw [HE.out]
    exact ⟨(HF1.out.trans f2).left, rfl, l2, n2, h2⟩
  | some p =>
    obtain ⟨t, r⟩ := p
    have HE : Hid (R = if t ∈ ns then .error 183 else if hdN (spL r) = some 58 then .ok (t, (spL r).tail) else .error 181) := by rw [Hid, HR.out, nameP, hx]
    rw [hx] at HCH
    clear hx HR
    go_wp2_with fail
    refine HCH.mono ?_
    clear HCH
    rintro e w2 ⟨rfl, ⟨n2, h2⟩, f2⟩
    have HF2 : Hid (Frm (fun k => k = rb) w w2) := HF1.out.trans f2
    obtain ⟨es, clock, hm2⟩ := HM.out.frm HF2.out hne
    have HR2 : Hid (Rd w2 rb s n2 r) := h2
    clear h2 f2 HF1
    by_cases hin : t ∈ ns
    · have hlk := hm2.look (nmB t) true ⟨fun _ => nmB_mem.2 hin, fun _ => rfl⟩
      have HE2 : Hid (R = .error 183) := by rw [Hid, HE.out, if_pos hin]
      have HM2 : Hid (MapAt w2 mb es clock (ns.map nmB)) := hm2
      have HZ : Hid (NmR w rb mb s ns (.error 183) (.returned (.tuple #[.string ⟨#[]⟩, .int .i64 183])) (w2.alloc (.cells #[] 90))) :=
        ⟨(HF2.out.alloc _).left, rfl, r, n2, HR2.out.below (below_drawsT w2 0 |>.alloc (Nat.le_refl _) _)⟩
      unfold nmB at hlk
      clear hm2 hin HE
      go_wp2
      go_ret2
      rw [HE2.out]
      exact HZ.out
    · have hnk : nmB t ∉ ns.map nmB := fun h => hin (nmB_mem.1 h)
      have hlk := hm2.look (nmB t) false ⟨fun h => (by cases h), fun h => absurd h hnk⟩
      have HE2 : Hid (R = if hdN (spL r) = some 58 then .ok (t, (spL r).tail) else .error 181) := by rw [Hid, HE.out, if_neg hin]
      obtain ⟨w3, Hw3⟩ : ∃ w3, Hid (w3 = w2.alloc (.cells #[] 90)) := ⟨_, rfl⟩
      have hb3 : Below w2.heap.size w2 w3 := by rw [Hw3.out]; exact (Below.refl _ _).alloc (Nat.le_refl _) _
      have hm3 := hm2.below hb3
      have hup := hm3.upd (nmB t) hnk
      obtain ⟨hm4, hf4⟩ := hm3.put (nmB t) hnk
      obtain ⟨w4, Hw4⟩ : ∃ w4, Hid (w4 = mapPut w3 mb es clock (nmB t)) := ⟨_, rfl⟩
      rw [← Hw4.out] at hup hm4 hf4
      have HM4 : Hid (MpAt w4 mb ((ns ++ [t]).map nmB)) := ⟨_, _, by rw [List.map_append]; exact hm4⟩
      have HF4 : Hid (Frm (fun k => k = rb ∨ k = mb) w w4) := ((HF2.out.trans (Frm.ofBelow hb3 _)).left).trans hf4.right
      have HR4 : Hid (Rd w4 rb s n2 r) := (HR2.out.below hb3).frm hf4 (fun e => hne e.symm)
      have HSK := skip_calls w4 rb n2 s r HR4.out
      unfold nmB at hlk hup
      clear hm2 hin HE hnk hb3 hm3 hm4 hf4 Hw4 HF2 HR2
      go_upto_region 8 with fail
      rw [← Hw3.out]
      clear Hw3 hlk
      go_wp2_with fail
      refine HSK.mono ?_
      clear HSK hup
      rintro e w5 ⟨rfl, ⟨n5, h5⟩, f5⟩
      have HTK := take_calls w5 rb n5 s (spL r) 58 58 h5 rfl
      have HF5 : Hid (Frm (fun k => k = rb ∨ k = mb) w w5) := HF4.out.trans f5.left
      have HM5 : Hid (MpAt w5 mb ((ns ++ [t]).map nmB)) := HM4.out.frm f5 hne
      clear h5 f5 HF4 HM4 HR4
      by_cases h58 : hdN (spL r) = some 58
      · have HE3 : Hid (R = .ok (t, (spL r).tail)) := by rw [Hid, HE2.out, if_pos h58]
        rw [tkL_yes h58, decide_eq_true h58] at HTK
        clear h58 HE2
        go_wp2_with fail
        refine HTK.mono ?_
        clear HTK
        rintro e w6 ⟨rfl, hr6, f6⟩
        have HZ : Hid (Frm (fun k => k = rb ∨ k = mb) w w6 ∧ MpAt w6 mb ((ns ++ [t]).map nmB)) := ⟨HF5.out.trans f6.left, HM5.out.frm f6 hne⟩
        go_wp2
        go_ret2
        rw [HE3.out]
        exact ⟨HZ.out.1, rfl, hr6, HZ.out.2⟩
      · have HE3 : Hid (R = .error 181) := by rw [Hid, HE2.out, if_neg h58]
        rw [tkL_no h58, decide_eq_false h58] at HTK
        clear h58 HE2
        go_wp2_with fail
        refine HTK.mono ?_
        clear HTK
        rintro e w6 ⟨rfl, hr6, f6⟩
        have HZ : Hid (Frm (fun k => k = rb ∨ k = mb) w w6) := HF5.out.trans f6.left
        go_wp2
        go_ret2
        rw [HE3.out]
        exact ⟨HZ.out, rfl, _, hr6⟩
end Go.Proofs.YtelhgjepjieocaaDoor
