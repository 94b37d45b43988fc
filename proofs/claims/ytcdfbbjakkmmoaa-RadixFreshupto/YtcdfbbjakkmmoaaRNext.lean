/- Layer 3 (radix): HasPrefix, next. -/
import Derived.Test.YtcdfbbjakkmmoaaRToward2
namespace Go.Proofs.Ytcdfbbjakkmmoaa
open Go.RowKit
set_option linter.unusedVariables false
variable {R : Rg} {O : Nat → Prop}

theorem extract_take' (s : ByteArray) (k : Nat) : (s.extract 0 k).data.toList = s.data.toList.take k := by
  rw [ByteArray.data_extract]
  simp
theorem extract_drop (s : ByteArray) (k : Nat) : (s.extract k s.size).data.toList = s.data.toList.drop k := by
  rw [ByteArray.data_extract]
  simp
  exact List.take_of_length_le (by simp)

/-- Does s begin with p? -/
def begB (s p : List UInt8) : Bool := p.isPrefixOf s
theorem begB_take (s p : List UInt8) (h : p.length ≤ s.length) : (s.take p.length == p) = begB s p := by
  unfold begB
  rw [Bool.eq_iff_iff, beq_iff_eq, List.isPrefixOf_iff_prefix, List.prefix_iff_eq_take]
  exact ⟨fun e => e.symm, fun e => e.symm⟩
theorem begB_long (s p : List UInt8) (h : ¬ p.length ≤ s.length) : begB s p = false := by
  unfold begB
  rw [Bool.eq_false_iff, ne_eq, List.isPrefixOf_iff_prefix]
  exact fun e => h e.length_le

set_option maxHeartbeats 400000 in
theorem hasPrefixL_calls (s p : ByteArray) (w : World) (hs : s.size ≤ 281474976702464) (hp : p.size ≤ 281474976702464) :
    Calls Try.prog 76 #[.string s, .string p] w fun e w' => e = .returned (.bool (begB s.data.toList p.data.toList)) ∧ w' = w := by
  by_cases h : p.size ≤ s.size
  · have hi : (p.size : Int) ≤ (s.size : Int) := by omega
    have hd : decide ((p.size : Int) ≤ (s.size : Int)) = true := by simpa using h
    go_enter Try.func76, Try.ntmps76
    go_wp2
    go_light
    go_ret
    refine ⟨ret_bool ?_, rfl⟩
    rw [ByteArray.toList_eq, ByteArray.toList_eq, extract_take']
    have := begB_take s.data.toList p.data.toList (by simpa using h)
    simpa using this
  · have hd : decide ((p.size : Int) ≤ (s.size : Int)) = false := by simp; omega
    go_enter Try.func76, Try.ntmps76
    go_wp2
    go_ret
    refine ⟨ret_bool ?_, rfl⟩
    rw [begB_long _ _ (by simpa using h)]

theorem hasPrefix_calls (s p : ByteArray) (w : World) (hs : s.size ≤ 281474976702464) (hp : p.size ≤ 281474976702464) :
    Calls Try.prog 74 #[.string s, .string p] w fun e w' => e = .returned (.bool (begB s.data.toList p.data.toList)) ∧ w' = w := by
  have HH := hasPrefixL_calls s p w hs hp
  clear hs hp
  go_enter Try.func74, Try.ntmps74
  go_wp2_with fail
  refine HH.mono ?_
  clear HH
  rintro e w1 ⟨rfl, rfl⟩
  go_wp2
  go_ret
  exact ⟨rfl, rfl⟩

theorem beg_drop {p c k : List UInt8} (hc : p <+: c) (hk : p <+: k) : begB (k.drop p.length) (c.drop p.length) = begB k c := by
  obtain ⟨c', rfl⟩ := hc
  obtain ⟨k', rfl⟩ := hk
  unfold begB
  rw [Bool.eq_iff_iff, List.isPrefixOf_iff_prefix, List.isPrefixOf_iff_prefix, List.drop_left, List.drop_left, List.prefix_append_right_inj]

def nptr : Option Tr → Option Addr
  | none => none
  | some t => some ⟨t.a, 0, none⟩

theorem nx_end {t : Tr} (h : WF t) {k : List UInt8} (hk : k.length ≤ t.p.size) : nx t k = none := by
  cases hn : nx t k with
  | none => rfl
  | some c =>
    have h1 := nx_mem hn
    have h2 := (h.ext' _ h1.1).2
    have h3 := h1.2.length_le
    rw [path_length] at h3
    omega
theorem getD_key (k : ByteArray) (n : Nat) (h : n < k.size) : k.data.toList.getD n 0 = k[n] := by
  rw [List.getD_eq_getElem?_getD, List.getElem?_eq_getElem (by simpa using h)]
  rfl
theorem there_false {t : Tr} (h : WF t) {k : ByteArray} (hk : t.p.size < k.size) (ht : thereB t.ks t.p.size k[t.p.size] = false) : nx t k.data.toList = none := by
  refine nx_none h ?_
  rw [getD_key k _ hk]
  intro hi hp
  unfold thereB at ht
  rw [List.getElem?_eq_getElem hi] at ht
  have h2 := prefix_getD hp t.p.size (by rw [path_length]; exact (h.ext' _ (List.getElem_mem hi)).2)
  rw [getD_key k _ hk] at h2
  have h3 : t.ks[posn t.ks t.p.size k[t.p.size]].byte t.p.size = k[t.p.size] := h2.symm
  simp [h3] at ht
theorem there_true {t : Tr} {k : ByteArray} (hk : t.p.size < k.size) (ht : thereB t.ks t.p.size k[t.p.size] = true) : ∃ hi : posn t.ks t.p.size k[t.p.size] < t.ks.length, t.ks[posn t.ks t.p.size k[t.p.size]].byte t.p.size = k[t.p.size] := by
  unfold thereB at ht
  rcases Nat.lt_or_ge (posn t.ks t.p.size k[t.p.size]) t.ks.length with hi | hi
  · rw [List.getElem?_eq_getElem hi] at ht
    exact ⟨hi, by simpa using ht⟩
  · rw [List.getElem?_eq_none hi] at ht
    cases ht

set_option maxRecDepth 100000 in
set_option maxHeartbeats 800000 in
theorem next_calls (t : Tr) (k : ByteArray) (w : World) (h : TAt R w t) (hw : WF t) (hp : t.path <+: k.data.toList) (hks : k.size ≤ 140737488351296) :
    Calls Try.prog 63 #[.pointer (some ⟨t.a, 0, none⟩), .string k] w fun e w' => e = .returned (.pointer (nptr (nx t k.data.toList))) ∧ Below w.heap.size w w' := by
  have hnot : ∀ (x : Bool) (w : World), (Op.unary .not (.bool x)).run Try.prog w = .ok (.bool (!x)) w := fun _ _ => rfl
  have hle : t.p.size ≤ k.size := by have := hp.length_le; rw [path_length] at this; simpa using this
  obtain ⟨ao, cap, c0, -, c2, -, hkids, -⟩ := h.cells
  have hpz := h.psz'
  have ha := h.lt
  by_cases he : k.size = t.p.size
  · have HT := toward_end t k w h he
    rw [nx_end hw (by simp; omega)]
    clear h hw hp hkids
    simp only [nptr]
    go_enter Try.func63, Try.ntmps63
    go_wp2_with fail
    refine HT.mono ?_
    clear HT
    rintro e w1 ⟨rfl, hb1⟩
    have c0' : w1.cell? ⟨t.a, 0, none⟩ = some (.string t.p) := by rw [hb1.cell (by exact ha)]; exact c0
    have HB : Hid (Below w.heap.size w w1) := hb1
    clear hb1 c0 c2
    go_wp2
    go_quiet (fail)
    go_wp2
    go_ret
    exact ⟨rfl, ⟨HB.out.os, HB.out.tape, HB.out.output, HB.out.size, HB.out.block⟩⟩
  have hlt : t.p.size < k.size := by omega
  have HT := toward_at t k w h hw hlt hks
  cases hth : thereB t.ks t.p.size k[t.p.size] with
  | false =>
    rw [there_false hw hlt hth]
    rw [hth] at HT
    clear h hw hp hkids hth
    simp only [nptr]
    go_enter Try.func63, Try.ntmps63
    go_wp2_with fail
    refine HT.mono ?_
    clear HT
    rintro e w1 ⟨rfl, hb1⟩
    have c0' : w1.cell? ⟨t.a, 0, none⟩ = some (.string t.p) := by rw [hb1.cell (by exact ha)]; exact c0
    have HB : Hid (Below w.heap.size w w1) := hb1
    clear hb1 c0 c2
    go_wp2
    go_quiet (fail)
    go_wp2
    go_ret
    exact ⟨rfl, ⟨HB.out.os, HB.out.tape, HB.out.output, HB.out.size, HB.out.block⟩⟩
  | true =>
    obtain ⟨hi, hbyte⟩ := there_true hlt hth
    rw [hth] at HT
    have hx := hw.ext' _ (List.getElem_mem hi)
    have hT := h.sub' _ (List.getElem_mem hi)
    have hnx : nx t k.data.toList = if begB k.data.toList t.ks[posn t.ks t.p.size k[t.p.size]].path then some t.ks[posn t.ks t.p.size k[t.p.size]] else none := by
      split
      · rename_i hb
        exact nx_some hw hi (by unfold begB at hb; simpa using hb)
      · rename_i hb
        refine nx_none hw ?_
        rw [getD_key k _ hlt]
        intro _ hq
        exact hb (by unfold begB; simpa using hq)
    rw [hnx]
    have hbd := beg_drop (p := t.path) hx.1 hp
    rw [path_length] at hbd
    have hcp := hT.psz'
    have hsz := hx.2
    obtain ⟨bb, off, rfl, hk0, -⟩ := hkids _ hi
    obtain ⟨-, -, d0, -, -, -, -, -⟩ := hT.cells
    have hda := hT.lt
    have hbl : bb < w.heap.size := World.block_lt_of_cell? w _ hk0
    clear hT h hw hp hkids hth hx hnx hbyte
    revert HT hk0 d0 hda hbd hcp hsz
    revert hi
    generalize posn t.ks t.p.size k[t.p.size] = q
    intro hi
    generalize t.ks[q] = c
    intro HT hbd hcp hsz hk0 d0 hda
    unfold Tr.path at hbd
    rw [← extract_drop, ← extract_drop] at hbd
    have HH := fun W => hasPrefix_calls (k.extract t.p.size k.size) (c.p.extract t.p.size c.p.size) W (by simp [ByteArray.size_extract]; omega) (by simp [ByteArray.size_extract]; omega)
    rw [hbd] at HH
    clear hbd
    cases hb : begB k.data.toList c.p.data.toList with
    | true =>
      rw [hb] at HH
      have hb' : begB k.data.toList c.path = true := hb
      rw [if_pos hb']
      clear hb hb'
      simp only [nptr]
      go_enter Try.func63, Try.ntmps63
      go_wp2_with fail
      refine HT.mono ?_
      clear HT
      rintro e w1 ⟨rfl, hb1⟩
      have c0' : w1.cell? ⟨t.a, 0, none⟩ = some (.string t.p) := by rw [hb1.cell (by exact ha)]; exact c0
      have c2' : w1.cell? ⟨t.a, 2, none⟩ = some (.slice (some ⟨bb, off, none⟩) t.ks.length cap) := by rw [hb1.cell (by exact ha)]; exact c2
      have k0' : w1.cell? ⟨bb, off + q, none⟩ = some (.pointer (some ⟨c.a, 0, none⟩)) := by rw [hb1.cell (by exact hbl)]; exact hk0
      have d0' : w1.cell? ⟨c.a, 0, none⟩ = some (.string c.p) := by rw [hb1.cell (by exact hda)]; exact d0
      have HB : Hid (Below w.heap.size w w1) := hb1
      clear hb1 c0 c2 hk0 d0 hda hbl ha
      go_wp2
      go_quiet ((go_at_call 74; exact Calls.quiet_of_same (HH _)))
      go_wp2
      go_ret
      exact ⟨rfl, ⟨HB.out.os, HB.out.tape, HB.out.output, HB.out.size, HB.out.block⟩⟩
    | false =>
      rw [hb] at HH
      have hb' : ¬ begB k.data.toList c.path = true := by show ¬ begB k.data.toList c.p.data.toList = true; rw [hb]; simp
      rw [if_neg hb']
      clear hb hb'
      simp only [nptr]
      go_enter Try.func63, Try.ntmps63
      go_wp2_with fail
      refine HT.mono ?_
      clear HT
      rintro e w1 ⟨rfl, hb1⟩
      have c0' : w1.cell? ⟨t.a, 0, none⟩ = some (.string t.p) := by rw [hb1.cell (by exact ha)]; exact c0
      have c2' : w1.cell? ⟨t.a, 2, none⟩ = some (.slice (some ⟨bb, off, none⟩) t.ks.length cap) := by rw [hb1.cell (by exact ha)]; exact c2
      have k0' : w1.cell? ⟨bb, off + q, none⟩ = some (.pointer (some ⟨c.a, 0, none⟩)) := by rw [hb1.cell (by exact hbl)]; exact hk0
      have d0' : w1.cell? ⟨c.a, 0, none⟩ = some (.string c.p) := by rw [hb1.cell (by exact hda)]; exact d0
      have HB : Hid (Below w.heap.size w w1) := hb1
      clear hb1 c0 c2 hk0 d0 hda hbl ha
      go_wp2
      go_quiet ((go_at_call 74; exact Calls.quiet_of_same (HH _)))
      go_wp2
      go_ret
      exact ⟨rfl, ⟨HB.out.os, HB.out.tape, HB.out.output, HB.out.size, HB.out.block⟩⟩
end Go.Proofs.Ytcdfbbjakkmmoaa
