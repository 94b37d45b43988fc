import Derived.Test.YtcdfbbjakkmmoaaRToward2
/- Layer 3 (radix): HasPrefix, next. -/
namespace Go.Proofs.Ytcdfbbjakkmmoaa
open Go.RowKit
set_option linter.unusedVariables false
variable {R : Rg} {O : Nat → Prop}

theorem extract_take' (s : ByteArray) (k : Nat) : (s.extract 0 k).data.toList = s.data.toList.take k := by
  rw [ByteArray.data_extract]
  simp
theorem extract_drop (s : ByteArray) (k : Nat) : (s.extract k s.size).data.toList = s.data.toList.drop k := by
  rw [ByteArray.data_extract]
  simp
  exact List.take_of_length_le (by simp)

/-- Does s begin with p? -/
def begB (s p : List UInt8) : Bool := p.isPrefixOf s
theorem begB_take (s p : List UInt8) (h : p.length ≤ s.length) : (s.take p.length == p) = begB s p := by
  unfold begB
  rw [Bool.eq_iff_iff, beq_iff_eq, List.isPrefixOf_iff_prefix, List.prefix_iff_eq_take]
  exact ⟨fun e => e.symm, fun e => e.symm⟩
theorem begB_long (s p : List UInt8) (h : ¬ p.length ≤ s.length) : begB s p = false := by
  unfold begB
  rw [Bool.eq_false_iff, ne_eq, List.isPrefixOf_iff_prefix]
  exact fun e => h e.length_le

set_option maxHeartbeats 400000 in
theorem hasPrefixL_calls (s p : ByteArray) (w : World) (hs : s.size ≤ 281474976702464) (hp : p.size ≤ 281474976702464) :
    Calls Try.prog 76 #[.string s, .string p] w fun e w' => e = .returned (.bool (begB s.data.toList p.data.toList)) ∧ w' = w := by
  by_cases h : p.size ≤ s.size
  · have hi : (p.size : Int) ≤ (s.size : Int) := by omega
    have hd : decide ((p.size : Int) ≤ (s.size : Int)) = true := by simpa using h
    go_enter Try.func76, Try.ntmps76
    go_wp2
    go_light
    go_ret
    refine ⟨ret_bool ?_, rfl⟩
    rw [ByteArray.toList_eq, ByteArray.toList_eq, extract_take']
    have := begB_take s.data.toList p.data.toList (by simpa using h)
    simpa using this
  · have hd : decide ((p.size : Int) ≤ (s.size : Int)) = false := by simp; omega
    go_enter Try.func76, Try.ntmps76
    go_wp2
    go_ret
    refine ⟨ret_bool ?_, rfl⟩
    rw [begB_long _ _ (by simpa using h)]

theorem hasPrefix_calls (s p : ByteArray) (w : World) (hs : s.size ≤ 281474976702464) (hp : p.size ≤ 281474976702464) :
    Calls Try.prog 74 #[.string s, .string p] w fun e w' => e = .returned (.bool (begB s.data.toList p.data.toList)) ∧ w' = w := by
  have HH := hasPrefixL_calls s p w hs hp
  clear hs hp
  go_enter Try.func74, Try.ntmps74
  go_wp2_with fail
  refine HH.mono ?_
  clear HH
  rintro e w1 ⟨rfl, rfl⟩
  go_wp2
  go_ret
  exact ⟨rfl, rfl⟩

theorem beg_drop {p c k : List UInt8} (hc : p <+: c) (hk : p <+: k) : begB (k.drop p.length) (c.drop p.length) = begB k c := by
  obtain ⟨c', rfl⟩ := hc
  obtain ⟨k', rfl⟩ := hk
  unfold begB
  rw [Bool.eq_iff_iff, List.isPrefixOf_iff_prefix, List.isPrefixOf_iff_prefix, List.drop_left, List.drop_left, List.prefix_append_right_inj]

def nptr : Option Tr → Option Addr
  | none => none
  | some t => some ⟨t.a, 0, none⟩

theorem nx_end {t : Tr} (h : WF t) {k : List UInt8} (hk : k.length ≤ t.p.size) : nx t k = none := by
  cases hn : nx t k with
  | none => rfl
  | some c =>
    have h1 := nx_mem hn
    have h2 := (h.ext' _ h1.1).2
    have h3 := h1.2.length_le
    rw [path_length] at h3
    omega
theorem getD_key (k : ByteArray) (n : Nat) (h : n < k.size) : k.data.toList.getD n 0 = k[n] := by
  rw [List.getD_eq_getElem?_getD, List.getElem?_eq_getElem (by simpa using h)]
  rfl
theorem there_false {t : Tr} (h : WF t) {k : ByteArray} (hk : t.p.size < k.size) (ht : thereB t.ks t.p.size k[t.p.size] = false) : nx t k.data.toList = none := by
  refine nx_none h ?_
  rw [getD_key k _ hk]
  intro hi hp
  unfold thereB at ht
  rw [List.getElem?_eq_getElem hi] at ht
  have h2 := prefix_getD hp t.p.size (by rw [path_length]; exact (h.ext' _ (List.getElem_mem hi)).2)
  rw [getD_key k _ hk] at h2
  have h3 : t.ks[posn t.ks t.p.size k[t.p.size]].byte t.p.size = k[t.p.size] := h2.symm
  simp [h3] at ht
theorem there_true {t : Tr} {k : ByteArray} (hk : t.p.size < k.size) (ht : thereB t.ks t.p.size k[t.p.size] = true) : ∃ hi : posn t.ks t.p.size k[t.p.size] < t.ks.length, t.ks[posn t.ks t.p.size k[t.p.size]].byte t.p.size = k[t.p.size] := by
  unfold thereB at ht
  rcases Nat.lt_or_ge (posn t.ks t.p.size k[t.p.size]) t.ks.length with hi | hi
  · rw [List.getElem?_eq_getElem hi] at ht
    exact ⟨hi, by simpa using ht⟩
  · rw [List.getElem?_eq_none hi] at ht
    cases ht

set_option maxRecDepth 100000 in
set_option maxHeartbeats 800000 in
theorem next_calls (t : Tr) (k : ByteArray) (w : World) (h : TAt R w t) (hw : WF t) (hp : t.path <+: k.data.toList) (hks : k.size ≤ 140737488351296) :
    Calls Try.prog 63 #[.pointer (some ⟨t.a, 0, none⟩), .string k] w fun e w' => e = .returned (.pointer (nptr (nx t k.data.toList))) ∧ Below w.heap.size w w' := by
  have hnot : ∀ (x : Bool) (w : World), (Op.unary .not (.bool x)).run Try.prog w = .ok (.bool (!x)) w := fun _ _ => rfl
  have hle : t.p.size ≤ k.size := by have := hp.length_le; rw [path_length] at this; simpa using this
  obtain ⟨ao, cap, c0, -, c2, -, hkids, -⟩ := h.cells
  have hpz := h.psz'
  have ha := h.lt
  by_cases he : k.size = t.p.size
  · have HT := toward_end t k w h he
    rw [nx_end hw (by simp; omega)]
    clear h hw hp hkids
    simp only [nptr]
    go_enter Try.func63, Try.ntmps63
    go_wp2_with fail
    refine HT.mono ?_
    clear HT
    rintro e w1 ⟨rfl, hb1⟩
    have c0' : w1.cell? ⟨t.a, 0, none⟩ = some (.string t.p) := by rw [hb1.cell (by exact ha)]; exact c0
    have HB : Hid (Below w.heap.size w w1) := hb1
    clear hb1 c0 c2
    go_wp2
    go_quiet (fail)
    go_wp2
    go_ret
    exact ⟨rfl, ⟨HB.out.os, HB.out.tape, HB.out.output, HB.out.size, HB.out.block⟩⟩
  have hlt : t.p.size < k.size := by omega
  have HT := toward_at t k w h hw hlt hks
  cases hth : thereB t.ks t.p.size k[t.p.size] with
  | false =>
    rw [there_false hw hlt hth]
    rw [hth] at HT
    clear h hw hp hkids hth
    simp only [nptr]
    go_enter Try.func63, Try.ntmps63
    go_wp2_with fail
    refine HT.mono ?_
    clear HT
    rintro e w1 ⟨rfl, hb1⟩
    have c0' : w1.cell? ⟨t.a, 0, none⟩ = some (.string t.p) := by rw [hb1.cell (by exact ha)]; exact c0
    have HB : Hid (Below w.heap.size w w1) := hb1
    clear hb1 c0 c2
    go_wp2
    go_quiet (fail)
    go_wp2
    go_ret
    exact ⟨rfl, ⟨HB.out.os, HB.out.tape, HB.out.output, HB.out.size, HB.out.block⟩⟩
  | true =>
    obtain ⟨hi, hbyte⟩ := there_true hlt hth
    rw [hth] at HT
    have hx := hw.ext' _ (List.getElem_mem hi)
    have hT := h.sub' _ (List.getElem_mem hi)
    have hnx : nx t k.data.toList = if begB k.data.toList t.ks[posn t.ks t.p.size k[t.p.size]].path then some t.ks[posn t.ks t.p.size k[t.p.size]] else none := by
      split
      · rename_i hb
        exact nx_some hw hi (by unfold begB at hb; simpa using hb)
      · rename_i hb
        refine nx_none hw ?_
        rw [getD_key k _ hlt]
        intro _ hq
        exact hb (by unfold begB; simpa using hq)
    rw [hnx]
    have hbd := beg_drop (p := t.path) hx.1 hp
    rw [path_length] at hbd
    have hcp := hT.psz'
    have hsz := hx.2
    obtain ⟨bb, off, rfl, hk0, -⟩ := hkids _ hi
    obtain ⟨-, -, d0, -, -, -, -, -⟩ := hT.cells
    have hda := hT.lt
    have hbl : bb < w.heap.size := World.block_lt_of_cell? w _ hk0
    clear hT h hw hp hkids hth hx hnx hbyte
    revert HT hk0 d0 hda hbd hcp hsz
    revert hi
    generalize posn t.ks t.p.size k[t.p.size] = q
    intro hi
    generalize t.ks[q] = c
    intro HT hbd hcp hsz hk0 d0 hda
    unfold Tr.path at hbd
    rw [← extract_drop, ← extract_drop] at hbd
    have HH := fun W => hasPrefix_calls (k.extract t.p.size k.size) (c.p.extract t.p.size c.p.size) W (by simp [ByteArray.size_extract]; omega) (by simp [ByteArray.size_extract]; omega)
    rw [hbd] at HH
    clear hbd
    cases hb : begB k.data.toList c.p.data.toList with
    | true =>
      rw [hb] at HH
      have hb' : begB k.data.toList c.path = true := hb
      rw [if_pos hb']
      clear hb hb'
      simp only [nptr]
      go_enter Try.func63, Try.ntmps63
      go_wp2_with fail
      refine HT.mono ?_
      clear HT
      rintro e w1 ⟨rfl, hb1⟩
      have c0' : w1.cell? ⟨t.a, 0, none⟩ = some (.string t.p) := by rw [hb1.cell (by exact ha)]; exact c0
      have c2' : w1.cell? ⟨t.a, 2, none⟩ = some (.slice (some ⟨bb, off, none⟩) t.ks.length cap) := by rw [hb1.cell (by exact ha)]; exact c2
      have k0' : w1.cell? ⟨bb, off + q, none⟩ = some (.pointer (some ⟨c.a, 0, none⟩)) := by rw [hb1.cell (by exact hbl)]; exact hk0
      have d0' : w1.cell? ⟨c.a, 0, none⟩ = some (.string c.p) := by rw [hb1.cell (by exact hda)]; exact d0
      have HB : Hid (Below w.heap.size w w1) := hb1
      clear hb1 c0 c2 hk0 d0 hda hbl ha
      go_wp2
      go_quiet ((go_at_call 74; exact Calls.quiet_of_same (HH _)))
      go_wp2
      go_ret
      exact ⟨rfl, ⟨HB.out.os, HB.out.tape, HB.out.output, HB.out.size, HB.out.block⟩⟩
    | false =>
      rw [hb] at HH
      have hb' : ¬ begB k.data.toList c.path = true := by show ¬ begB k.data.toList c.p.data.toList = true; rw [hb]; simp
      rw [if_neg hb']
      clear hb hb'
      simp only [nptr]
      go_enter Try.func63, Try.ntmps63
      go_wp2_with fail
      refine HT.mono ?_
      clear HT
      rintro e w1 ⟨rfl, hb1⟩
      have c0' : w1.cell? ⟨t.a, 0, none⟩ = some (.string t.p) := by rw [hb1.cell (by exact ha)]; exact c0
      have c2' : w1.cell? ⟨t.a, 2, none⟩ = some (.slice (some ⟨bb, off, none⟩) t.ks.length cap) := by rw [hb1.cell (by exact ha)]; exact c2
      have k0' : w1.cell? ⟨bb, off + q, none⟩ = some (.pointer (some ⟨c.a, 0, none⟩)) := by rw [hb1.cell (by exact hbl)]; exact hk0
      have d0' : w1.cell? ⟨c.a, 0, none⟩ = some (.string c.p) := by rw [hb1.cell (by exact hda)]; exact d0
      have HB : Hid (Below w.heap.size w w1) := hb1
      clear hb1 c0 c2 hk0 d0 hda hbl ha
      go_wp2
      go_quiet ((go_at_call 74; exact Calls.quiet_of_same (HH _)))
      go_wp2
      go_ret
      exact ⟨rfl, ⟨HB.out.os, HB.out.tape, HB.out.output, HB.out.size, HB.out.block⟩⟩
end Go.Proofs.Ytcdfbbjakkmmoaa

/- Layer 3 (radix): along, with whatever closure. -/
namespace Go.Proofs.Ytcdfbbjakkmmoaa
open Go.RowKit
set_option linter.unusedVariables false
variable {R : Rg} {O : Nat → Prop}

theorem along_tat {w : World} {t : Tr} {k : List UInt8} {l : List Tr} (h : Along k t l) (ht : TAt R w t) : ∀ c ∈ l, TAt R w c := by
  induction h with
  | stop h => simpa using ht
  | go h r ih =>
    intro c hc
    rcases List.mem_cons.1 hc with rfl | hc
    · exact ht
    · exact ih (ht.sub' _ (nx_mem h).1) c hc

/-- How much of the key lies beneath the node. -/
def leftOf (k : ByteArray) (n : Value) (w : World) : Nat := match n with
  | .pointer (some a) => match w.cell? a with
    | some (.string s) => k.size + 1 - s.size
    | _ => 0
  | _ => 0
theorem leftOf_at {k : ByteArray} {w : World} {t : Tr} (h : TAt R w t) : leftOf k (.pointer (some ⟨t.a, 0, none⟩)) w = k.size + 1 - t.p.size := by
  obtain ⟨-, -, c0, -, -, -, -, -⟩ := h.cells
  simp [leftOf, c0]

set_option maxRecDepth 100000 in
set_option maxHeartbeats 800000 in
theorem along_calls (fid : Nat) (hcf : ∀ args W, (callFunc fid args).run Try.prog W = .ok (.enter fid args) W) (cv : Value) (t : Tr) (k : ByteArray) (l : List Tr) (I : Nat → World → Prop) (w : World) (hA : Along k.data.toList t l) (hw : WF t) (hp : t.path <+: k.data.toList) (hks : k.size ≤ 140737488351296)
    (h0 : I 0 w) (hI : ∀ i W W', I i W → Below W.heap.size W W' → I i W') (hT : ∀ i W, I i W → TAt R W t)
    (hstep : ∀ i (hi : i < l.length) W, I i W → TAt R W l[i] → Calls Try.prog fid #[.pointer (some ⟨l[i].a, 0, none⟩), cv] W fun e W' => e = .returned (.tuple #[]) ∧ I (i + 1) W') :
    Calls Try.prog 47 #[.pointer (some ⟨t.a, 0, none⟩), .string k, .func (.func fid) #[] #[cv]] w fun e w' => e = .returned (.tuple #[]) ∧ I l.length w' := by
  have hin := hA.inc hw
  have hpre := hA.pre hp
  have hwf := hA.wf hw
  have hst := hA.step
  have htat := fun W (h : TAt R W t) => along_tat hA h
  obtain ⟨r, hr⟩ := hA.head
  have hl0 : 0 < l.length := by rw [hr]; simp
  have hh0 : l[0] = t := by subst hr; rfl
  have H0 : Hid (I 0 w) := h0
  have HI : Hid (∀ i W W', I i W → Below W.heap.size W W' → I i W') := hI
  have HT : Hid (∀ i W, I i W → ∀ c ∈ l, TAt R W c) := fun i W h => htat W (hT i W h)
  have HST : Hid (∀ i (hi : i < l.length), nx l[i] k.data.toList = l[i + 1]?) := hst
  have HIN : Hid ((l.map (·.p.size)).Pairwise (· < ·)) := hin.1
  have HPRE : Hid (∀ c ∈ l, c.path <+: k.data.toList) := hpre
  have HWF : Hid (∀ c ∈ l, WF c) := hwf
  have HS : Hid (∀ i (hi : i < l.length) W, I i W → TAt R W l[i] → Calls Try.prog fid #[.pointer (some ⟨l[i].a, 0, none⟩), cv] W fun e W' => e = .returned (.tuple #[]) ∧ I (i + 1) W') := hstep
  have hh0' : t.a = l[0].a := by rw [hh0]
  rw [hh0']
  clear hin hpre hwf hst htat hr r hh0 hh0' h0 hI hT hA hw hp hstep
  clear t
  go_enter Try.func47, Try.ntmps47
  go_wp2
  go_loopw [0] (fun n wr => ∃ i : Nat, i ≤ l.length ∧ n = .pointer (nptr l[i]?) ∧ Hid (I i wr)) (fun n wr => leftOf k n wr)
  case atStart => exact ⟨0, Nat.zero_le _, by rw [List.getElem?_eq_getElem hl0]; rfl, H0⟩
  case round =>
    obtain ⟨i, hi, rfl, HJ⟩ := hrel
    by_cases hlt : i < l.length
    · rw [List.getElem?_eq_getElem hlt]
      simp only [nptr]
      have hmem := List.getElem_mem hlt
      have HC := HS.out i hlt wr HJ.out (HT.out i wr HJ.out _ hmem)
      have hle : l[i].p.size ≤ k.size := by have := (HPRE.out _ hmem).length_le; rw [path_length] at this; simpa using this
      have HM : Hid (leftOf k (.pointer (some ⟨l[i].a, 0, none⟩)) wr = k.size + 1 - l[i].p.size) := leftOf_at (HT.out i wr HJ.out _ hmem)
      go_wp2_with fail
      refine HC.mono ?_
      clear HC
      rintro e w1 ⟨rfl, hJ1⟩
      have HN := next_calls l[i] k w1 (HT.out _ w1 hJ1 _ hmem) (HWF.out _ hmem) (HPRE.out _ hmem) hks
      rw [HST.out i hlt] at HN
      have HJ1 : Hid (I (i + 1) w1) := hJ1
      clear hJ1 HJ
      go_wp2_with fail
      refine HN.mono ?_
      clear HN
      rintro e w2 ⟨rfl, hb2⟩
      have HJ2 : Hid (I (i + 1) w2) := HI.out _ _ _ HJ1.out hb2
      clear hb2 HJ1
      go_wp2
      go_roundw
      case rel => exact ⟨i + 1, by omega, rfl, HJ2⟩
      case measure =>
        rw [HM.out]
        by_cases h1 : i + 1 < l.length
        · have hlt2 := List.pairwise_iff_getElem.1 HIN.out i (i + 1) (by simpa using hlt) (by simpa using h1) (by omega)
          simp only [List.getElem_map] at hlt2
          rw [List.getElem?_eq_getElem h1]
          simp only [nptr]
          rw [leftOf_at (HT.out _ w2 HJ2.out _ (List.getElem_mem h1))]
          omega
        · rw [List.getElem?_eq_none (by omega)]
          simp only [nptr, leftOf]
          omega
    · have hil : i = l.length := by omega
      subst hil
      rw [List.getElem?_eq_none (Nat.le_refl _)]
      simp only [nptr]
      go_wp2
      go_end0
      exact ⟨rfl, HJ.out⟩
end Go.Proofs.Ytcdfbbjakkmmoaa

/- Layer 3 (radix): reach, way, valueOf. -/
namespace Go.Proofs.Ytcdfbbjakkmmoaa
open Go.RowKit
set_option linter.unusedVariables false
variable {R : Rg} {O : Nat → Prop}

theorem enters_way (args : Array Value) (W : World) : (callFunc 51 args).run Try.prog W = .ok (.enter 51 args) W := by
  have := Try.func51
  go_simp
theorem enters_reach (args : Array Value) (W : World) : (callFunc 64 args).run Try.prog W = .ok (.enter 64 args) W := by
  have := Try.func64
  go_simp

theorem reachK_calls (u : Option Addr) (b : Nat) (x : Value) (w : World) (hb : w.heap[b]? = some (.cells #[x] 35)) :
    Calls Try.prog 64 #[.pointer u, .pointer (some ⟨b, 0, none⟩)] w fun e w' => e = .returned (.tuple #[]) ∧ w' = w.setCell ⟨b, 0, none⟩ (.pointer u) := by
  have c0 : w.cell? ⟨b, 0, none⟩ = some x := by rw [cell_of_blk hb]; rfl
  have z0 : w.frozen? ⟨b, 0, none⟩ = false := frozen_of_blk hb
  clear hb
  go_enter Try.func64, Try.ntmps64
  go_wp2
  go_end0
  exact ⟨rfl, rfl⟩

/-- What reach holds between two nodes. -/
structure RI (w : World) (l : List Tr) (hl : 0 < l.length) (i : Nat) (W : World) : Prop where
  below : Below w.heap.size w W
  box : W.heap[w.heap.size]? = some (.cells #[.pointer (some ⟨(l[i - 1]?.getD l[0]).a, 0, none⟩)] 35)

set_option maxRecDepth 100000 in
theorem reach_calls (t : Tr) (k : ByteArray) (w : World) (init : List Tr) (c : Tr) (hA : Along k.data.toList t (init ++ [c])) (h : TAt R w t) (hw : WF t) (hp : t.path <+: k.data.toList) (hks : k.size ≤ 140737488351296) :
    Calls Try.prog 50 #[.pointer (some ⟨t.a, 0, none⟩), .string k] w fun e w' => e = .returned (.pointer (some ⟨c.a, 0, none⟩)) ∧ Below w.heap.size w w' := by
  have hmf : ∀ (fn : Fn) (first cap : Array Value) (w : World), (Instr.makeFunc fn first cap).run Try.prog w = .ok (.func fn first cap) w := fun _ _ _ _ => rfl
  have hl : 0 < (init ++ [c]).length := by simp
  have hh0 : (init ++ [c])[0] = t := by obtain ⟨r, hr⟩ := hA.head; simp only [hr]; rfl
  obtain ⟨w1, HW1⟩ : ∃ w1, Hid (w1 = w.alloc (.cells #[.pointer (some ⟨t.a, 0, none⟩)] 35)) := ⟨_, rfl⟩
  have hb1 : Below w.heap.size w w1 := by rw [HW1.out]; exact (Below.refl _ _).alloc (Nat.le_refl _) _
  have hbox : w1.heap[w.heap.size]? = some (.cells #[.pointer (some ⟨t.a, 0, none⟩)] 35) := by rw [HW1.out]; exact heap_alloc_new w _
  have HA := along_calls 64 enters_reach (.pointer (some ⟨w.heap.size, 0, none⟩)) t k (init ++ [c]) (RI w (init ++ [c]) hl) w1 hA hw hp hks
    ⟨hb1, by rw [hbox]; simp [hh0]⟩
    (fun i W W' hi hb => ⟨hi.below.trans (hb.mono hi.below.size), by rw [hb.block _ (lt_of_heap hi.box)]; exact hi.box⟩)
    (fun i W hi => h.keep hi.below)
    (fun i hi W hI _ => (reachK_calls _ _ _ W hI.box).mono (by
      rintro e W' ⟨rfl, rfl⟩
      refine ⟨rfl, hI.below.setCell (Nat.le_refl _) _, ?_⟩
      rw [setCell_blk hI.box]
      simp [List.getElem?_eq_getElem hi]))
  clear hA h hw hp hbox hb1
  go_enter Try.func50, Try.ntmps50
  go_wp2_with fail
  rw [← HW1.out]
  refine HA.mono ?_
  clear HA
  rintro e w2 ⟨rfl, hI⟩
  have c0 : w2.cell? ⟨w.heap.size, 0, none⟩ = some (.pointer (some ⟨c.a, 0, none⟩)) := by rw [cell_of_blk hI.box]; simp
  have HB : Hid (Below w.heap.size w w2) := hI.below
  clear hI
  go_wp2
  go_ret
  exact ⟨rfl, HB.out⟩

/-- The value of k at the last node along it. -/
def valAt (c : Tr) (k : ByteArray) : Option Vl := if c.p.size < k.size then none else c.v

theorem valueOf_calls (t : Tr) (k : ByteArray) (w : World) (init : List Tr) (c : Tr) (hA : Along k.data.toList t (init ++ [c])) (h : TAt R w t) (hw : WF t) (hp : t.path <+: k.data.toList) (hks : k.size ≤ 140737488351296) :
    Calls Try.prog 28 #[.pointer (some ⟨t.a, 0, none⟩), .string k] w fun e w' => e = .returned (.pointer (vptr (valAt c k))) ∧ Below w.heap.size w w' := by
  have HR := reach_calls t k w init c hA h hw hp hks
  have hT := along_tat hA h c (by simp)
  obtain ⟨ao, cap, c0, c1, -, -, -, -⟩ := hT.cells
  have hpz := hT.psz'
  have ha := hT.lt
  clear hA h hw hp hT
  by_cases hlt : c.p.size < k.size
  · have e : valAt c k = none := by unfold valAt; rw [if_pos hlt]
    rw [e]
    clear e
    simp only [vptr]
    go_enter Try.func28, Try.ntmps28
    go_wp2_with fail
    refine HR.mono ?_
    clear HR
    rintro e w1 ⟨rfl, hb1⟩
    have c0' : w1.cell? ⟨c.a, 0, none⟩ = some (.string c.p) := by rw [hb1.cell (by exact ha)]; exact c0
    have HB : Hid (Below w.heap.size w w1) := hb1
    clear hb1 c0 c1
    go_wp2
    go_ret
    exact ⟨rfl, HB.out⟩
  · have e : valAt c k = c.v := by unfold valAt; rw [if_neg hlt]
    rw [e]
    clear e
    go_enter Try.func28, Try.ntmps28
    go_wp2_with fail
    refine HR.mono ?_
    clear HR
    rintro e w1 ⟨rfl, hb1⟩
    have c0' : w1.cell? ⟨c.a, 0, none⟩ = some (.string c.p) := by rw [hb1.cell (by exact ha)]; exact c0
    have c1' : w1.cell? ⟨c.a, 1, none⟩ = some (.pointer (vptr c.v)) := by rw [hb1.cell (by exact ha)]; exact c1
    have HB : Hid (Below w.heap.size w w1) := hb1
    clear hb1 c0 c1
    go_wp2
    go_ret
    exact ⟨rfl, HB.out⟩
end Go.Proofs.Ytcdfbbjakkmmoaa
