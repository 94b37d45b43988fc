/- Layer 3 (radix): withKids. -/
import Derived.Test.YtcdfbbjakkmmoaaRConcat
import Derived.Test.YtcdfbbjakkmmoaaRReach
import Derived.Deep.RegionHeld3
namespace Go.Proofs.Ytcdfbbjakkmmoaa
open Go.RowKit
set_option linter.unusedVariables false
variable {R : Rg} {O : Nat → Prop}

theorem sizePN (W : World) : (Go.sizeOf 35).run Try.prog W = .ok 1 W := by
  obtain ⟨i0, hi, hz0, hz1, hz2⟩ := infoOf infoPN
  simp [Go.sizeOf, typeInfo, hi, hz1]

theorem elemPN : Try.prog.elem 65 = 35 := by kernel_rfl
theorem underPN : Try.prog.underlying 65 = some (.slice (Try.prog.elem 65)) := by rw [elemPN]; exact Try.underlying65

def upTo (x : SlV) (q : Nat) : SlV := ⟨x.ao, x.cap, x.ks.take q⟩
def from_ (x : SlV) (q : Nat) : SlV := ⟨if x.cap = q then x.ao else x.ao.map (·.add q), x.cap - q, x.ks.drop q⟩

theorem SlV.At.upTo {w : World} {x : SlV} (h : x.At R w) (q : Nat) : (upTo x q).At R w := by
  refine ⟨fun i hi => ?_, ?_, h.nil⟩
  · simp only [Go.Proofs.Ytcdfbbjakkmmoaa.upTo, List.length_take] at hi
    obtain ⟨b, off, he, hc, hr⟩ := h.kids i (by omega)
    exact ⟨b, off, he, by simpa [Go.Proofs.Ytcdfbbjakkmmoaa.upTo] using hc, hr⟩
  · have := h.room; simp [Go.Proofs.Ytcdfbbjakkmmoaa.upTo]; omega
theorem SlV.At.from_ {w : World} {x : SlV} (h : x.At R w) (q : Nat) : (from_ x q).At R w := by
  refine ⟨fun i hi => ?_, ?_, ?_⟩
  · simp only [Go.Proofs.Ytcdfbbjakkmmoaa.from_, List.length_drop] at hi ⊢
    have hr := h.room
    obtain ⟨b, off, he, hc, hnr⟩ := h.kids (q + i) (by omega)
    refine ⟨b, off + q, ?_, ?_, hnr⟩
    · rw [if_neg (by omega), he]
      have hadd : (⟨b, off, none⟩ : Addr).add q = ⟨b, off + q, none⟩ := by unfold Addr.add; split <;> simp_all
      simp [hadd]
    · rw [Nat.add_assoc, hc]
      simp
  · have := h.room; simp [Go.Proofs.Ytcdfbbjakkmmoaa.from_]; omega
  · simp only [Go.Proofs.Ytcdfbbjakkmmoaa.from_]
    intro e
    split at e
    · omega
    · have : x.ao = none := by simpa using e
      have := h.nil this
      omega

theorem run_upTo (x : SlV) (q : Nat) (hq : q ≤ x.ks.length) (hr : x.ks.length ≤ x.cap) (W : World) : (Instr.slice 65 (.slice x.ao x.ks.length x.cap) none (some (.int .i64 (q : Int))) none).run Try.prog W = .ok (.slice x.ao q x.cap) W := by
  rw [run_slice_h W 65 x.ao x.ks.length x.cap underPN .i64 (q : Int) (by omega) (by omega)]
  rw [elemPN, sizePN]
  simp [sliced, Result.andThen]
  intro _
  · cases x.ao with
    | none => rfl
    | some a => obtain ⟨b, o, s⟩ := a; cases s <;> simp [Addr.add]
theorem run_from (x : SlV) (q : Nat) (i : Int) (hi : i = (q : Int)) (hq : q ≤ x.ks.length) (W : World) : (Instr.slice 65 (.slice x.ao x.ks.length x.cap) (some (.int .i64 i)) none none).run Try.prog W = .ok (.slice (from_ x q).ao (from_ x q).ks.length (from_ x q).cap) W := by
  subst hi
  rw [run_slice_l W 65 x.ao x.ks.length x.cap underPN .i64 (q : Int) (by omega) (by omega)]
  rw [elemPN, sizePN]
  simp [sliced, Result.andThen, from_]

theorem TAt.slv {w : World} {t : Tr} (h : TAt R w t) : ∃ x : SlV, x.ks = t.ks ∧ x.At R w ∧ w.cell? ⟨t.a, 2, none⟩ = some (.slice x.ao x.ks.length x.cap) := by
  obtain ⟨ao, cap, -, -, c2, -, hk, hr, hn⟩ := h.cells
  exact ⟨⟨ao, cap, t.ks⟩, rfl, ⟨hk, hr, hn⟩, c2⟩

/-- A node laid anew. -/
theorem TAt.laid {w' : World} {p : ByteArray} {v : Option Vl} {x : SlV} {a c : Nat} (hb : w'.heap[a]? = some (.cells #[.string p, .pointer (vptr v), x.val, .pointer (some ⟨c + 1, 0, none⟩)] 76))
    (hx : x.At R w') (hv : ∀ y, v = some y → VAt R.old w' y) (hg : WAt w' (c + 1) c false) (hs : ∀ t ∈ x.ks, TAt R w' t) (hp : p.size ≤ 140737488351296) : TAt R w' (.nd a p v x.ks (c + 1)) :=
  .mk hb hx.kids hv hg.wc hs hx.room hx.nil hp

theorem wk_concat (w w1 : World) (y x z : SlV) (q : Nat) (hb1 : Below w.heap.size w w1) (hy : y.At R w) (hx : x.At R w) (hz : ∀ W, y.At R W → z.At R W) (hq : q ≤ y.ks.length) (h1 : y.ks.length ≤ 256) (h2 : x.ks.length ≤ 2) (h3 : z.ks.length ≤ 256) (hR : ∀ b, R b → b < w.heap.size) :
    Calls Try.prog 55 #[.slice (some ⟨w1.heap.size, 0, none⟩) 3 3] (w1.drew.alloc (.cells #[.slice y.ao q y.cap, .slice x.ao x.ks.length x.cap, .slice z.ao z.ks.length z.cap] 65))
      fun e w3 => ∃ r : SlV, e = .returned (.slice r.ao r.ks.length r.cap) ∧ r.ks = y.ks.take q ++ x.ks ++ z.ks ∧ r.At R w3 ∧ Below w1.heap.size w1 w3 := by
  obtain ⟨W, HW⟩ : ∃ W, W = w1.drew.alloc (.cells #[.slice y.ao q y.cap, .slice x.ao x.ks.length x.cap, .slice z.ao z.ks.length z.cap] 65) := ⟨_, rfl⟩
  have hbW : Below w1.heap.size w1 W := by rw [HW]; exact ((Below.refl _ w1).drew).alloc (Nat.le_refl _) _
  have hblk : W.heap[w1.heap.size]? = some (.cells #[.slice y.ao q y.cap, .slice x.ao x.ks.length x.cap, .slice z.ao z.ks.length z.cap] 65) := by rw [HW]; exact heap_alloc_new w1.drew _
  rw [← HW]
  have hyW : y.At R W := (hy.below hb1).below hbW
  have hlen : (y.ks.take q).length = q := by simp; omega
  have := concat_calls w1.heap.size 3 [upTo y q, x, z] W (fun i hi => by
      rw [cell_of_blk hblk]
      match i, hi with
      | 0, _ => simp [upTo, Nat.min_eq_left hq]
      | 1, _ => simp
      | 2, _ => simp
      | n + 3, h => simp at h; omega) (fun v hv => by
      rcases List.mem_cons.1 hv with rfl | hv
      · exact hyW.upTo q
      rcases List.mem_cons.1 hv with rfl | hv
      · exact (hx.below hb1).below hbW
      · simp at hv; subst hv; exact hz W hyW) (by simp [allOf, upTo]; omega) (by simp) (fun b hb => by have h1 := hR b hb; have h2 := hb1.size; have h3 := hbW.size; omega)
  refine this.mono ?_
  rintro e w3 ⟨r, rfl, hr, hA, hb⟩
  exact ⟨r, rfl, by rw [hr]; simp [allOf, upTo], hA, hbW.trans (hb.mono hbW.size)⟩

theorem wk_end {w w1 w3 w4 : World} {t : Tr} {y x z r : SlV} {q q2 : Nat} (hb1 : Below w.heap.size w w1) (hb3 : Below w1.heap.size w1 w3) (hb4 : Below w3.heap.size w3 w4) (hr : r.ks = y.ks.take q ++ x.ks ++ z.ks) (hA : r.At R w3)
    (hn : w4.heap[w3.heap.size + 2]? = some (.cells #[.string t.p, .pointer (vptr t.v), .slice r.ao r.ks.length r.cap, .pointer (some ⟨w3.heap.size + 1, 0, none⟩)] 76)) (hw4 : WAt w4 (w3.heap.size + 1) w3.heap.size false)
    (hv : ∀ z, t.v = some z → VAt R.old w z) (hs : ∀ c ∈ y.ks, TAt R w c) (hx : ∀ c ∈ x.ks, TAt R w c) (hz : ∀ c ∈ z.ks, TAt R w c) (hzk : z.ks = y.ks.drop q2) (hp : t.p.size ≤ 140737488351296) :
    ∃ a' g', Ending.returned (.pointer (some ⟨w3.heap.size + 2, 0, none⟩)) = .returned (.pointer (some ⟨a', 0, none⟩)) ∧ Below w.heap.size w w4 ∧ w.heap.size ≤ a' ∧ w.heap.size ≤ g' ∧ TAt R w4 (.nd a' t.p t.v (y.ks.take q ++ x.ks ++ y.ks.drop q2) g') := by
  have h13 : Below w.heap.size w w3 := hb1.trans (hb3.mono hb1.size)
  have h14 : Below w.heap.size w w4 := h13.trans (hb4.mono h13.size)
  have hsz := h13.size
  refine ⟨w3.heap.size + 2, w3.heap.size + 1, rfl, h14, by omega, by omega, ?_⟩
  rw [← hzk, ← hr]
  refine TAt.laid (c := w3.heap.size) hn (hA.below hb4) (fun y hy => (hv y hy).below h14) hw4 ?_ hp
  intro c hc
  rw [hr] at hc
  simp only [List.mem_append] at hc
  rcases hc with (hc | hc) | hc
  · exact (hs c (List.mem_of_mem_take hc)).keep h14
  · exact (hx c hc).keep h14
  · exact (hz c hc).keep h14

def behindOf (t : Tr) (k : ByteArray) (h : t.p.size < k.size) : Nat := posn t.ks t.p.size k[t.p.size] + if thereB t.ks t.p.size k[t.p.size] then 1 else 0

set_option maxRecDepth 100000 in
set_option maxHeartbeats 1600000 in
theorem withKids_calls (t : Tr) (k : ByteArray) (x : SlV) (w : World) (h : TAt R w t) (hw : WF t) (hk : t.p.size < k.size) (hks : k.size ≤ 140737488351296) (hx : x.At R w) (hxl : x.ks.length ≤ 2) (hxT : ∀ c ∈ x.ks, TAt R w c) (hR : ∀ b, R b → b < w.heap.size) :
    Calls Try.prog 32 #[.pointer (some ⟨t.a, 0, none⟩), .string k, .slice x.ao x.ks.length x.cap] w fun e w' => ∃ a' g', e = .returned (.pointer (some ⟨a', 0, none⟩)) ∧ Below w.heap.size w w' ∧ w.heap.size ≤ a' ∧ w.heap.size ≤ g' ∧
      TAt R w' (.nd a' t.p t.v (t.ks.take (posn t.ks t.p.size k[t.p.size]) ++ x.ks ++ t.ks.drop (behindOf t k hk)) g') := by
  obtain ⟨ao, cap, c0, c1, -, -, -, -, -⟩ := h.cells
  obtain ⟨y, hy, hyA, c2⟩ := h.slv
  have HT := toward_at t k w h hw hk hks
  have ha := h.lt
  have hfew := hw.few
  have hpsz := h.psz'
  have hple := posn_le t.ks t.p.size k[t.p.size]
  have HV : Hid (∀ z, t.v = some z → VAt R.old w z) := h.val'
  have HSUB : Hid (∀ c ∈ t.ks, TAt R w c) := h.sub'
  have HXT : Hid (∀ c ∈ x.ks, TAt R w c) := hxT
  have HXA : Hid (x.At R w) := hx
  have HYA : Hid (y.At R w) := hyA
  cases hth : thereB t.ks t.p.size k[t.p.size] with
  | false =>
    have hbh : behindOf t k hk = posn t.ks t.p.size k[t.p.size] := by unfold behindOf; rw [hth]; rfl
    rw [hbh]
    rw [hth] at HT
    clear hbh hth h hw hyA hxT hx
    revert HT hple
    generalize posn t.ks t.p.size k[t.p.size] = q
    intro HT hple
    rw [← hy] at hple hfew
    have hs1 := run_upTo y q hple HYA.out.room
    have hs2 := run_from y q (q : Int) rfl hple
    rw [← hy]
    rw [← hy] at HSUB
    clear hy
    obtain ⟨z, HZ⟩ : ∃ z, Hid (z = from_ y q) := ⟨_, rfl⟩
    rw [← HZ.out] at hs2
    have HZA : Hid (∀ W, y.At R W → z.At R W) := fun W hW => by rw [HZ.out]; exact hW.from_ q
    have HZK : Hid (z.ks = y.ks.drop q) := by show z.ks = _; rw [HZ.out]; rfl
    go_enter Try.func32, Try.ntmps32
    go_wp2_with fail
    refine HT.mono ?_
    clear HT
    rintro e w1 ⟨rfl, hb1⟩
    have c0' : w1.cell? ⟨t.a, 0, none⟩ = some (.string t.p) := by rw [hb1.cell (by exact ha)]; exact c0
    have c1' : w1.cell? ⟨t.a, 1, none⟩ = some (.pointer (vptr t.v)) := by rw [hb1.cell (by exact ha)]; exact c1
    have c2' : w1.cell? ⟨t.a, 2, none⟩ = some (.slice y.ao y.ks.length y.cap) := by rw [hb1.cell (by exact ha)]; exact c2
    have HB1 : Hid (Below w.heap.size w w1) := hb1
    clear hb1 c0 c1 c2
    have HCC := wk_concat w w1 y x z q HB1.out HYA.out HXA.out HZA.out hple hfew hxl (by rw [HZK.out]; simp; omega) hR
    have ha1 : t.a < w1.heap.size := Nat.lt_of_lt_of_le ha HB1.out.size
    go_wp2
    go_region_held3 (fun W => W.cell? ⟨t.a, 0, none⟩ = some (.string t.p) ∧ W.cell? ⟨t.a, 1, none⟩ = some (.pointer (vptr t.v)) ∧ W.cell? ⟨t.a, 2, none⟩ = some (.slice y.ao y.ks.length y.cap)) (first | (exact q4) | (exact q3) | go_keep)
      (first
        | (go_at_call 55
           refine HCC.mono ?_
           rintro e w3 ⟨r, rfl, hrk, hrA, hb3⟩
           have q3 : w3.cell? ⟨t.a, 0, none⟩ = some (.string t.p) ∧ w3.cell? ⟨t.a, 1, none⟩ = some (.pointer (vptr t.v)) ∧ w3.cell? ⟨t.a, 2, none⟩ = some (.slice y.ao y.ks.length y.cap) := ⟨by rw [hb3.cell (by exact ha1)]; exact c0', by rw [hb3.cell (by exact ha1)]; exact c1', by rw [hb3.cell (by exact ha1)]; exact c2'⟩
           have HR : Hid (r.ks = y.ks.take q ++ x.ks ++ z.ks ∧ r.At R w3 ∧ Below w1.heap.size w1 w3) := ⟨hrk, hrA, hb3⟩
           have ha3 : t.a < w3.heap.size := Nat.lt_of_lt_of_le ha1 hb3.size
           clear HCC hrk hrA hb3)
        | (go_at_call 30
           refine (newNode_calls _ _ _ _ _ _).mono ?_
           rintro e w4 ⟨rfl, hb4, hs4, hn4, hw4⟩
           have q4 : w4.cell? ⟨t.a, 0, none⟩ = some (.string t.p) ∧ w4.cell? ⟨t.a, 1, none⟩ = some (.pointer (vptr t.v)) ∧ w4.cell? ⟨t.a, 2, none⟩ = some (.slice y.ao y.ks.length y.cap) := ⟨by rw [hb4.cell (by exact ha3)]; exact q3.1, by rw [hb4.cell (by exact ha3)]; exact q3.2.1, by rw [hb4.cell (by exact ha3)]; exact q3.2.2⟩
           have HN : Hid (Below w3.heap.size w3 w4 ∧ w4.heap[w3.heap.size + 2]? = some (.cells #[.string t.p, .pointer (vptr t.v), .slice r.ao r.ks.length r.cap, .pointer (some ⟨w3.heap.size + 1, 0, none⟩)] 76) ∧ WAt w4 (w3.heap.size + 1) w3.heap.size false) := ⟨hb4, hn4, hw4⟩
           clear hb4 hs4 hn4 hw4))
    go_wp2
    go_ret
    obtain ⟨hrk, hrA, hb3⟩ := HR.out
    obtain ⟨hb4, hn4, hw4⟩ := HN.out
    exact wk_end HB1.out hb3 hb4 hrk hrA hn4 hw4 HV.out HSUB.out HXT.out (by rw [HZK.out]; exact fun c hc => HSUB.out c (List.mem_of_mem_drop hc)) HZK.out hpsz
  | true =>
    have hbh : behindOf t k hk = posn t.ks t.p.size k[t.p.size] + 1 := by unfold behindOf; rw [hth]; rfl
    obtain ⟨hlt0, -⟩ := there_true hk hth
    rw [hbh]
    rw [hth] at HT
    clear hbh hth h hw hyA hxT hx
    revert HT hple hlt0
    generalize posn t.ks t.p.size k[t.p.size] = q
    intro HT hple hlt0
    rw [← hy] at hple hfew hlt0
    have hs1 := run_upTo y q hple HYA.out.room
    have hs2 := run_from y (q + 1) ((q : Int) + 1) (by omega) hlt0
    rw [← hy]
    rw [← hy] at HSUB
    clear hy
    obtain ⟨z, HZ⟩ : ∃ z, Hid (z = from_ y (q + 1)) := ⟨_, rfl⟩
    rw [← HZ.out] at hs2
    have HZA : Hid (∀ W, y.At R W → z.At R W) := fun W hW => by rw [HZ.out]; exact hW.from_ (q + 1)
    have HZK : Hid (z.ks = y.ks.drop (q + 1)) := by show z.ks = _; rw [HZ.out]; rfl
    go_enter Try.func32, Try.ntmps32
    go_wp2_with fail
    refine HT.mono ?_
    clear HT
    rintro e w1 ⟨rfl, hb1⟩
    have c0' : w1.cell? ⟨t.a, 0, none⟩ = some (.string t.p) := by rw [hb1.cell (by exact ha)]; exact c0
    have c1' : w1.cell? ⟨t.a, 1, none⟩ = some (.pointer (vptr t.v)) := by rw [hb1.cell (by exact ha)]; exact c1
    have c2' : w1.cell? ⟨t.a, 2, none⟩ = some (.slice y.ao y.ks.length y.cap) := by rw [hb1.cell (by exact ha)]; exact c2
    have HB1 : Hid (Below w.heap.size w w1) := hb1
    clear hb1 c0 c1 c2
    have HCC := wk_concat w w1 y x z q HB1.out HYA.out HXA.out HZA.out hple hfew hxl (by rw [HZK.out]; simp; omega) hR
    have ha1 : t.a < w1.heap.size := Nat.lt_of_lt_of_le ha HB1.out.size
    go_wp2
    go_region_held3 (fun W => W.cell? ⟨t.a, 0, none⟩ = some (.string t.p) ∧ W.cell? ⟨t.a, 1, none⟩ = some (.pointer (vptr t.v)) ∧ W.cell? ⟨t.a, 2, none⟩ = some (.slice y.ao y.ks.length y.cap)) (first | (exact q4) | (exact q3) | go_keep)
      (first
        | (go_at_call 55
           refine HCC.mono ?_
           rintro e w3 ⟨r, rfl, hrk, hrA, hb3⟩
           have q3 : w3.cell? ⟨t.a, 0, none⟩ = some (.string t.p) ∧ w3.cell? ⟨t.a, 1, none⟩ = some (.pointer (vptr t.v)) ∧ w3.cell? ⟨t.a, 2, none⟩ = some (.slice y.ao y.ks.length y.cap) := ⟨by rw [hb3.cell (by exact ha1)]; exact c0', by rw [hb3.cell (by exact ha1)]; exact c1', by rw [hb3.cell (by exact ha1)]; exact c2'⟩
           have HR : Hid (r.ks = y.ks.take q ++ x.ks ++ z.ks ∧ r.At R w3 ∧ Below w1.heap.size w1 w3) := ⟨hrk, hrA, hb3⟩
           have ha3 : t.a < w3.heap.size := Nat.lt_of_lt_of_le ha1 hb3.size
           clear HCC hrk hrA hb3)
        | (go_at_call 30
           refine (newNode_calls _ _ _ _ _ _).mono ?_
           rintro e w4 ⟨rfl, hb4, hs4, hn4, hw4⟩
           have q4 : w4.cell? ⟨t.a, 0, none⟩ = some (.string t.p) ∧ w4.cell? ⟨t.a, 1, none⟩ = some (.pointer (vptr t.v)) ∧ w4.cell? ⟨t.a, 2, none⟩ = some (.slice y.ao y.ks.length y.cap) := ⟨by rw [hb4.cell (by exact ha3)]; exact q3.1, by rw [hb4.cell (by exact ha3)]; exact q3.2.1, by rw [hb4.cell (by exact ha3)]; exact q3.2.2⟩
           have HN : Hid (Below w3.heap.size w3 w4 ∧ w4.heap[w3.heap.size + 2]? = some (.cells #[.string t.p, .pointer (vptr t.v), .slice r.ao r.ks.length r.cap, .pointer (some ⟨w3.heap.size + 1, 0, none⟩)] 76) ∧ WAt w4 (w3.heap.size + 1) w3.heap.size false) := ⟨hb4, hn4, hw4⟩
           clear hb4 hs4 hn4 hw4))
    go_wp2
    go_ret
    obtain ⟨hrk, hrA, hb3⟩ := HR.out
    obtain ⟨hb4, hn4, hw4⟩ := HN.out
    exact wk_end HB1.out hb3 hb4 hrk hrA hn4 hw4 HV.out HSUB.out HXT.out (by rw [HZK.out]; exact fun c hc => HSUB.out c (List.mem_of_mem_drop hc)) HZK.out hpsz
end Go.Proofs.Ytcdfbbjakkmmoaa
