/- Layer 6 (schema): SchemaApart. -/
import Derived.Test.YtbpmahchinblhaaDoorSApS
import Derived.Test.YtbpmahchinblhaaDoorSApG
import Derived.Test.YtbpmahchinblhaaDoorSNames
import Derived.Test.YtbpmahchinblhaaDoorSGen
import Derived.Test.YtbpmahchinblhaaDoorSRParse
namespace Go.Proofs.YtbpmahchinblhaaDoor
open Go.RowKit
set_option linter.unusedVariables false
set_option linter.unusedSimpArgs false

theorem KindsAt.next {w w' : World} (h : KindsAt w) (hb : Below w.heap.size w w') : KindsAt w' := (h.fr (Fr.ofBelow hb (Nat.le_refl _)) (World.block_lt_of_cell? w _ h.c0))
theorem cell_next {w w' : World} {a : Addr} {v : Value} (h : w.cell? a = some v) (hb : Below w.heap.size w w') : w'.cell? a = some v := by rw [hb.cell (by exact World.block_lt_of_cell? w _ h)]; exact h

/-- What Parse answers of a text: its tables (none with an error), and the error. -/
def PA (text : ByteArray) : List Tb := match parseP text with | .ok us => us | .error _ => []
def EA (text : ByteArray) : Int := match parseP text with | .ok _ => 0 | .error (_, c) => c
/-- Parse, with an error and without one. -/
def AllP (w : World) (text : ByteArray) (e : Ending) (w' : World) : Prop := ∃ ao cap ts l, e = .returned (.tuple #[.agg #[.slice ao (List.length (α := TV) ts) cap], .int .i64 l, .int .i64 (EA text)]) ∧ Hid (Below w.heap.size w w' ∧ tbs ts = PA text ∧ Tabs w' w.heap.size (.slice ao ts.length cap) ts)
theorem Parsed.all {w w' : World} {text : ByteArray} {e : Ending} (h : Parsed w (parseP text) e w') : AllP w text e w' := by
  unfold AllP PA EA
  obtain ⟨hb, h⟩ := h
  cases hp : parseP text with
  | error lc =>
    obtain ⟨l, c⟩ := lc
    rw [hp] at h
    exact ⟨none, 0, [], l, h, hb, rfl, Tabs.nil _ _⟩
  | ok us =>
    rw [hp] at h
    obtain ⟨ao, cap, ts, he, hts, htb⟩ := h
    exact ⟨ao, cap, ts, 0, he, hb, hts, htb⟩
theorem PParsed.all {w w' : World} {text : ByteArray} {e : Ending} (h : PParsed w (parseP text) e w') : AllP w text e w' := by
  unfold AllP PA EA
  cases hp : parseP text with
  | error lc =>
    obtain ⟨l, c⟩ := lc
    rw [hp] at h
    exact ⟨none, 0, [], l, h.1, h.2, rfl, Tabs.nil _ _⟩
  | ok us =>
    rw [hp] at h
    obtain ⟨hb, ao, cap, ts, he, hts, htb⟩ := h
    exact ⟨ao, cap, ts, 0, he, hb, hts, htb⟩

/-- All that stands ahead of the law's writes: W0 is the memory then, P the blocks that it may write. -/
structure ApF (w : World) (text : ByteArray) (mx : Int) (P : Nat → Prop) (wb sb tb : Nat) (a1 : Option Addr) (n1 c1 : Nat) (a2 : Option Addr) (n2 c2 : Nat) (a3 : Option Addr) (n3 c3 : Nat) (W0 : World) : Prop where
  want : ∀ W, KpA P W0 W → W.cell? ⟨wb, 0, none⟩ = some (.slice a1 n1 c1) ∧ ∃ ts, List.length (α := TV) ts = n1 ∧ TabsRd W a1 ts ∧ tbs ts = PA text
  t : ∀ W, KpA P W0 W → W.cell? ⟨tb, 0, none⟩ = some (.slice a3 n3 c3) ∧ ∃ ts, List.length (α := TV) ts = n3 ∧ TabsRd W a3 ts ∧ tbs ts = PA text
  s : ∃ ts, ApI P W0 sb (.slice a2 n2 c2) ts W0 ∧ S1 0 0 0 0 ts
  few : n2 ≤ 16
  below : ∀ W, KpA P W0 W → Below w.heap.size w W
  mx : w.cell? ⟨1, 0, none⟩ = some (.int .i64 mx)
  kinds : KindsAt w
theorem below_kpA {P : Nat → Prop} {w a b : World} (h : Below w.heap.size w a) (k : KpA P a b) (hp : ∀ k, P k → w.heap.size ≤ k) : Below w.heap.size w b := h.trans (k.below h.size hp)

theorem apF_mk {w w2 w4 w6 w8 : World} {text : ByteArray} {mx : Int} {B1 B2 B3 wb sb tb : Nat} {a1 a2 a3 : Option Addr} {c1 c2 c3 : Nat} {ts1 ts2 ts3 : List TV}
    (hmx : w.cell? ⟨1, 0, none⟩ = some (.int .i64 mx)) (hk : KindsAt w)
    (hB1 : w.heap.size ≤ w2.heap.size) (h1 : Tabs w2 B1 (.slice a1 ts1.length c1) ts1) (e1 : tbs ts1 = PA text) (h28 : Below w2.heap.size w2 w8) (hwb : w2.heap.size = wb) (cwb : w8.cell? ⟨wb, 0, none⟩ = some (.slice a1 ts1.length c1))
    (hB2 : wb < B2) (h2 : Tabs w4 B2 (.slice a2 ts2.length c2) ts2) (h48 : Below w4.heap.size w4 w8) (hsb : w4.heap.size = sb) (csb : w8.cell? ⟨sb, 0, none⟩ = some (.slice a2 ts2.length c2)) (hB24 : B2 ≤ w4.heap.size)
    (hB3 : sb < B3) (h3 : Tabs w6 B3 (.slice a3 ts3.length c3) ts3) (e3 : tbs ts3 = PA text) (h68 : Below w6.heap.size w6 w8) (htb : w6.heap.size = tb) (ctb : w8.cell? ⟨tb, 0, none⟩ = some (.slice a3 ts3.length c3)) (hB36 : B3 ≤ w6.heap.size) (hw8 : tb < w8.heap.size) (hb : Below w.heap.size w w8) :
    ApF w text mx (fun k => (B2 ≤ k ∧ k < sb) ∨ w8.heap.size ≤ k) wb sb tb a1 ts1.length c1 a2 ts2.length c2 a3 ts3.length c3 w8 := by
  have hP : ∀ k, ((B2 ≤ k ∧ k < sb) ∨ w8.heap.size ≤ k) → w.heap.size ≤ k := fun k hq => by have := hb.size; omega
  have cell : ∀ {b : Nat} {v : Value} {W : World}, w8.cell? ⟨b, 0, none⟩ = some v → KpA (fun k => (B2 ≤ k ∧ k < sb) ∨ w8.heap.size ≤ k) w8 W → ¬ ((B2 ≤ b ∧ b < sb) ∨ w8.heap.size ≤ b) → W.cell? ⟨b, 0, none⟩ = some v := by
    intro b v W hc hkp hn
    rw [World.cell?_of_block (hkp.block b (by omega) hn)]
    exact hc
  refine ⟨?_, ?_, ?_, h2.most, fun W hkp => below_kpA hb hkp hP, hmx, hk⟩
  · intro W hkp
    refine ⟨cell cwb hkp (by omega), ts1, rfl, (h1.kp ((KpA.ofBelow h28).trans hkp) ?_).reads, e1⟩
    intro k hk1 hk2; have := h28.size; omega
  · intro W hkp
    refine ⟨cell ctb hkp (by omega), ts3, rfl, (h3.kp ((KpA.ofBelow h68).trans hkp) ?_).reads, e3⟩
    intro k hk1 hk2; have := h68.size; omega
  · refine ⟨ts2, ⟨csb, ?_, KpA.refl _ _, by omega, by omega, fun k hk => .inr hk⟩, S1.start h2.ok⟩
    exact (h2.wd (P := fun k => (B2 ≤ k ∧ k < sb) ∨ w8.heap.size ≤ k) (fun k h h' => .inl ⟨h, by omega⟩)).kp (Q := fun _ => False) (KpA.ofBelow h48) (fun _ _ _ e => e)

/-! ### The loops' states -/
def L1 (P : Nat → Prop) (w0 : World) (sb : Nat) (v : Value) (i : Nat) (W : World) : Prop := ∃ ts, ApI P w0 sb v ts W ∧ S1 i 0 0 0 ts
def L2 (P : Nat → Prop) (w0 : World) (sb : Nat) (v : Value) (i j nx : Nat) (W : World) : Prop := ∃ (ts : List TV) (t : TV), ApI P w0 sb v ts W ∧ S1 i j 0 0 ts ∧ ts[i]? = some t ∧ t.xs.length = nx
def L3 (P : Nat → Prop) (w0 : World) (sb : Nat) (v : Value) (i j nx k m : Nat) (W : World) : Prop := ∃ (ts : List TV) (t : TV) (x : XV), ApI P w0 sb v ts W ∧ S1 i j k 0 ts ∧ ts[i]? = some t ∧ t.xs.length = nx ∧ t.xs[j]? = some x ∧ x.x.ov.length = m
def L4 (P : Nat → Prop) (w0 : World) (sb : Nat) (v : Value) (i nx l nf : Nat) (W : World) : Prop := ∃ (ts : List TV) (t : TV), ApI P w0 sb v ts W ∧ S1 i nx 0 l ts ∧ ts[i]? = some t ∧ t.xs.length = nx ∧ t.fs.length = nf
def L5 (P : Nat → Prop) (w0 : World) (sb : Nat) (v : Value) (i : Nat) (W : World) : Prop := ∃ ts, ApI P w0 sb v ts W ∧ S2 i 0 0 ts
def L6 (P : Nat → Prop) (w0 : World) (sb : Nat) (v : Value) (i j nx : Nat) (W : World) : Prop := ∃ (ts : List TV) (t : TV), ApI P w0 sb v ts W ∧ S2 i j 0 ts ∧ ts[i]? = some t ∧ t.xs.length = nx
def L7 (P : Nat → Prop) (w0 : World) (sb : Nat) (v : Value) (i j nx e : Nat) (W : World) : Prop := ∃ (ts : List TV) (t : TV) (x : XV), ApI P w0 sb v ts W ∧ S2 i j e ts ∧ ts[i]? = some t ∧ t.xs.length = nx ∧ t.xs[j]? = some x
def L8 (P : Nat → Prop) (w0 : World) (sb : Nat) (v : Value) (i e : Nat) (W : World) : Prop := ∃ (ts : List TV) (t : TV), ApI P w0 sb v ts W ∧ S3 i e ts ∧ ts[i]? = some t
def L9 (P : Nat → Prop) (w0 : World) (sb : Nat) (v : Value) (ts : List TV) (W : World) : Prop := ApI P w0 sb v ts W ∧ ∀ (i' : Nat) (t : TV), ts[i']? = some t → DM 8 8 i' t

set_option maxRecDepth 100000 in
set_option maxHeartbeats 4000000 in
theorem schemaApart_calls (text : ByteArray) (w : World) (mx : Int) (hmx : w.cell? ⟨1, 0, none⟩ = some (.int .i64 mx)) (hk : KindsAt w) (htl : text.size ≤ 140737488351232) :
    Calls Tryd.prog 3 #[.string text] w fun e w' => e = .returned (.bool true) ∧ Below w.heap.size w w' := by
  have HM : Hid (w.cell? ⟨1, 0, none⟩ = some (.int .i64 mx)) := hmx
  have HK : Hid (KindsAt w) := hk
  clear hmx hk
  go_enter Tryd.func3, Tryd.ntmps3
  go_wp2_with fail
  refine (schemaFixed_calls w mx HM.out HK.out).mono ?_
  rintro e w1 ⟨rfl, hb1⟩
  have HM1 : Hid (w1.cell? ⟨1, 0, none⟩ = some (.int .i64 mx)) := cell_next HM.out hb1
  have HK1 : Hid (KindsAt w1) := HK.out.next hb1
  have HB1 : Hid (Below w.heap.size w w1) := hb1
  clear hb1
  go_wp2_with fail
  refine (rparse_calls text w1 (by omega)).mono ?_
  rintro e w2 h2
  obtain ⟨a1, c1, ts1, l1, rfl, H1⟩ := h2.all
  clear h2
  have HM2 : Hid (w2.cell? ⟨1, 0, none⟩ = some (.int .i64 mx)) := cell_next HM1.out H1.out.1
  have HK2 : Hid (KindsAt w2) := HK1.out.next H1.out.1
  have HB2 : Hid (Below w.heap.size w w2) := HB1.out.trans (H1.out.1.mono HB1.out.size)
  clear HM1 HK1
  go_wp2_with fail
  obtain ⟨w3, hw3⟩ : ∃ w3, w3 = w2.alloc (.cells #[.slice a1 ts1.length c1] 25) := ⟨_, rfl⟩
  have hb3 : Below w2.heap.size w2 w3 := by rw [hw3]; exact (Below.refl _ _).alloc (Nat.le_refl _) _
  have s3 : w3.cell? ⟨w2.heap.size, 0, none⟩ = some (.slice a1 ts1.length c1) := by rw [hw3, cell_blk (new_blk _ _)]; rfl
  have z3 : w3.heap.size = w2.heap.size + 1 := by rw [hw3]; simp
  rw [← hw3]
  clear hw3
  have HM3 : Hid (w3.cell? ⟨1, 0, none⟩ = some (.int .i64 mx)) := cell_next HM2.out hb3
  have HK3 : Hid (KindsAt w3) := HK2.out.next hb3
  have HB3 : Hid (Below w.heap.size w w3) := HB2.out.trans (hb3.mono HB2.out.size)
  have HX3 : Hid (Below w2.heap.size w2 w3) := hb3
  have HC3 : Hid (w3.cell? ⟨w2.heap.size, 0, none⟩ = some (.slice a1 ts1.length c1)) := s3
  have HZ3 : Hid (w3.heap.size = w2.heap.size + 1) := z3
  obtain ⟨wb, hwb⟩ : ∃ wb, wb = w2.heap.size := ⟨_, rfl⟩
  rw [← hwb] at HC3 ⊢
  have HWB : Hid (w2.heap.size = wb) := hwb.symm
  clear hb3 s3 z3 HM2 HK2 HB2 hwb
  refine (parse_calls text w3 mx HM3.out HK3.out).mono ?_
  rintro e w4 h4
  obtain ⟨a2, c2, ts2, l2, rfl, H2⟩ := h4.all
  clear h4
  have HM4 : Hid (w4.cell? ⟨1, 0, none⟩ = some (.int .i64 mx)) := cell_next HM3.out H2.out.1
  have HK4 : Hid (KindsAt w4) := HK3.out.next H2.out.1
  have HB4 : Hid (Below w.heap.size w w4) := HB3.out.trans (H2.out.1.mono HB3.out.size)
  have HC4 : Hid (w4.cell? ⟨wb, 0, none⟩ = some (.slice a1 ts1.length c1)) := cell_next HC3.out H2.out.1
  clear HM3 HK3 HB3 HC3
  go_wp2_with fail
  obtain ⟨w5, hw5⟩ : ∃ w5, w5 = w4.alloc (.cells #[.slice a2 ts2.length c2] 25) := ⟨_, rfl⟩
  have hb5 : Below w4.heap.size w4 w5 := by rw [hw5]; exact (Below.refl _ _).alloc (Nat.le_refl _) _
  have HC5' : Hid (w5.cell? ⟨w4.heap.size, 0, none⟩ = some (.slice a2 ts2.length c2)) := by rw [hw5, Hid, cell_blk (new_blk _ _)]; rfl
  have HZ5 : Hid (w5.heap.size = w4.heap.size + 1) := by rw [hw5, Hid]; simp
  rw [← hw5]
  clear hw5
  have HM5 : Hid (w5.cell? ⟨1, 0, none⟩ = some (.int .i64 mx)) := cell_next HM4.out hb5
  have HK5 : Hid (KindsAt w5) := HK4.out.next hb5
  have HB5 : Hid (Below w.heap.size w w5) := HB4.out.trans (hb5.mono HB4.out.size)
  have HC5 : Hid (w5.cell? ⟨wb, 0, none⟩ = some (.slice a1 ts1.length c1)) := cell_next HC4.out hb5
  have HX5 : Hid (Below w4.heap.size w4 w5) := hb5
  obtain ⟨sb, hsb⟩ : ∃ sb, sb = w4.heap.size := ⟨_, rfl⟩
  rw [← hsb] at HC5' ⊢
  have HSB : Hid (w4.heap.size = sb) := hsb.symm
  clear hb5 HM4 HK4 HB4 HC4 hsb
  refine (parse_calls text w5 mx HM5.out HK5.out).mono ?_
  rintro e w6 h6
  obtain ⟨a3, c3, ts3, l3, rfl, H3⟩ := h6.all
  clear h6
  have HB6 : Hid (Below w.heap.size w w6) := HB5.out.trans (H3.out.1.mono HB5.out.size)
  have HC6 : Hid (w6.cell? ⟨wb, 0, none⟩ = some (.slice a1 ts1.length c1)) := cell_next HC5.out H3.out.1
  have HD6 : Hid (w6.cell? ⟨sb, 0, none⟩ = some (.slice a2 ts2.length c2)) := cell_next HC5'.out H3.out.1
  clear HM5 HK5 HB5 HC5 HC5'
  have k1 : ∀ o, (w6.alloc o).cell? ⟨wb, 0, none⟩ = some (.slice a1 ts1.length c1) := fun o => cell_next HC6.out ((Below.refl _ _).alloc (Nat.le_refl _) o)
  have k2 : ∀ o, (w6.alloc o).cell? ⟨sb, 0, none⟩ = some (.slice a2 ts2.length c2) := fun o => cell_next HD6.out ((Below.refl _ _).alloc (Nat.le_refl _) o)
  go_wp2_with fail
  obtain ⟨w7, hw7⟩ : ∃ w7, w7 = w6.alloc (.cells #[.slice a3 ts3.length c3] 25) := ⟨_, rfl⟩
  have hb7 : Below w6.heap.size w6 w7 := by rw [hw7]; exact (Below.refl _ _).alloc (Nat.le_refl _) _
  have HE7 : Hid (w7.cell? ⟨w6.heap.size, 0, none⟩ = some (.slice a3 ts3.length c3)) := by rw [hw7, Hid, cell_blk (new_blk _ _)]; rfl
  have HZ7 : Hid (w7.heap.size = w6.heap.size + 1) := by rw [hw7, Hid]; simp
  rw [← hw7]
  clear hw7 k1 k2
  have HB7 : Hid (Below w.heap.size w w7) := HB6.out.trans (hb7.mono HB6.out.size)
  have HC7 : Hid (w7.cell? ⟨wb, 0, none⟩ = some (.slice a1 ts1.length c1)) := cell_next HC6.out hb7
  have HD7 : Hid (w7.cell? ⟨sb, 0, none⟩ = some (.slice a2 ts2.length c2)) := cell_next HD6.out hb7
  have HX7 : Hid (Below w6.heap.size w6 w7) := hb7
  obtain ⟨tb, htb⟩ : ∃ tb, tb = w6.heap.size := ⟨_, rfl⟩
  rw [← htb] at HE7 ⊢
  have HTB : Hid (w6.heap.size = tb) := htb.symm
  clear hb7 HB6 HC6 HD6 htb
  have HX27 : Hid (Below w2.heap.size w2 w7) := by
    have h1 := HX3.out.trans (H2.out.1.mono HX3.out.size)
    have h2 := h1.trans (HX5.out.mono h1.size)
    have h3 := h2.trans (H3.out.1.mono h2.size)
    exact h3.trans (HX7.out.mono h3.size)
  have HX47 : Hid (Below w4.heap.size w4 w7) := by
    have h2 := HX5.out
    have h3 := h2.trans (H3.out.1.mono h2.size)
    exact h3.trans (HX7.out.mono h3.size)
  have HT1 : Hid (TabsRd w7 a1 ts1) := H1.out.2.2.reads.below HX27.out
  have HT2 : Hid (TabsRd w7 a2 ts2) := H2.out.2.2.reads.below HX47.out
  refine (same_calls a2 a1 c2 c1 ts2 ts1 w7 HT2.out HT1.out (H2.out.2.1.trans H1.out.2.1.symm)).mono ?_
  rintro e w8 ⟨rfl, hb8⟩
  have HF : Hid (ApF w text mx (fun k => (w3.heap.size ≤ k ∧ k < sb) ∨ w8.heap.size ≤ k) wb sb tb a1 ts1.length c1 a2 ts2.length c2 a3 ts3.length c3 w8) := by
    have z3 := HZ3.out
    have z5 := HZ5.out
    have z7 := HZ7.out
    have x1 := HWB.out
    have x2 := HSB.out
    have x3 := HTB.out
    have y1 := HB1.out.size
    have y2 := H1.out.1.size
    have y4 := H2.out.1.size
    have y6 := H3.out.1.size
    have y8 := hb8.size
    exact apF_mk HM.out HK.out (Nat.le_trans HB1.out.size y2) H1.out.2.2 H1.out.2.1 (HX27.out.trans (hb8.mono HX27.out.size)) x1 (cell_next HC7.out hb8) (by omega) H2.out.2.2 (HX47.out.trans (hb8.mono HX47.out.size)) x2 (cell_next HD7.out hb8) y4 (by omega) H3.out.2.2 H3.out.2.1 (HX7.out.trans (hb8.mono HX7.out.size)) x3 (cell_next HE7.out hb8) y6 (by omega) (HB7.out.trans (hb8.mono HB7.out.size))
  obtain ⟨P, hP⟩ : ∃ P : Nat → Prop, P = fun k => (w3.heap.size ≤ k ∧ k < sb) ∨ w8.heap.size ≤ k := ⟨_, rfl⟩
  rw [← hP] at HF
  clear hP hb8 HM HK HB1 H1 H2 H3 HX3 HX5 HX7 HZ3 HZ5 HZ7 HWB HSB HTB HB7 HC7 HD7 HE7 HX27 HX47 HT1 HT2
  generalize ts1.length = n1 at *
  generalize ts2.length = n2 at *
  generalize ts3.length = n3 at *
  clear ts1 ts2 ts3
  have hf2 := HF.out.few
  have s8 : w8.cell? ⟨sb, 0, none⟩ = some (.slice a2 n2 c2) := by obtain ⟨ts, h, _⟩ := HF.out.s; exact h.s0
  go_wp2
  have HL0 : Hid (L1 P w8 sb (.slice a2 n2 c2) 0 w8) := HF.out.s
  clear s8
  go_loopw [12, 57] (fun s12 y wr => ∃ i : Nat, i ≤ n2 ∧ y = .int .i64 i ∧ Hid (L1 P w8 sb (.slice a2 n2 c2) i wr)) (fun _ y _ => n2 - (intOf y).toNat)
  case atStart => exact ⟨0, Nat.zero_le _, rfl, HL0⟩
  case round =>
    clear HL0
    obtain ⟨i, hi, rfl, HI⟩ := hrel
    by_cases hlt : i < n2
    · obtain ⟨ts, HA, HS⟩ : ∃ ts, Hid (ApI P w8 sb (.slice a2 n2 c2) ts wr) ∧ Hid (S1 i 0 0 0 ts) := HI.out
      obtain ⟨t, ht⟩ : ∃ t, ts[i]? = some t := ⟨ts[i]'(by rw [HA.out.len]; exact hlt), by simp⟩
      obtain ⟨g, hg, d1, d2, -⟩ := HA.out.tab ht
      subst hg
      have s0 := HA.out.s0
      have d2' : wr.cell? ⟨g, i * 3 + 2, none⟩ = some (.slice t.xa t.xs.length t.xc) := d2
      have hb0 := (HS.out i t ht).1.2.1
      have HL2 : Hid (L2 P w8 sb (.slice (some ⟨g, 0, none⟩) n2 c2) i 0 t.xs.length wr) := ⟨ts, t, HA.out, HS.out, ht, rfl⟩
      clear d1 d2 HA HS HI ht
      obtain ⟨nx, hnx⟩ : ∃ nx, nx = t.xs.length := ⟨_, rfl⟩
      rw [← hnx] at d2' hb0 HL2
      generalize t.xa = xa0 at d2'
      generalize t.xc = xc0 at d2'
      clear hnx
      go_wp2
      clear s0 d2'
      go_loopw [13, 67] (fun s13 y wr => ∃ j : Nat, j ≤ nx ∧ y = .int .i64 j ∧ Hid (L2 P w8 sb (.slice (some ⟨g, 0, none⟩) n2 c2) i j nx wr)) (fun _ y _ => nx - (intOf y).toNat)
      case atStart => exact ⟨0, Nat.zero_le _, rfl, HL2⟩
      case round =>
        clear HL2
        obtain ⟨j, hj, rfl, HI⟩ := hrel
        by_cases hlj : j < nx
        · obtain ⟨ts, t, HA, HS, HT, hxl⟩ : ∃ ts t, Hid (ApI P w8 sb (.slice (some ⟨g, 0, none⟩) n2 c2) ts wr) ∧ Hid (S1 i j 0 0 ts) ∧ Hid (ts[i]? = some t) ∧ t.xs.length = nx := HI.out
          obtain ⟨x, hx⟩ : ∃ x, t.xs[j]? = some x := ⟨t.xs[j]'(by omega), by simp⟩
          obtain ⟨g', hg, d1, d2, -⟩ := HA.out.tab HT.out
          obtain ⟨gx, hgx, e0, e1, -⟩ := HA.out.idx HT.out hx
          obtain rfl : g' = g := by simpa using hg.symm
          have s0 := HA.out.s0
          have d2' : wr.cell? ⟨g', i * 3 + 2, none⟩ = some (.slice (some ⟨gx, 0, none⟩) nx t.xc) := by rw [← hgx, ← hxl]; exact d2
          have e1' : wr.cell? ⟨gx, j * 5 + 1, none⟩ = some (.slice x.va x.x.ov.length x.vc) := e1
          have hb1 := (HS.out i t HT.out).1.2.2 j x hx
          have HL3 : Hid (L3 P w8 sb (.slice (some ⟨g', 0, none⟩) n2 c2) i j nx 0 x.x.ov.length wr) := ⟨ts, t, x, HA.out, HS.out, HT.out, hxl, hx, rfl⟩
          clear d1 d2 e0 e1 HA HS HI HT hxl hx hg
          obtain ⟨m, hm⟩ : ∃ m, m = x.x.ov.length := ⟨_, rfl⟩
          rw [← hm] at e1' hb1 HL3
          clear hm hgx
          generalize t.xc = xc0 at d2'
          generalize x.va = va0 at e1'
          generalize x.vc = vc0 at e1'
          go_wp2
          clear s0 d2' e1'
          go_loopw [14, 81] (fun s14 y wr => ∃ k : Nat, k ≤ m ∧ y = .int .i64 k ∧ Hid (L3 P w8 sb (.slice (some ⟨g', 0, none⟩) n2 c2) i j nx k m wr)) (fun _ y _ => m - (intOf y).toNat)
          case atStart => exact ⟨0, Nat.zero_le _, rfl, HL3⟩
          case round =>
            clear HL3
            obtain ⟨k, hk, rfl, HI⟩ := hrel
            obtain ⟨ts, t, x, HA, HS, HT, hxl, HX, hol⟩ : ∃ ts t x, Hid (ApI P w8 sb (.slice (some ⟨g', 0, none⟩) n2 c2) ts wr) ∧ Hid (S1 i j k 0 ts) ∧ Hid (ts[i]? = some t) ∧ t.xs.length = nx ∧ Hid (t.xs[j]? = some x) ∧ x.x.ov.length = m := HI.out
            obtain ⟨g2, hg2, d1, d2, -⟩ := HA.out.tab HT.out
            obtain ⟨gx, hgx, e0, e1, -, -, -, hz⟩ := HA.out.idx HT.out HX.out
            obtain rfl : g2 = g' := by simpa using hg2.symm
            have s0 := HA.out.s0
            have d2' : wr.cell? ⟨g2, i * 3 + 2, none⟩ = some (.slice (some ⟨gx, 0, none⟩) nx t.xc) := by rw [← hgx, ← hxl]; exact d2
            have HGX : Hid (t.xa = some ⟨gx, 0, none⟩) := hgx
            clear HI d1 d2 hg2
            by_cases hlk : k < m
            · obtain ⟨p, hp⟩ : ∃ p, x.x.ov[k]? = some p := ⟨x.x.ov[k]'(by omega), by simp⟩
              obtain ⟨gv, hgv, f0, hzv⟩ := HA.out.ovc HT.out HX.out hp
              have e1' : wr.cell? ⟨gx, j * 5 + 1, none⟩ = some (.slice (some ⟨gv, 0, none⟩) m x.vc) := by rw [← hgv, ← hol]; exact e1
              have z0 := hzv k
              have HR : Hid (L3 P w8 sb (.slice (some ⟨g2, 0, none⟩) n2 c2) i j nx (k + 1) m (wr.setCell ⟨gv, k, none⟩ (.int .i64 (100 * (i : Int) + 10 * j + k)))) := ⟨_, _, _, HA.out.setO HT.out HX.out hgv k _, HS.out.ov HT.out HX.out, by rw [List.getElem?_set_self (List.getElem?_eq_some_iff.1 HT.out).1], by simpa using hxl, by rw [List.getElem?_set_self (List.getElem?_eq_some_iff.1 HX.out).1], by simpa using hol⟩
              clear HA HS HT HX e0 e1 hz hzv hp hgv HGX hgx
              generalize t.xc = xc0 at d2'
              generalize x.vc = vc0 at e1'
              clear hxl hol
              go_wp2
              go_roundw
              case rel => exact ⟨k + 1, by omega, by go_num, HR⟩
              case measure => simp [intOf]; omega
            · have z0 := hz (j * 5)
              have HR : Hid (L2 P w8 sb (.slice (some ⟨g2, 0, none⟩) n2 c2) i (j + 1) nx (wr.setCell ⟨gx, j * 5, none⟩ (.string ⟨#[109, 97, 114, 107]⟩))) := ⟨_, _, HA.out.setN HT.out HX.out hgx _, HS.out.name HT.out HX.out (by omega), by rw [List.getElem?_set_self (List.getElem?_eq_some_iff.1 HT.out).1], by simpa using hxl⟩
              clear HA HS HT HX e1 hz HGX hgx
              generalize t.xc = xc0 at d2'
              clear hxl hol
              go_wp2
              go_roundw
              case rel => exact ⟨j + 1, by omega, by go_num, HR⟩
              case measure => simp [intOf]; omega
        · obtain ⟨ts, t, HA, HS, HT, hxl⟩ : ∃ ts t, Hid (ApI P w8 sb (.slice (some ⟨g, 0, none⟩) n2 c2) ts wr) ∧ Hid (S1 i j 0 0 ts) ∧ Hid (ts[i]? = some t) ∧ t.xs.length = nx := HI.out
          obtain rfl : j = nx := by omega
          obtain ⟨g', hg, d1, d2, -⟩ := HA.out.tab HT.out
          obtain rfl : g' = g := by simpa using hg.symm
          have s0 := HA.out.s0
          have d1' : wr.cell? ⟨g', i * 3 + 1, none⟩ = some (.slice t.fa t.fs.length t.fc) := d1
          have hb1 := (HS.out i t HT.out).1.1
          have HL4 : Hid (L4 P w8 sb (.slice (some ⟨g', 0, none⟩) n2 c2) i j 0 t.fs.length wr) := ⟨ts, t, HA.out, HS.out, HT.out, hxl, rfl⟩
          clear d1 d2 HA HS HI HT hxl hg
          obtain ⟨nf, hnf⟩ : ∃ nf, nf = t.fs.length := ⟨_, rfl⟩
          rw [← hnf] at d1' hb1 HL4
          clear hnf
          generalize t.fa = fa0 at d1'
          generalize t.fc = fc0 at d1'
          go_wp2
          clear s0 d1'
          go_loopw [15, 121] (fun s15 y wr => ∃ l : Nat, l ≤ nf ∧ y = .int .i64 l ∧ Hid (L4 P w8 sb (.slice (some ⟨g', 0, none⟩) n2 c2) i j l nf wr)) (fun _ y _ => nf - (intOf y).toNat)
          case atStart => exact ⟨0, Nat.zero_le _, rfl, HL4⟩
          case round =>
            clear HL4
            obtain ⟨l, hl, rfl, HI⟩ := hrel
            obtain ⟨ts, t, HA, HS, HT, hxl, hfl⟩ : ∃ ts t, Hid (ApI P w8 sb (.slice (some ⟨g', 0, none⟩) n2 c2) ts wr) ∧ Hid (S1 i j 0 l ts) ∧ Hid (ts[i]? = some t) ∧ t.xs.length = j ∧ t.fs.length = nf := HI.out
            clear HI
            by_cases hll : l < nf
            · obtain ⟨g2, hg2, d1, d2, -⟩ := HA.out.tab HT.out
              obtain ⟨f, hf⟩ : ∃ f, t.fs[l]? = some f := ⟨t.fs[l]'(by omega), by simp⟩
              obtain ⟨gf, hgf, e0, e1, hz⟩ := HA.out.fld HT.out hf
              obtain rfl : g2 = g' := by simpa using hg2.symm
              have s0 := HA.out.s0
              have d1' : wr.cell? ⟨g2, i * 3 + 1, none⟩ = some (.slice (some ⟨gf, 0, none⟩) nf t.fc) := by rw [← hgf, ← hfl]; exact d1
              have z0 := hz (l * 2)
              have z1 := hz (l * 2 + 1)
              have HR : Hid (L4 P w8 sb (.slice (some ⟨g2, 0, none⟩) n2 c2) i j (l + 1) nf ((wr.setCell ⟨gf, l * 2, none⟩ (.string ⟨#[109, 97, 114, 107]⟩)).setCell ⟨gf, l * 2 + 1, none⟩ (.int .i64 (100 + (i : Int))))) := ⟨_, _, HA.out.setF HT.out (by omega) hgf _ _, HS.out.fld HT.out, by rw [List.getElem?_set_self (List.getElem?_eq_some_iff.1 HT.out).1], by simpa using hxl, by simpa using hfl⟩
              clear HA HS HT hz d1 d2 hf hgf hg2
              generalize t.fc = fc0 at d1'
              clear hxl hfl
              go_wp2
              go_roundw
              case rel => exact ⟨l + 1, by omega, by go_num, HR⟩
              case measure => simp [intOf]; omega
            · have HR : Hid (L1 P w8 sb (.slice (some ⟨g', 0, none⟩) n2 c2) (i + 1) wr) := ⟨ts, HA.out, HS.out.table HT.out (by omega) (by omega)⟩
              clear HA HS HT hxl hfl
              go_wp2
              go_roundw
              case rel => exact ⟨i + 1, by omega, by go_num, HR⟩
              case measure => simp [intOf]; omega
    · have HL5 : Hid (L5 P w8 sb (.slice a2 n2 c2) 0 wr) := by obtain ⟨ts, h1, h2⟩ := HI.out; exact ⟨ts, h1, S2.start (h2.done (by rw [h1.len]; omega))⟩
      have s0 : wr.cell? ⟨sb, 0, none⟩ = some (.slice a2 n2 c2) := by obtain ⟨ts, h1, h2⟩ := HI.out; exact h1.s0
      clear HI
      go_wp2
      clear s0 hlt hi
      go_loopw [16, 140] (fun s16 y wr => ∃ i : Nat, i ≤ n2 ∧ y = .int .i64 i ∧ Hid (L5 P w8 sb (.slice a2 n2 c2) i wr)) (fun _ y _ => n2 - (intOf y).toNat)
      case atStart => exact ⟨0, Nat.zero_le _, rfl, HL5⟩
      case round =>
        clear HL5
        obtain ⟨i, hi, rfl, HI⟩ := hrel
        by_cases hlt : i < n2
        · obtain ⟨ts, HA, HS⟩ : ∃ ts, Hid (ApI P w8 sb (.slice a2 n2 c2) ts wr) ∧ Hid (S2 i 0 0 ts) := HI.out
          obtain ⟨t, ht⟩ : ∃ t, ts[i]? = some t := ⟨ts[i]'(by rw [HA.out.len]; exact hlt), by simp⟩
          obtain ⟨g, hg, d1, d2, -⟩ := HA.out.tab ht
          subst hg
          have s0 := HA.out.s0
          have d2' : wr.cell? ⟨g, i * 3 + 2, none⟩ = some (.slice t.xa t.xs.length t.xc) := d2
          have hb0 := (HS.out.most ht).1
          have HL6 : Hid (L6 P w8 sb (.slice (some ⟨g, 0, none⟩) n2 c2) i 0 t.xs.length wr) := ⟨ts, t, HA.out, HS.out, ht, rfl⟩
          clear d1 d2 HA HS HI ht
          obtain ⟨nx, hnx⟩ : ∃ nx, nx = t.xs.length := ⟨_, rfl⟩
          rw [← hnx] at d2' hb0 HL6
          generalize t.xa = xa0 at d2'
          generalize t.xc = xc0 at d2'
          clear hnx
          go_wp2
          clear s0 d2'
          go_loopw [17, 150] (fun s17 y wr => ∃ j : Nat, j ≤ nx ∧ y = .int .i64 j ∧ Hid (L6 P w8 sb (.slice (some ⟨g, 0, none⟩) n2 c2) i j nx wr)) (fun _ y _ => nx - (intOf y).toNat)
          case atStart => exact ⟨0, Nat.zero_le _, rfl, HL6⟩
          case round =>
            clear HL6
            obtain ⟨j, hj, rfl, HI⟩ := hrel
            by_cases hlj : j < nx
            · have HL7 : Hid (L7 P w8 sb (.slice (some ⟨g, 0, none⟩) n2 c2) i j nx 0 wr) := by
                obtain ⟨ts, t, h1, h2, h3, h4⟩ := HI.out
                exact ⟨ts, t, t.xs[j]'(by omega), h1, h2, h3, h4, by simp⟩
              clear HI
              go_wp2
              go_loopw [18] (fun y wr => ∃ e : Nat, e ≤ 8 ∧ y = .int .i64 e ∧ Hid (L7 P w8 sb (.slice (some ⟨g, 0, none⟩) n2 c2) i j nx e wr)) (fun y _ => 8 - (intOf y).toNat)
              case atStart => exact ⟨0, Nat.zero_le _, rfl, HL7⟩
              case round =>
                clear HL7
                obtain ⟨e, he, rfl, HI⟩ := hrel
                by_cases hle : e < 8
                · obtain ⟨ts, t, x, HA, HS, HT, hxl, HX⟩ : ∃ ts t x, Hid (ApI P w8 sb (.slice (some ⟨g, 0, none⟩) n2 c2) ts wr) ∧ Hid (S2 i j e ts) ∧ Hid (ts[i]? = some t) ∧ t.xs.length = nx ∧ Hid (t.xs[j]? = some x) := HI.out
                  obtain ⟨g2, hg2, d1, d2, -⟩ := HA.out.tab HT.out
                  obtain ⟨gx, hgx, e0, e1, -, -, -, hz⟩ := HA.out.idx HT.out HX.out
                  obtain rfl : g2 = g := by simpa using hg2.symm
                  have s0 := HA.out.s0
                  have d2' : wr.cell? ⟨g2, i * 3 + 2, none⟩ = some (.slice (some ⟨gx, 0, none⟩) nx t.xc) := by rw [← hgx, ← hxl]; exact d2
                  have e1' : wr.cell? ⟨gx, j * 5 + 1, none⟩ = some (.slice x.va x.x.ov.length x.vc) := e1
                  have hom := (HS.out.most HT.out).2.2 x HX.out
                  have HGX : Hid (t.xa = some ⟨gx, 0, none⟩) := hgx
                  have hro := HA.out.wd.ov i t j x HT.out HX.out
                  have hrx := HA.out.wd.xs i t HT.out
                  have hn1 : some sb ≠ x.v.ownBlock := fun q => HA.out.out (HA.out.wd.po i t j x HT.out HX.out sb q.symm)
                  have hn2 : some g2 ≠ x.v.ownBlock := fun q => rows_ne hro HA.out.wd.row (by decide) g2 rfl q.symm
                  have hn3 : some gx ≠ x.v.ownBlock := fun q => rows_ne hro hrx (by decide) gx (by rw [TV.xv, hgx]; rfl) q.symm
                  have l1 : sb < wr.heap.size := World.block_lt_of_cell? wr _ s0
                  have l2 : g2 < wr.heap.size := World.block_lt_of_cell? wr _ d2'
                  have l3 : gx < wr.heap.size := World.block_lt_of_cell? wr _ e1'
                  have HRO : Hid (wr.ownsRow 0 3 1 (.slice x.va x.x.ov.length x.vc) x.x.ov.length (ics x.x.ov)) := hro
                  have HRX : Hid (wr.ownsRow 0 38 5 (.slice (some ⟨gx, 0, none⟩) nx t.xc) nx (xcs t.xs)) := by rw [← hgx, ← hxl]; exact hrx
                  clear HI d1 d2 hg2 e0 e1 hz hgx hro hrx
                  have qw1 : IntKind.i64.wrap (-1 - (i : Int)) = -1 - (i : Int) := by rw [IntKind.wrap_i64]; omega
                  have qw2 : IntKind.i64.wrap (-1 - (i : Int) - (j : Int)) = -1 - (i : Int) - (j : Int) := by rw [IntKind.wrap_i64]; omega
                  obtain ⟨i0, hi0, hz0, hz1, hz2⟩ := info_of info_num
                  go_wp2_with fail
                  refine wp_region_W 26 (JG 3 1 x.x.ov.length (ics x.x.ov) [.int .i64 (-1 - (i : Int) - (j : Int))] (.slice x.va x.x.ov.length x.vc) ⟨gx, j * 5 + 1, none⟩ 21 22 25 wr) (fun q_ v W => match q_ with | 0 => v = .pointer (some ⟨sb, 0, none⟩) | 1 => v = .slice (some ⟨g2, 0, none⟩) n2 c2 | 2 => v = .int .i64 (i : Int) | 3 => v = .pointer (some ⟨g2, i * 3, none⟩) | 4 => v = .pointer (some ⟨g2, i * 3 + 2, none⟩) | 5 => v = .slice (some ⟨gx, 0, none⟩) nx t.xc | 6 => v = .int .i64 (j : Int) | 7 => v = .pointer (some ⟨sb, 0, none⟩) | 8 => v = .slice (some ⟨g2, 0, none⟩) n2 c2 | 9 => v = .int .i64 (i : Int) | 10 => v = .pointer (some ⟨g2, i * 3, none⟩) | 11 => v = .pointer (some ⟨g2, i * 3 + 2, none⟩) | 12 => v = .slice (some ⟨gx, 0, none⟩) nx t.xc | 13 => v = .int .i64 (j : Int) | 14 => v = .pointer (some ⟨gx, j * 5, none⟩) | 15 => v = .pointer (some ⟨gx, j * 5 + 1, none⟩) | 16 => v = .slice x.va x.x.ov.length x.vc | 17 => v = .int .i64 (i : Int) | 18 => v = .int .i64 (-1 - (i : Int)) | 19 => v = .int .i64 (j : Int) | 20 => v = .int .i64 (-1 - (i : Int) - (j : Int)) | 23 => v = .pointer (some ⟨gx, j * 5, none⟩) | 24 => v = .pointer (some ⟨gx, j * 5 + 1, none⟩) | _ => True) (by kernel_rfl) rfl (by kernel_rfl) (by kernel_rfl) [some 157, some 158, some 159, some 160, some 161, some 162, some 163, some 164, some 165, some 166, some 167, some 168, some 169, some 170, some 171, some 172, some 173, some 174, some 175, some 176, some 177, some 178, some 179, some 180, some 181, none] (by kernel_rfl) ?J0C ?hopC ?tailC
                  case J0C => exact fun W vs hW => JG.start (by decide) hW
                  case hopC =>
                    intro q_ o hq_ ho a W ls vs hJ hlf hcl hs hd hall
                    match q_, hq_, ho, hd, hlf, hall with
                    | 0, _, ho, hd, hlf, hall =>
                      obtain rfl := Option.some.inj ho
                      refine ⟨.inl rfl, ?_⟩
                      have hfs : ls 25 = false := hcl.not [24, 23, 5, 4, 3, 1, 0] 25 0 (by kernel_rfl) rfl hlf
                      have e0 : a.eval (.tmp 6) = .pointer (some ⟨sb, 0, none⟩) := (hs 6 (notDst (by kernel_rfl))).trans rfl
                      exact wp_valF (v := .pointer (some ⟨sb, 0, none⟩)) (by unfold execOp; dsimp only; simp only [e0]; go_simp) ⟨_, rfl, rfl, hJ.next (by decide) (by decide) (by decide), fun _ _ _ _ h => h⟩
                    | 1, _, ho, hd, hlf, hall =>
                      obtain rfl := Option.some.inj ho
                      refine ⟨.inl rfl, ?_⟩
                      have hfs : ls 25 = false := hcl.not [24, 23, 5, 4, 3, 1] 25 1 (by kernel_rfl) rfl hlf
                      have e0 : a.eval (.tmp 157) = .pointer (some ⟨sb, 0, none⟩) := (hd 0 157 (by kernel_rfl) (by kernel_rfl)).1
                      have hc := hJ.cell hfs s0 hn1
                      exact wp_valF (v := .slice (some ⟨g2, 0, none⟩) n2 c2) (by unfold execOp; dsimp only; simp only [e0]; simp [hc, go_sem]) ⟨_, rfl, rfl, hJ.next (by decide) (by decide) (by decide), fun _ _ _ _ h => h⟩
                    | 2, _, ho, hd, hlf, hall =>
                      obtain rfl := Option.some.inj ho
                      refine ⟨.inl rfl, ?_⟩
                      have hfs : ls 25 = false := hcl.not [24, 23, 5, 4, 3, 2] 25 2 (by kernel_rfl) rfl hlf
                      have e0 : a.eval (.tmp 16) = .int .i64 (i : Int) := (hs 16 (notDst (by kernel_rfl))).trans rfl
                      exact f_mvA rfl e0 ⟨_, rfl, rfl, hJ.next (by decide) (by decide) (by decide), fun _ _ _ _ h => h⟩
                    | 3, _, ho, hd, hlf, hall =>
                      obtain rfl := Option.some.inj ho
                      refine ⟨.inl rfl, ?_⟩
                      have hfs : ls 25 = false := hcl.not [24, 23, 5, 4, 3] 25 3 (by kernel_rfl) rfl hlf
                      have e0 : a.eval (.tmp 158) = .slice (some ⟨g2, 0, none⟩) n2 c2 := (hd 1 158 (by kernel_rfl) (by kernel_rfl)).1
                      have e1 : a.eval (.tmp 159) = .int .i64 (i : Int) := (hd 2 159 (by kernel_rfl) (by kernel_rfl)).1
                      exact wp_valF (v := .pointer (some ⟨g2, i * 3, none⟩)) (by unfold execOp; dsimp only; simp only [e0, e1]; go_simp) ⟨_, rfl, rfl, hJ.next (by decide) (by decide) (by decide), fun _ _ _ _ h => h⟩
                    | 4, _, ho, hd, hlf, hall =>
                      obtain rfl := Option.some.inj ho
                      refine ⟨.inl rfl, ?_⟩
                      have hfs : ls 25 = false := hcl.not [24, 23, 5, 4] 25 4 (by kernel_rfl) rfl hlf
                      have e0 : a.eval (.tmp 160) = .pointer (some ⟨g2, i * 3, none⟩) := (hd 3 160 (by kernel_rfl) (by kernel_rfl)).1
                      exact wp_valF (v := .pointer (some ⟨g2, i * 3 + 2, none⟩)) (by unfold execOp; dsimp only; simp only [e0]; go_simp) ⟨_, rfl, rfl, hJ.next (by decide) (by decide) (by decide), fun _ _ _ _ h => h⟩
                    | 5, _, ho, hd, hlf, hall =>
                      obtain rfl := Option.some.inj ho
                      refine ⟨.inl rfl, ?_⟩
                      have hfs : ls 25 = false := hcl.not [24, 23, 5] 25 5 (by kernel_rfl) rfl hlf
                      have e0 : a.eval (.tmp 161) = .pointer (some ⟨g2, i * 3 + 2, none⟩) := (hd 4 161 (by kernel_rfl) (by kernel_rfl)).1
                      have hc := hJ.cell hfs d2' hn2
                      exact wp_valF (v := .slice (some ⟨gx, 0, none⟩) nx t.xc) (by unfold execOp; dsimp only; simp only [e0]; simp [hc, go_sem]) ⟨_, rfl, rfl, hJ.next (by decide) (by decide) (by decide), fun _ _ _ _ h => h⟩
                    | 6, _, ho, hd, hlf, hall =>
                      obtain rfl := Option.some.inj ho
                      refine ⟨.inl rfl, ?_⟩
                      have hfs : ls 25 = false := hcl.not [24, 23, 6] 25 6 (by kernel_rfl) rfl hlf
                      have e0 : a.eval (.tmp 17) = .int .i64 (j : Int) := (hs 17 (notDst (by kernel_rfl))).trans rfl
                      exact f_mvA rfl e0 ⟨_, rfl, rfl, hJ.next (by decide) (by decide) (by decide), fun _ _ _ _ h => h⟩
                    | 7, _, ho, hd, hlf, hall =>
                      obtain rfl := Option.some.inj ho
                      refine ⟨.inl rfl, ?_⟩
                      have hfs : ls 25 = false := hcl.not [22, 16, 15, 14, 12, 11, 10, 8, 7] 25 7 (by kernel_rfl) rfl hlf
                      have e0 : a.eval (.tmp 6) = .pointer (some ⟨sb, 0, none⟩) := (hs 6 (notDst (by kernel_rfl))).trans rfl
                      exact wp_valF (v := .pointer (some ⟨sb, 0, none⟩)) (by unfold execOp; dsimp only; simp only [e0]; go_simp) ⟨_, rfl, rfl, hJ.next (by decide) (by decide) (by decide), fun _ _ _ _ h => h⟩
                    | 8, _, ho, hd, hlf, hall =>
                      obtain rfl := Option.some.inj ho
                      refine ⟨.inl rfl, ?_⟩
                      have hfs : ls 25 = false := hcl.not [22, 16, 15, 14, 12, 11, 10, 8] 25 8 (by kernel_rfl) rfl hlf
                      have e0 : a.eval (.tmp 164) = .pointer (some ⟨sb, 0, none⟩) := (hd 7 164 (by kernel_rfl) (by kernel_rfl)).1
                      have hc := hJ.cell hfs s0 hn1
                      exact wp_valF (v := .slice (some ⟨g2, 0, none⟩) n2 c2) (by unfold execOp; dsimp only; simp only [e0]; simp [hc, go_sem]) ⟨_, rfl, rfl, hJ.next (by decide) (by decide) (by decide), fun _ _ _ _ h => h⟩
                    | 9, _, ho, hd, hlf, hall =>
                      obtain rfl := Option.some.inj ho
                      refine ⟨.inl rfl, ?_⟩
                      have hfs : ls 25 = false := hcl.not [22, 16, 15, 14, 12, 11, 10, 9] 25 9 (by kernel_rfl) rfl hlf
                      have e0 : a.eval (.tmp 16) = .int .i64 (i : Int) := (hs 16 (notDst (by kernel_rfl))).trans rfl
                      exact f_mvA rfl e0 ⟨_, rfl, rfl, hJ.next (by decide) (by decide) (by decide), fun _ _ _ _ h => h⟩
                    | 10, _, ho, hd, hlf, hall =>
                      obtain rfl := Option.some.inj ho
                      refine ⟨.inl rfl, ?_⟩
                      have hfs : ls 25 = false := hcl.not [22, 16, 15, 14, 12, 11, 10] 25 10 (by kernel_rfl) rfl hlf
                      have e0 : a.eval (.tmp 165) = .slice (some ⟨g2, 0, none⟩) n2 c2 := (hd 8 165 (by kernel_rfl) (by kernel_rfl)).1
                      have e1 : a.eval (.tmp 166) = .int .i64 (i : Int) := (hd 9 166 (by kernel_rfl) (by kernel_rfl)).1
                      exact wp_valF (v := .pointer (some ⟨g2, i * 3, none⟩)) (by unfold execOp; dsimp only; simp only [e0, e1]; go_simp) ⟨_, rfl, rfl, hJ.next (by decide) (by decide) (by decide), fun _ _ _ _ h => h⟩
                    | 11, _, ho, hd, hlf, hall =>
                      obtain rfl := Option.some.inj ho
                      refine ⟨.inl rfl, ?_⟩
                      have hfs : ls 25 = false := hcl.not [22, 16, 15, 14, 12, 11] 25 11 (by kernel_rfl) rfl hlf
                      have e0 : a.eval (.tmp 167) = .pointer (some ⟨g2, i * 3, none⟩) := (hd 10 167 (by kernel_rfl) (by kernel_rfl)).1
                      exact wp_valF (v := .pointer (some ⟨g2, i * 3 + 2, none⟩)) (by unfold execOp; dsimp only; simp only [e0]; go_simp) ⟨_, rfl, rfl, hJ.next (by decide) (by decide) (by decide), fun _ _ _ _ h => h⟩
                    | 12, _, ho, hd, hlf, hall =>
                      obtain rfl := Option.some.inj ho
                      refine ⟨.inl rfl, ?_⟩
                      have hfs : ls 25 = false := hcl.not [22, 16, 15, 14, 12] 25 12 (by kernel_rfl) rfl hlf
                      have e0 : a.eval (.tmp 168) = .pointer (some ⟨g2, i * 3 + 2, none⟩) := (hd 11 168 (by kernel_rfl) (by kernel_rfl)).1
                      have hc := hJ.cell hfs d2' hn2
                      exact wp_valF (v := .slice (some ⟨gx, 0, none⟩) nx t.xc) (by unfold execOp; dsimp only; simp only [e0]; simp [hc, go_sem]) ⟨_, rfl, rfl, hJ.next (by decide) (by decide) (by decide), fun _ _ _ _ h => h⟩
                    | 13, _, ho, hd, hlf, hall =>
                      obtain rfl := Option.some.inj ho
                      refine ⟨.inl rfl, ?_⟩
                      have hfs : ls 25 = false := hcl.not [22, 16, 15, 14, 13] 25 13 (by kernel_rfl) rfl hlf
                      have e0 : a.eval (.tmp 17) = .int .i64 (j : Int) := (hs 17 (notDst (by kernel_rfl))).trans rfl
                      exact f_mvA rfl e0 ⟨_, rfl, rfl, hJ.next (by decide) (by decide) (by decide), fun _ _ _ _ h => h⟩
                    | 14, _, ho, hd, hlf, hall =>
                      obtain rfl := Option.some.inj ho
                      refine ⟨.inl rfl, ?_⟩
                      have hfs : ls 25 = false := hcl.not [22, 16, 15, 14] 25 14 (by kernel_rfl) rfl hlf
                      have e0 : a.eval (.tmp 169) = .slice (some ⟨gx, 0, none⟩) nx t.xc := (hd 12 169 (by kernel_rfl) (by kernel_rfl)).1
                      have e1 : a.eval (.tmp 170) = .int .i64 (j : Int) := (hd 13 170 (by kernel_rfl) (by kernel_rfl)).1
                      exact wp_valF (v := .pointer (some ⟨gx, j * 5, none⟩)) (by unfold execOp; dsimp only; simp only [e0, e1]; go_simp) ⟨_, rfl, rfl, hJ.next (by decide) (by decide) (by decide), fun _ _ _ _ h => h⟩
                    | 15, _, ho, hd, hlf, hall =>
                      obtain rfl := Option.some.inj ho
                      refine ⟨.inl rfl, ?_⟩
                      have hfs : ls 25 = false := hcl.not [22, 16, 15] 25 15 (by kernel_rfl) rfl hlf
                      have e0 : a.eval (.tmp 171) = .pointer (some ⟨gx, j * 5, none⟩) := (hd 14 171 (by kernel_rfl) (by kernel_rfl)).1
                      exact wp_valF (v := .pointer (some ⟨gx, j * 5 + 1, none⟩)) (by unfold execOp; dsimp only; simp only [e0]; go_simp) ⟨_, rfl, rfl, hJ.next (by decide) (by decide) (by decide), fun _ _ _ _ h => h⟩
                    | 16, _, ho, hd, hlf, hall =>
                      obtain rfl := Option.some.inj ho
                      refine ⟨.inl rfl, ?_⟩
                      have hfs : ls 25 = false := hcl.not [22, 16] 25 16 (by kernel_rfl) rfl hlf
                      have e0 : a.eval (.tmp 172) = .pointer (some ⟨gx, j * 5 + 1, none⟩) := (hd 15 172 (by kernel_rfl) (by kernel_rfl)).1
                      have hc := hJ.cell hfs e1' hn3
                      exact wp_valF (v := .slice x.va x.x.ov.length x.vc) (by unfold execOp; dsimp only; simp only [e0]; simp [hc, go_sem]) ⟨_, rfl, rfl, hJ.next (by decide) (by decide) (by decide), fun _ _ _ _ h => h⟩
                    | 17, _, ho, hd, hlf, hall =>
                      obtain rfl := Option.some.inj ho
                      refine ⟨.inl rfl, ?_⟩
                      have hfs : ls 25 = false := hcl.not [22, 21, 20, 18, 17] 25 17 (by kernel_rfl) rfl hlf
                      have e0 : a.eval (.tmp 16) = .int .i64 (i : Int) := (hs 16 (notDst (by kernel_rfl))).trans rfl
                      exact f_mvA rfl e0 ⟨_, rfl, rfl, hJ.next (by decide) (by decide) (by decide), fun _ _ _ _ h => h⟩
                    | 18, _, ho, hd, hlf, hall =>
                      obtain rfl := Option.some.inj ho
                      refine ⟨.inl rfl, ?_⟩
                      have hfs : ls 25 = false := hcl.not [22, 21, 20, 18] 25 18 (by kernel_rfl) rfl hlf
                      have e0 : a.eval (.tmp 174) = .int .i64 (i : Int) := (hd 17 174 (by kernel_rfl) (by kernel_rfl)).1
                      exact wp_valF (v := .int .i64 (-1 - (i : Int))) (by unfold execOp; dsimp only; simp only [e0]; go_simp) ⟨_, rfl, rfl, hJ.next (by decide) (by decide) (by decide), fun _ _ _ _ h => h⟩
                    | 19, _, ho, hd, hlf, hall =>
                      obtain rfl := Option.some.inj ho
                      refine ⟨.inl rfl, ?_⟩
                      have hfs : ls 25 = false := hcl.not [22, 21, 20, 19] 25 19 (by kernel_rfl) rfl hlf
                      have e0 : a.eval (.tmp 17) = .int .i64 (j : Int) := (hs 17 (notDst (by kernel_rfl))).trans rfl
                      exact f_mvA rfl e0 ⟨_, rfl, rfl, hJ.next (by decide) (by decide) (by decide), fun _ _ _ _ h => h⟩
                    | 20, _, ho, hd, hlf, hall =>
                      obtain rfl := Option.some.inj ho
                      refine ⟨.inl rfl, ?_⟩
                      have hfs : ls 25 = false := hcl.not [22, 21, 20] 25 20 (by kernel_rfl) rfl hlf
                      have e0 : a.eval (.tmp 175) = .int .i64 (-1 - (i : Int)) := (hd 18 175 (by kernel_rfl) (by kernel_rfl)).1
                      have e1 : a.eval (.tmp 176) = .int .i64 (j : Int) := (hd 19 176 (by kernel_rfl) (by kernel_rfl)).1
                      exact wp_valF (v := .int .i64 (-1 - (i : Int) - (j : Int))) (by unfold execOp; dsimp only; simp only [e0, e1]; go_simp) ⟨_, rfl, rfl, hJ.next (by decide) (by decide) (by decide), fun _ _ _ _ h => h⟩
                    | 21, _, ho, hd, hlf, hall =>
                      obtain rfl := Option.some.inj ho
                      refine ⟨.inl rfl, ?_⟩
                      have hfs : ls 25 = false := hcl.not [22, 21] 25 21 (by kernel_rfl) rfl hlf
                      have hfa : ls 22 = false := hcl.not [21] 22 21 (by kernel_rfl) rfl hlf
                      have e0 : a.eval (.tmp 177) = .int .i64 (-1 - (i : Int) - (j : Int)) := (hd 20 177 (by kernel_rfl) (by kernel_rfl)).1
                      exact f_bInt rfl e0 ⟨_, rfl, trivial, hJ.build (by decide) (by decide) hfa hfs, fun _ _ _ _ h => h⟩
                    | 22, _, ho, hd, hlf, hall =>
                      obtain rfl := Option.some.inj ho
                      refine ⟨.inl rfl, ?_⟩
                      have hfs : ls 25 = false := hcl.not [22] 25 22 (by kernel_rfl) rfl hlf
                      have e0 : a.eval (.tmp 173) = .slice x.va x.x.ov.length x.vc := (hd 16 173 (by kernel_rfl) (by kernel_rfl)).1
                      have hb := (hJ.ahead hlf).1
                      obtain ⟨b, hvb, hbk, hbw⟩ := (hJ.ahead hlf).2 (hall 21 (by kernel_rfl))
                      have e1 : a.eval (.tmp 178) = .slice (some ⟨b, 0, none⟩) 1 1 := ((hd 21 178 (by kernel_rfl) (by kernel_rfl)).2).trans hvb
                      refine wp_append_lies _ (.tmp 173) (.tmp 178) 36 rfl 0 3 i0 _ 1 8 Tryd.underlying36 hi0 hz0 hz1 hz2 rfl (by decide) (.slice x.va x.x.ov.length x.vc) x.x.ov.length (ics x.x.ov) e0 (row_below HRO.out hb) ⟨b, 0, none⟩ 1 1 ([.int .i64 (-1 - (i : Int) - (j : Int))]) e1 rfl ?_ (by simp [Value.oneCell']) (by decide) (by unfold maxLen; omega) (by omega) (Nat.zero_le _) _ rfl ?_
                      · intro q u hu
                        have ha : (⟨b, 0, none⟩ : Addr).add q = ⟨b, q, none⟩ := by unfold Addr.add; split <;> simp_all
                        rw [ha, cell_blk hbk]
                        simpa using hu
                      · intro g4 cap4 w4 ho4 hg4 hat4 hlt4
                        exact ⟨_, rfl, trivial, hJ.app (by decide) hlf hfs ho4 hg4 hat4, fun _ _ _ _ h => h⟩
                    | 23, _, ho, hd, hlf, hall =>
                      obtain rfl := Option.some.inj ho
                      refine ⟨.inl rfl, ?_⟩
                      have hfs : ls 25 = false := hcl.not [24, 23] 25 23 (by kernel_rfl) rfl hlf
                      have e0 : a.eval (.tmp 162) = .slice (some ⟨gx, 0, none⟩) nx t.xc := (hd 5 162 (by kernel_rfl) (by kernel_rfl)).1
                      have e1 : a.eval (.tmp 163) = .int .i64 (j : Int) := (hd 6 163 (by kernel_rfl) (by kernel_rfl)).1
                      exact wp_valF (v := .pointer (some ⟨gx, j * 5, none⟩)) (by unfold execOp; dsimp only; simp only [e0, e1]; go_simp) ⟨_, rfl, rfl, hJ.next (by decide) (by decide) (by decide), fun _ _ _ _ h => h⟩
                    | 24, _, ho, hd, hlf, hall =>
                      obtain rfl := Option.some.inj ho
                      refine ⟨.inl rfl, ?_⟩
                      have hfs : ls 25 = false := hcl.not [24] 25 24 (by kernel_rfl) rfl hlf
                      have e0 : a.eval (.tmp 180) = .pointer (some ⟨gx, j * 5, none⟩) := (hd 23 180 (by kernel_rfl) (by kernel_rfl)).1
                      exact wp_valF (v := .pointer (some ⟨gx, j * 5 + 1, none⟩)) (by unfold execOp; dsimp only; simp only [e0]; go_simp) ⟨_, rfl, rfl, hJ.next (by decide) (by decide) (by decide), fun _ _ _ _ h => h⟩
                    | 25, _, ho, hd, hlf, hall =>
                      obtain rfl := Option.some.inj ho
                      refine ⟨.inl rfl, ?_⟩
                      have e0 : a.eval (.tmp 181) = .pointer (some ⟨gx, j * 5 + 1, none⟩) := (hd 24 181 (by kernel_rfl) (by kernel_rfl)).1
                      have hta := hall 22 (by kernel_rfl)
                      obtain ⟨g4, cap4, hva, ho4, hg4⟩ := hJ.grown hta hlf
                      have e1 := ((hd 22 179 (by kernel_rfl) (by kernel_rfl)).2).trans hva
                      have hc := hJ.cell hlf e1' hn3
                      have hz : W.frozen? ⟨gx, j * 5 + 1, none⟩ = false := World.ownsRow.frozenAt (row_grew HRX.out hg4.out (rows_ne HRX.out HRO.out (by decide))) _
                      exact f_stSl (by decide) rfl e0 e1 hc hz ⟨_, rfl, trivial, hJ.store (by decide) hta hlf hva, fun _ _ _ _ h => h⟩
                    | q_ + 26, hq_, _, _, _, _ => exact absurd hq_ (by omega)
                  case tailC =>
                    intro vs W5 ls hls hJ hR
                    obtain ⟨g4, cap4, w4, hW5, HO4, HG4⟩ := hJ.stored (hls 25 (by decide))
                    have HR : Hid (L7 P w8 sb (.slice (some ⟨g2, 0, none⟩) n2 c2) i j nx (e + 1) W5) := by rw [hW5]; exact ⟨_, _, _, HA.out.growO HT.out HX.out HGX.out HO4.out HG4.out, HS.out.ov HT.out HX.out, by rw [List.getElem?_set_self (List.getElem?_eq_some_iff.1 HT.out).1], by simpa using hxl, by rw [List.getElem?_set_self (List.getElem?_eq_some_iff.1 HX.out).1]⟩
                    clear HA HS HT HX HGX HRO HRX HG4 HO4 s0 d2' e1' hn1 hn2 hn3 l1 l2 l3 hW5 hls hJ hR hi0 hz0 hz1 hz2
                    clear i0
                    simp only [putL, put_lit, List.setIfInBounds_toArray, List.set_cons_succ, List.set_cons_zero]
                    go_wp2
                    go_roundw
                    case rel => exact ⟨e + 1, by omega, by go_num, HR⟩
                    case measure => simp [intOf]; omega
                · have HR : Hid (L6 P w8 sb (.slice (some ⟨g, 0, none⟩) n2 c2) i (j + 1) nx wr) := by
                    obtain rfl : e = 8 := by omega
                    obtain ⟨ts, t, x, h1, h2, h3, h4, h5⟩ := HI.out
                    exact ⟨ts, t, h1, h2.next, h3, h4⟩
                  clear HI
                  go_wp2
                  go_roundw
                  case rel => exact ⟨j + 1, by omega, by go_num, HR⟩
                  case measure => simp [intOf]; omega
            · have HL8 : Hid (L8 P w8 sb (.slice (some ⟨g, 0, none⟩) n2 c2) i 0 wr) := by
                obtain ⟨ts, t, h1, h2, h3, h4⟩ := HI.out
                exact ⟨ts, t, h1, h2.flds h3 (by omega), h3⟩
              clear HI
              go_wp2
              go_loopw [19] (fun y wr => ∃ e : Nat, e ≤ 8 ∧ y = .int .i64 e ∧ Hid (L8 P w8 sb (.slice (some ⟨g, 0, none⟩) n2 c2) i e wr)) (fun y _ => 8 - (intOf y).toNat)
              case atStart => exact ⟨0, Nat.zero_le _, rfl, HL8⟩
              case round =>
                clear HL8
                obtain ⟨e, he, rfl, HI⟩ := hrel
                by_cases hle : e < 8
                · obtain ⟨ts, t, HA, HS, HT⟩ : ∃ ts t, Hid (ApI P w8 sb (.slice (some ⟨g, 0, none⟩) n2 c2) ts wr) ∧ Hid (S3 i e ts) ∧ Hid (ts[i]? = some t) := HI.out
                  obtain ⟨g2, hg2, d1, d2, hz⟩ := HA.out.tab HT.out
                  obtain rfl : g2 = g := by simpa using hg2.symm
                  have s0 := HA.out.s0
                  have d1' : wr.cell? ⟨g2, i * 3 + 1, none⟩ = some (.slice t.fa t.fs.length t.fc) := d1
                  have hom := HS.out.most HT.out
                  have hro := HA.out.wd.fs i t HT.out
                  have hn1 : some sb ≠ t.fv.ownBlock := fun q => HA.out.out (HA.out.wd.pf i t HT.out sb q.symm)
                  have hn2 : some g2 ≠ t.fv.ownBlock := fun q => rows_ne hro HA.out.wd.row (by decide) g2 rfl q.symm
                  have l1 : sb < wr.heap.size := World.block_lt_of_cell? wr _ s0
                  have l2 : g2 < wr.heap.size := World.block_lt_of_cell? wr _ d1'
                  have HRT : Hid (wr.ownsRow 0 35 3 (.slice (some ⟨g2, 0, none⟩) n2 c2) n2 (tcs ts)) := HA.out.row
                  have HRO : Hid (wr.ownsRow 0 40 2 (.slice t.fa t.fs.length t.fc) t.fs.length (fcs t.fs)) := hro
                  clear HI d1 d2 hg2 hz hro
                  have qw1 : IntKind.i64.wrap (200 + (i : Int)) = 200 + (i : Int) := by rw [IntKind.wrap_i64]; omega
                  obtain ⟨i0, hi0, hz0, hz1, hz2⟩ := info_of info_field
                  go_wp2_with fail
                  refine wp_region_W 17 (JG 40 2 t.fs.length (fcs t.fs) [.string ⟨#[109, 111, 114, 101]⟩, .int .i64 (200 + (i : Int))] (.slice t.fa t.fs.length t.fc) ⟨g2, i * 3 + 1, none⟩ 12 13 16 wr) (fun q_ v W => match q_ with | 0 => v = .pointer (some ⟨sb, 0, none⟩) | 1 => v = .slice (some ⟨g2, 0, none⟩) n2 c2 | 2 => v = .int .i64 (i : Int) | 3 => v = .pointer (some ⟨sb, 0, none⟩) | 4 => v = .slice (some ⟨g2, 0, none⟩) n2 c2 | 5 => v = .int .i64 (i : Int) | 6 => v = .pointer (some ⟨g2, i * 3, none⟩) | 7 => v = .pointer (some ⟨g2, i * 3 + 1, none⟩) | 8 => v = .slice t.fa t.fs.length t.fc | 9 => v = .int .i64 (i : Int) | 10 => v = .int .i64 (200 + (i : Int)) | 11 => v = .agg #[.string ⟨#[109, 111, 114, 101]⟩, .int .i64 (200 + (i : Int))] | 14 => v = .pointer (some ⟨g2, i * 3, none⟩) | 15 => v = .pointer (some ⟨g2, i * 3 + 1, none⟩) | _ => True) (by kernel_rfl) rfl (by kernel_rfl) (by kernel_rfl) [some 187, some 188, some 189, some 190, some 191, some 192, some 193, some 194, some 195, some 196, some 197, some 198, some 199, some 200, some 201, some 202, none] (by kernel_rfl) ?J0A ?hopA ?tailA
                  case J0A => exact fun W vs hW => JG.start (by decide) hW
                  case hopA =>
                    intro q_ o hq_ ho a W ls vs hJ hlf hcl hs hd hall
                    match q_, hq_, ho, hd, hlf, hall with
                    | 0, _, ho, hd, hlf, hall =>
                      obtain rfl := Option.some.inj ho
                      refine ⟨.inl rfl, ?_⟩
                      have hfs : ls 16 = false := hcl.not [15, 14, 1, 0] 16 0 (by kernel_rfl) rfl hlf
                      have e0 : a.eval (.tmp 6) = .pointer (some ⟨sb, 0, none⟩) := (hs 6 (notDst (by kernel_rfl))).trans rfl
                      exact wp_valF (v := .pointer (some ⟨sb, 0, none⟩)) (by unfold execOp; dsimp only; simp only [e0]; go_simp) ⟨_, rfl, rfl, hJ.next (by decide) (by decide) (by decide), fun _ _ _ _ h => h⟩
                    | 1, _, ho, hd, hlf, hall =>
                      obtain rfl := Option.some.inj ho
                      refine ⟨.inl rfl, ?_⟩
                      have hfs : ls 16 = false := hcl.not [15, 14, 1] 16 1 (by kernel_rfl) rfl hlf
                      have e0 : a.eval (.tmp 187) = .pointer (some ⟨sb, 0, none⟩) := (hd 0 187 (by kernel_rfl) (by kernel_rfl)).1
                      have hc := hJ.cell hfs s0 hn1
                      exact wp_valF (v := .slice (some ⟨g2, 0, none⟩) n2 c2) (by unfold execOp; dsimp only; simp only [e0]; simp [hc, go_sem]) ⟨_, rfl, rfl, hJ.next (by decide) (by decide) (by decide), fun _ _ _ _ h => h⟩
                    | 2, _, ho, hd, hlf, hall =>
                      obtain rfl := Option.some.inj ho
                      refine ⟨.inl rfl, ?_⟩
                      have hfs : ls 16 = false := hcl.not [15, 14, 2] 16 2 (by kernel_rfl) rfl hlf
                      have e0 : a.eval (.tmp 16) = .int .i64 (i : Int) := (hs 16 (notDst (by kernel_rfl))).trans rfl
                      exact f_mvA rfl e0 ⟨_, rfl, rfl, hJ.next (by decide) (by decide) (by decide), fun _ _ _ _ h => h⟩
                    | 3, _, ho, hd, hlf, hall =>
                      obtain rfl := Option.some.inj ho
                      refine ⟨.inl rfl, ?_⟩
                      have hfs : ls 16 = false := hcl.not [13, 8, 7, 6, 4, 3] 16 3 (by kernel_rfl) rfl hlf
                      have e0 : a.eval (.tmp 6) = .pointer (some ⟨sb, 0, none⟩) := (hs 6 (notDst (by kernel_rfl))).trans rfl
                      exact wp_valF (v := .pointer (some ⟨sb, 0, none⟩)) (by unfold execOp; dsimp only; simp only [e0]; go_simp) ⟨_, rfl, rfl, hJ.next (by decide) (by decide) (by decide), fun _ _ _ _ h => h⟩
                    | 4, _, ho, hd, hlf, hall =>
                      obtain rfl := Option.some.inj ho
                      refine ⟨.inl rfl, ?_⟩
                      have hfs : ls 16 = false := hcl.not [13, 8, 7, 6, 4] 16 4 (by kernel_rfl) rfl hlf
                      have e0 : a.eval (.tmp 190) = .pointer (some ⟨sb, 0, none⟩) := (hd 3 190 (by kernel_rfl) (by kernel_rfl)).1
                      have hc := hJ.cell hfs s0 hn1
                      exact wp_valF (v := .slice (some ⟨g2, 0, none⟩) n2 c2) (by unfold execOp; dsimp only; simp only [e0]; simp [hc, go_sem]) ⟨_, rfl, rfl, hJ.next (by decide) (by decide) (by decide), fun _ _ _ _ h => h⟩
                    | 5, _, ho, hd, hlf, hall =>
                      obtain rfl := Option.some.inj ho
                      refine ⟨.inl rfl, ?_⟩
                      have hfs : ls 16 = false := hcl.not [13, 8, 7, 6, 5] 16 5 (by kernel_rfl) rfl hlf
                      have e0 : a.eval (.tmp 16) = .int .i64 (i : Int) := (hs 16 (notDst (by kernel_rfl))).trans rfl
                      exact f_mvA rfl e0 ⟨_, rfl, rfl, hJ.next (by decide) (by decide) (by decide), fun _ _ _ _ h => h⟩
                    | 6, _, ho, hd, hlf, hall =>
                      obtain rfl := Option.some.inj ho
                      refine ⟨.inl rfl, ?_⟩
                      have hfs : ls 16 = false := hcl.not [13, 8, 7, 6] 16 6 (by kernel_rfl) rfl hlf
                      have e0 : a.eval (.tmp 191) = .slice (some ⟨g2, 0, none⟩) n2 c2 := (hd 4 191 (by kernel_rfl) (by kernel_rfl)).1
                      have e1 : a.eval (.tmp 192) = .int .i64 (i : Int) := (hd 5 192 (by kernel_rfl) (by kernel_rfl)).1
                      exact wp_valF (v := .pointer (some ⟨g2, i * 3, none⟩)) (by unfold execOp; dsimp only; simp only [e0, e1]; go_simp) ⟨_, rfl, rfl, hJ.next (by decide) (by decide) (by decide), fun _ _ _ _ h => h⟩
                    | 7, _, ho, hd, hlf, hall =>
                      obtain rfl := Option.some.inj ho
                      refine ⟨.inl rfl, ?_⟩
                      have hfs : ls 16 = false := hcl.not [13, 8, 7] 16 7 (by kernel_rfl) rfl hlf
                      have e0 : a.eval (.tmp 193) = .pointer (some ⟨g2, i * 3, none⟩) := (hd 6 193 (by kernel_rfl) (by kernel_rfl)).1
                      exact wp_valF (v := .pointer (some ⟨g2, i * 3 + 1, none⟩)) (by unfold execOp; dsimp only; simp only [e0]; go_simp) ⟨_, rfl, rfl, hJ.next (by decide) (by decide) (by decide), fun _ _ _ _ h => h⟩
                    | 8, _, ho, hd, hlf, hall =>
                      obtain rfl := Option.some.inj ho
                      refine ⟨.inl rfl, ?_⟩
                      have hfs : ls 16 = false := hcl.not [13, 8] 16 8 (by kernel_rfl) rfl hlf
                      have e0 : a.eval (.tmp 194) = .pointer (some ⟨g2, i * 3 + 1, none⟩) := (hd 7 194 (by kernel_rfl) (by kernel_rfl)).1
                      have hc := hJ.cell hfs d1' hn2
                      exact wp_valF (v := .slice t.fa t.fs.length t.fc) (by unfold execOp; dsimp only; simp only [e0]; simp [hc, go_sem]) ⟨_, rfl, rfl, hJ.next (by decide) (by decide) (by decide), fun _ _ _ _ h => h⟩
                    | 9, _, ho, hd, hlf, hall =>
                      obtain rfl := Option.some.inj ho
                      refine ⟨.inl rfl, ?_⟩
                      have hfs : ls 16 = false := hcl.not [13, 12, 11, 10, 9] 16 9 (by kernel_rfl) rfl hlf
                      have e0 : a.eval (.tmp 16) = .int .i64 (i : Int) := (hs 16 (notDst (by kernel_rfl))).trans rfl
                      exact f_mvA rfl e0 ⟨_, rfl, rfl, hJ.next (by decide) (by decide) (by decide), fun _ _ _ _ h => h⟩
                    | 10, _, ho, hd, hlf, hall =>
                      obtain rfl := Option.some.inj ho
                      refine ⟨.inl rfl, ?_⟩
                      have hfs : ls 16 = false := hcl.not [13, 12, 11, 10] 16 10 (by kernel_rfl) rfl hlf
                      have e0 : a.eval (.tmp 196) = .int .i64 (i : Int) := (hd 9 196 (by kernel_rfl) (by kernel_rfl)).1
                      exact wp_valF (v := .int .i64 (200 + (i : Int))) (by unfold execOp; dsimp only; simp only [e0]; go_simp) ⟨_, rfl, rfl, hJ.next (by decide) (by decide) (by decide), fun _ _ _ _ h => h⟩
                    | 11, _, ho, hd, hlf, hall =>
                      obtain rfl := Option.some.inj ho
                      refine ⟨.inl rfl, ?_⟩
                      have hfs : ls 16 = false := hcl.not [13, 12, 11] 16 11 (by kernel_rfl) rfl hlf
                      have e0 : a.eval (.tmp 197) = .int .i64 (200 + (i : Int)) := (hd 10 197 (by kernel_rfl) (by kernel_rfl)).1
                      exact wp_valF (v := .agg #[.string ⟨#[109, 111, 114, 101]⟩, .int .i64 (200 + (i : Int))]) (by unfold execOp; dsimp only; simp only [List.map_toArray, List.map_cons, List.map_nil, e0]; go_simp) ⟨_, rfl, rfl, hJ.next (by decide) (by decide) (by decide), fun _ _ _ _ h => h⟩
                    | 12, _, ho, hd, hlf, hall =>
                      obtain rfl := Option.some.inj ho
                      refine ⟨.inl rfl, ?_⟩
                      have hfs : ls 16 = false := hcl.not [13, 12] 16 12 (by kernel_rfl) rfl hlf
                      have hfa : ls 13 = false := hcl.not [12] 13 12 (by kernel_rfl) rfl hlf
                      have e0 : a.eval (.tmp 198) = .agg #[.string ⟨#[109, 111, 114, 101]⟩, .int .i64 (200 + (i : Int))] := (hd 11 198 (by kernel_rfl) (by kernel_rfl)).1
                      exact f_bFld rfl e0 ⟨_, rfl, trivial, hJ.build (by decide) (by decide) hfa hfs, fun _ _ _ _ h => h⟩
                    | 13, _, ho, hd, hlf, hall =>
                      obtain rfl := Option.some.inj ho
                      refine ⟨.inl rfl, ?_⟩
                      have hfs : ls 16 = false := hcl.not [13] 16 13 (by kernel_rfl) rfl hlf
                      have e0 : a.eval (.tmp 195) = .slice t.fa t.fs.length t.fc := (hd 8 195 (by kernel_rfl) (by kernel_rfl)).1
                      have hb := (hJ.ahead hlf).1
                      obtain ⟨b, hvb, hbk, hbw⟩ := (hJ.ahead hlf).2 (hall 12 (by kernel_rfl))
                      have e1 : a.eval (.tmp 199) = .slice (some ⟨b, 0, none⟩) 1 1 := ((hd 12 199 (by kernel_rfl) (by kernel_rfl)).2).trans hvb
                      refine wp_append_lies _ (.tmp 195) (.tmp 199) 32 rfl 0 40 i0 _ 2 24 Tryd.underlying32 hi0 hz0 hz1 hz2 rfl (by decide) (.slice t.fa t.fs.length t.fc) t.fs.length (fcs t.fs) e0 (row_below HRO.out hb) ⟨b, 0, none⟩ 1 1 ([.string ⟨#[109, 111, 114, 101]⟩, .int .i64 (200 + (i : Int))]) e1 rfl ?_ (by simp [Value.oneCell']) (by decide) (by unfold maxLen; omega) (by omega) (Nat.zero_le _) _ rfl ?_
                      · intro q u hu
                        have ha : (⟨b, 0, none⟩ : Addr).add q = ⟨b, q, none⟩ := by unfold Addr.add; split <;> simp_all
                        rw [ha, cell_blk hbk]
                        simpa using hu
                      · intro g4 cap4 w4 ho4 hg4 hat4 hlt4
                        exact ⟨_, rfl, trivial, hJ.app (by decide) hlf hfs ho4 hg4 hat4, fun _ _ _ _ h => h⟩
                    | 14, _, ho, hd, hlf, hall =>
                      obtain rfl := Option.some.inj ho
                      refine ⟨.inl rfl, ?_⟩
                      have hfs : ls 16 = false := hcl.not [15, 14] 16 14 (by kernel_rfl) rfl hlf
                      have e0 : a.eval (.tmp 188) = .slice (some ⟨g2, 0, none⟩) n2 c2 := (hd 1 188 (by kernel_rfl) (by kernel_rfl)).1
                      have e1 : a.eval (.tmp 189) = .int .i64 (i : Int) := (hd 2 189 (by kernel_rfl) (by kernel_rfl)).1
                      exact wp_valF (v := .pointer (some ⟨g2, i * 3, none⟩)) (by unfold execOp; dsimp only; simp only [e0, e1]; go_simp) ⟨_, rfl, rfl, hJ.next (by decide) (by decide) (by decide), fun _ _ _ _ h => h⟩
                    | 15, _, ho, hd, hlf, hall =>
                      obtain rfl := Option.some.inj ho
                      refine ⟨.inl rfl, ?_⟩
                      have hfs : ls 16 = false := hcl.not [15] 16 15 (by kernel_rfl) rfl hlf
                      have e0 : a.eval (.tmp 201) = .pointer (some ⟨g2, i * 3, none⟩) := (hd 14 201 (by kernel_rfl) (by kernel_rfl)).1
                      exact wp_valF (v := .pointer (some ⟨g2, i * 3 + 1, none⟩)) (by unfold execOp; dsimp only; simp only [e0]; go_simp) ⟨_, rfl, rfl, hJ.next (by decide) (by decide) (by decide), fun _ _ _ _ h => h⟩
                    | 16, _, ho, hd, hlf, hall =>
                      obtain rfl := Option.some.inj ho
                      refine ⟨.inl rfl, ?_⟩
                      have e0 : a.eval (.tmp 202) = .pointer (some ⟨g2, i * 3 + 1, none⟩) := (hd 15 202 (by kernel_rfl) (by kernel_rfl)).1
                      have hta := hall 13 (by kernel_rfl)
                      obtain ⟨g4, cap4, hva, ho4, hg4⟩ := hJ.grown hta hlf
                      have e1 := ((hd 13 200 (by kernel_rfl) (by kernel_rfl)).2).trans hva
                      have hc := hJ.cell hlf d1' hn2
                      have hz : W.frozen? ⟨g2, i * 3 + 1, none⟩ = false := World.ownsRow.frozenAt (row_grew HRT.out hg4.out (rows_ne HRT.out HRO.out (by decide))) _
                      exact f_stSl (by decide) rfl e0 e1 hc hz ⟨_, rfl, trivial, hJ.store (by decide) hta hlf hva, fun _ _ _ _ h => h⟩
                    | q_ + 17, hq_, _, _, _, _ => exact absurd hq_ (by omega)
                  case tailA =>
                    intro vs W5 ls hls hJ hR
                    obtain ⟨g4, cap4, w4, hW5, HO4, HG4⟩ := hJ.stored (hls 16 (by decide))
                    have HB : Hid (ApI P w8 sb (.slice (some ⟨g2, 0, none⟩) n2 c2) (ts.set i { t with fs := t.fs ++ [⟨⟨#[109, 111, 114, 101]⟩, 200 + (i : Int)⟩], fa := some ⟨g4, 0, none⟩, fc := cap4 }) W5) := by rw [hW5]; exact HA.out.growF HT.out HO4.out HG4.out
                    have HT1 : Hid ((ts.set i { t with fs := t.fs ++ [⟨⟨#[109, 111, 114, 101]⟩, 200 + (i : Int)⟩], fa := some ⟨g4, 0, none⟩, fc := cap4 })[i]? = some { t with fs := t.fs ++ [⟨⟨#[109, 111, 114, 101]⟩, 200 + (i : Int)⟩], fa := some ⟨g4, 0, none⟩, fc := cap4 }) := by rw [Hid, List.getElem?_set_self (List.getElem?_eq_some_iff.1 HT.out).1]
                    clear HA HRO HRT HG4 HO4 s0 d1' hn1 hn2 l1 l2 hi0 hz0 hz1 hz2 hW5 hls hJ hR
                    clear i0
                    simp only [putL, put_lit, List.setIfInBounds_toArray, List.set_cons_succ, List.set_cons_zero]
                    go_wp2_with fail
                    obtain ⟨g3, hg3, d1, d2, hz⟩ := HB.out.tab HT1.out
                    obtain rfl : g3 = g2 := by simpa using hg3.symm
                    have s0 := HB.out.s0
                    have d2' : W5.cell? ⟨g3, i * 3 + 2, none⟩ = some (.slice t.xa t.xs.length t.xc) := d2
                    have hro0 := HB.out.wd.xs i _ HT1.out
                    have hro : W5.ownsRow 0 38 5 t.xv t.xs.length (xcs t.xs) := hro0
                    clear hro0
                    have hn1 : some sb ≠ t.xv.ownBlock := fun q => HB.out.out (HB.out.wd.px i _ HT1.out sb q.symm)
                    have hn2 : some g3 ≠ t.xv.ownBlock := fun q => rows_ne hro HB.out.wd.row (by decide) g3 rfl q.symm
                    have HRT : Hid (W5.ownsRow 0 35 3 (.slice (some ⟨g3, 0, none⟩) n2 c2) n2 _) := HB.out.row
                    have HRO : Hid (W5.ownsRow 0 38 5 (.slice t.xa t.xs.length t.xc) t.xs.length (xcs t.xs)) := hro
                    clear d1 d2 hg3 hz hro
                    obtain ⟨i0, hi0, hz0, hz1, hz2⟩ := info_of info_index
                    refine wp_region_W 15 (JG 38 5 t.xs.length (xcs t.xs) [.string ⟨#[109, 111, 114, 101]⟩, .slice none 0 0, .bool false, .bool false, .bool false] (.slice t.xa t.xs.length t.xc) ⟨g3, i * 3 + 2, none⟩ 10 11 14 W5) (fun q_ v W => match q_ with | 0 => v = .pointer (some ⟨sb, 0, none⟩) | 1 => v = .slice (some ⟨g3, 0, none⟩) n2 c2 | 2 => v = .int .i64 (i : Int) | 3 => v = .pointer (some ⟨sb, 0, none⟩) | 4 => v = .slice (some ⟨g3, 0, none⟩) n2 c2 | 5 => v = .int .i64 (i : Int) | 6 => v = .pointer (some ⟨g3, i * 3, none⟩) | 7 => v = .pointer (some ⟨g3, i * 3 + 2, none⟩) | 8 => v = .slice t.xa t.xs.length t.xc | 9 => v = .agg #[.string ⟨#[109, 111, 114, 101]⟩, .slice none 0 0, .bool false, .bool false, .bool false] | 12 => v = .pointer (some ⟨g3, i * 3, none⟩) | 13 => v = .pointer (some ⟨g3, i * 3 + 2, none⟩) | _ => True) (by kernel_rfl) rfl (by kernel_rfl) (by kernel_rfl) [some 203, some 204, some 205, some 206, some 207, some 208, some 209, some 210, some 211, some 212, some 213, some 214, some 215, some 216, none] (by kernel_rfl) ?J0B ?hopB ?tailB
                    case J0B => exact fun W vs hW => JG.start (by decide) hW
                    case hopB =>
                      intro q_ o hq_ ho a W ls vs hJ hlf hcl hs hd hall
                      match q_, hq_, ho, hd, hlf, hall with
                      | 0, _, ho, hd, hlf, hall =>
                        obtain rfl := Option.some.inj ho
                        refine ⟨.inl rfl, ?_⟩
                        have hfs : ls 14 = false := hcl.not [13, 12, 1, 0] 14 0 (by kernel_rfl) rfl hlf
                        have e0 : a.eval (.tmp 6) = .pointer (some ⟨sb, 0, none⟩) := (hs 6 (notDst (by kernel_rfl))).trans rfl
                        exact wp_valF (v := .pointer (some ⟨sb, 0, none⟩)) (by unfold execOp; dsimp only; simp only [e0]; go_simp) ⟨_, rfl, rfl, hJ.next (by decide) (by decide) (by decide), fun _ _ _ _ h => h⟩
                      | 1, _, ho, hd, hlf, hall =>
                        obtain rfl := Option.some.inj ho
                        refine ⟨.inl rfl, ?_⟩
                        have hfs : ls 14 = false := hcl.not [13, 12, 1] 14 1 (by kernel_rfl) rfl hlf
                        have e0 : a.eval (.tmp 203) = .pointer (some ⟨sb, 0, none⟩) := (hd 0 203 (by kernel_rfl) (by kernel_rfl)).1
                        have hc := hJ.cell hfs s0 hn1
                        exact wp_valF (v := .slice (some ⟨g3, 0, none⟩) n2 c2) (by unfold execOp; dsimp only; simp only [e0]; simp [hc, go_sem]) ⟨_, rfl, rfl, hJ.next (by decide) (by decide) (by decide), fun _ _ _ _ h => h⟩
                      | 2, _, ho, hd, hlf, hall =>
                        obtain rfl := Option.some.inj ho
                        refine ⟨.inl rfl, ?_⟩
                        have hfs : ls 14 = false := hcl.not [13, 12, 2] 14 2 (by kernel_rfl) rfl hlf
                        have e0 : a.eval (.tmp 16) = .int .i64 (i : Int) := (hs 16 (notDst (by kernel_rfl))).trans rfl
                        exact f_mvA rfl e0 ⟨_, rfl, rfl, hJ.next (by decide) (by decide) (by decide), fun _ _ _ _ h => h⟩
                      | 3, _, ho, hd, hlf, hall =>
                        obtain rfl := Option.some.inj ho
                        refine ⟨.inl rfl, ?_⟩
                        have hfs : ls 14 = false := hcl.not [11, 8, 7, 6, 4, 3] 14 3 (by kernel_rfl) rfl hlf
                        have e0 : a.eval (.tmp 6) = .pointer (some ⟨sb, 0, none⟩) := (hs 6 (notDst (by kernel_rfl))).trans rfl
                        exact wp_valF (v := .pointer (some ⟨sb, 0, none⟩)) (by unfold execOp; dsimp only; simp only [e0]; go_simp) ⟨_, rfl, rfl, hJ.next (by decide) (by decide) (by decide), fun _ _ _ _ h => h⟩
                      | 4, _, ho, hd, hlf, hall =>
                        obtain rfl := Option.some.inj ho
                        refine ⟨.inl rfl, ?_⟩
                        have hfs : ls 14 = false := hcl.not [11, 8, 7, 6, 4] 14 4 (by kernel_rfl) rfl hlf
                        have e0 : a.eval (.tmp 206) = .pointer (some ⟨sb, 0, none⟩) := (hd 3 206 (by kernel_rfl) (by kernel_rfl)).1
                        have hc := hJ.cell hfs s0 hn1
                        exact wp_valF (v := .slice (some ⟨g3, 0, none⟩) n2 c2) (by unfold execOp; dsimp only; simp only [e0]; simp [hc, go_sem]) ⟨_, rfl, rfl, hJ.next (by decide) (by decide) (by decide), fun _ _ _ _ h => h⟩
                      | 5, _, ho, hd, hlf, hall =>
                        obtain rfl := Option.some.inj ho
                        refine ⟨.inl rfl, ?_⟩
                        have hfs : ls 14 = false := hcl.not [11, 8, 7, 6, 5] 14 5 (by kernel_rfl) rfl hlf
                        have e0 : a.eval (.tmp 16) = .int .i64 (i : Int) := (hs 16 (notDst (by kernel_rfl))).trans rfl
                        exact f_mvA rfl e0 ⟨_, rfl, rfl, hJ.next (by decide) (by decide) (by decide), fun _ _ _ _ h => h⟩
                      | 6, _, ho, hd, hlf, hall =>
                        obtain rfl := Option.some.inj ho
                        refine ⟨.inl rfl, ?_⟩
                        have hfs : ls 14 = false := hcl.not [11, 8, 7, 6] 14 6 (by kernel_rfl) rfl hlf
                        have e0 : a.eval (.tmp 207) = .slice (some ⟨g3, 0, none⟩) n2 c2 := (hd 4 207 (by kernel_rfl) (by kernel_rfl)).1
                        have e1 : a.eval (.tmp 208) = .int .i64 (i : Int) := (hd 5 208 (by kernel_rfl) (by kernel_rfl)).1
                        exact wp_valF (v := .pointer (some ⟨g3, i * 3, none⟩)) (by unfold execOp; dsimp only; simp only [e0, e1]; go_simp) ⟨_, rfl, rfl, hJ.next (by decide) (by decide) (by decide), fun _ _ _ _ h => h⟩
                      | 7, _, ho, hd, hlf, hall =>
                        obtain rfl := Option.some.inj ho
                        refine ⟨.inl rfl, ?_⟩
                        have hfs : ls 14 = false := hcl.not [11, 8, 7] 14 7 (by kernel_rfl) rfl hlf
                        have e0 : a.eval (.tmp 209) = .pointer (some ⟨g3, i * 3, none⟩) := (hd 6 209 (by kernel_rfl) (by kernel_rfl)).1
                        exact wp_valF (v := .pointer (some ⟨g3, i * 3 + 2, none⟩)) (by unfold execOp; dsimp only; simp only [e0]; go_simp) ⟨_, rfl, rfl, hJ.next (by decide) (by decide) (by decide), fun _ _ _ _ h => h⟩
                      | 8, _, ho, hd, hlf, hall =>
                        obtain rfl := Option.some.inj ho
                        refine ⟨.inl rfl, ?_⟩
                        have hfs : ls 14 = false := hcl.not [11, 8] 14 8 (by kernel_rfl) rfl hlf
                        have e0 : a.eval (.tmp 210) = .pointer (some ⟨g3, i * 3 + 2, none⟩) := (hd 7 210 (by kernel_rfl) (by kernel_rfl)).1
                        have hc := hJ.cell hfs d2' hn2
                        exact wp_valF (v := .slice t.xa t.xs.length t.xc) (by unfold execOp; dsimp only; simp only [e0]; simp [hc, go_sem]) ⟨_, rfl, rfl, hJ.next (by decide) (by decide) (by decide), fun _ _ _ _ h => h⟩
                      | 9, _, ho, hd, hlf, hall =>
                        obtain rfl := Option.some.inj ho
                        refine ⟨.inl rfl, ?_⟩
                        have hfs : ls 14 = false := hcl.not [11, 10, 9] 14 9 (by kernel_rfl) rfl hlf
                        exact wp_valF (v := .agg #[.string ⟨#[109, 111, 114, 101]⟩, .slice none 0 0, .bool false, .bool false, .bool false]) (by unfold execOp; dsimp only; simp only [List.map_toArray, List.map_cons, List.map_nil, Act.eval]; go_simp) ⟨_, rfl, rfl, hJ.next (by decide) (by decide) (by decide), fun _ _ _ _ h => h⟩
                      | 10, _, ho, hd, hlf, hall =>
                        obtain rfl := Option.some.inj ho
                        refine ⟨.inl rfl, ?_⟩
                        have hfs : ls 14 = false := hcl.not [11, 10] 14 10 (by kernel_rfl) rfl hlf
                        have hfa : ls 11 = false := hcl.not [10] 11 10 (by kernel_rfl) rfl hlf
                        have e0 : a.eval (.tmp 212) = .agg #[.string ⟨#[109, 111, 114, 101]⟩, .slice none 0 0, .bool false, .bool false, .bool false] := (hd 9 212 (by kernel_rfl) (by kernel_rfl)).1
                        exact f_bIdx rfl e0 ⟨_, rfl, trivial, hJ.build (by decide) (by decide) hfa hfs, fun _ _ _ _ h => h⟩
                      | 11, _, ho, hd, hlf, hall =>
                        obtain rfl := Option.some.inj ho
                        refine ⟨.inl rfl, ?_⟩
                        have hfs : ls 14 = false := hcl.not [11] 14 11 (by kernel_rfl) rfl hlf
                        have e0 : a.eval (.tmp 211) = .slice t.xa t.xs.length t.xc := (hd 8 211 (by kernel_rfl) (by kernel_rfl)).1
                        have hb := (hJ.ahead hlf).1
                        obtain ⟨b, hvb, hbk, hbw⟩ := (hJ.ahead hlf).2 (hall 10 (by kernel_rfl))
                        have e1 : a.eval (.tmp 213) = .slice (some ⟨b, 0, none⟩) 1 1 := ((hd 10 213 (by kernel_rfl) (by kernel_rfl)).2).trans hvb
                        refine wp_append_lies _ (.tmp 211) (.tmp 213) 33 rfl 0 38 i0 _ 5 48 Tryd.underlying33 hi0 hz0 hz1 hz2 rfl (by decide) (.slice t.xa t.xs.length t.xc) t.xs.length (xcs t.xs) e0 (row_below HRO.out hb) ⟨b, 0, none⟩ 1 1 ([.string ⟨#[109, 111, 114, 101]⟩, .slice none 0 0, .bool false, .bool false, .bool false]) e1 rfl ?_ (by simp [Value.oneCell']) (by decide) (by unfold maxLen; omega) (by omega) (Nat.zero_le _) _ rfl ?_
                        · intro q u hu
                          have ha : (⟨b, 0, none⟩ : Addr).add q = ⟨b, q, none⟩ := by unfold Addr.add; split <;> simp_all
                          rw [ha, cell_blk hbk]
                          simpa using hu
                        · intro g4 cap4 w4 ho4 hg4 hat4 hlt4
                          exact ⟨_, rfl, trivial, hJ.app (by decide) hlf hfs ho4 hg4 hat4, fun _ _ _ _ h => h⟩
                      | 12, _, ho, hd, hlf, hall =>
                        obtain rfl := Option.some.inj ho
                        refine ⟨.inl rfl, ?_⟩
                        have hfs : ls 14 = false := hcl.not [13, 12] 14 12 (by kernel_rfl) rfl hlf
                        have e0 : a.eval (.tmp 204) = .slice (some ⟨g3, 0, none⟩) n2 c2 := (hd 1 204 (by kernel_rfl) (by kernel_rfl)).1
                        have e1 : a.eval (.tmp 205) = .int .i64 (i : Int) := (hd 2 205 (by kernel_rfl) (by kernel_rfl)).1
                        exact wp_valF (v := .pointer (some ⟨g3, i * 3, none⟩)) (by unfold execOp; dsimp only; simp only [e0, e1]; go_simp) ⟨_, rfl, rfl, hJ.next (by decide) (by decide) (by decide), fun _ _ _ _ h => h⟩
                      | 13, _, ho, hd, hlf, hall =>
                        obtain rfl := Option.some.inj ho
                        refine ⟨.inl rfl, ?_⟩
                        have hfs : ls 14 = false := hcl.not [13] 14 13 (by kernel_rfl) rfl hlf
                        have e0 : a.eval (.tmp 215) = .pointer (some ⟨g3, i * 3, none⟩) := (hd 12 215 (by kernel_rfl) (by kernel_rfl)).1
                        exact wp_valF (v := .pointer (some ⟨g3, i * 3 + 2, none⟩)) (by unfold execOp; dsimp only; simp only [e0]; go_simp) ⟨_, rfl, rfl, hJ.next (by decide) (by decide) (by decide), fun _ _ _ _ h => h⟩
                      | 14, _, ho, hd, hlf, hall =>
                        obtain rfl := Option.some.inj ho
                        refine ⟨.inl rfl, ?_⟩
                        have e0 : a.eval (.tmp 216) = .pointer (some ⟨g3, i * 3 + 2, none⟩) := (hd 13 216 (by kernel_rfl) (by kernel_rfl)).1
                        have hta := hall 11 (by kernel_rfl)
                        obtain ⟨g4, cap4, hva, ho4, hg4⟩ := hJ.grown hta hlf
                        have e1 := ((hd 11 214 (by kernel_rfl) (by kernel_rfl)).2).trans hva
                        have hc := hJ.cell hlf d2' hn2
                        have hz : W.frozen? ⟨g3, i * 3 + 2, none⟩ = false := World.ownsRow.frozenAt (row_grew HRT.out hg4.out (rows_ne HRT.out HRO.out (by decide))) _
                        exact f_stSl (by decide) rfl e0 e1 hc hz ⟨_, rfl, trivial, hJ.store (by decide) hta hlf hva, fun _ _ _ _ h => h⟩
                      | q_ + 15, hq_, _, _, _, _ => exact absurd hq_ (by omega)
                    case tailB =>
                      intro vs W6 ls hls hJ hR
                      obtain ⟨g6, cap6, w6, hW6, HO6, HG6⟩ := hJ.stored (hls 14 (by decide))
                      have HR : Hid (L8 P w8 sb (.slice (some ⟨g3, 0, none⟩) n2 c2) i (e + 1) W6) := by rw [hW6]; exact ⟨_, _, HB.out.growX HT1.out HO6.out HG6.out, HS.out.more HT.out, by rw [List.getElem?_set_self (List.getElem?_eq_some_iff.1 HT1.out).1]⟩
                      clear HB HS HT HT1 HRO HRT HG6 HO6 s0 d2' hn1 hn2 hW6 hls hJ hR hi0 hz0 hz1 hz2
                      clear i0
                      simp only [putL, put_lit, List.setIfInBounds_toArray, List.set_cons_succ, List.set_cons_zero]
                      go_wp2
                      go_roundw
                      case rel => exact ⟨e + 1, by omega, by go_num, HR⟩
                      case measure => simp [intOf]; omega
                · have HR : Hid (L5 P w8 sb (.slice (some ⟨g, 0, none⟩) n2 c2) (i + 1) wr) := by
                    obtain rfl : e = 8 := by omega
                    obtain ⟨ts, t, h1, h2, h3⟩ := HI.out
                    exact ⟨ts, h1, h2.next⟩
                  clear HI
                  go_wp2
                  go_roundw
                  case rel => exact ⟨i + 1, by omega, by go_num, HR⟩
                  case measure => simp [intOf]; omega
        · obtain ⟨ts, HA, HD⟩ : ∃ ts, Hid (ApI P w8 sb (.slice a2 n2 c2) ts wr) ∧ Hid (∀ (i' : Nat) (t : TV), ts[i']? = some t → DM 8 8 i' t) := by
            obtain ⟨ts, h1, h2⟩ := HI.out
            exact ⟨ts, h1, h2.done (by rw [h1.len]; omega)⟩
          clear HI
          have s0 := HA.out.s0
          go_wp2
          clear s0 hlt hi
          go_loopw [20, 221] (fun s20 y wr => ∃ i : Nat, i ≤ n2 ∧ y = .int .i64 i ∧ Hid (ApI P w8 sb (.slice a2 n2 c2) ts wr)) (fun _ y _ => n2 - (intOf y).toNat)
          case atStart => exact ⟨0, Nat.zero_le _, rfl, HA⟩
          case round =>
            clear HA
            obtain ⟨i, hi, rfl, HA⟩ := hrel
            by_cases hlt : i < n2
            · obtain ⟨t, ht⟩ : ∃ t, ts[i]? = some t := ⟨ts[i]'(by rw [HA.out.len]; exact hlt), by simp⟩
              obtain ⟨g, hg, d1, d2, -⟩ := HA.out.tab ht
              subst hg
              have hdm := HD.out i t ht
              have HT : Hid (ts[i]? = some t) := ht
              clear ht d1
              obtain ⟨tn, fs, fa, fc, xs, xa, xc⟩ := t
              have d2' : wr.cell? ⟨g, i * 3 + 2, none⟩ = some (.slice xa xs.length xc) := d2
              have HXM : Hid (∀ (j : Nat) (x : XV), xs[j]? = some x → XM i j 8 x) := hdm.1
              have HFM : Hid (∀ (j : Nat) (f : Fd), fs[j]? = some f → (j + 8 < fs.length → f.k = 100 + (i : Int)) ∧ (fs.length ≤ j + 8 → f.k = 200 + (i : Int))) := hdm.2.1.1
              have hfl : fs.length ≤ 24 := hdm.2.1.2
              have hxl : xs.length ≤ 16 := hdm.2.2
              clear hdm d2
              have s0 := HA.out.s0
              go_wp2
              clear s0 d2'
              go_loopw [21, 22, 231] (fun s21 s22 y wr => ∃ j : Nat, j ≤ xs.length ∧ y = .int .i64 j ∧ Hid (ApI P w8 sb (.slice (some ⟨g, 0, none⟩) n2 c2) ts wr)) (fun _ _ y _ => xs.length - (intOf y).toNat)
              case atStart => exact ⟨0, Nat.zero_le _, rfl, HA⟩
              case round =>
                clear HA
                obtain ⟨j, hj, rfl, HA⟩ := hrel
                by_cases hlj : j < xs.length
                · obtain ⟨x, hx⟩ : ∃ x, xs[j]? = some x := ⟨xs[j], by simp⟩
                  obtain ⟨gx, hgx, e0, e1, e2, e3, e4, -⟩ := HA.out.idx HT.out hx
                  have hgx' : xa = some ⟨gx, 0, none⟩ := hgx
                  subst hgx'
                  have hxm := HXM.out j x hx
                  have HX : Hid (xs[j]? = some x) := hx
                  clear hgx hx
                  obtain ⟨⟨xn, ov, xu, xb, xs'⟩, va, vc⟩ := x
                  have e0' : wr.cell? ⟨gx, j * 5, none⟩ = some (.string xn) := e0
                  have e1' : wr.cell? ⟨gx, j * 5 + 1, none⟩ = some (.slice va ov.length vc) := e1
                  have e2' : wr.cell? ⟨gx, j * 5 + 2, none⟩ = some (.bool xu) := e2
                  have e3' : wr.cell? ⟨gx, j * 5 + 3, none⟩ = some (.bool xb) := e3
                  have e4' : wr.cell? ⟨gx, j * 5 + 4, none⟩ = some (.bool xs') := e4
                  have HOM : Hid (∀ (k : Nat) (p : Int), ov[k]? = some p → k + 8 < ov.length → p = 100 * (i : Int) + 10 * j + k) := hxm.1
                  have hol : ov.length ≤ 12 := hxm.2
                  clear e0 e1 e2 e3 e4 hxm
                  go_wp2
                  have hbx : Below wr.heap.size wr (wr.alloc (.cells #[.string xn, .slice va ov.length vc, .bool xu, .bool xb, .bool xs'] 38)) := (Below.refl _ _).alloc (Nat.le_refl _) _
                  have HA1 : Hid (ApI P w8 sb (.slice (some ⟨g, 0, none⟩) n2 c2) ts (wr.alloc (.cells #[.string xn, .slice va ov.length vc, .bool xu, .bool xb, .bool xs'] 38))) := HA.out.next hbx
                  have HB1 : Hid ((wr.alloc (.cells #[.string xn, .slice va ov.length vc, .bool xu, .bool xb, .bool xs'] 38)).cell? ⟨wr.heap.size, 1, none⟩ = some (.slice va ov.length vc)) := by rw [Hid, cell_blk (new_blk _ _)]; rfl
                  clear HA e0' e1' e2' e3' e4' hbx
                  obtain ⟨bx, hbx⟩ : ∃ bx, bx = wr.heap.size := ⟨_, rfl⟩
                  obtain ⟨wx, hwx⟩ : ∃ wx, wx = wr.alloc (.cells #[.string xn, .slice va ov.length vc, .bool xu, .bool xb, .bool xs'] 38) := ⟨_, rfl⟩
                  rw [← hwx] at HA1
                  rw [← hwx, ← hbx] at HB1
                  rw [← hwx, ← hbx]
                  clear hwx hbx
                  go_loopw [23, 24, 239] (fun s23 s24 y wr => ∃ k : Nat, k ≤ ov.length ∧ y = .int .i64 k ∧ Hid (ApI P w8 sb (.slice (some ⟨g, 0, none⟩) n2 c2) ts wr) ∧ Hid (wr.cell? ⟨bx, 1, none⟩ = some (.slice va ov.length vc))) (fun _ _ y _ => ov.length - (intOf y).toNat)
                  case atStart => exact ⟨0, Nat.zero_le _, rfl, HA1, HB1⟩
                  case round =>
                    clear HA1 HB1
                    obtain ⟨k, hk, rfl, HA, HB⟩ := hrel
                    by_cases hlk : k < ov.length
                    · obtain ⟨p, hp⟩ : ∃ p, ov[k]? = some p := ⟨ov[k], by simp⟩
                      obtain ⟨gv, hgv, f0, -⟩ := HA.out.ovc HT.out HX.out hp
                      have hgv' : va = some ⟨gv, 0, none⟩ := hgv
                      subst hgv'
                      have b1 := HB.out
                      have hpm := HOM.out k p hp
                      clear hp hgv
                      by_cases h8 : k + 8 < ov.length
                      · obtain rfl := hpm h8
                        have h8' : (k : Int) < (ov.length : Int) - 8 := by omega
                        go_wp2
                        go_roundw
                        case rel => exact ⟨k + 1, by omega, by go_num, HA, HB⟩
                        case measure => simp [intOf]; omega
                      · have h8' : ¬ (k : Int) < (ov.length : Int) - 8 := by omega
                        clear hpm
                        go_wp2
                        go_roundw
                        case rel => exact ⟨k + 1, by omega, by go_num, HA, HB⟩
                        case measure => simp [intOf]; omega
                    · go_wp2
                      go_roundw
                      case rel => exact ⟨j + 1, by omega, by go_num, HA⟩
                      case measure => simp [intOf]; omega
                · obtain ⟨g', hg', d1, -, -⟩ := HA.out.tab HT.out
                  obtain rfl : g' = g := by simpa using hg'.symm
                  have d1' : wr.cell? ⟨g', i * 3 + 1, none⟩ = some (.slice fa fs.length fc) := d1
                  have s0 := HA.out.s0
                  clear d1 hg'
                  go_wp2
                  clear s0 d1'
                  go_loopw [25, 26, 270] (fun s25 s26 y wr => ∃ l : Nat, l ≤ fs.length ∧ y = .int .i64 l ∧ Hid (ApI P w8 sb (.slice (some ⟨g', 0, none⟩) n2 c2) ts wr)) (fun _ _ y _ => fs.length - (intOf y).toNat)
                  case atStart => exact ⟨0, Nat.zero_le _, rfl, HA⟩
                  case round =>
                    clear HA
                    obtain ⟨l, hl, rfl, HA⟩ := hrel
                    by_cases hll : l < fs.length
                    · obtain ⟨f, hf⟩ : ∃ f, fs[l]? = some f := ⟨fs[l], by simp⟩
                      obtain ⟨gf, hgf, f0, f1, -⟩ := HA.out.fld HT.out hf
                      have hgf' : fa = some ⟨gf, 0, none⟩ := hgf
                      subst hgf'
                      have hfm := HFM.out l f hf
                      clear hf hgf
                      obtain ⟨fn, fk⟩ := f
                      have f0' : wr.cell? ⟨gf, l * 2, none⟩ = some (.string fn) := f0
                      have f1' : wr.cell? ⟨gf, l * 2 + 1, none⟩ = some (.int .i64 fk) := f1
                      clear f0 f1
                      obtain ⟨g3, hg3, d1, -, -⟩ := HA.out.tab HT.out
                      obtain rfl : g3 = g' := by simpa using hg3.symm
                      have HN : Hid (∀ o, ApI P w8 sb (.slice (some ⟨g3, 0, none⟩) n2 c2) ts (wr.alloc o)) := fun o => HA.out.next ((Below.refl _ _).alloc (Nat.le_refl _) o)
                      have s1 : ∀ o, (wr.alloc o).cell? ⟨sb, 0, none⟩ = some (.slice (some ⟨g3, 0, none⟩) n2 c2) := fun o => (HN.out o).s0
                      have d1' : ∀ o, (wr.alloc o).cell? ⟨g3, i * 3 + 1, none⟩ = some (.slice (some ⟨gf, 0, none⟩) fs.length fc) := fun o => cell_next d1 ((Below.refl _ _).alloc (Nat.le_refl _) o)
                      clear d1 hg3 HA
                      by_cases h8 : l + 8 < fs.length
                      · obtain rfl : fk = 100 + (i : Int) := hfm.1 h8
                        have h8' : (l : Int) < (fs.length : Int) - 8 := by omega
                        have h8'' : ¬ (fs.length : Int) - 8 ≤ (l : Int) := by omega
                        clear hfm
                        go_wp2
                        go_roundw
                        case rel => exact ⟨l + 1, by omega, by go_num, HN.out _⟩
                        case measure => simp [intOf]; omega
                      · obtain rfl : fk = 200 + (i : Int) := hfm.2 (by omega)
                        have h8' : ¬ (l : Int) < (fs.length : Int) - 8 := by omega
                        have h8'' : (fs.length : Int) - 8 ≤ (l : Int) := by omega
                        clear hfm
                        go_wp2
                        go_roundw
                        case rel => exact ⟨l + 1, by omega, by go_num, HN.out _⟩
                        case measure => simp [intOf]; omega
                    · go_wp2
                      go_roundw
                      case rel => exact ⟨i + 1, by omega, by go_num, HA⟩
                      case measure => simp [intOf]; omega
            · obtain ⟨t0, ts3, rfl, ht3, ee3⟩ := HF.out.t wr HA.out.kp
              obtain ⟨q0, ts1, rfl, ht1, ee1⟩ := HF.out.want wr HA.out.kp
              have HT1 : Hid (TabsRd wr a1 ts1) := ht1
              have HE1 : Hid (tbs ts1 = PA text) := ee1
              have HBR : Hid (Below w.heap.size w wr) := HF.out.below wr HA.out.kp
              have hsame := same_calls a3 a1 c3 c1 ts3 ts1 wr ht3 ht1 (ee3.trans ee1.symm)
              have HSA : Hid (Calls Tryd.prog 7 #[.agg #[.slice a3 ts3.length c3], .agg #[.slice a1 ts1.length c1]] wr fun e w' => e = .returned (.bool true) ∧ Below wr.heap.size wr w') := hsame
              have HM : Hid (w.cell? ⟨1, 0, none⟩ = some (.int .i64 mx)) := HF.out.mx
              have HK : Hid (KindsAt w) := HF.out.kinds
              have HQ : Hid (wr.cell? ⟨wb, 0, none⟩ = some (.slice a1 ts1.length c1)) := q0
              clear ht1 ht3 ee1 ee3 hsame HF HD HA
              go_wp2_with fail
              refine HSA.out.mono ?_
              rintro e w9 ⟨rfl, hb9⟩
              have HB9 : Hid (Below w.heap.size w w9) := HBR.out.trans (hb9.mono HBR.out.size)
              have HT9 : Hid (TabsRd w9 a1 ts1) := HT1.out.below hb9
              have HQ9 : Hid (w9.cell? ⟨wb, 0, none⟩ = some (.slice a1 ts1.length c1)) := cell_next HQ.out hb9
              clear hb9 HSA HBR HT1 HQ q0 t0
              go_wp2_with fail
              refine (parse_calls text w9 mx (cell_next HM.out HB9.out) (HK.out.next HB9.out)).mono ?_
              rintro e w10 h10
              obtain ⟨a4, c4, ts4, l4, rfl, H4⟩ := h10.all
              clear h10
              have hbA : ∀ o, Below w10.heap.size w10 (w10.alloc o) := fun o => (Below.refl _ _).alloc (Nat.le_refl _) o
              have q10 : ∀ o, (w10.alloc o).cell? ⟨wb, 0, none⟩ = some (.slice a1 ts1.length c1) := fun o => cell_next (cell_next HQ9.out H4.out.1) (hbA o)
              have HSB : Hid (∀ o, Calls Tryd.prog 7 #[.agg #[.slice a4 ts4.length c4], .agg #[.slice a1 ts1.length c1]] (w10.alloc o) fun e w' => e = .returned (.bool true) ∧ Below w.heap.size w w') := fun o => by
                have hB10 : Below w.heap.size w (w10.alloc o) := (HB9.out.trans (H4.out.1.mono HB9.out.size)).trans ((hbA o).mono (HB9.out.trans (H4.out.1.mono HB9.out.size)).size)
                refine (same_calls a4 a1 c4 c1 ts4 ts1 (w10.alloc o) (H4.out.2.2.reads.below (hbA o)) ((HT9.out.below H4.out.1).below (hbA o)) (H4.out.2.1.trans HE1.out.symm)).mono ?_
                rintro e w' ⟨h1, h2⟩
                exact ⟨h1, hB10.trans (h2.mono hB10.size)⟩
              clear hbA H4 HT9 HQ9 HB9 HM HK HE1
              go_wp2_with fail
              refine (HSB.out _).mono ?_
              rintro e w11 ⟨rfl, hb11⟩
              have HB11 : Hid (Below w.heap.size w w11) := hb11
              clear hb11 HSB q10
              go_wp2
              go_ret
              exact ⟨rfl, HB11.out⟩

end Go.Proofs.YtbpmahchinblhaaDoor
