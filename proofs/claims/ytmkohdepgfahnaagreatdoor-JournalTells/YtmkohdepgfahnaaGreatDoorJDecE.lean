import Derived.Test.YtmkohdepgfahnaaGreatDoorJCopy
import Derived.Test.YtmkohdepgfahnaaGreatDoorJPayOf
/- Layer 13 (journal): the document's Copy. -/
namespace Go.Proofs.YtmkohdepgfahnaaGreatDoor
open Go.RowKit
set_option linter.unusedVariables false

/-- A copy of an entry. -/
def CopE (w : World) (i : Int) (l : List OV) (e : Ending) (w' : World) : Prop := ∃ ao c l', e = .returned (.agg #[.int .u64 i, .slice ao l'.length c]) ∧ ops l' = ops l ∧ OwnO w' w.heap.size (.slice ao l'.length c) l' ∧ Below w.heap.size w w'
theorem load_ent {w : World} {g : Nat} {cs : Array Value} (h : Blk w g cs 31) (hs : cs.size = 2) : (loadVar 31 ⟨g, 0, none⟩).run Tryz.prog w = .ok (.agg cs) w :=
  run_loadVar_row (P := Tryz.prog) w g 31 31 cs (0, 0) _ h Tryz.underlying31 rfl (by rw [show (Tryz.prog.info? 31).map (·.size) = some 2 from by kernel_rfl, hs])
set_option maxRecDepth 100000 in
set_option maxHeartbeats 2000000 in
theorem copyE_calls (i : Int) (ao : Option Addr) (c : Nat) (l : List OV) (w : World) (hl : l.length * 256 ≤ 140737488355328) (hlt : ∀ x ∈ l, x.o.svc.tags.length ≤ 8796093022207) (hat : OpsAt w ao l) :
    Calls Tryz.prog 13 #[.agg #[.int .u64 i, .slice ao l.length c]] w fun e w' => CopE w i l e w' := by
  obtain ⟨n, Hn⟩ : ∃ x, Hid (x = l.length) := ⟨_, rfl⟩
  have HC : Hid (∀ w', Below w.heap.size w w' → Calls Tryz.prog 19 #[.slice ao n c] w' fun e w'' => ∃ v l', e = .returned v ∧ ops l' = ops l ∧ OwnO w'' w'.heap.size v l' ∧ Below w'.heap.size w' w'') := fun w' h => by
    have := copyOps_calls ao c l w' hl hlt (hat.below h)
    rw [← Hn.out] at this
    exact this
  rw [← Hn.out]
  clear hl hlt hat Hn
  obtain ⟨w2, Hw2⟩ : ∃ x, Hid (x = (w.alloc (.cells #[.int .u64 i, .slice ao n c] 31)).alloc (.cells #[.int .u64 0, .slice none 0 0] 31)) := ⟨_, rfl⟩
  have hz : (w.alloc (.cells #[.int .u64 i, .slice ao n c] 31)).heap.size = w.heap.size + 1 := size_new _ _
  have HX : Hid (Blk w2 w.heap.size #[.int .u64 i, .slice ao n c] 31) := by rw [Hw2.out]; exact (Blk.new _ _ _).alloc _
  have HY : Hid (Blk w2 (w.heap.size + 1) #[.int .u64 0, .slice none 0 0] 31) := by rw [Hw2.out, ← hz]; exact Blk.new _ _ _
  have HB : Hid (Below w.heap.size w w2) := by rw [Hw2.out]; exact (below_new w _).alloc (by rw [hz]; omega) _
  clear hz
  have c1 : w2.cell? ⟨w.heap.size, 1, none⟩ = some (.slice ao n c) := HX.out.cell 1 rfl
  go_enter Tryz.func13, Tryz.ntmps13
  go_upto_region 1 with fail
  rw [← Hw2.out]
  clear Hw2
  go_wp2_with fail
  refine (HC.out w2 HB.out).mono ?_
  rintro e w3 ⟨v3, l3, rfl, hops, ho3, hb3⟩
  have HX3 : Hid (Blk w3 w.heap.size #[.int .u64 i, .slice ao n c] 31) := HX.out.below hb3
  have HY3 : Hid (Blk w3 (w.heap.size + 1) #[.int .u64 0, .slice none 0 0] 31) := HY.out.below hb3
  have HB3 : Hid (Below w.heap.size w w3) := HB.out.trans (hb3.mono HB.out.size)
  have HO3 : Hid (OwnO w3 w.heap.size v3 l3) := ⟨row_weak HB.out.size ho3.row, fun x hx => row_weak HB.out.size (ho3.tags x hx)⟩
  have HOP : Hid (ops l3 = ops l) := hops
  obtain ⟨a3, k3, rfl⟩ := HO3.out.shape
  clear hb3 ho3 hops HX HY HB HC c1
  obtain ⟨n3, Hn3⟩ : ∃ x, Hid (x = l3.length) := ⟨_, rfl⟩
  rw [← Hn3.out] at HO3 ⊢
  obtain ⟨w4, Hw4⟩ : ∃ x, Hid (x = w3.setCell ⟨w.heap.size, 1, none⟩ (.slice a3 n3 k3)) := ⟨_, rfl⟩
  have HX4 : Hid (Blk w4 w.heap.size #[.int .u64 i, .slice a3 n3 k3] 31) := by rw [Hw4.out]; exact HX3.out.put 1 _
  have HY4 : Hid (Blk w4 (w.heap.size + 1) #[.int .u64 0, .slice none 0 0] 31) := by rw [Hw4.out]; exact HY3.out.off (a := ⟨w.heap.size, 1, none⟩) (by simp) _
  have HB4 : Hid (Below w.heap.size w w4) := by rw [Hw4.out]; exact HB3.out.setCell (p := ⟨w.heap.size, 1, none⟩) (Nat.le_refl _) _
  have HO4 : Hid (OwnO w4 w.heap.size (.slice a3 n3 k3) l3) := by
    rw [Hw4.out]
    exact ⟨rowN_set1 HX3.out (by decide) HO3.out.row _, fun x hx => rowN_set1 HX3.out (by decide) (HO3.out.tags x hx) _⟩
  have x1 := HX3.out.cell 1 rfl
  have f1 := HX3.out.open 1
  dsimp only
  go_upto_region 2 with fail
  rw [← Hw4.out]
  clear Hw4 HX3 HY3 HB3 HO3 x1 f1
  have z0 := HX4.out.cell 0 rfl
  have z1 := HX4.out.cell 1 rfl
  have y0 := HY4.out.cell 0 rfl
  have y1 := HY4.out.cell 1 rfl
  have f0 := HY4.out.open 0
  have f1 := HY4.out.open 1
  obtain ⟨w5, Hw5⟩ : ∃ x, Hid (x = putC w4 (w.heap.size + 1) 0 [.int .u64 i, .slice a3 n3 k3]) := ⟨_, rfl⟩
  have HY5 : Hid (Blk w5 (w.heap.size + 1) #[.int .u64 i, .slice a3 n3 k3] 31) := by rw [Hw5.out]; exact putC_all HY4.out rfl
  have HB5 : Hid (Below w.heap.size w w5) := by rw [Hw5.out]; exact putC_below _ _ _ HB4.out (by omega)
  have HO5 : Hid (OwnO w5 w.heap.size (.slice a3 n3 k3) l3) := by
    rw [Hw5.out]
    exact ⟨row_putK HY4.out (by decide) HO4.out.row _ _, fun x hx => row_putK HY4.out (by decide) (HO4.out.tags x hx) _ _⟩
  have HLd : Hid ((loadVar 31 ⟨(w.heap.size + 1), 0, none⟩).run Tryz.prog w5 = .ok (.agg #[.int .u64 i, .slice a3 n3 k3]) w5) := load_ent HY5.out rfl
  go_wp2
  change bodyPost _ _ _ _ _ (putC w4 (w.heap.size + 1) 0 [.int .u64 i, .slice a3 n3 k3])
  rw [← Hw5.out]
  exact ret_box1 (g := w.heap.size + 1) (w := w5) rfl rfl rfl HLd.out ⟨a3, k3, l3, by rw [← Hn3.out], HOP.out, by rw [← Hn3.out]; exact HO5.out, HB5.out⟩
end Go.Proofs.YtmkohdepgfahnaaGreatDoor

/- Layer 13 (journal): Decode of bytes whose frame is refused. -/
namespace Go.Proofs.YtmkohdepgfahnaaGreatDoor
open Go.RowKit
set_option linter.unusedVariables false

theorem ret_box3 {fn : Func} {R : Ending → World → Prop} {a : Act} {w : World} {g : Nat} {cs : Array Value} {T : TypeId} {e1 e2 : Value} (hres : fn.results = #[.cell 2 T, .tmp 3, .tmp 4]) (ht : a.tmps.getD 2 undef = .pointer (some ⟨g, 0, none⟩)) (h3 : a.tmps.getD 3 undef = e1) (h4 : a.tmps.getD 4 undef = e2) (hd : a.defers = [])
    (hl : (loadVar T ⟨g, 0, none⟩).run Tryz.prog w = .ok (.agg cs) w) (hR : R (.returned (.tuple #[.agg cs, e1, e2])) w) : bodyPost Tryz.prog fn R .ret a w := by
  refine bodyPost_ret ?_ hd hR
  have ht' : a.tmps[2]?.getD undef = .pointer (some ⟨g, 0, none⟩) := by simpa using ht
  have h3' : a.tmps[3]?.getD undef = e1 := by simpa using h3
  have h4' : a.tmps[4]?.getD undef = e2 := by simpa using h4
  simp [results, hres, ht', h3', h4', asAddr, hl]

set_option maxRecDepth 100000 in
set_option maxHeartbeats 2000000 in
theorem decode_bad (ao : Option Addr) (cap : Nat) (l : List UInt8) (w : World) (hl : l.length ≤ 140737488355328) (hcap : l.length ≤ cap) (h : BAt w ao l) (hne : ¬ payE l = 0) :
    Calls Tryz.prog 18 #[.slice ao l.length cap] w fun e w' => e = .returned (.tuple #[.agg #[.int .u64 0, .slice none 0 0], .int .i64 0, .int .i64 (payE l)]) ∧ Below w.heap.size w w' := by
  obtain ⟨wx, Hwx⟩ : ∃ x, Hid (x = w.alloc (.cells #[.int .u64 0, .slice none 0 0] 31)) := ⟨_, rfl⟩
  have HB : Hid (Below w.heap.size w wx) := by rw [Hwx.out]; exact below_new w _
  have HX : Hid (Blk wx w.heap.size #[.int .u64 0, .slice none 0 0] 31) := by rw [Hwx.out]; exact Blk.new _ _ _
  have HC := payloadOf_calls ao cap l wx hl hcap (h.below HB.out)
  have HC : Hid (Calls Tryz.prog 30 #[.slice ao l.length cap] wx fun e w' => PayA wx l e w') := HC
  obtain ⟨pe, Hpe⟩ : ∃ x, Hid (x = payE l) := ⟨_, rfl⟩
  rw [← Hpe.out] at hne ⊢
  clear h
  have q0 : (pe != 0) = true := by simpa using hne
  go_enter Tryz.func18, Tryz.ntmps18
  go_upto_region 1 with fail
  rw [← Hwx.out]
  clear Hwx
  go_wp2_with fail
  refine HC.out.mono ?_
  rintro e w2 ⟨a2, n2, c2, rfl, -, hd⟩
  rw [← Hpe.out]
  have hb2 : Below wx.heap.size wx w2 := by obtain ⟨m, rfl⟩ := hd; exact below_draws _ _
  have HB2 : Hid (Below w.heap.size w w2) := HB.out.trans (hb2.mono HB.out.size)
  have HX2 : Hid (Blk w2 w.heap.size #[.int .u64 0, .slice none 0 0] 31) := HX.out.below hb2
  clear hd hb2 HC HX HB
  have y0 := HX2.out.cell 0 rfl
  have y1 := HX2.out.cell 1 rfl
  have f0 := HX2.out.open 0
  have f1 := HX2.out.open 1
  obtain ⟨w5, Hw5⟩ : ∃ x, Hid (x = putC w2 w.heap.size 0 [.int .u64 0, .slice none 0 0]) := ⟨_, rfl⟩
  have HY5 : Hid (Blk w5 w.heap.size #[.int .u64 0, .slice none 0 0] 31) := by rw [Hw5.out]; exact putC_all HX2.out rfl
  have HB5 : Hid (Below w.heap.size w w5) := by rw [Hw5.out]; exact putC_below _ _ _ HB2.out (Nat.le_refl _)
  have HLd : Hid ((loadVar 31 ⟨w.heap.size, 0, none⟩).run Tryz.prog w5 = .ok (.agg #[.int .u64 0, .slice none 0 0]) w5) := load_ent HY5.out rfl
  go_wp2
  change bodyPost _ _ _ _ _ (putC w2 w.heap.size 0 [.int .u64 0, .slice none 0 0])
  rw [← Hw5.out]
  exact ret_box3 (g := w.heap.size) (w := w5) rfl rfl rfl rfl rfl HLd.out ⟨rfl, HB5.out⟩
end Go.Proofs.YtmkohdepgfahnaaGreatDoor
