/- Layer 18 (json): the law JsonSpace. -/
import Derived.Test.YtelhgjepjieocaaDoorJxSpF
import Derived.Test.YtelhgjepjieocaaDoorJxAlive
import Derived.Test.YtelhgjepjieocaaDoorJxRng
namespace Go.Proofs.YtelhgjepjieocaaDoor
open Go.RowKit Go.MapKept Go.Sort
set_option linter.unusedVariables false

def u8V (c : UInt8) : Value := .int .u8 (c.toNat : Int)
theorem conv1 (w : World) (c : UInt8) : (convert 41 9 (.slice (some ⟨w.heap.size, 0, none⟩) 1 1)).run Tryd.prog (w.alloc (.cells #[.int .u8 (c.toNat : Int)] 5)) = .ok (.string (nmB [c])) (w.alloc (.cells #[.int .u8 (c.toNat : Int)] 5)) :=
  own_stringJ (l := [c]) (ow_own (w := w.alloc (.cells #[.int .u8 (c.toNat : Int)] 5)) (B := w.heap.size) (by
    have := World.ownsRow_lit (size := 1) (e := 5) w #[.int .u8 (c.toNat : Int)] 1 (Nat.le_refl _) (by unfold maxLen; omega) (by simp)
    exact this))
theorem nmB_app2 (a b : List UInt8) : nmB a ++ nmB b = nmB (a ++ b) := by
  apply ByteArray.ext
  simp [nmB, ByteArray.data_append]
set_option maxRecDepth 100000 in
set_option maxHeartbeats 8000000 in
theorem jsonSpace_calls (s : ByteArray) (ps : List UInt8) (pl pc : Nat) (pa : Option Addr) (w : World) (hs : s.size ≤ 140737488351232) (hpl : ps.length = pl) (hpz : pl ≤ 140737488355328) (hp : VAt w pa (ps.map u8V)) (hV : Vs w) :
    Calls Tryd.prog 6 #[.string s, .slice pa pl pc] w (fun e w' => e = .returned (.bool true) ∧ Below w.heap.size w w') := by
  have HA := alive_calls w hV
  have HK : Hid (VAt w pa (ps.map u8V) ∧ ps.length = pl ∧ Vs w ∧ s.size ≤ 140737488351232) := ⟨hp, hpl, hV, hs⟩
  clear hp hpl hV
  go_enter Tryd.func6, Tryd.ntmps6
  go_wp2_with fail
  refine HA.mono ?_
  clear HA
  rintro e w1 ⟨rfl, hb1⟩
  have HB1 : Hid (Below w.heap.size w w1) := hb1
  clear hb1
  go_wp2
  go_loopw [5, 20] (fun x i wr => ∃ (k : Nat) (P : List UInt8), k ≤ pl ∧ i = .int .i64 (k : Int) ∧ x = .string (nmB P) ∧ Hid (Sp P ∧ P.length ≤ k ∧ P.length ≤ 20 ∧ Below w.heap.size w wr)) (fun _ i _ => pl - (intOf i).toNat)
  case atStart => exact ⟨0, [], Nat.zero_le _, rfl, rfl, fun c h => (by cases h), Nat.le_refl _, by simp, HB1⟩
  case round =>
    clear HB1
    obtain ⟨k, P, hk, rfl, rfl, HI⟩ := hrel
    obtain ⟨pb, Hpb⟩ : ∃ pb, Hid (pb = nmB P) := ⟨_, rfl⟩
    have hpz2 : pb.size ≤ 20 := by rw [Hpb.out]; have := HI.out.2.2.1; simpa [nmB, ByteArray.size] using this
    rw [← Hpb.out]
    by_cases hlt : k < pl
    · have hk2 : k < ps.length := by rw [HK.out.2.1]; exact hlt
      obtain ⟨b9, off, hka, hc9⟩ := HK.out.1 k (by rw [List.length_map]; exact hk2)
      subst hka
      rw [List.getElem_map] at hc9
      have q0 := cell_frm (Frm.ofBelow HI.out.2.2.2 noB) hc9 (fun h => h)
      clear hc9
      obtain ⟨c, hc⟩ : ∃ c : UInt8, c = ps[k] := ⟨_, rfl⟩
      rw [← hc] at q0
      clear hc hk2
      unfold u8V at q0
      obtain ⟨cn, Hcn⟩ : ∃ cn : Nat, Hid (cn = c.toNat) := ⟨_, rfl⟩
      have hcn : cn < 256 := by rw [Hcn.out]; exact c.toNat_lt
      rw [← Hcn.out] at q0
      clear Hcn
      by_cases h20 : k < 20
      · obtain ⟨m, hm⟩ : ∃ m : Nat, cn % 4 = m := ⟨_, rfl⟩
        have hm4 : m < 4 := by omega
        have hmi : (cn : Int) % 4 = (m : Int) := by omega
        have hmt : Int.tmod (cn : Int) 4 = (m : Int) := by rw [Int.tmod_eq_emod_of_nonneg (by omega)]; exact hmi
        clear hm
        go_upto_region 8 with fail
        match m, hm4 with
        | 0, _ =>
          go_wp2_with fail
          change Oper.upon _ _ _ _ _ ((Sem.run _ (convert 41 9 _) (wr.alloc (.cells #[.int .u8 ((32 : UInt8).toNat : Int)] 5))).andThen _)
          rw [conv1 wr 32]
          have HT : Hid (pb ++ nmB [32] = nmB (P ++ [32])) := by rw [Hid, Hpb.out]; exact nmB_app2 P [32]
          have hz1 : (nmB [32]).size = 1 := rfl
          have HI2 : Hid (Sp (P ++ [32]) ∧ (P ++ [32]).length ≤ k + 1 ∧ (P ++ [32]).length ≤ 20 ∧ Below w.heap.size w (wr.alloc (.cells #[.int .u8 ((32 : UInt8).toNat : Int)] 5))) := by
            refine ⟨fun x hx => ?_, ?_, ?_, HI.out.2.2.2.alloc HI.out.2.2.2.size _⟩
            · rcases List.mem_append.1 hx with hx | hx
              · exact HI.out.1 x hx
              · rw [List.mem_singleton.1 hx]; decide
            · have := HI.out.2.1; simp; omega
            · have := HI.out.2.1; simp; omega
          clear HI
          go_wp2
          go_roundw
          case rel => exact ⟨k + 1, P ++ [32], by omega, by go_num, congrArg Value.string HT.out, HI2⟩
          case measure => simp [intOf]; omega
        | 1, _ =>
          go_wp2_with fail
          change Oper.upon _ _ _ _ _ ((Sem.run _ (convert 41 9 _) (wr.alloc (.cells #[.int .u8 ((9 : UInt8).toNat : Int)] 5))).andThen _)
          rw [conv1 wr 9]
          have HT : Hid (pb ++ nmB [9] = nmB (P ++ [9])) := by rw [Hid, Hpb.out]; exact nmB_app2 P [9]
          have hz1 : (nmB [9]).size = 1 := rfl
          have HI2 : Hid (Sp (P ++ [9]) ∧ (P ++ [9]).length ≤ k + 1 ∧ (P ++ [9]).length ≤ 20 ∧ Below w.heap.size w (wr.alloc (.cells #[.int .u8 ((9 : UInt8).toNat : Int)] 5))) := by
            refine ⟨fun x hx => ?_, ?_, ?_, HI.out.2.2.2.alloc HI.out.2.2.2.size _⟩
            · rcases List.mem_append.1 hx with hx | hx
              · exact HI.out.1 x hx
              · rw [List.mem_singleton.1 hx]; decide
            · have := HI.out.2.1; simp; omega
            · have := HI.out.2.1; simp; omega
          clear HI
          go_wp2
          go_roundw
          case rel => exact ⟨k + 1, P ++ [9], by omega, by go_num, congrArg Value.string HT.out, HI2⟩
          case measure => simp [intOf]; omega
        | 2, _ =>
          go_wp2_with fail
          change Oper.upon _ _ _ _ _ ((Sem.run _ (convert 41 9 _) (wr.alloc (.cells #[.int .u8 ((10 : UInt8).toNat : Int)] 5))).andThen _)
          rw [conv1 wr 10]
          have HT : Hid (pb ++ nmB [10] = nmB (P ++ [10])) := by rw [Hid, Hpb.out]; exact nmB_app2 P [10]
          have hz1 : (nmB [10]).size = 1 := rfl
          have HI2 : Hid (Sp (P ++ [10]) ∧ (P ++ [10]).length ≤ k + 1 ∧ (P ++ [10]).length ≤ 20 ∧ Below w.heap.size w (wr.alloc (.cells #[.int .u8 ((10 : UInt8).toNat : Int)] 5))) := by
            refine ⟨fun x hx => ?_, ?_, ?_, HI.out.2.2.2.alloc HI.out.2.2.2.size _⟩
            · rcases List.mem_append.1 hx with hx | hx
              · exact HI.out.1 x hx
              · rw [List.mem_singleton.1 hx]; decide
            · have := HI.out.2.1; simp; omega
            · have := HI.out.2.1; simp; omega
          clear HI
          go_wp2
          go_roundw
          case rel => exact ⟨k + 1, P ++ [10], by omega, by go_num, congrArg Value.string HT.out, HI2⟩
          case measure => simp [intOf]; omega
        | 3, _ =>
          go_wp2_with fail
          change Oper.upon _ _ _ _ _ ((Sem.run _ (convert 41 9 _) (wr.alloc (.cells #[.int .u8 ((13 : UInt8).toNat : Int)] 5))).andThen _)
          rw [conv1 wr 13]
          have HT : Hid (pb ++ nmB [13] = nmB (P ++ [13])) := by rw [Hid, Hpb.out]; exact nmB_app2 P [13]
          have hz1 : (nmB [13]).size = 1 := rfl
          have HI2 : Hid (Sp (P ++ [13]) ∧ (P ++ [13]).length ≤ k + 1 ∧ (P ++ [13]).length ≤ 20 ∧ Below w.heap.size w (wr.alloc (.cells #[.int .u8 ((13 : UInt8).toNat : Int)] 5))) := by
            refine ⟨fun x hx => ?_, ?_, ?_, HI.out.2.2.2.alloc HI.out.2.2.2.size _⟩
            · rcases List.mem_append.1 hx with hx | hx
              · exact HI.out.1 x hx
              · rw [List.mem_singleton.1 hx]; decide
            · have := HI.out.2.1; simp; omega
            · have := HI.out.2.1; simp; omega
          clear HI
          go_wp2
          go_roundw
          case rel => exact ⟨k + 1, P ++ [13], by omega, by go_num, congrArg Value.string HT.out, HI2⟩
          case measure => simp [intOf]; omega
      · have HI2 : Hid (Sp P ∧ P.length ≤ k + 1 ∧ P.length ≤ 20 ∧ Below w.heap.size w wr) := ⟨HI.out.1, by have := HI.out.2.1; omega, HI.out.2.2.1, HI.out.2.2.2⟩
        clear HI
        go_wp2
        go_roundw
        case rel => exact ⟨k + 1, P, by omega, by go_num, congrArg Value.string Hpb.out, HI2⟩
        case measure => simp [intOf]; omega
    · by_cases hbig : 60000 < s.size
      · go_wp2
        go_ret
        exact ⟨rfl, HI.out.2.2.2⟩
      · have HX : Hid (pb ++ s ++ pb = nmB (P ++ s.data.toList ++ P) ∧ parseJ (pb ++ s ++ pb) = parseJ s) := by
          have e : pb ++ s ++ pb = nmB (P ++ s.data.toList ++ P) := by
            rw [Hpb.out]
            have h1 := nmB_app2 P s.data.toList
            have h2 := nmB_app2 (P ++ s.data.toList) P
            rw [← h2, ← h1]
            rfl
          refine ⟨e, ?_⟩
          rw [e]
          exact parseJ_space P s.data.toList HI.out.1 (by have := HI.out.2.2.1; have : s.data.toList.length = s.size := by rw [Array.length_toList]; rfl
                                                          omega)
        have HXZ : Hid ((pb ++ s ++ pb).size ≤ 140737488351232) := by rw [Hid, ByteArray.size_append, ByteArray.size_append]; omega
        have HPs := parseJ_calls s wr HK.out.2.2.2 (HK.out.2.2.1.stay HI.out.2.2.2)
        cases hps : parseJ s with
        | error c =>
          rw [hps] at HPs
          go_wp2_with fail
          refine HPs.mono ?_
          clear HPs
          rintro e w2 ⟨hb2, rfl, hcc⟩
          have hc0 : c ≠ 0 := by omega
          clear hcc
          unfold jZ jC
          obtain ⟨w3, Hw3⟩ : ∃ w3, Hid (w3 = w2.alloc (.cells #[.int .i64 0, .int .i64 0, .string ⟨#[]⟩, .slice none 0 0, .slice none 0 0] 26)) := ⟨_, rfl⟩
          obtain ⟨g8, Hg8⟩ : ∃ g8, Hid (g8 = w2.heap.size) := ⟨_, rfl⟩
          have hbx : Below w2.heap.size w2 w3 := by rw [Hw3.out]; exact below_new _ _
          have hBg8 : Blk w3 g8 #[.int .i64 0, .int .i64 0, .string ⟨#[]⟩, .slice none 0 0, .slice none 0 0] 26 := by rw [Hw3.out, Hg8.out]; exact Blk.new _ _ _
          have hb3 : Below wr.heap.size wr w3 := hb2.trans (hbx.mono hb2.size)
          have HB3 : Hid (Below w.heap.size w w3 ∧ Blk w3 g8 #[.int .i64 0, .int .i64 0, .string ⟨#[]⟩, .slice none 0 0, .slice none 0 0] 26) := ⟨HI.out.2.2.2.trans (hb3.mono HI.out.2.2.2.size), hBg8⟩
          clear hb2 hbx hBg8 hb3
          go_upto_region 13 with fail
          rw [← Hw3.out, ← Hg8.out]
          clear Hw3 Hg8
          have HPs := parseJ_calls (pb ++ s ++ pb) w3 HXZ.out (HK.out.2.2.1.stay HB3.out.1)
          rw [HX.out.2, hps] at HPs
          go_wp2_with fail
          refine HPs.mono ?_
          clear HPs
          rintro e w4 ⟨hb4, rfl, -⟩
          unfold jZ jC
          obtain ⟨w5, Hw5⟩ : ∃ w5, Hid (w5 = w4.alloc (.cells #[.int .i64 0, .int .i64 0, .string ⟨#[]⟩, .slice none 0 0, .slice none 0 0] 26)) := ⟨_, rfl⟩
          obtain ⟨ga, Hga⟩ : ∃ ga, Hid (ga = w4.heap.size) := ⟨_, rfl⟩
          have hbx : Below w4.heap.size w4 w5 := by rw [Hw5.out]; exact below_new _ _
          have hBga : Blk w5 ga #[.int .i64 0, .int .i64 0, .string ⟨#[]⟩, .slice none 0 0, .slice none 0 0] 26 := by rw [Hw5.out, Hga.out]; exact Blk.new _ _ _
          have hb5 : Below w3.heap.size w3 w5 := hb4.trans (hbx.mono hb4.size)
          have HB5 : Hid (Below w.heap.size w w5 ∧ Blk w5 g8 #[.int .i64 0, .int .i64 0, .string ⟨#[]⟩, .slice none 0 0, .slice none 0 0] 26 ∧ Blk w5 ga #[.int .i64 0, .int .i64 0, .string ⟨#[]⟩, .slice none 0 0, .slice none 0 0] 26) := ⟨HB3.out.1.trans (hb5.mono HB3.out.1.size), HB3.out.2.below hb5, hBga⟩
          clear hb4 hbx hBga hb5 HB3
          go_upto_region 14 with fail
          rw [← Hw5.out, ← Hga.out]
          clear Hw5 Hga
          obtain ⟨x0, x1, x2, x3, x4, -⟩ := Blk.five HB5.out.2.1
          obtain ⟨y0, y1, y2, y3, y4, -⟩ := Blk.five HB5.out.2.2
          have HS := specM (.mk 0 0 [] [] []) w5 noB noB _ _ (rng_plain (by omega) (by simp)) (JAt.plain w5 0 0 []) (JAt.plain w5 0 0 [])
          go_wp2_with fail
          refine HS.mono ?_
          clear HS
          rintro e w6 ⟨rfl, hb6⟩
          have HB6 : Hid (Below w.heap.size w w6) := HB5.out.1.trans (hb6.mono HB5.out.1.size)
          clear hb6 HB5 x0 x1 x2 x3 x4 y0 y1 y2 y3 y4
          go_wp2
          go_ret
          exact ⟨rfl, HB6.out⟩
        | ok v =>
          rw [hps] at HPs
          have HRV : Hid (Rng v ∧ (depJ v = 0 ∨ 0 + depJ v ≤ 16)) := ⟨parseJ_rng hps, sound_dep v 0 (parseJ_snd hps).1⟩
          go_wp2_with fail
          refine HPs.mono ?_
          clear HPs
          rintro e w2 ⟨hb2, ds, T, rfl, hj2, hT2⟩
          obtain ⟨ak, an, at_, aa, al, ac, ba, bl, bc, hds⟩ := JAt.cs hj2
          subst hds
          obtain ⟨w3, Hw3⟩ : ∃ w3, Hid (w3 = w2.alloc (.cells #[.int .i64 ak, .int .i64 an, .string at_, .slice aa al ac, .slice ba bl bc] 26)) := ⟨_, rfl⟩
          obtain ⟨g8, Hg8⟩ : ∃ g8, Hid (g8 = w2.heap.size) := ⟨_, rfl⟩
          have hbx : Below w2.heap.size w2 w3 := by rw [Hw3.out]; exact below_new _ _
          have hBg8 : Blk w3 g8 #[.int .i64 ak, .int .i64 an, .string at_, .slice aa al ac, .slice ba bl bc] 26 := by rw [Hw3.out, Hg8.out]; exact Blk.new _ _ _
          have hb3 : Below wr.heap.size wr w3 := hb2.trans (hbx.mono hb2.size)
          have HB3 : Hid (Below w.heap.size w w3 ∧ Blk w3 g8 #[.int .i64 ak, .int .i64 an, .string at_, .slice aa al ac, .slice ba bl bc] 26 ∧ JAt w3 T v #[.int .i64 ak, .int .i64 an, .string at_, .slice aa al ac, .slice ba bl bc]) := ⟨HI.out.2.2.2.trans (hb3.mono HI.out.2.2.2.size), hBg8, hj2.below hbx⟩
          clear hb2 hbx hBg8 hb3 hj2 hT2
          go_upto_region 13 with fail
          rw [← Hw3.out, ← Hg8.out]
          clear Hw3 Hg8
          have HPs := parseJ_calls (pb ++ s ++ pb) w3 HXZ.out (HK.out.2.2.1.stay HB3.out.1)
          rw [HX.out.2, hps] at HPs
          go_wp2_with fail
          refine HPs.mono ?_
          clear HPs
          rintro e w4 ⟨hb4, es, U, rfl, hj4, hU4⟩
          obtain ⟨ck, cn', ct, ca, cl, cc, da, dl, dc, hes⟩ := JAt.cs hj4
          subst hes
          obtain ⟨w5, Hw5⟩ : ∃ w5, Hid (w5 = w4.alloc (.cells #[.int .i64 ck, .int .i64 cn', .string ct, .slice ca cl cc, .slice da dl dc] 26)) := ⟨_, rfl⟩
          obtain ⟨ga, Hga⟩ : ∃ ga, Hid (ga = w4.heap.size) := ⟨_, rfl⟩
          have hbx : Below w4.heap.size w4 w5 := by rw [Hw5.out]; exact below_new _ _
          have hBga : Blk w5 ga #[.int .i64 ck, .int .i64 cn', .string ct, .slice ca cl cc, .slice da dl dc] 26 := by rw [Hw5.out, Hga.out]; exact Blk.new _ _ _
          have hb5 : Below w3.heap.size w3 w5 := hb4.trans (hbx.mono hb4.size)
          have HB5 : Hid (Below w.heap.size w w5 ∧ Blk w5 g8 #[.int .i64 ak, .int .i64 an, .string at_, .slice aa al ac, .slice ba bl bc] 26 ∧ JAt w5 T v #[.int .i64 ak, .int .i64 an, .string at_, .slice aa al ac, .slice ba bl bc] ∧ Blk w5 ga #[.int .i64 ck, .int .i64 cn', .string ct, .slice ca cl cc, .slice da dl dc] 26) := ⟨HB3.out.1.trans (hb5.mono HB3.out.1.size), HB3.out.2.1.below hb5, HB3.out.2.2.below hb5, hBga⟩
          have HS := specM v w5 T U _ _ HRV.out.1 HB5.out.2.2.1 (hj4.below hbx)
          clear hb4 hbx hBga hb5 hj4 hU4 HB3
          go_upto_region 14 with fail
          rw [← Hw5.out, ← Hga.out]
          clear Hw5 Hga
          obtain ⟨x0, x1, x2, x3, x4, -⟩ := Blk.five HB5.out.2.1
          obtain ⟨y0, y1, y2, y3, y4, -⟩ := Blk.five HB5.out.2.2.2
          go_wp2_with fail
          refine HS.mono ?_
          clear HS
          rintro e w6 ⟨rfl, hb6⟩
          have HB6 : Hid (Below w.heap.size w w6 ∧ Blk w6 g8 #[.int .i64 ak, .int .i64 an, .string at_, .slice aa al ac, .slice ba bl bc] 26 ∧ JAt w6 T v #[.int .i64 ak, .int .i64 an, .string at_, .slice aa al ac, .slice ba bl bc]) := ⟨HB5.out.1.trans (hb6.mono HB5.out.1.size), HB5.out.2.1.below hb6, HB5.out.2.2.1.below hb6⟩
          clear hb6 HB5 x0 x1 x2 x3 x4 y0 y1 y2 y3 y4
          obtain ⟨x0, x1, x2, x3, x4, -⟩ := Blk.five HB6.out.2.1
          have HD := specD v w6 T _ HRV.out.1 (by have := HRV.out.2; omega) HB6.out.2.2
          obtain ⟨dv, Hdv⟩ : ∃ dv : Nat, Hid (dv = depJ v) := ⟨depJ v, (Eq.refl _ : depJ v = _)⟩
          rw [← Hdv.out] at HD
          go_wp2_with fail
          refine HD.mono ?_
          clear HD
          rintro e w7 ⟨rfl, hb7⟩
          have HB7 : Hid (Below w.heap.size w w7 ∧ Blk w7 g8 #[.int .i64 ak, .int .i64 an, .string at_, .slice aa al ac, .slice ba bl bc] 26 ∧ JAt w7 T v #[.int .i64 ak, .int .i64 an, .string at_, .slice aa al ac, .slice ba bl bc]) := ⟨HB6.out.1.trans (hb7.mono HB6.out.1.size), HB6.out.2.1.below hb7, HB6.out.2.2.below hb7⟩
          clear hb7 HB6 x0 x1 x2 x3 x4
          by_cases h16 : 16 ≤ dv
          · go_wp2
            go_ret
            exact ⟨rfl, HB7.out.1⟩
          · have HV16 : Hid (depJ v < 16) := by rw [Hid, ← Hdv.out]; omega
            have HFV : Hid (Fit (.mk 6 0 [] [[107]] [v])) := by
              unfold Fit Fits Fits
              exact ⟨by simp, by simp, by simp, fun t ht => by simp at ht; subst ht; simp, parseJ_fit hps, trivial⟩
            have hs2 : s.data.toList.length = s.size := by rw [Array.length_toList]; rfl
            have hps2 : parseJ (nmB s.data.toList) = .ok v := hps
            have HL1 : Hid (parseJ ((⟨#[91]⟩ : ByteArray) ++ pb ++ s ++ (⟨#[93]⟩ : ByteArray)) = .ok (.mk 5 0 [] [] [v])) := by
              have e : (⟨#[91]⟩ : ByteArray) ++ pb ++ s ++ (⟨#[93]⟩ : ByteArray) = nmB (91 :: (P ++ s.data.toList ++ [93])) := by
                rw [Hpb.out]
                have h1 := nmB_app2 [91] P
                have h2 := nmB_app2 ([91] ++ P) s.data.toList
                have h3 := nmB_app2 ([91] ++ P ++ s.data.toList) [93]
                rw [show (91 :: (P ++ s.data.toList ++ [93]) : List UInt8) = [91] ++ P ++ s.data.toList ++ [93] by simp, ← h3, ← h2, ← h1]
                rfl
              rw [Hid, e]
              exact parseJ_list P s.data.toList v HI.out.1 hps2 HV16.out (by have := HI.out.2.2.1; omega)
            have HO1 : Hid (parseJ ((⟨#[123]⟩ : ByteArray) ++ pb ++ (⟨#[34, 107, 34]⟩ : ByteArray) ++ pb ++ (⟨#[58]⟩ : ByteArray) ++ s ++ pb ++ (⟨#[125]⟩ : ByteArray)) = .ok (.mk 6 0 [] [[107]] [v])) := by
              have e : (⟨#[123]⟩ : ByteArray) ++ pb ++ (⟨#[34, 107, 34]⟩ : ByteArray) ++ pb ++ (⟨#[58]⟩ : ByteArray) ++ s ++ pb ++ (⟨#[125]⟩ : ByteArray) = nmB (123 :: (P ++ (34 :: 107 :: 34 :: (P ++ (58 :: (s.data.toList ++ (P ++ [125]))))))) := by
                rw [Hpb.out]
                have h1 := nmB_app2 [123] P
                have h2 := nmB_app2 ([123] ++ P) [34, 107, 34]
                have h3 := nmB_app2 ([123] ++ P ++ [34, 107, 34]) P
                have h4 := nmB_app2 ([123] ++ P ++ [34, 107, 34] ++ P) [58]
                have h5 := nmB_app2 ([123] ++ P ++ [34, 107, 34] ++ P ++ [58]) s.data.toList
                have h6 := nmB_app2 ([123] ++ P ++ [34, 107, 34] ++ P ++ [58] ++ s.data.toList) P
                have h7 := nmB_app2 ([123] ++ P ++ [34, 107, 34] ++ P ++ [58] ++ s.data.toList ++ P) [125]
                rw [show (123 :: (P ++ (34 :: 107 :: 34 :: (P ++ (58 :: (s.data.toList ++ (P ++ [125])))))) : List UInt8) = [123] ++ P ++ [34, 107, 34] ++ P ++ [58] ++ s.data.toList ++ P ++ [125] by simp, ← h7, ← h6, ← h5, ← h4, ← h3, ← h2, ← h1]
                rfl
              rw [Hid, e]
              exact parseJ_obj P s.data.toList v HI.out.1 hps2 HV16.out (by have := HI.out.2.2.1; omega)
            have HLZ : Hid (((⟨#[91]⟩ : ByteArray) ++ pb ++ s ++ (⟨#[93]⟩ : ByteArray)).size ≤ 140737488351232) := by
              rw [Hid, ByteArray.size_append, ByteArray.size_append, ByteArray.size_append, show (⟨#[91]⟩ : ByteArray).size = 1 from rfl, show (⟨#[93]⟩ : ByteArray).size = 1 from rfl]; omega
            have HOZ : Hid (((⟨#[123]⟩ : ByteArray) ++ pb ++ (⟨#[34, 107, 34]⟩ : ByteArray) ++ pb ++ (⟨#[58]⟩ : ByteArray) ++ s ++ pb ++ (⟨#[125]⟩ : ByteArray)).size ≤ 140737488351232) := by
              rw [Hid, ByteArray.size_append, ByteArray.size_append, ByteArray.size_append, ByteArray.size_append, ByteArray.size_append, ByteArray.size_append, ByteArray.size_append, show (⟨#[123]⟩ : ByteArray).size = 1 from rfl, show (⟨#[34, 107, 34]⟩ : ByteArray).size = 3 from rfl, show (⟨#[58]⟩ : ByteArray).size = 1 from rfl, show (⟨#[125]⟩ : ByteArray).size = 1 from rfl]; omega
            clear hs2 hps2
            have HPs := parseJ_calls _ w7 HLZ.out (HK.out.2.2.1.stay HB7.out.1)
            rw [HL1.out] at HPs
            go_wp2_with fail
            refine HPs.mono ?_
            clear HPs
            rintro e w8 ⟨hb8, es, V, rfl, hj8, hV8⟩
            obtain ⟨ek, en, et, ea, el, ec, fa, fl, fc, hes⟩ := JAt.cs hj8
            subst hes
            obtain ⟨w9, Hw9⟩ : ∃ w9, Hid (w9 = w8.alloc (.cells #[.int .i64 ek, .int .i64 en, .string et, .slice ea el ec, .slice fa fl fc] 26)) := ⟨_, rfl⟩
            obtain ⟨gl, Hgl⟩ : ∃ gl, Hid (gl = w8.heap.size) := ⟨_, rfl⟩
            have hbx : Below w8.heap.size w8 w9 := by rw [Hw9.out]; exact below_new _ _
            have hBgl : Blk w9 gl #[.int .i64 ek, .int .i64 en, .string et, .slice ea el ec, .slice fa fl fc] 26 := by rw [Hw9.out, Hgl.out]; exact Blk.new _ _ _
            have hb9 : Below w7.heap.size w7 w9 := hb8.trans (hbx.mono hb8.size)
            have HB9 : Hid (Below w.heap.size w w9 ∧ Blk w9 g8 #[.int .i64 ak, .int .i64 an, .string at_, .slice aa al ac, .slice ba bl bc] 26 ∧ JAt w9 T v #[.int .i64 ak, .int .i64 an, .string at_, .slice aa al ac, .slice ba bl bc] ∧ Blk w9 gl #[.int .i64 ek, .int .i64 en, .string et, .slice ea el ec, .slice fa fl fc] 26 ∧ JAt w9 V (.mk 5 0 [] [] [v]) #[.int .i64 ek, .int .i64 en, .string et, .slice ea el ec, .slice fa fl fc]) := ⟨HB7.out.1.trans (hb9.mono HB7.out.1.size), HB7.out.2.1.below hb9, HB7.out.2.2.below hb9, hBgl, hj8.below hbx⟩
            clear hb8 hbx hBgl hb9 hj8 hV8 HB7
            go_upto_region 19 with fail
            rw [← Hw9.out, ← Hgl.out]
            clear Hw9 Hgl
            have HPs := parseJ_calls _ w9 HOZ.out (HK.out.2.2.1.stay HB9.out.1)
            rw [HO1.out] at HPs
            go_wp2_with fail
            refine HPs.mono ?_
            clear HPs
            rintro e wa ⟨hba, es, U2, rfl, hja, hUa⟩
            obtain ⟨gk, gn, gt, g_a, gl', gc, ha, hl, hc, hes⟩ := JAt.cs hja
            subst hes
            obtain ⟨wb, Hwb⟩ : ∃ wb, Hid (wb = wa.alloc (.cells #[.int .i64 gk, .int .i64 gn, .string gt, .slice g_a gl' gc, .slice ha hl hc] 26)) := ⟨_, rfl⟩
            obtain ⟨go_, Hgo_⟩ : ∃ go_, Hid (go_ = wa.heap.size) := ⟨_, rfl⟩
            have hbx : Below wa.heap.size wa wb := by rw [Hwb.out]; exact below_new _ _
            have hBgo_ : Blk wb go_ #[.int .i64 gk, .int .i64 gn, .string gt, .slice g_a gl' gc, .slice ha hl hc] 26 := by rw [Hwb.out, Hgo_.out]; exact Blk.new _ _ _
            have hbb : Below w9.heap.size w9 wb := hba.trans (hbx.mono hba.size)
            have HBb : Hid (Below w.heap.size w wb ∧ Blk wb g8 #[.int .i64 ak, .int .i64 an, .string at_, .slice aa al ac, .slice ba bl bc] 26 ∧ JAt wb T v #[.int .i64 ak, .int .i64 an, .string at_, .slice aa al ac, .slice ba bl bc] ∧ Blk wb gl #[.int .i64 ek, .int .i64 en, .string et, .slice ea el ec, .slice fa fl fc] 26 ∧ JAt wb V (.mk 5 0 [] [] [v]) #[.int .i64 ek, .int .i64 en, .string et, .slice ea el ec, .slice fa fl fc]) := ⟨HB9.out.1.trans (hbb.mono HB9.out.1.size), HB9.out.2.1.below hbb, HB9.out.2.2.1.below hbb, HB9.out.2.2.2.1.below hbb, HB9.out.2.2.2.2.below hbb⟩
            have HFd := field_calls (.mk 6 0 [] [[107]] [v]) [107] wb U2 _ HFV.out (hja.below hbx) (fun q hq => Nat.lt_of_lt_of_le (hUa q hq).2 hbx.size)
            rw [show fieldJ (.mk 6 0 [] [[107]] [v]) [107] = some v from rfl, show nmB [107] = (⟨#[107]⟩ : ByteArray) from rfl] at HFd
            clear hbb hja hUa HB9
            obtain ⟨x0, x1, x2, x3, x4, -⟩ := Blk.five hBgo_
            go_upto_region 20 with fail
            rw [← Hwb.out, ← Hgo_.out]
            clear Hwb Hgo_ hba hbx hBgo_
            go_wp2_with fail
            refine HFd.mono ?_
            clear HFd x0 x1 x2 x3 x4
            rintro e wc ⟨hbc, es, T3, rfl, hjc⟩
            obtain ⟨ik, iN, it, ia, il, ic, ja, jl, jc, hes⟩ := JAt.cs hjc
            subst hes
            obtain ⟨wd, Hwd⟩ : ∃ wd, Hid (wd = wc.alloc (.cells #[.int .i64 ik, .int .i64 iN, .string it, .slice ia il ic, .slice ja jl jc] 26)) := ⟨_, rfl⟩
            obtain ⟨gf, Hgf⟩ : ∃ gf, Hid (gf = wc.heap.size) := ⟨_, rfl⟩
            have hbx : Below wc.heap.size wc wd := by rw [Hwd.out]; exact below_new _ _
            have hBgf : Blk wd gf #[.int .i64 ik, .int .i64 iN, .string it, .slice ia il ic, .slice ja jl jc] 26 := by rw [Hwd.out, Hgf.out]; exact Blk.new _ _ _
            have hbd : Below wb.heap.size wb wd := hbc.trans (hbx.mono hbc.size)
            have HBd : Hid (Below w.heap.size w wd ∧ Blk wd g8 #[.int .i64 ak, .int .i64 an, .string at_, .slice aa al ac, .slice ba bl bc] 26 ∧ JAt wd T v #[.int .i64 ak, .int .i64 an, .string at_, .slice aa al ac, .slice ba bl bc] ∧ Blk wd gl #[.int .i64 ek, .int .i64 en, .string et, .slice ea el ec, .slice fa fl fc] 26 ∧ JAt wd V (.mk 5 0 [] [] [v]) #[.int .i64 ek, .int .i64 en, .string et, .slice ea el ec, .slice fa fl fc] ∧ Blk wd gf #[.int .i64 ik, .int .i64 iN, .string it, .slice ia il ic, .slice ja jl jc] 26 ∧ JAt wd T3 v #[.int .i64 ik, .int .i64 iN, .string it, .slice ia il ic, .slice ja jl jc]) := ⟨HBb.out.1.trans (hbd.mono HBb.out.1.size), HBb.out.2.1.below hbd, HBb.out.2.2.1.below hbd, HBb.out.2.2.2.1.below hbd, HBb.out.2.2.2.2.below hbd, hBgf, hjc.below hbx⟩
            clear hbd hjc HBb hbc hbx hBgf
            go_upto_region 21 with fail
            rw [← Hwd.out, ← Hgf.out]
            clear Hwd Hgf
            obtain ⟨x0, x1, x2, x3, x4, -⟩ := Blk.five HBd.out.2.1
            obtain ⟨y0, y1, y2, y3, y4, -⟩ := Blk.five HBd.out.2.2.2.1
            obtain ⟨z0, z1, z2, z3, z4, -⟩ := Blk.five HBd.out.2.2.2.2.2.1
            obtain ⟨b9, off, xs, hek, hfl, hfa, hx5, hxc, hxj⟩ : ∃ b off xs, ek = 5 ∧ fl = 1 ∧ fa = some ⟨b, off, none⟩ ∧ xs.size = 5 ∧ (∀ j u, xs[j]? = some u → wd.cell? ⟨b, off + j, none⟩ = some u) ∧ JAt wd V v xs := by
              have h := HBd.out.2.2.2.2.1
              unfold JAt at h
              obtain ⟨na, nc, iaa, icc, h1, h2, h3, h4, h5⟩ := h
              unfold ItAt at h5
              obtain ⟨⟨b, off, xs, e1, e2, e3, e4⟩, -⟩ := h5
              simp only [jC, Array.mk.injEq, List.cons.injEq, Value.int.injEq, Value.slice.injEq, true_and, and_true] at h1
              refine ⟨b, off, xs, h1.1, ?_, ?_, e2, fun j u hu => ?_, e4⟩
              · have := h1.2.2.2.2.2.1; simpa using this
              · rw [h1.2.2.2.2.1]; exact e1
              · have := e3 j u hu
                rw [show off + 0 * 5 + j = off + j by omega] at this
                exact this
            subst hek hfl hfa
            obtain ⟨pk, pn, pt, pa9, pl9, pc9, qa, ql, qc, hxs⟩ := JAt.cs hxj
            subst hxs
            have p0 := hxc 0 _ rfl
            have p1 := hxc 1 _ rfl
            have p2 := hxc 2 _ rfl
            have p3 := hxc 3 _ rfl
            have p4 := hxc 4 _ rfl
            simp only [Nat.add_zero] at p0
            have cA : ∀ d os, Calls Tryd.prog 12 #[.agg #[.int .i64 pk, .int .i64 pn, .string pt, .slice pa9 pl9 pc9, .slice qa ql qc], .agg #[.int .i64 ak, .int .i64 an, .string at_, .slice aa al ac, .slice ba bl bc]] (grow (redrawn wd d) os) fun e w'' => e = .returned (.bool true) ∧ ∃ p : Regrown, w'' = grow (redrawn wd p.d) p.os := fun d os =>
              Calls.regrown_of (specM v (grow (redrawn wd d) os) V T _ _ HRV.out.1 (hxj.below (below_regrown wd d os)) (HBd.out.2.2.1.below (below_regrown wd d os)))
            have cB : ∀ d os, Calls Tryd.prog 12 #[.agg #[.int .i64 ik, .int .i64 iN, .string it, .slice ia il ic, .slice ja jl jc], .agg #[.int .i64 ak, .int .i64 an, .string at_, .slice aa al ac, .slice ba bl bc]] (grow (redrawn wd d) os) fun e w'' => e = .returned (.bool true) ∧ ∃ p : Regrown, w'' = grow (redrawn wd p.d) p.os := fun d os =>
              Calls.regrown_of (specM v (grow (redrawn wd d) os) T3 T _ _ HRV.out.1 (HBd.out.2.2.2.2.2.2.below (below_regrown wd d os)) (HBd.out.2.2.1.below (below_regrown wd d os)))
            have i0 := cell_regrown x0
            have i1 := cell_regrown x1
            have i2 := cell_regrown x2
            have i3 := cell_regrown x3
            have i4 := cell_regrown x4
            have j0 := cell_regrown y0
            have j4 := cell_regrown y4
            have k0 := cell_regrown z0
            have k1 := cell_regrown z1
            have k2 := cell_regrown z2
            have k3 := cell_regrown z3
            have k4 := cell_regrown z4
            have l0 := cell_regrown p0
            have l1 := cell_regrown p1
            have l2 := cell_regrown p2
            have l3 := cell_regrown p3
            have l4 := cell_regrown p4
            have HBE : Hid (Below w.heap.size w wd) := HBd.out.1
            clear hxc hxj HBd
            refine wp_region_quiet_below (by kernel_rfl) (by kernel_rfl) ?_
            iterate 24 (quiet_step (exact cA _ _))
            clear cA j0 j4 l0 l1 l2 l3 l4 p0 p1 p2 p3 p4 y0 y1 y2 y3 y4
            repeat (quiet_step (exact cB _ _))
            refine wpQuiet_nil ?_
            intro w7 hw'
            obtain ⟨⟨dq, osq⟩, hw7⟩ := hw'
            have hb7 : Below wd.heap.size wd w7 := by rw [hw7]; exact below_regrown wd dq osq
            have HW7 : Hid (Below w.heap.size w w7) := HBE.out.trans (hb7.mono HBE.out.size)
            clear hb7 hw7 cB i0 i1 i2 i3 i4 k0 k1 k2 k3 k4 x0 x1 x2 x3 x4 z0 z1 z2 z3 z4
            go_wp2
            go_ret
            exact ⟨rfl, HW7.out⟩
end Go.Proofs.YtelhgjepjieocaaDoor
