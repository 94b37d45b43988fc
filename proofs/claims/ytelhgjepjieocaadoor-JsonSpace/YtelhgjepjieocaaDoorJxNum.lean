/- Layer 18 (json): number. -/
import Derived.Test.YtelhgjepjieocaaDoorJxWord2
import Derived.Lib.AppendIntMem
import Derived.Lib.ParseIntB
namespace Go.Proofs.YtelhgjepjieocaaDoor
open Go.RowKit Go.Sort
set_option linter.unusedVariables false

/-- The library's variables that are read: the powers of ten and the two errors. -/
def Vs (w : World) : Prop := Lib.TabIs Tryd.prog w "internal/strconv.uint64pow10" .u64 Lib.pow10Tab ∧ (∃ t p, w.var? Tryd.prog "strconv.ErrSyntax" = some #[.iface t p]) ∧ (∃ t p, w.var? Tryd.prog "strconv.ErrRange" = some #[.iface t p])
theorem var_stay {P : Program} {w w' : World} {n : String} {cs : Array Value} (h : w.var? P n = some cs) (hb : Below w.heap.size w w') : w'.var? P n = some cs := by
  unfold World.var? at h ⊢
  cases hg : P.globalNamed n with
  | none => rw [hg] at h; cases h
  | some g =>
    rw [hg] at h
    simp only [Option.bind_some] at h ⊢
    have hlt : g < w.heap.size := by
      rcases Nat.lt_or_ge g w.heap.size with h' | h'
      · exact h'
      · rw [Array.getElem?_eq_none h'] at h; cases h
    rw [hb.block g hlt]
    exact h
theorem Vs.stay {w w' : World} (h : Vs w) (hb : Below w.heap.size w w') : Vs w' := by
  obtain ⟨h1, ⟨t, p, h2⟩, ⟨t', p', h3⟩⟩ := h
  exact ⟨var_stay h1 hb, ⟨t, p, var_stay h2 hb⟩, ⟨t', p', var_stay h3 hb⟩⟩
/-- The variables stand in a world that is older than the reader. -/
structure Bs (w0 w : World) (rb : Nat) : Prop where
  vs : Vs w0
  below : Below w0.heap.size w0 w
  rb : w0.heap.size ≤ rb
theorem Bs.frm {w0 w w' : World} {rb : Nat} (h : Bs w0 w rb) (hf : Frm (fun k => k = rb) w w') : Bs w0 w' rb := ⟨h.vs, h.below.trans (hf.toBelow h.below.size fun k e => by rw [e]; exact h.rb), h.rb⟩
theorem Bs.now {w0 w : World} {rb : Nat} (h : Bs w0 w rb) : Vs w := h.vs.stay h.below
theorem below_grown (w : World) (k : Nat) (os : Array Obj) : Below w.heap.size w (grow (w.drewN k) os) := by
  have hd := below_drawsT w k
  have hh := drewN_heap w k
  refine ⟨hd.os, hd.tape, hd.output, by simp [grow], fun i hi => ?_⟩
  simp only [grow, hh]
  rw [Array.getElem?_append_left hi]

def dgU (x : UInt8) : Bool := dgN x.toNat
/-- What may be a number at the front, and what comes behind it. -/
def numT (l : List UInt8) : List UInt8 := (if hdN l = some 45 then [45] else []) ++ (tkL l 45).takeWhile dgU
def numR (l : List UInt8) : List UInt8 := (tkL l 45).dropWhile dgU
def numP (l : List UInt8) : Option (Int × Int × List UInt8) := match Lib.parseIntB 64 (numT l) with
  | .ok v => if Lib.itoa v = numT l then some (3, v, numR l) else none
  | _ => none
theorem numT_R (l : List UInt8) : numT l ++ numR l = l := by
  unfold numT numR
  rw [List.append_assoc, List.takeWhile_append_dropWhile]
  by_cases h : hdN l = some 45
  · rw [if_pos h, tkL_yes h]
    cases l with
    | nil => cases h
    | cons x l =>
      have : x = 45 := by
        have h1 : x.toNat = 45 := by simpa [hdN] using h
        exact UInt8.toNat_inj.1 h1
      rw [this]; rfl
  · rw [if_neg h, tkL_no h]; rfl
theorem extract_take (s : ByteArray) (f k : Nat) : (s.extract f k).data.toList = (tl s f).take (k - f) := by
  rw [ByteArray.data_extract, Array.toList_extract, List.extract_eq_take_drop]
  rfl
theorem dw_head {l : List UInt8} (h : dgN ((hdN l).getD 0) = false) : l.dropWhile dgU = l := by
  cases l with
  | nil => rfl
  | cons x l =>
    have : dgU x = false := h
    simp [List.dropWhile, this]
theorem dw_tail {l : List UInt8} (h : dgN ((hdN l).getD 0) = true) : (∃ c, hdN l = some c) ∧ l.tail.dropWhile dgU = l.dropWhile dgU := by
  cases l with
  | nil => simp [hdN, dgN] at h
  | cons x l =>
    have : dgU x = true := h
    exact ⟨⟨_, rfl⟩, by simp [List.dropWhile, this]⟩

/-- strconv.ParseInt of a decimal text. -/
theorem parseInt_calls (x : ByteArray) (w : World) (hx : x.size ≤ 1048576) (hv : Vs w) :
    Calls Tryd.prog 68 #[.string x, .int .i64 10, .int .i64 64] w fun e w' => Below w.heap.size w w' ∧ ((∃ v, e = .returned (.tuple #[.int .i64 v, .nilIface]) ∧ Lib.parseIntB 64 x.data.toList = .ok v) ∨ (∃ v t p, e = .returned (.tuple #[.int .i64 v, .iface t p]) ∧ ∀ u, Lib.parseIntB 64 x.data.toList ≠ .ok u)) := by
  cases hp : Lib.parseIntB 64 x.data.toList with
  | ok v =>
    refine (Tryd.strconv_ParseInt_10_at64_ok x (by omega) v hp w).mono fun e w' ⟨h1, h2⟩ => ⟨?_, .inl ⟨v, h1, rfl⟩⟩
    rcases h2 with rfl | ⟨t, rfl⟩
    · exact Below.refl _ _
    · exact Lib.bytesWorld_below _ _ _
  | «syntax» =>
    obtain ⟨_, ⟨te, pe, hv2⟩, _⟩ := hv
    refine (Tryd.strconv_ParseInt_10_at64_syntax_var x (by omega) hp te pe w hv2).mono fun e w' ⟨N, h1, _, _, h2⟩ => ⟨h2, .inr ⟨_, _, _, h1, fun u h => by cases h⟩⟩
  | range =>
    obtain ⟨_, _, ⟨te, pe, hv2⟩⟩ := hv
    refine (Tryd.strconv_ParseInt_10_at64_range_var x (by omega) hp te pe w hv2).mono fun e w' ⟨N, h1, _, _, h2⟩ => ⟨h2, .inr ⟨_, _, _, h1, fun u h => by cases h⟩⟩
theorem pI_range {l : List UInt8} {v : Int} (h : Lib.parseIntB 64 l = .ok v) : -9223372036854775808 ≤ v ∧ v ≤ 9223372036854775807 := by
  unfold Lib.parseIntB at h
  cases l with
  | nil => cases h
  | cons c r =>
    simp only at h
    split at h
    · cases h
    · cases h
    · rename_i u hu
      have e : (2 : Nat) ^ (64 - 1) = 9223372036854775808 := by decide
      rw [e] at h
      split at h
      · cases h
      · rename_i h1
        split at h
        · cases h
        · rename_i h2
          injection h with h
          subst h
          split
          · rename_i h3
            have : ¬ 9223372036854775808 < u := fun x => h2 ⟨h3, x⟩
            omega
          · rename_i h3
            have : ¬ 9223372036854775808 ≤ u := fun x => h1 ⟨h3, x⟩
            omega
theorem itoaJ_calls (v : Int) (w : World) (hv : Vs w) (h : -9223372036854775808 ≤ v ∧ v ≤ 9223372036854775807) : Calls Tryd.prog 69 #[.int .i64 v, .int .i64 10] w fun e w' => e = .returned (.string ⟨(Lib.itoa v).toArray⟩) ∧ Below w.heap.size w w' :=
  (Tryd.strconv_FormatInt_10 v h.1 h.2 w hv.1).mono fun e w' ⟨h1, k, os, h2⟩ => ⟨h1, by rw [h2]; exact below_grown _ _ _⟩

set_option maxRecDepth 100000 in
set_option maxHeartbeats 2000000 in
theorem number_calls (w0 w : World) (rb n : Nat) (s : ByteArray) (l : List UInt8) (hb : Bs w0 w rb) (h : Rd w rb s n l) :
    Calls Tryd.prog 61 #[.pointer (some ⟨rb, 0, none⟩)] w (PlV w rb s (numP l)) := by
  have hrb := lt_of_heapT h.blk
  have hsuf := h.suf
  have hsz := h.sz
  obtain ⟨w1, Hw1⟩ : ∃ w1, Hid (w1 = w.alloc (.cells jZ 26)) := ⟨_, rfl⟩
  obtain ⟨g, Hg⟩ : ∃ g, Hid (g = w.heap.size) := ⟨_, rfl⟩
  have HB1 : Hid (Blk w1 g jZ 26) := by rw [Hid, Hw1.out, Hg.out]; exact Blk.new _ _ _
  have HF1 : Hid (Frm (fun k => k = rb) w w1) := by rw [Hid, Hw1.out]; exact Frm.ofBelow (below_new _ _) _
  have h1 : Rd w1 rb s n l := by rw [Hw1.out]; exact h.below (below_new _ _)
  have hne : g ≠ rb := by rw [Hg.out]; omega
  have hgw : w.heap.size ≤ g := by rw [Hg.out]; exact Nat.le_refl _
  have HBs : Hid (Bs w0 w rb) := hb
  obtain ⟨-, q1, -⟩ := h1.cells
  have hlen := h.len
  clear h hb
  unfold jZ jC at Hw1
  go_enter Tryd.func61, Tryd.ntmps61
  go_upto_region 1 with fail
  rw [← Hw1.out, ← Hg.out]
  clear Hw1 Hg
  go_wp2_with fail
  refine (take_calls w1 rb n s l 45 45 h1 rfl).mono ?_
  rintro e w2 ⟨rfl, ⟨n2, h2⟩, hF2⟩
  have HN : Hid (n ≤ n2) := by
    have a1 := h2.len
    have a2 : (tkL l 45).length ≤ l.length := by unfold tkL; split <;> simp
    rw [Hid]; omega
  have HI : Hid (∃ m l', Rd w2 rb s m l' ∧ l'.dropWhile dgU = numR l ∧ n ≤ m ∧ Frm (fun k => k = rb) w w2) := ⟨n2, _, h2, rfl, HN.out, HF1.out.trans hF2⟩
  have HB2 : Hid (Blk w2 g jZ 26) := HB1.out.rd hF2 hne
  have HF12 : Hid (∀ W, Frm (fun k => k = rb) w2 W → Blk W g jZ 26) := fun W hW => HB2.out.rd hW hne
  clear h1 h2 hF2 q1 HF1 HB1 HN
  go_wp2_with fail
  go_loopw [] (fun wr => Hid (∃ m l', Rd wr rb s m l' ∧ l'.dropWhile dgU = numR l ∧ n ≤ m ∧ Frm (fun k => k = rb) w wr ∧ Blk wr g jZ 26)) (fun wr => s.size - rdAt wr rb)
  case atStart =>
    obtain ⟨m, l', a1, a2, a3, a4⟩ := HI.out
    exact ⟨m, l', a1, a2, a3, a4, HB2.out⟩
  case round =>
    clear HI HF12 HB2
    obtain ⟨m, l', h', hd, hnm, hf, hbk⟩ := hrel.out
    clear hrel
    go_wp2_with fail
    refine (next_calls wr rb m s l' h').mono ?_
    rintro e w3 ⟨rfl, k3, rfl⟩
    go_wp2_with fail
    refine (isDigit_calls _ _).mono ?_
    rintro e w4 ⟨rfl, rfl⟩
    by_cases hdg : dgN ((hdN l').getD 0) = true
    · obtain ⟨⟨c, hc⟩, ht⟩ := dw_tail hdg
      rw [hdg]
      have hpos := h'.pos hc
      have h3 := h'.below (below_drawsT wr k3)
      have hset := h3.set (m := m + 1) (by omega)
      rw [h'.tail hpos] at hset
      obtain ⟨-, c1, f1⟩ := h3.cells
      have e1 : ((m + 1 : Nat) : Int) = (m : Int) + 1 := by omega
      rw [e1] at hset
      obtain ⟨W5, HW5⟩ : ∃ W5, Hid (W5 = (wr.drewN k3).setCell ⟨rb, 1, none⟩ (.int .i64 ((m : Int) + 1))) := ⟨_, rfl⟩
      rw [← HW5.out] at hset
      have hF5 : Frm (fun k => k = rb) wr W5 := by rw [HW5.out]; exact (Frm.ofDraws _ wr k3).trans (frm_set _ _ _ _)
      have HN : Hid (∃ m l', Rd W5 rb s m l' ∧ l'.dropWhile dgU = numR l ∧ n ≤ m ∧ Frm (fun k => k = rb) w W5 ∧ Blk W5 g jZ 26) :=
        ⟨m + 1, _, hset, ht.trans hd, by omega, hf.trans hF5, hbk.rd hF5 hne⟩
      have hm1 := hset.at
      have hm0 := h'.at
      have hm9 : m ≤ 1048576 := by omega
      clear h' hd hf hbk hc ht h3 hset hF5 e1
      go_wp2
      go_roundw
      case rel => rw [← HW5.out]; exact HN
      case measure =>
        rw [← HW5.out, hm0, hm1]
        omega
    · have hdf : dgN ((hdN l').getD 0) = false := Bool.eq_false_iff.2 hdg
      rw [hdf]
      have hle : l' = numR l := by rw [← hd]; exact (dw_head hdf).symm
      subst hle
      have h3 := h'.below (below_drawsT wr k3)
      obtain ⟨W6, HW6⟩ : ∃ W6, Hid (W6 = wr.drewN k3) := ⟨_, rfl⟩
      have hfr := Frm.ofDraws (fun k => k = rb) wr k3
      rw [← HW6.out] at h3 hfr ⊢
      have HF6 : Hid (Frm (fun k => k = rb) w W6) := hf.trans hfr
      have HB6 : Hid (Blk W6 g jZ 26) := hbk.rd hfr hne
      obtain ⟨c0, c1, -⟩ := h3.cells
      have hlm := h3.len
      have hms := h3.le
      have HX : Hid ((s.extract n m).data.toList = numT l) := by
        have e1 := congrArg List.length (numT_R l)
        rw [List.length_append] at e1
        have e2 : m - n = (numT l).length := by omega
        have e3 : l.take (numT l).length = numT l := by
          conv => lhs; rw [← numT_R l]
          rw [List.take_left']
          rw [numT_R]
        rw [Hid, extract_take, hsuf, e2, e3]
      have HR6 : Hid (Rd W6 rb s m (numR l)) := h3
      clear h' hd hf hbk hdg hdf h3 hfr hlm HW6
      go_wp2_with fail
      go_quiet (fail)
      go_wp2_with fail
      obtain ⟨x, Hx⟩ : ∃ x, Hid (x = s.extract n m) := ⟨_, rfl⟩
      have hxz : x.size ≤ 1048576 := by rw [Hx.out, ByteArray.size_extract]; omega
      rw [← Hx.out] at HX
      rw [← Hx.out]
      have HR7 : Hid (Rd (W6.drewN nq) rb s m (numR l) ∧ Frm (fun k => k = rb) w (W6.drewN nq) ∧ Blk (W6.drewN nq) g jZ 26) := ⟨HR6.out.below (below_drawsT _ _), HF6.out.trans (Frm.ofDraws _ _ _), HB6.out.below (below_drawsT _ _)⟩
      obtain ⟨W7, HW7⟩ : ∃ W7, Hid (W7 = W6.drewN nq) := ⟨_, rfl⟩
      rw [← HW7.out] at HR7 ⊢
      clear HR6 HF6 HB6 HW7 Hx c0 c1
      refine (parseInt_calls x W7 hxz (HBs.out.frm HR7.out.2.1).now).mono ?_
      rintro e w8 ⟨hb8, hor⟩
      have HF8 : Hid (Frm (fun k => k = rb) w w8) := HR7.out.2.1.trans (Frm.ofBelow hb8 _)
      have HR8 : Hid (RdP w rb s (numR l) w8) := ⟨⟨m, HR7.out.1.below hb8⟩, HF8.out⟩
      have HB8 : Hid (Blk w8 g jZ 26) := HR7.out.2.2.below hb8
      rw [HX.out] at hor
      clear hb8 HR7
      rcases hor with ⟨v, rfl, hp⟩ | ⟨v, t, p, rfl, hp⟩
      · have hvr := pI_range hp
        have HV8 : Hid (Vs w8) := (HBs.out.frm HF8.out).now
        by_cases hi : Lib.itoa v = numT l
        · have HP : Hid (numP l = some (3, v, numR l)) := by simp only [Hid, numP, hp, hi, if_true]
          have qs : ((⟨(Lib.itoa v).toArray⟩ : ByteArray).toList == x.toList) = true := by rw [ByteArray.toList_eq, ByteArray.toList_eq, HX.out, hi]; exact beq_self_eq_true _
          have qs2 : (Lib.itoa v == x.toList) = true := by rw [ByteArray.toList_eq, HX.out, hi]; exact beq_self_eq_true _
          clear hi hp HX
          go_wp2_with fail
          refine (itoaJ_calls v w8 HV8.out hvr).mono ?_
          rintro e w9 ⟨rfl, hb9⟩
          have HR9 : Hid (RdP w rb s (numR l) w9) := HR8.out.below hb9
          have HB9 : Hid (Blk w9 g jZ 26) := HB8.out.below hb9
          clear hb9 HR8 HB8 HF8 HV8
          go_wp2_with fail
          refine (num_calls v w9).mono ?_
          rintro e w10 ⟨rfl, hb10⟩
          have HR10 : Hid (RdP w rb s (numR l) w10) := HR9.out.below hb10
          have HB10 : Hid (Blk w10 g jZ 26) := HB9.out.below hb10
          clear hb10 HR9 HB9 qs qs2
          obtain ⟨y0, y1, y2, y3, y4, z0, z1, z2, z3, z4⟩ := Blk.five HB10.out
          unfold jC
          go_wp2
          change bodyPost _ _ _ _ _ (putC w10 g 0 [.int .i64 3, .int .i64 v, .string ⟨#[]⟩, .slice none 0 0, .slice none 0 0])
          exact ret_cellE rfl rfl rfl rfl (load_js (putC_all HB10.out rfl) rfl) (by rw [HP.out]; exact ⟨rfl, HR10.out.put hgw hrb _⟩)
        · have qs : ((⟨(Lib.itoa v).toArray⟩ : ByteArray).toList == x.toList) = false := by rw [ByteArray.toList_eq, ByteArray.toList_eq, HX.out]; simpa using hi
          have qs2 : (Lib.itoa v == x.toList) = false := by rw [ByteArray.toList_eq, HX.out]; simpa using hi
          have HP : Hid (numP l = none) := by simp only [Hid, numP, hp, hi, if_false]
          clear hi hp HX
          go_wp2_with fail
          refine (itoaJ_calls v w8 HV8.out hvr).mono ?_
          rintro e w9 ⟨rfl, hb9⟩
          have HR9 : Hid (RdP w rb s (numR l) w9) := HR8.out.below hb9
          have HB9 : Hid (Blk w9 g jZ 26) := HB8.out.below hb9
          clear hb9 HR8 HB8 HF8 HV8
          obtain ⟨y0, y1, y2, y3, y4, z0, z1, z2, z3, z4⟩ := Blk.five HB9.out
          go_wp2
          change bodyPost _ _ _ _ _ (putC w9 g 0 [.int .i64 0, .int .i64 0, .string ⟨#[]⟩, .slice none 0 0, .slice none 0 0])
          exact ret_cellE rfl rfl rfl rfl (load_js (putC_all HB9.out rfl) rfl) (by rw [HP.out]; exact ⟨rfl, _, HR9.out.put hgw hrb _⟩)
      · have HP : Hid (numP l = none) := by
          show numP l = none
          unfold numP
          cases hq : Lib.parseIntB 64 (numT l) with
          | ok u => exact absurd hq (hp u)
          | «syntax» => rfl
          | range => rfl
        clear hp HX
        obtain ⟨y0, y1, y2, y3, y4, z0, z1, z2, z3, z4⟩ := Blk.five HB8.out
        go_wp2
        change bodyPost _ _ _ _ _ (putC w8 g 0 [.int .i64 0, .int .i64 0, .string ⟨#[]⟩, .slice none 0 0, .slice none 0 0])
        exact ret_cellE rfl rfl rfl rfl (load_js (putC_all HB8.out rfl) rfl) (by rw [HP.out]; exact ⟨rfl, _, HR8.out.put hgw hrb _⟩)
end Go.Proofs.YtelhgjepjieocaaDoor
