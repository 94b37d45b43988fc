/- Layer 18 (json): whole: a list or object is read. -/
import Derived.Test.YtelhgjepjieocaaDoorJxLen
namespace Go.Proofs.YtelhgjepjieocaaDoor
open Go.RowKit Go.Sort
set_option linter.unusedVariables false

/-- Every value up to a bound of the fuel is read so. -/
def VSpec (w0 : World) (s : ByteArray) (K0 : Nat) : Prop := ∀ (k : Nat), k ≤ K0 → ∀ (d : Nat) (w : World) (rb n : Nat) (l : List UInt8), Bs w0 w rb → Rd w rb s n l → 2 * l.length + 1 ≤ k → d ≤ 16 →
  Calls Tryd.prog 27 #[.pointer (some ⟨rb, 0, none⟩), .int .i64 (d : Int)] w (VlR w rb s (valF k d l))
/-- What is read behind a bracket. -/
def whR (k : Nat) (kind : Int) (e d : Nat) (l : List UInt8) : Except Int (Js × List UInt8) := if d = 16 then .error 182 else if hdN (spL l.tail) = some e then .ok (.mk kind 0 [] [] [], (spL l.tail).tail) else elF k kind e d (spL l.tail) [] []
/-- What stands ahead of a round: en: the closing bracket was read. -/
def WhS (w : World) (rb gv gr mb : Nat) (s : ByteArray) (kind : Int) (e K0 d : Nat) (R : Except Int (Js × List UInt8)) (en : Bool) (wr : World) : Prop :=
  ∃ (k' : Nat) (S : Nat → Prop) (m : Nat) (l' : List UInt8) (ns : List (List UInt8)) (its : List Js) (nv iv : Value) (css : List (Array Value)), WhI w rb gv gr mb s kind S m l' ns ns its nv iv css wr ∧ its.length + l'.length ≤ s.size ∧ ns.length ≤ its.length ∧
    match en with
    | true => R = .ok (.mk kind 0 [] ns its, l')
    | false => R = elF k' kind e d l' ns its ∧ 2 * l'.length + 2 ≤ k' ∧ k' ≤ K0
theorem putC_blk {g k : Nat} (hne : k ≠ g) : ∀ (l : List Value) (w : World) (i : Nat), (putC w g i l).heap[k]? = w.heap[k]?
  | [], _, _ => rfl
  | v :: l, w, i => by
    show (putC (w.setCell ⟨g, i, none⟩ v) g (i + 1) l).heap[k]? = _
    rw [putC_blk hne l, heap_setCell_other _ _ _ _ (by exact hne)]
theorem rfl_os (w : World) (g : Nat) : ∀ (l : List Value), (putC w g 0 l).os = w.os := by
  have : ∀ (l : List Value) (w : World) (i : Nat), (putC w g i l).os = w.os := fun l => by
    induction l with
    | nil => intro w i; rfl
    | cons v l ih => intro w i; exact ih _ _
  exact fun l => this l w 0
theorem rfl_tape (w : World) (g : Nat) : ∀ (l : List Value), (putC w g 0 l).tape = w.tape := by
  have : ∀ (l : List Value) (w : World) (i : Nat), (putC w g i l).tape = w.tape := fun l => by
    induction l with
    | nil => intro w i; rfl
    | cons v l ih => intro w i; exact ih _ _
  exact fun l => this l w 0
theorem rfl_out (w : World) (g : Nat) : ∀ (l : List Value), (putC w g 0 l).output = w.output := by
  have : ∀ (l : List Value) (w : World) (i : Nat), (putC w g i l).output = w.output := fun l => by
    induction l with
    | nil => intro w i; rfl
    | cons v l ih => intro w i; exact ih _ _
  exact fun l => this l w 0
theorem JAt.cs {w : World} {S : Nat → Prop} {v : Js} {cs : Array Value} (h : JAt w S v cs) : ∃ xk xn xt xa xl xc ya yl yc, cs = #[.int .i64 xk, .int .i64 xn, .string xt, .slice xa xl xc, .slice ya yl yc] := by
  cases v with
  | mk k n t ns its =>
    unfold JAt at h
    obtain ⟨na, nc, ia, ic, h1, -⟩ := h
    exact ⟨_, _, _, _, _, _, _, _, _, h1⟩
theorem JAt.one {w : World} {S : Nat → Prop} {v : Js} {cs : Array Value} (h : JAt w S v cs) : ∀ u ∈ cs.toList, u.oneCell' = true := by
  cases v with
  | mk k n t ns its =>
    unfold JAt at h
    obtain ⟨na, nc, ia, ic, h1, -⟩ := h
    rw [h1]
    exact (jC_all _ _ _ _ _ _ _ _ _).2

set_option maxRecDepth 100000 in
set_option maxHeartbeats 8000000 in
theorem whole5_calls (w0 : World) (K0 : Nat) (s : ByteArray) (IH : VSpec w0 s K0) (w : World) (rb n d : Nat) (l : List UInt8) (hb : Bs w0 w rb) (h : Rd w rb s n l) (hl : 0 < l.length) (hk : 2 * l.length + 1 ≤ K0 + 1) (hd : d ≤ 16) :
    Calls Tryd.prog 58 #[.pointer (some ⟨rb, 0, none⟩), .int .i64 5, .int .u8 93, .int .i64 (d : Int)] w (VlR w rb s (whR K0 5 93 d l)) := by
  have hrb := lt_of_heapT h.blk
  have HIH : Hid (VSpec w0 s K0) := IH
  have HBs : Hid (Bs w0 w rb) := hb
  obtain ⟨R, HR⟩ : ∃ R, Hid (R = whR K0 5 93 d l) := ⟨_, rfl⟩
  rw [← HR.out]
  obtain ⟨w1, Hw1⟩ : ∃ w1, Hid (w1 = w.alloc (.cells jZ 26)) := ⟨_, rfl⟩
  obtain ⟨gr, Hg⟩ : ∃ gr, Hid (gr = w.heap.size) := ⟨_, rfl⟩
  have HB1 : Hid (Blk w1 gr jZ 26) := by rw [Hid, Hw1.out, Hg.out]; exact Blk.new _ _ _
  have HF1 : Hid (Frm (fun k => k = rb) w w1) := by rw [Hid, Hw1.out]; exact Frm.ofBelow (below_new _ _) _
  have HR1 : Hid (Rd w1 rb s n l) := by rw [Hid, Hw1.out]; exact h.below (below_new _ _)
  have hgr : w.heap.size ≤ gr := by rw [Hg.out]; exact Nat.le_refl _
  have hrg : rb ≠ gr := by omega
  have hsz := h.sz
  have hnl := h.len
  have hpos : n < s.size := by omega
  have hhk : Hid (2 * l.length + 1 ≤ K0 + 1 ∧ 0 < l.length) := ⟨hk, hl⟩
  clear h hb IH hk hl
  unfold jZ jC at Hw1
  go_enter Tryd.func58, Tryd.ntmps58
  go_upto_region 1 with fail
  rw [← Hw1.out, ← Hg.out]
  clear Hw1 Hg
  by_cases hd16 : d = 16
  · have HE : Hid (R = .error 182) := by rw [Hid, HR.out, whR, if_pos hd16]
    subst hd16
    have HRx : Hid (∃ l n, Rd w1 rb s n l) := ⟨_, _, HR1.out⟩
    clear HR HR1 hnl
    obtain ⟨y0, y1, y2, y3, y4, z0, z1, z2, z3, z4⟩ := Blk.five HB1.out
    go_wp2
    change bodyPost _ _ _ _ _ (putC w1 gr 0 [.int .i64 0, .int .i64 0, .string ⟨#[]⟩, .slice none 0 0, .slice none 0 0])
    refine ret_cellE rfl rfl rfl rfl (load_js (putC_all HB1.out rfl) rfl) ?_
    rw [HE.out]
    exact ⟨(HF1.out).put _ _ 0 hgr, ⟨0, rfl⟩, .inr (.inl rfl), by
      obtain ⟨l9, n9, h9⟩ := HRx.out
      exact ⟨l9, n9, h9.put hrg _⟩⟩
  · have HE : Hid (R = if hdN (spL l.tail) = some 93 then .ok (.mk 5 0 [] [] [], (spL l.tail).tail) else elF K0 5 93 d (spL l.tail) [] []) := by rw [Hid, HR.out, whR, if_neg hd16]
    have hq16 : ((d : Int) == 16) = false := by simp; omega
    obtain ⟨-, c1, f1⟩ := HR1.out.cells
    have hR2 := rd_step HR1.out hpos
    obtain ⟨w2, Hw2⟩ : ∃ w2, Hid (w2 = w1.setCell ⟨rb, 1, none⟩ (.int .i64 ((n : Int) + 1))) := ⟨_, rfl⟩
    have hf2 : Frm (fun k => k = rb) w1 w2 := by rw [Hw2.out]; exact frm_set _ _ _ _
    rw [← Hw2.out] at hR2
    have HF2 : Hid (Frm (fun k => k = rb) w w2) := HF1.out.trans hf2
    have HB2 : Hid (Blk w2 gr jZ 26) := HB1.out.rd hf2 (by omega)
    have HSK := skip_calls w2 rb (n + 1) s l.tail hR2
    clear HR hR2 hf2 HB1 HF1 HR1
    go_upto_region 4 with fail
    rw [← Hw2.out]
    clear Hw2 c1 f1
    go_wp2_with fail
    refine HSK.mono ?_
    clear HSK
    rintro e w3 ⟨rfl, ⟨n3, h3⟩, f3⟩
    obtain ⟨l3, Hl3⟩ : ∃ l3, Hid (l3 = spL l.tail) := ⟨_, rfl⟩
    have hl3 : l3.length + 1 ≤ l.length := by
      have := spL_len l.tail
      have h9 := hhk.out.2
      rw [Hl3.out]; simp at this; omega
    rw [← Hl3.out] at h3 HE
    clear Hl3
    obtain ⟨w4, Hw4⟩ : ∃ w4, Hid (w4 = w3.alloc (.cells #[.int .i64 5, .int .i64 0, .string ⟨#[]⟩, .slice none 0 0, .slice none 0 0] 26)) := ⟨_, rfl⟩
    obtain ⟨gv, Hgv⟩ : ∃ gv, Hid (gv = w3.heap.size) := ⟨_, rfl⟩
    obtain ⟨w5, Hw5⟩ : ∃ w5, Hid (w5 = w4.alloc (.map #[] 0)) := ⟨_, rfl⟩
    obtain ⟨mb, Hmb⟩ : ∃ mb, Hid (mb = w4.heap.size) := ⟨_, rfl⟩
    have hF3 := HF2.out.trans f3
    have hB3 := HB2.out.rd f3 (by omega)
    have hb4 : Below w3.heap.size w3 w4 := by rw [Hw4.out]; exact below_new _ _
    have hb5 : Below w4.heap.size w4 w5 := by rw [Hw5.out]; exact below_new _ _
    have hg4 : Blk w4 gv (jC 5 0 ⟨#[]⟩ (.slice none 0 0) (.slice none 0 0)) 26 := by rw [Hw4.out, Hgv.out]; exact Blk.new _ _ _
    have hm5 : w5.heap[mb]? = some (.map #[] 0) := by rw [Hw5.out, Hmb.out]; exact heap_alloc_new w4 _
    have hgl := hB3.lt
    have HW5 : Hid (WhI w rb gv gr mb s 5 (fun _ => False) n3 l3 [] [] [] (.slice none 0 0) (.slice none 0 0) [] w5) := by
      have hsz3 := hF3.size
      have h4s := hb4.size
      have q1 := Hgv.out
      have q2 := Hmb.out
      refine ⟨(h3.below hb4).below hb5, ⟨#[], 0, hm5, MapKept.stamped_empty 0, rfl, fun e he => (by simp at he)⟩, hg4.below hb5, (hB3.below hb4).below hb5, Ow.nil _ _ _, OwI.nil _ _ _, fun k hk => hk.elim, ⟨by omega, hgr, by omega, by omega⟩, ⟨fun h => h, fun h => h, fun h => h⟩, fun k hk => (by cases hk), fun k hk => (by cases hk), (hF3.trans (Frm.ofBelow hb4 _)).trans (Frm.ofBelow hb5 _), hrb⟩
    have hmk : ∀ W : World, (Instr.makeMap 89 none).run Tryd.prog W = .ok (.map (some W.heap.size)) (W.alloc (.map #[] 0)) := fun W => by simp [Instr.makeMap, Result.andThen]
    have HTK := take_calls w5 rb n3 s l3 93 93 HW5.out.rd rfl
    clear h3 f3 hF3 hB3 hb4 hb5 hg4 hm5 hgl HB2 HF2
    go_upto_region 6 with fail
    rw [← Hw4.out, ← Hgv.out]
    go_upto_region 7 with fail
    rw [← Hw5.out, ← Hmb.out]
    clear Hw4 Hgv Hw5 Hmb hmk
    go_wp2_with fail
    refine HTK.mono ?_
    clear HTK
    rintro e w6 ⟨rfl, ⟨n6, h6⟩, f6⟩
    have HI : Hid (WhS w rb gv gr mb s 5 93 K0 d R (decide (hdN l3 = some 93)) w6) := by
      by_cases he : hdN l3 = some 93
      · rw [decide_eq_true he]
        rw [tkL_yes he] at h6
        refine ⟨0, _, n6, l3.tail, [], [], _, _, [], HW5.out.read f6 h6, by have := h6.len; simp; omega, Nat.le_refl _, ?_⟩
        show R = _
        rw [HE.out, if_pos he]
      · rw [decide_eq_false he]
        rw [tkL_no he] at h6
        refine ⟨K0, _, n6, l3, [], [], _, _, [], HW5.out.read f6 h6, by have := h6.len; simp; omega, Nat.le_refl _, ?_⟩
        refine ⟨?_, by have := hhk.out; omega, Nat.le_refl _⟩
        rw [HE.out, if_neg he]
    clear HE HW5 h6 f6 hhk hnl hpos hl3
    obtain ⟨en, Hen⟩ : ∃ en, Hid (en = decide (hdN l3 = some 93)) := ⟨_, rfl⟩
    rw [← Hen.out] at HI ⊢
    clear Hen
    go_wp2
    go_loopw [12] (fun x wr => ∃ en : Bool, x = .bool en ∧ Hid (WhS w rb gv gr mb s 5 93 K0 d R en wr)) (fun _ wr => s.size - rdAt wr rb)
    case atStart => exact ⟨_, rfl, HI⟩
    case round =>
      clear HI
      obtain ⟨en, rfl, HI⟩ := hrel
      obtain ⟨k', S, m, l', ns, its, nv, iv, css, hW, hsm, hnsl, hres⟩ := HI.out
      obtain ⟨na, nc, rfl, -⟩ := hW.nm.shape
      obtain ⟨ia, ic, rfl⟩ := hW.it.shape
      have hnl0 : (ns.map strV).length = ns.length := List.length_map ..
      rw [hnl0] at hW
      have HW : Hid (WhI w rb gv gr mb s 5 S m l' ns ns its (.slice na ns.length nc) (.slice ia its.length ic) css wr) := hW
      have hat0 := hW.rd.at
      have hlen0 := hW.rd.len
      clear hW HI hnl0
      cases en with
      | true =>
        have HRe : Hid (R = .ok (.mk 5 0 [] ns its, l')) := hres
        clear hres
        obtain ⟨x0, x1, x2, x3, x4, -⟩ := Blk.five HW.out.bx
        obtain ⟨y0, y1, y2, y3, y4, z0, z1, z2, z3, z4⟩ := Blk.five HW.out.rs
        obtain ⟨wz, Hwz⟩ : ∃ wz, Hid (wz = putC wr gr 0 [.int .i64 5, .int .i64 0, .string ⟨#[]⟩, .slice na ns.length nc, .slice ia its.length ic]) := ⟨_, rfl⟩
        have HZ : Hid (VlR w rb s R (.returned (.tuple #[.agg (jC 5 0 ⟨#[]⟩ (.slice na ns.length nc) (.slice ia its.length ic)), .int .i64 0])) wz) := by
          have hF : Frm (fun k => k = gr) wr wz := by
            rw [Hwz.out]
            exact ⟨rfl_os _ _ _, rfl_tape _ _ _, rfl_out _ _ _, by rw [putC_size]; exact Nat.le_refl _, fun k hk hn => putC_blk hn _ _ _⟩
          rw [Hid, HRe.out]
          refine ⟨by rw [Hwz.out]; exact HW.out.frm.put _ _ 0 hgr, _, fun k => S k ∨ (Value.slice na ns.length nc).ownBlock = some k ∨ (Value.slice ia its.length ic).ownBlock = some k, rfl, ⟨m, by rw [Hwz.out]; exact HW.out.rd.put hrg _⟩, ?_, fun k hk => ?_⟩
          · unfold JAt
            refine ⟨na, nc, ia, ic, rfl, HW.out.nm.v.frm hF (fun a e e2 => ?_), fun a e _ => .inr (.inl (by rw [e]; rfl)), fun a e _ => .inr (.inr (by rw [e]; rfl)), ?_⟩
            · exact (HW.out.nvM (k := a.block) (by rw [e]; rfl)).2.2.2.1 e2
            · have h1 := ItAt.of HW.out.it its.length 0 (by omega)
              rw [List.drop_zero] at h1
              have h2 := ItAt.mono (fun k hk => (.inl hk : S k ∨ (Value.slice ia its.length ic).ownBlock = some k)) _ _ _ h1
              have h3 := ItAt.frm (T := fun k => k = gr) hF (fun k hk e => by
                rcases hk with hk | hk
                · exact HW.out.nS.2.1 (by rw [← e]; exact hk)
                · exact (HW.out.nI k hk).2.2 e) its ia 0 (fun a e _ => .inr (by rw [e]; rfl)) h2
              exact ItAt.mono (fun k hk => hk.elim .inl fun h => .inr (.inr h)) _ _ _ h3
          · rw [Hwz.out, putC_size]
            rcases hk with hk | hk | hk
            · exact HW.out.sb k hk
            · exact HW.out.nm.lt k hk
            · exact HW.out.it.lt k hk
        have HLd : Hid ((loadVar 26 ⟨gr, 0, none⟩).run Tryd.prog wz = .ok (.agg (jC 5 0 ⟨#[]⟩ (.slice na ns.length nc) (.slice ia its.length ic))) wz) := by
          rw [Hid, Hwz.out]
          exact load_js (putC_all HW.out.rs rfl) rfl
        clear HW hat0 hlen0
        go_wp2
        change bodyPost _ _ _ _ _ (putC wr gr 0 [.int .i64 5, .int .i64 0, .string ⟨#[]⟩, .slice na ns.length nc, .slice ia its.length ic])
        rw [← Hwz.out]
        exact ret_cellE rfl rfl rfl rfl HLd.out HZ.out
      | false =>
        obtain ⟨hRe, hk2, hk3⟩ := hres
        obtain ⟨k2, rfl⟩ : ∃ k2, k' = k2 + 1 := ⟨k' - 1, by omega⟩
        unfold elF at hRe
        unfold elN at hRe
        rw [if_neg (by decide)] at hRe
        have HRe : Hid (R = match bareF k2 (d + 1) (spL l') with
            | .error c => .error c
            | .ok (x, r) => if hdN (spL r) = some 93 then .ok (.mk 5 0 [] ns (its ++ [x]), (spL r).tail)
              else if hdN (spL r) = some 44 then elF k2 5 93 d (spL r).tail ns (its ++ [x])
              else .error 181) := hRe
        clear hRe
        by_cases htriv : True
        · have HW9 : Hid (WhI w rb gv gr mb s 5 S m l' ns ns its (.slice na ns.length nc) (.slice ia its.length ic) css wr) := HW.out
          have hns9 : ns.length ≤ its.length + 1 := by omega
          have hnx : l'.length ≤ l'.length := Nat.le_refl _
          clear HW hnsl
          go_upto_region 14 with fail
          have hdI : ((d + 1 : Nat) : Int) = (d : Int) + 1 := by omega
          have HVC := HIH.out k2 (by omega) (d + 1) wr rb m l' (HBs.out.frm HW9.out.frm) HW9.out.rd (by omega) (by omega)
          rw [hdI] at HVC
          have hl9 := (bareF_lens k2).1 (d + 1) (spL l')
          cases hbr : bareF k2 (d + 1) (spL l') with
          | error c =>
            have e9 : valF k2 (d + 1) l' = .error c := by unfold valF; rw [hbr]; rfl
            rw [e9] at HVC
            have HRe2 : Hid (R = .error c) := by rw [Hid, HRe.out, hbr]
            clear hbr HRe hl9 e9
            go_wp2_with fail
            refine HVC.mono ?_
            clear HVC
            rintro e w10 ⟨f10, ⟨kk, rfl⟩, hcm, hr10⟩
            have hc0 : (c != 0) = true := by rcases hcm with h | h | h <;> subst h <;> rfl
            have HR10 : Hid (∃ l n, Rd w10 rb s n l) := hr10
            have HF10 : Hid (Frm (fun k => k = rb) w w10) := HW9.out.frm.trans f10
            have HB10 : Hid (Blk w10 gr jZ 26) := HW9.out.rs.rd f10 (by omega)
            unfold jC
            obtain ⟨w11, Hw11⟩ : ∃ w11, Hid (w11 = w10.alloc (.cells #[.int .i64 kk, .int .i64 0, .string ⟨#[]⟩, .slice none 0 0, .slice none 0 0] 26)) := ⟨_, rfl⟩
            have hb11 : Below w10.heap.size w10 w11 := by rw [Hw11.out]; exact below_new _ _
            have HR11 : Hid (∃ l n, Rd w11 rb s n l) := by
              obtain ⟨l9, n9, h9⟩ := HR10.out
              exact ⟨l9, n9, h9.below hb11⟩
            have HF11 : Hid (Frm (fun k => k = rb) w w11) := HF10.out.trans (Frm.ofBelow hb11 _)
            have HB11 : Hid (Blk w11 gr jZ 26) := HB10.out.below hb11
            clear f10 hr10 HW9 hb11 HR10 HF10 HB10
            go_upto_region 15 with fail
            rw [← Hw11.out]
            clear Hw11
            obtain ⟨y0, y1, y2, y3, y4, z0, z1, z2, z3, z4⟩ := Blk.five HB11.out
            go_wp2
            change bodyPost _ _ _ _ _ (putC w11 gr 0 [.int .i64 0, .int .i64 0, .string ⟨#[]⟩, .slice none 0 0, .slice none 0 0])
            refine ret_cellE rfl rfl rfl rfl (load_js (putC_all HB11.out rfl) rfl) ?_
            rw [HRe2.out]
            exact ⟨(HF11.out).put _ _ 0 hgr, ⟨0, rfl⟩, hcm, by
              obtain ⟨l9, n9, h9⟩ := HR11.out
              exact ⟨l9, n9, h9.put hrg _⟩⟩
          | ok p =>
            obtain ⟨x, r⟩ := p
            have e9 : valF k2 (d + 1) l' = .ok (x, spL r) := by unfold valF; rw [hbr]; rfl
            rw [e9] at HVC
            have hlr := hl9 x r hbr
            have hls := spL_len l'
            have hlr2 := spL_len r
            have HRe2 : Hid (R = if hdN (spL r) = some 93 then .ok (.mk 5 0 [] ns (its ++ [x]), (spL r).tail)
              else if hdN (spL r) = some 44 then elF k2 5 93 d (spL r).tail ns (its ++ [x])
              else .error 181) := by rw [Hid, HRe.out, hbr]
            obtain ⟨r2, Hr2⟩ : ∃ r2, Hid (r2 = spL r) := ⟨_, rfl⟩
            rw [← Hr2.out] at HRe2 HVC hlr2
            have hr2l : r2.length ≤ l'.length := by omega
            clear hbr HRe hl9 e9 hlr hls hlr2 Hr2
            go_wp2_with fail
            refine HVC.mono ?_
            clear HVC
            rintro e w10 ⟨f10, cs, S2, rfl, ⟨n10, h10⟩, hj10, hs10⟩
            have HW10 : Hid (WhI w rb gv gr mb s 5 S n10 r2 ns ns its (.slice na ns.length nc) (.slice ia its.length ic) css w10) := HW9.out.read f10 h10
            have HJ10 : Hid (JAt w10 S2 x cs) := hj10
            have HS10 : Hid (∀ k, S2 k → wr.heap.size ≤ k ∧ k < w10.heap.size) := hs10
            have HSv : Hid (∀ k, S2 k → (Value.slice na ns.length nc).ownBlock ≠ some k ∧ (Value.slice ia its.length ic).ownBlock ≠ some k ∧ k ≠ gv ∧ k ≠ gr ∧ k ≠ mb) := fun k hk => by
              have h1 := (hs10 k hk).1
              refine ⟨fun e => by have := (HW9.out.nm.lt k e).2; omega, fun e => by have := (HW9.out.it.lt k e).2; omega, fun e => by have := HW9.out.bx.lt; omega, fun e => by have := HW9.out.rs.lt; omega, fun e => by have := HW9.out.mp.lt; omega⟩
            obtain ⟨xk, xn, xt, xa, xl, xc, ya, yl, yc, hcs⟩ := JAt.cs HJ10.out
            subst hcs
            have hWl := HW9.out.frm.size
            clear f10 h10 hj10 hs10 HW9
            obtain ⟨w11, Hw11⟩ : ∃ w11, Hid (w11 = w10.alloc (.cells #[.int .i64 xk, .int .i64 xn, .string xt, .slice xa xl xc, .slice ya yl yc] 26)) := ⟨_, rfl⟩
            have hb11 : Below w10.heap.size w10 w11 := by rw [Hw11.out]; exact below_new _ _
            have hone := HJ10.out.one
            obtain ⟨gi, Hgi⟩ : ∃ gi, Hid (gi = w10.heap.size) := ⟨_, rfl⟩
            have HBi : Hid (Blk w11 gi #[.int .i64 xk, .int .i64 xn, .string xt, .slice xa xl xc, .slice ya yl yc] 26) := by rw [Hid, Hw11.out, Hgi.out]; exact Blk.new _ _ _
            have HW11 : Hid (WhI w rb gv gr mb s 5 S n10 r2 ns ns its (.slice na ns.length nc) (.slice ia its.length ic) css w11) := HW10.out.more hb11
            have HJ11 : Hid (JAt w11 S2 x #[.int .i64 xk, .int .i64 xn, .string xt, .slice xa xl xc, .slice ya yl yc]) := JAt.frm (Frm.ofBelow hb11 (fun _ => False)) (fun _ _ h => h) _ _ HJ10.out
            have HS11 : Hid (∀ k, S2 k → w.heap.size ≤ k ∧ k < w11.heap.size ∧ k ≠ gv ∧ k ≠ gr ∧ k ≠ mb ∧ (Value.slice na ns.length nc).ownBlock ≠ some k ∧ (Value.slice ia its.length ic).ownBlock ≠ some k) := fun k hk => by
              have h1 := HS10.out k hk
              have h2 := HSv.out k hk
              have h3 := hb11.size
              exact ⟨by omega, by omega, h2.2.2.1, h2.2.2.2.1, h2.2.2.2.2, h2.1, h2.2.1⟩
            clear HW10 HJ10 HS10 HSv hb11
            go_upto_region 15 with fail
            rw [← Hw11.out, ← Hgi.out]
            clear Hw11 Hgi
            obtain ⟨i0, i1, i2, i3, i4, -⟩ := Blk.five HBi.out
            have hitl : its.length + 1 ≤ 1048577 := by omega
            have x4' : (w11.alloc (.cells #[.int .i64 xk, .int .i64 xn, .string xt, .slice xa xl xc, .slice ya yl yc] 26)).cell? ⟨gv, 4, none⟩ = some (.slice ia its.length ic) := (HW11.out.bx.alloc _).cell 4 rfl
            have x4 : w11.cell? ⟨gv, 4, none⟩ = some (.slice ia its.length ic) := HW11.out.bx.cell 4 rfl
            go_wp2_with (at_builtin; go_must (refine append_js w11 rfl (.tmp 67) (.tmp 69) rfl w.heap.size _ its.length (flC css) rfl #[.int .i64 xk, .int .i64 xn, .string xt, .slice xa xl xc, .slice ya yl yc] rfl hone _ rfl rfl HW11.out.it.row hitl HW11.out.frm.size ?_))
            intro v12 w12 ho12 hg12
            have hsh : ∃ ia2 ic2, v12 = .slice ia2 (its.length + 1) ic2 := by
              rcases ho12.2 with ⟨rfl, h0⟩ | ⟨g, cap, cur, rfl, _⟩
              · omega
              · exact ⟨_, _, rfl⟩
            obtain ⟨ia2, ic2, rfl⟩ := hsh
            have hW13 := HW11.out.pushI (x := x) HJ11.out rfl HS11.out ho12 hg12
            have hb12 : Blk w12 gv (jC 5 0 ⟨#[]⟩ (.slice na ns.length nc) (.slice ia its.length ic)) 26 := ((Frm.ofGrewT hg12).block gv HW11.out.bx.lt (fun e => (HW11.out.nI _ e).2.1 rfl)).trans HW11.out.bx
            obtain ⟨u0, u1, u2, u3, u4, p0, p1, p2, p3, p4⟩ := Blk.five hb12
            obtain ⟨w13, Hw13⟩ : ∃ w13, Hid (w13 = w12.setCell ⟨gv, 4, none⟩ (.slice ia2 (its.length + 1) ic2)) := ⟨_, rfl⟩
            rw [← Hw13.out] at hW13
            obtain ⟨its2, Hits⟩ : ∃ its2, Hid (its2 = its ++ [x]) := ⟨_, rfl⟩
            have hi2 : its2.length = its.length + 1 := by rw [Hits.out]; simp
            rw [← Hits.out, ← hi2] at hW13
            rw [← Hits.out] at HRe2
            rw [← hi2] at Hw13
            have HW13 : Hid (WhI w rb gv gr mb s 5 (fun k => S k ∨ S2 k) n10 r2 ns ns its2 (.slice na ns.length nc) (.slice ia2 its2.length ic2) (css ++ [#[.int .i64 xk, .int .i64 xn, .string xt, .slice xa xl xc, .slice ya yl yc]]) w13) := hW13
            clear hW13 hb12 ho12 hg12 HW11 HJ11 HS11 HBi hone i0 i1 i2 i3 i4 x4 x4' Hits
            go_upto_region 18 with fail
            rw [← hi2, ← Hw13.out]
            clear Hw13 u0 u1 u2 u3 u4 p0 p1 p2 p3 p4
            have HTE := take_calls w13 rb n10 s r2 93 93 HW13.out.rd rfl
            go_wp2_with fail
            refine HTE.mono ?_
            clear HTE
            rintro e w14 ⟨rfl, ⟨n14, h14⟩, f14⟩
            have HW14 : Hid (WhI w rb gv gr mb s 5 (fun k => S k ∨ S2 k) n14 (tkL r2 93) ns ns its2 (.slice na ns.length nc) (.slice ia2 its2.length ic2) (css ++ [#[.int .i64 xk, .int .i64 xn, .string xt, .slice xa xl xc, .slice ya yl yc]]) w14) := HW13.out.read f14 h14
            have hl14 := h14.len
            have hl10 := HW13.out.rd.len
            have hat14 := h14.at
            clear h14 f14 HW13
            by_cases he : hdN r2 = some 93
            · have hlt0 : r2.tail.length + 1 = r2.length := by
                cases r2 with
                | nil => cases he
                | cons x l => rfl
              have HN : Hid (WhS w rb gv gr mb s 5 93 K0 d R true w14) := by
                have hW := HW14.out
                rw [tkL_yes he] at hW hl14
                refine ⟨0, _, n14, r2.tail, ns, its2, _, _, _, hW, by omega, by omega, ?_⟩
                show R = _
                rw [HRe2.out, if_pos he]
              have hlt : (tkL r2 93).length + 1 = r2.length := by
                rw [tkL_yes he]; exact hlt0
              rw [decide_eq_true he]
              clear HW14 HRe2 he
              go_wp2
              go_roundw
              case rel => exact ⟨true, rfl, HN⟩
              case measure => rw [hat0, hat14]; omega
            · rw [decide_eq_false he]
              have hW15 := HW14.out
              rw [tkL_no he] at hW15 hl14
              have HTC := take_calls w14 rb n14 s r2 44 44 hW15.rd rfl
              have HRe3 : Hid (R = if hdN r2 = some 44 then elF k2 5 93 d r2.tail ns its2 else .error 181) := by rw [Hid, HRe2.out, if_neg he]
              have HW15 : Hid (WhI w rb gv gr mb s 5 (fun k => S k ∨ S2 k) n14 r2 ns ns its2 (.slice na ns.length nc) (.slice ia2 its2.length ic2) (css ++ [#[.int .i64 xk, .int .i64 xn, .string xt, .slice xa xl xc, .slice ya yl yc]]) w14) := hW15
              clear HW14 HRe2 he hW15
              by_cases h44 : hdN r2 = some 44
              · rw [tkL_yes h44, decide_eq_true h44] at HTC
                go_wp2_with fail
                refine HTC.mono ?_
                clear HTC
                rintro e w16 ⟨rfl, ⟨n16, h16⟩, f16⟩
                have hl16 := h16.len
                have hat16 := h16.at
                have hlt : r2.tail.length + 1 = r2.length := by
                  cases r2 with
                  | nil => cases h44
                  | cons x l => rfl
                have HN : Hid (WhS w rb gv gr mb s 5 93 K0 d R false w16) := by
                  refine ⟨k2, _, n16, r2.tail, ns, its2, _, _, _, HW15.out.read f16 h16, by omega, by omega, ?_⟩
                  refine ⟨?_, by omega, by omega⟩
                  rw [HRe3.out, if_pos h44]
                clear HW15 HRe3 h44 h16 f16
                go_wp2
                go_roundw
                case rel => exact ⟨false, rfl, HN⟩
                case measure => rw [hat0, hat16]; omega
              · rw [tkL_no h44, decide_eq_false h44] at HTC
                have HRe4 : Hid (R = .error 181) := by rw [Hid, HRe3.out, if_neg h44]
                go_wp2_with fail
                refine HTC.mono ?_
                clear HTC
                rintro e w16 ⟨rfl, ⟨n16, h16⟩, f16⟩
                have HR16 : Hid (∃ l n, Rd w16 rb s n l) := ⟨_, _, h16⟩
                have HF16 : Hid (Frm (fun k => k = rb) w w16) := HW15.out.frm.trans f16
                have HB16 : Hid (Blk w16 gr jZ 26) := HW15.out.rs.rd f16 (by omega)
                clear HW15 HRe3 h44 h16 f16
                obtain ⟨y0, y1, y2, y3, y4, z0, z1, z2, z3, z4⟩ := Blk.five HB16.out
                go_wp2
                change bodyPost _ _ _ _ _ (putC w16 gr 0 [.int .i64 0, .int .i64 0, .string ⟨#[]⟩, .slice none 0 0, .slice none 0 0])
                refine ret_cellE rfl rfl rfl rfl (load_js (putC_all HB16.out rfl) rfl) ?_
                rw [HRe4.out]
                exact ⟨(HF16.out).put _ _ 0 hgr, ⟨0, rfl⟩, .inl rfl, by
                  obtain ⟨l9, n9, h9⟩ := HR16.out
                  exact ⟨l9, n9, h9.put hrg _⟩⟩
        · exact absurd trivial htriv

set_option maxRecDepth 100000 in
set_option maxHeartbeats 8000000 in
theorem whole6_calls (w0 : World) (K0 : Nat) (s : ByteArray) (IH : VSpec w0 s K0) (w : World) (rb n d : Nat) (l : List UInt8) (hb : Bs w0 w rb) (h : Rd w rb s n l) (hl : 0 < l.length) (hk : 2 * l.length + 1 ≤ K0 + 1) (hd : d ≤ 16) :
    Calls Tryd.prog 58 #[.pointer (some ⟨rb, 0, none⟩), .int .i64 6, .int .u8 125, .int .i64 (d : Int)] w (VlR w rb s (whR K0 6 125 d l)) := by
  have hrb := lt_of_heapT h.blk
  have HIH : Hid (VSpec w0 s K0) := IH
  have HBs : Hid (Bs w0 w rb) := hb
  obtain ⟨R, HR⟩ : ∃ R, Hid (R = whR K0 6 125 d l) := ⟨_, rfl⟩
  rw [← HR.out]
  obtain ⟨w1, Hw1⟩ : ∃ w1, Hid (w1 = w.alloc (.cells jZ 26)) := ⟨_, rfl⟩
  obtain ⟨gr, Hg⟩ : ∃ gr, Hid (gr = w.heap.size) := ⟨_, rfl⟩
  have HB1 : Hid (Blk w1 gr jZ 26) := by rw [Hid, Hw1.out, Hg.out]; exact Blk.new _ _ _
  have HF1 : Hid (Frm (fun k => k = rb) w w1) := by rw [Hid, Hw1.out]; exact Frm.ofBelow (below_new _ _) _
  have HR1 : Hid (Rd w1 rb s n l) := by rw [Hid, Hw1.out]; exact h.below (below_new _ _)
  have hgr : w.heap.size ≤ gr := by rw [Hg.out]; exact Nat.le_refl _
  have hrg : rb ≠ gr := by omega
  have hsz := h.sz
  have hnl := h.len
  have hpos : n < s.size := by omega
  have hhk : Hid (2 * l.length + 1 ≤ K0 + 1 ∧ 0 < l.length) := ⟨hk, hl⟩
  clear h hb IH hk hl
  unfold jZ jC at Hw1
  go_enter Tryd.func58, Tryd.ntmps58
  go_upto_region 1 with fail
  rw [← Hw1.out, ← Hg.out]
  clear Hw1 Hg
  by_cases hd16 : d = 16
  · have HE : Hid (R = .error 182) := by rw [Hid, HR.out, whR, if_pos hd16]
    subst hd16
    have HRx : Hid (∃ l n, Rd w1 rb s n l) := ⟨_, _, HR1.out⟩
    clear HR HR1 hnl
    obtain ⟨y0, y1, y2, y3, y4, z0, z1, z2, z3, z4⟩ := Blk.five HB1.out
    go_wp2
    change bodyPost _ _ _ _ _ (putC w1 gr 0 [.int .i64 0, .int .i64 0, .string ⟨#[]⟩, .slice none 0 0, .slice none 0 0])
    refine ret_cellE rfl rfl rfl rfl (load_js (putC_all HB1.out rfl) rfl) ?_
    rw [HE.out]
    exact ⟨(HF1.out).put _ _ 0 hgr, ⟨0, rfl⟩, .inr (.inl rfl), by
      obtain ⟨l9, n9, h9⟩ := HRx.out
      exact ⟨l9, n9, h9.put hrg _⟩⟩
  · have HE : Hid (R = if hdN (spL l.tail) = some 125 then .ok (.mk 6 0 [] [] [], (spL l.tail).tail) else elF K0 6 125 d (spL l.tail) [] []) := by rw [Hid, HR.out, whR, if_neg hd16]
    have hq16 : ((d : Int) == 16) = false := by simp; omega
    obtain ⟨-, c1, f1⟩ := HR1.out.cells
    have hR2 := rd_step HR1.out hpos
    obtain ⟨w2, Hw2⟩ : ∃ w2, Hid (w2 = w1.setCell ⟨rb, 1, none⟩ (.int .i64 ((n : Int) + 1))) := ⟨_, rfl⟩
    have hf2 : Frm (fun k => k = rb) w1 w2 := by rw [Hw2.out]; exact frm_set _ _ _ _
    rw [← Hw2.out] at hR2
    have HF2 : Hid (Frm (fun k => k = rb) w w2) := HF1.out.trans hf2
    have HB2 : Hid (Blk w2 gr jZ 26) := HB1.out.rd hf2 (by omega)
    have HSK := skip_calls w2 rb (n + 1) s l.tail hR2
    clear HR hR2 hf2 HB1 HF1 HR1
    go_upto_region 4 with fail
    rw [← Hw2.out]
    clear Hw2 c1 f1
    go_wp2_with fail
    refine HSK.mono ?_
    clear HSK
    rintro e w3 ⟨rfl, ⟨n3, h3⟩, f3⟩
    obtain ⟨l3, Hl3⟩ : ∃ l3, Hid (l3 = spL l.tail) := ⟨_, rfl⟩
    have hl3 : l3.length + 1 ≤ l.length := by
      have := spL_len l.tail
      have h9 := hhk.out.2
      rw [Hl3.out]; simp at this; omega
    rw [← Hl3.out] at h3 HE
    clear Hl3
    obtain ⟨w4, Hw4⟩ : ∃ w4, Hid (w4 = w3.alloc (.cells #[.int .i64 6, .int .i64 0, .string ⟨#[]⟩, .slice none 0 0, .slice none 0 0] 26)) := ⟨_, rfl⟩
    obtain ⟨gv, Hgv⟩ : ∃ gv, Hid (gv = w3.heap.size) := ⟨_, rfl⟩
    obtain ⟨w5, Hw5⟩ : ∃ w5, Hid (w5 = w4.alloc (.map #[] 0)) := ⟨_, rfl⟩
    obtain ⟨mb, Hmb⟩ : ∃ mb, Hid (mb = w4.heap.size) := ⟨_, rfl⟩
    have hF3 := HF2.out.trans f3
    have hB3 := HB2.out.rd f3 (by omega)
    have hb4 : Below w3.heap.size w3 w4 := by rw [Hw4.out]; exact below_new _ _
    have hb5 : Below w4.heap.size w4 w5 := by rw [Hw5.out]; exact below_new _ _
    have hg4 : Blk w4 gv (jC 6 0 ⟨#[]⟩ (.slice none 0 0) (.slice none 0 0)) 26 := by rw [Hw4.out, Hgv.out]; exact Blk.new _ _ _
    have hm5 : w5.heap[mb]? = some (.map #[] 0) := by rw [Hw5.out, Hmb.out]; exact heap_alloc_new w4 _
    have hgl := hB3.lt
    have HW5 : Hid (WhI w rb gv gr mb s 6 (fun _ => False) n3 l3 [] [] [] (.slice none 0 0) (.slice none 0 0) [] w5) := by
      have hsz3 := hF3.size
      have h4s := hb4.size
      have q1 := Hgv.out
      have q2 := Hmb.out
      refine ⟨(h3.below hb4).below hb5, ⟨#[], 0, hm5, MapKept.stamped_empty 0, rfl, fun e he => (by simp at he)⟩, hg4.below hb5, (hB3.below hb4).below hb5, Ow.nil _ _ _, OwI.nil _ _ _, fun k hk => hk.elim, ⟨by omega, hgr, by omega, by omega⟩, ⟨fun h => h, fun h => h, fun h => h⟩, fun k hk => (by cases hk), fun k hk => (by cases hk), (hF3.trans (Frm.ofBelow hb4 _)).trans (Frm.ofBelow hb5 _), hrb⟩
    have hmk : ∀ W : World, (Instr.makeMap 89 none).run Tryd.prog W = .ok (.map (some W.heap.size)) (W.alloc (.map #[] 0)) := fun W => by simp [Instr.makeMap, Result.andThen]
    have HTK := take_calls w5 rb n3 s l3 125 125 HW5.out.rd rfl
    clear h3 f3 hF3 hB3 hb4 hb5 hg4 hm5 hgl HB2 HF2
    go_upto_region 6 with fail
    rw [← Hw4.out, ← Hgv.out]
    go_upto_region 7 with fail
    rw [← Hw5.out, ← Hmb.out]
    clear Hw4 Hgv Hw5 Hmb hmk
    go_wp2_with fail
    refine HTK.mono ?_
    clear HTK
    rintro e w6 ⟨rfl, ⟨n6, h6⟩, f6⟩
    have HI : Hid (WhS w rb gv gr mb s 6 125 K0 d R (decide (hdN l3 = some 125)) w6) := by
      by_cases he : hdN l3 = some 125
      · rw [decide_eq_true he]
        rw [tkL_yes he] at h6
        refine ⟨0, _, n6, l3.tail, [], [], _, _, [], HW5.out.read f6 h6, by have := h6.len; simp; omega, Nat.le_refl _, ?_⟩
        show R = _
        rw [HE.out, if_pos he]
      · rw [decide_eq_false he]
        rw [tkL_no he] at h6
        refine ⟨K0, _, n6, l3, [], [], _, _, [], HW5.out.read f6 h6, by have := h6.len; simp; omega, Nat.le_refl _, ?_⟩
        refine ⟨?_, by have := hhk.out; omega, Nat.le_refl _⟩
        rw [HE.out, if_neg he]
    clear HE HW5 h6 f6 hhk hnl hpos hl3
    obtain ⟨en, Hen⟩ : ∃ en, Hid (en = decide (hdN l3 = some 125)) := ⟨_, rfl⟩
    rw [← Hen.out] at HI ⊢
    clear Hen
    go_wp2
    go_loopw [12] (fun x wr => ∃ en : Bool, x = .bool en ∧ Hid (WhS w rb gv gr mb s 6 125 K0 d R en wr)) (fun _ wr => s.size - rdAt wr rb)
    case atStart => exact ⟨_, rfl, HI⟩
    case round =>
      clear HI
      obtain ⟨en, rfl, HI⟩ := hrel
      obtain ⟨k', S, m, l', ns, its, nv, iv, css, hW, hsm, hnsl, hres⟩ := HI.out
      obtain ⟨na, nc, rfl, -⟩ := hW.nm.shape
      obtain ⟨ia, ic, rfl⟩ := hW.it.shape
      have hnl0 : (ns.map strV).length = ns.length := List.length_map ..
      rw [hnl0] at hW
      have HW : Hid (WhI w rb gv gr mb s 6 S m l' ns ns its (.slice na ns.length nc) (.slice ia its.length ic) css wr) := hW
      have hat0 := hW.rd.at
      have hlen0 := hW.rd.len
      clear hW HI hnl0
      cases en with
      | true =>
        have HRe : Hid (R = .ok (.mk 6 0 [] ns its, l')) := hres
        clear hres
        obtain ⟨x0, x1, x2, x3, x4, -⟩ := Blk.five HW.out.bx
        obtain ⟨y0, y1, y2, y3, y4, z0, z1, z2, z3, z4⟩ := Blk.five HW.out.rs
        obtain ⟨wz, Hwz⟩ : ∃ wz, Hid (wz = putC wr gr 0 [.int .i64 6, .int .i64 0, .string ⟨#[]⟩, .slice na ns.length nc, .slice ia its.length ic]) := ⟨_, rfl⟩
        have HZ : Hid (VlR w rb s R (.returned (.tuple #[.agg (jC 6 0 ⟨#[]⟩ (.slice na ns.length nc) (.slice ia its.length ic)), .int .i64 0])) wz) := by
          have hF : Frm (fun k => k = gr) wr wz := by
            rw [Hwz.out]
            exact ⟨rfl_os _ _ _, rfl_tape _ _ _, rfl_out _ _ _, by rw [putC_size]; exact Nat.le_refl _, fun k hk hn => putC_blk hn _ _ _⟩
          rw [Hid, HRe.out]
          refine ⟨by rw [Hwz.out]; exact HW.out.frm.put _ _ 0 hgr, _, fun k => S k ∨ (Value.slice na ns.length nc).ownBlock = some k ∨ (Value.slice ia its.length ic).ownBlock = some k, rfl, ⟨m, by rw [Hwz.out]; exact HW.out.rd.put hrg _⟩, ?_, fun k hk => ?_⟩
          · unfold JAt
            refine ⟨na, nc, ia, ic, rfl, HW.out.nm.v.frm hF (fun a e e2 => ?_), fun a e _ => .inr (.inl (by rw [e]; rfl)), fun a e _ => .inr (.inr (by rw [e]; rfl)), ?_⟩
            · exact (HW.out.nvM (k := a.block) (by rw [e]; rfl)).2.2.2.1 e2
            · have h1 := ItAt.of HW.out.it its.length 0 (by omega)
              rw [List.drop_zero] at h1
              have h2 := ItAt.mono (fun k hk => (.inl hk : S k ∨ (Value.slice ia its.length ic).ownBlock = some k)) _ _ _ h1
              have h3 := ItAt.frm (T := fun k => k = gr) hF (fun k hk e => by
                rcases hk with hk | hk
                · exact HW.out.nS.2.1 (by rw [← e]; exact hk)
                · exact (HW.out.nI k hk).2.2 e) its ia 0 (fun a e _ => .inr (by rw [e]; rfl)) h2
              exact ItAt.mono (fun k hk => hk.elim .inl fun h => .inr (.inr h)) _ _ _ h3
          · rw [Hwz.out, putC_size]
            rcases hk with hk | hk | hk
            · exact HW.out.sb k hk
            · exact HW.out.nm.lt k hk
            · exact HW.out.it.lt k hk
        have HLd : Hid ((loadVar 26 ⟨gr, 0, none⟩).run Tryd.prog wz = .ok (.agg (jC 6 0 ⟨#[]⟩ (.slice na ns.length nc) (.slice ia its.length ic))) wz) := by
          rw [Hid, Hwz.out]
          exact load_js (putC_all HW.out.rs rfl) rfl
        clear HW hat0 hlen0
        go_wp2
        change bodyPost _ _ _ _ _ (putC wr gr 0 [.int .i64 6, .int .i64 0, .string ⟨#[]⟩, .slice na ns.length nc, .slice ia its.length ic])
        rw [← Hwz.out]
        exact ret_cellE rfl rfl rfl rfl HLd.out HZ.out
      | false =>
        obtain ⟨hRe, hk2, hk3⟩ := hres
        obtain ⟨k2, rfl⟩ : ∃ k2, k' = k2 + 1 := ⟨k' - 1, by omega⟩
        unfold elF at hRe
        unfold elN at hRe
        rw [if_pos rfl] at hRe
        have HNM := name_calls w0 wr rb mb m s l' ns (HBs.out.frm HW.out.frm) HW.out.rd HW.out.mp (by have := HW.out.gb; have := HW.out.rbl; omega)
        cases hnm : nameP ns l' with
        | error c =>
          rw [hnm] at HNM hRe
          have hcm := nameP_err hnm
          have HRe : Hid (R = .error c) := hRe
          have hc0 : (c != 0) = true := by rcases hcm with h | h | h <;> subst h <;> rfl
          clear hRe hnm
          go_wp2_with fail
          refine HNM.mono ?_
          clear HNM
          rintro e w7 ⟨f7, rfl, hr7⟩
          have HR7 : Hid (∃ l n, Rd w7 rb s n l) := hr7
          have HF7 : Hid (Frm (fun k => k = rb) w w7) := HW.out.frm.compJ f7 (fun i hi e => by have := HW.out.gb; omega)
          have HB7 : Hid (Blk w7 gr jZ 26) := (f7.block gr HW.out.rs.lt (by
            obtain ⟨es, clock, hmm⟩ := HW.out.mp
            intro e
            rcases e with e | e
            · omega
            · have hbq : wr.heap[gr]? = _ := HW.out.rs
              rw [e, hmm.blk] at hbq; cases hbq)).trans HW.out.rs
          clear f7 hr7 HW
          obtain ⟨y0, y1, y2, y3, y4, z0, z1, z2, z3, z4⟩ := Blk.five HB7.out
          go_wp2
          change bodyPost _ _ _ _ _ (putC w7 gr 0 [.int .i64 0, .int .i64 0, .string ⟨#[]⟩, .slice none 0 0, .slice none 0 0])
          refine ret_cellE rfl rfl rfl rfl (load_js (putC_all HB7.out rfl) rfl) ?_
          rw [HRe.out]
          exact ⟨(HF7.out).put _ _ 0 hgr, ⟨0, rfl⟩, hcm, by
            obtain ⟨l9, n9, h9⟩ := HR7.out
            exact ⟨l9, n9, h9.put hrg _⟩⟩
        | ok p =>
          obtain ⟨t, l1⟩ := p
          have hl1 := nameP_len hnm
          rw [hnm] at HNM hRe
          have HRe : Hid (R = match bareF k2 (d + 1) (spL l1) with
            | .error c => .error c
            | .ok (x, r) => if hdN (spL r) = some 125 then .ok (.mk 6 0 [] (ns ++ [t]) (its ++ [x]), (spL r).tail)
              else if hdN (spL r) = some 44 then elF k2 6 125 d (spL r).tail (ns ++ [t]) (its ++ [x])
              else .error 181) := hRe
          clear hRe hnm
          go_wp2_with fail
          refine HNM.mono ?_
          clear HNM
          rintro e w7 ⟨f7, rfl, ⟨n7, h7⟩, hm7⟩
          have HF7 : Hid (Frm (fun k => k = rb) w w7) := HW.out.frm.compJ f7 (fun i hi e => by have := HW.out.gb; omega)
          have HW7 : Hid (WhI w rb gv gr mb s 6 S n7 l1 (ns ++ [t]) ns its (.slice na ns.length nc) (.slice ia its.length ic) css w7) := HW.out.step f7 h7 hm7 HF7.out
          obtain ⟨x0, x1, x2, x3, x4, -⟩ := Blk.five HW7.out.bx
          have x3' : (w7.alloc (.cells #[strV t] 9)).cell? ⟨gv, 3, none⟩ = some (.slice na ns.length nc) := (HW7.out.bx.alloc _).cell 3 rfl
          have hnsz : ns.length ≤ 1048576 := by omega
          have HNm : Hid (Ow w7 w.heap.size 9 (.slice na ns.length nc) (ns.map strV) ∧ w.heap.size ≤ w7.heap.size ∧ (ns.map strV).length = ns.length) := ⟨HW7.out.nm, HF7.out.size, List.length_map ..⟩
          unfold strV at x3'
          clear f7 h7 hm7 HW
          go_wp2_with (at_builtin; go_must (refine append_u w7 rfl (.tmp 50) (.tmp 52) 23 9 (.string ⟨#[]⟩) 16 Tryd.underlying23 info_strJ rfl rfl w.heap.size _ (ns.map strV) rfl (.string (nmB t)) rfl _ rfl rfl HNm.out.1 (by rw [HNm.out.2.2]; omega) (by rw [HNm.out.2.2]; omega) HNm.out.2.1 ?_))
          intro v8 w8 ho8 hg8
          obtain ⟨na8, nc8, rfl, -⟩ := ho8.shape
          have hn8 : (ns.map strV ++ [Value.string (nmB t)]).length = ns.length + 1 := by rw [List.length_append, HNm.out.2.2]; rfl
          rw [hn8] at ho8 hg8 ⊢
          have hW9 := HW7.out.pushN (t := t) ho8 hg8
          have hb8 : Blk w8 gv (jC 6 0 ⟨#[]⟩ (.slice na ns.length nc) (.slice ia its.length ic)) 26 := ((Frm.ofGrewT hg8).block gv HW7.out.bx.lt (fun e => (HW7.out.nvM e).2.2.1 rfl)).trans HW7.out.bx
          obtain ⟨u0, u1, u2, u3, u4, p0, p1, p2, p3, p4⟩ := Blk.five hb8
          obtain ⟨w9, Hw9⟩ : ∃ w9, Hid (w9 = w8.setCell ⟨gv, 3, none⟩ (.slice na8 (ns.length + 1) nc8)) := ⟨_, rfl⟩
          rw [← Hw9.out] at hW9
          obtain ⟨ns9, Hns9⟩ : ∃ ns9, Hid (ns9 = ns ++ [t]) := ⟨_, rfl⟩
          have hn9 : ns9.length = ns.length + 1 := by rw [Hns9.out]; simp
          have hns9 : ns9.length ≤ its.length + 1 := by omega
          rw [← Hns9.out, ← hn9] at hW9
          rw [← Hns9.out] at HRe
          have HW9 : Hid (WhI w rb gv gr mb s 6 S n7 l1 ns9 ns9 its (.slice na8 ns9.length nc8) (.slice ia its.length ic) css w9) := hW9
          rw [← hn9] at Hw9
          clear hW9 hb8 ho8 hg8 HW7 HNm x0 x1 x2 x3 x4 x3' hnsl Hns9
          go_upto_region 14 with fail
          rw [← hn9, ← Hw9.out]
          clear Hw9 u0 u1 u2 u3 u4 p0 p1 p2 p3 p4 hn8 HF7
          have hnx : l1.length ≤ l'.length := hl1
          have hdI : ((d + 1 : Nat) : Int) = (d : Int) + 1 := by omega
          have HVC := HIH.out k2 (by omega) (d + 1) w9 rb n7 l1 (HBs.out.frm HW9.out.frm) HW9.out.rd (by omega) (by omega)
          rw [hdI] at HVC
          have hl9 := (bareF_lens k2).1 (d + 1) (spL l1)
          cases hbr : bareF k2 (d + 1) (spL l1) with
          | error c =>
            have e9 : valF k2 (d + 1) l1 = .error c := by unfold valF; rw [hbr]; rfl
            rw [e9] at HVC
            have HRe2 : Hid (R = .error c) := by rw [Hid, HRe.out, hbr]
            clear hbr HRe hl9 e9
            go_wp2_with fail
            refine HVC.mono ?_
            clear HVC
            rintro e w10 ⟨f10, ⟨kk, rfl⟩, hcm, hr10⟩
            have hc0 : (c != 0) = true := by rcases hcm with h | h | h <;> subst h <;> rfl
            have HR10 : Hid (∃ l n, Rd w10 rb s n l) := hr10
            have HF10 : Hid (Frm (fun k => k = rb) w w10) := HW9.out.frm.trans f10
            have HB10 : Hid (Blk w10 gr jZ 26) := HW9.out.rs.rd f10 (by omega)
            unfold jC
            obtain ⟨w11, Hw11⟩ : ∃ w11, Hid (w11 = w10.alloc (.cells #[.int .i64 kk, .int .i64 0, .string ⟨#[]⟩, .slice none 0 0, .slice none 0 0] 26)) := ⟨_, rfl⟩
            have hb11 : Below w10.heap.size w10 w11 := by rw [Hw11.out]; exact below_new _ _
            have HR11 : Hid (∃ l n, Rd w11 rb s n l) := by
              obtain ⟨l9, n9, h9⟩ := HR10.out
              exact ⟨l9, n9, h9.below hb11⟩
            have HF11 : Hid (Frm (fun k => k = rb) w w11) := HF10.out.trans (Frm.ofBelow hb11 _)
            have HB11 : Hid (Blk w11 gr jZ 26) := HB10.out.below hb11
            clear f10 hr10 HW9 hb11 HR10 HF10 HB10
            go_upto_region 15 with fail
            rw [← Hw11.out]
            clear Hw11
            obtain ⟨y0, y1, y2, y3, y4, z0, z1, z2, z3, z4⟩ := Blk.five HB11.out
            go_wp2
            change bodyPost _ _ _ _ _ (putC w11 gr 0 [.int .i64 0, .int .i64 0, .string ⟨#[]⟩, .slice none 0 0, .slice none 0 0])
            refine ret_cellE rfl rfl rfl rfl (load_js (putC_all HB11.out rfl) rfl) ?_
            rw [HRe2.out]
            exact ⟨(HF11.out).put _ _ 0 hgr, ⟨0, rfl⟩, hcm, by
              obtain ⟨l9, n9, h9⟩ := HR11.out
              exact ⟨l9, n9, h9.put hrg _⟩⟩
          | ok p =>
            obtain ⟨x, r⟩ := p
            have e9 : valF k2 (d + 1) l1 = .ok (x, spL r) := by unfold valF; rw [hbr]; rfl
            rw [e9] at HVC
            have hlr := hl9 x r hbr
            have hls := spL_len l1
            have hlr2 := spL_len r
            have HRe2 : Hid (R = if hdN (spL r) = some 125 then .ok (.mk 6 0 [] ns9 (its ++ [x]), (spL r).tail)
              else if hdN (spL r) = some 44 then elF k2 6 125 d (spL r).tail ns9 (its ++ [x])
              else .error 181) := by rw [Hid, HRe.out, hbr]
            obtain ⟨r2, Hr2⟩ : ∃ r2, Hid (r2 = spL r) := ⟨_, rfl⟩
            rw [← Hr2.out] at HRe2 HVC hlr2
            have hr2l : r2.length ≤ l'.length := by omega
            clear hbr HRe hl9 e9 hlr hls hlr2 Hr2
            go_wp2_with fail
            refine HVC.mono ?_
            clear HVC
            rintro e w10 ⟨f10, cs, S2, rfl, ⟨n10, h10⟩, hj10, hs10⟩
            have HW10 : Hid (WhI w rb gv gr mb s 6 S n10 r2 ns9 ns9 its (.slice na8 ns9.length nc8) (.slice ia its.length ic) css w10) := HW9.out.read f10 h10
            have HJ10 : Hid (JAt w10 S2 x cs) := hj10
            have HS10 : Hid (∀ k, S2 k → w9.heap.size ≤ k ∧ k < w10.heap.size) := hs10
            have HSv : Hid (∀ k, S2 k → (Value.slice na8 ns9.length nc8).ownBlock ≠ some k ∧ (Value.slice ia its.length ic).ownBlock ≠ some k ∧ k ≠ gv ∧ k ≠ gr ∧ k ≠ mb) := fun k hk => by
              have h1 := (hs10 k hk).1
              refine ⟨fun e => by have := (HW9.out.nm.lt k e).2; omega, fun e => by have := (HW9.out.it.lt k e).2; omega, fun e => by have := HW9.out.bx.lt; omega, fun e => by have := HW9.out.rs.lt; omega, fun e => by have := HW9.out.mp.lt; omega⟩
            obtain ⟨xk, xn, xt, xa, xl, xc, ya, yl, yc, hcs⟩ := JAt.cs HJ10.out
            subst hcs
            have hWl := HW9.out.frm.size
            clear f10 h10 hj10 hs10 HW9
            obtain ⟨w11, Hw11⟩ : ∃ w11, Hid (w11 = w10.alloc (.cells #[.int .i64 xk, .int .i64 xn, .string xt, .slice xa xl xc, .slice ya yl yc] 26)) := ⟨_, rfl⟩
            have hb11 : Below w10.heap.size w10 w11 := by rw [Hw11.out]; exact below_new _ _
            have hone := HJ10.out.one
            obtain ⟨gi, Hgi⟩ : ∃ gi, Hid (gi = w10.heap.size) := ⟨_, rfl⟩
            have HBi : Hid (Blk w11 gi #[.int .i64 xk, .int .i64 xn, .string xt, .slice xa xl xc, .slice ya yl yc] 26) := by rw [Hid, Hw11.out, Hgi.out]; exact Blk.new _ _ _
            have HW11 : Hid (WhI w rb gv gr mb s 6 S n10 r2 ns9 ns9 its (.slice na8 ns9.length nc8) (.slice ia its.length ic) css w11) := HW10.out.more hb11
            have HJ11 : Hid (JAt w11 S2 x #[.int .i64 xk, .int .i64 xn, .string xt, .slice xa xl xc, .slice ya yl yc]) := JAt.frm (Frm.ofBelow hb11 (fun _ => False)) (fun _ _ h => h) _ _ HJ10.out
            have HS11 : Hid (∀ k, S2 k → w.heap.size ≤ k ∧ k < w11.heap.size ∧ k ≠ gv ∧ k ≠ gr ∧ k ≠ mb ∧ (Value.slice na8 ns9.length nc8).ownBlock ≠ some k ∧ (Value.slice ia its.length ic).ownBlock ≠ some k) := fun k hk => by
              have h1 := HS10.out k hk
              have h2 := HSv.out k hk
              have h3 := hb11.size
              exact ⟨by omega, by omega, h2.2.2.1, h2.2.2.2.1, h2.2.2.2.2, h2.1, h2.2.1⟩
            clear HW10 HJ10 HS10 HSv hb11
            go_upto_region 15 with fail
            rw [← Hw11.out, ← Hgi.out]
            clear Hw11 Hgi
            obtain ⟨i0, i1, i2, i3, i4, -⟩ := Blk.five HBi.out
            have hitl : its.length + 1 ≤ 1048577 := by omega
            have x4' : (w11.alloc (.cells #[.int .i64 xk, .int .i64 xn, .string xt, .slice xa xl xc, .slice ya yl yc] 26)).cell? ⟨gv, 4, none⟩ = some (.slice ia its.length ic) := (HW11.out.bx.alloc _).cell 4 rfl
            have x4 : w11.cell? ⟨gv, 4, none⟩ = some (.slice ia its.length ic) := HW11.out.bx.cell 4 rfl
            go_wp2_with (at_builtin; go_must (refine append_js w11 rfl (.tmp 67) (.tmp 69) rfl w.heap.size _ its.length (flC css) rfl #[.int .i64 xk, .int .i64 xn, .string xt, .slice xa xl xc, .slice ya yl yc] rfl hone _ rfl rfl HW11.out.it.row hitl HW11.out.frm.size ?_))
            intro v12 w12 ho12 hg12
            have hsh : ∃ ia2 ic2, v12 = .slice ia2 (its.length + 1) ic2 := by
              rcases ho12.2 with ⟨rfl, h0⟩ | ⟨g, cap, cur, rfl, _⟩
              · omega
              · exact ⟨_, _, rfl⟩
            obtain ⟨ia2, ic2, rfl⟩ := hsh
            have hW13 := HW11.out.pushI (x := x) HJ11.out rfl HS11.out ho12 hg12
            have hb12 : Blk w12 gv (jC 6 0 ⟨#[]⟩ (.slice na8 ns9.length nc8) (.slice ia its.length ic)) 26 := ((Frm.ofGrewT hg12).block gv HW11.out.bx.lt (fun e => (HW11.out.nI _ e).2.1 rfl)).trans HW11.out.bx
            obtain ⟨u0, u1, u2, u3, u4, p0, p1, p2, p3, p4⟩ := Blk.five hb12
            obtain ⟨w13, Hw13⟩ : ∃ w13, Hid (w13 = w12.setCell ⟨gv, 4, none⟩ (.slice ia2 (its.length + 1) ic2)) := ⟨_, rfl⟩
            rw [← Hw13.out] at hW13
            obtain ⟨its2, Hits⟩ : ∃ its2, Hid (its2 = its ++ [x]) := ⟨_, rfl⟩
            have hi2 : its2.length = its.length + 1 := by rw [Hits.out]; simp
            rw [← Hits.out, ← hi2] at hW13
            rw [← Hits.out] at HRe2
            rw [← hi2] at Hw13
            have HW13 : Hid (WhI w rb gv gr mb s 6 (fun k => S k ∨ S2 k) n10 r2 ns9 ns9 its2 (.slice na8 ns9.length nc8) (.slice ia2 its2.length ic2) (css ++ [#[.int .i64 xk, .int .i64 xn, .string xt, .slice xa xl xc, .slice ya yl yc]]) w13) := hW13
            clear hW13 hb12 ho12 hg12 HW11 HJ11 HS11 HBi hone i0 i1 i2 i3 i4 x4 x4' Hits
            go_upto_region 18 with fail
            rw [← hi2, ← Hw13.out]
            clear Hw13 u0 u1 u2 u3 u4 p0 p1 p2 p3 p4
            have HTE := take_calls w13 rb n10 s r2 125 125 HW13.out.rd rfl
            go_wp2_with fail
            refine HTE.mono ?_
            clear HTE
            rintro e w14 ⟨rfl, ⟨n14, h14⟩, f14⟩
            have HW14 : Hid (WhI w rb gv gr mb s 6 (fun k => S k ∨ S2 k) n14 (tkL r2 125) ns9 ns9 its2 (.slice na8 ns9.length nc8) (.slice ia2 its2.length ic2) (css ++ [#[.int .i64 xk, .int .i64 xn, .string xt, .slice xa xl xc, .slice ya yl yc]]) w14) := HW13.out.read f14 h14
            have hl14 := h14.len
            have hl10 := HW13.out.rd.len
            have hat14 := h14.at
            clear h14 f14 HW13
            by_cases he : hdN r2 = some 125
            · have hlt0 : r2.tail.length + 1 = r2.length := by
                cases r2 with
                | nil => cases he
                | cons x l => rfl
              have HN : Hid (WhS w rb gv gr mb s 6 125 K0 d R true w14) := by
                have hW := HW14.out
                rw [tkL_yes he] at hW hl14
                refine ⟨0, _, n14, r2.tail, ns9, its2, _, _, _, hW, by omega, by omega, ?_⟩
                show R = _
                rw [HRe2.out, if_pos he]
              have hlt : (tkL r2 125).length + 1 = r2.length := by
                rw [tkL_yes he]; exact hlt0
              rw [decide_eq_true he]
              clear HW14 HRe2 he
              go_wp2
              go_roundw
              case rel => exact ⟨true, rfl, HN⟩
              case measure => rw [hat0, hat14]; omega
            · rw [decide_eq_false he]
              have hW15 := HW14.out
              rw [tkL_no he] at hW15 hl14
              have HTC := take_calls w14 rb n14 s r2 44 44 hW15.rd rfl
              have HRe3 : Hid (R = if hdN r2 = some 44 then elF k2 6 125 d r2.tail ns9 its2 else .error 181) := by rw [Hid, HRe2.out, if_neg he]
              have HW15 : Hid (WhI w rb gv gr mb s 6 (fun k => S k ∨ S2 k) n14 r2 ns9 ns9 its2 (.slice na8 ns9.length nc8) (.slice ia2 its2.length ic2) (css ++ [#[.int .i64 xk, .int .i64 xn, .string xt, .slice xa xl xc, .slice ya yl yc]]) w14) := hW15
              clear HW14 HRe2 he hW15
              by_cases h44 : hdN r2 = some 44
              · rw [tkL_yes h44, decide_eq_true h44] at HTC
                go_wp2_with fail
                refine HTC.mono ?_
                clear HTC
                rintro e w16 ⟨rfl, ⟨n16, h16⟩, f16⟩
                have hl16 := h16.len
                have hat16 := h16.at
                have hlt : r2.tail.length + 1 = r2.length := by
                  cases r2 with
                  | nil => cases h44
                  | cons x l => rfl
                have HN : Hid (WhS w rb gv gr mb s 6 125 K0 d R false w16) := by
                  refine ⟨k2, _, n16, r2.tail, ns9, its2, _, _, _, HW15.out.read f16 h16, by omega, by omega, ?_⟩
                  refine ⟨?_, by omega, by omega⟩
                  rw [HRe3.out, if_pos h44]
                clear HW15 HRe3 h44 h16 f16
                go_wp2
                go_roundw
                case rel => exact ⟨false, rfl, HN⟩
                case measure => rw [hat0, hat16]; omega
              · rw [tkL_no h44, decide_eq_false h44] at HTC
                have HRe4 : Hid (R = .error 181) := by rw [Hid, HRe3.out, if_neg h44]
                go_wp2_with fail
                refine HTC.mono ?_
                clear HTC
                rintro e w16 ⟨rfl, ⟨n16, h16⟩, f16⟩
                have HR16 : Hid (∃ l n, Rd w16 rb s n l) := ⟨_, _, h16⟩
                have HF16 : Hid (Frm (fun k => k = rb) w w16) := HW15.out.frm.trans f16
                have HB16 : Hid (Blk w16 gr jZ 26) := HW15.out.rs.rd f16 (by omega)
                clear HW15 HRe3 h44 h16 f16
                obtain ⟨y0, y1, y2, y3, y4, z0, z1, z2, z3, z4⟩ := Blk.five HB16.out
                go_wp2
                change bodyPost _ _ _ _ _ (putC w16 gr 0 [.int .i64 0, .int .i64 0, .string ⟨#[]⟩, .slice none 0 0, .slice none 0 0])
                refine ret_cellE rfl rfl rfl rfl (load_js (putC_all HB16.out rfl) rfl) ?_
                rw [HRe4.out]
                exact ⟨(HF16.out).put _ _ 0 hgr, ⟨0, rfl⟩, .inl rfl, by
                  obtain ⟨l9, n9, h9⟩ := HR16.out
                  exact ⟨l9, n9, h9.put hrg _⟩⟩
end Go.Proofs.YtelhgjepjieocaaDoor
