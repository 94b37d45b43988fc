/- Layer 7 (rows): the document's own. -/
import Derived.Test.YtjbnbpclelbohaaRwLowR
namespace Go.Proofs.Ytjbnbpclelbohaa
open Go.RowKit
set_option linter.unusedVariables false
attribute [local go_sem] Oper.semAt_some

/-- Is the text of the index's field at that place empty? -/
def lackT (fs : List Fd) (cs : List CV) (e : ByteArray) (p : Int) : Bool := if (fs.getD p.toNat noF).k = 2 then false else if (fs.getD p.toNat noF).k = 3 then e.toList.isEmpty else (cs.getD p.toNat noC).t.toList.isEmpty
def lowIfP (l : Bool) (p : Pt) : Pt := if l then lowPt p else p
def lowIfS (l : Bool) (s : ByteArray) : ByteArray := if l then lowS s else s
theorem ownP_map (fs : List Fd) (x : Ix) (cs : List CV) (e : ByteArray) : ownP fs x cs e = x.ov.map fun p => lowIfP x.l (cellP fs cs e p) := by
  unfold ownP
  cases h : x.l
  · rfl
  · rw [if_pos rfl, List.map_map]; rfl
theorem low_nil : lowS ⟨#[]⟩ = ⟨#[]⟩ := rfl

/-- While the document's own gathers its parts. -/
structure OnI (w : World) (t : TV) (x : XV) (ca : Option Addr) (cc : Nat) (cs : List CV) (v : Value) (qs : List Pt) (wr : World) : Prop where
  tab : wr.heap[w.heap.size]? = some (.cells #[.string t.n, t.fv, t.xv] 29)
  bx : wr.heap[w.heap.size + 1]? = some (.cells #[.string x.x.n, .slice x.va x.x.ov.length x.vc, .bool x.x.u, .bool x.x.l, .bool x.x.s] 50)
  rw' : wr.heap[w.heap.size + 2]? = some (.cells #[.slice ca cs.length cc] 24)
  own : OwnP wr w.heap.size v qs
  be : Below w.heap.size w wr
theorem OnI.below {w : World} {t : TV} {x : XV} {ca : Option Addr} {cc : Nat} {cs : List CV} {v : Value} {qs : List Pt} {wr w' : World} (h : OnI w t x ca cc cs v qs wr) (hb : Below wr.heap.size wr w') : OnI w t x ca cc cs v qs w' :=
  ⟨(hb.block _ (lt_blk h.tab)).trans h.tab, (hb.block _ (lt_blk h.bx)).trans h.bx, (hb.block _ (lt_blk h.rw')).trans h.rw', h.own.below hb, h.be.trans (hb.mono h.be.size)⟩
theorem OnI.grew {w : World} {t : TV} {x : XV} {ca : Option Addr} {cc : Nat} {cs : List CV} {v v' : Value} {qs qs' : List Pt} {wr w' : World} (h : OnI w t x ca cc cs v qs wr) (ho : OwnP w' w.heap.size v' qs') (hg : Grew wr w' v v') : OnI w t x ca cc cs v' qs' w' :=
  ⟨(hg.grown.block _ (lt_blk h.tab) (fun e => row_ne h.own h.tab (by decide) e.symm)).trans h.tab, (hg.grown.block _ (lt_blk h.bx) (fun e => row_ne h.own h.bx (by decide) e.symm)).trans h.bx, (hg.grown.block _ (lt_blk h.rw') (fun e => row_ne h.own h.rw' (by decide) e.symm)).trans h.rw', ho, h.be.trans (h.own.toBelow h.be.size hg)⟩

set_option maxRecDepth 100000 in
set_option maxHeartbeats 4000000 in
theorem refOwn_calls (t : TV) (x : XV) (ca : Option Addr) (cc : Nat) (cs : List CV) (e : Nat) (el : ByteArray) (w : World) (hok : OvOk x t.fs cs) (hes : el.size ≤ 140737488351232) (hel : ∀ p ∈ x.x.ov, (t.fs.getD p.toNat noF).k = 3 → (cs.getD p.toNat noC).l[e]? = some el)
    (hf : CellsAt w t.fa (fcs t.fs)) (ho : CellsAt w x.va (ics x.x.ov)) (hr : RowAt w ca cs) :
    Calls Try.prog 56 #[.agg #[.string t.n, t.fv, t.xv], .agg #[.string x.x.n, .slice x.va x.x.ov.length x.vc, .bool x.x.u, .bool x.x.l, .bool x.x.s], .agg #[.slice ca cs.length cc], .int .i64 e] w fun e' w' => (∃ a c, e' = .returned (.tuple #[.slice a x.x.ov.length c, .bool (x.x.ov.any (lackT t.fs cs el))]) ∧ OwnP w' w.heap.size (.slice a x.x.ov.length c) (ownP t.fs x.x cs el)) ∧ Below w.heap.size w w' := by
  have HOK : Hid (OvOk x t.fs cs) := hok
  have HF : Hid (CellsAt w t.fa (fcs t.fs)) := hf
  have HO : Hid (CellsAt w x.va (ics x.x.ov)) := ho
  have HR : Hid (RowAt w ca cs) := hr
  have HEL : Hid (∀ p ∈ x.x.ov, (t.fs.getD p.toNat noF).k = 3 → (cs.getD p.toNat noC).l[e]? = some el) := hel
  have hfm := hok.fmost
  have hom := hok.most
  have HOM : Hid (ownP t.fs x.x cs el = x.x.ov.map fun p => lowIfP x.x.l (cellP t.fs cs el p)) := ownP_map _ _ _ _
  obtain ⟨w3, hw3⟩ : ∃ w3, w3 = ((w.alloc (.cells #[.string t.n, t.fv, t.xv] 29)).alloc (.cells #[.string x.x.n, .slice x.va x.x.ov.length x.vc, .bool x.x.u, .bool x.x.l, .bool x.x.s] 50)).alloc (.cells #[.slice ca cs.length cc] 24) := ⟨_, rfl⟩
  have hs3 : w3.heap.size = w.heap.size + 3 := by rw [hw3]; simp only [World.size_alloc]
  have HI3 : Hid (OnI w t x ca cc cs (.slice (some ⟨w3.heap.size, 0, none⟩) 0 0) [] (w3.alloc (.cells #[] 57))) := by
    have hb3 : Below w.heap.size w w3 := by rw [hw3]; exact (((Below.refl _ _).alloc (Nat.le_refl _) _).alloc (by simp only [World.size_alloc]; omega) _).alloc (by simp only [World.size_alloc]; omega) _
    refine ⟨old_blk ?_ _, old_blk ?_ _, old_blk ?_ _, OwnP.mono (World.ownsRow_lit (base := w3.heap.size) (e := 57) (size := 3) w3 #[] 0 (Nat.le_refl _) (by unfold maxLen; omega) rfl) hb3.size, hb3.alloc hb3.size _⟩
    · rw [hw3]; exact old_blk (old_blk (new_blk _ _) _) _
    · rw [hw3]
      refine old_blk ?_ _
      have := new_blk (w.alloc (.cells #[.string t.n, t.fv, t.xv] 29)) (.cells #[.string x.x.n, .slice x.va x.x.ov.length x.vc, .bool x.x.u, .bool x.x.l, .bool x.x.s] 50)
      rw [World.size_alloc] at this
      exact this
    · rw [hw3]
      have := new_blk ((w.alloc (.cells #[.string t.n, t.fv, t.xv] 29)).alloc (.cells #[.string x.x.n, .slice x.va x.x.ov.length x.vc, .bool x.x.u, .bool x.x.l, .bool x.x.s] 50)) (.cells #[.slice ca cs.length cc] 24)
      rw [World.size_alloc, World.size_alloc] at this
      exact this
  clear hok hf ho hr hel
  obtain ⟨tn, fs, fa, fc, xs, xa, xc⟩ := t
  obtain ⟨⟨xn, ov, u, l, s⟩, va, vc⟩ := x
  dsimp only [TV.fv, TV.xv] at *
  have y1 : (w3.alloc (.cells #[] 57)).cell? ⟨w.heap.size + 1, 1, none⟩ = some (.slice va ov.length vc) := by rw [cell_blk HI3.out.bx]; rfl
  go_enter Try.func56, Try.ntmps56
  go_upto_region 3 with fail
  rw [show w.heap.size + 1 + 1 = w.heap.size + 2 from rfl, show w.heap.size + 2 + 1 = w3.heap.size from hs3.symm, ← hw3]
  clear hw3 hs3
  go_wp2
  go_loopw [10, 11, 13, 14, 19] (fun v10 v11 a13 a14 i wr => ∃ (k : Nat) (a : Option Addr) (c : Nat) (em : Bool), k ≤ ov.length ∧ i = .int .i64 k ∧ v10 = .slice a k c ∧ v11 = .bool em ∧ Hid (em = (ov.take k).any (lackT fs cs el)) ∧ Hid (OnI w ⟨tn, fs, fa, fc, xs, xa, xc⟩ ⟨⟨xn, ov, u, l, s⟩, va, vc⟩ ca cc cs (.slice a k c) ((ov.take k).map fun p => lowIfP l (cellP fs cs el p)) wr)) (fun _ _ _ _ i _ => ov.length - (intOf i).toNat)
  case atStart => exact ⟨0, _, _, false, Nat.zero_le _, rfl, rfl, rfl, rfl, HI3⟩
  case round =>
    obtain ⟨k, a, c, em, hk, rfl, rfl, rfl, HEM, HI⟩ := hrel
    clear HI3 y1
    by_cases hlt : k < ov.length
    · obtain ⟨ob, oo, rfl, o0⟩ := (HO.out.below HI.out.be).num k hlt
      have hpl := HOK.out.place ov[k] (List.getElem_mem hlt)
      obtain ⟨p, hp⟩ : ∃ p : Nat, ov[k] = (p : Int) := ⟨ov[k].toNat, by omega⟩
      have hpf : p < fs.length := by omega
      have hpc : p < cs.length := by have := HOK.out.same; omega
      obtain ⟨fb, fo, rfl, f0, f1⟩ := (HF.out.below HI.out.be).fld p hpf
      obtain ⟨cb, co, rfl, d0, d1, d2⟩ := ((HR.out.below HI.out.be).row).cel p hpc
      have HLS : Hid (CellsAt wr cs[p].la (cs[p].l.map Value.string)) := (HR.out.below HI.out.be).lst _ (List.getElem_mem hpc)
      have HWF : Hid cs[p].wf := HR.out.wf _ (List.getElem_mem hpc)
      have hkk := HOK.out.kind fs[p] (List.getElem_mem hpf)
      have HCP : Hid (cellP fs cs el (p : Int) = ⟨partK fs[p].k, if fs[p].k = 1 then cs[p].t else if fs[p].k = 3 then el else ⟨#[]⟩, if fs[p].k = 2 then cs[p].n else 0⟩) := cellP_at el hpf hpc
      have HLT : Hid (lackT fs cs el (p : Int) = if fs[p].k = 2 then false else if fs[p].k = 3 then el.toList.isEmpty else cs[p].t.toList.isEmpty) := by
        unfold lackT
        rw [Hid, show ((p : Int).toNat) = p from rfl, List.getD_eq_getElem?_getD, List.getElem?_eq_getElem hpf, List.getD_eq_getElem?_getD, List.getElem?_eq_getElem hpc]
        rfl
      have HLE : Hid (fs[p].k = 3 → cs[p].l[e]? = some el) := fun h3 => by
        have := HEL.out ov[k] (List.getElem_mem hlt)
        rw [hp, show ((p : Int).toNat) = p from rfl, List.getD_eq_getElem?_getD, List.getElem?_eq_getElem hpf, List.getD_eq_getElem?_getD, List.getElem?_eq_getElem hpc] at this
        exact this h3
      have HMP : Hid ((ov.take (k + 1)).map (fun p => lowIfP l (cellP fs cs el p)) = (ov.take k).map (fun p => lowIfP l (cellP fs cs el p)) ++ [lowIfP l (cellP fs cs el (p : Int))]) := by rw [Hid, List.take_succ_eq_append_getElem hlt, List.map_append, hp]; rfl
      have HAN : Hid ((ov.take (k + 1)).any (lackT fs cs el) = (em || lackT fs cs el (p : Int))) := by rw [Hid, List.take_succ_eq_append_getElem hlt, List.any_append, ← HEM.out, hp]; simp
      rw [hp] at o0
      clear hpl hp
      have t1 : wr.cell? ⟨w.heap.size, 1, none⟩ = some (.slice (some ⟨fb, fo, none⟩) fs.length fc) := by rw [cell_blk HI.out.tab]; rfl
      have r0 : wr.cell? ⟨w.heap.size + 2, 0, none⟩ = some (.slice (some ⟨cb, co, none⟩) cs.length cc) := by rw [cell_blk HI.out.rw']; rfl
      have x3 : wr.cell? ⟨w.heap.size + 1, 3, none⟩ = some (.bool l) := by rw [cell_blk HI.out.bx]; rfl
      have hbs := HI.out.be.size
      generalize fs[p].k = kk at *
      have hk3 : kk = 1 ∨ kk = 2 ∨ kk = 3 := by omega
      rcases hk3 with rfl | rfl | rfl
      · clear hkk
        have HLQ : Hid (lackT fs cs el (p : Int) = cs[p].t.toList.isEmpty) := HLT.out
        have hes := HWF.out.1
        clear HLT HLE HLS HWF
        have hem : (cs[p].t.toList == []) = cs[p].t.toList.isEmpty := by cases cs[p].t.toList <;> rfl
        cases hb : cs[p].t.toList.isEmpty with
        | true =>
          rw [hb] at hem HLQ
          have HEQ : Hid (true = (ov.take (k + 1)).any (lackT fs cs el)) := by rw [Hid, HAN.out, HLQ.out]; simp
          cases l with
          | false =>
            have HCQ : Hid (lowIfP false (cellP fs cs el (p : Int)) = ⟨1, cs[p].t, 0⟩) := by rw [Hid, HCP.out]; rfl
            go_wp2_with (at_builtin; refine append_part _ rfl (.tmp 68) (.tmp 71) rfl w.heap.size _ ((ov.take k).map fun p => lowIfP false (cellP fs cs el p)) rfl [⟨1, cs[p].t, 0⟩] _ 1 1 _ rfl rfl rfl rfl HI.out.own (by simp; omega) HI.out.be.size ?_)
            intro v8 w8 ho8 hg8
            have HI8 : Hid (OnI w ⟨tn, fs, some ⟨fb, fo, none⟩, fc, xs, xa, xc⟩ ⟨⟨xn, ov, u, false, s⟩, some ⟨ob, oo, none⟩, vc⟩ (some ⟨cb, co, none⟩) cc cs v8 ((ov.take (k + 1)).map fun p => lowIfP false (cellP fs cs el p)) w8) := HI.out.grew (by rw [HMP.out, HCQ.out]; first | exact ho8 | (rw [List.map_take]; exact ho8)) hg8
            obtain ⟨a8, c8, rfl⟩ := HI8.out.own.shape
            have hl8 : ((ov.take (k + 1)).map fun p => lowIfP false (cellP fs cs el p)).length = k + 1 := by rw [List.length_map, List.length_take]; omega
            rw [hl8] at HI8 ⊢
            clear ho8 hg8 hl8
            go_wp2
            go_roundw
            case rel => exact ⟨k + 1, a8, c8, true, by omega, by go_num, rfl, rfl, HEQ, HI8⟩
            case measure => simp [intOf]; omega
          | true =>
            have HCQ : Hid (lowIfP true (cellP fs cs el (p : Int)) = ⟨1, lowS cs[p].t, 0⟩) := by rw [Hid, HCP.out]; rfl
            have HLC : Hid (Calls Try.prog 20 #[.string cs[p].t] wr fun e w' => e = .returned (.string (lowS cs[p].t)) ∧ Below wr.heap.size wr w') := refLow_calls cs[p].t wr (by omega)
            go_wp2_with fail
            refine HLC.out.mono ?_
            clear HLC
            rintro e7 w7 ⟨rfl, hb7⟩
            have HI7 : Hid (OnI w ⟨tn, fs, some ⟨fb, fo, none⟩, fc, xs, xa, xc⟩ ⟨⟨xn, ov, u, true, s⟩, some ⟨ob, oo, none⟩, vc⟩ (some ⟨cb, co, none⟩) cc cs (.slice a k c) ((ov.take k).map fun p => lowIfP true (cellP fs cs el p)) w7) := HI.out.below hb7
            clear hb7
            go_wp2_with (at_builtin; refine append_part _ rfl (.tmp 68) (.tmp 71) rfl w.heap.size _ ((ov.take k).map fun p => lowIfP true (cellP fs cs el p)) rfl [⟨1, lowS cs[p].t, 0⟩] _ 1 1 _ rfl rfl rfl rfl HI7.out.own (by simp; omega) HI7.out.be.size ?_)
            intro v8 w8 ho8 hg8
            have HI8 : Hid (OnI w ⟨tn, fs, some ⟨fb, fo, none⟩, fc, xs, xa, xc⟩ ⟨⟨xn, ov, u, true, s⟩, some ⟨ob, oo, none⟩, vc⟩ (some ⟨cb, co, none⟩) cc cs v8 ((ov.take (k + 1)).map fun p => lowIfP true (cellP fs cs el p)) w8) := HI7.out.grew (by rw [HMP.out, HCQ.out]; first | exact ho8 | (rw [List.map_take]; exact ho8)) hg8
            obtain ⟨a8, c8, rfl⟩ := HI8.out.own.shape
            have hl8 : ((ov.take (k + 1)).map fun p => lowIfP true (cellP fs cs el p)).length = k + 1 := by rw [List.length_map, List.length_take]; omega
            rw [hl8] at HI8 ⊢
            clear ho8 hg8 hl8
            go_wp2
            go_roundw
            case rel => exact ⟨k + 1, a8, c8, true, by omega, by go_num, rfl, rfl, HEQ, HI8⟩
            case measure => simp [intOf]; omega
        | false =>
          rw [hb] at hem HLQ
          have HEQ : Hid (em = (ov.take (k + 1)).any (lackT fs cs el)) := by rw [Hid, HAN.out, HLQ.out]; simp
          cases l with
          | false =>
            have HCQ : Hid (lowIfP false (cellP fs cs el (p : Int)) = ⟨1, cs[p].t, 0⟩) := by rw [Hid, HCP.out]; rfl
            go_wp2_with (at_builtin; refine append_part _ rfl (.tmp 68) (.tmp 71) rfl w.heap.size _ ((ov.take k).map fun p => lowIfP false (cellP fs cs el p)) rfl [⟨1, cs[p].t, 0⟩] _ 1 1 _ rfl rfl rfl rfl HI.out.own (by simp; omega) HI.out.be.size ?_)
            intro v8 w8 ho8 hg8
            have HI8 : Hid (OnI w ⟨tn, fs, some ⟨fb, fo, none⟩, fc, xs, xa, xc⟩ ⟨⟨xn, ov, u, false, s⟩, some ⟨ob, oo, none⟩, vc⟩ (some ⟨cb, co, none⟩) cc cs v8 ((ov.take (k + 1)).map fun p => lowIfP false (cellP fs cs el p)) w8) := HI.out.grew (by rw [HMP.out, HCQ.out]; first | exact ho8 | (rw [List.map_take]; exact ho8)) hg8
            obtain ⟨a8, c8, rfl⟩ := HI8.out.own.shape
            have hl8 : ((ov.take (k + 1)).map fun p => lowIfP false (cellP fs cs el p)).length = k + 1 := by rw [List.length_map, List.length_take]; omega
            rw [hl8] at HI8 ⊢
            clear ho8 hg8 hl8
            go_wp2
            go_roundw
            case rel => exact ⟨k + 1, a8, c8, em, by omega, by go_num, rfl, rfl, HEQ, HI8⟩
            case measure => simp [intOf]; omega
          | true =>
            have HCQ : Hid (lowIfP true (cellP fs cs el (p : Int)) = ⟨1, lowS cs[p].t, 0⟩) := by rw [Hid, HCP.out]; rfl
            have HLC : Hid (Calls Try.prog 20 #[.string cs[p].t] wr fun e w' => e = .returned (.string (lowS cs[p].t)) ∧ Below wr.heap.size wr w') := refLow_calls cs[p].t wr (by omega)
            go_wp2_with fail
            refine HLC.out.mono ?_
            clear HLC
            rintro e7 w7 ⟨rfl, hb7⟩
            have HI7 : Hid (OnI w ⟨tn, fs, some ⟨fb, fo, none⟩, fc, xs, xa, xc⟩ ⟨⟨xn, ov, u, true, s⟩, some ⟨ob, oo, none⟩, vc⟩ (some ⟨cb, co, none⟩) cc cs (.slice a k c) ((ov.take k).map fun p => lowIfP true (cellP fs cs el p)) w7) := HI.out.below hb7
            clear hb7
            go_wp2_with (at_builtin; refine append_part _ rfl (.tmp 68) (.tmp 71) rfl w.heap.size _ ((ov.take k).map fun p => lowIfP true (cellP fs cs el p)) rfl [⟨1, lowS cs[p].t, 0⟩] _ 1 1 _ rfl rfl rfl rfl HI7.out.own (by simp; omega) HI7.out.be.size ?_)
            intro v8 w8 ho8 hg8
            have HI8 : Hid (OnI w ⟨tn, fs, some ⟨fb, fo, none⟩, fc, xs, xa, xc⟩ ⟨⟨xn, ov, u, true, s⟩, some ⟨ob, oo, none⟩, vc⟩ (some ⟨cb, co, none⟩) cc cs v8 ((ov.take (k + 1)).map fun p => lowIfP true (cellP fs cs el p)) w8) := HI7.out.grew (by rw [HMP.out, HCQ.out]; first | exact ho8 | (rw [List.map_take]; exact ho8)) hg8
            obtain ⟨a8, c8, rfl⟩ := HI8.out.own.shape
            have hl8 : ((ov.take (k + 1)).map fun p => lowIfP true (cellP fs cs el p)).length = k + 1 := by rw [List.length_map, List.length_take]; omega
            rw [hl8] at HI8 ⊢
            clear ho8 hg8 hl8
            go_wp2
            go_roundw
            case rel => exact ⟨k + 1, a8, c8, em, by omega, by go_num, rfl, rfl, HEQ, HI8⟩
            case measure => simp [intOf]; omega
      · clear hkk
        have HCQ : Hid (lowIfP l (cellP fs cs el (p : Int)) = ⟨2, ⟨#[]⟩, cs[p].n⟩) := by rw [Hid, HCP.out]; cases l <;> rfl
        have HEQ : Hid (em = (ov.take (k + 1)).any (lackT fs cs el)) := by rw [Hid, HAN.out, HLT.out]; simp
        clear HLT HLE HLS HWF
        go_wp2_with (at_builtin; refine append_part _ rfl (.tmp 30) (.tmp 38) rfl w.heap.size _ ((ov.take k).map fun p => lowIfP l (cellP fs cs el p)) rfl [⟨2, ⟨#[]⟩, cs[p].n⟩] _ 1 1 _ rfl rfl rfl rfl HI.out.own (by simp; omega) HI.out.be.size ?_)
        intro v8 w8 ho8 hg8
        have HI8 : Hid (OnI w ⟨tn, fs, some ⟨fb, fo, none⟩, fc, xs, xa, xc⟩ ⟨⟨xn, ov, u, l, s⟩, some ⟨ob, oo, none⟩, vc⟩ (some ⟨cb, co, none⟩) cc cs v8 ((ov.take (k + 1)).map fun p => lowIfP l (cellP fs cs el p)) w8) := HI.out.grew (by rw [HMP.out, HCQ.out]; first | exact ho8 | (rw [List.map_take]; exact ho8)) hg8
        obtain ⟨a8, c8, rfl⟩ := HI8.out.own.shape
        have hl8 : ((ov.take (k + 1)).map fun p => lowIfP l (cellP fs cs el p)).length = k + 1 := by rw [List.length_map, List.length_take]; omega
        rw [hl8] at HI8 ⊢
        clear ho8 hg8 hl8
        go_wp2
        go_roundw
        case rel => exact ⟨k + 1, a8, c8, em, by omega, by go_num, rfl, rfl, HEQ, HI8⟩
        case measure => simp [intOf]; omega
      · clear hkk
        have HLQ : Hid (lackT fs cs el (p : Int) = el.toList.isEmpty) := HLT.out
        have hle := HLE.out rfl
        have hel2 : e < cs[p].l.length := (List.getElem?_eq_some_iff.1 hle).1
        obtain ⟨lb, lo, hla, l0⟩ := HLS.out.str e hel2
        rw [show cs[p].l[e] = el from (List.getElem?_eq_some_iff.1 hle).2] at l0
        rw [hla] at d2
        have hei : (e : Int) < (cs[p].l.length : Int) := by omega
        have hll := HWF.out.2.2.2
        clear hle hla
        clear HLT HLE HLS HWF
        have hem : (el.toList == []) = el.toList.isEmpty := by cases el.toList <;> rfl
        cases hb : el.toList.isEmpty with
        | true =>
          rw [hb] at hem HLQ
          have HEQ : Hid (true = (ov.take (k + 1)).any (lackT fs cs el)) := by rw [Hid, HAN.out, HLQ.out]; simp
          cases l with
          | false =>
            have HCQ : Hid (lowIfP false (cellP fs cs el (p : Int)) = ⟨1, el, 0⟩) := by rw [Hid, HCP.out]; rfl
            go_wp2_with (at_builtin; refine append_part _ rfl (.tmp 68) (.tmp 71) rfl w.heap.size _ ((ov.take k).map fun p => lowIfP false (cellP fs cs el p)) rfl [⟨1, el, 0⟩] _ 1 1 _ rfl rfl rfl rfl HI.out.own (by simp; omega) HI.out.be.size ?_)
            intro v8 w8 ho8 hg8
            have HI8 : Hid (OnI w ⟨tn, fs, some ⟨fb, fo, none⟩, fc, xs, xa, xc⟩ ⟨⟨xn, ov, u, false, s⟩, some ⟨ob, oo, none⟩, vc⟩ (some ⟨cb, co, none⟩) cc cs v8 ((ov.take (k + 1)).map fun p => lowIfP false (cellP fs cs el p)) w8) := HI.out.grew (by rw [HMP.out, HCQ.out]; first | exact ho8 | (rw [List.map_take]; exact ho8)) hg8
            obtain ⟨a8, c8, rfl⟩ := HI8.out.own.shape
            have hl8 : ((ov.take (k + 1)).map fun p => lowIfP false (cellP fs cs el p)).length = k + 1 := by rw [List.length_map, List.length_take]; omega
            rw [hl8] at HI8 ⊢
            clear ho8 hg8 hl8
            go_wp2
            go_roundw
            case rel => exact ⟨k + 1, a8, c8, true, by omega, by go_num, rfl, rfl, HEQ, HI8⟩
            case measure => simp [intOf]; omega
          | true =>
            have HCQ : Hid (lowIfP true (cellP fs cs el (p : Int)) = ⟨1, lowS el, 0⟩) := by rw [Hid, HCP.out]; rfl
            have HLC : Hid (Calls Try.prog 20 #[.string el] wr fun e w' => e = .returned (.string (lowS el)) ∧ Below wr.heap.size wr w') := refLow_calls el wr (by omega)
            go_wp2_with fail
            refine HLC.out.mono ?_
            clear HLC
            rintro e7 w7 ⟨rfl, hb7⟩
            have HI7 : Hid (OnI w ⟨tn, fs, some ⟨fb, fo, none⟩, fc, xs, xa, xc⟩ ⟨⟨xn, ov, u, true, s⟩, some ⟨ob, oo, none⟩, vc⟩ (some ⟨cb, co, none⟩) cc cs (.slice a k c) ((ov.take k).map fun p => lowIfP true (cellP fs cs el p)) w7) := HI.out.below hb7
            clear hb7
            go_wp2_with (at_builtin; refine append_part _ rfl (.tmp 68) (.tmp 71) rfl w.heap.size _ ((ov.take k).map fun p => lowIfP true (cellP fs cs el p)) rfl [⟨1, lowS el, 0⟩] _ 1 1 _ rfl rfl rfl rfl HI7.out.own (by simp; omega) HI7.out.be.size ?_)
            intro v8 w8 ho8 hg8
            have HI8 : Hid (OnI w ⟨tn, fs, some ⟨fb, fo, none⟩, fc, xs, xa, xc⟩ ⟨⟨xn, ov, u, true, s⟩, some ⟨ob, oo, none⟩, vc⟩ (some ⟨cb, co, none⟩) cc cs v8 ((ov.take (k + 1)).map fun p => lowIfP true (cellP fs cs el p)) w8) := HI7.out.grew (by rw [HMP.out, HCQ.out]; first | exact ho8 | (rw [List.map_take]; exact ho8)) hg8
            obtain ⟨a8, c8, rfl⟩ := HI8.out.own.shape
            have hl8 : ((ov.take (k + 1)).map fun p => lowIfP true (cellP fs cs el p)).length = k + 1 := by rw [List.length_map, List.length_take]; omega
            rw [hl8] at HI8 ⊢
            clear ho8 hg8 hl8
            go_wp2
            go_roundw
            case rel => exact ⟨k + 1, a8, c8, true, by omega, by go_num, rfl, rfl, HEQ, HI8⟩
            case measure => simp [intOf]; omega
        | false =>
          rw [hb] at hem HLQ
          have HEQ : Hid (em = (ov.take (k + 1)).any (lackT fs cs el)) := by rw [Hid, HAN.out, HLQ.out]; simp
          cases l with
          | false =>
            have HCQ : Hid (lowIfP false (cellP fs cs el (p : Int)) = ⟨1, el, 0⟩) := by rw [Hid, HCP.out]; rfl
            go_wp2_with (at_builtin; refine append_part _ rfl (.tmp 68) (.tmp 71) rfl w.heap.size _ ((ov.take k).map fun p => lowIfP false (cellP fs cs el p)) rfl [⟨1, el, 0⟩] _ 1 1 _ rfl rfl rfl rfl HI.out.own (by simp; omega) HI.out.be.size ?_)
            intro v8 w8 ho8 hg8
            have HI8 : Hid (OnI w ⟨tn, fs, some ⟨fb, fo, none⟩, fc, xs, xa, xc⟩ ⟨⟨xn, ov, u, false, s⟩, some ⟨ob, oo, none⟩, vc⟩ (some ⟨cb, co, none⟩) cc cs v8 ((ov.take (k + 1)).map fun p => lowIfP false (cellP fs cs el p)) w8) := HI.out.grew (by rw [HMP.out, HCQ.out]; first | exact ho8 | (rw [List.map_take]; exact ho8)) hg8
            obtain ⟨a8, c8, rfl⟩ := HI8.out.own.shape
            have hl8 : ((ov.take (k + 1)).map fun p => lowIfP false (cellP fs cs el p)).length = k + 1 := by rw [List.length_map, List.length_take]; omega
            rw [hl8] at HI8 ⊢
            clear ho8 hg8 hl8
            go_wp2
            go_roundw
            case rel => exact ⟨k + 1, a8, c8, em, by omega, by go_num, rfl, rfl, HEQ, HI8⟩
            case measure => simp [intOf]; omega
          | true =>
            have HCQ : Hid (lowIfP true (cellP fs cs el (p : Int)) = ⟨1, lowS el, 0⟩) := by rw [Hid, HCP.out]; rfl
            have HLC : Hid (Calls Try.prog 20 #[.string el] wr fun e w' => e = .returned (.string (lowS el)) ∧ Below wr.heap.size wr w') := refLow_calls el wr (by omega)
            go_wp2_with fail
            refine HLC.out.mono ?_
            clear HLC
            rintro e7 w7 ⟨rfl, hb7⟩
            have HI7 : Hid (OnI w ⟨tn, fs, some ⟨fb, fo, none⟩, fc, xs, xa, xc⟩ ⟨⟨xn, ov, u, true, s⟩, some ⟨ob, oo, none⟩, vc⟩ (some ⟨cb, co, none⟩) cc cs (.slice a k c) ((ov.take k).map fun p => lowIfP true (cellP fs cs el p)) w7) := HI.out.below hb7
            clear hb7
            go_wp2_with (at_builtin; refine append_part _ rfl (.tmp 68) (.tmp 71) rfl w.heap.size _ ((ov.take k).map fun p => lowIfP true (cellP fs cs el p)) rfl [⟨1, lowS el, 0⟩] _ 1 1 _ rfl rfl rfl rfl HI7.out.own (by simp; omega) HI7.out.be.size ?_)
            intro v8 w8 ho8 hg8
            have HI8 : Hid (OnI w ⟨tn, fs, some ⟨fb, fo, none⟩, fc, xs, xa, xc⟩ ⟨⟨xn, ov, u, true, s⟩, some ⟨ob, oo, none⟩, vc⟩ (some ⟨cb, co, none⟩) cc cs v8 ((ov.take (k + 1)).map fun p => lowIfP true (cellP fs cs el p)) w8) := HI7.out.grew (by rw [HMP.out, HCQ.out]; first | exact ho8 | (rw [List.map_take]; exact ho8)) hg8
            obtain ⟨a8, c8, rfl⟩ := HI8.out.own.shape
            have hl8 : ((ov.take (k + 1)).map fun p => lowIfP true (cellP fs cs el p)).length = k + 1 := by rw [List.length_map, List.length_take]; omega
            rw [hl8] at HI8 ⊢
            clear ho8 hg8 hl8
            go_wp2
            go_roundw
            case rel => exact ⟨k + 1, a8, c8, em, by omega, by go_num, rfl, rfl, HEQ, HI8⟩
            case measure => simp [intOf]; omega
    · obtain rfl : k = ov.length := by omega
      rw [show ov.take ov.length = ov from List.take_length] at HI HEM
      go_wp2
      go_ret2
      refine ⟨⟨a, c, ?_, ?_⟩, HI.out.be⟩
      · rw [← HEM.out]; rfl
      · rw [HOM.out]; exact HI.out.own
end Go.Proofs.Ytjbnbpclelbohaa
