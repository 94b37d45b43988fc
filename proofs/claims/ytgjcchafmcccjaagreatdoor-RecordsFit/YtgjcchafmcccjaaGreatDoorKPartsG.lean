import Derived.Test.YtgjcchafmcccjaaGreatDoorKAllValid
import Derived.Test.YtgjcchafmcccjaaGreatDoorRwLowR
import Derived.Laws.IdiomStrings
import Derived.Laws.BytesArg
/- The walk of write, Encode and Begin. -/
namespace Go.Proofs.YtgjcchafmcccjaaGreatDoor
open Go.RowKit
set_option linter.unusedVariables false

/-- The pieces one behind the other; op: the last text is left open. -/
def enc (op : Bool) : List Pt → List UInt8
  | [] => []
  | [p] => piece p op
  | p :: q :: r => piece p false ++ enc op (q :: r)

theorem enc_cons (op : Bool) (p : Pt) (r : List Pt) : enc op (p :: r) = piece p (op && r.isEmpty) ++ enc op r := by
  cases r with
  | nil => simp [enc]
  | cons q r => simp [enc]

theorem enc_drop (op : Bool) (ps : List Pt) (k : Nat) (h : k < ps.length) : enc op (ps.drop k) = piece ps[k] (op && decide (k + 1 = ps.length)) ++ enc op (ps.drop (k + 1)) := by
  rw [List.drop_eq_getElem_cons h, enc_cons]
  congr 3
  rw [Bool.eq_iff_iff]; simp; omega

theorem size_of_nil {t : ByteArray} (h : t.toList = []) : t.size = 0 := by
  have h' : t.data.toList = [] := by rw [← ByteArray.toList_eq]; exact h
  show t.data.size = 0
  rw [← Array.length_toList, h']; rfl

theorem piece_text_le (p : Pt) (op : Bool) (h : vldB p = true) : p.t.size + 1 ≤ (piece p op).length := by
  have h1 := (esc_length p.t.data.toList).1
  have h2 : p.t.data.toList.length = p.t.size := by simp
  rcases vld_cases h with ⟨hk, hn⟩ | ⟨hk, ht⟩ | ⟨hk, ht, hn⟩
  · simp [piece, hk]; omega
  · have := size_of_nil ht
    simp [piece, hk]
    omega
  · have := size_of_nil ht
    simp [piece, hk]
    omega

/-- What Encode (op false) and Begin (op true) answer. -/
def encAns (op : Bool) (ps : List Pt) : List UInt8 × Int :=
  if ps.all vldB then if (enc op ps).length ≤ 1024 then (enc op ps, 0) else ([], 11) else ([], 10)

theorem ret_pair {s s' : ByteArray} {e e' : Int} (h : s = s') (h2 : e = e') : Ending.returned (.tuple #[.string s, .int .i64 e]) = .returned (.tuple #[.string s', .int .i64 e']) := by rw [h, h2]

set_option maxHeartbeats 1000000 in
theorem write_calls (ao : Option Addr) (cap : Nat) (ps : List Pt) (op : Bool) (w : World) (hl : ps.length ≤ 4398046511104) (hp : PartsAt w ao ps) :
    Calls Tryz.prog 54 #[.slice ao ps.length cap, .bool op] w fun e w' => e = .returned (.tuple #[.string ⟨(encAns op ps).1.toArray⟩, .int .i64 (encAns op ps).2]) ∧ Below w.heap.size w w' := by
  go_enter Tryz.func54, Tryz.ntmps54
  go_wp2_with fail
  refine (allValid_calls ao cap ps w hl hp).mono ?_
  rintro e w1 ⟨rfl, hb1⟩
  have hp1 := hp.below hb1
  cases hall : ps.all vldB with
  | false =>
    have HA : Hid (encAns op ps = ([], 10)) := by unfold encAns; rw [hall]; rfl
    go_wp2
    go_ret2
    rw [HA.out]
    exact ⟨rfl, hb1⟩
  | true =>
    have HA : Hid (encAns op ps = if (enc op ps).length ≤ 1024 then (enc op ps, 0) else ([], 11)) := by unfold encAns; rw [hall]; rfl
    have HV : Hid (∀ i (h : i < ps.length), vldB ps[i] = true) := fun i h => (List.all_eq_true.1 hall) _ (List.getElem_mem h)
    clear hall hp
    go_wp2_with fail
    go_loopw [6, 14] (fun x i wr => ∃ (k : Nat) (pre : List UInt8), k ≤ ps.length ∧ i = .int .i64 k ∧ Own wr w1.heap.size x pre ∧ Hid (pre ++ enc op (ps.drop k) = enc op ps) ∧ pre.length ≤ 1024 ∧ Below w1.heap.size w1 wr) (fun _ i _ => ps.length - (intOf i).toNat)
    case atStart => exact ⟨0, [], Nat.zero_le _, rfl, Own.nil _ _, rfl, by simp, Below.refl _ _⟩
    case round =>
      obtain ⟨k, pre, hk, rfl, ho, HP, hpre, hb⟩ := hrel
      have hs := hb.size
      by_cases hlt : k < ps.length
      · obtain ⟨b, off, rfl, h0, h1, h2, hwf⟩ := (hp1.below hb) k ps[k] (by simp [hlt])
        have hv := HV.out k hlt
        have HVk : Hid (vldB ps[k] = true) := hv
        clear hv
        have htl := piece_text_le ps[k] (op && decide (k + 1 = ps.length)) HVk.out
        have HE : Hid (enc op (ps.drop k) = piece ps[k] (op && decide (k + 1 = ps.length)) ++ enc op (ps.drop (k + 1))) := enc_drop op ps k hlt
        obtain ⟨hwk, ⟨hn0, hn1⟩, hts⟩ := hwf
        obtain ⟨ao', cap', hsh⟩ := ho.shape
        subst hsh
        by_cases hlong : 1024 < pre.length + ps[k].t.size
        · have HT : Hid (¬ (enc op ps).length ≤ 1024) := by
            rw [← HP.out, HE.out]; simp only [List.length_append]; show ¬ _; omega
          clear htl
          go_wp2
          go_light
          go_ret2
          rw [HA.out, if_neg HT.out]
          exact ⟨rfl, hb1.trans ((hb.alloc hs _).mono hb1.size)⟩
        · obtain ⟨o, hoeq⟩ : ∃ o : Bool, o = (op && decide (k + 1 = ps.length)) := ⟨_, rfl⟩
          have hdd : Hid (((k : Int) == (ps.length : Int) - 1) = decide (k + 1 = ps.length)) := by
            show _ = _
            rw [Bool.eq_iff_iff]; simp; omega
          rw [← hoeq] at HE
          clear htl
          cases op with
          | false =>
            simp only [Bool.false_and] at hoeq
            subst hoeq
            go_wp2_with fail
            refine (appendPiece_calls w1.heap.size _ pre ps[k].k ps[k].n ps[k].t false _ (ho.alloc _) (by simp; omega) (by omega) HVk.out hn0 hn1).mono ?_
            rintro e w2 ⟨v2, rfl, ho2, hg2⟩
            have hb2 : Below w1.heap.size w1 w2 := hb.trans (ho.toBelow hs hg2.ofAlloc)
            have HP2 : Hid ((pre ++ piece ps[k] false) ++ enc false (ps.drop (k + 1)) = enc false ps) := by
              show _ = _
              rw [List.append_assoc, ← HE.out]; exact HP.out
            clear h0 h1 h2 hg2 ho HE HP
            replace ho2 : Own w2 w1.heap.size v2 (pre ++ piece ps[k] false) := ho2
            obtain ⟨pre2, hpre2⟩ : ∃ pre2, pre2 = pre ++ piece ps[k] false := ⟨_, rfl⟩
            rw [← hpre2] at ho2 HP2
            clear hpre2
            obtain ⟨ao2, cap2, hsh⟩ := ho2.shape
            subst hsh
            by_cases hl2 : 1024 < pre2.length
            · have HT : Hid (¬ (enc false ps).length ≤ 1024) := by
                rw [← HP2.out]; simp only [List.length_append]; show ¬ _; omega
              go_wp2
              go_light
              go_ret2
              rw [HA.out, if_neg HT.out]
              exact ⟨rfl, hb1.trans (hb2.mono hb1.size)⟩
            · go_wp2
              go_roundw
              case rel => exact ⟨k + 1, pre2, by omega, by go_num, ho2, HP2, by omega, hb2⟩
              case measure => simp [intOf]; omega
          | true =>
            by_cases hlast : k + 1 = ps.length
            · have hd : ((k : Int) == (ps.length : Int) - 1) = true := by rw [hdd.out]; simpa using hlast
              simp only [Bool.true_and, hlast, decide_true] at hoeq
              subst hoeq
              have HL : Hid (k + 1 = ps.length) := hlast
              clear hlast
              go_wp2_with fail
              refine (appendPiece_calls w1.heap.size _ pre ps[k].k ps[k].n ps[k].t true _ (ho.alloc _) (by simp; omega) (by omega) HVk.out hn0 hn1).mono ?_
              rintro e w2 ⟨v2, rfl, ho2, hg2⟩
              have hb2 : Below w1.heap.size w1 w2 := hb.trans (ho.toBelow hs hg2.ofAlloc)
              have HP2 : Hid ((pre ++ piece ps[k] true) ++ enc true (ps.drop (k + 1)) = enc true ps) := by
                show _ = _
                rw [List.append_assoc, ← HE.out]; exact HP.out
              clear h0 h1 h2 hg2 ho HE HP
              replace ho2 : Own w2 w1.heap.size v2 (pre ++ piece ps[k] true) := ho2
              obtain ⟨pre2, hpre2⟩ : ∃ pre2, pre2 = pre ++ piece ps[k] true := ⟨_, rfl⟩
              rw [← hpre2] at ho2 HP2
              clear hpre2
              obtain ⟨ao2, cap2, hsh⟩ := ho2.shape
              subst hsh
              by_cases hl2 : 1024 < pre2.length
              · have HT : Hid (¬ (enc true ps).length ≤ 1024) := by
                  rw [← HP2.out]; simp only [List.length_append]; show ¬ _; omega
                go_wp2
                go_light
                go_ret2
                rw [HA.out, if_neg HT.out]
                exact ⟨rfl, hb1.trans (hb2.mono hb1.size)⟩
              · go_wp2
                go_roundw
                case rel => exact ⟨k + 1, pre2, by omega, by go_num, ho2, HP2, by omega, hb2⟩
                case measure => simp [intOf]; omega
            · have hd : ((k : Int) == (ps.length : Int) - 1) = false := by rw [hdd.out]; simpa using hlast
              simp only [Bool.true_and, hlast, decide_false] at hoeq
              subst hoeq
              clear hlast
              go_wp2_with fail
              refine (appendPiece_calls w1.heap.size _ pre ps[k].k ps[k].n ps[k].t false _ (ho.alloc _) (by simp; omega) (by omega) HVk.out hn0 hn1).mono ?_
              rintro e w2 ⟨v2, rfl, ho2, hg2⟩
              have hb2 : Below w1.heap.size w1 w2 := hb.trans (ho.toBelow hs hg2.ofAlloc)
              have HP2 : Hid ((pre ++ piece ps[k] false) ++ enc true (ps.drop (k + 1)) = enc true ps) := by
                show _ = _
                rw [List.append_assoc, ← HE.out]; exact HP.out
              clear h0 h1 h2 hg2 ho HE HP
              replace ho2 : Own w2 w1.heap.size v2 (pre ++ piece ps[k] false) := ho2
              obtain ⟨pre2, hpre2⟩ : ∃ pre2, pre2 = pre ++ piece ps[k] false := ⟨_, rfl⟩
              rw [← hpre2] at ho2 HP2
              clear hpre2
              obtain ⟨ao2, cap2, hsh⟩ := ho2.shape
              subst hsh
              by_cases hl2 : 1024 < pre2.length
              · have HT : Hid (¬ (enc true ps).length ≤ 1024) := by
                  rw [← HP2.out]; simp only [List.length_append]; show ¬ _; omega
                go_wp2
                go_light
                go_ret2
                rw [HA.out, if_neg HT.out]
                exact ⟨rfl, hb1.trans (hb2.mono hb1.size)⟩
              · go_wp2
                go_roundw
                case rel => exact ⟨k + 1, pre2, by omega, by go_num, ho2, HP2, by omega, hb2⟩
                case measure => simp [intOf]; omega
      · obtain rfl : k = ps.length := by omega
        have hpe : pre = enc op ps := by have := HP.out; simpa [enc] using this
        have hstr := ho.string
        go_wp2
        go_ret2
        rw [HA.out, if_pos (by rw [← hpe]; exact hpre)]
        exact ⟨rfl, hb1.trans (hb.mono hb1.size)⟩
end Go.Proofs.YtgjcchafmcccjaaGreatDoor

/- Layer 7 (rows): kindAt, partKind. -/
namespace Go.Proofs.YtgjcchafmcccjaaGreatDoor
open Go.RowKit
set_option linter.unusedVariables false

/-- The kind of the field at a place; of its parts. -/
def kindA (fs : List Fd) (p : Int) : Int := if 0 ≤ p ∧ p < fs.length then (fs.getD p.toNat ⟨⟨#[]⟩, 0⟩).k else 0
def partK (k : Int) : Int := if k = 1 ∨ k = 3 then 1 else if k = 2 then 2 else 0
theorem kindAt_calls (fa : Option Addr) (fc : Nat) (fs : List Fd) (p : Nat) (w : World) (hl : fs.length ≤ 16) (hp : p < fs.length) (h : CellsAt w fa (fcs fs)) :
    Calls Tryz.prog 74 #[.slice fa fs.length fc, .int .i64 p] w fun e w' => e = .returned (.int .i64 fs[p].k) ∧ w' = w := by
  obtain ⟨b, off, rfl, c0, c1⟩ := h.fld p hp
  have q1 : ¬ ((p : Int) < 0) := by omega
  have q2 : ¬ ((fs.length : Int) ≤ (p : Int)) := by omega
  go_enter Tryz.func74, Tryz.ntmps74
  go_wp2
  go_ret
  exact ⟨rfl, rfl⟩
theorem partKind_calls (fa : Option Addr) (fc : Nat) (fs : List Fd) (p : Nat) (w : World) (hl : fs.length ≤ 16) (hp : p < fs.length) (h : CellsAt w fa (fcs fs)) :
    Calls Tryz.prog 73 #[.slice fa fs.length fc, .int .i64 p] w fun e w' => e = .returned (.int .i64 (partK fs[p].k)) ∧ w' = w := by
  have HK : Hid (Calls Tryz.prog 74 #[.slice fa fs.length fc, .int .i64 p] w fun e w' => e = .returned (.int .i64 fs[p].k) ∧ w' = w) := kindAt_calls fa fc fs p w hl hp h
  generalize fs[p].k = k at *
  have HP : Hid (partK k = if k = 1 ∨ k = 3 then 1 else if k = 2 then 2 else 0) := rfl
  clear h
  by_cases h1 : k = 1
  · subst h1
    go_enter Tryz.func73, Tryz.ntmps73
    go_wp2_with fail
    refine HK.out.mono ?_
    rintro e w' ⟨rfl, rfl⟩
    go_wp2
    go_ret
    exact ⟨by rw [HP.out]; rfl, rfl⟩
  · by_cases h3 : k = 3
    · subst h3
      go_enter Tryz.func73, Tryz.ntmps73
      go_wp2_with fail
      refine HK.out.mono ?_
      rintro e w' ⟨rfl, rfl⟩
      go_wp2
      go_ret
      exact ⟨by rw [HP.out]; rfl, rfl⟩
    · by_cases h2 : k = 2
      · subst h2
        go_enter Tryz.func73, Tryz.ntmps73
        go_wp2_with fail
        refine HK.out.mono ?_
        rintro e w' ⟨rfl, rfl⟩
        go_wp2
        go_ret
        exact ⟨by rw [HP.out]; rfl, rfl⟩
      · have q1 : (k == 1) = false := by simpa using h1
        have q2 : (k == 2) = false := by simpa using h2
        have q3 : (k == 3) = false := by simpa using h3
        have HQ : Hid (partK k = 0) := by rw [Hid, HP.out, if_neg (by omega), if_neg h2]
        clear h1 h2 h3
        go_enter Tryz.func73, Tryz.ntmps73
        go_wp2_with fail
        refine HK.out.mono ?_
        rintro e w' ⟨rfl, rfl⟩
        go_wp2
        go_ret
        exact ⟨by rw [HQ.out]; rfl, rfl⟩
end Go.Proofs.YtgjcchafmcccjaaGreatDoor

/- Slices of parts that a call has made itself. -/
namespace Go.Proofs.YtgjcchafmcccjaaGreatDoor
open Go.RowKit
set_option linter.unusedVariables false

def pcs (ps : List Pt) : List Value := ps.flatMap Pt.cells
theorem pcs_append (ps qs : List Pt) : pcs (ps ++ qs) = pcs ps ++ pcs qs := by simp [pcs]
theorem pcs_length (ps : List Pt) : (pcs ps).length = ps.length * 3 := by
  induction ps with
  | nil => rfl
  | cons p ps ih => simp only [pcs, List.flatMap_cons, List.length_append] at ih ⊢; rw [ih]; simp [Pt.cells]; omega
theorem pcs_one (ps : List Pt) : ∀ u ∈ pcs ps, u.oneCell' = true := by
  intro u hu
  obtain ⟨p, _, hp⟩ := List.mem_flatMap.1 hu
  simp [Pt.cells] at hp
  rcases hp with rfl | rfl | rfl <;> rfl
theorem pcs_at (ps : List Pt) (i : Nat) (p : Pt) (h : ps[i]? = some p) (j : Nat) (hj : j < 3) : (pcs ps)[i * 3 + j]? = p.cells[j]? := by
  induction ps generalizing i with
  | nil => simp at h
  | cons q ps ih =>
    have e : pcs (q :: ps) = q.cells ++ pcs ps := by simp [pcs]
    have hl : q.cells.length = 3 := rfl
    rw [e]
    cases i with
    | zero =>
      simp at h; subst h
      rw [Nat.zero_mul, Nat.zero_add, List.getElem?_append_left (by omega)]
    | succ i =>
      rw [List.getElem?_append_right (by omega), hl, show (i + 1) * 3 + j - 3 = i * 3 + j by omega]
      exact ih i (by simpa using h)

/-- The slice v, made by the call itself, holds the parts ps. -/
def OwnP (w : World) (B : Nat) (v : Value) (ps : List Pt) : Prop := w.ownsRow B 112 3 v ps.length (pcs ps)

theorem OwnP.nil (w : World) (B : Nat) : OwnP w B (.slice none 0 0) [] := World.ownsRow_nil _ _ _ _
theorem OwnP.alloc {w : World} {B : Nat} {v : Value} {l : List Pt} (h : OwnP w B v l) (o : Obj) : OwnP (w.alloc o) B v l := World.ownsRow.alloc h o
theorem OwnP.lt {w : World} {B : Nat} {v : Value} {l : List Pt} (h : OwnP w B v l) : ∀ k, v.ownBlock = some k → B ≤ k ∧ k < w.heap.size := World.ownsRow.lt h
theorem OwnP.shape {w : World} {B : Nat} {v : Value} {l : List Pt} (h : OwnP w B v l) : ∃ ao cap, v = .slice ao l.length cap := by
  rcases h.2 with ⟨rfl, h0⟩ | ⟨g, cap, cur, rfl, _⟩
  · exact ⟨none, 0, by rw [h0]⟩
  · exact ⟨_, _, rfl⟩
theorem OwnP.below {w w' : World} {B : Nat} {v : Value} {l : List Pt} (h : OwnP w B v l) (hb : Below w.heap.size w w') : OwnP w' B v l :=
  World.ownsRow.kept (row := none) h ⟨hb.os, hb.tape, hb.output, hb.size, fun k hk _ => hb.block k hk⟩ (by cases v.ownBlock <;> simp)
theorem OwnP.toBelow {w w' : World} {B : Nat} {v v' : Value} {l : List Pt} (h : OwnP w B v l) (hB : B ≤ w.heap.size) (hg : Grew w w' v v') : Below B w w' := hg.toBelow hB fun k hk => (h.lt k hk).1
theorem OwnP.mono {w : World} {B B' : Nat} {v : Value} {l : List Pt} (h : OwnP w B v l) (hB : B' ≤ B) : OwnP w B' v l := by
  refine ⟨h.1, ?_⟩
  rcases h.2 with h | ⟨g, cap, cur, hv, hb, r⟩
  · exact .inl h
  · exact .inr ⟨g, cap, cur, hv, Nat.le_trans hB hb, r⟩

theorem OwnP.storedOther {w : World} {B : Nat} {v : Value} {l : List Pt} (h : OwnP w B v l) {a : Addr} (ha : v.ownBlock ≠ some a.block) (u : Value) : OwnP (w.setCell a u) B v l := ownsRow_setCell_other h ha u

theorem OwnP.parts {w : World} {B : Nat} {ao : Option Addr} {n cap : Nat} {l : List Pt} (h : OwnP w B (.slice ao n cap) l) (hw : ∀ p ∈ l, p.wf) : PartsAt w ao l := by
  intro i p hp
  have hil : i < l.length := (List.getElem?_eq_some_iff.1 hp).1
  have hmem : p ∈ l := List.mem_of_getElem? hp
  rcases h.2 with ⟨he, h0⟩ | ⟨g, cap', cur, he, _⟩
  · omega
  · simp only [Value.slice.injEq] at he
    obtain ⟨rfl, rfl, rfl⟩ := he
    refine ⟨g, 0, rfl, ?_, ?_, ?_, hw p hmem⟩
    · rw [Nat.zero_add, World.ownsRow.cellAt h (i * 3) (by omega), ← Nat.add_zero (i * 3), pcs_at l i p hp 0 (by omega)]; rfl
    · rw [Nat.zero_add, World.ownsRow.cellAt h (i * 3 + 1) (by omega), pcs_at l i p hp 1 (by omega)]; rfl
    · rw [Nat.zero_add, World.ownsRow.cellAt h (i * 3 + 2) (by omega), pcs_at l i p hp 2 (by omega)]; rfl

theorem PartsAt.wf {w : World} {ao : Option Addr} {ps : List Pt} (h : PartsAt w ao ps) : ∀ p ∈ ps, p.wf := by
  intro p hp
  obtain ⟨i, hi, rfl⟩ := List.getElem_of_mem hp
  obtain ⟨_, _, _, _, _, _, hw⟩ := h i ps[i] (by simp [hi])
  exact hw

theorem info_part : (Tryz.prog.info? 112).map (fun i => (i.zero, i.size, i.bytes)) = some (some (.agg #[.int .i64 0, .string ⟨#[]⟩, .int .u64 0]), 3, 32) := by kernel_rfl

/-- append(out, p), p laid right ahead. -/
theorem append_part (W : World) {ops : Array Oper} {rest : List Oper} {o : Oper} {a : Act} {Q : Exit → Act → World → Prop} (hgd : o.guard = none) (s x : Operand)
    (ho : o.op = .call { callee := .builtin .append, args := #[s, x], argTypes := #[94, 94] })
    (B : Nat) (v : Value) (l : List Pt) (hs : a.eval s = v) (news : List Pt) (g m c : Nat) (cs : Array Value) (hx : a.eval x = .slice (some ⟨g, 0, none⟩) m c) (hm : news.length = m) (hc : cs = (pcs news).toArray)
    (hg : g = W.heap.size) (hown : OwnP W B v l) (hlen : (l.length + m) * 32 ≤ 140737488355328) (hB : B ≤ W.heap.size)
    (h : ∀ v' w', OwnP w' B v' (l ++ news) → Grew W w' v v' → wpList Tryz.prog ops Q rest (a.put o.dst v') w') : wpList Tryz.prog ops Q (o :: rest) a (W.alloc (.cells cs 112)) := by
  obtain ⟨i0, hi, hz0, hz1, hz2⟩ := info_parts info_part
  subst hg hc hm
  refine wpList_append_grew _ hgd s x 94 ho B 112 i0 _ 3 32 Tryz.underlying94 hi hz0 hz1 hz2 rfl (by decide) v l.length (pcs l) hs (hown.alloc _) ⟨W.heap.size, 0, none⟩ news.length c (pcs news) hx (pcs_length _) (cells_new _ _ _) (pcs_one _) (by unfold maxLen; omega) (by omega) (by simp; omega) ?_
  intro v' w' h1 h2 _
  refine h v' w' ?_ h2.ofAlloc
  unfold OwnP
  rw [pcs_append, List.length_append]
  exact h1

theorem parts_take (ps : List Pt) (k : Nat) (h : k < ps.length) : ps.take (k + 1) = ps.take k ++ [ps[k]] := List.take_succ_eq_append_getElem h
end Go.Proofs.YtgjcchafmcccjaaGreatDoor
