/- The walk of the document's Decode. -/
import Derived.Test.YtehbclliiphglabKCut
import Derived.Test.YtehbclliiphglabKREncode
import Derived.RegionTactic
import Derived.BigRegion
namespace Go.Proofs.Ytehbclliiphglab
open Go.RowKit
set_option linter.unusedVariables false

/-- A part that was cut is small. -/
def Pt.tiny (p : Pt) : Prop := p.t.size ≤ 1024 ∧ (0 ≤ p.k ∧ p.k ≤ 255) ∧ 0 ≤ p.n ∧ p.n ≤ 18446744073709551615
theorem Pt.tiny.wf {p : Pt} (h : p.tiny) : p.wf := ⟨by have := h.2.1; omega, h.2.2, by have := h.1; omega⟩

theorem drop_snoc (s : ByteArray) (a m : Nat) (h : a + m < s.size) : (s.data.toList.drop a).take (m + 1) = (s.data.toList.drop a).take m ++ [s[a + m]] := by
  rw [List.take_succ_eq_append_getElem (by simp; omega), List.getElem_drop]
  rfl

theorem drop_cons (s : ByteArray) (k : Nat) (h : k < s.size) : s.data.toList.drop k = s[k] :: s.data.toList.drop (k + 1) := List.drop_eq_getElem_cons (by simpa using h)

/-- One step of the cut. -/
theorem cut_next {s : ByteArray} {k f : Nat} {pre : List Pt} {p : Pt} {n : Nat} (hlt : k < s.size) (hkf : s.size ≤ k + f) (h : pre ++ cutF f (s.data.toList.drop k) = cut s.data.toList) (hp : cutP (s.data.toList.drop k) = (p, n)) (hn : 0 < n) :
    ∃ g, s.size ≤ k + n + g ∧ (pre ++ [p]) ++ cutF g (s.data.toList.drop (k + n)) = cut s.data.toList := by
  obtain ⟨g, hg1, hg2⟩ := cutF_step f (s.data.toList.drop k) (by rw [drop_cons s k hlt]; simp) (by simp; omega)
  refine ⟨g, by omega, ?_⟩
  rw [← h, hg2, hp, List.drop_drop]
  simp

theorem cutP_num (s : ByteArray) (k m : Nat) (hlt : k < s.size) (h2 : s[k] = 2) (hm : m = 8 ∨ m < 8 ∧ k + 1 + m = s.size) : cutP (s.data.toList.drop k) = (⟨s[k].toNat, ⟨#[]⟩, numOf ((s.data.toList.drop (k + 1)).take m)⟩, 9) := by
  have e : (s.data.toList.drop (k + 1)).take m = (s.data.toList.drop (k + 1)).take 8 := by
    rcases hm with rfl | ⟨h, h'⟩
    · rfl
    · rw [List.take_of_length_le (by simp; omega), List.take_of_length_le (by simp; omega)]
  rw [drop_cons s k hlt, e]
  simp [cutP, h2]
theorem cutP_flag (s : ByteArray) (k : Nat) (hlt : k < s.size) (h3 : s[k] = 3) (h : k + 1 < s.size) : cutP (s.data.toList.drop k) = (⟨s[k].toNat, ⟨#[]⟩, s[k + 1].toNat⟩, 2) := by
  rw [drop_cons s k hlt, drop_cons s (k + 1) h]
  simp [cutP, h3]
theorem cutP_flag0 (s : ByteArray) (k : Nat) (hlt : k < s.size) (h3 : s[k] = 3) (h : ¬ k + 1 < s.size) : cutP (s.data.toList.drop k) = (⟨s[k].toNat, ⟨#[]⟩, 0⟩, 2) := by
  rw [drop_cons s k hlt, List.drop_eq_nil_of_le (by simp; omega)]
  simp [cutP, h3]
theorem cutP_text (s : ByteArray) (k : Nat) (hlt : k < s.size) (h2 : ¬ s[k] = 2) (h3 : ¬ s[k] = 3) (acc : List UInt8) (i : Nat) (hc : cutT (s.data.toList.drop (k + 1)) [] (k + 1) = (acc, i)) :
    cutP (s.data.toList.drop k) = (⟨s[k].toNat, ⟨acc.toArray⟩, 0⟩, i + 2 - k) := by
  have hsh : ∀ n (l : List UInt8), l.length ≤ n → ∀ (acc : List UInt8) (i d : Nat), cutT l acc (i + d) = ((cutT l acc i).1, (cutT l acc i).2 + d) := by
    intro n
    induction n with
    | zero => intro l hl acc i d; match l, hl with | [], _ => simp [cutT]
    | succ n ih =>
      intro l hl acc i d
      match l, hl with
      | [], _ => simp [cutT]
      | [c], _ => simp [cutT]; split <;> omega
      | c :: e :: r, hl =>
        simp only [List.length_cons] at hl
        rw [cutT, cutT]
        split
        · split
          · rfl
          · rw [show i + d + 2 = i + 2 + d by omega]; exact ih r (by omega) _ _ _
        · rw [show i + d + 1 = i + 1 + d by omega]; exact ih (e :: r) (by simp; omega) _ _ _
  have h1 := hsh _ (s.data.toList.drop (k + 1)) (Nat.le_refl _) [] 1 k
  rw [show 1 + k = k + 1 by omega, hc] at h1
  simp only [Prod.mk.injEq] at h1
  rw [drop_cons s k hlt]
  simp only [cutP]
  rw [if_neg h2, if_neg h3, ← h1.1, h1.2, show (cutT (s.data.toList.drop (k + 1)) [] 1).2 + k + 2 - k = (cutT (s.data.toList.drop (k + 1)) [] 1).2 + 2 by omega]

theorem set_other {w : World} {g i j : Nat} {v x : Value} (h : w.cell? ⟨g, i, none⟩ = some x) (hij : i ≠ j) : (w.setCell ⟨g, j, none⟩ v).cell? ⟨g, i, none⟩ = some x := by
  rw [World.cell?_setCell_other]
  · exact h
  · intro e; simp at e; try exact hij e.symm
theorem set_same {w : World} {g i : Nat} {v x : Value} (h : w.cell? ⟨g, i, none⟩ = some x) : (w.setCell ⟨g, i, none⟩ v).cell? ⟨g, i, none⟩ = some v := World.cell?_setCell_same _ _ _ h

theorem enc_tiny (ps : List Pt) (h : ∀ p ∈ ps, p.t.size ≤ 1024) : (enc false ps).length ≤ ps.length * 2057 := by
  induction ps with
  | nil => simp [enc]
  | cons p ps ih =>
    rw [enc_false_cons, List.length_append, List.length_cons]
    have h1 := piece_length p false
    have h2 := h p (List.mem_cons_self ..)
    have h3 := ih fun q hq => h q (List.mem_cons_of_mem _ hq)
    omega

theorem num_fit (l : List UInt8) (h : l.length ≤ 7) : numOf l < 72057594037927936 := by
  have h1 := numOf_lt l
  exact Nat.lt_of_lt_of_le h1 (Nat.pow_le_pow_right (by decide : 0 < 256) h)

set_option maxRecDepth 100000 in
set_option maxHeartbeats 2000000 in
theorem rdecode_calls (s : ByteArray) (w : World) (hs : s.size ≤ 140737488351232) :
    Calls Try.prog 16 #[.string s] w fun e w' => ∃ v, e = .returned (.tuple #[v, .int .i64 (decAns s.data.toList).2]) ∧ OwnP w' w.heap.size v (decAns s.data.toList).1 ∧ Below w.heap.size w w' := by
  have hlen : s.data.toList.length = s.size := by simp
  by_cases hlong : 1024 < s.size
  · have HA : Hid (decAns s.data.toList = ([], 11)) := by simp [decAns, hlong, Hid]
    clear hlen
    go_enter Try.func16, Try.ntmps16
    go_wp2
    go_ret2
    rw [HA.out]
    exact ⟨_, rfl, OwnP.nil _ _, Below.refl _ _⟩
  · have HL : Hid (s.data.toList.length = s.size) := hlen
    clear hlen
    go_enter Try.func16, Try.ntmps16
    go_wp2
    go_loopw [4, 5] (fun x i wr => ∃ (k f : Nat) (pre : List Pt), k ≤ s.size + 10 ∧ i = .int .i64 k ∧ OwnP wr w.heap.size x pre ∧ pre.length ≤ k ∧ s.size ≤ k + f ∧ Hid (pre ++ cutF f (s.data.toList.drop k) = cut s.data.toList) ∧ Hid (∀ p ∈ pre, p.tiny) ∧ Below w.heap.size w wr) (fun _ i _ => (s.size - intOf i).toNat)
    case atStart =>
      refine ⟨0, s.size, [], by omega, rfl, ?_, by simp, by omega, ?_, fun p hp => by simp at hp, (Below.refl _ _).alloc (Nat.le_refl _) _⟩
      · exact World.ownsRow_lit w #[] 0 (Nat.le_refl _) (by unfold maxLen; omega) rfl
      · show _ = _
        unfold cut
        rw [HL.out]
        simp
    case round =>
      obtain ⟨k, f, pre, hk, rfl, ho, hpk, hkf, HR, HS, hb⟩ := hrel
      obtain ⟨w0, hw0⟩ : ∃ w0, w0 = wr := ⟨_, rfl⟩
      subst hw0
      have hsz := hb.size
      by_cases hlt : k < s.size
      · have hby : (s[k].toNat : Int) ≤ 255 := by have := s[k].toNat_lt; omega
        by_cases h2 : s[k] = 2
        · have h2b : ((s[k].toNat : Int) == 2) = true := byte_eq (n := 2) (by omega) h2
          have HK2 : Hid (s[k] = 2) := h2
          clear h2
          go_wp2
          go_loopw [7] (fun j wj => ∃ m a : Nat, m ≤ 8 ∧ Hid (a = k + 1 + m) ∧ a ≤ s.size ∧ k + 1 ≤ a ∧ a ≤ k + 9 ∧ j = .int .i64 a ∧ wj.cell? ⟨w0.heap.size, 0, none⟩ = some (.int .i64 s[k].toNat) ∧ wj.cell? ⟨w0.heap.size, 1, none⟩ = some (.string ⟨#[]⟩) ∧
              wj.cell? ⟨w0.heap.size, 2, none⟩ = some (.int .u64 (numOf ((s.data.toList.drop (k + 1)).take m))) ∧ wj.frozen? ⟨w0.heap.size, 2, none⟩ = false ∧ Below w0.heap.size w0 wj ∧ w0.heap.size < wj.heap.size) (fun j _ => (k + 10 - intOf j).toNat)
          case atStart =>
            refine ⟨0, k + 1, by omega, rfl, by omega, by omega, by omega, by go_num, ?_, ?_, ?_, by simp, (Below.refl _ _).alloc (Nat.le_refl _) _, by simp⟩
            · rw [World.cell?_alloc_mark]; rfl
            · rw [World.cell?_alloc_mark]; rfl
            · rw [World.cell?_alloc_mark]; rfl
          case round =>
            obtain ⟨m, a, hm8, HAm, has, hak, hak9, rfl, hc0, hc1, hc2, hf2, hbj, hszj⟩ := hrel
            by_cases hin : a < k + 9 ∧ a < s.size
            · obtain ⟨hm, hmk⟩ := hin
              have hd1 : decide ((a : Int) < (s.size : Int)) = true := by simp; omega
              have hd2 : (a : Int) ≤ (k : Int) + 8 := by omega
              have hNs : numOf ((s.data.toList.drop (k + 1)).take (m + 1)) = numOf ((s.data.toList.drop (k + 1)).take m) * 256 + s[a].toNat := by
                have e := HAm.out
                subst e
                rw [drop_snoc s (k + 1) m hmk, numOf_snoc]
              have HN : Hid (numOf ((s.data.toList.drop (k + 1)).take (m + 1)) = numOf ((s.data.toList.drop (k + 1)).take m) * 256 + s[a].toNat) := hNs
              clear hNs
              have hfit := num_fit ((s.data.toList.drop (k + 1)).take m) (Nat.le_trans (List.length_take_le _ _) (by have := HAm.out; omega))
              obtain ⟨N, hN⟩ : ∃ N, N = numOf ((s.data.toList.drop (k + 1)).take m) := ⟨_, rfl⟩
              rw [← hN] at hc2 hfit HN
              clear hN
              have hby2 : (s[a].toNat : Int) ≤ 255 := by have := s[a].toNat_lt; omega
              have hai : (0 : Int) ≤ (a : Int) ∧ (a : Int) < (s.size : Int) := by omega
              go_wp2
              go_region
              go_wp2
              go_roundw
              case rel =>
                refine ⟨m + 1, a + 1, by have := HAm.out; omega, by have := HAm.out; show _ = _; omega, by omega, by omega, by omega, by go_num, ?_, ?_, ?_, ?_, ?_, ?_⟩
                · exact set_other hc0 (by decide)
                · exact set_other hc1 (by decide)
                · rw [HN.out]; exact set_same hc2
                · simp [hf2]
                · exact (hbj.setCell (by simp) _).drew
                · simpa using hszj
              case measure => simp [intOf]; omega
            · have HM : Hid (m = 8 ∨ m < 8 ∧ k + 1 + m = s.size) := by
                show _ ∨ _
                have := HAm.out; omega
              obtain ⟨g, hgk, hgr⟩ := cut_next hlt hkf HR.out (cutP_num s k m hlt HK2.out HM.out) (by omega)
              have HR2 : Hid (pre ++ [⟨s[k].toNat, ⟨#[]⟩, numOf ((s.data.toList.drop (k + 1)).take m)⟩] ++ cutF g (s.data.toList.drop (k + 9)) = cut s.data.toList) := hgr
              have HS2 : Hid (∀ q ∈ pre ++ [⟨s[k].toNat, ⟨#[]⟩, numOf ((s.data.toList.drop (k + 1)).take m)⟩], Pt.tiny q) := by
                intro q hq
                rcases List.mem_append.1 hq with h | h
                · exact HS.out q h
                · simp at h
                  subst h
                  have h8 := numOf_lt ((s.data.toList.drop (k + 1)).take m)
                  have h9 := Nat.lt_of_lt_of_le h8 (Nat.pow_le_pow_right (by decide : 0 < 256) (show _ ≤ 8 from Nat.le_trans (List.length_take_le _ _) (by omega)))
                  refine ⟨by show 0 ≤ 1024; omega, ⟨by show (0 : Int) ≤ s[k].toNat; omega, by show (s[k].toNat : Int) ≤ 255; omega⟩, by show (0 : Int) ≤ (numOf _ : Nat); omega, ?_⟩
                  show ((numOf _ : Nat) : Int) ≤ _
                  omega
              have hoj := ho.below hbj
              clear hgr
              by_cases hlast : a < s.size
              · have hd1 : decide ((a : Int) < (s.size : Int)) = true := by simp; omega
                have hd2 : (k : Int) + 8 < (a : Int) := by omega
                go_wp2_with (at_builtin; refine append_part _ rfl (.tmp 112) (.tmp 114) rfl w.heap.size _ pre rfl [⟨s[k].toNat, ⟨#[]⟩, numOf ((s.data.toList.drop (k + 1)).take m)⟩] _ 1 1 _ rfl rfl rfl rfl hoj (by omega) (by omega) ?_)
                intro v2 w2 ho2 hg2
                have hb3 := (hb.trans (hbj.mono hsz)).trans (hoj.toBelow (by omega) hg2)
                clear hoj hg2 hc0 hc1 hc2 hf2 hbj
                go_wp2
                go_roundw
                case rel => exact ⟨k + 9, g, _, by omega, by go_num, ho2, by simp; omega, hgk, HR2, HS2, hb3⟩
                case measure => simp [intOf]; omega
              · have hd1 : decide ((a : Int) < (s.size : Int)) = false := by simp; omega
                go_wp2_with (at_builtin; refine append_part _ rfl (.tmp 112) (.tmp 114) rfl w.heap.size _ pre rfl [⟨s[k].toNat, ⟨#[]⟩, numOf ((s.data.toList.drop (k + 1)).take m)⟩] _ 1 1 _ rfl rfl rfl rfl hoj (by omega) (by omega) ?_)
                intro v2 w2 ho2 hg2
                have hb3 := (hb.trans (hbj.mono hsz)).trans (hoj.toBelow (by omega) hg2)
                clear hoj hg2 hc0 hc1 hc2 hf2 hbj
                go_wp2
                go_roundw
                case rel => exact ⟨k + 9, g, _, by omega, by go_num, ho2, by simp; omega, hgk, HR2, HS2, hb3⟩
                case measure => simp [intOf]; omega
        · have h2b : ((s[k].toNat : Int) == 2) = false := byte_ne (n := 2) (by omega) h2
          by_cases h3 : s[k] = 3
          · have h3b : ((s[k].toNat : Int) == 3) = true := byte_eq (n := 3) (by omega) h3
            by_cases hk1 : k + 1 < s.size
            · have hby2 : (s[k + 1].toNat : Int) ≤ 255 := by have := s[k + 1].toNat_lt; omega
              obtain ⟨g, hgk, hgr⟩ := cut_next hlt hkf HR.out (cutP_flag s k hlt h3 hk1) (by omega)
              have HR2 : Hid (pre ++ [⟨s[k].toNat, ⟨#[]⟩, (s[k + 1].toNat : Int)⟩] ++ cutF g (s.data.toList.drop (k + 2)) = cut s.data.toList) := hgr
              have HS2 : Hid (∀ q ∈ pre ++ [⟨s[k].toNat, ⟨#[]⟩, (s[k + 1].toNat : Int)⟩], Pt.tiny q) := by
                intro q hq
                rcases List.mem_append.1 hq with h | h
                · exact HS.out q h
                · simp at h
                  subst h
                  refine ⟨by show 0 ≤ 1024; omega, ⟨by show (0 : Int) ≤ s[k].toNat; omega, by show (s[k].toNat : Int) ≤ 255; omega⟩, ?_, ?_⟩
                  · show (0 : Int) ≤ (s[k + 1].toNat : Int); omega
                  · show ((s[k + 1].toNat : Int) : Int) ≤ 18446744073709551615; omega
              clear hgr h2 h3
              go_wp2_with (at_builtin; refine append_part _ rfl (.tmp 112) (.tmp 114) rfl w.heap.size _ pre rfl [⟨s[k].toNat, ⟨#[]⟩, (s[k + 1].toNat : Int)⟩] _ 1 1 _ rfl rfl rfl (by simp) (ho.alloc _) (by omega) (by simp; omega) ?_)
              intro v2 w2 ho2 hg2
              have hb3 := hb.trans (ho.toBelow (by omega) hg2.ofAlloc)
              clear ho hg2 hb
              go_wp2
              go_roundw
              case rel => exact ⟨k + 2, g, _, by omega, by go_num, ho2, by simp; omega, hgk, HR2, HS2, hb3⟩
              case measure => simp [intOf]; omega
            · obtain ⟨g, hgk, hgr⟩ := cut_next hlt hkf HR.out (cutP_flag0 s k hlt h3 hk1) (by omega)
              have HR2 : Hid (pre ++ [⟨s[k].toNat, ⟨#[]⟩, (0 : Int)⟩] ++ cutF g (s.data.toList.drop (k + 2)) = cut s.data.toList) := hgr
              have HS2 : Hid (∀ q ∈ pre ++ [⟨s[k].toNat, ⟨#[]⟩, (0 : Int)⟩], Pt.tiny q) := by
                intro q hq
                rcases List.mem_append.1 hq with h | h
                · exact HS.out q h
                · simp at h
                  subst h
                  refine ⟨by show 0 ≤ 1024; omega, ⟨by show (0 : Int) ≤ s[k].toNat; omega, by show (s[k].toNat : Int) ≤ 255; omega⟩, ?_, ?_⟩
                  · show (0 : Int) ≤ (0 : Int); omega
                  · show ((0 : Int) : Int) ≤ 18446744073709551615; omega
              clear hgr h2 h3
              go_wp2_with (at_builtin; refine append_part _ rfl (.tmp 112) (.tmp 114) rfl w.heap.size _ pre rfl [⟨s[k].toNat, ⟨#[]⟩, (0 : Int)⟩] _ 1 1 _ rfl rfl rfl (by simp) (ho.alloc _) (by omega) (by simp; omega) ?_)
              intro v2 w2 ho2 hg2
              have hb3 := hb.trans (ho.toBelow (by omega) hg2.ofAlloc)
              clear ho hg2 hb
              go_wp2
              go_roundw
              case rel => exact ⟨k + 2, g, _, by omega, by go_num, ho2, by simp; omega, hgk, HR2, HS2, hb3⟩
              case measure => simp [intOf]; omega
          · have h3b : ((s[k].toNat : Int) == 3) = false := byte_ne (n := 3) (by omega) h3
            have H2 : Hid (¬ s[k] = 2) := h2
            have H3 : Hid (¬ s[k] = 3) := h3
            clear h2 h3
            have hne : u4.ownBlock ≠ some w0.heap.size := fun e => by have := (ho.lt _ e).2; omega
            have hop := ho
            clear ho
            go_wp2
            go_loopw [5, 8] (fun i x wj => ∃ (a : Nat) (acc : List UInt8), i = .int .i64 a ∧ a ≤ s.size + 1 ∧ k + 1 ≤ a ∧ acc.length + k + 1 ≤ a ∧ Own wj (w0.heap.size + 1) x acc ∧ Hid (cutT (s.data.toList.drop a) acc a = cutT (s.data.toList.drop (k + 1)) [] (k + 1)) ∧
                Below (w0.heap.size + 1) (w0.alloc (.cells #[.int .i64 s[k].toNat, .string ⟨#[]⟩, .int .u64 0] 33)) wj) (fun i _ _ => (s.size + 2 - intOf i).toNat)
            case atStart =>
              refine ⟨k + 1, [], by go_num, by omega, by omega, by simp, ?_, rfl, (Below.refl _ _).alloc (by simp) _⟩
              have := own_lit (w0.alloc (.cells #[.int .i64 s[k].toNat, .string ⟨#[]⟩, .int .u64 0] 33)) (w0.heap.size + 1) [] (by simp) (by unfold maxLen; simp)
              simpa [bs] using this
            case round =>
              obtain ⟨a, acc, rfl, has, hka, hal, hoj, HC, hbj⟩ := hrel
              have hszj := hbj.size
              simp at hszj
              have hbw : Below w0.heap.size w0 wr := ((Below.refl _ _).alloc (Nat.le_refl _) _).trans (hbj.mono (by omega))
              have hc0 : wr.cell? ⟨w0.heap.size, 0, none⟩ = some (.int .i64 s[k].toNat) := by rw [hbj.cell (by simp), World.cell?_alloc_mark]; rfl
              have hc1 : wr.cell? ⟨w0.heap.size, 1, none⟩ = some (.string ⟨#[]⟩) := by rw [hbj.cell (by simp), World.cell?_alloc_mark]; rfl
              have hc2 : wr.cell? ⟨w0.heap.size, 2, none⟩ = some (.int .u64 0) := by rw [hbj.cell (by simp), World.cell?_alloc_mark]; rfl
              have hf1 : wr.frozen? ⟨w0.heap.size, 1, none⟩ = false := by rw [hbj.frozen (by simp)]; simp
              by_cases hin : a < s.size
              · by_cases hz : s[a] = 0
                · have hzb := byte_eq0 hz
                  by_cases hbr : ∃ h : a + 1 < s.size, s[a + 1] = 1
                  · obtain ⟨ha1, h1⟩ := hbr
                    have h1b : ((s[a + 1].toNat : Int) == 1) = true := byte_eq (n := 1) (by omega) h1
                    have hd : decide ((a : Int) + 1 < (s.size : Int)) = true := by simp; omega
                    have HX : Hid (cutT (s.data.toList.drop a) acc a = (acc, a)) := by
                      show _ = _
                      rw [drop_two s a ha1]; simp [cutT, hz, h1]
                    clear hz h1
                    obtain ⟨g, hgk, hgr⟩ := cut_next hlt hkf HR.out (cutP_text s k hlt H2.out H3.out acc a (HC.out.symm.trans HX.out)) (by omega)
                    have HR2 : Hid (pre ++ [⟨s[k].toNat, ⟨acc.toArray⟩, 0⟩] ++ cutF g (s.data.toList.drop (a + 2)) = cut s.data.toList) := by
                      show _ = _
                      rw [show k + (a + 2 - k) = a + 2 by omega] at hgr
                      exact hgr
                    have HS2 : Hid (∀ q ∈ pre ++ [⟨s[k].toNat, ⟨acc.toArray⟩, 0⟩], Pt.tiny q) := by
                      intro q hq
                      rcases List.mem_append.1 hq with h | h
                      · exact HS.out q h
                      · simp at h
                        subst h
                        refine ⟨by show acc.toArray.size ≤ 1024; simp; omega, ⟨by show (0 : Int) ≤ s[k].toNat; omega, by show (s[k].toNat : Int) ≤ 255; omega⟩, by show (0 : Int) ≤ 0; omega, by show (0 : Int) ≤ _; omega⟩
                    have hgk2 : s.size ≤ a + 2 + g := by omega
                    clear hgr hgk
                    have hstr := hoj.string
                    have hpo := (hop.below hbw).storedOther (a := ⟨w0.heap.size, 1, none⟩) hne (.string ⟨acc.toArray⟩)
                    go_wp2_with (at_builtin; refine append_part _ rfl (.tmp 112) (.tmp 114) rfl w.heap.size _ pre rfl [⟨s[k].toNat, ⟨acc.toArray⟩, 0⟩] _ 1 1 _ rfl rfl rfl (by simp) hpo (by omega) (by simp; omega) ?_)
                    intro v2 w2 ho2 hg2
                    have hb3 := ((hb.trans (hbw.mono hsz)).setCell (p := ⟨w0.heap.size, 1, none⟩) (by simp; omega) (.string ⟨acc.toArray⟩)).trans (hpo.toBelow (by simp; omega) hg2)
                    clear hpo hg2 hc0 hc1 hc2 hf1 hoj hstr
                    go_wp2
                    go_roundw
                    case rel => exact ⟨a + 2, g, _, by omega, by go_num, ho2, by simp; omega, hgk2, HR2, HS2, hb3⟩
                    case measure => simp [intOf]; omega
                  · have HZ : Hid (s[a] = 0) := hz
                    by_cases ha1 : a + 1 < s.size
                    · have h1 : ¬ s[a + 1] = 1 := fun e => hbr ⟨ha1, e⟩
                      have h1b : ((s[a + 1].toNat : Int) == 1) = false := byte_ne (n := 1) (by omega) h1
                      have hd : decide ((a : Int) + 1 < (s.size : Int)) = true := by simp; omega
                      clear hbr
                      have HC2 : Hid (cutT (s.data.toList.drop (a + 2)) (acc ++ [0]) (a + 2) = cutT (s.data.toList.drop (k + 1)) [] (k + 1)) := by
                        show _ = _
                        rw [← HC.out]
                        rw [drop_two s a ha1]; simp [cutT, hz, h1]
                      clear hz h1
                      go_wp2_with (at_builtin; refine append_lit _ rfl (.tmp 93) (.tmp 97) rfl (w0.heap.size + 1) _ acc rfl [s[a]] _ 1 1 _ rfl rfl rfl (by simp) hoj (by omega) (by omega) ?_)
                      intro v1 w1 ho1 hg1
                      have hb1 := hbj.trans (hoj.toBelow (by omega) hg1)
                      clear hoj hg1 hc0 hc1 hc2 hf1
                      go_wp2
                      go_roundw
                      case rel => exact ⟨a + 2, acc ++ [0], by go_num, by omega, by omega, by simp; omega, by rw [HZ.out] at ho1; exact ho1, HC2, hb1⟩
                      case measure => simp [intOf]; omega
                    · have hd : decide ((a : Int) + 1 < (s.size : Int)) = false := by simp; omega
                      clear hbr
                      have HC2 : Hid (cutT (s.data.toList.drop (a + 2)) (acc ++ [0]) (a + 2) = cutT (s.data.toList.drop (k + 1)) [] (k + 1)) := by
                        show _ = _
                        rw [← HC.out]
                        rw [drop_cons s a hin, List.drop_eq_nil_of_le (by simp; omega), List.drop_eq_nil_of_le (by simp; omega)]; simp [cutT, hz]
                      clear hz
                      go_wp2_with (at_builtin; refine append_lit _ rfl (.tmp 93) (.tmp 97) rfl (w0.heap.size + 1) _ acc rfl [s[a]] _ 1 1 _ rfl rfl rfl (by simp) hoj (by omega) (by omega) ?_)
                      intro v1 w1 ho1 hg1
                      have hb1 := hbj.trans (hoj.toBelow (by omega) hg1)
                      clear hoj hg1 hc0 hc1 hc2 hf1
                      go_wp2
                      go_roundw
                      case rel => exact ⟨a + 2, acc ++ [0], by go_num, by omega, by omega, by simp; omega, by rw [HZ.out] at ho1; exact ho1, HC2, hb1⟩
                      case measure => simp [intOf]; omega
                · have hzb := byte_ne0 hz
                  have HC2 : Hid (cutT (s.data.toList.drop (a + 1)) (acc ++ [s[a]]) (a + 1) = cutT (s.data.toList.drop (k + 1)) [] (k + 1)) := by
                    show _ = _
                    rw [← HC.out]
                    by_cases ha1 : a + 1 < s.size
                    · rw [drop_two s a ha1, ← drop_one s a ha1]; simp [cutT, hz]
                    · rw [drop_cons s a hin, List.drop_eq_nil_of_le (by simp; omega)]; simp [cutT, hz]
                  clear hz
                  go_wp2_with (at_builtin; refine append_lit _ rfl (.tmp 93) (.tmp 97) rfl (w0.heap.size + 1) _ acc rfl [s[a]] _ 1 1 _ rfl rfl rfl (by simp) hoj (by omega) (by omega) ?_)
                  intro v1 w1 ho1 hg1
                  have hb1 := hbj.trans (hoj.toBelow (by omega) hg1)
                  clear hoj hg1 hc0 hc1 hc2 hf1
                  go_wp2
                  go_roundw
                  case rel => exact ⟨a + 1, acc ++ [s[a]], by go_num, by omega, by omega, by simp; omega, ho1, HC2, hb1⟩
                  case measure => simp [intOf]; omega
              · have HX : Hid (cutT (s.data.toList.drop a) acc a = (acc, a)) := by
                  show _ = _
                  rw [List.drop_eq_nil_of_le (by simp; omega)]; rfl
                obtain ⟨g, hgk, hgr⟩ := cut_next hlt hkf HR.out (cutP_text s k hlt H2.out H3.out acc a (HC.out.symm.trans HX.out)) (by omega)
                have HR2 : Hid (pre ++ [⟨s[k].toNat, ⟨acc.toArray⟩, 0⟩] ++ cutF g (s.data.toList.drop (a + 2)) = cut s.data.toList) := by
                  show _ = _
                  rw [show k + (a + 2 - k) = a + 2 by omega] at hgr
                  exact hgr
                have HS2 : Hid (∀ q ∈ pre ++ [⟨s[k].toNat, ⟨acc.toArray⟩, 0⟩], Pt.tiny q) := by
                  intro q hq
                  rcases List.mem_append.1 hq with h | h
                  · exact HS.out q h
                  · simp at h
                    subst h
                    refine ⟨by show acc.toArray.size ≤ 1024; simp; omega, ⟨by show (0 : Int) ≤ s[k].toNat; omega, by show (s[k].toNat : Int) ≤ 255; omega⟩, by show (0 : Int) ≤ 0; omega, by show (0 : Int) ≤ _; omega⟩
                have hgk2 : s.size ≤ a + 2 + g := by omega
                clear hgr hgk
                have hstr := hoj.string
                have hpo := (hop.below hbw).storedOther (a := ⟨w0.heap.size, 1, none⟩) hne (.string ⟨acc.toArray⟩)
                go_wp2_with (at_builtin; refine append_part _ rfl (.tmp 112) (.tmp 114) rfl w.heap.size _ pre rfl [⟨s[k].toNat, ⟨acc.toArray⟩, 0⟩] _ 1 1 _ rfl rfl rfl (by simp) hpo (by omega) (by simp; omega) ?_)
                intro v2 w2 ho2 hg2
                have hb3 := ((hb.trans (hbw.mono hsz)).setCell (p := ⟨w0.heap.size, 1, none⟩) (by simp; omega) (.string ⟨acc.toArray⟩)).trans (hpo.toBelow (by simp; omega) hg2)
                clear hpo hg2 hc0 hc1 hc2 hf1 hoj hstr
                go_wp2
                go_roundw
                case rel => exact ⟨a + 2, g, _, by omega, by go_num, ho2, by simp; omega, hgk2, HR2, HS2, hb3⟩
                case measure => simp [intOf]; omega
      · have HCut : Hid (pre = cut s.data.toList) := by
          show _ = _
          rw [← HR.out, List.drop_eq_nil_of_le (by rw [HL.out]; omega), cutF_empty]; simp
        obtain ⟨ao', cap', hsh⟩ := ho.shape
        subst hsh
        have hpp := ho.parts fun p hp => (HS.out p hp).wf
        have hel : (enc false pre).length ≤ 70368744177664 := by
          have := enc_tiny pre fun p hp => (HS.out p hp).1
          have h2 : pre.length * 2057 ≤ 2034 * 2057 := Nat.mul_le_mul_right _ (by omega)
          omega
        go_wp2_with fail
        refine (rencode_calls ao' cap' pre false w0 (by omega) hpp hel fun p hp => by have := (HS.out p hp).1; omega).mono ?_
        rintro e w1 ⟨rfl, hb1⟩
        have hb2 : Below w.heap.size w w1 := hb.trans (hb1.mono hsz)
        have ho1 := ho.below hb1
        have HA : Hid (decAns s.data.toList = if (encAns false pre).2 = 0 ∧ (encAns false pre).1 = s.data.toList then (pre, 0) else ([], 12)) := by
          show _ = _
          rw [HCut.out]
          refine cut_dec s.data.toList (by rw [HL.out]; omega) ?_
          rw [← HCut.out]
          exact fun p hp => (HS.out p hp).2.2
        clear hpp hel ho
        rcases encAns_err false pre with he | he
        · have heb : ((encAns false pre).2 != 0) = false := by rw [he]; rfl
          by_cases hq : (encAns false pre).1 = s.data.toList
          · have hqb : ((encAns false pre).1 == s.toList) = true := by rw [ByteArray.toList_eq]; simpa using hq
            have HB : Hid (decAns s.data.toList = (pre, 0)) := by
              show _ = _
              rw [HA.out, if_pos ⟨he, hq⟩]
            clear he hq
            go_wp2
            go_light
            go_ret2
            rw [HB.out]
            exact ⟨_, rfl, ho1, hb2⟩
          · have hqb : ((encAns false pre).1 == s.toList) = false := by rw [ByteArray.toList_eq]; simpa using hq
            have HB : Hid (decAns s.data.toList = ([], 12)) := by
              show _ = _
              rw [HA.out, if_neg (fun h => hq h.2)]
            clear he hq
            go_wp2
            go_light
            go_ret2
            rw [HB.out]
            exact ⟨_, rfl, OwnP.nil _ _, hb2⟩
        · have heb : ((encAns false pre).2 != 0) = true := by simpa [bne] using he
          have HB : Hid (decAns s.data.toList = ([], 12)) := by
            show _ = _
            rw [HA.out, if_neg (fun h => by rw [h.1] at he; exact absurd he (by decide))]
          clear he
          go_wp2
          go_light
          go_ret2
          rw [HB.out]
          exact ⟨_, rfl, OwnP.nil _ _, hb2⟩
end Go.Proofs.Ytehbclliiphglab
