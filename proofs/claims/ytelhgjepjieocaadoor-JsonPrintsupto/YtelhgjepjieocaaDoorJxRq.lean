/- Layer 18 (json): the document's Quoted. -/
import Derived.Test.YtelhgjepjieocaaDoorJxApT
namespace Go.Proofs.YtelhgjepjieocaaDoor
open Go.RowKit Go.Sort
set_option linter.unusedVariables false

def Byq (l : List Nat) : Prop := ∀ c ∈ l, c < 256
theorem nbs_bsq {l : List Nat} (h : Byq l) : nbs l = bs (l.map fun c => UInt8.ofNat c) := by
  unfold nbs bs
  rw [List.map_map]
  refine List.map_congr_left fun c hc => ?_
  have := h c hc
  simp [Nat.mod_eq_of_lt this]
theorem hexD_lt (d : Nat) (h : d < 16) : hexD d < 256 := by unfold hexD; split <;> omega
theorem chrP_byte (c : Nat) (h : c < 256) : ∀ d ∈ chrP c, d < 256 := by
  intro d hd
  unfold chrP at hd
  split at hd
  · rename_i x hx
    unfold escL at hx
    simp at hd
    rcases hd with rfl | rfl
    · omega
    · repeat' (split at hx)
      all_goals first | (have := Option.some.inj hx; omega) | cases hx
  · split at hd
    · simp at hd
      rcases hd with rfl | rfl | rfl | rfl | rfl
      · omega
      · omega
      · omega
      · exact hexD_lt _ (by omega)
      · exact hexD_lt _ (by omega)
    · simp at hd; omega
/-- A text's form. -/
def quoN (s : ByteArray) : List Nat := (34 :: (bytesN s 0).flatMap chrP) ++ [34]
structure RqI (w : World) (s : ByteArray) (all : List Nat) (k : Nat) (x : Value) (l : List Nat) (wr : World) : Prop where
  own : Ow wr w.heap.size 5 x (nbs l)
  below : Below w.heap.size w wr
  rest : l ++ (bytesN s k).flatMap chrP = all
  small : l.length ≤ 6 * k + 1
theorem RqI.next {w wr w' : World} {s : ByteArray} {all l P : List Nat} {k : Nat} {x x' : Value} (h : RqI w s all k x l wr) (hk : k < s.size) (hP : P = chrP s[k].toNat) (ho : Ow w' w.heap.size 5 x' (nbs (l ++ P))) (hg : Grew wr w' x x') :
    RqI w s all (k + 1) x' (l ++ P) w' := by
  subst hP
  refine ⟨ho, h.below.trans (hg.toBelow h.below.size (fun j hj => (World.ownsRow.lt h.own j hj).1)), ?_, ?_⟩
  · rw [← h.rest, bytesN_cons hk, List.flatMap_cons, List.append_assoc]
  · have h1 := h.small
    have h2 := chrP_len s[k].toNat
    rw [List.length_append]; omega
def R25 (B c : Nat) (v0 : Value) (us : List Nat) (j : Nat) (v : Value) (W : World) : Prop :=
  match j with
  | 0 => v = v0
  | 1 => v = .string ⟨#[48, 49, 50, 51, 52, 53, 54, 55, 56, 57, 97, 98, 99, 100, 101, 102]⟩
  | 2 => v = .int .u8 (c : Int)
  | 3 => v = .int .u8 ((c / 16 : Nat) : Int)
  | 4 => v = .int .u8 (hexD (c / 16) : Int)
  | 5 => v = .string ⟨#[48, 49, 50, 51, 52, 53, 54, 55, 56, 57, 97, 98, 99, 100, 101, 102]⟩
  | 6 => v = .int .u8 (c : Int)
  | 7 => v = .int .u8 ((c % 16 : Nat) : Int)
  | 8 => v = .int .u8 (hexD (c % 16) : Int)
  | 9 => ∃ q, v = .slice (some ⟨q, 0, none⟩) 6 6 ∧ B ≤ q ∧ W.heap[q]? = some (.cells (nbs us).toArray 5)
  | _ => True
theorem R25.mono {B c : Nat} {v0 : Value} {us : List Nat} {j : Nat} {v : Value} {W W' : World} (h : R25 B c v0 us j v W) (hb : ∀ q o, B ≤ q → W.heap[q]? = some o → W'.heap[q]? = some o) : R25 B c v0 us j v W' := by
  match j, h with
  | 0, h => exact h
  | 1, h => exact h
  | 2, h => exact h
  | 3, h => exact h
  | 4, h => exact h
  | 5, h => exact h
  | 6, h => exact h
  | 7, h => exact h
  | 8, h => exact h
  | 9, ⟨q, h1, h2, h3⟩ => exact ⟨q, h1, h2, hb q _ h2 h3⟩
  | _ + 10, _ => trivial
/-- append(s, x..), the elements laid before. -/
theorem append_at (W : World) {ops : Array Oper} {rest : List Oper} {o : Oper} {a : Act} {Q : Exit → Act → World → Prop} (hgd : o.guard = none) (s x : Operand)
    (ho : o.op = .call { callee := .builtin .append, args := #[s, x], argTypes := #[41, 41] })
    (B : Nat) (v : Value) (l : List Nat) (hs : a.eval s = v) (us : List Nat) (n q : Nat) (hn : us.length = n) (hx : a.eval x = .slice (some ⟨q, 0, none⟩) n n)
    (hq : W.heap[q]? = some (.cells (nbs us).toArray 5)) (hown : Ow W B 5 v (nbs l)) (hlen : l.length + n ≤ 140737488355328) (hB : B ≤ W.heap.size)
    (h : ∀ v' w', Ow w' B 5 v' (nbs (l ++ us)) → Grew W w' v v' → wpList Tryd.prog ops Q rest (a.put o.dst v') w') : wpList Tryd.prog ops Q (o :: rest) a W := by
  obtain ⟨i0, hi, hz0, hz1, hz2⟩ := infoV info_u8
  refine wpList_append_grew _ hgd s x 41 ho B 5 i0 _ 1 1 Tryd.underlying41 hi hz0 hz1 hz2 rfl (by decide) v (nbs l).length (nbs l) hs hown ⟨q, 0, none⟩ n n (nbs us) hx (by rw [nbs_length, hn]; omega) (fun j u hj => by
    have hadd : (⟨q, 0, none⟩ : Addr).add j = ⟨q, j, none⟩ := by unfold Addr.add; split <;> simp_all
    rw [hadd, cell_blkT hq]
    simpa using hj) (nbs_one us) (by rw [nbs_length]; unfold maxLen; omega) (by rw [nbs_length]; omega) hB ?_
  intro v' w' h1 h2 _
  refine h v' w' ?_ h2
  unfold Ow
  rw [nbs_append, List.length_append, nbs_length us, hn]
  exact h1
theorem shrq : ∀ c : Fin 32, IntKind.u8.wrap ((c.val : Int) / 16) = (c.val : Int) / 16 := by decide
theorem f_quo16 {o : Oper} {a : Act} {W : World} {K : Act → World → Prop} {Q : Exit → Act → World → Prop} {x : Operand} {c : Nat} (hc : c < 32) (ho : o.op = .binOp .quo 5 x (.const (.int .u8 16)) 5) (hx : a.eval x = .int .u8 (c : Int)) (h : K (a.put o.dst (.int .u8 ((c / 16 : Nat) : Int))) W) : o.wp Tryd.prog a W K Q := by
  refine wp_valF (v := .int .u8 ((c / 16 : Nat) : Int)) (by unfold execOp; simp only [ho, hx]; simp [go_sem]; exact shrq ⟨c, hc⟩) h
theorem f_rem16 {o : Oper} {a : Act} {W : World} {K : Act → World → Prop} {Q : Exit → Act → World → Prop} {x : Operand} {c : Nat} (hc : c < 32) (ho : o.op = .binOp .rem 5 x (.const (.int .u8 16)) 5) (hx : a.eval x = .int .u8 (c : Int)) (h : K (a.put o.dst (.int .u8 ((c % 16 : Nat) : Int))) W) : o.wp Tryd.prog a W K Q := by
  refine wp_valF (v := .int .u8 ((c % 16 : Nat) : Int)) (by unfold execOp; simp only [ho, hx]; simp [go_sem]; exact Int.tmod_eq_emod_of_nonneg (by omega)) h
theorem f_hexdT {o : Oper} {a : Act} {W : World} {K : Act → World → Prop} {Q : Exit → Act → World → Prop} {x y : Operand} {d : Nat} (hc : d < 16) (ho : o.op = .index 9 y x) (hy : a.eval y = .string ⟨#[48, 49, 50, 51, 52, 53, 54, 55, 56, 57, 97, 98, 99, 100, 101, 102]⟩) (hx : a.eval x = .int .u8 (d : Int)) (h : K (a.put o.dst (.int .u8 (hexD d : Int))) W) : o.wp Tryd.prog a W K Q := by
  refine wp_valF (v := .int .u8 (hexD d : Int)) (by unfold execOp; simp only [ho, hx, hy]; rw [Sem.run_bind, run_index_str _ d _ (hexAt ⟨d, hc⟩).1 W, (hexAt ⟨d, hc⟩).2]; rfl) h

set_option maxRecDepth 100000 in
set_option maxHeartbeats 8000000 in
theorem refQuoted_calls (s : ByteArray) (w : World) (hs : s.size ≤ 1048576) :
    Calls Tryd.prog 45 #[.string s] w (fun e w' => e = .returned (.string ⟨((quoN s).map fun c => UInt8.ofNat c).toArray⟩) ∧ Below w.heap.size w w') := by
  obtain ⟨all, Hall⟩ : ∃ all : List Nat, Hid (all = 34 :: (bytesN s 0).flatMap chrP) := ⟨34 :: (bytesN s 0).flatMap chrP, (Eq.refl _ : 34 :: (bytesN s 0).flatMap chrP = _)⟩
  unfold quoN
  rw [← Hall.out]
  have HI : Hid (RqI w s all 0 (.slice (some ⟨w.heap.size, 0, none⟩) 1 1) [34] (w.alloc (.cells (nbs [34]).toArray 5))) := by
    refine ⟨World.ownsRow_lit (size := 1) w (nbs [34]).toArray 1 (Nat.le_refl _) (by unfold maxLen; omega) rfl, (Below.refl _ _).alloc (Nat.le_refl _) _, ?_, by simp⟩
    rw [Hall.out]; rfl
  have HBY : Hid (Byq all) := by
    rw [Hid, Hall.out]
    intro c hc
    rcases List.mem_cons.1 hc with rfl | hc
    · omega
    · obtain ⟨d, hd, hc⟩ := List.mem_flatMap.1 hc
      obtain ⟨b, _, rfl⟩ := List.mem_map.1 hd
      exact chrP_byte b.toNat b.toNat_lt c hc
  clear Hall
  go_enter Tryd.func45, Tryd.ntmps45
  go_upto_region 2 with fail
  change Code.wp _ _ _ _ (w.alloc (.cells (nbs [34]).toArray 5))
  obtain ⟨w1, Hw1⟩ : ∃ w1, Hid (w1 = w.alloc (.cells (nbs [34]).toArray 5)) := ⟨_, rfl⟩
  rw [← Hw1.out] at HI ⊢
  clear Hw1
  go_wp2
  go_loopw [3, 5, 6, 7] (fun x i y z wr => ∃ (k : Nat) (l : List Nat) (ax : Option Addr) (nx cx : Nat), k ≤ s.size ∧ i = .int .i64 (k : Int) ∧ x = .slice ax nx cx ∧ Hid (RqI w s all k x l wr ∧ l.length = nx)) (fun _ i _ _ _ => s.size - (intOf i).toNat)
  case atStart => exact ⟨0, [34], _, _, _, Nat.zero_le _, rfl, rfl, HI.out, rfl⟩
  case round =>
    clear HI
    obtain ⟨k, l, ax, nx, cx, hk, rfl, rfl, HI⟩ := hrel
    have hlim : nx ≤ 6 * k + 1 := by rw [← HI.out.2]; exact HI.out.1.small
    have hBz := HI.out.1.below.size
    by_cases hkl : k < s.size
    · have hcb : s[k].toNat < 256 := s[k].toNat_lt
      obtain ⟨c, hc⟩ : ∃ c, c = s[k].toNat := ⟨_, rfl⟩
      have HP := fun (P : List Nat) (x' : Value) (w' : World) (h1 : P = chrP c) (h2 : Ow w' w.heap.size 5 x' (nbs (l ++ P))) (h3 : Grew wr w' (.slice ax nx cx) x') => HI.out.1.next hkl (P := P) (by rw [h1, hc]) h2 h3
      by_cases e34 : c = 34
      · have q34 : ((s[k].toNat : Int) == 34) = true := by simp; omega
        have HPe : Hid ([92, s[k].toNat] = chrP c) := by rw [Hid, ← hc, e34]; rfl
        clear hc hcb e34
        go_wp2_with (at_builtin; go_must (refine append_lit wr rfl (.tmp 35) (.tmp 37) rfl w.heap.size _ l rfl [92, s[k].toNat] 2 _ rfl rfl rfl HI.out.1.own (by have := HI.out.2; omega) hBz ?_))
        intro v6 w6 ho6 hg6
        have HI6 : Hid (RqI w s all (k + 1) v6 (l ++ [92, s[k].toNat]) w6 ∧ (l ++ [92, s[k].toNat]).length = nx + 2) := ⟨HP [92, s[k].toNat] _ _ HPe.out ho6 hg6, by rw [List.length_append, HI.out.2]; rfl⟩
        obtain ⟨a6, c6, rfl, -, -, -⟩ := ho6.shape
        rw [show (nbs (l ++ [92, s[k].toNat])).length = nx + 2 by rw [nbs_length]; exact HI6.out.2] at HI6 ⊢
        clear ho6 hg6 HI HP HPe
        go_wp2
        go_roundw
        case rel => exact ⟨k + 1, _, _, _, _, by omega, by go_num, rfl, HI6⟩
        case measure => simp [intOf]; omega
      by_cases e92 : c = 92
      · have q34 : ((s[k].toNat : Int) == 34) = false := by simp; omega
        have q92 : ((s[k].toNat : Int) == 92) = true := by simp; omega
        have HPe : Hid ([92, s[k].toNat] = chrP c) := by rw [Hid, ← hc, e92]; rfl
        clear hc hcb e34 e92
        go_wp2_with (at_builtin; go_must (refine append_lit wr rfl (.tmp 35) (.tmp 37) rfl w.heap.size _ l rfl [92, s[k].toNat] 2 _ rfl rfl rfl HI.out.1.own (by have := HI.out.2; omega) hBz ?_))
        intro v6 w6 ho6 hg6
        have HI6 : Hid (RqI w s all (k + 1) v6 (l ++ [92, s[k].toNat]) w6 ∧ (l ++ [92, s[k].toNat]).length = nx + 2) := ⟨HP [92, s[k].toNat] _ _ HPe.out ho6 hg6, by rw [List.length_append, HI.out.2]; rfl⟩
        obtain ⟨a6, c6, rfl, -, -, -⟩ := ho6.shape
        rw [show (nbs (l ++ [92, s[k].toNat])).length = nx + 2 by rw [nbs_length]; exact HI6.out.2] at HI6 ⊢
        clear ho6 hg6 HI HP HPe
        go_wp2
        go_roundw
        case rel => exact ⟨k + 1, _, _, _, _, by omega, by go_num, rfl, HI6⟩
        case measure => simp [intOf]; omega
      by_cases e8 : c = 8
      · have q34 : ((s[k].toNat : Int) == 34) = false := by simp; omega
        have q92 : ((s[k].toNat : Int) == 92) = false := by simp; omega
        have q8 : ((s[k].toNat : Int) == 8) = true := by simp; omega
        have HPe : Hid ([92, 98] = chrP c) := by rw [Hid, e8]; rfl
        clear hc hcb e34 e92 e8
        go_wp2_with (at_builtin; go_must (refine append_lit wr rfl (.tmp 35) (.tmp 37) rfl w.heap.size _ l rfl [92, 98] 2 _ rfl rfl rfl HI.out.1.own (by have := HI.out.2; omega) hBz ?_))
        intro v6 w6 ho6 hg6
        have HI6 : Hid (RqI w s all (k + 1) v6 (l ++ [92, 98]) w6 ∧ (l ++ [92, 98]).length = nx + 2) := ⟨HP [92, 98] _ _ HPe.out ho6 hg6, by rw [List.length_append, HI.out.2]; rfl⟩
        obtain ⟨a6, c6, rfl, -, -, -⟩ := ho6.shape
        rw [show (nbs (l ++ [92, 98])).length = nx + 2 by rw [nbs_length]; exact HI6.out.2] at HI6 ⊢
        clear ho6 hg6 HI HP HPe
        go_wp2
        go_roundw
        case rel => exact ⟨k + 1, _, _, _, _, by omega, by go_num, rfl, HI6⟩
        case measure => simp [intOf]; omega
      by_cases e12 : c = 12
      · have q34 : ((s[k].toNat : Int) == 34) = false := by simp; omega
        have q92 : ((s[k].toNat : Int) == 92) = false := by simp; omega
        have q8 : ((s[k].toNat : Int) == 8) = false := by simp; omega
        have q12 : ((s[k].toNat : Int) == 12) = true := by simp; omega
        have HPe : Hid ([92, 102] = chrP c) := by rw [Hid, e12]; rfl
        clear hc hcb e34 e92 e8 e12
        go_wp2_with (at_builtin; go_must (refine append_lit wr rfl (.tmp 35) (.tmp 37) rfl w.heap.size _ l rfl [92, 102] 2 _ rfl rfl rfl HI.out.1.own (by have := HI.out.2; omega) hBz ?_))
        intro v6 w6 ho6 hg6
        have HI6 : Hid (RqI w s all (k + 1) v6 (l ++ [92, 102]) w6 ∧ (l ++ [92, 102]).length = nx + 2) := ⟨HP [92, 102] _ _ HPe.out ho6 hg6, by rw [List.length_append, HI.out.2]; rfl⟩
        obtain ⟨a6, c6, rfl, -, -, -⟩ := ho6.shape
        rw [show (nbs (l ++ [92, 102])).length = nx + 2 by rw [nbs_length]; exact HI6.out.2] at HI6 ⊢
        clear ho6 hg6 HI HP HPe
        go_wp2
        go_roundw
        case rel => exact ⟨k + 1, _, _, _, _, by omega, by go_num, rfl, HI6⟩
        case measure => simp [intOf]; omega
      by_cases e10 : c = 10
      · have q34 : ((s[k].toNat : Int) == 34) = false := by simp; omega
        have q92 : ((s[k].toNat : Int) == 92) = false := by simp; omega
        have q8 : ((s[k].toNat : Int) == 8) = false := by simp; omega
        have q12 : ((s[k].toNat : Int) == 12) = false := by simp; omega
        have q10 : ((s[k].toNat : Int) == 10) = true := by simp; omega
        have HPe : Hid ([92, 110] = chrP c) := by rw [Hid, e10]; rfl
        clear hc hcb e34 e92 e8 e12 e10
        go_wp2_with (at_builtin; go_must (refine append_lit wr rfl (.tmp 35) (.tmp 37) rfl w.heap.size _ l rfl [92, 110] 2 _ rfl rfl rfl HI.out.1.own (by have := HI.out.2; omega) hBz ?_))
        intro v6 w6 ho6 hg6
        have HI6 : Hid (RqI w s all (k + 1) v6 (l ++ [92, 110]) w6 ∧ (l ++ [92, 110]).length = nx + 2) := ⟨HP [92, 110] _ _ HPe.out ho6 hg6, by rw [List.length_append, HI.out.2]; rfl⟩
        obtain ⟨a6, c6, rfl, -, -, -⟩ := ho6.shape
        rw [show (nbs (l ++ [92, 110])).length = nx + 2 by rw [nbs_length]; exact HI6.out.2] at HI6 ⊢
        clear ho6 hg6 HI HP HPe
        go_wp2
        go_roundw
        case rel => exact ⟨k + 1, _, _, _, _, by omega, by go_num, rfl, HI6⟩
        case measure => simp [intOf]; omega
      by_cases e13 : c = 13
      · have q34 : ((s[k].toNat : Int) == 34) = false := by simp; omega
        have q92 : ((s[k].toNat : Int) == 92) = false := by simp; omega
        have q8 : ((s[k].toNat : Int) == 8) = false := by simp; omega
        have q12 : ((s[k].toNat : Int) == 12) = false := by simp; omega
        have q10 : ((s[k].toNat : Int) == 10) = false := by simp; omega
        have q13 : ((s[k].toNat : Int) == 13) = true := by simp; omega
        have HPe : Hid ([92, 114] = chrP c) := by rw [Hid, e13]; rfl
        clear hc hcb e34 e92 e8 e12 e10 e13
        go_wp2_with (at_builtin; go_must (refine append_lit wr rfl (.tmp 35) (.tmp 37) rfl w.heap.size _ l rfl [92, 114] 2 _ rfl rfl rfl HI.out.1.own (by have := HI.out.2; omega) hBz ?_))
        intro v6 w6 ho6 hg6
        have HI6 : Hid (RqI w s all (k + 1) v6 (l ++ [92, 114]) w6 ∧ (l ++ [92, 114]).length = nx + 2) := ⟨HP [92, 114] _ _ HPe.out ho6 hg6, by rw [List.length_append, HI.out.2]; rfl⟩
        obtain ⟨a6, c6, rfl, -, -, -⟩ := ho6.shape
        rw [show (nbs (l ++ [92, 114])).length = nx + 2 by rw [nbs_length]; exact HI6.out.2] at HI6 ⊢
        clear ho6 hg6 HI HP HPe
        go_wp2
        go_roundw
        case rel => exact ⟨k + 1, _, _, _, _, by omega, by go_num, rfl, HI6⟩
        case measure => simp [intOf]; omega
      by_cases e9 : c = 9
      · have q34 : ((s[k].toNat : Int) == 34) = false := by simp; omega
        have q92 : ((s[k].toNat : Int) == 92) = false := by simp; omega
        have q8 : ((s[k].toNat : Int) == 8) = false := by simp; omega
        have q12 : ((s[k].toNat : Int) == 12) = false := by simp; omega
        have q10 : ((s[k].toNat : Int) == 10) = false := by simp; omega
        have q13 : ((s[k].toNat : Int) == 13) = false := by simp; omega
        have q9 : ((s[k].toNat : Int) == 9) = true := by simp; omega
        have HPe : Hid ([92, 116] = chrP c) := by rw [Hid, e9]; rfl
        clear hc hcb e34 e92 e8 e12 e10 e13 e9
        go_wp2_with (at_builtin; go_must (refine append_lit wr rfl (.tmp 35) (.tmp 37) rfl w.heap.size _ l rfl [92, 116] 2 _ rfl rfl rfl HI.out.1.own (by have := HI.out.2; omega) hBz ?_))
        intro v6 w6 ho6 hg6
        have HI6 : Hid (RqI w s all (k + 1) v6 (l ++ [92, 116]) w6 ∧ (l ++ [92, 116]).length = nx + 2) := ⟨HP [92, 116] _ _ HPe.out ho6 hg6, by rw [List.length_append, HI.out.2]; rfl⟩
        obtain ⟨a6, c6, rfl, -, -, -⟩ := ho6.shape
        rw [show (nbs (l ++ [92, 116])).length = nx + 2 by rw [nbs_length]; exact HI6.out.2] at HI6 ⊢
        clear ho6 hg6 HI HP HPe
        go_wp2
        go_roundw
        case rel => exact ⟨k + 1, _, _, _, _, by omega, by go_num, rfl, HI6⟩
        case measure => simp [intOf]; omega
      have q34 : ((s[k].toNat : Int) == 34) = false := by simp; omega
      have q92 : ((s[k].toNat : Int) == 92) = false := by simp; omega
      have q8 : ((s[k].toNat : Int) == 8) = false := by simp; omega
      have q12 : ((s[k].toNat : Int) == 12) = false := by simp; omega
      have q10 : ((s[k].toNat : Int) == 10) = false := by simp; omega
      have q13 : ((s[k].toNat : Int) == 13) = false := by simp; omega
      have q9 : ((s[k].toNat : Int) == 9) = false := by simp; omega
      have HNO : Hid (escL c = none) := by rw [Hid]; unfold escL; rw [if_neg e34, if_neg e92, if_neg e8, if_neg e12, if_neg e10, if_neg e13, if_neg e9]
      clear e34 e92 e8 e12 e10 e13 e9
      by_cases h32 : c < 32
      · have HPe : Hid ([92, 117, 48, 48, hexD (c / 16), hexD (c % 16)] = chrP c) := by rw [Hid]; unfold chrP; rw [HNO.out]; simp [h32]
        obtain ⟨P, HPq⟩ : ∃ P, Hid (P = [92, 117, 48, 48, hexD (c / 16), hexD (c % 16)]) := ⟨_, rfl⟩
        rw [← HPq.out] at HPe
        have i32 : (s[k].toNat : Int) < 32 := by omega
        have hcv : ((s[k].toNat : Nat) : Int) = (c : Int) := by rw [hc]
        rw [hcv] at i32
        clear hc hcb HNO
        go_upto_region 25 with fail
        refine wp_region_inv 10 (R25 wr.heap.size c (.slice ax nx cx) P) (by kernel_rfl) (by kernel_rfl) (by kernel_rfl) [some 41, some 42, some 43, some 44, some 45, some 46, some 47, some 48, some 49, some 50] (by kernel_rfl) ?mono ?hop ?tail
        case mono => exact fun j v W W' h hb => h.mono fun q o _ h => (hb.block q (lt_of_heapT h)).trans h
        case hop =>
          intro i o hi ho a W hW hs hd
          match i, hi, ho, hd with
          | 0, _, ho, hd =>
            obtain rfl := Option.some.inj ho
            exact f_mv (x := .tmp 3) rfl ((hs 3 (by kernel_rfl)).trans rfl) ⟨_, rfl, rfl, Below.refl _ _⟩
          | 1, _, ho, hd =>
            obtain rfl := Option.some.inj ho
            exact f_mv (x := .tmp 4) rfl ((hs 4 (by kernel_rfl)).trans rfl) ⟨_, rfl, rfl, Below.refl _ _⟩
          | 2, _, ho, hd =>
            obtain rfl := Option.some.inj ho
            exact f_mv (x := .tmp 6) rfl ((hs 6 (by kernel_rfl)).trans (by rw [← hcv]; rfl)) ⟨_, rfl, rfl, Below.refl _ _⟩
          | 3, _, ho, hd =>
            obtain rfl := Option.some.inj ho
            exact f_quo16 (x := .tmp 43) h32 rfl (hd 2 43 (by kernel_rfl) (by kernel_rfl)) ⟨_, rfl, rfl, Below.refl _ _⟩
          | 4, _, ho, hd =>
            obtain rfl := Option.some.inj ho
            exact f_hexdT (y := .tmp 42) (x := .tmp 44) (by omega) rfl (hd 1 42 (by kernel_rfl) (by kernel_rfl)) (hd 3 44 (by kernel_rfl) (by kernel_rfl)) ⟨_, rfl, rfl, Below.refl _ _⟩
          | 5, _, ho, hd =>
            obtain rfl := Option.some.inj ho
            exact f_mv (x := .tmp 4) rfl ((hs 4 (by kernel_rfl)).trans rfl) ⟨_, rfl, rfl, Below.refl _ _⟩
          | 6, _, ho, hd =>
            obtain rfl := Option.some.inj ho
            exact f_mv (x := .tmp 6) rfl ((hs 6 (by kernel_rfl)).trans (by rw [← hcv]; rfl)) ⟨_, rfl, rfl, Below.refl _ _⟩
          | 7, _, ho, hd =>
            obtain rfl := Option.some.inj ho
            exact f_rem16 (x := .tmp 47) h32 rfl (hd 6 47 (by kernel_rfl) (by kernel_rfl)) ⟨_, rfl, rfl, Below.refl _ _⟩
          | 8, _, ho, hd =>
            obtain rfl := Option.some.inj ho
            exact f_hexdT (y := .tmp 46) (x := .tmp 48) (by omega) rfl (hd 5 46 (by kernel_rfl) (by kernel_rfl)) (hd 7 48 (by kernel_rfl) (by kernel_rfl)) ⟨_, rfl, rfl, Below.refl _ _⟩
          | 9, _, ho, hd =>
            obtain rfl := Option.some.inj ho
            refine f_build6 rfl (hd 4 45 (by kernel_rfl) (by kernel_rfl)) (hd 8 49 (by kernel_rfl) (by kernel_rfl)) ?_
            exact ⟨_, rfl, ⟨W.heap.size, rfl, hW.size, by rw [HPq.out]; exact heap_alloc_new W _⟩, (Below.refl _ _).alloc (Nat.le_refl _) _⟩
          | n + 10, hi, _, _ => exact absurd hi (by omega)
        case tail =>
          intro vs W hW hR
          have r0 : vs 0 = _ := hR 0 (by decide)
          have r1 : vs 1 = _ := hR 1 (by decide)
          have r2 : vs 2 = _ := hR 2 (by decide)
          have r3 : vs 3 = _ := hR 3 (by decide)
          have r4 : vs 4 = _ := hR 4 (by decide)
          have r5 : vs 5 = _ := hR 5 (by decide)
          have r6 : vs 6 = _ := hR 6 (by decide)
          have r7 : vs 7 = _ := hR 7 (by decide)
          have r8 : vs 8 = _ := hR 8 (by decide)
          obtain ⟨q, r9, hq1, hq2⟩ : ∃ q, vs 9 = .slice (some ⟨q, 0, none⟩) 6 6 ∧ wr.heap.size ≤ q ∧ W.heap[q]? = some (.cells (nbs P).toArray 5) := hR 9 (by decide)
          clear hR
          have hpl : P.length = 6 := by rw [HPq.out]; rfl
          simp only [putL, put_lit, List.setIfInBounds_toArray, List.set_cons_succ, List.set_cons_zero, List.drop_succ_cons, List.drop_zero]
          rw [r0, r1, r2, r3, r4, r5, r6, r7, r8, r9]
          clear r0 r1 r2 r3 r4 r5 r6 r7 r8 r9
          refine append_at W rfl (.tmp 41) (.tmp 50) rfl w.heap.size _ l rfl P 6 q hpl rfl hq2 (HI.out.1.own.below hW) (by have := HI.out.2; omega) (Nat.le_trans hBz hW.size) ?_
          intro v6 w6 ho6 hg6
          have HI6 : Hid (RqI w s all (k + 1) v6 (l ++ P) w6 ∧ (l ++ P).length = nx + 6) := ⟨HP P _ _ HPe.out ho6 (((Grew.refl _ _).below hW).trans hg6), by rw [List.length_append, HI.out.2, hpl]⟩
          obtain ⟨a6, c6, rfl, -, -, -⟩ := ho6.shape
          rw [show (nbs (l ++ P)).length = nx + 6 by rw [nbs_length]; exact HI6.out.2] at HI6 ⊢
          clear ho6 hg6 HI HP HPe HPq hpl i32 hcv hW hq1 hq2
          go_wp2
          go_roundw
          case rel => exact ⟨k + 1, _, _, _, _, by omega, by go_num, rfl, HI6⟩
          case measure => simp [intOf]; omega
      · have HPe : Hid ([c] = chrP c) := by rw [Hid]; unfold chrP; rw [HNO.out]; simp [h32]
        have i32 : ¬ ((s[k].toNat : Int) < 32) := by omega
        clear hcb HNO
        subst hc
        go_wp2_with (at_builtin; go_must (refine append_lit wr rfl (.tmp 52) (.tmp 54) rfl w.heap.size _ l rfl [s[k].toNat] 1 _ rfl rfl rfl HI.out.1.own (by have := HI.out.2; omega) hBz ?_))
        intro v6 w6 ho6 hg6
        have HI6 : Hid (RqI w s all (k + 1) v6 (l ++ [s[k].toNat]) w6 ∧ (l ++ [s[k].toNat]).length = nx + 1) := ⟨HP [s[k].toNat] _ _ HPe.out ho6 hg6, by rw [List.length_append, HI.out.2]; rfl⟩
        obtain ⟨a6, c6, rfl, -, -, -⟩ := ho6.shape
        rw [show (nbs (l ++ [s[k].toNat])).length = nx + 1 by rw [nbs_length]; exact HI6.out.2] at HI6 ⊢
        clear ho6 hg6 HI HP HPe
        go_wp2
        go_roundw
        case rel => exact ⟨k + 1, _, _, _, _, by omega, by go_num, rfl, HI6⟩
        case measure => simp [intOf]; omega
    · have hke : k = s.size := by omega
      have HL : Hid (l = all) := by
        rw [Hid, ← HI.out.1.rest, hke, bytesN_nil]
        simp
      clear hke
      go_wp2_with (at_builtin; go_must (refine append_lit wr rfl (.tmp 56) (.tmp 57) rfl w.heap.size _ l rfl [34] 1 _ rfl rfl rfl HI.out.1.own (by have := HI.out.2; omega) hBz ?_))
      intro v6 w6 ho6 hg6
      have HB6 : Hid (Below w.heap.size w w6) := HI.out.1.below.trans (hg6.toBelow hBz (fun j hj => (World.ownsRow.lt HI.out.1.own j hj).1))
      have hby : Byq (l ++ [34]) := by
        rw [HL.out]
        intro c hc
        rcases List.mem_append.1 hc with hc | hc
        · exact HBY.out c hc
        · rw [List.mem_singleton.1 hc]; omega
      have hst := ow_string (l := (l ++ [34]).map fun c => UInt8.ofNat c) (by
        rw [← nbs_bsq hby]
        exact ho6)
      clear hby
      obtain ⟨a6, c6, rfl, -, -, -⟩ := ho6.shape
      clear ho6 hg6 HI
      go_wp2
      go_ret
      exact ⟨by rw [← HL.out, List.map_append]; rfl, HB6.out⟩
end Go.Proofs.YtelhgjepjieocaaDoor
