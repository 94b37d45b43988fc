import Derived.Test.YtmkohdepgfahnaaGreatDoorRwLowR
import Derived.Lib.AppendStr
import Derived.Test.YtmkohdepgfahnaaGreatDoorJNum
import Derived.Laws.BytesArg
/- append of a text's bytes to a slice of bytes that the call made itself, as one step of a walk. -/
namespace Go.Proofs.YtmkohdepgfahnaaGreatDoor
open Go.RowKit Go.Lib
set_option linter.unusedVariables false

theorem strCells_bs (s : ByteArray) : strCells s = bs s.data.toList := by simp [strCells, bs]
theorem append_text (w : World) {ops : Array Oper} {rest : List Oper} {o : Oper} {a : Act} {Q : Exit → Act → World → Prop} (hgd : o.guard = none) (sl x : Operand)
    (ho : o.op = .call { callee := .builtin .append, args := #[sl, x], argTypes := #[23, 9] })
    (B : Nat) (v : Value) (l : List UInt8) (hs : a.eval sl = v) (hown : Own w B v l) (s : ByteArray) (hx : a.eval x = .string s)
    (hlen : l.length + s.size ≤ 140737488355328) (hB : B ≤ w.heap.size)
    (h : ∀ v' w', Own w' B v' (l ++ s.data.toList) → Grew w w' v v' → wpList Tryz.prog ops Q rest (a.put o.dst v') w') : wpList Tryz.prog ops Q (o :: rest) a w := by
  obtain ⟨i, hi, hz0, hz1, hz2⟩ := info_parts info_u8
  refine wpList_plain hgd fun K hK => ?_
  obtain ⟨v', w', hr, h2, h3, h4⟩ := run_append_own_string (P := Tryz.prog) w B 23 9 o.type 5 i Tryz.underlying23 Tryz.underlying9 hi hz0 hz1 hz2 v l.length (bs l) hown s (by unfold maxLen; omega) hlen hB
  have hown2 : Own w' B v' (l ++ s.data.toList) := by
    unfold Own
    rw [bs_append, List.length_append, ← strCells_bs]
    have : s.data.toList.length = s.size := by simp
    rw [this]
    exact h2
  have hg : Grew w w' v v' := by
    refine ⟨h3, ?_⟩
    intro k hk
    rcases hown.2 with ⟨rfl, h0⟩ | ⟨g, cap, cur, rfl, hbg, hgg, hnc, hcm, hcs, htake⟩
    · by_cases hm : s.size = 0
      · have := h4.2 ⟨rfl, hm⟩; subst this; simp [Value.ownBlock] at hk
      · have hr2 := run_append_nil_string (P := Tryz.prog) w 23 9 o.type 5 i (.int .u8 0) Tryz.underlying23 Tryz.underlying9 hi hz0 s (by omega) (by omega) (by rw [hz2]; omega)
        rw [hr] at hr2
        injection hr2 with e1 e2
        subst e1
        simp [Value.ownBlock] at hk
        right; omega
    · have hcs' : cur.size = cap := by simpa using hcs
      by_cases hroom : l.length + s.size ≤ cap
      · have hr2 := run_append_room_string (P := Tryz.prog) w 23 9 o.type 5 i Tryz.underlying23 Tryz.underlying9 hi hz1 g l.length cap cur hgg s hroom (by omega)
        rw [hr] at hr2
        injection hr2 with e1 e2
        subst e1
        left; exact hk
      · have holds : ∀ j u, (bs l)[j]? = some u → w.cell? ((⟨g, 0, none⟩ : Addr).add j) = some u := World.ownsRow.cells (g := g) hown rfl
        have hr2 := run_append_grow_string (P := Tryz.prog) w 23 9 o.type 5 i (.int .u8 0) Tryz.underlying23 Tryz.underlying9 hi hz0 ⟨g, 0, none⟩ l.length cap (bs l) (by rw [hz1, bs_length]; omega) holds s (by omega) (by omega) (by rw [hz2]; exact growslice_fits (by omega) (by omega))
        rw [hr] at hr2
        injection hr2 with e1 e2
        subst e1
        simp [Value.ownBlock] at hk
        right; omega
  unfold Oper.wp execOp
  simp only [ho, resolve, invoke, builtin, Sem.run_bind, Sem.run_pure, Result.andThen_ok, List.map_toArray, List.map_cons, List.map_nil, hs, hx, hr]
  exact hK _ _ (h v' w' hown2 hg)
end Go.Proofs.YtmkohdepgfahnaaGreatDoor

/- Layer 13 (journal): texts as bytes: writeTexts. -/
namespace Go.Proofs.YtmkohdepgfahnaaGreatDoor
open Go.RowKit
set_option linter.unusedVariables false

def txtB (s : ByteArray) : List UInt8 := byteOf s.size :: s.data.toList
def txtsB (l : List ByteArray) : List UInt8 := l.flatMap txtB
theorem txtB_length (s : ByteArray) : (txtB s).length = s.size + 1 := by simp [txtB]
theorem txtsB_snoc (l : List ByteArray) (s : ByteArray) : txtsB (l ++ [s]) = txtsB l ++ txtB s := by simp [txtsB]
theorem txtsB_append (l m : List ByteArray) : txtsB (l ++ m) = txtsB l ++ txtsB m := by simp [txtsB]
theorem txtsB_take_le : ∀ (l : List ByteArray) (k N : Nat), (∀ x ∈ l, x.size ≤ N) → (txtsB (l.take k)).length ≤ k * (N + 1)
  | [], k, N, _ => by simp [txtsB]
  | x :: l, 0, N, _ => by simp [txtsB]
  | x :: l, k + 1, N, h => by
    have ih := txtsB_take_le l k N (fun y hy => h y (List.mem_cons_of_mem _ hy))
    have h1 := h x (List.mem_cons_self ..)
    have e : txtsB ((x :: l).take (k + 1)) = txtB x ++ txtsB (l.take k) := by simp [txtsB]
    rw [e, List.length_append, txtB_length, Nat.succ_mul]
    omega

/-- Cells that lie apart from the slice v's own block. -/
def Apt (w : World) (v : Value) (ta : Option Addr) (cs : List Value) : Prop := CellsAt w ta cs ∧ (cs ≠ [] → ∀ k, v.ownBlock = some k → ∀ b off, ta = some ⟨b, off, none⟩ → b ≠ k)
theorem Apt.grew {w w' : World} {v v' : Value} {ta : Option Addr} {cs : List Value} (h : Apt w v ta cs) (hg : Grew w w' v v') : Apt w' v' ta cs := by
  constructor
  · intro hne
    obtain ⟨b, off, ha, hc⟩ := h.1 hne
    exact ⟨b, off, ha, fun j u hj => hg.cell (hc j u hj) fun e => h.2 hne b e.symm b off ha rfl⟩
  · intro hne k hk b off ha e
    subst e
    rcases hg.place b hk with h1 | h1
    · exact h.2 hne b h1 b off ha rfl
    · obtain ⟨b', off', ha', hc⟩ := h.1 hne
      rw [ha] at ha'
      injection ha' with ha'
      injection ha' with e1 e2
      obtain ⟨u, r, rfl⟩ := List.exists_cons_of_ne_nil hne
      have := World.block_lt_of_cell? w _ (hc 0 u rfl)
      simp only at this
      omega
theorem Apt.alloc {w : World} {v : Value} {ta : Option Addr} {cs : List Value} (h : Apt w v ta cs) (o : Obj) : Apt (w.alloc o) v ta cs := ⟨h.1.below ((Below.refl _ _).alloc (Nat.le_refl _) o), h.2⟩
theorem Apt.base {w w0 : World} {B : Nat} {v : Value} {l : List UInt8} {ta : Option Addr} {cs : List Value} (ho : Own w B v l) (hB : w0.heap.size ≤ B) (hb : Below w0.heap.size w0 w) (hc : CellsAt w0 ta cs) : Apt w v ta cs := by
  refine ⟨hc.below hb, fun hne k hk b off ha e => ?_⟩
  subst e
  have h1 := (ho.lt b hk).1
  obtain ⟨b', off', ha', hc⟩ := hc hne
  rw [ha] at ha'
  injection ha' with ha'
  injection ha' with e1 e2
  obtain ⟨u, r, rfl⟩ := List.exists_cons_of_ne_nil hne
  have := World.block_lt_of_cell? w0 _ (hc 0 u rfl)
  simp only at this
  omega

set_option maxRecDepth 100000 in
set_option maxHeartbeats 1000000 in
theorem writeTexts_calls (B : Nat) (v : Value) (l : List UInt8) (ta : Option Addr) (tc : Nat) (ts : List ByteArray) (w : World) (hown : Own w B v l) (hB : B ≤ w.heap.size) (hl : l.length ≤ 70368744177664) (hn : ts.length ≤ 1024) (ht : ∀ x ∈ ts, x.size ≤ 1048576) (hap : Apt w v ta (ts.map Value.string)) :
    Calls Tryz.prog 55 #[v, .slice ta ts.length tc] w fun e w' => ∃ v', e = .returned v' ∧ Own w' B v' (l ++ txtsB ts) ∧ Grew w w' v v' := by
  go_enter Tryz.func55, Tryz.ntmps55
  go_wp2
  go_loopw [0, 9] (fun x i wr => ∃ k : Nat, k ≤ ts.length ∧ i = .int .i64 k ∧ Own wr B x (l ++ txtsB (ts.take k)) ∧ Grew w wr v x) (fun _ i _ => ts.length - (intOf i).toNat)
  case atStart => exact ⟨0, Nat.zero_le _, rfl, by simpa [txtsB] using hown, Grew.refl _ _⟩
  case round =>
    obtain ⟨k, hk, rfl, ho, hg⟩ := hrel
    have hsz := hg.size
    by_cases hlt : k < ts.length
    · have hle : (l ++ txtsB (ts.take k)).length ≤ 70368744177664 + 1024 * 1048577 := by
        have := txtsB_take_le ts k 1048576 ht
        simp only [List.length_append]
        have : k * 1048577 ≤ 1024 * 1048577 := Nat.mul_le_mul_right _ (by omega)
        omega
      obtain ⟨s, Hs⟩ : ∃ s, Hid (s = ts[k]'hlt) := ⟨_, rfl⟩
      have hss : s.size ≤ 1048576 := by rw [Hs.out]; exact ht _ (List.getElem_mem hlt)
      obtain ⟨b, off, rfl, hcell⟩ := (hap.grew hg).1.str k hlt
      rw [← Hs.out] at hcell
      have HT : Hid (l ++ txtsB (ts.take (k + 1)) = l ++ txtsB (ts.take k) ++ [byteOf s.size] ++ s.data.toList) := by
        show _ = _
        rw [list_take_snoc ts k hlt, txtsB_snoc, ← Hs.out]
        simp [txtB]
      have HN : Hid (bs [byteOf s.size] = [.int .u8 ((s.size : Int) % 256)]) := by simp [bs, byteOf_val, Hid]
      clear Hs
      obtain ⟨p, Hp⟩ : ∃ p, Hid (p = l ++ txtsB (ts.take k)) := ⟨_, rfl⟩
      rw [← Hp.out] at ho hle HT
      clear Hp
      go_wp2_with (at_builtin; refine append_bytes _ rfl (.tmp 13) (.tmp 17) rfl B _ _ rfl (ho.alloc _) ⟨wr.heap.size, 0, none⟩ 1 1 [byteOf s.size] rfl rfl (by intro j u hj; rw [HN.out] at hj; exact cells_new _ _ _ j u hj) (by omega) (by simp; omega) ?_)
      intro v1 w1 ho1 hg1
      have hg2 := hg.trans hg1.ofAlloc
      have hsz2 := hg2.size
      clear ho hg hg1 hcell
      have hle1 : (p ++ [byteOf s.size]).length ≤ 70368744177664 + 1024 * 1048577 + 1 := by simp only [List.length_append, List.length_cons, List.length_nil]; omega
      obtain ⟨p1, Hp1⟩ : ∃ p1, Hid (p1 = p ++ [byteOf s.size]) := ⟨_, rfl⟩
      rw [← Hp1.out] at ho1 hle1 HT
      clear Hp1
      go_wp2_with (at_builtin; refine append_text _ rfl (.tmp 19) (.tmp 20) rfl B _ _ rfl ho1 s rfl (by omega) (by omega) ?_)
      intro v2 w2 ho2 hg3
      have hg4 := hg2.trans hg3
      clear ho1 hg2 hg3
      go_wp2
      go_roundw
      case rel => exact ⟨k + 1, by omega, by go_num, by rw [HT.out]; exact ho2, hg4⟩
      case measure => simp [intOf]; omega
    · obtain rfl : k = ts.length := by omega
      go_wp2
      go_ret
      exact ⟨_, rfl, by rw [List.take_of_length_le (by omega)] at ho; exact ho, hg⟩
theorem writeTexts_lit (B : Nat) (v : Value) (l : List UInt8) (ts : List ByteArray) (g n c : Nat) (cs : Array Value) (W : World) (hown : Own W B v l) (hB : B ≤ W.heap.size) (hl : l.length ≤ 70368744177664) (hg : g = W.heap.size) (hn : ts.length = n) (hcs : cs = (ts.map Value.string).toArray) (hk : n ≤ 1024) (ht : ∀ x ∈ ts, x.size ≤ 1048576) :
    Calls Tryz.prog 55 #[v, .slice (some ⟨g, 0, none⟩) n c] (W.alloc (.cells cs 9)) fun e w' => ∃ v', e = .returned v' ∧ Own w' B v' (l ++ txtsB ts) ∧ Grew W w' v v' := by
  subst hg hn hcs
  refine (writeTexts_calls B v l (some ⟨W.heap.size, 0, none⟩) c ts _ (hown.alloc _) (by simp; omega) hl hk ht ⟨?_, ?_⟩).mono ?_
  · intro hne
    refine ⟨W.heap.size, 0, rfl, fun j u hj => ?_⟩
    rw [Nat.zero_add, World.cell?_alloc_mark]
    simpa using hj
  · intro _ k hk b off e e2
    injection e with e
    injection e with e1
    subst e1 e2
    have := (hown.lt _ hk).2
    omega
  · rintro e w' ⟨v', rfl, h1, h2⟩
    exact ⟨v', rfl, h1, h2.ofAlloc⟩
end Go.Proofs.YtmkohdepgfahnaaGreatDoor
