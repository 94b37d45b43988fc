/- The walk of RadixLongest. -/
import Derived.Test.YtedgaiblcpekaaaRBuilt
namespace Go.Proofs.Ytedgaiblcpekaaa
open Go.RowKit
set_option linter.unusedVariables false

theorem bytes_eq {a b : ByteArray} (h : a.data.toList = b.data.toList) : a = b := by
  cases a; cases b
  simp only [ByteArray.mk.injEq]
  exact Array.toList_inj.1 h

theorem held_int {w : World} {o : Option Vl} (h : ∀ x, o = some x → VAt w x) : ∃ z : Int, held o = .int .i64 z := by
  cases o with
  | none => exact ⟨0, rfl⟩
  | some x => obtain ⟨n, hn⟩ := (h x rfl).num; exact ⟨n, hn⟩

/-- All that the law wants of the nodes along k. -/
structure Line (T : Tr) (k : ByteArray) (l : List Tr) : Prop where
  along : Along k.data.toList T l
  inc : (l.map (·.p.size)).Pairwise (· < ·)
  le : ∀ u ∈ l, u.p.size ≤ k.size
  pre : ∀ u ∈ l, u.path <+: k.data.toList

theorem line_of {T : Tr} (hw : WF T) (hr : T.p = kE) (k : ByteArray) : ∃ l, Line T k l := by
  obtain ⟨l, hl⟩ := Along.ex hw k.data.toList
  have hp := hl.pre (root_pre hr _)
  exact ⟨l, hl, (hl.inc hw).1, fun u hu => by have := (hp u hu).length_le; rw [path_length] at this; simpa using this, hp⟩

/-- Get of a beginning of k. -/
theorem get_cut {w W : World} {tb d : Nat} {T : Tr} {ne : Int} (h : Good w W tb T ne d) {k : ByteArray} (hks : k.size ≤ 140737488351232) {l : List Tr} (hl : Line T k l) {p : Nat} (hp : p ≤ k.size) :
    Calls Try.prog 22 #[.pointer (some ⟨tb, 0, none⟩), .string (k.extract 0 p)] W fun e w' => e = .returned (.tuple #[held (hit l p), .bool (hit l p).isSome]) ∧ Below W.heap.size W w' := by
  obtain ⟨e1, e2⟩ := extract_path k p hp
  have hr0 : T.p.size ≤ p := by rw [h.root]; exact Nat.zero_le _
  have hc := hl.along.cut h.wf hr0
  obtain ⟨init, c, hic⟩ : ∃ init c, l.takeWhile (fun c => decide (c.p.size ≤ p)) = init ++ [c] := ⟨_, _, (List.dropLast_concat_getLast hc.ne).symm⟩
  have hv := hit_val hl.inc hic (k.extract 0 p) e2
  rw [hic, ← e1] at hc
  have := get_tree tb T ne (k.extract 0 p) W init c h.tree h.wf (root_pre h.root _) (by omega) hc
  rw [hv] at this
  exact this

theorem best_tat {w W : World} {tb d : Nat} {T : Tr} {ne : Int} (h : Good w W tb T ne d) {k : ByteArray} {l : List Tr} (hl : Line T k l) : TAt nR W (best T l) := by
  rcases best_spec l T hl.inc with ⟨h1, _⟩ | ⟨h1, _⟩
  · rw [h1]; exact h.tree.tat
  · exact hl.along.tat h.tree.tat _ h1

set_option maxRecDepth 100000 in
set_option maxHeartbeats 3200000 in
theorem longest_walk (ao : Option Addr) (cap : Nat) (ks : List ByteArray) (k : ByteArray) (w : World) (hk : StrsAt w ao ks) (hl : ks.length ≤ 8796093022208) (hks : k.size ≤ 140737488351232) :
    Calls Try.prog 7 #[.slice ao ks.length cap, .string k] w fun e w' => e = .returned (.bool true) ∧ Below w.heap.size w w' := by
  have hnot : ∀ (x : Bool) (w : World), (Op.unary .not (.bool x)).run Try.prog w = .ok (.bool (!x)) w := fun _ _ => rfl
  go_enter Try.func7, Try.ntmps7
  go_wp2_with fail
  refine (alive3_calls w).mono ?_
  rintro e w1 ⟨rfl, hb1⟩
  have HBU := built_calls ao cap ks w1 (hk.below hb1) hl
  have HB1 : Hid (Below w.heap.size w w1) := hb1
  clear hb1 hk
  go_wp2_with fail
  refine HBU.mono ?_
  clear HBU
  rintro e w2 ⟨tb, T, ne, rfl, hG0⟩
  have hG : Good w w2 tb T ne ks.length := ⟨HB1.out.trans (hG0.below.mono HB1.out.size), hG0.tree, hG0.wf, hG0.root, hG0.dep, hG0.lo, hG0.hi⟩
  obtain ⟨l, hL⟩ := line_of hG.wf hG.root k
  have hbt := best_tat hG hL
  have HLG := longest_tree tb T ne k w2 l hG.tree hG.wf (root_pre hG.root _) hks hL.along hbt
  obtain ⟨z, hz⟩ := held_int hbt.val'
  rw [hz] at HLG
  have HZ : Hid (held (best T l).v = .int .i64 z) := hz
  have HL : Hid (Line T k l) := hL
  have HG : Hid (Good w w2 tb T ne ks.length) := hG
  clear hG0 hG hL hbt hz HB1
  go_wp2_with fail
  refine HLG.mono ?_
  clear HLG
  rintro e w3 ⟨rfl, hb3⟩
  have HG3 : Hid (Good w w3 tb T ne ks.length) := HG.out.keep hb3
  clear hb3 HG
  obtain ⟨bp, HBP⟩ : ∃ bp, Hid (bp = (best T l).p) := ⟨_, rfl⟩
  obtain ⟨bs, HBS⟩ : ∃ bs, Hid (bs = (best T l).v.isSome) := ⟨_, rfl⟩
  rw [← HBP.out, ← HBS.out]
  go_wp2_with fail
  go_loopw [9] (fun i wr => ((∃ p : Nat, i = .int .i64 p ∧ p ≤ k.size ∧ Hid (∀ q, p < q → q ≤ k.size → hit l q = none)) ∨ (i = .int .i64 (-1) ∧ Hid (∀ q, q ≤ k.size → hit l q = none))) ∧ Hid (Good w wr tb T ne ks.length)) (fun i _ => (intOf i + 1).toNat)
  case atStart => exact ⟨.inl ⟨k.size, rfl, Nat.le_refl _, fun q h1 h2 => by omega⟩, HG3⟩
  case round =>
    obtain ⟨hi, HGr⟩ := hrel
    rcases hi with ⟨p, rfl, hp, HN⟩ | ⟨rfl, HN⟩
    · have HC := get_cut HGr.out hks HL.out hp
      obtain ⟨x, HX⟩ : ∃ x, Hid (x = hit l p) := ⟨_, rfl⟩
      rw [← HX.out] at HC
      cases x with
      | none =>
        simp only [held, Option.isSome_none] at HC
        go_wp2_with fail
        refine HC.mono ?_
        clear HC
        rintro e w4 ⟨rfl, hb4⟩
        have HG4 : Hid (Good w w4 tb T ne ks.length) := HGr.out.keep hb4
        clear hb4 HGr
        go_wp2_with fail
        go_roundw
        case rel =>
          refine ⟨?_, HG4⟩
          cases p with
          | zero => exact .inr ⟨by simp, fun q hq => by
              rcases Nat.eq_zero_or_pos q with h0 | h0
              · subst h0; exact HX.out.symm
              · exact HN.out q h0 hq⟩
          | succ p => exact .inl ⟨p, by go_num, by omega, fun q h1 h2 => by
              rcases Nat.lt_or_ge (p + 1) q with h3 | h3
              · exact HN.out q h3 h2
              · have : q = p + 1 := by omega
                subst this; exact HX.out.symm⟩
        case measure => simp only [intOf]; omega
      | some x =>
        have hbh := best_hit (t := T) HL.out.inc (N := k.size) HL.out.le HX.out.symm HN.out
        have hbe : bp = k.extract 0 p := by
          rw [HBP.out]
          apply bytes_eq
          rw [extract_take']
          have := List.prefix_iff_eq_take.1 (HL.out.pre _ hbh.2.2)
          rw [path_length, hbh.2.1] at this
          exact this
        have hbs : bs = true := by rw [HBS.out, hbh.1]; rfl
        have hxz : held (some x) = .int .i64 z := by rw [← hbh.1]; exact HZ.out
        rw [hxz] at HC
        subst hbs
        subst hbe
        clear hxz hbh HN HX HZ HBP HBS
        simp only [Option.isSome_some] at HC
        go_wp2_with fail
        refine HC.mono ?_
        clear HC
        rintro e w4 ⟨rfl, hb4⟩
        have HB4 : Hid (Below w.heap.size w w4) := (HGr.out.keep hb4).below
        clear hb4 HGr
        go_wp2_with fail
        go_ret
        exact ⟨rfl, HB4.out⟩
    · obtain ⟨hb1, hb2⟩ := best_none (t := T) HL.out.inc (N := k.size) HL.out.le HN.out
      have hTv : T.v = none := by
        obtain ⟨r, hr⟩ := HL.out.along.head
        exact hb2 T (by rw [hr]; simp)
      have hbe : bp = kE := by rw [HBP.out, hb1]; exact HGr.out.root
      have hbs : bs = false := by rw [HBS.out, hb1, hTv]; rfl
      have hz0 : z = 0 := by
        have := HZ.out
        rw [hb1, hTv] at this
        simp [held] at this
        exact this.symm
      subst hbe hbs hz0
      clear hb1 hb2 hTv HN HZ HBP HBS
      have HB4 : Hid (Below w.heap.size w wr) := HGr.out.below
      clear HGr
      go_wp2_with fail
      go_ret
      exact ⟨rfl, HB4.out⟩
end Go.Proofs.Ytedgaiblcpekaaa
