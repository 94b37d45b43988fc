/- Layer 5 (txn): Insert and Delete of what is held; Commit of an open transaction, whatever it has touched. -/
import Derived.Test.YtdmhffbohnfdlaaGreatTDone
import Derived.Test.YtdmhffbohnfdlaaGreatXDiff
namespace Go.Proofs.YtdmhffbohnfdlaaGreat
open Go.RowKit
open scoped Classical
set_option linter.unusedVariables false

theorem insH_calls (tb : Nat) (T : Tr) (ne : Int) (d : Nat) (es : List En) (w : World) (h : Held w w tb T ne d es) (k : ByteArray) (v : Int) (hk : k.size ≤ 140737488351296) (hd : d + 1 ≤ 17592186044416) :
    Calls Tryz.prog 23 #[.pointer (some ⟨tb, 0, none⟩), .string k, .int .i64 v] w fun e w' => ∃ (tb' : Nat) (T' : Tr) (ne' : Int) (r1 : Value) (r2 : Bool), e = .returned (.tuple #[.pointer (some ⟨tb', 0, none⟩), r1, .bool r2]) ∧ Below w.heap.size w w' ∧ Held w' w' tb' T' ne' (d + 1) (insE es k v) := by
  obtain ⟨init, c, hA⟩ := along_split (k := k.data.toList) h.good.wf
  have hlen := hA.len h.good.dep
  have hlo := h.good.lo
  have hhi := h.good.hi
  have hv := h.has.val h.good.wf (root_pre h.good.root _) hA
  refine (insert_calls tb T ne k v w init c h.good.tree h.good.wf (root_pre h.good.root _) hk hA (by simp at hlen; omega) (by omega) (by omega)).mono ?_
  rintro e w' ⟨tb', T', va, vg, rfl, hb, hT, hI, -⟩
  have h1 := h.insert hb hT hI hv
  exact ⟨tb', T', _, _, _, rfl, hb, h1.move h1.good.tree⟩
theorem delH5_calls (tb : Nat) (T : Tr) (ne : Int) (d : Nat) (es : List En) (w : World) (h : Held w w tb T ne d es) (k : ByteArray) (hk : k.size ≤ 140737488351296) (hd : d + 1 ≤ 17592186044416) :
    Calls Tryz.prog 21 #[.pointer (some ⟨tb, 0, none⟩), .string k] w fun e w' => ∃ (tb' : Nat) (T' : Tr) (ne' : Int) (r1 : Value) (r2 : Bool), e = .returned (.tuple #[.pointer (some ⟨tb', 0, none⟩), r1, .bool r2]) ∧ Below w.heap.size w w' ∧ Held w' w' tb' T' ne' d (delE es k) := by
  obtain ⟨init, c, hA⟩ := along_split (k := k.data.toList) h.good.wf
  have hlen := hA.len h.good.dep
  have hlo := h.good.lo
  have hhi := h.good.hi
  have hv := h.has.val h.good.wf (root_pre h.good.root _) hA
  refine (delete_calls tb T ne k w init c h.good.tree h.good.wf (root_pre h.good.root _) hk hA (by simp at hlen; omega) (by omega) (by omega)).mono ?_
  rintro e w' ⟨hb, (⟨h1, rfl⟩ | ⟨x, tb', T', h1, rfl, ht, hi, -⟩)⟩
  · rw [h1] at hv
    have hno : k ∉ keysOf es := of_decide_eq_false hv.symm
    refine ⟨tb, T, ne, _, _, rfl, hb, ?_⟩
    rw [delE_none h.sorted hno]
    exact h.move (h.good.tree.keep hb)
  · rw [h1] at hv
    have h2 := h.delete hb ht hi (of_decide_eq_true hv.symm)
    exact ⟨_, _, _, _, _, rfl, hb, h2.move h2.good.tree⟩

theorem commitAny_calls (w1 : World) (xb bb vb tb mb : Nat) (nm : Int) (T : Tr) (ne : Int) (d j tbx : Nat) (Tx : Tr) (nex : Int) (en enx : List En) (ks : List ByteArray) (B : Nat) (wr : World) (hI : DoI w1 xb bb vb tb mb nm T ne d j tbx Tx nex enx ks wr) (hold : Held wr wr tb T ne (d + j) en) (hA : Above B T) (hB : B ≤ bb) (hx : B ≤ xb) (hBr : B ≤ wr.heap.size) (hM : (marks T).length ≤ 1 + 3 * d) (hid : ks = [] → enx = en) (hn : j ≤ 8796093022208) (hd : d + j ≤ 17592186044416) (hnm : 0 ≤ nm ∧ nm < 18446744073709551615) :
    Calls Tryz.prog 26 #[.pointer (some ⟨xb, 0, none⟩)] wr fun e w9 => ∃ (n : Int) (vb' tb' : Nat) (T' : Tr) (ne' nm' : Int), e = .returned (.tuple #[.int .i64 n, .int .i64 0]) ∧ BaseAt w9 bb vb' tb' nm' false ∧ (nm' = nm ∨ nm' = nm + 1) ∧ Held w9 w9 tb' T' ne' (d + j) enx ∧ Below B wr w9 ∧ Frd (fun b => b = bb ∨ b = xb) wr w9 := by
  obtain ⟨es, cl, hmr⟩ := hI.map
  have hof : ∀ b, b ∈ [bb, xb] → Off wr b := fun b hb => by
    simp at hb
    rcases hb with rfl | rfl
    · exact hI.offs.2.2.1
    · exact hI.offs.1
  have weak : ∀ {w9 : World}, Frd (· ∈ [bb, xb]) wr w9 → Frd (fun b => b = bb ∨ b = xb) wr w9 := fun h => ⟨h.os, h.tape, h.output, h.size, fun k o hk ho hn => h.block k o hk ho (fun e => hn (by simpa using e)), h.wat⟩
  by_cases h0 : ks = []
  · subst h0
    refine (commitIdle_calls xb bb vb tb tbx mb cl es nm wr hI.txn hI.base hmr).mono ?_
    rintro e w9 ⟨rfl, hB9, ht9⟩
    rw [hid rfl]
    exact ⟨0, vb, tb, T, ne, nm, rfl, hB9, .inl rfl, hold.move (hI.old.offs (· ∈ [bb, xb]) (fun b hb hn => ht9.block b hb hn) hof), ht9.toBelow hBr (fun k hk => by simp at hk; omega), weak (ht9.frdO hof)⟩
  · have hkl := hI.klen
    have hml := hI.mks
    obtain ⟨way, hW⟩ := ways_of hold.good.wf hold.good.root hold.good.dep (by omega) hI.kin (by omega)
    refine (commit_calls xb bb vb tb tbx mb cl es nm T ne ks way _ _ wr hI.txn hI.base hmr hI.old hI.own.good.tree.blk hW (List.length_pos_iff.2 h0) (by omega) hnm).mono ?_
    rintro e w9 ⟨vb9, rfl, hB9, hf9, ht9, -⟩
    refine ⟨_, vb9, tbx, Tx, nex, nm + 1, rfl, hB9, .inr rfl, hI.own.move (hI.own.good.tree.frdO hf9 (fun b hb => hof b (by simpa using hb))), ht9.toBelow hBr (fun k hk => ?_), hf9⟩
    rcases List.mem_cons.1 hk with rfl | hk
    · exact hB
    rcases List.mem_cons.1 hk with rfl | hk
    · exact hx
    · exact both_above (waysOf_above hA hW.on) k hk
end Go.Proofs.YtdmhffbohnfdlaaGreat
