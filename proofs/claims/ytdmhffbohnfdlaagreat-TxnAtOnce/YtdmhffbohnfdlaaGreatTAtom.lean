import Derived.Test.YtdmhffbohnfdlaaGreatTFireW
import Derived.Test.YtdmhffbohnfdlaaGreatXOrd
import Derived.Test.YtdmhffbohnfdlaaGreatKOwn
import Derived.Lib.Builder
/- Layer 3 (radix): Fire. -/
namespace Go.Proofs.YtdmhffbohnfdlaaGreat
open Go.RowKit
set_option linter.unusedVariables false

theorem run_storeFn {P : Program} {w : World} (a : Addr) (m : Mode) (f : Fn) (x y : Array Value) : (store a (.func f x y) m).run P w = stored P w a (.func f x y) m := run_store P w a _ m rfl
attribute [local go_sem] run_storeFn

/-- All watches on the keys' ways. -/
def waysOf (way : ByteArray → List Tr) (ks : List ByteArray) : List Nat := ks.flatMap fun k => wayK k (way k)
theorem waysOf_take (way : ByteArray → List Tr) (ks : List ByteArray) (i : Nat) (hi : i < ks.length) : waysOf way (ks.take (i + 1)) = waysOf way (ks.take i) ++ wayK ks[i] (way ks[i]) := by
  unfold waysOf
  rw [List.take_succ_eq_append_getElem hi, List.flatMap_append]
  simp
theorem waysOf_len (way : ByteArray → List Tr) (N : Nat) : ∀ (ks : List ByteArray), (∀ k ∈ ks, (way k).length ≤ N) → (waysOf way ks).length ≤ ks.length * (N * 2)
  | [], _ => by simp [waysOf]
  | k :: ks, h => by
    have ih := waysOf_len way N ks fun x hx => h x (List.mem_cons_of_mem _ hx)
    unfold waysOf at ih ⊢
    rw [List.flatMap_cons, List.length_append, List.length_cons, Nat.succ_mul]
    have h1 := wayK_len k (way k)
    have h2 := h k (List.mem_cons_self ..)
    omega
section
variable {o : Oper} {a : Act} {W : World} {K : Act → World → Prop} {Q : Exit → Act → World → Prop}
theorem f_fldT0 {x : Operand} {g : Nat} (ho : o.op = .fieldAddr 125 x 0) (hx : a.eval x = .pointer (some ⟨g, 0, none⟩)) (h : K (a.put o.dst (.pointer (some ⟨g, 0, none⟩))) W) : o.wp Tryz.prog a W K Q :=
  wp_valF (v := .pointer (some ⟨g, 0, none⟩)) (by unfold execOp; simp only [ho, hx]; go_simp) h
theorem f_loadNd {x : Operand} {p k : Nat} {s : Option Addr} (ho : o.op = .load 122 x) (hx : a.eval x = .pointer (some ⟨p, k, none⟩)) (hc : W.cell? ⟨p, k, none⟩ = some (.pointer s)) (h : K (a.put o.dst (.pointer s)) W) : o.wp Tryz.prog a W K Q :=
  wp_valF (v := .pointer s) (by unfold execOp; simp only [ho, hx]; simp [hc, go_sem]) h
theorem f_loadSt {x : Operand} {p k : Nat} {s : ByteArray} (ho : o.op = .load 9 x) (hx : a.eval x = .pointer (some ⟨p, k, none⟩)) (hc : W.cell? ⟨p, k, none⟩ = some (.string s)) (h : K (a.put o.dst (.string s)) W) : o.wp Tryz.prog a W K Q :=
  wp_valF (v := .string s) (by unfold execOp; simp only [ho, hx]; simp [hc, go_sem]) h
theorem f_mkF2 {x y : Operand} {u v : Value} (ho : o.op = .makeFunc (.func 150) #[] #[x, y]) (hx : a.eval x = u) (hy : a.eval y = v) (h : K (a.put o.dst (.func (.func 150) #[] #[u, v])) W) : o.wp Tryz.prog a W K Q :=
  wp_valF (v := .func (.func 150) #[] #[u, v]) (by unfold execOp; simp only [ho, List.map_toArray, List.map_cons, List.map_nil, hx, hy]; rfl) h
end

/-- Between two keys. -/
structure FTI (w : World) (fb cb : Nat) (gs : List Nat) (W : World) : Prop where
  fire : FireI w cb gs W
  fn : W.heap[fb]? = some (.cells #[.func (.func 148) #[] #[.pointer (some ⟨cb, 0, none⟩)]] 228)

set_option maxRecDepth 100000 in
set_option maxHeartbeats 4000000 in
theorem fireT_calls (tb : Nat) (T : Tr) (n : Int) (ks : List ByteArray) (way : ByteArray → List Tr) (N : Nat) (g cap : Nat) (cs : Array Value) (w : World) (hT : TreeAt w tb T n) (hwf : WF T) (hroot : T.p = kE) (hway : ∀ k ∈ ks, Along k.data.toList T (way k)) (hlen : ∀ k ∈ ks, (way k).length ≤ N) (hks : ∀ k ∈ ks, k.size ≤ 140737488351296)
    (hkn : ks.length < 4611686018427387904) (hb : ∀ gs : List Nat, (∀ x ∈ gs, x ∈ waysOf way ks) → (newly w gs).length + 4 < 4611686018427387904) (hg : w.heap[g]? = some (.cells cs 9)) (hcs : ∀ i (h : i < ks.length), cs[i]? = some (.string ks[i])) :
    Calls Tryz.prog 122 #[.pointer (some ⟨tb, 0, none⟩), .slice (some ⟨g, 0, none⟩) ks.length cap] w fun e w' => e = .returned (.int .i64 ((newly w (waysOf way ks)).length : Int)) ∧ Frd (fun _ => False) w w' ∧ Touched (both (waysOf way ks)) w w' ∧ ∀ x, Wc anyO w x → WAt w' x (x - 1) (decide (x ∈ waysOf way ks) || flagOf w x) := by
  have hmf : ∀ (fn : Fn) (first cap : Array Value) (w : World), (Instr.makeFunc fn first cap).run Tryz.prog w = .ok (.func fn first cap) w := fun _ _ _ _ => rfl
  obtain ⟨w2, HW2⟩ : ∃ w2, Hid (w2 = (w.alloc (.cells #[.int .i64 0] 3)).alloc (.cells #[.func (.func 148) #[] #[.pointer (some ⟨w.heap.size, 0, none⟩)]] 228)) := ⟨_, rfl⟩
  have hb2 : Below w.heap.size w w2 := by rw [HW2.out]; exact ((Below.refl _ _).alloc (Nat.le_refl _) _).alloc (by simp [World.size_alloc]) _
  have q0 : w2.heap[w.heap.size]? = some (.cells #[.int .i64 0] 3) := by rw [HW2.out, Below.heap_alloc _ _ _ (by simp [World.size_alloc])]; exact heap_alloc_new _ _
  have q1 : w2.heap[w.heap.size + 1]? = some (.cells #[.func (.func 148) #[] #[.pointer (some ⟨w.heap.size, 0, none⟩)]] 228) := by
    rw [HW2.out]; have := heap_alloc_new (w.alloc (.cells #[.int .i64 0] 3)) (.cells #[.func (.func 148) #[] #[.pointer (some ⟨w.heap.size, 0, none⟩)]] 228); rwa [World.size_alloc] at this
  have HI2 : Hid (FTI w (w.heap.size + 1) w.heap.size (waysOf way (ks.take 0)) w2) := ⟨⟨Frd.ofBelow hb2, by rw [q0]; rfl, fun x hx => by simpa [waysOf] using hx.at.below hb2, Nat.le_refl _, Touched.ofBelow hb2 _⟩, q1⟩
  have HT : Hid (TreeAt w tb T n ∧ WF T ∧ T.p = kE) := ⟨hT, hwf, hroot⟩
  have HWAY : Hid (∀ k ∈ ks, Along k.data.toList T (way k) ∧ (way k).length ≤ N ∧ k.size ≤ 140737488351296) := fun k hk => ⟨hway k hk, hlen k hk, hks k hk⟩
  have HG : Hid (w.heap[g]? = some (.cells cs 9) ∧ ∀ i (h : i < ks.length), cs[i]? = some (.string ks[i])) := ⟨hg, hcs⟩
  have HBD : Hid (∀ gs : List Nat, (∀ x ∈ gs, x ∈ waysOf way ks) → (newly w gs).length + 4 < 4611686018427387904) := hb
  have hkl : (ks.length : Int) < 4611686018427387904 := by omega
  have hws := lt_of_heap q0
  clear hT hwf hroot hway hlen hks hb hg hcs hb2 q0 q1
  go_enter Tryz.func122, Tryz.ntmps122
  go_wp2
  rw [← HW2.out]
  clear HW2
  go_loopw [12] (fun i wr => ∃ j : Nat, j ≤ ks.length ∧ i = .int .i64 j ∧ Hid (FTI w (w.heap.size + 1) w.heap.size (waysOf way (ks.take j)) wr)) (fun i _ => ks.length - (intOf i).toNat)
  case atStart => exact ⟨0, Nat.zero_le _, rfl, HI2⟩
  case round =>
    obtain ⟨j, hj, rfl, HI⟩ := hrel
    clear HI2
    by_cases hlt : j < ks.length
    · have hgr := HI.out.fire.frd.block g _ HG.out.1 (.cells (by decide)) (fun e => e)
      have kc : wr.cell? ⟨g, j, none⟩ = some (.string ks[j]) := by rw [cell_of_blk hgr]; exact HG.out.2 j hlt
      obtain ⟨k, Hk⟩ : ∃ k, Hid (k = ks[j]) := ⟨ks[j], rfl⟩
      have HWK := HWAY.out ks[j] (List.getElem_mem hlt)
      rw [← Hk.out] at kc HWK
      have HWK' : Hid (Along k.data.toList T (way k) ∧ (way k).length ≤ N ∧ k.size ≤ 140737488351296) := HWK
      have i1 : (0 : Int) ≤ (j : Int) ∧ (j : Int) < (ks.length : Int) := by omega
      obtain ⟨w3, HW3⟩ : ∃ w3, Hid (w3 = wr.alloc (.cells #[.string k] 9)) := ⟨_, rfl⟩
      have hb3 : Below wr.heap.size wr w3 := by rw [HW3.out]; exact (Below.refl _ _).alloc (Nat.le_refl _) _
      have q3 : w3.heap[wr.heap.size]? = some (.cells #[.string k] 9) := by rw [HW3.out]; exact heap_alloc_new _ _
      have HI3 : Hid (FireI w w.heap.size (waysOf way (ks.take j)) w3 ∧ FBox (w.heap.size + 1) wr.heap.size w.heap.size k w3) := ⟨HI.out.fire.below hb3, (hb3.block _ (lt_of_heap HI.out.fn)).trans HI.out.fn, q3⟩
      have HT3 : Hid (TreeAt w3 tb T n) := HT.out.1.frd HI3.out.1.frd (fun b e => e.elim)
      obtain ⟨kb, hkb⟩ : ∃ kb, kb = wr.heap.size := ⟨_, rfl⟩
      rw [← hkb] at HI3
      clear hgr HWK hb3 q3
      go_upto_region 6 with fail
      rw [← HW3.out, ← hkb]
      clear HW3 hkb kc
      refine wp_region_inv 6 (fun i v W1 => match i with
        | 0 => v = .pointer (some ⟨tb, 0, none⟩)
        | 1 => v = .pointer (some ⟨tb, 0, none⟩)
        | 2 => v = .pointer (some ⟨tb, 0, none⟩)
        | 3 => v = .pointer (some ⟨T.a, 0, none⟩)
        | 4 => v = .string k
        | 5 => v = .func (.func 150) #[] #[.pointer (some ⟨w.heap.size + 1, 0, none⟩), .pointer (some ⟨kb, 0, none⟩)]
        | _ => False) (by kernel_rfl) (by kernel_rfl) (by kernel_rfl) [some 16, some 17, some 18, some 19, some 20, some 21] (by kernel_rfl) ?mono ?hop ?tail
      case mono => exact fun i v W W' h _ => h
      case hop =>
        intro i o hi ho a W1 hB1 hs hd
        match i, hi, ho, hd with
        | 0, _, ho, hd =>
          obtain rfl := Option.some.inj ho
          exact f_move rfl ((hs 0 (by kernel_rfl)).trans rfl) ⟨_, rfl, rfl, Below.refl _ _⟩
        | 1, _, ho, hd =>
          obtain rfl := Option.some.inj ho
          exact f_nilF rfl (hd 0 16 (by kernel_rfl) (by kernel_rfl)) ⟨_, rfl, rfl, Below.refl _ _⟩
        | 2, _, ho, hd =>
          obtain rfl := Option.some.inj ho
          exact f_fldT0 rfl (hd 1 17 (by kernel_rfl) (by kernel_rfl)) ⟨_, rfl, rfl, Below.refl _ _⟩
        | 3, _, ho, hd =>
          obtain rfl := Option.some.inj ho
          exact f_loadNd rfl (hd 2 18 (by kernel_rfl) (by kernel_rfl)) (by rw [cell_of_blk (HT3.out.keep hB1).blk]; rfl) ⟨_, rfl, rfl, Below.refl _ _⟩
        | 4, _, ho, hd =>
          obtain rfl := Option.some.inj ho
          exact f_loadSt rfl ((hs 8 (by kernel_rfl)).trans rfl) (by rw [cell_of_blk (HI3.out.2.below hB1).key]; rfl) ⟨_, rfl, rfl, Below.refl _ _⟩
        | 5, _, ho, hd =>
          obtain rfl := Option.some.inj ho
          exact f_mkF2 rfl ((hs 6 (by kernel_rfl)).trans rfl) ((hs 8 (by kernel_rfl)).trans rfl) ⟨_, rfl, rfl, Below.refl _ _⟩
        | k + 6, hi, _, _ => exact absurd hi (by omega)
      case tail =>
        intro vs W1 hB1 hR
        have r3 : vs 3 = .pointer (some ⟨T.a, 0, none⟩) := hR 3 (by decide)
        have r4 : vs 4 = .string k := hR 4 (by decide)
        have r5 : vs 5 = .func (.func 150) #[] #[.pointer (some ⟨w.heap.size + 1, 0, none⟩), .pointer (some ⟨kb, 0, none⟩)] := hR 5 (by decide)
        have hcal : ∀ i, i ≤ (way k).length → (newly w (waysOf way (ks.take j) ++ wayK k ((way k).take i))).length + 4 < 4611686018427387904 := fun i _ => HBD.out _ fun x hx => by
          rcases List.mem_append.1 hx with hx | hx
          · obtain ⟨k', hk', hx⟩ := List.mem_flatMap.1 hx
            exact List.mem_flatMap.2 ⟨k', List.mem_of_mem_take hk', hx⟩
          · obtain ⟨t, ht, hx⟩ := List.mem_flatMap.1 hx
            exact List.mem_flatMap.2 ⟨k, Hk.out ▸ List.getElem_mem hlt, List.mem_flatMap.2 ⟨t, List.mem_of_mem_take ht, hx⟩⟩
        have HFA := fireAlong_calls w (w.heap.size + 1) kb w.heap.size k _ T (way k) W1 HWK'.out.1 (HI3.out.1.below hB1) (HI3.out.2.below hB1) HT.out.1.tat HT.out.2.1 (root_pre HT.out.2.2 _) HWK'.out.2.2 hcal
        clear hR hB1 hcal
        simp only [putL, put_lit, List.setIfInBounds_toArray, List.set_cons_succ, List.set_cons_zero, List.drop_succ_cons, List.drop_zero]
        rw [r3, r4, r5]
        clear r3 r4 r5
        go_wp2_with fail
        refine HFA.mono ?_
        clear HFA
        rintro e w5 ⟨rfl, hI5, hB5⟩
        have HI5 : Hid (FTI w (w.heap.size + 1) w.heap.size (waysOf way (ks.take (j + 1))) w5) := ⟨by rw [waysOf_take way ks j hlt, ← Hk.out]; exact hI5, hB5.fn⟩
        clear hI5 hB5
        go_wp2
        go_roundw
        case rel => exact ⟨j + 1, by omega, by go_num, HI5⟩
        case measure => simp [intOf]; omega
    · have hjl : j = ks.length := by omega
      subst hjl
      rw [List.take_length] at HI
      have kc : wr.cell? ⟨w.heap.size, 0, none⟩ = some (.int .i64 ((newly w (waysOf way ks)).length : Int)) := by rw [cell_of_blk HI.out.fire.cnt]; rfl
      go_wp2
      go_ret
      exact ⟨rfl, HI.out.fire.frd, HI.out.fire.tch, HI.out.fire.flg⟩
end Go.Proofs.YtdmhffbohnfdlaaGreat

/- Layer 5 (txn): an atomic pointer, loaded and stored. -/
namespace Go.Proofs.YtdmhffbohnfdlaaGreat
open Go.RowKit
set_option linter.unusedVariables false

section
variable {P : Program} {f : Nat} {fn : Func}
theorem run_call_loadP (hf : P.funcs[f]? = some fn) (hname : (fn.name == "runtime.NumGoroutine") = false) (hb : fn.body.isNone = true) (hn : Extern.findNext fn = none) (he : Extern.find fn = some (Extern.Atomic.loadT .ptr)) {a : Addr} {p : Option Addr} {w : World} (hc : w.cell? a = some (.pointer p)) :
    (callFunc f #[.pointer (some a)]).run P w = .ok (.value (.pointer p)) w := by
  rw [run_callFunc_extern hf hname hb hn he]
  change (Sem.run P (do Extern.Atomic.read .ptr (← asAddr (.pointer (some a)))) w).andThen _ = _
  simp [Extern.Atomic.read, asAddr, hc, Result.andThen]
theorem run_call_storeP (hf : P.funcs[f]? = some fn) (hname : (fn.name == "runtime.NumGoroutine") = false) (hb : fn.body.isNone = true) (hn : Extern.findNext fn = none) (he : Extern.find fn = some Extern.Atomic.storeT) {a : Addr} {p : Option Addr} {u : Value} {w : World} (hc : w.cell? a = some u) (hz : w.frozen? a = false) :
    (callFunc f #[.pointer (some a), .pointer p]).run P w = .ok (.value (.tuple #[])) (w.setCell a (.pointer p)) := by
  rw [run_callFunc_extern hf hname hb hn he]
  change (Sem.run P (do
    store (← asAddr (.pointer (some a))) (.pointer p) .atomic
    pure Extern.Atomic.none_) w).andThen _ = _
  simp [asAddr, hc, hz, run_store P w a (.pointer p) .atomic rfl, Result.andThen, Extern.Atomic.none_]
end

theorem verInfo : ∃ j, Tryz.prog.info? 100 = some j := Option.isSome_iff_exists.1 (by kernel_rfl)

set_option maxRecDepth 100000 in
theorem load_calls (bb vb : Nat) (x0 x1 : Value) (w : World) (hc : w.cell? ⟨bb, 0, none⟩ = some (.pointer (some ⟨vb, 0, none⟩))) (hv : w.heap[vb]? = some (.cells #[x0, x1] 100)) :
    Calls Tryz.prog 53 #[.pointer (some ⟨bb, 0, none⟩)] w fun e w' => e = .returned (.pointer (some ⟨vb, 0, none⟩)) ∧ w' = w := by
  have hl := run_call_loadP (P := Tryz.prog) Tryz.func84 (by kernel_rfl) (by kernel_rfl) (by kernel_rfl) (by kernel_rfl) hc
  obtain ⟨j, hj⟩ := verInfo
  have hsh : w.shape? vb = some (100, 2) := by simp [World.shape?, hv]
  have hcv := Lib.run_from_unsafe (P := Tryz.prog) w (src := 87) (dst := 83) ⟨vb, 0, none⟩ Tryz.underlying87 Tryz.underlying83 hj hsh (by kernel_rfl)
  clear hsh hv
  go_enter Tryz.func53, Tryz.ntmps53
  go_wp2
  go_ret
  exact ⟨rfl, rfl⟩

set_option maxRecDepth 100000 in
theorem store_calls (bb vb : Nat) (u x : Value) (w : World) (hc : w.cell? ⟨bb, 0, none⟩ = some u) (hz : w.frozen? ⟨bb, 0, none⟩ = false) (hv : w.cell? ⟨vb, 0, none⟩ = some x) :
    Calls Tryz.prog 33 #[.pointer (some ⟨bb, 0, none⟩), .pointer (some ⟨vb, 0, none⟩)] w fun e w' => e = .returned (.tuple #[]) ∧ w' = w.setCell ⟨bb, 0, none⟩ (.pointer (some ⟨vb, 0, none⟩)) := by
  have hst := run_call_storeP (P := Tryz.prog) Tryz.func71 (by kernel_rfl) (by kernel_rfl) (by kernel_rfl) (by kernel_rfl) (p := some ⟨vb, 0, none⟩) hc hz
  have hcv := run_convert_to_unsafe (P := Tryz.prog) (src := 83) (dst := 87) Tryz.underlying83 Tryz.underlying87 (by kernel_rfl) hv
  go_enter Tryz.func33, Tryz.ntmps33
  go_wp2
  go_end0
  exact ⟨rfl, rfl⟩
end Go.Proofs.YtdmhffbohnfdlaaGreat
