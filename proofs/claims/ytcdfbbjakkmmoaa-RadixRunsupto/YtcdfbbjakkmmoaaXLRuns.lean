/- RadixRuns: the whole walk. -/
import Derived.Test.YtcdfbbjakkmmoaaXRuM
import Derived.Test.YtcdfbbjakkmmoaaXLooks
import Derived.Test.YtcdfbbjakkmmoaaRgJ
import Derived.Test.YtcdfbbjakkmmoaaRgInv
import Derived.Test.YtcdfbbjakkmmoaaRgV
import Derived.Test.YtcdfbbjakkmmoaaRAlive
namespace Go.Proofs.Ytcdfbbjakkmmoaa
open Go.RowKit Go.Shelf
open Go.Sort (grow)
set_option linter.unusedVariables false

structure Rop where
  kd : Int
  on : Int
  k : ByteArray
  v : Int
/-- The steps lie one behind the other. -/
def RopsAt (w : World) (ao : Option Addr) (l : List Rop) : Prop :=
  ∀ i (h : i < l.length), ∃ b off, ao = some ⟨b, off, none⟩ ∧ w.cell? ⟨b, off + i * 4, none⟩ = some (.int .i64 l[i].kd) ∧ w.cell? ⟨b, off + i * 4 + 1, none⟩ = some (.int .i64 l[i].on) ∧ w.cell? ⟨b, off + i * 4 + 2, none⟩ = some (.string l[i].k) ∧ w.cell? ⟨b, off + i * 4 + 3, none⟩ = some (.int .i64 l[i].v) ∧ l[i].k.size ≤ 140737488351296 ∧ -9223372036854775808 ≤ l[i].on ∧ l[i].on ≤ 9223372036854775807
theorem RopsAt.below {w w' : World} {ao : Option Addr} {l : List Rop} (h : RopsAt w ao l) (hb : Below w.heap.size w w') : RopsAt w' ao l := fun i hi => by
  obtain ⟨b, off, ha, h0, h1, h2, h3, hs⟩ := h i hi
  have hl : b < w.heap.size := World.block_lt_of_cell? w _ h0
  exact ⟨b, off, ha, by rw [hb.cell (by exact hl)]; exact h0, by rw [hb.cell (by exact hl)]; exact h1, by rw [hb.cell (by exact hl)]; exact h2, by rw [hb.cell (by exact hl)]; exact h3, hs⟩

theorem map4 {f : Operand → Value} {x y z u : Operand} {a b c d : Value} (h : f x = a) (k : f y = b) (l : f z = c) (m : f u = d) : (#[x, y, z, u] : Array Operand).map f = #[a, b, c, d] := by simp [h, k, l, m]
theorem infoPT : (Try.prog.info? 24).map (fun i => (i.zero, i.size, i.bytes)) = some (some (.pointer none), 1, 8) := by kernel_rfl
theorem infoDT : (Try.prog.info? 28).map (fun i => (i.zero, i.size, i.bytes)) = some (some (.agg #[.slice none 0 0, .slice none 0 0, .slice none 0 0, .slice none 0 0, .slice none 0 0]), 5, 120) := by kernel_rfl
theorem qTr_more (rs : List Rv) (r : Rv) {x : Value} (h : QTr rs x) : QTr (rs ++ [r]) x := h.imp_right fun ⟨y, hy, e⟩ => ⟨y, List.mem_append_left _ hy, e⟩

/-- append(ts, u). -/
theorem append_tr (rs : List Rv) (r2 : Rv) (W : World) {ops : Array Oper} {rest : List Oper} {o : Oper} {a : Act} {Q : Exit → Act → World → Prop} (hgd : o.guard = none) (s x : Operand)
    (ho : o.op = .call { callee := .builtin .append, args := #[s, x], argTypes := #[53, 53] }) (B : Nat) (v : Value) (hs : a.eval s = v) (tb : Nat) (htb : r2.tb = tb) (hx : a.eval x = .slice (some ⟨W.heap.size, 0, none⟩) 1 1)
    (hown : OwnV W B 24 v (rs.map Rv.ptr)) (hq : OwnC (QTr rs) 24 W v) (hm : rs.length ≤ 4194304) (hB : B ≤ W.heap.size)
    (h : ∀ v' w', OwnV w' B 24 v' (rs.map Rv.ptr ++ [r2.ptr]) → Grew W w' v v' → OwnC (QTr (rs ++ [r2])) 24 w' v' → wpList Try.prog ops Q rest (a.put o.dst v') w') : wpList Try.prog ops Q (o :: rest) a (W.alloc (.cells #[.pointer (some ⟨tb, 0, none⟩)] 24)) := by
  subst htb
  refine append_rowc (QTr (rs ++ [r2])) W hgd s x 53 24 (.pointer none) 1 8 Try.underlying53 infoPT rfl (by decide) (fun x hx => .inl (by simpa [Value.cells] using hx)) ho B v (rs.map Rv.ptr).length (rs.map Rv.ptr) hs [r2.ptr] rfl (fun u hu => ?_) (fun u hu => ?_) _ hx rfl hown (hq.imp fun x hx => qTr_more rs r2 hx) (fun x hx => ?_) (by rw [List.length_map]; omega) (by rw [List.length_map]; omega) hB (fun v' w' h1 h2 h3 => h v' w' ?_ h2 h3)
  · simp at hu
    exact .inr ⟨r2, by simp, hu⟩
  · simp at hu; subst hu; rfl
  · obtain ⟨y, hy, rfl⟩ := List.mem_map.1 hx
    exact .inr ⟨y, List.mem_append_left _ hy, rfl⟩
  · unfold OwnV
    rw [List.length_append]; exact h1
/-- append(ms, n). -/
theorem append_md (rs : List Rv) (r2 : Rv) (W : World) {ops : Array Oper} {rest : List Oper} {o : Oper} {a : Act} {Q : Exit → Act → World → Prop} (hgd : o.guard = none) (s x : Operand)
    (ho : o.op = .call { callee := .builtin .append, args := #[s, x], argTypes := #[54, 54] }) (B : Nat) (v : Value) (hs : a.eval s = v) (c0 c1 c2 c3 c4 : Value) (hc : r2.cells = [c0, c1, c2, c3, c4]) (hx : a.eval x = .slice (some ⟨W.heap.size, 0, none⟩) 1 1)
    (hown : W.ownsRow B 28 5 v rs.length (rs.flatMap Rv.cells)) (hq : OwnC QSl 28 W v) (hm : rs.length ≤ 4194304) (hB : B ≤ W.heap.size)
    (h : ∀ v' w', w'.ownsRow B 28 5 v' (rs.length + 1) (rs.flatMap Rv.cells ++ r2.cells) → Grew W w' v v' → OwnC QSl 28 w' v' → wpList Try.prog ops Q rest (a.put o.dst v') w') : wpList Try.prog ops Q (o :: rest) a (W.alloc (.cells #[c0, c1, c2, c3, c4] 28)) := by
  have := append_rowc QSl W (ops := ops) (rest := rest) (a := a) (Q := Q) hgd s x 54 28 (.agg #[.slice none 0 0, .slice none 0 0, .slice none 0 0, .slice none 0 0, .slice none 0 0]) 5 120 Try.underlying54 infoDT rfl (by decide) (fun x hx p e => by subst e; simp [Value.cells] at hx) ho B v rs.length (rs.flatMap Rv.cells) hs r2.cells rfl (r2.cells_sl) (r2.cells_one) _ hx rfl hown hq (flat_sl rs) (by omega) (by omega) hB h
  rw [hc] at this
  exact this

/-- What each operation of a step yields. -/
def TupR (w : World) (n : Nat) (es2 : List En) (v : Value) (W : World) : Prop := ∃ (tb : Nat) (T : Tr) (ne : Int) (d : Dv) (z : Int), v = .tuple #[.pointer (some ⟨tb, 0, none⟩), .agg (d.cells es2.length (pathsOf es2).length), .int .i64 z, .bool true] ∧ Held w W tb T ne n es2 ∧ Canon T ∧ DocAt W d es2 (pathsOf es2)
def PtrR (w : World) (n : Nat) (es2 : List En) (v : Value) (W : World) : Prop := ∃ (tb : Nat) (T : Tr) (ne : Int), v = .pointer (some ⟨tb, 0, none⟩) ∧ Held w W tb T ne n es2 ∧ Canon T
def AggR (es2 : List En) (v : Value) (W : World) : Prop := ∃ d : Dv, v = .agg (d.cells es2.length (pathsOf es2).length) ∧ DocAt W d es2 (pathsOf es2)
def BoxR (B : Nat) (v : Value) (W : World) : Prop := ∃ (c : Nat) (x0 x1 x2 x3 x4 : Value), v = .pointer (some ⟨c, 0, none⟩) ∧ B ≤ c ∧ W.heap[c]? = some (.cells #[x0, x1, x2, x3, x4] 28) ∧ NoPtr #[x0, x1, x2, x3, x4]
def PutR (B : Nat) (es2 : List En) (v : Value) (W : World) : Prop := ∃ (c : Nat) (d : Dv), v = .pointer (some ⟨c, 0, none⟩) ∧ B ≤ c ∧ W.heap[c]? = some (.cells (d.cells es2.length (pathsOf es2).length) 28) ∧ DocAt W d es2 (pathsOf es2)
def RR (w w8 : World) (n : Nat) (es2 : List En) (vt vm : Value) (ix g b : Nat) (r : Rv) (aop : Value) (z : Int) : Nat → Value → World → Prop
  | 0, v, _ => v = vt
  | 1, v, _ => v = .int .i64 (ix : Int)
  | 2, v, _ => v = .pointer (some ⟨g, ix, none⟩)
  | 3, v, _ => v = r.ptr
  | 4, v, _ => v = vm
  | 5, v, _ => v = .int .i64 (ix : Int)
  | 6, v, _ => v = .pointer (some ⟨b, ix * 5, none⟩)
  | 7, v, _ => v = .agg r.cells.toArray
  | 8, v, _ => v = aop
  | 9, v, _ => v = .int .i64 z
  | 10, v, W => TupR w n es2 v W
  | 11, v, W => TupR w n es2 v W
  | 12, v, W => PtrR w n es2 v W
  | 13, v, W => AggR es2 v W
  | 14, v, _ => ∃ z : Int, v = .int .i64 z
  | 15, v, _ => v = .bool true
  | 16, v, W => BoxR w8.heap.size v W
  | 17, v, W => PtrR w n es2 v W
  | 18, v, W => PutR w8.heap.size es2 v W
  | 19, v, _ => ∃ z : Int, v = .int .i64 z
  | 20, v, _ => v = .bool true
  | _, _, _ => False
theorem TupR.mono {w W W' : World} {n : Nat} {es2 : List En} {v : Value} (h : TupR w n es2 v W) (hb : Below W.heap.size W W') : TupR w n es2 v W' := by
  obtain ⟨tb, T, ne, d, z, h1, h2, h3, h4⟩ := h
  exact ⟨tb, T, ne, d, z, h1, h2.keep hb, h3, h4.keep hb⟩
theorem PtrR.mono {w W W' : World} {n : Nat} {es2 : List En} {v : Value} (h : PtrR w n es2 v W) (hb : Below W.heap.size W W') : PtrR w n es2 v W' := by
  obtain ⟨tb, T, ne, h1, h2, h3⟩ := h
  exact ⟨tb, T, ne, h1, h2.keep hb, h3⟩
theorem RR.mono {w w8 : World} {n : Nat} {es2 : List En} {vt vm : Value} {ix g b : Nat} {r : Rv} {aop : Value} {z : Int} {j : Nat} {v : Value} {W W' : World} (h : RR w w8 n es2 vt vm ix g b r aop z j v W) (hb : Below W.heap.size W W') : RR w w8 n es2 vt vm ix g b r aop z j v W' := by
  match j, h with
  | 0, h => exact h
  | 1, h => exact h
  | 2, h => exact h
  | 3, h => exact h
  | 4, h => exact h
  | 5, h => exact h
  | 6, h => exact h
  | 7, h => exact h
  | 8, h => exact h
  | 9, h => exact h
  | 10, h => exact TupR.mono h hb
  | 11, h => exact TupR.mono h hb
  | 12, h => exact PtrR.mono h hb
  | 13, ⟨d, h1, h2⟩ => exact ⟨d, h1, h2.keep hb⟩
  | 14, h => exact h
  | 15, h => exact h
  | 16, ⟨c, x0, x1, x2, x3, x4, h1, h2, h3, h4⟩ => exact ⟨c, x0, x1, x2, x3, x4, h1, h2, (hb.block _ (lt_of_heap h3)).trans h3, h4⟩
  | 17, h => exact PtrR.mono h hb
  | 18, ⟨c, d, h1, h2, h3, h4⟩ => exact ⟨c, d, h1, h2, (hb.block _ (lt_of_heap h3)).trans h3, h4.keep hb⟩
  | 19, h => exact h
  | 20, h => exact h
  | k + 21, h => exact h.elim
/-- A store into the box leaves what the others yield. -/
theorem RR.put {w w8 : World} {n : Nat} {es2 : List En} {vt vm : Value} {ix g b : Nat} {r : Rv} {aop : Value} {z : Int} {j : Nat} {v : Value} {W : World} {c : Nat} {x0 x1 x2 x3 x4 : Value} (hw : w.heap.size ≤ w8.heap.size) (hc : w8.heap.size ≤ c) (hb : W.heap[c]? = some (.cells #[x0, x1, x2, x3, x4] 28)) (hn : NoPtr #[x0, x1, x2, x3, x4]) (a0 a1 a2 a3 a4 : Option Addr) (n0 n1 n2 n3 n4 c0 c1 c2 c3 c4 : Nat) (hj : j ≠ 18) (h : RR w w8 n es2 vt vm ix g b r aop z j v W) :
    RR w w8 n es2 vt vm ix g b r aop z j v (put5 W c (.slice a0 n0 c0) (.slice a1 n1 c1) (.slice a2 n2 c2) (.slice a3 n3 c3) (.slice a4 n4 c4)) := by
  have hH : ∀ {tb : Nat} {T : Tr} {ne : Int}, Held w W tb T ne n es2 → Held w (put5 W c (.slice a0 n0 c0) (.slice a1 n1 c1) (.slice a2 n2 c2) (.slice a3 n3 c3) (.slice a4 n4 c4)) tb T ne n es2 := fun h0 => put5_held hb rfl hn _ _ _ _ _ _ _ _ _ _ _ _ _ _ _ (Nat.le_trans hw hc) h0
  match j, h, hj with
  | 0, h, _ => simp only [RR] at h ⊢; exact h
  | 1, h, _ => simp only [RR] at h ⊢; exact h
  | 2, h, _ => simp only [RR] at h ⊢; exact h
  | 3, h, _ => simp only [RR] at h ⊢; exact h
  | 4, h, _ => simp only [RR] at h ⊢; exact h
  | 5, h, _ => simp only [RR] at h ⊢; exact h
  | 6, h, _ => simp only [RR] at h ⊢; exact h
  | 7, h, _ => simp only [RR] at h ⊢; exact h
  | 8, h, _ => simp only [RR] at h ⊢; exact h
  | 9, h, _ => simp only [RR] at h ⊢; exact h
  | 10, ⟨tb, T, ne, d, z, h1, h2, h3, h4⟩, _ => exact ⟨tb, T, ne, d, z, h1, hH h2, h3, put5_doc hb rfl _ _ _ _ _ h4⟩
  | 11, ⟨tb, T, ne, d, z, h1, h2, h3, h4⟩, _ => exact ⟨tb, T, ne, d, z, h1, hH h2, h3, put5_doc hb rfl _ _ _ _ _ h4⟩
  | 12, ⟨tb, T, ne, h1, h2, h3⟩, _ => exact ⟨tb, T, ne, h1, hH h2, h3⟩
  | 13, ⟨d, h1, h2⟩, _ => exact ⟨d, h1, put5_doc hb rfl _ _ _ _ _ h2⟩
  | 14, h, _ => simp only [RR] at h ⊢; exact h
  | 15, h, _ => simp only [RR] at h ⊢; exact h
  | 16, ⟨c', y0, y1, y2, y3, y4, h1, h2, h3, h4⟩, _ =>
    by_cases e : c' = c
    · subst e
      exact ⟨c', _, _, _, _, _, h1, h2, put5_blk hb rfl _ _ _ _ _, noPtr5 _ _ _ _ _ _ _ _ _ _ _ _ _ _ _⟩
    · exact ⟨c', y0, y1, y2, y3, y4, h1, h2, (put5_other hb rfl _ _ _ _ _ e).trans h3, h4⟩
  | 17, ⟨tb, T, ne, h1, h2, h3⟩, _ => exact ⟨tb, T, ne, h1, hH h2, h3⟩
  | 18, _, hj => exact absurd rfl hj
  | 19, h, _ => simp only [RR] at h ⊢; exact h
  | 20, h, _ => simp only [RR] at h ⊢; exact h
  | k + 21, h, _ => exact h.elim
section
variable {P : Program} {o : Oper} {a : Act} {W : World} {K : Act → World → Prop} {Q : Exit → Act → World → Prop}
theorem f_move_as {x : Operand} {v : Value} (ho : o.op = .assign x) (hx : a.eval x = v) (h : K (a.put o.dst v) W) : o.wp P a W K Q :=
  wp_valF (v := v) (by unfold execOp; simp only [ho, hx]; rfl) h
end
/-- What ties them. -/
def JJ (w8 : World) (ls : Nat → Bool) (vs : Nat → Value) (W : World) : Prop := Below w8.heap.size w8 W ∧ (ls 18 = true → vs 18 = vs 16 ∧ ls 16 = true)
theorem JJ.next {w8 W W' : World} {ls : Nat → Bool} {vs : Nat → Value} {i : Nat} {v : Value} (h : JJ w8 ls vs W) (hi : i ≠ 18) (hl : ls i = false) (hb : Below w8.heap.size w8 W') : JJ w8 (updB ls i) (updV vs i v) W' := by
  refine ⟨hb, fun h18 => ?_⟩
  have h1 : ls 18 = true := by simpa [updB, Ne.symm hi] using h18
  obtain ⟨h2, h3⟩ := h.2 h1
  have hi6 : i ≠ 16 := fun e => by rw [e, h3] at hl; cases hl
  exact ⟨by simpa [updV, Ne.symm hi, Ne.symm hi6] using h2, by simpa [updB, Ne.symm hi6] using h3⟩

/-- What a step gives, whatever its kind. -/
def StP (w : World) (n : Nat) (es2 : List En) (e : Ending) (W w' : World) : Prop :=
  ∃ (tb : Nat) (T : Tr) (ne : Int) (d : Dv) (z : Int), e = .returned (.tuple #[.pointer (some ⟨tb, 0, none⟩), .agg (d.cells es2.length (pathsOf es2).length), .int .i64 z, .bool true]) ∧ Below W.heap.size W w' ∧ Held w w' tb T ne n es2 ∧ Canon T ∧ DocAt w' d es2 (pathsOf es2)
theorem step_calls (r : Rv) (n : Nat) (w W : World) (h : GrP w W r.tb r.T r.ne n r.es r.d) (kd on : Int) (k : ByteArray) (v next : Int) (hk : k.size ≤ 140737488351296) (hn : n + 1 ≤ 5864062014640) :
    Calls Try.prog 15 #[r.ptr, .agg r.cells.toArray, .agg #[.int .i64 kd, .int .i64 on, .string k, .int .i64 v], .int .i64 next] W fun e w' => StP w (n + 1) (if kd = 0 then insE r.es k v else delE r.es k) e W w' := by
  by_cases hkd : kd = 0
  · rw [if_pos hkd]
    refine (grownI_calls r.tb r.T r.ne n r.es r.d w W h kd on hkd k v next hk hn h.len h.held.good.below.size).mono ?_
    rintro e w' ⟨tb, T, ne, d, z, he, hb, hp, -⟩
    exact ⟨tb, T, ne, d, z, he, hb, hp.held, hp.canon, hp.doc⟩
  · rw [if_neg hkd]
    refine (grownD_calls r.tb r.T r.ne n r.es r.d w W h kd on hkd k v next hk hn h.len h.held.good.below.size).mono ?_
    rintro e w' ⟨tb, T, ne, d, z, he, hb, hp, -⟩
    exact ⟨tb, T, ne, d, z, he, hb, hp.held.mono (Nat.le_succ _), hp.canon, hp.doc⟩

set_option maxRecDepth 100000 in
set_option maxHeartbeats 4000000 in
theorem radixRuns_calls (ao : Option Addr) (cap : Nat) (os : List Rop) (w : World) (hos : RopsAt w ao os) (hl : os.length ≤ 2097152) :
    Calls Try.prog 5 #[.slice ao os.length cap] w fun e w' => e = .returned (.bool true) ∧ Below w.heap.size w w' := by
  have hnot : ∀ (x : Bool) (w : World), (Op.unary .not (.bool x)).run Try.prog w = .ok (.bool (!x)) w := fun _ _ => rfl
  have HOS : Hid (RopsAt w ao os) := hos
  clear hos
  go_enter Try.func5, Try.ntmps5
  go_wp2_with fail
  refine (alive3_calls w).mono ?_
  rintro e w1 ⟨rfl, hb1⟩
  have HB1 : Hid (Below w.heap.size w w1) := hb1
  clear hb1
  go_wp2_with fail
  refine (refNew_calls 0 w1).mono ?_
  rintro e w3 ⟨d, z, rfl, hd3, hb3⟩
  have HB3 : Hid (Below w.heap.size w w3) := HB1.out.trans (hb3.mono HB1.out.size)
  have HD3 : Hid (DocAt w3 d [] (pathsN (keysOf []) 0)) := hd3
  clear hd3 hb3 HB1
  obtain ⟨w4, HW4⟩ : ∃ w4, Hid (w4 = w3.alloc (.cells (d.cells 0 1) 28)) := ⟨_, rfl⟩
  have b4 : Below w3.heap.size w3 w4 := by rw [HW4.out]; exact (Below.refl _ _).alloc (Nat.le_refl _) _
  have HB4 : Hid (Below w3.heap.size w3 w4) := b4
  have n4 : w4.heap[w3.heap.size]? = some (.cells (d.cells 0 1) 28) := by rw [HW4.out]; exact heap_alloc_new _ _
  unfold Dv.cells at HW4
  unfold Dv.cells
  go_wp2_with fail
  rw [← HW4.out]
  clear HW4 b4
  refine (newTree_calls w4).mono ?_
  rintro e w5 ⟨tb, a, g, rfl, hb5, ht5, -, -, -⟩
  have n5 := (hb5.block _ (lt_of_heap n4)).trans n4
  have hl5 := lt_of_heap n5
  obtain ⟨w6, HW6⟩ : ∃ w6, Hid (w6 = w5.alloc (.cells #[.pointer (some ⟨tb, 0, none⟩)] 24)) := ⟨_, rfl⟩
  obtain ⟨w7, HW7⟩ : ∃ w7, Hid (w7 = w6.alloc (.cells #[.slice d.k.ao 0 d.k.cap, .slice d.v.ao 0 d.v.cap, .slice d.l.ao 0 d.l.cap, .slice d.p.ao 1 d.p.cap, .slice d.m.ao 1 d.m.cap] 28)) := ⟨_, rfl⟩
  have b6 : Below w5.heap.size w5 w6 := by rw [HW6.out]; exact (Below.refl _ _).alloc (Nat.le_refl _) _
  have b7 : Below w6.heap.size w6 w7 := by rw [HW7.out]; exact (Below.refl _ _).alloc (Nat.le_refl _) _
  have s6 : w6.heap.size = w5.heap.size + 1 := by rw [HW6.out]; simp [World.size_alloc]
  have HI7 : Hid (RuI w 0 [⟨tb, .nd a ⟨#[]⟩ none [] g, 0, [], d⟩] (.slice (some ⟨w5.heap.size, 0, none⟩) 1 1) (.slice (some ⟨w6.heap.size, 0, none⟩) 1 1) w7) := by
    have b57 : Below w5.heap.size w5 w7 := b6.trans (b7.mono b6.size)
    have b47 : Below w4.heap.size w4 w7 := hb5.trans (b57.mono hb5.size)
    have b37 : Below w3.heap.size w3 w7 := HB4.out.trans (b47.mono HB4.out.size)
    have b07 : Below w.heap.size w w7 := HB3.out.trans (b37.mono HB3.out.size)
    have z5 : w.heap.size ≤ w5.heap.size := Nat.le_trans HB3.out.size (Nat.le_trans HB4.out.size hb5.size)
    have q6 : w7.heap[w5.heap.size]? = some (.cells #[.pointer (some ⟨tb, 0, none⟩)] 24) := by
      rw [b7.block _ (by omega), HW6.out]; exact heap_alloc_new _ _
    have q7 : w7.heap[w6.heap.size]? = some (.cells #[.slice d.k.ao 0 d.k.cap, .slice d.v.ao 0 d.v.cap, .slice d.l.ao 0 d.l.cap, .slice d.p.ao 1 d.p.cap, .slice d.m.ao 1 d.m.cap] 28) := by rw [HW7.out]; exact heap_alloc_new _ _
    refine ⟨b07, fun r hr => ?_, ⟨by simp, .inr ⟨_, 1, _, rfl, z5, q6, by simp, by decide, by simp, by simp [Rv.ptr]⟩⟩, fun g' cur hg hb x hx => ?_, ⟨by simp [Rv.cells], .inr ⟨_, 1, _, rfl, by omega, q7, by simp, by decide, by simp, by rfl⟩⟩, fun g' cur hg hb x hx => ?_⟩
    · simp at hr
      subst hr
      exact ⟨⟨⟨b07, ht5.keep b57, leaf_wf _ _ _ _, rfl, leaf_dep (by omega), Int.le_refl _, Int.le_refl _⟩, HasE.nil, List.Pairwise.nil, rfl⟩, leaf_canon, HD3.out.keep b37⟩
    · simp only [Value.ownBlock, Option.some.injEq] at hg
      subst hg
      rw [q6] at hb
      simp at hb
      subst hb
      simp at hx
      subst hx
      exact .inr ⟨_, List.mem_singleton.2 rfl, rfl⟩
    · simp only [Value.ownBlock, Option.some.injEq] at hg
      subst hg
      rw [q7] at hb
      simp at hb
      subst hb
      intro p e
      subst e
      simp at hx
  have q5 : w6.heap[w3.heap.size]? = some (.cells (d.cells 0 1) 28) := (b6.block _ hl5).trans n5
  have k0 : w6.cell? ⟨w3.heap.size, 0, none⟩ = some (.slice d.k.ao 0 d.k.cap) := by rw [cell_of_blk q5]; rfl
  have k1 : w6.cell? ⟨w3.heap.size, 1, none⟩ = some (.slice d.v.ao 0 d.v.cap) := by rw [cell_of_blk q5]; rfl
  have k2 : w6.cell? ⟨w3.heap.size, 2, none⟩ = some (.slice d.l.ao 0 d.l.cap) := by rw [cell_of_blk q5]; rfl
  have k3 : w6.cell? ⟨w3.heap.size, 3, none⟩ = some (.slice d.p.ao 1 d.p.cap) := by rw [cell_of_blk q5]; rfl
  have k4 : w6.cell? ⟨w3.heap.size, 4, none⟩ = some (.slice d.m.ao 1 d.m.cap) := by rw [cell_of_blk q5]; rfl
  rw [HW6.out] at k0 k1 k2 k3 k4
  rw [HW6.out] at HW7
  have HS6 : Hid (w6.heap.size = w5.heap.size + 1) := s6
  clear b6 b7 s6 n4 n5 hb5 ht5 q5 HB4 HD3 HB3
  go_wp2_with fail
  rw [← HW7.out]
  clear k0 k1 k2 k3 k4 HW7
  rw [HS6.out] at HI7
  clear HS6 HW6
  go_wp2_with fail
  go_loopw [4, 5, 6, 27] (fun nx vt vm i wr => ∃ (j : Nat) (rs : List Rv) (z : Int) (ta ma : Option Addr) (tc mc : Nat), j ≤ os.length ∧ 0 < rs.length ∧ rs.length ≤ j + 1 ∧ nx = .int .i64 z ∧ vt = .slice ta rs.length tc ∧ vm = .slice ma rs.length mc ∧ i = .int .i64 j ∧ Hid (RuI w j rs (.slice ta rs.length tc) (.slice ma rs.length mc) wr)) (fun _ _ _ i _ => os.length - (intOf i).toNat)
  case atStart => exact ⟨0, [⟨tb, .nd a ⟨#[]⟩ none [] g, 0, [], d⟩], z, _, _, 1, 1, Nat.zero_le _, by simp, by simp, rfl, rfl, rfl, rfl, HI7⟩
  case round =>
    obtain ⟨j, rs, z, ta, ma, tc, mc, hj, hr0, hr1, rfl, rfl, rfl, rfl, HI⟩ := hrel
    clear HI7
    by_cases hlt : j < os.length
    · obtain ⟨b, off, rfl, c0, c1, c2, c3, hks, hon⟩ := (HOS.out.below HI.out.below) j hlt
      obtain ⟨o, ho⟩ : ∃ o, o = os[j] := ⟨_, rfl⟩
      rw [← ho] at c0 c1 c2 c3 hks hon
      obtain ⟨kd, on, k, vl⟩ := o
      dsimp only at c0 c1 c2 c3 hks hon
      clear ho
      obtain ⟨w8, HW8⟩ : ∃ w8, Hid (w8 = wr.alloc (.cells #[.int .i64 kd, .int .i64 on, .string k, .int .i64 vl] 43)) := ⟨_, rfl⟩
      have b8 : Below wr.heap.size wr w8 := by rw [HW8.out]; exact (Below.refl _ _).alloc (Nat.le_refl _) _
      have HI8 : Hid (RuI w j rs (.slice ta rs.length tc) (.slice ma rs.length mc) w8) := HI.out.keep b8
      have HO8 : Hid (w8.heap[wr.heap.size]? = some (.cells #[.int .i64 kd, .int .i64 on, .string k, .int .i64 vl] 43)) := by rw [HW8.out]; exact heap_alloc_new _ _
      have HPL := place_calls on rs.length w8 hr0 (by omega) hon
      obtain ⟨ob, hob⟩ : ∃ ob, ob = wr.heap.size := ⟨_, rfl⟩
      rw [← hob] at HO8
      have hw8 := HW8.out
      rw [hw8] at HPL
      have p0 : w8.cell? ⟨ob, 0, none⟩ = some (.int .i64 kd) := by rw [cell_of_blk HO8.out]; rfl
      clear b8 HI hon hw8
      go_wp2_with fail
      refine HPL.mono ?_
      clear HPL
      rintro e _ ⟨⟨ix, hi, rfl⟩, rfl⟩
      rw [← HW8.out, ← hob]
      clear HW8 hob c0 c1 c2 c3
      have i1 : (0 : Int) ≤ (ix : Int) ∧ (ix : Int) < (rs.length : Int) := by omega
      obtain ⟨g, b, hta, hma, t0, m0, m1, m2, m3, m4⟩ := HI8.out.at hi
      obtain ⟨r, hr⟩ : ∃ r, r = rs[ix] := ⟨_, rfl⟩
      have HKR : Hid (GrP w w8 r.tb r.T r.ne j r.es r.d) := by show GrP _ _ _ _ _ _ _ _; rw [hr]; exact HI8.out.kept _ (List.getElem_mem hi)
      rw [← hr] at t0 m0 m1 m2 m3 m4
      have o2 : w8.cell? ⟨ob, 2, none⟩ = some (.string k) := by rw [cell_of_blk HO8.out]; rfl
      subst hta hma
      clear hr
      by_cases hk : kd = 0
      · have e0 : (kd == 0) = true := by rw [beq_iff_eq]; exact hk
        have HST0 : ∀ W, Below w8.heap.size w8 W → _ := fun W hW => step_calls r j w W (HKR.out.keep hW) kd on k vl z hks (by omega)
        obtain ⟨es2, hes2⟩ : ∃ e, e = if kd = 0 then insE r.es k vl else delE r.es k := ⟨_, rfl⟩
        rw [← hes2] at HST0
        have HST : Hid (∀ W, Below w8.heap.size w8 W → Calls Try.prog 15 #[.pointer (some ⟨r.tb, 0, none⟩), .agg #[.slice r.d.k.ao r.es.length r.d.k.cap, .slice r.d.v.ao r.es.length r.d.v.cap, .slice r.d.l.ao r.es.length r.d.l.cap, .slice r.d.p.ao (pathsOf r.es).length r.d.p.cap, .slice r.d.m.ao (pathsOf r.es).length r.d.m.cap], .agg #[.int .i64 kd, .int .i64 on, .string k, .int .i64 vl], .int .i64 z] W fun e w' => StP w (j + 1) es2 e W w') := HST0
        clear HST0 hk hes2
        go_wp2_with fail
        have p1 : w8.cell? ⟨ob, 1, none⟩ = some (.int .i64 on) := by rw [cell_of_blk HO8.out]; rfl
        have p2 : w8.cell? ⟨ob, 2, none⟩ = some (.string k) := by rw [cell_of_blk HO8.out]; rfl
        have p3 : w8.cell? ⟨ob, 3, none⟩ = some (.int .i64 vl) := by rw [cell_of_blk HO8.out]; rfl
        have hw8 : w.heap.size ≤ w8.heap.size := HI8.out.below.size
        refine wp_region_V 21 (JJ w8) (RR w w8 (j + 1) es2 (.slice (some ⟨g, 0, none⟩) rs.length tc) (.slice (some ⟨b, 0, none⟩) rs.length mc) ix g b r (.agg #[.int .i64 kd, .int .i64 on, .string k, .int .i64 vl]) z) (by kernel_rfl) rfl (by kernel_rfl) (by kernel_rfl) [some 42, some 43, some 44, some 45, some 46, some 47, some 48, some 49, some 50, some 51, some 52, some 41, some 53, some 54, some 55, some 56, some 11, some 10, none, some 12, some 13] (by kernel_rfl) ?J0A ?hopA ?tailA
        case J0A => exact fun W vs hW => ⟨hW, fun h => by cases h⟩
        case hopA =>
          intro i o hi ho a W ls vs hJ hlf hs hd hall
          have hB0 := hJ.1
          match i, hi, ho, hd, hlf, hall with
          | 0, _, ho, hd, hlf, hall =>
            obtain rfl := Option.some.inj ho
            refine ⟨.inl rfl, ?_⟩
            exact f_move rfl ((hs 5 (notDst (by kernel_rfl))).trans rfl) ⟨_, rfl, rfl, hJ.next (by decide) hlf hJ.1, fun _ _ _ _ h => h⟩
          | 1, _, ho, hd, hlf, hall =>
            obtain rfl := Option.some.inj ho
            refine ⟨.inl rfl, ?_⟩
            exact f_move rfl ((hs 9 (notDst (by kernel_rfl))).trans rfl) ⟨_, rfl, rfl, hJ.next (by decide) hlf hJ.1, fun _ _ _ _ h => h⟩
          | 2, _, ho, hd, hlf, hall =>
            obtain rfl := Option.some.inj ho
            refine ⟨.inl rfl, ?_⟩
            have e0 : a.eval (.tmp 42) = .slice (some ⟨g, 0, none⟩) rs.length tc := (hd 0 42 (by kernel_rfl) (by kernel_rfl)).1
            have e1 : a.eval (.tmp 43) = .int .i64 (ix : Int) := (hd 1 43 (by kernel_rfl) (by kernel_rfl)).1
            exact wp_valF (v := .pointer (some ⟨g, ix, none⟩)) (by unfold execOp; dsimp only; simp only [e0, e1]; go_simp) ⟨_, rfl, rfl, hJ.next (by decide) hlf hJ.1, fun _ _ _ _ h => h⟩
          | 3, _, ho, hd, hlf, hall =>
            obtain rfl := Option.some.inj ho
            refine ⟨.inl rfl, ?_⟩
            have e0 : a.eval (.tmp 44) = .pointer (some ⟨g, ix, none⟩) := (hd 2 44 (by kernel_rfl) (by kernel_rfl)).1
            have hc := (hB0.cell (World.block_lt_of_cell? w8 _ t0)).trans t0
            exact wp_valF (v := .pointer (some ⟨r.tb, 0, none⟩)) (by unfold execOp; dsimp only; simp only [e0]; simp [hc, go_sem]) ⟨_, rfl, rfl, hJ.next (by decide) hlf hJ.1, fun _ _ _ _ h => h⟩
          | 4, _, ho, hd, hlf, hall =>
            obtain rfl := Option.some.inj ho
            refine ⟨.inl rfl, ?_⟩
            exact f_move rfl ((hs 6 (notDst (by kernel_rfl))).trans rfl) ⟨_, rfl, rfl, hJ.next (by decide) hlf hJ.1, fun _ _ _ _ h => h⟩
          | 5, _, ho, hd, hlf, hall =>
            obtain rfl := Option.some.inj ho
            refine ⟨.inl rfl, ?_⟩
            exact f_move rfl ((hs 9 (notDst (by kernel_rfl))).trans rfl) ⟨_, rfl, rfl, hJ.next (by decide) hlf hJ.1, fun _ _ _ _ h => h⟩
          | 6, _, ho, hd, hlf, hall =>
            obtain rfl := Option.some.inj ho
            refine ⟨.inl rfl, ?_⟩
            have e0 : a.eval (.tmp 46) = .slice (some ⟨b, 0, none⟩) rs.length mc := (hd 4 46 (by kernel_rfl) (by kernel_rfl)).1
            have e1 : a.eval (.tmp 47) = .int .i64 (ix : Int) := (hd 5 47 (by kernel_rfl) (by kernel_rfl)).1
            exact wp_valF (v := .pointer (some ⟨b, ix * 5, none⟩)) (by unfold execOp; dsimp only; simp only [e0, e1]; go_simp) ⟨_, rfl, rfl, hJ.next (by decide) hlf hJ.1, fun _ _ _ _ h => h⟩
          | 7, _, ho, hd, hlf, hall =>
            obtain rfl := Option.some.inj ho
            refine ⟨.inl rfl, ?_⟩
            have e0 : a.eval (.tmp 48) = .pointer (some ⟨b, ix * 5, none⟩) := (hd 6 48 (by kernel_rfl) (by kernel_rfl)).1
            have hc0 := (hB0.cell (World.block_lt_of_cell? w8 _ m0)).trans m0
            have hc1 := (hB0.cell (World.block_lt_of_cell? w8 _ m1)).trans m1
            have hc2 := (hB0.cell (World.block_lt_of_cell? w8 _ m2)).trans m2
            have hc3 := (hB0.cell (World.block_lt_of_cell? w8 _ m3)).trans m3
            have hc4 := (hB0.cell (World.block_lt_of_cell? w8 _ m4)).trans m4
            exact wp_valF (v := .agg #[.slice r.d.k.ao r.es.length r.d.k.cap, .slice r.d.v.ao r.es.length r.d.v.cap, .slice r.d.l.ao r.es.length r.d.l.cap, .slice r.d.p.ao (pathsOf r.es).length r.d.p.cap, .slice r.d.m.ao (pathsOf r.es).length r.d.m.cap]) (by unfold execOp; dsimp only; simp only [e0]; simp [hc0, hc1, hc2, hc3, hc4, go_sem, Addr.add]) ⟨_, rfl, rfl, hJ.next (by decide) hlf hJ.1, fun _ _ _ _ h => h⟩
          | 8, _, ho, hd, hlf, hall =>
            obtain rfl := Option.some.inj ho
            refine ⟨.inl rfl, ?_⟩
            have e0 : a.eval (.tmp 8) = .pointer (some ⟨ob, 0, none⟩) := (hs 8 (notDst (by kernel_rfl))).trans rfl
            have hblk := (hB0.block _ (lt_of_heap HO8.out)).trans HO8.out
            have hc0 : W.cell? ⟨ob, 0, none⟩ = some (.int .i64 kd) := by rw [cell_of_blk hblk]; rfl
            have hc1 : W.cell? ⟨ob, 1, none⟩ = some (.int .i64 on) := by rw [cell_of_blk hblk]; rfl
            have hc2 : W.cell? ⟨ob, 2, none⟩ = some (.string k) := by rw [cell_of_blk hblk]; rfl
            have hc3 : W.cell? ⟨ob, 3, none⟩ = some (.int .i64 vl) := by rw [cell_of_blk hblk]; rfl
            exact wp_valF (v := .agg #[.int .i64 kd, .int .i64 on, .string k, .int .i64 vl]) (by unfold execOp; dsimp only; simp only [e0]; simp [hc0, hc1, hc2, hc3, go_sem, Addr.add]) ⟨_, rfl, rfl, hJ.next (by decide) hlf hJ.1, fun _ _ _ _ h => h⟩
          | 9, _, ho, hd, hlf, hall =>
            obtain rfl := Option.some.inj ho
            refine ⟨.inl rfl, ?_⟩
            exact f_move rfl ((hs 4 (notDst (by kernel_rfl))).trans rfl) ⟨_, rfl, rfl, hJ.next (by decide) hlf hJ.1, fun _ _ _ _ h => h⟩
          | 10, _, ho, hd, hlf, hall =>
            obtain rfl := Option.some.inj ho
            refine ⟨.inl rfl, ?_⟩
            have e0 : a.eval (.tmp 45) = .pointer (some ⟨r.tb, 0, none⟩) := (hd 3 45 (by kernel_rfl) (by kernel_rfl)).1
            have e1 : a.eval (.tmp 49) = .agg #[.slice r.d.k.ao r.es.length r.d.k.cap, .slice r.d.v.ao r.es.length r.d.v.cap, .slice r.d.l.ao r.es.length r.d.l.cap, .slice r.d.p.ao (pathsOf r.es).length r.d.p.cap, .slice r.d.m.ao (pathsOf r.es).length r.d.m.cap] := (hd 7 49 (by kernel_rfl) (by kernel_rfl)).1
            have e2 : a.eval (.tmp 50) = .agg #[.int .i64 kd, .int .i64 on, .string k, .int .i64 vl] := (hd 8 50 (by kernel_rfl) (by kernel_rfl)).1
            have e3 : a.eval (.tmp 51) = .int .i64 z := (hd 9 51 (by kernel_rfl) (by kernel_rfl)).1
            refine wp_callF (f := 15) (vals := #[.pointer (some ⟨r.tb, 0, none⟩), .agg #[.slice r.d.k.ao r.es.length r.d.k.cap, .slice r.d.v.ao r.es.length r.d.v.cap, .slice r.d.l.ao r.es.length r.d.l.cap, .slice r.d.p.ao (pathsOf r.es).length r.d.p.cap, .slice r.d.m.ao (pathsOf r.es).length r.d.m.cap], .agg #[.int .i64 kd, .int .i64 on, .string k, .int .i64 vl], .int .i64 z]) rfl (map4 e0 e1 e2 e3) (by go_simp) ?_
            refine (HST.out W hB0).mono ?_
            rintro e w' ⟨tb, T, ne, d, z', rfl, hb, h2, h3, h4⟩
            exact ⟨_, rfl, _, rfl, ⟨tb, T, ne, d, z', rfl, h2, h3, h4⟩, hJ.next (by decide) hlf (hB0.trans (hb.mono hB0.size)), fun _ _ _ _ h => RR.mono h hb⟩
          | 11, _, ho, hd, hlf, hall =>
            obtain rfl := Option.some.inj ho
            refine ⟨.inl rfl, ?_⟩
            obtain ⟨tb, T, ne, d, z0, h1, h2, h3, h4⟩ : TupR w (j + 1) es2 (a.eval (.tmp 52)) W := (hd 10 52 (by kernel_rfl) (by kernel_rfl)).1
            exact f_move rfl h1 ⟨_, rfl, ⟨tb, T, ne, d, z0, rfl, h2, h3, h4⟩, hJ.next (by decide) hlf hJ.1, fun _ _ _ _ h => h⟩
          | 12, _, ho, hd, hlf, hall =>
            obtain rfl := Option.some.inj ho
            refine ⟨.inl rfl, ?_⟩
            obtain ⟨tb, T, ne, d, z0, h1, h2, h3, h4⟩ : TupR w (j + 1) es2 (a.eval (.tmp 41)) W := (hd 11 41 (by kernel_rfl) (by kernel_rfl)).1
            exact f_ext (k := 0) rfl h1 rfl ⟨_, rfl, ⟨tb, T, ne, rfl, h2, h3⟩, hJ.next (by decide) hlf hJ.1, fun _ _ _ _ h => h⟩
          | 13, _, ho, hd, hlf, hall =>
            obtain rfl := Option.some.inj ho
            refine ⟨.inl rfl, ?_⟩
            obtain ⟨tb, T, ne, d, z0, h1, h2, h3, h4⟩ : TupR w (j + 1) es2 (a.eval (.tmp 41)) W := (hd 11 41 (by kernel_rfl) (by kernel_rfl)).1
            exact f_ext (k := 1) rfl h1 rfl ⟨_, rfl, ⟨d, rfl, h4⟩, hJ.next (by decide) hlf hJ.1, fun _ _ _ _ h => h⟩
          | 14, _, ho, hd, hlf, hall =>
            obtain rfl := Option.some.inj ho
            refine ⟨.inl rfl, ?_⟩
            obtain ⟨tb, T, ne, d, z0, h1, h2, h3, h4⟩ : TupR w (j + 1) es2 (a.eval (.tmp 41)) W := (hd 11 41 (by kernel_rfl) (by kernel_rfl)).1
            exact f_ext (k := 2) rfl h1 rfl ⟨_, rfl, ⟨z0, rfl⟩, hJ.next (by decide) hlf hJ.1, fun _ _ _ _ h => h⟩
          | 15, _, ho, hd, hlf, hall =>
            obtain rfl := Option.some.inj ho
            refine ⟨.inl rfl, ?_⟩
            obtain ⟨tb, T, ne, d, z0, h1, h2, h3, h4⟩ : TupR w (j + 1) es2 (a.eval (.tmp 41)) W := (hd 11 41 (by kernel_rfl) (by kernel_rfl)).1
            exact f_ext (k := 3) rfl h1 rfl ⟨_, rfl, rfl, hJ.next (by decide) hlf hJ.1, fun _ _ _ _ h => h⟩
          | 16, _, ho, hd, hlf, hall =>
            obtain rfl := Option.some.inj ho
            refine ⟨.inl rfl, ?_⟩
            have hb : Below W.heap.size W (W.alloc (.cells #[.slice none 0 0, .slice none 0 0, .slice none 0 0, .slice none 0 0, .slice none 0 0] 28)) := (Below.refl _ _).alloc (Nat.le_refl _) _
            refine wp_allocF (T := 28) (cs := #[.slice none 0 0, .slice none 0 0, .slice none 0 0, .slice none 0 0, .slice none 0 0]) rfl (by go_simp) ?_
            exact ⟨_, rfl, ⟨W.heap.size, _, _, _, _, _, rfl, hB0.size, heap_alloc_new _ _, noPtr5 _ _ _ _ _ _ _ _ _ _ _ _ _ _ _⟩, hJ.next (by decide) hlf (hB0.trans (hb.mono hB0.size)), fun _ _ _ _ h => RR.mono h hb⟩
          | 17, _, ho, hd, hlf, hall =>
            obtain rfl := Option.some.inj ho
            refine ⟨.inl rfl, ?_⟩
            obtain ⟨tb, T, ne, h1, h2, h3⟩ : PtrR w (j + 1) es2 (a.eval (.tmp 53)) W := (hd 12 53 (by kernel_rfl) (by kernel_rfl)).1
            exact f_move_as rfl h1 ⟨_, rfl, ⟨tb, T, ne, rfl, h2, h3⟩, hJ.next (by decide) hlf hJ.1, fun _ _ _ _ h => h⟩
          | 18, _, ho, hd, hlf, hall =>
            obtain rfl := Option.some.inj ho
            refine ⟨.inl rfl, ?_⟩
            obtain ⟨c, x0, x1, x2, x3, x4, h1, h2, h3, h4⟩ : BoxR w8.heap.size (a.eval (.tmp 11)) W := (hd 16 11 (by kernel_rfl) (by kernel_rfl)).1
            have hv16 : a.eval (.tmp 11) = vs 16 := (hd 16 11 (by kernel_rfl) (by kernel_rfl)).2
            obtain ⟨d, g1, g2⟩ : AggR es2 (a.eval (.tmp 54)) W := (hd 13 54 (by kernel_rfl) (by kernel_rfl)).1
            refine f_storeTree rfl h1 g1 h3 ⟨.pointer (some ⟨c, 0, none⟩), rfl, ⟨c, d, rfl, h2, put5_blk h3 rfl _ _ _ _ _, put5_doc h3 rfl _ _ _ _ _ g2⟩, ⟨put5_below hB0 h2 _ _ _ _ _, fun _ => ⟨?_, ?_⟩⟩, fun j u _ hj h => RR.put hw8 h2 h3 h4 _ _ _ _ _ _ _ _ _ _ _ _ _ _ _ (fun e => by rw [e, hlf] at hj; cases hj) h⟩
            · show Value.pointer _ = vs 16
              rw [← hv16, h1]
            · show ls 16 = true
              exact hall 16 (by kernel_rfl)
          | 19, _, ho, hd, hlf, hall =>
            obtain rfl := Option.some.inj ho
            refine ⟨.inl rfl, ?_⟩
            obtain ⟨z1, h1⟩ : ∃ z1 : Int, a.eval (.tmp 55) = .int .i64 z1 := (hd 14 55 (by kernel_rfl) (by kernel_rfl)).1
            exact f_move_as rfl h1 ⟨_, rfl, ⟨z1, rfl⟩, hJ.next (by decide) hlf hJ.1, fun _ _ _ _ h => h⟩
          | 20, _, ho, hd, hlf, hall =>
            obtain rfl := Option.some.inj ho
            refine ⟨.inl rfl, ?_⟩
            have h1 : a.eval (.tmp 56) = .bool true := (hd 15 56 (by kernel_rfl) (by kernel_rfl)).1
            exact f_move_as rfl h1 ⟨_, rfl, rfl, hJ.next (by decide) hlf hJ.1, fun _ _ _ _ h => h⟩
          | n + 21, hi, _, _, _, _ => exact absurd hi (by omega)
        case tailA =>
          intro vs wz ls hls hJ hR
          obtain ⟨tb2, T2, ne2, r17, hH, hC⟩ : PtrR w (j + 1) es2 (vs 17) wz := hR 17 (by decide)
          obtain ⟨c, d2, r18, hc1, hc2, hD⟩ : PutR w8.heap.size es2 (vs 18) wz := hR 18 (by decide)
          have r16 : vs 16 = .pointer (some ⟨c, 0, none⟩) := by rw [← (hJ.2 (hls 18 (by decide))).1]; exact r18
          obtain ⟨z2, r19⟩ : ∃ z2 : Int, vs 19 = .int .i64 z2 := hR 19 (by decide)
          have r20 : vs 20 = .bool true := hR 20 (by decide)
          obtain ⟨q2, hq2⟩ : ∃ q, q = (pathsOf es2).length := ⟨_, rfl⟩
          have HQ2 : Hid (q2 = (pathsOf es2).length) := hq2
          rw [← hq2] at hc2
          have HCZ : Hid (wz.heap[c]? = some (.cells #[.slice d2.k.ao es2.length d2.k.cap, .slice d2.v.ao es2.length d2.v.cap, .slice d2.l.ao es2.length d2.l.cap, .slice d2.p.ao q2 d2.p.cap, .slice d2.m.ao q2 d2.m.cap] 28)) := hc2
          have HGZ : Hid (GrP w wz tb2 T2 ne2 (j + 1) es2 d2) := ⟨hH, hC, hD⟩
          have HIZ : Hid (RuI w (j + 1) rs (.slice (some ⟨g, 0, none⟩) rs.length tc) (.slice (some ⟨b, 0, none⟩) rs.length mc) wz) := (HI8.out.keep hJ.1).mono (Nat.le_succ _)
          clear hq2 hH hC hD hc1 hc2 r18 hls hJ hR HI8 HKR HST HO8 t0 m0 m1 m2 m3 m4 o2 p0 p1 p2 p3
          simp only [putL, put_lit, List.setIfInBounds_toArray, List.set_cons_succ, List.set_cons_zero]
          rw [r16, r17, r19, r20]
          clear r16 r17 r19 r20
          obtain ⟨r2, hr2⟩ : ∃ r2 : Rv, r2 = ⟨tb2, T2, ne2, es2, d2⟩ := ⟨_, rfl⟩
          have HR2 : Hid (r2 = ⟨tb2, T2, ne2, es2, d2⟩) := hr2
          have hbz := HIZ.out.below.size
          have htb2 : r2.tb = tb2 := by rw [hr2]
          have hcells : r2.cells = [.slice d2.k.ao es2.length d2.k.cap, .slice d2.v.ao es2.length d2.v.cap, .slice d2.l.ao es2.length d2.l.cap, .slice d2.p.ao q2 d2.p.cap, .slice d2.m.ao q2 d2.m.cap] := by rw [hr2, HQ2.out]; rfl
          have HCE : Hid (r2.cells = [.slice d2.k.ao es2.length d2.k.cap, .slice d2.v.ao es2.length d2.v.cap, .slice d2.l.ao es2.length d2.l.cap, .slice d2.p.ao q2 d2.p.cap, .slice d2.m.ao q2 d2.m.cap]) := hcells
          clear hr2 hcells
          go_wp2_with (at_builtin; refine append_tr rs r2 wz rfl (.tmp 59) (.tmp 61) rfl w.heap.size _ rfl tb2 htb2 rfl HIZ.out.trs HIZ.out.trq (by omega) hbz ?_)
          intro v1 w10 ho1 hg1 hq1
          obtain ⟨k1, a1, b1⟩ := HIZ.out.growT hg1
          have c10 : w10.heap[c]? = some (.cells #[.slice d2.k.ao es2.length d2.k.cap, .slice d2.v.ao es2.length d2.v.cap, .slice d2.l.ao es2.length d2.l.cap, .slice d2.p.ao q2 d2.p.cap, .slice d2.m.ao q2 d2.m.cap] 28) := (k1 c (lt_of_heap HCZ.out) (fun hx => own_ne (HIZ.out.trs.typed c (by simpa using hx)) HCZ.out (by decide) rfl)).trans HCZ.out
          have f0 : w10.cell? ⟨c, 0, none⟩ = some (.slice d2.k.ao es2.length d2.k.cap) := by rw [cell_of_blk c10]; rfl
          have f1 : w10.cell? ⟨c, 1, none⟩ = some (.slice d2.v.ao es2.length d2.v.cap) := by rw [cell_of_blk c10]; rfl
          have f2 : w10.cell? ⟨c, 2, none⟩ = some (.slice d2.l.ao es2.length d2.l.cap) := by rw [cell_of_blk c10]; rfl
          have f3 : w10.cell? ⟨c, 3, none⟩ = some (.slice d2.p.ao q2 d2.p.cap) := by rw [cell_of_blk c10]; rfl
          have f4 : w10.cell? ⟨c, 4, none⟩ = some (.slice d2.m.ao q2 d2.m.cap) := by rw [cell_of_blk c10]; rfl
          obtain ⟨ta2, tc2, hv1⟩ := ho1.shape
          rw [List.length_append, List.length_map, List.length_singleton] at hv1
          subst hv1
          have hm10 : w10.ownsRow w.heap.size 28 5 (.slice (some ⟨b, 0, none⟩) rs.length mc) rs.length (rs.flatMap Rv.cells) ∧ OwnC QSl 28 w10 (.slice (some ⟨b, 0, none⟩) rs.length mc) := by
            have n1 : ∀ g1, (Value.slice (some ⟨b, 0, none⟩) rs.length mc).ownBlock = some g1 → ¬ g1 ∈ (Value.slice (some ⟨g, 0, none⟩) rs.length tc).ownBlock.toList := fun g1 hg hx => by
              obtain ⟨cs, hc⟩ := ownsRow_typed HIZ.out.mod g1 hg
              exact own_ne (HIZ.out.trs.typed g1 (by simpa using hx)) hc (by decide) rfl
            refine ⟨World.ownsRow.kept HIZ.out.mod hg1.grown (.inr fun e => n1 b rfl (by rw [← e]; simp [Value.ownBlock])), HIZ.out.moq.kept (ownsRow_typed HIZ.out.mod) (fun g1 hg => k1 g1 (World.ownsRow.lt HIZ.out.mod g1 hg).2 (n1 g1 hg))⟩
          have HM10 : Hid (w10.ownsRow w.heap.size 28 5 (.slice (some ⟨b, 0, none⟩) rs.length mc) rs.length (rs.flatMap Rv.cells) ∧ OwnC QSl 28 w10 (.slice (some ⟨b, 0, none⟩) rs.length mc)) := hm10
          have HG10 : Hid (OwnV w10 w.heap.size 24 (.slice ta2 (rs.length + 1) tc2) (rs.map Rv.ptr ++ [r2.ptr]) ∧ Grew wz w10 (.slice (some ⟨g, 0, none⟩) rs.length tc) (.slice ta2 (rs.length + 1) tc2) ∧ OwnC (QTr (rs ++ [r2])) 24 w10 (.slice ta2 (rs.length + 1) tc2)) := ⟨ho1, hg1, hq1⟩
          have hb10 := b1.size
          clear ho1 hg1 hq1 k1 a1 b1 c10 hm10
          go_wp2_with (at_builtin; refine append_md rs r2 w10 rfl (.tmp 63) (.tmp 65) rfl w.heap.size _ rfl _ _ _ _ _ HCE.out rfl HM10.out.1 HM10.out.2 (by omega) hb10 ?_)
          intro v2 w11 ho2 hg2 hq2
          have HI11 : Hid (RuI w (j + 1) (rs ++ [r2]) (.slice ta2 (rs.length + 1) tc2) v2 w11) := HIZ.out.push (r := r2) (by rw [HR2.out]; exact HGZ.out) HG10.out.1 HG10.out.2.1 HG10.out.2.2 ho2 hg2 hq2
          obtain ⟨ma2, mc2, hv2⟩ : ∃ ma2 mc2, v2 = .slice ma2 (rs.length + 1) mc2 := by
            rcases ho2.2 with ⟨hv, h0⟩ | ⟨g2, cap2, cur2, hv, -⟩
            · omega
            · exact ⟨_, _, hv⟩
          subst hv2
          clear ho2 hg2 hq2 f0 f1 f2 f3 f4 HIZ HGZ HCZ HM10 HG10
          go_wp2_with fail
          go_roundw
          case rel => exact ⟨j + 1, rs ++ [r2], z2, ta2, ma2, tc2, mc2, by omega, by simp, by simp; omega, rfl, by simp, by simp, by go_num, by simpa using HI11⟩
          case measure => simp [intOf]; omega
      have hk0 := hk
      clear hk
      by_cases hk : kd = 1
      · have e0 : (kd == 0) = false := by rw [beq_eq_false_iff_ne]; omega
        have e1 : (kd == 1) = true := by rw [beq_iff_eq]; exact hk
        have HST0 : ∀ W, Below w8.heap.size w8 W → _ := fun W hW => step_calls r j w W (HKR.out.keep hW) kd on k vl z hks (by omega)
        obtain ⟨es2, hes2⟩ : ∃ e, e = if kd = 0 then insE r.es k vl else delE r.es k := ⟨_, rfl⟩
        rw [← hes2] at HST0
        have HST : Hid (∀ W, Below w8.heap.size w8 W → Calls Try.prog 15 #[.pointer (some ⟨r.tb, 0, none⟩), .agg #[.slice r.d.k.ao r.es.length r.d.k.cap, .slice r.d.v.ao r.es.length r.d.v.cap, .slice r.d.l.ao r.es.length r.d.l.cap, .slice r.d.p.ao (pathsOf r.es).length r.d.p.cap, .slice r.d.m.ao (pathsOf r.es).length r.d.m.cap], .agg #[.int .i64 kd, .int .i64 on, .string k, .int .i64 vl], .int .i64 z] W fun e w' => StP w (j + 1) es2 e W w') := HST0
        clear HST0 hk hes2
        go_wp2_with fail
        have p1 : w8.cell? ⟨ob, 1, none⟩ = some (.int .i64 on) := by rw [cell_of_blk HO8.out]; rfl
        have p2 : w8.cell? ⟨ob, 2, none⟩ = some (.string k) := by rw [cell_of_blk HO8.out]; rfl
        have p3 : w8.cell? ⟨ob, 3, none⟩ = some (.int .i64 vl) := by rw [cell_of_blk HO8.out]; rfl
        have hw8 : w.heap.size ≤ w8.heap.size := HI8.out.below.size
        refine wp_region_V 21 (JJ w8) (RR w w8 (j + 1) es2 (.slice (some ⟨g, 0, none⟩) rs.length tc) (.slice (some ⟨b, 0, none⟩) rs.length mc) ix g b r (.agg #[.int .i64 kd, .int .i64 on, .string k, .int .i64 vl]) z) (by kernel_rfl) rfl (by kernel_rfl) (by kernel_rfl) [some 42, some 43, some 44, some 45, some 46, some 47, some 48, some 49, some 50, some 51, some 52, some 41, some 53, some 54, some 55, some 56, some 11, some 10, none, some 12, some 13] (by kernel_rfl) ?J0B ?hopB ?tailB
        case J0B => exact fun W vs hW => ⟨hW, fun h => by cases h⟩
        case hopB =>
          intro i o hi ho a W ls vs hJ hlf hs hd hall
          have hB0 := hJ.1
          match i, hi, ho, hd, hlf, hall with
          | 0, _, ho, hd, hlf, hall =>
            obtain rfl := Option.some.inj ho
            refine ⟨.inl rfl, ?_⟩
            exact f_move rfl ((hs 5 (notDst (by kernel_rfl))).trans rfl) ⟨_, rfl, rfl, hJ.next (by decide) hlf hJ.1, fun _ _ _ _ h => h⟩
          | 1, _, ho, hd, hlf, hall =>
            obtain rfl := Option.some.inj ho
            refine ⟨.inl rfl, ?_⟩
            exact f_move rfl ((hs 9 (notDst (by kernel_rfl))).trans rfl) ⟨_, rfl, rfl, hJ.next (by decide) hlf hJ.1, fun _ _ _ _ h => h⟩
          | 2, _, ho, hd, hlf, hall =>
            obtain rfl := Option.some.inj ho
            refine ⟨.inl rfl, ?_⟩
            have e0 : a.eval (.tmp 42) = .slice (some ⟨g, 0, none⟩) rs.length tc := (hd 0 42 (by kernel_rfl) (by kernel_rfl)).1
            have e1 : a.eval (.tmp 43) = .int .i64 (ix : Int) := (hd 1 43 (by kernel_rfl) (by kernel_rfl)).1
            exact wp_valF (v := .pointer (some ⟨g, ix, none⟩)) (by unfold execOp; dsimp only; simp only [e0, e1]; go_simp) ⟨_, rfl, rfl, hJ.next (by decide) hlf hJ.1, fun _ _ _ _ h => h⟩
          | 3, _, ho, hd, hlf, hall =>
            obtain rfl := Option.some.inj ho
            refine ⟨.inl rfl, ?_⟩
            have e0 : a.eval (.tmp 44) = .pointer (some ⟨g, ix, none⟩) := (hd 2 44 (by kernel_rfl) (by kernel_rfl)).1
            have hc := (hB0.cell (World.block_lt_of_cell? w8 _ t0)).trans t0
            exact wp_valF (v := .pointer (some ⟨r.tb, 0, none⟩)) (by unfold execOp; dsimp only; simp only [e0]; simp [hc, go_sem]) ⟨_, rfl, rfl, hJ.next (by decide) hlf hJ.1, fun _ _ _ _ h => h⟩
          | 4, _, ho, hd, hlf, hall =>
            obtain rfl := Option.some.inj ho
            refine ⟨.inl rfl, ?_⟩
            exact f_move rfl ((hs 6 (notDst (by kernel_rfl))).trans rfl) ⟨_, rfl, rfl, hJ.next (by decide) hlf hJ.1, fun _ _ _ _ h => h⟩
          | 5, _, ho, hd, hlf, hall =>
            obtain rfl := Option.some.inj ho
            refine ⟨.inl rfl, ?_⟩
            exact f_move rfl ((hs 9 (notDst (by kernel_rfl))).trans rfl) ⟨_, rfl, rfl, hJ.next (by decide) hlf hJ.1, fun _ _ _ _ h => h⟩
          | 6, _, ho, hd, hlf, hall =>
            obtain rfl := Option.some.inj ho
            refine ⟨.inl rfl, ?_⟩
            have e0 : a.eval (.tmp 46) = .slice (some ⟨b, 0, none⟩) rs.length mc := (hd 4 46 (by kernel_rfl) (by kernel_rfl)).1
            have e1 : a.eval (.tmp 47) = .int .i64 (ix : Int) := (hd 5 47 (by kernel_rfl) (by kernel_rfl)).1
            exact wp_valF (v := .pointer (some ⟨b, ix * 5, none⟩)) (by unfold execOp; dsimp only; simp only [e0, e1]; go_simp) ⟨_, rfl, rfl, hJ.next (by decide) hlf hJ.1, fun _ _ _ _ h => h⟩
          | 7, _, ho, hd, hlf, hall =>
            obtain rfl := Option.some.inj ho
            refine ⟨.inl rfl, ?_⟩
            have e0 : a.eval (.tmp 48) = .pointer (some ⟨b, ix * 5, none⟩) := (hd 6 48 (by kernel_rfl) (by kernel_rfl)).1
            have hc0 := (hB0.cell (World.block_lt_of_cell? w8 _ m0)).trans m0
            have hc1 := (hB0.cell (World.block_lt_of_cell? w8 _ m1)).trans m1
            have hc2 := (hB0.cell (World.block_lt_of_cell? w8 _ m2)).trans m2
            have hc3 := (hB0.cell (World.block_lt_of_cell? w8 _ m3)).trans m3
            have hc4 := (hB0.cell (World.block_lt_of_cell? w8 _ m4)).trans m4
            exact wp_valF (v := .agg #[.slice r.d.k.ao r.es.length r.d.k.cap, .slice r.d.v.ao r.es.length r.d.v.cap, .slice r.d.l.ao r.es.length r.d.l.cap, .slice r.d.p.ao (pathsOf r.es).length r.d.p.cap, .slice r.d.m.ao (pathsOf r.es).length r.d.m.cap]) (by unfold execOp; dsimp only; simp only [e0]; simp [hc0, hc1, hc2, hc3, hc4, go_sem, Addr.add]) ⟨_, rfl, rfl, hJ.next (by decide) hlf hJ.1, fun _ _ _ _ h => h⟩
          | 8, _, ho, hd, hlf, hall =>
            obtain rfl := Option.some.inj ho
            refine ⟨.inl rfl, ?_⟩
            have e0 : a.eval (.tmp 8) = .pointer (some ⟨ob, 0, none⟩) := (hs 8 (notDst (by kernel_rfl))).trans rfl
            have hblk := (hB0.block _ (lt_of_heap HO8.out)).trans HO8.out
            have hc0 : W.cell? ⟨ob, 0, none⟩ = some (.int .i64 kd) := by rw [cell_of_blk hblk]; rfl
            have hc1 : W.cell? ⟨ob, 1, none⟩ = some (.int .i64 on) := by rw [cell_of_blk hblk]; rfl
            have hc2 : W.cell? ⟨ob, 2, none⟩ = some (.string k) := by rw [cell_of_blk hblk]; rfl
            have hc3 : W.cell? ⟨ob, 3, none⟩ = some (.int .i64 vl) := by rw [cell_of_blk hblk]; rfl
            exact wp_valF (v := .agg #[.int .i64 kd, .int .i64 on, .string k, .int .i64 vl]) (by unfold execOp; dsimp only; simp only [e0]; simp [hc0, hc1, hc2, hc3, go_sem, Addr.add]) ⟨_, rfl, rfl, hJ.next (by decide) hlf hJ.1, fun _ _ _ _ h => h⟩
          | 9, _, ho, hd, hlf, hall =>
            obtain rfl := Option.some.inj ho
            refine ⟨.inl rfl, ?_⟩
            exact f_move rfl ((hs 4 (notDst (by kernel_rfl))).trans rfl) ⟨_, rfl, rfl, hJ.next (by decide) hlf hJ.1, fun _ _ _ _ h => h⟩
          | 10, _, ho, hd, hlf, hall =>
            obtain rfl := Option.some.inj ho
            refine ⟨.inl rfl, ?_⟩
            have e0 : a.eval (.tmp 45) = .pointer (some ⟨r.tb, 0, none⟩) := (hd 3 45 (by kernel_rfl) (by kernel_rfl)).1
            have e1 : a.eval (.tmp 49) = .agg #[.slice r.d.k.ao r.es.length r.d.k.cap, .slice r.d.v.ao r.es.length r.d.v.cap, .slice r.d.l.ao r.es.length r.d.l.cap, .slice r.d.p.ao (pathsOf r.es).length r.d.p.cap, .slice r.d.m.ao (pathsOf r.es).length r.d.m.cap] := (hd 7 49 (by kernel_rfl) (by kernel_rfl)).1
            have e2 : a.eval (.tmp 50) = .agg #[.int .i64 kd, .int .i64 on, .string k, .int .i64 vl] := (hd 8 50 (by kernel_rfl) (by kernel_rfl)).1
            have e3 : a.eval (.tmp 51) = .int .i64 z := (hd 9 51 (by kernel_rfl) (by kernel_rfl)).1
            refine wp_callF (f := 15) (vals := #[.pointer (some ⟨r.tb, 0, none⟩), .agg #[.slice r.d.k.ao r.es.length r.d.k.cap, .slice r.d.v.ao r.es.length r.d.v.cap, .slice r.d.l.ao r.es.length r.d.l.cap, .slice r.d.p.ao (pathsOf r.es).length r.d.p.cap, .slice r.d.m.ao (pathsOf r.es).length r.d.m.cap], .agg #[.int .i64 kd, .int .i64 on, .string k, .int .i64 vl], .int .i64 z]) rfl (map4 e0 e1 e2 e3) (by go_simp) ?_
            refine (HST.out W hB0).mono ?_
            rintro e w' ⟨tb, T, ne, d, z', rfl, hb, h2, h3, h4⟩
            exact ⟨_, rfl, _, rfl, ⟨tb, T, ne, d, z', rfl, h2, h3, h4⟩, hJ.next (by decide) hlf (hB0.trans (hb.mono hB0.size)), fun _ _ _ _ h => RR.mono h hb⟩
          | 11, _, ho, hd, hlf, hall =>
            obtain rfl := Option.some.inj ho
            refine ⟨.inl rfl, ?_⟩
            obtain ⟨tb, T, ne, d, z0, h1, h2, h3, h4⟩ : TupR w (j + 1) es2 (a.eval (.tmp 52)) W := (hd 10 52 (by kernel_rfl) (by kernel_rfl)).1
            exact f_move rfl h1 ⟨_, rfl, ⟨tb, T, ne, d, z0, rfl, h2, h3, h4⟩, hJ.next (by decide) hlf hJ.1, fun _ _ _ _ h => h⟩
          | 12, _, ho, hd, hlf, hall =>
            obtain rfl := Option.some.inj ho
            refine ⟨.inl rfl, ?_⟩
            obtain ⟨tb, T, ne, d, z0, h1, h2, h3, h4⟩ : TupR w (j + 1) es2 (a.eval (.tmp 41)) W := (hd 11 41 (by kernel_rfl) (by kernel_rfl)).1
            exact f_ext (k := 0) rfl h1 rfl ⟨_, rfl, ⟨tb, T, ne, rfl, h2, h3⟩, hJ.next (by decide) hlf hJ.1, fun _ _ _ _ h => h⟩
          | 13, _, ho, hd, hlf, hall =>
            obtain rfl := Option.some.inj ho
            refine ⟨.inl rfl, ?_⟩
            obtain ⟨tb, T, ne, d, z0, h1, h2, h3, h4⟩ : TupR w (j + 1) es2 (a.eval (.tmp 41)) W := (hd 11 41 (by kernel_rfl) (by kernel_rfl)).1
            exact f_ext (k := 1) rfl h1 rfl ⟨_, rfl, ⟨d, rfl, h4⟩, hJ.next (by decide) hlf hJ.1, fun _ _ _ _ h => h⟩
          | 14, _, ho, hd, hlf, hall =>
            obtain rfl := Option.some.inj ho
            refine ⟨.inl rfl, ?_⟩
            obtain ⟨tb, T, ne, d, z0, h1, h2, h3, h4⟩ : TupR w (j + 1) es2 (a.eval (.tmp 41)) W := (hd 11 41 (by kernel_rfl) (by kernel_rfl)).1
            exact f_ext (k := 2) rfl h1 rfl ⟨_, rfl, ⟨z0, rfl⟩, hJ.next (by decide) hlf hJ.1, fun _ _ _ _ h => h⟩
          | 15, _, ho, hd, hlf, hall =>
            obtain rfl := Option.some.inj ho
            refine ⟨.inl rfl, ?_⟩
            obtain ⟨tb, T, ne, d, z0, h1, h2, h3, h4⟩ : TupR w (j + 1) es2 (a.eval (.tmp 41)) W := (hd 11 41 (by kernel_rfl) (by kernel_rfl)).1
            exact f_ext (k := 3) rfl h1 rfl ⟨_, rfl, rfl, hJ.next (by decide) hlf hJ.1, fun _ _ _ _ h => h⟩
          | 16, _, ho, hd, hlf, hall =>
            obtain rfl := Option.some.inj ho
            refine ⟨.inl rfl, ?_⟩
            have hb : Below W.heap.size W (W.alloc (.cells #[.slice none 0 0, .slice none 0 0, .slice none 0 0, .slice none 0 0, .slice none 0 0] 28)) := (Below.refl _ _).alloc (Nat.le_refl _) _
            refine wp_allocF (T := 28) (cs := #[.slice none 0 0, .slice none 0 0, .slice none 0 0, .slice none 0 0, .slice none 0 0]) rfl (by go_simp) ?_
            exact ⟨_, rfl, ⟨W.heap.size, _, _, _, _, _, rfl, hB0.size, heap_alloc_new _ _, noPtr5 _ _ _ _ _ _ _ _ _ _ _ _ _ _ _⟩, hJ.next (by decide) hlf (hB0.trans (hb.mono hB0.size)), fun _ _ _ _ h => RR.mono h hb⟩
          | 17, _, ho, hd, hlf, hall =>
            obtain rfl := Option.some.inj ho
            refine ⟨.inl rfl, ?_⟩
            obtain ⟨tb, T, ne, h1, h2, h3⟩ : PtrR w (j + 1) es2 (a.eval (.tmp 53)) W := (hd 12 53 (by kernel_rfl) (by kernel_rfl)).1
            exact f_move_as rfl h1 ⟨_, rfl, ⟨tb, T, ne, rfl, h2, h3⟩, hJ.next (by decide) hlf hJ.1, fun _ _ _ _ h => h⟩
          | 18, _, ho, hd, hlf, hall =>
            obtain rfl := Option.some.inj ho
            refine ⟨.inl rfl, ?_⟩
            obtain ⟨c, x0, x1, x2, x3, x4, h1, h2, h3, h4⟩ : BoxR w8.heap.size (a.eval (.tmp 11)) W := (hd 16 11 (by kernel_rfl) (by kernel_rfl)).1
            have hv16 : a.eval (.tmp 11) = vs 16 := (hd 16 11 (by kernel_rfl) (by kernel_rfl)).2
            obtain ⟨d, g1, g2⟩ : AggR es2 (a.eval (.tmp 54)) W := (hd 13 54 (by kernel_rfl) (by kernel_rfl)).1
            refine f_storeTree rfl h1 g1 h3 ⟨.pointer (some ⟨c, 0, none⟩), rfl, ⟨c, d, rfl, h2, put5_blk h3 rfl _ _ _ _ _, put5_doc h3 rfl _ _ _ _ _ g2⟩, ⟨put5_below hB0 h2 _ _ _ _ _, fun _ => ⟨?_, ?_⟩⟩, fun j u _ hj h => RR.put hw8 h2 h3 h4 _ _ _ _ _ _ _ _ _ _ _ _ _ _ _ (fun e => by rw [e, hlf] at hj; cases hj) h⟩
            · show Value.pointer _ = vs 16
              rw [← hv16, h1]
            · show ls 16 = true
              exact hall 16 (by kernel_rfl)
          | 19, _, ho, hd, hlf, hall =>
            obtain rfl := Option.some.inj ho
            refine ⟨.inl rfl, ?_⟩
            obtain ⟨z1, h1⟩ : ∃ z1 : Int, a.eval (.tmp 55) = .int .i64 z1 := (hd 14 55 (by kernel_rfl) (by kernel_rfl)).1
            exact f_move_as rfl h1 ⟨_, rfl, ⟨z1, rfl⟩, hJ.next (by decide) hlf hJ.1, fun _ _ _ _ h => h⟩
          | 20, _, ho, hd, hlf, hall =>
            obtain rfl := Option.some.inj ho
            refine ⟨.inl rfl, ?_⟩
            have h1 : a.eval (.tmp 56) = .bool true := (hd 15 56 (by kernel_rfl) (by kernel_rfl)).1
            exact f_move_as rfl h1 ⟨_, rfl, rfl, hJ.next (by decide) hlf hJ.1, fun _ _ _ _ h => h⟩
          | n + 21, hi, _, _, _, _ => exact absurd hi (by omega)
        case tailB =>
          intro vs wz ls hls hJ hR
          obtain ⟨tb2, T2, ne2, r17, hH, hC⟩ : PtrR w (j + 1) es2 (vs 17) wz := hR 17 (by decide)
          obtain ⟨c, d2, r18, hc1, hc2, hD⟩ : PutR w8.heap.size es2 (vs 18) wz := hR 18 (by decide)
          have r16 : vs 16 = .pointer (some ⟨c, 0, none⟩) := by rw [← (hJ.2 (hls 18 (by decide))).1]; exact r18
          obtain ⟨z2, r19⟩ : ∃ z2 : Int, vs 19 = .int .i64 z2 := hR 19 (by decide)
          have r20 : vs 20 = .bool true := hR 20 (by decide)
          obtain ⟨q2, hq2⟩ : ∃ q, q = (pathsOf es2).length := ⟨_, rfl⟩
          have HQ2 : Hid (q2 = (pathsOf es2).length) := hq2
          rw [← hq2] at hc2
          have HCZ : Hid (wz.heap[c]? = some (.cells #[.slice d2.k.ao es2.length d2.k.cap, .slice d2.v.ao es2.length d2.v.cap, .slice d2.l.ao es2.length d2.l.cap, .slice d2.p.ao q2 d2.p.cap, .slice d2.m.ao q2 d2.m.cap] 28)) := hc2
          have HGZ : Hid (GrP w wz tb2 T2 ne2 (j + 1) es2 d2) := ⟨hH, hC, hD⟩
          have HIZ : Hid (RuI w (j + 1) rs (.slice (some ⟨g, 0, none⟩) rs.length tc) (.slice (some ⟨b, 0, none⟩) rs.length mc) wz) := (HI8.out.keep hJ.1).mono (Nat.le_succ _)
          clear hq2 hH hC hD hc1 hc2 r18 hls hJ hR HI8 HKR HST HO8 t0 m0 m1 m2 m3 m4 o2 p0 p1 p2 p3
          simp only [putL, put_lit, List.setIfInBounds_toArray, List.set_cons_succ, List.set_cons_zero]
          rw [r16, r17, r19, r20]
          clear r16 r17 r19 r20
          obtain ⟨r2, hr2⟩ : ∃ r2 : Rv, r2 = ⟨tb2, T2, ne2, es2, d2⟩ := ⟨_, rfl⟩
          have HR2 : Hid (r2 = ⟨tb2, T2, ne2, es2, d2⟩) := hr2
          have hbz := HIZ.out.below.size
          have htb2 : r2.tb = tb2 := by rw [hr2]
          have hcells : r2.cells = [.slice d2.k.ao es2.length d2.k.cap, .slice d2.v.ao es2.length d2.v.cap, .slice d2.l.ao es2.length d2.l.cap, .slice d2.p.ao q2 d2.p.cap, .slice d2.m.ao q2 d2.m.cap] := by rw [hr2, HQ2.out]; rfl
          have HCE : Hid (r2.cells = [.slice d2.k.ao es2.length d2.k.cap, .slice d2.v.ao es2.length d2.v.cap, .slice d2.l.ao es2.length d2.l.cap, .slice d2.p.ao q2 d2.p.cap, .slice d2.m.ao q2 d2.m.cap]) := hcells
          clear hr2 hcells
          go_wp2_with (at_builtin; refine append_tr rs r2 wz rfl (.tmp 59) (.tmp 61) rfl w.heap.size _ rfl tb2 htb2 rfl HIZ.out.trs HIZ.out.trq (by omega) hbz ?_)
          intro v1 w10 ho1 hg1 hq1
          obtain ⟨k1, a1, b1⟩ := HIZ.out.growT hg1
          have c10 : w10.heap[c]? = some (.cells #[.slice d2.k.ao es2.length d2.k.cap, .slice d2.v.ao es2.length d2.v.cap, .slice d2.l.ao es2.length d2.l.cap, .slice d2.p.ao q2 d2.p.cap, .slice d2.m.ao q2 d2.m.cap] 28) := (k1 c (lt_of_heap HCZ.out) (fun hx => own_ne (HIZ.out.trs.typed c (by simpa using hx)) HCZ.out (by decide) rfl)).trans HCZ.out
          have f0 : w10.cell? ⟨c, 0, none⟩ = some (.slice d2.k.ao es2.length d2.k.cap) := by rw [cell_of_blk c10]; rfl
          have f1 : w10.cell? ⟨c, 1, none⟩ = some (.slice d2.v.ao es2.length d2.v.cap) := by rw [cell_of_blk c10]; rfl
          have f2 : w10.cell? ⟨c, 2, none⟩ = some (.slice d2.l.ao es2.length d2.l.cap) := by rw [cell_of_blk c10]; rfl
          have f3 : w10.cell? ⟨c, 3, none⟩ = some (.slice d2.p.ao q2 d2.p.cap) := by rw [cell_of_blk c10]; rfl
          have f4 : w10.cell? ⟨c, 4, none⟩ = some (.slice d2.m.ao q2 d2.m.cap) := by rw [cell_of_blk c10]; rfl
          obtain ⟨ta2, tc2, hv1⟩ := ho1.shape
          rw [List.length_append, List.length_map, List.length_singleton] at hv1
          subst hv1
          have hm10 : w10.ownsRow w.heap.size 28 5 (.slice (some ⟨b, 0, none⟩) rs.length mc) rs.length (rs.flatMap Rv.cells) ∧ OwnC QSl 28 w10 (.slice (some ⟨b, 0, none⟩) rs.length mc) := by
            have n1 : ∀ g1, (Value.slice (some ⟨b, 0, none⟩) rs.length mc).ownBlock = some g1 → ¬ g1 ∈ (Value.slice (some ⟨g, 0, none⟩) rs.length tc).ownBlock.toList := fun g1 hg hx => by
              obtain ⟨cs, hc⟩ := ownsRow_typed HIZ.out.mod g1 hg
              exact own_ne (HIZ.out.trs.typed g1 (by simpa using hx)) hc (by decide) rfl
            refine ⟨World.ownsRow.kept HIZ.out.mod hg1.grown (.inr fun e => n1 b rfl (by rw [← e]; simp [Value.ownBlock])), HIZ.out.moq.kept (ownsRow_typed HIZ.out.mod) (fun g1 hg => k1 g1 (World.ownsRow.lt HIZ.out.mod g1 hg).2 (n1 g1 hg))⟩
          have HM10 : Hid (w10.ownsRow w.heap.size 28 5 (.slice (some ⟨b, 0, none⟩) rs.length mc) rs.length (rs.flatMap Rv.cells) ∧ OwnC QSl 28 w10 (.slice (some ⟨b, 0, none⟩) rs.length mc)) := hm10
          have HG10 : Hid (OwnV w10 w.heap.size 24 (.slice ta2 (rs.length + 1) tc2) (rs.map Rv.ptr ++ [r2.ptr]) ∧ Grew wz w10 (.slice (some ⟨g, 0, none⟩) rs.length tc) (.slice ta2 (rs.length + 1) tc2) ∧ OwnC (QTr (rs ++ [r2])) 24 w10 (.slice ta2 (rs.length + 1) tc2)) := ⟨ho1, hg1, hq1⟩
          have hb10 := b1.size
          clear ho1 hg1 hq1 k1 a1 b1 c10 hm10
          go_wp2_with (at_builtin; refine append_md rs r2 w10 rfl (.tmp 63) (.tmp 65) rfl w.heap.size _ rfl _ _ _ _ _ HCE.out rfl HM10.out.1 HM10.out.2 (by omega) hb10 ?_)
          intro v2 w11 ho2 hg2 hq2
          have HI11 : Hid (RuI w (j + 1) (rs ++ [r2]) (.slice ta2 (rs.length + 1) tc2) v2 w11) := HIZ.out.push (r := r2) (by rw [HR2.out]; exact HGZ.out) HG10.out.1 HG10.out.2.1 HG10.out.2.2 ho2 hg2 hq2
          obtain ⟨ma2, mc2, hv2⟩ : ∃ ma2 mc2, v2 = .slice ma2 (rs.length + 1) mc2 := by
            rcases ho2.2 with ⟨hv, h0⟩ | ⟨g2, cap2, cur2, hv, -⟩
            · omega
            · exact ⟨_, _, hv⟩
          subst hv2
          clear ho2 hg2 hq2 f0 f1 f2 f3 f4 HIZ HGZ HCZ HM10 HG10
          go_wp2_with fail
          go_roundw
          case rel => exact ⟨j + 1, rs ++ [r2], z2, ta2, ma2, tc2, mc2, by omega, by simp, by simp; omega, rfl, by simp, by simp, by go_num, by simpa using HI11⟩
          case measure => simp [intOf]; omega
      have hk1 := hk
      clear hk
      have e0 : (kd == 0) = false := by rw [beq_eq_false_iff_ne]; exact hk0
      have e1 : (kd == 1) = false := by rw [beq_eq_false_iff_ne]; exact hk1
      clear hk0 hk1
      by_cases hk : kd = 2
      · have e2 : (kd == 2) = true := by rw [beq_iff_eq]; exact hk
        clear hk
        have j0 := cell_regrown m0
        have j1 := cell_regrown m1
        have j2 := cell_regrown m2
        have j3 := cell_regrown m3
        have j4 := cell_regrown m4
        have j5 := cell_regrown t0
        have j6 := cell_regrown o2
        have cQ := fun dd os => Calls.regrown_of (looks_calls r.tb r.T r.ne j r.es r.d w (grow (redrawn w8 dd) os) (HKR.out.keep (below_regrown w8 dd os)) (by have := HKR.out.len; omega) k hks)
        unfold Dv.cells at cQ
        go_wp2_with fail
        refine wp_region_quiet_below (by kernel_rfl) (by kernel_rfl) ?_
        repeat (quiet_step (exact cQ _ _))
        refine wpQuiet_nil ?_
        intro w9 hw'
        obtain ⟨⟨dq, osq⟩, hw9⟩ := hw'
        have HI9 : Hid (RuI w j rs (.slice (some ⟨g, 0, none⟩) rs.length tc) (.slice (some ⟨b, 0, none⟩) rs.length mc) w9) := HI8.out.keep (by rw [hw9]; exact below_regrown w8 dq osq)
        clear hw9 HI8 HKR HO8 cQ
        go_wp2_with fail
        go_roundw
        case rel => exact ⟨j + 1, rs, z, _, _, tc, mc, by omega, hr0, by omega, rfl, rfl, rfl, by go_num, HI9.out.mono (Nat.le_succ _)⟩
        case measure => simp [intOf]; omega
      have e2 : (kd == 2) = false := by rw [beq_eq_false_iff_ne]; exact hk
      clear hk
      by_cases hk : kd = 3
      · have e3 : (kd == 3) = true := by rw [beq_iff_eq]; exact hk
        clear hk
        have j0 := cell_regrown m0
        have j1 := cell_regrown m1
        have j2 := cell_regrown m2
        have j3 := cell_regrown m3
        have j4 := cell_regrown m4
        have j5 := cell_regrown t0
        have cQ := fun dd os => Calls.regrown_of (same3_calls r.tb r.T r.ne j r.es r.d w (grow (redrawn w8 dd) os) (HKR.out.keep (below_regrown w8 dd os)) (by have := HKR.out.len; omega))
        unfold Dv.cells at cQ
        go_wp2_with fail
        refine wp_region_quiet_below (by kernel_rfl) (by kernel_rfl) ?_
        repeat (quiet_step (exact cQ _ _))
        refine wpQuiet_nil ?_
        intro w9 hw'
        obtain ⟨⟨dq, osq⟩, hw9⟩ := hw'
        have HI9 : Hid (RuI w j rs (.slice (some ⟨g, 0, none⟩) rs.length tc) (.slice (some ⟨b, 0, none⟩) rs.length mc) w9) := HI8.out.keep (by rw [hw9]; exact below_regrown w8 dq osq)
        clear hw9 HI8 HKR HO8 cQ
        go_wp2_with fail
        go_roundw
        case rel => exact ⟨j + 1, rs, z, _, _, tc, mc, by omega, hr0, by omega, rfl, rfl, rfl, by go_num, HI9.out.mono (Nat.le_succ _)⟩
        case measure => simp [intOf]; omega
      have e3 : (kd == 3) = false := by rw [beq_eq_false_iff_ne]; exact hk
      clear hk HKR HO8
      go_wp2_with fail
      go_roundw
      case rel => exact ⟨j + 1, rs, z, _, _, tc, mc, by omega, hr0, by omega, rfl, rfl, rfl, by go_num, HI8.out.mono (Nat.le_succ _)⟩
      case measure => simp [intOf]; omega
    · have hjl : j = os.length := by omega
      subst hjl
      go_wp2_with fail
      go_loopw [97] (fun i wr => ∃ i' : Nat, i' ≤ rs.length ∧ i = .int .i64 i' ∧ Hid (RuI w os.length rs (.slice ta rs.length tc) (.slice ma rs.length mc) wr)) (fun i _ => rs.length - (intOf i).toNat)
      case atStart => exact ⟨0, Nat.zero_le _, rfl, HI⟩
      case round =>
        obtain ⟨i, hile, rfl, HI8⟩ := hrel
        clear HI
        by_cases hi : i < rs.length
        · have i1 : (0 : Int) ≤ (i : Int) ∧ (i : Int) < (rs.length : Int) := by omega
          obtain ⟨g, b, hta, hma, t0, m0, m1, m2, m3, m4⟩ := HI8.out.at hi
          obtain ⟨r, hr⟩ : ∃ r, r = rs[i] := ⟨_, rfl⟩
          have HKR : Hid (GrP w wr r.tb r.T r.ne os.length r.es r.d) := by show GrP _ _ _ _ _ _ _ _; rw [hr]; exact HI8.out.kept _ (List.getElem_mem hi)
          rw [← hr] at t0 m0 m1 m2 m3 m4
          subst hta hma
          clear hr
          have j0 := cell_regrown m0
          have j1 := cell_regrown m1
          have j2 := cell_regrown m2
          have j3 := cell_regrown m3
          have j4 := cell_regrown m4
          have j5 := cell_regrown t0
          have cQ := fun dd os' => Calls.regrown_of (same3_calls r.tb r.T r.ne os.length r.es r.d w (grow (redrawn wr dd) os') (HKR.out.keep (below_regrown wr dd os')) (by have := HKR.out.len; omega))
          unfold Dv.cells at cQ
          go_wp2_with fail
          refine wp_region_quiet_below (by kernel_rfl) (by kernel_rfl) ?_
          repeat (quiet_step (exact cQ _ _))
          refine wpQuiet_nil ?_
          intro w9 hw'
          obtain ⟨⟨dq, osq⟩, hw9⟩ := hw'
          have HI9 : Hid (RuI w os.length rs (.slice (some ⟨g, 0, none⟩) rs.length tc) (.slice (some ⟨b, 0, none⟩) rs.length mc) w9) := HI8.out.keep (by rw [hw9]; exact below_regrown wr dq osq)
          clear hw9 HI8 HKR cQ
          go_wp2_with fail
          go_roundw
          case rel => exact ⟨i + 1, by omega, by go_num, HI9⟩
          case measure => simp [intOf]; omega
        · have hil : i = rs.length := by omega
          subst hil
          go_wp2_with fail
          go_ret
          exact ⟨rfl, HI8.out.below⟩
end Go.Proofs.Ytcdfbbjakkmmoaa
