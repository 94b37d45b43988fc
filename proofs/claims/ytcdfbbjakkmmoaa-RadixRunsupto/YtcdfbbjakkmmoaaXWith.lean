/- The document's sorted lists: Common, with. -/
import Derived.Test.YtcdfbbjakkmmoaaXFind
import Derived.Deep.DeepAppendWide
namespace Go.Proofs.Ytcdfbbjakkmmoaa
open Go.RowKit
set_option linter.unusedVariables false

section
variable {P : Program} (w : World)
theorem run_append_grew_wide (base : Nat) (t ty e : TypeId) (i : TypeInfo) (z : Value) (size bytes : Nat) (ht : P.underlying t = some (.slice e)) (hi : P.info? e = some i) (hz : i.zero = some z)
    (hsize : i.size = size) (hby : i.bytes = bytes) (hzs : z.cells.size = size) (hsz : 0 < size)
    (v : Value) (n : Nat) (xs : List Value) (hown : w.ownsRow base e size v n xs)
    (a : Addr) (m c : Nat) (news : List Value) (hl : news.length = m * size) (hnews : ∀ j u, news[j]? = some u → w.cell? (a.add j) = some u) (h1 : ∀ u ∈ news, u.oneCell' = true)
    (h63 : n + m ≤ maxLen) (hbytes : ((n + m) + (n + m) / 4 + 192) * bytes ≤ 281474976710656) (hbase : base ≤ w.heap.size) :
    ∃ v' w', (Builtin.append_ #[t, t] ty #[v, .slice (some a) m c]).run P w = .ok v' w' ∧ w'.ownsRow base e size v' (n + m) (xs ++ news) ∧ Grew w w' v v' ∧ (v' = .slice none 0 0 ↔ v = .slice none 0 0 ∧ m = 0) := by
  obtain ⟨v', w', hr, ho, hg, hn⟩ := run_append_own_wide (P := P) w base t ty e i z size bytes ht hi hz hsize hby hzs hsz v n xs hown a m c news hl hnews h1 h63 hbytes hbase
  refine ⟨v', w', hr, ho, ⟨hg, ?_⟩, hn⟩
  intro k hk
  have hsmall : n + m ≤ 9223372036854775807 := by simp only [maxLen] at h63; omega
  subst hsize
  subst hby
  rcases hown.2 with ⟨rfl, rfl⟩ | ⟨g, cap, cur, rfl, hbg, hgg, hnc, hcm, hcs, htake⟩
  · by_cases hm : m = 0
    · have := hn.2 ⟨rfl, hm⟩; subst this; simp [Value.ownBlock] at hk
    · have hr2 := run_append_nil (P := P) w t ty e i z ht hi hz a m c news hl hnews (by omega) (by omega) (Nat.le_trans (Nat.mul_le_mul_right _ (by omega)) hbytes)
      rw [hr] at hr2
      injection hr2 with e1 e2
      subst e1
      simp [Value.ownBlock] at hk
      right; omega
  · by_cases hroom : n + m ≤ cap
    · have hfit : n * i.size + news.length ≤ cur.size := by rw [hl, hcs, ← Nat.add_mul]; exact Nat.mul_le_mul_right _ hroom
      have hr2 := run_append_room (P := P) w t ty e i ht hi g n cap cur hgg a m c news hl hnews h1 hroom hfit
      rw [hr] at hr2
      injection hr2 with e1 e2
      subst e1
      left; exact hk
    · have holds : ∀ j u, xs[j]? = some u → w.cell? ((⟨g, 0, none⟩ : Addr).add j) = some u := hown.cells (g := g) rfl
      have hr2 := run_append_grow (P := P) w t ty e i z ht hi hz ⟨g, 0, none⟩ n cap xs hown.1 holds a m c news hl hnews (by omega) (by omega) (growslice_fits_wide (by omega) hbytes)
      rw [hr] at hr2
      injection hr2 with e1 e2
      subst e1
      simp [Value.ownBlock] at hk
      right; omega
end

/-- append(s, u), u of one cell, laid right ahead. -/
theorem append_valW (W : World) {ops : Array Oper} {rest : List Oper} {o : Oper} {a : Act} {Q : Exit → Act → World → Prop} (hgd : o.guard = none) (s x : Operand) (t e : TypeId) (z : Value) (bytes : Nat)
    (ht : Try.prog.underlying t = some (.slice e)) (hi : (Try.prog.info? e).map (fun i => (i.zero, i.size, i.bytes)) = some (some z, 1, bytes)) (hzs : z.cells.size = 1)
    (ho : o.op = .call { callee := .builtin .append, args := #[s, x], argTypes := #[t, t] })
    (B : Nat) (v : Value) (l : List Value) (hs : a.eval s = v) (u : Value) (hu : u.oneCell' = true) (g : Nat) (hx : a.eval x = .slice (some ⟨g, 0, none⟩) 1 1) 
    (hg : g = W.heap.size) (hown : OwnV W B e v l) (hm : l.length + 1 ≤ 9223372036854775807) (hlen : ((l.length + 1) + (l.length + 1) / 4 + 192) * bytes ≤ 281474976710656) (hB : B ≤ W.heap.size)
    (h : ∀ v' w', OwnV w' B e v' (l ++ [u]) → Grew W w' v v' → wpList Try.prog ops Q rest (a.put o.dst v') w') : wpList Try.prog ops Q (o :: rest) a (W.alloc (.cells #[u] e)) := by
  obtain ⟨i0, hi, hz0, hz1, hz2⟩ := infoOf hi
  subst hg
  refine wpList_plain hgd fun K hK => ?_
  obtain ⟨v', w', hr, h2, h3, -⟩ := run_append_grew_wide (P := Try.prog) (W.alloc (.cells #[u] e)) B t o.type e i0 z 1 bytes ht hi hz0 hz1 hz2 hzs (by decide) v l.length l (World.ownsRow.alloc hown _) ⟨W.heap.size, 0, none⟩ 1 1 [u] rfl (cells_new _ _ _) (by simp [hu]) (by unfold maxLen; omega) hlen (by simp; omega)
  unfold Oper.wp execOp
  simp only [ho, resolve, invoke, builtin, Sem.run_bind, Sem.run_pure, Result.andThen_ok, List.map_toArray, List.map_cons, List.map_nil, hs, hx, hr]
  refine hK _ _ (h v' w' ?_ h3.ofAlloc)
  unfold OwnV
  rw [List.length_append]
  exact h2

theorem cmn_ge {a b : List UInt8} {n : Nat} (h : a.take n = b.take n) (ha : n ≤ a.length) (hb : n ≤ b.length) : ∀ m, m ≤ n → a.take m = b.take m := fun m hm => by
  have := congrArg (List.take m) h
  rwa [List.take_take, List.take_take, Nat.min_eq_left hm] at this
theorem take_snoc_eq {a b : List UInt8} {n : Nat} (h : a.take n = b.take n) (ha : n < a.length) (hb : n < b.length) (he : a[n] = b[n]) : a.take (n + 1) = b.take (n + 1) := by
  rw [List.take_succ_eq_append_getElem ha, List.take_succ_eq_append_getElem hb, h, he]

set_option maxRecDepth 100000 in
set_option maxHeartbeats 1000000 in
theorem commonD_calls (a b : ByteArray) (w : World) (ha : a.size ≤ 140737488351296) (hb : b.size ≤ 140737488351296) :
    Calls Try.prog 70 #[.string a, .string b] w fun e w' => e = .returned (.string (commonB a b)) ∧ ∃ n, w' = w.drewN n := by
  go_enter Try.func70, Try.ntmps70
  go_wp2
  go_loopw [5] (fun i wr => ∃ k n : Nat, k ≤ a.size ∧ k ≤ b.size ∧ i = .int .i64 k ∧ Hid ((kyb a).take k = (kyb b).take k) ∧ wr = w.drewN n) (fun i _ => a.size - (intOf i).toNat)
  case atStart => exact ⟨0, 0, Nat.zero_le _, Nat.zero_le _, rfl, rfl, rfl⟩
  case round =>
    obtain ⟨k, n, hka, hkb, rfl, HT, rfl⟩ := hrel
    have HE : Hid ((∀ (h1 : k < (kyb a).length) (h2 : k < (kyb b).length), (kyb a)[k] ≠ (kyb b)[k]) → a.extract 0 k = commonB a b) := fun h => by
      have := cmn_eq (a := kyb a) (b := kyb b) (n := k) (by rw [kyb_len]; exact hka) (by rw [kyb_len]; exact hkb) HT.out h
      apply kyb_inj
      rw [commonB_kyb, this]
      simp [kyb]
    by_cases h1 : k < a.size
    · have d1 : decide ((k : Int) < (a.size : Int)) = true := by simp; omega
      by_cases h2 : k < b.size
      · have d2 : decide ((k : Int) < (b.size : Int)) = true := by simp; omega
        have i1 : (0 : Int) ≤ (k : Int) ∧ (k : Int) < (a.size : Int) := by omega
        have i2 : (0 : Int) ≤ (k : Int) ∧ (k : Int) < (b.size : Int) := by omega
        by_cases h3 : a[k] = b[k]
        · have d3 : ((a[k].toNat : Int) == (b[k].toNat : Int)) = true := by rw [h3]; simp
          have HT' : Hid ((kyb a).take (k + 1) = (kyb b).take (k + 1)) := take_snoc_eq HT.out (by rw [kyb_len]; exact h1) (by rw [kyb_len]; exact h2) (by simp only [kyb]; exact h3)
          go_wp2
          go_quiet (fail)
          go_wp2
          go_roundw
          case rel => exact ⟨k + 1, _, by omega, by omega, by go_num, HT', rfl⟩
          case measure => simp [intOf]; omega
        · have d3 : ((a[k].toNat : Int) == (b[k].toNat : Int)) = false := by
            rw [beq_eq_false_iff_ne]; intro e; exact h3 (UInt8.toNat_inj.1 (by omega))
          have HR : Hid (a.extract 0 k = commonB a b) := HE.out (fun _ _ => by simp only [kyb]; exact h3)
          go_wp2
          go_quiet (fail)
          go_wp2
          go_ret
          exact ⟨by rw [← HR.out]; rfl, _, by first | rfl | exact World.drewN_drewN _ _ _⟩
      · have d2 : decide ((k : Int) < (b.size : Int)) = false := by simp; omega
        have HR : Hid (a.extract 0 k = commonB a b) := HE.out (fun _ h => by rw [kyb_len] at h; omega)
        go_wp2
        go_quiet (fail)
        go_wp2
        go_ret
        exact ⟨by rw [← HR.out]; rfl, _, by first | rfl | exact World.drewN_drewN _ _ _⟩
    · have d1 : decide ((k : Int) < (a.size : Int)) = false := by simp; omega
      have HR : Hid (a.extract 0 k = commonB a b) := HE.out (fun h _ => by rw [kyb_len] at h; omega)
      go_wp2
      go_quiet (fail)
      go_wp2
      go_ret
      exact ⟨by rw [← HR.out]; rfl, _, by first | rfl | exact World.drewN_drewN _ _ _⟩

theorem infoS : (Try.prog.info? 9).map (fun i => (i.zero, i.size, i.bytes)) = some (some (.string ⟨#[]⟩), 1, 16) := by kernel_rfl
theorem infoI : (Try.prog.info? 3).map (fun i => (i.zero, i.size, i.bytes)) = some (some (.int .i64 0), 1, 8) := by kernel_rfl

theorem size_setCell' (w : World) (a : Addr) (u : Value) : (w.setCell a u).heap.size = w.heap.size := by simp [World.setCell]
theorem OwnV.below {w w' : World} {B : Nat} {e : TypeId} {v : Value} {l : List Value} (h : OwnV w B e v l) (hb : Below w.heap.size w w') : OwnV w' B e v l := h.touched (.ofBelow hb []) (fun _ _ h => by cases h)
theorem drewN_below (w : World) (n : Nat) : Below w.heap.size w (w.drewN n) := below_drewN (Below.refl _ _) n
/-- An element of an own slice is written. -/
theorem OwnV.put {w : World} {B g n cap : Nat} {e : TypeId} {l : List Value} (h : OwnV w B e (.slice (some ⟨g, 0, none⟩) n cap) l) (i : Nat) (u : Value) :
    OwnV (w.setCell ⟨g, i, none⟩ u) B e (.slice (some ⟨g, 0, none⟩) n cap) (l.set i u) := by
  obtain ⟨ao', cap', hv⟩ := h.shape
  simp only [Value.slice.injEq] at hv
  obtain ⟨-, rfl, -⟩ := hv
  have := (World.ownsRow.stored h i u).1
  unfold OwnV
  rw [List.length_set]
  exact this
theorem OwnV.get {w : World} {B g n cap : Nat} {e : TypeId} {l : List Value} (h : OwnV w B e (.slice (some ⟨g, 0, none⟩) n cap) l) (i : Nat) (hi : i < l.length) : w.cell? ⟨g, i, none⟩ = some l[i] ∧ w.frozen? ⟨g, i, none⟩ = false := by
  obtain ⟨ao', cap', hv⟩ := h.shape
  simp only [Value.slice.injEq] at hv
  obtain ⟨-, rfl, -⟩ := hv
  refine ⟨?_, World.ownsRow.frozenAt h i⟩
  rw [World.ownsRow.cellAt h i (by omega)]
  simp [hi]
theorem Grew.put {w w' : World} {v v' : Value} (h : Grew w w' v v') {g i : Nat} (hg : v'.ownBlock = some g) (u : Value) : Grew w (w'.setCell ⟨g, i, none⟩ u) v v' := by
  refine ⟨grownBy_trans h.1 (s := some g) ⟨rfl, rfl, rfl, Nat.le_of_eq (size_setCell' w' _ u).symm, fun k _ hk => heap_setCell_other _ _ _ _ (fun e => hk (by rw [show k = g from e]))⟩ ?_, h.2⟩
  intro j hj
  simp only [Option.some.injEq] at hj
  subst hj
  exact h.2 _ hg

/-- The row while its tail is moved up. -/
def moved (L : List Value) (i : Nat) : List Value := (L ++ [Value.string ⟨#[]⟩]).take (i + 1) ++ L.drop i
theorem moved_start (L : List Value) : moved L L.length = L ++ [Value.string ⟨#[]⟩] := by
  unfold moved
  rw [List.take_of_length_le (by simp), List.drop_length, List.append_nil]
theorem moved_len (L : List Value) (i : Nat) (hi : i ≤ L.length) : (moved L i).length = L.length + 1 := by
  unfold moved; simp; omega
theorem moved_get (L : List Value) (i : Nat) (h0 : 0 < i) (hi : i ≤ L.length) : (moved L i)[i - 1]'(by rw [moved_len L i hi]; omega) = L[i - 1]'(by omega) := by
  simp only [moved]
  rw [List.getElem_append_left (by simp; omega), List.getElem_take, List.getElem_append_left (by omega)]
theorem moved_split (L : List Value) (i : Nat) (hi : i ≤ L.length) : ∃ y, moved L i = L.take i ++ y :: L.drop i := by
  unfold moved
  rw [List.take_succ_eq_append_getElem (by simp; omega), List.take_append_of_le_length hi]
  exact ⟨_, by rw [List.append_assoc]; rfl⟩
theorem moved_set (L : List Value) (i : Nat) (hi : i ≤ L.length) (u : Value) : (moved L i).set i u = L.take i ++ u :: L.drop i := by
  obtain ⟨y, hy⟩ := moved_split L i hi
  rw [hy, List.set_append_right _ _ (by simp; omega)]
  simp [Nat.min_eq_left hi]
theorem moved_step (L : List Value) (i : Nat) (h0 : 0 < i) (hi : i ≤ L.length) : (moved L i).set i (L[i - 1]'(by omega)) = moved L (i - 1) := by
  rw [moved_set L i hi]
  unfold moved
  rw [show i - 1 + 1 = i by omega, List.take_append_of_le_length hi]
  congr 1
  conv => rhs; rw [List.drop_eq_getElem_cons (by omega : i - 1 < L.length)]
  rw [show i - 1 + 1 = i by omega]

theorem strs_withK (ks : List ByteArray) (p : ByteArray) (h : p ∉ ks) : strs (withK ks p) = (strs ks).take (place ks p) ++ .string p :: (strs ks).drop (place ks p) := by
  unfold withK
  rw [if_neg h]
  simp [strs, List.map_take, List.map_drop]

set_option maxRecDepth 100000 in
set_option maxHeartbeats 1000000 in
theorem with_calls (v : Value) (ps : List ByteArray) (p : ByteArray) (w : World) (B : Nat) (ho : OwnV w B 9 v (strs ps)) (hs : SortedK ps) (hz : ∀ q ∈ ps, q.size ≤ 140737488351296) (hp : p.size ≤ 140737488351296) (hl : ps.length ≤ 11728124029400) (hB : B ≤ w.heap.size) :
    Calls Try.prog 69 #[v, .string p] w fun e w' => ∃ ao' n' cap', e = .returned (.slice ao' n' cap') ∧ OwnV w' B 9 (.slice ao' n' cap') (strs (withK ps p)) ∧ Grew w w' v (.slice ao' n' cap') := by
  obtain ⟨x, rfl, hxv, hxA⟩ := ho.sv
  have hlen : x.vs.length = ps.length := by rw [hxv, strs_length]
  have HF := find_calls x ps p w hxA hxv hs hz hp (by omega)
  rw [hlen] at ho ⊢
  have HO : Hid (OwnV w B 9 (.slice x.ao ps.length x.cap) (strs ps)) := ho
  clear ho hxA
  obtain ⟨xao, xcap, xvs⟩ := x
  dsimp only at HO HF ⊢
  clear hxv hlen
  go_enter Try.func69, Try.ntmps69
  go_wp2_with fail
  refine HF.mono ?_
  clear HF
  rintro e w1 ⟨rfl, q, rfl⟩
  by_cases hm : p ∈ ps
  · rw [decide_eq_true hm]
    go_wp2
    go_ret
    refine ⟨xao, ps.length, xcap, rfl, ?_, ?_⟩
    · rw [show withK ps p = ps from if_pos hm]; exact HO.out.below (drewN_below w q)
    · exact (Grew.refl w _).below (drewN_below w q)
  · rw [decide_eq_false hm]
    have hple := place_le ps p
    obtain ⟨at_, HAT⟩ : ∃ a, Hid (a = place ps p) := ⟨_, rfl⟩
    rw [← HAT.out]
    have hat : at_ ≤ ps.length := by rw [HAT.out]; exact hple
    have HO1 : Hid (OwnV (w.drewN q) B 9 (.slice xao ps.length xcap) (strs ps)) := HO.out.below (drewN_below w q)
    clear hple
    go_wp2_with (at_builtin; refine append_valW (w.drewN q) rfl (.tmp 16) (.tmp 17) 22 9 (.string ⟨#[]⟩) 16 Try.underlying22 infoS rfl rfl B _ (strs ps) rfl (.string ⟨#[]⟩) rfl _ rfl (by first | rfl | simp) HO1.out (by rw [strs_length]; omega) (by rw [strs_length]; omega) (by simpa using hB) ?_)
    intro v1 w2 ho2 hg2
    obtain ⟨g, cap, rfl, -, -⟩ := World.ownsRow.form ho2 (by simp)
    rw [List.length_append, strs_length] at ho2 hg2 ⊢
    simp only [List.length_cons, List.length_nil, Nat.zero_add] at ho2 hg2 ⊢
    have HO2 : Hid (OwnV w2 B 9 (.slice (some ⟨g, 0, none⟩) (ps.length + 1) cap) (moved (strs ps) ps.length)) := by
      show OwnV _ _ _ _ _
      have := moved_start (strs ps)
      rw [strs_length] at this
      rw [this]; exact ho2
    have HG2 : Hid (Grew w w2 (.slice xao ps.length xcap) (.slice (some ⟨g, 0, none⟩) (ps.length + 1) cap)) := ((Grew.refl w _).below (drewN_below w q)).trans hg2
    clear ho2 hg2 HO HO1
    go_wp2
    go_loopw [7] (fun i wr => ∃ j : Nat, at_ ≤ j ∧ j ≤ ps.length ∧ i = .int .i64 j ∧ Hid (OwnV wr B 9 (.slice (some ⟨g, 0, none⟩) (ps.length + 1) cap) (moved (strs ps) j)) ∧ Hid (Grew w wr (.slice xao ps.length xcap) (.slice (some ⟨g, 0, none⟩) (ps.length + 1) cap))) (fun i _ => (intOf i).toNat)
    case atStart => exact ⟨ps.length, hat, Nat.le_refl _, by first | rfl | (congr 1; omega), HO2, HG2⟩
    case round =>
      obtain ⟨j, hj1, hj2, rfl, HJ, HG⟩ := hrel
      have hml := moved_len (strs ps) j (by rw [strs_length]; exact hj2)
      rw [strs_length] at hml
      by_cases hlt : at_ < j
      · have hgi : (j : Int) > (at_ : Int) := by omega
        obtain ⟨c1, -⟩ := HJ.out.get (j - 1) (by omega)
        obtain ⟨c2, z2⟩ := HJ.out.get j (by omega)
        have hmg := moved_get (strs ps) j (by omega) (by rw [strs_length]; exact hj2)
        rw [hmg] at c1
        have hsg : (strs ps)[j - 1]'(by rw [strs_length]; omega) = .string (ps[j - 1]'(by omega)) := by simp [strs]
        rw [hsg] at c1
        have hjj : (j : Int) - 1 = ((j - 1 : Nat) : Int) := by omega
        have HJ' : Hid (OwnV (wr.setCell ⟨g, j, none⟩ (.string (ps[j - 1]'(by omega)))) B 9 (.slice (some ⟨g, 0, none⟩) (ps.length + 1) cap) (moved (strs ps) (j - 1))) := by
          show OwnV _ _ _ _ _
          have := HJ.out.put j (.string (ps[j - 1]'(by omega)))
          rw [← hsg, moved_step (strs ps) j (by omega) (by rw [strs_length]; exact hj2)] at this
          rw [← hsg]; exact this
        have HG' : Hid (Grew w (wr.setCell ⟨g, j, none⟩ (.string (ps[j - 1]'(by omega)))) (.slice xao ps.length xcap) (.slice (some ⟨g, 0, none⟩) (ps.length + 1) cap)) := HG.out.put rfl _
        clear hsg hmg
        go_wp2
        go_roundw
        case rel => exact ⟨j - 1, by omega, by omega, rfl, HJ', HG'⟩
        case measure => simp [intOf]; omega
      · have : j = at_ := by omega
        subst this
        obtain ⟨c2, z2⟩ := HJ.out.get j (by omega)
        have HJ' : Hid (OwnV (wr.setCell ⟨g, j, none⟩ (.string p)) B 9 (.slice (some ⟨g, 0, none⟩) (ps.length + 1) cap) (strs (withK ps p))) := by
          show OwnV _ _ _ _ _
          have := HJ.out.put j (.string p)
          rw [moved_set (strs ps) j (by rw [strs_length]; exact hj2)] at this
          rw [strs_withK ps p hm, ← HAT.out]; exact this
        have HG' : Hid (Grew w (wr.setCell ⟨g, j, none⟩ (.string p)) (.slice xao ps.length xcap) (.slice (some ⟨g, 0, none⟩) (ps.length + 1) cap)) := HG.out.put rfl _
        go_wp2
        go_ret
        exact ⟨_, _, _, rfl, HJ'.out, HG'.out⟩
end Go.Proofs.Ytcdfbbjakkmmoaa
