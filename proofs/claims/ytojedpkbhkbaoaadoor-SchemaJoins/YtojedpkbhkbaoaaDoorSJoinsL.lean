/- Layer 6 (schema): SchemaJoins. -/
import Derived.Test.YtojedpkbhkbaoaaDoorSPrintsL
import Derived.Test.YtojedpkbhkbaoaaDoorSJoin
namespace Go.Proofs.YtojedpkbhkbaoaaDoor
open Go.RowKit
set_option linter.unusedVariables false

theorem joinE_hit (N : List ByteArray) : ∀ (ns : List ByteArray) (L i : Nat) (h : i < ns.length), inN N ns[i] = true → (∀ j (hj : j < ns.length), j < i → inN N ns[j] = false) → joinE N L ns = some 64 ∨ (joinE N L ns = some 65 ∧ L + i > 15)
  | [], L, i, h, _, _ => by simp at h
  | n :: r, L, 0, h, hi, _ => by
    left
    rw [joinE, if_pos (by simpa using hi)]
  | n :: r, L, i + 1, h, hi, hn => by
    rw [joinE, if_neg (by have := hn 0 (by simp) (by omega); simpa using this)]
    by_cases hL : L = 16
    · right
      rw [if_pos hL]
      exact ⟨rfl, by omega⟩
    · rw [if_neg hL]
      have := joinE_hit N r (L + 1) i (by simpa using h) (by simpa using hi) (fun j hj hji => by have := hn (j + 1) (by simpa using hj) (by omega); simpa using this)
      rcases this with h1 | ⟨h1, h2⟩
      · exact .inl h1
      · exact .inr ⟨h1, by omega⟩
theorem joinE_long (N : List ByteArray) : ∀ (ns : List ByteArray) (L : Nat), (∀ n ∈ ns, inN N n = false) → L ≤ 16 → L + ns.length > 16 → joinE N L ns = some 65
  | [], L, _, h1, h2 => by simp at h2; omega
  | n :: r, L, hn, h1, h2 => by
    rw [joinE, if_neg (by simp [hn n])]
    by_cases hL : L = 16
    · rw [if_pos hL]
    · rw [if_neg hL]
      exact joinE_long N r (L + 1) (fun m hm => hn m (by simp [hm])) (by omega) (by simp at h2; omega)
theorem joinE_none (N : List ByteArray) : ∀ (ns : List ByteArray) (L : Nat), (∀ n ∈ ns, inN N n = false) → L + ns.length ≤ 16 → joinE N L ns = none
  | [], L, _, h2 => rfl
  | n :: r, L, hn, h2 => by
    simp at h2
    rw [joinE, if_neg (by simp [hn n]), if_neg (by omega)]
    exact joinE_none N r (L + 1) (fun m hm => hn m (by simp [hm])) (by omega)

theorem run_append_none (t ty e : TypeId) (i : TypeInfo) (ht : Tryd.prog.underlying t = some (.slice e)) (hi : Tryd.prog.info? e = some i) (w : World) (base : Option Addr) (n cap c : Nat) (h : n ≤ cap) :
    (Builtin.append_ #[t, t] ty #[.slice base n cap, .slice none 0 c]).run Tryd.prog w = .ok (.slice base n cap) w := by
  cases base <;> simp [Builtin.append_, run_underlying ht, sizeOf, typeInfo, hi, Builtin.lenOf, h, Builtin.firstCells, storeCells]

theorem tcs_one (us : List TV) : ∀ u ∈ tcs us, u.oneCell' = true := by
  intro u hu
  obtain ⟨t, _, ht⟩ := List.mem_flatMap.1 hu
  simp at ht
  rcases ht with rfl | rfl | rfl <;> rfl

/-- append(s, t...), both of tables. -/
theorem append_tabs (W : World) {ops : Array Oper} {rest : List Oper} {o : Oper} {a : Act} {Q : Exit → Act → World → Prop} (hgd : o.guard = none) (s x : Operand)
    (ho : o.op = .call { callee := .builtin .append, args := #[s, x], argTypes := #[24, 24] })
    (B : Nat) (v : Value) (n : Nat) (l : List Value) (hs : a.eval s = v) (hown : W.ownsRow B 36 3 v n l) (ao : Option Addr) (c : Nat) (us : List TV) (hx : a.eval x = .slice ao us.length c) (hc : CellsAt W ao (tcs us))
    (hn : n ≤ 1000) (hu : us.length ≤ 1000) (hB : B ≤ W.heap.size)
    (h : ∀ v' w', w'.ownsRow B 36 3 v' (n + us.length) (l ++ tcs us) → Grew W w' v v' → wpList Tryd.prog ops Q rest (a.put o.dst v') w') : wpList Tryd.prog ops Q (o :: rest) a W := by
  obtain ⟨i0, hi, hz0, hz1, hz2⟩ := info_of info_table
  cases ao with
  | none =>
    have h0 : us = [] := by
      cases us with
      | nil => rfl
      | cons u us =>
        obtain ⟨b, off, e, _⟩ := hc (by simp [tcs])
        cases e
    subst h0
    obtain ⟨vo, vc, rfl, _⟩ := row_forms hown
    have hnc : n ≤ vc := by
      rcases hown.2 with ⟨e, h0⟩ | ⟨g, cap, cur, e, _, _, hnc, _⟩
      · omega
      · simp only [Value.slice.injEq] at e
        obtain ⟨_, _, rfl⟩ := e
        exact hnc
    refine wpList_plain hgd fun K hK => ?_
    have hr := run_append_none 24 o.type 36 i0 Tryd.underlying24 hi W vo n vc c hnc
    unfold Oper.wp execOp
    simp only [ho, resolve, invoke, builtin, Sem.run_bind, Sem.run_pure, Result.andThen_ok, List.map_toArray, List.map_cons, List.map_nil, hs, hx, List.length_nil, hr]
    exact hK _ _ (h _ W (by simpa [tcs] using hown) (Grew.refl _ _))
  | some ad =>
    refine wpList_append_grew W hgd s x 24 ho B 36 i0 _ 3 64 Tryd.underlying24 hi hz0 hz1 hz2 rfl (by decide) v n l hs hown ad us.length c (tcs us) hx (tcs_length us) ?_ (tcs_one us) (by unfold maxLen; omega) (by omega) hB (fun v' w' h1 h2 _ => h v' w' h1 h2)
    intro j u hj
    obtain ⟨b, off, e, hcc⟩ := hc (by intro e; rw [e] at hj; simp at hj)
    obtain rfl := Option.some.inj e
    rw [Addr.add_lit]
    exact hcc j u hj

/-- What the third Parse told. -/
def Told (ts us : List TV) (vs : List TV) (g : Int) : Prop :=
  (joinE (nmsT (tbs ts)) ts.length (nmsT (tbs us)) = none ∧ g = 0 ∧ tbs vs = tbs ts ++ tbs us) ∨ joinE (nmsT (tbs ts)) ts.length (nmsT (tbs us)) = some g

/-- The law's memory behind the three Parses. -/
structure JI (w : World) (sb tb ub : Nat) (ao bo co : Option Addr) (cap cap2 cap3 : Nat) (ts us vs : List TV) (W : World) : Prop where
  s0 : W.cell? ⟨sb, 0, none⟩ = some (.slice ao ts.length cap)
  t0 : W.cell? ⟨tb, 0, none⟩ = some (.slice bo us.length cap2)
  u0 : W.cell? ⟨ub, 0, none⟩ = some (.slice co vs.length cap3)
  s : TabsRd W ao ts
  t : TabsRd W bo us
  u : TabsRd W co vs
  below : Below w.heap.size w W
theorem JI.next {w : World} {sb tb ub : Nat} {ao bo co : Option Addr} {cap cap2 cap3 : Nat} {ts us vs : List TV} {W W' : World} (h : JI w sb tb ub ao bo co cap cap2 cap3 ts us vs W) (hb : Below W.heap.size W W') : JI w sb tb ub ao bo co cap cap2 cap3 ts us vs W' :=
  ⟨cell_next h.s0 hb, cell_next h.t0 hb, cell_next h.u0 hb, h.s.below hb, h.t.below hb, h.u.below hb, h.below.trans (hb.mono h.below.size)⟩

/-- No table of us up to i bears a name of ts. -/
def noneJ (ts us : List TV) (i : Nat) : Prop := ∀ j (h : j < us.length), j < i → inN (nmsT (tbs ts)) us[j].n = false
theorem inN_hit {ts : List TV} {k : Nat} (hk : k < ts.length) {n : ByteArray} (h : ts[k].n = n) : inN (nmsT (tbs ts)) n = true := by
  simp only [inN, nmsT, tbs, List.any_map, List.any_eq_true]
  exact ⟨ts[k], List.getElem_mem hk, by simpa [TV.tb] using h⟩
theorem inN_none {ts : List TV} {n : ByteArray} (h : ∀ k (hk : k < ts.length), ¬ ts[k].n = n) : inN (nmsT (tbs ts)) n = false := by
  simp only [inN, nmsT, tbs, List.any_map, List.any_eq_false]
  intro t ht
  obtain ⟨k, hk, rfl⟩ := List.getElem_of_mem ht
  simpa [TV.tb] using h k hk
theorem told_hit {ts us vs : List TV} {g : Int} {i : Nat} (h : Told ts us vs g) (hi : i < us.length) (hn : noneJ ts us i) (hit : inN (nmsT (tbs ts)) us[i].n = true) : g = 64 ∨ (g = 65 ∧ ts.length + i > 15) := by
  have e : ∀ j (hj : j < us.length), (nmsT (tbs us))[j]'(by simpa [nmsT, tbs] using hj) = us[j].n := fun j hj => by simp [nmsT, tbs, TV.tb]
  have := joinE_hit (nmsT (tbs ts)) (nmsT (tbs us)) ts.length i (by simpa [nmsT, tbs] using hi) (by rw [e i hi]; exact hit) (fun j hj hji => by
    have hj' : j < us.length := by simpa [nmsT, tbs] using hj
    rw [e j hj']; exact hn j hj' hji)
  rcases h with ⟨h0, _⟩ | h0
  · rw [h0] at this; simp at this
  · rw [h0] at this
    rcases this with h1 | ⟨h1, h2⟩
    · exact .inl (Option.some.inj h1)
    · exact .inr ⟨Option.some.inj h1, h2⟩
theorem none_all {ts us : List TV} {i : Nat} (h : noneJ ts us i) (hi : us.length ≤ i) : ∀ n ∈ nmsT (tbs us), inN (nmsT (tbs ts)) n = false := by
  intro n hn
  obtain ⟨t, ht, rfl⟩ := List.mem_map.1 hn
  obtain ⟨u, hu, rfl⟩ := List.mem_map.1 ht
  obtain ⟨j, hj, rfl⟩ := List.getElem_of_mem hu
  exact h j hj (by omega)
theorem told_long {ts us vs : List TV} {g : Int} {i : Nat} (h : Told ts us vs g) (hn : noneJ ts us i) (hi : us.length ≤ i) (h16 : ts.length ≤ 16) (hl : ts.length + us.length > 16) : g = 65 := by
  have := joinE_long (nmsT (tbs ts)) (nmsT (tbs us)) ts.length (none_all hn hi) h16 (by simpa [nmsT, tbs] using hl)
  rcases h with ⟨h0, _⟩ | h0
  · rw [h0] at this; cases this
  · rw [h0] at this; exact Option.some.inj this
theorem told_none {ts us vs : List TV} {g : Int} {i : Nat} (h : Told ts us vs g) (hn : noneJ ts us i) (hi : us.length ≤ i) (hl : ts.length + us.length ≤ 16) : g = 0 ∧ tbs vs = tbs ts ++ tbs us := by
  have := joinE_none (nmsT (tbs ts)) (nmsT (tbs us)) ts.length (none_all hn hi) (by simpa [nmsT, tbs] using hl)
  rcases h with ⟨_, h0⟩ | h0
  · exact h0
  · rw [h0] at this; cases this

set_option maxRecDepth 100000 in
set_option maxHeartbeats 4000000 in
theorem schemaJoins_calls (a b : ByteArray) (w : World) (mx : Int) (hmx : w.cell? ⟨1, 0, none⟩ = some (.int .i64 mx)) (hk : KindsAt w) (hal : a.size ≤ 140737488351232) (hbl : b.size ≤ 140737488351232) :
    Calls Tryd.prog 5 #[.string a, .string b] w fun e w' => e = .returned (.bool true) ∧ Below w.heap.size w w' := by
  have HM : Hid (w.cell? ⟨1, 0, none⟩ = some (.int .i64 mx)) := hmx
  have HK : Hid (KindsAt w) := hk
  clear hmx hk
  go_enter Tryd.func5, Tryd.ntmps5
  go_wp2_with fail
  refine (schemaFixed_calls w mx HM.out HK.out).mono ?_
  rintro e w1 ⟨rfl, hb1⟩
  have HM1 : Hid (w1.cell? ⟨1, 0, none⟩ = some (.int .i64 mx)) := cell_next HM.out hb1
  have HK1 : Hid (KindsAt w1) := HK.out.next hb1
  have HB1 : Hid (Below w.heap.size w w1) := hb1
  clear hb1 HM HK
  go_wp2_with fail
  refine (parse_calls a w1 mx HM1.out HK1.out).mono ?_
  rintro e w2 ⟨hb2, h2⟩
  have HM2 : Hid (w2.cell? ⟨1, 0, none⟩ = some (.int .i64 mx)) := cell_next HM1.out hb2
  have HK2 : Hid (KindsAt w2) := HK1.out.next hb2
  have HB2 : Hid (Below w.heap.size w w2) := HB1.out.trans (hb2.mono HB1.out.size)
  clear hb2 HM1 HK1 HB1
  obtain ⟨ao, cap, ts, l2, e2, rfl, HA⟩ : ∃ ao cap ts l2 e2, e = .returned (.tuple #[.agg #[.slice ao (List.length (α := TV) ts) cap], .int .i64 l2, .int .i64 e2]) ∧ Hid (TabsRd w2 ao ts ∧ (e2 = 0 → parseP a = .ok (tbs ts))) := by
    cases hp : parseP a with
    | error lc =>
      obtain ⟨l, c⟩ := lc
      rw [hp] at h2
      exact ⟨none, 0, [], l, c, h2, TabsRd.nil _, fun h => absurd h (parse_err hp)⟩
    | ok us =>
      rw [hp] at h2
      obtain ⟨ao, cap, ts, rfl, hts, htb⟩ := h2
      exact ⟨ao, cap, ts, 0, 0, rfl, htb.reads, fun _ => by rw [hts]⟩
  clear h2
  go_wp2_with fail
  obtain ⟨w3, hw3⟩ : ∃ w3, w3 = w2.alloc (.cells #[.slice ao ts.length cap] 26) := ⟨_, rfl⟩
  have hb3 : Below w2.heap.size w2 w3 := by rw [hw3]; exact (Below.refl _ _).alloc (Nat.le_refl _) _
  have s3 : w3.cell? ⟨w2.heap.size, 0, none⟩ = some (.slice ao ts.length cap) := by rw [hw3, cell_blk (new_blk _ _)]; rfl
  rw [← hw3]
  clear hw3
  have HM3 : Hid (w3.cell? ⟨1, 0, none⟩ = some (.int .i64 mx)) := cell_next HM2.out hb3
  have HK3 : Hid (KindsAt w3) := HK2.out.next hb3
  have HB3 : Hid (Below w.heap.size w w3) := HB2.out.trans (hb3.mono HB2.out.size)
  have HT3 : Hid (TabsRd w3 ao ts) := HA.out.1.below hb3
  have HPA : Hid (e2 = 0 → parseP a = .ok (tbs ts)) := HA.out.2
  obtain ⟨sb, hsb⟩ : ∃ sb, sb = w2.heap.size := ⟨_, rfl⟩
  rw [← hsb] at s3 ⊢
  clear hb3 HM2 HK2 HB2 HA hsb
  refine (parse_calls b w3 mx HM3.out HK3.out).mono ?_
  rintro e w4 ⟨hb4, h4⟩
  have HM4 : Hid (w4.cell? ⟨1, 0, none⟩ = some (.int .i64 mx)) := cell_next HM3.out hb4
  have HK4 : Hid (KindsAt w4) := HK3.out.next hb4
  have HB4 : Hid (Below w.heap.size w w4) := HB3.out.trans (hb4.mono HB3.out.size)
  have HT4 : Hid (TabsRd w4 ao ts) := HT3.out.below hb4
  have s4 := cell_next s3 hb4
  clear hb4 HM3 HK3 HB3 HT3 s3
  obtain ⟨bo, cap2, us, l4, e4, rfl, HA⟩ : ∃ ao cap ts l2 e2, e = .returned (.tuple #[.agg #[.slice ao (List.length (α := TV) ts) cap], .int .i64 l2, .int .i64 e2]) ∧ Hid (TabsRd w4 ao ts ∧ (e2 = 0 → parseP b = .ok (tbs ts))) := by
    cases hp : parseP b with
    | error lc =>
      obtain ⟨l, c⟩ := lc
      rw [hp] at h4
      exact ⟨none, 0, [], l, c, h4, TabsRd.nil _, fun h => absurd h (parse_err hp)⟩
    | ok us =>
      rw [hp] at h4
      obtain ⟨ao, cap, ts, rfl, hts, htb⟩ := h4
      exact ⟨ao, cap, ts, 0, 0, rfl, htb.reads, fun _ => by rw [hts]⟩
  clear h4
  by_cases g1 : e2 = 0
  · by_cases g2 : e4 = 0
    · subst g1 g2
      have hpa := HPA.out rfl
      have hpb := HA.out.2 rfl
      by_cases g3 : 8192 ≤ b.size
      · go_wp2
        go_ret
        exact ⟨rfl, HB4.out.alloc HB4.out.size _⟩
      · by_cases g4 : 8192 ≤ a.size + b.size
        · have g5 : (8192 : Int) - (b.size : Int) ≤ (a.size : Int) := by omega
          go_wp2
          go_ret
          exact ⟨rfl, HB4.out.alloc HB4.out.size _⟩
        · have g5 : (a.size : Int) < (8192 : Int) - (b.size : Int) := by omega
          go_wp2_with fail
          obtain ⟨w5, hw5⟩ : ∃ w5, w5 = w4.alloc (.cells #[.slice bo us.length cap2] 26) := ⟨_, rfl⟩
          have hb5 : Below w4.heap.size w4 w5 := by rw [hw5]; exact (Below.refl _ _).alloc (Nat.le_refl _) _
          have t5 : w5.cell? ⟨w4.heap.size, 0, none⟩ = some (.slice bo us.length cap2) := by rw [hw5, cell_blk (new_blk _ _)]; rfl
          rw [← hw5]
          clear hw5
          have s5 := cell_next s4 hb5
          have HM5 : Hid (w5.cell? ⟨1, 0, none⟩ = some (.int .i64 mx)) := cell_next HM4.out hb5
          have HK5 : Hid (KindsAt w5) := HK4.out.next hb5
          have HB5 : Hid (Below w.heap.size w w5) := HB4.out.trans (hb5.mono HB4.out.size)
          have HT5 : Hid (TabsRd w5 ao ts) := HT4.out.below hb5
          have HU5 : Hid (TabsRd w5 bo us) := HA.out.1.below hb5
          obtain ⟨tb, htb⟩ : ∃ tb, tb = w4.heap.size := ⟨_, rfl⟩
          rw [← htb] at t5 ⊢
          clear hb5 HM4 HK4 HB4 HT4 HA HPA s4 htb
          have hxd : (a ++ (⟨#[10]⟩ : ByteArray) ++ b).data.toList = a.data.toList ++ 10 :: b.data.toList := by simp [ByteArray.data_append]
          have hxs : (a ++ (⟨#[10]⟩ : ByteArray) ++ b).size ≤ 8192 := by
            have e1 : ∀ y : ByteArray, y.size = y.data.toList.length := fun y => by simp
            rw [e1, hxd]
            simp
            omega
          have HJ := parse_joins hpa hpb hxd hxs
          have HPc := parse_calls (a ++ (⟨#[10]⟩ : ByteArray) ++ b) w5 mx HM5.out HK5.out
          refine HPc.mono ?_
          clear HPc
          rintro e w6 ⟨hb6, h6⟩
          obtain ⟨co, cap3, vs, l6, g, rfl, HC⟩ : ∃ ao cap ts' l2 e2, e = .returned (.tuple #[.agg #[.slice ao (List.length (α := TV) ts') cap], .int .i64 l2, .int .i64 e2]) ∧ Hid (TabsRd w6 ao ts' ∧ Told ts us ts' e2) := by
            have hl : (tbs ts).length = ts.length := by simp [tbs]
            rw [hl] at HJ
            unfold Told
            cases hj : joinE (nmsT (tbs ts)) ts.length (nmsT (tbs us)) with
            | none =>
              rw [hj] at HJ
              dsimp only at HJ
              rw [HJ] at h6
              obtain ⟨ao, cap, vs, rfl, hts, htb⟩ := h6
              exact ⟨ao, cap, vs, 0, 0, rfl, htb.reads, .inl ⟨rfl, rfl, hts⟩⟩
            | some c =>
              rw [hj] at HJ
              obtain ⟨l, HJ⟩ := HJ
              rw [HJ] at h6
              exact ⟨none, 0, [], l, c, h6, TabsRd.nil _, .inr rfl⟩
          clear h6 HJ hxd hxs hpa hpb
          have HTd : Hid (Told ts us vs g) := HC.out.2
          have HI : Hid (JI w sb tb w6.heap.size ao bo co cap cap2 cap3 ts us vs (w6.alloc (.cells #[.slice co vs.length cap3] 26))) := by
            have hb7 : Below w6.heap.size w6 (w6.alloc (.cells #[.slice co vs.length cap3] 26)) := (Below.refl _ _).alloc (Nat.le_refl _) _
            exact ⟨cell_next (cell_next s5 hb6) hb7, cell_next (cell_next t5 hb6) hb7, by rw [cell_blk (new_blk _ _)]; rfl, (HT5.out.below hb6).below hb7, (HU5.out.below hb6).below hb7, HC.out.1.below hb7, (HB5.out.trans (hb6.mono HB5.out.size)).trans (hb7.mono ((HB5.out.trans (hb6.mono HB5.out.size)).size))⟩
          have s7 := HI.out.s0
          have t7 := HI.out.t0
          clear HC hb6 HM5 HK5 HB5 HT5 HU5 s5 t5
          have hmt := HI.out.s.most
          have hmu := HI.out.t.most
          go_wp2
          obtain ⟨ub, hub⟩ : ∃ ub, ub = w6.heap.size := ⟨_, rfl⟩
          obtain ⟨w7, hw7⟩ : ∃ w7, w7 = w6.alloc (.cells #[.slice co vs.length cap3] 26) := ⟨_, rfl⟩
          rw [← hub, ← hw7] at HI
          rw [← hub, ← hw7]
          clear hub hw7 s7 t7
          go_loopw [14, 15, 64] (fun s14 s15 i wr => ∃ k : Nat, k ≤ us.length ∧ i = .int .i64 k ∧ Hid (JI w sb tb ub ao bo co cap cap2 cap3 ts us vs wr) ∧ Hid (noneJ ts us k)) (fun _ _ i _ => us.length - (intOf i).toNat)
          case atStart => exact ⟨0, Nat.zero_le _, rfl, HI, fun j h h' => by omega⟩
          case round =>
            clear HI
            obtain ⟨i, hi, rfl, HI, HN⟩ := hrel
            by_cases hlt : i < us.length
            · obtain ⟨bb, bo, h1, d0, d1, d2⟩ := HI.out.t.row.tab i hlt
              subst h1
              have s8 : ∀ o, (wr.alloc o).cell? ⟨sb, 0, none⟩ = some (.slice ao ts.length cap) := fun o => cell_next HI.out.s0 ((Below.refl _ _).alloc (Nat.le_refl _) o)
              go_wp2
              have hb9 : Below wr.heap.size wr (wr.alloc (.cells #[.string us[i].n, .slice us[i].fa us[i].fs.length us[i].fc, .slice us[i].xa us[i].xs.length us[i].xc] 36)) := (Below.refl _ _).alloc (Nat.le_refl _) _
              have x9 : (wr.alloc (.cells #[.string us[i].n, .slice us[i].fa us[i].fs.length us[i].fc, .slice us[i].xa us[i].xs.length us[i].xc] 36)).cell? ⟨wr.heap.size, 0, none⟩ = some (.string us[i].n) := by rw [cell_blk (new_blk _ _)]; rfl
              have HI9 := HI.out.next hb9
              obtain ⟨w9, hw9⟩ : ∃ w9, w9 = wr.alloc (.cells #[.string us[i].n, .slice us[i].fa us[i].fs.length us[i].fc, .slice us[i].xa us[i].xs.length us[i].xc] 36) := ⟨_, rfl⟩
              obtain ⟨xb, hxb⟩ : ∃ xb, xb = wr.heap.size := ⟨_, rfl⟩
              rw [← hw9, ← hxb] at x9
              rw [← hw9] at HI9
              rw [← hw9, ← hxb]
              have HI9' : Hid (JI w sb tb ub ao (some ⟨bb, bo, none⟩) co cap cap2 cap3 ts us vs w9) := HI9
              have HX9 : Hid (w9.cell? ⟨xb, 0, none⟩ = some (.string us[i].n)) := x9
              clear hb9 hw9 hxb s8 d0 d1 d2 HI HI9 x9
              obtain ⟨un, hun⟩ : ∃ un, un = us[i].n := ⟨_, rfl⟩
              have HUN : Hid (un = us[i].n) := hun
              rw [← hun] at HX9
              clear hun
              go_loopw [17, 72] (fun s17 y wr2 => ∃ k : Nat, k ≤ ts.length ∧ y = .int .i64 k ∧ Hid (JI w sb tb ub ao (some ⟨bb, bo, none⟩) co cap cap2 cap3 ts us vs wr2) ∧ Hid (wr2.cell? ⟨xb, 0, none⟩ = some (.string un)) ∧ Hid (∀ m (hm : m < ts.length), m < k → ¬ ts[m].n = un)) (fun _ y _ => ts.length - (intOf y).toNat)
              case atStart => exact ⟨0, Nat.zero_le _, rfl, HI9', HX9, fun m h h' => by omega⟩
              case round =>
                clear HI9' HX9
                obtain ⟨k, hk, rfl, HI2, HX, HNk⟩ := hrel
                by_cases hltk : k < ts.length
                · obtain ⟨ab, ao, h1, c0, c1, c2⟩ := HI2.out.s.row.tab k hltk
                  subst h1
                  have x0 : ∀ o, (wr.alloc o).cell? ⟨xb, 0, none⟩ = some (.string un) := fun o => cell_next HX.out ((Below.refl _ _).alloc (Nat.le_refl _) o)
                  by_cases hq : ts[k].n = un
                  · have q3 : (un.toList == ts[k].n.toList) = true := by rw [beq_toList, hq]; simp
                    have s8 : ∀ o, (wr.alloc o).cell? ⟨sb, 0, none⟩ = some (.slice (some ⟨ab, ao, none⟩) ts.length cap) := fun o => cell_next HI2.out.s0 ((Below.refl _ _).alloc (Nat.le_refl _) o)
                    have hg := told_hit HTd.out hlt HN.out (inN_hit hltk (by rw [← HUN.out]; exact hq))
                    have HBz : Hid (Below w.heap.size w wr) := HI2.out.below
                    clear HI2 HX HNk HN HTd hq
                    rcases hg with rfl | ⟨rfl, h15⟩
                    · go_wp2
                      go_ret
                      exact ⟨rfl, HBz.out.alloc HBz.out.size _⟩
                    · have h15' : (15 : Int) < (i : Int) + (ts.length : Int) := by omega
                      go_wp2
                      go_ret
                      exact ⟨rfl, HBz.out.alloc HBz.out.size _⟩
                  · have q3 : (un.toList == ts[k].n.toList) = false := by rw [beq_toList]; simp; exact fun e => hq e.symm
                    have HNk2 : Hid (∀ m (hm : m < ts.length), m < k + 1 → ¬ ts[m].n = un) := fun m hm hmk => by
                      rcases Nat.lt_or_ge m k with h | h
                      · exact HNk.out m hm h
                      · obtain rfl : m = k := by omega
                        exact hq
                    have HI3 : Hid (∀ o, JI w sb tb ub (some ⟨ab, ao, none⟩) (some ⟨bb, bo, none⟩) co cap cap2 cap3 ts us vs (wr.alloc o)) := fun o => HI2.out.next ((Below.refl _ _).alloc (Nat.le_refl _) o)
                    have HX3 : Hid (∀ o, (wr.alloc o).cell? ⟨xb, 0, none⟩ = some (.string un)) := x0
                    clear HI2 HX HNk hq
                    go_wp2
                    go_roundw
                    case rel => exact ⟨k + 1, by omega, by go_num, HI3.out _, HX3.out _, HNk2⟩
                    case measure => simp [intOf]; omega
                · have HN2 : Hid (noneJ ts us (i + 1)) := fun m hm hmi => by
                    rcases Nat.lt_or_ge m i with h | h
                    · exact HN.out m hm h
                    · obtain rfl : m = i := by omega
                      exact inN_none (fun k' hk' => by rw [← HUN.out]; exact HNk.out k' hk' (by omega))
                  clear HX HNk HN
                  go_wp2
                  go_roundw
                  case rel => exact ⟨i + 1, by omega, by go_num, HI2, HN2⟩
                  case measure => simp [intOf]; omega
            · have s8 := HI.out.s0
              have t8 := HI.out.t0
              by_cases hl : 16 < ts.length + us.length
              · have hg := told_long HTd.out HN.out (by omega) hmt hl
                subst hg
                have hl' : (16 : Int) < (ts.length : Int) + (us.length : Int) := by omega
                go_wp2
                go_ret
                exact ⟨rfl, HI.out.below⟩
              · obtain ⟨hg, hvs⟩ := told_none HTd.out HN.out (by omega) (by omega)
                subst hg
                have HVS : Hid (tbs vs = tbs ts ++ tbs us) := hvs
                have hl' : ¬ (16 : Int) < (ts.length : Int) + (us.length : Int) := by omega
                clear hvs HN HTd
                have s9 : ∀ o, (wr.alloc o).cell? ⟨sb, 0, none⟩ = some (.slice ao ts.length cap) := fun o => cell_next HI.out.s0 ((Below.refl _ _).alloc (Nat.le_refl _) o)
                have HC9 : Hid (∀ o, CellsAt (wr.alloc o) ao (tcs ts)) := fun o => HI.out.s.row.below ((Below.refl _ _).alloc (Nat.le_refl _) o)
                go_wp2_with (at_builtin; refine append_tabs _ rfl (.tmp 109) (.tmp 111) rfl wr.heap.size _ 0 [] rfl (World.ownsRow_nil _ _ _ _) ao cap ts rfl (HC9.out _) (by omega) (by omega) (by simp) ?_)
                intro v1 w8 ho8 hg8
                have hbA : Below (wr.alloc (.cells #[.slice none 0 0] 26)).heap.size (wr.alloc (.cells #[.slice none 0 0] 26)) w8 := hg8.toBelow (Nat.le_refl _) (fun k hk => by simp [Value.ownBlock] at hk)
                have HN8 : Hid (w8.heap[wr.heap.size]? = some (.cells #[.slice none 0 0] 26)) := (hbA.block _ (by simp)).trans (new_blk wr _)
                have HB8 : Hid (Below wr.heap.size wr w8) := ((Below.refl _ wr).alloc (Nat.le_refl _) _).trans (hbA.mono (by simp))
                have ho8' : w8.ownsRow wr.heap.size 36 3 v1 ts.length (tcs ts) := by simpa using ho8
                clear ho8 hg8 hbA s8 t8 s9 HC9
                obtain ⟨a1, c1, hv1, _⟩ := row_forms ho8'
                subst hv1
                have HO8 : Hid (w8.ownsRow wr.heap.size 36 3 (.slice a1 ts.length c1) ts.length (tcs ts)) := ho8'
                clear ho8'
                have e8 : w8.cell? ⟨wr.heap.size, 0, none⟩ = some (.slice none 0 0) := by rw [cell_blk HN8.out]; rfl
                have z8 : w8.frozen? ⟨wr.heap.size, 0, none⟩ = false := frozen_blk HN8.out
                have HN9 : Hid ((w8.setCell ⟨wr.heap.size, 0, none⟩ (.slice a1 ts.length c1)).heap[wr.heap.size]? = some (.cells #[.slice a1 ts.length c1] 26)) := set_blk HN8.out _
                have HB9 : Hid (Below wr.heap.size wr (w8.setCell ⟨wr.heap.size, 0, none⟩ (.slice a1 ts.length c1))) := HB8.out.setCell (Nat.le_refl _) _
                have HO9 : Hid ((w8.setCell ⟨wr.heap.size, 0, none⟩ (.slice a1 ts.length c1)).ownsRow wr.heap.size 36 3 (.slice a1 ts.length c1) ts.length (tcs ts)) := row_set HO8.out (row_ne HO8.out HN8.out (by decide)) _
                have e9 : (w8.setCell ⟨wr.heap.size, 0, none⟩ (.slice a1 ts.length c1)).cell? ⟨wr.heap.size, 0, none⟩ = some (.slice a1 ts.length c1) := by rw [cell_blk HN9.out]; rfl
                have t9 : (w8.setCell ⟨wr.heap.size, 0, none⟩ (.slice a1 ts.length c1)).cell? ⟨tb, 0, none⟩ = some (.slice bo us.length cap2) := cell_next HI.out.t0 HB9.out
                have HC9 : Hid (CellsAt (w8.setCell ⟨wr.heap.size, 0, none⟩ (.slice a1 ts.length c1)) bo (tcs us)) := HI.out.t.row.below HB9.out
                have hz9 : wr.heap.size ≤ (w8.setCell ⟨wr.heap.size, 0, none⟩ (.slice a1 ts.length c1)).heap.size := HB9.out.size
                clear HN8 HO8 HB8
                go_wp2_with (at_builtin; refine append_tabs _ rfl (.tmp 115) (.tmp 117) rfl wr.heap.size _ ts.length (tcs ts) rfl HO9.out bo cap2 us rfl HC9.out (by omega) (by omega) hz9 ?_)
                intro v3 w10 ho10 hg10
                have HB10 : Hid (Below wr.heap.size wr w10) := HB9.out.trans (hg10.toBelow hz9 fun k hk => (World.ownsRow.lt HO9.out k hk).1)
                have HN10 : Hid (w10.heap[wr.heap.size]? = some (.cells #[.slice a1 ts.length c1] 26)) := (hg10.grown.block _ (lt_blk HN9.out) (fun e => row_ne HO9.out HN9.out (by decide) e.symm)).trans HN9.out
                have ho10' : w10.ownsRow wr.heap.size 36 3 v3 (ts ++ us).length (tcs (ts ++ us)) := by
                  have : tcs (ts ++ us) = tcs ts ++ tcs us := by simp [tcs]
                  rw [this, List.length_append]; exact ho10
                clear ho10 hg10 e8 z8 e9 t9 HC9 hz9 HN9 HB9 HO9
                obtain ⟨a3, c3, hv3, _⟩ := row_forms ho10'
                subst hv3
                have HO11 : Hid ((w10.setCell ⟨wr.heap.size, 0, none⟩ (.slice a3 (ts ++ us).length c3)).ownsRow wr.heap.size 36 3 (.slice a3 (ts ++ us).length c3) (ts ++ us).length (tcs (ts ++ us))) := row_set ho10' (row_ne ho10' HN10.out (by decide)) _
                clear ho10'
                have e10 : w10.cell? ⟨wr.heap.size, 0, none⟩ = some (.slice a1 ts.length c1) := by rw [cell_blk HN10.out]; rfl
                have z10 : w10.frozen? ⟨wr.heap.size, 0, none⟩ = false := frozen_blk HN10.out
                have HN11 := set_blk (i := 0) HN10.out (.slice a3 (ts ++ us).length c3)
                have HB11 : Hid (Below wr.heap.size wr (w10.setCell ⟨wr.heap.size, 0, none⟩ (.slice a3 (ts ++ us).length c3))) := HB10.out.setCell (Nat.le_refl _) _
                have e11 : (w10.setCell ⟨wr.heap.size, 0, none⟩ (.slice a3 (ts ++ us).length c3)).cell? ⟨wr.heap.size, 0, none⟩ = some (.slice a3 (ts ++ us).length c3) := by rw [cell_blk HN11]; rfl
                have u11 : (w10.setCell ⟨wr.heap.size, 0, none⟩ (.slice a3 (ts ++ us).length c3)).cell? ⟨ub, 0, none⟩ = some (.slice co vs.length cap3) := cell_next HI.out.u0 HB11.out
                have HI11 := HI.out.next HB11.out
                have HR11 : Hid (TabsRd (w10.setCell ⟨wr.heap.size, 0, none⟩ (.slice a3 (ts ++ us).length c3)) a3 (ts ++ us)) := by
                  refine ⟨row_cells HO11.out, ?_, ?_, ?_, by simp; omega, ?_⟩
                  · intro t ht
                    rcases List.mem_append.1 ht with h | h
                    · exact HI11.s.fs t h
                    · exact HI11.t.fs t h
                  · intro t ht
                    rcases List.mem_append.1 ht with h | h
                    · exact HI11.s.xs t h
                    · exact HI11.t.xs t h
                  · intro t ht
                    rcases List.mem_append.1 ht with h | h
                    · exact HI11.s.ov t h
                    · exact HI11.t.ov t h
                  · intro t ht
                    rcases List.mem_append.1 ht with h | h
                    · exact HI11.s.ok t h
                    · exact HI11.t.ok t h
                have HSa := same_calls co a3 cap3 c3 vs (ts ++ us) _ HI11.u HR11.out (by rw [HVS.out]; simp [tbs])
                have HSa' : Hid _ := HSa
                have HBz : Hid (Below w.heap.size w (w10.setCell ⟨wr.heap.size, 0, none⟩ (.slice a3 (ts ++ us).length c3))) := HI11.below
                clear HSa HI11 HR11 HN11 HN10 HB10 HO11 HI
                generalize (ts ++ us).length = L at *
                go_wp2_with fail
                have HSb : Calls Tryd.prog 11 #[.agg #[.slice co vs.length cap3], .agg #[.slice a3 L c3]] (w10.setCell ⟨wr.heap.size, 0, none⟩ (.slice a3 L c3)) (fun e w' => e = .returned (.bool true) ∧ Below (w10.setCell ⟨wr.heap.size, 0, none⟩ (.slice a3 L c3)).heap.size (w10.setCell ⟨wr.heap.size, 0, none⟩ (.slice a3 L c3)) w') := HSa'.out
                refine HSb.mono ?_
                clear HSb HSa'
                rintro e w12 ⟨rfl, hb12⟩
                have HBy : Hid (Below w.heap.size w w12) := HBz.out.trans (hb12.mono HBz.out.size)
                clear hb12
                go_wp2
                go_ret
                exact ⟨rfl, HBy.out⟩
    · have q2 : (e4 != 0) = true := by simpa using g2
      go_wp2
      all_goals go_ret
      all_goals exact ⟨rfl, HB4.out.alloc HB4.out.size _⟩
  · have q1 : (e2 != 0) = true := by simpa using g1
    go_wp2
    all_goals go_ret
    all_goals exact ⟨rfl, HB4.out.alloc HB4.out.size _⟩
end Go.Proofs.YtojedpkbhkbaoaaDoor
