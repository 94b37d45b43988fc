/- Layer 18 (json): appendCharacter. -/
import Derived.Test.YtelhgjepjieocaaDoorJxSnd
namespace Go.Proofs.YtelhgjepjieocaaDoor
open Go.RowKit Go.Sort
set_option linter.unusedVariables false

/-- The letter behind a backslash for a byte, if it has one. -/
def escL (c : Nat) : Option Nat := if c = 34 then some 34 else if c = 92 then some 92 else if c = 8 then some 98 else if c = 12 then some 102 else if c = 10 then some 110 else if c = 13 then some 114 else if c = 9 then some 116 else none
def hexD (d : Nat) : Nat := if d < 10 then 48 + d else 87 + d
/-- How a byte is printed. -/
def chrP (c : Nat) : List Nat := match escL c with
  | some x => [92, x]
  | none => if c < 32 then [92, 117, 48, 48, hexD (c / 16), hexD (c % 16)] else [c]
def nbs (l : List Nat) : List Value := l.map fun (c : Nat) => .int .u8 (c : Int)
theorem nbs_one (l : List Nat) : ∀ u ∈ nbs l, u.oneCell' = true := fun u hu => by obtain ⟨c, _, rfl⟩ := List.mem_map.1 hu; rfl
theorem nbs_append (a b : List Nat) : nbs (a ++ b) = nbs a ++ nbs b := by simp [nbs]
theorem nbs_length (a : List Nat) : (nbs a).length = a.length := by simp [nbs]
def prIx (c : Nat) : Int := Lib.indexByte [34, 92, 47, 8, 12, 10, 13, 9] c.toUInt8
theorem pr_ix : ∀ c : Fin 256, (prIx c.val = -1 ∧ escL c.val = none ∧ c.val ≠ 47) ∨ (prIx c.val = 0 ∧ escL c.val = some 34 ∧ c.val = 34) ∨ (prIx c.val = 1 ∧ escL c.val = some 92 ∧ c.val = 92) ∨ (prIx c.val = 2 ∧ escL c.val = none ∧ c.val = 47) ∨ (prIx c.val = 3 ∧ escL c.val = some 98 ∧ c.val = 8) ∨ (prIx c.val = 4 ∧ escL c.val = some 102 ∧ c.val = 12) ∨ (prIx c.val = 5 ∧ escL c.val = some 110 ∧ c.val = 10) ∨ (prIx c.val = 6 ∧ escL c.val = some 114 ∧ c.val = 13) ∨ (prIx c.val = 7 ∧ escL c.val = some 116 ∧ c.val = 9) := by decide +kernel
theorem prIndex_calls (c : Nat) (w : World) : Calls Tryd.prog 72 #[.string ⟨#[34, 92, 47, 8, 12, 10, 13, 9]⟩, .int .u8 (c : Int)] w fun e w' => e = .returned (.int .i64 (prIx c)) ∧ w' = w := Tryd.strings_IndexByte _ (c : Int) w
/-- Text that grows in memory of its own: what was there is there still, but for the text's own block. -/
def TxG (w : World) (B : Nat) (v : Value) (l add : List Nat) (e : Ending) (w' : World) : Prop := ∃ v', e = .returned v' ∧ Ow w' B 5 v' (nbs (l ++ add)) ∧ Grew w w' v v'
/-- append(s, x..), the elements laid right ahead. -/
theorem append_lit (W : World) {ops : Array Oper} {rest : List Oper} {o : Oper} {a : Act} {Q : Exit → Act → World → Prop} (hgd : o.guard = none) (s x : Operand)
    (ho : o.op = .call { callee := .builtin .append, args := #[s, x], argTypes := #[41, 41] })
    (B : Nat) (v : Value) (l : List Nat) (hs : a.eval s = v) (us : List Nat) (n g : Nat) (hn : us.length = n) (hx : a.eval x = .slice (some ⟨g, 0, none⟩) n n)
    (hg : g = W.heap.size) (hown : Ow W B 5 v (nbs l)) (hlen : l.length + n ≤ 140737488355328) (hB : B ≤ W.heap.size)
    (h : ∀ v' w', Ow w' B 5 v' (nbs (l ++ us)) → Grew W w' v v' → wpList Tryd.prog ops Q rest (a.put o.dst v') w') : wpList Tryd.prog ops Q (o :: rest) a (W.alloc (.cells (nbs us).toArray 5)) := by
  obtain ⟨i0, hi, hz0, hz1, hz2⟩ := infoV info_u8
  subst hg
  refine wpList_append_grew _ hgd s x 41 ho B 5 i0 _ 1 1 Tryd.underlying41 hi hz0 hz1 hz2 rfl (by decide) v (nbs l).length (nbs l) hs (World.ownsRow.alloc hown _) ⟨W.heap.size, 0, none⟩ n n (nbs us) hx (by rw [nbs_length, hn]; omega) (cells_new _ _ _) (nbs_one us) (by rw [nbs_length]; unfold maxLen; omega) (by rw [nbs_length]; omega) (by simp; omega) ?_
  intro v' w' h1 h2 _
  refine h v' w' ?_ h2.ofAlloc
  unfold Ow
  rw [nbs_append, List.length_append, nbs_length us, hn]
  exact h1

/-! ### an append in a region that draws its order -/
section
variable {o : Oper} {a : Act} {W : World} {K : Act → World → Prop} {Q : Exit → Act → World → Prop}
theorem f_appG {s x : Operand} (ho : o.op = .call { callee := .builtin .append, args := #[s, x], argTypes := #[41, 41] }) (B : Nat) (v : Value) (l : List Nat) (hs : a.eval s = v) (us : List Nat) (n q : Nat) (hn : us.length = n) (hx : a.eval x = .slice (some ⟨q, 0, none⟩) n n)
    (hq : W.heap[q]? = some (.cells (nbs us).toArray 5)) (hown : Ow W B 5 v (nbs l)) (hlen : l.length + n ≤ 140737488355328) (hB : B ≤ W.heap.size)
    (h : ∀ v' w', Ow w' B 5 v' (nbs (l ++ us)) → Grew W w' v v' → K (a.put o.dst v') w') : o.wp Tryd.prog a W K Q := by
  obtain ⟨i0, hi, hz0, hz1, hz2⟩ := infoV info_u8
  obtain ⟨v', w', hr, h2, h3, -⟩ := run_append_grew (P := Tryd.prog) W B 41 o.type 5 i0 _ 1 1 Tryd.underlying41 hi hz0 hz1 hz2 rfl (by decide) v (nbs l).length (nbs l) hown ⟨q, 0, none⟩ n n (nbs us) (by rw [nbs_length, hn]; omega) (fun j u hj => by
    have hadd : (⟨q, 0, none⟩ : Addr).add j = ⟨q, j, none⟩ := by unfold Addr.add; split <;> simp_all
    rw [hadd, cell_blkT hq]
    simpa using hj) (nbs_one us) (by rw [nbs_length]; unfold maxLen; omega) (by rw [nbs_length]; omega) hB
  unfold Oper.wp execOp
  simp only [ho, resolve, invoke, builtin, Sem.run_bind, Sem.run_pure, Result.andThen_ok, List.map_toArray, List.map_cons, List.map_nil, hs, hx, hr]
  refine h v' w' ?_ h3
  unfold Ow
  rw [nbs_append, List.length_append, nbs_length us, hn]
  exact h2
end
/-- The order's state: operation k is the append, the next one puts what it yields where it belongs. -/
structure JA (w1 : World) (B : Nat) (v : Value) (l us : List Nat) (k : Nat) (ls : Nat → Bool) (vs : Nat → Value) (W : World) : Prop where
  lo : ls k = false → Below w1.heap.size w1 W
  hi : ls k = true → Ow W B 5 (vs k) (nbs (l ++ us)) ∧ Grew w1 W v (vs k)
  last : ls (k + 1) = true → vs (k + 1) = vs k ∧ ls k = true
section
variable {w1 W W' : World} {B : Nat} {v x : Value} {l us : List Nat} {k i : Nat} {ls : Nat → Bool} {vs : Nat → Value}
theorem updB_ne {ls : Nat → Bool} {i j : Nat} (h : j ≠ i) : updB ls i j = ls j := by simp [updB, h]
theorem updB_eq {ls : Nat → Bool} {i : Nat} : updB ls i i = true := by simp [updB]
theorem updV_ne {vs : Nat → Value} {i j : Nat} {v : Value} (h : j ≠ i) : updV vs i v j = vs j := by simp [updV, h]
theorem updV_eq {vs : Nat → Value} {i : Nat} {v : Value} : updV vs i v i = v := by simp [updV]
theorem JA.next (h : JA w1 B v l us k ls vs W) (hi : i < k) (hb : Below W.heap.size W W') : JA w1 B v l us k (updB ls i) (updV vs i x) W' := by
  have h1 : k ≠ i := by omega
  have h2 : k + 1 ≠ i := by omega
  constructor
  · intro e
    rw [updB_ne h1] at e
    exact (h.lo e).trans (hb.mono (h.lo e).size)
  · intro e
    rw [updB_ne h1] at e
    rw [updV_ne h1]
    exact ⟨(h.hi e).1.below hb, (h.hi e).2.below hb⟩
  · intro e
    rw [updB_ne h2] at e
    rw [updV_ne h1, updV_ne h2, updB_ne h1]
    exact h.last e
theorem JA.nextA (h : JA w1 B v l us k ls vs W) (hl : ls k = false) (ho : Ow W' B 5 x (nbs (l ++ us))) (hg : Grew w1 W' v x) : JA w1 B v l us k (updB ls k) (updV vs k x) W' := by
  have h2 : k + 1 ≠ k := by omega
  constructor
  · intro e; rw [updB_eq] at e; cases e
  · intro _; rw [updV_eq]; exact ⟨ho, hg⟩
  · intro e
    rw [updB_ne h2] at e
    rw [(h.last e).2] at hl; cases hl
theorem JA.nextL (h : JA w1 B v l us k ls vs W) (hv : x = vs k) (hl : ls k = true) : JA w1 B v l us k (updB ls (k + 1)) (updV vs (k + 1) x) W := by
  have h2 : k ≠ k + 1 := by omega
  constructor
  · intro e; rw [updB_ne h2] at e; exact h.lo e
  · intro e; rw [updB_ne h2] at e; rw [updV_ne h2]; exact h.hi e
  · intro _; rw [updV_eq, updV_ne h2, updB_ne h2]; exact ⟨hv, hl⟩
end
def R5 (B c : Nat) (v0 : Value) (us : List Nat) (j : Nat) (v : Value) (W : World) : Prop :=
  match j with
  | 0 => v = v0
  | 1 => v = .int .u8 (c : Int)
  | 2 => v = .int .u8 ((c / 16 : Nat) : Int)
  | 3 => v = .int .u8 (hexD (c / 16) : Int)
  | 4 => v = .int .u8 (c : Int)
  | 5 => v = .int .u8 ((c % 16 : Nat) : Int)
  | 6 => v = .int .u8 (hexD (c % 16) : Int)
  | 7 => ∃ q, v = .slice (some ⟨q, 0, none⟩) 6 6 ∧ B ≤ q ∧ W.heap[q]? = some (.cells (nbs us).toArray 5)
  | _ => True
theorem R5.mono {B c : Nat} {v0 : Value} {us : List Nat} {j : Nat} {v : Value} {W W' : World} (h : R5 B c v0 us j v W) (hb : ∀ q o, B ≤ q → W.heap[q]? = some o → W'.heap[q]? = some o) : R5 B c v0 us j v W' := by
  match j, h with
  | 0, h => exact h
  | 1, h => exact h
  | 2, h => exact h
  | 3, h => exact h
  | 4, h => exact h
  | 5, h => exact h
  | 6, h => exact h
  | 7, ⟨q, h1, h2, h3⟩ => exact ⟨q, h1, h2, hb q _ h2 h3⟩
  | _ + 8, _ => trivial
theorem shr4 : ∀ c : Fin 32, IntKind.u8.wrap ((c.val : Int) / 2 ^ 4) = ((c.val / 16 : Nat) : Int) := by decide
theorem f_shr {o : Oper} {a : Act} {W : World} {K : Act → World → Prop} {Q : Exit → Act → World → Prop} {x : Operand} {c t u : Nat} (hc : c < 32) (ho : o.op = .binOp .shr t x (.const (.int .u64 4)) u) (hx : a.eval x = .int .u8 (c : Int)) (h : K (a.put o.dst (.int .u8 ((c / 16 : Nat) : Int))) W) : o.wp Tryd.prog a W K Q := by
  refine wp_valF (v := .int .u8 ((c / 16 : Nat) : Int)) (by unfold execOp; simp only [ho, hx]; simp [go_sem]) h
theorem and15 : ∀ c : Fin 32, bits .and .u8 (c.val : Int) 15 = (c.val : Int) % 16 := by decide
theorem f_and {o : Oper} {a : Act} {W : World} {K : Act → World → Prop} {Q : Exit → Act → World → Prop} {x : Operand} {c t u : Nat} (hc : c < 32) (ho : o.op = .binOp .and t x (.const (.int .u8 15)) u) (hx : a.eval x = .int .u8 (c : Int)) (h : K (a.put o.dst (.int .u8 ((c % 16 : Nat) : Int))) W) : o.wp Tryd.prog a W K Q := by
  refine wp_valF (v := .int .u8 ((c % 16 : Nat) : Int)) (by unfold execOp; simp only [ho, hx]; simp [go_sem]; exact and15 ⟨c, hc⟩) h
theorem f_build6 {o : Oper} {a : Act} {W : World} {K : Act → World → Prop} {Q : Exit → Act → World → Prop} {x y : Nat} {d e : Nat} (ho : o.op = .buildSlice 41 6 #[(0, .const (.int .u8 92)), (1, .const (.int .u8 117)), (2, .const (.int .u8 48)), (3, .const (.int .u8 48)), (4, .tmp x), (5, .tmp y)])
    (hx : a.eval (.tmp x) = .int .u8 (d : Int)) (hy : a.eval (.tmp y) = .int .u8 (e : Int)) (h : K (a.put o.dst (.slice (some ⟨W.heap.size, 0, none⟩) 6 6)) (W.alloc (.cells (nbs [92, 117, 48, 48, d, e]).toArray 5))) : o.wp Tryd.prog a W K Q := by
  have hr : (execOp a.eval o).run Tryd.prog W = .ok (.value (.slice (some ⟨W.heap.size, 0, none⟩) 6 6)) (W.alloc (.cells (nbs [92, 117, 48, 48, d, e]).toArray 5)) := by
    unfold execOp
    simp only [ho, List.map_toArray, List.map_cons, List.map_nil, hx, hy]
    go_simp
    rfl
  unfold Oper.wp
  rw [hr]
  exact h
theorem run_index_str (s : ByteArray) (d : Nat) (b : UInt8) (h : s[d]? = some b) (W : World) : (Instr.index 9 (.string s) (.int .u8 (d : Int))).run Tryd.prog W = .ok (.int .u8 (b.toNat : Int)) W := by
  simp [Instr.index, run_underlying Tryd.underlying9, asIntOf, h, go_sem]
theorem hexAt : ∀ d : Fin 16, (⟨#[48, 49, 50, 51, 52, 53, 54, 55, 56, 57, 97, 98, 99, 100, 101, 102]⟩ : ByteArray)[d.val]? = some (hexD d.val).toUInt8 ∧ (hexD d.val).toUInt8.toNat = hexD d.val := by decide +kernel
theorem f_hexd {o : Oper} {a : Act} {W : World} {K : Act → World → Prop} {Q : Exit → Act → World → Prop} {x : Operand} {d : Nat} (hc : d < 16) (ho : o.op = .index 9 (.const (.string ⟨#[48, 49, 50, 51, 52, 53, 54, 55, 56, 57, 97, 98, 99, 100, 101, 102]⟩)) x) (hx : a.eval x = .int .u8 (d : Int)) (h : K (a.put o.dst (.int .u8 (hexD d : Int))) W) : o.wp Tryd.prog a W K Q := by
  refine wp_valF (v := .int .u8 (hexD d : Int)) (by unfold execOp; simp only [ho, hx]; rw [show a.eval (.const (.string ⟨#[48, 49, 50, 51, 52, 53, 54, 55, 56, 57, 97, 98, 99, 100, 101, 102]⟩)) = .string ⟨#[48, 49, 50, 51, 52, 53, 54, 55, 56, 57, 97, 98, 99, 100, 101, 102]⟩ from rfl, Sem.run_bind, run_index_str _ d _ (hexAt ⟨d, hc⟩).1 W, (hexAt ⟨d, hc⟩).2]; rfl) h
set_option maxRecDepth 100000 in
set_option maxHeartbeats 4000000 in
theorem apc_low (c : Nat) (hc : c < 256) (ao : Option Addr) (n cap B : Nat) (l : List Nat) (w : World) (hn2 : n ≤ 140737488355000) (HO : Hid (Ow w B 5 (.slice ao n cap) (nbs l) ∧ l.length = n ∧ B ≤ w.heap.size)) (h32 : c < 32) (P : List Nat) (HPe : Hid (P = [92, 117, 48, 48, hexD (c / 16), hexD (c % 16)])) (HIX : ∀ w, Calls Tryd.prog 72 #[.string ⟨#[34, 92, 47, 8, 12, 10, 13, 9]⟩, .int .u8 (c : Int)] w fun e w' => e = .returned (.int .i64 (-1)) ∧ w' = w) :
    Calls Tryd.prog 64 #[.slice ao n cap, .int .u8 (c : Int)] w (TxG w B (.slice ao n cap) l P) := by
  go_enter Tryd.func64, Tryd.ntmps64
  go_wp2_with fail
  refine (HIX _).mono ?_
  rintro e w1 ⟨rfl, rfl⟩
  go_wp2_with fail
  refine wp_region_V 10 (JA w1 B (.slice ao n cap) l P 8) (R5 w1.heap.size c (.slice ao n cap) P) (by kernel_rfl) rfl (by kernel_rfl) (by kernel_rfl) [some 23, some 24, some 25, some 26, some 27, some 28, some 29, some 30, some 31, some 4] (by kernel_rfl) ?J0 ?hop ?tail
  case J0 => exact fun W vs hW => ⟨fun _ => hW, fun h => (by cases h), fun h => (by cases h)⟩
  case hop =>
    intro i o hi ho a W ls vs hJ hlf hs hd hall
    match i, hi, ho, hd, hlf, hall with
    | 0, _, ho, hd, hlf, hall =>
      obtain rfl := Option.some.inj ho
      exact ⟨.inl rfl, f_mv (x := .tmp 0) rfl ((hs 0 (notDst (by kernel_rfl))).trans rfl) ⟨_, rfl, rfl, hJ.next (by decide) (Below.refl _ _), fun _ _ _ _ h => h⟩⟩
    | 1, _, ho, hd, hlf, hall =>
      obtain rfl := Option.some.inj ho
      exact ⟨.inl rfl, f_mv (x := .tmp 1) rfl ((hs 1 (notDst (by kernel_rfl))).trans rfl) ⟨_, rfl, rfl, hJ.next (by decide) (Below.refl _ _), fun _ _ _ _ h => h⟩⟩
    | 2, _, ho, hd, hlf, hall =>
      obtain rfl := Option.some.inj ho
      exact ⟨.inl rfl, f_shr (x := .tmp 24) h32 rfl (hd 1 24 (by kernel_rfl) (by kernel_rfl)).1 ⟨_, rfl, rfl, hJ.next (by decide) (Below.refl _ _), fun _ _ _ _ h => h⟩⟩
    | 3, _, ho, hd, hlf, hall =>
      obtain rfl := Option.some.inj ho
      exact ⟨.inl rfl, f_hexd (x := .tmp 25) (by omega) rfl (hd 2 25 (by kernel_rfl) (by kernel_rfl)).1 ⟨_, rfl, rfl, hJ.next (by decide) (Below.refl _ _), fun _ _ _ _ h => h⟩⟩
    | 4, _, ho, hd, hlf, hall =>
      obtain rfl := Option.some.inj ho
      exact ⟨.inl rfl, f_mv (x := .tmp 1) rfl ((hs 1 (notDst (by kernel_rfl))).trans rfl) ⟨_, rfl, rfl, hJ.next (by decide) (Below.refl _ _), fun _ _ _ _ h => h⟩⟩
    | 5, _, ho, hd, hlf, hall =>
      obtain rfl := Option.some.inj ho
      exact ⟨.inl rfl, f_and (x := .tmp 27) h32 rfl (hd 4 27 (by kernel_rfl) (by kernel_rfl)).1 ⟨_, rfl, rfl, hJ.next (by decide) (Below.refl _ _), fun _ _ _ _ h => h⟩⟩
    | 6, _, ho, hd, hlf, hall =>
      obtain rfl := Option.some.inj ho
      exact ⟨.inl rfl, f_hexd (x := .tmp 28) (by omega) rfl (hd 5 28 (by kernel_rfl) (by kernel_rfl)).1 ⟨_, rfl, rfl, hJ.next (by decide) (Below.refl _ _), fun _ _ _ _ h => h⟩⟩
    | 7, _, ho, hd, hlf, hall =>
      obtain rfl := Option.some.inj ho
      refine ⟨.inl rfl, ?_⟩
      have hb : w1.heap.size ≤ W.heap.size := by
        cases e : ls 8 with
        | false => exact (hJ.lo e).size
        | true => exact (hJ.hi e).2.size
      refine f_build6 rfl (hd 3 26 (by kernel_rfl) (by kernel_rfl)).1 (hd 6 29 (by kernel_rfl) (by kernel_rfl)).1 ?_
      exact ⟨_, rfl, ⟨W.heap.size, rfl, hb, by rw [HPe.out]; exact heap_alloc_new W _⟩, hJ.next (by decide) ((Below.refl _ _).alloc (Nat.le_refl _) _), fun j u _ _ h => h.mono fun q o _ h => (((Below.refl _ _).alloc (Nat.le_refl _) _).block q (lt_of_heapT h)).trans h⟩
    | 8, _, ho, hd, hlf, hall =>
      obtain rfl := Option.some.inj ho
      refine ⟨.inl rfl, ?_⟩
      have hb := hJ.lo hlf
      obtain ⟨q, h1, h2, h3⟩ := (hd 7 30 (by kernel_rfl) (by kernel_rfl)).1
      refine f_appG (s := .tmp 23) (x := .tmp 30) rfl B _ l (hd 0 23 (by kernel_rfl) (by kernel_rfl)).1 P 6 q (by rw [HPe.out]; rfl) h1 h3 (HO.out.1.below hb) (by rw [HO.out.2.1]; omega) (Nat.le_trans HO.out.2.2 hb.size) ?_
      intro v' w' hv hg
      exact ⟨_, rfl, trivial, hJ.nextA hlf hv (((Grew.refl _ _).below hb).trans hg), fun j u _ _ h => h.mono fun q o hq h => (hg.grown.block q (lt_of_heapT h) (fun e => by
        cases ao with
        | none => simp [Value.ownBlock] at e
        | some ad =>
          have := HO.out.1.block ad rfl
          rw [this.1] at e
          have e := Option.some.inj e
          have := this.2.2
          omega)).trans h⟩
    | 9, _, ho, hd, hlf, hall =>
      obtain rfl := Option.some.inj ho
      exact ⟨.inl rfl, f_asg (x := .tmp 31) rfl rfl ⟨_, rfl, trivial, hJ.nextL (hd 8 31 (by kernel_rfl) (by kernel_rfl)).2 (hall 8 (by kernel_rfl)), fun _ _ _ _ h => h⟩⟩
    | n + 10, hi, _, _, _, _ => exact absurd hi (by omega)
  case tail =>
    intro vs W ls hls hJ hR
    have h8 := hJ.hi (hls 8 (by decide))
    have h9 := (hJ.last (hls 9 (by decide))).1
    have r0 : vs 0 = _ := hR 0 (by decide)
    clear hR hls
    simp only [putL, put_lit, List.setIfInBounds_toArray, List.set_cons_succ, List.set_cons_zero]
    rw [h9]
    obtain ⟨v', hv'⟩ : ∃ v', v' = vs 8 := ⟨_, rfl⟩
    rw [← hv'] at h8 ⊢
    clear h9 hJ hv' r0
    go_wp2
    go_ret
    exact ⟨_, rfl, h8.1, h8.2⟩
set_option maxRecDepth 100000 in
set_option maxHeartbeats 4000000 in
theorem appendCharacter_calls (c : Nat) (hc : c < 256) (ao : Option Addr) (n cap B : Nat) (l : List Nat) (w : World) (hn : l.length = n) (hn2 : n ≤ 140737488355000) (ho : Ow w B 5 (.slice ao n cap) (nbs l)) (hB : B ≤ w.heap.size) :
    Calls Tryd.prog 64 #[.slice ao n cap, .int .u8 (c : Int)] w (TxG w B (.slice ao n cap) l (chrP c)) := by
  have HIX := prIndex_calls c
  have HO : Hid (Ow w B 5 (.slice ao n cap) (nbs l) ∧ l.length = n ∧ B ≤ w.heap.size) := ⟨ho, hn, hB⟩
  have HX := pr_ix ⟨c, hc⟩
  simp only at HX
  clear ho hn hB
  obtain ⟨P, HP⟩ : ∃ P, Hid (P = chrP c) := ⟨_, rfl⟩
  rw [← HP.out]
  rcases HX with ⟨e, hv, h47⟩ | ⟨e, hv, rfl⟩ | ⟨e, hv, rfl⟩ | ⟨e, hv, rfl⟩ | ⟨e, hv, rfl⟩ | ⟨e, hv, rfl⟩ | ⟨e, hv, rfl⟩ | ⟨e, hv, rfl⟩ | ⟨e, hv, rfl⟩
  all_goals rw [e] at HIX
  · by_cases h32 : c < 32
    · have HPe : Hid (P = [92, 117, 48, 48, hexD (c / 16), hexD (c % 16)]) := by rw [Hid, HP.out]; unfold chrP; rw [hv]; simp [h32]
      clear e hv HP
      exact apc_low c hc ao n cap B l w hn2 HO h32 P HPe HIX
    · have HPe : Hid (P = [c]) := by rw [Hid, HP.out]; unfold chrP; rw [hv]; simp [h32]
      clear e hv HP
      go_enter Tryd.func64, Tryd.ntmps64
      go_wp2_with fail
      refine (HIX _).mono ?_
      rintro e w1 ⟨rfl, rfl⟩
      go_wp2_with (at_builtin; go_must (refine append_lit w1 rfl (.tmp 32) (.tmp 34) rfl B _ l rfl [c] 1 _ rfl rfl rfl HO.out.1 (by rw [HO.out.2.1]; omega) HO.out.2.2 ?_))
      intro v5 w5 ho5 hg5
      go_wp2
      go_ret
      rw [HPe.out]
      exact ⟨_, rfl, ho5, hg5⟩
  · have HPe : Hid (P = [92, 34]) := by rw [Hid, HP.out]; unfold chrP; rw [hv]
    clear e hv HP
    go_enter Tryd.func64, Tryd.ntmps64
    go_wp2_with fail
    refine (HIX _).mono ?_
    rintro e w1 ⟨rfl, rfl⟩
    go_wp2_with (at_builtin; go_must (refine append_lit w1 rfl (.tmp 15) (.tmp 18) rfl B _ l rfl [92, 34] 2 _ rfl rfl rfl HO.out.1 (by rw [HO.out.2.1]; omega) HO.out.2.2 ?_))
    intro v5 w5 ho5 hg5
    go_wp2
    go_ret
    rw [HPe.out]
    exact ⟨_, rfl, ho5, hg5⟩
  · have HPe : Hid (P = [92, 92]) := by rw [Hid, HP.out]; unfold chrP; rw [hv]
    clear e hv HP
    go_enter Tryd.func64, Tryd.ntmps64
    go_wp2_with fail
    refine (HIX _).mono ?_
    rintro e w1 ⟨rfl, rfl⟩
    go_wp2_with (at_builtin; go_must (refine append_lit w1 rfl (.tmp 15) (.tmp 18) rfl B _ l rfl [92, 92] 2 _ rfl rfl rfl HO.out.1 (by rw [HO.out.2.1]; omega) HO.out.2.2 ?_))
    intro v5 w5 ho5 hg5
    go_wp2
    go_ret
    rw [HPe.out]
    exact ⟨_, rfl, ho5, hg5⟩
  · have HPe : Hid (P = [47]) := by rw [Hid, HP.out]; unfold chrP; rw [hv]; rfl
    clear e hv HP
    go_enter Tryd.func64, Tryd.ntmps64
    go_wp2_with fail
    refine (HIX _).mono ?_
    rintro e w1 ⟨rfl, rfl⟩
    go_wp2_with (at_builtin; go_must (refine append_lit w1 rfl (.tmp 32) (.tmp 34) rfl B _ l rfl [47] 1 _ rfl rfl rfl HO.out.1 (by rw [HO.out.2.1]; omega) HO.out.2.2 ?_))
    intro v5 w5 ho5 hg5
    go_wp2
    go_ret
    rw [HPe.out]
    exact ⟨_, rfl, ho5, hg5⟩
  · have HPe : Hid (P = [92, 98]) := by rw [Hid, HP.out]; unfold chrP; rw [hv]
    clear e hv HP
    go_enter Tryd.func64, Tryd.ntmps64
    go_wp2_with fail
    refine (HIX _).mono ?_
    rintro e w1 ⟨rfl, rfl⟩
    go_wp2_with (at_builtin; go_must (refine append_lit w1 rfl (.tmp 15) (.tmp 18) rfl B _ l rfl [92, 98] 2 _ rfl rfl rfl HO.out.1 (by rw [HO.out.2.1]; omega) HO.out.2.2 ?_))
    intro v5 w5 ho5 hg5
    go_wp2
    go_ret
    rw [HPe.out]
    exact ⟨_, rfl, ho5, hg5⟩
  · have HPe : Hid (P = [92, 102]) := by rw [Hid, HP.out]; unfold chrP; rw [hv]
    clear e hv HP
    go_enter Tryd.func64, Tryd.ntmps64
    go_wp2_with fail
    refine (HIX _).mono ?_
    rintro e w1 ⟨rfl, rfl⟩
    go_wp2_with (at_builtin; go_must (refine append_lit w1 rfl (.tmp 15) (.tmp 18) rfl B _ l rfl [92, 102] 2 _ rfl rfl rfl HO.out.1 (by rw [HO.out.2.1]; omega) HO.out.2.2 ?_))
    intro v5 w5 ho5 hg5
    go_wp2
    go_ret
    rw [HPe.out]
    exact ⟨_, rfl, ho5, hg5⟩
  · have HPe : Hid (P = [92, 110]) := by rw [Hid, HP.out]; unfold chrP; rw [hv]
    clear e hv HP
    go_enter Tryd.func64, Tryd.ntmps64
    go_wp2_with fail
    refine (HIX _).mono ?_
    rintro e w1 ⟨rfl, rfl⟩
    go_wp2_with (at_builtin; go_must (refine append_lit w1 rfl (.tmp 15) (.tmp 18) rfl B _ l rfl [92, 110] 2 _ rfl rfl rfl HO.out.1 (by rw [HO.out.2.1]; omega) HO.out.2.2 ?_))
    intro v5 w5 ho5 hg5
    go_wp2
    go_ret
    rw [HPe.out]
    exact ⟨_, rfl, ho5, hg5⟩
  · have HPe : Hid (P = [92, 114]) := by rw [Hid, HP.out]; unfold chrP; rw [hv]
    clear e hv HP
    go_enter Tryd.func64, Tryd.ntmps64
    go_wp2_with fail
    refine (HIX _).mono ?_
    rintro e w1 ⟨rfl, rfl⟩
    go_wp2_with (at_builtin; go_must (refine append_lit w1 rfl (.tmp 15) (.tmp 18) rfl B _ l rfl [92, 114] 2 _ rfl rfl rfl HO.out.1 (by rw [HO.out.2.1]; omega) HO.out.2.2 ?_))
    intro v5 w5 ho5 hg5
    go_wp2
    go_ret
    rw [HPe.out]
    exact ⟨_, rfl, ho5, hg5⟩
  · have HPe : Hid (P = [92, 116]) := by rw [Hid, HP.out]; unfold chrP; rw [hv]
    clear e hv HP
    go_enter Tryd.func64, Tryd.ntmps64
    go_wp2_with fail
    refine (HIX _).mono ?_
    rintro e w1 ⟨rfl, rfl⟩
    go_wp2_with (at_builtin; go_must (refine append_lit w1 rfl (.tmp 15) (.tmp 18) rfl B _ l rfl [92, 116] 2 _ rfl rfl rfl HO.out.1 (by rw [HO.out.2.1]; omega) HO.out.2.2 ?_))
    intro v5 w5 ho5 hg5
    go_wp2
    go_ret
    rw [HPe.out]
    exact ⟨_, rfl, ho5, hg5⟩
end Go.Proofs.YtelhgjepjieocaaDoor
