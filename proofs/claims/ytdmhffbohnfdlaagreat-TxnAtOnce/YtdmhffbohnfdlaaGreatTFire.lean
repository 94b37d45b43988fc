import Derived.Test.YtdmhffbohnfdlaaGreatRgInv
import Derived.Test.YtdmhffbohnfdlaaGreatXOrd
import Derived.Test.YtdmhffbohnfdlaaGreatWSync
import Derived.Test.YtdmhffbohnfdlaaGreatWWatch
import Derived.Test.YtdmhffbohnfdlaaGreatRgJ
import Derived.BigQuiet
/- Single operations in whatever frame, for regions that draw their order (RgInv), of every seat: moves, picks. -/
namespace Go.Proofs.YtdmhffbohnfdlaaGreat
open Go.RowKit
set_option linter.unusedVariables false

theorem add_off (g j : Nat) : (⟨g, 0, none⟩ : Addr).add j = ⟨g, j, none⟩ := by
  by_cases hj : j = 0
  · subst hj
    simp [Addr.add]
  · simp [Addr.add, hj]
section
variable {P : Program} {o : Oper} {a : Act} {W : World} {K : Act → World → Prop} {Q : Exit → Act → World → Prop}
theorem f_move {x : Operand} {v : Value} (ho : o.op = .move x) (hx : a.eval x = v) (h : K (a.put o.dst v) W) : o.wp P a W K Q :=
  wp_valF (v := v) (by unfold execOp; simp only [ho, hx]; rfl) h
theorem f_pick {c x y : Operand} {v : Value} (ho : o.op = .pick c x y) (hc : a.eval c = .bool true) (hx : a.eval x = v) (h : K (a.put o.dst v) W) : o.wp P a W K Q :=
  wp_valF (v := v) (by unfold execOp; simp only [ho, hc, hx]; simp [asBool, go_sem]) h
theorem f_pickF {c x y : Operand} {v : Value} (ho : o.op = .pick c x y) (hc : a.eval c = .bool false) (hx : a.eval y = v) (h : K (a.put o.dst v) W) : o.wp P a W K Q :=
  wp_valF (v := v) (by unfold execOp; simp only [ho, hc, hx]; simp [asBool, go_sem]) h
end
end Go.Proofs.YtdmhffbohnfdlaaGreat

/- Layer 5 (txn): trees stay where a base, a transaction or its map is written. -/
namespace Go.Proofs.YtdmhffbohnfdlaaGreat
open Go.RowKit
set_option linter.unusedVariables false

/-- A block that is no part of a tree, and in which no array of nodes lies. -/
def Off (W : World) (b : Nat) : Prop :=
  (∃ es cl, W.heap[b]? = some (.map es cl)) ∨ ∃ cs ty, W.heap[b]? = some (.cells cs ty) ∧ (∀ (j : Nat) (a : Addr), cs[j]? = some (.pointer (some a)) → ∃ ds ty', W.heap[a.block]? = some (.cells ds ty') ∧ ty' ≠ 132) ∧
    ty ≠ 132 ∧ ty ≠ 150 ∧ ty ≠ 157 ∧ ty ≠ 125
theorem Off.typed {W : World} {b : Nat} (h : Off W b) {cs : Array Value} {ty : TypeId} (hb : W.heap[b]? = some (.cells cs ty)) : ty ≠ 132 ∧ ty ≠ 150 ∧ ty ≠ 157 ∧ ty ≠ 125 := by
  rcases h with ⟨es, cl, h⟩ | ⟨cs', ty', h, -, h1⟩
  · rw [hb] at h; cases h
  · rw [hb] at h
    simp at h
    rw [h.2]; exact h1
theorem Off.chan {W : World} {b : Nat} (h : Off W b) {f : Bool} : W.heap[b]? ≠ some (.chan 0 #[] f 0 0 false) := by
  rcases h with ⟨es, cl, h⟩ | ⟨cs', ty', h, -⟩ <;> rw [h] <;> intro e <;> cases e
theorem WAt.offs {W W' : World} {g c : Nat} {f : Bool} (E : Nat → Prop) (hk : ∀ b, b < W.heap.size → ¬ E b → W'.heap[b]? = W.heap[b]?) (hE : ∀ b, E b → Off W b) (h : WAt W g c f) : WAt W' g c f :=
  ⟨(hk g h.ltb (fun e => ((hE g e).typed h.blk).2.2.1 rfl)).trans h.blk, (hk c h.ltc (fun e => (hE c e).chan h.chn)).trans h.chn⟩
theorem TAt.isNode {R : Rg} {W : World} {t : Tr} (h : TAt R W t) : ∃ ds, W.heap[t.a]? = some (.cells ds 132) := by
  cases h with
  | mk blk _ _ _ _ _ _ _ => exact ⟨_, blk⟩
theorem TAt.offs {R : Rg} {W W' : World} {t : Tr} (E : Nat → Prop) (hk : ∀ b, b < W.heap.size → ¬ E b → W'.heap[b]? = W.heap[b]?) (hE : ∀ b, E b → Off W b) (h : TAt R W t) : TAt R W' t := by
  induction h with
  | mk blk kids val wat sub room nil psz ih =>
    refine .mk ((hk _ (lt_of_heap blk) (fun e => ((hE _ e).typed blk).1 rfl)).trans blk) (fun j hj => ?_) (fun x hx => ?_) ?_ ih room nil psz
    · obtain ⟨b, off, ha, h0, hr⟩ := kids j hj
      refine ⟨b, off, ha, (World.cell?_of_block (w := W) (hk b (World.block_lt_of_cell? W _ h0) (fun he => ?_))).trans h0, hr⟩
      rcases hE b he with ⟨es, cl, h1⟩ | ⟨cs, ty, h1, hp, -⟩
      · simp [World.cell?, h1] at h0
      · rw [cell_of_blk h1] at h0
        obtain ⟨ds, ty', h2, h3⟩ := hp _ _ h0
        obtain ⟨ds', h4⟩ := (sub _ (List.getElem_mem hj)).isNode
        rw [h4] at h2
        simp at h2
        exact h3 h2.2.symm
    · have hx' := val x hx
      obtain ⟨f, hw, ho⟩ := hx'.wat
      exact ⟨(hk _ (lt_of_heap hx'.blk) (fun e => ((hE _ e).typed hx'.blk).2.1 rfl)).trans hx'.blk, ⟨f, hw.offs E hk hE, ho⟩, hx'.num⟩
    · obtain ⟨f, hw, ho⟩ := wat
      exact ⟨f, hw.offs E hk hE, ho⟩
theorem TreeAt.offs {W W' : World} {tb : Nat} {t : Tr} {n : Int} (E : Nat → Prop) (hk : ∀ b, b < W.heap.size → ¬ E b → W'.heap[b]? = W.heap[b]?) (hE : ∀ b, E b → Off W b) (h : TreeAt W tb t n) : TreeAt W' tb t n :=
  ⟨(hk tb (lt_of_heap h.blk) (fun e => ((hE tb e).typed h.blk).2.2.2 rfl)).trans h.blk, h.tat.offs E hk hE⟩
theorem Off.one {W : World} {b : Nat} (h : Off W b) : ∀ k, k ∈ [b] → Off W k := fun k hk => by simp at hk; subst hk; exact h
end Go.Proofs.YtdmhffbohnfdlaaGreat

/- Layer 3 (radix): Fire of the keys' ways. -/
namespace Go.Proofs.YtdmhffbohnfdlaaGreat
open Go.RowKit
set_option linter.unusedVariables false

/-- A watch that is fired leaves the other watches. -/
theorem Wc.fired {W W' : World} {b g : Nat} {f0 f1 : Bool} (h : Wc anyO W g) (hw : WAt W b (b - 1) f0) (ht : Touched [b, b - 1] W W') (hw' : WAt W' b (b - 1) f1) : Wc anyO W' g := by
  obtain ⟨f, h, -⟩ := h
  by_cases hgb : g = b
  · subst hgb
    exact ⟨f1, hw', fun _ => trivial⟩
  · have h1 : g ≠ b - 1 := h.ne hw
    have h2 : b ≠ g - 1 := hw.ne h
    have h3 : g - 1 ≠ b - 1 := fun e => by
      have hb0 : b ≠ b - 1 := hw.ne hw
      have hg0 : g ≠ g - 1 := h.ne h
      omega
    exact ⟨f, h.touched ht (by simp; exact ⟨hgb, h1⟩) (by simp; exact ⟨fun e => h2 e.symm, h3⟩), fun _ => trivial⟩
theorem TAt.fired {W W' : World} {t : Tr} {b : Nat} {f0 f1 : Bool} (h : TAt nR W t) (hw : WAt W b (b - 1) f0) (ht : Touched [b, b - 1] W W') (hw' : WAt W' b (b - 1) f1) : TAt nR W' t := by
  have keep : ∀ {a : Nat} {ds : Array Value} {ty : TypeId}, W.heap[a]? = some (.cells ds ty) → ty ≠ 157 → W'.heap[a]? = W.heap[a]? := fun {a ds ty} ha hty => ht.block a (lt_of_heap ha) (by
    simp only [List.mem_cons, List.not_mem_nil, or_false, not_or]
    refine ⟨fun e => ?_, fun e => ?_⟩
    · subst e; rw [hw.blk] at ha; simp at ha; exact hty ha.2.symm
    · subst e; rw [hw.chn] at ha; cases ha)
  induction h with
  | mk blk kids val wat sub room nil psz ih =>
    refine .mk ((keep blk (by decide)).trans blk) (fun j hj => ?_) (fun x hx => ?_) (wat.fired hw ht hw') ih room nil psz
    · obtain ⟨b', off, ha, h0, hr⟩ := kids j hj
      refine ⟨b', off, ha, (World.cell?_of_block (w := W) (ht.block b' (World.block_lt_of_cell? W _ h0) ?_)).trans h0, hr⟩
      simp only [List.mem_cons, List.not_mem_nil, or_false, not_or]
      refine ⟨fun e => ?_, fun e => ?_⟩
      · subst e
        rw [cell_of_blk hw.blk] at h0
        generalize off + j = q at h0
        simp only [wCells] at h0
        rcases q with _ | _ | _ | _ | q <;> simp at h0
      · subst e
        simp [World.cell?, hw.chn] at h0
    · have hx' := val x hx
      exact ⟨(keep hx'.blk (by decide)).trans hx'.blk, hx'.wat.fired hw ht hw', hx'.num⟩
theorem TreeAt.fired {W W' : World} {tb : Nat} {t : Tr} {n : Int} {b : Nat} {f0 f1 : Bool} (h : TreeAt W tb t n) (hw : WAt W b (b - 1) f0) (ht : Touched [b, b - 1] W W') (hw' : WAt W' b (b - 1) f1) : TreeAt W' tb t n := by
  refine ⟨(ht.block tb (lt_of_heap h.blk) ?_).trans h.blk, h.tat.fired hw ht hw'⟩
  simp only [List.mem_cons, List.not_mem_nil, or_false, not_or]
  refine ⟨fun e => ?_, fun e => ?_⟩
  · have := h.blk; rw [e, hw.blk] at this; simp at this
  · have := h.blk; rw [e, hw.chn] at this; cases this

theorem drawn_below (w : World) (n : Nat) : Below w.heap.size w (w.drewN n) := ⟨rfl, rfl, rfl, Nat.le_refl _, fun _ _ => rfl⟩
/-- Neither a channel nor a watch. -/
structure Plain (o : Obj) : Prop where
  wat : ∀ c f, o ≠ .cells (wCells c f) 157
  chn : ∀ a b c d e f, o ≠ .chan a b c d e f
theorem Plain.cells {cs : Array Value} {ty : TypeId} (h : ty ≠ 157) : Plain (.cells cs ty) := ⟨fun c f e => by injection e with _ e; exact h e, fun _ _ _ _ _ _ e => by cases e⟩
/-- From w to w' watches were fired at most (and the blocks of X written). -/
structure Frd (X : Nat → Prop) (w w' : World) : Prop where
  os : w'.os = w.os
  tape : w'.tape = w.tape
  output : w'.output = w.output
  size : w.heap.size ≤ w'.heap.size
  block : ∀ (k : Nat) (o : Obj), w.heap[k]? = some o → Plain o → ¬ X k → w'.heap[k]? = some o
  wat : ∀ g, Wc anyO w g → Wc anyO w' g
theorem Frd.ofBelow {X : Nat → Prop} {w w' : World} (h : Below w.heap.size w w') : Frd X w w' :=
  ⟨h.os, h.tape, h.output, h.size, fun k o hk _ _ => (h.block k (lt_of_heap hk)).trans hk, fun g hg => hg.below h⟩
theorem Frd.refl (X : Nat → Prop) (w : World) : Frd X w w := Frd.ofBelow (Below.refl _ _)
theorem Frd.trans {X Y Z : Nat → Prop} {a b c : World} (h : Frd X a b) (k : Frd Y b c) (hX : ∀ i, X i → Z i) (hY : ∀ i, i < a.heap.size → Y i → Z i) : Frd Z a c :=
  ⟨k.os.trans h.os, k.tape.trans h.tape, k.output.trans h.output, Nat.le_trans h.size k.size, fun i o hi ho hz => k.block i o (h.block i o hi ho (fun e => hz (hX i e))) ho (fun e => hz (hY i (lt_of_heap hi) e)), fun g hg => k.wat g (h.wat g hg)⟩
theorem TAt.frd {X : Nat → Prop} {w w' : World} {t : Tr} (h : TAt nR w t) (hf : Frd X w w') (hX : ∀ b, X b → ∃ n : Int, w.heap[b]? = some (.cells #[.int .i64 n] 3)) : TAt nR w' t := by
  have nx : ∀ {a : Nat} {ds : Array Value} {ty : TypeId}, w.heap[a]? = some (.cells ds ty) → ty ≠ 3 → ¬ X a := fun ha hty hx => by
    obtain ⟨n, hn⟩ := hX _ hx
    rw [ha] at hn
    simp at hn
    exact hty hn.2
  induction h with
  | mk blk kids val wat sub room nil psz ih =>
    refine .mk (hf.block _ _ blk (.cells (by decide)) (nx blk (by decide))) (fun j hj => ?_) (fun x hx => ?_) (hf.wat _ wat) ih room nil psz
    · obtain ⟨b', off, ha, h0, hr⟩ := kids j hj
      have hlt := World.block_lt_of_cell? w _ h0
      obtain ⟨o, ho⟩ : ∃ o, w.heap[b']? = some o := ⟨w.heap[b'], by simp [hlt]⟩
      have hpo : Plain o := by
        refine ⟨fun c f e => ?_, fun _ _ _ _ _ _ e => ?_⟩
        · subst e
          rw [cell_of_blk ho] at h0
          generalize off + j = q at h0
          simp only [wCells] at h0
          rcases q with _ | _ | _ | _ | q <;> simp at h0
        · subst e
          simp [World.cell?, ho] at h0
      have hxx : ¬ X b' := by
        intro hx
        obtain ⟨n, hn⟩ := hX _ hx
        rw [cell_of_blk hn] at h0
        generalize off + j = q at h0
        rcases q with _ | q <;> simp at h0
      exact ⟨b', off, ha, (World.cell?_of_block (w := w) (a := ⟨b', off + j, none⟩) ((hf.block b' o ho hpo hxx).trans ho.symm)).trans h0, hr⟩
    · have hx' := val x hx
      exact ⟨hf.block _ _ hx'.blk (.cells (by decide)) (nx hx'.blk (by decide)), hf.wat _ hx'.wat, hx'.num⟩
theorem TreeAt.frd {X : Nat → Prop} {w w' : World} {tb : Nat} {t : Tr} {n : Int} (h : TreeAt w tb t n) (hf : Frd X w w') (hX : ∀ b, X b → ∃ n : Int, w.heap[b]? = some (.cells #[.int .i64 n] 3)) : TreeAt w' tb t n :=
  ⟨hf.block _ _ h.blk (.cells (by decide)) (fun e => by obtain ⟨m, hm⟩ := hX _ e; rw [h.blk] at hm; simp at hm), h.tat.frd hf hX⟩

/-- Is the watch fired? -/
def flagOf (w : World) (g : Nat) : Bool := match w.cell? ⟨g, 1, none⟩ with | some (.int .u32 1) => true | _ => false
theorem WAt.flag {w : World} {g c : Nat} {f : Bool} (h : WAt w g c f) : flagOf w g = f := by
  have : w.cell? ⟨g, 1, none⟩ = some (.int .u32 (if f then 1 else 0)) := by rw [cell_of_blk h.blk]; rfl
  unfold flagOf
  rw [this]
  cases f <;> rfl
theorem Wc.at {w : World} {g : Nat} (h : Wc anyO w g) : WAt w g (g - 1) (flagOf w g) := by
  obtain ⟨f, h, -⟩ := h
  rw [h.flag]; exact h
/-- The watches that are fired anew, in order. -/
def newly (w : World) (gs : List Nat) : List Nat := gs.foldl (fun acc g => if decide (g ∈ acc) || flagOf w g then acc else acc ++ [g]) []
theorem mem_fold (w : World) (x : Nat) : ∀ (gs acc : List Nat), x ∈ gs.foldl (fun acc g => if decide (g ∈ acc) || flagOf w g then acc else acc ++ [g]) acc ↔ x ∈ acc ∨ (x ∈ gs ∧ flagOf w x = false)
  | [], acc => by simp
  | g :: gs, acc => by
    rw [List.foldl_cons, mem_fold w x gs]
    by_cases hc : (decide (g ∈ acc) || flagOf w g) = true
    · rw [if_pos hc]
      simp only [Bool.or_eq_true, decide_eq_true_eq] at hc
      constructor
      · rintro (h | ⟨h1, h2⟩)
        · exact .inl h
        · exact .inr ⟨List.mem_cons_of_mem _ h1, h2⟩
      · rintro (h | ⟨h1, h2⟩)
        · exact .inl h
        · rcases List.mem_cons.1 h1 with rfl | h1
          · rcases hc with hc | hc
            · exact .inl hc
            · rw [hc] at h2; cases h2
          · exact .inr ⟨h1, h2⟩
    · rw [if_neg hc]
      simp only [Bool.or_eq_true, decide_eq_true_eq, not_or, Bool.not_eq_true] at hc
      constructor
      · rintro (h | ⟨h1, h2⟩)
        · rcases List.mem_append.1 h with h | h
          · exact .inl h
          · simp at h; subst h; exact .inr ⟨List.mem_cons_self .., hc.2⟩
        · exact .inr ⟨List.mem_cons_of_mem _ h1, h2⟩
      · rintro (h | ⟨h1, h2⟩)
        · exact .inl (List.mem_append_left _ h)
        · rcases List.mem_cons.1 h1 with rfl | h1
          · exact .inl (by simp)
          · exact .inr ⟨h1, h2⟩
theorem newly_snoc (w : World) (gs : List Nat) (g : Nat) : (newly w (gs ++ [g])).length = (newly w gs).length + (if (decide (g ∈ gs) || flagOf w g) then 0 else 1) := by
  have hm := mem_fold w g gs []
  unfold newly
  rw [List.foldl_append, List.foldl_cons, List.foldl_nil]
  have : (decide (g ∈ gs.foldl (fun acc g => if decide (g ∈ acc) || flagOf w g then acc else acc ++ [g]) []) || flagOf w g) = (decide (g ∈ gs) || flagOf w g) := by
    cases hf : flagOf w g with
    | true => simp
    | false =>
      simp only [Bool.or_false]
      rw [decide_eq_decide, hm]
      simp [hf]
  rw [this]
  split <;> simp
theorem newly_le (w : World) (gs : List Nat) : (newly w gs).length ≤ gs.length := by
  have : ∀ (l : List Nat) (acc : List Nat), (l.foldl (fun acc g => if decide (g ∈ acc) || flagOf w g then acc else acc ++ [g]) acc).length ≤ acc.length + l.length := by
    intro l
    induction l with
    | nil => intro acc; simp
    | cons g l ih =>
      intro acc
      rw [List.foldl_cons]
      refine Nat.le_trans (ih _) ?_
      split <;> simp <;> omega
  have := this gs []
  simpa [newly] using this

theorem nodup_len : ∀ (l ms : List Nat), l.Nodup → (∀ x ∈ l, x ∈ ms) → l.length ≤ ms.length
  | [], _, _, _ => Nat.zero_le _
  | a :: l, ms, hn, hs => by
    rw [List.nodup_cons] at hn
    have ha := hs a (List.mem_cons_self ..)
    have ih := nodup_len l (ms.erase a) hn.2 (fun x hx => (List.mem_erase_of_ne (fun e : x = a => hn.1 (e ▸ hx))).2 (hs x (List.mem_cons_of_mem _ hx)))
    rw [List.length_erase_of_mem ha] at ih
    have := List.length_pos_of_mem ha
    simp only [List.length_cons]
    omega
theorem newly_nodup (w : World) (gs : List Nat) : (newly w gs).Nodup := by
  have : ∀ (l : List Nat) (acc : List Nat), acc.Nodup → (l.foldl (fun acc g => if decide (g ∈ acc) || flagOf w g then acc else acc ++ [g]) acc).Nodup := by
    intro l
    induction l with
    | nil => intro acc h; exact h
    | cons g l ih =>
      intro acc h
      rw [List.foldl_cons]
      refine ih _ ?_
      split
      · exact h
      · rename_i hg
        have hn : g ∉ acc := fun e => hg (by simp [e])
        exact List.nodup_append.2 ⟨h, by simp, fun a ha b hb => by simp at hb; subst hb; exact fun e => hn (e ▸ ha)⟩
  exact this gs [] List.nodup_nil
/-- What is newly fired is at most what there is. -/
theorem newly_sub (w : World) {gs ms : List Nat} (h : ∀ x ∈ gs, x ∈ ms) : (newly w gs).length ≤ ms.length :=
  nodup_len _ _ (newly_nodup w gs) fun x hx => by
    rcases (mem_fold w x gs []).1 hx with h1 | h1
    · simp at h1
    · exact h x h1.1

theorem Touched.join {l m q : List Nat} {a b c : World} (h : Touched l a b) (k : Touched m b c) (hl : ∀ i ∈ l, i ∈ q) (hm : ∀ i ∈ m, i < a.heap.size → i ∈ q) : Touched q a c :=
  ⟨k.os.trans h.os, k.tape.trans h.tape, k.output.trans h.output, Nat.le_trans h.size k.size, fun i hi hq => (k.block i (Nat.lt_of_lt_of_le hi h.size) (fun e => hq (hm i e hi))).trans (h.block i hi (fun e => hq (hl i e)))⟩
/-- The blocks of the watches. -/
def both (gs : List Nat) : List Nat := gs ++ gs.map (· - 1)
theorem both_snoc {gs : List Nat} {g i : Nat} : i ∈ both (gs ++ [g]) ↔ i ∈ both gs ∨ i = g ∨ i = g - 1 := by
  unfold both
  simp only [List.map_append, List.map_cons, List.map_nil, List.mem_append, List.mem_singleton]
  constructor
  · rintro ((h | h) | (h | h))
    · exact .inl (.inl h)
    · exact .inr (.inl h)
    · exact .inl (.inr h)
    · exact .inr (.inr h)
  · rintro ((h | h) | (h | h))
    · exact .inl (.inl h)
    · exact .inr (.inl h)
    · exact .inl (.inr h)
    · exact .inr (.inr h)
/-- While Fire is under way: the watches of gs have been fired, the count lies in its box. -/
structure FireI (w : World) (cb : Nat) (gs : List Nat) (W : World) : Prop where
  frd : Frd (fun _ => False) w W
  cnt : W.heap[cb]? = some (.cells #[.int .i64 ((newly w gs).length : Int)] 3)
  flg : ∀ g, Wc anyO w g → WAt W g (g - 1) (decide (g ∈ gs) || flagOf w g)
  cge : w.heap.size ≤ cb
  tch : Touched (both gs) w W
theorem FireI.below {w W W' : World} {cb : Nat} {gs : List Nat} (h : FireI w cb gs W) (hb : Below W.heap.size W W') : FireI w cb gs W' :=
  ⟨h.frd.trans (Frd.ofBelow (X := fun _ => False) hb) (fun _ e => e) (fun _ _ e => e), (hb.block _ (lt_of_heap h.cnt)).trans h.cnt, fun g hg => (h.flg g hg).below hb, h.cge, h.tch.trans (Touched.ofBelow hb _)⟩

/-- What the closure that fires one watch leaves. -/
structure OneF (g cb : Nat) (n : Int) (f : Bool) (W W' : World) : Prop where
  frd : Frd (fun b => b = cb) W W'
  own : WAt W' g (g - 1) true
  oth : ∀ g' f', g' ≠ g → WAt W g' (g' - 1) f' → WAt W' g' (g' - 1) f'
  cnt : W'.heap[cb]? = some (.cells #[.int .i64 (n + if f then 0 else 1)] 3)
  tch : Touched [g, g - 1, cb] W W'
theorem FireI.step {w W W' : World} {cb g : Nat} {gs : List Nat} (h : FireI w cb gs W) (hg : Wc anyO w g) (h1 : OneF g cb ((newly w gs).length : Int) (decide (g ∈ gs) || flagOf w g) W W') : FireI w cb (gs ++ [g]) W' := by
  refine ⟨h.frd.trans h1.frd (fun _ e => e) (fun i hi e => by have := h.cge; omega), ?_, fun g' hg' => ?_, h.cge, h.tch.join h1.tch (fun i hi => both_snoc.2 (.inl hi)) (fun i hi hlt => both_snoc.2 (.inr ?_))⟩
  · rw [newly_snoc, h1.cnt]
    congr 4
    split <;> simp
  · by_cases he : g' = g
    · subst he
      have : (decide (g' ∈ gs ++ [g']) || flagOf w g') = true := by simp
      rw [this]; exact h1.own
    · have := h1.oth g' _ he (h.flg g' hg')
      have e2 : decide (g' ∈ gs ++ [g]) = decide (g' ∈ gs) := by simp [he]
      rw [e2]; exact this
  · simp only [List.mem_cons, List.not_mem_nil, or_false] at hi
    have := h.cge
    omega
end Go.Proofs.YtdmhffbohnfdlaaGreat
