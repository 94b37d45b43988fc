import Derived.Test.YtdmhffbohnfdlaaGreatTBegin
import Derived.Test.YtdmhffbohnfdlaaGreatRClone
import Derived.MapKept
import Derived.Shelf.Slices.In.SortNone
import Derived.Shelf.Sort.Plain
import Derived.Test.YtdmhffbohnfdlaaGreatProg
import Derived.Test.YtdmhffbohnfdlaaGreatKOwn
import Derived.Sort.OwnSorted
/- Layer 5 (txn): the map of touched keys: touch. -/
namespace Go.Proofs.YtdmhffbohnfdlaaGreat
open Go.RowKit Go.MapKept
open scoped Classical
set_option linter.unusedVariables false

/-- The map holds just these keys. -/
structure MapAt (w : World) (mb : Nat) (es : Array MapEntry) (clock : Nat) (ks : List ByteArray) : Prop where
  blk : w.heap[mb]? = some (.map es clock)
  st : Stamped es clock
  keys : es.toList.map (·.key) = ks.map Value.string
  vals : ∀ e ∈ es.toList, e.val = .agg #[]
theorem MapAt.below {w w' : World} {mb clock : Nat} {es : Array MapEntry} {ks : List ByteArray} (h : MapAt w mb es clock ks) (hb : Below w.heap.size w w') : MapAt w' mb es clock ks := ⟨(hb.block _ (lt_of_heap h.blk)).trans h.blk, h.st, h.keys, h.vals⟩
theorem MapAt.isKey {w : World} {mb clock : Nat} {es : Array MapEntry} {ks : List ByteArray} (h : MapAt w mb es clock ks) : ∀ x ∈ es.toList, IsKey .string x.key := fun x hx => by
  have : x.key ∈ ks.map Value.string := by rw [← h.keys]; exact List.mem_map.2 ⟨x, hx, rfl⟩
  obtain ⟨k, _, hk⟩ := List.mem_map.1 this
  rw [← hk]; trivial
theorem MapAt.mem {w : World} {mb clock : Nat} {es : Array MapEntry} {ks : List ByteArray} (h : MapAt w mb es clock ks) (k : ByteArray) : (∃ x ∈ es.toList, x.key = .string k) ↔ k ∈ ks := by
  have : (.string k : Value) ∈ es.toList.map (·.key) ↔ (.string k : Value) ∈ ks.map Value.string := by rw [h.keys]
  simpa using this
theorem MapAt.nodup {w : World} {mb clock : Nat} {es : Array MapEntry} {ks : List ByteArray} (h : MapAt w mb es clock ks) : ks.Nodup := by
  have := h.st.2.2
  rw [h.keys] at this
  rw [List.Nodup, List.pairwise_map] at this
  exact this.imp fun h e => h (by rw [e])
theorem MapAt.look {w : World} {mb clock : Nat} {es : Array MapEntry} {ks : List ByteArray} (h : MapAt w mb es clock ks) (k : ByteArray) :
    (Instr.lookup 103 (.map (some mb)) (.string k) true).run Tryz.prog w = .ok (.tuple #[.agg #[], .bool (decide (k ∈ ks))]) w := by
  have hk : IsKey .string (.string k) := trivial
  rcases findNow_spec hk es.toList 0 h.isKey with ⟨h1, h2⟩ | ⟨j, e, h1, h2, h3⟩
  · have hn : k ∉ ks := fun hm => by
      obtain ⟨x, hx, he⟩ := (h.mem k).2 hm
      exact h2 x hx he
    simp [Instr.lookup, run_underlying Tryz.underlying103, MapKept.run_getObj_map h.blk, MapKept.run_checkKey Tryz.underlying9 hk, MapKept.run_findKey Tryz.underlying9 h1, Result.andThen, hn]
  · have he : e ∈ es.toList := List.mem_of_getElem? h2
    have hn : k ∈ ks := (h.mem k).1 ⟨e, he, h3⟩
    simp [Instr.lookup, run_underlying Tryz.underlying103, MapKept.run_getObj_map h.blk, MapKept.run_checkKey Tryz.underlying9 hk, MapKept.run_findKey Tryz.underlying9 h1, Result.andThen, hn, h.vals e he]
/-- A key that is not there yet is put in. -/
def mapPut (w : World) (mb : Nat) (es : Array MapEntry) (clock : Nat) (k : ByteArray) : World := { w with heap := w.heap.setIfInBounds mb (.map (es.push { key := .string k, val := .agg #[], born := clock }) (clock + 1)) }
theorem MapAt.upd {w : World} {mb clock : Nat} {es : Array MapEntry} {ks : List ByteArray} (h : MapAt w mb es clock ks) (k : ByteArray) (hn : k ∉ ks) :
    (Instr.mapUpdate 103 (.map (some mb)) (.string k) (.agg #[])).run Tryz.prog w = .ok () (mapPut w mb es clock k) := by
  have hk : IsKey .string (.string k) := trivial
  rcases findNow_spec hk es.toList 0 h.isKey with ⟨h1, h2⟩ | ⟨j, e, h1, h2, h3⟩
  · simp [Instr.mapUpdate, run_underlying Tryz.underlying103, MapKept.run_getObj_map h.blk, MapKept.run_checkKey Tryz.underlying9 hk, MapKept.run_findKey Tryz.underlying9 h1, MapKept.run_setObj_map _ h.blk, Result.andThen]
    rfl
  · exact absurd ((h.mem k).1 ⟨e, List.mem_of_getElem? h2, h3⟩) hn
theorem MapAt.put {w : World} {mb clock : Nat} {es : Array MapEntry} {ks : List ByteArray} (h : MapAt w mb es clock ks) (k : ByteArray) (hn : k ∉ ks) :
    MapAt (mapPut w mb es clock k) mb (es.push { key := .string k, val := .agg #[], born := clock }) (clock + 1) (ks ++ [k]) ∧ Touched [mb] w (mapPut w mb es clock k) := by
  refine ⟨⟨(heap_set h.blk).1, stamped_push h.st (fun x hx e => hn ((h.mem k).1 ⟨x, hx, e⟩)), ?_, ?_⟩, ⟨rfl, rfl, rfl, by simp [mapPut], fun b _ hb => (heap_set h.blk).2 b (by simpa using hb)⟩⟩
  · simp [h.keys]
  · intro e he
    simp at he
    rcases he with he | rfl
    · exact h.vals e (by simpa using he)
    · rfl
noncomputable def insK (ks : List ByteArray) (k : ByteArray) : List ByteArray := if k ∈ ks then ks else ks ++ [k]

section
variable {o : Oper} {a : Act} {W : World} {K : Act → World → Prop} {Q : Exit → Act → World → Prop}
theorem f_fldX2 {x : Operand} {g : Nat} (ho : o.op = .fieldAddr 105 x 2) (hx : a.eval x = .pointer (some ⟨g, 0, none⟩)) (h : K (a.put o.dst (.pointer (some ⟨g, 2, none⟩))) W) : o.wp Tryz.prog a W K Q :=
  wp_valF (v := .pointer (some ⟨g, 2, none⟩)) (by unfold execOp; simp only [ho, hx]; go_simp) h
theorem f_loadMp {x : Operand} {p k : Nat} {m : Option Nat} (ho : o.op = .load 103 x) (hx : a.eval x = .pointer (some ⟨p, k, none⟩)) (hc : W.cell? ⟨p, k, none⟩ = some (.map m)) (h : K (a.put o.dst (.map m)) W) : o.wp Tryz.prog a W K Q :=
  wp_valF (v := .map m) (by unfold execOp; simp only [ho, hx]; simp [hc, go_sem]) h
theorem f_buildU (ho : o.op = .build 85 #[]) (h : K (a.put o.dst (.agg #[])) W) : o.wp Tryz.prog a W K Q :=
  wp_valF (v := .agg #[]) (by unfold execOp; simp only [ho, List.map_toArray, List.map_nil]; go_simp) h
end

set_option maxRecDepth 100000 in
set_option maxHeartbeats 2000000 in
theorem touch_calls (xb bb tb mb clock : Nat) (es : Array MapEntry) (ks : List ByteArray) (k : ByteArray) (w : World) (hx : TxnAt w xb bb tb mb) (hm : MapAt w mb es clock ks) (hk : k.size ≤ 140737488351296) :
    Calls Tryz.prog 55 #[.pointer (some ⟨xb, 0, none⟩), .string k] w fun e w' => e = .returned (.tuple #[]) ∧ Touched [mb] w w' ∧ ∃ es' clock', MapAt w' mb es' clock' (insK ks k) := by
  have c2 : w.cell? ⟨xb, 2, none⟩ = some (.map (some mb)) := by rw [cell_of_blk hx.blk]; rfl
  have hlk := hm.look k
  have hnot : ∀ (x : Bool) (w : World), (Op.unary .not (.bool x)).run Tryz.prog w = .ok (.bool (!x)) w := fun _ _ => rfl
  obtain ⟨w1, HW1⟩ : ∃ w1, Hid (w1 = w.alloc (.cells #[] 85)) := ⟨_, rfl⟩
  have hb1 : Below w.heap.size w w1 := by rw [HW1.out]; exact (Below.refl _ _).alloc (Nat.le_refl _) _
  have HM1 : Hid (MapAt w1 mb es clock ks ∧ TxnAt w1 xb bb tb mb ∧ Below w.heap.size w w1) := ⟨hm.below hb1, hx.below hb1, hb1⟩
  clear hx hm hb1
  go_enter Tryz.func55, Tryz.ntmps55
  by_cases hin : k ∈ ks
  · have hd : decide (k ∈ ks) = true := decide_eq_true hin
    rw [hd] at hlk
    have HI : Hid (insK ks k = ks) := by show _ = _; unfold insK; rw [if_pos hin]
    clear hd hin
    go_wp2
    rw [← HW1.out]
    go_end0
    exact ⟨rfl, Touched.ofBelow HM1.out.2.2 _, es, clock, by rw [HI.out]; exact HM1.out.1⟩
  · have hd : decide (k ∈ ks) = false := decide_eq_false hin
    rw [hd] at hlk
    have HI : Hid (insK ks k = ks ++ [k] ∧ k ∉ ks) := ⟨by unfold insK; rw [if_neg hin], hin⟩
    clear hd hin
    go_upto_region 2 with fail
    rw [← HW1.out]
    refine wp_region_inv 7 (fun i v W => match i with
      | 0 => v = .pointer (some ⟨xb, 0, none⟩)
      | 1 => v = .pointer (some ⟨xb, 0, none⟩)
      | 2 => v = .pointer (some ⟨xb, 2, none⟩)
      | 3 => v = .map (some mb)
      | 4 => v = .string k
      | 5 => v = .string k
      | 6 => v = .agg #[]
      | _ => False) (by kernel_rfl) (by kernel_rfl) (by kernel_rfl) [some 17, some 18, some 19, some 20, some 21, some 22, some 23] (by kernel_rfl) ?mono ?hop ?tail
    case mono => exact fun i v W W' h _ => h
    case hop =>
      intro i o hi ho a W hB hs hd
      match i, hi, ho, hd with
      | 0, _, ho, hd =>
        obtain rfl := Option.some.inj ho
        exact f_move rfl ((hs 0 (by kernel_rfl)).trans rfl) ⟨_, rfl, rfl, Below.refl _ _⟩
      | 1, _, ho, hd =>
        obtain rfl := Option.some.inj ho
        exact f_nilT rfl (hd 0 17 (by kernel_rfl) (by kernel_rfl)) ⟨_, rfl, rfl, Below.refl _ _⟩
      | 2, _, ho, hd =>
        obtain rfl := Option.some.inj ho
        exact f_fldX2 rfl (hd 1 18 (by kernel_rfl) (by kernel_rfl)) ⟨_, rfl, rfl, Below.refl _ _⟩
      | 3, _, ho, hd =>
        obtain rfl := Option.some.inj ho
        exact f_loadMp rfl (hd 2 19 (by kernel_rfl) (by kernel_rfl)) (by rw [cell_of_blk (HM1.out.2.1.below hB).blk]; rfl) ⟨_, rfl, rfl, Below.refl _ _⟩
      | 4, _, ho, hd =>
        obtain rfl := Option.some.inj ho
        exact f_move rfl ((hs 1 (by kernel_rfl)).trans rfl) ⟨_, rfl, rfl, Below.refl _ _⟩
      | 5, _, ho, hd =>
        obtain rfl := Option.some.inj ho
        refine wp_callF (f := 85) (vals := #[.string k]) rfl (map1 (hd 4 21 (by kernel_rfl) (by kernel_rfl))) (by go_simp) ?_
        refine (clone_calls k W (Nat.le_trans hk (by decide))).mono ?_
        rintro e w9 ⟨rfl, hb9⟩
        exact ⟨_, rfl, _, rfl, rfl, hb9⟩
      | 6, _, ho, hd =>
        obtain rfl := Option.some.inj ho
        exact f_buildU rfl ⟨_, rfl, rfl, Below.refl _ _⟩
      | k + 7, hi, _, _ => exact absurd hi (by omega)
    case tail =>
      intro vs W hB hR
      have r3 : vs 3 = .map (some mb) := hR 3 (by decide)
      have r5 : vs 5 = .string k := hR 5 (by decide)
      have r6 : vs 6 = .agg #[] := hR 6 (by decide)
      have hmW := HM1.out.1.below hB
      have hup := hmW.upd k HI.out.2
      have HF : Hid (Touched [mb] w (mapPut W mb es clock k) ∧ ∃ es' clock', MapAt (mapPut W mb es clock k) mb es' clock' (insK ks k)) := by
        obtain ⟨h1, h2⟩ := hmW.put k HI.out.2
        exact ⟨(Touched.ofBelow (HM1.out.2.2.trans (hB.mono HM1.out.2.2.size)) _).trans h2, _, _, by rw [HI.out.1]; exact h1⟩
      clear hmW hB hR
      simp only [putL, put_lit, List.setIfInBounds_toArray, List.set_cons_succ, List.set_cons_zero, List.drop_succ_cons, List.drop_zero]
      rw [r3, r5, r6]
      go_wp2
      go_end0
      exact ⟨rfl, HF.out⟩
end Go.Proofs.YtdmhffbohnfdlaaGreat

/- The library's contracts that are used, at this program's numbers. -/
namespace Go.Proofs
open Go.Shelf
def Tryz.lays190_ren : Go.Shelf.Ren := ⟨fun | 190 => 82 | 125 => 113 | 258 => 112 | 128 => 145 | 129 => 146 | 302 => 136 | 303 => 137 | 304 => 138 | 305 => 139 | 306 => 140 | 307 => 141 | 308 => 142 | 309 => 143 | 310 => 144 | 333 => 155 | 329 => 156 | 330 => 157 | 334 => 158 | 335 => 159 | 336 => 160 | 344 => 164 | n => n, fun | 31 => 26 | 9 => 9 | 3 => 3 | 46 => 197 | 0 => 0 | 51 => 91 | 53 => 30 | 4 => 4 | 183 => 218 | 182 => 217 | 131 => 75 | 5 => 5 | 218 => 230 | 222 => 233 | 228 => 237 | 229 => 238 | n => n, fun | n => n⟩
theorem Tryz.lays190 : Go.Proofs.Lays.n190 Tryz.prog Tryz.lays190_ren := {
  mixed := by kernel_rfl
  f125 := Tryz.func113.trans (congrArg some (by kernel_rfl))
  f128 := Tryz.func145.trans (congrArg some (by kernel_rfl))
  f129 := Tryz.func146.trans (congrArg some (by kernel_rfl))
  f190 := Tryz.func82.trans (congrArg some (by kernel_rfl))
  f258 := Tryz.func112.trans (congrArg some (by kernel_rfl))
  f302 := Tryz.func136.trans (congrArg some (by kernel_rfl))
  f303 := Tryz.func137.trans (congrArg some (by kernel_rfl))
  f304 := Tryz.func138.trans (congrArg some (by kernel_rfl))
  f305 := Tryz.func139.trans (congrArg some (by kernel_rfl))
  f306 := Tryz.func140.trans (congrArg some (by kernel_rfl))
  f307 := Tryz.func141.trans (congrArg some (by kernel_rfl))
  f308 := Tryz.func142.trans (congrArg some (by kernel_rfl))
  f309 := Tryz.func143.trans (congrArg some (by kernel_rfl))
  f310 := Tryz.func144.trans (congrArg some (by kernel_rfl))
  f329 := Tryz.func156.trans (congrArg some (by kernel_rfl))
  f330 := Tryz.func157.trans (congrArg some (by kernel_rfl))
  f333 := Tryz.func155.trans (congrArg some (by kernel_rfl))
  f334 := Tryz.func158.trans (congrArg some (by kernel_rfl))
  f335 := Tryz.func159.trans (congrArg some (by kernel_rfl))
  f336 := Tryz.func160.trans (congrArg some (by kernel_rfl))
  f344 := Tryz.func164.trans (congrArg some (by kernel_rfl))
  t0 := Tryz.underlying0
  a0 := Tryz.isAgg0
  z0 := Tryz.sizeOf0
  v0 := Tryz.zeroValue0
  t3 := Tryz.underlying3
  a3 := Tryz.isAgg3
  z3 := Tryz.sizeOf3
  v3 := Tryz.zeroValue3
  t4 := Tryz.underlying4
  a4 := Tryz.isAgg4
  z4 := Tryz.sizeOf4
  v4 := Tryz.zeroValue4
  t5 := Tryz.underlying5
  a5 := Tryz.isAgg5
  z5 := Tryz.sizeOf5
  v5 := Tryz.zeroValue5
  t9 := Tryz.underlying9
  a9 := Tryz.isAgg9
  z9 := Tryz.sizeOf9
  v9 := Tryz.zeroValue9
  t31 := Tryz.underlying26
  a31 := Tryz.isAgg26
  z31 := Tryz.sizeOf26
  v31 := Tryz.zeroValue26
  t46 := Tryz.underlying197
  a46 := Tryz.isAgg197
  z46 := Tryz.sizeOf197
  v46 := Tryz.zeroValue197
  t51 := Tryz.underlying91
  a51 := Tryz.isAgg91
  z51 := Tryz.sizeOf91
  v51 := Tryz.zeroValue91
  t53 := Tryz.underlying30
  a53 := Tryz.isAgg30
  z53 := Tryz.sizeOf30
  v53 := Tryz.zeroValue30
  t131 := Tryz.underlying75
  a131 := Tryz.isAgg75
  z131 := Tryz.sizeOf75
  v131 := Tryz.zeroValue75
  t182 := Tryz.underlying217
  a182 := Tryz.isAgg217
  z182 := Tryz.sizeOf217
  v182 := Tryz.zeroValue217
  t183 := Tryz.underlying218
  a183 := Tryz.isAgg218
  z183 := Tryz.sizeOf218
  v183 := Tryz.zeroValue218
  t218 := Tryz.underlying230
  a218 := Tryz.isAgg230
  z218 := Tryz.sizeOf230
  v218 := Tryz.zeroValue230
  t222 := Tryz.underlying233
  a222 := Tryz.isAgg233
  z222 := Tryz.sizeOf233
  v222 := Tryz.zeroValue233
  t228 := Tryz.underlying237
  a228 := Tryz.isAgg237
  z228 := Tryz.sizeOf237
  v228 := Tryz.zeroValue237
  t229 := Tryz.underlying238
  a229 := Tryz.isAgg238
  z229 := Tryz.sizeOf238
  v229 := Tryz.zeroValue238 }
open Go.Sort Go.RowKit in
theorem Tryz.slices_Sort_string (blk off cap : Nat) (ss : List (List UInt8)) (w : World) (hH : Holds encStr w blk off ss.toArray) (hblk : blk < w.heap.size) (hsz : ss.length < 4611686018427387904) :
    Calls Tryz.prog 82 #[.slice (some ⟨blk, off, none⟩) ss.length cap] w fun e w' =>
      e = .returned (.tuple #[]) ∧ ∃ n os, w' = grow (putRow encStr (Sort.ahead w n) blk off (ss.mergeSort fun x y => decide (x ≤ y)).toArray) os := Any.slices_Sort_string Tryz.lays190 blk off cap ss w hH hblk hsz
open Go.RowKit Go.Sort in
theorem Tryz.slices_Sort_string_none (p : Option Addr) (cap : Nat) (w : World) :
    Calls Tryz.prog 82 #[.slice p 0 cap] w fun e w' => e = .returned (.tuple #[]) ∧ w' = w := Any.slices_Sort_string_none Tryz.lays190 p cap w
end Go.Proofs

/- slices.Sort of a call's own texts. -/
namespace Go.Proofs.YtdmhffbohnfdlaaGreat
open Go.RowKit
set_option linter.unusedVariables false

abbrev encS : List UInt8 → Value := fun l => Value.string ⟨l.toArray⟩
theorem sort_calls (g cap B : Nat) (ks : List (List UInt8)) (w : World) (hl : ks.length < 4611686018427387904) (h : w.ownsRow B 9 1 (.slice (some ⟨g, 0, none⟩) ks.length cap) ks.length (ks.map encS)) :
    Calls Tryz.prog 82 #[.slice (some ⟨g, 0, none⟩) ks.length cap] w fun e w' => e = .returned (.tuple #[]) ∧ w'.ownsRow B 9 1 (.slice (some ⟨g, 0, none⟩) ks.length cap) ks.length ((ks.mergeSort fun x y => decide (x ≤ y)).map encS) ∧ Grew w w' (.slice (some ⟨g, 0, none⟩) ks.length cap) (.slice (some ⟨g, 0, none⟩) ks.length cap) := by
  rcases h.2 with ⟨he, _⟩ | ⟨g', cap', cur, he, hb, hg, h1, h2, h3, h4⟩
  · cases he
  · simp only [Value.slice.injEq, Option.some.injEq, Addr.mk.injEq] at he
    obtain ⟨⟨rfl, _⟩, _, rfl⟩ := he
    refine (Tryz.slices_Sort_string g 0 cap ks w (holds_of_block hg (by rw [Nat.mul_one] at h4; exact h4)) (Array.getElem?_eq_some_iff.1 hg).1 (by omega)).mono ?_
    rintro e w' ⟨rfl, n, os, rfl⟩
    exact ⟨rfl, ownsRow_sorted (by simp) hb hg h1 h2 h3, ⟨grownBy_sorted _, fun k hk => .inl hk⟩⟩
end Go.Proofs.YtdmhffbohnfdlaaGreat
