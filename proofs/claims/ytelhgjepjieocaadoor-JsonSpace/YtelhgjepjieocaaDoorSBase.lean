/- Layer 6 (schema): plain definitions: names, words, lines, what reading a text comes to. -/
import Derived.Test.YtelhgjepjieocaaDoorKOwn
import Derived.Lib.SplitLaws
namespace Go.Proofs.YtelhgjepjieocaaDoor
open Go.RowKit
set_option linter.unusedVariables false

/-- A field, an index, a table: plain. -/
structure Fd where
  n : ByteArray
  k : Int
structure Ix where
  n : ByteArray
  ov : List Int
  u : Bool
  l : Bool
  s : Bool
structure Tb where
  n : ByteArray
  fs : List Fd
  xs : List Ix

def isLet (b : UInt8) : Bool := decide (97 ≤ b.toNat) && decide (b.toNat ≤ 122)
def isDig (b : UInt8) : Bool := decide (48 ≤ b.toNat) && decide (b.toNat ≤ 57)
def nameL (l : List UInt8) : Bool := !l.isEmpty && decide (l.length ≤ 32) && !isDig (l.getD 0 0) && l.all fun c => isLet c || isDig c
def nameB (s : ByteArray) : Bool := nameL s.data.toList

/-- The pieces of s between the bytes c. -/
def wsOf (s : ByteArray) (c : UInt8) : List ByteArray := Lib.splitB ⟨#[c]⟩ 0 (Lib.countB s ⟨#[c]⟩) s

def tableW : ByteArray := ⟨#[116, 97, 98, 108, 101]⟩
def fieldW : ByteArray := ⟨#[102, 105, 101, 108, 100]⟩
def indexW : ByteArray := ⟨#[105, 110, 100, 101, 120]⟩
def uniqueW : ByteArray := ⟨#[117, 110, 105, 113, 117, 101]⟩
def lowerW : ByteArray := ⟨#[108, 111, 119, 101, 114]⟩
def looseW : ByteArray := ⟨#[108, 111, 111, 115, 101]⟩
def idW : ByteArray := ⟨#[105, 100]⟩
def textW : ByteArray := ⟨#[116, 101, 120, 116]⟩
def numW : ByteArray := ⟨#[110, 117, 109]⟩
def listW : ByteArray := ⟨#[108, 105, 115, 116]⟩

def kindB (s : ByteArray) : Int := if s = textW then 1 else if s = numW then 2 else if s = listW then 3 else 0
def takeF (f : ByteArray) : List ByteArray → Bool × List ByteArray
  | [] => (false, [])
  | w :: r => if w = f then (true, r) else (false, w :: r)
def placeF (fs : List Fd) (n : ByteArray) : Int := match fs.findIdx? (fun f => decide (f.n = n)) with | some i => (i : Int) | none => -1
def twiceW (ws : List ByteArray) : Bool := !decide ws.Nodup
def listsOf (fs : List Fd) (ov : List Int) : Nat := (ov.filter fun p => decide ((fs.getD p.toNat ⟨⟨#[]⟩, 0⟩).k = 3)).length
def mayB (t : Tb) (x : Ix) : Bool :=
  if t.xs.length = 0 then decide (x.n = idW) && (x.u && (!x.s && decide (listsOf t.fs x.ov = 0))) else decide (listsOf t.fs x.ov < 2)
def bareB (ts : List Tb) : Bool := match ts.getLast? with | some t => t.xs.length == 0 | none => false

/-- What the lines have made up to now, and the line of the last table. -/
abbrev St := List Tb × Int
abbrev Out := Except (Int × Int) St

def rTable (ln : Int) (ws : List ByteArray) (st : St) : Out :=
  if ws.length ≠ 2 then .error (ln, 61) else
  if nameB (ws.getD 1 ⟨#[]⟩) = false then .error (ln, 62) else
  if bareB st.1 then .error (st.2, 68) else
  if st.1.any (fun t => decide (t.n = ws.getD 1 ⟨#[]⟩)) then .error (ln, 64) else
  if st.1.length = 16 then .error (ln, 65) else .ok (st.1 ++ [⟨ws.getD 1 ⟨#[]⟩, [], []⟩], ln)

def rField (ln : Int) (ws : List ByteArray) (st : St) : Out :=
  if ws.length ≠ 3 then .error (ln, 61) else
  if kindB (ws.getD 2 ⟨#[]⟩) = 0 then .error (ln, 61) else
  if nameB (ws.getD 1 ⟨#[]⟩) = false then .error (ln, 62) else
  match st.1.getLast? with
  | none => .error (ln, 63)
  | some t =>
    if t.xs.length > 0 then .error (ln, 63) else
    if placeF t.fs (ws.getD 1 ⟨#[]⟩) ≥ 0 then .error (ln, 64) else
    if t.fs.length = 16 then .error (ln, 65) else .ok (st.1.dropLast ++ [{ t with fs := t.fs ++ [⟨ws.getD 1 ⟨#[]⟩, kindB (ws.getD 2 ⟨#[]⟩)⟩] }], st.2)

def flagsW (ws : List ByteArray) : (Bool × Bool × Bool) × List ByteArray :=
  ((( takeF uniqueW ws).1, (takeF lowerW (takeF uniqueW ws).2).1, (takeF looseW (takeF lowerW (takeF uniqueW ws).2).2).1), (takeF looseW (takeF lowerW (takeF uniqueW ws).2).2).2)

def rIndex (ln : Int) (ws : List ByteArray) (st : St) : Out :=
  if ws.length < 3 then .error (ln, 61) else
  if (flagsW (ws.drop 3)).2.length > 0 then .error (ln, 61) else
  if nameB (ws.getD 1 ⟨#[]⟩) = false ∨ (wsOf (ws.getD 2 ⟨#[]⟩) 44).all nameB = false then .error (ln, 62) else
  match st.1.getLast? with
  | none => .error (ln, 63)
  | some t =>
    if t.xs.any (fun x => decide (x.n = ws.getD 1 ⟨#[]⟩)) = true ∨ twiceW (wsOf (ws.getD 2 ⟨#[]⟩) 44) = true then .error (ln, 64) else
    if t.xs.length = 8 ∨ (wsOf (ws.getD 2 ⟨#[]⟩) 44).length > 4 then .error (ln, 65) else
    if ((wsOf (ws.getD 2 ⟨#[]⟩) 44).map (placeF t.fs)).contains (-1) then .error (ln, 66) else
    if mayB t ⟨ws.getD 1 ⟨#[]⟩, (wsOf (ws.getD 2 ⟨#[]⟩) 44).map (placeF t.fs), (flagsW (ws.drop 3)).1.1, (flagsW (ws.drop 3)).1.2.1, (flagsW (ws.drop 3)).1.2.2⟩ = false then .error (ln, 67) else
    .ok (st.1.dropLast ++ [{ t with xs := t.xs ++ [⟨ws.getD 1 ⟨#[]⟩, (wsOf (ws.getD 2 ⟨#[]⟩) 44).map (placeF t.fs), (flagsW (ws.drop 3)).1.1, (flagsW (ws.drop 3)).1.2.1, (flagsW (ws.drop 3)).1.2.2⟩] }], st.2)

def rLine (ln : Int) (ws : List ByteArray) (st : St) : Out :=
  if ws.getD 0 ⟨#[]⟩ = tableW then rTable ln ws st else
  if ws.getD 0 ⟨#[]⟩ = fieldW then rField ln ws st else
  if ws.getD 0 ⟨#[]⟩ = indexW then rIndex ln ws st else .error (ln, 61)

/-- The lines from number ln on. -/
def rLines : Int → List ByteArray → St → Out
  | _, [], st => .ok st
  | ln, l :: ls, st => if l = ⟨#[]⟩ then rLines (ln + 1) ls st else match rLine ln (wsOf l 32) st with
    | .error e => .error e
    | .ok st' => rLines (ln + 1) ls st'

def parseP (text : ByteArray) : Except (Int × Int) (List Tb) :=
  if text.size > 8192 then .error (0, 60) else
  match rLines 1 (wsOf text 10) ([], 0) with
  | .error e => .error e
  | .ok st => if bareB st.1 then .error (st.2, 68) else .ok st.1

end Go.Proofs.YtelhgjepjieocaaDoor
