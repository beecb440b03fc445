/- Stacks, plain: what may be, what is pushed, popped, wanted, opened, closed, killed, what a branch takes; and stacks in memory. -/
import Derived.Test.YtlappkflnlbfcaaRow9
namespace Go.Proofs.Ytlappkflnlbfcaa.Stk
open Go.RowKit Row9
set_option maxRecDepth 100000
set_option maxHeartbeats 1000000
set_option linter.unusedVariables false
/-- What is open: its code, what it leaves, how many values there were, whether it is dead. -/
structure Ctl where
  op : Int
  fin : List Int
  ht : Int
  dead : Bool
/-- Types of values, and what is open. -/
structure Stk where
  vals : List Int
  cs : List Ctl
def isV (x : Int) : Bool := (x == 127) || (x == 126)
def noT (x : Int) : Bool := (x != 0) && !(isV x)
def mayE : List Int → Bool
  | [] => true
  | [x] => isV x
  | _ :: _ :: _ => false
/-- Heights that do not fall: the last one. -/
def sgo : Int → List Ctl → Option Int
  | h, [] => some h
  | h, c :: r => if (mayE c.fin && decide (h ≤ c.ht)) = true then sgo c.ht r else none
def sane (s : Stk) : Bool := match sgo 0 s.cs with
  | none => false
  | some h => decide (h ≤ s.vals.length) && !(s.vals.any noT)
def none_ : Stk := ⟨[], []⟩
def zeroC : Ctl := ⟨0, [], 0, false⟩
def pushS (s : Stk) (l : List Int) : Stk × Int := if sane s = false then (none_, 1) else if l.any noT = true then (none_, 1) else (⟨s.vals ++ l, s.cs⟩, 0)
/-- A value taken, under what is open innermost. -/
def popV (o : Option Ctl) (vals : List Int) : Option (List Int × Int) := match o with
  | none => none
  | some c => if c.ht < vals.length then some (vals.dropLast, vals.getLastD 0) else if c.dead = true then some (vals, 0) else none
def fit (v x : Int) : Bool := (v == x) || (v == 0) || (x == 0)
/-- Values taken, the first of the list first. -/
def wantV (o : Option Ctl) : List Int → List Int → Option (List Int)
  | vals, [] => some vals
  | vals, x :: r => match popV o vals with
    | none => none
    | some (vs, v) => if fit v x = true then wantV o vs r else none
def popS (s : Stk) : Stk × Int × Int := if sane s = false then (none_, 0, 1) else match popV s.cs.getLast? s.vals with
  | none => (none_, 0, 5)
  | some (vs, v) => (⟨vs, s.cs⟩, v, 0)
def wantS (s : Stk) (l : List Int) : Stk × Int := if sane s = false then (none_, 1) else match wantV s.cs.getLast? s.vals l.reverse with
  | none => (none_, 5)
  | some vs => (⟨vs, s.cs⟩, 0)
def openS (s : Stk) (op : Int) (l : List Int) : Stk × Int := if sane s = false then (none_, 1) else if mayE l = false then (none_, 1) else (⟨s.vals, s.cs ++ [⟨op, l, s.vals.length, false⟩]⟩, 0)
def closeS (s : Stk) : Stk × Ctl × Int := if sane s = false then (none_, zeroC, 1) else match s.cs.getLast? with
  | none => (none_, zeroC, 5)
  | some c => match wantV (some c) s.vals c.fin.reverse with
    | none => (none_, zeroC, 5)
    | some vs => if (vs.length : Int) ≠ c.ht then (none_, zeroC, 5) else (⟨vs, s.cs.dropLast⟩, c, 0)
def killS (s : Stk) : Stk × Int := if sane s = false then (none_, 1) else match s.cs.getLast? with
  | none => (none_, 5)
  | some c => (⟨s.vals.take c.ht.toNat, s.cs.dropLast ++ [{ c with dead := true }]⟩, 0)
def labelS (s : Stk) (n : Int) : List Int × Int := if sane s = false then ([], 1) else if n < 0 ∨ (s.cs.length : Int) ≤ n then ([], 6) else
  match s.cs[s.cs.length - 1 - n.toNat]? with
  | none => ([], 6)
  | some c => if c.op = 3 then ([], 0) else (c.fin, 0)
/-- A 64-bit number. -/
def w64 (x : Int) : Prop := -9223372036854775808 ≤ x ∧ x ≤ 9223372036854775807
abbrev CtV := Ctl × Value
def cc (p : CtV) : List Value := [.int .i64 p.1.op, p.2, .int .i64 p.1.ht, .bool p.1.dead]
def elB : El Int where
  e := 5
  s := 1
  z := .int .u8 0
  bytes := 1
  enc := fun x => [.int .u8 x]
  ok := fun _ x => 0 ≤ x ∧ x < 256
  pos := by decide
  len := fun _ => rfl
  info := by kernel_rfl
  zs := rfl
  stay := fun h _ => h
  one := fun h u hu => by
    simp only [List.mem_cons, List.not_mem_nil, or_false] at hu
    rcases hu with rfl
    rfl
def CtOk (w : World) (p : CtV) : Prop := Row elB w p.2 p.1.fin ∧ w64 p.1.op ∧ w64 p.1.ht
theorem CtOk.keep {w w' : World} {p : CtV} (h : CtOk w p) (hb : Below w.heap.size w w') : CtOk w' p := ⟨h.1.keep hb, h.2⟩
theorem row_oneCell {α : Type} {T : El α} {w : World} {v : Value} {l : List α} (h : Row T w v l) : v.oneCell' = true := by
  obtain ⟨A, c, rfl, _⟩ := h.form
  rfl
def elCt (e : TypeId) (hi : (Try.prog.info? e).map (fun i => (i.zero, i.size, i.bytes)) = some (some (.agg #[.int .i64 0, .slice none 0 0, .int .i64 0, .bool false]), 4, 48)) : El CtV where
  e := e
  s := 4
  z := .agg #[.int .i64 0, .slice none 0 0, .int .i64 0, .bool false]
  bytes := 48
  enc := cc
  ok := CtOk
  pos := by decide
  len := fun _ => rfl
  info := hi
  zs := rfl
  stay := fun h hb => h.keep hb
  one := fun h u hu => by
    simp only [cc, List.mem_cons, List.not_mem_nil, or_false] at hu
    rcases hu with rfl | rfl | rfl | rfl
    · rfl
    · exact row_oneCell h.1
    · rfl
    · rfl
theorem infoP : (Try.prog.info? 46).map (fun i => (i.zero, i.size, i.bytes)) = some (some (.agg #[.int .i64 0, .slice none 0 0, .int .i64 0, .bool false]), 4, 48) := by kernel_rfl
theorem infoD : (Try.prog.info? 49).map (fun i => (i.zero, i.size, i.bytes)) = some (some (.agg #[.int .i64 0, .slice none 0 0, .int .i64 0, .bool false]), 4, 48) := by kernel_rfl
def elP : El CtV := elCt 46 infoP
def elD : El CtV := elCt 49 infoD
/-- A stack in memory: as a value. -/
def StIs (T : El CtV) (w : World) (v : Value) (s : Stk) : Prop := ∃ a c l, v = .agg #[a, c] ∧ Row elB w a s.vals ∧ Row T w c l ∧ l.map (·.1) = s.cs
theorem StIs.keep {T : El CtV} {w w' : World} {v : Value} {s : Stk} (h : StIs T w v s) (hb : Below w.heap.size w w') : StIs T w' v s := by
  obtain ⟨a, c, l, h1, h2, h3, h4⟩ := h
  exact ⟨a, c, l, h1, h2.keep hb, h3.keep hb, h4⟩
theorem StIs.none_ (T : El CtV) (w : World) : StIs T w (.agg #[.slice none 0 0, .slice none 0 0]) none_ := ⟨_, _, [], rfl, Row.nil _ _, Row.nil _ _, rfl⟩
/-- Bytes' cells. -/
theorem byte_at {w : World} {A : Option Addr} {n c : Nat} {l : List Int} (h : Row elB w (.slice A n c) l) {j : Nat} (hj : j < l.length) : ∃ g off, A = some ⟨g, off, none⟩ ∧ g < w.heap.size ∧ w.cell? ⟨g, off + j, none⟩ = some (.int .u8 (l.getD j 0)) ∧ 0 ≤ l.getD j 0 ∧ l.getD j 0 < 256 := by
  obtain ⟨x, hx⟩ : ∃ x, l[j]? = some x := ⟨_, List.getElem?_eq_getElem hj⟩
  obtain ⟨g, off, e, hg, hC, hO⟩ := h.at_ hx
  have e1 : l.getD j 0 = x := by rw [List.getD_eq_getElem?_getD, hx]; rfl
  rw [e1]
  refine ⟨g, off, e, hg, ?_, hO.1, hO.2⟩
  have := hC 0 _ rfl
  simpa [elB] using this
theorem run_txt {w : World} {v : Value} {l : List Int} (h : Row elB w v l) : (convert 22 9 v).run Try.prog w = .ok (.string (strOfNums l)) w := by
  obtain ⟨A, c, rfl, h2, h3⟩ := h.form
  by_cases h0 : l = []
  · subst h0
    cases A with
    | none => rfl
    | some a => rfl
  · have hpos : 0 < l.length := List.length_pos_iff.2 h0
    obtain ⟨g, off, rfl, _⟩ := byte_at h hpos
    exact run_convert_bytes_arg w 22 5 Try.underlying22 Try.underlying5 g off l.length c l rfl (fun i hi => by
      obtain ⟨g', off', e, _, hc, _⟩ := byte_at h hi
      simp only [Option.some.injEq, Addr.mk.injEq, and_true] at e
      obtain ⟨rfl, rfl⟩ := e
      exact hc) 9 Try.underlying9
theorem str_inj {a b : List Int} (ha : ∀ x ∈ a, 0 ≤ x ∧ x < 256) (hb : ∀ x ∈ b, 0 ≤ x ∧ x < 256) (h : strOfNums a = strOfNums b) : a = b := by
  have e := congrArg (fun s => s.data.toList) h
  simp only [strOfNums_data] at e
  have key : ∀ (a b : List Int), (∀ x ∈ a, 0 ≤ x ∧ x < 256) → (∀ x ∈ b, 0 ≤ x ∧ x < 256) → (a.map fun n => UInt8.ofNat n.toNat) = (b.map fun n => UInt8.ofNat n.toNat) → a = b := by
    intro a
    induction a with
    | nil => intro b _ _ h; cases b with
      | nil => rfl
      | cons y b => simp at h
    | cons x a ih => intro b ha hb h; cases b with
      | nil => simp at h
      | cons y b =>
        simp only [List.map_cons, List.cons.injEq] at h
        have hx := ha x (by simp)
        have hy := hb y (by simp)
        have h1 := congrArg UInt8.toNat h.1
        simp only [UInt8.toNat_ofNat'] at h1
        have : x = y := by omega
        rw [this, ih b (fun z hz => ha z (by simp [hz])) (fun z hz => hb z (by simp [hz])) h.2]
  exact key a b ha hb e
theorem str_beq {a b : List Int} (ha : ∀ x ∈ a, 0 ≤ x ∧ x < 256) (hb : ∀ x ∈ b, 0 ≤ x ∧ x < 256) : ((strOfNums a).toList == (strOfNums b).toList) = decide (a = b) := by
  by_cases h : a = b
  · subst h; simp
  · rw [decide_eq_false h]
    have : (strOfNums a).toList ≠ (strOfNums b).toList := fun e => h (str_inj ha hb (by
      rw [Lib.toList_data, Lib.toList_data] at e
      exact ByteArray.ext (Array.toList_inj.1 e)))
    simpa using this
/-- What is open, its four cells. -/
theorem ctl_at {e : TypeId} {hi} {w : World} {A : Option Addr} {n c : Nat} {l : List CtV} (h : Row (elCt e hi) w (.slice A n c) l) {j : Nat} {p : CtV} (hj : l[j]? = some p) :
    ∃ g off, A = some ⟨g, off, none⟩ ∧ g < w.heap.size ∧ w.cell? ⟨g, off + j * 4, none⟩ = some (.int .i64 p.1.op) ∧ w.cell? ⟨g, off + j * 4 + 1, none⟩ = some p.2 ∧ w.cell? ⟨g, off + j * 4 + 2, none⟩ = some (.int .i64 p.1.ht) ∧ w.cell? ⟨g, off + j * 4 + 3, none⟩ = some (.bool p.1.dead) ∧ CtOk w p := by
  obtain ⟨g, off, e, hg, hC, hO⟩ := h.at_ hj
  exact ⟨g, off, e, hg, hC 0 _ rfl, hC 1 _ rfl, hC 2 _ rfl, hC 3 _ rfl, hO⟩
theorem drewB (w : World) (n : Nat) {B : Nat} (_ : B ≤ w.heap.size) : Below B w (w.drewN n) := ⟨rfl, rfl, rfl, Nat.le_refl _, fun _ _ => rfl⟩
end Go.Proofs.Ytlappkflnlbfcaa.Stk
