/- UtfModel, UtfText, UtfRead, UtfName. -/
import Derived.Test.YtffegkjlgeblbaaGreatDoorPkUtfFrom
import Derived.WalkKit
import Derived.Lib.OthersKept
import Derived.WalkSmall
import Derived.Test.YtffegkjlgeblbaaGreatDoorLebTwo
section
/- What a range over a string tells of its bytes at a place: the number that they begin with, or 65533 and one byte. -/
namespace Go.Proofs.YtffegkjlgeblbaaGreatDoor.Utf
open Go
set_option maxRecDepth 100000

/-- The bytes of a string from a place on. -/
def rest (s : ByteArray) (i : Nat) : List Nat := (s.data.toList.drop i).map UInt8.toNat
def bl (s : ByteArray) : List Int := s.data.toList.map fun x => (x.toNat : Int)
theorem bl_len (s : ByteArray) : (bl s).length = s.size := by
  unfold bl
  rw [List.length_map, Array.length_toList]
  rfl
theorem bl_byte (s : ByteArray) : ∀ x ∈ bl s, 0 ≤ x ∧ x < 256 := by
  intro x hx
  obtain ⟨y, _, rfl⟩ := List.mem_map.1 hx
  have := y.toNat_lt
  omega
theorem bl_drop (s : ByteArray) (i : Nat) : (bl s).drop i = (rest s i).map fun n : Nat => (n : Int) := by
  unfold bl rest
  rw [← List.map_drop, List.map_map]
  rfl
theorem rest_len (s : ByteArray) (i : Nat) : (rest s i).length = s.size - i := by
  unfold rest
  rw [List.length_map, List.length_drop, Array.length_toList]
  rfl
theorem rest_byte (s : ByteArray) (i : Nat) : ∀ x ∈ rest s i, x < 256 := by
  intro x hx
  obtain ⟨y, _, rfl⟩ := List.mem_map.1 hx
  exact y.toNat_lt
theorem rest_at (s : ByteArray) (i k : Nat) : (s.get! (i + k)).toNat = (rest s i).getD k 0 := by
  obtain ⟨d⟩ := s
  show (d[i + k]!).toNat = ((d.toList.drop i).map UInt8.toNat).getD k 0
  rw [List.getD_eq_getElem?_getD, List.getElem?_map, List.getElem?_drop, Array.getElem?_toList]
  by_cases h : i + k < d.size
  · rw [getElem!_pos d (i + k) h, Array.getElem?_eq_getElem h]
    rfl
  · rw [getElem!_neg d (i + k) h, Array.getElem?_eq_none (by omega)]
    rfl
theorem valid_iff (c : Nat) : Utf8.valid (c : Int) = true ↔ okR (c : Int) := by
  unfold Utf8.valid okR
  simp only [Bool.or_eq_true, Bool.and_eq_true, decide_eq_true_eq]
  omega
def mp (r : List Nat) : List Int := r.map fun n : Nat => (n : Int)
/-- By the bytes that stand at the place. -/
theorem stands (s : ByteArray) (i : Nat) : ∀ k, decide (i + k < s.size) = decide (k < (rest s i).length) := fun k => by
  rw [rest_len]
  by_cases h : i + k < s.size
  · rw [decide_eq_true h, decide_eq_true (by omega)]
  · rw [decide_eq_false h, decide_eq_false (by omega)]
theorem told_some (s : ByteArray) (i : Nat) (v : Int) (t : List Int) (hv : okR v) (h : mp (rest s i) = enc v ++ t) : Utf8.decode s i = (v.toNat, (enc v).length) := by
  unfold Utf8.decode
  simp only [rest_at, stands]
  revert h
  generalize rest s i = r
  intro h
  have hok := hv
  obtain ⟨v0, v1, v2⟩ := hv
  rcases enc_ways v with ⟨g, e⟩ | ⟨g, g2, e⟩ | ⟨g, g2, e⟩ | ⟨g, e⟩ <;> rw [e] at h ⊢
  · match r, h with
    | [], h => simp [mp] at h
    | a :: r, h =>
      have h1 : (a : Int) = v := by simpa [mp] using (List.cons.inj h).1
      refine (if_pos (show a < 128 by omega)).trans ?_
      show (a, 1) = (v.toNat, 1)
      rw [← h1]; rfl
  · match r, h with
    | [], h => simp [mp] at h
    | [_], h => simp [mp] at h
    | a :: b :: r, h =>
      obtain ⟨h1, h2, _⟩ : (a : Int) = 192 + v / 64 ∧ (b : Int) = 128 + v % 64 ∧ mp r = t := by simpa [mp] using h
      have e1 : (a / 32 == 6 && (decide (1 < (a :: b :: r).length) && b / 64 == 2)) = true := by
        simp only [Bool.and_eq_true, beq_iff_eq, decide_eq_true_eq, List.length_cons]; omega
      refine (if_neg (show ¬ a < 128 by omega)).trans ((if_pos e1).trans ?_)
      show (if a % 32 * 64 + b % 64 ≥ 128 then (a % 32 * 64 + b % 64, 2) else (65533, 1)) = (v.toNat, 2)
      rw [if_pos (by omega), show a % 32 * 64 + b % 64 = v.toNat from by omega]
  · match r, h with
    | [], h => simp [mp] at h
    | [_], h => simp [mp] at h
    | [_, _], h => simp [mp] at h
    | a :: b :: c :: r, h =>
      obtain ⟨h1, h2, h3, _⟩ : (a : Int) = 224 + v / 4096 ∧ (b : Int) = 128 + v / 64 % 64 ∧ (c : Int) = 128 + v % 64 ∧ mp r = t := by simpa [mp] using h
      have e1 : ¬ (a / 32 == 6 && (decide (1 < (a :: b :: c :: r).length) && b / 64 == 2)) = true := by
        simp only [Bool.and_eq_true, beq_iff_eq, decide_eq_true_eq, List.length_cons]; omega
      have e2 : (a / 16 == 14 && (decide (1 < (a :: b :: c :: r).length) && b / 64 == 2) && (decide (2 < (a :: b :: c :: r).length) && c / 64 == 2)) = true := by
        simp only [Bool.and_eq_true, beq_iff_eq, decide_eq_true_eq, List.length_cons]; omega
      have ev : a % 16 * 4096 + b % 64 * 64 + c % 64 = v.toNat := by omega
      refine (if_neg (show ¬ a < 128 by omega)).trans ((if_neg e1).trans ((if_pos e2).trans ?_))
      show (if (decide (a % 16 * 4096 + b % 64 * 64 + c % 64 ≥ 2048) && Utf8.valid ((a % 16 * 4096 + b % 64 * 64 + c % 64 : Nat) : Int)) = true then (a % 16 * 4096 + b % 64 * 64 + c % 64, 3) else (65533, 1)) = (v.toNat, 3)
      rw [ev, if_pos]
      simp only [Bool.and_eq_true, decide_eq_true_eq]
      exact ⟨by omega, (valid_iff _).2 (by rw [Int.toNat_of_nonneg v0]; exact hok)⟩
  · match r, h with
    | [], h => simp [mp] at h
    | [_], h => simp [mp] at h
    | [_, _], h => simp [mp] at h
    | [_, _, _], h => simp [mp] at h
    | a :: b :: c :: d :: r, h =>
      obtain ⟨h1, h2, h3, h4, _⟩ : (a : Int) = 240 + v / 262144 ∧ (b : Int) = 128 + v / 4096 % 64 ∧ (c : Int) = 128 + v / 64 % 64 ∧ (d : Int) = 128 + v % 64 ∧ mp r = t := by simpa [mp] using h
      have e1 : ¬ (a / 32 == 6 && (decide (1 < (a :: b :: c :: d :: r).length) && b / 64 == 2)) = true := by
        simp only [Bool.and_eq_true, beq_iff_eq, decide_eq_true_eq, List.length_cons]; omega
      have e2 : ¬ (a / 16 == 14 && (decide (1 < (a :: b :: c :: d :: r).length) && b / 64 == 2) && (decide (2 < (a :: b :: c :: d :: r).length) && c / 64 == 2)) = true := by
        simp only [Bool.and_eq_true, beq_iff_eq, decide_eq_true_eq, List.length_cons]; omega
      have e3 : (a / 8 == 30 && (decide (1 < (a :: b :: c :: d :: r).length) && b / 64 == 2) && (decide (2 < (a :: b :: c :: d :: r).length) && c / 64 == 2) && (decide (3 < (a :: b :: c :: d :: r).length) && d / 64 == 2)) = true := by
        simp only [Bool.and_eq_true, beq_iff_eq, decide_eq_true_eq, List.length_cons]; omega
      have ev : a % 8 * 262144 + b % 64 * 4096 + c % 64 * 64 + d % 64 = v.toNat := by omega
      refine (if_neg (show ¬ a < 128 by omega)).trans ((if_neg e1).trans ((if_neg e2).trans ((if_pos e3).trans ?_)))
      show (if (decide (a % 8 * 262144 + b % 64 * 4096 + c % 64 * 64 + d % 64 ≥ 65536) && Utf8.valid ((a % 8 * 262144 + b % 64 * 4096 + c % 64 * 64 + d % 64 : Nat) : Int)) = true then (a % 8 * 262144 + b % 64 * 4096 + c % 64 * 64 + d % 64, 4) else (65533, 1)) = (v.toNat, 4)
      rw [ev, if_pos]
      simp only [Bool.and_eq_true, decide_eq_true_eq]
      exact ⟨by omega, (valid_iff _).2 (by rw [Int.toNat_of_nonneg v0]; exact hok)⟩
theorem told_none (s : ByteArray) (i : Nat) (h0 : rest s i ≠ []) (h : ∀ v t, okR v → mp (rest s i) ≠ enc v ++ t) : Utf8.decode s i = (65533, 1) := by
  unfold Utf8.decode
  simp only [rest_at, stands]
  have hr := rest_byte s i
  revert hr h0 h
  generalize rest s i = r
  intro h0 h hr
  cases r with
  | nil => exact absurd rfl h0
  | cons a r =>
    have ha := hr a (by simp)
    by_cases h1 : a < 128
    · exact absurd (show mp (a :: r) = enc (a : Int) ++ mp r by rw [enc1 (by omega)]; rfl) (h a _ ⟨by omega, by omega, by omega⟩)
    · rw [if_neg (show ¬ (a :: r).getD 0 0 < 128 from h1)]
      split
      · rename_i hc
        simp only [Bool.and_eq_true, beq_iff_eq, decide_eq_true_eq] at hc
        match r, hc, h, hr with
        | [], hc, _, _ => simp at hc
        | b :: r, hc, h, hr =>
          have hc1 : a / 32 = 6 := hc.1
          have hc2 : b / 64 = 2 := hc.2.2
          split
          · rename_i hg
            have hg : a % 32 * 64 + b % 64 ≥ 128 := hg
            refine absurd (show mp (a :: b :: r) = enc ((a % 32 * 64 + b % 64 : Nat) : Int) ++ mp r from ?_) (h _ _ ⟨by omega, by omega, by omega⟩)
            rw [enc2 (by omega) (by omega)]
            show (a : Int) :: (b : Int) :: mp r = _
            simp only [List.cons_append, List.nil_append, List.cons.injEq, and_true]
            omega
          · rfl
      · split
        · rename_i hc
          simp only [Bool.and_eq_true, beq_iff_eq, decide_eq_true_eq] at hc
          match r, hc, h, hr with
          | [], hc, _, _ => simp at hc
          | [_], hc, _, _ => simp at hc
          | b :: c :: r, hc, h, hr =>
            have hc1 : a / 16 = 14 := hc.1.1
            have hc2 : b / 64 = 2 := hc.1.2.2
            have hc3 : c / 64 = 2 := hc.2.2
            split
            · rename_i hg
              simp only [Bool.and_eq_true, decide_eq_true_eq] at hg
              have hg1 : a % 16 * 4096 + b % 64 * 64 + c % 64 ≥ 2048 := hg.1
              have hg2 : okR ((a % 16 * 4096 + b % 64 * 64 + c % 64 : Nat) : Int) := (valid_iff _).1 hg.2
              refine absurd (show mp (a :: b :: c :: r) = enc ((a % 16 * 4096 + b % 64 * 64 + c % 64 : Nat) : Int) ++ mp r from ?_) (h _ _ hg2)
              rw [enc3 (by omega) (by omega)]
              show (a : Int) :: (b : Int) :: (c : Int) :: mp r = _
              simp only [List.cons_append, List.nil_append, List.cons.injEq, and_true]
              omega
            · rfl
        · split
          · rename_i hc
            simp only [Bool.and_eq_true, beq_iff_eq, decide_eq_true_eq] at hc
            match r, hc, h, hr with
            | [], hc, _, _ => simp at hc
            | [_], hc, _, _ => simp at hc
            | [_, _], hc, _, _ => simp at hc
            | b :: c :: d :: r, hc, h, hr =>
              have hc1 : a / 8 = 30 := hc.1.1.1
              have hc2 : b / 64 = 2 := hc.1.1.2.2
              have hc3 : c / 64 = 2 := hc.1.2.2
              have hc4 : d / 64 = 2 := hc.2.2
              split
              · rename_i hg
                simp only [Bool.and_eq_true, decide_eq_true_eq] at hg
                have hg1 : a % 8 * 262144 + b % 64 * 4096 + c % 64 * 64 + d % 64 ≥ 65536 := hg.1
                have hg2 : okR ((a % 8 * 262144 + b % 64 * 4096 + c % 64 * 64 + d % 64 : Nat) : Int) := (valid_iff _).1 hg.2
                refine absurd (show mp (a :: b :: c :: d :: r) = enc ((a % 8 * 262144 + b % 64 * 4096 + c % 64 * 64 + d % 64 : Nat) : Int) ++ mp r from ?_) (h _ _ hg2)
                rw [enc4 (by omega)]
                show (a : Int) :: (b : Int) :: (c : Int) :: (d : Int) :: mp r = _
                simp only [List.cons_append, List.nil_append, List.cons.injEq, and_true]
                omega
              · rfl
          · rfl
/-- A place in a string at which a number's bytes stand; one at which none stand. -/
theorem decode_some (s : ByteArray) (i : Nat) (v : Int) (t : List Int) (hv : okR v) (h : (bl s).drop i = enc v ++ t) : Utf8.decode s i = (v.toNat, (enc v).length) := by
  exact told_some s i v t hv (by rw [← h, bl_drop]; rfl)
theorem decode_none (s : ByteArray) (i : Nat) (hi : i < s.size) (h : ∀ v t, okR v → (bl s).drop i ≠ enc v ++ t) : Utf8.decode s i = (65533, 1) := by
  refine told_none s i (fun e => ?_) (fun v t hv e => h v t hv (by rw [bl_drop]; exact e))
  have := rest_len s i
  rw [e] at this
  simp at this
  omega
end Go.Proofs.YtffegkjlgeblbaaGreatDoor.Utf
end

section
/- Is a string a text: the program's word, walked. -/
namespace Go.Proofs.YtffegkjlgeblbaaGreatDoor.Utf
open Go.RowKit
set_option maxRecDepth 100000
set_option maxHeartbeats 1000000

/-- The bytes of a string. -/
theorem bl_str {l : List Int} (hb : ∀ x ∈ l, 0 ≤ x ∧ x < 256) : bl (strOfNums l) = l := by
  unfold bl
  rw [strOfNums_data, List.map_map]
  conv => rhs; rw [← List.map_id l]
  refine List.map_congr_left fun x hx => ?_
  have := hb x hx
  simp only [Function.comp_apply, UInt8.toNat_ofNat', id_eq]
  omega
theorem bl_inj {a b : ByteArray} (h : bl a = bl b) : a = b := by
  obtain ⟨⟨a⟩⟩ := a
  obtain ⟨⟨b⟩⟩ := b
  unfold bl at h
  have : a = b := by
    refine List.map_inj_right (f := fun x : UInt8 => (x.toNat : Int)) (fun x y e => ?_) |>.1 h
    exact UInt8.toNat_inj.1 (by exact_mod_cast e)
  rw [this]
theorem bl_extract (s : ByteArray) (i j : Nat) : bl (s.extract i j) = ((bl s).drop i).take (j - i) := by
  unfold bl
  rw [ByteArray.data_extract, Array.toList_extract, List.extract_eq_take_drop, List.map_take, List.map_drop]
/-- The three bytes of 65533. -/
def fffd : ByteArray := ⟨#[239, 191, 189]⟩
theorem bl_fffd : bl fffd = enc 65533 := by decide +kernel
/-- Does a string begin with another? -/
def preB (s p : ByteArray) : Bool := decide (p.size ≤ s.size) && ((s.extract 0 p.size).toList == p.toList)
theorem prefix_in (s p : ByteArray) (w : World) : Calls Tryz.prog 240 #[.string s, .string p] w fun e w' => e = .returned (.bool (preB s p)) ∧ w = w' := by
  by_cases h : p.size ≤ s.size
  · have H : Hid (preB s p = ((s.extract 0 p.size).toList == p.toList)) := by show _ = _; unfold preB; rw [decide_eq_true h, Bool.true_and]
    go_enter Tryz.func240, Tryz.ntmps240
    go_wp2_with fail
    go_ret
    exact ⟨ret_bool H.out.symm, rfl⟩
  · have H : Hid (preB s p = false) := by show _ = _; unfold preB; rw [decide_eq_false h, Bool.false_and]
    have hd : decide (p.size ≤ s.size) = false := by simp; omega
    clear h
    go_enter Tryz.func240, Tryz.ntmps240
    go_wp2_with fail
    go_ret
    exact ⟨ret_bool H.out.symm, rfl⟩
theorem prefix_any (s p : ByteArray) (w : World) : Calls Tryz.prog 213 #[.string s, .string p] w fun e w' => e = .returned (.bool (preB s p)) ∧ w = w' := by
  have H := Lib.hid (prefix_in s p w)
  go_enter Tryz.func213, Tryz.ntmps213
  go_wp2_with fail
  refine H.out.mono ?_
  rintro e w1 ⟨rfl, rfl⟩
  go_wp2_with fail
  go_ret
  exact ⟨rfl, rfl⟩
theorem preB_iff (s p : ByteArray) : preB s p = true ↔ ∃ t, bl s = bl p ++ t := by
  unfold preB
  rw [Bool.and_eq_true, decide_eq_true_eq, beq_iff_eq]
  constructor
  · rintro ⟨_, h⟩
    have e := congrArg bl (str_toList h)
    rw [bl_extract, List.drop_zero, Nat.sub_zero] at e
    exact ⟨(bl s).drop p.size, by rw [← e, List.take_append_drop]⟩
  · rintro ⟨t, h⟩
    have hl := congrArg List.length h
    rw [List.length_append, bl_len, bl_len] at hl
    refine ⟨by omega, congrArg _ (bl_inj ?_)⟩
    rw [bl_extract, List.drop_zero, Nat.sub_zero, h, ← bl_len, List.take_left]
/-- How far a string is told to be a text. -/
def Pre (s : ByteArray) (pos : Nat) : Prop := pos ≤ s.size ∧ ∃ done : List Int, (∀ v ∈ done, okR v) ∧ (bl s).take pos = done.flatMap enc
def Gone (w : World) (s : ByteArray) (pos : Nat) (wr : World) : Prop := wr.heap[w.heap.size]? = some (.stringIter s pos) ∧ Below w.heap.size w wr ∧ Pre s pos
theorem Pre.start (s : ByteArray) : Pre s 0 := ⟨Nat.zero_le _, [], by simp, by simp⟩
theorem Pre.more {s : ByteArray} {pos : Nat} {v : Int} {t : List Int} (h : Pre s pos) (hv : okR v) (e : (bl s).drop pos = enc v ++ t) : Pre s (pos + (enc v).length) := by
  obtain ⟨h1, done, h2, h3⟩ := h
  have hl := congrArg List.length e
  rw [List.length_append, List.length_drop, bl_len] at hl
  have := (enc_len v).1
  refine ⟨by omega, done ++ [v], fun x hx => ?_, ?_⟩
  · rcases List.mem_append.1 hx with hx | hx
    · exact h2 x hx
    · obtain rfl : x = v := by simpa using hx
      exact hv
  · rw [List.flatMap_append, ← h3, List.take_add, e, List.take_left]
    simp
theorem Pre.all {s : ByteArray} (h : Pre s s.size) : isT (bl s) = true := by
  obtain ⟨_, done, h2, h3⟩ := h
  rw [← bl_len, List.take_length] at h3
  exact isT_true ⟨h2, h3⟩
theorem Pre.stuck {s : ByteArray} {pos : Nat} (h : Pre s pos) (hp : pos < s.size) (hn : ∀ v t, okR v → (bl s).drop pos ≠ enc v ++ t) : isT (bl s) = false := by
  obtain ⟨_, done, h2, h3⟩ := h
  refine isT_false (no_txt h2 h3 (fun e => ?_) ?_)
  · have := congrArg List.length e
    rw [List.length_drop, bl_len] at this
    simp at this
    omega
  · cases hd : dec ((bl s).drop pos) with
    | none => rfl
    | some q =>
      obtain ⟨v, n⟩ := q
      obtain ⟨hv, _, e⟩ := dec_some (fun x hx => bl_byte s x (List.mem_of_mem_drop hx)) hd
      exact absurd e (hn v _ hv)
/-- At 65533 the bytes themselves tell whether they stand for it. -/
theorem pre_yes {s : ByteArray} {pos : Nat} {t : List Int} (e : (bl s).drop pos = enc 65533 ++ t) : preB (s.extract pos s.size) fffd = true := by
  refine (preB_iff _ _).2 ⟨t, ?_⟩
  rw [bl_extract, bl_fffd, ← e, ← bl_len, ← List.length_drop, List.take_length]
theorem pre_no {s : ByteArray} {pos : Nat} (hn : ∀ v t, okR v → (bl s).drop pos ≠ enc v ++ t) : preB (s.extract pos s.size) fffd = false := by
  rw [Bool.eq_false_iff]
  intro h
  obtain ⟨t, e⟩ := (preB_iff _ _).1 h
  rw [bl_extract, bl_fffd, ← bl_len, ← List.length_drop, List.take_length] at e
  exact hn 65533 t (by decide) e
theorem fffd_txt (W : World) : (convert 21 9 (.int .i32 65533)).run Tryz.prog W = .ok (.string fffd) W := rfl
theorem istext_any (s : ByteArray) (w : World) : Calls Tryz.prog 172 #[.string s] w fun e w' => e = .returned (.bool (isT (bl s))) ∧ Below w.heap.size w w' := by
  go_enter Tryz.func172, Tryz.ntmps172
  go_wp2_with fail
  go_loopw [] (fun wr => ∃ pos : Nat, Gone w s pos wr) (fun wr => s.size - wr.iterPos w.heap.size)
  case atStart => exact ⟨0, World.iter_heap w s 0, (Below.refl _ _).alloc (Nat.le_refl _) _, Pre.start s⟩
  case round =>
    obtain ⟨pos, hit, hbel, hpre⟩ := hrel
    have hip := iterPos_of hit
    by_cases hp : pos < s.size
    · by_cases hx : ∃ v t, okR v ∧ (bl s).drop pos = enc v ++ t
      · obtain ⟨v, t, hv, ht⟩ := hx
        have hdec := decode_some s pos v t hv ht
        have hv0 : ((v.toNat : Nat) : Int) = v := Int.toNat_of_nonneg hv.1
        have hnx : ∀ ty, (Instr.next (.pointer (some ⟨w.heap.size, 0, none⟩)) true ty).run Tryz.prog wr = .ok (.tuple #[.bool true, .int .i64 (pos : Int), .int .i32 v]) (wr.iterAt w.heap.size s (pos + (enc v).length)) := by
          intro ty
          rw [Lib.run_next_any_at wr w.heap.size s pos ty hit hp, hdec, hv0]
        have hit2 := Lib.hid (Lib.iterAt_heap wr w.heap.size s pos (pos + (enc v).length) hit)
        have hbel2 := Lib.hid (Lib.below_iterAt hbel (Nat.le_refl _) s (pos + (enc v).length))
        have hpre2 := Lib.hid (hpre.more hv ht)
        have hlt := (enc_len v).1
        by_cases h3 : v = 65533
        · subst h3
          have hsl : ∀ W, (Instr.sliceAt 9 (.string s) (some (.int .i64 (pos : Int))) none none).run Tryz.prog W = .ok (.string (s.extract pos s.size)) W := by
            intro W
            go_simp
            intro h
            omega
          have htx := fffd_txt
          have HP := Lib.hid (pre_yes ht)
          clear hdec hv0 ht hpre hit hbel
          go_wp2_with (go_at_call 213; refine (prefix_any _ _ _).mono ?_; rintro e w1 ⟨rfl, rfl⟩; rw [HP.out])
          go_roundw
          case rel => exact ⟨_, hit2.out, hbel2.out, hpre2.out⟩
          case measure => rw [iterPos_of hit2.out, hip]; omega
        · have ht2 : (v == 65533) = false := by simpa using h3
          clear hdec hv0 h3 ht hpre hit hbel
          go_wp2_with fail
          go_roundw
          case rel => exact ⟨_, hit2.out, hbel2.out, hpre2.out⟩
          case measure => rw [iterPos_of hit2.out, hip]; omega
      · have hn : ∀ v t, okR v → (bl s).drop pos ≠ enc v ++ t := fun v t hv e => hx ⟨v, t, hv, e⟩
        have hdec := decode_none s pos hp hn
        have hnx : ∀ ty, (Instr.next (.pointer (some ⟨w.heap.size, 0, none⟩)) true ty).run Tryz.prog wr = .ok (.tuple #[.bool true, .int .i64 (pos : Int), .int .i32 65533]) (wr.iterAt w.heap.size s (pos + 1)) := by
          intro ty
          rw [Lib.run_next_any_at wr w.heap.size s pos ty hit hp, hdec]
          rfl
        have hbel2 := Lib.hid (Lib.below_iterAt hbel (Nat.le_refl _) s (pos + 1))
        have hsl : ∀ W, (Instr.sliceAt 9 (.string s) (some (.int .i64 (pos : Int))) none none).run Tryz.prog W = .ok (.string (s.extract pos s.size)) W := by
          intro W
          go_simp
          intro h
          omega
        have htx := fffd_txt
        have HP := Lib.hid (pre_no hn)
        have HR := Lib.hid (hpre.stuck hp hn)
        clear hdec hn hx hpre hit hbel
        go_wp2_with (go_at_call 213; refine (prefix_any _ _ _).mono ?_; rintro e w1 ⟨rfl, rfl⟩; rw [HP.out])
        go_ret
        exact ⟨ret_bool HR.out.symm, hbel2.out⟩
    · have hnx : ∀ ty, (Instr.next (.pointer (some ⟨w.heap.size, 0, none⟩)) true ty).run Tryz.prog wr = .ok (.tuple #[.bool false]) wr := fun ty => Lib.run_next_end_at wr w.heap.size s pos ty hit hp
      obtain rfl : pos = s.size := by have := hpre.1; omega
      have HR := Lib.hid hpre.all
      have HB := Lib.hid hbel
      clear hpre hbel hit
      go_wp2_with fail
      go_ret
      exact ⟨ret_bool HR.out.symm, HB.out⟩
end Go.Proofs.YtffegkjlgeblbaaGreatDoor.Utf
end

section
/- The program's Valid, Runes and FromRunes, walked. -/
namespace Go.Proofs.YtffegkjlgeblbaaGreatDoor.Utf
open Go.RowKit
set_option maxRecDepth 100000
set_option maxHeartbeats 1000000

theorem none_txt (A : Option Addr) (c : Nat) (w : World) : (convert 22 9 (.slice A 0 c)).run Tryz.prog w = .ok (.string (strOfNums [])) w := by
  cases A with
  | none => rfl
  | some a => rfl
theorem sl_txt {w : World} {v : Value} {l : List Int} (h : Sl w v l) : (convert 22 9 v).run Tryz.prog w = .ok (.string (strOfNums l)) w := by
  obtain ⟨A, c, rfl, _, _, h4⟩ := h
  by_cases h0 : l = []
  · subst h0
    exact none_txt A c w
  · obtain ⟨g, off, rfl, hB⟩ := h4 h0
    exact run_txt w g off l.length c l rfl hB.2.2
theorem OwnI.iterAt {w : World} {B : Nat} {v : Value} {l : List Int} {k : Nat} {s : ByteArray} {pos : Nat} (h : OwnI w B v l) (hk : w.heap[k]? = some (.stringIter s pos)) (pos' : Nat) : OwnI (w.iterAt k s pos') B v l := by
  refine ⟨h.1, ?_⟩
  rcases h.2 with h0 | ⟨g, cap, cur, hv, hb, hg, rest⟩
  · exact .inl h0
  · refine .inr ⟨g, cap, cur, hv, hb, ?_, rest⟩
    rw [Lib.iterAt_other _ _ _ _ _ (fun e => by subst e; rw [hk] at hg; cases hg)]
    exact hg
/-- How far the program has told a text's numbers. -/
def Told (w : World) (K : Nat) (l : List Int) (k : Nat) (done : List Int) (o : Value) (wr : World) : Prop :=
  k ≤ l.length ∧ l.take k = done.flatMap enc ∧ (∀ v ∈ done, okR v) ∧ done.length ≤ k ∧ OwnI wr w.heap.size o done ∧ wr.heap[K]? = some (.stringIter (strOfNums l) k) ∧ Below w.heap.size w wr
end Go.Proofs.YtffegkjlgeblbaaGreatDoor.Utf
end

section
/- The document's Name, walked. -/
namespace Go.Proofs.YtffegkjlgeblbaaGreatDoor.Utf
open Go.RowKit
set_option maxRecDepth 100000
set_option maxHeartbeats 400000

/-- How a name is told. -/
def NmTold (w : World) (s : List Int) (p e : Int) (en : Ending) (w' : World) : Prop := en = .returned (.tuple #[.string (strOfNums s), .int .i64 p, .int .i64 e]) ∧ Below w.heap.size w w'
theorem NmTold.of {w w' : World} {s : List Int} {p e : Int} {en : Ending} (h : en = .returned (.tuple #[.string (strOfNums s), .int .i64 p, .int .i64 e]) ∧ Below w.heap.size w w') : NmTold w s p e en w' := h
/-- Where a part of a row lies: at the row's own place, if no room is left. -/
def offAt (off c p : Nat) : Nat := if c = p then off else off + p
theorem part_run (g off n c p v : Nat) (hp : p + v ≤ n) (hc : n ≤ c) (W : World) :
    (Instr.sliceAt 22 (.slice (some ⟨g, off, none⟩) n c) (some (.int .i64 (p : Int))) (some (.int .i64 ((p : Int) + (v : Int)))) none).run Tryz.prog W = .ok (.slice (some ⟨g, offAt off c p, none⟩) v (c - p)) W := by
  have e0 : (0 : Int) ≤ (p : Int) := by omega
  have e1 : (p : Int) ≤ (p : Int) + (v : Int) := by omega
  have e2 : (p : Int) + (v : Int) ≤ (c : Int) := by omega
  have e3 : ((p : Int) + (v : Int)).toNat = p + v := by omega
  have e4 : p + v - p = v := by omega
  unfold offAt
  by_cases hcp : c = p
  · subst hcp
    obtain rfl : v = 0 := by omega
    go_simp
  · rw [if_neg hcp]
    go_simp
theorem part_sl {w : World} {g off c p v : Nat} {l : List Int} (hB : Byt w w.heap.size ⟨g, off, none⟩ l) (hp : p + v ≤ l.length) (hc : l.length ≤ c) (hm : c ≤ 9223372036854775807) :
    ((l.drop p).take v).length = v ∧ Sl w (.slice (some ⟨g, offAt off c p, none⟩) v (c - p)) ((l.drop p).take v) := by
  have hlen : ((l.drop p).take v).length = v := by rw [List.length_take, List.length_drop]; omega
  refine ⟨hlen, some ⟨g, offAt off c p, none⟩, c - p, by rw [hlen], by rw [hlen]; omega, by omega, fun h0 => ⟨g, offAt off c p, rfl, ?_⟩⟩
  have hv : 0 < v := by
    rcases Nat.eq_zero_or_pos v with h | h
    · subst h; exact absurd (by simp) h0
    · exact h
  unfold offAt
  rw [if_neg (by omega)]
  exact (hB.drop p).take v
theorem Sl.txt {w : World} {g off c : Nat} {l : List Int} {n : Nat} (h : Sl w (.slice (some ⟨g, off, none⟩) n c) l) (hn : l.length = n) : (convert 22 9 (.slice (some ⟨g, off, none⟩) n c)).run Tryz.prog w = .ok (.string (strOfNums l)) w := by
  obtain ⟨A, c2, e, _, _, h4⟩ := h
  refine run_txt w g off n c l hn fun i hi => ?_
  have h0 : l ≠ [] := fun e => by rw [e] at hn; simp at hn; omega
  obtain ⟨g2, off2, e2, hB⟩ := h4 h0
  subst e2
  simp only [Value.slice.injEq, Option.some.injEq, Addr.mk.injEq] at e
  obtain ⟨⟨rfl, rfl, _⟩, _⟩ := e
  exact hB.2.2 i (by omega)
end Go.Proofs.YtffegkjlgeblbaaGreatDoor.Utf
end
