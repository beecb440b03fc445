/- TypesOne walked: two types are one just if they are the same bytes. -/
import Derived.Test.YtnminpbnlcgblaaTypAwake
import Derived.Test.YtnminpbnlcgblaaTypPutR
namespace Go.Proofs.Ytnminpbnlcgblaa.Typ
open Go.RowKit
set_option maxRecDepth 100000
set_option maxHeartbeats 2000000

theorem owes_len {P : Program} {ops : Array Oper} {w0 : World} {a0 : Act} {env : List (Tmp × Stab.Sp)} {o : Oper} {x : Operand} {T : TypeId} {v c : Value} (ho : o.op = .call { callee := .builtin .len, args := #[x], argTypes := #[T] }) (hx : Stab.evalS a0 env x = .is v) (hr : ∀ W, (Builtin.len_ #[T] o.type #[v]).run P W = .ok c W) (hw : Stab.wantB ops a0 env o = true) : Stab.Owes P ops w0 a0 env o (.is c) :=
  Stab.owes_run hw fun ρ w _ hρ => by
    have h1 := hρ x (by simp [ho, Op.operands, Call.operands])
    rw [hx] at h1
    have h1 : ρ x = v := h1
    simp only [execOp, ho, resolve, List.map_toArray, List.map_cons, List.map_nil, h1]
    simp [go_sem, invoke, builtin]
    rw [hr]
    exact ⟨Below.refl _ _, rfl⟩
theorem owes_field {P : Program} {ops : Array Oper} {w0 : World} {a0 : Act} {env : List (Tmp × Stab.Sp)} {o : Oper} {x : Operand} {T : TypeId} {i : Nat} {v c : Value} (ho : o.op = .fieldAddr T x i) (hx : Stab.evalS a0 env x = .is v) (hr : ∀ W, (Instr.fieldAt T v i).run P W = .ok c W) (hw : Stab.wantB ops a0 env o = true) : Stab.Owes P ops w0 a0 env o (.is c) :=
  Stab.owes_run hw fun ρ w _ hρ => by
    have h1 := hρ x (by simp [ho, Op.operands])
    rw [hx] at h1
    have h1 : ρ x = v := h1
    simp only [execOp, ho, h1, Sem.run_bind]
    rw [hr]
    exact ⟨Below.refl _ _, rfl⟩
theorem run_len (A : Option Addr) (n c : Nat) (ty : TypeId) (W : World) : (Builtin.len_ #[22] ty #[.slice A n c]).run Try.prog W = .ok (.int .i64 (n : Int)) W := by go_simp
theorem run_field0 (g : Nat) (W : World) : (Instr.fieldAt 24 (.pointer (some ⟨g, 0, none⟩)) 0).run Try.prog W = .ok (.pointer (some ⟨g, 0, none⟩)) W := by go_simp
theorem run_field1 (g : Nat) (W : World) : (Instr.fieldAt 24 (.pointer (some ⟨g, 0, none⟩)) 1).run Try.prog W = .ok (.pointer (some ⟨g, 1, none⟩)) W := by go_simp
theorem run_slc (A : Option Addr) (n c g o : Nat) (W : World) (h : W.cell? ⟨g, o, none⟩ = some (.slice A n c)) : (Instr.loadAt 22 (.pointer (some ⟨g, o, none⟩))).run Try.prog W = .ok (.slice A n c) W := by
  go_simp
theorem run_eqs (x y : Operand) (s t : ByteArray) (W : World) : (do eqGuard BinOp.eql 9 x y (.string s) (.string t); binOp BinOp.eql 9 (.string s) (.string t) : Sem Value).run Try.prog W = .ok (.bool (s.toList == t.toList)) W := by go_simp
theorem run_eqb (x y : Operand) (r : Bool) (W : World) : (do eqGuard BinOp.eql 4 x y (.bool r) (.bool r); binOp BinOp.eql 4 (.bool r) (.bool r) : Sem Value).run Try.prog W = .ok (.bool true) W := by go_simp
theorem run_eqi (x y : Operand) (r : Int) (W : World) : (do eqGuard BinOp.eql 3 x y (.int .i64 r) (.int .i64 r); binOp BinOp.eql 3 (.int .i64 r) (.int .i64 r) : Sem Value).run Try.prog W = .ok (.bool true) W := by go_simp
theorem run_add (x y : Operand) (r s t : Int) (h : IntKind.i64.wrap (r + s) = t) (W : World) : (do eqGuard BinOp.add 3 x y (.int .i64 r) (.int .i64 s); binOp BinOp.add 3 (.int .i64 r) (.int .i64 s) : Sem Value).run Try.prog W = .ok (.int .i64 t) W := by
  subst h
  go_simp
/-- Bytes that read as a text, and no error. -/
def LaidT (s : ByteArray) (n : Nat) (w : World) (e : Ending) (w' : World) : Prop := ∃ A c, e = .returned (.tuple #[.slice A n c, .int .i64 0]) ∧ TxtOf w' (.slice A n c) s ∧ Below w.heap.size w w'
theorem TxtOf.keep {w w' : World} {v : Value} {s : ByteArray} (h : TxtOf w v s) (hb : Below w.heap.size w w') : TxtOf w' v s := fun W hW => h W (hb.trans (hW.mono hb.size))
theorem LaidE.t {K : List Int} {n : Nat} {w w' : World} {e : Ending} (hK : K.length = n) (h : LaidE K 0 w e w') : LaidT (strOfNums K) n w e w' := by
  obtain ⟨v, rfl, hs, hb⟩ := h
  have ht := hs.txtOf
  obtain ⟨A, c, rfl, _⟩ := hs
  rw [hK] at ht ⊢
  exact ⟨A, c, rfl, ht, hb⟩
theorem one_big1 (A1 A2 B1 B2 : Option Addr) (n1 n2 m1 m2 c1 c2 d1 d2 : Nat) (w : World)
    (hSmA : ∀ W, Calls Try.prog 10 #[.agg #[.slice A1 n1 c1, .slice A2 n2 c2]] W fun e w' => e = .returned (.bool false) ∧ Below W.heap.size W w')
    : Calls Try.prog 7 #[.agg #[.slice A1 n1 c1, .slice A2 n2 c2], .agg #[.slice B1 m1 d1, .slice B2 m2 d2]] w fun e w' => e = .returned (.bool true) ∧ Below w.heap.size w w' := by
  have HSmA := Lib.hid hSmA
  have HW0 : Hid (Below w.heap.size w ((w.alloc (.cells #[.slice A1 n1 c1, .slice A2 n2 c2] 24)).alloc (.cells #[.slice B1 m1 d1, .slice B2 m2 d2] 24))) := ((Below.refl _ _).alloc (Nat.le_refl _) _).alloc (by simp) _
  have HT0 := Lib.hid ((FtAt.at_ w w.heap.size (.slice A1 n1 c1) (.slice A2 n2 c2) 24 rfl rfl rfl).keep ((Below.refl _ _).alloc (Nat.le_refl _) (.cells #[.slice B1 m1 d1, .slice B2 m2 d2] 24)))
  have HT1 := Lib.hid (FtAt.at_ (w.alloc (.cells #[.slice A1 n1 c1, .slice A2 n2 c2] 24)) (w.heap.size + 1) (.slice B1 m1 d1) (.slice B2 m2 d2) 24 rfl rfl (by simp))
  clear hSmA
  go_enter Try.func7, Try.ntmps7
  go_wp2_with fail
  refine (awake_any _).mono ?_
  rintro e w1 ⟨rfl, hb⟩
  have HW := Lib.hid (HW0.out.trans (hb.mono HW0.out.size))
  have HT0 := Lib.hid (HT0.out.keep hb)
  have HT1 := Lib.hid (HT1.out.keep hb)
  clear hb
  obtain ⟨qHT0_0, _, _, qHT0_1, qHT0_2⟩ := HT0.out
  obtain ⟨qHT1_0, _, _, qHT1_1, qHT1_2⟩ := HT1.out
  go_wp2_with fail
  refine (HSmA.out _).mono ?_
  rintro e wN1 ⟨rfl, hb⟩
  clear qHT0_1 qHT0_2 qHT1_1 qHT1_2
  have hbb := hb
  have HW := Lib.hid (HW.out.trans (hbb.mono HW.out.size))
  have HT0 := Lib.hid (HT0.out.keep hbb)
  have HT1 := Lib.hid (HT1.out.keep hbb)
  clear hb hbb
  obtain ⟨qHT0_0, _, _, qHT0_1, qHT0_2⟩ := HT0.out
  obtain ⟨qHT1_0, _, _, qHT1_1, qHT1_2⟩ := HT1.out
  go_wp2_with fail
  go_ret
  exact ⟨rfl, HW.out⟩
theorem one_big2 (A1 A2 B1 B2 : Option Addr) (n1 n2 m1 m2 c1 c2 d1 d2 : Nat) (w : World)
    (hSmA : ∀ W, Calls Try.prog 10 #[.agg #[.slice A1 n1 c1, .slice A2 n2 c2]] W fun e w' => e = .returned (.bool true) ∧ Below W.heap.size W w')
    (hSmB : ∀ W, Calls Try.prog 10 #[.agg #[.slice B1 m1 d1, .slice B2 m2 d2]] W fun e w' => e = .returned (.bool false) ∧ Below W.heap.size W w')
    : Calls Try.prog 7 #[.agg #[.slice A1 n1 c1, .slice A2 n2 c2], .agg #[.slice B1 m1 d1, .slice B2 m2 d2]] w fun e w' => e = .returned (.bool true) ∧ Below w.heap.size w w' := by
  have HSmA := Lib.hid hSmA
  have HSmB := Lib.hid hSmB
  have HW0 : Hid (Below w.heap.size w ((w.alloc (.cells #[.slice A1 n1 c1, .slice A2 n2 c2] 24)).alloc (.cells #[.slice B1 m1 d1, .slice B2 m2 d2] 24))) := ((Below.refl _ _).alloc (Nat.le_refl _) _).alloc (by simp) _
  have HT0 := Lib.hid ((FtAt.at_ w w.heap.size (.slice A1 n1 c1) (.slice A2 n2 c2) 24 rfl rfl rfl).keep ((Below.refl _ _).alloc (Nat.le_refl _) (.cells #[.slice B1 m1 d1, .slice B2 m2 d2] 24)))
  have HT1 := Lib.hid (FtAt.at_ (w.alloc (.cells #[.slice A1 n1 c1, .slice A2 n2 c2] 24)) (w.heap.size + 1) (.slice B1 m1 d1) (.slice B2 m2 d2) 24 rfl rfl (by simp))
  clear hSmA hSmB
  go_enter Try.func7, Try.ntmps7
  go_wp2_with fail
  refine (awake_any _).mono ?_
  rintro e w1 ⟨rfl, hb⟩
  have HW := Lib.hid (HW0.out.trans (hb.mono HW0.out.size))
  have HT0 := Lib.hid (HT0.out.keep hb)
  have HT1 := Lib.hid (HT1.out.keep hb)
  clear hb
  obtain ⟨qHT0_0, _, _, qHT0_1, qHT0_2⟩ := HT0.out
  obtain ⟨qHT1_0, _, _, qHT1_1, qHT1_2⟩ := HT1.out
  go_wp2_with fail
  refine (HSmA.out _).mono ?_
  rintro e wN1 ⟨rfl, hb⟩
  clear qHT0_1 qHT0_2 qHT1_1 qHT1_2
  have hbb := hb
  have HW := Lib.hid (HW.out.trans (hbb.mono HW.out.size))
  have HT0 := Lib.hid (HT0.out.keep hbb)
  have HT1 := Lib.hid (HT1.out.keep hbb)
  clear hb hbb
  obtain ⟨qHT0_0, _, _, qHT0_1, qHT0_2⟩ := HT0.out
  obtain ⟨qHT1_0, _, _, qHT1_1, qHT1_2⟩ := HT1.out
  go_wp2_with fail
  refine (HSmB.out _).mono ?_
  rintro e wN2 ⟨rfl, hb⟩
  clear qHT0_1 qHT0_2 qHT1_1 qHT1_2
  have hbb := hb
  have HW := Lib.hid (HW.out.trans (hbb.mono HW.out.size))
  have HT0 := Lib.hid (HT0.out.keep hbb)
  have HT1 := Lib.hid (HT1.out.keep hbb)
  clear hb hbb
  obtain ⟨qHT0_0, _, _, qHT0_1, qHT0_2⟩ := HT0.out
  obtain ⟨qHT1_0, _, _, qHT1_1, qHT1_2⟩ := HT1.out
  go_wp2_with fail
  go_ret
  exact ⟨rfl, HW.out⟩
theorem one_tt (A1 A2 B1 B2 : Option Addr) (n1 n2 m1 m2 c1 c2 d1 d2 : Nat) (SA : ByteArray) (kA : Nat) (SB : ByteArray) (kB : Nat) (R : Bool) (w : World)
    (hSmA : ∀ W, Calls Try.prog 10 #[.agg #[.slice A1 n1 c1, .slice A2 n2 c2]] W fun e w' => e = .returned (.bool true) ∧ Below W.heap.size W w')
    (hSmB : ∀ W, Calls Try.prog 10 #[.agg #[.slice B1 m1 d1, .slice B2 m2 d2]] W fun e w' => e = .returned (.bool true) ∧ Below W.heap.size W w')
    (hPA : ∀ W, Below w.heap.size w W → Calls Try.prog 18 #[.slice none 0 0, .agg #[.slice A1 n1 c1, .slice A2 n2 c2]] W (LaidT SA kA W))
    (hPB : ∀ W, Below w.heap.size w W → Calls Try.prog 18 #[.slice none 0 0, .agg #[.slice B1 m1 d1, .slice B2 m2 d2]] W (LaidT SB kB W))
    (hSab : ∀ W, Below w.heap.size w W → Calls Try.prog 24 #[.agg #[.slice A1 n1 c1, .slice A2 n2 c2], .agg #[.slice B1 m1 d1, .slice B2 m2 d2]] W fun e w' => e = .returned (.bool R) ∧ Below W.heap.size W w')
    (hSba : ∀ W, Below w.heap.size w W → Calls Try.prog 24 #[.agg #[.slice B1 m1 d1, .slice B2 m2 d2], .agg #[.slice A1 n1 c1, .slice A2 n2 c2]] W fun e w' => e = .returned (.bool R) ∧ Below W.heap.size W w')
    (hR : (SA.toList == SB.toList) = R)
    (hn : n1 ≤ 100 ∧ n2 ≤ 100)
    (hk : kA = 3 + n1 + n2)
    : Calls Try.prog 7 #[.agg #[.slice A1 n1 c1, .slice A2 n2 c2], .agg #[.slice B1 m1 d1, .slice B2 m2 d2]] w fun e w' => e = .returned (.bool true) ∧ Below w.heap.size w w' := by
  have HES := Lib.hid (fun x y W => run_eqs x y SA SB W)
  rw [hR] at HES
  have HA1 : Hid (IntKind.i64.wrap (3 + (n1 : Int)) = 3 + (n1 : Int)) := IntWalk.i64_in _ (by omega)
  have HA2 : Hid (IntKind.i64.wrap (3 + (n1 : Int) + (n2 : Int)) = (kA : Int)) := by
    show _ = _
    rw [IntKind.wrap_i64]
    omega
  have HSmA := Lib.hid hSmA
  have HSmB := Lib.hid hSmB
  have HPA := Lib.hid hPA
  have HPB := Lib.hid hPB
  have HSab := Lib.hid hSab
  have HSba := Lib.hid hSba
  have HW0 : Hid (Below w.heap.size w ((w.alloc (.cells #[.slice A1 n1 c1, .slice A2 n2 c2] 24)).alloc (.cells #[.slice B1 m1 d1, .slice B2 m2 d2] 24))) := ((Below.refl _ _).alloc (Nat.le_refl _) _).alloc (by simp) _
  have HT0 := Lib.hid ((FtAt.at_ w w.heap.size (.slice A1 n1 c1) (.slice A2 n2 c2) 24 rfl rfl rfl).keep ((Below.refl _ _).alloc (Nat.le_refl _) (.cells #[.slice B1 m1 d1, .slice B2 m2 d2] 24)))
  have HT1 := Lib.hid (FtAt.at_ (w.alloc (.cells #[.slice A1 n1 c1, .slice A2 n2 c2] 24)) (w.heap.size + 1) (.slice B1 m1 d1) (.slice B2 m2 d2) 24 rfl rfl (by simp))
  clear hSmA hSmB hPA hPB hSab hSba hR hn hk
  go_enter Try.func7, Try.ntmps7
  go_wp2_with fail
  refine (awake_any _).mono ?_
  rintro e w1 ⟨rfl, hb⟩
  have HW := Lib.hid (HW0.out.trans (hb.mono HW0.out.size))
  have HT0 := Lib.hid (HT0.out.keep hb)
  have HT1 := Lib.hid (HT1.out.keep hb)
  clear hb
  obtain ⟨qHT0_0, _, _, qHT0_1, qHT0_2⟩ := HT0.out
  obtain ⟨qHT1_0, _, _, qHT1_1, qHT1_2⟩ := HT1.out
  go_wp2_with fail
  refine (HSmA.out _).mono ?_
  rintro e wN1 ⟨rfl, hb⟩
  clear qHT0_1 qHT0_2 qHT1_1 qHT1_2
  have hbb := hb
  have HW := Lib.hid (HW.out.trans (hbb.mono HW.out.size))
  have HT0 := Lib.hid (HT0.out.keep hbb)
  have HT1 := Lib.hid (HT1.out.keep hbb)
  clear hb hbb
  obtain ⟨qHT0_0, _, _, qHT0_1, qHT0_2⟩ := HT0.out
  obtain ⟨qHT1_0, _, _, qHT1_1, qHT1_2⟩ := HT1.out
  go_wp2_with fail
  refine (HSmB.out _).mono ?_
  rintro e wN2 ⟨rfl, hb⟩
  clear qHT0_1 qHT0_2 qHT1_1 qHT1_2
  have hbb := hb
  have HW := Lib.hid (HW.out.trans (hbb.mono HW.out.size))
  have HT0 := Lib.hid (HT0.out.keep hbb)
  have HT1 := Lib.hid (HT1.out.keep hbb)
  clear hb hbb
  obtain ⟨qHT0_0, _, _, qHT0_1, qHT0_2⟩ := HT0.out
  obtain ⟨qHT1_0, _, _, qHT1_1, qHT1_2⟩ := HT1.out
  go_wp2_with fail
  refine (HPA.out _ HW.out).mono ?_
  rintro e wN3 ⟨XA, xA, rfl, ht, hb⟩
  clear qHT0_1 qHT0_2 qHT1_1 qHT1_2
  have hbb := hb
  have HW := Lib.hid (HW.out.trans (hbb.mono HW.out.size))
  have HT0 := Lib.hid (HT0.out.keep hbb)
  have HT1 := Lib.hid (HT1.out.keep hbb)
  have HXA := Lib.hid ht
  clear ht
  clear hb hbb
  obtain ⟨qHT0_0, _, _, qHT0_1, qHT0_2⟩ := HT0.out
  obtain ⟨qHT1_0, _, _, qHT1_1, qHT1_2⟩ := HT1.out
  go_wp2_with fail
  refine (HPB.out _ HW.out).mono ?_
  rintro e wN4 ⟨XB, xB, rfl, ht, hb⟩
  clear qHT0_1 qHT0_2 qHT1_1 qHT1_2
  have hbb := hb
  have HW := Lib.hid (HW.out.trans (hbb.mono HW.out.size))
  have HT0 := Lib.hid (HT0.out.keep hbb)
  have HT1 := Lib.hid (HT1.out.keep hbb)
  have HXA := Lib.hid (HXA.out.keep hbb)
  have HXB := Lib.hid ht
  clear ht
  clear hb hbb
  obtain ⟨qHT0_0, _, _, qHT0_1, qHT0_2⟩ := HT0.out
  obtain ⟨qHT1_0, _, _, qHT1_1, qHT1_2⟩ := HT1.out
  go_wp2_with fail
  refine Stab.region 89 [.is (.bool true), .is (.bool true), .is (.agg #[.slice A1 n1 c1, .slice A2 n2 c2]), .is (.agg #[.slice B1 m1 d1, .slice B2 m2 d2]), .is (.bool R), .is (.slice XA kA xA), .is (.string SA), .is (.slice XB kB xB), .is (.string SB), .is (.bool R), .is (.bool true), .is (.bool true), .is (.bool true), .is (.agg #[.slice A1 n1 c1, .slice A2 n2 c2]), .is (.agg #[.slice B1 m1 d1, .slice B2 m2 d2]), .is (.bool R), .is (.agg #[.slice B1 m1 d1, .slice B2 m2 d2]), .is (.agg #[.slice A1 n1 c1, .slice A2 n2 c2]), .is (.bool R), .is (.bool true), .is (.bool true), .is (.bool true), .is (.slice XA kA xA), .is (.int .i64 (kA : Int)), .is (.pointer (some ⟨w.heap.size, 0, none⟩)), .is (.slice A1 n1 c1), .is (.int .i64 (n1 : Int)), .is (.int .i64 (3 + (n1 : Int))), .is (.pointer (some ⟨w.heap.size, 1, none⟩)), .is (.slice A2 n2 c2), .is (.int .i64 (n2 : Int)), .is (.int .i64 (kA : Int)), .is (.bool true), .is (.bool true), .is (.bool true)] (by kernel_rfl) (by kernel_rfl) rfl rfl ?_ ?_
  · with_reducible refine Stab.steps_cons ?_ ?_ ?_
    · exact Stab.owes_move rfl rfl rfl
    · exact trivial
    with_reducible refine Stab.steps_cons ?_ ?_ ?_
    · exact Stab.owes_move rfl rfl rfl
    · exact trivial
    with_reducible refine Stab.steps_cons ?_ ?_ ?_
    · exact Stab.owes_load rfl (fun v W hb hv => by subst hv; exact (HT0.out.keep hb).run) rfl
    · exact trivial
    with_reducible refine Stab.steps_cons ?_ ?_ ?_
    · exact Stab.owes_load rfl (fun v W hb hv => by subst hv; exact (HT1.out.keep hb).run) rfl
    · exact trivial
    with_reducible refine Stab.steps_cons ?_ ?_ ?_
    · (refine Stab.owes_call Try.func24 (by kernel_rfl) (by kernel_rfl) rfl (fun vs W hb hall => ?_) rfl; obtain ⟨_, _, rfl, rfl, _, _, rfl, rfl, rfl⟩ := hall; refine (HSab.out W (HW.out.trans (hb.mono HW.out.size))).mono ?_; rintro e w2 ⟨rfl, hb2⟩; exact ⟨_, rfl, hb2, rfl⟩)
    · exact trivial
    with_reducible refine Stab.steps_cons ?_ ?_ ?_
    · exact Stab.owes_move rfl rfl rfl
    · exact trivial
    with_reducible refine Stab.steps_cons ?_ ?_ ?_
    · exact Stab.owes_convert rfl (fun x W hb hx => by subst hx; exact HXA.out W hb) rfl
    · exact trivial
    with_reducible refine Stab.steps_cons ?_ ?_ ?_
    · exact Stab.owes_move rfl rfl rfl
    · exact trivial
    with_reducible refine Stab.steps_cons ?_ ?_ ?_
    · exact Stab.owes_convert rfl (fun x W hb hx => by subst hx; exact HXB.out W hb) rfl
    · exact trivial
    with_reducible refine Stab.steps_cons ?_ ?_ ?_
    · exact Stab.owes_bin rfl rfl rfl (fun W => HES.out _ _ W) rfl
    · exact trivial
    with_reducible refine Stab.steps_cons ?_ ?_ ?_
    · exact Stab.owes_bin rfl rfl rfl (fun W => run_eqb _ _ R W) rfl
    · exact trivial
    with_reducible refine Stab.steps_cons ?_ ?_ ?_
    · exact Stab.owes_pick rfl rfl rfl rfl
    · exact trivial
    with_reducible refine Stab.steps_cons ?_ ?_ ?_
    · exact Stab.owes_move rfl rfl rfl
    · exact trivial
    with_reducible refine Stab.steps_cons ?_ ?_ ?_
    · exact Stab.owes_load rfl (fun v W hb hv => by subst hv; exact (HT0.out.keep hb).run) rfl
    · exact trivial
    with_reducible refine Stab.steps_cons ?_ ?_ ?_
    · exact Stab.owes_load rfl (fun v W hb hv => by subst hv; exact (HT1.out.keep hb).run) rfl
    · exact trivial
    with_reducible refine Stab.steps_cons ?_ ?_ ?_
    · (refine Stab.owes_call Try.func24 (by kernel_rfl) (by kernel_rfl) rfl (fun vs W hb hall => ?_) rfl; obtain ⟨_, _, rfl, rfl, _, _, rfl, rfl, rfl⟩ := hall; refine (HSab.out W (HW.out.trans (hb.mono HW.out.size))).mono ?_; rintro e w2 ⟨rfl, hb2⟩; exact ⟨_, rfl, hb2, rfl⟩)
    · exact trivial
    with_reducible refine Stab.steps_cons ?_ ?_ ?_
    · exact Stab.owes_load rfl (fun v W hb hv => by subst hv; exact (HT1.out.keep hb).run) rfl
    · exact trivial
    with_reducible refine Stab.steps_cons ?_ ?_ ?_
    · exact Stab.owes_load rfl (fun v W hb hv => by subst hv; exact (HT0.out.keep hb).run) rfl
    · exact trivial
    with_reducible refine Stab.steps_cons ?_ ?_ ?_
    · (refine Stab.owes_call Try.func24 (by kernel_rfl) (by kernel_rfl) rfl (fun vs W hb hall => ?_) rfl; obtain ⟨_, _, rfl, rfl, _, _, rfl, rfl, rfl⟩ := hall; refine (HSba.out W (HW.out.trans (hb.mono HW.out.size))).mono ?_; rintro e w2 ⟨rfl, hb2⟩; exact ⟨_, rfl, hb2, rfl⟩)
    · exact trivial
    with_reducible refine Stab.steps_cons ?_ ?_ ?_
    · exact Stab.owes_bin rfl rfl rfl (fun W => run_eqb _ _ R W) rfl
    · exact trivial
    with_reducible refine Stab.steps_cons ?_ ?_ ?_
    · exact Stab.owes_pick rfl rfl rfl rfl
    · exact trivial
    with_reducible refine Stab.steps_cons ?_ ?_ ?_
    · exact Stab.owes_move rfl rfl rfl
    · exact trivial
    with_reducible refine Stab.steps_cons ?_ ?_ ?_
    · exact Stab.owes_move rfl rfl rfl
    · exact trivial
    with_reducible refine Stab.steps_cons ?_ ?_ ?_
    · exact owes_len rfl rfl (fun W => run_len _ _ _ _ W) rfl
    · exact trivial
    with_reducible refine Stab.steps_cons ?_ ?_ ?_
    · exact owes_field rfl rfl (fun W => run_field0 _ W) rfl
    · exact trivial
    with_reducible refine Stab.steps_cons ?_ ?_ ?_
    · exact Stab.owes_load rfl (fun v W hb hv => by subst hv; exact run_slc _ _ _ _ _ W (HT0.out.keep hb).2.2.2.1) rfl
    · exact trivial
    with_reducible refine Stab.steps_cons ?_ ?_ ?_
    · exact owes_len rfl rfl (fun W => run_len _ _ _ _ W) rfl
    · exact trivial
    with_reducible refine Stab.steps_cons ?_ ?_ ?_
    · exact Stab.owes_bin rfl rfl rfl (fun W => run_add _ _ 3 (n1 : Int) _ HA1.out W) rfl
    · exact trivial
    with_reducible refine Stab.steps_cons ?_ ?_ ?_
    · exact owes_field rfl rfl (fun W => run_field1 _ W) rfl
    · exact trivial
    with_reducible refine Stab.steps_cons ?_ ?_ ?_
    · exact Stab.owes_load rfl (fun v W hb hv => by subst hv; exact run_slc _ _ _ _ _ W (HT0.out.keep hb).2.2.2.2) rfl
    · exact trivial
    with_reducible refine Stab.steps_cons ?_ ?_ ?_
    · exact owes_len rfl rfl (fun W => run_len _ _ _ _ W) rfl
    · exact trivial
    with_reducible refine Stab.steps_cons ?_ ?_ ?_
    · exact Stab.owes_bin rfl rfl rfl (fun W => run_add _ _ (3 + (n1 : Int)) (n2 : Int) _ HA2.out W) rfl
    · exact trivial
    with_reducible refine Stab.steps_cons ?_ ?_ ?_
    · exact Stab.owes_bin rfl rfl rfl (fun W => run_eqi _ _ _ W) rfl
    · exact trivial
    with_reducible refine Stab.steps_cons ?_ ?_ ?_
    · exact Stab.owes_pick rfl rfl rfl rfl
    · exact trivial
    with_reducible refine Stab.steps_cons ?_ ?_ ?_
    · exact Stab.owes_assign rfl rfl rfl
    · exact trivial
    exact Stab.steps_nil
  · intro W hb _
    simp only [Act.put, List.setIfInBounds_toArray, List.set_cons_succ, List.set_cons_zero]
    go_wp2
    go_ret
    exact ⟨rfl, HW.out.trans (hb.mono HW.out.size)⟩
theorem one_tf (A1 A2 B1 B2 : Option Addr) (n1 n2 m1 m2 c1 c2 d1 d2 : Nat) (SA : ByteArray) (kA : Nat) (w : World)
    (hSmA : ∀ W, Calls Try.prog 10 #[.agg #[.slice A1 n1 c1, .slice A2 n2 c2]] W fun e w' => e = .returned (.bool true) ∧ Below W.heap.size W w')
    (hSmB : ∀ W, Calls Try.prog 10 #[.agg #[.slice B1 m1 d1, .slice B2 m2 d2]] W fun e w' => e = .returned (.bool true) ∧ Below W.heap.size W w')
    (hPA : ∀ W, Below w.heap.size w W → Calls Try.prog 18 #[.slice none 0 0, .agg #[.slice A1 n1 c1, .slice A2 n2 c2]] W (LaidT SA kA W))
    (hPB : ∀ W, Below w.heap.size w W → Calls Try.prog 18 #[.slice none 0 0, .agg #[.slice B1 m1 d1, .slice B2 m2 d2]] W fun e w' => e = .returned (.tuple #[.slice none 0 0, .int .i64 1]) ∧ Below W.heap.size W w')
    (hNB : ∀ W, Below w.heap.size w W → Calls Try.prog 22 #[.agg #[.slice B1 m1 d1, .slice B2 m2 d2]] W fun e w' => e = .returned (.bool false) ∧ Below W.heap.size W w')
    : Calls Try.prog 7 #[.agg #[.slice A1 n1 c1, .slice A2 n2 c2], .agg #[.slice B1 m1 d1, .slice B2 m2 d2]] w fun e w' => e = .returned (.bool true) ∧ Below w.heap.size w w' := by
  have HSmA := Lib.hid hSmA
  have HSmB := Lib.hid hSmB
  have HPA := Lib.hid hPA
  have HPB := Lib.hid hPB
  have HNB := Lib.hid hNB
  have HW0 : Hid (Below w.heap.size w ((w.alloc (.cells #[.slice A1 n1 c1, .slice A2 n2 c2] 24)).alloc (.cells #[.slice B1 m1 d1, .slice B2 m2 d2] 24))) := ((Below.refl _ _).alloc (Nat.le_refl _) _).alloc (by simp) _
  have HT0 := Lib.hid ((FtAt.at_ w w.heap.size (.slice A1 n1 c1) (.slice A2 n2 c2) 24 rfl rfl rfl).keep ((Below.refl _ _).alloc (Nat.le_refl _) (.cells #[.slice B1 m1 d1, .slice B2 m2 d2] 24)))
  have HT1 := Lib.hid (FtAt.at_ (w.alloc (.cells #[.slice A1 n1 c1, .slice A2 n2 c2] 24)) (w.heap.size + 1) (.slice B1 m1 d1) (.slice B2 m2 d2) 24 rfl rfl (by simp))
  clear hSmA hSmB hPA hPB hNB
  go_enter Try.func7, Try.ntmps7
  go_wp2_with fail
  refine (awake_any _).mono ?_
  rintro e w1 ⟨rfl, hb⟩
  have HW := Lib.hid (HW0.out.trans (hb.mono HW0.out.size))
  have HT0 := Lib.hid (HT0.out.keep hb)
  have HT1 := Lib.hid (HT1.out.keep hb)
  clear hb
  obtain ⟨qHT0_0, _, _, qHT0_1, qHT0_2⟩ := HT0.out
  obtain ⟨qHT1_0, _, _, qHT1_1, qHT1_2⟩ := HT1.out
  go_wp2_with fail
  refine (HSmA.out _).mono ?_
  rintro e wN1 ⟨rfl, hb⟩
  clear qHT0_1 qHT0_2 qHT1_1 qHT1_2
  have hbb := hb
  have HW := Lib.hid (HW.out.trans (hbb.mono HW.out.size))
  have HT0 := Lib.hid (HT0.out.keep hbb)
  have HT1 := Lib.hid (HT1.out.keep hbb)
  clear hb hbb
  obtain ⟨qHT0_0, _, _, qHT0_1, qHT0_2⟩ := HT0.out
  obtain ⟨qHT1_0, _, _, qHT1_1, qHT1_2⟩ := HT1.out
  go_wp2_with fail
  refine (HSmB.out _).mono ?_
  rintro e wN2 ⟨rfl, hb⟩
  clear qHT0_1 qHT0_2 qHT1_1 qHT1_2
  have hbb := hb
  have HW := Lib.hid (HW.out.trans (hbb.mono HW.out.size))
  have HT0 := Lib.hid (HT0.out.keep hbb)
  have HT1 := Lib.hid (HT1.out.keep hbb)
  clear hb hbb
  obtain ⟨qHT0_0, _, _, qHT0_1, qHT0_2⟩ := HT0.out
  obtain ⟨qHT1_0, _, _, qHT1_1, qHT1_2⟩ := HT1.out
  go_wp2_with fail
  refine (HPA.out _ HW.out).mono ?_
  rintro e wN3 ⟨XA, xA, rfl, ht, hb⟩
  clear qHT0_1 qHT0_2 qHT1_1 qHT1_2
  have hbb := hb
  have HW := Lib.hid (HW.out.trans (hbb.mono HW.out.size))
  have HT0 := Lib.hid (HT0.out.keep hbb)
  have HT1 := Lib.hid (HT1.out.keep hbb)
  have HXA := Lib.hid ht
  clear ht
  clear hb hbb
  obtain ⟨qHT0_0, _, _, qHT0_1, qHT0_2⟩ := HT0.out
  obtain ⟨qHT1_0, _, _, qHT1_1, qHT1_2⟩ := HT1.out
  go_wp2_with fail
  refine (HPB.out _ HW.out).mono ?_
  rintro e wN4 ⟨rfl, hb⟩
  clear qHT0_1 qHT0_2 qHT1_1 qHT1_2
  have hbb := hb
  have HW := Lib.hid (HW.out.trans (hbb.mono HW.out.size))
  have HT0 := Lib.hid (HT0.out.keep hbb)
  have HT1 := Lib.hid (HT1.out.keep hbb)
  have HXA := Lib.hid (HXA.out.keep hbb)
  clear hb hbb
  obtain ⟨qHT0_0, _, _, qHT0_1, qHT0_2⟩ := HT0.out
  obtain ⟨qHT1_0, _, _, qHT1_1, qHT1_2⟩ := HT1.out
  go_wp2_with fail
  refine (HNB.out _ HW.out).mono ?_
  rintro e wN5 ⟨rfl, hb⟩
  clear qHT0_1 qHT0_2 qHT1_1 qHT1_2
  have hbb := hb
  have HW := Lib.hid (HW.out.trans (hbb.mono HW.out.size))
  have HT0 := Lib.hid (HT0.out.keep hbb)
  have HT1 := Lib.hid (HT1.out.keep hbb)
  have HXA := Lib.hid (HXA.out.keep hbb)
  clear hb hbb
  obtain ⟨qHT0_0, _, _, qHT0_1, qHT0_2⟩ := HT0.out
  obtain ⟨qHT1_0, _, _, qHT1_1, qHT1_2⟩ := HT1.out
  go_wp2_with fail
  go_ret
  exact ⟨rfl, HW.out⟩
theorem one_ft (A1 A2 B1 B2 : Option Addr) (n1 n2 m1 m2 c1 c2 d1 d2 : Nat) (SB : ByteArray) (kB : Nat) (w : World)
    (hSmA : ∀ W, Calls Try.prog 10 #[.agg #[.slice A1 n1 c1, .slice A2 n2 c2]] W fun e w' => e = .returned (.bool true) ∧ Below W.heap.size W w')
    (hSmB : ∀ W, Calls Try.prog 10 #[.agg #[.slice B1 m1 d1, .slice B2 m2 d2]] W fun e w' => e = .returned (.bool true) ∧ Below W.heap.size W w')
    (hPA : ∀ W, Below w.heap.size w W → Calls Try.prog 18 #[.slice none 0 0, .agg #[.slice A1 n1 c1, .slice A2 n2 c2]] W fun e w' => e = .returned (.tuple #[.slice none 0 0, .int .i64 1]) ∧ Below W.heap.size W w')
    (hPB : ∀ W, Below w.heap.size w W → Calls Try.prog 18 #[.slice none 0 0, .agg #[.slice B1 m1 d1, .slice B2 m2 d2]] W (LaidT SB kB W))
    (hNA : ∀ W, Below w.heap.size w W → Calls Try.prog 22 #[.agg #[.slice A1 n1 c1, .slice A2 n2 c2]] W fun e w' => e = .returned (.bool false) ∧ Below W.heap.size W w')
    : Calls Try.prog 7 #[.agg #[.slice A1 n1 c1, .slice A2 n2 c2], .agg #[.slice B1 m1 d1, .slice B2 m2 d2]] w fun e w' => e = .returned (.bool true) ∧ Below w.heap.size w w' := by
  have HSmA := Lib.hid hSmA
  have HSmB := Lib.hid hSmB
  have HPA := Lib.hid hPA
  have HPB := Lib.hid hPB
  have HNA := Lib.hid hNA
  have HW0 : Hid (Below w.heap.size w ((w.alloc (.cells #[.slice A1 n1 c1, .slice A2 n2 c2] 24)).alloc (.cells #[.slice B1 m1 d1, .slice B2 m2 d2] 24))) := ((Below.refl _ _).alloc (Nat.le_refl _) _).alloc (by simp) _
  have HT0 := Lib.hid ((FtAt.at_ w w.heap.size (.slice A1 n1 c1) (.slice A2 n2 c2) 24 rfl rfl rfl).keep ((Below.refl _ _).alloc (Nat.le_refl _) (.cells #[.slice B1 m1 d1, .slice B2 m2 d2] 24)))
  have HT1 := Lib.hid (FtAt.at_ (w.alloc (.cells #[.slice A1 n1 c1, .slice A2 n2 c2] 24)) (w.heap.size + 1) (.slice B1 m1 d1) (.slice B2 m2 d2) 24 rfl rfl (by simp))
  clear hSmA hSmB hPA hPB hNA
  go_enter Try.func7, Try.ntmps7
  go_wp2_with fail
  refine (awake_any _).mono ?_
  rintro e w1 ⟨rfl, hb⟩
  have HW := Lib.hid (HW0.out.trans (hb.mono HW0.out.size))
  have HT0 := Lib.hid (HT0.out.keep hb)
  have HT1 := Lib.hid (HT1.out.keep hb)
  clear hb
  obtain ⟨qHT0_0, _, _, qHT0_1, qHT0_2⟩ := HT0.out
  obtain ⟨qHT1_0, _, _, qHT1_1, qHT1_2⟩ := HT1.out
  go_wp2_with fail
  refine (HSmA.out _).mono ?_
  rintro e wN1 ⟨rfl, hb⟩
  clear qHT0_1 qHT0_2 qHT1_1 qHT1_2
  have hbb := hb
  have HW := Lib.hid (HW.out.trans (hbb.mono HW.out.size))
  have HT0 := Lib.hid (HT0.out.keep hbb)
  have HT1 := Lib.hid (HT1.out.keep hbb)
  clear hb hbb
  obtain ⟨qHT0_0, _, _, qHT0_1, qHT0_2⟩ := HT0.out
  obtain ⟨qHT1_0, _, _, qHT1_1, qHT1_2⟩ := HT1.out
  go_wp2_with fail
  refine (HSmB.out _).mono ?_
  rintro e wN2 ⟨rfl, hb⟩
  clear qHT0_1 qHT0_2 qHT1_1 qHT1_2
  have hbb := hb
  have HW := Lib.hid (HW.out.trans (hbb.mono HW.out.size))
  have HT0 := Lib.hid (HT0.out.keep hbb)
  have HT1 := Lib.hid (HT1.out.keep hbb)
  clear hb hbb
  obtain ⟨qHT0_0, _, _, qHT0_1, qHT0_2⟩ := HT0.out
  obtain ⟨qHT1_0, _, _, qHT1_1, qHT1_2⟩ := HT1.out
  go_wp2_with fail
  refine (HPA.out _ HW.out).mono ?_
  rintro e wN3 ⟨rfl, hb⟩
  clear qHT0_1 qHT0_2 qHT1_1 qHT1_2
  have hbb := hb
  have HW := Lib.hid (HW.out.trans (hbb.mono HW.out.size))
  have HT0 := Lib.hid (HT0.out.keep hbb)
  have HT1 := Lib.hid (HT1.out.keep hbb)
  clear hb hbb
  obtain ⟨qHT0_0, _, _, qHT0_1, qHT0_2⟩ := HT0.out
  obtain ⟨qHT1_0, _, _, qHT1_1, qHT1_2⟩ := HT1.out
  go_wp2_with fail
  refine (HPB.out _ HW.out).mono ?_
  rintro e wN4 ⟨XB, xB, rfl, ht, hb⟩
  clear qHT0_1 qHT0_2 qHT1_1 qHT1_2
  have hbb := hb
  have HW := Lib.hid (HW.out.trans (hbb.mono HW.out.size))
  have HT0 := Lib.hid (HT0.out.keep hbb)
  have HT1 := Lib.hid (HT1.out.keep hbb)
  have HXB := Lib.hid ht
  clear ht
  clear hb hbb
  obtain ⟨qHT0_0, _, _, qHT0_1, qHT0_2⟩ := HT0.out
  obtain ⟨qHT1_0, _, _, qHT1_1, qHT1_2⟩ := HT1.out
  go_wp2_with fail
  refine (HNA.out _ HW.out).mono ?_
  rintro e wN5 ⟨rfl, hb⟩
  clear qHT0_1 qHT0_2 qHT1_1 qHT1_2
  have hbb := hb
  have HW := Lib.hid (HW.out.trans (hbb.mono HW.out.size))
  have HT0 := Lib.hid (HT0.out.keep hbb)
  have HT1 := Lib.hid (HT1.out.keep hbb)
  have HXB := Lib.hid (HXB.out.keep hbb)
  clear hb hbb
  obtain ⟨qHT0_0, _, _, qHT0_1, qHT0_2⟩ := HT0.out
  obtain ⟨qHT1_0, _, _, qHT1_1, qHT1_2⟩ := HT1.out
  go_wp2_with fail
  go_ret
  exact ⟨rfl, HW.out⟩
theorem one_ff (A1 A2 B1 B2 : Option Addr) (n1 n2 m1 m2 c1 c2 d1 d2 : Nat) (w : World)
    (hSmA : ∀ W, Calls Try.prog 10 #[.agg #[.slice A1 n1 c1, .slice A2 n2 c2]] W fun e w' => e = .returned (.bool true) ∧ Below W.heap.size W w')
    (hSmB : ∀ W, Calls Try.prog 10 #[.agg #[.slice B1 m1 d1, .slice B2 m2 d2]] W fun e w' => e = .returned (.bool true) ∧ Below W.heap.size W w')
    (hPA : ∀ W, Below w.heap.size w W → Calls Try.prog 18 #[.slice none 0 0, .agg #[.slice A1 n1 c1, .slice A2 n2 c2]] W fun e w' => e = .returned (.tuple #[.slice none 0 0, .int .i64 1]) ∧ Below W.heap.size W w')
    (hPB : ∀ W, Below w.heap.size w W → Calls Try.prog 18 #[.slice none 0 0, .agg #[.slice B1 m1 d1, .slice B2 m2 d2]] W fun e w' => e = .returned (.tuple #[.slice none 0 0, .int .i64 1]) ∧ Below W.heap.size W w')
    (hNA : ∀ W, Below w.heap.size w W → Calls Try.prog 22 #[.agg #[.slice A1 n1 c1, .slice A2 n2 c2]] W fun e w' => e = .returned (.bool false) ∧ Below W.heap.size W w')
    (hNB : ∀ W, Below w.heap.size w W → Calls Try.prog 22 #[.agg #[.slice B1 m1 d1, .slice B2 m2 d2]] W fun e w' => e = .returned (.bool false) ∧ Below W.heap.size W w')
    : Calls Try.prog 7 #[.agg #[.slice A1 n1 c1, .slice A2 n2 c2], .agg #[.slice B1 m1 d1, .slice B2 m2 d2]] w fun e w' => e = .returned (.bool true) ∧ Below w.heap.size w w' := by
  have HSmA := Lib.hid hSmA
  have HSmB := Lib.hid hSmB
  have HPA := Lib.hid hPA
  have HPB := Lib.hid hPB
  have HNA := Lib.hid hNA
  have HNB := Lib.hid hNB
  have HW0 : Hid (Below w.heap.size w ((w.alloc (.cells #[.slice A1 n1 c1, .slice A2 n2 c2] 24)).alloc (.cells #[.slice B1 m1 d1, .slice B2 m2 d2] 24))) := ((Below.refl _ _).alloc (Nat.le_refl _) _).alloc (by simp) _
  have HT0 := Lib.hid ((FtAt.at_ w w.heap.size (.slice A1 n1 c1) (.slice A2 n2 c2) 24 rfl rfl rfl).keep ((Below.refl _ _).alloc (Nat.le_refl _) (.cells #[.slice B1 m1 d1, .slice B2 m2 d2] 24)))
  have HT1 := Lib.hid (FtAt.at_ (w.alloc (.cells #[.slice A1 n1 c1, .slice A2 n2 c2] 24)) (w.heap.size + 1) (.slice B1 m1 d1) (.slice B2 m2 d2) 24 rfl rfl (by simp))
  clear hSmA hSmB hPA hPB hNA hNB
  go_enter Try.func7, Try.ntmps7
  go_wp2_with fail
  refine (awake_any _).mono ?_
  rintro e w1 ⟨rfl, hb⟩
  have HW := Lib.hid (HW0.out.trans (hb.mono HW0.out.size))
  have HT0 := Lib.hid (HT0.out.keep hb)
  have HT1 := Lib.hid (HT1.out.keep hb)
  clear hb
  obtain ⟨qHT0_0, _, _, qHT0_1, qHT0_2⟩ := HT0.out
  obtain ⟨qHT1_0, _, _, qHT1_1, qHT1_2⟩ := HT1.out
  go_wp2_with fail
  refine (HSmA.out _).mono ?_
  rintro e wN1 ⟨rfl, hb⟩
  clear qHT0_1 qHT0_2 qHT1_1 qHT1_2
  have hbb := hb
  have HW := Lib.hid (HW.out.trans (hbb.mono HW.out.size))
  have HT0 := Lib.hid (HT0.out.keep hbb)
  have HT1 := Lib.hid (HT1.out.keep hbb)
  clear hb hbb
  obtain ⟨qHT0_0, _, _, qHT0_1, qHT0_2⟩ := HT0.out
  obtain ⟨qHT1_0, _, _, qHT1_1, qHT1_2⟩ := HT1.out
  go_wp2_with fail
  refine (HSmB.out _).mono ?_
  rintro e wN2 ⟨rfl, hb⟩
  clear qHT0_1 qHT0_2 qHT1_1 qHT1_2
  have hbb := hb
  have HW := Lib.hid (HW.out.trans (hbb.mono HW.out.size))
  have HT0 := Lib.hid (HT0.out.keep hbb)
  have HT1 := Lib.hid (HT1.out.keep hbb)
  clear hb hbb
  obtain ⟨qHT0_0, _, _, qHT0_1, qHT0_2⟩ := HT0.out
  obtain ⟨qHT1_0, _, _, qHT1_1, qHT1_2⟩ := HT1.out
  go_wp2_with fail
  refine (HPA.out _ HW.out).mono ?_
  rintro e wN3 ⟨rfl, hb⟩
  clear qHT0_1 qHT0_2 qHT1_1 qHT1_2
  have hbb := hb
  have HW := Lib.hid (HW.out.trans (hbb.mono HW.out.size))
  have HT0 := Lib.hid (HT0.out.keep hbb)
  have HT1 := Lib.hid (HT1.out.keep hbb)
  clear hb hbb
  obtain ⟨qHT0_0, _, _, qHT0_1, qHT0_2⟩ := HT0.out
  obtain ⟨qHT1_0, _, _, qHT1_1, qHT1_2⟩ := HT1.out
  go_wp2_with fail
  refine (HPB.out _ HW.out).mono ?_
  rintro e wN4 ⟨rfl, hb⟩
  clear qHT0_1 qHT0_2 qHT1_1 qHT1_2
  have hbb := hb
  have HW := Lib.hid (HW.out.trans (hbb.mono HW.out.size))
  have HT0 := Lib.hid (HT0.out.keep hbb)
  have HT1 := Lib.hid (HT1.out.keep hbb)
  clear hb hbb
  obtain ⟨qHT0_0, _, _, qHT0_1, qHT0_2⟩ := HT0.out
  obtain ⟨qHT1_0, _, _, qHT1_1, qHT1_2⟩ := HT1.out
  go_wp2_with fail
  refine (HNA.out _ HW.out).mono ?_
  rintro e wN5 ⟨rfl, hb⟩
  clear qHT0_1 qHT0_2 qHT1_1 qHT1_2
  have hbb := hb
  have HW := Lib.hid (HW.out.trans (hbb.mono HW.out.size))
  have HT0 := Lib.hid (HT0.out.keep hbb)
  have HT1 := Lib.hid (HT1.out.keep hbb)
  clear hb hbb
  obtain ⟨qHT0_0, _, _, qHT0_1, qHT0_2⟩ := HT0.out
  obtain ⟨qHT1_0, _, _, qHT1_1, qHT1_2⟩ := HT1.out
  go_wp2_with fail
  refine (HNB.out _ HW.out).mono ?_
  rintro e wN6 ⟨rfl, hb⟩
  clear qHT0_1 qHT0_2 qHT1_1 qHT1_2
  have hbb := hb
  have HW := Lib.hid (HW.out.trans (hbb.mono HW.out.size))
  have HT0 := Lib.hid (HT0.out.keep hbb)
  have HT1 := Lib.hid (HT1.out.keep hbb)
  clear hb hbb
  obtain ⟨qHT0_0, _, _, qHT0_1, qHT0_2⟩ := HT0.out
  obtain ⟨qHT1_0, _, _, qHT1_1, qHT1_2⟩ := HT1.out
  go_wp2_with fail
  go_ret
  exact ⟨rfl, HW.out⟩
theorem smB_true {n m : Nat} (h : smB n m = true) : n ≤ 100 ∧ m ≤ 100 := by
  unfold smB at h
  by_cases g1 : n ≤ 100
  · rw [decide_eq_true g1] at h
    exact ⟨g1, by simpa using h⟩
  · rw [decide_eq_false g1] at h; cases h
theorem smL_comm (p r q s : List Int) : smL q s p r = smL p r q s := by
  unfold smL
  rw [show decide (q = p) = decide (p = q) from decide_eq_decide.2 ⟨Eq.symm, Eq.symm⟩, show decide (s = r) = decide (r = s) from decide_eq_decide.2 ⟨Eq.symm, Eq.symm⟩]
theorem smL_bytes {p r q s : List Int} (h : sane p r = true) (k : sane q s = true) (hp : ∀ x ∈ p, 0 ≤ x ∧ x < 256) (hr : ∀ x ∈ r, 0 ≤ x ∧ x < 256) (hq : ∀ x ∈ q, 0 ≤ x ∧ x < 256) (hs : ∀ x ∈ s, 0 ≤ x ∧ x < 256) :
    ((strOfNums ([] ++ fnB p r)).toList == (strOfNums ([] ++ fnB q s)).toList) = smL p r q s := by
  obtain ⟨h1, h2, _⟩ := sane_parts h
  obtain ⟨k1, k2, _⟩ := sane_parts k
  rw [List.nil_append, List.nil_append, str_beq (fnB_byte h1 h2 hp hr) (fnB_byte k1 k2 hq hs)]
  unfold smL
  by_cases e1 : p = q
  · by_cases e2 : r = s
    · rw [decide_eq_true e1, decide_eq_true e2, decide_eq_true ((fnB_inj h k).2 ⟨e1, e2⟩)]; rfl
    · rw [decide_eq_true e1, decide_eq_false e2, decide_eq_false (fun e => e2 ((fnB_inj h k).1 e).2)]; rfl
  · rw [decide_eq_false e1, decide_eq_false (fun e => e1 ((fnB_inj h k).1 e).1)]; rfl
theorem one_law (a1 a2 b1 b2 : Option Addr) (n1 n2 m1 m2 c1 c2 d1 d2 : Nat) (z1 z2 y1 y2 : List Int) (w : World) (r1 : Leb.Came .u8 w a1 n1 c1 z1) (r2 : Leb.Came .u8 w a2 n2 c2 z2) (r3 : Leb.Came .u8 w b1 m1 d1 y1) (r4 : Leb.Came .u8 w b2 m2 d2 y2) :
    Calls Try.prog 7 #[.agg #[.slice a1 n1 c1, .slice a2 n2 c2], .agg #[.slice b1 m1 d1, .slice b2 m2 d2]] w fun e w' => e = .returned (.bool true) ∧ Below w.heap.size w w' := by
  obtain ⟨p1, _⟩ := came_parts r1
  obtain ⟨s1, g1⟩ := came_sl r1
  obtain ⟨p2, _⟩ := came_parts r2
  obtain ⟨s2, g2⟩ := came_sl r2
  obtain ⟨p3, _⟩ := came_parts r3
  obtain ⟨s3, g3⟩ := came_sl r3
  obtain ⟨p4, _⟩ := came_parts r4
  obtain ⟨s4, g4⟩ := came_sl r4
  revert s1 g1 p1 s2 g2 p2 s3 g3 p3 s4 g4 p4
  generalize z1.take n1 = p
  generalize z2.take n2 = r
  generalize y1.take m1 = q
  generalize y2.take m2 = s
  intro p1 s1 g1 p2 s2 g2 p3 s3 g3 p4 s4 g4
  have hA : ∀ W, Calls Try.prog 10 #[.agg #[.slice a1 n1 c1, .slice a2 n2 c2]] W fun e w' => e = .returned (.bool (smB n1 n2)) ∧ Below W.heap.size W w' := fun W => small_any a1 a2 n1 n2 c1 c2 W
  have hB : ∀ W, Calls Try.prog 10 #[.agg #[.slice b1 m1 d1, .slice b2 m2 d2]] W fun e w' => e = .returned (.bool (smB m1 m2)) ∧ Below W.heap.size W w' := fun W => small_any b1 b2 m1 m2 d1 d2 W
  cases hs1 : smB n1 n2 with
  | false => rw [hs1] at hA; exact one_big1 a1 a2 b1 b2 n1 n2 m1 m2 c1 c2 d1 d2 w hA
  | true =>
    rw [hs1] at hA
    obtain ⟨l1, l2⟩ := smB_true hs1
    cases hs2 : smB m1 m2 with
    | false => rw [hs2] at hB; exact one_big2 a1 a2 b1 b2 n1 n2 m1 m2 c1 c2 d1 d2 w hA hB
    | true =>
      rw [hs2] at hB
      obtain ⟨l3, l4⟩ := smB_true hs2
      have hPA : ∀ W, Below w.heap.size w W → Calls Try.prog 18 #[.slice none 0 0, .agg #[.slice a1 n1 c1, .slice a2 n2 c2]] W (PfIs [] p r W) := fun W hW => putFunc_any _ _ _ [] p r W (Sl.nil W) (s1.keep hW) (s2.keep hW) (by simp) (by omega) (by omega)
      have hPB : ∀ W, Below w.heap.size w W → Calls Try.prog 18 #[.slice none 0 0, .agg #[.slice b1 m1 d1, .slice b2 m2 d2]] W (PfIs [] q s W) := fun W hW => putFunc_any _ _ _ [] q s W (Sl.nil W) (s3.keep hW) (s4.keep hW) (by simp) (by omega) (by omega)
      have hNA : ∀ W, Below w.heap.size w W → Calls Try.prog 22 #[.agg #[.slice a1 n1 c1, .slice a2 n2 c2]] W fun e w' => e = .returned (.bool (sane p r)) ∧ Below W.heap.size W w' := fun W hW => sane_any _ _ p r W (s1.keep hW) (s2.keep hW) (by omega) (by omega)
      have hNB : ∀ W, Below w.heap.size w W → Calls Try.prog 22 #[.agg #[.slice b1 m1 d1, .slice b2 m2 d2]] W fun e w' => e = .returned (.bool (sane q s)) ∧ Below W.heap.size W w' := fun W hW => sane_any _ _ q s W (s3.keep hW) (s4.keep hW) (by omega) (by omega)
      unfold PfIs at hPA hPB
      cases h1 : sane p r with
      | false =>
        rw [h1] at hPA hNA
        cases h2 : sane q s with
        | false =>
          rw [h2] at hPB hNB
          exact one_ff a1 a2 b1 b2 n1 n2 m1 m2 c1 c2 d1 d2 w hA hB hPA hPB hNA hNB
        | true =>
          rw [h2] at hPB
          exact one_ft a1 a2 b1 b2 n1 n2 m1 m2 c1 c2 d1 d2 _ _ w hA hB hPA (fun W hW => (hPB W hW).mono fun e w' h => LaidE.t rfl h) hNA
      | true =>
        rw [h1] at hPA
        cases h2 : sane q s with
        | false =>
          rw [h2] at hPB hNB
          exact one_tf a1 a2 b1 b2 n1 n2 m1 m2 c1 c2 d1 d2 _ _ w hA hB (fun W hW => (hPA W hW).mono fun e w' h => LaidE.t rfl h) hPB hNB
        | true =>
          rw [h2] at hPB
          obtain ⟨q1, q2, _⟩ := sane_parts h1
          refine one_tt a1 a2 b1 b2 n1 n2 m1 m2 c1 c2 d1 d2 _ _ _ _ (smL p r q s) w hA hB (fun W hW => (hPA W hW).mono fun e w' h => LaidE.t rfl h) (fun W hW => (hPB W hW).mono fun e w' h => LaidE.t rfl h) (fun W hW => ?_) (fun W hW => ?_) (smL_bytes h1 h2 g1 g2 g3 g4) ⟨l1, l2⟩ ?_
          · exact same_any _ _ _ _ p r q s W (s1.keep hW) (s2.keep hW) (s3.keep hW) (s4.keep hW) g1 g2 g3 g4
          · have := same_any _ _ _ _ q s p r W (s3.keep hW) (s4.keep hW) (s1.keep hW) (s2.keep hW) g3 g4 g1 g2
            rwa [smL_comm] at this
          · rw [List.nil_append, fnB_len q1 q2, p1, p2]
end Go.Proofs.Ytnminpbnlcgblaa.Typ
