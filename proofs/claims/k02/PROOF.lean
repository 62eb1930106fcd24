import PyProof.Rows.All
import Wide.All
import OpenK.AllK
import Wide.FinOn
import PySem.Challenge.RW_readorder_k02_cells_and_values
import HandS.ForMost
import HandS.IsInst
import HandS.TupAny
import KE.SortData
import KE.KDictPairs
import PyProof.ReprRoads
import HandS.More
import HandS.SetBool
import HandS.SetKeys
import HandS.SetTxt0
set_option Elab.async false
set_option linter.all false
set_option maxRecDepth 100000
set_option maxHeartbeats 4000000
section
set_option Elab.async false
set_option linter.all false
set_option maxRecDepth 100000
set_option maxHeartbeats 4000000
namespace L2.Rx
open PySem PySem.Spec PyProof.Rows

/-! ### readings, step by step -/
section
variable {σ : St} {H : Hp} {Q : VK} {nx : St → Hp → Prop} {rt : VK} {bk ct : St → Hp → Prop} {D : Ends} {E : XK} {K : PySem.W.Frag}
theorem r_seq {t u : TS} (h : t ⟨u ⟨nx, rt, bk, ct⟩, rt, bk, ct⟩ σ H) : tSeq t u ⟨nx, rt, bk, ct⟩ σ H := h
theorem r_next (h : nx σ H) : tNext ⟨nx, rt, bk, ct⟩ σ H := h
theorem r_if {c : TT} {t u : TS} (h : c σ H fun b H1 => if b = true then t D σ H1 else u D σ H1) : tIfS c t u D σ H := h
theorem r_ret {te : TE} (h : te σ H rt) : tRet te ⟨nx, rt, bk, ct⟩ σ H := h
theorem r_asg {te : TE} {g : TG} (h : te σ H fun x H1 => g x σ H1 nx) : tAsg te g ⟨nx, rt, bk, ct⟩ σ H := h
theorem r_drop {te : TE} (h : te σ H fun _ H1 => nx σ H1) : tDrop te ⟨nx, rt, bk, ct⟩ σ H := h
theorem r_gname {i : Nat} {v : V} {Q : St → Hp → Prop} (h : Q (σ.set i (some v)) H) : gName i v σ H Q := h
theorem r_gsub {to ti : TE} {t : TSet} {v : V} {Q : St → Hp → Prop} (h : to σ H fun o H1 => ti σ H1 fun i H2 => t o i v H2 fun H3 => Q σ H3) : gSub to ti t v σ H Q := h
theorem r_par {i j : Nat} {ta : TA} (h : ta σ H fun vs H1 => ∃ v w, vs = [v, w] ∧ nx ((σ.set i (some v)).set j (some w)) H1) : tPar i j ta ⟨nx, rt, bk, ct⟩ σ H := h
theorem r_par2 {v w : V} {q : V → V → Prop} (h : q v w) : ∃ v' w', [v, w] = [v', w'] ∧ q v' w' := ⟨v, w, rfl, h⟩
theorem r_var {i : Nat} {v : V} (e : σ[i]? = some (some v)) (h : Q v H) : tVar i σ H Q := ⟨v, e, h⟩
theorem r_c {v : V} (h : Q v H) : tC v σ H Q := h
theorem r_op {r : R2} {ta tb : TE} (h : ta σ H fun x H1 => tb σ H1 fun y H2 => r x y H2 Q) : tOp r ta tb σ H Q := h
theorem r_un {r : V → Hp → VK → Prop} {ta : TE} (h : ta σ H fun x H1 => r x H1 Q) : tUn r ta σ H Q := h
theorem r_test {t : TE} {Q : Bool → Hp → Prop} (h : t σ H fun x H' => ∃ k, x = .bl k ∧ Q k H') : tTest t σ H Q := h
theorem r_tb {t : TE} {Q : Bool → Hp → Prop} (h : t σ H fun x H1 => ∃ c, x = .bl c ∧ Q c H1) : tB t σ H Q := h
theorem r_bl {k : Bool} {q : Bool → Prop} (h : q k) : ∃ k', V.bl k = V.bl k' ∧ q k' := ⟨k, rfl, h⟩
theorem r_and {t u : TT} {Q : Bool → Hp → Prop} (h : t σ H fun c H1 => if c = true then u σ H1 Q else Q false H1) : tAnd t u σ H Q := h
theorem r_or {t u : TT} {Q : Bool → Hp → Prop} (h : t σ H fun c H1 => if c = true then Q true H1 else u σ H1 Q) : tOr t u σ H Q := h
theorem r_not {t : TT} {Q : Bool → Hp → Prop} (h : t σ H fun c H1 => Q (!c) H1) : tNot t σ H Q := h
theorem r_andV {ta tb : TE} (h : ta σ H fun x H1 => ∃ c, x = .bl c ∧ if c = true then tb σ H1 Q else Q (.bl false) H1) : tAndV ta tb σ H Q := h
theorem r_orV {ta tb : TE} (h : ta σ H fun x H1 => ∃ c, x = .bl c ∧ if c = true then Q (.bl true) H1 else tb σ H1 Q) : tOrV ta tb σ H Q := h
theorem r_notV {ta : TE} (h : ta σ H fun x H1 => ∃ c, x = .bl c ∧ Q (.bl (!c)) H1) : tNotV ta σ H Q := h
theorem r_ifx {t : TT} {ta tb : TE} (h : t σ H fun c H1 => if c = true then ta σ H1 Q else tb σ H1 Q) : tIf t ta tb σ H Q := h
theorem r_chain {r r' : R2} {ta tb tc : TE} (h : ta σ H fun x H1 => tb σ H1 fun y H2 => r x y H2 fun z H3 => ∃ k, z = .bl k ∧ (if k = true then tc σ H3 fun w' H4 => r' y w' H4 Q else Q (.bl false) H3)) : tChain r r' ta tb tc σ H Q := h
theorem r_nil {Q : List V → Hp → Prop} (h : Q [] H) : tNil σ H Q := h
theorem r_cons {ta : TE} {tr : TA} {Q : List V → Hp → Prop} (h : ta σ H fun x H1 => tr σ H1 fun xs H2 => Q (x :: xs) H2) : tCons ta tr σ H Q := h
theorem r_tup {t : TA} (h : t σ H fun xs H1 => xs.length ≤ sizeLine ∧ ∀ p, H1 p = none → Q (.ref p) (upd H1 p (.tup xs))) : tTup t σ H Q := h
theorem r_lst {t : TA} (h : t σ H fun xs H1 => xs.length ≤ sizeLine ∧ ∀ p, H1 p = none → Q (.ref p) (upd H1 p (.lst xs))) : tLst t σ H Q := h
theorem r_call {sp : Sp} {dvs : List V} {t : TA} (h : t σ H fun vs H1 => sp (vs ++ dvs) H1 Q E) : tCall sp dvs E t σ H Q := h
theorem r_cb {r : List V → Hp → VK → Prop} {t : TA} (h : t σ H fun vs H1 => r vs H1 Q) : tCB r t σ H Q := h
theorem r_sl {r : V → Option Int → Option Int → Hp → VK → Prop} {te : TE} {tl th : TO} (h : te σ H fun x H1 => tl σ H1 fun l H2 => th σ H2 fun u H3 => r x l u H3 Q) : tSl r te tl th σ H Q := h
theorem r_nopart {Q : Option Int → Hp → Prop} (h : Q none H) : tNoPart σ H Q := h
theorem r_part {t : TE} {Q : Option Int → Hp → Prop} (h : t σ H fun x H1 => ∃ i, x = .int i ∧ Q (some i) H1) : tPart t σ H Q := h
theorem r_exint {k : Int} {q : Int → Prop} (h : q k) : ∃ i, V.int k = V.int i ∧ q i := ⟨k, rfl, h⟩
theorem r_bm0 {T : String} {r : V → List V → Hp → VK → Prop} {to : TE} (h : to σ H fun x H1 => tyV K T x H1 ∧ r x [] H1 Q) : tBM0 K T r to σ H Q := h
theorem r_bm {T : String} {r : V → List V → Hp → VK → Prop} {to : TE} {t : TA} (h : to σ H fun x H1 => tyV K T x H1 ∧ t σ H1 fun xs H2 => r x xs H2 Q) : tBM K T r to t σ H Q := h
/-! values -/
theorem r_rI0 {g : Int → Int → V} {i j : Int} (h : Q (g i j) H) : rI0 g (.int i) (.int j) H Q := ⟨i, j, rfl, rfl, h⟩
theorem r_rI {C : Int → Int → Prop} {g : Int → Int → V} {i j : Int} (c : C i j) (h : Q (g i j) H) : rI C g (.int i) (.int j) H Q := ⟨i, j, rfl, rfl, c, h⟩
theorem r_rU {g : Int → V} {i : Int} (h : Q (g i) H) : rU g (.int i) H Q := ⟨i, rfl, h⟩
theorem r_rEq {x y : V} (s : scal x y = true) (h : Q (.bl (decide (x = y))) H) : rEq x y H Q := ⟨s, h⟩
theorem r_rNe {x y : V} (s : scal x y = true) (h : Q (.bl (!decide (x = y))) H) : rNe x y H Q := ⟨s, h⟩
theorem r_ixL {p : Addr} {xs : List V} {i : Int} {v : V} (h : SqL K H p xs) (a : atI xs i = some v) (q : Q v H) : rIxL K (.ref p) (.int i) H Q := ⟨p, xs, i, v, rfl, rfl, h, a, q⟩
theorem r_ixLh {p : Addr} {xs : List V} {i : Int} {v : V} (h : H p = some (.lst xs)) (a : atI xs i = some v) (q : Q v H) : rIxL K (.ref p) (.int i) H Q := ⟨p, xs, i, v, rfl, rfl, .inl (.inl h), a, q⟩
theorem r_ixTh {p : Addr} {xs : List V} {i : Int} {v : V} (h : H p = some (.tup xs)) (a : atI xs i = some v) (q : Q v H) : rIxT K (.ref p) (.int i) H Q := ⟨p, xs, i, v, rfl, rfl, .inl (.inl h), a, q⟩
theorem r_setL {p : Addr} {xs : List V} {k : Int} {j : Nat} {v : V} {Q : Hp → Prop} (h : H p = some (.lst xs)) (e : ixN xs.length k = some j) (q : Q (upd H p (.lst (xs.set j v)))) : rSetL (.ref p) (.int k) v H Q := ⟨p, xs, k, j, rfl, rfl, h, e, q⟩
theorem r_new {xs : List V} {q : Addr → Prop} (e : Nat.ble xs.length 1000 = true) (h : ∀ p, H p = none → q p) : xs.length ≤ sizeLine ∧ ∀ p, H p = none → q p := ⟨Nat.le_of_lt (small1000 (Nat.le_of_ble_eq_true e)), h⟩
theorem r_wipe {a b c d} {A : Prop} (e : wipe a b = wipe c d) (h : A) : wipe a b = wipe c d ∧ A := ⟨e, h⟩
theorem r_tyL {l : Addr} {xs : List V} {A : Prop} (e : H l = some (.lst xs)) (h : A) : tyV K "list" (.ref l) H ∧ A := ⟨.inl ⟨rfl, xs, .inl (.inl e)⟩, h⟩
theorem r_powx {i j v : Int} (e : (Nat.ble j.natAbs 1000000 && decide (0 ≤ j) && decide (i.natAbs < 2 ^ 64)) = true) (e2 : i ^ j.toNat = v) (q : Q (.int v) H) : rI CPow (fun i j => .int (i ^ j.toNat)) (.int i) (.int j) H Q := by
  subst e2
  simp only [Bool.and_eq_true, decide_eq_true_eq] at e
  exact ⟨i, j, rfl, rfl, ⟨e.1.2, by have := Nat.le_of_ble_eq_true e.1.1; omega, e.2⟩, q⟩
theorem r_app0 {l : Addr} {xs : List V} {y : V} (h : H l = some (.lst xs)) (z : xs.length < 1000000) (q : Q .non (upd H l (.lst (xs ++ [y])))) : rAppend (.ref l) [y] H Q :=
  ⟨l, xs, y, rfl, rfl, h, by rw [sizeLine_eq]; omega, q⟩
/-! tests -/
theorem r_ite {p A B : Prop} [Decidable p] (h1 : p → A) (h2 : ¬ p → B) : if decide p = true then A else B := by
  by_cases h : p
  · rw [if_pos (decide_eq_true h)]; exact h1 h
  · rw [if_neg (by simp [h])]; exact h2 h
theorem r_itn {p A B : Prop} [Decidable p] (h1 : ¬ p → A) (h2 : p → B) : if (!decide p) = true then A else B := by
  by_cases h : p
  · rw [if_neg (by simp [h])]; exact h2 h
  · rw [if_pos (by simp [h])]; exact h1 h
theorem r_itb {b : Bool} {A B : Prop} (h1 : b = true → A) (h2 : b = false → B) : if b = true then A else B := by
  cases b
  · rw [if_neg Bool.false_ne_true]; exact h2 rfl
  · rw [if_pos rfl]; exact h1 rfl
end

/-! letters -/
section
variable {σ : St} {H : Hp} {Q : VK} {K : PySem.W.Frag}
/-- % hands on a letter -/
theorem r_mod {i j : Int} (h : 0 < j) (q : ∀ r : Int, 0 ≤ r → r < j → Q (.int r) H) : rI (fun _ j => 0 < j) (fun i j => .int (i % j)) (.int i) (.int j) H Q :=
  ⟨i, j, rfl, rfl, h, q _ (Int.emod_nonneg _ (by omega)) (Int.emod_lt_of_pos _ h)⟩
theorem r_modx {i j : Int} (h : 0 < j) (q : Q (.int (i % j)) H) : rI (fun _ j => 0 < j) (fun i j => .int (i % j)) (.int i) (.int j) H Q := ⟨i, j, rfl, rfl, h, q⟩
/-- // by a positive divisor hands on a letter -/
theorem r_div {i j : Int} (h0 : 0 ≤ i) (h : 0 < j) (h1 : j < 1073741824) (q : ∀ r : Int, 0 ≤ r → r ≤ i → Q (.int r) H) : rI CDiv (fun i j => .int (i / j)) (.int i) (.int j) H Q :=
  ⟨i, j, rfl, rfl, ⟨h, h1⟩, q _ (Int.ediv_nonneg h0 (by omega)) (Int.ediv_le_self _ h0)⟩
theorem r_mul {i j : Int} (c : (-(2 ^ 64) < i ∧ i < 2 ^ 64) ∨ (-(2 ^ 64) < j ∧ j < 2 ^ 64)) (q : Q (.int (i * j)) H) : rI CMul (fun i j => .int (i * j)) (.int i) (.int j) H Q := ⟨i, j, rfl, rfl, c, q⟩
theorem r_pow {i j : Int} (h0 : 0 ≤ j) (h1 : j ≤ 1000000) (c : i.natAbs < 2 ^ 64) (q : Q (.int (i ^ j.toNat)) H) : rI CPow (fun i j => .int (i ^ j.toNat)) (.int i) (.int j) H Q := ⟨i, j, rfl, rfl, ⟨h0, h1, c⟩, q⟩
theorem atI_int {xs : List V} {i : Int} (h0 : 0 ≤ i) (h1 : i < xs.length) : ∃ v, atI xs i = some v ∧ v ∈ xs := by
  obtain ⟨k, rfl⟩ : ∃ k : Nat, i = (k : Int) := ⟨i.toNat, by omega⟩
  have hk : k < xs.length := by omega
  exact ⟨xs[k], atI_nat (List.getElem?_eq_getElem hk), List.getElem_mem hk⟩
theorem r_pickL {p : Addr} {xs : List V} {i : Int} (h : H p = some (.lst xs)) (h0 : 0 ≤ i) (h1 : i < xs.length) (q : ∀ v ∈ xs, Q v H) : rIxL K (.ref p) (.int i) H Q := by
  obtain ⟨v, e, m⟩ := atI_int h0 h1
  exact r_ixLh h e (q v m)
end
/-- what was tracked stands as it stood, but at S -/
def Kp (S : List Addr) (H H' : Hp) : Prop := ∀ a o, a ∉ S → H a = some o → H' a = some o
theorem Kp.refl {S : List Addr} {H : Hp} : Kp S H H := fun _ _ _ h => h
theorem Kp.trans {S : List Addr} {H H1 H2 : Hp} (a : Kp S H H1) (b : Kp S H1 H2) : Kp S H H2 := fun c o n h => b c o n (a c o n h)
theorem Kp.put {H : Hp} {b : Addr} {o : HO} : Kp [b] H (upd H b o) := fun a u n h => by
  rw [upd_ne (by simpa using n)]
  exact h
theorem Kp.new {S : List Addr} {H : Hp} {b : Addr} {o : HO} (n : H b = none) : Kp S H (upd H b o) := fun a u _ h => by
  rw [upd_ne (ne_of_none h n)]
  exact h
theorem Kp.mono {S T : List Addr} {H H' : Hp} (k : Kp S H H') (h : ∀ a ∈ S, a ∈ T) : Kp T H H' := fun a o n e => k a o (fun z => n (h a z)) e
theorem Kp.at1 {b a : Addr} {H H' : Hp} {o : HO} (k : Kp [b] H H') (n : a ≠ b) (e : H a = some o) : H' a = some o := k a o (by simpa using n) e
theorem Kp.at0 {a : Addr} {H H' : Hp} {o : HO} (k : Kp [] H H') (e : H a = some o) : H' a = some o := k a o (by simp) e
end L2.Rx

end
section
set_option Elab.async false
set_option linter.all false
set_option maxRecDepth 100000
set_option maxHeartbeats 4000000
local macro_rules | `(tactic| walk_at "rd1") => `(tactic| with_reducible first
  | refine L2.Rx.r_seq ?_ | refine L2.Rx.r_asg ?_ | refine L2.Rx.r_gname ?_ | refine L2.Rx.r_op ?_ | refine L2.Rx.r_c ?_
  | refine L2.Rx.r_var rfl ?_
  | refine L2.Rx.r_rI0 ?_ | refine L2.Rx.r_test ?_ | refine L2.Rx.r_bl ?_ | refine L2.Rx.r_if ?_ | refine L2.Rx.r_ret ?_
  | refine L2.Rx.r_cons ?_ | refine L2.Rx.r_nil ?_ | refine L2.Rx.r_call ?_ | refine L2.Rx.r_cb ?_ | refine L2.Rx.r_next ?_ | refine L2.Rx.r_drop ?_
  | refine L2.Rx.r_gsub ?_ | refine L2.Rx.r_tupF ?_ | refine L2.Rx.r_lst ?_ | refine L2.Rx.r_par ?_ | refine L2.Rx.r_par2 ?_
  | refine L2.Rx.r_un ?_ | refine L2.Rx.r_tb ?_ | refine L2.Rx.r_and ?_ | refine L2.Rx.r_or ?_ | refine L2.Rx.r_not ?_
  | refine L2.Rx.r_andV ?_ | refine L2.Rx.r_orV ?_ | refine L2.Rx.r_notV ?_ | refine L2.Rx.r_ifx ?_ | refine L2.Rx.r_chain ?_
  | refine L2.Rx.r_sl ?_ | refine L2.Rx.r_nopart ?_ | refine L2.Rx.r_part ?_ | refine L2.Rx.r_exint ?_ | refine L2.Rx.r_bm0 ?_ | refine L2.Rx.r_bm ?_
  | refine L2.Rx.r_lc ?_ | refine L2.Rx.r_rng1 ?_ | refine L2.Rx.r_yes ?_ | refine L2.Rx.r_tt ?_ | refine L2.Rx.r_ff ?_ | refine L2.Rx.r_m1 ?_ | refine L2.Rx.r_m0 ?_ | refine L2.Rx.r_isS ?_
  | (refine L2.Rx.r_wipe (by with_unfolding_all rfl) ?_) | (refine L2.Rx.r_tyL (by walk_at "hp") ?_)
  | refine L2.Rx.r_addS (by walk_at "len") ?_ | refine L2.Rx.r_lenS (by walk_at "len") ?_ | refine L2.Rx.r_slS (by walk_at "len") ?_
  | refine L2.Rx.r_dnotin ?_ | refine L2.Rx.r_dget ?_ | refine L2.Rx.r_dget1 ?_ | refine L2.Rx.r_dput ?_ | refine L2.Rx.r_dpop1 ?_ | refine L2.Rx.r_isN ?_
  | refine L2.Rx.r_for ?_ | refine L2.Rx.r_ilist ?_ | refine L2.Rx.r_itup ?_
  | refine L2.Rx.r_gcons ?_ | refine L2.Rx.r_gnil ?_ | (refine L2.Rx.r_gtupP (by assumption) (by walk_at "at") ?_)
  | (refine L2.Rx.r_rEq rfl ?_) | (refine L2.Rx.r_rNe rfl ?_)
  | refine L2.Rx.r_rU ?_ | refine L2.Rx.r_max2 ?_ | refine L2.Rx.r_min2 ?_ | refine L2.Rx.r_int1i ?_ | (refine L2.Rx.r_lenh (by walk_at "hp") ?_)
  | (refine L2.Rx.r_ixLh (by walk_at "hp") (by walk_at "at") ?_)
  | (refine L2.Rx.r_setL (by walk_at "hp") (by walk_at "at") ?_))
local macro_rules | `(tactic| walk_at "at") => `(tactic| with_unfolding_all rfl)
local macro_rules | `(tactic| walk_at "rd") => `(tactic| (repeat walk_at "rd1"))
local macro_rules | `(tactic| walk_at "hp") => `(tactic| first
  | assumption
  | exact L2.upd_same
  | (refine Eq.trans (L2.upd_ne ?_) ?_; (focus walk_at "ne"); (focus walk_at "hp"))
  | (refine L2.Rx.Kp.at0 (by assumption) ?_; walk_at "hp")
  | (refine L2.Rx.Kp.at1 (by assumption) ?_ ?_; (focus walk_at "ne"); (focus walk_at "hp")))
local macro_rules | `(tactic| walk_at "ne") => `(tactic| first
  | assumption | exact Ne.symm (by assumption)
  | (refine L2.ne_of_none (H := ?nH) (o := ?nO) ?nh ?nn; (case nn => assumption); (case nh => walk_at "hp"))
  | (refine Ne.symm (L2.ne_of_none (H := ?nH) (o := ?nO) ?nh ?nn); (case nn => assumption); (case nh => walk_at "hp")))
local macro_rules | `(tactic| walk_at "len") => `(tactic| (rw [PySem.sizeLine_eq]; omega))
local macro_rules | `(tactic| walk_at "nin") => `(tactic| first
  | exact List.not_mem_nil
  | (refine L2.Rx.nin1 ?_; walk_at "ne"))
local macro_rules | `(tactic| walk_at "none") => `(tactic| first
  | assumption
  | (refine L2.Rx.Kp.none0 (by assumption) ?_ ?_; (focus walk_at "nin"); (focus walk_at "none")))
namespace L2.Rx
open PySem PySem.Spec PyProof.Rows
/-! ### defs called where no repr is under way -/
structure RoomG (k : Nat) (A : Around) : Prop where
  up : Room k A
  gd : A.guards = some []
theorem RoomG.mono {j k : Nat} {A : Around} (r : RoomG k A) (h : j ≤ k) : RoomG j A := ⟨r.up.mono h, r.gd⟩
theorem RoomG.units {k : Nat} {A : Around} (r : RoomG k A) : A.units + 64 < cLine := r.up.units
theorem RoomG.hu {k : Nat} {A : Around} (r : RoomG k A) : A.units + 1 < cLine := hu_of r.up
/-- FnOk, asked where no repr is under way -/
structure FnG (P : Program) (w : World) (K : PySem.W.Frag) (mg : Str → Option Value) (base : Heap) (CX : CXT) (k : Nat) (f : Addr) (fd : FuncData) (ps : List Str) (sp : Sp) : Prop where
  len : ∀ vs H Q E, sp vs H Q E → vs.length = ps.length
  run : ∀ (A : Around) (outer : List Env) (s : Shared) (H : Hp) (args : Args) (us : List Value) (vs : List V) (Q : VK) (E : XK), RoomG k A → Env0 P w K mg base A outer s H →
    BindsTo s fd args (ps.zip us) → Vals vs us → sp vs H Q E → codeAny (model P w) A (.call (.ref f) args) (CR CX outer P w H s Q E) s
section
variable {P : Program} {w : World} {K : PySem.W.Frag} {mg : Str → Option Value} {base : Heap} {CX : CXT}
theorem fnG_body {x qual : Str} {st : Stmt} {f : Addr} {fd : FuncData} {N ps : List Str} {k : Nat} {sp : Sp} (F : Fun K x qual st f fd) (S : FnScope N ps (defScope st)) (len : ∀ vs H Q E, sp vs H Q E → vs.length = ps.length)
    (bd : ∀ (cdv : Value) (A : Around) (outer : List Env) (s : Shared) (H : Hp) (vs : List V) (Q : VK) (E : XK), RoomG k (A.deeper (envOfC qual (defScope st) s.heap.objs.size f cdv)) → sp vs H Q E →
      ∃ t, PSs (cxOf CX P w K mg base N qual (defScope st) f cdv A outer s H E) (defBody st) t ∧ t ⟨fun _ H' => Q .non H', Q, fun _ _ => False, fun _ _ => False⟩ (start N vs) H) : FnG P w K mg base CX (k + 1) f fd ps sp := by
  obtain ⟨oc, od, kV, doc, pm, an, cdv, ct, osl, rfl, lk, hcd⟩ := F.ex
  constructor
  · exact len
  intro A outer s H args us vs Q E room env bind rel want
  have kept : ∀ b o, base.get? b = some o → s.heap.get? b = some o := fun b o e => (env.bs b o e).1
  have KX : K.In s.heap := env.mod.kin.keeps kept
  have places : ∀ y ∈ ps.zip us, (defScope st).names.lookup y.1 = some .local ∨ ((defScope st).names.lookup y.1 = some .cell ∧ ((cellsFrom (s.heap.objs.size + 1) (defScope st).names []).lookup y.1).isSome = true) := by
    intro y hy
    cases S.par y.1 (List.of_mem_zip (show (y.1, y.2) ∈ ps.zip us from hy)).1 with
    | inl q => exact .inl q
    | inr q => exact .inr ⟨q, PySem.W.cellsFrom_some _ _ _ (.inl q)⟩
  refine codeAny_call_function (fd := PySem.W.fnOf x qual (defArgs st) (defBody st) (defScope st) .none kV doc pm an cdv ct) room.up.depth (KX _ _ lk) rfl S.co S.gen rfl (PySem.W.codeRec_of KX hcd) (bind _ _ _ _ ?_)
  refine wpAny_newFunctionEnv_cells S.kind places fun e he s1 entered => ?_
  cases he
  have lim : s.heap.NoLimit := env.mod.nolimit.keeps kept
  refine ⟨lim.keeps entered.toInCall.keep, codeAny_func ?_⟩
  obtain ⟨t, der, rd⟩ := bd cdv A outer s H vs Q E ⟨room.up.deeper _, room.gd⟩ want
  have I0 := inv_start (CX := CX) (qual := qual) (E := E) S room.up.hd env (len _ _ _ _ want) rel entered
  refine wpAny_mono (der.run [] s1 (start N vs) H _ I0 rd) ?_ (fun _ _ z => z)
  intro fl s' out
  cases fl with
  | ret u => obtain ⟨v, σ', H', J, rv, q⟩ := out; exact ⟨v, H', J.os, J.bare, J.base, J.hok, rv, q⟩
  | next => obtain ⟨σ', H', J, q⟩ := out; exact ⟨.non, H', J.os, J.bare, J.base, J.hok, rfl, q⟩
  | brk => obtain ⟨_, _, _, q⟩ := out; exact q.elim
  | cont => obtain ⟨_, _, _, q⟩ := out; exact q.elim
end
section
variable {X : Cx} {CX : CXT} {k : Nat} {f : Addr} {fd : FuncData} {ps ks : List Str} {sp : Sp} {E : XK} {x : Str} {p pos : Pos} {e : Expr} {es : List Expr} {kws : List Keyword} {t tk : TA}
theorem callG {pins : List (Addr × Obj)} {σ : St} {H : Hp} {s : Shared} {Q : VK} {args : Args} {us : List Value} {vs : List V} (F : FnG X.prog X.w X.K X.mg X.base CX k f fd ps sp) (hr : RoomG k X.A) (hx : Passes CX X E)
    (I : Inv X pins σ H s) (hb : us.length = ps.length → BindsTo s fd args (ps.zip us)) (r : Vals vs us) (h : sp vs H Q E) : wpAny (model X.prog X.w) X.A (call (.ref f) args.pos args.kw) (EP X pins σ Q) X.xe s := by
  have hl : us.length = ps.length := r.length.symm.trans (F.len _ _ _ _ h)
  refine wpAny_call (codeAny_mono (F.run X.A X.stack s H args us vs Q E hr I.env0 (hb hl) r h) ?_)
  intro res s' out
  cases res with
  | error err => exact hx pins σ H s err s' I out
  | ok fl =>
    cases fl with
    | ret u => exact I.after out
    | _ => exact False.elim out
end
/-- a def of the module that may be called by its name -/
structure Kn (P : Program) (w : World) (K : PySem.W.Frag) (mg : Str → Option Value) (base : Heap) (CX : CXT) (k : Nat) (x : Str) (sp : Sp) : Prop where
  ex : ∃ (f : Addr) (fd : FuncData) (ps : List Str), FnG P w K mg base CX k f fd ps sp ∧ mg x = some (.ref f) ∧ PySem.W.keepIn K (.ref f) = true ∧ Binds K fd ps []
/-- .. with all its arguments by name, in the order ks; g: the parameters' order -/
structure KnK (P : Program) (w : World) (K : PySem.W.Frag) (mg : Str → Option Value) (base : Heap) (CX : CXT) (k : Nat) (x : Str) (ks : List Str) (g : List V → List V) (sp : Sp) : Prop where
  ex : ∃ (f : Addr) (fd : FuncData) (ps : List Str) (gv : List Value → List Value), FnG P w K mg base CX k f fd ps sp ∧ mg x = some (.ref f) ∧ PySem.W.keepIn K (.ref f) = true ∧
    (∀ (s : Shared) (ws : List Value), K.In s.heap → (gv ws).length = ps.length → BindsTo s fd ⟨[], ks.zip ws⟩ (ps.zip (gv ws))) ∧ ∀ (zs : List V) (ws : List Value), Vals zs ws → Vals (g zs) (gv ws)
def tKw (g : List V → List V) (sp : Sp) (E : XK) (t : TA) : TE := fun σ H Q => t σ H fun vs H1 => sp (g vs) H1 Q E
theorem r_kw {g : List V → List V} {sp : Sp} {E : XK} {t : TA} {σ : St} {H : Hp} {Q : VK} (h : t σ H fun vs H1 => sp (g vs) H1 Q E) : tKw g sp E t σ H Q := h
section
variable {X : Cx} {CX : CXT} {k j : Nat} {sp : Sp} {E : XK} {x : Str} {p pos : Pos} {e : Expr} {es : List Expr} {t : TA}
theorem Kn.callX (c : Kn X.prog X.w X.K X.mg X.base CX k x sp) (hr : RoomG j X.A) (hk : k ≤ j) (hx : Passes CX X E) (hg : Gl X x) (ha : PA X (e :: es) t)
    (hdb : (x == ("__debug__" : Str)) = false := by decide) (he : starEach (e :: es) X.env = (false, eval e X.env) :: starEach es X.env := by rfl) (hpl : (backTo pos (starEach es X.env)).any (·.1) = false := by rfl) :
    PE X (.Call (.Name x p) (e :: es) [] pos) (tCall sp [] E t) := by
  obtain ⟨f, fd, ps, F, hm, kp, b⟩ := c.ex
  constructor
  intro pins s σ H Q I h
  refine wpAny_Call_Name_kw (ld_glob I hg hm ?_ hdb)
  refine PySem.W.callWith_K (h₀ := X.base) I.ok.mod.kin kp (thn (ha.run pos pins s σ H _ I h) ?_) he hpl
  rintro us s1 ⟨vs, H1, I1, r, q⟩
  refine ⟨I1.kIn, callG (args := ⟨us, []⟩) (us := us) F (hr.mono hk) hx I1 (fun hl => ?_) r (by rw [List.append_nil] at q; exact q)⟩
  have := b s1 us I1.kIn (by rw [List.append_nil]; exact hl)
  rw [List.append_nil] at this
  exact this
end
section
variable {X : Cx} {k j : Nat} {sp : Sp} {x : Str} {p pos : Pos} {e : Expr} {es : List Expr} {t : TA}
theorem Kn.call (c : Kn X.prog X.w X.K X.mg X.base CX0 k x sp) (hr : RoomG j X.A) (hk : k ≤ j) (hg : Gl X x) (ha : PA X (e :: es) t)
    (hdb : (x == ("__debug__" : Str)) = false := by decide) (he : starEach (e :: es) X.env = (false, eval e X.env) :: starEach es X.env := by rfl) (hpl : (backTo pos (starEach es X.env)).any (·.1) = false := by rfl) :
    PE X (.Call (.Name x p) (e :: es) [] pos) (tCall sp [] E0 t) := c.callX hr hk pass0 hg ha hdb he hpl
theorem Kn.mono {P : Program} {w : World} {K : PySem.W.Frag} {mg : Str → Option Value} {base : Heap} {CX : CXT} (c : Kn P w K mg base CX k x sp) (h : k ≤ j) : Kn P w K mg base CX j x sp := by
  obtain ⟨f, fd, ps, F, r⟩ := c.ex
  exact ⟨f, fd, ps, ⟨F.len, fun A outer s H args us vs Q E hr => F.run A outer s H args us vs Q E (hr.mono h)⟩, r⟩
end
/-! ### repr of data -/
def rRepr (K : PySem.W.Frag) : List V → Hp → VK → Prop := fun xs H Q => ∃ (v : V) (d : PyData), xs = [v] ∧ Dp K H v d ∧ d.showable = true ∧ d.depth ≤ 60 ∧ d.shown.length ≤ sizeLine ∧ Q (.str d.shown) H
theorem Dp.noDict {K : PySem.W.Frag} {H : Hp} : ∀ (d : PyData) (v : V), Dp K H v d → d.hasDict = false := by
  intro d v h
  exact Dp.rec (motive_1 := fun _ d _ => d.hasDict = false) (motive_2 := fun _ ds _ => PyData.hasDictAll ds = false) (by simp [PyData.hasDict]) (fun _ => by simp [PyData.hasDict]) (fun _ => by simp [PyData.hasDict]) (fun _ => by simp [PyData.hasDict])
    (fun _ _ ih => by simpa [PyData.hasDict] using ih) (fun _ _ ih => by simpa [PyData.hasDict] using ih) (by simp [PyData.hasDictAll]) (fun _ _ i1 i2 => by simp [PyData.hasDictAll, i1, i2]) h
theorem call_repr {X : Cx} {k : Nat} (hr : RoomG k X.A) : CallR X (.builtin "repr") (rRepr X.K) := by
  intro pins s σ H xs us Q I r h
  obtain ⟨v, d, rfl, hd, hs, hdp, hz, q⟩ := h
  obtain ⟨u, rfl, ru⟩ := vals1 r
  obtain ⟨as, rd⟩ := Dp.reads I d v u hd ru
  have nd := Dp.noDict d v hd
  have hu : X.A.units + (d.depth + 1) < cLine := by have := hr.units; omega
  have fin : ∀ h' t tk, (∀ b o, s.heap.get? b = some o → h'.get? b = some o) → EP X pins σ Q (.str d.shown t) { s with heap := h', toks := tk } := fun h' t tk hk =>
    ⟨.str d.shown, H, I.kept hk, ⟨t, rfl⟩, q⟩
  cases hd with
  | lst _ _ => cases ru; exact repr_of_reads' rd hs (PyData.noDict_hsm nd) hr.gd hu (fun _ _ e => e) fin hz
  | tup _ _ => cases ru; exact repr_of_reads' rd hs (PyData.noDict_hsm nd) hr.gd hu (fun _ _ e => e) fin hz
  | non => cases ru; exact PySem.P.repr_of_none ⟨.str _, H, I.tok _, ⟨_, rfl⟩, by simpa [PyData.shown] using q⟩
  | bl b => cases ru; exact PySem.P.repr_of_bool ⟨.str _, H, I.tok _, ⟨_, rfl⟩, by simpa [PyData.shown] using q⟩
  | int i => obtain ⟨t, rfl⟩ := ru; exact PySem.P.repr_of_int (by simpa [PyData.showable] using hs) ⟨.str _, H, I.tok _, ⟨_, rfl⟩, by simpa [PyData.shown] using q⟩
  | str y => obtain ⟨t, rfl⟩ := ru; exact PySem.P.repr_of_str ⟨.str _, H, I.tok _, ⟨_, rfl⟩, by simpa [PyData.shown] using q⟩ (by simpa [PyData.shown] using hz)
end L2.Rx

end
section
set_option Elab.async false
set_option linter.all false
set_option maxRecDepth 100000
set_option maxHeartbeats 4000000
local macro_rules | `(tactic| walk_at "rd1") => `(tactic| with_reducible first
  | refine L2.Rx.r_seq ?_ | refine L2.Rx.r_asg ?_ | refine L2.Rx.r_gname ?_ | refine L2.Rx.r_op ?_ | refine L2.Rx.r_c ?_
  | refine L2.Rx.r_var rfl ?_
  | refine L2.Rx.r_rI0 ?_ | refine L2.Rx.r_test ?_ | refine L2.Rx.r_bl ?_ | refine L2.Rx.r_if ?_ | refine L2.Rx.r_ret ?_
  | refine L2.Rx.r_cons ?_ | refine L2.Rx.r_nil ?_ | refine L2.Rx.r_call ?_ | refine L2.Rx.r_cb ?_ | refine L2.Rx.r_next ?_ | refine L2.Rx.r_drop ?_
  | refine L2.Rx.r_gsub ?_ | refine L2.Rx.r_tupF ?_ | refine L2.Rx.r_lst ?_ | refine L2.Rx.r_par ?_ | refine L2.Rx.r_par2 ?_
  | refine L2.Rx.r_un ?_ | refine L2.Rx.r_tb ?_ | refine L2.Rx.r_and ?_ | refine L2.Rx.r_or ?_ | refine L2.Rx.r_not ?_
  | refine L2.Rx.r_andV ?_ | refine L2.Rx.r_orV ?_ | refine L2.Rx.r_notV ?_ | refine L2.Rx.r_ifx ?_ | refine L2.Rx.r_chain ?_
  | refine L2.Rx.r_sl ?_ | refine L2.Rx.r_nopart ?_ | refine L2.Rx.r_part ?_ | refine L2.Rx.r_exint ?_ | refine L2.Rx.r_bm0 ?_ | refine L2.Rx.r_bm ?_
  | refine L2.Rx.r_lc ?_ | refine L2.Rx.r_rng1 ?_ | refine L2.Rx.r_yes ?_ | refine L2.Rx.r_tt ?_ | refine L2.Rx.r_ff ?_ | refine L2.Rx.r_m1 ?_ | refine L2.Rx.r_m0 ?_ | refine L2.Rx.r_isS ?_
  | (refine L2.Rx.r_wipe (by with_unfolding_all rfl) ?_) | (refine L2.Rx.r_tyL (by walk_at "hp") ?_)
  | refine L2.Rx.r_addS (by walk_at "len") ?_ | refine L2.Rx.r_lenS (by walk_at "len") ?_ | refine L2.Rx.r_slS (by walk_at "len") ?_
  | refine L2.Rx.r_dnotin ?_ | refine L2.Rx.r_dget ?_ | refine L2.Rx.r_dget1 ?_ | refine L2.Rx.r_dput ?_ | refine L2.Rx.r_dpop1 ?_ | refine L2.Rx.r_isN ?_
  | refine L2.Rx.r_for ?_ | refine L2.Rx.r_ilist ?_ | refine L2.Rx.r_itup ?_
  | refine L2.Rx.r_gcons ?_ | refine L2.Rx.r_gnil ?_ | (refine L2.Rx.r_gtupP (by assumption) (by walk_at "at") ?_)
  | (refine L2.Rx.r_rEq rfl ?_) | (refine L2.Rx.r_rNe rfl ?_)
  | refine L2.Rx.r_rU ?_ | refine L2.Rx.r_max2 ?_ | refine L2.Rx.r_min2 ?_ | refine L2.Rx.r_int1i ?_ | (refine L2.Rx.r_lenh (by walk_at "hp") ?_)
  | (refine L2.Rx.r_ixLh (by walk_at "hp") (by walk_at "at") ?_)
  | (refine L2.Rx.r_setL (by walk_at "hp") (by walk_at "at") ?_))
local macro_rules | `(tactic| walk_at "at") => `(tactic| with_unfolding_all rfl)
local macro_rules | `(tactic| walk_at "rd") => `(tactic| (repeat walk_at "rd1"))
local macro_rules | `(tactic| walk_at "hp") => `(tactic| first
  | assumption
  | exact L2.upd_same
  | (refine Eq.trans (L2.upd_ne ?_) ?_; (focus walk_at "ne"); (focus walk_at "hp"))
  | (refine L2.Rx.Kp.at0 (by assumption) ?_; walk_at "hp")
  | (refine L2.Rx.Kp.at1 (by assumption) ?_ ?_; (focus walk_at "ne"); (focus walk_at "hp")))
local macro_rules | `(tactic| walk_at "ne") => `(tactic| first
  | assumption | exact Ne.symm (by assumption)
  | (refine L2.ne_of_none (H := ?nH) (o := ?nO) ?nh ?nn; (case nn => assumption); (case nh => walk_at "hp"))
  | (refine Ne.symm (L2.ne_of_none (H := ?nH) (o := ?nO) ?nh ?nn); (case nn => assumption); (case nh => walk_at "hp")))
local macro_rules | `(tactic| walk_at "len") => `(tactic| (rw [PySem.sizeLine_eq]; omega))
local macro_rules | `(tactic| walk_at "nin") => `(tactic| first
  | exact List.not_mem_nil
  | (refine L2.Rx.nin1 ?_; walk_at "ne"))
local macro_rules | `(tactic| walk_at "none") => `(tactic| first
  | assumption
  | (refine L2.Rx.Kp.none0 (by assumption) ?_ ?_; (focus walk_at "nin"); (focus walk_at "none")))
namespace L2.Rx
open PySem PySem.Spec PyProof.Rows
/-! ### the law's call, where no repr is under way -/
theorem lawG {P : Program} {w : World} {K : PySem.W.Frag} {mg mb : Str → Option Value} {k : Nat} {fa a : Addr} {fd : FuncData} {x : Str} {sp : Sp} {st : Shared} {vs : List Value} {ns : List Int}
    (KX : K.In st.heap) (hns : st.heap.Ns mainGlobals mg) (hb : st.heap.Ns builtinsNs mb) (hbb : ∀ x : Str, x ≠ "__name__" → mb x = bootBuiltins x) (hlim : st.heap.NoLimit) (hg : st.gens = #[])
    (ha : st.heap.get? a = some { cls := .type "list", data := .seq vs.toArray }) (hi : IntsAre vs ns) (hl : ns.length ≤ sizeLine) (hr : Room k callerA)
    (F : ∀ base : Heap, K.In base → base.Ns mainGlobals mg → FnG P w K mg base CX0 k fa fd [x] sp) (hbind : ∀ (s : Shared) (u : Value), BindsTo s fd ⟨[u], []⟩ [(x, u)])
    (hsp : ∀ H : Hp, Only H → SqL K H a (ns.map V.int) → sp [.ref a] H (fun v _ => v = .bl true) E0) :
    codeAny (model P w) callerA (.call (.ref fa) ⟨[.ref a], []⟩) (fun r s' => r = .ok (.ret (.bool true)) ∧ OldK st.heap s'.heap ∧ s'.os = st.os ∧ AllBare s'.gens) st := by
  have rel := vals_ints hi
  -- the script's place, tracked or an object of the module
  have go : ∀ H : Hp, Only H → SqL K H a (ns.map V.int) → HOk P w H st.heap → (∀ b o, H b = some o → b = a ∧ K.lookup a = none) →
      codeAny (model P w) callerA (.call (.ref fa) ⟨[.ref a], []⟩) (fun r s' => r = .ok (.ret (.bool true)) ∧ OldK st.heap s'.heap ∧ s'.os = st.os ∧ AllBare s'.gens) st := by
    intro H only scr hok alone
    have keep : ∀ {b : Addr} {o : Obj}, st.heap.get? b = some o → (b = a → K.lookup a ≠ none ∨ o.data ≠ Data.seq vs.toArray) → (hidT st.heap H).get? b = some o := by
      intro b o e ne
      refine hidT_get e ?_
      cases q : H b with
      | none => rfl
      | some u =>
        obtain ⟨z, zk⟩ := alone b u q
        rcases ne z with n | n
        · exact absurd zk n
        · rw [z, ha] at e
          cases e
          exact absurd rfl n
    have nsk : ∀ {b : Addr} {m : Str → Option Value}, st.heap.Ns b m → (hidT st.heap H).Ns b m := by
      rintro b m ⟨o, es, ep, e, d, r⟩
      exact ⟨o, es, ep, keep e fun _ => .inr (by rw [d]; intro z; cases z), d, r⟩
    have kb : K.In (hidT st.heap H) := fun b o e => keep (KX b o e) fun z => .inl (by rw [← z, e]; simp)
    obtain ⟨mc, c1, c2⟩ := hlim
    have mod : Mod K mg (hidT st.heap H) := ⟨kb, nsk hns, ⟨mb, nsk hb, hbb⟩, mc, nsk c1, c2⟩
    have env : Env0 P w K mg (hidT st.heap H) callerA [] st H := ⟨rfl, mod, fun _ _ e => of_hidT e, Nat.le_of_eq (hidT_size _ _), trivial, fun b hb => absurd (show b ∈ ([] : List Addr) from hb) (by simp), hok, .of_eq hg⟩
    refine codeAny_mono ((F _ kb (nsk hns)).run callerA [] st H ⟨[.ref a], []⟩ [.ref a] [.ref a] _ _ ⟨hr, rfl⟩ env (hbind st (.ref a)) (.cons rfl .nil) (hsp H only scr)) ?_
    intro res s' out
    cases res with
    | error err => exact False.elim out
    | ok fl =>
      cases fl with
      | ret u =>
        obtain ⟨v, H', os, bare, un, hok', rv, rfl⟩ := out
        cases rv
        refine ⟨rfl, OldK.of_keep ?_, os, bare⟩
        intro b o e
        cases q : H b with
        | none => exact un.keep b o e q (fun z => absurd (show b ∈ ([] : List Addr) from z) (by simp)) (by simp)
        | some u =>
          rcases only b with z | ⟨ob, xs, z⟩
          · rw [q] at z
            cases z
          · have h1 := (hok b _ z).1
            have h2 := (hok' b _ (un.frzs b ob _ z)).1
            rw [e] at h1
            cases h1
            exact h2
      | _ => exact False.elim out
  cases hk : K.lookup a with
  | some o =>
    have e := KX a o hk
    rw [ha] at e
    cases e
    exact go (fun _ => none) (fun _ => .inl rfl) (.inr ⟨_, vs.toArray, _, hk, rfl, rfl, rfl, by rw [List.size_toArray, hi.length]; exact hl, by simpa using rel⟩) (fun b u z => nomatch (show (none : Option HO) = some u from z)) fun b u z => nomatch (show (none : Option HO) = some u from z)
  | none =>
    have only_a : ∀ b u, upd (fun _ => none) a (HO.frz { cls := .type "list", data := .seq vs.toArray } (.lst (ns.map V.int))) b = some u → b = a := by
      intro b u z
      by_cases hb : b = a
      · exact hb
      · rw [upd_ne hb] at z
        cases z
    refine go (upd (fun _ => none) a (HO.frz { cls := .type "list", data := .seq vs.toArray } (.lst (ns.map V.int)))) (fun b => ?_) (.inl (.inr ⟨_, upd_same⟩)) (fun b u z => ?_) (fun b u z => ⟨only_a b u z, hk⟩)
    · by_cases hb : b = a
      · rw [hb]
        exact .inr ⟨_, _, upd_same⟩
      · exact .inl (upd_ne hb)
    · have hb := only_a b u z
      subst hb
      rw [upd_same] at z
      cases z
      exact ⟨ha, by rw [List.length_map]; exact hl, vs, _, rel, ha⟩
/-- the goal that k_head leaves -/
theorem walkG {l : PySem.W.OpenLaw} {n k : Nat} {q : Program} {loose : List Str} {XP : (Str → Option Value) → Heap → Prop} {YP : World → Heap → Prop} {d : DefRec} {K : Params → PySem.W.Frag} {sp : PySem.W.Frag → Sp} {x : Str}
    (hn : l.most = some n) (hn2 : n ≤ sizeLine) (hdf : d.params.defaults = []) (hr : Room k callerA)
    (hY : ∀ (w : World) (h : Heap), YP w h → (K w.params).In h)
    (F : ∀ (w : World) (mg : Str → Option Value) (fa : Addr) (h : Heap), (K w.params).In h → h.Ns mainGlobals mg → mg d.name = some (.ref fa) →
      ∃ fd : FuncData, (∀ (s : Shared) (u : Value), BindsTo s fd ⟨[u], []⟩ [(x, u)]) ∧
        ∀ base : Heap, (K w.params).In base → base.Ns mainGlobals mg → FnG l.prog w (K w.params) mg base CX0 k fa fd [x] (sp (K w.params)))
    (hsp : ∀ (K : PySem.W.Frag) (H : Hp) (a : Addr) (ns : List Int), ns.length ≤ n → Only H → SqL K H a (ns.map V.int) → sp K [.ref a] H (fun v _ => v = .bl true) E0) :
    PySem.W.WalkO q loose XP YP l.row.toRowW d [] (fun f vs => PySem.call f vs) := by
  refine Att.attach_call hn hdf ?_
  intro w s₀ st mg mb fa o pm cd doc a vs ns G Y ho hd hcd hmg hobj hints hlen hg
  have KX := hY w _ Y
  obtain ⟨fd, bd, hF⟩ := F w mg fa _ KX G.T.g hmg
  exact lawG KX G.T.g G.T.b G.T.builtins G.T.nolimit hg hobj hints (Nat.le_trans hlen hn2) hr hF bd fun H only scr => hsp _ H a ns hlen only scr
end L2.Rx

end
section
set_option Elab.async false
set_option linter.all false
set_option maxRecDepth 100000
set_option maxHeartbeats 4000000
local macro_rules | `(tactic| walk_at "rd1") => `(tactic| with_reducible first
  | refine L2.Rx.r_seq ?_ | refine L2.Rx.r_asg ?_ | refine L2.Rx.r_gname ?_ | refine L2.Rx.r_op ?_ | refine L2.Rx.r_c ?_
  | refine L2.Rx.r_var rfl ?_
  | refine L2.Rx.r_rI0 ?_ | refine L2.Rx.r_test ?_ | refine L2.Rx.r_bl ?_ | refine L2.Rx.r_if ?_ | refine L2.Rx.r_ret ?_
  | refine L2.Rx.r_cons ?_ | refine L2.Rx.r_nil ?_ | refine L2.Rx.r_call ?_ | refine L2.Rx.r_cb ?_ | refine L2.Rx.r_next ?_ | refine L2.Rx.r_drop ?_
  | refine L2.Rx.r_gsub ?_ | refine L2.Rx.r_tupF ?_ | refine L2.Rx.r_lst ?_ | refine L2.Rx.r_par ?_ | refine L2.Rx.r_par2 ?_
  | refine L2.Rx.r_un ?_ | refine L2.Rx.r_tb ?_ | refine L2.Rx.r_and ?_ | refine L2.Rx.r_or ?_ | refine L2.Rx.r_not ?_
  | refine L2.Rx.r_andV ?_ | refine L2.Rx.r_orV ?_ | refine L2.Rx.r_notV ?_ | refine L2.Rx.r_ifx ?_ | refine L2.Rx.r_chain ?_
  | refine L2.Rx.r_sl ?_ | refine L2.Rx.r_nopart ?_ | refine L2.Rx.r_part ?_ | refine L2.Rx.r_exint ?_ | refine L2.Rx.r_bm0 ?_ | refine L2.Rx.r_bm ?_
  | refine L2.Rx.r_lc ?_ | refine L2.Rx.r_rng1 ?_ | refine L2.Rx.r_yes ?_ | refine L2.Rx.r_tt ?_ | refine L2.Rx.r_ff ?_ | refine L2.Rx.r_m1 ?_ | refine L2.Rx.r_m0 ?_ | refine L2.Rx.r_isS ?_
  | (refine L2.Rx.r_wipe (by with_unfolding_all rfl) ?_) | (refine L2.Rx.r_tyL (by walk_at "hp") ?_)
  | refine L2.Rx.r_addS (by walk_at "len") ?_ | refine L2.Rx.r_lenS (by walk_at "len") ?_ | refine L2.Rx.r_slS (by walk_at "len") ?_
  | refine L2.Rx.r_dnotin ?_ | refine L2.Rx.r_dget ?_ | refine L2.Rx.r_dget1 ?_ | refine L2.Rx.r_dput ?_ | refine L2.Rx.r_dpop1 ?_ | refine L2.Rx.r_isN ?_
  | refine L2.Rx.r_for ?_ | refine L2.Rx.r_ilist ?_ | refine L2.Rx.r_itup ?_
  | refine L2.Rx.r_gcons ?_ | refine L2.Rx.r_gnil ?_ | (refine L2.Rx.r_gtupP (by assumption) (by walk_at "at") ?_)
  | (refine L2.Rx.r_rEq rfl ?_) | (refine L2.Rx.r_rNe rfl ?_)
  | refine L2.Rx.r_rU ?_ | refine L2.Rx.r_max2 ?_ | refine L2.Rx.r_min2 ?_ | refine L2.Rx.r_int1i ?_ | (refine L2.Rx.r_lenh (by walk_at "hp") ?_)
  | (refine L2.Rx.r_ixLh (by walk_at "hp") (by walk_at "at") ?_)
  | (refine L2.Rx.r_setL (by walk_at "hp") (by walk_at "at") ?_))
local macro_rules | `(tactic| walk_at "at") => `(tactic| with_unfolding_all rfl)
local macro_rules | `(tactic| walk_at "rd") => `(tactic| (repeat walk_at "rd1"))
local macro_rules | `(tactic| walk_at "hp") => `(tactic| first
  | assumption
  | exact L2.upd_same
  | (refine Eq.trans (L2.upd_ne ?_) ?_; (focus walk_at "ne"); (focus walk_at "hp"))
  | (refine L2.Rx.Kp.at0 (by assumption) ?_; walk_at "hp")
  | (refine L2.Rx.Kp.at1 (by assumption) ?_ ?_; (focus walk_at "ne"); (focus walk_at "hp")))
local macro_rules | `(tactic| walk_at "ne") => `(tactic| first
  | assumption | exact Ne.symm (by assumption)
  | (refine L2.ne_of_none (H := ?nH) (o := ?nO) ?nh ?nn; (case nn => assumption); (case nh => walk_at "hp"))
  | (refine Ne.symm (L2.ne_of_none (H := ?nH) (o := ?nO) ?nh ?nn); (case nn => assumption); (case nh => walk_at "hp")))
local macro_rules | `(tactic| walk_at "len") => `(tactic| (rw [PySem.sizeLine_eq]; omega))
local macro_rules | `(tactic| walk_at "nin") => `(tactic| first
  | exact List.not_mem_nil
  | (refine L2.Rx.nin1 ?_; walk_at "ne"))
local macro_rules | `(tactic| walk_at "none") => `(tactic| first
  | assumption
  | (refine L2.Rx.Kp.none0 (by assumption) ?_ ?_; (focus walk_at "nin"); (focus walk_at "none")))
namespace L2.Rx
open PySem PySem.Spec PyProof.Rows
/-! ### sorted of a list or a tuple of alike data -/
open PySem.W in
theorem sortsAt_few {prog : Program} {w : World} {A : Around} {s : Shared} {vs : List Value} {ds : List PyData} (e : EachIs (fun v d => ∃ as, Reads s.heap v d as) vs ds) (hal : AllAlike ds) (hn : ∀ d ∈ ds, d ≠ .none) (hl : vs.length < 2) (hu : ∀ d, d ∈ ds → A.units + d.depth < cLine) :
    SortsAt prog w A s (dataKind s.heap ds) vs := by
  refine ⟨fun v hv => ?_, general', ?_, fun h2 => absurd hl (by omega)⟩
  · obtain ⟨d, hd, as, r⟩ := e.left v hv
    exact ⟨_, dataKind_some hal hd r⟩
  · intro E x y a b Q ha hb hq
    obtain ⟨d, as, hd, ra, rfl⟩ := dataKind_inv ha
    obtain ⟨d', as', hd', rb, rfl⟩ := dataKind_inv hb
    show wpAny _ _ (oneLt' false x y) _ _ _
    exact oneLt_alike (fun z => nomatch z) ra rb (hal d hd d' hd') (hn d hd) (Nat.lt_of_le_of_lt (Nat.add_le_add_left (Nat.min_le_left _ _) _) (hu d hd)) hq
section
variable {prog : Program} {w : World} {A : Around} {s : Shared}
open PySem.SeqAt in
/-- the call of tuple's own __lt__, as sorting makes it where one key is empty -/
theorem call_lt_tup {l b : Addr} {us vs : Array Value} {e r : Nat → Bool} {E Q : Value → Shared → Prop} (hl : s.heap.IsTuple l us) (hb : s.heap.IsTuple b vs)
    (he : ∀ j (h1 : j < us.size) (h2 : j < vs.size), EqAt A.in1 s us[j] vs[j] (e j)) (hr : ∀ j (h1 : j < us.size) (h2 : j < vs.size), e j = false → RcLt A.in1 s us[j] vs[j] (r j))
    (q : Q (.bool (firstLt e r (decide (us.size < vs.size)) (List.range (min us.size vs.size)))) s) : wpAny (model prog w) A (call (.builtin "tuple.__lt__") [.ref l, .ref b]) Q E s := by
  obtain ⟨⟨c, d, t, z⟩, ho, hc, n, hd⟩ := id hl
  obtain ⟨⟨c', d', t', z'⟩, ho', hc', n', hd'⟩ := id hb
  dsimp only at hc hd hc' hd'
  cases hc; cases hd; cases hc'; cases hd'
  exact call_meets PySem.F.slot_tuple_lt ⟨_, ho, rfl⟩ PySem.F.entry_tuple_lt (PySem.F.args_tuple_lt_2 _ _) (tuple_ltAt l b us vs n n' d d' z z' e r) ⟨ho, ho', he, hr, q⟩
open PySem.W PySem.SeqAt in
theorem oneLt_tups {xs ys : List PyData} {a b : Value} {as bs : List Addr} {E : Value → Shared → Prop} {Q : Bool → Shared → Prop} (ra : Reads s.heap a (.tuple xs) as) (rb : Reads s.heap b (.tuple ys) bs) (h : alike (.tuple xs) (.tuple ys) = true)
    (hu : A.units + min (PyData.tuple xs).depth (PyData.tuple ys).depth < cLine) (q : Q (dataLt (.tuple xs) (.tuple ys)) s) : wpAny (model prog w) A (oneLt' true a b) Q E s := by
  have hal : alikeAll xs ys = true := by simpa [alike] using h
  cases ra with
  | @tuple l o vs n _ as₁ h1 h2 h3 h4 =>
    cases rb with
    | @tuple l' o' vs' n' _ bs₁ k1 k2 k3 k4 =>
      have n1 : vs.size = xs.length := by simpa using ReadsAll.length _ _ _ h4
      have n2 : vs'.size = ys.length := by simpa using ReadsAll.length _ _ _ k4
      rw [dataLt_tuple, ← firstLt_toks xs ys hal, ← n1, ← n2] at q
      rw [oneLt'_eq]
      simp only [if_true]
      refine wpAny_bind (wpAny_cRoomFor (room_here hu) ?_)
      refine wpAny_bind (wpAny_callSpecialIfBound?_slot (T := "tuple") ⟨_, h1, h2⟩ PySem.F.slot_tuple_lt (call_lt_tup (e := pairEq xs ys) (r := fun j => dataLt (xs.getD j .none) (ys.getD j .none)) ⟨_, h1, h2, _, h3⟩ ⟨_, k1, k2, _, k3⟩ (fun j j1 j2 => ?_) (fun j j1 j2 hj => ?_) ?_))
      · have := eqAt_alikeAll xs ys A.in1 s vs.toList vs'.toList _ _ h4 k4 hal (room_in hu) j (by simpa using j1) (by simpa using j2)
        simpa using this
      · have := rcLt_alikeAll xs ys A.in1 s vs.toList vs'.toList _ _ h4 k4 hal (room_in hu) j (by simpa using j1) (by simpa using j2) hj
        simpa using this
      · exact wpAny_truthy_bool q
theorem each_right {α β : Type} {R : α → β → Prop} : ∀ {as : List α} {bs : List β}, PySem.W.EachIs R as bs → ∀ b ∈ bs, ∃ a ∈ as, R a b
  | _, _, .nil, _, h => nomatch h
  | _, _, .cons h t, b, m => by
    rcases List.mem_cons.mp m with e | m
    · subst e
      exact ⟨_, List.mem_cons_self .., h⟩
    · obtain ⟨a, ma, r⟩ := each_right t b m
      exact ⟨a, List.mem_cons_of_mem _ ma, r⟩
open PySem.W in
/-- the first items that sorting looks at, of tuples among which some are empty -/
theorem firsts_tup : ∀ {vs : List Value} {ds : List PyData}, EachIs (fun v d => ∃ as, Reads s.heap v d as) vs ds → (∀ d ∈ ds, ∃ xs, d = .tuple xs) →
    ∃ fs : List (Option Value), EachIs (fun f d => f.isSome = true ↔ d ≠ PyData.tuple []) fs ds ∧ ∀ {M : Model} {E : Value → Shared → Prop} {Q : List (Option Value) → Shared → Prop}, Q fs s → wpAny M A (vs.mapM firstOfTuple') Q E s
  | _, _, .nil, _ => ⟨[], .nil, fun q => by rw [List.mapM_nil]; exact wpAny_pure q⟩
  | _, _, .cons (b := d) ⟨as, r⟩ t, ht => by
    obtain ⟨fs, h1, h2⟩ := firsts_tup t fun d hd => ht d (List.mem_cons_of_mem _ hd)
    obtain ⟨xs, rfl⟩ := ht d (List.mem_cons_self ..)
    cases r with
    | @tuple a o us n _ _ ho hc hd hr =>
      refine ⟨us[0]? :: fs, .cons ?_ h1, fun {M E Q} q => ?_⟩
      · clear h2
        rw [← Array.getElem?_toList]
        generalize us.toList = ul at hr
        cases hr with
        | nil => simp
        | cons _ _ => simp
      · rw [List.mapM_cons]
        refine wpAny_bind ?_
        rw [kas_first_eq]
        refine wpAny_bind (Looks.here (show Looks M s.heap (typeOf (.ref a)) o.cls from (Looks.ld ho).andThen .now) ?_)
        rw [hc, if_neg (by first | decide | simp)]
        refine wpAny_bind (listItems_at ho hd (wpAny_pure ?_))
        exact wpAny_bind (h2 (Q := fun bs s' => wpAny M A (pure (us[0]? :: bs)) Q E s') (wpAny_pure q))
open PySem.W in
theorem sortsAt_tups {vs : List Value} {ds : List PyData} (e : EachIs (fun v d => ∃ as, Reads s.heap v d as) vs ds) (hal : AllAlike ds) (ht : ∀ d ∈ ds, ∃ xs, d = .tuple xs) (hu : ∀ d, d ∈ ds → A.units + d.depth < cLine) :
    SortsAt prog w A s (dataKind s.heap ds) vs := by
  by_cases hne : ∀ d ∈ ds, ∃ x r, d = .tuple (x :: r)
  · exact SortsAt.data e hal (.inl hne) hu
  have hem : PyData.tuple [] ∈ ds := by
    refine Classical.byContradiction fun hn => hne fun d hd => ?_
    obtain ⟨xs, rfl⟩ := ht d hd
    cases xs with
    | nil => exact absurd hd hn
    | cons x r => exact ⟨x, r, rfl⟩
  have lt : ∀ f : Bool, ∀ (E : Value → Shared → Prop) (x y : Value) (a b : List (Int ⊕ List Nat)) {Q : Bool → Shared → Prop}, (dataKind s.heap ds).keyOf x = some a → (dataKind s.heap ds).keyOf y = some b → Q ((dataKind s.heap ds).blt a b) s → wpAny (model prog w) A (oneLt' f x y) Q E s := by
    intro f E x y a b Q ha hb hq
    obtain ⟨d, as, hd, ra, rfl⟩ := dataKind_inv ha
    obtain ⟨d', as', hd', rb, rfl⟩ := dataKind_inv hb
    obtain ⟨xs, rfl⟩ := ht d hd
    obtain ⟨ys, rfl⟩ := ht d' hd'
    have room := Nat.lt_of_le_of_lt (Nat.add_le_add_left (Nat.min_le_left (PyData.tuple xs).depth (PyData.tuple ys).depth) _) (hu _ hd)
    cases f with
    | false => exact oneLt_alike (fun z => nomatch z) ra rb (hal _ hd _ hd') (fun z => nomatch z) room hq
    | true => exact oneLt_tups ra rb (hal _ hd _ hd') room hq
  refine ⟨fun v hv => ?_, ?_⟩
  · obtain ⟨d, hd, as, r⟩ := e.left v hv
    exact ⟨_, dataKind_some hal hd r⟩
  obtain ⟨fs, f1, f2⟩ := firsts_tup (A := A) (s := s) e ht
  have notall : (fs.toArray.all fun x => x.isSome) = false := by
    obtain ⟨f, hf, h⟩ := each_right f1 _ hem
    rw [Bool.eq_false_iff]
    intro ha
    rw [List.all_toArray, List.all_eq_true] at ha
    exact h.mp (ha f hf) rfl
  have kq : ∀ (kd : SortKind), (((fs.toArray[0]?.bind id).isSome = true → kd = general') ∧ ((fs.toArray[0]?.bind id).isSome = false → kd = oneType')) → 2 ≤ vs.length → ∀ (E : Value → Shared → Prop) {Q : SortKind → Shared → Prop}, Q kd s → wpAny (model prog w) A (keyKind' vs.toArray) Q E s := by
    intro kd hk h2 E Q hq
    rw [kat_kind_eq, List.mapM_toArray, map_eq_pure_bind]
    refine wpAny_bind (wpAny_bind (f2 (wpAny_pure ?_)))
    rw [notall, if_neg (by simp)]
    by_cases h1 : (fs.toArray[0]?.bind id).isSome = true
    · rw [if_pos h1, ← hk.1 h1]
      exact wpAny_pure hq
    · rw [if_neg h1, ← hk.2 (Bool.eq_false_iff.mpr h1)]
      have hT : ∀ v ∈ vs, Looks (model prog w) s.heap (typeOf v) (Value.type "tuple") := fun v hv => by
        obtain ⟨d, hd, as, r⟩ := e.left v hv
        obtain ⟨xs, rfl⟩ := ht d hd
        exact looks_reads r
      rw [oneTypeOnly'_eq, List.mapM_toArray, map_eq_pure_bind]
      refine wpAny_bind (wpAny_bind (wpAny_bind (kas_mapM (r := Value.type "tuple") _ (fun v hv Q' hq => (hT v hv).here hq) (wpAny_pure ?_))))
      match vs, h2 with
      | v :: vs', _ =>
        have hall2 : ((List.map (fun _ => Value.type "tuple") (v :: vs')).toArray.all fun x => x == Value.type "tuple") = true := by
          simp only [List.all_toArray, List.all_map, List.all_eq_true]
          intro _ _
          exact beq_self_eq_true _
        have h0 : (List.map (fun _ => Value.type "tuple") (v :: vs')).toArray[0]? = some (Value.type "tuple") := by simp
        rw [h0]
        simp only [hall2, if_true]
        exact wpAny_pure (wpAny_pure hq)
  by_cases h1 : (fs.toArray[0]?.bind id).isSome = true
  · exact ⟨general', fun E x y a b Q ha hb hq => lt false E x y a b ha hb hq, kq _ ⟨fun _ => rfl, fun h => absurd (h1.symm.trans h) (by simp)⟩⟩
  · exact ⟨oneType', fun E x y a b Q ha hb hq => by
      rw [keyLt'_oneType]
      exact lt true E x y a b ha hb hq, kq _ ⟨fun h => absurd h h1, fun _ => rfl⟩⟩
end
/-- what may be sorted: alike data, none of them None, all tuples or none a tuple; or fewer than two -/
def Sb (ds : List PyData) : Prop := PySem.W.AllAlike ds ∧ (∀ d ∈ ds, d.depth ≤ 60 ∧ d ≠ .none) ∧ (PySem.W.Sortable ds ∨ ds.length < 2 ∨ ∀ d ∈ ds, ∃ xs, d = .tuple xs)
theorem EachIs_zip {K : PySem.W.Frag} {H : Hp} {X : Cx} {pins : List (Addr × Obj)} {σ : St} {s : Shared} (I : Inv X pins σ H s) : ∀ {ds : List PyData} {ys : List V} {us : List Value}, DpAll X.K H ys ds → Vals ys us →
    PySem.W.EachIs (fun u (p : PyData × V) => RelV p.2 u) us (ds.zip ys) ∧ PySem.W.EachIs (fun u (p : PyData × V) => ∃ as, Reads s.heap u p.1 as) us (ds.zip ys)
  | [], _, _, h, r => by
    cases h
    cases r
    exact ⟨.nil, .nil⟩
  | d :: ds, _, _, h, r => by
    cases h with
    | cons h1 h2 =>
      cases r with
      | cons r1 r2 =>
        obtain ⟨a, b⟩ := EachIs_zip (K := K) I h2 r2
        exact ⟨.cons r1 a, .cons (Dp.reads I d _ _ h1 r1) b⟩
theorem vals_of_each : ∀ {us : List Value} {bs : List (PyData × V)}, PySem.W.EachIs (fun u p => RelV p.2 u) us bs → Vals (bs.map Prod.snd) us
  | _, _, .nil => .nil
  | _, _, .cons h t => .cons h (vals_of_each t)
def rSortV (K : PySem.W.Frag) : List V → Hp → VK → Prop := fun xs H Q => ∃ (a : Addr) (ys : List V) (ds : List PyData), xs = [.ref a] ∧ (SqL K H a ys ∨ SqT K H a ys) ∧ DpAll K H ys ds ∧ Sb ds ∧
  ∀ p, H p = none → Q (.ref p) (upd H p (.lst (((ds.zip ys).mergeSort (PySem.W.dataLe false Prod.fst)).map Prod.snd)))
theorem dpAll_len {K : PySem.W.Frag} {H : Hp} : ∀ {ys : List V} {ds : List PyData}, DpAll K H ys ds → ys.length = ds.length
  | _, [], h => by
    cases h
    rfl
  | _, d :: ds, h => by
    cases h with
    | cons _ h2 => rw [List.length_cons, List.length_cons, dpAll_len h2]
theorem zip_fst {α β : Type} : ∀ (xs : List α) (ys : List β), ys.length = xs.length → (xs.zip ys).map Prod.fst = xs
  | [], _, _ => rfl
  | x :: xs, [], h => by simp at h
  | x :: xs, y :: ys, h => by rw [List.zip_cons_cons, List.map_cons, zip_fst xs ys (by simpa using h)]
theorem zip_snd {α β : Type} : ∀ (xs : List α) (ys : List β), ys.length = xs.length → (xs.zip ys).map Prod.snd = ys
  | [], [], _ => rfl
  | [], y :: ys, h => by simp at h
  | x :: xs, [], h => by simp at h
  | x :: xs, y :: ys, h => by rw [List.zip_cons_cons, List.map_cons, zip_snd xs ys (by simpa using h)]
open PySem.W in
theorem call_sortV {X : Cx} {k : Nat} (hr : RoomG k X.A) : CallR X (.builtin "sorted") (rSortV X.K) := by
  intro pins s σ H xs us Q I r h
  obtain ⟨a, ys, ds, rfl, hs, hd, ⟨hal, hdep, hk⟩, q⟩ := h
  obtain ⟨u, rfl, ru⟩ := vals1 r
  cases ru
  obtain ⟨its, T, o, n, rv, hT, ho, hc, hdt, hz⟩ : ∃ (its : List Value) (T : String) (o : Obj) (n : Nat), Vals ys its ∧ (T = "list" ∨ T = "tuple") ∧ s.heap.get? a = some o ∧ o.cls = .type T ∧ o.data = .seq its.toArray n ∧ its.length ≤ sizeLine := by
    rcases hs with hs | hs
    · obtain ⟨its, rv, ⟨o, n, ho, hc, _, hd⟩, hz⟩ := I.list hs
      exact ⟨its, "list", o, n, rv, .inl rfl, ho, hc, hd, by rw [← rv.length]; exact hz⟩
    · obtain ⟨its, rv, ⟨o, ho, hc, n, hd⟩, hz⟩ := I.tuple hs
      exact ⟨its, "tuple", o, n, rv, .inr rfl, ho, hc, hd, by rw [← rv.length]; exact hz⟩
  refine Calls.call_function_entry kind_sorted plain_sorted entry_sorted (args_sorted1 _) ?_
  unfold Builtin.«sorted»
  refine wpAny_bind (m := checkCount "sorted" 1 1 _) (wpAny_pure (wpAny_bind (wpAny_collect_seq a hT ho hc hdt (fun h' hk' => ?_) (by simpa using hz))))
  have I1 : Inv X pins σ H { s with heap := h' } := I.kept (t' := s.toks) hk'
  rw [show its.toArray.toList = its from rfl]
  refine wpAny_bind (wpAny_newList ?_ hz)
  have hoL : (h'.push (seqObj "list" its.toArray 0)).get? h'.objs.size = some (seqObj "list" its.toArray 0) := Heap.get?_push_size _ rfl
  have I2 : Inv X pins σ H { s with heap := h'.push (seqObj "list" its.toArray 0) } := I1.kept (t' := s.toks) fun b o e => Heap.get?_push_of_some _ e
  have hlen : ys.length = ds.length := dpAll_len hd
  have old : ∀ b o, (h'.push (seqObj "list" its.toArray 0)).get? b = some o → b ≠ h'.objs.size → (sortingHeap (h'.push (seqObj "list" its.toArray 0)) h'.objs.size its).get? b = some o := fun b o e ne => sortingHeap_old ne e
  have hkeep : ∀ b o, h'.get? b = some o → (sortingHeap (h'.push (seqObj "list" its.toArray 0)) h'.objs.size its).get? b = some o := fun b o e => old b o (Heap.get?_push_of_some _ e) (Nat.ne_of_lt (Heap.lt_size e))
  have J : Inv X pins σ H { s with heap := sortingHeap (h'.push (seqObj "list" its.toArray 0)) h'.objs.size its } := I1.kept (t' := s.toks) hkeep
  obtain ⟨e1, _⟩ := EachIs_zip (K := X.K) I hd rv
  obtain ⟨_, e2⟩ := EachIs_zip (K := X.K) J hd rv
  have hmap : (ds.zip ys).map Prod.fst = ds := zip_fst _ _ hlen
  have e3 : EachIs (fun v d => ∃ as, Reads (sortingHeap (h'.push (seqObj "list" its.toArray 0)) h'.objs.size its) v d as) its ((ds.zip ys).map Prod.fst) := each_map (R := fun v d => ∃ as, Reads (sortingHeap (h'.push (seqObj "list" its.toArray 0)) h'.objs.size its) v d as) Prod.fst e2
  have hun : ∀ d ∈ (ds.zip ys).map Prod.fst, X.A.in1.in1.units + d.depth < cLine := fun d m => by
    rw [hmap] at m
    have h1 := (hdep d m).1
    have h2 := hr.units
    show X.A.units + 1 + 1 + d.depth < cLine
    omega
  have S : SortsAt X.prog X.w X.A.in1.in1 { s with heap := sortingHeap (h'.push (seqObj "list" its.toArray 0)) h'.objs.size its } (dataKind (sortingHeap (h'.push (seqObj "list" its.toArray 0)) h'.objs.size its) ((ds.zip ys).map Prod.fst)) its := by
    rcases hk with hk | hk | hk
    · exact SortsAt.data (s := { s with heap := sortingHeap (h'.push (seqObj "list" its.toArray 0)) h'.objs.size its }) e3 (by rw [hmap]; exact hal) (by rw [hmap]; exact hk) hun
    · exact sortsAt_few (s := { s with heap := sortingHeap (h'.push (seqObj "list" its.toArray 0)) h'.objs.size its }) e3 (by rw [hmap]; exact hal) (fun d m => (hdep d (by rw [hmap] at m; exact m)).2) (by rw [← rv.length, hlen]; exact hk) hun
    · exact sortsAt_tups (s := { s with heap := sortingHeap (h'.push (seqObj "list" its.toArray 0)) h'.objs.size its }) e3 (by rw [hmap]; exact hal) (by rw [hmap]; exact hk) hun
  show wpAny _ _ _ _ _ { s with heap := h'.push (seqObj "list" its.toArray 0) }
  refine wpAny_bind (wpAny_holding (wpAny_call_entry slot_list_sort ⟨_, hoL, rfl⟩ entry_list_sort ?body (args_list_sort _)))
  case body =>
    show wpAny (model X.prog X.w) X.A.in1.in1 (Builtin.«list.sort» ⟨[.ref h'.objs.size], []⟩) _ _ _
    refine list_sort_vals (s := { s with heap := h'.push (seqObj "list" its.toArray 0) }) hoL S hz ⟨_, rfl, wpAny_pure ⟨_, rfl, ?_⟩⟩
    obtain ⟨ep, he⟩ := sortedHeap_at (vs := its) (out := (sortVals (dataKind (sortingHeap (h'.push (seqObj "list" its.toArray 0)) h'.objs.size its) ((ds.zip ys).map Prod.fst)) false its its).toArray) hoL
    have out := sortVals_data (R := fun u (p : PyData × V) => RelV p.2 u) (h' := sortingHeap (h'.push (seqObj "list" its.toArray 0)) h'.objs.size its) false e1 e2 (by rw [hmap]; exact hal)
    have ov := vals_of_each out
    have ol : (((ds.zip ys).mergeSort (dataLe false Prod.fst)).map Prod.snd).length ≤ sizeLine := by
      rw [List.length_map, List.length_mergeSort, List.length_zip, hlen, Nat.min_self, ← hlen, rv.length]
      exact hz
    refine ⟨.ref h'.objs.size, _, I1.laid (t' := s.toks) (a := h'.objs.size) (o := .lst (((ds.zip ys).mergeSort (dataLe false Prod.fst)).map Prod.snd)) (fun b u e => ?_) (Nat.le_refl _) ⟨ol, _, ep, ov, he⟩, rfl, q _ (I1.hok.fresh (Nat.le_refl _))⟩
    have hb : b < h'.objs.size := Heap.lt_size e
    rw [sortedHeap_old (Nat.ne_of_lt hb) (by rw [size_push']; exact Nat.lt_succ_of_lt hb)]
    exact Heap.get?_push_of_some _ e
/-! ### cuts; wide powers; small rules -/
section
variable {σ : St} {H : Hp} {Q : VK} {nx : St → Hp → Prop} {rt : VK} {bk ct : St → Hp → Prop}
theorem r_cut {te : TE} (P : V → Hp → Prop) (key : ∀ v H', P v H' → Q v H') (h : ∀ Q' : VK, (∀ v H', P v H' → Q' v H') → te σ H Q') : te σ H Q := h Q key
theorem r_cutT {t : TT} {Q : Bool → Hp → Prop} (P : Bool → Hp → Prop) (key : ∀ v H', P v H' → Q v H') (h : ∀ Q' : Bool → Hp → Prop, (∀ v H', P v H' → Q' v H') → t σ H Q') : t σ H Q := h Q key
theorem r_cutS {t : TS} (P : St → Hp → Prop) (key : ∀ σ' H', P σ' H' → nx σ' H') (h : ∀ nx', (∀ σ' H', P σ' H' → nx' σ' H') → t ⟨nx', rt, bk, ct⟩ σ H) : t ⟨nx, rt, bk, ct⟩ σ H := h nx key
def CPowW (i j : Int) : Prop := 0 ≤ j ∧ (Builtin.Int.intBits i : Int) * j ≤ 2 ^ 27
theorem op_powW {X : Cx} : OpR X (binaryOp .Pow) (rI CPowW fun i j => .int (i ^ j.toNat)) := opI fun _ _ _ _ _ _ _ hc q => pow_int hc.1 hc.2 q
theorem r_powW {i j : Int} (h0 : 0 ≤ j) (h1 : (Builtin.Int.intBits i : Int) * j ≤ 2 ^ 27) (q : Q (.int (i ^ j.toNat)) H) : rI CPowW (fun i j => .int (i ^ j.toNat)) (.int i) (.int j) H Q := ⟨i, j, rfl, rfl, ⟨h0, h1⟩, q⟩
def rLenQ (K : PySem.W.Frag) : List V → Hp → VK → Prop := fun xs H Q => ∃ p ys, xs = [.ref p] ∧ (SqL K H p ys ∨ SqT K H p ys) ∧ Q (.int ys.length) H
def rLenS : List V → Hp → VK → Prop := fun xs H Q => ∃ z, xs = [.str z] ∧ z.length ≤ sizeLine ∧ Q (.int z.length) H
def rAbs : List V → Hp → VK → Prop := fun xs H Q => ∃ i, xs = [.int i] ∧ Q (.int (if i < 0 then -i else i)) H
def rMax2 : List V → Hp → VK → Prop := fun xs H Q => ∃ i j, xs = [.int i, .int j] ∧ Q (.int (if j > i then j else i)) H
def rMin2 : List V → Hp → VK → Prop := fun xs H Q => ∃ i j, xs = [.int i, .int j] ∧ Q (.int (if j < i then j else i)) H
def rInt1 : List V → Hp → VK → Prop := fun xs H Q => (∃ i, xs = [.int i] ∧ Q (.int i) H) ∨ ∃ k, xs = [.bl k] ∧ Q (.int (if k then 1 else 0)) H
variable {X : Cx} {K : PySem.W.Frag}
theorem c_len : CallR X (.builtin "len") (rLenQ X.K) := call_len_seq
theorem c_lenS : CallR X (.builtin "len") rLenS := call_len_str
theorem c_abs : CallR X (.builtin "abs") rAbs := call_abs
theorem c_max2 (hc : X.calm = true) : CallR X (.builtin "max") rMax2 := call_max2 hc
theorem c_min2 (hc : X.calm = true) : CallR X (.builtin "min") rMin2 := call_min2 hc
theorem c_int1 : CallR X (.type "int") rInt1 := call_int1
theorem r_len {p : Addr} {ys : List V} (h : SqL K H p ys ∨ SqT K H p ys) (q : Q (.int ys.length) H) : rLenQ K [.ref p] H Q := ⟨p, ys, rfl, h, q⟩
theorem r_lenh {p : Addr} {ys : List V} (h : H p = some (.lst ys)) (q : Q (.int ys.length) H) : rLenQ K [.ref p] H Q := ⟨p, ys, rfl, .inl (.inl (.inl h)), q⟩
theorem r_lenS {z : Str} (h : z.length ≤ sizeLine) (q : Q (.int z.length) H) : rLenS [.str z] H Q := ⟨z, rfl, h, q⟩
theorem r_abs {i : Int} (h : ∀ r, 0 ≤ r → Q (.int r) H) : rAbs [.int i] H Q := by
  refine ⟨i, rfl, ?_⟩
  split
  · exact h _ (by omega)
  · exact h _ (by omega)
theorem r_max2 {i j : Int} (h : Q (.int (max i j)) H) : rMax2 [.int i, .int j] H Q := by
  refine ⟨i, j, rfl, ?_⟩
  have e : (if j > i then j else i) = max i j := by split <;> omega
  rw [e]
  exact h
theorem r_min2 {i j : Int} (h : Q (.int (min i j)) H) : rMin2 [.int i, .int j] H Q := by
  refine ⟨i, j, rfl, ?_⟩
  have e : (if j < i then j else i) = min i j := by split <;> omega
  rw [e]
  exact h
theorem r_int1i {i : Int} (h : Q (.int i) H) : rInt1 [.int i] H Q := .inl ⟨i, rfl, h⟩
theorem r_int1b {k : Bool} (h : ∀ r, 0 ≤ r → r ≤ 1 → Q (.int r) H) : rInt1 [.bl k] H Q := by
  refine .inr ⟨k, rfl, ?_⟩
  split
  · exact h _ (by omega) (by omega)
  · exact h _ (by omega) (by omega)
end
/-- the law's box stands at b: its own digits, its seed, how many were drawn; n more may be drawn -/
def Box (H : Hp) (b : Addr) (n : Nat) : Prop := ∃ o m c : Int, H b = some (.lst [.int o, .int m, .int c]) ∧ 0 ≤ o ∧ 0 ≤ m ∧ m < 2305843009213693951 ∧ 0 ≤ c ∧ c + (n : Int) ≤ 1000000000
theorem Box.mono {H : Hp} {b : Addr} {n m : Nat} (B : Box H b n) (h : m ≤ n) : Box H b m := by
  obtain ⟨o, s, c, e, h1, h2, h3, h4, h5⟩ := B
  exact ⟨o, s, c, e, h1, h2, h3, h4, by omega⟩
theorem Box.keep {H H' : Hp} {b : Addr} {n : Nat} (B : Box H b n) (k : Kp [] H H') : Box H' b n := by
  obtain ⟨o, s, c, e, r⟩ := B
  exact ⟨o, s, c, k.at0 e, r⟩
theorem Box.lst {H : Hp} {b : Addr} {n : Nat} (B : Box H b n) : ∃ xs, H b = some (.lst xs) := by
  obtain ⟨o, s, c, e, _⟩ := B
  exact ⟨_, e⟩
/-! ### what is carried over -/
section
variable {K : PySem.W.Frag} {H H' : Hp} {S : List Addr} {p b : Addr} {xs : List V} {o : HO}
theorem kp_rd {u : HO} (k : Kp S H H') (n : p ∉ S) (h : Rd H p u) : Rd H' p u := by
  rcases h with h | ⟨o, h⟩
  · exact .inl (k p _ n h)
  · exact .inr ⟨o, k p _ n h⟩
theorem kp_sqL (k : Kp S H H') (n : p ∉ S) (h : SqL K H p xs) : SqL K H' p xs := by
  rcases h with h | h
  · exact .inl (kp_rd k n h)
  · exact .inr h
theorem kp_sqT (k : Kp S H H') (n : p ∉ S) (h : SqT K H p xs) : SqT K H' p xs := by
  rcases h with h | h
  · exact .inl (kp_rd k n h)
  · exact .inr h
theorem kp1_sqL (k : Kp [b] H H') (n : p ≠ b) (h : SqL K H p xs) : SqL K H' p xs := kp_sqL k (by simpa using n) h
/-- a tuple is not what may change -/
def Mu (H : Hp) (S : List Addr) : Prop := ∀ b ∈ S, Mut (H b)
theorem Mu.nil {H : Hp} : Mu H [] := fun _ h => nomatch h
theorem Mu.lst {ys : List V} (h : H b = some (.lst ys)) : Mu H [b] := fun c hc => by
  have e : c = b := by simpa using hc
  rw [e, h]
  exact True.intro
theorem Mu.cons (m : Mut (H b)) (h : Mu H S) : Mu H (b :: S) := fun c hc => by
  rcases List.mem_cons.mp hc with e | e
  · rw [e]
    exact m
  · exact h c e
theorem mu_sqT (k : Kp S H H') (m : Mu H S) (h : SqT K H p xs) : SqT K H' p xs := by
  rcases h with h | h
  · left
    rcases h with h | ⟨o, h⟩
    · exact .inl (k p _ (fun z => by have := m p z; rw [h] at this; exact this) h)
    · exact .inr ⟨o, k p _ (fun z => by have := m p z; rw [h] at this; exact this) h⟩
  · exact .inr h
end
section
variable {H : Hp} {Q : VK} {X : Cx} {K : PySem.W.Frag}
/-- len of a list, a tuple, a text -/
def rLenV (K : PySem.W.Frag) : List V → Hp → VK → Prop := fun xs H Q => rLenQ K xs H Q ∨ rLenS xs H Q
theorem c_lenV : CallR X (.builtin "len") (rLenV X.K) := c_len.or c_lenS
end
/-! ### comprehensions, loops -/
section
variable {σ : St} {H : Hp} {Q : VK} {R : It → Hp → Prop}
theorem r_lc {wi : TI} {g : TG} {tt : TT} {te : TE} {vs : List Nat} (h : wi σ H fun J H1 => ∀ D, H1 D = none → ∃ W : Nat → Nat → Hp → Prop, (∃ m, W 0 m (upd H1 D (.lst []))) ∧ ∀ i m H, W i m H →
  (J.stop i H ∧ Q (.ref D) H) ∨ (J.go i H ∧ ∃ Nx : Hp → Prop, (∀ H', Nx H' → ∃ m', m' < m ∧ W (i + 1) m' H') ∧ ∀ x H', J.yld i H x H' → g x (wipe σ vs) H' fun σ2 H2 => wipe σ2 vs = wipe σ vs ∧ tt σ2 H2 fun b H3 =>
    if b = true then te σ2 H3 fun y H4 => ∃ acc, H4 D = some (.lst acc) ∧ acc.length < sizeLine ∧ Nx (upd H4 D (.lst (acc ++ [y]))) else Nx H3)) : tLc wi g tt te vs σ H Q := h
theorem r_rng1 {ta : TA} (h : ta σ H fun vs H1 => ∃ j : Int, vs = [.int j] ∧ -(2 ^ 62) ≤ j ∧ j < 2 ^ 62 ∧ R (Itr 0 j.toNat) H1) : iRng1 ta σ H R := h
theorem r_rngv {j : Int} {q : Int → Prop} (h0 : -(2 ^ 62) ≤ j) (h1 : j < 2 ^ 62) (h : q j) : ∃ j', [V.int j] = [V.int j'] ∧ -(2 ^ 62) ≤ j' ∧ j' < 2 ^ 62 ∧ q j' := ⟨j, rfl, h0, h1, h⟩
theorem r_yes {Q : Bool → Hp → Prop} (h : Q true H) : tYes σ H Q := h
theorem r_tt {A B : Prop} (h : A) : if true = true then A else B := by rw [if_pos rfl]; exact h
theorem r_ff {A B : Prop} (h : B) : if false = true then A else B := by rw [if_neg Bool.false_ne_true]; exact h
theorem r_m1 {r : V → List V → Hp → VK → Prop} {to te : TE} (h : to σ H fun x H1 => (∃ a, x = .str a) ∧ te σ H1 fun y H2 => r x [y] H2 Q) : tM1 r to te σ H Q := h
theorem r_m0 {r : V → List V → Hp → VK → Prop} {to : TE} (h : to σ H fun x H1 => (∃ a, x = .str a) ∧ r x [] H1 Q) : tM0 r to σ H Q := h
theorem r_isS {z : Str} {q : Prop} (h : q) : (∃ a, V.str z = V.str a) ∧ q := ⟨⟨z, rfl⟩, h⟩
end
/-- what a comprehension has made so far stands at D -/
def PvL (D : Addr) (R : Nat → List V → Hp → Prop) (i : Nat) (H : Hp) : Prop := ∃ acc, H D = some (.lst acc) ∧ acc.length ≤ i ∧ R i acc H
theorem PvL.step {D : Addr} {R : Nat → List V → Hp → Prop} {i : Nat} {H : Hp} {acc : List V} {y : V} (h : H D = some (.lst acc)) (l : acc.length ≤ i) (li : i < 1000000) (r : R (i + 1) (acc ++ [y]) (upd H D (.lst (acc ++ [y])))) :
    ∃ acc, H D = some (.lst acc) ∧ acc.length < sizeLine ∧ PvL D R (i + 1) (upd H D (.lst (acc ++ [y]))) :=
  ⟨acc, h, by rw [sizeLine_eq]; omega, acc ++ [y], upd_same, by rw [List.length_append, List.length_singleton]; omega, r⟩
theorem PvL.skip {D : Addr} {R : Nat → List V → Hp → Prop} {i : Nat} {H : Hp} {acc : List V} (h : H D = some (.lst acc)) (l : acc.length ≤ i) (r : R (i + 1) acc H) : PvL D R (i + 1) H := ⟨acc, h, by omega, r⟩
/-! ### cells -/
def Cell (c : Str) : Prop := 1 ≤ c.length ∧ c.length ≤ 8 ∧ ∀ x ∈ c.cps.toList, 97 ≤ x ∧ x ≤ 122
def Cells (cs : List Str) : Prop := cs.Nodup ∧ ∀ c ∈ cs, Cell c
/-! ### texts -/
section
variable {σ : St} {H : Hp} {Q : VK} {X : Cx} {K : PySem.W.Frag}
def rAddS : R2 := fun x y H Q => ∃ i j, x = .str i ∧ y = .str j ∧ i.length + j.length ≤ sizeLine ∧ Q (.str (i ++ j)) H
theorem op_addS : OpR X (binaryOp .Add) rAddS := op_add_str
theorem r_addS {i j : Str} (l : i.length + j.length ≤ sizeLine) (h : Q (.str (i ++ j)) H) : rAddS (.str i) (.str j) H Q := ⟨i, j, rfl, rfl, l, h⟩
def rJoin (K : PySem.W.Frag) : V → List V → Hp → VK → Prop := fun x xs H Q => ∃ a p, ∃ ys : List Str, x = .str a ∧ xs = [.ref p] ∧ (SqL K H p (ys.map V.str) ∨ SqT K H p (ys.map V.str)) ∧ (ys.map (·.length)).sum + ys.length * a.length ≤ 16777216 ∧ Q (.str (Txt.join a ys)) H
theorem pe_joinV {o e : Expr} {to te : TE} {apos pos : Pos} (ho : PE X o to) (he : PE X e te) (hs : starEach [e] X.env = [(false, eval e X.env)] := by rfl) (hbase : attributeBase o "join" X.env (eval o X.env) = eval o X.env := by rfl) (hline : (apos.endLine == pos.line) = true := by rfl) :
    PE X (.Call (.Attribute o "join" apos) [e] [] pos) (tM1 (rJoin X.K) to te) := pe_join ho he hs hbase hline
theorem r_join {a : Str} {p : Addr} {ys : List Str} (h : H p = some (.lst (ys.map V.str))) (l : (ys.map (·.length)).sum + ys.length * a.length ≤ 16777216) (q : Q (.str (Txt.join a ys)) H) : rJoin K (.str a) [.ref p] H Q := ⟨a, p, ys, rfl, rfl, .inl (.inl (.inl h)), l, q⟩
theorem r_slS {z : Str} {lo hi : Option Int} (l : z.length ≤ sizeLine) (q : Q (.str (cutS z lo hi)) H) : rSlS (.str z) lo hi H Q := ⟨z, rfl, l, q⟩
theorem r_ixS {z : Str} {i : Int} {c : Nat} (l : z.length ≤ sizeLine) (a : atI z.cps.toList i = some c) (q : Q (.str ⟨#[c]⟩) H) : rIxS (.str z) (.int i) H Q := ⟨z, i, c, rfl, rfl, l, a, q⟩
theorem r_gtup {n : Nat} {t : TGs} {p : Addr} {xs : List V} {Q : St → Hp → Prop} (h : H p = some (.tup xs)) (l : xs.length = n) (q : t xs σ H Q) : gTup K n t (.ref p) σ H Q := ⟨p, xs, rfl, .inl (.inl h), l, q⟩
theorem r_gtupS {n : Nat} {t : TGs} {p : Addr} {xs : List V} {Q : St → Hp → Prop} (h : SqT K H p xs) (l : xs.length = n) (q : t xs σ H Q) : gTup K n t (.ref p) σ H Q := ⟨p, xs, rfl, h, l, q⟩
theorem r_gcons {t : TG} {u : TGs} {v : V} {r : List V} {Q : St → Hp → Prop} (h : t v σ H fun σ' H' => u r σ' H' Q) : gCons t u (v :: r) σ H Q := ⟨v, r, rfl, h⟩
theorem r_gnil {Q : St → Hp → Prop} (h : Q σ H) : gNil [] σ H Q := ⟨rfl, h⟩
end
abbrev low (l : List Nat) : Prop := ∀ x ∈ l, 97 ≤ x ∧ x ≤ 122
theorem len_tl (z : Str) : z.length = z.cps.toList.length := by simp [Str.length]
theorem joinL_flat : ∀ ps : List (List Nat), TL.joinL [] ps = ps.flatten
  | [] => rfl
  | [p] => by simp [TL.joinL]
  | p :: q :: r => by
    show p ++ ([] ++ TL.joinL [] (q :: r)) = _
    rw [joinL_flat (q :: r), List.nil_append]
    rfl
theorem tl_joined {e : Str} (he : e.cps.toList = []) (ys : List Str) : (Txt.join e ys).cps.toList = (ys.map fun z => z.cps.toList).flatten := by
  rw [TL.join_eq]
  have := TL.tl_join e ys
  rw [show TL.tl e = [] from he, joinL_flat] at this
  exact this
/-! ### new objects, at a letter of a heap -/
@[elab_as_elim] theorem gen_new {P : Hp → Prop} {H : Hp} {p : Addr} {o : HO} (np : H p = none) (h : ∀ H', Kp [] H H' → H' p = some o → P H') : P (upd H p o) := h _ (Kp.new np) upd_same
theorem Kp.to1 {S : List Addr} {H H' : Hp} (k : Kp [] H H') : Kp S H H' := fun a o _ e => k a o (by simp) e
theorem Kp.none0 {H H' : Hp} {S : List Addr} {a : Addr} (k : Kp S H H') (n : a ∉ S) (e : H' a = none) : H a = none := by
  cases q : H a with
  | none => rfl
  | some o =>
    rw [k a o n q] at e
    cases e
theorem Kp.new0 {S : List Addr} {p : Addr} {H H' : Hp} {o : HO} (k : Kp S H H') (n : H p = none) : Kp S H (L2.upd H' p o) := fun a u h e => by
  rw [L2.upd_ne (ne_of_none e n)]
  exact k a u h e
theorem Kp.putNew {b p : Addr} {H H' : Hp} {o : HO} (k : Kp [b] H H') (n : H p = none) : Kp [b] H (L2.upd H' p o) := fun a u h e => by
  rw [L2.upd_ne (ne_of_none e n)]
  exact k a u h e
theorem nin1 {a b : Addr} (h : a ≠ b) : a ∉ [b] := by simpa using h
theorem str_ext {x y : Str} (h : x.cps.toList = y.cps.toList) : x = y := by
  have e : x.cps = y.cps := Array.toList_inj.mp h
  cases x
  cases y
  cases e
  rfl
theorem tl_cat (x y : Str) : (x ++ y).cps.toList = x.cps.toList ++ y.cps.toList := TL.tl_append x y
theorem cut_lo (z : Str) (c : Nat) : (cutS z none (some (c : Int))).cps.toList = z.cps.toList.take c := by
  unfold cutS
  show List.take (HT.sIx z.length z.length (some (c : Int)) - HT.sIx z.length 0 none) (List.drop (HT.sIx z.length 0 none) z.cps.toList) = _
  rw [HT.sIx_nat, HT.sIx_none, List.drop_zero, Nat.sub_zero, len_tl]
  by_cases h : c ≤ z.cps.toList.length
  · rw [Nat.min_eq_left h]
  · rw [Nat.min_eq_right (by omega), List.take_of_length_le (Nat.le_refl _), List.take_of_length_le (by omega)]
theorem cut_hi (z : Str) (c : Nat) : (cutS z (some (c : Int)) none).cps.toList = z.cps.toList.drop c := by
  unfold cutS
  show List.take (HT.sIx z.length z.length none - HT.sIx z.length 0 (some (c : Int))) (List.drop (HT.sIx z.length 0 (some (c : Int))) z.cps.toList) = _
  rw [HT.sIx_nat, HT.sIx_none, len_tl]
  by_cases h : c ≤ z.cps.toList.length
  · rw [Nat.min_eq_left h, List.take_of_length_le (by rw [List.length_drop]; omega)]
  · rw [Nat.min_eq_right (by omega), List.drop_of_length_le (Nat.le_refl _), List.drop_of_length_le (by omega), List.take_nil]
/-! ### sorted, in words -/
section
variable {H : Hp} {Q : VK} {K : PySem.W.Frag} {X : Cx}
theorem sort_facts (zs : List (PyData × V)) : (zs.mergeSort (PySem.W.dataLe false Prod.fst)).Perm zs ∧ (zs.mergeSort (PySem.W.dataLe false Prod.fst)).Pairwise (fun a b => PySem.W.dataLt b.1 a.1 = false) := by
  refine ⟨List.mergeSort_perm _ _, ?_⟩
  have h := PySem.W.sort_pairwise (PySem.W.sortLe_total (listOrd itemOrd) false fun b : PyData × V => PySem.W.keyToks b.1) zs
  refine h.imp fun {a b} e => ?_
  have e' : (!PySem.W.dataLt b.1 a.1) = true := e
  simpa using e'
theorem r_sort {a : Addr} {ys : List V} {ds : List PyData} (hs : SqL K H a ys ∨ SqT K H a ys) (hd : DpAll K H ys ds) (sb : Sb ds)
    (h : ∀ (p : Addr) (zs : List (PyData × V)), zs.Perm (ds.zip ys) → zs.Pairwise (fun a b => PySem.W.dataLt b.1 a.1 = false) → H p = none → Q (.ref p) (upd H p (.lst (zs.map Prod.snd)))) : rSortV K [.ref a] H Q :=
  ⟨a, ys, ds, rfl, hs, hd, sb, fun p np => h p _ (sort_facts _).1 (sort_facts _).2 np⟩
theorem perm_map_inv {α β : Type} {f : α → β} {g : β → α} (hg : ∀ a, g (f a) = a) {xs : List α} {zs : List β} (h : zs.Perm (xs.map f)) : ∃ ys : List α, ys.Perm xs ∧ zs = ys.map f := by
  refine ⟨zs.map g, ?_, ?_⟩
  · have := h.map g
    rw [List.map_map, show g ∘ f = id from funext hg, List.map_id] at this
    exact this
  · rw [List.map_map]
    refine (List.map_congr_left (g := id) fun z hz => ?_).trans (List.map_id _) |>.symm
    obtain ⟨x, _, rfl⟩ := List.mem_map.mp (h.mem_iff.mp hz)
    show f (g (f x)) = f x
    rw [hg]
theorem dpAll_ints : ∀ ns : List Int, DpAll K H (ns.map V.int) (ns.map PyData.int)
  | [] => .nil
  | n :: r => .cons (.int n) (dpAll_ints r)
theorem dpAll_strs : ∀ ns : List Str, DpAll K H (ns.map V.str) (ns.map PyData.str)
  | [] => .nil
  | n :: r => .cons (.str n) (dpAll_strs r)
theorem zip_maps {α β γ : Type} (f : α → β) (g : α → γ) : ∀ xs : List α, (xs.map f).zip (xs.map g) = xs.map fun x => (f x, g x)
  | [] => rfl
  | x :: xs => by rw [List.map_cons, List.map_cons, List.zip_cons_cons, zip_maps f g xs, List.map_cons]
theorem sb_ints (ns : List Int) : Sb (ns.map PyData.int) := by
  refine ⟨PySem.W.AllAlike.of fun _ _ => by simp [PySem.W.alike], fun d hd => ?_, .inl (PySem.W.Sortable.others fun _ => ⟨by simp, by simp⟩)⟩
  obtain ⟨n, _, rfl⟩ := List.mem_map.mp hd
  exact ⟨by simp [PyData.depth], by simp⟩
theorem sb_strs (ns : List Str) : Sb (ns.map PyData.str) := by
  refine ⟨PySem.W.AllAlike.of fun _ _ => by simp [PySem.W.alike], fun d hd => ?_, .inl (PySem.W.Sortable.others fun _ => ⟨by simp, by simp⟩)⟩
  obtain ⟨n, _, rfl⟩ := List.mem_map.mp hd
  exact ⟨by simp [PyData.depth], by simp⟩
theorem r_sortI {a : Addr} {ns : List Int} (hs : SqL K H a (ns.map V.int) ∨ SqT K H a (ns.map V.int)) (h : ∀ (p : Addr) (ms : List Int), ms.Perm ns → ms.Pairwise (· ≤ ·) → H p = none → Q (.ref p) (upd H p (.lst (ms.map V.int)))) : rSortV K [.ref a] H Q := by
  refine r_sort hs (dpAll_ints ns) (sb_ints ns) fun p zs hp hw np => ?_
  rw [zip_maps] at hp
  obtain ⟨ms, pm, rfl⟩ := perm_map_inv (f := fun n : Int => (PyData.int n, V.int n)) (g := fun z => match z.1 with | .int i => i | _ => 0) (fun _ => rfl) hp
  rw [List.map_map]
  refine h p ms pm ?_ np
  rw [List.pairwise_map] at hw
  refine hw.imp fun {x y} e => ?_
  rw [PySem.W.dataLt_int] at e
  have := of_decide_eq_false e
  omega
theorem r_sortS {a : Addr} {ns : List Str} (hs : SqL K H a (ns.map V.str) ∨ SqT K H a (ns.map V.str)) (h : ∀ (p : Addr) (ms : List Str), ms.Perm ns → ms.Pairwise (fun x y => ¬ y.cps.toList < x.cps.toList) → H p = none → Q (.ref p) (upd H p (.lst (ms.map V.str)))) : rSortV K [.ref a] H Q := by
  refine r_sort hs (dpAll_strs ns) (sb_strs ns) fun p zs hp hw np => ?_
  rw [zip_maps] at hp
  obtain ⟨ms, pm, rfl⟩ := perm_map_inv (f := fun n : Str => (PyData.str n, V.str n)) (g := fun z => match z.1 with | .str i => i | _ => Str.empty) (fun _ => rfl) hp
  rw [List.map_map]
  refine h p ms pm ?_ np
  rw [List.pairwise_map] at hw
  refine hw.imp fun {x y} e => ?_
  rw [PySem.W.dataLt_str] at e
  exact of_decide_eq_false e
/-! in, not in: a list of ints, of texts -/
theorem inV_int (i : Int) : ∀ ns : List Int, inV (.int i) (ns.map V.int) = decide (i ∈ ns)
  | [] => by simp [inV]
  | n :: r => by
    have ih := inV_int i r
    unfold inV at ih ⊢
    rw [List.map_cons, List.any_cons, ih, Bool.eq_iff_iff]
    simp [eqV]
    exact or_congr eq_comm Iff.rfl
theorem inV_str (i : Str) : ∀ ns : List Str, inV (.str i) (ns.map V.str) = decide (i ∈ ns)
  | [] => by simp [inV]
  | n :: r => by
    have ih := inV_str i r
    unfold inV at ih ⊢
    rw [List.map_cons, List.any_cons, ih, Bool.eq_iff_iff]
    simp [eqV]
    exact or_congr eq_comm Iff.rfl
theorem flat_ints (ns : List Int) : (ns.map V.int).all flatV = true := by
  rw [List.all_eq_true]
  intro x hx
  obtain ⟨n, _, rfl⟩ := List.mem_map.mp hx
  rfl
theorem flat_strs (ns : List Str) : (ns.map V.str).all flatV = true := by
  rw [List.all_eq_true]
  intro x hx
  obtain ⟨n, _, rfl⟩ := List.mem_map.mp hx
  rfl
theorem r_inI {p : Addr} {i : Int} {ns : List Int} (h : SqL K H p (ns.map V.int) ∨ SqT K H p (ns.map V.int)) (q : Q (.bl (decide (i ∈ ns))) H) : rIn K false (.int i) (.ref p) H Q := ⟨p, _, rfl, h, rfl, flat_ints ns, by rw [inV_int]; exact q⟩
theorem r_notinI {p : Addr} {i : Int} {ns : List Int} (h : SqL K H p (ns.map V.int) ∨ SqT K H p (ns.map V.int)) (q : Q (.bl (!decide (i ∈ ns))) H) : rIn K true (.int i) (.ref p) H Q := ⟨p, _, rfl, h, rfl, flat_ints ns, by rw [inV_int]; exact q⟩
theorem r_inS {p : Addr} {i : Str} {ns : List Str} (h : SqL K H p (ns.map V.str) ∨ SqT K H p (ns.map V.str)) (q : Q (.bl (decide (i ∈ ns))) H) : rIn K false (.str i) (.ref p) H Q := ⟨p, _, rfl, h, rfl, flat_strs ns, by rw [inV_str]; exact q⟩
theorem r_notinS {p : Addr} {i : Str} {ns : List Str} (h : SqL K H p (ns.map V.str) ∨ SqT K H p (ns.map V.str)) (q : Q (.bl (!decide (i ∈ ns))) H) : rIn K true (.str i) (.ref p) H Q := ⟨p, _, rfl, h, rfl, flat_strs ns, by rw [inV_str]; exact q⟩
end
section
variable {σ : St} {H : Hp} {Q : VK} {K : PySem.W.Frag} {nx : St → Hp → Prop} {rt : VK} {bk ct : St → Hp → Prop}
theorem r_for {wi : TI} {g : TG} {tb : TS} {D : Ends} (h : wi σ H fun J H1 => ∃ W : Nat → Nat → St → Hp → Prop, (∃ m, W 0 m σ H1) ∧ ∀ i m σ H, W i m σ H →
  (J.stop i H ∧ D.nx σ H) ∨ (J.go i H ∧ ∃ N : St → Hp → Prop, (∀ σ' H', N σ' H' → ∃ m', m' < m ∧ W (i + 1) m' σ' H') ∧ ∀ x H', J.yld i H x H' → g x σ H' fun σ2 H2 => tb { D with nx := N, ct := N, bk := D.nx } σ2 H2)) : tFor wi g tb D σ H := h
theorem r_ilist {tl : TE} {R : It → Hp → Prop} (h : tl σ H fun x H1 => ∃ a, x = .ref a ∧ (∃ xs, SqL K H1 a xs) ∧ R (Itl K a) H1) : iList K tl σ H R := h
theorem r_itup {tl : TE} {R : It → Hp → Prop} (h : tl σ H fun x H1 => ∃ a, x = .ref a ∧ (∃ xs, SqT K H1 a xs) ∧ R (Itt K a) H1) : iTup K tl σ H R := h
theorem r_walkL {a : Addr} {xs : List V} {q : Addr → Prop} (h : SqL K H a xs) (k : q a) : ∃ a', V.ref a = .ref a' ∧ (∃ xs, SqL K H a' xs) ∧ q a' := ⟨a, rfl, ⟨xs, h⟩, k⟩
theorem r_walkT {a : Addr} {xs : List V} {q : Addr → Prop} (h : SqT K H a xs) (k : q a) : ∃ a', V.ref a = .ref a' ∧ (∃ xs, SqT K H a' xs) ∧ q a' := ⟨a, rfl, ⟨xs, h⟩, k⟩
theorem r_pickI {p : Addr} {ns : List Int} {i : Int} (h : SqL K H p (ns.map V.int)) (h0 : 0 ≤ i) (h1 : i < ns.length) (q : ∀ m ∈ ns, Q (.int m) H) : rIxL K (.ref p) (.int i) H Q := by
  obtain ⟨v, e, m⟩ := atI_int (xs := ns.map V.int) h0 (by rw [List.length_map]; exact h1)
  obtain ⟨j, hj, rfl⟩ := List.mem_map.mp m
  exact r_ixL h e (q j hj)
theorem r_app {l : Addr} {xs : List V} {y : V} (h : H l = some (.lst xs)) (z : xs.length < 1000000) (q : Q .non (upd H l (.lst (xs ++ [y])))) : tyV K "list" (.ref l) H ∧ rAppend (.ref l) [y] H Q :=
  ⟨.inl ⟨rfl, xs, .inl (.inl h)⟩, l, xs, y, rfl, rfl, h, by rw [sizeLine_eq]; omega, q⟩
end
section
variable {X : Cx} {K : PySem.W.Frag} {H : Hp} {Q : VK}
/-- a tuple made here: its object has no dict of its own -/
def Tm (H : Hp) (a : Addr) (xs : List V) : Prop := ∃ o : Obj, H a = some (.frz o (.tup xs)) ∧ o.dict = none
theorem Tm.sq {a : Addr} {xs : List V} (h : Tm H a xs) : SqT K H a xs := by
  obtain ⟨o, e, _⟩ := h
  exact .inl (.inr ⟨o, e⟩)
theorem Tm.keep {S : List Addr} {H' : Hp} {a : Addr} {xs : List V} (h : Tm H a xs) (k : Kp S H H') (n : a ∉ S) : Tm H' a xs := by
  obtain ⟨o, e, d⟩ := h
  exact ⟨o, k a _ n e, d⟩
theorem Tm.keep0 {H' : Hp} {a : Addr} {xs : List V} (h : Tm H a xs) (k : Kp [] H H') : Tm H' a xs := h.keep k (by simp)
theorem Tm.keepM {S : List Addr} {H' : Hp} {a : Addr} {xs : List V} (h : Tm H a xs) (k : Kp S H H') (m : Mu H S) : Tm H' a xs := by
  refine h.keep k fun z => ?_
  obtain ⟨o, e, _⟩ := h
  have := m a z
  rw [e] at this
  exact this
def tTupF (t : TA) : TE := fun σ H Q => t σ H fun xs H1 => xs.length ≤ sizeLine ∧ ∀ (p : Addr) (o : Obj), H1 p = none → o.dict = none → Q (.ref p) (upd H1 p (.frz o (.tup xs)))
theorem pe_tupF {es : List Expr} {t : TA} {pos : Pos} {x1 : Nat} (h : PA X es t) : PE X (.Tuple es x1 pos) (tTupF t) := by
  refine ⟨fun pins s σ H Q I hq => ?_⟩
  refine wpAny_Tuple_spliced (thn (h.run pos pins s σ H _ I hq) fun us s1 ⟨xs, H1, I1, r, z, q⟩ => ⟨by rw [← r.length]; exact z, ?_⟩)
  have hf : H1 s1.heap.objs.size = none := I1.hok.fresh (Nat.le_refl _)
  refine ⟨.ref s1.heap.objs.size, upd H1 s1.heap.objs.size (.frz _ (.tup xs)), I1.laid (t' := s1.toks) (fun b u e => Heap.get?_push_of_some _ e) (Nat.le_refl _) ⟨Heap.get?_push_size _ rfl, ?_⟩, rfl, q _ _ hf rfl⟩
  exact ⟨z, us, r, ⟨_, Heap.get?_push_size _ rfl, rfl, _, rfl⟩⟩
theorem r_tupF {σ : St} {t : TA} (h : t σ H fun xs H1 => xs.length ≤ sizeLine ∧ ∀ (p : Addr) (o : Obj), H1 p = none → o.dict = none → Q (.ref p) (upd H1 p (.frz o (.tup xs)))) : tTupF t σ H Q := h
theorem r_newT {xs : List V} (e : Nat.ble xs.length 1000 = true) (h : ∀ (p : Addr) (H' : Hp), H p = none → Kp [] H H' → Tm H' p xs → Q (.ref p) H') : xs.length ≤ sizeLine ∧ ∀ (p : Addr) (o : Obj), H p = none → o.dict = none → Q (.ref p) (upd H p (.frz o (.tup xs))) :=
  ⟨Nat.le_of_lt (small1000 (Nat.le_of_ble_eq_true e)), fun p o np od => h p _ np (Kp.new np) ⟨o, upd_same, od⟩⟩
theorem r_newF {xs : List V} {q : Addr → Obj → Prop} (e : Nat.ble xs.length 1000 = true) (h : ∀ (p : Addr) (o : Obj), H p = none → o.dict = none → q p o) : xs.length ≤ sizeLine ∧ ∀ (p : Addr) (o : Obj), H p = none → o.dict = none → q p o :=
  ⟨Nat.le_of_lt (small1000 (Nat.le_of_ble_eq_true e)), h⟩
@[elab_as_elim] theorem gen_newT {P : Hp → Prop} {p : Addr} {o : Obj} {xs : List V} (np : H p = none) (od : o.dict = none) (h : ∀ H', Kp [] H H' → Tm H' p xs → P H') : P (upd H p (.frz o (.tup xs))) := h _ (Kp.new np) ⟨o, upd_same, od⟩
/-- tuple(x), list(x), x a list or a tuple -/
def rTupOf (K : PySem.W.Frag) : List V → Hp → VK → Prop := fun xs H Q => ∃ p ys, xs = [.ref p] ∧ ((SqL K H p ys ∧ ∀ (l : Addr) (o : Obj), H l = none → o.dict = none → Q (.ref l) (upd H l (.frz o (.tup ys)))) ∨ (SqT K H p ys ∧ Q (.ref p) H))
def rListOf (K : PySem.W.Frag) : List V → Hp → VK → Prop := fun xs H Q => ∃ p ys, xs = [.ref p] ∧ (SqL K H p ys ∨ SqT K H p ys) ∧ ∀ l, H l = none → Q (.ref l) (upd H l (.lst ys))
theorem c_tuple : CallR X (.type "tuple") (rTupOf X.K) := by
  intro pins s σ H xs us Q I r h
  obtain ⟨p, ys, rfl, h⟩ := h
  obtain ⟨u, rfl, rx⟩ := vals1 r
  cases rx
  rcases h with ⟨hq, q⟩ | ⟨hq, q⟩
  · obtain ⟨its, r', pl, hz⟩ := I.list hq
    have hlen := r'.length
    refine call_tuple_list pl.isList (fun h' kp => ?_) (by simp only [List.size_toArray] <;> omega)
    have I1 : Inv X pins σ H { s with heap := h' } := I.kept (t' := s.toks) kp
    have I2 : Inv X pins σ (upd H h'.objs.size (.frz { cls := .type "tuple", data := .seq its.toArray } (.tup ys))) { s with heap := h'.push { cls := .type "tuple", data := .seq its.toArray } } :=
      I1.laid (t' := s.toks) (fun b o e => Heap.get?_push_of_some _ e) (Nat.le_refl _) (show ObjOk X.prog X.w _ _ _ (.frz _ (.tup ys)) from ⟨Heap.get?_push_size _ rfl, hz, its, r', IsTup.new _ _⟩)
    exact ⟨.ref h'.objs.size, _, I2, rfl, q _ _ (I1.hok.fresh (Nat.le_refl _)) rfl⟩
  · obtain ⟨its, r', pl, hz⟩ := I.tuple hq
    exact call_tuple_same pl ⟨.ref p, H, I, rfl, q⟩
theorem c_list : CallR X (.type "list") (rListOf X.K) := call_list_of
theorem r_tupL {p : Addr} {ys : List V} (h : H p = some (.lst ys)) (q : ∀ (l : Addr) (H' : Hp), H l = none → Kp [] H H' → Tm H' l ys → Q (.ref l) H') : rTupOf K [.ref p] H Q := ⟨p, ys, rfl, .inl ⟨.inl (.inl h), fun l o nl od => q l _ nl (Kp.new nl) ⟨o, upd_same, od⟩⟩⟩
theorem r_listOf {p : Addr} {ys : List V} (h : SqL K H p ys ∨ SqT K H p ys) (q : ∀ l, H l = none → Q (.ref l) (upd H l (.lst ys))) : rListOf K [.ref p] H Q := ⟨p, ys, rfl, h, q⟩
theorem r_gtupP {σ : St} {n : Nat} {t : TGs} {p : Addr} {xs : List V} {Q : St → Hp → Prop} (h : Tm H p xs) (l : xs.length = n) (q : t xs σ H Q) : gTup K n t (.ref p) σ H Q := ⟨p, xs, rfl, h.sq, l, q⟩
/-- t + u -/
def rCatF (K : PySem.W.Frag) : R2 := fun x y H Q => ∃ a b xs ys, x = .ref a ∧ y = .ref b ∧ SqT K H a xs ∧ SqT K H b ys ∧ xs.length + ys.length ≤ sizeLine ∧
  (xs = [] → Q (.ref b) H) ∧ (xs ≠ [] → ys = [] → Q (.ref a) H) ∧ (xs ≠ [] → ys ≠ [] → ∀ (p : Addr) (o : Obj), H p = none → o.dict = none → Q (.ref p) (upd H p (.frz o (.tup (xs ++ ys)))))
theorem nil_of {xs : List V} {us : List Value} (r : Vals xs us) : us = [] ↔ xs = [] := by
  cases r with
  | nil => simp
  | cons _ _ => simp
theorem op_catF : OpR X (binaryOp .Add) (rCatF X.K) := by
  intro pins s σ H x y v u Q I rx ry h
  obtain ⟨a, b, xs, ys, rfl, rfl, ha, hb, hz, q0, q1, q2⟩ := h
  cases rx
  cases ry
  obtain ⟨its, r1, p1, _⟩ := I.tuple ha
  obtain ⟨its2, r2, p2, _⟩ := I.tuple hb
  by_cases hx : xs = []
  · subst hx
    cases r1
    exact L2.cat_tup0 p1 p2 ⟨.ref b, H, I, rfl, q0 rfl⟩
  · refine HT.cat_tup p1 p2 (fun z => hx ((nil_of r1).mp z)) (fun z => ⟨.ref a, H, I, rfl, q1 hx ((nil_of r2).mp z)⟩) (fun z => ?_) (by rw [← r1.length, ← r2.length]; exact hz)
    refine ⟨.ref s.heap.objs.size, _, I.laid (t' := s.toks) (o := .frz _ (.tup (xs ++ ys))) (fun b ob q => Heap.get?_push_of_some _ q) (Nat.le_refl _) ⟨Heap.get?_push_size _ rfl, ?_⟩, rfl, q2 hx (fun w => z ((nil_of r2).mpr w)) _ _ (I.hok.fresh (Nat.le_refl _)) rfl⟩
    exact ⟨by rw [List.length_append]; exact hz, _, r1.append r2, IsTup.new _ _⟩
theorem r_catF {a b : Addr} {xs ys : List V} (ha : Tm H a xs) (hb : Tm H b ys) (l : xs.length + ys.length ≤ 1000000) (h : ∀ (p : Addr) (H' : Hp), Kp [] H H' → Tm H' p (xs ++ ys) → Q (.ref p) H') : rCatF K (.ref a) (.ref b) H Q := by
  refine ⟨a, b, xs, ys, rfl, rfl, ha.sq, hb.sq, by rw [sizeLine_eq]; omega, fun e => ?_, fun e e2 => ?_, fun e e2 p o np od => ?_⟩
  · refine h b H Kp.refl ?_
    rw [e]
    exact hb
  · refine h a H Kp.refl ?_
    rw [e2, List.append_nil]
    exact ha
  · exact h p _ (Kp.new np) ⟨o, upd_same, od⟩
/-- dict(x), x a list of pairs or a tuple of pairs made here -/
def rDictP (K : PySem.W.Frag) : List V → Hp → VK → Prop := fun xs H Q => ∃ (a : Addr) (ps : List Addr) (kvs : List (Key × V)), xs = [.ref a] ∧ (SqL K H a (ps.map V.ref) ∨ Tm H a (ps.map V.ref)) ∧ Paired (fun p kv => SqT K H p [kV kv.1, kv.2]) ps kvs ∧
  ∀ p, H p = none → Q (.ref p) (upd H p (.dK (mergeK [] kvs)))
theorem c_dictP (hcalm : X.calm = true) : CallR X (.type "dict") (rDictP X.K) := by
  intro pins s σ H xs us Q I r h
  obtain ⟨a, ps, kvs, ex, hq, hp, q⟩ := h
  rcases hq with hq | hq
  · exact call_dictP hcalm pins s σ H xs us Q I r ⟨a, ps, kvs, ex, hq, hp, q⟩
  subst ex
  obtain ⟨u, eu, rx⟩ := vals1 r
  subst eu
  cases rx
  obtain ⟨ob, eo, od⟩ := hq
  obtain ⟨ho, hz, its, rv, ⟨ob', ho', hc, n, hd⟩⟩ := (show ObjOk X.prog X.w H s.heap a (.frz ob (.tup (ps.map V.ref))) from I.hok a _ eo)
  have ee : ob' = ob := Option.some.inj (ho'.symm.trans ho)
  subst ee
  have ei := refs_at rv
  subst ei
  rw [List.length_map] at hz
  obtain ⟨prs, rel, hl, hpr⟩ := pairs_of I hp
  let us : Nat → Value := fun j => match ps[j]? with
    | some b => match s.heap.get? b with
      | some o => match o.data with
        | .seq its _ => its.getD 0 .none
        | _ => .none
      | none => .none
    | none => .none
  have hus : ∀ (j : Nat) (q : Key × Value), prs[j]? = some q → ∃ b, ps[j]? = some b ∧ IsTup s.heap b #[us j, q.2] ∧ (mixKind X.prog X.w).is q.1 (us j) = true := by
    intro j q' e
    obtain ⟨b, u, e1, e2, e3⟩ := hpr j q' e
    have eu : us j = u := by
      obtain ⟨o, g1, g2, m, g3⟩ := e2
      show (match ps[j]? with
        | some b => match s.heap.get? b with
          | some o => match o.data with
            | .seq its _ => its.getD 0 .none
            | _ => .none
          | none => .none
        | none => .none) = u
      rw [e1]
      simp only [g1, g3]
      rfl
    rw [eu]
    exact ⟨b, e1, e2, e3⟩
  have hlz : ((List.range prs.length).map fun j => (us j, ((prs[j]?.map Prod.snd).getD .none))).length = prs.length := by rw [List.length_map, List.length_range]
  have hat : ∀ j k v, ((List.range prs.length).map fun j => (us j, ((prs[j]?.map Prod.snd).getD .none)))[j]? = some (k, v) → ∃ q, prs[j]? = some q ∧ k = us j ∧ v = q.2 := by
    intro j k v e
    rw [List.getElem?_map] at e
    by_cases hj : j < prs.length
    · rw [List.getElem?_range hj] at e
      have e' : (us j, ((prs[j]?.map Prod.snd).getD .none)) = (k, v) := Option.some.inj e
      rw [List.getElem?_eq_getElem hj] at e' ⊢
      injection e' with e1 e2
      exact ⟨_, rfl, e1.symm, e2.symm⟩
    · rw [List.getElem?_eq_none (by rw [List.length_range]; omega)] at e
      cases e
  refine PySem.call_dict_pairs (knd := mixKind X.prog X.w) (kvs := prs) (PySem.PairArg.tuple a (ps.map Value.ref).toArray (fun j => (ps[j]?).getD 0) ((List.range prs.length).map fun j => (us j, ((prs[j]?.map Prod.snd).getD .none)))) (I.ok.hd hcalm)
    ⟨⟨_, n, ho, hc, od, hd⟩, by rw [hlz, List.size_toArray, List.length_map, hl], fun j k v e => ?_⟩ ⟨hlz.symm, fun j k v e => ?_⟩ (by rw [hlz, hl]; exact hz) fun h' tk hd' k => ?_
  · obtain ⟨q', e1, rfl, rfl⟩ := hat j k v e
    obtain ⟨b, e2, e3, e4⟩ := hus j q' e1
    have eb : (fun j => (ps[j]?).getD 0) j = b := by
      show (ps[j]?).getD 0 = b
      rw [e2]
      rfl
    rw [eb]
    exact ⟨by simp [e2], .inl e3⟩
  · obtain ⟨q', e1, rfl, rfl⟩ := hat j k v e
    obtain ⟨b, e2, e3, e4⟩ := hus j q' e1
    exact ⟨q'.1, e1, e4⟩
  · have hm : (s.heap.objs.size == sysModules) = false := beq_eq_false_iff_ne.mpr (Nat.ne_of_gt I.big)
    have hlen : (mergeK [] kvs).length ≤ sizeLine := by
      refine Nat.le_trans (length_mergeK kvs []) ?_
      rw [List.length_nil, Nat.zero_add, rel.length, hl]
      exact hz
    exact ⟨.ref s.heap.objs.size, upd H s.heap.objs.size (.dK (mergeK [] kvs)), I.laid (t' := tk) (fun b o e => k b o (by simp) e) (Nat.le_refl _) (show ObjOk X.prog X.w _ _ _ (.dK (mergeK [] kvs)) from ⟨hlen, hm, merged [] prs, KV.merge rel .nil, hd'⟩), rfl, q _ (I.hok.fresh (Nat.le_refl _))⟩
theorem r_dictP {a : Addr} {ps : List Addr} {kvs : List (Key × V)} (h : SqL K H a (ps.map V.ref) ∨ Tm H a (ps.map V.ref)) (g : Paired (fun p kv => SqT K H p [kV kv.1, kv.2]) ps kvs) (q : ∀ p, H p = none → Q (.ref p) (upd H p (.dK (mergeK [] kvs)))) : rDictP K [.ref a] H Q := ⟨a, ps, kvs, rfl, h, g, q⟩
end
end L2.Rx

end
section
set_option Elab.async false
set_option linter.all false
set_option maxRecDepth 100000
set_option maxHeartbeats 4000000
local macro_rules | `(tactic| walk_at "rd1") => `(tactic| with_reducible first
  | refine L2.Rx.r_seq ?_ | refine L2.Rx.r_asg ?_ | refine L2.Rx.r_gname ?_ | refine L2.Rx.r_op ?_ | refine L2.Rx.r_c ?_
  | refine L2.Rx.r_var rfl ?_
  | refine L2.Rx.r_rI0 ?_ | refine L2.Rx.r_test ?_ | refine L2.Rx.r_bl ?_ | refine L2.Rx.r_if ?_ | refine L2.Rx.r_ret ?_
  | refine L2.Rx.r_cons ?_ | refine L2.Rx.r_nil ?_ | refine L2.Rx.r_call ?_ | refine L2.Rx.r_cb ?_ | refine L2.Rx.r_next ?_ | refine L2.Rx.r_drop ?_
  | refine L2.Rx.r_gsub ?_ | refine L2.Rx.r_tupF ?_ | refine L2.Rx.r_lst ?_ | refine L2.Rx.r_par ?_ | refine L2.Rx.r_par2 ?_
  | refine L2.Rx.r_un ?_ | refine L2.Rx.r_tb ?_ | refine L2.Rx.r_and ?_ | refine L2.Rx.r_or ?_ | refine L2.Rx.r_not ?_
  | refine L2.Rx.r_andV ?_ | refine L2.Rx.r_orV ?_ | refine L2.Rx.r_notV ?_ | refine L2.Rx.r_ifx ?_ | refine L2.Rx.r_chain ?_
  | refine L2.Rx.r_sl ?_ | refine L2.Rx.r_nopart ?_ | refine L2.Rx.r_part ?_ | refine L2.Rx.r_exint ?_ | refine L2.Rx.r_bm0 ?_ | refine L2.Rx.r_bm ?_
  | refine L2.Rx.r_lc ?_ | refine L2.Rx.r_rng1 ?_ | refine L2.Rx.r_yes ?_ | refine L2.Rx.r_tt ?_ | refine L2.Rx.r_ff ?_ | refine L2.Rx.r_m1 ?_ | refine L2.Rx.r_m0 ?_ | refine L2.Rx.r_isS ?_
  | (refine L2.Rx.r_wipe (by with_unfolding_all rfl) ?_) | (refine L2.Rx.r_tyL (by walk_at "hp") ?_)
  | refine L2.Rx.r_addS (by walk_at "len") ?_ | refine L2.Rx.r_lenS (by walk_at "len") ?_ | refine L2.Rx.r_slS (by walk_at "len") ?_
  | refine L2.Rx.r_dnotin ?_ | refine L2.Rx.r_dget ?_ | refine L2.Rx.r_dget1 ?_ | refine L2.Rx.r_dput ?_ | refine L2.Rx.r_dpop1 ?_ | refine L2.Rx.r_isN ?_
  | refine L2.Rx.r_for ?_ | refine L2.Rx.r_ilist ?_ | refine L2.Rx.r_itup ?_
  | refine L2.Rx.r_gcons ?_ | refine L2.Rx.r_gnil ?_ | (refine L2.Rx.r_gtupP (by assumption) (by walk_at "at") ?_)
  | (refine L2.Rx.r_rEq rfl ?_) | (refine L2.Rx.r_rNe rfl ?_)
  | refine L2.Rx.r_rU ?_ | refine L2.Rx.r_max2 ?_ | refine L2.Rx.r_min2 ?_ | refine L2.Rx.r_int1i ?_ | (refine L2.Rx.r_lenh (by walk_at "hp") ?_)
  | (refine L2.Rx.r_ixLh (by walk_at "hp") (by walk_at "at") ?_)
  | (refine L2.Rx.r_setL (by walk_at "hp") (by walk_at "at") ?_))
local macro_rules | `(tactic| walk_at "at") => `(tactic| with_unfolding_all rfl)
local macro_rules | `(tactic| walk_at "rd") => `(tactic| (repeat walk_at "rd1"))
local macro_rules | `(tactic| walk_at "hp") => `(tactic| first
  | assumption
  | exact L2.upd_same
  | (refine Eq.trans (L2.upd_ne ?_) ?_; (focus walk_at "ne"); (focus walk_at "hp"))
  | (refine L2.Rx.Kp.at0 (by assumption) ?_; walk_at "hp")
  | (refine L2.Rx.Kp.at1 (by assumption) ?_ ?_; (focus walk_at "ne"); (focus walk_at "hp")))
local macro_rules | `(tactic| walk_at "ne") => `(tactic| first
  | assumption | exact Ne.symm (by assumption)
  | (refine L2.ne_of_none (H := ?nH) (o := ?nO) ?nh ?nn; (case nn => assumption); (case nh => walk_at "hp"))
  | (refine Ne.symm (L2.ne_of_none (H := ?nH) (o := ?nO) ?nh ?nn); (case nn => assumption); (case nh => walk_at "hp")))
local macro_rules | `(tactic| walk_at "len") => `(tactic| (rw [PySem.sizeLine_eq]; omega))
local macro_rules | `(tactic| walk_at "nin") => `(tactic| first
  | exact List.not_mem_nil
  | (refine L2.Rx.nin1 ?_; walk_at "ne"))
local macro_rules | `(tactic| walk_at "none") => `(tactic| first
  | assumption
  | (refine L2.Rx.Kp.none0 (by assumption) ?_ ?_; (focus walk_at "nin"); (focus walk_at "none")))
namespace L2.Rx
open PySem PySem.Spec PyProof.Rows
/-! ### data: none, bools, ints, texts, tuples of these: what may change does not reach it -/
mutual
def noL : PyData → Bool
  | .list _ => false
  | .dict _ => false
  | .tuple ds => noLs ds
  | .none => true
  | .bool _ => true
  | .int _ => true
  | .str _ => true
def noLs : List PyData → Bool
  | [] => true
  | d :: ds => noL d && noLs ds
end
mutual
/-- small enough to compare and to show -/
def shp : PyData → Bool
  | .list ds => shps ds
  | .dict _ => false
  | .tuple ds => shps ds
  | .str x => PyData.strOk x
  | .none => true
  | .bool _ => true
  | .int _ => true
def shps : List PyData → Bool
  | [] => true
  | d :: ds => shp d && shps ds
end
mutual
/-- data whose tuples are made here -/
inductive Dq (K : PySem.W.Frag) (H : Hp) : V → PyData → Prop
  | non : Dq K H .non .none
  | bl (b : Bool) : Dq K H (.bl b) (.bool b)
  | int (i : Int) : Dq K H (.int i) (.int i)
  | str (x : Str) : Dq K H (.str x) (.str x)
  | lst {a : Addr} {xs : List V} {ds : List PyData} : SqL K H a xs → DqAll K H xs ds → Dq K H (.ref a) (.list ds)
  | tup {a : Addr} {xs : List V} {ds : List PyData} : Tm H a xs → DqAll K H xs ds → Dq K H (.ref a) (.tuple ds)
inductive DqAll (K : PySem.W.Frag) (H : Hp) : List V → List PyData → Prop
  | nil : DqAll K H [] []
  | cons {v : V} {vs : List V} {d : PyData} {ds : List PyData} : Dq K H v d → DqAll K H vs ds → DqAll K H (v :: vs) (d :: ds)
end
section
variable {K : PySem.W.Frag} {H H' : Hp} {S : List Addr} {p b : Addr} {xs : List V}
mutual
theorem Dq.dp : ∀ (d : PyData) (v : V), Dq K H v d → Dp K H v d
  | .none, _, h => by cases h; exact .non
  | .bool b, _, h => by cases h; exact .bl b
  | .int i, _, h => by cases h; exact .int i
  | .str x, _, h => by cases h; exact .str x
  | .list ds, _, h => by
    cases h with
    | lst h1 h2 => exact .lst h1 (DqAll.dp ds _ h2)
  | .tuple ds, _, h => by
    cases h with
    | tup h1 h2 => exact .tup h1.sq (DqAll.dp ds _ h2)
  | .dict _, _, h => by cases h
theorem DqAll.dp : ∀ (ds : List PyData) (vs : List V), DqAll K H vs ds → DpAll K H vs ds
  | [], _, h => by cases h; exact .nil
  | d :: ds, _, h => by
    cases h with
    | cons h1 h2 => exact .cons (Dq.dp d _ h1) (DqAll.dp ds _ h2)
end
theorem dqAll_strs : ∀ ns : List Str, DqAll K H (ns.map V.str) (ns.map PyData.str)
  | [] => .nil
  | n :: r => .cons (.str n) (dqAll_strs r)
theorem dqAll_len {ys : List V} {ds : List PyData} (h : DqAll K H ys ds) : ys.length = ds.length := dpAll_len (DqAll.dp _ _ h)
mutual
theorem Dq.keep0 (k : Kp [] H H') : ∀ (d : PyData) (v : V), Dq K H v d → Dq K H' v d
  | .none, _, h => by cases h; exact .non
  | .bool b, _, h => by cases h; exact .bl b
  | .int i, _, h => by cases h; exact .int i
  | .str x, _, h => by cases h; exact .str x
  | .list ds, _, h => by
    cases h with
    | lst h1 h2 => exact .lst (kp_sqL k (by simp) h1) (DqAll.keep0 k ds _ h2)
  | .tuple ds, _, h => by
    cases h with
    | tup h1 h2 => exact .tup (h1.keep0 k) (DqAll.keep0 k ds _ h2)
  | .dict _, _, h => by cases h
theorem DqAll.keep0 (k : Kp [] H H') : ∀ (ds : List PyData) (vs : List V), DqAll K H vs ds → DqAll K H' vs ds
  | [], _, h => by cases h; exact .nil
  | d :: ds, _, h => by
    cases h with
    | cons h1 h2 => exact .cons (Dq.keep0 k d _ h1) (DqAll.keep0 k ds _ h2)
end
mutual
theorem Dq.keepS (k : Kp S H H') (m : Mu H S) : ∀ (d : PyData) (v : V), noL d = true → Dq K H v d → Dq K H' v d
  | .none, _, _, h => by cases h; exact .non
  | .bool b, _, _, h => by cases h; exact .bl b
  | .int i, _, _, h => by cases h; exact .int i
  | .str x, _, _, h => by cases h; exact .str x
  | .list ds, _, n, h => by rw [noL] at n; cases n
  | .tuple ds, _, n, h => by
    rw [noL] at n
    cases h with
    | tup h1 h2 => exact .tup (h1.keepM k m) (DqAll.keepS k m ds _ n h2)
  | .dict _, _, _, h => by cases h
theorem DqAll.keepS (k : Kp S H H') (m : Mu H S) : ∀ (ds : List PyData) (vs : List V), noLs ds = true → DqAll K H vs ds → DqAll K H' vs ds
  | [], _, _, h => by cases h; exact .nil
  | d :: ds, _, n, h => by
    rw [noLs, Bool.and_eq_true] at n
    cases h with
    | cons h1 h2 => exact .cons (Dq.keepS k m d _ n.1 h1) (DqAll.keepS k m ds _ n.2 h2)
end
mutual
theorem shp_lay : ∀ d : PyData, shp d = true → d.canLay0 = true
  | .none, _ => by rw [PyData.canLay0]
  | .bool b, _ => by rw [PyData.canLay0]
  | .int i, _ => by rw [PyData.canLay0]
  | .str x, h => by rw [PyData.canLay0]; rw [shp] at h; exact h
  | .list ds, h => by rw [PyData.canLay0]; rw [shp] at h; exact shps_lay ds h
  | .tuple ds, h => by rw [PyData.canLay0]; rw [shp] at h; exact shps_lay ds h
  | .dict _, h => by rw [shp] at h; cases h
theorem shps_lay : ∀ ds : List PyData, shps ds = true → PyData.canLayAll0 ds = true
  | [], _ => by rw [PyData.canLayAll0]
  | d :: ds, h => by
    rw [shps, Bool.and_eq_true] at h
    rw [PyData.canLayAll0, shp_lay d h.1, shps_lay ds h.2]
    rfl
end
theorem shaped_of {d : PyData} (h : shp d = true) (n : d.depth ≤ 64) : PySem.SeqAt.shaped d = true := by
  rw [PySem.SeqAt.shaped, shp_lay d h]
  exact decide_eq_true n
theorem shps_mem : ∀ {ds : List PyData}, (∀ d ∈ ds, shp d = true) → shps ds = true
  | [], _ => by rw [shps]
  | d :: ds, h => by rw [shps, h d (List.mem_cons_self ..), shps_mem fun e m => h e (List.mem_cons_of_mem _ m)]; rfl
theorem noLs_mem : ∀ {ds : List PyData}, (∀ d ∈ ds, noL d = true) → noLs ds = true
  | [], _ => by rw [noLs]
  | d :: ds, h => by rw [noLs, h d (List.mem_cons_self ..), noLs_mem fun e m => h e (List.mem_cons_of_mem _ m)]; rfl
theorem depth_mem : ∀ {ds : List PyData} {n : Nat}, (∀ d ∈ ds, d.depth ≤ n) → PyData.depthAll ds ≤ n
  | [], n, _ => by rw [PyData.depthAll]; omega
  | d :: ds, n, h => by
    rw [PyData.depthAll]
    have := h d (List.mem_cons_self ..)
    have := depth_mem (ds := ds) (n := n) fun e m => h e (List.mem_cons_of_mem _ m)
    omega
/-! taken apart -/
theorem dp_int {v : V} {i : Int} (h : Dq K H v (.int i)) : v = .int i := by cases h; rfl
theorem dp_str {v : V} {i : Str} (h : Dq K H v (.str i)) : v = .str i := by cases h; rfl
theorem dp_tup {v : V} {ds : List PyData} (h : Dq K H v (.tuple ds)) : ∃ a xs, v = .ref a ∧ Tm H a xs ∧ DqAll K H xs ds := by
  cases h with
  | tup h1 h2 => exact ⟨_, _, rfl, h1, h2⟩
theorem dp_nil {xs : List V} (h : DqAll K H xs []) : xs = [] := by cases h; rfl
theorem dp_cons {xs : List V} {d : PyData} {ds : List PyData} (h : DqAll K H xs (d :: ds)) : ∃ v vs, xs = v :: vs ∧ Dq K H v d ∧ DqAll K H vs ds := by
  cases h with
  | cons h1 h2 => exact ⟨_, _, rfl, h1, h2⟩
theorem DqAll.append {xs ys : List V} {ds es : List PyData} (h : DqAll K H xs ds) (g : DqAll K H ys es) : DqAll K H (xs ++ ys) (ds ++ es) := by
  induction ds generalizing xs with
  | nil => cases h; exact g
  | cons d ds ih =>
    cases h with
    | cons h1 h2 => exact .cons h1 (ih h2)
theorem DqAll.at {xs : List V} {ds : List PyData} {i : Nat} {v : V} (h : DqAll K H xs ds) (e : xs[i]? = some v) : ∃ d, ds[i]? = some d ∧ Dq K H v d := by
  induction ds generalizing xs i with
  | nil => cases h; cases e
  | cons d ds ih =>
    cases h with
    | cons h1 h2 =>
      cases i with
      | zero => cases e; exact ⟨d, rfl, h1⟩
      | succ i => exact ih h2 e
theorem dpL_strs {l : Addr} {ns : List Str} (h : SqL K H l (ns.map V.str)) : Dq K H (.ref l) (.list (ns.map PyData.str)) := .lst h (dqAll_strs ns)
/-! compared with () and [] -/
variable {Q : VK}
theorem eqvAll_nil : ∀ ds : List PyData, PyData.eqvAll ds [] = ds.isEmpty
  | [] => by rw [PyData.eqvAll]; rfl
  | d :: ds => by rw [PyData.eqvAll]; rfl
theorem r_eqL0 {v : V} {e : Addr} {ds : List PyData} (h : Dq K H v (.list ds)) (s : shp (.list ds) = true) (n : (PyData.list ds).depth ≤ 64) (he : H e = some (.lst [])) (q : Q (.bl ds.isEmpty) H) : rEqD K v (.ref e) H Q :=
  ⟨_, _, Dq.dp _ _ h, .lst (.inl (.inl he)) .nil, shaped_of s n, by decide +kernel, by rw [PyData.eqv, eqvAll_nil]; exact q⟩
theorem r_neL0 {v : V} {e : Addr} {ds : List PyData} (h : Dq K H v (.list ds)) (s : shp (.list ds) = true) (n : (PyData.list ds).depth ≤ 64) (he : H e = some (.lst [])) (q : Q (.bl (!ds.isEmpty)) H) : rNeD K v (.ref e) H Q :=
  ⟨_, _, Dq.dp _ _ h, .lst (.inl (.inl he)) .nil, shaped_of s n, by decide +kernel, by rw [PyData.eqv, eqvAll_nil]; exact q⟩
theorem r_eqT0 {v : V} {e : Addr} {ds : List PyData} (h : Dq K H v (.tuple ds)) (s : shp (.tuple ds) = true) (n : (PyData.tuple ds).depth ≤ 64) (he : Tm H e []) (q : Q (.bl ds.isEmpty) H) : rEqD K v (.ref e) H Q :=
  ⟨_, _, Dq.dp _ _ h, .tup he.sq .nil, shaped_of s n, by decide +kernel, by rw [PyData.eqv, eqvAll_nil]; exact q⟩
theorem r_neT0 {v : V} {e : Addr} {ds : List PyData} (h : Dq K H v (.tuple ds)) (s : shp (.tuple ds) = true) (n : (PyData.tuple ds).depth ≤ 64) (he : Tm H e []) (q : Q (.bl (!ds.isEmpty)) H) : rNeD K v (.ref e) H Q :=
  ⟨_, _, Dq.dp _ _ h, .tup he.sq .nil, shaped_of s n, by decide +kernel, by rw [PyData.eqv, eqvAll_nil]; exact q⟩
/-! cells -/
theorem Cell.ok {c : Str} (h : Cell c) : PyData.strOk c = true := by
  rw [PyData.strOk, ← Array.all_toList, List.all_eq_true]
  intro x hx
  have := h.2.2 x hx
  exact decide_eq_true (by omega)
theorem Cells.shps {cs : List Str} (h : Cells cs) : shp (.list (cs.map PyData.str)) = true := by
  rw [shp]
  refine shps_mem fun d hd => ?_
  obtain ⟨c, hc, rfl⟩ := List.mem_map.mp hd
  rw [shp]
  exact (h.2 c hc).ok
theorem depth_strs (cs : List Str) : (PyData.list (cs.map PyData.str)).depth ≤ 1 := by
  rw [PyData.depth]
  have := depth_mem (ds := cs.map PyData.str) (n := 0) fun d hd => by
    obtain ⟨c, hc, rfl⟩ := List.mem_map.mp hd
    rw [PyData.depth]
    exact Nat.le_refl _
  omega
theorem Kp.dropT {S T : List Addr} {H H1 H2 : Hp} (k : Kp S H H1) (j : Kp T H1 H2) (h : ∀ a ∈ T, a ∈ S ∨ H a = none) : Kp S H H2 := fun a o n e => by
  refine j a o (fun z => ?_) (k a o n e)
  rcases h a z with q | q
  · exact n q
  · rw [q] at e
    cases e
theorem Kp.upd1 {S : List Addr} {H H1 : Hp} {p : Addr} {o : HO} (k : Kp S H H1) (h : p ∈ S ∨ H p = none) : Kp S H (L2.upd H1 p o) := Kp.dropT k (Kp.put (b := p)) fun a m => by
  have e : a = p := by simpa using m
  rw [e]
  exact h
theorem _root_.L2.Rx.Box.keepS {S : List Addr} {H H' : Hp} {b : Addr} {n : Nat} (B : Box H b n) (k : Kp S H H') (h : b ∉ S) : Box H' b n := by
  obtain ⟨o, s, c, e, r⟩ := B
  exact ⟨o, s, c, k b _ h e, r⟩
theorem _root_.L2.Rx.Box.mu {H : Hp} {b : Addr} {n : Nat} (B : Box H b n) : Mu H [b] := by
  obtain ⟨o, s, c, e, r⟩ := B
  exact Mu.lst e
theorem r_popAt {l : Addr} {xs : List V} {i : Int} {v : V} (h : H l = some (.lst xs)) (h0 : 0 ≤ i) (h1 : i < 1000000000) (e : xs[i.toNat]? = some v) (q : Q v (upd H l (.lst (xs.eraseIdx i.toNat)))) : rPopAt (.ref l) [.int i] H Q := by
  have hl : i.toNat < xs.length := (List.getElem?_eq_some_iff.mp e).1
  refine ⟨l, xs, i, i.toNat, v, rfl, rfl, h, by omega, by omega, ?_, e, q⟩
  simp [PySem.seqIndex?, show ¬ i < 0 by omega, h0]
  omega
theorem eraseIdx_map' {α β : Type} (f : α → β) : ∀ (xs : List α) (i : Nat), (xs.map f).eraseIdx i = (xs.eraseIdx i).map f
  | [], _ => rfl
  | x :: xs, 0 => rfl
  | x :: xs, i + 1 => by rw [List.map_cons, List.eraseIdx_cons_succ, List.eraseIdx_cons_succ, List.map_cons, eraseIdx_map' f xs i]
@[elab_as_elim] theorem gen_put {P : Hp → Prop} {H : Hp} {p : Addr} {o : HO} (h : ∀ H', Kp [p] H H' → H' p = some o → P H') : P (L2.upd H p o) := h _ Kp.put L2.upd_same
/-! ### trees -/
inductive Tr | lf | nd (c : Str) (bs : List (Int × Tr))
mutual
def Tr.d : Tr → PyData
  | .lf => .tuple []
  | .nd c bs => .tuple [.str c, .tuple (brd bs)]
def brd : List (Int × Tr) → List PyData
  | [] => []
  | (v, t) :: r => .tuple [.int v, t.d] :: brd r
end
theorem brd_eq : ∀ bs : List (Int × Tr), brd bs = bs.map fun p => .tuple [.int p.1, p.2.d]
  | [] => by rw [brd]; rfl
  | (v, t) :: r => by rw [brd, brd_eq r]; rfl
/-- a tree over these cells, each path of which is of at most n nodes -/
inductive Okt : Nat → List Str → Tr → Prop
  | lf (n : Nat) (cs : List Str) : Okt n cs .lf
  | nd {n : Nat} {cs cs' : List Str} {c : Str} {bs : List (Int × Tr)} : c ∈ cs → c ∉ cs' → (∀ x ∈ cs', x ∈ cs) → bs ≠ [] → bs.length ≤ 3 → (bs.map Prod.fst).Pairwise (· < ·) → (∀ p ∈ bs, 0 ≤ p.1 ∧ p.1 ≤ 1000000000) → (∀ p ∈ bs, Okt n cs' p.2) → Okt (n + 1) cs (.nd c bs)
theorem Okt.noL {n : Nat} {cs : List Str} {t : Tr} (h : Okt n cs t) : noL t.d = true := by
  induction h with
  | lf n cs => rw [Tr.d, Rx.noL, noLs]
  | nd h1 h2 h3 h4 h5 h6 h7 h8 ih =>
    rw [Tr.d, Rx.noL, noLs, noLs, noLs, Rx.noL, Rx.noL]
    rw [show noLs (brd _) = true from ?_]
    · rfl
    · refine noLs_mem fun d hd => ?_
      rw [brd_eq] at hd
      obtain ⟨p, hp, rfl⟩ := List.mem_map.mp hd
      rw [Rx.noL, noLs, noLs, noLs, Rx.noL, ih p hp]
      rfl
theorem Okt.shp {n : Nat} {cs : List Str} {t : Tr} (h : Okt n cs t) (hc : ∀ c ∈ cs, Cell c) : shp t.d = true := by
  induction h with
  | lf n cs => rw [Tr.d, Rx.shp, Rx.shps]
  | nd h1 h2 h3 h4 h5 h6 h7 h8 ih =>
    rw [Tr.d, Rx.shp, Rx.shps, Rx.shps, Rx.shps, Rx.shp, Rx.shp, (hc _ h1).ok]
    rw [show Rx.shps (brd _) = true from ?_]
    · rfl
    · refine shps_mem fun d hd => ?_
      rw [brd_eq] at hd
      obtain ⟨p, hp, rfl⟩ := List.mem_map.mp hd
      rw [Rx.shp, Rx.shps, Rx.shps, Rx.shps, Rx.shp, ih p hp fun c m => hc c (h3 c m)]
      rfl
theorem Okt.depth {n : Nat} {cs : List Str} {t : Tr} (h : Okt n cs t) : t.d.depth ≤ 3 * n + 1 := by
  induction h with
  | lf n cs => rw [Tr.d, PyData.depth, PyData.depthAll]; omega
  | @nd n cs cs' c bs h1 h2 h3 h4 h5 h6 h7 h8 ih =>
    rw [Tr.d, PyData.depth, PyData.depthAll, PyData.depthAll, PyData.depthAll, PyData.depth, PyData.depth]
    have : PyData.depthAll (brd bs) ≤ 3 * n + 2 := by
      refine depth_mem fun d hd => ?_
      rw [brd_eq] at hd
      obtain ⟨p, hp, rfl⟩ := List.mem_map.mp hd
      rw [PyData.depth, PyData.depthAll, PyData.depthAll, PyData.depthAll, PyData.depth]
      have := ih p hp
      omega
    omega
end
end L2.Rx

end
section
set_option Elab.async false
set_option linter.all false
set_option maxRecDepth 100000
set_option maxHeartbeats 4000000
local macro_rules | `(tactic| walk_at "rd1") => `(tactic| with_reducible first
  | refine L2.Rx.r_seq ?_ | refine L2.Rx.r_asg ?_ | refine L2.Rx.r_gname ?_ | refine L2.Rx.r_op ?_ | refine L2.Rx.r_c ?_
  | refine L2.Rx.r_var rfl ?_
  | refine L2.Rx.r_rI0 ?_ | refine L2.Rx.r_test ?_ | refine L2.Rx.r_bl ?_ | refine L2.Rx.r_if ?_ | refine L2.Rx.r_ret ?_
  | refine L2.Rx.r_cons ?_ | refine L2.Rx.r_nil ?_ | refine L2.Rx.r_call ?_ | refine L2.Rx.r_cb ?_ | refine L2.Rx.r_next ?_ | refine L2.Rx.r_drop ?_
  | refine L2.Rx.r_gsub ?_ | refine L2.Rx.r_tupF ?_ | refine L2.Rx.r_lst ?_ | refine L2.Rx.r_par ?_ | refine L2.Rx.r_par2 ?_
  | refine L2.Rx.r_un ?_ | refine L2.Rx.r_tb ?_ | refine L2.Rx.r_and ?_ | refine L2.Rx.r_or ?_ | refine L2.Rx.r_not ?_
  | refine L2.Rx.r_andV ?_ | refine L2.Rx.r_orV ?_ | refine L2.Rx.r_notV ?_ | refine L2.Rx.r_ifx ?_ | refine L2.Rx.r_chain ?_
  | refine L2.Rx.r_sl ?_ | refine L2.Rx.r_nopart ?_ | refine L2.Rx.r_part ?_ | refine L2.Rx.r_exint ?_ | refine L2.Rx.r_bm0 ?_ | refine L2.Rx.r_bm ?_
  | refine L2.Rx.r_lc ?_ | refine L2.Rx.r_rng1 ?_ | refine L2.Rx.r_yes ?_ | refine L2.Rx.r_tt ?_ | refine L2.Rx.r_ff ?_ | refine L2.Rx.r_m1 ?_ | refine L2.Rx.r_m0 ?_ | refine L2.Rx.r_isS ?_
  | (refine L2.Rx.r_wipe (by with_unfolding_all rfl) ?_) | (refine L2.Rx.r_tyL (by walk_at "hp") ?_)
  | refine L2.Rx.r_addS (by walk_at "len") ?_ | refine L2.Rx.r_lenS (by walk_at "len") ?_ | refine L2.Rx.r_slS (by walk_at "len") ?_
  | refine L2.Rx.r_dnotin ?_ | refine L2.Rx.r_dget ?_ | refine L2.Rx.r_dget1 ?_ | refine L2.Rx.r_dput ?_ | refine L2.Rx.r_dpop1 ?_ | refine L2.Rx.r_isN ?_
  | refine L2.Rx.r_for ?_ | refine L2.Rx.r_ilist ?_ | refine L2.Rx.r_itup ?_
  | refine L2.Rx.r_gcons ?_ | refine L2.Rx.r_gnil ?_ | (refine L2.Rx.r_gtupP (by assumption) (by walk_at "at") ?_)
  | (refine L2.Rx.r_rEq rfl ?_) | (refine L2.Rx.r_rNe rfl ?_)
  | refine L2.Rx.r_rU ?_ | refine L2.Rx.r_max2 ?_ | refine L2.Rx.r_min2 ?_ | refine L2.Rx.r_int1i ?_ | (refine L2.Rx.r_lenh (by walk_at "hp") ?_)
  | (refine L2.Rx.r_ixLh (by walk_at "hp") (by walk_at "at") ?_)
  | (refine L2.Rx.r_setL (by walk_at "hp") (by walk_at "at") ?_))
local macro_rules | `(tactic| walk_at "at") => `(tactic| with_unfolding_all rfl)
local macro_rules | `(tactic| walk_at "rd") => `(tactic| (repeat walk_at "rd1"))
local macro_rules | `(tactic| walk_at "hp") => `(tactic| first
  | assumption
  | exact L2.upd_same
  | (refine Eq.trans (L2.upd_ne ?_) ?_; (focus walk_at "ne"); (focus walk_at "hp"))
  | (refine L2.Rx.Kp.at0 (by assumption) ?_; walk_at "hp")
  | (refine L2.Rx.Kp.at1 (by assumption) ?_ ?_; (focus walk_at "ne"); (focus walk_at "hp")))
local macro_rules | `(tactic| walk_at "ne") => `(tactic| first
  | assumption | exact Ne.symm (by assumption)
  | (refine L2.ne_of_none (H := ?nH) (o := ?nO) ?nh ?nn; (case nn => assumption); (case nh => walk_at "hp"))
  | (refine Ne.symm (L2.ne_of_none (H := ?nH) (o := ?nO) ?nh ?nn); (case nn => assumption); (case nh => walk_at "hp")))
local macro_rules | `(tactic| walk_at "len") => `(tactic| (rw [PySem.sizeLine_eq]; omega))
local macro_rules | `(tactic| walk_at "nin") => `(tactic| first
  | exact List.not_mem_nil
  | (refine L2.Rx.nin1 ?_; walk_at "ne"))
local macro_rules | `(tactic| walk_at "none") => `(tactic| first
  | assumption
  | (refine L2.Rx.Kp.none0 (by assumption) ?_ ?_; (focus walk_at "nin"); (focus walk_at "none")))
namespace L2.Rx
open PySem PySem.Spec PyProof.Rows
theorem perm_map_lift {α β : Type} {f : α → β} {bs cs : List β} (h : bs.Perm cs) : ∀ {zs : List α}, cs = zs.map f → ∃ zs' : List α, zs'.Perm zs ∧ bs = zs'.map f := by
  induction h with
  | nil =>
    intro zs e
    exact ⟨zs, List.Perm.refl _, e⟩
  | @cons x l1 l2 h ih =>
    intro zs e
    cases zs with
    | nil => cases e
    | cons z zs =>
      injection e with e1 e2
      obtain ⟨zs', p, e3⟩ := ih e2
      exact ⟨z :: zs', p.cons z, by rw [List.map_cons, e1, e3]⟩
  | @swap x y l =>
    intro zs e
    cases zs with
    | nil => cases e
    | cons z zs =>
      injection e with e1 e2
      cases zs with
      | nil => cases e2
      | cons z2 zs =>
        injection e2 with e2 e3
        exact ⟨z2 :: z :: zs, List.Perm.swap _ _ _, by rw [List.map_cons, List.map_cons, e1, e2, e3]⟩
  | trans h1 h2 ih1 ih2 =>
    intro zs e
    obtain ⟨zs', p, e2⟩ := ih2 e
    obtain ⟨zs'', p2, e3⟩ := ih1 e2
    exact ⟨zs'', p2.trans p, e3⟩
section
variable {K : PySem.W.Frag} {H H' : Hp} {Q : VK} {σ : St}
theorem dpAll_mem {ys : List V} {ds : List PyData} : DqAll K H ys ds → ∀ z ∈ ds.zip ys, Dq K H z.2 z.1 := by
  intro h
  induction ds generalizing ys with
  | nil => intro z hz; cases h; cases hz
  | cons d ds ih =>
    intro z hz
    cases h with
    | cons h1 h2 =>
      rw [List.zip_cons_cons] at hz
      rcases List.mem_cons.mp hz with e | e
      · rw [e]
        exact h1
      · exact ih h2 z e
theorem dpAll_of {zs : List (PyData × V)} (h : ∀ z ∈ zs, Dq K H z.2 z.1) : DqAll K H (zs.map Prod.snd) (zs.map Prod.fst) := by
  induction zs with
  | nil => exact .nil
  | cons z zs ih => exact .cons (h z (List.mem_cons_self ..)) (ih fun y m => h y (List.mem_cons_of_mem _ m))
/-- sorted of data that stand for things of Lean -/
theorem r_sortD {α : Type} {enc : α → PyData} {a : Addr} {ys : List V} {as : List α} (hs : SqL K H a ys ∨ SqT K H a ys) (hd : DqAll K H ys (as.map enc)) (sb : Sb (as.map enc))
    (h : ∀ (p : Addr) (bs : List α) (ys' : List V), bs.Perm as → bs.Pairwise (fun x y => PySem.W.dataLt (enc y) (enc x) = false) → DqAll K H ys' (bs.map enc) → H p = none → Q (.ref p) (upd H p (.lst ys'))) : rSortV K [.ref a] H Q := by
  refine r_sort hs (DqAll.dp _ _ hd) sb fun p zs hp hw np => ?_
  have hl : ys.length = (as.map enc).length := dqAll_len hd
  have e1 : (zs.map Prod.fst).Perm (as.map enc) := by
    have := hp.map Prod.fst
    rw [zip_fst _ _ hl] at this
    exact this
  obtain ⟨bs, pb, eb⟩ := perm_map_lift e1 rfl
  refine h p bs _ pb ?_ ?_ np
  · have : (zs.map Prod.fst).Pairwise (fun a b => PySem.W.dataLt b a = false) := by
      rw [List.pairwise_map]
      exact hw
    rw [eb, List.pairwise_map] at this
    exact this
  · rw [← eb]
    exact dpAll_of fun z hz => dpAll_mem hd z (hp.mem_iff.mp hz)
theorem r_extend {l b : Addr} {xs zs : List V} (h : H l = some (.lst xs)) (g : H b = some (.lst zs)) (z : xs.length + zs.length ≤ 1000000) (q : Q .non (upd H l (.lst (xs ++ zs)))) : rExtend (.ref l) [.ref b] H Q :=
  ⟨l, b, xs, zs, rfl, rfl, h, g, by rw [sizeLine_eq]; omega, q⟩
theorem r_pop {l : Addr} {xs : List V} {y : V} (h : H l = some (.lst (xs ++ [y]))) (q : Q y (upd H l (.lst xs))) : rPop (.ref l) [] H Q := by
  refine ⟨l, xs ++ [y], y, rfl, rfl, h, ?_, ?_⟩
  · rw [List.length_append, List.length_singleton, Nat.add_sub_cancel, List.getElem?_append_right (Nat.le_refl _), Nat.sub_self]
    rfl
  · rw [List.dropLast_concat]
    exact q
theorem r_ixT {p : Addr} {xs : List V} {i : Int} {v : V} (h : SqT K H p xs) (a : atI xs i = some v) (q : Q v H) : rIxT K (.ref p) (.int i) H Q := ⟨p, xs, i, v, rfl, rfl, h, a, q⟩
theorem r_while {c : TT} {tb : TS} {D : Ends} (h : ∃ W : Nat → St → Hp → Prop, (∃ m, W m σ H) ∧ ∀ m σ H, W m σ H →
  c σ H fun b H1 => if b = true then ∃ N : St → Hp → Prop, (∀ σ' H', N σ' H' → ∃ m', m' < m ∧ W m' σ' H') ∧ tb { D with nx := N, ct := N, bk := D.nx } σ H1 else D.nx σ H1) : tWhile c tb D σ H := h
/-! ### pairs, logs, paths -/
def prD (z : Str × Int) : PyData := .tuple [.str z.1, .int z.2]
def logD (l : List (Str × Int)) : PyData := .tuple (l.map prD)
mutual
def Tr.paths : Tr → List (List (Str × Int))
  | .lf => [[]]
  | .nd c bs => brp c bs
def brp (c : Str) : List (Int × Tr) → List (List (Str × Int))
  | [] => []
  | (v, t) :: r => t.paths.map ((c, v) :: ·) ++ brp c r
end
mutual
def Tr.size : Tr → Nat
  | .lf => 1
  | .nd _ bs => 1 + brz bs
def brz : List (Int × Tr) → Nat
  | [] => 0
  | (_, t) :: r => t.size + brz r
end
theorem brp_eq (c : Str) : ∀ bs : List (Int × Tr), brp c bs = bs.flatMap fun z => z.2.paths.map ((c, z.1) :: ·)
  | [] => by rw [brp]; rfl
  | (v, t) :: r => by rw [brp, brp_eq c r]; rfl
theorem brz_eq : ∀ bs : List (Int × Tr), brz bs = (bs.map fun z => z.2.size).sum
  | [] => by rw [brz]; rfl
  | (v, t) :: r => by rw [brz, brz_eq r, List.map_cons, List.sum_cons]
theorem Okt.paths_pos {n : Nat} {cs : List Str} {t : Tr} (h : Okt n cs t) : 1 ≤ t.paths.length := by
  induction h with
  | lf n cs => rw [Tr.paths]; exact Nat.le_refl _
  | @nd n cs cs' c bs h1 h2 h3 h4 h5 h6 h7 h8 ih =>
    cases bs with
    | nil => exact absurd rfl h4
    | cons z r =>
      obtain ⟨v, t⟩ := z
      rw [Tr.paths, brp, List.length_append, List.length_map]
      have := ih (v, t) (List.mem_cons_self ..)
      show 1 ≤ t.paths.length + _
      have : 1 ≤ t.paths.length := this
      omega
theorem Okt.paths_le {n : Nat} {cs : List Str} {t : Tr} (h : Okt n cs t) : t.paths.length ≤ 3 ^ n := by
  induction h with
  | lf n cs => rw [Tr.paths]; exact Nat.one_le_pow _ _ (by decide)
  | @nd n cs cs' c bs h1 h2 h3 h4 h5 h6 h7 h8 ih =>
    have : ∀ r : List (Int × Tr), (∀ z ∈ r, z.2.paths.length ≤ 3 ^ n) → (brp c r).length ≤ r.length * 3 ^ n := by
      intro r
      induction r with
      | nil => intro _; rw [brp]; simp
      | cons z r ihr =>
        intro hz
        obtain ⟨v, t⟩ := z
        rw [brp, List.length_append, List.length_map, List.length_cons, Nat.succ_mul]
        have a := ihr fun y m => hz y (List.mem_cons_of_mem _ m)
        have b : t.paths.length ≤ 3 ^ n := hz (v, t) (List.mem_cons_self ..)
        omega
    have a := this bs ih
    have b : bs.length * 3 ^ n ≤ 3 * 3 ^ n := Nat.mul_le_mul_right _ h5
    rw [Tr.paths, Nat.pow_succ]
    omega
theorem pair_noL (z : Str × Int) : noL (prD z) = true := by rw [prD, noL, noLs, noLs, noLs, noL, noL]; rfl
theorem log_noL (l : List (Str × Int)) : noL (logD l) = true := by
  rw [logD, noL]
  refine noLs_mem fun d hd => ?_
  obtain ⟨z, _, rfl⟩ := List.mem_map.mp hd
  exact pair_noL z
theorem pair_depth (z : Str × Int) : (prD z).depth = 1 := by
  rw [prD, PyData.depth, PyData.depthAll, PyData.depthAll, PyData.depthAll, PyData.depth, PyData.depth]
  rfl
theorem log_depth (l : List (Str × Int)) : (logD l).depth ≤ 2 := by
  rw [logD, PyData.depth]
  have := depth_mem (ds := l.map prD) (n := 1) fun d hd => by
    obtain ⟨z, _, rfl⟩ := List.mem_map.mp hd
    rw [pair_depth]
    exact Nat.le_refl _
  omega
theorem pair_alike (x y : Str × Int) : PySem.W.alike (prD x) (prD y) = true := by
  simp [prD, PySem.W.alike, PySem.W.alikeAll]
theorem pairs_alikeAll : ∀ l m : List (Str × Int), PySem.W.alikeAll (l.map prD) (m.map prD) = true
  | [], _ => by rw [List.map_nil, PySem.W.alikeAll]
  | _ :: _, [] => by rw [List.map_cons, List.map_nil, PySem.W.alikeAll]
  | x :: l, y :: m => by rw [List.map_cons, List.map_cons, PySem.W.alikeAll, pair_alike, pairs_alikeAll l m]; rfl
theorem log_alike (l m : List (Str × Int)) : PySem.W.alike (logD l) (logD m) = true := by
  rw [logD, logD, PySem.W.alike]
  exact pairs_alikeAll l m
theorem sb_pairs (l : List (Str × Int)) : Sb (l.map prD) := by
  refine ⟨PySem.W.AllAlike.of fun _ _ => pair_alike _ _, fun d hd => ?_, .inl (PySem.W.Sortable.tuples fun z => ⟨_, _, rfl⟩)⟩
  obtain ⟨z, _, rfl⟩ := List.mem_map.mp hd
  exact ⟨by rw [pair_depth]; decide, by rw [prD]; exact fun z => nomatch z⟩
theorem sb_logs' (ls : List (List (Str × Int))) : Sb (ls.map logD) := by
  refine ⟨PySem.W.AllAlike.of fun _ _ => log_alike _ _, fun d hd => ?_, .inr (.inr fun d hd => ?_)⟩
  · obtain ⟨z, _, rfl⟩ := List.mem_map.mp hd
    exact ⟨Nat.le_trans (log_depth z) (by decide), by rw [logD]; exact fun z => nomatch z⟩
  · obtain ⟨l, hl, rfl⟩ := List.mem_map.mp hd
    exact ⟨_, rfl⟩
theorem sb_logs (ls : List (List (Str × Int))) (h : (∀ l ∈ ls, l ≠ []) ∨ ls.length < 2) : Sb (ls.map logD) := sb_logs' ls
end
end L2.Rx

end
section
set_option Elab.async false
set_option linter.all false
set_option maxRecDepth 100000
set_option maxHeartbeats 4000000
local macro_rules | `(tactic| walk_at "rd1") => `(tactic| with_reducible first
  | refine L2.Rx.r_seq ?_ | refine L2.Rx.r_asg ?_ | refine L2.Rx.r_gname ?_ | refine L2.Rx.r_op ?_ | refine L2.Rx.r_c ?_
  | refine L2.Rx.r_var rfl ?_
  | refine L2.Rx.r_rI0 ?_ | refine L2.Rx.r_test ?_ | refine L2.Rx.r_bl ?_ | refine L2.Rx.r_if ?_ | refine L2.Rx.r_ret ?_
  | refine L2.Rx.r_cons ?_ | refine L2.Rx.r_nil ?_ | refine L2.Rx.r_call ?_ | refine L2.Rx.r_cb ?_ | refine L2.Rx.r_next ?_ | refine L2.Rx.r_drop ?_
  | refine L2.Rx.r_gsub ?_ | refine L2.Rx.r_tupF ?_ | refine L2.Rx.r_lst ?_ | refine L2.Rx.r_par ?_ | refine L2.Rx.r_par2 ?_
  | refine L2.Rx.r_un ?_ | refine L2.Rx.r_tb ?_ | refine L2.Rx.r_and ?_ | refine L2.Rx.r_or ?_ | refine L2.Rx.r_not ?_
  | refine L2.Rx.r_andV ?_ | refine L2.Rx.r_orV ?_ | refine L2.Rx.r_notV ?_ | refine L2.Rx.r_ifx ?_ | refine L2.Rx.r_chain ?_
  | refine L2.Rx.r_sl ?_ | refine L2.Rx.r_nopart ?_ | refine L2.Rx.r_part ?_ | refine L2.Rx.r_exint ?_ | refine L2.Rx.r_bm0 ?_ | refine L2.Rx.r_bm ?_
  | refine L2.Rx.r_lc ?_ | refine L2.Rx.r_rng1 ?_ | refine L2.Rx.r_yes ?_ | refine L2.Rx.r_tt ?_ | refine L2.Rx.r_ff ?_ | refine L2.Rx.r_m1 ?_ | refine L2.Rx.r_m0 ?_ | refine L2.Rx.r_isS ?_
  | (refine L2.Rx.r_wipe (by with_unfolding_all rfl) ?_) | (refine L2.Rx.r_tyL (by walk_at "hp") ?_)
  | refine L2.Rx.r_addS (by walk_at "len") ?_ | refine L2.Rx.r_lenS (by walk_at "len") ?_ | refine L2.Rx.r_slS (by walk_at "len") ?_
  | refine L2.Rx.r_dnotin ?_ | refine L2.Rx.r_dget ?_ | refine L2.Rx.r_dget1 ?_ | refine L2.Rx.r_dput ?_ | refine L2.Rx.r_dpop1 ?_ | refine L2.Rx.r_isN ?_
  | refine L2.Rx.r_for ?_ | refine L2.Rx.r_ilist ?_ | refine L2.Rx.r_itup ?_
  | refine L2.Rx.r_gcons ?_ | refine L2.Rx.r_gnil ?_ | (refine L2.Rx.r_gtupP (by assumption) (by walk_at "at") ?_)
  | (refine L2.Rx.r_rEq rfl ?_) | (refine L2.Rx.r_rNe rfl ?_)
  | refine L2.Rx.r_rU ?_ | refine L2.Rx.r_max2 ?_ | refine L2.Rx.r_min2 ?_ | refine L2.Rx.r_int1i ?_ | (refine L2.Rx.r_lenh (by walk_at "hp") ?_)
  | (refine L2.Rx.r_ixLh (by walk_at "hp") (by walk_at "at") ?_)
  | (refine L2.Rx.r_setL (by walk_at "hp") (by walk_at "at") ?_))
local macro_rules | `(tactic| walk_at "at") => `(tactic| with_unfolding_all rfl)
local macro_rules | `(tactic| walk_at "rd") => `(tactic| (repeat walk_at "rd1"))
local macro_rules | `(tactic| walk_at "hp") => `(tactic| first
  | assumption
  | exact L2.upd_same
  | (refine Eq.trans (L2.upd_ne ?_) ?_; (focus walk_at "ne"); (focus walk_at "hp"))
  | (refine L2.Rx.Kp.at0 (by assumption) ?_; walk_at "hp")
  | (refine L2.Rx.Kp.at1 (by assumption) ?_ ?_; (focus walk_at "ne"); (focus walk_at "hp")))
local macro_rules | `(tactic| walk_at "ne") => `(tactic| first
  | assumption | exact Ne.symm (by assumption)
  | (refine L2.ne_of_none (H := ?nH) (o := ?nO) ?nh ?nn; (case nn => assumption); (case nh => walk_at "hp"))
  | (refine Ne.symm (L2.ne_of_none (H := ?nH) (o := ?nO) ?nh ?nn); (case nn => assumption); (case nh => walk_at "hp")))
local macro_rules | `(tactic| walk_at "len") => `(tactic| (rw [PySem.sizeLine_eq]; omega))
local macro_rules | `(tactic| walk_at "nin") => `(tactic| first
  | exact List.not_mem_nil
  | (refine L2.Rx.nin1 ?_; walk_at "ne"))
local macro_rules | `(tactic| walk_at "none") => `(tactic| first
  | assumption
  | (refine L2.Rx.Kp.none0 (by assumption) ?_ ?_; (focus walk_at "nin"); (focus walk_at "none")))
namespace L2.Rx
open PySem PySem.Spec PyProof.Rows
theorem ms_1 {X : Cx} {o : Expr} {m : Str} {apos : Pos} {e : Expr} {cpos : Pos} (h1 : attributeBase o m X.env (eval o X.env) = eval o X.env := by rfl)
    (h2 : ((backTo cpos (starEach [e] X.env)).all (fun x => !x.1) && (backToKw cpos (keywordEach [] X.env)).all (fun x => x.1.isSome) && decide (([e] : List Expr).length + ([] : List Keyword).length + (if ([] : List Keyword).isEmpty then 0 else 1) < 30)) = true := by rfl)
    (h3 : (apos.endLine == cpos.line) = true := by rfl) (h4 : backTo cpos (starEach [e] X.env) = [(false, eval e X.env)] := by rfl) : M1 X o m apos e cpos := ⟨h1, h2, h3, h4⟩
/-! ### dicts, in words -/
section
variable {σ : St} {H : Hp} {Q : VK} {K : PySem.W.Frag}
theorem r_dnotin {ty td : TE} (h : ty σ H fun y H1 => td σ H1 fun x H2 => ∃ a o, x = .ref a ∧ DGet H2 a y o ∧ Q (.bl (!o.isSome)) H2) : tDNotIn ty td σ H Q := h
theorem r_dget {ty td : TE} (h : td σ H fun x H1 => ty σ H1 fun y H2 => ∃ a v, x = .ref a ∧ DGet H2 a y (some v) ∧ Q v H2) : tDGet td ty σ H Q := h
theorem r_dget1 {ty td : TE} (h : td σ H fun x H1 => ∃ a, x = .ref a ∧ IsD H1 a ∧ ty σ H1 fun y H2 => ∃ o, DGet H2 a y o ∧ Q (o.getD .non) H2) : tDGet1 td ty σ H Q := h
theorem r_dhas {a : Addr} {kvs : List (Key × V)} {c : Str} {q : Option V → Prop} (e : H a = some (.dK kvs)) (h : q (valV kvs (.inr c))) : ∃ a' o, V.ref a = .ref a' ∧ DGet H a' (.str c) o ∧ q o := ⟨a, _, rfl, DGet.k (k := .inr c) e, h⟩
theorem r_dat {a : Addr} {kvs : List (Key × V)} {c : Str} {v : V} {q : V → Prop} (e : H a = some (.dK kvs)) (g : valV kvs (.inr c) = some v) (h : q v) : ∃ a' v, V.ref a = .ref a' ∧ DGet H a' (.str c) (some v) ∧ q v := by
  refine ⟨a, v, rfl, ?_, h⟩
  rw [← g]
  exact DGet.k (k := .inr c) e
theorem r_dref {a : Addr} {kvs : List (Key × V)} {q : Addr → Prop} (e : H a = some (.dK kvs)) (h : q a) : ∃ a', V.ref a = .ref a' ∧ IsD H a' ∧ q a' := ⟨a, rfl, .inl ⟨kvs, .inl e⟩, h⟩
theorem r_dgetI {a : Addr} {kvs : List (Key × V)} {i : Int} {q : Option V → Prop} (e : H a = some (.dK kvs)) (h : q (valV kvs (.inl i))) : ∃ o, DGet H a (.int i) o ∧ q o := ⟨_, DGet.k (k := .inl i) e, h⟩
theorem r_isN {A : Prop} (h : A) : V.non = V.non ∧ A := ⟨rfl, h⟩
end
theorem mergeK_app : ∀ (kvs acc : List (Key × V)), ((acc ++ kvs).map Prod.fst).Nodup → mergeK acc kvs = acc ++ kvs
  | [], acc, _ => by rw [List.append_nil]; rfl
  | kv :: kvs, acc, h => by
    have e : putK acc kv.1 kv.2 = acc ++ [kv] := by
      unfold putK
      rw [if_neg]
      intro z
      obtain ⟨x, hx, e⟩ := List.any_eq_true.mp z
      have e' := of_decide_eq_true e
      rw [List.map_append, List.nodup_append] at h
      exact h.2.2 x.1 (List.mem_map_of_mem hx) kv.1 (List.mem_map_of_mem (List.mem_cons_self ..)) e'
    show mergeK (putK acc kv.1 kv.2) kvs = _
    rw [e, mergeK_app kvs (acc ++ [kv]) (by rw [List.append_assoc]; exact h), List.append_assoc]
    rfl
theorem mergeK_nd {kvs : List (Key × V)} (h : (kvs.map Prod.fst).Nodup) : mergeK [] kvs = kvs := mergeK_app kvs [] h
/-! ### a run of a reader -/
def lookB (bs : List (Int × Tr)) (i : Int) : Option Tr := (bs.find? fun z => decide (z.1 = i)).map (·.2)
def run (env : Str → Option Int) : Nat → Tr → List Str → Str × List Str × Option Str
  | 0, _, acc => (Str.ofString "done", acc, none)
  | _ + 1, .lf, acc => (Str.ofString "done", acc, none)
  | n + 1, .nd c bs, acc => match env c with
    | none => (Str.ofString "unknown", acc, some c)
    | some i => match lookB bs i with
      | none => (Str.ofString "open", acc ++ [c], some c)
      | some t => run env n t (acc ++ [c])
def resD (r : Str × List Str × Option Str) : PyData := .tuple [.str r.1, .tuple (r.2.1.map PyData.str), match r.2.2 with | none => .none | some c => .str c]
theorem run_lf (env : Str → Option Int) (n : Nat) (acc : List Str) : run env n .lf acc = (Str.ofString "done", acc, none) := by
  cases n <;> rfl
theorem run_u {env : Str → Option Int} {n : Nat} {c : Str} {bs : List (Int × Tr)} {acc : List Str} (h : env c = none) : run env (n + 1) (.nd c bs) acc = (Str.ofString "unknown", acc, some c) := by
  rw [run, h]
theorem run_o {env : Str → Option Int} {n : Nat} {c : Str} {bs : List (Int × Tr)} {acc : List Str} {i : Int} (h : env c = some i) (g : lookB bs i = none) : run env (n + 1) (.nd c bs) acc = (Str.ofString "open", acc ++ [c], some c) := by
  rw [run, h]
  simp only [g]
theorem run_g {env : Str → Option Int} {n : Nat} {c : Str} {bs : List (Int × Tr)} {acc : List Str} {i : Int} {t : Tr} (h : env c = some i) (g : lookB bs i = some t) : run env (n + 1) (.nd c bs) acc = run env n t (acc ++ [c]) := by
  rw [run, h]
  simp only [g]
/-- what a dict of ints says of a cell -/
def envK (kvs : List (Key × V)) (c : Str) : Option Int := match valV kvs (.inr c) with
  | some (.int i) => some i
  | _ => none
def IntVals (kvs : List (Key × V)) : Prop := ∀ k v, valV kvs k = some v → ∃ i, v = .int i
theorem env_none {kvs : List (Key × V)} {c : Str} (h : valV kvs (.inr c) = none) : envK kvs c = none := by
  unfold envK
  rw [h]
theorem env_some {kvs : List (Key × V)} {c : Str} {i : Int} (h : valV kvs (.inr c) = some (.int i)) : envK kvs c = some i := by
  unfold envK
  rw [h]
theorem lookB_mem {bs : List (Int × Tr)} {i : Int} {t : Tr} (h : lookB bs i = some t) : ∃ z ∈ bs, z.1 = i ∧ z.2 = t := by
  unfold lookB at h
  cases e : bs.find? fun z => decide (z.1 = i) with
  | none => rw [e] at h; cases h
  | some z =>
    rw [e] at h
    exact ⟨z, List.mem_of_find?_eq_some e, of_decide_eq_true (List.find?_some (p := fun z : Int × Tr => decide (z.1 = i)) e), Option.some.inj h⟩
theorem brs_pairs {K : PySem.W.Frag} {H : Hp} : ∀ {bs : List (Int × Tr)} {bys : List V}, DqAll K H bys (brd bs) → ∃ (ps : List Addr) (kvs : List (Key × V)), bys = ps.map V.ref ∧ Paired (fun p kv => SqT K H p [kV kv.1, kv.2]) ps kvs ∧ kvs.map Prod.fst = bs.map (fun z => .inl z.1) ∧
    ∀ i, (valV kvs (.inl i) = none ∧ lookB bs i = none) ∨ ∃ a t, valV kvs (.inl i) = some (.ref a) ∧ lookB bs i = some t ∧ Dq K H (.ref a) t.d
  | [], bys, h => by
    rw [brd] at h
    obtain rfl := dp_nil h
    exact ⟨[], [], rfl, .nil, rfl, fun i => .inl ⟨rfl, rfl⟩⟩
  | (v, t) :: r, bys, h => by
    rw [brd] at h
    obtain ⟨x, vs, rfl, dx, dr⟩ := dp_cons h
    obtain ⟨ps, kvs, e1, pr, ek, look⟩ := brs_pairs dr
    obtain ⟨a, _, rfl, sa, d1⟩ := dp_tup dx
    obtain ⟨y, _, rfl, dv, d2⟩ := dp_cons d1
    obtain rfl := dp_int dv
    obtain ⟨w, _, rfl, dw, d3⟩ := dp_cons d2
    obtain rfl := dp_nil d3
    obtain ⟨wa, rfl⟩ : ∃ wa, w = .ref wa := by
      cases t with
      | lf => rw [Tr.d] at dw; obtain ⟨a, _, e, _⟩ := dp_tup dw; exact ⟨a, e⟩
      | nd c bs => rw [Tr.d] at dw; obtain ⟨a, _, e, _⟩ := dp_tup dw; exact ⟨a, e⟩
    refine ⟨a :: ps, (.inl v, .ref wa) :: kvs, by rw [e1]; rfl, .cons sa.sq pr, by rw [List.map_cons, List.map_cons, ek], fun i => ?_⟩
    by_cases hv : v = i
    · subst hv
      exact .inr ⟨wa, t, by simp [valV], by simp [lookB], dw⟩
    · have h1 : valV ((Sum.inl v, V.ref wa) :: kvs) (.inl i) = valV kvs (.inl i) := by simp [valV, hv]
      have h2 : lookB ((v, t) :: r) i = lookB r i := by simp [lookB, hv]
      rw [h1, h2]
      exact look i
/-- dict(l), l the pairs of a log -/
def kvsL (l : List (Str × Int)) : List (Key × V) := l.map fun z => (.inr z.1, .int z.2)
theorem log_pairs {K : PySem.W.Frag} {H : Hp} : ∀ {l : List (Str × Int)} {ys : List V}, DqAll K H ys (l.map prD) → ∃ ps : List Addr, ys = ps.map V.ref ∧ Paired (fun p kv => SqT K H p [kV kv.1, kv.2]) ps (kvsL l)
  | [], ys, h => by
    obtain rfl := dp_nil h
    exact ⟨[], rfl, .nil⟩
  | z :: r, ys, h => by
    obtain ⟨x, vs, rfl, dx, dr⟩ := dp_cons h
    obtain ⟨ps, e1, pr⟩ := log_pairs dr
    obtain ⟨a, _, rfl, sa, d1⟩ := dp_tup dx
    obtain ⟨y, _, rfl, dv, d2⟩ := dp_cons d1
    obtain rfl := dp_str dv
    obtain ⟨w, _, rfl, dw, d3⟩ := dp_cons d2
    obtain rfl := dp_int dw
    obtain rfl := dp_nil d3
    exact ⟨a :: ps, by rw [e1]; rfl, .cons sa.sq pr⟩
theorem putK_int {kvs : List (Key × V)} {k : Key} {i : Int} (h : ∀ kv ∈ kvs, ∃ i, kv.2 = V.int i) : ∀ kv ∈ putK kvs k (.int i), ∃ i, kv.2 = V.int i := by
  intro kv hkv
  unfold putK at hkv
  split at hkv
  · obtain ⟨x, hx, rfl⟩ := List.mem_map.mp hkv
    split
    · exact ⟨i, rfl⟩
    · exact h x hx
  · rcases List.mem_append.mp hkv with q | q
    · exact h kv q
    · have e : kv = (k, .int i) := by simpa using q
      subst e
      exact ⟨i, rfl⟩
theorem mergeK_int : ∀ {more kvs : List (Key × V)}, (∀ kv ∈ kvs, ∃ i, kv.2 = V.int i) → (∀ kv ∈ more, ∃ i, kv.2 = V.int i) → ∀ kv ∈ mergeK kvs more, ∃ i, kv.2 = V.int i
  | [], kvs, h, _ => h
  | m :: more, kvs, h, g => by
    obtain ⟨i, e⟩ := g m (List.mem_cons_self ..)
    show ∀ kv ∈ mergeK (putK kvs m.1 m.2) more, _
    rw [e]
    exact mergeK_int (putK_int h) fun kv q => g kv (List.mem_cons_of_mem _ q)
theorem intVals_of {kvs : List (Key × V)} (h : ∀ kv ∈ kvs, ∃ i, kv.2 = V.int i) : IntVals kvs := by
  intro k v e
  unfold valV at e
  cases f : kvs.find? fun kv => decide (kv.1 = k) with
  | none => rw [f] at e; cases e
  | some kv =>
    rw [f] at e
    obtain ⟨i, q⟩ := h kv (List.mem_of_find?_eq_some f)
    exact ⟨i, by rw [← q]; exact (Option.some.inj e).symm⟩
theorem intVals_log (l : List (Str × Int)) : IntVals (mergeK [] (kvsL l)) := intVals_of (mergeK_int (fun _ h => nomatch h) fun kv h => by
  obtain ⟨z, _, rfl⟩ := List.mem_map.mp h
  exact ⟨z.2, rfl⟩)
/-! ### dicts of texts and ints -/
def putE (es : List (Str × Int)) (c : Str) (i : Int) : List (Str × Int) := if (es.any fun z => decide (z.1 = c)) = true then es.map (fun z => if z.1 = c then (z.1, i) else z) else es ++ [(c, i)]
theorem putK_L (es : List (Str × Int)) (c : Str) (i : Int) : putK (kvsL es) (.inr c) (.int i) = kvsL (putE es c i) := by
  have e : ((kvsL es).any fun kv => decide (kv.1 = Sum.inr c)) = es.any fun z => decide (z.1 = c) := by
    rw [kvsL, List.any_map]
    congr 1
    funext z
    simp
  unfold putK putE
  rw [e]
  split
  · rw [kvsL, kvsL, List.map_map, List.map_map]
    refine List.map_congr_left fun z _ => ?_
    show (if (Sum.inr z.1 : Key) = Sum.inr c then _ else _) = _
    by_cases h : z.1 = c
    · rw [if_pos (by rw [h])]
      simp [h]
    · rw [if_neg (fun q => h (Sum.inr.inj q))]
      simp [h]
  · rw [kvsL, kvsL, List.map_append]
    rfl
theorem putE_len (es : List (Str × Int)) (c : Str) (i : Int) : (putE es c i).length ≤ es.length + 1 := by
  unfold putE
  split
  · rw [List.length_map]
    omega
  · rw [List.length_append]
    exact Nat.le_refl _
theorem putE_has (es : List (Str × Int)) (c : Str) (i : Int) : c ∈ (putE es c i).map Prod.fst ∧ ∀ x ∈ es.map Prod.fst, x ∈ (putE es c i).map Prod.fst := by
  unfold putE
  split
  · next h =>
    obtain ⟨z, hz, e⟩ := List.any_eq_true.mp h
    have e' := of_decide_eq_true e
    have same : (es.map (fun z => if z.1 = c then (z.1, i) else z)).map Prod.fst = es.map Prod.fst := by
      rw [List.map_map]
      refine List.map_congr_left fun z _ => ?_
      show (if z.1 = c then (z.1, i) else z).1 = z.1
      split <;> rfl
    rw [same]
    exact ⟨e' ▸ List.mem_map_of_mem hz, fun x hx => hx⟩
  · rw [List.map_append]
    exact ⟨List.mem_append_right _ (List.mem_cons_self ..), fun x hx => List.mem_append_left _ hx⟩
theorem mergeK_L : ∀ (l acc : List (Str × Int)), ∃ es, mergeK (kvsL acc) (kvsL l) = kvsL es ∧ es.length ≤ acc.length + l.length ∧ ∀ x, x ∈ acc.map Prod.fst ∨ x ∈ l.map Prod.fst → x ∈ es.map Prod.fst
  | [], acc => ⟨acc, rfl, Nat.le_refl _, fun x h => h.elim id fun z => nomatch z⟩
  | z :: l, acc => by
    obtain ⟨es, e, hl, hm⟩ := mergeK_L l (putE acc z.1 z.2)
    have z1 := putE_len acc z.1 z.2
    have z2 := putE_has acc z.1 z.2
    refine ⟨es, ?_, by rw [List.length_cons]; omega, fun x hx => hm x ?_⟩
    · rw [← e, ← putK_L]
      rfl
    · rcases hx with h | h
      · exact .inl (z2.2 x h)
      · rw [List.map_cons] at h
        rcases List.mem_cons.mp h with q | q
        · exact .inl (q ▸ z2.1)
        · exact .inr q
theorem valV_L {es : List (Str × Int)} {c : Str} (h : c ∈ es.map Prod.fst) : ∃ i, valV (kvsL es) (.inr c) = some (.int i) := by
  induction es with
  | nil => cases h
  | cons z r ih =>
    by_cases e : z.1 = c
    · exact ⟨z.2, by simp [valV, kvsL, e]⟩
    · rw [List.map_cons] at h
      obtain ⟨i, hi⟩ := ih ((List.mem_cons.mp h).resolve_left fun q => e q.symm)
      refine ⟨i, ?_⟩
      rw [← hi]
      simp [valV, kvsL, e]
theorem dropK_L (es : List (Str × Int)) (c : Str) : ∃ es', dropK (kvsL es) (.inr c) = kvsL es' ∧ es'.length ≤ es.length := by
  refine ⟨es.filter fun z => decide (z.1 ≠ c), ?_, List.length_filter_le _ _⟩
  unfold dropK
  rw [kvsL, kvsL, List.filter_map]
  congr 1
  refine List.filter_congr fun z _ => ?_
  simp
def rSortDS : List V → Hp → VK → Prop := fun xs H Q => ∃ (a : Addr) (kvs : List (Key × V)) (ks : List Str), xs = [.ref a] ∧ Rd H a (.dK kvs) ∧ kvs.map (·.1) = ks.map Sum.inr ∧ ks.length < 64 ∧
    ∀ ys p, ys.Perm ks → sortedS ys = true → H p = none → Q (.ref p) (upd H p (.lst (ys.map V.str)))
theorem c_sortDS {X : Cx} (hcalm : X.calm = true) : CallR X (.builtin "sorted") rSortDS := call_sortedD hcalm
section
variable {σ : St} {H : Hp} {Q : VK} {K : PySem.W.Frag} {nx : St → Hp → Prop} {rt : VK} {bk ct : St → Hp → Prop}
theorem r_sortDS {a : Addr} {es : List (Str × Int)} (h : H a = some (.dK (kvsL es))) (l : es.length < 64) (q : ∀ (ys : List Str) (p : Addr), ys.Perm (es.map Prod.fst) → H p = none → Q (.ref p) (upd H p (.lst (ys.map V.str)))) : rSortDS [.ref a] H Q :=
  ⟨a, kvsL es, es.map Prod.fst, rfl, .inl h, by rw [kvsL, List.map_map, List.map_map]; rfl, by rw [List.length_map]; exact l, fun ys p pm _ np => q ys p pm np⟩
theorem r_dput {td ty tv : TE} {D : Ends} (h : tv σ H fun v H1 => td σ H1 fun x H2 => ty σ H2 fun y H3 => ∃ a H4, x = .ref a ∧ DPut H3 a y v H4 ∧ D.nx σ H4) : sDPut td ty tv D σ H := h
theorem r_putL {a : Addr} {es : List (Str × Int)} {c : Str} {i : Int} {q : Hp → Prop} (h : H a = some (.dK (kvsL es))) (l : es.length ≤ 1000) (g : q (upd H a (.dK (kvsL (putE es c i))))) : ∃ a' H4, V.ref a = .ref a' ∧ DPut H a' (.str c) (.int i) H4 ∧ q H4 := by
  refine ⟨a, _, rfl, DPut.k (k := .inr c) h ?_, ?_⟩
  · rw [kvsL, List.length_map, sizeLine_eq]
    omega
  · rw [putK_L]
    exact g
theorem r_dpop1 {td ty : TE} (h : td σ H fun x H1 => ∃ a, x = .ref a ∧ IsD H1 a ∧ ty σ H1 fun y H2 => ∃ kvs k v, H2 a = some (.dK kvs) ∧ y = kV k ∧ valV kvs k = some v ∧ Q v (upd H2 a (.dK (dropK kvs k)))) : tDPop1 td ty σ H Q := h
theorem r_popL {a : Addr} {es : List (Str × Int)} {c : Str} {q : V → Hp → Prop} (h : H a = some (.dK (kvsL es))) (m : c ∈ es.map Prod.fst) (g : ∀ (v : V) (es' : List (Str × Int)), es'.length ≤ es.length → q v (upd H a (.dK (kvsL es')))) :
    ∃ kvs k v, H a = some (.dK kvs) ∧ V.str c = kV k ∧ valV kvs k = some v ∧ q v (upd H a (.dK (dropK kvs k))) := by
  obtain ⟨i, hi⟩ := valV_L m
  obtain ⟨es', e, l⟩ := dropK_L es c
  exact ⟨_, .inr c, _, h, rfl, hi, by rw [e]; exact g _ es' l⟩
theorem dq_mem {ys : List V} {ds : List PyData} {v : V} (h : DqAll K H ys ds) (m : v ∈ ys) : ∃ d ∈ ds, Dq K H v d := by
  obtain ⟨j, hj, e⟩ := List.mem_iff_getElem.mp m
  obtain ⟨d, hd, q⟩ := DqAll.at h (i := j) (by rw [List.getElem?_eq_getElem hj, e])
  exact ⟨d, List.mem_of_getElem? hd, q⟩
end
theorem log_shp {l : List (Str × Int)} (h : ∀ z ∈ l, Cell z.1) : shp (logD l) = true := by
  rw [logD, shp]
  refine shps_mem fun d hd => ?_
  obtain ⟨z, hz, rfl⟩ := List.mem_map.mp hd
  rw [prD, shp, shps, shps, shps, shp, shp, (h z hz).ok]
  rfl
end L2.Rx

end
section
set_option Elab.async false
set_option linter.all false
set_option maxRecDepth 100000
set_option maxHeartbeats 4000000
local macro_rules | `(tactic| walk_at "rd1") => `(tactic| with_reducible first
  | refine L2.Rx.r_seq ?_ | refine L2.Rx.r_asg ?_ | refine L2.Rx.r_gname ?_ | refine L2.Rx.r_op ?_ | refine L2.Rx.r_c ?_
  | refine L2.Rx.r_var rfl ?_
  | refine L2.Rx.r_rI0 ?_ | refine L2.Rx.r_test ?_ | refine L2.Rx.r_bl ?_ | refine L2.Rx.r_if ?_ | refine L2.Rx.r_ret ?_
  | refine L2.Rx.r_cons ?_ | refine L2.Rx.r_nil ?_ | refine L2.Rx.r_call ?_ | refine L2.Rx.r_cb ?_ | refine L2.Rx.r_next ?_ | refine L2.Rx.r_drop ?_
  | refine L2.Rx.r_gsub ?_ | refine L2.Rx.r_tupF ?_ | refine L2.Rx.r_lst ?_ | refine L2.Rx.r_par ?_ | refine L2.Rx.r_par2 ?_
  | refine L2.Rx.r_un ?_ | refine L2.Rx.r_tb ?_ | refine L2.Rx.r_and ?_ | refine L2.Rx.r_or ?_ | refine L2.Rx.r_not ?_
  | refine L2.Rx.r_andV ?_ | refine L2.Rx.r_orV ?_ | refine L2.Rx.r_notV ?_ | refine L2.Rx.r_ifx ?_ | refine L2.Rx.r_chain ?_
  | refine L2.Rx.r_sl ?_ | refine L2.Rx.r_nopart ?_ | refine L2.Rx.r_part ?_ | refine L2.Rx.r_exint ?_ | refine L2.Rx.r_bm0 ?_ | refine L2.Rx.r_bm ?_
  | refine L2.Rx.r_lc ?_ | refine L2.Rx.r_rng1 ?_ | refine L2.Rx.r_yes ?_ | refine L2.Rx.r_tt ?_ | refine L2.Rx.r_ff ?_ | refine L2.Rx.r_m1 ?_ | refine L2.Rx.r_m0 ?_ | refine L2.Rx.r_isS ?_
  | (refine L2.Rx.r_wipe (by with_unfolding_all rfl) ?_) | (refine L2.Rx.r_tyL (by walk_at "hp") ?_)
  | refine L2.Rx.r_addS (by walk_at "len") ?_ | refine L2.Rx.r_lenS (by walk_at "len") ?_ | refine L2.Rx.r_slS (by walk_at "len") ?_
  | refine L2.Rx.r_dnotin ?_ | refine L2.Rx.r_dget ?_ | refine L2.Rx.r_dget1 ?_ | refine L2.Rx.r_dput ?_ | refine L2.Rx.r_dpop1 ?_ | refine L2.Rx.r_isN ?_
  | refine L2.Rx.r_for ?_ | refine L2.Rx.r_ilist ?_ | refine L2.Rx.r_itup ?_
  | refine L2.Rx.r_gcons ?_ | refine L2.Rx.r_gnil ?_ | (refine L2.Rx.r_gtupP (by assumption) (by walk_at "at") ?_)
  | (refine L2.Rx.r_rEq rfl ?_) | (refine L2.Rx.r_rNe rfl ?_)
  | refine L2.Rx.r_rU ?_ | refine L2.Rx.r_max2 ?_ | refine L2.Rx.r_min2 ?_ | refine L2.Rx.r_int1i ?_ | (refine L2.Rx.r_lenh (by walk_at "hp") ?_)
  | (refine L2.Rx.r_ixLh (by walk_at "hp") (by walk_at "at") ?_)
  | (refine L2.Rx.r_setL (by walk_at "hp") (by walk_at "at") ?_))
local macro_rules | `(tactic| walk_at "at") => `(tactic| with_unfolding_all rfl)
local macro_rules | `(tactic| walk_at "rd") => `(tactic| (repeat walk_at "rd1"))
local macro_rules | `(tactic| walk_at "hp") => `(tactic| first
  | assumption
  | exact L2.upd_same
  | (refine Eq.trans (L2.upd_ne ?_) ?_; (focus walk_at "ne"); (focus walk_at "hp"))
  | (refine L2.Rx.Kp.at0 (by assumption) ?_; walk_at "hp")
  | (refine L2.Rx.Kp.at1 (by assumption) ?_ ?_; (focus walk_at "ne"); (focus walk_at "hp")))
local macro_rules | `(tactic| walk_at "ne") => `(tactic| first
  | assumption | exact Ne.symm (by assumption)
  | (refine L2.ne_of_none (H := ?nH) (o := ?nO) ?nh ?nn; (case nn => assumption); (case nh => walk_at "hp"))
  | (refine Ne.symm (L2.ne_of_none (H := ?nH) (o := ?nO) ?nh ?nn); (case nn => assumption); (case nh => walk_at "hp")))
local macro_rules | `(tactic| walk_at "len") => `(tactic| (rw [PySem.sizeLine_eq]; omega))
local macro_rules | `(tactic| walk_at "nin") => `(tactic| first
  | exact List.not_mem_nil
  | (refine L2.Rx.nin1 ?_; walk_at "ne"))
local macro_rules | `(tactic| walk_at "none") => `(tactic| first
  | assumption
  | (refine L2.Rx.Kp.none0 (by assumption) ?_ ?_; (focus walk_at "nin"); (focus walk_at "none")))
namespace L2.Rx
open PySem PySem.Spec PyProof.Rows
/-! ### repr -/
mutual
def fine : PyData → Bool
  | .list ds => fines ds
  | .dict _ => false
  | .tuple ds => fines ds
  | .str x => PyData.strOk x
  | .none => true
  | .bool _ => true
  | .int i => decide (i.natAbs < 10 ^ 12)
def fines : List PyData → Bool
  | [] => true
  | d :: ds => fine d && fines ds
end
theorem log2_small {n : Nat} (h : n < 10 ^ 12) : n.log2 < 1920 := by
  by_cases z : n = 0
  · subst z
    decide
  · exact (Nat.log2_lt z).mpr (Nat.lt_trans h (by decide +kernel))
mutual
theorem fine_all : ∀ d : PyData, fine d = true → d.showable = true ∧ d.intsShort 13 = true ∧ d.canLay0 = true
  | .none, _ => ⟨by rw [PyData.showable], by rw [PyData.intsShort], by rw [PyData.canLay0]⟩
  | .bool b, _ => ⟨by rw [PyData.showable], by rw [PyData.intsShort], by rw [PyData.canLay0]⟩
  | .int i, h => by
    rw [fine] at h
    have h' := of_decide_eq_true h
    exact ⟨by rw [PyData.showable]; exact decide_eq_true (log2_small h'), by rw [PyData.intsShort]; exact decide_eq_true (PyData.shown_int_le h'), by rw [PyData.canLay0]⟩
  | .str x, h => ⟨by rw [PyData.showable], by rw [PyData.intsShort], by rw [PyData.canLay0]; rw [fine] at h; exact h⟩
  | .list ds, h => by
    rw [fine] at h
    obtain ⟨a, b, c⟩ := fines_all ds h
    exact ⟨by rw [PyData.showable]; exact a, by rw [PyData.intsShort]; exact b, by rw [PyData.canLay0]; exact c⟩
  | .tuple ds, h => by
    rw [fine] at h
    obtain ⟨a, b, c⟩ := fines_all ds h
    exact ⟨by rw [PyData.showable]; exact a, by rw [PyData.intsShort]; exact b, by rw [PyData.canLay0]; exact c⟩
  | .dict _, h => by rw [fine] at h; cases h
theorem fines_all : ∀ ds : List PyData, fines ds = true → PyData.showableAll ds = true ∧ PyData.intsShortAll 13 ds = true ∧ PyData.canLayAll0 ds = true
  | [], _ => ⟨by rw [PyData.showableAll], by rw [PyData.intsShortAll], by rw [PyData.canLayAll0]⟩
  | d :: ds, h => by
    rw [fines, Bool.and_eq_true] at h
    obtain ⟨a, b, c⟩ := fine_all d h.1
    obtain ⟨a', b', c'⟩ := fines_all ds h.2
    exact ⟨by rw [PyData.showableAll, a, a']; rfl, by rw [PyData.intsShortAll, b, b']; rfl, by rw [PyData.canLayAll0, c, c']; rfl⟩
end
theorem fines_mem : ∀ {ds : List PyData}, (∀ d ∈ ds, fine d = true) → fines ds = true
  | [], _ => by rw [fines]
  | d :: ds, h => by rw [fines, h d (List.mem_cons_self ..), fines_mem fun e m => h e (List.mem_cons_of_mem _ m)]; rfl
theorem weight_mem {k : Nat} : ∀ {ds : List PyData}, (∀ d ∈ ds, d.weight ≤ k) → PyData.weightAll ds ≤ ds.length * (k + 1)
  | [], _ => by rw [PyData.weightAll]; simp
  | d :: ds, h => by
    rw [PyData.weightAll, List.length_cons, Nat.succ_mul]
    have := h d (List.mem_cons_self ..)
    have := weight_mem (k := k) (ds := ds) fun e m => h e (List.mem_cons_of_mem _ m)
    omega
theorem r_repr {K : PySem.W.Frag} {H : Hp} {Q : VK} {v : V} {d : PyData} (h : Dq K H v d) (f : fine d = true) (n : d.depth ≤ 60) (w : d.weight ≤ 2 ^ 20) (q : Q (.str d.shown) H) : rRepr K [v] H Q := by
  obtain ⟨a, b, c⟩ := fine_all d f
  exact ⟨v, d, rfl, Dq.dp _ _ h, a, n, PyData.shown_fits_of_layable0 (B := 13) (by decide) (by decide) (by
    show (d.canLay0 && decide (d.depth ≤ 64) && decide (d.weight ≤ 2 ^ 20)) = true
    rw [c, decide_eq_true (show d.depth ≤ 64 by omega), decide_eq_true w]
    rfl) b, q⟩
def wTree : Nat → Nat
  | 0 => 0
  | n + 1 => 3 * wTree n + 150
theorem Okt.weight {n : Nat} {cs : List Str} {t : Tr} (h : Okt n cs t) (hc : ∀ c ∈ cs, Cell c) : t.d.weight ≤ wTree n := by
  induction h with
  | lf n cs => rw [Tr.d, PyData.weight, PyData.weightAll]; omega
  | @nd n cs cs' c bs h1 h2 h3 h4 h5 h6 h7 h8 ih =>
    rw [Tr.d, PyData.weight, PyData.weightAll, PyData.weightAll, PyData.weightAll, PyData.weight, PyData.weight, wTree]
    have c8 : c.cps.size ≤ 8 := (hc c h1).2.1
    have hb : PyData.weightAll (brd bs) ≤ bs.length * (wTree n + 32 + 1) := by
      have := weight_mem (k := wTree n + 32) (ds := brd bs) fun d hd => by
        rw [brd_eq] at hd
        obtain ⟨p, hp, rfl⟩ := List.mem_map.mp hd
        rw [PyData.weight, PyData.weightAll, PyData.weightAll, PyData.weightAll, PyData.weight]
        have w1 := ih p hp fun c m => hc c (h3 c m)
        have w2 : (if p.1 == 0 then 0 else p.1.natAbs.log2 + 1) ≤ 30 := by
          split
          · omega
          · next hz =>
            have hp' := h7 p hp
            have nz : p.1.natAbs ≠ 0 := by
              intro z
              apply hz
              simp
              omega
            have : p.1.natAbs.log2 < 30 := (Nat.log2_lt nz).mpr (by omega)
            omega
        omega
      rw [brd_eq, List.length_map] at this
      rw [brd_eq]
      exact this
    have h5' : bs.length * (wTree n + 32 + 1) ≤ 3 * (wTree n + 32 + 1) := Nat.mul_le_mul_right _ h5
    omega
theorem Okt.fine {n : Nat} {cs : List Str} {t : Tr} (h : Okt n cs t) (hc : ∀ c ∈ cs, Cell c) : fine t.d = true := by
  induction h with
  | lf n cs => rw [Tr.d, Rx.fine, Rx.fines]
  | nd h1 h2 h3 h4 h5 h6 h7 h8 ih =>
    rw [Tr.d, Rx.fine, Rx.fines, Rx.fines, Rx.fines, Rx.fine, Rx.fine, (hc _ h1).ok]
    rw [show Rx.fines (brd _) = true from ?_]
    · rfl
    · refine fines_mem fun d hd => ?_
      rw [brd_eq] at hd
      obtain ⟨p, hp, rfl⟩ := List.mem_map.mp hd
      have hp' := h7 p hp
      rw [Rx.fine, Rx.fines, Rx.fines, Rx.fines, Rx.fine, ih p hp fun c m => hc c (h3 c m), decide_eq_true (show p.1.natAbs < 10 ^ 12 by omega)]
      rfl
/-! the answer of a run -/
def ResOk (k : Nat) (r : Str × List Str × Option Str) : Prop := r.1.length ≤ 8 ∧ PyData.strOk r.1 = true ∧ r.2.1.length ≤ k ∧ (∀ c ∈ r.2.1, Cell c) ∧ ∀ c, r.2.2 = some c → Cell c
theorem run_ok (env : Str → Option Int) : ∀ (n : Nat) {cs : List Str} {t : Tr} (acc : List Str) (k : Nat), Okt n cs t → (∀ c ∈ cs, Cell c) → (∀ c ∈ acc, Cell c) → acc.length + n ≤ k → ResOk k (run env n t acc) := by
  have dn : ∀ (acc : List Str) (k : Nat), (∀ c ∈ acc, Cell c) → acc.length ≤ k → ResOk k (Str.ofString "done", acc, none) := fun acc k h l => ⟨(by show (Str.ofString "done").length ≤ 8; decide +kernel), (by show PyData.strOk (Str.ofString "done") = true; decide +kernel), l, h, fun c e => nomatch e⟩
  intro n
  induction n with
  | zero => intro cs t acc k ok hc ha hk; exact dn acc k ha (by omega)
  | succ n ih =>
    intro cs t acc k ok hc ha hk
    cases t with
    | lf => exact dn acc k ha (by omega)
    | nd c bs =>
      cases ok with
      | @nd _ _ cs' _ _ h1 h2 h3 h4 h5 h6 h7 h8 =>
        have ha' : ∀ x ∈ acc ++ [c], Cell x := by
          intro x hx
          rcases List.mem_append.mp hx with h | h
          · exact ha x h
          · rw [show x = c by simpa using h]
            exact hc c h1
        have la : (acc ++ [c]).length = acc.length + 1 := by rw [List.length_append]; rfl
        cases e : env c with
        | none => rw [run_u e]; exact ⟨(by show (Str.ofString "unknown").length ≤ 8; decide +kernel), (by show PyData.strOk (Str.ofString "unknown") = true; decide +kernel), by show acc.length ≤ k; omega, ha, fun x q => by rw [← Option.some.inj q]; exact hc c h1⟩
        | some i =>
          cases g : lookB bs i with
          | none => rw [run_o e g]; exact ⟨(by show (Str.ofString "open").length ≤ 8; decide +kernel), (by show PyData.strOk (Str.ofString "open") = true; decide +kernel), by show (acc ++ [c]).length ≤ k; omega, ha', fun x q => by rw [← Option.some.inj q]; exact hc c h1⟩
          | some t =>
            obtain ⟨z, hz, _, rfl⟩ := lookB_mem g
            rw [run_g e g]
            exact ih (acc ++ [c]) k (h8 z hz) (fun x m => hc x (h3 x m)) ha' (by omega)
theorem res_fine {k : Nat} {r : Str × List Str × Option Str} (h : ResOk k r) (hk : k ≤ 60) : fine (resD r) = true ∧ (resD r).depth ≤ 60 ∧ (resD r).weight ≤ 2 ^ 20 := by
  obtain ⟨w, cs, l⟩ := r
  obtain ⟨h1, h2, h3, h4, h5⟩ := h
  have f1 : fines (cs.map PyData.str) = true := fines_mem fun d hd => by
    obtain ⟨c, hc, rfl⟩ := List.mem_map.mp hd
    rw [fine]
    exact (h4 c hc).ok
  have w1 : PyData.weightAll (cs.map PyData.str) ≤ 60 * 9 := by
    have := weight_mem (k := 8) (ds := cs.map PyData.str) fun d hd => by
      obtain ⟨c, hc, rfl⟩ := List.mem_map.mp hd
      rw [PyData.weight]
      exact (h4 c hc).2.1
    rw [List.length_map] at this
    have h3' : cs.length ≤ k := h3
    have : cs.length * 9 ≤ 60 * 9 := Nat.mul_le_mul_right _ (by omega)
    omega
  have d1 : PyData.depthAll (cs.map PyData.str) ≤ 0 := depth_mem fun d hd => by
    obtain ⟨c, hc, rfl⟩ := List.mem_map.mp hd
    rw [PyData.depth]
    exact Nat.le_refl _
  have h1' : w.cps.size ≤ 8 := h1
  cases l with
  | none =>
    refine ⟨?_, ?_, ?_⟩
    · rw [resD]
      show fine (.tuple [.str w, .tuple (cs.map PyData.str), .none]) = true
      rw [fine, fines, fines, fines, fines, fine, fine, fine, f1, h2]
      rfl
    · show (PyData.tuple [.str w, .tuple (cs.map PyData.str), .none]).depth ≤ 60
      rw [PyData.depth, PyData.depthAll, PyData.depthAll, PyData.depthAll, PyData.depthAll, PyData.depth, PyData.depth, PyData.depth]
      omega
    · show (PyData.tuple [.str w, .tuple (cs.map PyData.str), .none]).weight ≤ 2 ^ 20
      rw [PyData.weight, PyData.weightAll, PyData.weightAll, PyData.weightAll, PyData.weightAll, PyData.weight, PyData.weight, PyData.weight]
      omega
  | some c =>
    have hc := h5 c rfl
    have hc8 : c.cps.size ≤ 8 := hc.2.1
    refine ⟨?_, ?_, ?_⟩
    · show fine (.tuple [.str w, .tuple (cs.map PyData.str), .str c]) = true
      rw [fine, fines, fines, fines, fines, fine, fine, fine, f1, h2, hc.ok]
      rfl
    · show (PyData.tuple [.str w, .tuple (cs.map PyData.str), .str c]).depth ≤ 60
      rw [PyData.depth, PyData.depthAll, PyData.depthAll, PyData.depthAll, PyData.depthAll, PyData.depth, PyData.depth, PyData.depth]
      omega
    · show (PyData.tuple [.str w, .tuple (cs.map PyData.str), .str c]).weight ≤ 2 ^ 20
      rw [PyData.weight, PyData.weightAll, PyData.weightAll, PyData.weightAll, PyData.weightAll, PyData.weight, PyData.weight, PyData.weight]
      omega
/-! ### calls with all arguments by name -/
theorem bindsK {K : PySem.W.Frag} {x qual : Str} {st : Stmt} {f : Addr} {fd : FuncData} {ps ks : List Str} {gv : List Value → List Value} (F : Fun K x qual st f fd)
    (h : ∀ (kV doc pm : Value) (an : Option Addr) (cdv ct : Value) (ws : List Value), (gv ws).length = ps.length → bindArgs (PySem.W.fnOf x qual (defArgs st) (defBody st) (defScope st) .none kV doc pm an cdv ct) ⟨[], ks.zip ws⟩ = pure (ps.zip (gv ws))) :
    ∀ (s : Shared) (ws : List Value), K.In s.heap → (gv ws).length = ps.length → BindsTo s fd ⟨[], ks.zip ws⟩ (ps.zip (gv ws)) := by
  obtain ⟨oc, od, kV, doc, pm, an, cdv, ct, osl, rfl, lk, hcd⟩ := F.ex
  exact fun s ws _ hl => .of_eq (h kV doc pm an cdv ct ws hl)
section
variable {X : Cx} {k j : Nat} {sp : Sp} {x : Str} {p pos : Pos} {ks : List Str} {g : List V → List V} {kws : List Keyword} {tk : TA}
theorem KnK.call (c : KnK X.prog X.w X.K X.mg X.base CX0 k x ks g sp) (hr : RoomG j X.A) (hk : k ≤ j) (hg : Gl X x) (hkw : PK X kws tk)
    (hall : (backToKw pos (keywordEach kws X.env)).all (·.1.isSome) = true := by rfl) (hks : (backToKw pos (keywordEach kws X.env)).filterMap (·.1) = ks := by rfl) (hdb : (x == ("__debug__" : Str)) = false := by decide)
    (hpl : ((backTo pos (starEach [] X.env)).any (·.1) || (backToKw pos (keywordEach kws X.env)).any (·.1.isNone)) = false := by rfl) :
    PE X (.Call (.Name x p) [] kws pos) (tKw g sp E0 tk) := by
  obtain ⟨f, fd, ps, gv, F, hm, kp, hb, hrel⟩ := c.ex
  refine ⟨fun pins s σ H Q I h => ?_⟩
  refine wpAny_Call_Name_kw (ld_glob I hg hm ?_ hdb)
  refine PySem.W.callWith_KW0 (h₀ := X.base) I.ok.mod.kin kp hall ?_ hpl
  refine thn (hkw.run pos pins s σ H _ I h) fun ws s2 ⟨zs, H2, I2, rz, q2⟩ => ⟨I2.kIn, ?_⟩
  rw [hks]
  exact callG (args := ⟨[], ks.zip ws⟩) (us := gv ws) F (hr.mono hk) pass0 I2 (fun hl => hb s2 ws I2.kIn hl) (hrel _ _ rz) q2
end
/-! ### paths -/
theorem lookB_nd {bs : List (Int × Tr)} (nd : (bs.map Prod.fst).Nodup) {z : Int × Tr} (hz : z ∈ bs) : lookB bs z.1 = some z.2 := by
  induction bs with
  | nil => cases hz
  | cons y r ih =>
    rw [List.map_cons, List.nodup_cons] at nd
    rcases List.mem_cons.mp hz with e | e
    · subst e
      simp [lookB]
    · have ne : ¬ y.1 = z.1 := fun q => nd.1 (q ▸ List.mem_map_of_mem e)
      have := ih nd.2 e
      rw [← this]
      simp [lookB, ne]
theorem path_run (env : Str → Option Int) : ∀ (n : Nat) {cs : List Str} {t : Tr} (acc : List Str) {p : List (Str × Int)}, Okt n cs t → p ∈ t.paths → (∀ z ∈ p, env z.1 = some z.2) → run env n t acc = (Str.ofString "done", acc ++ p.map Prod.fst, none) := by
  intro n
  induction n with
  | zero =>
    intro cs t acc p ok hp he
    cases ok with
    | lf => rw [Tr.paths] at hp; rw [show p = [] by simpa using hp, run_lf, List.map_nil, List.append_nil]
  | succ n ih =>
    intro cs t acc p ok hp he
    cases ok with
    | lf => rw [Tr.paths] at hp; rw [show p = [] by simpa using hp, run_lf, List.map_nil, List.append_nil]
    | @nd _ _ cs' c bs h1 h2 h3 h4 h5 h6 h7 h8 =>
      rw [Tr.paths, brp_eq] at hp
      obtain ⟨z, hz, hq⟩ := List.mem_flatMap.mp hp
      obtain ⟨s, hs, rfl⟩ := List.mem_map.mp hq
      have e := he (c, z.1) (List.mem_cons_self ..)
      have nd : (bs.map Prod.fst).Nodup := h6.imp fun {a b} h => by omega
      rw [run_g e (lookB_nd nd hz), ih (acc ++ [c]) (h8 z hz) hs (fun y hy => he y (List.mem_cons_of_mem _ hy)), List.map_cons, List.append_assoc]
      rfl
theorem path_names {n : Nat} {cs : List Str} {t : Tr} (ok : Okt n cs t) : ∀ p ∈ t.paths, (p.map Prod.fst).Nodup ∧ (∀ x ∈ p.map Prod.fst, x ∈ cs) ∧ p.length ≤ n := by
  induction ok with
  | lf n cs =>
    intro p hp
    rw [Tr.paths] at hp
    rw [show p = [] by simpa using hp]
    exact ⟨List.nodup_nil, (fun _ h => nomatch h), Nat.zero_le _⟩
  | @nd n cs cs' c bs h1 h2 h3 h4 h5 h6 h7 h8 ih =>
    intro p hp
    rw [Tr.paths, brp_eq] at hp
    obtain ⟨z, hz, hq⟩ := List.mem_flatMap.mp hp
    obtain ⟨s, hs, rfl⟩ := List.mem_map.mp hq
    obtain ⟨a, b, c'⟩ := ih z hz s hs
    rw [List.map_cons, List.nodup_cons, List.length_cons]
    refine ⟨⟨fun q => h2 (b _ q), a⟩, fun x hx => ?_, by omega⟩
    rcases List.mem_cons.mp hx with e | e
    · rw [e]
      exact h1
    · exact h3 x (b x e)
theorem env_log {l : List (Str × Int)} (nd : (l.map Prod.fst).Nodup) : ∀ z ∈ l, envK (mergeK [] (kvsL l)) z.1 = some z.2 := by
  have e : mergeK [] (kvsL l) = kvsL l := mergeK_nd (by
    rw [kvsL, List.map_map, show (Prod.fst ∘ fun z : Str × Int => ((Sum.inr z.1 : Key), V.int z.2)) = Sum.inr ∘ Prod.fst from rfl, ← List.map_map]
    exact List.Pairwise.map _ (fun a b h z => h (Sum.inr.inj z)) nd)
  rw [e]
  intro z hz
  refine env_some ?_
  clear e
  induction l with
  | nil => cases hz
  | cons y r ih =>
    rw [List.map_cons, List.nodup_cons] at nd
    rcases List.mem_cons.mp hz with q | q
    · subst q
      simp [valV, kvsL]
    · have ne : ¬ y.1 = z.1 := fun s => nd.1 (s ▸ List.mem_map_of_mem q)
      have := ih nd.2 q
      rw [← this]
      simp [valV, kvsL, ne]
theorem names_up {l : List (Str × Int)} (nd : (l.map Prod.fst).Nodup) (h : l.Pairwise fun x y => PySem.W.dataLt (prD y) (prD x) = false) : (l.map Prod.fst).Pairwise fun x y => ¬ y.cps.toList < x.cps.toList := by
  rw [List.pairwise_map]
  rw [List.nodup_iff_pairwise_ne, List.pairwise_map] at nd
  refine (h.and nd).imp fun {x y} q => ?_
  obtain ⟨q1, q2⟩ := q
  rw [prD, prD, PySem.W.dataLt_pair (by rw [PySem.W.alike]) (by rw [PySem.W.alike])] at q1
  have ne : PyData.eqv (.str y.1) (.str x.1) = false := by
    rw [PyData.eqv]
    exact beq_eq_false_iff_ne.mpr fun z => q2 z.symm
  rw [ne, if_neg Bool.false_ne_true, PySem.W.dataLt_str] at q1
  exact of_decide_eq_false q1
theorem sorted_same {a b : List Str} (p : a.Perm b) (ha : a.Pairwise fun x y => ¬ y.cps.toList < x.cps.toList) (hb : b.Pairwise fun x y => ¬ y.cps.toList < x.cps.toList) : a = b :=
  List.Perm.eq_of_pairwise (fun x y _ _ h1 h2 => str_ext (List.le_antisymm h1 h2)) ha hb p
section
variable {σ : St} {H : Hp} {Q : VK} {K : PySem.W.Frag}
theorem r_dnew (h : ∀ p, H p = none → Q (.ref p) (upd H p (.dK []))) : tDNewK σ H Q := h
theorem dq_strs : ∀ {ns : List Str} {ys : List V}, DqAll K H ys (ns.map PyData.str) → ys = ns.map V.str
  | [], ys, h => dp_nil h
  | n :: r, ys, h => by
    obtain ⟨v, vs, rfl, d1, d2⟩ := dp_cons h
    rw [dp_str d1, dq_strs d2]
    rfl
theorem r_neSame {x y : V} {d : PyData} (h : Dq K H x d) (g : Dq K H y d) (s : shp d = true) (n : d.depth ≤ 64) (q : Q (.bl (!true)) H) : rNeD K x y H Q :=
  ⟨d, d, Dq.dp _ _ h, Dq.dp _ _ g, shaped_of s n, shaped_of s n, by rw [PySem.SeqAt.eqv_refl d (shp_lay d s)]; exact q⟩
end
theorem wTree_le : ∀ n, n ≤ 6 → wTree n ≤ 2 ^ 20 := by decide +kernel
end L2.Rx

end
section
set_option Elab.async false
set_option linter.all false
set_option maxRecDepth 100000
set_option maxHeartbeats 4000000
local macro_rules | `(tactic| walk_at "rd1") => `(tactic| with_reducible first
  | refine L2.Rx.r_seq ?_ | refine L2.Rx.r_asg ?_ | refine L2.Rx.r_gname ?_ | refine L2.Rx.r_op ?_ | refine L2.Rx.r_c ?_
  | refine L2.Rx.r_var rfl ?_
  | refine L2.Rx.r_rI0 ?_ | refine L2.Rx.r_test ?_ | refine L2.Rx.r_bl ?_ | refine L2.Rx.r_if ?_ | refine L2.Rx.r_ret ?_
  | refine L2.Rx.r_cons ?_ | refine L2.Rx.r_nil ?_ | refine L2.Rx.r_call ?_ | refine L2.Rx.r_cb ?_ | refine L2.Rx.r_next ?_ | refine L2.Rx.r_drop ?_
  | refine L2.Rx.r_gsub ?_ | refine L2.Rx.r_tupF ?_ | refine L2.Rx.r_lst ?_ | refine L2.Rx.r_par ?_ | refine L2.Rx.r_par2 ?_
  | refine L2.Rx.r_un ?_ | refine L2.Rx.r_tb ?_ | refine L2.Rx.r_and ?_ | refine L2.Rx.r_or ?_ | refine L2.Rx.r_not ?_
  | refine L2.Rx.r_andV ?_ | refine L2.Rx.r_orV ?_ | refine L2.Rx.r_notV ?_ | refine L2.Rx.r_ifx ?_ | refine L2.Rx.r_chain ?_
  | refine L2.Rx.r_sl ?_ | refine L2.Rx.r_nopart ?_ | refine L2.Rx.r_part ?_ | refine L2.Rx.r_exint ?_ | refine L2.Rx.r_bm0 ?_ | refine L2.Rx.r_bm ?_
  | refine L2.Rx.r_lc ?_ | refine L2.Rx.r_rng1 ?_ | refine L2.Rx.r_yes ?_ | refine L2.Rx.r_tt ?_ | refine L2.Rx.r_ff ?_ | refine L2.Rx.r_m1 ?_ | refine L2.Rx.r_m0 ?_ | refine L2.Rx.r_isS ?_
  | (refine L2.Rx.r_wipe (by with_unfolding_all rfl) ?_) | (refine L2.Rx.r_tyL (by walk_at "hp") ?_)
  | refine L2.Rx.r_addS (by walk_at "len") ?_ | refine L2.Rx.r_lenS (by walk_at "len") ?_ | refine L2.Rx.r_slS (by walk_at "len") ?_
  | refine L2.Rx.r_dnotin ?_ | refine L2.Rx.r_dget ?_ | refine L2.Rx.r_dget1 ?_ | refine L2.Rx.r_dput ?_ | refine L2.Rx.r_dpop1 ?_ | refine L2.Rx.r_isN ?_
  | refine L2.Rx.r_for ?_ | refine L2.Rx.r_ilist ?_ | refine L2.Rx.r_itup ?_
  | refine L2.Rx.r_gcons ?_ | refine L2.Rx.r_gnil ?_ | (refine L2.Rx.r_gtupP (by assumption) (by walk_at "at") ?_)
  | (refine L2.Rx.r_rEq rfl ?_) | (refine L2.Rx.r_rNe rfl ?_)
  | refine L2.Rx.r_rU ?_ | refine L2.Rx.r_max2 ?_ | refine L2.Rx.r_min2 ?_ | refine L2.Rx.r_int1i ?_ | (refine L2.Rx.r_lenh (by walk_at "hp") ?_)
  | (refine L2.Rx.r_ixLh (by walk_at "hp") (by walk_at "at") ?_)
  | (refine L2.Rx.r_setL (by walk_at "hp") (by walk_at "at") ?_))
local macro_rules | `(tactic| walk_at "at") => `(tactic| with_unfolding_all rfl)
local macro_rules | `(tactic| walk_at "rd") => `(tactic| (repeat walk_at "rd1"))
local macro_rules | `(tactic| walk_at "hp") => `(tactic| first
  | assumption
  | exact L2.upd_same
  | (refine Eq.trans (L2.upd_ne ?_) ?_; (focus walk_at "ne"); (focus walk_at "hp"))
  | (refine L2.Rx.Kp.at0 (by assumption) ?_; walk_at "hp")
  | (refine L2.Rx.Kp.at1 (by assumption) ?_ ?_; (focus walk_at "ne"); (focus walk_at "hp")))
local macro_rules | `(tactic| walk_at "ne") => `(tactic| first
  | assumption | exact Ne.symm (by assumption)
  | (refine L2.ne_of_none (H := ?nH) (o := ?nO) ?nh ?nn; (case nn => assumption); (case nh => walk_at "hp"))
  | (refine Ne.symm (L2.ne_of_none (H := ?nH) (o := ?nO) ?nh ?nn); (case nn => assumption); (case nh => walk_at "hp")))
local macro_rules | `(tactic| walk_at "len") => `(tactic| (rw [PySem.sizeLine_eq]; omega))
local macro_rules | `(tactic| walk_at "nin") => `(tactic| first
  | exact List.not_mem_nil
  | (refine L2.Rx.nin1 ?_; walk_at "ne"))
local macro_rules | `(tactic| walk_at "none") => `(tactic| first
  | assumption
  | (refine L2.Rx.Kp.none0 (by assumption) ?_ ?_; (focus walk_at "nin"); (focus walk_at "none")))
namespace L2.Rx
open PySem PySem.Spec PyProof.Rows L2 PpSet
/-! ### {elt for target in iter if ..}, elt a text or an int -/
/-- the new set, before its first turn -/
theorem setK_fresh (P : Program) (w : World) (h : Heap) : (h.push { cls := .type "set", dict := none, data := .set #[] 0 (.fresh 0 0 (!w.params.followText "set-order")) }).SetOf (mixKind P w) h.objs.size (fun _ => false) 0 :=
  ⟨_, #[], 0, _, Heap.get?_push_size _ rfl, ⟨rfl, rfl, rfl⟩, rfl, (fun e he => by simp at he), (fun k => by simp), (by decide), (by rfl), rfl⟩
/-- what adding k makes of it -/
def setPut (P : Program) (w : World) (D : Addr) (S : Key → Bool) (n : Nat) (k : Key) : HO := SetK P w D (fun j => S j || decide (j = k)) (if S k = true then n else n + 1)
theorem addK_ok {X : Cx} {pins : List (Addr × Obj)} {σ : St} {H : Hp} {s : Shared} {E : Value → Shared → Prop} {D : Addr} {S : Key → Bool} {n : Nat} {k : Key} {u : Value} {Q : Value → Shared → Prop} (I : Inv X pins σ H s) (hD : H D = some (SetK X.prog X.w D S n)) (r : RelV (kV k) u) (room : n + 1 < scanBound)
    (h : ∀ s', Inv X pins σ (upd H D (setPut X.prog X.w D S n k)) s' → Q .none s') : wpAny (model X.prog X.w) X.A (call (.builtin "set.add") [.ref D, u]) Q E s :=
  call_set_add (kV_is r) (key_scan r) (setK_get I hD) room fun h' sb new => by
    obtain ⟨o, es, ep, tb, ho, rest⟩ := id new
    exact h _ (I.write (e := D) (t' := s.toks + 1) (by rw [hD]; trivial) (.inl rfl) (fun b u hb hu => (sb.2 b hb).trans hu) ⟨o, ho⟩ (setK_new new))
/-- a kind of sets: what stands at its place for the members t; t0 none; put: one more, where there is room -/
structure SetFam (P : Program) (w : World) (T : Type) where
  O : Addr → T → HO
  t0 : T
  room : T → Key → Prop
  put : T → Key → T
  fresh : ∀ (H : Hp) (h : Heap), ObjOk P w H (h.push { cls := .type "set", dict := none, data := .set #[] 0 (.fresh 0 0 (!w.params.followText "set-order")) }) h.objs.size (O h.objs.size t0)
  add : ∀ {X : Cx} {pins : List (Addr × Obj)} {σ : St} {H : Hp} {s : Shared} {E : Value → Shared → Prop} {D : Addr} {τ : T} {k : Key} {u : Value} {Q : Value → Shared → Prop}, X.prog = P → X.w = w → Inv X pins σ H s → H D = some (O D τ) → RelV (kV k) u → room τ k →
    (∀ s', Inv X pins σ (upd H D (O D (put τ k))) s' → Q .none s') → wpAny (model X.prog X.w) X.A (call (.builtin "set.add") [.ref D, u]) Q E s
/-- one turn: from a state of the loop with m turns left at most to one with fewer -/
def tSf {P : Program} {w : World} {T : Type} (F : SetFam P w T) (wi : TI) (g : TG) (tt : TT) (te : TE) (vs : List Nat) : TE := fun σ H Q => wi σ H fun J H1 => ∀ D, H1 D = none → ∃ W : Nat → Nat → Hp → Prop, (∃ m, W 0 m (upd H1 D (F.O D F.t0))) ∧ ∀ i m H, W i m H →
  (J.stop i H ∧ Q (.ref D) H) ∨ (J.go i H ∧ ∃ Nx : Hp → Prop, (∀ H', Nx H' → ∃ m', m' < m ∧ W (i + 1) m' H') ∧ ∀ x H', J.yld i H x H' → g x (wipe σ vs) H' fun σ2 H2 => wipe σ2 vs = wipe σ vs ∧ tt σ2 H2 fun b H3 =>
    if b = true then te σ2 H3 fun y H4 => ∃ (k : Key) (τ : T), y = kV k ∧ H4 D = some (F.O D τ) ∧ F.room τ k ∧ Nx (upd H4 D (F.O D (F.put τ k))) else Nx H3)
section
variable {X : Cx}
theorem pe_sf {T : Type} (F : SetFam X.prog X.w T) {elt tg iter : Expr} {ifs : List Expr} {scope : Scope} {own : List (PySem.Str × Nat)} {pos : Pos} {wi : TI} {g : TG} {tt : TT} {te : TE} (hc : X.calm = true) (hN : X.N.Nodup) (hi : PI X tg iter wi) (ok : BlkOk X.N X.env.scope scope own)
    (hg : ∀ (s : Shared) (H : Hp) (C : Addr) (cl : List (PySem.Str × Addr)) (fp : List Addr), PG (X.blk s H scope (compEnvC scope cl C X.env) fp) tg g) (ht : ∀ (s : Shared) (H : Hp) (C : Addr) (cl : List (PySem.Str × Addr)) (fp : List Addr), PTs (X.blk s H scope (compEnvC scope cl C X.env) fp) ifs tt)
    (he : ∀ (s : Shared) (H : Hp) (C : Addr) (cl : List (PySem.Str × Addr)) (fp : List Addr), PE (X.blk s H scope (compEnvC scope cl C X.env) fp) elt te) (hs : ∀ x, foldedSetIterable iter X.env x = pure x := by intro _; rfl) :
    PE X (.SetComp elt [⟨tg, iter, ifs, 0⟩] scope pos) (tSf F wi g tt te (own.map (·.2))) := by
  refine ⟨fun pins s σ H Q I h => ?_⟩
  rw [eval_SetComp]
  have free : ∀ y ∈ scope.names, y.2 = .free → ∃ c, X.env.cells.lookup y.1 = some c := fun y hy e => (ok.free y hy e).elim (fun k => I.ok.has _ (.inl k)) fun k => I.ok.has _ (.inr k)
  refine wpAny_comprehension_free (use := none) rfl hs (closure_ok free) ok.kind (fun y hy e => by rw [ok.uniq y hy, e]) (thn (hi.run pins s σ H _ I h) fun xv s1 hx => thn hx fun itv s2 ⟨it, fp, tn, J, H2, e, I2, Tn, st2, f2, q⟩ => ?_)
  subst e
  refine newSet_ok (newEnv_comp ?_)
  -- the set D, at the end of the heap
  obtain ⟨D, hD⟩ : ∃ D, D = s2.heap.objs.size := ⟨_, rfl⟩
  rw [← hD]
  obtain ⟨W, ⟨m0, w0⟩, turn⟩ := q D (I2.hok.fresh (Nat.le_of_eq hD.symm))
  obtain ⟨s3, es3⟩ : ∃ s3 : Shared, s3 = { s2 with heap := s2.heap.push { cls := .type "set", dict := none, data := .set #[] 0 (.fresh 0 0 (!X.w.params.followText "set-order")) } } := ⟨_, rfl⟩
  rw [← es3]
  have I3 : Inv X pins σ (upd H2 D (F.O D F.t0)) s3 := by
    rw [es3, hD]
    exact I2.laid (t' := s2.toks) (fun b o e => Heap.get?_push_of_some _ e) (Nat.le_refl _) (F.fresh _ s2.heap)
  have kept3 : ∀ b o, s2.heap.get? b = some o → s3.heap.get? b = some o := fun b o e => by rw [es3]; exact Heap.get?_push_of_some _ e
  have small : ∀ b ∈ fp, b < D := fun b hb => by
    obtain ⟨o, e, _⟩ := Tn.obj _ _ st2 b hb
    rw [hD]
    exact Heap.lt_size e
  obtain ⟨H3, eH3⟩ : ∃ H3, H3 = upd H2 D (F.O D F.t0) := ⟨_, rfl⟩
  rw [← eH3] at I3 w0
  have f3 : ∀ b ∈ fp, FpOk X pins H3 b ∧ b < s3.heap.objs.size := fun b hb => by
    have lt := small b hb
    refine ⟨⟨?_, (f2 b hb).2⟩, by rw [es3, Heap.size_push, ← hD]; exact Nat.lt_succ_of_lt lt⟩
    rw [eH3, upd_ne (Nat.ne_of_lt lt)]
    exact (f2 b hb).1
  have st3 : tn 0 s3.heap := Tn.keep _ _ _ st2 fun b _ o e => kept3 b o e
  have I4 := block_start I3 ok hN f3
  obtain ⟨ce, ece⟩ : ∃ ce, ce = compEnvC scope (cellsFrom (s3.heap.objs.size + 1) scope.names (cloFrom X.env.cells scope.names [])) s3.heap.objs.size X.env := ⟨_, rfl⟩
  have pg := hg s3 H3 s3.heap.objs.size (cellsFrom (s3.heap.objs.size + 1) scope.names (cloFrom X.env.cells scope.names [])) fp
  have pt := ht s3 H3 s3.heap.objs.size (cellsFrom (s3.heap.objs.size + 1) scope.names (cloFrom X.env.cells scope.names [])) fp
  have pe := he s3 H3 s3.heap.objs.size (cellsFrom (s3.heap.objs.size + 1) scope.names (cloFrom X.env.cells scope.names [])) fp
  rw [← ece] at I4 pg pt pe
  have cL : ce.locals = s3.heap.objs.size := by rw [ece]; rfl
  have done : ∀ s' m H', Inv X pins σ H' s' → Q (.ref D) H' → s'.heap.Ns s3.heap.objs.size m → FpOk X pins H' s3.heap.objs.size → compPost (model X.prog X.w) X.A X.xe none (EP X pins σ Q) (.ref D) s3.heap.objs.size (.ok .next) s' :=
    fun s' m H' I' q' hn ⟨f0, f1, f2, f3, f4, f5⟩ => ⟨m, hn, fun h'' sb => ⟨.ref D, H', I'.turned (t' := s'.toks) (fun b o hb e => (sb.2 b hb).trans e) f0 f1 f3 f4 f5, rfl, q'⟩⟩
  rw [← hD] at *
  show codeAny _ _ (.compStart (.SetComp elt [⟨tg, iter, ifs, 0⟩] scope pos) 0 (.ref it) (.ref D) (compEnvC scope (cellsFrom (s3.heap.objs.size + 1) scope.names (cloFrom X.env.cells scope.names [])) s3.heap.objs.size X.env)) (compPost (model X.prog X.w) X.A X.xe none (EP X pins σ Q) (.ref D) s3.heap.objs.size) { s3 with heap := pushCells (s3.heap.push { cls := .type "dict", data := .dict #[] }) scope.names }
  rw [← ece]
  obtain ⟨s4, es4⟩ : ∃ s4 : Shared, s4 = { s3 with heap := pushCells (s3.heap.push { cls := .type "dict", data := .dict #[] }) scope.names } := ⟨_, rfl⟩
  rw [← es4] at I4 ⊢
  have st4 : tn 0 s4.heap := Tn.keep _ _ _ st3 fun b _ o e => by rw [es4]; exact pushCells_keeps _ _ _ _ (Heap.get?_push_of_some _ e)
  -- the walked object's parts stand as they are, and are not tracked
  have stat : ∀ {σ' : St} {H' : Hp} {s' : Shared}, Inv (X.blk s3 H3 scope ce fp) [] σ' H' s' → (∀ b ∈ fp, H' b = none) → ∀ b ∈ fp, FpOk (X.blk s3 H3 scope ce fp) [] H' b := fun {σ' H' s'} I' nn b hb =>
    ⟨nn b hb, (I'.ok.exf b hb).1, I'.ok.exfs b hb, .inl hb, fun x c e => (I'.ok.exf b hb).2 x c e, fun p hp => absurd (show p ∈ ([] : List (Addr × Obj)) ++ [] from hp) (by simp)⟩
  have loop : codeAny (model X.prog X.w) X.A (.compLoop (.SetComp elt [⟨tg, iter, ifs, 0⟩] scope pos) 0 (.ref it) (.ref D) ce) (compPost (model X.prog X.w) X.A X.xe none (EP X pins σ Q) (.ref D) s3.heap.objs.size) s4 := by
    refine compLoopS_any (fun n s' => ∃ i H', Inv (X.blk s3 H3 scope ce fp) [] (wipe σ (own.map (·.2))) H' s' ∧ tn i s'.heap ∧ (∀ b ∈ fp, H' b = none) ∧ W i n H') ?_ m0 ⟨0, H3, I4, st4, fun b hb => (f3 b hb).1.1, w0⟩
    rintro n s5 ⟨i, H5, I5, st5, n5, w5⟩
    rcases turn i n H5 w5 with ⟨stop, qq⟩ | ⟨go, Nx, hNx, step⟩
    · refine thnF (Tn.done (X.blk s3 H3 scope ce fp) rfl rfl rfl hc i [] s5 _ H5 (fun _ _ => False) I5 (stat I5 n5) st5 stop) fun r s6 ⟨hr, I6⟩ => ?_
      subst hr
      have nC : H5 ce.locals = none := I6.free
      obtain ⟨m, hn, _⟩ := I6.loc
      have hn' : s6.heap.Ns ce.locals m := hn
      rw [cL] at nC hn'
      exact done s6 m H5 (I3.call' (ch := fp) I6.os I6.base I6.hok I6.bare fun b hb => ⟨(f3 b hb).1.2.2.2.1, (f3 b hb).1.2.1, (f3 b hb).1.2.2.2.2.1, (f3 b hb).1.2.2.2.2.2⟩) qq hn' (I3.fpOk (Nat.le_refl _) nC)
    · refine thnF (Tn.item (X.blk s3 H3 scope ce fp) rfl rfl rfl hc i [] s5 _ H5 (fun _ _ => False) I5 (stat I5 n5) st5 go) fun r s6 ⟨u, hr, h6⟩ => ?_
      subst hr
      refine thnF h6 fun _ s7 ⟨x, H7, I7, r7, y7, st7, n7⟩ => ?_
      refine thnF (pg.run _ s7 _ H7 x u _ (I7.pinned (stat I7 n7) (Tn.obj _ _ st7)) r7 (step x H7 y7)) fun _ s8 ⟨σ8, H8, I8, hw8, q8⟩ => ?_
      refine thnF (pt.run _ s8 σ8 H8 _ I8 q8) fun b s9 ⟨H9, I9, q9⟩ => ?_
      have next : ∀ {s' : Shared} {H' : Hp}, Inv (X.blk s3 H3 scope ce fp) ([] ++ pinsAt fp s7.heap) σ8 H' s' → Nx H' → ∃ m, m < n ∧ ∃ i H', Inv (X.blk s3 H3 scope ce fp) [] (wipe σ (own.map (·.2))) H' s' ∧ tn i s'.heap ∧ (∀ b ∈ fp, H' b = none) ∧ W i m H' := fun {s' H'} I' nx => by
        obtain ⟨m', hm, w'⟩ := hNx H' nx
        have pinned : ∀ b ∈ fp, ∀ o, s7.heap.get? b = some o → s'.heap.get? b = some o ∧ H' b = none := fun b hb o e => by
          have z := I'.pin (b, o) (List.mem_append_right _ (List.mem_append_right _ (mem_pinsAt hb e)))
          exact ⟨z.1, z.2.1⟩
        refine ⟨m', hm, i + 1, H', (I'.unpinned (pins := [])).weak (by rw [← hw8, wipe_length]) (fun j v e => by rw [← hw8] at e; exact (wipe_some e).1), Tn.keep _ _ _ st7 fun b hb o e => (pinned b hb o e).1, fun b hb => ?_, w'⟩
        obtain ⟨o, e, _⟩ := Tn.obj _ _ st7 b hb
        exact (pinned b hb o e).2
      cases b with
      | false =>
        simp only [Bool.false_eq_true, if_false] at q9 ⊢
        exact next I9 q9
      | true =>
        simp only [if_true] at q9 ⊢
        refine thnF (pe.run _ s9 σ8 H9 _ I9 q9) fun z s10 ⟨yv, H10, I10, r10, k, τ, ey, hD10, hz10, nx⟩ => ?_
        subst ey
        exact F.add (X := X.blk s3 H3 scope ce fp) rfl rfl I10 hD10 r10 hz10 fun s11 I11 => next I11 nx
  exact codeAny_compStart_set loop (Tn.self X.A 0 _ _ _ st4 loop)
end
/-! ### the walk of one over a list or a tuple -/
theorem sf_walk {P : Program} {w : World} {T : Type} (F : SetFam P w T) {J : It} {m : Nat} {g : TG} {tt : TT} {te : TE} {vs : List Nat} {σ : St} {H1 : Hp} {D : Addr} {Qd : Hp → Prop} (Pv : Nat → Hp → Prop) (h0 : Pv 0 (upd H1 D (F.O D F.t0)))
    (stop : ∀ H, Pv m H → J.stop m H) (goes : ∀ i H, i < m → Pv i H → J.go i H)
    (turn : ∀ i x H H', i < m → Pv i H → J.yld i H x H' → g x (wipe σ vs) H' fun σ2 H2 => wipe σ2 vs = wipe σ vs ∧ tt σ2 H2 fun b H3 =>
      if b = true then te σ2 H3 fun y H4 => ∃ (k : Key) (τ : T), y = kV k ∧ H4 D = some (F.O D τ) ∧ F.room τ k ∧ Pv (i + 1) (upd H4 D (F.O D (F.put τ k))) else Pv (i + 1) H3) (hd : ∀ H, Pv m H → Qd H) :
    ∃ W : Nat → Nat → Hp → Prop, (∃ m, W 0 m (upd H1 D (F.O D F.t0))) ∧ ∀ i m H, W i m H →
      (J.stop i H ∧ Qd H) ∨ (J.go i H ∧ ∃ Nx : Hp → Prop, (∀ H', Nx H' → ∃ m', m' < m ∧ W (i + 1) m' H') ∧ ∀ x H', J.yld i H x H' → g x (wipe σ vs) H' fun σ2 H2 => wipe σ2 vs = wipe σ vs ∧ tt σ2 H2 fun b H3 =>
        if b = true then te σ2 H3 fun y H4 => ∃ (k : Key) (τ : T), y = kV k ∧ H4 D = some (F.O D τ) ∧ F.room τ k ∧ Nx (upd H4 D (F.O D (F.put τ k))) else Nx H3) := by
  refine ⟨fun i left H => left = m - i ∧ i ≤ m ∧ Pv i H, ⟨m, by simp, Nat.zero_le _, h0⟩, ?_⟩
  rintro i left H ⟨rfl, hi, pv⟩
  rcases Nat.lt_or_ge i m with lt | ge
  · exact .inr ⟨goes i H lt pv, Pv (i + 1), fun H' p' => ⟨m - (i + 1), by omega, rfl, lt, p'⟩, fun x H' y => turn i x H H' lt pv y⟩
  · obtain rfl : i = m := by omega
    exact .inl ⟨stop H pv, hd H pv⟩
theorem sf_tup {P : Program} {w : World} {T : Type} (F : SetFam P w T) {K : PySem.W.Frag} {a : Addr} {xs : List V} {g : TG} {tt : TT} {te : TE} {vs : List Nat} {σ : St} {H1 : Hp} {D : Addr} {Qd : Hp → Prop} (Pv : Nat → Hp → Prop) (h0 : Pv 0 (upd H1 D (F.O D F.t0))) (hl : ∀ i H, i ≤ xs.length → Pv i H → SqT K H a xs)
    (turn : ∀ i x H, xs[i]? = some x → Pv i H → g x (wipe σ vs) H fun σ2 H2 => wipe σ2 vs = wipe σ vs ∧ tt σ2 H2 fun b H3 =>
      if b = true then te σ2 H3 fun y H4 => ∃ (k : Key) (τ : T), y = kV k ∧ H4 D = some (F.O D τ) ∧ F.room τ k ∧ Pv (i + 1) (upd H4 D (F.O D (F.put τ k))) else Pv (i + 1) H3) (hd : ∀ H, Pv xs.length H → Qd H) :
    ∃ W : Nat → Nat → Hp → Prop, (∃ m, W 0 m (upd H1 D (F.O D F.t0))) ∧ ∀ i m H, W i m H →
      ((Itt K a).stop i H ∧ Qd H) ∨ ((Itt K a).go i H ∧ ∃ Nx : Hp → Prop, (∀ H', Nx H' → ∃ m', m' < m ∧ W (i + 1) m' H') ∧ ∀ x H', (Itt K a).yld i H x H' → g x (wipe σ vs) H' fun σ2 H2 => wipe σ2 vs = wipe σ vs ∧ tt σ2 H2 fun b H3 =>
        if b = true then te σ2 H3 fun y H4 => ∃ (k : Key) (τ : T), y = kV k ∧ H4 D = some (F.O D τ) ∧ F.room τ k ∧ Nx (upd H4 D (F.O D (F.put τ k))) else Nx H3) :=
  sf_walk F Pv h0 (fun H pv => ⟨xs, hl _ H (Nat.le_refl _) pv, Nat.le_refl _⟩) (fun i H lt pv => ⟨xs, xs[i], hl i H (Nat.le_of_lt lt) pv, List.getElem?_eq_getElem lt⟩)
    (fun i x H H' lt pv y => by
      obtain ⟨e, y⟩ := y
      have q := y xs (hl i H (Nat.le_of_lt lt) pv)
      subst e
      exact turn i x _ q pv) hd
theorem sf_list {P : Program} {w : World} {T : Type} (F : SetFam P w T) {K : PySem.W.Frag} {a : Addr} {xs : List V} {g : TG} {tt : TT} {te : TE} {vs : List Nat} {σ : St} {H1 : Hp} {D : Addr} {Qd : Hp → Prop} (Pv : Nat → Hp → Prop) (h0 : Pv 0 (upd H1 D (F.O D F.t0))) (hl : ∀ i H, i ≤ xs.length → Pv i H → SqL K H a xs)
    (turn : ∀ i x H, xs[i]? = some x → Pv i H → g x (wipe σ vs) H fun σ2 H2 => wipe σ2 vs = wipe σ vs ∧ tt σ2 H2 fun b H3 =>
      if b = true then te σ2 H3 fun y H4 => ∃ (k : Key) (τ : T), y = kV k ∧ H4 D = some (F.O D τ) ∧ F.room τ k ∧ Pv (i + 1) (upd H4 D (F.O D (F.put τ k))) else Pv (i + 1) H3) (hd : ∀ H, Pv xs.length H → Qd H) :
    ∃ W : Nat → Nat → Hp → Prop, (∃ m, W 0 m (upd H1 D (F.O D F.t0))) ∧ ∀ i m H, W i m H →
      ((Itl K a).stop i H ∧ Qd H) ∨ ((Itl K a).go i H ∧ ∃ Nx : Hp → Prop, (∀ H', Nx H' → ∃ m', m' < m ∧ W (i + 1) m' H') ∧ ∀ x H', (Itl K a).yld i H x H' → g x (wipe σ vs) H' fun σ2 H2 => wipe σ2 vs = wipe σ vs ∧ tt σ2 H2 fun b H3 =>
        if b = true then te σ2 H3 fun y H4 => ∃ (k : Key) (τ : T), y = kV k ∧ H4 D = some (F.O D τ) ∧ F.room τ k ∧ Nx (upd H4 D (F.O D (F.put τ k))) else Nx H3) :=
  sf_walk F Pv h0 (fun H pv => ⟨xs, hl _ H (Nat.le_refl _) pv, Nat.le_refl _⟩) (fun i H lt pv => ⟨xs, xs[i], hl i H (Nat.le_of_lt lt) pv, List.getElem?_eq_getElem lt⟩)
    (fun i x H H' lt pv y => by
      obtain ⟨e, y⟩ := y
      have q := y xs (hl i H (Nat.le_of_lt lt) pv)
      subst e
      exact turn i x _ q pv) hd
/-- sets of texts and ints, asked only for members and length -/
def famK (P : Program) (w : World) : SetFam P w ((Key → Bool) × Nat) where
  O D τ := SetK P w D τ.1 τ.2
  t0 := (fun _ => false, 0)
  room τ _ := τ.2 + 1 < scanBound
  put τ k := (fun j => τ.1 j || decide (j = k), if τ.1 k = true then τ.2 else τ.2 + 1)
  fresh H h := setK_new (setK_fresh P w h)
  add := fun {X pins σ H s E D τ k u Q} e1 e2 I hD r room h => by
    subst e1 e2
    exact addK_ok I hD r room h
/-! ### len of a set of keys -/
def rLenK (P : Program) (w : World) : List V → Hp → VK → Prop := fun xs H Q => ∃ (a : Addr) (S : Key → Bool) (n : Nat), xs = [.ref a] ∧ H a = some (SetK P w a S n) ∧ n ≤ 100000 ∧ Q (.int n) H
theorem c_lenK {X : Cx} : CallR X (.builtin "len") (rLenK X.prog X.w) := by
  intro pins s σ H xs us Q I r h
  obtain ⟨a, S, n, rfl, ha, hn, q⟩ := h
  obtain ⟨u, rfl, ru⟩ := vals1 r
  cases ru
  obtain ⟨o, es, ep, t, ho, hex, hd, h1, h2, h3, hf, hsz⟩ := setK_get I ha
  exact call_len_set ho hex hd hf (by rw [hsz] <;> omega) ⟨.int n, H, I.tok _, ⟨_, by rw [hsz]⟩, q⟩
end L2.Rx

end
section
set_option Elab.async false
set_option linter.all false
set_option maxRecDepth 100000
set_option maxHeartbeats 4000000
local macro_rules | `(tactic| walk_at "rd1") => `(tactic| with_reducible first
  | refine L2.Rx.r_seq ?_ | refine L2.Rx.r_asg ?_ | refine L2.Rx.r_gname ?_ | refine L2.Rx.r_op ?_ | refine L2.Rx.r_c ?_
  | refine L2.Rx.r_var rfl ?_
  | refine L2.Rx.r_rI0 ?_ | refine L2.Rx.r_test ?_ | refine L2.Rx.r_bl ?_ | refine L2.Rx.r_if ?_ | refine L2.Rx.r_ret ?_
  | refine L2.Rx.r_cons ?_ | refine L2.Rx.r_nil ?_ | refine L2.Rx.r_call ?_ | refine L2.Rx.r_cb ?_ | refine L2.Rx.r_next ?_ | refine L2.Rx.r_drop ?_
  | refine L2.Rx.r_gsub ?_ | refine L2.Rx.r_tupF ?_ | refine L2.Rx.r_lst ?_ | refine L2.Rx.r_par ?_ | refine L2.Rx.r_par2 ?_
  | refine L2.Rx.r_un ?_ | refine L2.Rx.r_tb ?_ | refine L2.Rx.r_and ?_ | refine L2.Rx.r_or ?_ | refine L2.Rx.r_not ?_
  | refine L2.Rx.r_andV ?_ | refine L2.Rx.r_orV ?_ | refine L2.Rx.r_notV ?_ | refine L2.Rx.r_ifx ?_ | refine L2.Rx.r_chain ?_
  | refine L2.Rx.r_sl ?_ | refine L2.Rx.r_nopart ?_ | refine L2.Rx.r_part ?_ | refine L2.Rx.r_exint ?_ | refine L2.Rx.r_bm0 ?_ | refine L2.Rx.r_bm ?_
  | refine L2.Rx.r_lc ?_ | refine L2.Rx.r_rng1 ?_ | refine L2.Rx.r_yes ?_ | refine L2.Rx.r_tt ?_ | refine L2.Rx.r_ff ?_ | refine L2.Rx.r_m1 ?_ | refine L2.Rx.r_m0 ?_ | refine L2.Rx.r_isS ?_
  | (refine L2.Rx.r_wipe (by with_unfolding_all rfl) ?_) | (refine L2.Rx.r_tyL (by walk_at "hp") ?_)
  | refine L2.Rx.r_addS (by walk_at "len") ?_ | refine L2.Rx.r_lenS (by walk_at "len") ?_ | refine L2.Rx.r_slS (by walk_at "len") ?_
  | refine L2.Rx.r_dnotin ?_ | refine L2.Rx.r_dget ?_ | refine L2.Rx.r_dget1 ?_ | refine L2.Rx.r_dput ?_ | refine L2.Rx.r_dpop1 ?_ | refine L2.Rx.r_isN ?_
  | refine L2.Rx.r_for ?_ | refine L2.Rx.r_ilist ?_ | refine L2.Rx.r_itup ?_
  | refine L2.Rx.r_gcons ?_ | refine L2.Rx.r_gnil ?_ | (refine L2.Rx.r_gtupP (by assumption) (by walk_at "at") ?_)
  | (refine L2.Rx.r_rEq rfl ?_) | (refine L2.Rx.r_rNe rfl ?_)
  | refine L2.Rx.r_rU ?_ | refine L2.Rx.r_max2 ?_ | refine L2.Rx.r_min2 ?_ | refine L2.Rx.r_int1i ?_ | (refine L2.Rx.r_lenh (by walk_at "hp") ?_)
  | (refine L2.Rx.r_ixLh (by walk_at "hp") (by walk_at "at") ?_)
  | (refine L2.Rx.r_setL (by walk_at "hp") (by walk_at "at") ?_))
local macro_rules | `(tactic| walk_at "at") => `(tactic| with_unfolding_all rfl)
local macro_rules | `(tactic| walk_at "rd") => `(tactic| (repeat walk_at "rd1"))
local macro_rules | `(tactic| walk_at "hp") => `(tactic| first
  | assumption
  | exact L2.upd_same
  | (refine Eq.trans (L2.upd_ne ?_) ?_; (focus walk_at "ne"); (focus walk_at "hp"))
  | (refine L2.Rx.Kp.at0 (by assumption) ?_; walk_at "hp")
  | (refine L2.Rx.Kp.at1 (by assumption) ?_ ?_; (focus walk_at "ne"); (focus walk_at "hp")))
local macro_rules | `(tactic| walk_at "ne") => `(tactic| first
  | assumption | exact Ne.symm (by assumption)
  | (refine L2.ne_of_none (H := ?nH) (o := ?nO) ?nh ?nn; (case nn => assumption); (case nh => walk_at "hp"))
  | (refine Ne.symm (L2.ne_of_none (H := ?nH) (o := ?nO) ?nh ?nn); (case nn => assumption); (case nh => walk_at "hp")))
local macro_rules | `(tactic| walk_at "len") => `(tactic| (rw [PySem.sizeLine_eq]; omega))
local macro_rules | `(tactic| walk_at "nin") => `(tactic| first
  | exact List.not_mem_nil
  | (refine L2.Rx.nin1 ?_; walk_at "ne"))
local macro_rules | `(tactic| walk_at "none") => `(tactic| first
  | assumption
  | (refine L2.Rx.Kp.none0 (by assumption) ?_ ?_; (focus walk_at "nin"); (focus walk_at "none")))
namespace L2.Rx
open PySem PySem.Spec PyProof.Rows L2 PySem.Froz
/-! ### sets of texts that can be walked: its members l, each once -/
def TSetAt (P : Program) (w : World) (h : Heap) (a : Addr) (l : List Str) : Prop := ∃ D : SD, h.get? a = some (sObj "set" D) ∧ TxOk P w D l ∧ l.Nodup ∧ l.length < scanBound ∧ Ris D.2.2.place.toList ∧ (w.params.followText "set-order" = true ∨ D.2.2.led = true)
def TSetO (P : Program) (w : World) (a : Addr) (l : List Str) : HO := .ext fun h => TSetAt P w h a l
section
variable {P : Program} {w : World} {A : Around} {E : Value → Shared → Prop} {s : Shared} {a : Addr} {l : List Str}
theorem TSetAt.at {h h' : Heap} (R : TSetAt P w h a l) (k : ∀ o, h.get? a = some o → h'.get? a = some o) : TSetAt P w h' a l := by
  obtain ⟨D, ho, r⟩ := R
  exact ⟨D, k _ ho, r⟩
theorem tset_new {H : Hp} {h : Heap} (R : TSetAt P w h a l) : ObjOk P w H h a (TSetO P w a l) := by
  obtain ⟨D, ho, r⟩ := id R
  exact ⟨R, ⟨_, ho⟩, fun h1 h2 p k => TSetAt.at p k⟩
theorem tset_fresh (P : Program) (w : World) (h : Heap) : TSetAt P w (h.push { cls := .type "set", dict := none, data := .set #[] 0 (.fresh 0 0 (!w.params.followText "set-order")) }) h.objs.size [] := by
  refine ⟨(#[], 0, .fresh 0 0 (!w.params.followText "set-order")), Heap.get?_push_size _ rfl, TxOk.nil (by rfl), List.nodup_nil, by decide, List.Pairwise.nil, ?_⟩
  show _ ∨ (!w.params.followText "set-order") = true
  cases w.params.followText "set-order"
  · exact .inr rfl
  · exact .inl rfl
theorem tail_walk {ep : Nat} {es1 : Array (Int × Value)} {t2 : SetTable} {wd : Bool} (r : Ris t2.place.toList) : Ris (tailTx ep es1 t2 wd).2.2.place.toList ∧ (tailTx ep es1 t2 wd).2.2.led = t2.led := by
  unfold tailTx
  split
  · exact ⟨relayAll_ris _ _ _, relayAll_led _ _ _⟩
  · exact ⟨r, rfl⟩
theorem add_walk {h : Int} {v : Value} {D : SD} (r : Ris D.2.2.place.toList) : Ris (addTx h v D).2.2.place.toList ∧ (addTx h v D).2.2.led = D.2.2.led := by
  have r1 := layNew_ris D.2.2 D.1 h v r
  have l1 := layNew_led D.2.2 D.1 h v
  unfold addTx
  by_cases c : (layNew D.2.2 D.1 h v).2.1.plain = true
  · rw [if_pos c]
    obtain ⟨x, y⟩ := tail_walk (ep := D.2.1) (es1 := (layNew D.2.2 D.1 h v).1) (t2 := { (layNew D.2.2 D.1 h v).2.1 with plain := false }) (wd := (layNew D.2.2 D.1 h v).2.2.1) r1
    exact ⟨x, y.trans l1⟩
  · rw [if_neg c]
    obtain ⟨x, y⟩ := tail_walk (ep := D.2.1) (es1 := (layNew D.2.2 D.1 h v).1) (t2 := (layNew D.2.2 D.1 h v).2.1) (wd := (layNew D.2.2 D.1 h v).2.2.1) r1
    exact ⟨x, y.trans l1⟩
/-- a member that is there already changes nothing -/
theorem add_there {T : String} {D : SD} {k : Str} {u : Tok} {Q : Bool → Shared → Prop} (ho : s.heap.get? a = some (sObj T D)) (F : TxOk P w D l) (hk : k ∈ l) (hb : l.length < scanBound) (h : Q false s) : wpAny (model P w) A (setAddHashed a (.str k u) (hashStr w k)) Q E s := by
  obtain ⟨es, ep, t⟩ := D
  have hd : (sObj T (es, ep, t)).data = .set es ep t := rfl
  obtain ⟨e, he, z⟩ := (F.mem k).mp hk
  have sz : es.size = l.length := F.sz
  cases ef : List.findIdx? (fun e => (strKind P w).is k e.2) es.toList with
  | none => exact absurd z (by rw [List.findIdx?_eq_none_iff.mp ef e he]; exact Bool.false_ne_true)
  | some j =>
    unfold setAddHashed setAddHashedIn
    refine wpAny_holding (wpAny_bind (wpAny_setState_of ho hd F.fit ?_))
    dsimp only
    rw [byScan_of rfl (by show es.size < scanBound; omega) F.el]
    simp only [↓reduceIte]
    unfold setAddByScan
    refine wpAny_bind (wpAny_bind (wpAny_rule (wpAny_bind (wpAny_setScan_of (knd := strKind P w) (k := k) (is_str k u) ho hd F.fit F.el ?_))))
    rw [ef]
    exact wpAny_pure (wpAny_pure h)
/-- what adding makes of the members -/
def addL (l : List Str) (k : Str) : List Str := if k ∈ l then l else k :: l
theorem tset_add {k : Str} {u : Tok} {Q : Value → Shared → Prop} (R : TSetAt P w s.heap a l) (room : l.length + 1 < scanBound)
    (h : ∀ h', Heap.SameBut a s.heap h' → TSetAt P w h' a (addL l k) → Q .none { s with heap := h', toks := s.toks + 1 }) : wpAny (model P w) A (call (.builtin "set.add") [.ref a, .str k u]) Q E s := by
  obtain ⟨D, ho, tx, nd, lt, r, led⟩ := id R
  have ty : s.TypeIs (.ref a) "set" := ⟨_, ho, rfl⟩
  refine wpAny_call_entry F.slot_set_add ty F.entry_set_add ?_ (F.args_set_add_2 _ _)
  unfold Builtin.«set.add» Builtin.Frozenset.oneOther
  simp only [List.isEmpty_nil, bind_assoc]
  unfold Builtin.Frozenset.addrOf setAdd
  refine wpAny_bind (wpAny_pure ?_)
  try dsimp only
  refine wpAny_bind (wpAny_pure ?_)
  try dsimp only
  refine wpAny_bind (wpAny_holding (wpAny_bind ((strKind P w).pyHash (is_str k u) ?_)))
  have fin : ∀ h', Heap.SameBut a s.heap h' → TSetAt P w h' a (addL l k) → ∀ b : Bool, wpAny (model P w) A.in1 (ret Value.none) (fun f s' => ∃ r, f = .done (.ret r) ∧ Q r s') E { s with heap := h', toks := s.toks + 1 } := fun h' sb r' b => wpAny_pure ⟨_, rfl, h h' sb r'⟩
  by_cases hk : k ∈ l
  · refine add_there (s := { s with toks := s.toks + 1 }) ho tx hk lt ?_
    exact fin s.heap (Heap.SameBut.refl a s.heap) (by rw [addL, if_pos hk]; exact R) false
  · refine add_x (s := { s with toks := s.toks + 1 }) ho tx hk room ?_
    refine fin _ (Heap.SameBut.update s.heap a _) ?_ true
    rw [addL, if_neg hk]
    obtain ⟨r2, l2⟩ := add_walk (h := hashStr w k) (v := .str k u) r
    exact ⟨_, get_upd _ ho rfl, add_ok u tx, List.nodup_cons.mpr ⟨hk, nd⟩, room, r2, led.imp id fun z => by rw [l2]; exact z⟩
end
/-- the kind of sets of texts that can be walked -/
def famT (P : Program) (w : World) : SetFam P w (List Str) where
  O D τ := TSetO P w D τ
  t0 := []
  room τ k := τ.length + 1 < scanBound ∧ ∃ x, k = .inr x
  put τ k := match k with
    | .inr x => addL τ x
    | .inl _ => τ
  fresh H h := tset_new (tset_fresh P w h)
  add := fun {X pins σ H s E D τ k u Q} e1 e2 I hD r room h => by
    subst e1 e2
    obtain ⟨rm, x, rfl⟩ := room
    obtain ⟨t, rfl⟩ := r
    refine tset_add (I.hok D _ hD).1 rm fun h' sb new => ?_
    obtain ⟨D', ho, rest⟩ := id new
    exact h _ (I.write (e := D) (t' := s.toks + 1) (by rw [hD]; trivial) (.inl rfl) (fun b u hb hu => (sb.2 b hb).trans hu) ⟨_, ho⟩ (tset_new new))
/-! ### sorted of it -/
def rSortT (P : Program) (w : World) : List V → Hp → VK → Prop := fun xs H Q => ∃ (a : Addr) (l : List Str), xs = [.ref a] ∧ H a = some (TSetO P w a l) ∧
  ∀ (p : Addr) (ms : List Str), ms.Perm l → ms.Pairwise (fun x y => ¬ y.cps.toList < x.cps.toList) → H p = none → Q (.ref p) (upd H p (.lst (ms.map V.str)))
def txOf : Value → Str
  | .str x _ => x
  | _ => Str.empty
theorem perm_of_all {α : Type} [DecidableEq α] : ∀ {l m : List α}, l.Nodup → (∀ x ∈ l, x ∈ m) → m.length ≤ l.length → m.Perm l
  | [], m, _, _, h => by
    have : m = [] := List.length_eq_zero_iff.mp (by simpa using h)
    rw [this]
  | x :: l, m, nd, sub, h => by
    obtain ⟨nx, nd'⟩ := List.nodup_cons.mp nd
    have mx := sub x (List.mem_cons_self ..)
    have le := List.length_erase_of_mem mx
    refine (List.perm_cons_erase mx).trans (List.Perm.cons x (perm_of_all nd' (fun y hy => ?_) ?_))
    · exact (List.mem_erase_of_ne (fun z => nx (by rw [← z]; exact hy))).mpr (sub y (List.mem_cons_of_mem _ hy))
    · rw [le]
      rw [List.length_cons] at h
      omega
theorem vals_txt {P : Program} {w : World} {D : SD} {l : List Str} {vs : List Value} (tx : TxOk P w D l) (nd : l.Nodup) (pm : vs.Perm (D.1.toList.map (·.2))) : (vs.map txOf).Perm l ∧ Vals ((vs.map txOf).map V.str) vs := by
  have shape : ∀ v ∈ vs, ∃ k t, v = Value.str k t := fun v hv => by
    obtain ⟨e, he, rfl⟩ := List.mem_map.mp (pm.mem_iff.mp hv)
    obtain ⟨⟨k, hk, _⟩, _⟩ := tx.el e he
    obtain ⟨t, ht⟩ := Value.isStrOf_shape hk
    exact ⟨k, t, ht⟩
  refine ⟨perm_of_all nd (fun k hk => ?_) ?_, ?_⟩
  · obtain ⟨e, he, hk'⟩ := (tx.mem k).mp hk
    obtain ⟨t, ht⟩ := Value.isStrOf_shape hk'
    refine List.mem_map.mpr ⟨e.2, pm.mem_iff.mpr (List.mem_map.mpr ⟨e, he, rfl⟩), ?_⟩
    rw [ht]
    rfl
  · rw [List.length_map, pm.length_eq, List.length_map, Array.length_toList]
    exact Nat.le_of_eq tx.sz
  · clear pm
    induction vs with
    | nil => exact .nil
    | cons v r ih =>
      obtain ⟨k, t, rfl⟩ := shape v (List.mem_cons_self ..)
      exact .cons ⟨t, rfl⟩ (ih fun x hx => shape x (List.mem_cons_of_mem _ hx))
open PySem.W in
theorem call_sortT {X : Cx} {k : Nat} (hc : X.calm = true) (hr : RoomG k X.A) : CallR X (.builtin "sorted") (rSortT X.prog X.w) := by
  intro pins s σ H xs us Q I r h
  obtain ⟨a, l, rfl, ha, q⟩ := h
  obtain ⟨u, rfl, ru⟩ := vals1 r
  cases ru
  obtain ⟨D, ho, tx, nd, lt, ri, led⟩ := (I.hok a _ ha).1
  have sz : D.1.size = l.length := tx.sz
  refine Calls.call_function_entry kind_sorted plain_sorted entry_sorted (args_sorted1 _) ?_
  unfold Builtin.«sorted»
  refine wpAny_bind (m := checkCount "sorted" 1 1 _) (wpAny_pure ?_)
  refine wpAny_bind (collect_set (A := X.A.in1) (I.ok.hd hc) ⟨_, ho, rfl, rfl⟩ tx.fit (by rw [sz]; exact lt) ri led fun s1 vs kk z1 g1 o1 pm => ?_)
  have I1 : Inv X pins σ H s1 := I.call' (ch := []) o1 (Un.kept kk) (I.hok.kept kk) (by rw [g1]; exact I.bare) (fun _ z => nomatch z)
  obtain ⟨pk, rv⟩ := vals_txt tx nd pm
  have hz : vs.length ≤ sizeLine := by
    have e : vs.length = l.length := by rw [← List.length_map (f := txOf)]; exact pk.length_eq
    have : scanBound ≤ sizeLine := by rw [sizeLine_eq]; decide
    omega
  generalize vs.map txOf = ks at pk rv
  have hd : DpAll X.K H (ks.map V.str) (ks.map PyData.str) := dpAll_strs ks
  obtain ⟨hal, hdep, hk⟩ := sb_strs ks
  have fin : ∀ p, H p = none → Q (.ref p) (upd H p (.lst ((((ks.map PyData.str).zip (ks.map V.str)).mergeSort (dataLe false Prod.fst)).map Prod.snd))) := fun p np => by
    obtain ⟨zp, zw⟩ := sort_facts ((ks.map PyData.str).zip (ks.map V.str))
    generalize ((ks.map PyData.str).zip (ks.map V.str)).mergeSort (dataLe false Prod.fst) = zs at zp zw
    rw [zip_maps] at zp
    obtain ⟨ms, pm2, rfl⟩ := perm_map_inv (f := fun n : Str => (PyData.str n, V.str n)) (g := fun z => match z.1 with | .str i => i | _ => Str.empty) (fun _ => rfl) zp
    rw [List.map_map]
    refine q p ms (pm2.trans pk) ?_ np
    rw [List.pairwise_map] at zw
    refine zw.imp fun {x y} e => ?_
    rw [dataLt_str] at e
    exact of_decide_eq_false e
  generalize ks.map PyData.str = ds at hd hal hdep hk fin
  generalize ks.map V.str = ys at hd rv fin
  refine wpAny_bind (wpAny_newList ?_ hz)
  have hoL : (s1.heap.push (seqObj "list" vs.toArray 0)).get? s1.heap.objs.size = some (seqObj "list" vs.toArray 0) := Heap.get?_push_size _ rfl
  have I2 : Inv X pins σ H { s1 with heap := s1.heap.push (seqObj "list" vs.toArray 0) } := I1.kept (t' := s1.toks) fun b o e => Heap.get?_push_of_some _ e
  have hlen : ys.length = ds.length := dpAll_len hd
  have old : ∀ b o, (s1.heap.push (seqObj "list" vs.toArray 0)).get? b = some o → b ≠ s1.heap.objs.size → (sortingHeap (s1.heap.push (seqObj "list" vs.toArray 0)) s1.heap.objs.size vs).get? b = some o := fun b o e ne => sortingHeap_old ne e
  have hkeep : ∀ b o, s1.heap.get? b = some o → (sortingHeap (s1.heap.push (seqObj "list" vs.toArray 0)) s1.heap.objs.size vs).get? b = some o := fun b o e => old b o (Heap.get?_push_of_some _ e) (Nat.ne_of_lt (Heap.lt_size e))
  have J : Inv X pins σ H { s1 with heap := sortingHeap (s1.heap.push (seqObj "list" vs.toArray 0)) s1.heap.objs.size vs } := I1.kept (t' := s1.toks) hkeep
  obtain ⟨e1, _⟩ := EachIs_zip (K := X.K) I1 hd rv
  obtain ⟨_, e2⟩ := EachIs_zip (K := X.K) J hd rv
  have hmap : (ds.zip ys).map Prod.fst = ds := zip_fst _ _ hlen
  have e3 : EachIs (fun v d => ∃ as, Reads (sortingHeap (s1.heap.push (seqObj "list" vs.toArray 0)) s1.heap.objs.size vs) v d as) vs ((ds.zip ys).map Prod.fst) := each_map (R := fun v d => ∃ as, Reads (sortingHeap (s1.heap.push (seqObj "list" vs.toArray 0)) s1.heap.objs.size vs) v d as) Prod.fst e2
  have hun : ∀ d ∈ (ds.zip ys).map Prod.fst, X.A.in1.in1.units + d.depth < cLine := fun d m => by
    rw [hmap] at m
    have h1 := (hdep d m).1
    have h2 := hr.units
    show X.A.units + 1 + 1 + d.depth < cLine
    omega
  have S : SortsAt X.prog X.w X.A.in1.in1 { s1 with heap := sortingHeap (s1.heap.push (seqObj "list" vs.toArray 0)) s1.heap.objs.size vs } (dataKind (sortingHeap (s1.heap.push (seqObj "list" vs.toArray 0)) s1.heap.objs.size vs) ((ds.zip ys).map Prod.fst)) vs := by
    rcases hk with hk | hk | hk
    · exact SortsAt.data (s := { s1 with heap := sortingHeap (s1.heap.push (seqObj "list" vs.toArray 0)) s1.heap.objs.size vs }) e3 (by rw [hmap]; exact hal) (by rw [hmap]; exact hk) hun
    · exact sortsAt_few (s := { s1 with heap := sortingHeap (s1.heap.push (seqObj "list" vs.toArray 0)) s1.heap.objs.size vs }) e3 (by rw [hmap]; exact hal) (fun d m => (hdep d (by rw [hmap] at m; exact m)).2) (by rw [← rv.length, hlen]; exact hk) hun
    · exact sortsAt_tups (s := { s1 with heap := sortingHeap (s1.heap.push (seqObj "list" vs.toArray 0)) s1.heap.objs.size vs }) e3 (by rw [hmap]; exact hal) (by rw [hmap]; exact hk) hun
  show wpAny _ _ _ _ _ { s1 with heap := s1.heap.push (seqObj "list" vs.toArray 0) }
  refine wpAny_bind (wpAny_holding (wpAny_call_entry slot_list_sort ⟨_, hoL, rfl⟩ entry_list_sort ?body (args_list_sort _)))
  case body =>
    show wpAny (model X.prog X.w) X.A.in1.in1 (Builtin.«list.sort» ⟨[.ref s1.heap.objs.size], []⟩) _ _ _
    refine list_sort_vals (s := { s1 with heap := s1.heap.push (seqObj "list" vs.toArray 0) }) hoL S hz ⟨_, rfl, wpAny_pure ⟨_, rfl, ?_⟩⟩
    obtain ⟨ep, he⟩ := sortedHeap_at (vs := vs) (out := (sortVals (dataKind (sortingHeap (s1.heap.push (seqObj "list" vs.toArray 0)) s1.heap.objs.size vs) ((ds.zip ys).map Prod.fst)) false vs vs).toArray) hoL
    have out := sortVals_data (R := fun u (p : PyData × V) => RelV p.2 u) (h' := sortingHeap (s1.heap.push (seqObj "list" vs.toArray 0)) s1.heap.objs.size vs) false e1 e2 (by rw [hmap]; exact hal)
    have ov := vals_of_each out
    have ol : (((ds.zip ys).mergeSort (dataLe false Prod.fst)).map Prod.snd).length ≤ sizeLine := by
      rw [List.length_map, List.length_mergeSort, List.length_zip, hlen, Nat.min_self, ← hlen, rv.length]
      exact hz
    refine ⟨.ref s1.heap.objs.size, _, I1.laid (t' := s1.toks) (a := s1.heap.objs.size) (o := .lst (((ds.zip ys).mergeSort (dataLe false Prod.fst)).map Prod.snd)) (fun b u e => ?_) (Nat.le_refl _) ⟨ol, _, ep, ov, he⟩, rfl, fin _ (I1.hok.fresh (Nat.le_refl _))⟩
    have hb : b < s1.heap.objs.size := Heap.lt_size e
    rw [sortedHeap_old (Nat.ne_of_lt hb) (by rw [size_push']; exact Nat.lt_succ_of_lt hb)]
    exact Heap.get?_push_of_some _ e
end L2.Rx

end
section
set_option Elab.async false
set_option linter.all false
set_option maxRecDepth 100000
set_option maxHeartbeats 4000000
local macro_rules | `(tactic| walk_at "rd1") => `(tactic| with_reducible first
  | refine L2.Rx.r_seq ?_ | refine L2.Rx.r_asg ?_ | refine L2.Rx.r_gname ?_ | refine L2.Rx.r_op ?_ | refine L2.Rx.r_c ?_
  | refine L2.Rx.r_var rfl ?_
  | refine L2.Rx.r_rI0 ?_ | refine L2.Rx.r_test ?_ | refine L2.Rx.r_bl ?_ | refine L2.Rx.r_if ?_ | refine L2.Rx.r_ret ?_
  | refine L2.Rx.r_cons ?_ | refine L2.Rx.r_nil ?_ | refine L2.Rx.r_call ?_ | refine L2.Rx.r_cb ?_ | refine L2.Rx.r_next ?_ | refine L2.Rx.r_drop ?_
  | refine L2.Rx.r_gsub ?_ | refine L2.Rx.r_tupF ?_ | refine L2.Rx.r_lst ?_ | refine L2.Rx.r_par ?_ | refine L2.Rx.r_par2 ?_
  | refine L2.Rx.r_un ?_ | refine L2.Rx.r_tb ?_ | refine L2.Rx.r_and ?_ | refine L2.Rx.r_or ?_ | refine L2.Rx.r_not ?_
  | refine L2.Rx.r_andV ?_ | refine L2.Rx.r_orV ?_ | refine L2.Rx.r_notV ?_ | refine L2.Rx.r_ifx ?_ | refine L2.Rx.r_chain ?_
  | refine L2.Rx.r_sl ?_ | refine L2.Rx.r_nopart ?_ | refine L2.Rx.r_part ?_ | refine L2.Rx.r_exint ?_ | refine L2.Rx.r_bm0 ?_ | refine L2.Rx.r_bm ?_
  | refine L2.Rx.r_lc ?_ | refine L2.Rx.r_rng1 ?_ | refine L2.Rx.r_yes ?_ | refine L2.Rx.r_tt ?_ | refine L2.Rx.r_ff ?_ | refine L2.Rx.r_m1 ?_ | refine L2.Rx.r_m0 ?_ | refine L2.Rx.r_isS ?_
  | (refine L2.Rx.r_wipe (by with_unfolding_all rfl) ?_) | (refine L2.Rx.r_tyL (by walk_at "hp") ?_)
  | refine L2.Rx.r_addS (by walk_at "len") ?_ | refine L2.Rx.r_lenS (by walk_at "len") ?_ | refine L2.Rx.r_slS (by walk_at "len") ?_
  | refine L2.Rx.r_dnotin ?_ | refine L2.Rx.r_dget ?_ | refine L2.Rx.r_dget1 ?_ | refine L2.Rx.r_dput ?_ | refine L2.Rx.r_dpop1 ?_ | refine L2.Rx.r_isN ?_
  | refine L2.Rx.r_for ?_ | refine L2.Rx.r_ilist ?_ | refine L2.Rx.r_itup ?_
  | refine L2.Rx.r_gcons ?_ | refine L2.Rx.r_gnil ?_ | (refine L2.Rx.r_gtupP (by assumption) (by walk_at "at") ?_)
  | (refine L2.Rx.r_rEq rfl ?_) | (refine L2.Rx.r_rNe rfl ?_)
  | refine L2.Rx.r_rU ?_ | refine L2.Rx.r_max2 ?_ | refine L2.Rx.r_min2 ?_ | refine L2.Rx.r_int1i ?_ | (refine L2.Rx.r_lenh (by walk_at "hp") ?_)
  | (refine L2.Rx.r_ixLh (by walk_at "hp") (by walk_at "at") ?_)
  | (refine L2.Rx.r_setL (by walk_at "hp") (by walk_at "at") ?_))
local macro_rules | `(tactic| walk_at "at") => `(tactic| with_unfolding_all rfl)
local macro_rules | `(tactic| walk_at "rd") => `(tactic| (repeat walk_at "rd1"))
local macro_rules | `(tactic| walk_at "hp") => `(tactic| first
  | assumption
  | exact L2.upd_same
  | (refine Eq.trans (L2.upd_ne ?_) ?_; (focus walk_at "ne"); (focus walk_at "hp"))
  | (refine L2.Rx.Kp.at0 (by assumption) ?_; walk_at "hp")
  | (refine L2.Rx.Kp.at1 (by assumption) ?_ ?_; (focus walk_at "ne"); (focus walk_at "hp")))
local macro_rules | `(tactic| walk_at "ne") => `(tactic| first
  | assumption | exact Ne.symm (by assumption)
  | (refine L2.ne_of_none (H := ?nH) (o := ?nO) ?nh ?nn; (case nn => assumption); (case nh => walk_at "hp"))
  | (refine Ne.symm (L2.ne_of_none (H := ?nH) (o := ?nO) ?nh ?nn); (case nn => assumption); (case nh => walk_at "hp")))
local macro_rules | `(tactic| walk_at "len") => `(tactic| (rw [PySem.sizeLine_eq]; omega))
local macro_rules | `(tactic| walk_at "nin") => `(tactic| first
  | exact List.not_mem_nil
  | (refine L2.Rx.nin1 ?_; walk_at "ne"))
local macro_rules | `(tactic| walk_at "none") => `(tactic| first
  | assumption
  | (refine L2.Rx.Kp.none0 (by assumption) ?_ ?_; (focus walk_at "nin"); (focus walk_at "none")))
namespace L2.Rx
open PySem PySem.Spec PyProof.Rows L2 PpSet
/-! ### one clause of a set comprehension: its turn, with what the turn does for an item that is kept -/
def isKept (env : Env) (ifs : List Expr) : Sem Bool := forIn ifs true fun c r => if r = true then (isTrue c env (eval c env) >>= fun k => pure (ForInStep.yield k)) else pure (ForInStep.yield r)
def clauseTurn (tg i : Expr) (ifs : List Expr) (body : Sem Fin → Sem Fin) (it : Value) (env : Env) (more : Sem Fin) : Sem Fin :=
  standAt i.pos >>= fun _ => pyNext it >>= fun r => match r with
    | none => pure (.done .next)
    | some v => letOwnedTupleGo tg it v >>= fun _ => assign tg env v >>= fun _ => isKept env ifs >>= fun k => if k = true then body more else more
section
variable {prog : Program} {w : World} {A : Around} {R : Result → Shared → Prop} {s : Shared} {env : Env} {it acc : Value}
/-- what a kept item leads to, whatever follows -/
def Leads (prog : Program) (w : World) (A : Around) (E : Value → Shared → Prop) (body : Sem Fin → Sem Fin) (P : Shared → Prop) (s : Shared) : Prop :=
  ∀ (more : Sem Fin) (Q : Fin → Shared → Prop), (∀ z, P z → wpAny (model prog w) A more Q E z) → wpAny (model prog w) A (body more) Q E s
/-- a clause's loop: J by a measure -/
theorem clause_loop {elt tg i : Expr} {gens : List Comprehension} {scope : Scope} {pos : Pos} {ifs : List Expr} {dep : Nat} {body : Sem Fin → Sem Fin} (eq : compTurn (.SetComp elt gens scope pos) dep it acc env = clauseTurn tg i ifs body it env (again (.compLoop (.SetComp elt gens scope pos) dep it acc env))) (J : Nat → Shared → Prop)
    (step : ∀ n s, J n s → wpAny (model prog w) A (pyNext it) (fun r s1 => match r with
      | none => R (.ok .next) s1
      | some v => wpAny (model prog w) A (letOwnedTupleGo tg it v) (fun _ s2 => wpAny (model prog w) A (assign tg env v) (fun _ s3 => wpAny (model prog w) A (isKept env ifs) (fun k s4 =>
          if k = true then Leads prog w A (notedBy (model prog w) A env fun x z => R (.error x) z) body (fun s5 => ∃ m, m < n ∧ J m s5) s4 else ∃ m, m < n ∧ J m s4)
          (notedBy (model prog w) A env fun x z => R (.error x) z) s3) (notedBy (model prog w) A env fun x z => R (.error x) z) s2) (notedBy (model prog w) A env fun x z => R (.error x) z) s1)
      (notedBy (model prog w) A env fun x z => R (.error x) z) s)
    (n : Nat) (h : J n s) : codeAny (model prog w) A (.compLoop (.SetComp elt gens scope pos) dep it acc env) R s := by
  refine codeAny_loop (I := J) rfl (fun n s hJ => ?_) n h
  show wpAny (model prog w) A ((compTurn (.SetComp elt gens scope pos) dep it acc env).onRaise fun x => do noteFrame x env; theTreesLotGoes x) _ _ s
  rw [eq]
  refine wpAny_noted (wpAny_bind (wpAny_standAt (wpAny_bind (thn (step n s hJ) fun r s1 h1 => ?_))))
  cases r with
  | none => exact wpAny_pure h1
  | some v =>
    refine wpAny_bind (thn h1 fun _ s2 h2 => wpAny_bind (thn h2 fun _ s3 h3 => wpAny_bind (thn h3 fun k s4 h4 => ?_)))
    cases k with
    | false => exact wpAny_pure ⟨rfl, h4⟩
    | true => exact h4 _ _ fun z q => wpAny_pure ⟨rfl, q⟩
section
variable {elt tg i tg' i' : Expr} {ifs ifs' : List Expr} {scope : Scope} {pos : Pos}
/-- behind the first clause: the second one's own iterator and loop -/
def inner (e i' : Expr) (acc : Value) (env : Env) (more : Sem Fin) : Sem Fin := eval i' env >>= fun x => standAt i'.pos >>= fun _ => foldedSetIterable i' env x >>= fun x => holding [x] (pyIter x) >>= fun j => runOwn (.compStart e 1 j acc env) env >>= fun _ => more
theorem turn_out : compTurn (.SetComp elt [⟨tg, i, ifs, 0⟩, ⟨tg', i', ifs', 0⟩] scope pos) 0 it acc env = clauseTurn tg i ifs (inner (.SetComp elt [⟨tg, i, ifs, 0⟩, ⟨tg', i', ifs', 0⟩] scope pos) i' acc env) it env (again (.compLoop (.SetComp elt [⟨tg, i, ifs, 0⟩, ⟨tg', i', ifs', 0⟩] scope pos) 0 it acc env)) := by rfl
def putIn (elt : Expr) (acc : Value) (env : Env) (more : Sem Fin) : Sem Fin := (eval elt env >>= fun v => standAt elt.pos >>= fun _ => call (.builtin "set.add") [acc, v] >>= fun _ => pure ()) >>= fun (_ : Unit) => more
theorem turn_in : compTurn (.SetComp elt [⟨tg, i, ifs, 0⟩, ⟨tg', i', ifs', 0⟩] scope pos) 1 it acc env = clauseTurn tg' i' ifs' (putIn elt acc env) it env (again (.compLoop (.SetComp elt [⟨tg, i, ifs, 0⟩, ⟨tg', i', ifs', 0⟩] scope pos) 1 it acc env)) := by rfl
theorem leads_put {E : Value → Shared → Prop} {P : Shared → Prop} (h : wpAny (model prog w) A (eval elt env) (fun v s1 => wpAny (model prog w) A (call (.builtin "set.add") [acc, v]) (fun _ z => P z) E s1) E s) : Leads prog w A E (putIn elt acc env) P s := fun more Q q => by
  refine wpAny_bind (wpAny_bind (thn h fun v s1 h1 => wpAny_bind (wpAny_standAt (wpAny_bind (thn h1 fun _ z hz => wpAny_pure (q z hz))))))
theorem leads_inner {E : Value → Shared → Prop} {P : Shared → Prop} {e : Expr} (fs : ∀ x, foldedSetIterable i' env x = pure x)
    (h : wpAny (model prog w) A (eval i' env) (fun x s1 => wpAny (model prog w) A (pyIter x) (fun j s2 => codeAny (model prog w) A (.compStart e 1 j acc env) (fun r z => match r with | .ok _ => P z | .error _ => False) s2) E s1) E s) : Leads prog w A E (inner e i' acc env) P s := fun more Q q => by
  refine wpAny_bind (thn h fun x s1 h1 => wpAny_bind (wpAny_standAt (wpAny_bind (wpAny_of_eq (fs x) (wpAny_bind (wpAny_holding (thn h1 fun j s2 h2 => wpAny_bind (wpAny_runOwn ?_))))))))
  rw [Around.mark_none]
  refine codeAny_mono h2 fun r z hz => ?_
  cases r with
  | ok f => exact q z hz
  | error x => exact hz.elim
/-- the second clause's start: its iterator once more, or not -/
theorem start_in {e : Expr} (h0 : codeAny (model prog w) A (.compLoop (.SetComp elt [⟨tg, i, ifs, 0⟩, ⟨tg', i', ifs', 0⟩] scope pos) 1 it acc env) R s)
    (h : wpAny (model prog w) A (pyIter it) (fun j z => codeAny (model prog w) A (.compLoop (.SetComp elt [⟨tg, i, ifs, 0⟩, ⟨tg', i', ifs', 0⟩] scope pos) 1 j acc env) R z) (notedBy (model prog w) A env fun x z => R (.error x) z) s) :
    codeAny (model prog w) A (.compStart (.SetComp elt [⟨tg, i, ifs, 0⟩, ⟨tg', i', ifs', 0⟩] scope pos) 1 it acc env) R s := by
  refine codeAny_of_tree (wpAny_notedAt (pos := theWindowsPlace) ?_)
  unfold compStart
  refine wpAny_bind (wpAny_askSetting ?_)
  split
  · exact wpAny_pure ⟨rfl, h0⟩
  · exact wpAny_bind (wpAny_rule (wpAny_bind (wpAny_standAt (wpAny_bind (thn h fun j z q => wpAny_pure ⟨rfl, q⟩)))))
end
end
/-- {e for .. in .. if .. for .. in .. if ..}: as a list's two clauses, put into a set -/
def tSf2 {P : Program} {w : World} {T : Type} (F : SetFam P w T) (wi : TI) (g : TG) (tt : TT) (wj : TI) (g2 : TG) (tt2 : TT) (te : TE) (vs us : List Nat) : TE := fun σ H Q => wi σ H fun J H1 => ∀ D, H1 D = none → ∃ W : Nat → Nat → Hp → Prop, (∃ m, W 0 m (upd H1 D (F.O D F.t0))) ∧ ∀ i m H, W i m H →
  (J.stop i H ∧ Q (.ref D) H) ∨ (J.go i H ∧ ∃ Nx : Hp → Prop, (∀ H', Nx H' → ∃ m', m' < m ∧ W (i + 1) m' H') ∧ ∀ x H', J.yld i H x H' → g x (wipe σ vs) H' fun σ2 H2 => wipe σ2 vs = wipe σ vs ∧ tt σ2 H2 fun b H3 =>
    if b = true then wj σ2 H3 (fun J2 H4 => ∃ Wj : Nat → Nat → Hp → Prop, (∃ m, Wj 0 m H4) ∧ ∀ j n H, Wj j n H →
      (J2.stop j H ∧ Nx H) ∨ (J2.go j H ∧ ∃ Ny : Hp → Prop, (∀ H', Ny H' → ∃ n', n' < n ∧ Wj (j + 1) n' H') ∧ ∀ x H', J2.yld j H x H' → g2 x (wipe σ2 us) H' fun σ3 H5 => wipe σ3 us = wipe σ2 us ∧ tt2 σ3 H5 fun b H6 =>
        if b = true then te σ3 H6 fun y H7 => ∃ (k : Key) (τ : T), y = kV k ∧ H7 D = some (F.O D τ) ∧ F.room τ k ∧ Ny (upd H7 D (F.O D (F.put τ k))) else Ny H6))
    else Nx H3)
section
variable {X : Cx}
abbrev BlkPG (X : Cx) (scope : Scope) (tg : Expr) (g : TG) : Prop := ∀ (s : Shared) (H : Hp) (C : Addr) (cl : List (PySem.Str × Addr)) (fp : List Addr), PG (X.blk s H scope (compEnvC scope cl C X.env) fp) tg g
abbrev BlkPTs (X : Cx) (scope : Scope) (ifs : List Expr) (tt : TT) : Prop := ∀ (s : Shared) (H : Hp) (C : Addr) (cl : List (PySem.Str × Addr)) (fp : List Addr), PTs (X.blk s H scope (compEnvC scope cl C X.env) fp) ifs tt
abbrev BlkPI (X : Cx) (scope : Scope) (tg i : Expr) (wi : TI) : Prop := ∀ (s : Shared) (H : Hp) (C : Addr) (cl : List (PySem.Str × Addr)) (fp : List Addr), PI (X.blk s H scope (compEnvC scope cl C X.env) fp) tg i wi
abbrev BlkPE (X : Cx) (scope : Scope) (e : Expr) (te : TE) : Prop := ∀ (s : Shared) (H : Hp) (C : Addr) (cl : List (PySem.Str × Addr)) (fp : List Addr), PE (X.blk s H scope (compEnvC scope cl C X.env) fp) e te
theorem pe_sf2 {T : Type} (F : SetFam X.prog X.w T) {elt tg iter tg2 iter2 : Expr} {ifs ifs2 : List Expr} {scope : Scope} {own : List (PySem.Str × Nat)} {us : List Nat} {pos : Pos} {wi wj : TI} {g g2 : TG} {tt tt2 : TT} {te : TE} (calm : X.calm = true) (nn : X.N.Nodup) (hi : PI X tg iter wi) (ok : BlkOk X.N X.env.scope scope own) (sub : ∀ i ∈ us, i ∈ own.map (·.2))
    (hg : BlkPG X scope tg g) (ht : BlkPTs X scope ifs tt) (hj : BlkPI X scope tg2 iter2 wj) (hg2 : BlkPG X scope tg2 g2) (ht2 : BlkPTs X scope ifs2 tt2) (he : BlkPE X scope elt te) (f1 : ∀ x, foldedSetIterable iter X.env x = pure x := by intro _; rfl) (f2 : ∀ env x, foldedSetIterable iter2 env x = pure x := by intro _ _; rfl) :
    PE X (.SetComp elt [⟨tg, iter, ifs, 0⟩, ⟨tg2, iter2, ifs2, 0⟩] scope pos) (tSf2 F wi g tt wj g2 tt2 te (own.map (·.2)) us) := by
  refine ⟨fun pins s σ H Q I h => ?_⟩
  rw [eval_SetComp]
  have free : ∀ y ∈ scope.names, y.2 = .free → ∃ c, X.env.cells.lookup y.1 = some c := fun y hy e => (ok.free y hy e).elim (fun k => I.ok.has _ (.inl k)) fun k => I.ok.has _ (.inr k)
  refine wpAny_comprehension_free (use := none) rfl f1 (closure_ok free) ok.kind (fun y hy e => by rw [ok.uniq y hy, e]) (thn (hi.run pins s σ H _ I h) fun xv s1 hx => thn hx fun itv s2 ⟨it, fp, tn, J, H2, e, I2, Tn, st2, fp2, q⟩ => ?_)
  subst e
  refine newSet_ok (newEnv_comp ?_)
  obtain ⟨D, hD⟩ : ∃ D, D = s2.heap.objs.size := ⟨_, rfl⟩
  rw [← hD]
  obtain ⟨W, ⟨m0, w0⟩, turn⟩ := q D (I2.hok.fresh (Nat.le_of_eq hD.symm))
  obtain ⟨s3, es3⟩ : ∃ s3 : Shared, s3 = { s2 with heap := s2.heap.push { cls := .type "set", dict := none, data := .set #[] 0 (.fresh 0 0 (!X.w.params.followText "set-order")) } } := ⟨_, rfl⟩
  rw [← es3]
  have I3 : Inv X pins σ (upd H2 D (F.O D F.t0)) s3 := by
    rw [es3, hD]
    exact I2.laid (t' := s2.toks) (fun b o e => Heap.get?_push_of_some _ e) (Nat.le_refl _) (F.fresh _ s2.heap)
  have kept3 : ∀ b o, s2.heap.get? b = some o → s3.heap.get? b = some o := fun b o e => by rw [es3]; exact Heap.get?_push_of_some _ e
  have small : ∀ b ∈ fp, b < D := fun b hb => by
    obtain ⟨o, e, _⟩ := Tn.obj _ _ st2 b hb
    rw [hD]
    exact Heap.lt_size e
  obtain ⟨H3, eH3⟩ : ∃ H3, H3 = upd H2 D (F.O D F.t0) := ⟨_, rfl⟩
  rw [← eH3] at I3 w0
  have f3 : ∀ b ∈ fp, FpOk X pins H3 b ∧ b < s3.heap.objs.size := fun b hb => by
    have lt := small b hb
    refine ⟨⟨?_, (fp2 b hb).2⟩, by rw [es3, Heap.size_push, ← hD]; exact Nat.lt_succ_of_lt lt⟩
    rw [eH3, upd_ne (Nat.ne_of_lt lt)]
    exact (fp2 b hb).1
  have st3 : tn 0 s3.heap := Tn.keep _ _ _ st2 fun b _ o e => kept3 b o e
  have I4 := block_start I3 ok nn f3
  obtain ⟨ce, ece⟩ : ∃ ce, ce = compEnvC scope (cellsFrom (s3.heap.objs.size + 1) scope.names (cloFrom X.env.cells scope.names [])) s3.heap.objs.size X.env := ⟨_, rfl⟩
  have pg := hg s3 H3 s3.heap.objs.size (cellsFrom (s3.heap.objs.size + 1) scope.names (cloFrom X.env.cells scope.names [])) fp
  have pt := ht s3 H3 s3.heap.objs.size (cellsFrom (s3.heap.objs.size + 1) scope.names (cloFrom X.env.cells scope.names [])) fp
  have pj := hj s3 H3 s3.heap.objs.size (cellsFrom (s3.heap.objs.size + 1) scope.names (cloFrom X.env.cells scope.names [])) fp
  have pg2 := hg2 s3 H3 s3.heap.objs.size (cellsFrom (s3.heap.objs.size + 1) scope.names (cloFrom X.env.cells scope.names [])) fp
  have pt2 := ht2 s3 H3 s3.heap.objs.size (cellsFrom (s3.heap.objs.size + 1) scope.names (cloFrom X.env.cells scope.names [])) fp
  have pe := he s3 H3 s3.heap.objs.size (cellsFrom (s3.heap.objs.size + 1) scope.names (cloFrom X.env.cells scope.names [])) fp
  rw [← ece] at I4 pg pt pj pg2 pt2 pe
  have cL : ce.locals = s3.heap.objs.size := by rw [ece]; rfl
  have done : ∀ s' m H', Inv X pins σ H' s' → Q (.ref D) H' → s'.heap.Ns s3.heap.objs.size m → FpOk X pins H' s3.heap.objs.size → compPost (model X.prog X.w) X.A X.xe none (EP X pins σ Q) (.ref D) s3.heap.objs.size (.ok .next) s' :=
    fun s' m H' I' q' hn ⟨f0, f1, f2, f3, f4, f5⟩ => ⟨m, hn, fun h'' sb => ⟨.ref D, H', I'.turned (t' := s'.toks) (fun b o hb e => (sb.2 b hb).trans e) f0 f1 f3 f4 f5, rfl, q'⟩⟩
  rw [← hD] at *
  obtain ⟨e0, he0⟩ : ∃ e0, e0 = Expr.SetComp elt [⟨tg, iter, ifs, 0⟩, ⟨tg2, iter2, ifs2, 0⟩] scope pos := ⟨_, rfl⟩
  show codeAny _ _ (.compStart (.SetComp elt [⟨tg, iter, ifs, 0⟩, ⟨tg2, iter2, ifs2, 0⟩] scope pos) 0 (.ref it) (.ref D) (compEnvC scope (cellsFrom (s3.heap.objs.size + 1) scope.names (cloFrom X.env.cells scope.names [])) s3.heap.objs.size X.env)) (compPost (model X.prog X.w) X.A X.xe none (EP X pins σ Q) (.ref D) s3.heap.objs.size) { s3 with heap := pushCells (s3.heap.push { cls := .type "dict", data := .dict #[] }) scope.names }
  rw [← ece]
  obtain ⟨s4, es4⟩ : ∃ s4 : Shared, s4 = { s3 with heap := pushCells (s3.heap.push { cls := .type "dict", data := .dict #[] }) scope.names } := ⟨_, rfl⟩
  rw [← es4] at I4 ⊢
  have st4 : tn 0 s4.heap := Tn.keep _ _ _ st3 fun b _ o e => by rw [es4]; exact pushCells_keeps _ _ _ _ (Heap.get?_push_of_some _ e)
  have stat : ∀ {σ' : St} {H' : Hp} {s' : Shared}, Inv (X.blk s3 H3 scope ce fp) [] σ' H' s' → (∀ b ∈ fp, H' b = none) → ∀ b ∈ fp, FpOk (X.blk s3 H3 scope ce fp) [] H' b := fun {σ' H' s'} I' nn b hb =>
    ⟨nn b hb, (I'.ok.exf b hb).1, I'.ok.exfs b hb, .inl hb, fun x c e => (I'.ok.exf b hb).2 x c e, fun p hp => absurd (show p ∈ ([] : List (Addr × Obj)) ++ [] from hp) (by simp)⟩
  have loop : codeAny (model X.prog X.w) X.A (.compLoop (.SetComp elt [⟨tg, iter, ifs, 0⟩, ⟨tg2, iter2, ifs2, 0⟩] scope pos) 0 (.ref it) (.ref D) ce) (compPost (model X.prog X.w) X.A X.xe none (EP X pins σ Q) (.ref D) s3.heap.objs.size) s4 := by
    refine clause_loop turn_out (fun n s' => ∃ i H', Inv (X.blk s3 H3 scope ce fp) [] (wipe σ (own.map (·.2))) H' s' ∧ tn i s'.heap ∧ (∀ b ∈ fp, H' b = none) ∧ W i n H') ?_ m0 ⟨0, H3, I4, st4, fun b hb => (f3 b hb).1.1, w0⟩
    rintro n s5 ⟨i, H5, I5, st5, n5, w5⟩
    rcases turn i n H5 w5 with ⟨stop, qq⟩ | ⟨go, Nx, hNx, step⟩
    · refine thnF (Tn.done (X.blk s3 H3 scope ce fp) rfl rfl rfl calm i [] s5 _ H5 (fun _ _ => False) I5 (stat I5 n5) st5 stop) fun r s6 ⟨hr, I6⟩ => ?_
      subst hr
      have nC : H5 ce.locals = none := I6.free
      obtain ⟨m, hn, _⟩ := I6.loc
      have hn' : s6.heap.Ns ce.locals m := hn
      rw [cL] at nC hn'
      exact done s6 m H5 (I3.call' (ch := fp) I6.os I6.base I6.hok I6.bare fun b hb => ⟨(f3 b hb).1.2.2.2.1, (f3 b hb).1.2.1, (f3 b hb).1.2.2.2.2.1, (f3 b hb).1.2.2.2.2.2⟩) qq hn' (I3.fpOk (Nat.le_refl _) nC)
    · refine thnF (Tn.item (X.blk s3 H3 scope ce fp) rfl rfl rfl calm i [] s5 _ H5 (fun _ _ => False) I5 (stat I5 n5) st5 go) fun r s6 ⟨u, hr, h6⟩ => ?_
      subst hr
      refine thnF h6 fun _ s7 ⟨x, H7, I7, r7, y7, st7, n7⟩ => ?_
      refine thnF (pg.run _ s7 _ H7 x u _ (I7.pinned (stat I7 n7) (Tn.obj _ _ st7)) r7 (step x H7 y7)) fun _ s8 ⟨σ8, H8, I8, hw8, q8⟩ => ?_
      refine thnF (pt.run _ s8 σ8 H8 _ I8 q8) fun b s9 ⟨H9, I9, q9⟩ => ?_
      -- back at the first clause, from slots that know no less
      have next : ∀ {σ9 : St} {s' : Shared} {H' : Hp}, Inv (X.blk s3 H3 scope ce fp) ([] ++ pinsAt fp s7.heap) σ9 H' s' → σ9.length = σ8.length → (∀ (j : Nat) (v : V), (wipe σ8 (own.map (·.2)))[j]? = some (some v) → σ9[j]? = some (some v)) → Nx H' →
          ∃ m, m < n ∧ ∃ i H', Inv (X.blk s3 H3 scope ce fp) [] (wipe σ (own.map (·.2))) H' s' ∧ tn i s'.heap ∧ (∀ b ∈ fp, H' b = none) ∧ W i m H' := fun {σ9 s' H'} I' ll kk nx => by
        obtain ⟨m', hm, w'⟩ := hNx H' nx
        have pinned : ∀ b ∈ fp, ∀ o, s7.heap.get? b = some o → s'.heap.get? b = some o ∧ H' b = none := fun b hb o e => by
          have z := I'.pin (b, o) (List.mem_append_right _ (List.mem_append_right _ (mem_pinsAt hb e)))
          exact ⟨z.1, z.2.1⟩
        refine ⟨m', hm, i + 1, H', (I'.unpinned (pins := [])).weak (by rw [ll, ← hw8, wipe_length]) (fun j v e => kk j v (by rw [hw8]; exact e)), Tn.keep _ _ _ st7 fun b hb o e => (pinned b hb o e).1, fun b hb => ?_, w'⟩
        obtain ⟨o, e, _⟩ := Tn.obj _ _ st7 b hb
        exact (pinned b hb o e).2
      cases b with
      | false =>
        simp only [Bool.false_eq_true, if_false] at q9 ⊢
        exact next I9 rfl (fun j v e => (wipe_some e).1) q9
      | true =>
        simp only [if_true] at q9 ⊢
        refine leads_inner (f2 ce) (thnF (pj.run _ s9 σ8 H9 _ I9 q9) fun xv s10 hx => thnF hx fun itv s11 ⟨j1, fq, tm, J2, H11, e1, I11, T2, st11, f11, Wj, ⟨m1, w1⟩, turn2⟩ => ?_)
        subst e1
        have stat2 : ∀ {H' : Hp}, (∀ b ∈ fq, H' b = none) → ∀ b ∈ fq, FpOk (X.blk s3 H3 scope ce fp) ([] ++ pinsAt fp s7.heap) H' b := fun hn b hb => ⟨hn b hb, (f11 b hb).2⟩
        have down : ∀ (j : Nat) (v : V), (wipe σ8 (own.map (·.2)))[j]? = some (some v) → (wipe σ8 us)[j]? = some (some v) := fun j v e => by
          obtain ⟨a, b⟩ := wipe_some e
          rw [wipe_out (fun z => b (sub j z))]
          exact a
        have loop2 : codeAny (model X.prog X.w) X.A (.compLoop (.SetComp elt [⟨tg, iter, ifs, 0⟩, ⟨tg2, iter2, ifs2, 0⟩] scope pos) 1 (.ref j1) (.ref D) ce)
            (fun r z => match r with | .ok _ => ∃ m, m < n ∧ ∃ i H', Inv (X.blk s3 H3 scope ce fp) [] (wipe σ (own.map (·.2))) H' z ∧ tn i z.heap ∧ (∀ b ∈ fp, H' b = none) ∧ W i m H' | .error _ => False) s11 := by
          refine clause_loop turn_in (fun k s' => ∃ j H', Inv (X.blk s3 H3 scope ce fp) ([] ++ pinsAt fp s7.heap) (wipe σ8 us) H' s' ∧ tm j s'.heap ∧ (∀ b ∈ fq, H' b = none) ∧ Wj j k H') ?_ m1 ⟨0, H11, I11.weak (wipe_length _ _) (fun j v e => (wipe_some e).1), st11, fun b hb => (f11 b hb).1, w1⟩
          rintro k s12 ⟨j, H12, I12, st12, n12, w12⟩
          rcases turn2 j k H12 w12 with ⟨stop2, nx⟩ | ⟨go2, Ny, hNy, step2⟩
          · refine thnF (T2.done (X.blk s3 H3 scope ce fp) rfl rfl rfl calm j _ s12 (wipe σ8 us) H12 (fun _ _ => False) I12 (stat2 n12) st12 stop2) fun r s13 ⟨hr, I13⟩ => ?_
            subst hr
            exact next I13 (wipe_length _ _) down nx
          · refine thnF (T2.item (X.blk s3 H3 scope ce fp) rfl rfl rfl calm j _ s12 (wipe σ8 us) H12 (fun _ _ => False) I12 (stat2 n12) st12 go2) fun r s13 ⟨u2, hr, h13⟩ => ?_
            subst hr
            refine thnF h13 fun _ s14 ⟨x2, H14, I14, r14, y14, st14, n14⟩ => ?_
            refine thnF (pg2.run _ s14 (wipe σ8 us) H14 x2 u2 _ (I14.pinned (stat2 n14) (T2.obj _ _ st14)) r14 (step2 x2 H14 y14)) fun _ s15 ⟨σ15, H15, I15, hw15, q15⟩ => ?_
            refine thnF (pt2.run _ s15 σ15 H15 _ I15 q15) fun b2 s16 ⟨H16, I16, q16⟩ => ?_
            have next2 : ∀ {s' : Shared} {H' : Hp}, Inv (X.blk s3 H3 scope ce fp) (([] ++ pinsAt fp s7.heap) ++ pinsAt fq s14.heap) σ15 H' s' → Ny H' → ∃ m, m < k ∧ ∃ j H', Inv (X.blk s3 H3 scope ce fp) ([] ++ pinsAt fp s7.heap) (wipe σ8 us) H' s' ∧ tm j s'.heap ∧ (∀ b ∈ fq, H' b = none) ∧ Wj j m H' := fun {s' H'} I' ny => by
              obtain ⟨m', hm, w'⟩ := hNy H' ny
              have pinned : ∀ b ∈ fq, ∀ o, s14.heap.get? b = some o → s'.heap.get? b = some o ∧ H' b = none := fun b hb o e => by
                have z := I'.pin (b, o) (List.mem_append_right _ (List.mem_append_right _ (mem_pinsAt hb e)))
                exact ⟨z.1, z.2.1⟩
              refine ⟨m', hm, j + 1, H', I'.unpinned.weak (by rw [← hw15, wipe_length]) (fun i v e => by rw [← hw15] at e; exact (wipe_some e).1), T2.keep _ _ _ st14 fun b hb o e => (pinned b hb o e).1, fun b hb => ?_, w'⟩
              obtain ⟨o, e, _⟩ := T2.obj _ _ st14 b hb
              exact (pinned b hb o e).2
            cases b2 with
            | false =>
              simp only [Bool.false_eq_true, if_false] at q16 ⊢
              exact next2 I16 q16
            | true =>
              simp only [if_true] at q16 ⊢
              refine leads_put (thnF (pe.run _ s16 σ15 H16 _ I16 q16) fun z s17 ⟨yv, H17, I17, r17, key, τ, ey, hD17, hz17, ny⟩ => ?_)
              subst ey
              exact F.add (X := X.blk s3 H3 scope ce fp) rfl rfl I17 hD17 r17 hz17 fun s18 I18 => next2 I18 ny
        exact start_in (e := elt) loop2 (T2.self X.A 0 _ _ _ st11 loop2)
  exact codeAny_compStart_set loop (Tn.self X.A 0 _ _ _ st4 loop)
end
end L2.Rx

end
section
set_option Elab.async false
set_option linter.all false
set_option maxRecDepth 100000
set_option maxHeartbeats 4000000
namespace L2.Z
open PySem PySem.Spec PyProof.Rows L2.Rx
/-! ### data that nobody changes: it does not reach S -/
def kD : Key → PyData
  | .inl i => .int i
  | .inr x => .str x
mutual
inductive Fz (S : List Addr) (H : Hp) : V → PyData → Prop
  | non : Fz S H .non .none
  | bl (b : Bool) : Fz S H (.bl b) (.bool b)
  | int (i : Int) : Fz S H (.int i) (.int i)
  | str (x : Str) : Fz S H (.str x) (.str x)
  | lst {a : Addr} {xs : List V} {ds : List PyData} : a ∉ S → H a = some (.lst xs) → FzAll S H xs ds → Fz S H (.ref a) (.list ds)
  | tup {a : Addr} {xs : List V} {ds : List PyData} : a ∉ S → Tm H a xs → FzAll S H xs ds → Fz S H (.ref a) (.tuple ds)
  | dct {a : Addr} {kvs : List (Key × V)} {kds : List (Key × PyData)} : a ∉ S → Rd H a (.dK kvs) → kvs.map Prod.fst = kds.map Prod.fst → FzAll S H (kvs.map Prod.snd) (kds.map Prod.snd) → Fz S H (.ref a) (.dict (kds.map fun z => (kD z.1, z.2)))
inductive FzAll (S : List Addr) (H : Hp) : List V → List PyData → Prop
  | nil : FzAll S H [] []
  | cons {v : V} {vs : List V} {d : PyData} {ds : List PyData} : Fz S H v d → FzAll S H vs ds → FzAll S H (v :: vs) (d :: ds)
end
section
variable {K : PySem.W.Frag} {H H' : Hp} {S T : List Addr} {v : V} {d : PyData} {vs xs ys : List V} {ds es : List PyData}
theorem rd_move (m : ∀ a o, a ∉ S → H a = some o → a ∉ T ∧ H' a = some o) {a : Addr} {u : HO} (n : a ∉ S) (r : Rd H a u) : a ∉ T ∧ Rd H' a u := by
  rcases r with r | ⟨o, r⟩
  · exact ⟨(m a _ n r).1, .inl (m a _ n r).2⟩
  · exact ⟨(m a _ n r).1, .inr ⟨o, (m a _ n r).2⟩⟩
theorem tm_move (m : ∀ a o, a ∉ S → H a = some o → a ∉ T ∧ H' a = some o) {a : Addr} {xs : List V} (n : a ∉ S) (r : Tm H a xs) : a ∉ T ∧ Tm H' a xs := by
  obtain ⟨o, e, od⟩ := r
  exact ⟨(m a _ n e).1, o, (m a _ n e).2, od⟩
theorem Fz.move (m : ∀ a o, a ∉ S → H a = some o → a ∉ T ∧ H' a = some o) (h : Fz S H v d) : Fz T H' v d :=
  Fz.rec (motive_1 := fun v d _ => Fz T H' v d) (motive_2 := fun vs ds _ => FzAll T H' vs ds) .non .bl .int .str
    (fun n r _ ih => .lst (m _ _ n r).1 (m _ _ n r).2 ih) (fun n r _ ih => .tup (tm_move m n r).1 (tm_move m n r).2 ih)
    (fun n r e _ ih => .dct (rd_move m n r).1 (rd_move m n r).2 e ih) .nil (fun _ _ i1 i2 => .cons i1 i2) h
theorem FzAll.move (m : ∀ a o, a ∉ S → H a = some o → a ∉ T ∧ H' a = some o) (h : FzAll S H vs ds) : FzAll T H' vs ds := by
  induction vs generalizing ds with
  | nil => cases h; exact .nil
  | cons v vs ih => cases h with | cons h1 h2 => exact .cons (h1.move m) (ih h2)
theorem FzAll.len (h : FzAll S H vs ds) : vs.length = ds.length := by
  induction vs generalizing ds with
  | nil => cases h; rfl
  | cons v vs ih => cases h with | cons h1 h2 => simp [ih h2]
theorem FzAll.append (h : FzAll S H xs ds) (g : FzAll S H ys es) : FzAll S H (xs ++ ys) (ds ++ es) := by
  induction xs generalizing ds with
  | nil => cases h; exact g
  | cons v vs ih => cases h with | cons h1 h2 => exact .cons h1 (ih h2)
theorem FzAll.at {i : Nat} (h : FzAll S H xs ds) (e : xs[i]? = some v) : ∃ d, ds[i]? = some d ∧ Fz S H v d := by
  induction xs generalizing ds i with
  | nil => cases e
  | cons w ws ih => cases h with
    | cons h1 h2 => cases i with
      | zero => cases e; exact ⟨_, rfl, h1⟩
      | succ i =>
        obtain ⟨d, e2, f⟩ := ih (i := i) h2 e
        exact ⟨d, e2, f⟩
theorem FzAll.at' {i : Nat} (h : FzAll S H xs ds) (e : ds[i]? = some d) : ∃ v, xs[i]? = some v ∧ Fz S H v d := by
  induction xs generalizing ds i with
  | nil => cases h; cases e
  | cons w ws ih => cases h with
    | cons h1 h2 => cases i with
      | zero => cases e; exact ⟨_, rfl, h1⟩
      | succ i => exact ih h2 e
theorem FzAll.split {es : List PyData} (h : FzAll S H xs (ds ++ es)) : ∃ ys zs, xs = ys ++ zs ∧ FzAll S H ys ds ∧ FzAll S H zs es := by
  induction ds generalizing xs with
  | nil => exact ⟨[], xs, rfl, .nil, h⟩
  | cons d ds ih => cases h with
    | cons h1 h2 =>
      obtain ⟨ys, zs, rfl, a, b⟩ := ih h2
      exact ⟨_ :: ys, zs, rfl, .cons h1 a, b⟩
theorem FzAll.of (h : ∀ (i : Nat) (v : V), xs[i]? = some v → ∃ d, ds[i]? = some d ∧ Fz S H v d) (l : xs.length = ds.length) : FzAll S H xs ds := by
  induction xs generalizing ds with
  | nil => cases ds with
    | nil => exact .nil
    | cons _ _ => cases l
  | cons x xs ih => cases ds with
    | nil => cases l
    | cons d ds =>
      obtain ⟨_, e, f⟩ := h 0 x rfl
      cases e
      exact .cons f (ih (fun i v e => h (i + 1) v e) (by simpa using l))
/-- no dict within -/
def noD : PyData → Bool
  | .list ds => ds.attach.all fun z => noD z.1
  | .dict _ => false
  | .tuple ds => ds.attach.all fun z => noD z.1
  | _ => true
termination_by d => sizeOf d
decreasing_by
  all_goals simp_wf
  all_goals have := List.sizeOf_lt_of_mem z.2
  all_goals omega
theorem all_att (f : PyData → Bool) (ds : List PyData) : (ds.attach.all fun z => f z.1) = ds.all f := by
  rw [Bool.eq_iff_iff, List.all_eq_true, List.all_eq_true]
  exact ⟨fun h x m => h ⟨x, m⟩ (List.mem_attach ..), fun h x _ => h x.1 x.2⟩
theorem noD_list : noD (.list ds) = ds.all noD := by rw [noD]; exact all_att noD ds
theorem noD_tuple : noD (.tuple ds) = ds.all noD := by rw [noD]; exact all_att noD ds
theorem Fz.dq (h : Fz S H v d) : noD d = true → Dq K H v d :=
  Fz.rec (motive_1 := fun v d _ => noD d = true → Dq K H v d) (motive_2 := fun vs ds _ => ds.all noD = true → DqAll K H vs ds) (fun _ => .non) (fun b _ => .bl b) (fun i _ => .int i) (fun x _ => .str x)
    (fun _ r _ ih n => .lst (.inl (.inl r)) (ih (by rw [noD_list] at n; exact n))) (fun _ r _ ih n => .tup r (ih (by rw [noD_tuple] at n; exact n)))
    (fun _ _ _ _ _ n => by rw [noD] at n; cases n) (fun _ => .nil) (fun _ _ i1 i2 n => by
      rw [List.all_cons, Bool.and_eq_true] at n
      exact .cons (i1 n.1) (i2 n.2)) h
theorem FzAll.dq (h : FzAll S H vs ds) (n : ds.all noD = true) : DqAll K H vs ds := by
  induction vs generalizing ds with
  | nil => cases h; exact .nil
  | cons v vs ih => cases h with
    | cons h1 h2 =>
      rw [List.all_cons, Bool.and_eq_true] at n
      exact .cons (h1.dq n.1) (ih h2 n.2)
theorem Fz.i {i : Int} (h : Fz S H v (.int i)) : v = .int i := by cases h; rfl
theorem Fz.s {x : Str} (h : Fz S H v (.str x)) : v = .str x := by cases h; rfl
theorem Fz.b {b : Bool} (h : Fz S H v (.bool b)) : v = .bl b := by cases h; rfl
theorem Fz.n (h : Fz S H v .none) : v = .non := by cases h; rfl
theorem Fz.l (h : Fz S H v (.list ds)) : ∃ a xs, v = .ref a ∧ a ∉ S ∧ H a = some (.lst xs) ∧ FzAll S H xs ds := by
  cases h with | lst a b c => exact ⟨_, _, rfl, a, b, c⟩
theorem Fz.t (h : Fz S H v (.tuple ds)) : ∃ a xs, v = .ref a ∧ a ∉ S ∧ Tm H a xs ∧ FzAll S H xs ds := by
  cases h with | tup a b c => exact ⟨_, _, rfl, a, b, c⟩
theorem kD_inj {a b : List (Key × PyData)} (h : a.map (fun z => (kD z.1, z.2)) = b.map fun z => (kD z.1, z.2)) : a = b := by
  refine (List.map_inj_right ?_).mp h
  rintro ⟨k, x⟩ ⟨j, y⟩ e
  cases k <;> cases j <;> simp_all [kD]
theorem Fz.k {kds : List (Key × PyData)} (h : Fz S H v (.dict (kds.map fun z => (kD z.1, z.2)))) : ∃ a kvs, v = .ref a ∧ a ∉ S ∧ Rd H a (.dK kvs) ∧ kvs.map Prod.fst = kds.map Prod.fst ∧ FzAll S H (kvs.map Prod.snd) (kds.map Prod.snd) := by
  generalize e : PyData.dict (kds.map fun z => (kD z.1, z.2)) = d at h
  cases h with
  | dct a b c f =>
    cases kD_inj (PyData.dict.inj e)
    exact ⟨_, _, rfl, a, b, c, f⟩
  | _ => cases e
theorem FzAll.ints : ∀ {ns : List Int} {xs : List V}, FzAll S H xs (ns.map PyData.int) → xs = ns.map V.int
  | [], _, h => by cases h; rfl
  | n :: r, _, h => by cases h with | cons h1 h2 => rw [h1.i, FzAll.ints h2]; rfl
theorem FzAll.strs : ∀ {ns : List Str} {xs : List V}, FzAll S H xs (ns.map PyData.str) → xs = ns.map V.str
  | [], _, h => by cases h; rfl
  | n :: r, _, h => by cases h with | cons h1 h2 => rw [h1.s, FzAll.strs h2]; rfl
theorem FzAll.bools : ∀ {ns : List Bool} {xs : List V}, FzAll S H xs (ns.map PyData.bool) → xs = ns.map V.bl
  | [], _, h => by cases h; rfl
  | n :: r, _, h => by cases h with | cons h1 h2 => rw [h1.b, FzAll.bools h2]; rfl
theorem fz_ints : ∀ (ns : List Int), FzAll S H (ns.map V.int) (ns.map PyData.int)
  | [] => .nil
  | n :: r => .cons (.int n) (fz_ints r)
theorem fz_strs : ∀ (ns : List Str), FzAll S H (ns.map V.str) (ns.map PyData.str)
  | [] => .nil
  | n :: r => .cons (.str n) (fz_strs r)
theorem fz_bools : ∀ (ns : List Bool), FzAll S H (ns.map V.bl) (ns.map PyData.bool)
  | [] => .nil
  | n :: r => .cons (.bl n) (fz_bools r)
end
/-! ### slots and what is held meanwhile -/
structure Fr where
  K : PySem.W.Frag
  H0 : Hp
  S0 : List Addr
  W : List Addr
  L : List (Addr × HO)
/-- the script: a list that nobody changes, or one of the first heap -/
def SqS (K : PySem.W.Frag) (S : List Addr) (H : Hp) (a : Addr) (xs : List V) : Prop := (a ∉ S ∧ Rd H a (.lst xs)) ∨
  ∃ (o : Obj) (its : Array Value) (n : Nat), K.lookup a = some o ∧ o.cls = .type "list" ∧ o.dict = none ∧ o.data = .seq its n ∧ its.size ≤ sizeLine ∧ Vals xs its.toList
theorem SqS.sq {K : PySem.W.Frag} {S : List Addr} {H : Hp} {a : Addr} {xs : List V} (h : SqS K S H a xs) : SqL K H a xs := h.imp And.right id
inductive Sl
  | junk
  | fz (d : PyData)
  | own (ds : List PyData)
  | dic (kds : List (Key × PyData))
  | grp (kls : List (Key × List PyData))
  | box (n : Nat)
  | al (i : Nat)
  | scr (ns : List Int)
  | obj (o : Addr → HO)
  | prt (d e : PyData)
abbrev Ts := List (V × Sl)
structure Mine (F : Fr) (S : List Addr) (w : Addr → Nat) (id : Nat) (a : Addr) : Prop where
  s : a ∈ S
  z : F.H0 a = none
  w : w a = id
inductive Gr (F : Fr) (S : List Addr) (H : Hp) (w : Addr → Nat) (id : Nat) : List (Key × V) → List (Key × List PyData) → List Addr → Prop
  | nil : Gr F S H w id [] [] []
  | cons {k : Key} {a : Addr} {xs : List V} {ds : List PyData} {kvs : List (Key × V)} {kls : List (Key × List PyData)} {as : List Addr} : H a = some (.lst xs) → FzAll S H xs ds → Mine F S w id a → a ∉ as → Gr F S H w id kvs kls as →
    Gr F S H w id ((k, .ref a) :: kvs) ((k, ds) :: kls) (a :: as)
inductive Sr (F : Fr) (S : List Addr) (H : Hp) (σ : St) (w : Addr → Nat) (id : Nat) : Option V → Sl → Prop
  | junk (x : Option V) : Sr F S H σ w id x .junk
  | fz {v : V} {d : PyData} : Fz S H v d → Sr F S H σ w id (some v) (.fz d)
  | own {a : Addr} {xs : List V} {ds : List PyData} : H a = some (.lst xs) → FzAll S H xs ds → Mine F S w id a → Sr F S H σ w id (some (.ref a)) (.own ds)
  | dic {a : Addr} {kvs : List (Key × V)} {kds : List (Key × PyData)} : H a = some (.dK kvs) → kvs.map Prod.fst = kds.map Prod.fst → FzAll S H (kvs.map Prod.snd) (kds.map Prod.snd) → Mine F S w id a → Sr F S H σ w id (some (.ref a)) (.dic kds)
  | grp {a : Addr} {kvs : List (Key × V)} {kls : List (Key × List PyData)} {as : List Addr} : H a = some (.dK kvs) → Gr F S H w id kvs kls as → Mine F S w id a → Sr F S H σ w id (some (.ref a)) (.grp kls)
  | box {a : Addr} {n : Nat} : Box H a n → a ∈ S → (a ∈ F.W ∨ (F.W = [] ∧ F.H0 a = none)) → w a = id → Sr F S H σ w id (some (.ref a)) (.box n)
  | al {i : Nat} {v : V} : σ[i]? = some (some v) → Sr F S H σ w id (some v) (.al i)
  | scr {a : Addr} {ns : List Int} : SqS F.K S H a (ns.map V.int) → Sr F S H σ w id (some (.ref a)) (.scr ns)
  | obj {a : Addr} {o : Addr → HO} : H a = some (o a) → Mine F S w id a → Sr F S H σ w id (some (.ref a)) (.obj o)
  | prt {a : Addr} {x y : V} {d e : PyData} : a ∉ S → H a = some (.tup [x, y]) → Fz S H x d → Fz S H y e → Sr F S H σ w id (some (.ref a)) (.prt d e)
def Et (F : Fr) (S : List Addr) (H : Hp) (σ : St) (w : Addr → Nat) : Ts → Prop
  | [] => True
  | t :: ts => Sr F S H σ w (1000 + ts.length) (some t.1) t.2 ∧ Et F S H σ w ts
structure Rs (F : Fr) (S : List Addr) (H : Hp) (σ : St) (env : List Sl) (ts : Ts) (w : Addr → Nat) : Prop where
  len : σ.length = env.length
  small : env.length ≤ 1000
  slots : ∀ i s, env[i]? = some s → ∃ x, σ[i]? = some x ∧ Sr F S H σ w i x s
  nal : ∀ (i j : Nat), env[i]? ≠ some (Sl.al j)
  tmp : Et F S H σ w ts
  sub : ∀ a ∈ F.S0, a ∈ S
  live0 : ∀ a ∈ F.S0, ∃ o, F.H0 a = some o
  mtb : ∀ a ∈ S, Mut (H a)
  kept : Kp F.W F.H0 H
  foot : ∀ a ∈ F.W, a ∈ F.S0
  lk : ∀ q ∈ F.L, q.1 ∉ S ∧ H q.1 = some q.2
theorem Mut.some {o : Option HO} (m : Mut o) : ∃ u, o = some u := by
  cases o with
  | none => exact m.elim
  | some u => exact ⟨u, rfl⟩
theorem Rs.live {F : Fr} {S : List Addr} {H : Hp} {σ : St} {env : List Sl} {ts : Ts} {w : Addr → Nat} (R : Rs F S H σ env ts w) : ∀ a ∈ S, ∃ o, H a = some o := fun a h => Mut.some (R.mtb a h)
def Rp (F : Fr) (H : Hp) (σ : St) (env : List Sl) (ts : Ts) : Prop := ∃ S w, Rs F S H σ env ts w
section
variable {F : Fr} {H H' : Hp} {S T : List Addr} {p a : Addr} {o : HO}
abbrev Lk (F : Fr) (S : List Addr) (H : Hp) : Prop := ∀ q ∈ F.L, q.1 ∉ S ∧ H q.1 = some q.2
theorem Lk.k0 (l : Lk F S H) (k : Kp [] H H') : Lk F S H' := fun q hq => ⟨(l q hq).1, k _ _ (by simp) (l q hq).2⟩
theorem Lk.new (l : Lk F S H) (n : H p = none) : Lk F (p :: S) (upd H p o) := fun q hq => by
  have ne : q.1 ≠ p := fun z => by
    have := (l q hq).2
    rw [z, n] at this
    cases this
  refine ⟨fun z => ?_, by rw [upd_ne ne]; exact (l q hq).2⟩
  rcases List.mem_cons.mp z with z | z
  · exact ne z
  · exact (l q hq).1 z
theorem Lk.upd (l : Lk F S H) (h : a ∈ S) : Lk F S (upd H a o) := fun q hq => ⟨(l q hq).1, by rw [upd_ne (fun z => (l q hq).1 (by rw [z]; exact h))]; exact (l q hq).2⟩
theorem Lk.sub (l : Lk F S H) (h : ∀ b ∈ T, b ∈ S) : Lk F T H := fun q hq => ⟨fun z => (l q hq).1 (h _ z), (l q hq).2⟩
theorem Lk.k1 (l : Lk F S H) (k : Kp [a] H H') (h : a ∈ S) : Lk F S H' := fun q hq => ⟨(l q hq).1, k.at1 (fun z => (l q hq).1 (by rw [z]; exact h)) (l q hq).2⟩
theorem Lk.new1 (l : Lk F S H) (k : Kp [] H H') (n : H p = none) : Lk F (p :: S) H' := fun q hq => by
  refine ⟨fun z => ?_, k _ _ (by simp) (l q hq).2⟩
  rcases List.mem_cons.mp z with z | z
  · have := (l q hq).2
    rw [z, n] at this
    cases this
  · exact (l q hq).1 z
end
section
variable {F : Fr} {H H' : Hp} {S T : List Addr} {σ : St} {env : List Sl} {ts : Ts} {w w' : Addr → Nat} {id' id2 : Nat} {x : Option V} {s : Sl} {v : V} {d : PyData} {ds : List PyData} {xs ys : List V} {p : Addr}
/-- what is not owned stands the same from S, H to T, H' -/
structure Mv (S T : List Addr) (H H' : Hp) : Prop where
  f : ∀ {v : V} {d : PyData}, Fz S H v d → Fz T H' v d
  l : ∀ {a : Addr} {xs : List V}, a ∉ S → Rd H a (.lst xs) → a ∉ T ∧ Rd H' a (.lst xs)
  t : ∀ {a : Addr} {xs : List V}, a ∉ S → H a = some (.tup xs) → a ∉ T ∧ H' a = some (.tup xs)
theorem Mv.of (m : ∀ a o, a ∉ S → H a = some o → a ∉ T ∧ H' a = some o) : Mv S T H H' := ⟨fun h => h.move m, fun n r => rd_move m n r, fun n r => m _ _ n r⟩
theorem Mv.all (m : Mv S T H H') : ∀ {xs : List V} {ds : List PyData}, FzAll S H xs ds → FzAll T H' xs ds
  | [], _, h => by cases h; exact .nil
  | x :: xs, _, h => by cases h with | cons h1 h2 => exact .cons (m.f h1) (m.all h2)
/-- moved to another heap, another S, other owners: what is owned by id stands -/
theorem Gr.moveM {kvs : List (Key × V)} {kls : List (Key × List PyData)} {as : List Addr} (m : Mv S T H H') (g : ∀ a, a ∈ S → (∃ o, H a = some o) → w a = id' → H' a = H a ∧ a ∈ T ∧ w' a = id2)
    (h : Gr F S H w id' kvs kls as) : Gr F T H' w' id2 kvs kls as := by
  induction h with
  | nil => exact .nil
  | cons h1 h2 h3 h4 _ ih =>
    obtain ⟨e, t, q⟩ := g _ h3.s ⟨_, h1⟩ h3.w
    exact .cons (e.trans h1) (m.all h2) ⟨t, h3.z, q⟩ h4 ih
theorem Sr.moveM {σ' : St} (m : Mv S T H H') (g : ∀ a, a ∈ S → (∃ o, H a = some o) → w a = id' → H' a = H a ∧ a ∈ T ∧ w' a = id2) (hs : ∀ i v, s = .al i → σ[i]? = some (some v) → σ'[i]? = some (some v))
    (h : Sr F S H σ w id' x s) : Sr F T H' σ' w' id2 x s := by
  cases h with
  | junk => exact .junk _
  | fz h => exact .fz (m.f h)
  | own h1 h2 h3 =>
    obtain ⟨e, t, q⟩ := g _ h3.s ⟨_, h1⟩ h3.w
    exact .own (e.trans h1) (m.all h2) ⟨t, h3.z, q⟩
  | dic h1 h2 h3 h4 =>
    obtain ⟨e, t, q⟩ := g _ h4.s ⟨_, h1⟩ h4.w
    exact .dic (e.trans h1) h2 (m.all h3) ⟨t, h4.z, q⟩
  | grp h1 h2 h3 =>
    obtain ⟨e, t, q⟩ := g _ h3.s ⟨_, h1⟩ h3.w
    exact .grp (e.trans h1) (h2.moveM m g) ⟨t, h3.z, q⟩
  | box h1 h2 h3 h4 =>
    obtain ⟨o, mm, c, eb, rest⟩ := id h1
    obtain ⟨e, t, q⟩ := g _ h2 ⟨_, eb⟩ h4
    exact .box ⟨o, mm, c, e.trans eb, rest⟩ t h3 q
  | al h => exact .al (hs _ _ rfl h)
  | scr r => exact .scr (r.imp (fun r => m.l r.1 r.2) id)
  | prt n r f g => exact .prt (m.t n r).1 (m.t n r).2 (m.f f) (m.f g)
  | obj h1 h2 =>
    obtain ⟨e, t, q⟩ := g _ h2.s ⟨_, h1⟩ h2.w
    exact .obj (e.trans h1) ⟨t, h2.z, q⟩
theorem Et.moveM {σ' : St} (m : Mv S T H H') (g : ∀ a, a ∈ S → (∃ o, H a = some o) → 1000 ≤ w a → w a < 1000 + ts.length → H' a = H a ∧ a ∈ T ∧ w' a = w a)
    (hs : ∀ t ∈ ts, ∀ i v, t.2 = .al i → σ[i]? = some (some v) → σ'[i]? = some (some v)) (h : Et F S H σ w ts) : Et F T H' σ' w' ts := by
  induction ts with
  | nil => trivial
  | cons t ts ih =>
    refine ⟨h.1.moveM m (fun a as o e => ?_) (hs t (List.mem_cons_self ..)), ih (fun a as o l u => g a as o l (by rw [List.length_cons]; omega)) (fun t ht => hs t (List.mem_cons_of_mem _ ht)) h.2⟩
    have := g a as o (by omega) (by rw [List.length_cons]; omega)
    exact ⟨this.1, this.2.1, this.2.2.trans e⟩
theorem Sr.move {σ' : St} (m : ∀ a o, a ∉ S → H a = some o → a ∉ T ∧ H' a = some o) (g : ∀ a, a ∈ S → (∃ o, H a = some o) → w a = id' → H' a = H a ∧ a ∈ T ∧ w' a = id2) (hs : ∀ i v, s = .al i → σ[i]? = some (some v) → σ'[i]? = some (some v))
    (h : Sr F S H σ w id' x s) : Sr F T H' σ' w' id2 x s := h.moveM (.of m) g hs
theorem Et.move {σ' : St} (m : ∀ a o, a ∉ S → H a = some o → a ∉ T ∧ H' a = some o) (g : ∀ a, a ∈ S → (∃ o, H a = some o) → 1000 ≤ w a → w a < 1000 + ts.length → H' a = H a ∧ a ∈ T ∧ w' a = w a)
    (hs : ∀ t ∈ ts, ∀ i v, t.2 = .al i → σ[i]? = some (some v) → σ'[i]? = some (some v)) (h : Et F S H σ w ts) : Et F T H' σ' w' ts := h.moveM (.of m) g hs
/-- another heap, where all that is owned stands as it was -/
theorem Rs.heapM (R : Rs F S H σ env ts w) (m : Mv S S H H') (g : ∀ a ∈ S, H' a = H a) (k : Kp F.W F.H0 H') (l : Lk F S H') : Rs F S H' σ env ts w := by
  refine ⟨R.len, R.small, fun i s e => ?_, R.nal, R.tmp.moveM m (fun a as o _ _ => ⟨g a as, as, rfl⟩) (fun _ _ _ _ _ h => h), R.sub, R.live0, fun a as => ?_, k, R.foot, l⟩
  · obtain ⟨x, ex, sx⟩ := R.slots i s e
    exact ⟨x, ex, sx.moveM m (fun a as o q => ⟨g a as, as, q⟩) (fun _ _ _ h => h)⟩
  · rw [g a as]
    exact R.mtb a as
theorem Rs.heap (R : Rs F S H σ env ts w) (k : Kp [] H H') : Rs F S H' σ env ts w := by
  have m : ∀ a o, a ∉ S → H a = some o → a ∉ S ∧ H' a = some o := fun a o n e => ⟨n, k a o (by simp) e⟩
  have g : ∀ a, a ∈ S → (∃ o, H a = some o) → H' a = H a := fun a _ ⟨o, e⟩ => (k a o (by simp) e).trans e.symm
  refine ⟨R.len, R.small, fun i s e => ?_, R.nal, R.tmp.move m (fun a as o _ _ => ⟨g a as o, as, rfl⟩) (fun _ _ _ _ _ h => h), R.sub, R.live0, fun a as => ?_, R.kept.trans (Kp.to1 k), R.foot, Lk.k0 R.lk k⟩
  · obtain ⟨x, ex, sx⟩ := R.slots i s e
    exact ⟨x, ex, sx.move m (fun a as o q => ⟨g a as o, as, q⟩) (fun _ _ _ h => h)⟩
  · rw [g a as (R.live a as)]
    exact R.mtb a as
theorem Rs.pop {t : V × Sl} (R : Rs F S H σ env (t :: ts) w) : Rs F S H σ env ts w := ⟨R.len, R.small, R.slots, R.nal, R.tmp.2, R.sub, R.live0, R.mtb, R.kept, R.foot, R.lk⟩
theorem Rs.pushS (R : Rs F S H σ env ts w) (h : Sr F S H σ w (1000 + ts.length) (some v) s) : Rs F S H σ env ((v, s) :: ts) w := ⟨R.len, R.small, R.slots, R.nal, ⟨h, R.tmp⟩, R.sub, R.live0, R.mtb, R.kept, R.foot, R.lk⟩
theorem Rs.push (R : Rs F S H σ env ts w) (h : Fz S H v d) : Rs F S H σ env ((v, .fz d) :: ts) w := R.pushS (.fz h)
theorem Rs.top (R : Rs F S H σ env ((v, .fz d) :: ts) w) : Fz S H v d := by
  have := R.tmp.1
  cases this with | fz h => exact h
/-- a new object that is the frame's own -/
theorem Rs.newS {o : HO} (R : Rs F S H σ env ts w) (n : H p = none) (mo : Mut (some o)) (h : Sr F (p :: S) (upd H p o) σ (fun a => if a = p then 1000 + ts.length else w a) (1000 + ts.length) (some v) s) :
    Rs F (p :: S) (upd H p o) σ env ((v, s) :: ts) (fun a => if a = p then 1000 + ts.length else w a) := by
  have np : ∀ a, (∃ o, H a = some o) → a ≠ p := fun a ⟨o, e⟩ z => by subst z; rw [n] at e; cases e
  have m : ∀ a u, a ∉ S → H a = some u → a ∉ p :: S ∧ upd H p o a = some u := fun a u ns e => ⟨by
    rw [List.mem_cons]
    rintro (z | z)
    · exact np a ⟨u, e⟩ z
    · exact ns z, by rw [upd_ne (np a ⟨u, e⟩)]; exact e⟩
  have g : ∀ a, a ∈ S → (∃ o, H a = some o) → upd H p o a = H a ∧ a ∈ p :: S ∧ (if a = p then 1000 + ts.length else w a) = w a := fun a as e => ⟨upd_ne (np a e), List.mem_cons_of_mem _ as, if_neg (np a e)⟩
  refine ⟨R.len, R.small, fun i s e => ?_, R.nal, ⟨h, R.tmp.move m (fun a as o _ _ => g a as o) (fun _ _ _ _ _ h => h)⟩, fun a as => List.mem_cons_of_mem _ (R.sub a as), R.live0, fun a as => ?_, R.kept.trans (Kp.new n), R.foot, Lk.new R.lk n⟩
  · obtain ⟨x, ex, sx⟩ := R.slots i s e
    exact ⟨x, ex, sx.move m (fun a as o q => ⟨(g a as o).1, (g a as o).2.1, (g a as o).2.2.trans q⟩) (fun _ _ _ h => h)⟩
  · rcases List.mem_cons.mp as with z | z
    · rw [z, upd_same]; exact mo
    · rw [upd_ne (np a (R.live a z))]; exact R.mtb a z
theorem Rs.none0 (R : Rs F S H σ env ts w) (n : H p = none) : F.H0 p = none := by
  cases e : F.H0 p with
  | none => rfl
  | some o =>
    exfalso
    by_cases hw : p ∈ F.W
    · obtain ⟨u, eu⟩ := R.live p (R.sub p (R.foot p hw))
      rw [n] at eu
      cases eu
    · rw [R.kept p o hw e] at n
      cases n
theorem Rs.ninS (R : Rs F S H σ env ts w) (n : H p = none) : p ∉ S := fun h => by
  obtain ⟨o, e⟩ := R.live p h
  rw [n] at e
  cases e
theorem Rs.upd0 {o : HO} (R : Rs F S H σ env ts w) (n : H p = none) : Rs F S (upd H p o) σ env ts w := R.heap (Kp.new n)
theorem Rs.newL (R : Rs F S H σ env ts w) (n : H p = none) (h : FzAll S H xs ds) : Rs F (p :: S) (upd H p (.lst xs)) σ env ((.ref p, .own ds) :: ts) (fun a => if a = p then 1000 + ts.length else w a) := by
  have np : ∀ a, (∃ o, H a = some o) → a ≠ p := fun a ⟨o, e⟩ z => by subst z; rw [n] at e; cases e
  refine R.newS n trivial (.own upd_same (h.move fun a u ns e => ⟨?_, by rw [upd_ne (np a ⟨u, e⟩)]; exact e⟩) ⟨List.mem_cons_self .., R.none0 n, if_pos rfl⟩)
  rw [List.mem_cons]
  rintro (z | z)
  · exact np a ⟨u, e⟩ z
  · exact ns z
theorem Rs.newD {kvs : List (Key × V)} {kds : List (Key × PyData)} (R : Rs F S H σ env ts w) (n : H p = none) (e : kvs.map Prod.fst = kds.map Prod.fst) (h : FzAll S H (kvs.map Prod.snd) (kds.map Prod.snd)) :
    Rs F (p :: S) (upd H p (.dK kvs)) σ env ((.ref p, .dic kds) :: ts) (fun a => if a = p then 1000 + ts.length else w a) := by
  have np : ∀ a, (∃ o, H a = some o) → a ≠ p := fun a ⟨o, e⟩ z => by subst z; rw [n] at e; cases e
  refine R.newS n trivial (.dic upd_same e (h.move fun a u ns e => ⟨?_, by rw [upd_ne (np a ⟨u, e⟩)]; exact e⟩) ⟨List.mem_cons_self .., R.none0 n, if_pos rfl⟩)
  rw [List.mem_cons]
  rintro (z | z)
  · exact np a ⟨u, e⟩ z
  · exact ns z
theorem Rs.newT {o : Obj} (R : Rs F S H σ env ts w) (n : H p = none) (od : o.dict = none) (h : FzAll S H xs ds) : Rs F S (upd H p (.frz o (.tup xs))) σ env ((.ref p, .fz (.tuple ds)) :: ts) w := by
  have np : ∀ a, (∃ o, H a = some o) → a ≠ p := fun a ⟨o, e⟩ z => by subst z; rw [n] at e; cases e
  exact (R.upd0 n).push (.tup (R.ninS n) ⟨o, upd_same, od⟩ (h.move fun a u ns e => ⟨ns, by rw [upd_ne (np a ⟨u, e⟩)]; exact e⟩))
/-- an owner gives its addresses up: the top's list may not change any more -/
theorem mem_flt {p : Addr → Bool} {l : List Addr} {a : Addr} (h : a ∈ l.filter p) : a ∈ l := (List.mem_filter.mp h).1
theorem Rs.frzTop (R : Rs F S H σ env ((v, .own ds) :: ts) w) : ∃ T, Rs F T H σ env ((v, .fz (.list ds)) :: ts) w := by
  have h := R.tmp.1
  cases h with
  | @own a xs _ h1 h2 h3 =>
    refine ⟨S.filter (fun b => decide (b ≠ a)), ?_⟩
    have m : ∀ b o, b ∉ S → H b = some o → b ∉ S.filter (fun b => decide (b ≠ a)) ∧ H b = some o := fun b o n e => ⟨fun z => n (mem_flt z), e⟩
    have inn : ∀ b, b ∈ S → w b ≠ 1000 + ts.length → b ∈ S.filter (fun b => decide (b ≠ a)) := fun b bs ne => List.mem_filter.mpr ⟨bs, decide_eq_true fun z => ne (by rw [z]; exact h3.w)⟩
    refine ⟨R.len, R.small, fun i s e => ?_, R.nal, ⟨.fz (.lst ?_ h1 (h2.move m)), R.tmp.2.move m (fun b bs o l u => ⟨rfl, inn b bs (by omega), rfl⟩) (fun _ _ _ _ _ h => h)⟩, fun b bs => ?_, R.live0, fun b bs => R.mtb b (mem_flt bs), R.kept, R.foot, Lk.sub R.lk fun b => mem_flt⟩
    · obtain ⟨x, ex, sx⟩ := R.slots i s e
      have hi : i < env.length := (List.getElem?_eq_some_iff.mp e).1
      have := R.small
      exact ⟨x, ex, sx.move m (fun b bs o q => ⟨rfl, inn b bs (by omega), q⟩) (fun _ _ _ h => h)⟩
    · intro z
      have := List.mem_filter.mp z
      simp at this
    · refine List.mem_filter.mpr ⟨R.sub b bs, decide_eq_true fun z => ?_⟩
      have hz := h3.z
      rw [← z] at hz
      obtain ⟨o, e⟩ := R.live0 b bs
      rw [hz] at e
      cases e

def isAl : Sl → Bool
  | .al _ => true
  | _ => false
abbrev noAl (ts : Ts) : Bool := ts.all fun t => !isAl t.2
theorem noAl_at (h : noAl ts = true) {t : V × Sl} (m : t ∈ ts) {i : Nat} (e : t.2 = .al i) : False := by
  have := List.all_eq_true.mp h t m
  rw [e] at this
  cases this
/-- slots forgotten -/
theorem Rs.weak {env' : List Sl} (R : Rs F S H σ env ts w) (l : env'.length = env.length) (h : ∀ (i : Nat) (s : Sl), env'[i]? = some s → env[i]? = some s ∨ s = .junk) : Rs F S H σ env' ts w := by
  refine ⟨R.len.trans l.symm, by have := R.small; omega, fun i s e => ?_, fun i j e => ?_, R.tmp, R.sub, R.live0, R.mtb, R.kept, R.foot, R.lk⟩
  · rcases h i s e with q | rfl
    · exact R.slots i s q
    · have hi : i < σ.length := by rw [R.len, ← l]; exact (List.getElem?_eq_some_iff.mp e).1
      exact ⟨σ[i], List.getElem?_eq_getElem hi, .junk _⟩
  · rcases h i _ e with q | q
    · exact R.nal i j q
    · cases q
/-- the top goes to a slot -/
theorem Rs.set {i : Nat} (R : Rs F S H σ env ((v, s) :: ts) w) (hi : Nat.blt i env.length = true) (hs : isAl s = false) (ht : noAl ts = true) : ∃ w', Rs F S H (σ.set i (some v)) (env.set i s) ts w' := by
  refine ⟨fun a => if w a = 1000 + ts.length then i else if w a = i then 5000 else w a, ?_⟩
  have m : ∀ a o, a ∉ S → H a = some o → a ∉ S ∧ H a = some o := fun a o n e => ⟨n, e⟩
  have hsm := R.small
  refine ⟨by rw [List.length_set, List.length_set]; exact R.len, by rw [List.length_set]; exact hsm, fun j s' e => ?_, fun j k e => ?_, R.tmp.2.move m (fun a as o l u => ⟨rfl, as, ?_⟩) (fun t ht' k v e => (noAl_at ht ht' e).elim), R.sub, R.live0, R.mtb, R.kept, R.foot, R.lk⟩
  · by_cases hij : i = j
    · subst hij
      have hl : i < env.length := by
        have := (List.getElem?_eq_some_iff.mp e).1
        rwa [List.length_set] at this
      rw [List.getElem?_set_self hl] at e
      cases e
      refine ⟨some v, by rw [List.getElem?_set_self (by rw [R.len]; exact hl)], R.tmp.1.move m (fun a as o q => ⟨rfl, as, if_pos q⟩) (fun k u z => by rw [z] at hs; cases hs)⟩
    · rw [List.getElem?_set_ne hij] at e
      obtain ⟨x, ex, sx⟩ := R.slots j s' e
      have hj : j < env.length := (List.getElem?_eq_some_iff.mp e).1
      refine ⟨x, by rw [List.getElem?_set_ne hij]; exact ex, sx.move m (fun a as o q => ⟨rfl, as, ?_⟩) (fun k u z => by rw [z] at e; exact (R.nal j k e).elim)⟩
      show (if w a = 1000 + ts.length then i else if w a = i then 5000 else w a) = j
      rw [if_neg (by omega), if_neg (by omega)]
      exact q
  · by_cases hij : i = j
    · subst hij
      have hl : i < env.length := by
        have := (List.getElem?_eq_some_iff.mp e).1
        rwa [List.length_set] at this
      rw [List.getElem?_set_self hl] at e
      cases e
      cases hs
    · rw [List.getElem?_set_ne hij] at e
      exact R.nal j k e
  · show (if w a = 1000 + ts.length then i else if w a = i then 5000 else w a) = w a
    rw [if_neg (by omega)]
    by_cases hw : w a = i
    · rw [if_pos hw]
      have := Nat.le_of_ble_eq_true hi
      omega
    · rw [if_neg hw]
theorem Rs.fzSlot {i : Nat} (R : Rs F S H σ env ts w) (e : env[i]? = some (.fz d)) : ∃ v, σ[i]? = some (some v) ∧ Fz S H v d := by
  obtain ⟨x, ex, sx⟩ := R.slots i _ e
  cases sx with | fz h => exact ⟨_, ex, h⟩

/-- slot i is changed within: its own object a becomes o' -/
theorem Rs.updS {i : Nat} {a : Addr} {o' : HO} {s' : Sl} (R : Rs F S H σ env ts w) (hi : i < env.length) (ha : a ∈ S) (hw : w a = i) (h0 : F.H0 a = none) (mo : Mut (some o')) (hs : isAl s' = false)
    (hx : ∀ x, σ[i]? = some x → Sr F S (upd H a o') σ w i x s') : Rs F S (upd H a o') σ (env.set i s') ts w := by
  have m : ∀ b o, b ∉ S → H b = some o → b ∉ S ∧ upd H a o' b = some o := fun b o n e => ⟨n, by rw [upd_ne (fun z => n (by rw [z]; exact ha))]; exact e⟩
  have g : ∀ b, w b ≠ i → upd H a o' b = H b := fun b n => upd_ne fun z => n (by rw [z]; exact hw)
  have hsm := R.small
  refine ⟨by rw [List.length_set]; exact R.len, by rw [List.length_set]; exact hsm, fun j s e => ?_, fun j k e => ?_, R.tmp.move m (fun b bs o l u => ⟨g b (by omega), bs, rfl⟩) (fun _ _ _ _ _ h => h), R.sub, R.live0, fun b bs => ?_, fun c u n e => ?_, R.foot, Lk.upd R.lk ha⟩
  · by_cases hij : i = j
    · subst hij
      rw [List.getElem?_set_self hi] at e
      cases e
      have hl : i < σ.length := by rw [R.len]; exact hi
      exact ⟨σ[i], List.getElem?_eq_getElem hl, hx _ (List.getElem?_eq_getElem hl)⟩
    · rw [List.getElem?_set_ne hij] at e
      obtain ⟨x, ex, sx⟩ := R.slots j s e
      exact ⟨x, ex, sx.move m (fun b bs o q => ⟨g b (by omega), bs, q⟩) (fun _ _ _ h => h)⟩
  · by_cases hij : i = j
    · subst hij
      rw [List.getElem?_set_self hi] at e
      cases e
      cases hs
    · rw [List.getElem?_set_ne hij] at e
      exact R.nal j k e
  · by_cases hb : b = a
    · rw [hb, upd_same]; exact mo
    · rw [upd_ne hb]; exact R.mtb b bs
  · rw [upd_ne (fun z => by rw [z, h0] at e; cases e)]
    exact R.kept c u n e

theorem lt_of_get {i : Nat} (e : env[i]? = some s) : i < env.length := (List.getElem?_eq_some_iff.mp e).1
theorem fz_upd {o' : HO} {a : Addr} (ha : a ∈ S) (h : Fz S H v d) : Fz S (upd H a o') v d := h.move fun b o n e => ⟨n, by rw [upd_ne (fun z => n (by rw [z]; exact ha))]; exact e⟩
theorem fzs_upd {o' : HO} {a : Addr} (ha : a ∈ S) (h : FzAll S H xs ds) : FzAll S (upd H a o') xs ds := h.move fun b o n e => ⟨n, by rw [upd_ne (fun z => n (by rw [z]; exact ha))]; exact e⟩
/-- a list of a slot -/
theorem Rs.ownSlot {i : Nat} (R : Rs F S H σ env ts w) (e : env[i]? = some (.own ds)) : ∃ a xs, σ[i]? = some (some (.ref a)) ∧ H a = some (.lst xs) ∧ FzAll S H xs ds ∧
    ∀ ys es, FzAll S H ys es → Rs F S (upd H a (.lst ys)) σ (env.set i (.own es)) ts w := by
  obtain ⟨x, ex, sx⟩ := R.slots i _ e
  cases sx with
  | @own a xs _ h1 h2 h3 =>
    refine ⟨a, xs, ex, h1, h2, fun ys es h => R.updS (lt_of_get e) h3.s h3.w h3.z trivial rfl fun x ex' => ?_⟩
    rw [ex] at ex'
    cases ex'
    exact .own upd_same (fzs_upd h3.s h) h3
theorem Rs.dicSlot {i : Nat} {kds : List (Key × PyData)} (R : Rs F S H σ env ts w) (e : env[i]? = some (.dic kds)) : ∃ a kvs, σ[i]? = some (some (.ref a)) ∧ H a = some (.dK kvs) ∧ kvs.map Prod.fst = kds.map Prod.fst ∧ FzAll S H (kvs.map Prod.snd) (kds.map Prod.snd) ∧
    ∀ (kvs' : List (Key × V)) (kds' : List (Key × PyData)), kvs'.map Prod.fst = kds'.map Prod.fst → FzAll S H (kvs'.map Prod.snd) (kds'.map Prod.snd) → Rs F S (upd H a (.dK kvs')) σ (env.set i (.dic kds')) ts w := by
  obtain ⟨x, ex, sx⟩ := R.slots i _ e
  cases sx with
  | @dic a kvs _ h1 h2 h3 h4 =>
    refine ⟨a, kvs, ex, h1, h2, h3, fun ys es h g => R.updS (lt_of_get e) h4.s h4.w h4.z trivial rfl fun x ex' => ?_⟩
    rw [ex] at ex'
    cases ex'
    exact .dic upd_same h (fzs_upd h4.s g) h4
/-- the list at the top is changed (a comprehension's) -/
theorem Rs.updTop {ds es : List PyData} (R : Rs F S H σ env ((v, .own ds) :: ts) w) : ∃ a xs, v = .ref a ∧ H a = some (.lst xs) ∧ FzAll S H xs ds ∧ ∀ ys es, FzAll S H ys es → Rs F S (upd H a (.lst ys)) σ env ((v, .own es) :: ts) w := by
  have h := R.tmp.1
  cases h with
  | @own a xs _ h1 h2 h3 =>
    refine ⟨a, xs, rfl, h1, h2, fun ys es h => ?_⟩
    have m : ∀ b o, b ∉ S → H b = some o → b ∉ S ∧ upd H a (.lst ys) b = some o := fun b o n e => ⟨n, by rw [upd_ne (fun z => n (by rw [z]; exact h3.s))]; exact e⟩
    have g : ∀ b, w b ≠ 1000 + ts.length → upd H a (.lst ys) b = H b := fun b n => upd_ne fun z => n (by rw [z]; exact h3.w)
    have hsm := R.small
    refine ⟨R.len, hsm, fun j s e => ?_, R.nal, ⟨.own upd_same (fzs_upd h3.s h) h3, R.tmp.2.move m (fun b bs o l u => ⟨g b (by omega), bs, rfl⟩) (fun _ _ _ _ _ h => h)⟩, R.sub, R.live0, fun b bs => ?_, fun c u n e => ?_, R.foot, Lk.upd R.lk h3.s⟩
    · obtain ⟨x, ex, sx⟩ := R.slots j s e
      have hj := lt_of_get e
      exact ⟨x, ex, sx.move m (fun b bs o q => ⟨g b (by omega), bs, q⟩) (fun _ _ _ h => h)⟩
    · by_cases hb : b = a
      · rw [hb, upd_same]; trivial
      · rw [upd_ne hb]; exact R.mtb b bs
    · rw [upd_ne (fun z => by rw [z, h3.z] at e; cases e)]
      exact R.kept c u n e
/-- a slot's list, dict may not change any more -/
theorem Rs.frzA {i : Nat} {a : Addr} {s' : Sl} (R : Rs F S H σ env ts w) (hi : i < env.length) (ha : w a = i) (h0 : F.H0 a = none) (hs : isAl s' = false) (hx : ∀ x, σ[i]? = some x → Sr F (S.filter (fun b => decide (b ≠ a))) H σ w i x s') :
    Rs F (S.filter (fun b => decide (b ≠ a))) H σ (env.set i s') ts w := by
  have m : ∀ b o, b ∉ S → H b = some o → b ∉ S.filter (fun b => decide (b ≠ a)) ∧ H b = some o := fun b o n e => ⟨fun z => n (mem_flt z), e⟩
  have inn : ∀ b, b ∈ S → w b ≠ i → b ∈ S.filter (fun b => decide (b ≠ a)) := fun b bs ne => List.mem_filter.mpr ⟨bs, decide_eq_true fun z => ne (by rw [z]; exact ha)⟩
  have hsm := R.small
  refine ⟨by rw [List.length_set]; exact R.len, by rw [List.length_set]; exact hsm, fun j s e => ?_, fun j k e => ?_, R.tmp.move m (fun b bs o l u => ⟨rfl, inn b bs (by omega), rfl⟩) (fun _ _ _ _ _ h => h), fun b bs => ?_, R.live0, fun b bs => R.mtb b (mem_flt bs), R.kept, R.foot, Lk.sub R.lk fun b => mem_flt⟩
  · by_cases hij : i = j
    · subst hij
      rw [List.getElem?_set_self hi] at e
      cases e
      have hl : i < σ.length := by rw [R.len]; exact hi
      exact ⟨σ[i], List.getElem?_eq_getElem hl, hx _ (List.getElem?_eq_getElem hl)⟩
    · rw [List.getElem?_set_ne hij] at e
      obtain ⟨x, ex, sx⟩ := R.slots j s e
      exact ⟨x, ex, sx.move m (fun b bs o q => ⟨rfl, inn b bs (by omega), q⟩) (fun _ _ _ h => h)⟩
  · by_cases hij : i = j
    · subst hij
      rw [List.getElem?_set_self hi] at e
      cases e
      cases hs
    · rw [List.getElem?_set_ne hij] at e
      exact R.nal j k e
  · refine List.mem_filter.mpr ⟨R.sub b bs, decide_eq_true fun z => ?_⟩
    obtain ⟨o, e⟩ := R.live0 b bs
    rw [z, h0] at e
    cases e
theorem flt_move {a : Addr} {xs : List V} (h : FzAll S H xs ds) : FzAll (S.filter (fun b => decide (b ≠ a))) H xs ds := h.move fun b o n e => ⟨fun z => n (mem_flt z), e⟩
theorem nin_flt {a : Addr} : a ∉ S.filter (fun b => decide (b ≠ a)) := fun z => by
  have := (List.mem_filter.mp z).2
  simp at this
theorem Rs.frzL {i : Nat} (R : Rs F S H σ env ts w) (e : env[i]? = some (.own ds)) : ∃ T, Rs F T H σ (env.set i (.fz (.list ds))) ts w := by
  obtain ⟨x, ex, sx⟩ := R.slots i _ e
  cases sx with
  | @own a xs _ h1 h2 h3 =>
    refine ⟨_, R.frzA (lt_of_get e) h3.w h3.z rfl fun x ex' => ?_⟩
    rw [ex] at ex'
    cases ex'
    exact .fz (.lst nin_flt h1 (flt_move h2))
theorem Rs.frzD {i : Nat} {kds : List (Key × PyData)} (R : Rs F S H σ env ts w) (e : env[i]? = some (.dic kds)) : ∃ T, Rs F T H σ (env.set i (.fz (.dict (kds.map fun z => (kD z.1, z.2))))) ts w := by
  obtain ⟨x, ex, sx⟩ := R.slots i _ e
  cases sx with
  | @dic a kvs _ h1 h2 h3 h4 =>
    refine ⟨_, R.frzA (lt_of_get e) h4.w h4.z rfl fun x ex' => ?_⟩
    rw [ex] at ex'
    cases ex'
    exact .fz (.dct nin_flt (.inl h1) h2 (flt_move h3))
/-- the box: what a call does to it -/
theorem Rs.boxSlot {i n : Nat} (R : Rs F S H σ env ts w) (e : env[i]? = some (.box n)) : ∃ b, σ[i]? = some (some (.ref b)) ∧ Box H b n ∧ b ∈ S ∧
    ∀ H' m, Kp [b] H H' → Box H' b m → Rs F S H' σ (env.set i (.box m)) ts w := by
  obtain ⟨x, ex, sx⟩ := R.slots i _ e
  cases sx with
  | @box b _ h1 h2 h3 h4 =>
    refine ⟨b, ex, h1, h2, fun H' k kp B => ?_⟩
    have m : ∀ c o, c ∉ S → H c = some o → c ∉ S ∧ H' c = some o := fun c o n e => ⟨n, kp.at1 (fun z => n (by rw [z]; exact h2)) e⟩
    have g : ∀ c, (∃ o, H c = some o) → w c ≠ i → H' c = H c := fun c ⟨o, e⟩ ne => (kp.at1 (fun z => ne (by rw [z]; exact h4)) e).trans e.symm
    have hsm := R.small
    have hi := lt_of_get e
    refine ⟨by rw [List.length_set]; exact R.len, by rw [List.length_set]; exact hsm, fun j s e => ?_, fun j k e => ?_, R.tmp.move m (fun b bs o l u => ⟨g _ o (by omega), bs, rfl⟩) (fun _ _ _ _ _ h => h), R.sub, R.live0, fun c cs => ?_, fun c u n e => ?_, R.foot, Lk.k1 R.lk kp h2⟩
    · by_cases hij : i = j
      · subst hij
        rw [List.getElem?_set_self hi] at e
        cases e
        exact ⟨_, ex, .box B h2 h3 h4⟩
      · rw [List.getElem?_set_ne hij] at e
        obtain ⟨x, ex, sx⟩ := R.slots j s e
        exact ⟨x, ex, sx.move m (fun b bs o q => ⟨g _ o (by omega), bs, q⟩) (fun _ _ _ h => h)⟩
    · by_cases hij : i = j
      · subst hij
        rw [List.getElem?_set_self hi] at e
        cases e
      · rw [List.getElem?_set_ne hij] at e
        exact R.nal j k e
    · by_cases hc : c = b
      · obtain ⟨_, e⟩ := B.lst
        rw [hc, e]; trivial
      · obtain ⟨u, e⟩ := R.live c cs
        rw [kp.at1 hc e, ← e]; exact R.mtb c cs
    · refine kp.at1 (fun z => ?_) (R.kept c u n e)
      rcases h3 with h3 | h3
      · exact n (by rw [z]; exact h3)
      · rw [z, h3.2] at e; cases e
/-- what the top owns is changed -/
theorem Rs.updTopG {a : Addr} {o' : HO} {s' : Sl} (R : Rs F S H σ env ((.ref a, s) :: ts) w) (h3 : Mine F S w (1000 + ts.length) a) (mo : Mut (some o')) (hx : Sr F S (upd H a o') σ w (1000 + ts.length) (some (.ref a)) s') : Rs F S (upd H a o') σ env ((.ref a, s') :: ts) w := by
  have m : ∀ b o, b ∉ S → H b = some o → b ∉ S ∧ upd H a o' b = some o := fun b o n e => ⟨n, by rw [upd_ne (fun z => n (by rw [z]; exact h3.s))]; exact e⟩
  have g : ∀ b, w b ≠ 1000 + ts.length → upd H a o' b = H b := fun b n => upd_ne fun z => n (by rw [z]; exact h3.w)
  have hsm := R.small
  refine ⟨R.len, hsm, fun j s e => ?_, R.nal, ⟨hx, R.tmp.2.move m (fun b bs o l u => ⟨g b (by omega), bs, rfl⟩) (fun _ _ _ _ _ h => h)⟩, R.sub, R.live0, fun b bs => ?_, fun c u n e => ?_, R.foot, Lk.upd R.lk h3.s⟩
  · obtain ⟨x, ex, sx⟩ := R.slots j s e
    have hj := lt_of_get e
    exact ⟨x, ex, sx.move m (fun b bs o q => ⟨g b (by omega), bs, q⟩) (fun _ _ _ h => h)⟩
  · by_cases hb : b = a
    · rw [hb, upd_same]; exact mo
    · rw [upd_ne hb]; exact R.mtb b bs
  · rw [upd_ne (fun z => by rw [z, h3.z] at e; cases e)]
    exact R.kept c u n e
theorem Rs.objTop {o : Addr → HO} (R : Rs F S H σ env ((v, .obj o) :: ts) w) : ∃ a, v = .ref a ∧ H a = some (o a) ∧ ∀ o' : Addr → HO, Mut (some (o' a)) → Rs F S (upd H a (o' a)) σ env ((v, .obj o') :: ts) w := by
  have h := R.tmp.1
  cases h with
  | @obj a _ h1 h2 => exact ⟨a, rfl, h1, fun o' mo => R.updTopG h2 mo (.obj upd_same h2)⟩
theorem Rs.newObj {o : Addr → HO} (R : Rs F S H σ env ts w) (n : H p = none) (mo : Mut (some (o p))) : Rs F (p :: S) (upd H p (o p)) σ env ((.ref p, .obj o) :: ts) (fun a => if a = p then 1000 + ts.length else w a) :=
  R.newS n mo (.obj upd_same ⟨List.mem_cons_self .., R.none0 n, if_pos rfl⟩)
/-- a dict that nobody changes may be locked while it is walked -/
theorem mv_lock {a : Addr} {od : Obj} {kvs : List (Key × V)} (n : a ∉ S) (e : H a = some (.dK kvs)) : Mv S S H (upd H a (.frz od (.dK kvs))) := by
  have ne : ∀ {b : Addr} {u : HO}, H b = some u → u ≠ .dK kvs → b ≠ a := fun h ne z => by rw [z, e] at h; exact ne (Option.some.inj h).symm
  refine ⟨fun {v d} h => ?_, fun {b xs} nb r => ⟨nb, ?_⟩, fun {b xs} nb r => ⟨nb, ?_⟩⟩
  · exact Fz.rec (motive_1 := fun v d _ => Fz S (upd H a (.frz od (.dK kvs))) v d) (motive_2 := fun vs ds _ => FzAll S (upd H a (.frz od (.dK kvs))) vs ds) .non .bl .int .str
      (fun n r _ ih => .lst n (by rw [upd_ne (ne r (fun z => by cases z))]; exact r) ih)
      (fun n r _ ih => .tup n (by obtain ⟨o, e1, e2⟩ := r; exact ⟨o, by rw [upd_ne (ne e1 (fun z => by cases z))]; exact e1, e2⟩) ih)
      (fun {b kvs' kds} n r e1 _ ih => .dct n (by
        by_cases h : b = a
        · subst h
          rcases r with r | ⟨o, r⟩
          · rw [e] at r; cases r; exact .inr ⟨od, upd_same⟩
          · rw [e] at r; cases r
        · rcases r with r | ⟨o, r⟩
          · exact .inl (by rw [upd_ne h]; exact r)
          · exact .inr ⟨o, by rw [upd_ne h]; exact r⟩) e1 ih) .nil (fun _ _ i1 i2 => .cons i1 i2) h
  · rcases r with r | ⟨o, r⟩
    · exact .inl (by rw [upd_ne (ne r (fun z => by cases z))]; exact r)
    · exact .inr ⟨o, by rw [upd_ne (ne r (fun z => by cases z))]; exact r⟩
  · rw [upd_ne (ne r (fun z => by cases z))]; exact r
theorem mv_unlock {a : Addr} {od : Obj} {kvs : List (Key × V)} (n : a ∉ S) (e : H a = some (.frz od (.dK kvs))) : Mv S S H (upd H a (.dK kvs)) := by
  have ne : ∀ {b : Addr} {u : HO}, H b = some u → u ≠ .frz od (.dK kvs) → b ≠ a := fun h ne z => by rw [z, e] at h; exact ne (Option.some.inj h).symm
  refine ⟨fun {v d} h => ?_, fun {b xs} nb r => ⟨nb, ?_⟩, fun {b xs} nb r => ⟨nb, ?_⟩⟩
  · exact Fz.rec (motive_1 := fun v d _ => Fz S (upd H a (.dK kvs)) v d) (motive_2 := fun vs ds _ => FzAll S (upd H a (.dK kvs)) vs ds) .non .bl .int .str
      (fun n r _ ih => .lst n (by rw [upd_ne (ne r (fun z => by cases z))]; exact r) ih)
      (fun n r _ ih => .tup n (by obtain ⟨o, e1, e2⟩ := r; exact ⟨o, by rw [upd_ne (ne e1 (fun z => by cases z))]; exact e1, e2⟩) ih)
      (fun {b kvs' kds} n r e1 _ ih => .dct n (by
        by_cases h : b = a
        · subst h
          rcases r with r | ⟨o, r⟩
          · rw [e] at r; cases r
          · rw [e] at r; cases r; exact .inl upd_same
        · rcases r with r | ⟨o, r⟩
          · exact .inl (by rw [upd_ne h]; exact r)
          · exact .inr ⟨o, by rw [upd_ne h]; exact r⟩) e1 ih) .nil (fun _ _ i1 i2 => .cons i1 i2) h
  · rcases r with r | ⟨o, r⟩
    · exact .inl (by rw [upd_ne (ne r (fun z => by cases z))]; exact r)
    · exact .inr ⟨o, by rw [upd_ne (ne r (fun z => by cases z))]; exact r⟩
  · rw [upd_ne (ne r (fun z => by cases z))]; exact r
end
end L2.Z

end
section
set_option Elab.async false
set_option linter.all false
set_option maxRecDepth 100000
set_option maxHeartbeats 4000000
local macro_rules | `(tactic| walk_at "rd1") => `(tactic| with_reducible first
  | refine L2.Rx.r_seq ?_ | refine L2.Rx.r_asg ?_ | refine L2.Rx.r_gname ?_ | refine L2.Rx.r_op ?_ | refine L2.Rx.r_c ?_
  | refine L2.Rx.r_var rfl ?_
  | refine L2.Rx.r_rI0 ?_ | refine L2.Rx.r_test ?_ | refine L2.Rx.r_bl ?_ | refine L2.Rx.r_if ?_ | refine L2.Rx.r_ret ?_
  | refine L2.Rx.r_cons ?_ | refine L2.Rx.r_nil ?_ | refine L2.Rx.r_call ?_ | refine L2.Rx.r_cb ?_ | refine L2.Rx.r_next ?_ | refine L2.Rx.r_drop ?_
  | refine L2.Rx.r_gsub ?_ | refine L2.Rx.r_tupF ?_ | refine L2.Rx.r_lst ?_ | refine L2.Rx.r_par ?_ | refine L2.Rx.r_par2 ?_
  | refine L2.Rx.r_un ?_ | refine L2.Rx.r_tb ?_ | refine L2.Rx.r_and ?_ | refine L2.Rx.r_or ?_ | refine L2.Rx.r_not ?_
  | refine L2.Rx.r_andV ?_ | refine L2.Rx.r_orV ?_ | refine L2.Rx.r_notV ?_ | refine L2.Rx.r_ifx ?_ | refine L2.Rx.r_chain ?_
  | refine L2.Rx.r_sl ?_ | refine L2.Rx.r_nopart ?_ | refine L2.Rx.r_part ?_ | refine L2.Rx.r_exint ?_ | refine L2.Rx.r_bm0 ?_ | refine L2.Rx.r_bm ?_
  | refine L2.Rx.r_lc ?_ | refine L2.Rx.r_rng1 ?_ | refine L2.Rx.r_yes ?_ | refine L2.Rx.r_tt ?_ | refine L2.Rx.r_ff ?_ | refine L2.Rx.r_m1 ?_ | refine L2.Rx.r_m0 ?_ | refine L2.Rx.r_isS ?_
  | (refine L2.Rx.r_wipe (by with_unfolding_all rfl) ?_) | (refine L2.Rx.r_tyL (by walk_at "hp") ?_)
  | refine L2.Rx.r_addS (by walk_at "len") ?_ | refine L2.Rx.r_lenS (by walk_at "len") ?_ | refine L2.Rx.r_slS (by walk_at "len") ?_
  | refine L2.Rx.r_dnotin ?_ | refine L2.Rx.r_dget ?_ | refine L2.Rx.r_dget1 ?_ | refine L2.Rx.r_dput ?_ | refine L2.Rx.r_dpop1 ?_ | refine L2.Rx.r_isN ?_
  | refine L2.Rx.r_for ?_ | refine L2.Rx.r_ilist ?_ | refine L2.Rx.r_itup ?_
  | refine L2.Rx.r_gcons ?_ | refine L2.Rx.r_gnil ?_ | (refine L2.Rx.r_gtupP (by assumption) (by walk_at "at") ?_)
  | (refine L2.Rx.r_rEq rfl ?_) | (refine L2.Rx.r_rNe rfl ?_)
  | refine L2.Rx.r_rU ?_ | refine L2.Rx.r_max2 ?_ | refine L2.Rx.r_min2 ?_ | refine L2.Rx.r_int1i ?_ | (refine L2.Rx.r_lenh (by walk_at "hp") ?_)
  | (refine L2.Rx.r_ixLh (by walk_at "hp") (by walk_at "at") ?_)
  | (refine L2.Rx.r_setL (by walk_at "hp") (by walk_at "at") ?_))
local macro_rules | `(tactic| walk_at "at") => `(tactic| with_unfolding_all rfl)
local macro_rules | `(tactic| walk_at "rd") => `(tactic| (repeat walk_at "rd1"))
local macro_rules | `(tactic| walk_at "hp") => `(tactic| first
  | assumption
  | exact L2.upd_same
  | (refine Eq.trans (L2.upd_ne ?_) ?_; (focus walk_at "ne"); (focus walk_at "hp"))
  | (refine L2.Rx.Kp.at0 (by assumption) ?_; walk_at "hp")
  | (refine L2.Rx.Kp.at1 (by assumption) ?_ ?_; (focus walk_at "ne"); (focus walk_at "hp")))
local macro_rules | `(tactic| walk_at "ne") => `(tactic| first
  | assumption | exact Ne.symm (by assumption)
  | (refine L2.ne_of_none (H := ?nH) (o := ?nO) ?nh ?nn; (case nn => assumption); (case nh => walk_at "hp"))
  | (refine Ne.symm (L2.ne_of_none (H := ?nH) (o := ?nO) ?nh ?nn); (case nn => assumption); (case nh => walk_at "hp")))
local macro_rules | `(tactic| walk_at "len") => `(tactic| (rw [PySem.sizeLine_eq]; omega))
local macro_rules | `(tactic| walk_at "nin") => `(tactic| first
  | exact List.not_mem_nil
  | (refine L2.Rx.nin1 ?_; walk_at "ne"))
local macro_rules | `(tactic| walk_at "none") => `(tactic| first
  | assumption
  | (refine L2.Rx.Kp.none0 (by assumption) ?_ ?_; (focus walk_at "nin"); (focus walk_at "none")))
namespace L2.Z
open PySem PySem.Spec PyProof.Rows L2.Rx
section
variable {F : Fr} {H H' : Hp} {S T : List Addr} {σ : St} {env env' : List Sl} {ts : Ts} {w : Addr → Nat} {v x y : V} {d d1 d2 : PyData} {ds es : List PyData} {Q : VK} {i j : Nat} {s s1 s2 s3 s4 s5 : Sl} {xs ys : List V} {p : Addr} {t : V × Sl}
/-! ### what is held, as data -/
def dD (kds : List (Key × PyData)) : PyData := .dict (kds.map fun z => (kD z.1, z.2))
def asV (env : List Sl) : Sl → Option PyData
  | .fz d => some d
  | .own ds => some (.list ds)
  | .dic kds => some (dD kds)
  | .al i => match env[i]? with
    | some (.own ds) => some (.list ds)
    | some (.dic kds) => some (dD kds)
    | _ => none
  | _ => none
def asD : Sl → Option PyData
  | .fz d => some d
  | .own ds => some (.list ds)
  | .dic kds => some (dD kds)
  | _ => none
theorem Rs.valL (R : Rs F S H σ env ((v, s) :: ts) w) (e : asV env s = some (.list ds)) : ∃ a xs, v = .ref a ∧ H a = some (.lst xs) ∧ FzAll S H xs ds := by
  have h := R.tmp.1
  cases h with
  | junk => cases e
  | fz h => cases e; obtain ⟨a, xs, rfl, _, r, f⟩ := h.l; exact ⟨a, xs, rfl, r, f⟩
  | own h1 h2 h3 => cases e; exact ⟨_, _, rfl, h1, h2⟩
  | dic h1 h2 h3 h4 => cases e
  | grp h1 h2 h3 => cases e
  | box h1 h2 h3 h4 => cases e
  | scr _ => cases e
  | obj _ _ => cases e
  | prt _ _ _ _ => cases e
  | @al i _ h =>
    simp only [asV] at e
    cases q : env[i]? with
    | none => rw [q] at e; cases e
    | some s' =>
      rw [q] at e
      cases s' with
      | own es =>
        cases e
        obtain ⟨a, xs, e1, e2, e3, _⟩ := R.ownSlot q
        rw [h] at e1
        cases e1
        exact ⟨a, xs, rfl, e2, e3⟩
      | _ => cases e
theorem Rs.valD {kds : List (Key × PyData)} (R : Rs F S H σ env ((v, s) :: ts) w) (e : asV env s = some (dD kds)) : ∃ a kvs, v = .ref a ∧ Rd H a (.dK kvs) ∧ kvs.map Prod.fst = kds.map Prod.fst ∧ FzAll S H (kvs.map Prod.snd) (kds.map Prod.snd) := by
  have h := R.tmp.1
  cases h with
  | junk => cases e
  | fz h => cases e; obtain ⟨a, kvs, rfl, _, r, f, g⟩ := h.k; exact ⟨a, kvs, rfl, r, f, g⟩
  | own h1 h2 h3 => cases e
  | dic h1 h2 h3 h4 =>
    cases kD_inj (PyData.dict.inj (Option.some.inj e))
    exact ⟨_, _, rfl, .inl h1, h2, h3⟩
  | grp h1 h2 h3 => cases e
  | box h1 h2 h3 h4 => cases e
  | scr _ => cases e
  | obj _ _ => cases e
  | prt _ _ _ _ => cases e
  | @al i _ h =>
    simp only [asV] at e
    cases q : env[i]? with
    | none => rw [q] at e; cases e
    | some s' =>
      rw [q] at e
      cases s' with
      | dic es =>
        cases kD_inj (PyData.dict.inj (Option.some.inj e))
        obtain ⟨a, xs, e1, e2, e3, e4, _⟩ := R.dicSlot q
        rw [h] at e1
        cases e1
        exact ⟨a, xs, rfl, .inl e2, e3, e4⟩
      | _ => cases e
theorem Rs.valT (R : Rs F S H σ env ((v, s) :: ts) w) (e : asV env s = some (.tuple ds)) : ∃ a xs, v = .ref a ∧ Tm H a xs ∧ FzAll S H xs ds := by
  have h := R.tmp.1
  cases h with
  | fz h => cases e; obtain ⟨a, xs, rfl, _, r, f⟩ := h.t; exact ⟨a, xs, rfl, r, f⟩
  | @al i _ h =>
    simp only [asV] at e
    cases q : env[i]? with
    | none => rw [q] at e; cases e
    | some s' => rw [q] at e; cases s' <;> cases e
  | _ => cases e
theorem Rs.valQ (R : Rs F S H σ env ((v, s) :: ts) w) (e : asV env s = some d) (n : noD d = true) : Dq F.K H v d := by
  cases d with
  | list ds =>
    obtain ⟨a, xs, rfl, r, f⟩ := R.valL e
    rw [noD_list] at n
    exact .lst (.inl (.inl r)) (f.dq n)
  | tuple ds =>
    obtain ⟨a, xs, rfl, r, f⟩ := R.valT e
    rw [noD_tuple] at n
    exact .tup r (f.dq n)
  | dict _ => rw [noD] at n; cases n
  | _ =>
    have h := R.tmp.1
    cases h with
    | fz h => cases e; exact h.dq n
    | @al i _ h =>
      simp only [asV] at e
      cases q : env[i]? with
      | none => rw [q] at e; cases e
      | some s' => rw [q] at e; cases s' <;> cases e
    | _ => cases e
/-- a list or a tuple -/
inductive Sq : PyData → List PyData → Prop
  | l (ds : List PyData) : Sq (.list ds) ds
  | t (ds : List PyData) : Sq (.tuple ds) ds
theorem Rs.valS {K : PySem.W.Frag} (R : Rs F S H σ env ((v, s) :: ts) w) (e : asV env s = some d) (q : Sq d ds) : ∃ a xs, v = .ref a ∧ (SqL K H a xs ∨ SqT K H a xs) ∧ FzAll S H xs ds := by
  cases q with
  | l => obtain ⟨a, xs, h, r, f⟩ := R.valL e; exact ⟨a, xs, h, .inl (.inl (.inl r)), f⟩
  | t => obtain ⟨a, xs, h, r, f⟩ := R.valT e; exact ⟨a, xs, h, .inr r.sq, f⟩
/-! ### freezing -/
theorem Et.frz : ∀ (as : Ts), Et F S H σ w (as ++ (v, s) :: ts) → asD s = some d → ∃ T : List Addr, (∀ a ∈ T, a ∈ S) ∧ (∀ a ∈ S, a ∉ T → F.H0 a = none ∧ w a = 1000 + ts.length) ∧ Et F T H σ w (as ++ (v, .fz d) :: ts)
  | [], h, e => by
    cases h.1 with
    | fz g => cases e; exact ⟨S, fun _ h => h, fun a h n => (n h).elim, h⟩
    | @own a xs _ h1 h2 h3 =>
      cases e
      have m : ∀ b o, b ∉ S → H b = some o → b ∉ S.filter (fun b => decide (b ≠ a)) ∧ H b = some o := fun b o n e => ⟨fun z => n (mem_flt z), e⟩
      have inn : ∀ b, b ∈ S → w b ≠ 1000 + ts.length → b ∈ S.filter (fun b => decide (b ≠ a)) := fun b bs ne => List.mem_filter.mpr ⟨bs, decide_eq_true fun z => ne (by rw [z]; exact h3.w)⟩
      refine ⟨S.filter (fun b => decide (b ≠ a)), fun b hb => mem_flt hb, fun b bs n => ?_, .fz (.lst nin_flt h1 (flt_move h2)), h.2.move m (fun b bs o l u => ⟨rfl, inn b bs (by omega), rfl⟩) (fun _ _ _ _ _ h => h)⟩
      have e : b = a := Classical.byContradiction fun z => n (List.mem_filter.mpr ⟨bs, decide_eq_true z⟩)
      subst e
      exact ⟨h3.z, h3.w⟩
    | @dic a kvs _ h1 h2 h3 h4 =>
      cases e
      have m : ∀ b o, b ∉ S → H b = some o → b ∉ S.filter (fun b => decide (b ≠ a)) ∧ H b = some o := fun b o n e => ⟨fun z => n (mem_flt z), e⟩
      have inn : ∀ b, b ∈ S → w b ≠ 1000 + ts.length → b ∈ S.filter (fun b => decide (b ≠ a)) := fun b bs ne => List.mem_filter.mpr ⟨bs, decide_eq_true fun z => ne (by rw [z]; exact h4.w)⟩
      refine ⟨S.filter (fun b => decide (b ≠ a)), fun b hb => mem_flt hb, fun b bs n => ?_, .fz (.dct nin_flt (.inl h1) h2 (flt_move h3)), h.2.move m (fun b bs o l u => ⟨rfl, inn b bs (by omega), rfl⟩) (fun _ _ _ _ _ h => h)⟩
      have e : b = a := Classical.byContradiction fun z => n (List.mem_filter.mpr ⟨bs, decide_eq_true z⟩)
      subst e
      exact ⟨h4.z, h4.w⟩
    | _ => cases e
  | t :: as, h, e => by
    obtain ⟨T, h1, h2, h3⟩ := Et.frz as h.2 e
    refine ⟨T, h1, h2, ?_, h3⟩
    have m : ∀ b o, b ∉ S → H b = some o → b ∉ T ∧ H b = some o := fun b o n e => ⟨fun z => n (h1 b z), e⟩
    have := h.1.move (T := T) (w' := w) (id2 := 1000 + (as ++ (v, s) :: ts).length) (σ' := σ) m (fun a as' o q => ⟨rfl, Classical.byContradiction fun z => by
      have := (h2 a as' z).2
      rw [List.length_append, List.length_cons] at q
      omega, q⟩) (fun _ _ _ h => h)
    rw [List.length_append, List.length_cons] at this
    show Sr F T H σ w (1000 + (as ++ (v, Sl.fz d) :: ts).length) (some t.fst) t.snd
    rw [List.length_append, List.length_cons]
    exact this
theorem Rs.frzK (as : Ts) (R : Rs F S H σ env (as ++ (v, s) :: ts) w) (e : asD s = some d) : ∃ T, Rs F T H σ env (as ++ (v, .fz d) :: ts) w := by
  obtain ⟨T, h1, h2, h3⟩ := Et.frz as R.tmp e
  have m : ∀ b o, b ∉ S → H b = some o → b ∉ T ∧ H b = some o := fun b o n e => ⟨fun z => n (h1 b z), e⟩
  have hsm := R.small
  refine ⟨T, R.len, R.small, fun i s e => ?_, R.nal, h3, fun b bs => Classical.byContradiction fun z => ?_, R.live0, fun b bs => R.mtb b (h1 b bs), R.kept, R.foot, Lk.sub R.lk h1⟩
  · obtain ⟨x, ex, sx⟩ := R.slots i s e
    have hi := lt_of_get e
    exact ⟨x, ex, sx.move m (fun b bs o q => ⟨rfl, Classical.byContradiction fun z => by have := (h2 b bs z).2; omega, q⟩) (fun _ _ _ h => h)⟩
  · have := (h2 b (R.sub b bs) z).1
    obtain ⟨o, e⟩ := R.live0 b bs
    rw [this] at e
    cases e
/-! ### the rules -/
theorem Rp.pop (R : Rp F H σ env (t :: ts)) : Rp F H σ env ts := by
  obtain ⟨S, w, R⟩ := R
  exact ⟨S, w, R.pop⟩
theorem Rp.fr (as : Ts) (R : Rp F H σ env (as ++ (v, s) :: ts)) (e : asD s = some d) : Rp F H σ env (as ++ (v, .fz d) :: ts) := by
  obtain ⟨S, w, R⟩ := R
  obtain ⟨T, R⟩ := R.frzK as e
  exact ⟨T, w, R⟩
theorem z_frz {P : Prop} (R : Rp F H σ env ((v, s) :: ts)) (e : asD s = some d) (h : Rp F H σ env ((v, .fz d) :: ts) → P) : P := h (R.fr [] e)
/-- slot i, a list, may not change any more -/
theorem z_frzL {P : Prop} (i : Nat) (R : Rp F H σ env ts) (e : env[i]? = some (.own ds)) (he : env.set i (.fz (.list ds)) = env') (h : Rp F H σ env' ts → P) : P := by
  subst he
  obtain ⟨S, w, R⟩ := R
  obtain ⟨T, R⟩ := R.frzL e
  exact h ⟨T, w, R⟩
theorem z_frzD {P : Prop} (i : Nat) {kds : List (Key × PyData)} (R : Rp F H σ env ts) (e : env[i]? = some (.dic kds)) (he : env.set i (.fz (dD kds)) = env') (h : Rp F H σ env' ts → P) : P := by
  subst he
  obtain ⟨S, w, R⟩ := R
  obtain ⟨T, R⟩ := R.frzD e
  exact h ⟨T, w, R⟩
theorem Rp.int (R : Rp F H σ env ts) (k : Int) : Rp F H σ env ((.int k, .fz (.int k)) :: ts) := by obtain ⟨S, w, R⟩ := R; exact ⟨S, w, R.push (.int k)⟩
theorem Rp.str (R : Rp F H σ env ts) (k : Str) : Rp F H σ env ((.str k, .fz (.str k)) :: ts) := by obtain ⟨S, w, R⟩ := R; exact ⟨S, w, R.push (.str k)⟩
theorem Rp.bl (R : Rp F H σ env ts) (k : Bool) : Rp F H σ env ((.bl k, .fz (.bool k)) :: ts) := by obtain ⟨S, w, R⟩ := R; exact ⟨S, w, R.push (.bl k)⟩
theorem Rp.non (R : Rp F H σ env ts) : Rp F H σ env ((.non, .fz .none) :: ts) := by obtain ⟨S, w, R⟩ := R; exact ⟨S, w, R.push .non⟩
theorem z_int {k : Int} (R : Rp F H σ env ts) (h : ∀ v, Rp F H σ env ((v, .fz (.int k)) :: ts) → Q v H) : tC (.int k) σ H Q := h _ (R.int k)
theorem z_str {k : Str} (R : Rp F H σ env ts) (h : ∀ v, Rp F H σ env ((v, .fz (.str k)) :: ts) → Q v H) : tC (.str k) σ H Q := h _ (R.str k)
theorem z_bl {k : Bool} (R : Rp F H σ env ts) (h : ∀ v, Rp F H σ env ((v, .fz (.bool k)) :: ts) → Q v H) : tC (.bl k) σ H Q := h _ (R.bl k)
theorem z_non (R : Rp F H σ env ts) (h : ∀ v, Rp F H σ env ((v, .fz .none) :: ts) → Q v H) : tC .non σ H Q := h _ R.non
theorem z_var (R : Rp F H σ env ts) (e : env[i]? = some (.fz d)) (h : ∀ v, Rp F H σ env ((v, .fz d) :: ts) → Q v H) : tVar i σ H Q := by
  obtain ⟨S, w, R⟩ := R
  obtain ⟨v, ev, f⟩ := R.fzSlot e
  exact ⟨v, ev, h v ⟨S, w, R.push f⟩⟩
def isObj : Sl → Bool
  | .own _ => true
  | .dic _ => true
  | .grp _ => true
  | .box _ => true
  | .scr _ => true
  | .obj _ => true
  | _ => false
theorem z_varA (R : Rp F H σ env ts) (e : env[i]? = some s) (o : isObj s = true) (h : ∀ v, Rp F H σ env ((v, .al i) :: ts) → Q v H) : tVar i σ H Q := by
  obtain ⟨S, w, R⟩ := R
  obtain ⟨x, ex, sx⟩ := R.slots i s e
  cases sx with
  | junk => cases o
  | fz _ => cases o
  | al _ => cases o
  | _ => exact ⟨_, ex, h _ ⟨S, w, R.pushS (.al ex)⟩⟩
theorem z_asg {Q : St → Hp → Prop} (R : Rp F H σ env ((v, s) :: ts)) (hi : Nat.blt i env.length = true) (hs : isAl s = false) (ht : noAl ts = true) (he : env.set i s = env') (h : ∀ σ', Rp F H σ' env' ts → Q σ' H) : gName i v σ H Q := by
  subst he
  obtain ⟨S, w, R⟩ := R
  obtain ⟨w', R⟩ := R.set hi hs ht
  exact h _ ⟨S, w', R⟩
/-- the same within a comprehension: σ stands -/
theorem z_asgE {Q : St → Hp → Prop} (R : Rp F H σ env ((v, s) :: ts)) (hi : Nat.blt i env.length = true) (hs : isAl s = false) (ht : noAl ts = true) (he : env.set i s = env') (h : Rp F H (σ.set i (some v)) env' ts → Q (σ.set i (some v)) H) : gName i v σ H Q := by
  subst he
  obtain ⟨S, w, R⟩ := R
  obtain ⟨w', R⟩ := R.set hi hs ht
  exact h ⟨S, w', R⟩
theorem z_isb {k : Bool} {q : Bool → Prop} (R : Rp F H σ env ((v, .fz (.bool k)) :: ts)) (h : Rp F H σ env ts → q k) : ∃ k, v = .bl k ∧ q k := by
  obtain ⟨S, w, R⟩ := R
  exact ⟨k, R.top.b, h ⟨S, w, R.pop⟩⟩
theorem z_isi {k : Int} {q : Int → Prop} (R : Rp F H σ env ((v, .fz (.int k)) :: ts)) (h : Rp F H σ env ts → q k) : ∃ k, v = .int k ∧ q k := by
  obtain ⟨S, w, R⟩ := R
  exact ⟨k, R.top.i, h ⟨S, w, R.pop⟩⟩
theorem Rp.two (R : Rp F H σ env ((y, .fz d2) :: (x, .fz d1) :: ts)) : ∃ S, Fz S H y d2 ∧ Fz S H x d1 ∧ Rp F H σ env ts := by
  obtain ⟨S, w, R⟩ := R
  exact ⟨S, R.top, R.pop.top, S, w, R.pop.pop⟩
theorem z_rI0i {g : Int → Int → Int} {m n : Int} (R : Rp F H σ env ((y, .fz (.int n)) :: (x, .fz (.int m)) :: ts)) (h : ∀ v, Rp F H σ env ((v, .fz (.int (g m n))) :: ts) → Q v H) : rI0 (fun i j => .int (g i j)) x y H Q := by
  obtain ⟨S, f, g, R⟩ := R.two
  exact ⟨m, n, g.i, f.i, h _ (R.int _)⟩
theorem z_rI0b {g : Int → Int → Bool} {m n : Int} (R : Rp F H σ env ((y, .fz (.int n)) :: (x, .fz (.int m)) :: ts)) (h : ∀ v, Rp F H σ env ((v, .fz (.bool (g m n))) :: ts) → Q v H) : rI0 (fun i j => .bl (g i j)) x y H Q := by
  obtain ⟨S, f, g, R⟩ := R.two
  exact ⟨m, n, g.i, f.i, h _ (R.bl _)⟩
theorem z_rIi {C : Int → Int → Prop} {g : Int → Int → Int} {m n : Int} (R : Rp F H σ env ((y, .fz (.int n)) :: (x, .fz (.int m)) :: ts)) (c : C m n) (h : ∀ v, Rp F H σ env ((v, .fz (.int (g m n))) :: ts) → Q v H) : rI C (fun i j => .int (g i j)) x y H Q := by
  obtain ⟨S, f, g, R⟩ := R.two
  exact ⟨m, n, g.i, f.i, c, h _ (R.int _)⟩
theorem z_rUi {g : Int → Int} {m : Int} (R : Rp F H σ env ((x, .fz (.int m)) :: ts)) (h : ∀ v, Rp F H σ env ((v, .fz (.int (g m))) :: ts) → Q v H) : rU (fun i => .int (g i)) x H Q := by
  obtain ⟨S, w, R⟩ := R
  exact ⟨m, R.top.i, h _ (Rp.int ⟨S, w, R.pop⟩ _)⟩
/-- flat values, compared -/
def flatD : PyData → Option V
  | .none => some .non
  | .bool b => some (.bl b)
  | .int i => some (.int i)
  | .str s => some (.str s)
  | _ => none
theorem Fz.flat {u : V} (h : Fz S H v d) (e : flatD d = some u) : v = u := by
  cases h with
  | non => cases e; rfl
  | bl => cases e; rfl
  | int => cases e; rfl
  | str => cases e; rfl
  | lst => cases e
  | tup => cases e
  | dct => cases e
theorem z_eqI {m n : Int} (R : Rp F H σ env ((y, .fz (.int n)) :: (x, .fz (.int m)) :: ts)) (h : ∀ v, Rp F H σ env ((v, .fz (.bool (decide (m = n)))) :: ts) → Q v H) : rEq x y H Q := by
  obtain ⟨S, f, g, R⟩ := R.two
  rw [g.i, f.i]
  refine ⟨rfl, ?_⟩
  have e : decide (V.int m = V.int n) = decide (m = n) := by simp
  rw [e]
  exact h _ (R.bl _)
theorem z_neI {m n : Int} (R : Rp F H σ env ((y, .fz (.int n)) :: (x, .fz (.int m)) :: ts)) (h : ∀ v, Rp F H σ env ((v, .fz (.bool (!decide (m = n)))) :: ts) → Q v H) : rNe x y H Q := by
  obtain ⟨S, f, g, R⟩ := R.two
  rw [g.i, f.i]
  refine ⟨rfl, ?_⟩
  have e : decide (V.int m = V.int n) = decide (m = n) := by simp
  rw [e]
  exact h _ (R.bl _)
theorem z_eqS {m n : Str} (R : Rp F H σ env ((y, .fz (.str n)) :: (x, .fz (.str m)) :: ts)) (h : ∀ v, Rp F H σ env ((v, .fz (.bool (decide (m = n)))) :: ts) → Q v H) : rEq x y H Q := by
  obtain ⟨S, f, g, R⟩ := R.two
  rw [g.s, f.s]
  refine ⟨rfl, ?_⟩
  have e : decide (V.str m = V.str n) = decide (m = n) := by simp
  rw [e]
  exact h _ (R.bl _)
theorem z_neS {m n : Str} (R : Rp F H σ env ((y, .fz (.str n)) :: (x, .fz (.str m)) :: ts)) (h : ∀ v, Rp F H σ env ((v, .fz (.bool (!decide (m = n)))) :: ts) → Q v H) : rNe x y H Q := by
  obtain ⟨S, f, g, R⟩ := R.two
  rw [g.s, f.s]
  refine ⟨rfl, ?_⟩
  have e : decide (V.str m = V.str n) = decide (m = n) := by simp
  rw [e]
  exact h _ (R.bl _)
def isN : PyData → Bool
  | .none => true
  | _ => false
theorem Fz.isN (h : Fz S H v d) : decide (v = .non) = isN d := by cases h <;> simp [Z.isN]
theorem z_isN {P : Prop} (R : Rp F H σ env ((y, .fz .none) :: (x, .fz d) :: ts)) (h : Rp F H σ env ((.bl (decide (x = .non)), .fz (.bool (isN d))) :: ts) → P) : y = .non ∧ P := by
  obtain ⟨S, f, g, R⟩ := R.two
  refine ⟨f.n, h ?_⟩
  rw [g.isN]
  exact R.bl _
theorem z_notN {P : Prop} (R : Rp F H σ env ((y, .fz .none) :: (x, .fz d) :: ts)) (h : Rp F H σ env ((.bl (!decide (x = .non)), .fz (.bool (!isN d))) :: ts) → P) : y = .non ∧ P := by
  obtain ⟨S, f, g, R⟩ := R.two
  refine ⟨f.n, h ?_⟩
  rw [g.isN]
  exact R.bl _
/-! lists and tuples -/
theorem z_len {K : PySem.W.Frag} (R : Rp F H σ env ((x, s) :: ts)) (e : asV env s = some d) (q : Sq d ds) (h : ∀ v, Rp F H σ env ((v, .fz (.int ds.length)) :: ts) → Q v H) : rLenQ K [x] H Q := by
  obtain ⟨S, w, R⟩ := R
  obtain ⟨a, xs, rfl, r, f⟩ := R.valS (K := K) e q
  exact ⟨a, xs, rfl, r, by rw [f.len]; exact h _ (Rp.int ⟨S, w, R.pop⟩ _)⟩
theorem z_lenS {z : Str} (R : Rp F H σ env ((x, .fz (.str z)) :: ts)) (l : z.length ≤ sizeLine) (h : ∀ v, Rp F H σ env ((v, .fz (.int z.length)) :: ts) → Q v H) : rLenS [x] H Q := by
  obtain ⟨S, w, R⟩ := R
  exact ⟨z, by rw [R.top.s], l, h _ (Rp.int ⟨S, w, R.pop⟩ _)⟩
theorem z_ixL {K : PySem.W.Frag} {k : Int} (R : Rp F H σ env ((y, .fz (.int k)) :: (x, s) :: ts)) (e : asV env s = some (.list ds)) (a : atI ds k = some d) (h : ∀ v, Rp F H σ env ((v, .fz d) :: ts) → Q v H) : rIxL K x y H Q := by
  obtain ⟨S, w, R⟩ := R
  obtain ⟨p, xs, rfl, r, f⟩ := R.pop.valL e
  unfold atI at a
  cases ej : ixN ds.length k with
  | none => rw [ej] at a; cases a
  | some j =>
    rw [ej] at a
    obtain ⟨v, ev, fv⟩ := f.at' (show ds[j]? = some d from a)
    exact ⟨p, xs, k, v, rfl, R.top.i, .inl (.inl r), by unfold atI; rw [f.len, ej]; exact ev, h v ⟨S, w, R.pop.pop.push fv⟩⟩
theorem z_ixT {K : PySem.W.Frag} {k : Int} (R : Rp F H σ env ((y, .fz (.int k)) :: (x, .fz (.tuple ds)) :: ts)) (a : atI ds k = some d) (h : ∀ v, Rp F H σ env ((v, .fz d) :: ts) → Q v H) : rIxT K x y H Q := by
  obtain ⟨S, w, R⟩ := R
  obtain ⟨p, xs, rfl, n, r, f⟩ := R.pop.top.t
  unfold atI at a
  cases ej : ixN ds.length k with
  | none => rw [ej] at a; cases a
  | some j =>
    rw [ej] at a
    obtain ⟨v, ev, fv⟩ := f.at' (show ds[j]? = some d from a)
    exact ⟨p, xs, k, v, rfl, R.top.i, r.sq, by unfold atI; rw [f.len, ej]; exact ev, h v ⟨S, w, R.pop.pop.push fv⟩⟩
theorem z_gtup2 {K : PySem.W.Frag} {t : TGs} {Q : St → Hp → Prop} (R : Rp F H σ env ((x, .fz (.tuple [d1, d2])) :: ts)) (h : ∀ a b, Rp F H σ env ((a, .fz d1) :: (b, .fz d2) :: ts) → t [a, b] σ H Q) : gTup K 2 t x σ H Q := by
  obtain ⟨S, w, R⟩ := R
  obtain ⟨p, xs, rfl, n, r, f⟩ := R.top.t
  cases f with | cons f1 f => cases f with | cons f2 f => cases f with
    | nil => exact ⟨p, _, rfl, r.sq, rfl, h _ _ ⟨S, w, (R.pop.push f2).push f1⟩⟩
theorem z_gtup3 {K : PySem.W.Frag} {t : TGs} {d3 : PyData} {Q : St → Hp → Prop} (R : Rp F H σ env ((x, .fz (.tuple [d1, d2, d3])) :: ts)) (h : ∀ a b c, Rp F H σ env ((a, .fz d1) :: (b, .fz d2) :: (c, .fz d3) :: ts) → t [a, b, c] σ H Q) : gTup K 3 t x σ H Q := by
  obtain ⟨S, w, R⟩ := R
  obtain ⟨p, xs, rfl, n, r, f⟩ := R.top.t
  cases f with | cons f1 f => cases f with | cons f2 f => cases f with | cons f3 f => cases f with
    | nil => exact ⟨p, _, rfl, r.sq, rfl, h _ _ _ ⟨S, w, ((R.pop.push f3).push f2).push f1⟩⟩
/-! new tuples and lists -/
theorem small_le {n : Nat} (h : Nat.ble n 1000000 = true) : n ≤ sizeLine := by
  have := Nat.le_of_ble_eq_true h
  rw [sizeLine_eq]
  omega
abbrev NewT (H : Hp) (xs : List V) (q : Addr → Obj → Prop) : Prop := xs.length ≤ sizeLine ∧ ∀ (p : Addr) (o : Obj), H p = none → o.dict = none → q p o
abbrev NewL (H : Hp) (xs : List V) (q : Addr → Prop) : Prop := xs.length ≤ sizeLine ∧ ∀ p : Addr, H p = none → q p
/-- what a rule has put at the top gets a letter -/
@[elab_as_elim] theorem gen_R {motive : V → Hp → Prop} {v0 : V} {H0 : Hp} (R : Rp F H0 σ env ((v0, s) :: ts)) (h : ∀ v H, Rp F H σ env ((v, s) :: ts) → motive v H) : motive v0 H0 := h _ _ R
@[elab_as_elim] theorem gen_V {motive : V → Prop} {v0 : V} (R : Rp F H σ env ((v0, s) :: ts)) (h : ∀ v, Rp F H σ env ((v, s) :: ts) → motive v) : motive v0 := h _ R
section
variable {q : Addr → Obj → Prop} {ql : Addr → Prop}
theorem z_tup0 (R : Rp F H σ env ts) (h : ∀ p o, Rp F (upd H p (.frz o (.tup []))) σ env ((.ref p, .fz (.tuple [])) :: ts) → q p o) : NewT H [] q := by
  obtain ⟨S, w, R⟩ := R
  exact ⟨small_le rfl, fun p o n od => h _ _ ⟨S, w, R.newT n od .nil⟩⟩
theorem z_tup1 (R : Rp F H σ env ((x, s1) :: ts)) (e1 : asD s1 = some d1) (h : ∀ p o, Rp F (upd H p (.frz o (.tup [x]))) σ env ((.ref p, .fz (.tuple [d1])) :: ts) → q p o) : NewT H [x] q := by
  obtain ⟨S, w, R⟩ := R.fr [] e1
  exact ⟨small_le rfl, fun p o n od => h _ _ ⟨S, w, R.pop.newT n od (.cons R.top .nil)⟩⟩
theorem z_tup2 (R : Rp F H σ env ((y, s2) :: (x, s1) :: ts)) (e1 : asD s1 = some d1) (e2 : asD s2 = some d2) (h : ∀ p o, Rp F (upd H p (.frz o (.tup [x, y]))) σ env ((.ref p, .fz (.tuple [d1, d2])) :: ts) → q p o) : NewT H [x, y] q := by
  obtain ⟨S, w, R⟩ := (R.fr [] e2).fr [_] e1
  exact ⟨small_le rfl, fun p o n od => h _ _ ⟨S, w, R.pop.pop.newT n od (.cons R.pop.top (.cons R.top .nil))⟩⟩
theorem z_tup3 {z : V} {d3 : PyData} (R : Rp F H σ env ((z, s3) :: (y, s2) :: (x, s1) :: ts)) (e1 : asD s1 = some d1) (e2 : asD s2 = some d2) (e3 : asD s3 = some d3) (h : ∀ p o, Rp F (upd H p (.frz o (.tup [x, y, z]))) σ env ((.ref p, .fz (.tuple [d1, d2, d3])) :: ts) → q p o) : NewT H [x, y, z] q := by
  obtain ⟨S, w, R⟩ := ((R.fr [] e3).fr [_] e2).fr [_, _] e1
  exact ⟨small_le rfl, fun p o n od => h _ _ ⟨S, w, R.pop.pop.pop.newT n od (.cons R.pop.pop.top (.cons R.pop.top (.cons R.top .nil)))⟩⟩
theorem z_lst0 (R : Rp F H σ env ts) (h : ∀ p, Rp F (upd H p (.lst [])) σ env ((.ref p, .own []) :: ts) → ql p) : NewL H [] ql := by
  obtain ⟨S, w, R⟩ := R
  exact ⟨small_le rfl, fun p n => h _ ⟨_, _, R.newL n .nil⟩⟩
theorem z_lst1 (R : Rp F H σ env ((x, s1) :: ts)) (e1 : asD s1 = some d1) (h : ∀ p, Rp F (upd H p (.lst [x])) σ env ((.ref p, .own [d1]) :: ts) → ql p) : NewL H [x] ql := by
  obtain ⟨S, w, R⟩ := R.fr [] e1
  exact ⟨small_le rfl, fun p n => h _ ⟨_, _, R.pop.newL n (.cons R.top .nil)⟩⟩
theorem z_lst2 (R : Rp F H σ env ((y, s2) :: (x, s1) :: ts)) (e1 : asD s1 = some d1) (e2 : asD s2 = some d2) (h : ∀ p, Rp F (upd H p (.lst [x, y])) σ env ((.ref p, .own [d1, d2]) :: ts) → ql p) : NewL H [x, y] ql := by
  obtain ⟨S, w, R⟩ := (R.fr [] e2).fr [_] e1
  exact ⟨small_le rfl, fun p n => h _ ⟨_, _, R.pop.pop.newL n (.cons R.pop.top (.cons R.top .nil))⟩⟩
theorem z_lst3 {z : V} {d3 : PyData} (R : Rp F H σ env ((z, s3) :: (y, s2) :: (x, s1) :: ts)) (e1 : asD s1 = some d1) (e2 : asD s2 = some d2) (e3 : asD s3 = some d3) (h : ∀ p, Rp F (upd H p (.lst [x, y, z])) σ env ((.ref p, .own [d1, d2, d3]) :: ts) → ql p) : NewL H [x, y, z] ql := by
  obtain ⟨S, w, R⟩ := ((R.fr [] e3).fr [_] e2).fr [_, _] e1
  exact ⟨small_le rfl, fun p n => h _ ⟨_, _, R.pop.pop.pop.newL n (.cons R.pop.pop.top (.cons R.pop.top (.cons R.top .nil)))⟩⟩
end
/-- n items, the last on the top -/
theorem fz_rev : ∀ {zs : List (V × PyData)} {acc : List (V × PyData)}, Rs F S H σ env ((zs.map fun z => (z.1, Sl.fz z.2)) ++ ts) w → FzAll S H (acc.map Prod.fst) (acc.map Prod.snd) → FzAll S H ((zs.reverse ++ acc).map Prod.fst) ((zs.reverse ++ acc).map Prod.snd) ∧ Rs F S H σ env ts w
  | [], acc, R, h => ⟨h, R⟩
  | z :: zs, acc, R, h => by
    have := fz_rev (zs := zs) (acc := z :: acc) R.pop (.cons R.top h)
    rw [List.reverse_cons, List.append_assoc]
    exact this
theorem z_lstN (zs : List (V × PyData)) (R : Rp F H σ env ((zs.map fun z => (z.1, Sl.fz z.2)) ++ ts)) (l : Nat.ble zs.length 1000000 = true) {ql : Addr → Prop} (h : ∀ p, Rp F (upd H p (.lst xs)) σ env ((.ref p, .own (zs.reverse.map Prod.snd)) :: ts) → ql p) (e : zs.reverse.map Prod.fst = xs) : NewL H xs ql := by
  obtain ⟨S, w, R⟩ := R
  obtain ⟨f, R⟩ := fz_rev (acc := []) R .nil
  rw [List.append_nil] at f
  subst e
  refine ⟨small_le (by rw [List.length_map, List.length_reverse]; exact l), fun p n => h _ ⟨_, _, R.newL n f⟩⟩
theorem z_catF {K : PySem.W.Frag} (R : Rp F H σ env ((y, .fz (.tuple es)) :: (x, .fz (.tuple ds)) :: ts)) (l : ds.length + es.length ≤ 1000000) (h : ∀ v H', Rp F H' σ env ((v, .fz (.tuple (ds ++ es))) :: ts) → Q v H') : rCatF K x y H Q := by
  obtain ⟨S, w, R⟩ := R
  obtain ⟨b, ys, rfl, nb, rb, fb⟩ := R.top.t
  obtain ⟨a, xs, rfl, na, ra, fa⟩ := R.pop.top.t
  refine ⟨a, b, xs, ys, rfl, rfl, ra.sq, rb.sq, by rw [fa.len, fb.len, sizeLine_eq]; omega, fun e => ?_, fun e e2 => ?_, fun e e2 p o np od => ?_⟩
  · subst e
    cases fa
    exact h _ _ ⟨S, w, R.pop.pop.push R.top⟩
  · subst e2
    cases fb
    rw [List.append_nil] at h
    exact h _ _ ⟨S, w, R.pop⟩
  · exact h _ _ ⟨S, w, R.pop.pop.newT np od (fa.append fb)⟩
theorem z_cat (R : Rp F H σ env ((y, s2) :: (x, s1) :: ts)) (e1 : asV env s1 = some (.list ds)) (e2 : asV env s2 = some (.list es)) (l : ds.length + es.length ≤ 1000000) (h : ∀ v H', Rp F H' σ env ((v, .own (ds ++ es)) :: ts) → Q v H') : rCat x y H Q := by
  obtain ⟨S, w, R⟩ := R
  obtain ⟨b, ys, rfl, rb, fb⟩ := R.valL e2
  obtain ⟨a, xs, rfl, ra, fa⟩ := R.pop.valL e1
  exact ⟨a, b, xs, ys, rfl, rfl, ra, rb, by rw [fa.len, fb.len, sizeLine_eq]; omega, fun p np => h _ _ ⟨_, _, R.pop.pop.newL np (fa.append fb)⟩⟩
/-! methods of lists: the list of a slot -/
theorem z_tyL {K : PySem.W.Frag} {P : Prop} (R : Rp F H σ env ((x, .al i) :: ts)) (e : env[i]? = some (.own ds)) (h : P) : tyV K "list" x H ∧ P := by
  obtain ⟨S, w, R⟩ := R
  obtain ⟨a, xs, rfl, r, f⟩ := R.valL (s := .al i) (ds := ds) (by simp only [asV, e])
  exact ⟨.inl ⟨rfl, xs, .inl (.inl r)⟩, h⟩
theorem Rs.alSlot {z : V} (R : Rs F S H σ env ts w) (m : (z, Sl.al i) ∈ ts) : σ[i]? = some (some z) := by
  have g : ∀ ts, Et F S H σ w ts → (z, Sl.al i) ∈ ts → σ[i]? = some (some z) := by
    intro ts
    induction ts with
    | nil => intro _ h; cases h
    | cons t ts ih =>
      intro h m
      rcases List.mem_cons.mp m with e | e
      · subst e
        have := h.1
        cases this with | al q => exact q
      · exact ih h.2 e
  exact g ts R.tmp m
theorem z_app (R : Rp F H σ env ((y, s) :: (x, .al i) :: ts)) (e : env[i]? = some (.own ds)) (es' : asD s = some d) (l : ds.length < 1000000) (he : env.set i (.own (ds ++ [d])) = env') (h : ∀ v H', Rp F H' σ env' ((v, .fz .none) :: ts) → Q v H') : rAppend x [y] H Q := by
  subst he
  obtain ⟨S, w, R⟩ := R.fr [] es'
  obtain ⟨a, xs, e1, e2, e3, k⟩ := R.pop.pop.ownSlot e
  have e4 := R.alSlot (List.mem_cons_of_mem _ (List.mem_cons_self ..))
  rw [e1] at e4
  cases e4
  refine ⟨a, xs, y, rfl, rfl, e2, ?_, h _ _ (Rp.non ⟨S, w, k _ _ (e3.append (.cons R.top .nil))⟩)⟩
  rw [e3.len, sizeLine_eq]
  omega
theorem z_ext (R : Rp F H σ env ((y, .own es) :: (x, .al i) :: ts)) (e : env[i]? = some (.own ds)) (l : ds.length + es.length ≤ 1000000) (he : env.set i (.own (ds ++ es)) = env') (h : ∀ v H', Rp F H' σ env' ((v, .fz .none) :: ts) → Q v H') : rExtend x [y] H Q := by
  subst he
  obtain ⟨S, w, R⟩ := R
  obtain ⟨a, xs, e1, e2, e3, k⟩ := R.pop.pop.ownSlot e
  have e4 := R.alSlot (List.mem_cons_of_mem _ (List.mem_cons_self ..))
  rw [e1] at e4
  cases e4
  obtain ⟨b, ys, rfl, r, f, _⟩ := R.updTop (es := [])
  refine ⟨a, b, xs, ys, rfl, rfl, e2, r, ?_, h _ _ (Rp.non ⟨S, w, k _ _ (e3.append f)⟩)⟩
  rw [e3.len, f.len, sizeLine_eq]
  omega
theorem FzAll.dropLast {xs : List V} (h : FzAll S H xs (ds ++ [d])) : ∃ ys y, xs = ys ++ [y] ∧ FzAll S H ys ds ∧ Fz S H y d := by
  obtain ⟨ys, zs, rfl, h1, h2⟩ := h.split
  cases h2 with | cons h2 h3 => cases h3; exact ⟨ys, _, rfl, h1, h2⟩
theorem z_pop (R : Rp F H σ env ((x, .al i) :: ts)) (e : env[i]? = some (.own (ds ++ [d]))) (he : env.set i (.own ds) = env') (h : ∀ v H', Rp F H' σ env' ((v, .fz d) :: ts) → Q v H') : rPop x [] H Q := by
  subst he
  obtain ⟨S, w, R⟩ := R
  obtain ⟨a, xs, e1, e2, e3, k⟩ := R.pop.ownSlot e
  have e4 := R.alSlot (List.mem_cons_self ..)
  rw [e1] at e4
  cases e4
  obtain ⟨ys, y, rfl, f, g⟩ := e3.dropLast
  refine r_pop e2 (h _ _ ⟨S, w, (k _ _ f).push ?_⟩)
  obtain ⟨aS, _⟩ : a ∈ S ∧ True := by
    obtain ⟨x, ex, sx⟩ := R.slots i _ e
    cases sx with | own _ _ m =>
      rw [e1] at ex
      cases ex
      exact ⟨m.s, trivial⟩
  exact fz_upd aS g
end
end L2.Z

end
section
set_option Elab.async false
set_option linter.all false
set_option maxRecDepth 100000
set_option maxHeartbeats 4000000
local macro_rules | `(tactic| walk_at "rd1") => `(tactic| with_reducible first
  | refine L2.Rx.r_seq ?_ | refine L2.Rx.r_asg ?_ | refine L2.Rx.r_gname ?_ | refine L2.Rx.r_op ?_ | refine L2.Rx.r_c ?_
  | refine L2.Rx.r_var rfl ?_
  | refine L2.Rx.r_rI0 ?_ | refine L2.Rx.r_test ?_ | refine L2.Rx.r_bl ?_ | refine L2.Rx.r_if ?_ | refine L2.Rx.r_ret ?_
  | refine L2.Rx.r_cons ?_ | refine L2.Rx.r_nil ?_ | refine L2.Rx.r_call ?_ | refine L2.Rx.r_cb ?_ | refine L2.Rx.r_next ?_ | refine L2.Rx.r_drop ?_
  | refine L2.Rx.r_gsub ?_ | refine L2.Rx.r_tupF ?_ | refine L2.Rx.r_lst ?_ | refine L2.Rx.r_par ?_ | refine L2.Rx.r_par2 ?_
  | refine L2.Rx.r_un ?_ | refine L2.Rx.r_tb ?_ | refine L2.Rx.r_and ?_ | refine L2.Rx.r_or ?_ | refine L2.Rx.r_not ?_
  | refine L2.Rx.r_andV ?_ | refine L2.Rx.r_orV ?_ | refine L2.Rx.r_notV ?_ | refine L2.Rx.r_ifx ?_ | refine L2.Rx.r_chain ?_
  | refine L2.Rx.r_sl ?_ | refine L2.Rx.r_nopart ?_ | refine L2.Rx.r_part ?_ | refine L2.Rx.r_exint ?_ | refine L2.Rx.r_bm0 ?_ | refine L2.Rx.r_bm ?_
  | refine L2.Rx.r_lc ?_ | refine L2.Rx.r_rng1 ?_ | refine L2.Rx.r_yes ?_ | refine L2.Rx.r_tt ?_ | refine L2.Rx.r_ff ?_ | refine L2.Rx.r_m1 ?_ | refine L2.Rx.r_m0 ?_ | refine L2.Rx.r_isS ?_
  | (refine L2.Rx.r_wipe (by with_unfolding_all rfl) ?_) | (refine L2.Rx.r_tyL (by walk_at "hp") ?_)
  | refine L2.Rx.r_addS (by walk_at "len") ?_ | refine L2.Rx.r_lenS (by walk_at "len") ?_ | refine L2.Rx.r_slS (by walk_at "len") ?_
  | refine L2.Rx.r_dnotin ?_ | refine L2.Rx.r_dget ?_ | refine L2.Rx.r_dget1 ?_ | refine L2.Rx.r_dput ?_ | refine L2.Rx.r_dpop1 ?_ | refine L2.Rx.r_isN ?_
  | refine L2.Rx.r_for ?_ | refine L2.Rx.r_ilist ?_ | refine L2.Rx.r_itup ?_
  | refine L2.Rx.r_gcons ?_ | refine L2.Rx.r_gnil ?_ | (refine L2.Rx.r_gtupP (by assumption) (by walk_at "at") ?_)
  | (refine L2.Rx.r_rEq rfl ?_) | (refine L2.Rx.r_rNe rfl ?_)
  | refine L2.Rx.r_rU ?_ | refine L2.Rx.r_max2 ?_ | refine L2.Rx.r_min2 ?_ | refine L2.Rx.r_int1i ?_ | (refine L2.Rx.r_lenh (by walk_at "hp") ?_)
  | (refine L2.Rx.r_ixLh (by walk_at "hp") (by walk_at "at") ?_)
  | (refine L2.Rx.r_setL (by walk_at "hp") (by walk_at "at") ?_))
local macro_rules | `(tactic| walk_at "at") => `(tactic| with_unfolding_all rfl)
local macro_rules | `(tactic| walk_at "rd") => `(tactic| (repeat walk_at "rd1"))
local macro_rules | `(tactic| walk_at "hp") => `(tactic| first
  | assumption
  | exact L2.upd_same
  | (refine Eq.trans (L2.upd_ne ?_) ?_; (focus walk_at "ne"); (focus walk_at "hp"))
  | (refine L2.Rx.Kp.at0 (by assumption) ?_; walk_at "hp")
  | (refine L2.Rx.Kp.at1 (by assumption) ?_ ?_; (focus walk_at "ne"); (focus walk_at "hp")))
local macro_rules | `(tactic| walk_at "ne") => `(tactic| first
  | assumption | exact Ne.symm (by assumption)
  | (refine L2.ne_of_none (H := ?nH) (o := ?nO) ?nh ?nn; (case nn => assumption); (case nh => walk_at "hp"))
  | (refine Ne.symm (L2.ne_of_none (H := ?nH) (o := ?nO) ?nh ?nn); (case nn => assumption); (case nh => walk_at "hp")))
local macro_rules | `(tactic| walk_at "len") => `(tactic| (rw [PySem.sizeLine_eq]; omega))
local macro_rules | `(tactic| walk_at "nin") => `(tactic| first
  | exact List.not_mem_nil
  | (refine L2.Rx.nin1 ?_; walk_at "ne"))
local macro_rules | `(tactic| walk_at "none") => `(tactic| first
  | assumption
  | (refine L2.Rx.Kp.none0 (by assumption) ?_ ?_; (focus walk_at "nin"); (focus walk_at "none")))
namespace L2.Z
open PySem PySem.Spec PyProof.Rows L2.Rx
section
variable {F : Fr} {H H' : Hp} {S T : List Addr} {σ : St} {env env' : List Sl} {ts : Ts} {w : Addr → Nat} {v x y : V} {d d1 d2 d3 d4 d5 : PyData} {ds es : List PyData} {Q : VK} {i j : Nat} {s s1 s2 s3 s4 s5 : Sl} {xs ys : List V} {p : Addr} {t : V × Sl}
/-! ### data -/
theorem noD_shp : ∀ d : PyData, shp d = true → noD d = true := by
  intro d
  refine PyData.rec (motive_1 := fun d => shp d = true → noD d = true) (motive_2 := fun ds => shps ds = true → ds.all noD = true) (motive_3 := fun _ => True) (motive_4 := fun _ => True) ?_ ?_ ?_ ?_ ?_ ?_ ?_ ?_ ?_ ?_ ?_ ?_ d
  all_goals first
    | (intro xs ih h; rw [noD_list]; rw [shp] at h; exact ih h)
    | (intro xs ih h; rw [noD_tuple]; rw [shp] at h; exact ih h)
    | (intro xs ih h; rw [shp] at h; cases h)
    | (intro d ds i1 i2 h; rw [shps, Bool.and_eq_true] at h; rw [List.all_cons, i1 h.1, i2 h.2]; rfl)
    | (intro _; rfl)
    | trivial
    | (intros; trivial)
    | (intros; simp [noD])
/-- fit to be compared -/
structure Cmp (d : PyData) : Prop where
  s : shp d = true
  n : d.depth ≤ 64
theorem Cmp.noD (c : Cmp d) : noD d = true := noD_shp d c.s
theorem Cmp.nil : Cmp (.tuple []) := ⟨rfl, by decide +kernel⟩
theorem Cmp.nilL : Cmp (.list []) := ⟨rfl, by decide +kernel⟩
/-- fit to be shown -/
structure Shw (d : PyData) : Prop where
  f : fine d = true
  n : d.depth ≤ 60
  w : d.weight ≤ 2 ^ 20
theorem noD_fine : ∀ d : PyData, fine d = true → noD d = true := by
  intro d
  refine PyData.rec (motive_1 := fun d => fine d = true → noD d = true) (motive_2 := fun ds => fines ds = true → ds.all noD = true) (motive_3 := fun _ => True) (motive_4 := fun _ => True) ?_ ?_ ?_ ?_ ?_ ?_ ?_ ?_ ?_ ?_ ?_ ?_ d
  all_goals first
    | (intro xs ih h; rw [noD_list]; rw [fine] at h; exact ih h)
    | (intro xs ih h; rw [noD_tuple]; rw [fine] at h; exact ih h)
    | (intro xs ih h; rw [fine] at h; cases h)
    | (intro d ds i1 i2 h; rw [fines, Bool.and_eq_true] at h; rw [List.all_cons, i1 h.1, i2 h.2]; rfl)
    | (intro _; rfl)
    | trivial
    | (intros; trivial)
    | (intros; simp [noD])
theorem Rp.q2 (R : Rp F H σ env ((y, s2) :: (x, s1) :: ts)) (e1 : asV env s1 = some d1) (e2 : asV env s2 = some d2) (n1 : noD d1 = true) (n2 : noD d2 = true) : Dq F.K H x d1 ∧ Dq F.K H y d2 ∧ Rp F H σ env ts := by
  obtain ⟨S, w, R⟩ := R
  exact ⟨R.pop.valQ e1 n1, R.valQ e2 n2, S, w, R.pop.pop⟩
theorem z_eqD {K : PySem.W.Frag} (hK : F.K = K) (R : Rp F H σ env ((y, s2) :: (x, s1) :: ts)) (e1 : asV env s1 = some d1) (e2 : asV env s2 = some d2) (c1 : Cmp d1) (c2 : Cmp d2) (h : ∀ v, Rp F H σ env ((v, .fz (.bool (PyData.eqv d1 d2))) :: ts) → Q v H) : rEqD K x y H Q := by
  subst hK
  obtain ⟨a, b, R⟩ := R.q2 e1 e2 c1.noD c2.noD
  exact ⟨d1, d2, a.dp, b.dp, shaped_of c1.s c1.n, shaped_of c2.s c2.n, h _ (R.bl _)⟩
theorem z_neD {K : PySem.W.Frag} (hK : F.K = K) (R : Rp F H σ env ((y, s2) :: (x, s1) :: ts)) (e1 : asV env s1 = some d1) (e2 : asV env s2 = some d2) (c1 : Cmp d1) (c2 : Cmp d2) (h : ∀ v, Rp F H σ env ((v, .fz (.bool (!PyData.eqv d1 d2))) :: ts) → Q v H) : rNeD K x y H Q := by
  subst hK
  obtain ⟨a, b, R⟩ := R.q2 e1 e2 c1.noD c2.noD
  exact ⟨d1, d2, a.dp, b.dp, shaped_of c1.s c1.n, shaped_of c2.s c2.n, h _ (R.bl _)⟩
theorem z_repr {K : PySem.W.Frag} (hK : F.K = K) (R : Rp F H σ env ((x, s) :: ts)) (e : asV env s = some d) (c : Shw d) (h : ∀ v, Rp F H σ env ((v, .fz (.str d.shown)) :: ts) → Q v H) : rRepr K [x] H Q := by
  subst hK
  obtain ⟨S, w, R⟩ := R
  exact r_repr (R.valQ e (noD_fine d c.f)) c.f c.n c.w (h _ (Rp.str ⟨S, w, R.pop⟩ _))
/-! in -/
theorem z_inI {K : PySem.W.Frag} {k : Int} {ns : List Int} (R : Rp F H σ env ((y, s) :: (x, .fz (.int k)) :: ts)) (e : asV env s = some d) (q : Sq d ds) (hd : ds = ns.map PyData.int) (h : ∀ v, Rp F H σ env ((v, .fz (.bool (decide (k ∈ ns)))) :: ts) → Q v H) : rIn K false x y H Q := by
  subst hd
  obtain ⟨S, w, R⟩ := R
  obtain ⟨a, xs, rfl, r, f⟩ := R.valS (K := K) e q
  rw [f.ints] at r
  rw [R.pop.top.i]
  exact ⟨a, _, rfl, r, rfl, flat_ints ns, by rw [inV_int]; exact h _ (Rp.bl ⟨S, w, R.pop.pop⟩ _)⟩
theorem z_ninI {K : PySem.W.Frag} {k : Int} {ns : List Int} (R : Rp F H σ env ((y, s) :: (x, .fz (.int k)) :: ts)) (e : asV env s = some d) (q : Sq d ds) (hd : ds = ns.map PyData.int) (h : ∀ v, Rp F H σ env ((v, .fz (.bool (!decide (k ∈ ns)))) :: ts) → Q v H) : rIn K true x y H Q := by
  subst hd
  obtain ⟨S, w, R⟩ := R
  obtain ⟨a, xs, rfl, r, f⟩ := R.valS (K := K) e q
  rw [f.ints] at r
  rw [R.pop.top.i]
  exact ⟨a, _, rfl, r, rfl, flat_ints ns, by rw [inV_int]; exact h _ (Rp.bl ⟨S, w, R.pop.pop⟩ _)⟩
theorem z_inS {K : PySem.W.Frag} {k : Str} {ns : List Str} (R : Rp F H σ env ((y, s) :: (x, .fz (.str k)) :: ts)) (e : asV env s = some d) (q : Sq d ds) (hd : ds = ns.map PyData.str) (h : ∀ v, Rp F H σ env ((v, .fz (.bool (decide (k ∈ ns)))) :: ts) → Q v H) : rIn K false x y H Q := by
  subst hd
  obtain ⟨S, w, R⟩ := R
  obtain ⟨a, xs, rfl, r, f⟩ := R.valS (K := K) e q
  rw [f.strs] at r
  rw [R.pop.top.s]
  exact ⟨a, _, rfl, r, rfl, flat_strs ns, by rw [inV_str]; exact h _ (Rp.bl ⟨S, w, R.pop.pop⟩ _)⟩
theorem z_ninS {K : PySem.W.Frag} {k : Str} {ns : List Str} (R : Rp F H σ env ((y, s) :: (x, .fz (.str k)) :: ts)) (e : asV env s = some d) (q : Sq d ds) (hd : ds = ns.map PyData.str) (h : ∀ v, Rp F H σ env ((v, .fz (.bool (!decide (k ∈ ns)))) :: ts) → Q v H) : rIn K true x y H Q := by
  subst hd
  obtain ⟨S, w, R⟩ := R
  obtain ⟨a, xs, rfl, r, f⟩ := R.valS (K := K) e q
  rw [f.strs] at r
  rw [R.pop.top.s]
  exact ⟨a, _, rfl, r, rfl, flat_strs ns, by rw [inV_str]; exact h _ (Rp.bl ⟨S, w, R.pop.pop⟩ _)⟩
/-! texts -/
theorem z_addS {m n : Str} (R : Rp F H σ env ((y, .fz (.str n)) :: (x, .fz (.str m)) :: ts)) (l : m.length + n.length ≤ sizeLine) (h : ∀ v, Rp F H σ env ((v, .fz (.str (m ++ n))) :: ts) → Q v H) : rAddS x y H Q := by
  obtain ⟨S, f, g, R⟩ := R.two
  exact ⟨m, n, g.s, f.s, l, h _ (R.str _)⟩
theorem z_cmpS {q : Str → Str → Prop} {m n : Str} (b : Bool) (R : Rp F H σ env ((y, .fz (.str n)) :: (x, .fz (.str m)) :: ts)) (h : Rp F H σ env ((.bl b, .fz (.bool b)) :: ts) → q m n) : ∃ i j, x = .str i ∧ y = .str j ∧ q i j := by
  obtain ⟨S, f, f2, R⟩ := R.two
  exact ⟨m, n, f2.s, f.s, h (R.bl _)⟩
theorem z_ixS {z : Str} {k : Int} {c : Nat} (R : Rp F H σ env ((y, .fz (.int k)) :: (x, .fz (.str z)) :: ts)) (l : z.length ≤ sizeLine) (a : atI z.cps.toList k = some c) (h : ∀ v, Rp F H σ env ((v, .fz (.str ⟨#[c]⟩)) :: ts) → Q v H) : rIxS x y H Q := by
  obtain ⟨S, f, g, R⟩ := R.two
  exact ⟨z, k, c, g.s, f.i, l, a, h _ (R.str _)⟩
theorem z_slS {z : Str} {lo hi : Option Int} (R : Rp F H σ env ((x, .fz (.str z)) :: ts)) (l : z.length ≤ sizeLine) (h : ∀ v, Rp F H σ env ((v, .fz (.str (cutS z lo hi))) :: ts) → Q v H) : rSlS x lo hi H Q := by
  obtain ⟨S, w, R⟩ := R
  exact ⟨z, R.top.s, l, h _ (Rp.str ⟨S, w, R.pop⟩ _)⟩
/-! sorted, tuple, list of -/
theorem fz_zip {zs : List (PyData × V)} (h : ∀ z ∈ zs, Fz S H z.2 z.1) : FzAll S H (zs.map Prod.snd) (zs.map Prod.fst) := by
  induction zs with
  | nil => exact .nil
  | cons z zs ih => exact .cons (h z (List.mem_cons_self ..)) (ih fun y m => h y (List.mem_cons_of_mem _ m))
theorem fz_mem : ∀ {ds : List PyData} {xs : List V}, FzAll S H xs ds → ∀ z ∈ ds.zip xs, Fz S H z.2 z.1
  | [], _, _, z, hz => by simp at hz
  | d :: ds, _, h, z, hz => by
    cases h with
    | cons h1 h2 =>
      rcases List.mem_cons.mp hz with e | e
      · subst e; exact h1
      · exact fz_mem h2 z e
theorem z_sortD {K : PySem.W.Frag} {α : Type} {enc : α → PyData} {as : List α} (hK : F.K = K) (R : Rp F H σ env ((x, s) :: ts)) (e : asV env s = some d) (q : Sq d ds) (hd : ds = as.map enc) (n : ∀ a ∈ as, noD (enc a) = true) (sb : Sb (as.map enc))
    (h : ∀ (v : V) (H' : Hp) (bs : List α), bs.Perm as → bs.Pairwise (fun x y => PySem.W.dataLt (enc y) (enc x) = false) → Rp F H' σ env ((v, .own (bs.map enc)) :: ts) → Q v H') : rSortV K [x] H Q := by
  subst hd hK
  obtain ⟨S, w, R⟩ := R
  obtain ⟨a, xs, rfl, r, f⟩ := R.valS (K := F.K) e q
  have nd : (as.map enc).all noD = true := List.all_eq_true.mpr fun z hz => by
    obtain ⟨a, m, rfl⟩ := List.mem_map.mp hz
    exact n a m
  refine r_sort r (DqAll.dp _ _ (f.dq nd)) sb fun p zs hp hw np => ?_
  have e1 : (zs.map Prod.fst).Perm (as.map enc) := by
    have := hp.map Prod.fst
    rw [zip_fst _ _ f.len] at this
    exact this
  obtain ⟨bs, pb, eb⟩ := perm_map_lift e1 rfl
  refine h _ _ bs pb ?_ ⟨_, _, R.pop.newL np ?_⟩
  · have : (zs.map Prod.fst).Pairwise (fun a b => PySem.W.dataLt b a = false) := by
      rw [List.pairwise_map]
      exact hw
    rw [eb, List.pairwise_map] at this
    exact this
  · rw [← eb]
    exact fz_zip fun z hz => fz_mem f z (hp.mem_iff.mp hz)
theorem z_tupL {K : PySem.W.Frag} (R : Rp F H σ env ((x, s) :: ts)) (e : asV env s = some (.list ds)) (h : ∀ v H', Rp F H' σ env ((v, .fz (.tuple ds)) :: ts) → Q v H') : rTupOf K [x] H Q := by
  obtain ⟨S, w, R⟩ := R
  obtain ⟨a, xs, rfl, r, f⟩ := R.valL e
  exact ⟨a, xs, rfl, .inl ⟨.inl (.inl r), fun l o nl od => h _ _ ⟨S, w, R.pop.newT nl od f⟩⟩⟩
theorem z_tupT {K : PySem.W.Frag} (R : Rp F H σ env ((x, .fz (.tuple ds)) :: ts)) (h : ∀ v, Rp F H σ env ((v, .fz (.tuple ds)) :: ts) → Q v H) : rTupOf K [x] H Q := by
  have R0 := R
  obtain ⟨S, w, R⟩ := R
  obtain ⟨a, xs, rfl, n, r, f⟩ := R.top.t
  exact ⟨a, xs, rfl, .inr ⟨r.sq, h _ R0⟩⟩
theorem z_listOf {K : PySem.W.Frag} (R : Rp F H σ env ((x, s) :: ts)) (e : asV env s = some d) (q : Sq d ds) (h : ∀ v H', Rp F H' σ env ((v, .own ds) :: ts) → Q v H') : rListOf K [x] H Q := by
  obtain ⟨S, w, R⟩ := R
  obtain ⟨a, xs, rfl, r, f⟩ := R.valS (K := K) e q
  exact ⟨a, xs, rfl, r, fun l nl => h _ _ ⟨_, _, R.pop.newL nl f⟩⟩
theorem FzAll.cut (h : FzAll S H xs ds) (a b : Nat) : FzAll S H ((xs.drop a).take b) ((ds.drop a).take b) := by
  have dr : ∀ (a : Nat) {xs : List V} {ds : List PyData}, FzAll S H xs ds → FzAll S H (xs.drop a) (ds.drop a) := by
    intro a
    induction a with
    | zero => intro xs ds h; exact h
    | succ a ih =>
      intro xs ds h
      cases h with
      | nil => exact .nil
      | cons _ h => exact ih h
  have tk : ∀ (b : Nat) {xs : List V} {ds : List PyData}, FzAll S H xs ds → FzAll S H (xs.take b) (ds.take b) := by
    intro b
    induction b with
    | zero => intro xs ds h; exact .nil
    | succ b ih =>
      intro xs ds h
      cases h with
      | nil => exact .nil
      | cons h1 h => exact .cons h1 (ih h)
  exact tk b (dr a h)
def cutD (ds : List PyData) (lo hi : Option Int) : List PyData := (ds.drop (HT.sIx ds.length 0 lo)).take (HT.sIx ds.length ds.length hi - HT.sIx ds.length 0 lo)
theorem FzAll.cutV (h : FzAll S H xs ds) (lo hi : Option Int) : FzAll S H (cutV xs lo hi) (cutD ds lo hi) := by
  unfold L2.cutV cutD
  rw [h.len]
  exact h.cut _ _
theorem z_slL {K : PySem.W.Frag} {lo hi : Option Int} (R : Rp F H σ env ((x, s) :: ts)) (e : asV env s = some (.list ds)) (h : ∀ v H', Rp F H' σ env ((v, .own (cutD ds lo hi)) :: ts) → Q v H') : rSlL K x lo hi H Q := by
  obtain ⟨S, w, R⟩ := R
  obtain ⟨a, xs, rfl, r, f⟩ := R.valL e
  exact ⟨a, xs, rfl, .inl (.inl r), fun p np => h _ _ ⟨_, _, R.pop.newL np (f.cutV lo hi)⟩⟩
/-! lists of truth values, of ints -/
theorem z_all {K : PySem.W.Frag} {bs : List Bool} (R : Rp F H σ env ((x, s) :: ts)) (e : asV env s = some (.list ds)) (hd : ds = bs.map PyData.bool) (h : ∀ v, Rp F H σ env ((v, .fz (.bool (bs.all id))) :: ts) → Q v H) : rAll K [x] H Q := by
  subst hd
  obtain ⟨S, w, R⟩ := R
  obtain ⟨a, xs, rfl, r, f⟩ := R.valL e
  rw [f.bools] at r
  exact ⟨a, bs, rfl, .inl (.inl r), h _ (Rp.bl ⟨S, w, R.pop⟩ _)⟩
theorem z_any {K : PySem.W.Frag} {bs : List Bool} (R : Rp F H σ env ((x, s) :: ts)) (e : asV env s = some (.list ds)) (hd : ds = bs.map PyData.bool) (h : ∀ v, Rp F H σ env ((v, .fz (.bool (bs.any id))) :: ts) → Q v H) : rAny K [x] H Q := by
  subst hd
  obtain ⟨S, w, R⟩ := R
  obtain ⟨a, xs, rfl, r, f⟩ := R.valL e
  rw [f.bools] at r
  exact ⟨a, bs, rfl, .inl (.inl r), h _ (Rp.bl ⟨S, w, R.pop⟩ _)⟩
theorem z_sum {K : PySem.W.Frag} {ns : List Int} (R : Rp F H σ env ((x, s) :: ts)) (e : asV env s = some (.list ds)) (hd : ds = ns.map PyData.int) (h : ∀ v, Rp F H σ env ((v, .fz (.int ns.sum)) :: ts) → Q v H) : rSum K [x] H Q := by
  subst hd
  obtain ⟨S, w, R⟩ := R
  obtain ⟨a, xs, rfl, r, f⟩ := R.valL e
  rw [f.ints] at r
  exact ⟨a, ns, rfl, .inl (.inl r), h _ (Rp.int ⟨S, w, R.pop⟩ _)⟩
theorem z_join {K : PySem.W.Frag} {a : Str} {zs : List Str} (R : Rp F H σ env ((y, s) :: (x, .fz (.str a)) :: ts)) (e : asV env s = some d) (q : Sq d ds) (hd : ds = zs.map PyData.str) (l : (zs.map (·.length)).sum + zs.length * a.length ≤ 16777216)
    (h : ∀ v, Rp F H σ env ((v, .fz (.str (Txt.join a zs))) :: ts) → Q v H) : rJoin K x [y] H Q := by
  subst hd
  obtain ⟨S, w, R⟩ := R
  obtain ⟨p, xs, rfl, r, f⟩ := R.valS (K := K) e q
  rw [f.strs] at r
  exact ⟨a, p, zs, R.pop.top.s, rfl, r, l, h _ (Rp.str ⟨S, w, R.pop.pop⟩ _)⟩
theorem z_isStr {z : Str} {P : Prop} (R : Rp F H σ env ((x, .fz (.str z)) :: ts)) (h : P) : (∃ a, x = .str a) ∧ P := by
  obtain ⟨S, w, R⟩ := R
  exact ⟨⟨z, R.top.s⟩, h⟩
theorem z_max2 {m n : Int} (R : Rp F H σ env ((y, .fz (.int n)) :: (x, .fz (.int m)) :: ts)) (h : ∀ v, Rp F H σ env ((v, .fz (.int (max m n))) :: ts) → Q v H) : rMax2 [x, y] H Q := by
  obtain ⟨S, f, g, R⟩ := R.two
  rw [f.i, g.i]
  exact r_max2 (h _ (R.int _))
theorem z_min2 {m n : Int} (R : Rp F H σ env ((y, .fz (.int n)) :: (x, .fz (.int m)) :: ts)) (h : ∀ v, Rp F H σ env ((v, .fz (.int (min m n))) :: ts) → Q v H) : rMin2 [x, y] H Q := by
  obtain ⟨S, f, g, R⟩ := R.two
  rw [f.i, g.i]
  exact r_min2 (h _ (R.int _))
/-! truth -/
theorem z_truth {K : PySem.W.Frag} {q : Bool → Prop} (R : Rp F H σ env ((x, s) :: ts)) (e : asV env s = some (.list ds)) (h : Rp F H σ env ts → q (!ds.isEmpty)) : ∃ k, TruV K x H k ∧ q k := by
  obtain ⟨S, w, R⟩ := R
  obtain ⟨a, xs, rfl, r, f⟩ := R.valL e
  have ee : xs.isEmpty = ds.isEmpty := by
    have := f.len
    cases xs <;> cases ds <;> first | rfl | simp at this
  exact ⟨_, .inl ⟨xs, .inl (.inl r), rfl⟩, by rw [ee]; exact h ⟨S, w, R.pop⟩⟩
theorem z_truthT {K : PySem.W.Frag} {q : Bool → Prop} (R : Rp F H σ env ((x, .fz (.tuple ds)) :: ts)) (h : Rp F H σ env ts → q (!ds.isEmpty)) : ∃ k, TruV K x H k ∧ q k := by
  obtain ⟨S, w, R⟩ := R
  obtain ⟨a, xs, rfl, n, r, f⟩ := R.top.t
  have ee : xs.isEmpty = ds.isEmpty := by
    have := f.len
    cases xs <;> cases ds <;> first | rfl | simp at this
  exact ⟨_, .inr (.inl ⟨xs, r.sq, rfl⟩), by rw [ee]; exact h ⟨S, w, R.pop⟩⟩
end
end L2.Z

end
section
set_option Elab.async false
set_option linter.all false
set_option maxRecDepth 100000
set_option maxHeartbeats 4000000
local macro_rules | `(tactic| walk_at "rd1") => `(tactic| with_reducible first
  | refine L2.Rx.r_seq ?_ | refine L2.Rx.r_asg ?_ | refine L2.Rx.r_gname ?_ | refine L2.Rx.r_op ?_ | refine L2.Rx.r_c ?_
  | refine L2.Rx.r_var rfl ?_
  | refine L2.Rx.r_rI0 ?_ | refine L2.Rx.r_test ?_ | refine L2.Rx.r_bl ?_ | refine L2.Rx.r_if ?_ | refine L2.Rx.r_ret ?_
  | refine L2.Rx.r_cons ?_ | refine L2.Rx.r_nil ?_ | refine L2.Rx.r_call ?_ | refine L2.Rx.r_cb ?_ | refine L2.Rx.r_next ?_ | refine L2.Rx.r_drop ?_
  | refine L2.Rx.r_gsub ?_ | refine L2.Rx.r_tupF ?_ | refine L2.Rx.r_lst ?_ | refine L2.Rx.r_par ?_ | refine L2.Rx.r_par2 ?_
  | refine L2.Rx.r_un ?_ | refine L2.Rx.r_tb ?_ | refine L2.Rx.r_and ?_ | refine L2.Rx.r_or ?_ | refine L2.Rx.r_not ?_
  | refine L2.Rx.r_andV ?_ | refine L2.Rx.r_orV ?_ | refine L2.Rx.r_notV ?_ | refine L2.Rx.r_ifx ?_ | refine L2.Rx.r_chain ?_
  | refine L2.Rx.r_sl ?_ | refine L2.Rx.r_nopart ?_ | refine L2.Rx.r_part ?_ | refine L2.Rx.r_exint ?_ | refine L2.Rx.r_bm0 ?_ | refine L2.Rx.r_bm ?_
  | refine L2.Rx.r_lc ?_ | refine L2.Rx.r_rng1 ?_ | refine L2.Rx.r_yes ?_ | refine L2.Rx.r_tt ?_ | refine L2.Rx.r_ff ?_ | refine L2.Rx.r_m1 ?_ | refine L2.Rx.r_m0 ?_ | refine L2.Rx.r_isS ?_
  | (refine L2.Rx.r_wipe (by with_unfolding_all rfl) ?_) | (refine L2.Rx.r_tyL (by walk_at "hp") ?_)
  | refine L2.Rx.r_addS (by walk_at "len") ?_ | refine L2.Rx.r_lenS (by walk_at "len") ?_ | refine L2.Rx.r_slS (by walk_at "len") ?_
  | refine L2.Rx.r_dnotin ?_ | refine L2.Rx.r_dget ?_ | refine L2.Rx.r_dget1 ?_ | refine L2.Rx.r_dput ?_ | refine L2.Rx.r_dpop1 ?_ | refine L2.Rx.r_isN ?_
  | refine L2.Rx.r_for ?_ | refine L2.Rx.r_ilist ?_ | refine L2.Rx.r_itup ?_
  | refine L2.Rx.r_gcons ?_ | refine L2.Rx.r_gnil ?_ | (refine L2.Rx.r_gtupP (by assumption) (by walk_at "at") ?_)
  | (refine L2.Rx.r_rEq rfl ?_) | (refine L2.Rx.r_rNe rfl ?_)
  | refine L2.Rx.r_rU ?_ | refine L2.Rx.r_max2 ?_ | refine L2.Rx.r_min2 ?_ | refine L2.Rx.r_int1i ?_ | (refine L2.Rx.r_lenh (by walk_at "hp") ?_)
  | (refine L2.Rx.r_ixLh (by walk_at "hp") (by walk_at "at") ?_)
  | (refine L2.Rx.r_setL (by walk_at "hp") (by walk_at "at") ?_))
local macro_rules | `(tactic| walk_at "at") => `(tactic| with_unfolding_all rfl)
local macro_rules | `(tactic| walk_at "rd") => `(tactic| (repeat walk_at "rd1"))
local macro_rules | `(tactic| walk_at "hp") => `(tactic| first
  | assumption
  | exact L2.upd_same
  | (refine Eq.trans (L2.upd_ne ?_) ?_; (focus walk_at "ne"); (focus walk_at "hp"))
  | (refine L2.Rx.Kp.at0 (by assumption) ?_; walk_at "hp")
  | (refine L2.Rx.Kp.at1 (by assumption) ?_ ?_; (focus walk_at "ne"); (focus walk_at "hp")))
local macro_rules | `(tactic| walk_at "ne") => `(tactic| first
  | assumption | exact Ne.symm (by assumption)
  | (refine L2.ne_of_none (H := ?nH) (o := ?nO) ?nh ?nn; (case nn => assumption); (case nh => walk_at "hp"))
  | (refine Ne.symm (L2.ne_of_none (H := ?nH) (o := ?nO) ?nh ?nn); (case nn => assumption); (case nh => walk_at "hp")))
local macro_rules | `(tactic| walk_at "len") => `(tactic| (rw [PySem.sizeLine_eq]; omega))
local macro_rules | `(tactic| walk_at "nin") => `(tactic| first
  | exact List.not_mem_nil
  | (refine L2.Rx.nin1 ?_; walk_at "ne"))
local macro_rules | `(tactic| walk_at "none") => `(tactic| first
  | assumption
  | (refine L2.Rx.Kp.none0 (by assumption) ?_ ?_; (focus walk_at "nin"); (focus walk_at "none")))
namespace L2.Z
open PySem PySem.Spec PyProof.Rows L2.Rx
section
variable {F : Fr} {H H' : Hp} {S T : List Addr} {σ : St} {env env' : List Sl} {ts : Ts} {w : Addr → Nat} {v x y : V} {d d1 d2 d3 d4 d5 : PyData} {ds es : List PyData} {Q : VK} {i j : Nat} {s s1 s2 s3 s4 s5 : Sl} {xs ys : List V} {p : Addr} {t : V × Sl} {K : PySem.W.Frag}
/-! ### loops -/
abbrev Nxt (F : Fr) (ts : Ts) (I : List Sl → Prop) : St → Hp → Prop := fun σ H => ∃ env, I env ∧ Rp F H σ env ts
theorem noAl_cons (h : isAl s = false) (g : noAl ts = true) : noAl ((v, s) :: ts) = true := by
  show (List.all ((v, s) :: ts) fun t => !isAl t.2) = true
  rw [List.all_cons, Bool.and_eq_true]
  exact ⟨by rw [h]; rfl, g⟩
theorem Et.mem : ∀ {ts : Ts}, Et F S H σ w ts → (v, Sl.fz d) ∈ ts → Fz S H v d
  | t :: ts, h, m => by
    rcases List.mem_cons.mp m with e | e
    · subst e
      cases h.1 with | fz f => exact f
    · exact Et.mem h.2 e
theorem Rp.tup (m : (v, Sl.fz (.tuple ds)) ∈ ts) (R : Rp F H σ env ts) : ∃ a xs, v = .ref a ∧ SqT K H a xs ∧ xs.length = ds.length ∧ ∀ (i : Nat) (u : V) (d : PyData), xs[i]? = some u → ds[i]? = some d → Rp F H σ env ((u, .fz d) :: ts) := by
  obtain ⟨S, w, R⟩ := R
  obtain ⟨a, xs, rfl, n, r, f⟩ := (R.tmp.mem m).t
  refine ⟨a, xs, rfl, r.sq, f.len, fun i u d e1 e2 => ?_⟩
  obtain ⟨u', eu, fu⟩ := f.at' e2
  rw [e1] at eu
  cases eu
  exact ⟨S, w, R.push fu⟩
theorem Rp.lst (m : (v, Sl.fz (.list ds)) ∈ ts) (R : Rp F H σ env ts) : ∃ a xs, v = .ref a ∧ SqL K H a xs ∧ xs.length = ds.length ∧ ∀ (i : Nat) (u : V) (d : PyData), xs[i]? = some u → ds[i]? = some d → Rp F H σ env ((u, .fz d) :: ts) := by
  obtain ⟨S, w, R⟩ := R
  obtain ⟨a, xs, rfl, n, r, f⟩ := (R.tmp.mem m).l
  refine ⟨a, xs, rfl, .inl (.inl r), f.len, fun i u d e1 e2 => ?_⟩
  obtain ⟨u', eu, fu⟩ := f.at' e2
  rw [e1] at eu
  cases eu
  exact ⟨S, w, R.push fu⟩
/-- what a walk hands out: n turns; the i-th item is some d with it i d; top: what is held for it -/
structure Ity (F : Fr) (top : Ts) (n : Nat) (it : Nat → Sl → Prop) (J : It) : Prop where
  go : ∀ {i : Nat} {H : Hp} {σ : St} {env : List Sl} {ts : Ts}, (∀ t ∈ top, t ∈ ts) → i < n → Rp F H σ env ts → J.go i H
  yld : ∀ {i : Nat} {H : Hp} {σ : St} {env : List Sl} {ts : Ts} {u : V} {H' : Hp}, (∀ t ∈ top, t ∈ ts) → i < n → Rp F H σ env ts → J.yld i H u H' → ∃ s, it i s ∧ Rp F H' σ env ((u, s) :: ts)
  stop : ∀ {i : Nat} {H : Hp} {σ : St} {env : List Sl} {ts : Ts}, (∀ t ∈ top, t ∈ ts) → n ≤ i → Rp F H σ env ts → J.stop i H
theorem ity_tup (a : Addr) (ds : List PyData) : Ity F [(.ref a, .fz (.tuple ds))] ds.length (fun i s => ∃ d, ds[i]? = some d ∧ s = .fz d) (Itt K a) where
  go := fun {i H σ env ts} m h R => by
    obtain ⟨b, xs, e, sq, l, _⟩ := R.tup (K := K) (m _ (List.mem_cons_self ..))
    cases e
    exact ⟨xs, xs[i]'(by omega), sq, List.getElem?_eq_getElem _⟩
  yld := fun {i H σ env ts u H'} m h R y => by
    obtain ⟨b, xs, e, sq, l, k⟩ := R.tup (K := K) (m _ (List.mem_cons_self ..))
    cases e
    obtain ⟨rfl, y⟩ := y
    exact ⟨_, ⟨ds[i], List.getElem?_eq_getElem _, rfl⟩, k i u _ (y xs sq) (List.getElem?_eq_getElem _)⟩
  stop := fun {i H σ env ts} m h R => by
    obtain ⟨b, xs, e, sq, l, _⟩ := R.tup (K := K) (m _ (List.mem_cons_self ..))
    cases e
    exact ⟨xs, sq, by omega⟩
theorem ity_lst (a : Addr) (ds : List PyData) : Ity F [(.ref a, .fz (.list ds))] ds.length (fun i s => ∃ d, ds[i]? = some d ∧ s = .fz d) (Itl K a) where
  go := fun {i H σ env ts} m h R => by
    obtain ⟨b, xs, e, sq, l, _⟩ := R.lst (K := K) (m _ (List.mem_cons_self ..))
    cases e
    exact ⟨xs, xs[i]'(by omega), sq, List.getElem?_eq_getElem _⟩
  yld := fun {i H σ env ts u H'} m h R y => by
    obtain ⟨b, xs, e, sq, l, k⟩ := R.lst (K := K) (m _ (List.mem_cons_self ..))
    cases e
    obtain ⟨rfl, y⟩ := y
    exact ⟨_, ⟨ds[i], List.getElem?_eq_getElem _, rfl⟩, k i u _ (y xs sq) (List.getElem?_eq_getElem _)⟩
  stop := fun {i H σ env ts} m h R => by
    obtain ⟨b, xs, e, sq, l, _⟩ := R.lst (K := K) (m _ (List.mem_cons_self ..))
    cases e
    exact ⟨xs, sq, by omega⟩
theorem ity_rng (lo : Int) (n : Nat) : Ity F [] n (fun i s => s = .fz (.int (lo + i))) (Itr lo n) where
  go := fun _ h R => h
  yld := fun _ h R y => by
    obtain ⟨rfl, rfl⟩ := y
    exact ⟨_, rfl, R.int _⟩
  stop := fun _ h R => h
theorem z_forG {J : It} {top : Ts} {n : Nat} {it : Nat → Sl → Prop} {g : TG} {tb : TS} {D : Ends} (Y : Ity F top n it J) (mt : ∀ t ∈ top, t ∈ ts) (R : Rp F H σ env ts) (I : Nat → List Sl → Prop) (h0 : I 0 env)
    (hs : ∀ (i : Nat) (s : Sl) (env' : List Sl) (σ' : St) (H' : Hp) (v : V), i < n → it i s → I i env' → Rp F H' σ' env' ((v, s) :: ts) → g v σ' H' fun σ2 H2 => tb ⟨Nxt F ts (I (i + 1)), D.rt, D.nx, Nxt F ts (I (i + 1))⟩ σ2 H2)
    (hd : ∀ (env' : List Sl) (σ' : St) (H' : Hp), I n env' → Rp F H' σ' env' ts → D.nx σ' H') :
    ∃ W : Nat → Nat → St → Hp → Prop, (∃ m, W 0 m σ H) ∧ ∀ i m σ H, W i m σ H →
      (J.stop i H ∧ D.nx σ H) ∨ (J.go i H ∧ ∃ N : St → Hp → Prop, (∀ σ' H', N σ' H' → ∃ m', m' < m ∧ W (i + 1) m' σ' H') ∧ ∀ x H', J.yld i H x H' → g x σ H' fun σ2 H2 => tb { D with nx := N, ct := N, bk := D.nx } σ2 H2) := by
  refine ⟨fun i m σ' H' => m = n - i ∧ i ≤ n ∧ Nxt F ts (I i) σ' H', ⟨n, by simp, Nat.zero_le _, env, h0, R⟩, ?_⟩
  rintro i m σ' H' ⟨rfl, hi, env', hI, R'⟩
  by_cases hlt : i < n
  · refine .inr ⟨Y.go mt hlt R', Nxt F ts (I (i + 1)), fun σ2 H2 p => ⟨n - (i + 1), by omega, rfl, hlt, p⟩, fun u H2 y => ?_⟩
    obtain ⟨s, hd, R2⟩ := Y.yld mt hlt R' y
    exact hs i s env' σ' H2 u hlt hd hI R2
  · have e : i = n := by omega
    subst e
    exact .inl ⟨Y.stop mt (Nat.le_refl _) R', hd env' σ' H' hI R'⟩
theorem Rp.tupA (R : Rp F H σ env ((v, .fz (.tuple ds)) :: ts)) : ∃ a, v = .ref a ∧ ∃ xs, SqT K H a xs := by
  obtain ⟨a, xs, e, sq, _⟩ := R.tup (K := K) (List.mem_cons_self ..)
  exact ⟨a, e, xs, sq⟩
theorem Rp.lstA (R : Rp F H σ env ((v, .fz (.list ds)) :: ts)) : ∃ a, v = .ref a ∧ ∃ xs, SqL K H a xs := by
  obtain ⟨a, xs, e, sq, _⟩ := R.lst (K := K) (List.mem_cons_self ..)
  exact ⟨a, e, xs, sq⟩
/-- for .. in a tuple -/
theorem z_forT {g : TG} {tb : TS} {D : Ends} (R : Rp F H σ env ((x, .fz (.tuple ds)) :: ts)) (I : Nat → List Sl → Prop) (h0 : I 0 env)
    (hs : ∀ (i : Nat) (d : PyData) (env' : List Sl) (σ' : St) (H' : Hp) (v : V), i < ds.length → ds[i]? = some d → I i env' → Rp F H' σ' env' ((v, .fz d) :: (x, .fz (.tuple ds)) :: ts) → g v σ' H' fun σ2 H2 => tb ⟨Nxt F ((x, .fz (.tuple ds)) :: ts) (I (i + 1)), D.rt, D.nx, Nxt F ((x, .fz (.tuple ds)) :: ts) (I (i + 1))⟩ σ2 H2)
    (hd : ∀ (env' : List Sl) (σ' : St) (H' : Hp), I ds.length env' → Rp F H' σ' env' ts → D.nx σ' H') :
    ∃ a, x = .ref a ∧ (∃ xs, SqT K H a xs) ∧ ∃ W : Nat → Nat → St → Hp → Prop, (∃ m, W 0 m σ H) ∧ ∀ i m σ H, W i m σ H →
      ((Itt K a).stop i H ∧ D.nx σ H) ∨ ((Itt K a).go i H ∧ ∃ N : St → Hp → Prop, (∀ σ' H', N σ' H' → ∃ m', m' < m ∧ W (i + 1) m' σ' H') ∧ ∀ x H', (Itt K a).yld i H x H' → g x σ H' fun σ2 H2 => tb { D with nx := N, ct := N, bk := D.nx } σ2 H2) := by
  obtain ⟨a, rfl, sq⟩ := R.tupA (K := K)
  exact ⟨a, rfl, sq, z_forG (ity_tup a ds) (fun t m => by rw [List.mem_singleton.mp m]; exact List.mem_cons_self ..) R I h0 (fun i s env' σ' H' v hi ⟨d, hd, e⟩ hI R' => by subst e; exact hs i d env' σ' H' v hi hd hI R') (fun env' σ' H' hI R' => hd env' σ' H' hI R'.pop)⟩
theorem z_forL {g : TG} {tb : TS} {D : Ends} (R : Rp F H σ env ((x, s) :: ts)) (e : asD s = some (.list ds)) (I : Nat → List Sl → Prop) (h0 : I 0 env)
    (hs : ∀ (i : Nat) (d : PyData) (env' : List Sl) (σ' : St) (H' : Hp) (v : V), i < ds.length → ds[i]? = some d → I i env' → Rp F H' σ' env' ((v, .fz d) :: (x, .fz (.list ds)) :: ts) → g v σ' H' fun σ2 H2 => tb ⟨Nxt F ((x, .fz (.list ds)) :: ts) (I (i + 1)), D.rt, D.nx, Nxt F ((x, .fz (.list ds)) :: ts) (I (i + 1))⟩ σ2 H2)
    (hd : ∀ (env' : List Sl) (σ' : St) (H' : Hp), I ds.length env' → Rp F H' σ' env' ts → D.nx σ' H') :
    ∃ a, x = .ref a ∧ (∃ xs, SqL K H a xs) ∧ ∃ W : Nat → Nat → St → Hp → Prop, (∃ m, W 0 m σ H) ∧ ∀ i m σ H, W i m σ H →
      ((Itl K a).stop i H ∧ D.nx σ H) ∨ ((Itl K a).go i H ∧ ∃ N : St → Hp → Prop, (∀ σ' H', N σ' H' → ∃ m', m' < m ∧ W (i + 1) m' σ' H') ∧ ∀ x H', (Itl K a).yld i H x H' → g x σ H' fun σ2 H2 => tb { D with nx := N, ct := N, bk := D.nx } σ2 H2) := by
  have R := R.fr [] e
  obtain ⟨a, rfl, sq⟩ := R.lstA (K := K)
  exact ⟨a, rfl, sq, z_forG (ity_lst a ds) (fun t m => by rw [List.mem_singleton.mp m]; exact List.mem_cons_self ..) R I h0 (fun i s env' σ' H' v hi ⟨d, hd, e⟩ hI R' => by subst e; exact hs i d env' σ' H' v hi hd hI R') (fun env' σ' H' hI R' => hd env' σ' H' hI R'.pop)⟩
/-- for .. in range(k) -/
theorem z_forR {g : TG} {tb : TS} {D : Ends} {k : Int} (R : Rp F H σ env ((x, .fz (.int k)) :: ts)) (b0 : -(2 ^ 62) ≤ k) (b1 : k < 2 ^ 62) (I : Nat → List Sl → Prop) (h0 : I 0 env)
    (hs : ∀ (i : Nat) (env' : List Sl) (σ' : St) (H' : Hp) (v : V), i < k.toNat → I i env' → Rp F H' σ' env' ((v, .fz (.int i)) :: ts) → g v σ' H' fun σ2 H2 => tb ⟨Nxt F ts (I (i + 1)), D.rt, D.nx, Nxt F ts (I (i + 1))⟩ σ2 H2)
    (hd : ∀ (env' : List Sl) (σ' : St) (H' : Hp), I k.toNat env' → Rp F H' σ' env' ts → D.nx σ' H') :
    ∃ j : Int, [x] = [V.int j] ∧ -(2 ^ 62) ≤ j ∧ j < 2 ^ 62 ∧ ∃ W : Nat → Nat → St → Hp → Prop, (∃ m, W 0 m σ H) ∧ ∀ i m σ H, W i m σ H →
      ((Itr 0 j.toNat).stop i H ∧ D.nx σ H) ∨ ((Itr 0 j.toNat).go i H ∧ ∃ N : St → Hp → Prop, (∀ σ' H', N σ' H' → ∃ m', m' < m ∧ W (i + 1) m' σ' H') ∧ ∀ x H', (Itr 0 j.toNat).yld i H x H' → g x σ H' fun σ2 H2 => tb { D with nx := N, ct := N, bk := D.nx } σ2 H2) := by
  obtain ⟨S, w, R⟩ := R
  refine ⟨k, by rw [R.top.i], b0, b1, z_forG (top := []) (ity_rng 0 k.toNat) (fun _ m => nomatch m) ⟨S, w, R.pop⟩ I h0 (fun i d env' σ' H' v hi hd hI R' => ?_) hd⟩
  subst hd
  rw [Int.zero_add] at R'
  exact hs i env' σ' H' v hi hI R'
/-- while -/
theorem z_while {c : TT} {tb : TS} {D : Ends} (R : Rp F H σ env ts) (I : Nat → List Sl → Prop) (m : Nat) (h0 : I m env)
    (hs : ∀ (m : Nat) (env' : List Sl) (σ' : St) (H' : Hp), I m env' → Rp F H' σ' env' ts → c σ' H' fun b H1 => if b = true then ∃ N : St → Hp → Prop, (∀ σ' H', N σ' H' → ∃ m', m' < m ∧ Nxt F ts (I m') σ' H') ∧ tb { D with nx := N, ct := N, bk := D.nx } σ' H1 else D.nx σ' H1) : tWhile c tb D σ H := by
  refine ⟨fun m σ' H' => Nxt F ts (I m) σ' H', ⟨m, env, h0, R⟩, ?_⟩
  rintro m σ' H' ⟨env', hI, R'⟩
  exact hs m env' σ' H' hI R'
theorem z_again {tb : TS} {D : Ends} {I : Nat → List Sl → Prop} {m : Nat} (h : tb ⟨Nxt F ts (fun e => ∃ m', m' < m ∧ I m' e), D.rt, D.nx, Nxt F ts (fun e => ∃ m', m' < m ∧ I m' e)⟩ σ H) :
    ∃ N : St → Hp → Prop, (∀ σ' H', N σ' H' → ∃ m', m' < m ∧ Nxt F ts (I m') σ' H') ∧ tb { D with nx := N, ct := N, bk := D.nx } σ H :=
  ⟨_, fun σ' H' ⟨env, ⟨m', l, hI⟩, R⟩ => ⟨m', l, env, hI, R⟩, h⟩
/-! ### comprehensions -/
def jnk (env : List Sl) (vs : List Nat) : Bool := vs.all fun i => match env[i]? with
  | some .junk => true
  | none => true
  | _ => false
def jk (env : List Sl) : List Nat → List Sl
  | [] => env
  | v :: vs => (jk env vs).set v .junk
theorem jk_len (env : List Sl) : ∀ vs, (jk env vs).length = env.length
  | [] => rfl
  | v :: vs => by rw [jk, List.length_set, jk_len env vs]
theorem jk_at {env : List Sl} {i : Nat} {s : Sl} : ∀ {vs : List Nat}, (jk env vs)[i]? = some s → env[i]? = some s ∨ s = .junk
  | [], h => .inl h
  | v :: vs, h => by
    rw [jk] at h
    by_cases hv : v = i
    · subst hv
      by_cases hl : v < (jk env vs).length
      · rw [List.getElem?_set_self hl] at h
        cases h
        exact .inr rfl
      · rw [List.getElem?_eq_none (by rw [List.length_set]; omega)] at h
        cases h
    · rw [List.getElem?_set_ne hv] at h
      exact jk_at h
theorem jk_mem {env : List Sl} {i : Nat} {s : Sl} : ∀ {vs : List Nat}, i ∈ vs → (jk env vs)[i]? = some s → s = .junk
  | v :: vs, m, h => by
    rw [jk] at h
    by_cases hv : v = i
    · subst hv
      by_cases hl : v < (jk env vs).length
      · rw [List.getElem?_set_self hl] at h
        cases h
        rfl
      · rw [List.getElem?_eq_none (by rw [List.length_set]; omega)] at h
        cases h
    · rw [List.getElem?_set_ne hv] at h
      exact jk_mem ((List.mem_cons.mp m).resolve_left fun z => hv z.symm) h
theorem jnk_of {env : List Sl} {vs : List Nat} : jnk env vs = true ↔ ∀ i ∈ vs, ∀ s, env[i]? = some s → s = .junk := by
  unfold jnk
  rw [List.all_eq_true]
  refine ⟨fun h i m s e => ?_, fun h i m => ?_⟩
  · have := h i m
    rw [e] at this
    cases s <;> first | rfl | cases this
  · cases e : env[i]? with
    | none => rfl
    | some s => rw [h i m s e]
theorem jnk_jk (env : List Sl) (vs : List Nat) : jnk (jk env vs) vs = true := jnk_of.mpr fun i m s e => jk_mem m e
theorem wipe_in {σ : St} {i : Nat} : ∀ {vs : List Nat}, i ∈ vs → i < σ.length → (wipe σ vs)[i]? = some none
  | v :: vs, m, l => by
    rw [wipe]
    by_cases hv : v = i
    · subst hv
      rw [List.getElem?_set_self (by rw [wipe_length]; exact l)]
    · rw [List.getElem?_set_ne hv]
      exact wipe_in ((List.mem_cons.mp m).resolve_left fun z => hv z.symm) l
theorem Rs.wipe2 {σ2 : St} {vs : List Nat} (R : Rs F S H σ env ts w) (e : wipe σ2 vs = wipe σ vs) (n : jnk env vs = true) (ht : noAl ts = true) : Rs F S H σ2 env ts w := by
  have le : σ2.length = σ.length := by rw [← wipe_length σ2 vs, e, wipe_length]
  refine ⟨le.trans R.len, R.small, fun i s es => ?_, R.nal, R.tmp.move (fun a o n e => ⟨n, e⟩) (fun a as o _ _ => ⟨rfl, as, rfl⟩) (fun t m i v z => (noAl_at ht m z).elim), R.sub, R.live0, R.mtb, R.kept, R.foot, R.lk⟩
  obtain ⟨x, ex, sx⟩ := R.slots i s es
  by_cases m : i ∈ vs
  · rw [jnk_of.mp n i m s es]
    have hl : i < σ2.length := by rw [le]; exact (List.getElem?_eq_some_iff.mp ex).1
    exact ⟨σ2[i], List.getElem?_eq_getElem hl, .junk _⟩
  · have q : σ2[i]? = σ[i]? := by rw [← wipe_out (vs := vs) m, e, wipe_out m]
    refine ⟨x, q.trans ex, sx.move (fun a o n e => ⟨n, e⟩) (fun a as o q => ⟨rfl, as, q⟩) (fun k v z => ?_)⟩
    rw [z] at es
    exact (R.nal i k es).elim
theorem wipe_wipe (σ : St) (vs : List Nat) : wipe (wipe σ vs) vs = wipe σ vs := by
  refine List.ext_getElem? fun i => ?_
  by_cases m : i ∈ vs
  · by_cases l : i < σ.length
    · rw [wipe_in m (by rw [wipe_length]; exact l), wipe_in m l]
    · rw [List.getElem?_eq_none (by rw [wipe_length, wipe_length]; omega), List.getElem?_eq_none (by rw [wipe_length]; omega)]
  · rw [wipe_out m]
theorem wipe_set {σ : St} {vs : List Nat} {i : Nat} {x : Option V} (m : i ∈ vs) : wipe (σ.set i x) vs = wipe σ vs := by
  refine List.ext_getElem? fun j => ?_
  by_cases mj : j ∈ vs
  · by_cases l : j < σ.length
    · rw [wipe_in mj (by rw [List.length_set]; exact l), wipe_in mj l]
    · rw [List.getElem?_eq_none (by rw [wipe_length, List.length_set]; omega), List.getElem?_eq_none (by rw [wipe_length]; omega)]
  · rw [wipe_out mj, wipe_out mj, List.getElem?_set_ne (fun z => mj (by rw [← z]; exact m))]
theorem Rs.jk {vs : List Nat} (R : Rs F S H σ env ts w) : Rs F S H σ (jk env vs) ts w := R.weak (jk_len _ _) fun i s e => jk_at e
/-- the target of a comprehension -/
theorem z_lcName {P : St → Hp → Prop} {vs : List Nat} (R : Rp F H (wipe σ vs) env ((v, s) :: ts)) (m : i ∈ vs) (hi : Nat.blt i env.length = true) (hs : isAl s = false) (ht : noAl ts = true) (he : env.set i s = env')
    (h : ∀ σ2, wipe σ2 vs = wipe σ vs → Rp F H σ2 env' ts → P σ2 H) : gName i v (wipe σ vs) H fun σ2 H2 => wipe σ2 vs = wipe σ vs ∧ P σ2 H2 := by
  refine z_asgE R hi hs ht he fun R => ?_
  have e : wipe ((wipe σ vs).set i (some v)) vs = wipe σ vs := by rw [wipe_set m, wipe_wipe]
  exact ⟨e, h _ e R⟩
theorem z_lcPair {P : St → Hp → Prop} {vs : List Nat} {env2 : List Sl} (R : Rp F H (wipe σ vs) env ((v, .fz (.tuple [d1, d2])) :: ts)) (m : i ∈ vs) (mj : j ∈ vs) (hi : Nat.blt i env.length = true) (hj : Nat.blt j env.length = true) (ht : noAl ts = true) (he : env.set i (.fz d1) = env') (he2 : env'.set j (.fz d2) = env2)
    (h : ∀ σ2, wipe σ2 vs = wipe σ vs → Rp F H σ2 env2 ts → P σ2 H) : gTup K 2 (gCons (gName i) (gCons (gName j) gNil)) v (wipe σ vs) H fun σ2 H2 => wipe σ2 vs = wipe σ vs ∧ P σ2 H2 := by
  refine z_gtup2 R fun a b R => ?_
  refine r_gcons (z_asgE R hi rfl (noAl_cons rfl ht) he fun R => ?_)
  refine r_gcons (z_asgE R (by rw [← he, List.length_set]; exact hj) rfl ht he2 fun R => ?_)
  have e : wipe (((wipe σ vs).set i (some a)).set j (some b)) vs = wipe σ vs := by rw [wipe_set mj, wipe_set m, wipe_wipe]
  exact r_gnil ⟨e, h _ e R⟩
/-- a pair that a walk makes: taken apart -/
theorem z_gtupP {t : TGs} {Q : St → Hp → Prop} (R : Rp F H σ env ((x, .prt d1 d2) :: ts)) (h : ∀ a b, Rp F H σ env ((a, .fz d1) :: (b, .fz d2) :: ts) → t [a, b] σ H Q) : gTup K 2 t x σ H Q := by
  obtain ⟨S, w, R⟩ := R
  have := R.tmp.1
  cases this with
  | prt n r f1 f2 => exact ⟨_, _, rfl, .inl (.inl r), rfl, h _ _ ⟨S, w, (R.pop.push f2).push f1⟩⟩
theorem z_lcPairP {P : St → Hp → Prop} {vs : List Nat} {env2 : List Sl} (R : Rp F H (wipe σ vs) env ((v, .prt d1 d2) :: ts)) (m : i ∈ vs) (mj : j ∈ vs) (hi : Nat.blt i env.length = true) (hj : Nat.blt j env.length = true) (ht : noAl ts = true) (he : env.set i (.fz d1) = env') (he2 : env'.set j (.fz d2) = env2)
    (h : ∀ σ2, wipe σ2 vs = wipe σ vs → Rp F H σ2 env2 ts → P σ2 H) : gTup K 2 (gCons (gName i) (gCons (gName j) gNil)) v (wipe σ vs) H fun σ2 H2 => wipe σ2 vs = wipe σ vs ∧ P σ2 H2 := by
  refine z_gtupP R fun a b R => ?_
  refine r_gcons (z_asgE R hi rfl (noAl_cons rfl ht) he fun R => ?_)
  refine r_gcons (z_asgE R (by rw [← he, List.length_set]; exact hj) rfl ht he2 fun R => ?_)
  have e : wipe (((wipe σ vs).set i (some a)).set j (some b)) vs = wipe σ vs := by rw [wipe_set mj, wipe_set m, wipe_wipe]
  exact r_gnil ⟨e, h _ e R⟩
/-- what a turn of a comprehension reaches -/
def NxL (F : Fr) (ts : Ts) (vs : List Nat) (σ : St) (D : Addr) (i : Nat) (I : List Sl → List PyData → Prop) (H : Hp) : Prop :=
  ∃ env acc, jnk env vs = true ∧ acc.length ≤ i ∧ I env acc ∧ Rp F H (wipe σ vs) env ((.ref D, .own acc) :: ts)
theorem z_lcAdd {vs : List Nat} {σ2 : St} {D : Addr} {n : Nat} {acc : List PyData} {I : List Sl → List PyData → Prop} (R : Rp F H σ2 env ((y, s) :: (.ref D, .own acc) :: ts)) (e : asD s = some d) (hw : wipe σ2 vs = wipe σ vs) (l : acc.length ≤ n) (ln : n < 1000000) (ht : noAl ts = true) (hI : I (jk env vs) (acc ++ [d])) :
    ∃ acc, H D = some (.lst acc) ∧ acc.length < sizeLine ∧ NxL F ts vs σ D (n + 1) I (upd H D (.lst (acc ++ [y]))) := by
  obtain ⟨S, w, R⟩ := R.fr [] e
  have fy := R.top
  obtain ⟨a, xs, ea, eh, fa, k⟩ := R.pop.updTop (es := acc ++ [d])
  cases ea
  refine ⟨xs, eh, by rw [fa.len, sizeLine_eq]; omega, jk env vs, acc ++ [d], jnk_jk _ _, by rw [List.length_append]; simpa using l, hI, ?_⟩
  have R2 := (k _ _ (fa.append (.cons fy .nil))).jk (vs := vs)
  exact ⟨S, w, R2.wipe2 (vs := vs) (by rw [wipe_wipe, hw]) (jnk_jk _ _) (noAl_cons rfl ht)⟩
theorem z_lcSkip {vs : List Nat} {σ2 : St} {D : Addr} {n : Nat} {acc : List PyData} {I : List Sl → List PyData → Prop} (R : Rp F H σ2 env ((.ref D, .own acc) :: ts)) (hw : wipe σ2 vs = wipe σ vs) (l : acc.length ≤ n) (ht : noAl ts = true) (hI : I (jk env vs) acc) :
    NxL F ts vs σ D (n + 1) I H := by
  obtain ⟨S, w, R⟩ := R
  exact ⟨jk env vs, acc, jnk_jk _ _, by omega, hI, S, w, (R.jk (vs := vs)).wipe2 (by rw [wipe_wipe, hw]) (jnk_jk _ _) (noAl_cons rfl ht)⟩
/-- what lies under the top is dropped -/
theorem Rs.drop2 (R : Rs F S H σ env ((v, s) :: t :: ts) w) (ht : noAl ts = true) : ∃ w', Rs F S H σ env ((v, s) :: ts) w' := by
  refine ⟨fun a => if w a = 1000 + ts.length + 1 then 1000 + ts.length else if w a = 1000 + ts.length then 1000 + ts.length + 1 else w a, ?_⟩
  have m : ∀ a o, a ∉ S → H a = some o → a ∉ S ∧ H a = some o := fun a o n e => ⟨n, e⟩
  have hsm := R.small
  refine ⟨R.len, R.small, fun i s' e => ?_, R.nal, ⟨R.tmp.1.move m (fun a as o q => ⟨rfl, as, ?_⟩) (fun _ _ _ h => h), R.tmp.2.2.move m (fun a as o l u => ⟨rfl, as, ?_⟩) (fun _ _ _ _ _ h => h)⟩, R.sub, R.live0, R.mtb, R.kept, R.foot, R.lk⟩
  · obtain ⟨x, ex, sx⟩ := R.slots i s' e
    have hi := lt_of_get e
    refine ⟨x, ex, sx.move m (fun a as o q => ⟨rfl, as, ?_⟩) (fun _ _ _ h => h)⟩
    show (if w a = 1000 + ts.length + 1 then 1000 + ts.length else if w a = 1000 + ts.length then 1000 + ts.length + 1 else w a) = i
    rw [if_neg (by omega), if_neg (by omega)]
    exact q
  · rw [List.length_cons] at q
    show (if w a = 1000 + ts.length + 1 then 1000 + ts.length else if w a = 1000 + ts.length then 1000 + ts.length + 1 else w a) = 1000 + ts.length
    rw [if_pos (by omega)]
  · show (if w a = 1000 + ts.length + 1 then 1000 + ts.length else if w a = 1000 + ts.length then 1000 + ts.length + 1 else w a) = w a
    rw [if_neg (by omega), if_neg (by omega)]
theorem Rp.drop2 (R : Rp F H σ env ((v, s) :: t :: ts)) (ht : noAl ts = true) : Rp F H σ env ((v, s) :: ts) := by
  obtain ⟨S, w, R⟩ := R
  obtain ⟨w', R⟩ := R.drop2 ht
  exact ⟨S, w', R⟩
/-- a comprehension over any walk -/
theorem z_lcG {Qd : Addr → Hp → Prop} {J : It} {top : Ts} {n : Nat} {it : Nat → Sl → Prop} {g : TG} {tt : TT} {te : TE} {vs : List Nat} (Y : Ity F top n it J) (mt : ∀ t ∈ top, t ∈ ts) (R : Rp F H σ env ts) (jn : jnk env vs = true) (ht : noAl ts = true) (I : Nat → List Sl → List PyData → Prop) (h0 : I 0 env [])
    (hs : ∀ (i : Nat) (s : Sl) (env' : List Sl) (acc : List PyData) (H' : Hp) (D : Addr) (v : V), i < n → it i s → I i env' acc → acc.length ≤ i → jnk env' vs = true → Rp F H' (wipe σ vs) env' ((v, s) :: (.ref D, .own acc) :: ts) → g v (wipe σ vs) H' fun σ2 H2 => wipe σ2 vs = wipe σ vs ∧ tt σ2 H2 fun b H3 =>
      if b = true then te σ2 H3 fun y H4 => ∃ acc, H4 D = some (.lst acc) ∧ acc.length < sizeLine ∧ NxL F ts vs σ D (i + 1) (I (i + 1)) (upd H4 D (.lst (acc ++ [y]))) else NxL F ts vs σ D (i + 1) (I (i + 1)) H3)
    (hd : ∀ (env' : List Sl) (acc : List PyData) (H' : Hp) (D : Addr), I n env' acc → acc.length ≤ n → Rp F H' σ env' ((.ref D, .own acc) :: ts) → Qd D H') :
    ∀ D, H D = none → ∃ W : Nat → Nat → Hp → Prop, (∃ m, W 0 m (upd H D (.lst []))) ∧ ∀ i m H, W i m H →
      (J.stop i H ∧ Qd D H) ∨ (J.go i H ∧ ∃ Nx : Hp → Prop, (∀ H', Nx H' → ∃ m', m' < m ∧ W (i + 1) m' H') ∧ ∀ x H', J.yld i H x H' → g x (wipe σ vs) H' fun σ2 H2 => wipe σ2 vs = wipe σ vs ∧ tt σ2 H2 fun b H3 =>
        if b = true then te σ2 H3 fun y H4 => ∃ acc, H4 D = some (.lst acc) ∧ acc.length < sizeLine ∧ Nx (upd H4 D (.lst (acc ++ [y]))) else Nx H3) := by
  intro D nD
  obtain ⟨S, w, R⟩ := R
  refine ⟨fun i m H' => m = n - i ∧ i ≤ n ∧ NxL F ts vs σ D i (I i) H', ⟨n, by simp, Nat.zero_le _, env, [], jn, Nat.le_refl _, h0, _, _, (R.newL nD .nil).wipe2 (wipe_wipe _ _) jn (noAl_cons rfl ht)⟩, ?_⟩
  rintro i m H' ⟨rfl, hi, env', acc, jn', la, hI, R'⟩
  have mt' : ∀ t ∈ top, t ∈ (V.ref D, Sl.own acc) :: ts := fun t m => List.mem_cons_of_mem _ (mt t m)
  by_cases hlt : i < n
  · refine .inr ⟨Y.go mt' hlt R', NxL F ts vs σ D (i + 1) (I (i + 1)), fun H2 p => ⟨n - (i + 1), by omega, rfl, hlt, p⟩, fun u H2 y => ?_⟩
    obtain ⟨s, hd, R2⟩ := Y.yld mt' hlt R' y
    exact hs i s env' acc H2 D u hlt hd hI la jn' R2
  · have e : i = n := by omega
    subst e
    refine .inl ⟨Y.stop mt' (Nat.le_refl _) R', hd env' acc H' D hI la ?_⟩
    obtain ⟨S, w, R'⟩ := R'
    exact ⟨S, w, R'.wipe2 (wipe_wipe _ _).symm jn' (noAl_cons rfl ht)⟩
theorem z_lcT {Qd : Addr → Hp → Prop} {g : TG} {tt : TT} {te : TE} {vs : List Nat} (R : Rp F H σ env ((x, .fz (.tuple ds)) :: ts)) (jn : jnk env vs = true) (ht : noAl ts = true) (I : Nat → List Sl → List PyData → Prop) (h0 : I 0 env [])
    (hs : ∀ (i : Nat) (d : PyData) (env' : List Sl) (acc : List PyData) (H' : Hp) (D : Addr) (v : V), i < ds.length → ds[i]? = some d → I i env' acc → acc.length ≤ i → jnk env' vs = true → Rp F H' (wipe σ vs) env' ((v, .fz d) :: (.ref D, .own acc) :: (x, .fz (.tuple ds)) :: ts) → g v (wipe σ vs) H' fun σ2 H2 => wipe σ2 vs = wipe σ vs ∧ tt σ2 H2 fun b H3 =>
      if b = true then te σ2 H3 fun y H4 => ∃ acc, H4 D = some (.lst acc) ∧ acc.length < sizeLine ∧ NxL F ((x, .fz (.tuple ds)) :: ts) vs σ D (i + 1) (I (i + 1)) (upd H4 D (.lst (acc ++ [y]))) else NxL F ((x, .fz (.tuple ds)) :: ts) vs σ D (i + 1) (I (i + 1)) H3)
    (hd : ∀ (env' : List Sl) (acc : List PyData) (H' : Hp) (D : Addr), I ds.length env' acc → acc.length ≤ ds.length → Rp F H' σ env' ((.ref D, .own acc) :: ts) → Qd D H') :
    ∃ a, x = .ref a ∧ (∃ xs, SqT K H a xs) ∧ ∀ D, H D = none → ∃ W : Nat → Nat → Hp → Prop, (∃ m, W 0 m (upd H D (.lst []))) ∧ ∀ i m H, W i m H →
      ((Itt K a).stop i H ∧ Qd D H) ∨ ((Itt K a).go i H ∧ ∃ Nx : Hp → Prop, (∀ H', Nx H' → ∃ m', m' < m ∧ W (i + 1) m' H') ∧ ∀ x H', (Itt K a).yld i H x H' → g x (wipe σ vs) H' fun σ2 H2 => wipe σ2 vs = wipe σ vs ∧ tt σ2 H2 fun b H3 =>
        if b = true then te σ2 H3 fun y H4 => ∃ acc, H4 D = some (.lst acc) ∧ acc.length < sizeLine ∧ Nx (upd H4 D (.lst (acc ++ [y]))) else Nx H3) := by
  obtain ⟨a, rfl, sq⟩ := R.tupA (K := K)
  refine ⟨a, rfl, sq, z_lcG (ity_tup a ds) (fun t m => by rw [List.mem_singleton.mp m]; exact List.mem_cons_self ..) R jn (noAl_cons rfl ht) I h0 (fun i s env' acc H' D v hi ⟨d, hd, e⟩ hI la jn' R' => by subst e; exact hs i d env' acc H' D v hi hd hI la jn' R') (fun env' acc H' D hI la R' => hd env' acc H' _ hI la (R'.drop2 ht))⟩
theorem z_lcL {Qd : Addr → Hp → Prop} {g : TG} {tt : TT} {te : TE} {vs : List Nat} (R : Rp F H σ env ((x, s) :: ts)) (e : asD s = some (.list ds)) (jn : jnk env vs = true) (ht : noAl ts = true) (I : Nat → List Sl → List PyData → Prop) (h0 : I 0 env [])
    (hs : ∀ (i : Nat) (d : PyData) (env' : List Sl) (acc : List PyData) (H' : Hp) (D : Addr) (v : V), i < ds.length → ds[i]? = some d → I i env' acc → acc.length ≤ i → jnk env' vs = true → Rp F H' (wipe σ vs) env' ((v, .fz d) :: (.ref D, .own acc) :: (x, .fz (.list ds)) :: ts) → g v (wipe σ vs) H' fun σ2 H2 => wipe σ2 vs = wipe σ vs ∧ tt σ2 H2 fun b H3 =>
      if b = true then te σ2 H3 fun y H4 => ∃ acc, H4 D = some (.lst acc) ∧ acc.length < sizeLine ∧ NxL F ((x, .fz (.list ds)) :: ts) vs σ D (i + 1) (I (i + 1)) (upd H4 D (.lst (acc ++ [y]))) else NxL F ((x, .fz (.list ds)) :: ts) vs σ D (i + 1) (I (i + 1)) H3)
    (hd : ∀ (env' : List Sl) (acc : List PyData) (H' : Hp) (D : Addr), I ds.length env' acc → acc.length ≤ ds.length → Rp F H' σ env' ((.ref D, .own acc) :: ts) → Qd D H') :
    ∃ a, x = .ref a ∧ (∃ xs, SqL K H a xs) ∧ ∀ D, H D = none → ∃ W : Nat → Nat → Hp → Prop, (∃ m, W 0 m (upd H D (.lst []))) ∧ ∀ i m H, W i m H →
      ((Itl K a).stop i H ∧ Qd D H) ∨ ((Itl K a).go i H ∧ ∃ Nx : Hp → Prop, (∀ H', Nx H' → ∃ m', m' < m ∧ W (i + 1) m' H') ∧ ∀ x H', (Itl K a).yld i H x H' → g x (wipe σ vs) H' fun σ2 H2 => wipe σ2 vs = wipe σ vs ∧ tt σ2 H2 fun b H3 =>
        if b = true then te σ2 H3 fun y H4 => ∃ acc, H4 D = some (.lst acc) ∧ acc.length < sizeLine ∧ Nx (upd H4 D (.lst (acc ++ [y]))) else Nx H3) := by
  have R := R.fr [] e
  obtain ⟨a, rfl, sq⟩ := R.lstA (K := K)
  exact ⟨a, rfl, sq, z_lcG (ity_lst a ds) (fun t m => by rw [List.mem_singleton.mp m]; exact List.mem_cons_self ..) R jn (noAl_cons rfl ht) I h0 (fun i s env' acc H' D v hi ⟨d, hd, e⟩ hI la jn' R' => by subst e; exact hs i d env' acc H' D v hi hd hI la jn' R') (fun env' acc H' D hI la R' => hd env' acc H' _ hI la (R'.drop2 ht))⟩
theorem z_lcR {Qd : Addr → Hp → Prop} {g : TG} {tt : TT} {te : TE} {vs : List Nat} {k : Int} (R : Rp F H σ env ((x, .fz (.int k)) :: ts)) (b0 : -(2 ^ 62) ≤ k) (b1 : k < 2 ^ 62) (jn : jnk env vs = true) (ht : noAl ts = true) (I : Nat → List Sl → List PyData → Prop) (h0 : I 0 env [])
    (hs : ∀ (i : Nat) (env' : List Sl) (acc : List PyData) (H' : Hp) (D : Addr) (v : V), i < k.toNat → I i env' acc → acc.length ≤ i → jnk env' vs = true → Rp F H' (wipe σ vs) env' ((v, .fz (.int i)) :: (.ref D, .own acc) :: ts) → g v (wipe σ vs) H' fun σ2 H2 => wipe σ2 vs = wipe σ vs ∧ tt σ2 H2 fun b H3 =>
      if b = true then te σ2 H3 fun y H4 => ∃ acc, H4 D = some (.lst acc) ∧ acc.length < sizeLine ∧ NxL F ts vs σ D (i + 1) (I (i + 1)) (upd H4 D (.lst (acc ++ [y]))) else NxL F ts vs σ D (i + 1) (I (i + 1)) H3)
    (hd : ∀ (env' : List Sl) (acc : List PyData) (H' : Hp) (D : Addr), I k.toNat env' acc → acc.length ≤ k.toNat → Rp F H' σ env' ((.ref D, .own acc) :: ts) → Qd D H') :
    ∃ j : Int, [x] = [V.int j] ∧ -(2 ^ 62) ≤ j ∧ j < 2 ^ 62 ∧ ∀ D, H D = none → ∃ W : Nat → Nat → Hp → Prop, (∃ m, W 0 m (upd H D (.lst []))) ∧ ∀ i m H, W i m H →
      ((Itr 0 j.toNat).stop i H ∧ Qd D H) ∨ ((Itr 0 j.toNat).go i H ∧ ∃ Nx : Hp → Prop, (∀ H', Nx H' → ∃ m', m' < m ∧ W (i + 1) m' H') ∧ ∀ x H', (Itr 0 j.toNat).yld i H x H' → g x (wipe σ vs) H' fun σ2 H2 => wipe σ2 vs = wipe σ vs ∧ tt σ2 H2 fun b H3 =>
        if b = true then te σ2 H3 fun y H4 => ∃ acc, H4 D = some (.lst acc) ∧ acc.length < sizeLine ∧ Nx (upd H4 D (.lst (acc ++ [y]))) else Nx H3) := by
  obtain ⟨S, w, R⟩ := R
  refine ⟨k, by rw [R.top.i], b0, b1, z_lcG (top := []) (ity_rng 0 k.toNat) (fun _ m => nomatch m) ⟨S, w, R.pop⟩ jn ht I h0 (fun i d env' acc H' D v hi hd hI la jn' R' => ?_) (fun env' acc H' D hI la R' => hd env' acc H' _ hI la R')⟩
  subst hd
  rw [Int.zero_add] at R'
  exact hs i env' acc H' D v hi hI la jn' R'
/-! ### defs -/
/-- a def over data that stands still: its arguments are enc a -/
def spP {α : Type} (enc : α → List PyData) (pre : α → Prop) (post : α → PyData → Prop) : Sp := fun vs H Q _ => ∃ S a, FzAll S H vs (enc a) ∧ (∀ b ∈ S, Mut (H b)) ∧ pre a ∧ ∀ H' v d, Kp [] H H' → Fz S H' v d → post a d → Q v H'
/-- the same, its first argument the box; c: how often it may be asked -/
def spB {α : Type} (enc : α → List PyData) (pre : α → Nat → Prop) (post : α → PyData → Prop) : Sp := fun vs H Q _ => ∃ b vs' S a c m, vs = .ref b :: vs' ∧ b ∈ S ∧ FzAll S H vs' (enc a) ∧ (∀ b ∈ S, Mut (H b)) ∧ pre a c ∧ Box H b (c + m) ∧
  ∀ H' v d, Kp [b] H H' → Box H' b m → Fz S H' v d → post a d → Q v H'
theorem Rs.callP {α : Type} {enc : α → List PyData} {pre : α → Prop} {post : α → PyData → Prop} {E : XK} {a : α} (R : Rs F S H σ env ts w) (f : FzAll S H xs (enc a)) (hp : pre a) (h : ∀ v H' d, post a d → Rp F H' σ env ((v, .fz d) :: ts) → Q v H') : spP enc pre post xs H Q E :=
  ⟨S, a, f, R.mtb, hp, fun H' v d k fv hq => h v H' d hq ⟨S, w, (R.heap k).push fv⟩⟩
theorem Rs.callB {α : Type} {enc : α → List PyData} {pre : α → Nat → Prop} {post : α → PyData → Prop} {E : XK} {a : α} {b : V} {n c m : Nat} (R : Rs F S H σ env ((b, .al i) :: ts) w) (f : FzAll S H xs (enc a)) (hb : env[i]? = some (.box n)) (hp : pre a c) (hc : c + m ≤ n) (h : ∀ v H' d, post a d → Rp F H' σ (env.set i (.box m)) ((v, .fz d) :: ts) → Q v H') : spB enc pre post (b :: xs) H Q E := by
  obtain ⟨a', ea, B, aS, k⟩ := R.pop.boxSlot hb
  have e4 := R.alSlot (List.mem_cons_self ..)
  rw [ea] at e4
  cases e4
  exact ⟨a', _, S, a, c, m, rfl, aS, f, R.mtb, hp, B.mono hc, fun H' v d kp B' fv hq => h v H' d hq ⟨S, w, (k H' m kp B').push fv⟩⟩
section
variable {α : Type} {enc : α → List PyData} {pre : α → Prop} {preB : α → Nat → Prop} {post : α → PyData → Prop} {E : XK} {x1 x2 x3 x4 b : V} {n c m : Nat}
theorem z_p1 (a : α) (R : Rp F H σ env ((x1, s1) :: ts)) (e1 : asD s1 = some d1) (ea : enc a = [d1]) (hp : pre a) (h : ∀ v H' d, post a d → Rp F H' σ env ((v, .fz d) :: ts) → Q v H') : spP enc pre post [x1] H Q E := by
  obtain ⟨S, w, R⟩ := R.fr [] e1
  exact R.pop.callP (by rw [ea]; exact .cons R.top .nil) hp h
theorem z_p2 (a : α) (R : Rp F H σ env ((x2, s2) :: (x1, s1) :: ts)) (e1 : asD s1 = some d1) (e2 : asD s2 = some d2) (ea : enc a = [d1, d2]) (hp : pre a) (h : ∀ v H' d, post a d → Rp F H' σ env ((v, .fz d) :: ts) → Q v H') : spP enc pre post [x1, x2] H Q E := by
  obtain ⟨S, w, R⟩ := (R.fr [] e2).fr [_] e1
  exact R.pop.pop.callP (by rw [ea]; exact .cons R.pop.top (.cons R.top .nil)) hp h
theorem z_p3 (a : α) (R : Rp F H σ env ((x3, s3) :: (x2, s2) :: (x1, s1) :: ts)) (e1 : asD s1 = some d1) (e2 : asD s2 = some d2) (e3 : asD s3 = some d3) (ea : enc a = [d1, d2, d3]) (hp : pre a) (h : ∀ v H' d, post a d → Rp F H' σ env ((v, .fz d) :: ts) → Q v H') : spP enc pre post [x1, x2, x3] H Q E := by
  obtain ⟨S, w, R⟩ := ((R.fr [] e3).fr [_] e2).fr [_, _] e1
  exact R.pop.pop.pop.callP (by rw [ea]; exact .cons R.pop.pop.top (.cons R.pop.top (.cons R.top .nil))) hp h
theorem z_p4 (a : α) (R : Rp F H σ env ((x4, s4) :: (x3, s3) :: (x2, s2) :: (x1, s1) :: ts)) (e1 : asD s1 = some d1) (e2 : asD s2 = some d2) (e3 : asD s3 = some d3) (e4 : asD s4 = some d4) (ea : enc a = [d1, d2, d3, d4]) (hp : pre a) (h : ∀ v H' d, post a d → Rp F H' σ env ((v, .fz d) :: ts) → Q v H') : spP enc pre post [x1, x2, x3, x4] H Q E := by
  obtain ⟨S, w, R⟩ := (((R.fr [] e4).fr [_] e3).fr [_, _] e2).fr [_, _, _] e1
  exact R.pop.pop.pop.pop.callP (by rw [ea]; exact .cons R.pop.pop.pop.top (.cons R.pop.pop.top (.cons R.pop.top (.cons R.top .nil)))) hp h
theorem z_b0 (a : α) (R : Rp F H σ env ((b, .al i) :: ts)) (hb : env[i]? = some (.box n)) (ea : enc a = []) (hp : preB a c) (hc : c + m ≤ n) (h : ∀ v H' d, post a d → Rp F H' σ (env.set i (.box m)) ((v, .fz d) :: ts) → Q v H') : spB enc preB post [b] H Q E := by
  obtain ⟨S, w, R⟩ := R
  exact R.callB (by rw [ea]; exact .nil) hb hp hc h
theorem z_b1 (a : α) (R : Rp F H σ env ((x1, s1) :: (b, .al i) :: ts)) (hb : env[i]? = some (.box n)) (e1 : asD s1 = some d1) (ea : enc a = [d1]) (hp : preB a c) (hc : c + m ≤ n) (h : ∀ v H' d, post a d → Rp F H' σ (env.set i (.box m)) ((v, .fz d) :: ts) → Q v H') : spB enc preB post [b, x1] H Q E := by
  obtain ⟨S, w, R⟩ := R.fr [] e1
  exact R.pop.callB (by rw [ea]; exact .cons R.top .nil) hb hp hc h
theorem z_b2 (a : α) (R : Rp F H σ env ((x2, s2) :: (x1, s1) :: (b, .al i) :: ts)) (hb : env[i]? = some (.box n)) (e1 : asD s1 = some d1) (e2 : asD s2 = some d2) (ea : enc a = [d1, d2]) (hp : preB a c) (hc : c + m ≤ n) (h : ∀ v H' d, post a d → Rp F H' σ (env.set i (.box m)) ((v, .fz d) :: ts) → Q v H') : spB enc preB post [b, x1, x2] H Q E := by
  obtain ⟨S, w, R⟩ := (R.fr [] e2).fr [_] e1
  exact R.pop.pop.callB (by rw [ea]; exact .cons R.pop.top (.cons R.top .nil)) hb hp hc h
theorem z_b3 (a : α) (R : Rp F H σ env ((x3, s3) :: (x2, s2) :: (x1, s1) :: (b, .al i) :: ts)) (hb : env[i]? = some (.box n)) (e1 : asD s1 = some d1) (e2 : asD s2 = some d2) (e3 : asD s3 = some d3) (ea : enc a = [d1, d2, d3]) (hp : preB a c) (hc : c + m ≤ n) (h : ∀ v H' d, post a d → Rp F H' σ (env.set i (.box m)) ((v, .fz d) :: ts) → Q v H') : spB enc preB post [b, x1, x2, x3] H Q E := by
  obtain ⟨S, w, R⟩ := ((R.fr [] e3).fr [_] e2).fr [_, _] e1
  exact R.pop.pop.pop.callB (by rw [ea]; exact .cons R.pop.pop.top (.cons R.pop.top (.cons R.top .nil))) hb hp hc h
end
theorem start_at {N : List Str} {vs : List V} {ds : List PyData} (f : FzAll S H vs ds) (l : vs.length ≤ N.length) {i : Nat} {s : Sl} (e : (ds.map Sl.fz ++ List.replicate (N.length - ds.length) Sl.junk)[i]? = some s) : ∃ x, (start N vs)[i]? = some x ∧ ((∃ v d, x = some v ∧ s = .fz d ∧ Fz S H v d) ∨ s = .junk) := by
  have hl : i < (start N vs).length := by
    unfold start
    have := (List.getElem?_eq_some_iff.mp e).1
    simp only [List.length_append, List.length_map, List.length_replicate] at this ⊢
    rw [f.len]; omega
  by_cases hi : i < ds.length
  · rw [List.getElem?_append_left (by simpa using hi), List.getElem?_map, List.getElem?_eq_getElem hi] at e
    cases e
    obtain ⟨v, ev, fv⟩ := f.at' (List.getElem?_eq_getElem hi)
    refine ⟨some v, ?_, .inl ⟨v, _, rfl, rfl, fv⟩⟩
    unfold start
    rw [List.getElem?_append_left (by rw [List.length_map, f.len]; exact hi), List.getElem?_map, ev]
    rfl
  · rw [List.getElem?_append_right (by simpa using hi), List.getElem?_replicate] at e
    split at e
    · cases e
      exact ⟨_, List.getElem?_eq_getElem hl, .inr rfl⟩
    · cases e
theorem start_P {N : List Str} {vs : List V} {ds : List PyData} (K : PySem.W.Frag) (f : FzAll S H vs ds) (m : ∀ a ∈ S, Mut (H a)) (l : Nat.ble ds.length N.length = true) (ln : Nat.ble N.length 1000 = true) (he : ds.map Sl.fz ++ List.replicate (N.length - ds.length) Sl.junk = env) : Rp ⟨K, H, S, [], []⟩ H (start N vs) env [] := by
  subst he
  have l := Nat.le_of_ble_eq_true l
  have ln := Nat.le_of_ble_eq_true ln
  refine ⟨S, fun _ => 0, ⟨?_, ?_, fun i s e => ?_, fun i j e => ?_, trivial, fun _ h => h, fun a h => Mut.some (m a h), m, Kp.refl, (fun _ h => nomatch h), (fun _ h => nomatch h)⟩⟩
  · unfold start; rw [List.length_append, List.length_map, List.length_replicate, List.length_append, List.length_map, List.length_replicate, f.len]
  · rw [List.length_append, List.length_map, List.length_replicate]; omega
  · obtain ⟨x, ex, h⟩ := start_at f (by rw [f.len]; exact l) e
    refine ⟨x, ex, ?_⟩
    rcases h with ⟨v, d, rfl, rfl, fv⟩ | rfl
    · exact .fz fv
    · exact .junk _
  · obtain ⟨x, ex, h⟩ := start_at f (by rw [f.len]; exact l) e
    rcases h with ⟨v, d, _, z, _⟩ | z <;> cases z
theorem z_retP {H0 : Hp} {S0 : List Addr} (R : Rp ⟨K, H0, S0, [], []⟩ H σ env ((v, s) :: ts)) (e : asD s = some d) (h : Kp [] H0 H → Fz S0 H v d → Q v H) : Q v H := by
  obtain ⟨S, w, R⟩ := R.fr [] e
  exact h R.kept (R.top.move fun a o n e => ⟨fun z => n (R.sub a z), e⟩)
end
end L2.Z

end
section
set_option Elab.async false
set_option linter.all false
set_option maxRecDepth 100000
set_option maxHeartbeats 4000000
local macro_rules | `(tactic| walk_at "rd1") => `(tactic| with_reducible first
  | refine L2.Rx.r_seq ?_ | refine L2.Rx.r_asg ?_ | refine L2.Rx.r_gname ?_ | refine L2.Rx.r_op ?_ | refine L2.Rx.r_c ?_
  | refine L2.Rx.r_var rfl ?_
  | refine L2.Rx.r_rI0 ?_ | refine L2.Rx.r_test ?_ | refine L2.Rx.r_bl ?_ | refine L2.Rx.r_if ?_ | refine L2.Rx.r_ret ?_
  | refine L2.Rx.r_cons ?_ | refine L2.Rx.r_nil ?_ | refine L2.Rx.r_call ?_ | refine L2.Rx.r_cb ?_ | refine L2.Rx.r_next ?_ | refine L2.Rx.r_drop ?_
  | refine L2.Rx.r_gsub ?_ | refine L2.Rx.r_tupF ?_ | refine L2.Rx.r_lst ?_ | refine L2.Rx.r_par ?_ | refine L2.Rx.r_par2 ?_
  | refine L2.Rx.r_un ?_ | refine L2.Rx.r_tb ?_ | refine L2.Rx.r_and ?_ | refine L2.Rx.r_or ?_ | refine L2.Rx.r_not ?_
  | refine L2.Rx.r_andV ?_ | refine L2.Rx.r_orV ?_ | refine L2.Rx.r_notV ?_ | refine L2.Rx.r_ifx ?_ | refine L2.Rx.r_chain ?_
  | refine L2.Rx.r_sl ?_ | refine L2.Rx.r_nopart ?_ | refine L2.Rx.r_part ?_ | refine L2.Rx.r_exint ?_ | refine L2.Rx.r_bm0 ?_ | refine L2.Rx.r_bm ?_
  | refine L2.Rx.r_lc ?_ | refine L2.Rx.r_rng1 ?_ | refine L2.Rx.r_yes ?_ | refine L2.Rx.r_tt ?_ | refine L2.Rx.r_ff ?_ | refine L2.Rx.r_m1 ?_ | refine L2.Rx.r_m0 ?_ | refine L2.Rx.r_isS ?_
  | (refine L2.Rx.r_wipe (by with_unfolding_all rfl) ?_) | (refine L2.Rx.r_tyL (by walk_at "hp") ?_)
  | refine L2.Rx.r_addS (by walk_at "len") ?_ | refine L2.Rx.r_lenS (by walk_at "len") ?_ | refine L2.Rx.r_slS (by walk_at "len") ?_
  | refine L2.Rx.r_dnotin ?_ | refine L2.Rx.r_dget ?_ | refine L2.Rx.r_dget1 ?_ | refine L2.Rx.r_dput ?_ | refine L2.Rx.r_dpop1 ?_ | refine L2.Rx.r_isN ?_
  | refine L2.Rx.r_for ?_ | refine L2.Rx.r_ilist ?_ | refine L2.Rx.r_itup ?_
  | refine L2.Rx.r_gcons ?_ | refine L2.Rx.r_gnil ?_ | (refine L2.Rx.r_gtupP (by assumption) (by walk_at "at") ?_)
  | (refine L2.Rx.r_rEq rfl ?_) | (refine L2.Rx.r_rNe rfl ?_)
  | refine L2.Rx.r_rU ?_ | refine L2.Rx.r_max2 ?_ | refine L2.Rx.r_min2 ?_ | refine L2.Rx.r_int1i ?_ | (refine L2.Rx.r_lenh (by walk_at "hp") ?_)
  | (refine L2.Rx.r_ixLh (by walk_at "hp") (by walk_at "at") ?_)
  | (refine L2.Rx.r_setL (by walk_at "hp") (by walk_at "at") ?_))
local macro_rules | `(tactic| walk_at "at") => `(tactic| with_unfolding_all rfl)
local macro_rules | `(tactic| walk_at "rd") => `(tactic| (repeat walk_at "rd1"))
local macro_rules | `(tactic| walk_at "hp") => `(tactic| first
  | assumption
  | exact L2.upd_same
  | (refine Eq.trans (L2.upd_ne ?_) ?_; (focus walk_at "ne"); (focus walk_at "hp"))
  | (refine L2.Rx.Kp.at0 (by assumption) ?_; walk_at "hp")
  | (refine L2.Rx.Kp.at1 (by assumption) ?_ ?_; (focus walk_at "ne"); (focus walk_at "hp")))
local macro_rules | `(tactic| walk_at "ne") => `(tactic| first
  | assumption | exact Ne.symm (by assumption)
  | (refine L2.ne_of_none (H := ?nH) (o := ?nO) ?nh ?nn; (case nn => assumption); (case nh => walk_at "hp"))
  | (refine Ne.symm (L2.ne_of_none (H := ?nH) (o := ?nO) ?nh ?nn); (case nn => assumption); (case nh => walk_at "hp")))
local macro_rules | `(tactic| walk_at "len") => `(tactic| (rw [PySem.sizeLine_eq]; omega))
local macro_rules | `(tactic| walk_at "nin") => `(tactic| first
  | exact List.not_mem_nil
  | (refine L2.Rx.nin1 ?_; walk_at "ne"))
local macro_rules | `(tactic| walk_at "none") => `(tactic| first
  | assumption
  | (refine L2.Rx.Kp.none0 (by assumption) ?_ ?_; (focus walk_at "nin"); (focus walk_at "none")))
namespace L2.Z
open PySem PySem.Spec PyProof.Rows L2.Rx
section
variable {F : Fr} {H H' : Hp} {S T : List Addr} {σ : St} {env env' : List Sl} {ts : Ts} {w : Addr → Nat} {v x y : V} {d d1 d2 d3 d4 d5 : PyData} {ds es : List PyData} {Q : VK} {i j : Nat} {s s1 s2 s3 s4 s5 : Sl} {xs ys : List V} {p : Addr} {t : V × Sl} {K : PySem.W.Frag}
/-- a store in a list of slots -/
inductive SetE : List Sl → Nat → Sl → List Sl → Prop
  | z {a s : Sl} {l : List Sl} : SetE (a :: l) 0 s (s :: l)
  | s {a s : Sl} {l l' : List Sl} {n : Nat} : SetE l n s l' → SetE (a :: l) (n + 1) s (a :: l')
theorem SetE.eq (h : SetE env i s env') : env.set i s = env' := by
  induction h with
  | z => rfl
  | s _ ih => rw [List.set_cons_succ, ih]
theorem SetE.lt (h : SetE env i s env') : Nat.blt i env.length = true := by
  have g : i < env.length := by
    induction h with
    | z => exact Nat.zero_lt_succ _
    | s _ ih => exact Nat.succ_lt_succ ih
  exact Nat.ble_eq_true_of_le g
mutual
theorem Dq.fz (m : ∀ a ∈ S, Mut (H a)) : ∀ (d : PyData) (v : V), noL d = true → Dq K H v d → Fz S H v d
  | .none, _, _, h => by cases h; exact .non
  | .bool b, _, _, h => by cases h; exact .bl b
  | .int i, _, _, h => by cases h; exact .int i
  | .str x, _, _, h => by cases h; exact .str x
  | .list ds, _, n, h => by rw [noL] at n; cases n
  | .tuple ds, _, n, h => by
    cases h with
    | tup h1 h2 =>
      rw [noL] at n
      refine .tup (fun z => ?_) h1 (DqAll.fz m ds _ n h2)
      obtain ⟨o, e, _⟩ := h1
      have := m _ z
      rw [e] at this
      exact this
  | .dict _, _, _, h => by cases h
theorem DqAll.fz (m : ∀ a ∈ S, Mut (H a)) : ∀ (ds : List PyData) (vs : List V), noLs ds = true → DqAll K H vs ds → FzAll S H vs ds
  | [], _, _, h => by cases h; exact .nil
  | d :: ds, _, n, h => by
    cases h with
    | cons h1 h2 =>
      rw [noLs, Bool.and_eq_true] at n
      exact .cons (Dq.fz m d _ n.1 h1) (DqAll.fz m ds _ n.2 h2)
end
theorem Rs.al (R : Rs F S H σ env ((v, .al i) :: ts) w) : σ[i]? = some (some v) := R.alSlot (List.mem_cons_self ..)
theorem Rp.asg (R : Rp F H σ env ((v, s) :: ts)) (he : SetE env i s env') (hs : isAl s = false) (ht : noAl ts = true) : Rp F H (σ.set i (some v)) env' ts := by
  obtain ⟨S, w, R⟩ := R
  obtain ⟨w', R⟩ := R.set he.lt hs ht
  rw [he.eq] at R
  exact ⟨S, w', R⟩
theorem start_B {N : List Str} {vs : List V} {ds : List PyData} {b : Addr} {n : Nat} (K : PySem.W.Frag) (f : FzAll S H vs ds) (m : ∀ a ∈ S, Mut (H a)) (bS : b ∈ S) (B : Box H b n) (l : Nat.ble (ds.length + 1) N.length = true) (ln : Nat.ble N.length 1000 = true) (he : Sl.box n :: (ds.map Sl.fz ++ List.replicate (N.length - (ds.length + 1)) Sl.junk) = env) : Rp ⟨K, H, S, [b], []⟩ H (start N (.ref b :: vs)) env [] := by
  subst he
  have l := Nat.le_of_ble_eq_true l
  have ln := Nat.le_of_ble_eq_true ln
  have e0 : start N (.ref b :: vs) = some (.ref b) :: start N.tail vs := by
    unfold start
    rw [List.map_cons, List.cons_append, List.length_cons, List.length_tail]
    congr 3
    omega
  have lt : ds.length ≤ N.tail.length := by rw [List.length_tail]; omega
  have e1 : N.length - (ds.length + 1) = N.tail.length - ds.length := by rw [List.length_tail]; omega
  rw [e0, e1]
  refine ⟨S, fun _ => 0, ⟨?_, ?_, fun i s e => ?_, fun i j e => ?_, trivial, fun _ h => h, fun a h => Mut.some (m a h), m, Kp.refl, fun a h => by rw [List.mem_singleton.mp h]; exact bS, fun _ h => nomatch h⟩⟩
  · unfold start; rw [List.length_cons, List.length_cons, List.length_append, List.length_map, List.length_replicate, List.length_append, List.length_map, List.length_replicate, f.len]
  · rw [List.length_cons, List.length_append, List.length_map, List.length_replicate, List.length_tail]; omega
  · cases i with
    | zero => cases e; exact ⟨_, rfl, .box B bS (.inl (List.mem_singleton.mpr rfl)) rfl⟩
    | succ i =>
      obtain ⟨x, ex, h⟩ := start_at (N := N.tail) f (by rw [f.len]; exact lt) (i := i) e
      refine ⟨x, ex, ?_⟩
      rcases h with ⟨v, d, rfl, rfl, fv⟩ | rfl
      · exact .fz fv
      · exact .junk _
  · cases i with
    | zero => cases e
    | succ i =>
      obtain ⟨x, ex, h⟩ := start_at (N := N.tail) f (by rw [f.len]; exact lt) (i := i) e
      rcases h with ⟨v, d, _, z, _⟩ | z <;> cases z
theorem z_retB {H0 : Hp} {S0 : List Addr} {b : Addr} {m : Nat} (R : Rp ⟨K, H0, S0, [b], []⟩ H σ env ((v, s) :: ts)) (hb : env[i]? = some (.box m)) (e : asD s = some d) (h : Kp [b] H0 H → Box H b m → Fz S0 H v d → Q v H) : Q v H := by
  obtain ⟨S, w, R⟩ := R.fr [] e
  obtain ⟨x, ex, sx⟩ := R.slots i _ hb
  cases sx with
  | box B aS aw _ =>
    rcases aw with aw | aw
    · rw [List.mem_singleton.mp aw] at B
      exact h R.kept B (R.top.move fun a o n e => ⟨fun z => n (R.sub a z), e⟩)
    · cases aw.1
/-- a box made here -/
theorem Rs.newBox (R : Rs F S H σ env ts w) (hW : F.W = []) (k : Kp [] H H') (n : H p = none) {m : Nat} (B : Box H' p m) : Rs F (p :: S) H' σ env ((.ref p, .box m) :: ts) (fun a => if a = p then 1000 + ts.length else w a) := by
  have np : ∀ a, (∃ o, H a = some o) → a ≠ p := fun a ⟨o, e⟩ z => by subst z; rw [n] at e; cases e
  have mm : ∀ a u, a ∉ S → H a = some u → a ∉ p :: S ∧ H' a = some u := fun a u ns e => ⟨by
    rw [List.mem_cons]
    rintro (z | z)
    · exact np a ⟨u, e⟩ z
    · exact ns z, k a u (by simp) e⟩
  have g : ∀ a, a ∈ S → (∃ o, H a = some o) → H' a = H a ∧ a ∈ p :: S ∧ (if a = p then 1000 + ts.length else w a) = w a := fun a as ⟨o, e⟩ => ⟨(k a o (by simp) e).trans e.symm, List.mem_cons_of_mem _ as, if_neg (np a ⟨o, e⟩)⟩
  refine ⟨R.len, R.small, fun i s e => ?_, R.nal, ⟨.box B (List.mem_cons_self ..) (.inr ⟨hW, R.none0 n⟩) (if_pos rfl), R.tmp.move mm (fun a as o _ _ => g a as o) (fun _ _ _ _ _ h => h)⟩, fun a as => List.mem_cons_of_mem _ (R.sub a as), R.live0, fun a as => ?_, R.kept.trans (Kp.to1 k), R.foot, Lk.new1 R.lk k n⟩
  · obtain ⟨x, ex, sx⟩ := R.slots i s e
    exact ⟨x, ex, sx.move mm (fun a as o q => ⟨(g a as o).1, (g a as o).2.1, (g a as o).2.2.trans q⟩) (fun _ _ _ h => h)⟩
  · rcases List.mem_cons.mp as with z | z
    · obtain ⟨_, e⟩ := B.lst
      rw [z, e]; trivial
    · rw [(g a z (R.live a z)).1]; exact R.mtb a z
/-- what a call hands on: a new list at p in the heap behind it -/
theorem Rs.newAt {b : Addr} {n m : Nat} (R : Rs F S H σ env ts w) (eb : env[i]? = some (.box n)) (es' : σ[i]? = some (some (.ref b))) (np : H p = none) (k : Kp [b] H H') (B : Box H' b m) (e : H' p = some (.lst xs)) (f : FzAll S H xs ds) : ∃ S' w', Rs F S' H' σ (env.set i (.box m)) ((.ref p, .own ds) :: ts) w' := by
  have R2 := R.newL np f
  obtain ⟨b', e1, B0, bS, kk⟩ := R2.boxSlot eb
  rw [es'] at e1
  cases e1
  exact ⟨_, _, kk H' m (fun a o na ea => by
    by_cases ha : a = p
    · subst ha
      rw [upd_same] at ea
      cases ea
      exact e
    · rw [upd_ne ha] at ea
      exact k a o na ea) B⟩
/-! ### rules as the walk takes them: σ, H, v are letters -/
theorem y_name {Q : St → Hp → Prop} (R : Rp F H σ env ((v, s) :: ts)) (he : SetE env i s env') (hs : isAl s = false) (ht : noAl ts = true) (h : ∀ σ', Rp F H σ' env' ts → Q σ' H) : gName i v σ H Q := h _ (R.asg he hs ht)
theorem y_lcName {P : St → Hp → Prop} {vs : List Nat} (R : Rp F H (wipe σ vs) env ((v, s) :: ts)) (m : i ∈ vs) (he : SetE env i s env') (hs : isAl s = false) (ht : noAl ts = true)
    (h : ∀ σ2, wipe σ2 vs = wipe σ vs → Rp F H σ2 env' ts → P σ2 H) : gName i v (wipe σ vs) H fun σ2 H2 => wipe σ2 vs = wipe σ vs ∧ P σ2 H2 := z_lcName R m he.lt hs ht he.eq h
theorem y_lcPair {P : St → Hp → Prop} {vs : List Nat} {env2 : List Sl} (R : Rp F H (wipe σ vs) env ((v, .fz (.tuple [d1, d2])) :: ts)) (m : i ∈ vs) (mj : j ∈ vs) (he : SetE env i (.fz d1) env') (he2 : SetE env' j (.fz d2) env2) (ht : noAl ts = true)
    (h : ∀ σ2, wipe σ2 vs = wipe σ vs → Rp F H σ2 env2 ts → P σ2 H) : gTup K 2 (gCons (gName i) (gCons (gName j) gNil)) v (wipe σ vs) H fun σ2 H2 => wipe σ2 vs = wipe σ vs ∧ P σ2 H2 :=
  z_lcPair R m mj he.lt (by have := he2.lt; rw [← he.eq, List.length_set] at this; exact this) ht he.eq he2.eq h
theorem y_lcPairP {P : St → Hp → Prop} {vs : List Nat} {env2 : List Sl} (R : Rp F H (wipe σ vs) env ((v, .prt d1 d2) :: ts)) (m : i ∈ vs) (mj : j ∈ vs) (he : SetE env i (.fz d1) env') (he2 : SetE env' j (.fz d2) env2) (ht : noAl ts = true)
    (h : ∀ σ2, wipe σ2 vs = wipe σ vs → Rp F H σ2 env2 ts → P σ2 H) : gTup K 2 (gCons (gName i) (gCons (gName j) gNil)) v (wipe σ vs) H fun σ2 H2 => wipe σ2 vs = wipe σ vs ∧ P σ2 H2 :=
  z_lcPairP R m mj he.lt (by have := he2.lt; rw [← he.eq, List.length_set] at this; exact this) ht he.eq he2.eq h
theorem y_app {P : Prop} (R : Rp F H σ env ((y, s) :: (x, .al i) :: ts)) (e : env[i]? = some (.own ds)) (es' : asD s = some d) (l : ds.length < 1000000) (he : SetE env i (.own (ds ++ [d])) env') (h : ∀ v H', Rp F H' σ env' ((v, .fz .none) :: ts) → Q v H') : rAppend x [y] H Q := z_app R e es' l he.eq h
theorem y_ext (R : Rp F H σ env ((y, .own es) :: (x, .al i) :: ts)) (e : env[i]? = some (.own ds)) (l : ds.length + es.length ≤ 1000000) (he : SetE env i (.own (ds ++ es)) env') (h : ∀ v H', Rp F H' σ env' ((v, .fz .none) :: ts) → Q v H') : rExtend x [y] H Q := z_ext R e l he.eq h
theorem y_pop (R : Rp F H σ env ((x, .al i) :: ts)) (e : env[i]? = some (.own (ds ++ [d]))) (he : SetE env i (.own ds) env') (h : ∀ v H', Rp F H' σ env' ((v, .fz d) :: ts) → Q v H') : rPop x [] H Q := z_pop R e he.eq h
end
end L2.Z

end
section
set_option Elab.async false
set_option linter.all false
set_option maxRecDepth 100000
set_option maxHeartbeats 4000000
local macro_rules | `(tactic| walk_at "rd1") => `(tactic| with_reducible first
  | refine L2.Rx.r_seq ?_ | refine L2.Rx.r_asg ?_ | refine L2.Rx.r_gname ?_ | refine L2.Rx.r_op ?_ | refine L2.Rx.r_c ?_
  | refine L2.Rx.r_var rfl ?_
  | refine L2.Rx.r_rI0 ?_ | refine L2.Rx.r_test ?_ | refine L2.Rx.r_bl ?_ | refine L2.Rx.r_if ?_ | refine L2.Rx.r_ret ?_
  | refine L2.Rx.r_cons ?_ | refine L2.Rx.r_nil ?_ | refine L2.Rx.r_call ?_ | refine L2.Rx.r_cb ?_ | refine L2.Rx.r_next ?_ | refine L2.Rx.r_drop ?_
  | refine L2.Rx.r_gsub ?_ | refine L2.Rx.r_tupF ?_ | refine L2.Rx.r_lst ?_ | refine L2.Rx.r_par ?_ | refine L2.Rx.r_par2 ?_
  | refine L2.Rx.r_un ?_ | refine L2.Rx.r_tb ?_ | refine L2.Rx.r_and ?_ | refine L2.Rx.r_or ?_ | refine L2.Rx.r_not ?_
  | refine L2.Rx.r_andV ?_ | refine L2.Rx.r_orV ?_ | refine L2.Rx.r_notV ?_ | refine L2.Rx.r_ifx ?_ | refine L2.Rx.r_chain ?_
  | refine L2.Rx.r_sl ?_ | refine L2.Rx.r_nopart ?_ | refine L2.Rx.r_part ?_ | refine L2.Rx.r_exint ?_ | refine L2.Rx.r_bm0 ?_ | refine L2.Rx.r_bm ?_
  | refine L2.Rx.r_lc ?_ | refine L2.Rx.r_rng1 ?_ | refine L2.Rx.r_yes ?_ | refine L2.Rx.r_tt ?_ | refine L2.Rx.r_ff ?_ | refine L2.Rx.r_m1 ?_ | refine L2.Rx.r_m0 ?_ | refine L2.Rx.r_isS ?_
  | (refine L2.Rx.r_wipe (by with_unfolding_all rfl) ?_) | (refine L2.Rx.r_tyL (by walk_at "hp") ?_)
  | refine L2.Rx.r_addS (by walk_at "len") ?_ | refine L2.Rx.r_lenS (by walk_at "len") ?_ | refine L2.Rx.r_slS (by walk_at "len") ?_
  | refine L2.Rx.r_dnotin ?_ | refine L2.Rx.r_dget ?_ | refine L2.Rx.r_dget1 ?_ | refine L2.Rx.r_dput ?_ | refine L2.Rx.r_dpop1 ?_ | refine L2.Rx.r_isN ?_
  | refine L2.Rx.r_for ?_ | refine L2.Rx.r_ilist ?_ | refine L2.Rx.r_itup ?_
  | refine L2.Rx.r_gcons ?_ | refine L2.Rx.r_gnil ?_ | (refine L2.Rx.r_gtupP (by assumption) (by walk_at "at") ?_)
  | (refine L2.Rx.r_rEq rfl ?_) | (refine L2.Rx.r_rNe rfl ?_)
  | refine L2.Rx.r_rU ?_ | refine L2.Rx.r_max2 ?_ | refine L2.Rx.r_min2 ?_ | refine L2.Rx.r_int1i ?_ | (refine L2.Rx.r_lenh (by walk_at "hp") ?_)
  | (refine L2.Rx.r_ixLh (by walk_at "hp") (by walk_at "at") ?_)
  | (refine L2.Rx.r_setL (by walk_at "hp") (by walk_at "at") ?_))
local macro_rules | `(tactic| walk_at "at") => `(tactic| with_unfolding_all rfl)
local macro_rules | `(tactic| walk_at "rd") => `(tactic| (repeat walk_at "rd1"))
local macro_rules | `(tactic| walk_at "hp") => `(tactic| first
  | assumption
  | exact L2.upd_same
  | (refine Eq.trans (L2.upd_ne ?_) ?_; (focus walk_at "ne"); (focus walk_at "hp"))
  | (refine L2.Rx.Kp.at0 (by assumption) ?_; walk_at "hp")
  | (refine L2.Rx.Kp.at1 (by assumption) ?_ ?_; (focus walk_at "ne"); (focus walk_at "hp")))
local macro_rules | `(tactic| walk_at "ne") => `(tactic| first
  | assumption | exact Ne.symm (by assumption)
  | (refine L2.ne_of_none (H := ?nH) (o := ?nO) ?nh ?nn; (case nn => assumption); (case nh => walk_at "hp"))
  | (refine Ne.symm (L2.ne_of_none (H := ?nH) (o := ?nO) ?nh ?nn); (case nn => assumption); (case nh => walk_at "hp")))
local macro_rules | `(tactic| walk_at "len") => `(tactic| (rw [PySem.sizeLine_eq]; omega))
local macro_rules | `(tactic| walk_at "nin") => `(tactic| first
  | exact List.not_mem_nil
  | (refine L2.Rx.nin1 ?_; walk_at "ne"))
local macro_rules | `(tactic| walk_at "none") => `(tactic| first
  | assumption
  | (refine L2.Rx.Kp.none0 (by assumption) ?_ ?_; (focus walk_at "nin"); (focus walk_at "none")))
namespace L2.Z
open PySem PySem.Spec PyProof.Rows L2.Rx
section
variable {F : Fr} {H H' : Hp} {S T : List Addr} {σ : St} {env env' : List Sl} {ts : Ts} {w : Addr → Nat} {v x y z : V} {d d1 d2 d3 d4 d5 : PyData} {ds es : List PyData} {Q : VK} {i j : Nat} {s s1 s2 s3 s4 s5 : Sl} {xs ys : List V} {p : Addr} {t : V × Sl} {K : PySem.W.Frag} {kds : List (Key × PyData)} {k : Key}
/-! ### dicts -/
def lookD (kds : List (Key × PyData)) (k : Key) : Option PyData := (kds.find? fun z => decide (z.1 = k)).map (·.2)
def putD (kds : List (Key × PyData)) (k : Key) (d : PyData) : List (Key × PyData) :=
  if (kds.any fun z => decide (z.1 = k)) = true then kds.map (fun z => if z.1 = k then (z.1, d) else z) else kds ++ [(k, d)]
theorem look_rel : ∀ {kvs : List (Key × V)} {kds : List (Key × PyData)}, kvs.map Prod.fst = kds.map Prod.fst → FzAll S H (kvs.map Prod.snd) (kds.map Prod.snd) → ∀ k, match lookD kds k with
    | none => valV kvs k = none
    | some d => ∃ v, valV kvs k = some v ∧ Fz S H v d
  | [], [], _, _, k => rfl
  | [], _ :: _, e, _, _ => by simp at e
  | _ :: _, [], e, _, _ => by simp at e
  | a :: kvs, b :: kds, e, f, k => by
    rw [List.map_cons, List.map_cons] at e f
    obtain ⟨e1, e2⟩ := List.cons.inj e
    cases f with
    | cons f1 f2 =>
      have ih := look_rel e2 f2 k
      by_cases h : b.1 = k
      · have l : lookD (b :: kds) k = some b.2 := by simp [lookD, List.find?_cons, h]
        rw [l]
        exact ⟨a.2, valV_pos (e1.trans h), f1⟩
      · have l : lookD (b :: kds) k = lookD kds k := by simp [lookD, List.find?_cons, h]
        rw [l, valV_neg (fun z => h (e1.symm.trans z))]
        exact ih
theorem setmap_rel {k : Key} (g : Fz S H v d) : ∀ {kvs : List (Key × V)} {kds : List (Key × PyData)}, kvs.map Prod.fst = kds.map Prod.fst → FzAll S H (kvs.map Prod.snd) (kds.map Prod.snd) →
    (kvs.map (fun kv => if kv.1 = k then (kv.1, v) else kv)).map Prod.fst = (kds.map (fun z => if z.1 = k then (z.1, d) else z)).map Prod.fst ∧ FzAll S H ((kvs.map (fun kv => if kv.1 = k then (kv.1, v) else kv)).map Prod.snd) ((kds.map (fun z => if z.1 = k then (z.1, d) else z)).map Prod.snd)
  | [], [], _, _ => ⟨rfl, .nil⟩
  | [], _ :: _, e, _ => by simp at e
  | _ :: _, [], e, _ => by simp at e
  | a :: kvs, b :: kds, e, f => by
    rw [List.map_cons, List.map_cons] at e f
    obtain ⟨q1, q2⟩ := List.cons.inj e
    cases f with
    | cons g1 g2 =>
      obtain ⟨r1, r2⟩ := setmap_rel (k := k) g q2 g2
      by_cases h : b.1 = k
      · have h' : a.1 = k := q1.trans h
        simp only [List.map_cons, if_pos h, if_pos h']
        exact ⟨by rw [q1, r1], .cons g r2⟩
      · have h' : ¬ a.1 = k := fun z => h (q1.symm.trans z)
        simp only [List.map_cons, if_neg h, if_neg h']
        exact ⟨by rw [q1, r1], .cons g1 r2⟩
theorem put_rel {kvs : List (Key × V)} {kds : List (Key × PyData)} (e : kvs.map Prod.fst = kds.map Prod.fst) (f : FzAll S H (kvs.map Prod.snd) (kds.map Prod.snd)) (k : Key) (g : Fz S H v d) : (putK kvs k v).map Prod.fst = (putD kds k d).map Prod.fst ∧ FzAll S H ((putK kvs k v).map Prod.snd) ((putD kds k d).map Prod.snd) := by
  have an : (kvs.any fun z => decide (z.1 = k)) = kds.any fun z => decide (z.1 = k) := by
    have e1 : (kvs.any fun z => decide (z.1 = k)) = (kvs.map Prod.fst).any fun z => decide (z = k) := by rw [List.any_map]; rfl
    have e2 : (kds.any fun z => decide (z.1 = k)) = (kds.map Prod.fst).any fun z => decide (z = k) := by rw [List.any_map]; rfl
    rw [e1, e2, e]
  unfold putK putD
  rw [an]
  split
  · exact setmap_rel g e f
  · exact ⟨by rw [List.map_append, List.map_append, e]; rfl, by rw [List.map_append, List.map_append]; exact f.append (.cons g .nil)⟩
/-- dict(x), x pairs with keys apart -/
theorem pairs_of : ∀ {kds : List (Key × PyData)} {xs : List V}, FzAll S H xs (kds.map fun z => .tuple [kD z.1, z.2]) → ∃ (ps : List Addr) (kvs : List (Key × V)), xs = ps.map V.ref ∧ Paired (fun p kv => SqT K H p [kV kv.1, kv.2]) ps kvs ∧ kvs.map Prod.fst = kds.map Prod.fst ∧ FzAll S H (kvs.map Prod.snd) (kds.map Prod.snd)
  | [], xs, h => by
    cases h
    exact ⟨[], [], rfl, .nil, rfl, .nil⟩
  | z :: r, xs, h => by
    cases h with
    | cons h1 h2 =>
      obtain ⟨ps, kvs, rfl, pr, e, f⟩ := pairs_of h2
      obtain ⟨a, ys, rfl, _, ta, fa⟩ := h1.t
      cases fa with | cons f1 fa => cases fa with | cons f2 fa => cases fa with
        | nil =>
          have ek : ∀ {v : V}, Fz S H v (kD z.1) → v = kV z.1 := by
            intro v h
            cases hz : z.1 with
            | inl i => rw [hz] at h; exact h.i
            | inr x => rw [hz] at h; exact h.s
          have := ek f1
          subst this
          exact ⟨a :: ps, (z.1, _) :: kvs, rfl, .cons ta.sq pr, by rw [List.map_cons, List.map_cons, e], .cons f2 f⟩
theorem z_dictP (R : Rp F H σ env ((x, s) :: ts)) (e : asV env s = some d) (q : Sq d ds) (hd : ds = kds.map fun z => .tuple [kD z.1, z.2]) (nd : (kds.map Prod.fst).Nodup) (h : ∀ v H', Rp F H' σ env ((v, .dic kds) :: ts) → Q v H') : rDictP K [x] H Q := by
  subst hd
  obtain ⟨S, w, R⟩ := R
  have key : ∀ {a : Addr} {xs : List V}, (H a = some (.lst xs) ∨ Tm H a xs) → FzAll S H xs (kds.map fun z => .tuple [kD z.1, z.2]) → rDictP K [.ref a] H Q := by
    intro a xs ha f
    obtain ⟨ps, kvs, rfl, pr, ek, fv⟩ := pairs_of (K := K) f
    refine r_dictP (ha.elim (fun h => .inl (.inl (.inl h))) .inr) pr fun p np => ?_
    rw [mergeK_nd (by rw [ek]; exact nd)]
    exact h _ _ ⟨_, _, R.pop.newD np ek fv⟩
  cases q with
  | l => obtain ⟨a, xs, rfl, r, f⟩ := R.valL e; exact key (.inl r) f
  | t => obtain ⟨a, xs, rfl, r, f⟩ := R.valT e; exact key (.inr r) f
theorem z_dnew (R : Rp F H σ env ts) (h : ∀ v H', Rp F H' σ env ((v, .dic []) :: ts) → Q v H') : tDNewK σ H Q := fun p np => by
  obtain ⟨S, w, R⟩ := R
  exact h _ _ ⟨_, _, R.newD (kvs := []) (kds := []) np rfl .nil⟩
theorem z_isD {q : Addr → Prop} (R : Rp F H σ env ((x, s) :: ts)) (e : asV env s = some (dD kds)) (h : ∀ a, Rp F H σ env ((.ref a, s) :: ts) → q a) : ∃ a, x = .ref a ∧ IsD H a ∧ q a := by
  have R0 := R
  obtain ⟨S, w, R⟩ := R
  obtain ⟨a, kvs, rfl, r, _, _⟩ := R.valD e
  exact ⟨a, rfl, .inl ⟨kvs, r⟩, h a R0⟩
theorem key_of (h : Fz S H v (kD k)) : v = kV k := by
  cases k with
  | inl i => exact h.i
  | inr x => exact h.s
theorem Rp.look (R : Rp F H σ env ((y, .fz d) :: (x, s) :: ts)) (e : asV env s = some (dD kds)) (hk : d = kD k) : ∃ a o, x = .ref a ∧ DGet H a y o ∧ (match lookD kds k with | none => o = none ∧ Rp F H σ env ts | some d => ∃ v, o = some v ∧ Rp F H σ env ((v, .fz d) :: ts)) := by
  subst hk
  obtain ⟨S, w, R⟩ := R
  obtain ⟨a, kvs, rfl, r, e1, f⟩ := R.pop.valD e
  have := look_rel e1 f k
  rw [key_of R.top]
  refine ⟨a, valV kvs k, rfl, .inl ⟨kvs, k, r, rfl, rfl⟩, ?_⟩
  cases h : lookD kds k with
  | none => rw [h] at this; exact ⟨this, S, w, R.pop.pop⟩
  | some d => rw [h] at this; obtain ⟨v, e2, fv⟩ := this; exact ⟨v, e2, S, w, R.pop.pop.push fv⟩
/-- d.get(k) -/
theorem z_get1 {a : Addr} {q : Option V → Prop} (R : Rp F H σ env ((y, .fz d) :: (.ref a, s) :: ts)) (e : asV env s = some (dD kds)) (hk : d = kD k) (h : ∀ o : Option V, Rp F H σ env ((o.getD .non, .fz ((lookD kds k).getD .none)) :: ts) → q o) : ∃ o, DGet H a y o ∧ q o := by
  obtain ⟨a', o, ea, g, m⟩ := R.look e hk
  cases ea
  refine ⟨o, g, h o ?_⟩
  cases hl : lookD kds k with
  | none => rw [hl] at m; obtain ⟨rfl, R⟩ := m; exact R.non
  | some d => rw [hl] at m; obtain ⟨v, rfl, R⟩ := m; exact R
/-- d.get(k, z) -/
theorem z_get2 {a : Addr} {q : Option V → Prop} (R : Rp F H σ env ((z, .fz d2) :: (y, .fz d) :: (.ref a, s) :: ts)) (e : asV env s = some (dD kds)) (hk : d = kD k) (h : ∀ o : Option V, Rp F H σ env ((o.getD z, .fz ((lookD kds k).getD d2)) :: ts) → q o) : ∃ o, DGet H a y o ∧ q o := by
  obtain ⟨S, w, R0⟩ := R
  have fz := R0.top
  obtain ⟨a', kvs, ea, r, e1, f⟩ := R0.pop.pop.valD e
  cases ea
  subst hk
  have := look_rel e1 f k
  rw [key_of R0.pop.top]
  refine ⟨valV kvs k, .inl ⟨kvs, k, r, rfl, rfl⟩, h _ ?_⟩
  cases hl : lookD kds k with
  | none => rw [hl] at this; rw [this]; exact ⟨S, w, R0.pop.pop.pop.push fz⟩
  | some d => rw [hl] at this; obtain ⟨v, e2, fv⟩ := this; rw [e2]; exact ⟨S, w, R0.pop.pop.pop.push fv⟩
theorem Rp.din (R : Rp F H σ env ((x, s) :: (y, .fz d) :: ts)) (e : asV env s = some (dD kds)) (hk : d = kD k) : ∃ (a : Addr) (o : Option V), x = .ref a ∧ DGet H a y o ∧ o.isSome = (lookD kds k).isSome ∧ Rp F H σ env ts := by
  subst hk
  obtain ⟨S, w, R⟩ := R
  obtain ⟨a, kvs, rfl, r, e1, f⟩ := R.valD e
  have := look_rel e1 f k
  rw [key_of R.pop.top]
  refine ⟨a, valV kvs k, rfl, .inl ⟨kvs, k, r, rfl, rfl⟩, ?_, S, w, R.pop.pop⟩
  cases hl : lookD kds k with
  | none => rw [hl] at this; rw [this]; rfl
  | some d => rw [hl] at this; obtain ⟨v, e2, _⟩ := this; rw [e2]; rfl
/-- k in d (the key is asked first) -/
theorem z_din {q : Addr → Option V → Prop} (R : Rp F H σ env ((x, s) :: (y, .fz d) :: ts)) (e : asV env s = some (dD kds)) (hk : d = kD k) (h : ∀ a (o : Option V), Rp F H σ env ((.bl o.isSome, .fz (.bool (lookD kds k).isSome)) :: ts) → q a o) : ∃ a o, x = .ref a ∧ DGet H a y o ∧ q a o := by
  obtain ⟨a, o, ea, g, es, R⟩ := R.din e hk
  exact ⟨a, o, ea, g, h a o (by rw [es]; exact R.bl _)⟩
theorem z_dnin {q : Addr → Option V → Prop} (R : Rp F H σ env ((x, s) :: (y, .fz d) :: ts)) (e : asV env s = some (dD kds)) (hk : d = kD k) (h : ∀ a (o : Option V), Rp F H σ env ((.bl (!o.isSome), .fz (.bool (!(lookD kds k).isSome))) :: ts) → q a o) : ∃ a o, x = .ref a ∧ DGet H a y o ∧ q a o := by
  obtain ⟨a, o, ea, g, es, R⟩ := R.din e hk
  exact ⟨a, o, ea, g, h a o (by rw [es]; exact R.bl _)⟩
/-- d[k] -/
theorem z_dat (R : Rp F H σ env ((y, .fz d) :: (x, s) :: ts)) (e : asV env s = some (dD kds)) (hk : d = kD k) {q : Addr → V → Prop} (hl : lookD kds k = some d2) (h : ∀ a v, Rp F H σ env ((v, .fz d2) :: ts) → q a v) : ∃ a v, x = .ref a ∧ DGet H a y (some v) ∧ q a v := by
  obtain ⟨a, o, ea, g, m⟩ := R.look e hk
  rw [hl] at m
  obtain ⟨v, rfl, R⟩ := m
  exact ⟨a, v, ea, g, h a v R⟩
/-- d[k] = v -/
theorem y_dput {q : Hp → Prop} (R : Rp F H σ env ((y, .fz d) :: (x, .al i) :: (v, .fz d2) :: ts)) (e : env[i]? = some (.dic kds)) (hk : d = kD k) (l : kds.length < 1000000) (he : SetE env i (.dic (putD kds k d2)) env') (h : ∀ H', Rp F H' σ env' ts → q H') : ∃ a H4, x = .ref a ∧ DPut H a y v H4 ∧ q H4 := by
  subst hk
  obtain ⟨S, w, R⟩ := R
  obtain ⟨a, kvs, e1, e2, e3, f, kk⟩ := R.pop.pop.pop.dicSlot e
  have e4 := R.alSlot (i := i) (z := x) (List.mem_cons_of_mem _ (List.mem_cons_self ..))
  rw [e1] at e4
  cases e4
  have fv := R.pop.pop.top
  rw [key_of R.top]
  obtain ⟨p1, p2⟩ := put_rel e3 f k fv
  have ln : kvs.length = kds.length := by
    have := congrArg List.length e3
    simpa using this
  refine ⟨a, _, rfl, .inl ⟨kvs, k, e2, rfl, by rw [ln, sizeLine_eq]; omega, rfl⟩, h _ ?_⟩
  have R2 := kk _ _ p1 p2
  rw [he.eq] at R2
  exact ⟨S, w, R2⟩
end
end L2.Z

end
section
set_option Elab.async false
set_option linter.all false
set_option maxRecDepth 100000
set_option maxHeartbeats 4000000
local macro_rules | `(tactic| walk_at "rd1") => `(tactic| with_reducible first
  | refine L2.Rx.r_seq ?_ | refine L2.Rx.r_asg ?_ | refine L2.Rx.r_gname ?_ | refine L2.Rx.r_op ?_ | refine L2.Rx.r_c ?_
  | refine L2.Rx.r_var rfl ?_
  | refine L2.Rx.r_rI0 ?_ | refine L2.Rx.r_test ?_ | refine L2.Rx.r_bl ?_ | refine L2.Rx.r_if ?_ | refine L2.Rx.r_ret ?_
  | refine L2.Rx.r_cons ?_ | refine L2.Rx.r_nil ?_ | refine L2.Rx.r_call ?_ | refine L2.Rx.r_cb ?_ | refine L2.Rx.r_next ?_ | refine L2.Rx.r_drop ?_
  | refine L2.Rx.r_gsub ?_ | refine L2.Rx.r_tupF ?_ | refine L2.Rx.r_lst ?_ | refine L2.Rx.r_par ?_ | refine L2.Rx.r_par2 ?_
  | refine L2.Rx.r_un ?_ | refine L2.Rx.r_tb ?_ | refine L2.Rx.r_and ?_ | refine L2.Rx.r_or ?_ | refine L2.Rx.r_not ?_
  | refine L2.Rx.r_andV ?_ | refine L2.Rx.r_orV ?_ | refine L2.Rx.r_notV ?_ | refine L2.Rx.r_ifx ?_ | refine L2.Rx.r_chain ?_
  | refine L2.Rx.r_sl ?_ | refine L2.Rx.r_nopart ?_ | refine L2.Rx.r_part ?_ | refine L2.Rx.r_exint ?_ | refine L2.Rx.r_bm0 ?_ | refine L2.Rx.r_bm ?_
  | refine L2.Rx.r_lc ?_ | refine L2.Rx.r_rng1 ?_ | refine L2.Rx.r_yes ?_ | refine L2.Rx.r_tt ?_ | refine L2.Rx.r_ff ?_ | refine L2.Rx.r_m1 ?_ | refine L2.Rx.r_m0 ?_ | refine L2.Rx.r_isS ?_
  | (refine L2.Rx.r_wipe (by with_unfolding_all rfl) ?_) | (refine L2.Rx.r_tyL (by walk_at "hp") ?_)
  | refine L2.Rx.r_addS (by walk_at "len") ?_ | refine L2.Rx.r_lenS (by walk_at "len") ?_ | refine L2.Rx.r_slS (by walk_at "len") ?_
  | refine L2.Rx.r_dnotin ?_ | refine L2.Rx.r_dget ?_ | refine L2.Rx.r_dget1 ?_ | refine L2.Rx.r_dput ?_ | refine L2.Rx.r_dpop1 ?_ | refine L2.Rx.r_isN ?_
  | refine L2.Rx.r_for ?_ | refine L2.Rx.r_ilist ?_ | refine L2.Rx.r_itup ?_
  | refine L2.Rx.r_gcons ?_ | refine L2.Rx.r_gnil ?_ | (refine L2.Rx.r_gtupP (by assumption) (by walk_at "at") ?_)
  | (refine L2.Rx.r_rEq rfl ?_) | (refine L2.Rx.r_rNe rfl ?_)
  | refine L2.Rx.r_rU ?_ | refine L2.Rx.r_max2 ?_ | refine L2.Rx.r_min2 ?_ | refine L2.Rx.r_int1i ?_ | (refine L2.Rx.r_lenh (by walk_at "hp") ?_)
  | (refine L2.Rx.r_ixLh (by walk_at "hp") (by walk_at "at") ?_)
  | (refine L2.Rx.r_setL (by walk_at "hp") (by walk_at "at") ?_))
local macro_rules | `(tactic| walk_at "at") => `(tactic| with_unfolding_all rfl)
local macro_rules | `(tactic| walk_at "rd") => `(tactic| (repeat walk_at "rd1"))
local macro_rules | `(tactic| walk_at "hp") => `(tactic| first
  | assumption
  | exact L2.upd_same
  | (refine Eq.trans (L2.upd_ne ?_) ?_; (focus walk_at "ne"); (focus walk_at "hp"))
  | (refine L2.Rx.Kp.at0 (by assumption) ?_; walk_at "hp")
  | (refine L2.Rx.Kp.at1 (by assumption) ?_ ?_; (focus walk_at "ne"); (focus walk_at "hp")))
local macro_rules | `(tactic| walk_at "ne") => `(tactic| first
  | assumption | exact Ne.symm (by assumption)
  | (refine L2.ne_of_none (H := ?nH) (o := ?nO) ?nh ?nn; (case nn => assumption); (case nh => walk_at "hp"))
  | (refine Ne.symm (L2.ne_of_none (H := ?nH) (o := ?nO) ?nh ?nn); (case nn => assumption); (case nh => walk_at "hp")))
local macro_rules | `(tactic| walk_at "len") => `(tactic| (rw [PySem.sizeLine_eq]; omega))
local macro_rules | `(tactic| walk_at "nin") => `(tactic| first
  | exact List.not_mem_nil
  | (refine L2.Rx.nin1 ?_; walk_at "ne"))
local macro_rules | `(tactic| walk_at "none") => `(tactic| first
  | assumption
  | (refine L2.Rx.Kp.none0 (by assumption) ?_ ?_; (focus walk_at "nin"); (focus walk_at "none")))
namespace L2.Z
open PySem PySem.Spec PyProof.Rows L2.Rx
section
variable {F : Fr} {H H' : Hp} {S T : List Addr} {σ : St} {env env' : List Sl} {ts : Ts} {w : Addr → Nat} {v x y z : V} {d d1 d2 d3 d4 d5 : PyData} {ds es : List PyData} {Q : VK} {i j : Nat} {s s1 s2 s3 s4 s5 : Sl} {xs ys : List V} {p : Addr} {t : V × Sl} {K : PySem.W.Frag} {kds : List (Key × PyData)} {k : Key}
/-! ### comprehensions that map and filter: nothing but the new list changes -/
abbrev FIv {α : Type} (env : List Sl) (as : List α) (f : α → Option PyData) : Nat → List Sl → List PyData → Prop := fun i env' acc => env' = env ∧ acc = (as.take i).filterMap f
theorem take_fm {α : Type} {as : List α} {f : α → Option PyData} {i : Nat} {a : α} (ha : as[i]? = some a) : (as.take (i + 1)).filterMap f = (as.take i).filterMap f ++ (f a).toList := by
  rw [List.take_add_one, ha, List.filterMap_append]
  cases h : f a <;> simp [h]
theorem z_fAdd {α : Type} {as : List α} {f : α → Option PyData} {a : α} {vs : List Nat} {σ2 : St} {D : Addr} {n : Nat} {acc : List PyData} {env2 : List Sl} (R : Rp F H σ2 env2 ((y, s) :: (.ref D, .own acc) :: ts)) (e : asD s = some d) (hw : wipe σ2 vs = wipe σ vs) (la : acc.length ≤ n) (ha : as[n]? = some a) (hacc : acc = (as.take n).filterMap f) (ln : as.length ≤ 1000000)
    (hf : f a = some d) (ht : noAl ts = true) (hj : jk env2 vs = env) : ∃ acc, H D = some (.lst acc) ∧ acc.length < sizeLine ∧ NxL F ts vs σ D (n + 1) (FIv env as f (n + 1)) (upd H D (.lst (acc ++ [y]))) :=
  z_lcAdd R e hw la (by have := (List.getElem?_eq_some_iff.mp ha).1; omega) ht ⟨hj, by rw [take_fm ha, hf, hacc]; rfl⟩
theorem z_fSkip {α : Type} {as : List α} {f : α → Option PyData} {a : α} {vs : List Nat} {σ2 : St} {D : Addr} {n : Nat} {acc : List PyData} {env2 : List Sl} (R : Rp F H σ2 env2 ((.ref D, .own acc) :: ts)) (hw : wipe σ2 vs = wipe σ vs) (la : acc.length ≤ n) (ha : as[n]? = some a) (hacc : acc = (as.take n).filterMap f)
    (hf : f a = none) (ht : noAl ts = true) (hj : jk env2 vs = env) : NxL F ts vs σ D (n + 1) (FIv env as f (n + 1)) H :=
  z_lcSkip R hw la ht ⟨hj, by rw [take_fm ha, hf, hacc]; simp⟩
theorem map_at {α : Type} {enc : α → PyData} {as : List α} {i : Nat} (h : (as.map enc)[i]? = some d) : ∃ a, as[i]? = some a ∧ d = enc a := by
  rw [List.getElem?_map] at h
  cases e : as[i]? with
  | none => rw [e] at h; cases h
  | some a => rw [e] at h; exact ⟨a, rfl, (Option.some.inj h).symm⟩
theorem z_fT {Qd : Addr → Hp → Prop} {α : Type} {enc : α → PyData} {as : List α} {g : TG} {tt : TT} {te : TE} {vs : List Nat} (f : α → Option PyData) (R : Rp F H σ env ((x, .fz (.tuple (as.map enc))) :: ts)) (jn : jnk env vs = true) (ht : noAl ts = true)
    (hs : ∀ (n : Nat) (a : α) (acc : List PyData) (H' : Hp) (D : Addr) (v : V), as[n]? = some a → acc = (as.take n).filterMap f → acc.length ≤ n → Rp F H' (wipe σ vs) env ((v, .fz (enc a)) :: (.ref D, .own acc) :: (x, .fz (.tuple (as.map enc))) :: ts) → g v (wipe σ vs) H' fun σ2 H2 => wipe σ2 vs = wipe σ vs ∧ tt σ2 H2 fun b H3 =>
      if b = true then te σ2 H3 fun y H4 => ∃ acc, H4 D = some (.lst acc) ∧ acc.length < sizeLine ∧ NxL F ((x, .fz (.tuple (as.map enc))) :: ts) vs σ D (n + 1) (FIv env as f (n + 1)) (upd H4 D (.lst (acc ++ [y]))) else NxL F ((x, .fz (.tuple (as.map enc))) :: ts) vs σ D (n + 1) (FIv env as f (n + 1)) H3)
    (hd : ∀ (D : Addr) (H' : Hp), Rp F H' σ env ((.ref D, .own (as.filterMap f)) :: ts) → Qd D H') :
    ∃ a, x = .ref a ∧ (∃ xs, SqT K H a xs) ∧ ∀ D, H D = none → ∃ W : Nat → Nat → Hp → Prop, (∃ m, W 0 m (upd H D (.lst []))) ∧ ∀ i m H, W i m H →
      ((Itt K a).stop i H ∧ Qd D H) ∨ ((Itt K a).go i H ∧ ∃ Nx : Hp → Prop, (∀ H', Nx H' → ∃ m', m' < m ∧ W (i + 1) m' H') ∧ ∀ x H', (Itt K a).yld i H x H' → g x (wipe σ vs) H' fun σ2 H2 => wipe σ2 vs = wipe σ vs ∧ tt σ2 H2 fun b H3 =>
        if b = true then te σ2 H3 fun y H4 => ∃ acc, H4 D = some (.lst acc) ∧ acc.length < sizeLine ∧ Nx (upd H4 D (.lst (acc ++ [y]))) else Nx H3) := by
  refine z_lcT R jn ht (FIv env as f) ⟨rfl, rfl⟩ ?_ ?_
  · rintro i d env' acc H' D v hi hdd ⟨rfl, hacc⟩ la jn' R'
    obtain ⟨a, ha, rfl⟩ := map_at hdd
    exact hs i a acc H' D v ha hacc la R'
  · rintro env' acc H' v ⟨rfl, rfl⟩ _ R'
    rw [List.length_map, List.take_length] at R'
    exact hd v H' R'
theorem z_fL {Qd : Addr → Hp → Prop} {α : Type} {enc : α → PyData} {as : List α} {g : TG} {tt : TT} {te : TE} {vs : List Nat} (f : α → Option PyData) (R : Rp F H σ env ((x, s) :: ts)) (e : asD s = some (.list (as.map enc))) (jn : jnk env vs = true) (ht : noAl ts = true)
    (hs : ∀ (n : Nat) (a : α) (acc : List PyData) (H' : Hp) (D : Addr) (v : V), as[n]? = some a → acc = (as.take n).filterMap f → acc.length ≤ n → Rp F H' (wipe σ vs) env ((v, .fz (enc a)) :: (.ref D, .own acc) :: (x, .fz (.list (as.map enc))) :: ts) → g v (wipe σ vs) H' fun σ2 H2 => wipe σ2 vs = wipe σ vs ∧ tt σ2 H2 fun b H3 =>
      if b = true then te σ2 H3 fun y H4 => ∃ acc, H4 D = some (.lst acc) ∧ acc.length < sizeLine ∧ NxL F ((x, .fz (.list (as.map enc))) :: ts) vs σ D (n + 1) (FIv env as f (n + 1)) (upd H4 D (.lst (acc ++ [y]))) else NxL F ((x, .fz (.list (as.map enc))) :: ts) vs σ D (n + 1) (FIv env as f (n + 1)) H3)
    (hd : ∀ (D : Addr) (H' : Hp), Rp F H' σ env ((.ref D, .own (as.filterMap f)) :: ts) → Qd D H') :
    ∃ a, x = .ref a ∧ (∃ xs, SqL K H a xs) ∧ ∀ D, H D = none → ∃ W : Nat → Nat → Hp → Prop, (∃ m, W 0 m (upd H D (.lst []))) ∧ ∀ i m H, W i m H →
      ((Itl K a).stop i H ∧ Qd D H) ∨ ((Itl K a).go i H ∧ ∃ Nx : Hp → Prop, (∀ H', Nx H' → ∃ m', m' < m ∧ W (i + 1) m' H') ∧ ∀ x H', (Itl K a).yld i H x H' → g x (wipe σ vs) H' fun σ2 H2 => wipe σ2 vs = wipe σ vs ∧ tt σ2 H2 fun b H3 =>
        if b = true then te σ2 H3 fun y H4 => ∃ acc, H4 D = some (.lst acc) ∧ acc.length < sizeLine ∧ Nx (upd H4 D (.lst (acc ++ [y]))) else Nx H3) := by
  refine z_lcL R e jn ht (FIv env as f) ⟨rfl, rfl⟩ ?_ ?_
  · rintro i d env' acc H' D v hi hdd ⟨rfl, hacc⟩ la jn' R'
    obtain ⟨a, ha, rfl⟩ := map_at hdd
    exact hs i a acc H' D v ha hacc la R'
  · rintro env' acc H' v ⟨rfl, rfl⟩ _ R'
    rw [List.length_map, List.take_length] at R'
    exact hd v H' R'
theorem fm_some {α : Type} (f : α → PyData) (as : List α) : as.filterMap (fun a => some (f a)) = as.map f := by
  rw [← List.filterMap_eq_map]
  rfl
theorem fm_if {α : Type} (p : α → Bool) (f : α → PyData) : ∀ (as : List α), as.filterMap (fun a => if p a = true then some (f a) else none) = (as.filter p).map f
  | [] => rfl
  | a :: as => by
    have ih := fm_if p f as
    by_cases h : p a = true
    · rw [List.filterMap_cons, if_pos h, List.filter_cons, if_pos h, List.map_cons, ih]
    · rw [List.filterMap_cons, if_neg h, List.filter_cons, if_neg h, ih]
end
abbrev Lg := List (Str × Int)
theorem prD_inj {a b : Str × Int} (e : prD a = prD b) : a = b := by
  obtain ⟨a, i⟩ := a
  obtain ⟨b, j⟩ := b
  have := PyData.tuple.inj e
  simp at this
  rw [this.1, this.2]
theorem logD_inj {l m : Lg} (h : logD l = logD m) : l = m := (List.map_inj_right (fun a b e => prD_inj e)).mp (PyData.tuple.inj h)
def logsD (ls : List Lg) : PyData := .tuple (ls.map logD)
theorem logsD_inj {l m : List Lg} (h : logsD l = logsD m) : l = m := (List.map_inj_right (fun a b e => logD_inj e)).mp (PyData.tuple.inj h)
/-- a log as a table -/
def kdL (l : Lg) : List (Key × PyData) := l.map fun z => (.inr z.1, .int z.2)
def valL (l : Lg) (c : Str) : Option Int := (l.find? fun z => decide (z.1 = c)).map (·.2)
theorem look_kdL (c : Str) : ∀ l : Lg, lookD (kdL l) (.inr c) = (valL l c).map PyData.int
  | [] => rfl
  | z :: l => by
    by_cases h : z.1 = c
    · simp [lookD, kdL, valL, List.find?_cons, h]
    · have := look_kdL c l
      simp [lookD, kdL, valL, List.find?_cons, h] at this ⊢
      exact this
theorem kdL_pairs (l : Lg) : l.map prD = (kdL l).map fun z => .tuple [kD z.1, z.2] := by rw [kdL, List.map_map]; rfl
theorem kdL_nd {l : Lg} (h : (l.map Prod.fst).Nodup) : ((kdL l).map Prod.fst).Nodup := by
  have e : (kdL l).map Prod.fst = (l.map Prod.fst).map (Sum.inr (α := Int)) := by rw [kdL, List.map_map, List.map_map]; rfl
  rw [e]
  exact List.pairwise_map.mpr (List.Pairwise.imp (fun ne e => ne (Sum.inr.inj e)) h)
structure LgOk (l : Lg) : Prop where
  nd : (l.map Prod.fst).Nodup
  len : l.length ≤ 60
  cell : ∀ z ∈ l, Cell z.1
  val : ∀ z ∈ l, 0 ≤ z.2 ∧ z.2 ≤ 1000000000
def optI : Option Int → PyData
  | none => .none
  | some i => .int i
section
variable {F : Fr} {H H' : Hp} {S T : List Addr} {σ : St} {env env' : List Sl} {ts : Ts} {w : Addr → Nat} {v x y z : V} {d d1 d2 d3 d4 d5 : PyData} {ds es : List PyData} {Q : VK} {i j : Nat} {s s1 s2 s3 s4 s5 : Sl} {xs ys : List V} {p : Addr} {t : V × Sl} {K : PySem.W.Frag} {kds : List (Key × PyData)} {k : Key}
theorem z_dictL {l : Lg} (lo : (l.map Prod.fst).Nodup) (R : Rp F H σ env ((x, s) :: ts)) (e : asV env s = some d) (q : Sq d (l.map prD)) (h : ∀ v H', Rp F H' σ env ((v, .dic (kdL l)) :: ts) → Q v H') : rDictP K [x] H Q := z_dictP R e q (kdL_pairs l) (kdL_nd lo) h
theorem z_getL {a : Addr} {l : Lg} {c : Str} {q : Option V → Prop} (R : Rp F H σ env ((y, .fz (.str c)) :: (.ref a, s) :: ts)) (e : asV env s = some (dD (kdL l))) (h : ∀ o : Option V, Rp F H σ env ((o.getD .non, .fz (optI (valL l c))) :: ts) → q o) : ∃ o, DGet H a y o ∧ q o := by
  refine z_get1 (k := .inr c) R e rfl fun o R => h o ?_
  rw [look_kdL] at R
  cases hv : valL l c with
  | none => rw [hv] at R; exact R
  | some i => rw [hv] at R; exact R
theorem z_getL2 {a : Addr} {l : Lg} {c : Str} {n : Int} {q : Option V → Prop} (R : Rp F H σ env ((z, .fz (.int n)) :: (y, .fz (.str c)) :: (.ref a, s) :: ts)) (e : asV env s = some (dD (kdL l))) (h : ∀ o : Option V, Rp F H σ env ((o.getD z, .fz (.int ((valL l c).getD n))) :: ts) → q o) : ∃ o, DGet H a y o ∧ q o := by
  refine z_get2 (k := .inr c) R e rfl fun o R => h o ?_
  rw [look_kdL] at R
  cases hv : valL l c with
  | none => rw [hv] at R; exact R
  | some i => rw [hv] at R; exact R
theorem z_dinL {l : Lg} {c : Str} {q : Addr → Option V → Prop} (R : Rp F H σ env ((x, s) :: (y, .fz (.str c)) :: ts)) (e : asV env s = some (dD (kdL l))) (h : ∀ a (o : Option V), Rp F H σ env ((.bl o.isSome, .fz (.bool (valL l c).isSome)) :: ts) → q a o) : ∃ a o, x = .ref a ∧ DGet H a y o ∧ q a o := by
  refine z_din (k := .inr c) R e rfl fun a o R => h a o ?_
  rw [look_kdL, Option.isSome_map] at R
  exact R
theorem z_dninL {l : Lg} {c : Str} {q : Addr → Option V → Prop} (R : Rp F H σ env ((x, s) :: (y, .fz (.str c)) :: ts)) (e : asV env s = some (dD (kdL l))) (h : ∀ a (o : Option V), Rp F H σ env ((.bl (!o.isSome), .fz (.bool (!(valL l c).isSome))) :: ts) → q a o) : ∃ a o, x = .ref a ∧ DGet H a y o ∧ q a o := by
  refine z_dnin (k := .inr c) R e rfl fun a o R => h a o ?_
  rw [look_kdL, Option.isSome_map] at R
  exact R
theorem z_datL {l : Lg} {c : Str} {n : Int} {q : Addr → V → Prop} (R : Rp F H σ env ((y, .fz (.str c)) :: (x, s) :: ts)) (e : asV env s = some (dD (kdL l))) (hv : valL l c = some n) (h : ∀ a v, Rp F H σ env ((v, .fz (.int n)) :: ts) → q a v) : ∃ a v, x = .ref a ∧ DGet H a y (some v) ∧ q a v :=
  z_dat (k := .inr c) R e rfl (by rw [look_kdL, hv]; rfl) h
theorem z_eqO {o : Option Int} {n : Int} (R : Rp F H σ env ((y, .fz (.int n)) :: (x, .fz (optI o)) :: ts)) (h : ∀ v, Rp F H σ env ((v, .fz (.bool (decide (o = some n)))) :: ts) → Q v H) : rEq x y H Q := by
  obtain ⟨S, f, g, R'⟩ := R.two
  rw [f.i]
  cases o with
  | none =>
    rw [Fz.n g]
    refine ⟨rfl, ?_⟩
    have e : decide (V.non = V.int n) = decide ((none : Option Int) = some n) := by simp
    rw [e]
    exact h _ (R'.bl _)
  | some m =>
    rw [Fz.i g]
    refine ⟨rfl, ?_⟩
    have e : decide (V.int m = V.int n) = decide (some m = some n) := by simp
    rw [e]
    exact h _ (R'.bl _)
end
theorem valL_mem {l : Lg} {c : Str} {i : Int} (h : valL l c = some i) : (c, i) ∈ l := by
  unfold valL at h
  cases e : l.find? fun z => decide (z.1 = c) with
  | none => rw [e] at h; cases h
  | some z =>
    rw [e] at h
    have := List.find?_some e
    simp at this h
    obtain ⟨a, b⟩ := z
    simp at this h
    subst this h
    exact List.mem_of_find?_eq_some e
theorem valL_of {l : Lg} (nd : (l.map Prod.fst).Nodup) {z : Str × Int} (m : z ∈ l) : valL l z.1 = some z.2 := by
  induction l with
  | nil => cases m
  | cons y l ih =>
    rw [List.map_cons, List.nodup_cons] at nd
    rcases List.mem_cons.mp m with e | e
    · subst e
      simp [valL, List.find?_cons]
    · have ne : ¬ y.1 = z.1 := fun h => nd.1 (by rw [h]; exact List.mem_map_of_mem e)
      have := ih nd.2 e
      simp [valL, List.find?_cons, ne] at this ⊢
      exact this
end L2.Z

end
section
set_option Elab.async false
set_option linter.all false
set_option maxRecDepth 100000
set_option maxHeartbeats 4000000
local macro_rules | `(tactic| walk_at "rd1") => `(tactic| with_reducible first
  | refine L2.Rx.r_seq ?_ | refine L2.Rx.r_asg ?_ | refine L2.Rx.r_gname ?_ | refine L2.Rx.r_op ?_ | refine L2.Rx.r_c ?_
  | refine L2.Rx.r_var rfl ?_
  | refine L2.Rx.r_rI0 ?_ | refine L2.Rx.r_test ?_ | refine L2.Rx.r_bl ?_ | refine L2.Rx.r_if ?_ | refine L2.Rx.r_ret ?_
  | refine L2.Rx.r_cons ?_ | refine L2.Rx.r_nil ?_ | refine L2.Rx.r_call ?_ | refine L2.Rx.r_cb ?_ | refine L2.Rx.r_next ?_ | refine L2.Rx.r_drop ?_
  | refine L2.Rx.r_gsub ?_ | refine L2.Rx.r_tupF ?_ | refine L2.Rx.r_lst ?_ | refine L2.Rx.r_par ?_ | refine L2.Rx.r_par2 ?_
  | refine L2.Rx.r_un ?_ | refine L2.Rx.r_tb ?_ | refine L2.Rx.r_and ?_ | refine L2.Rx.r_or ?_ | refine L2.Rx.r_not ?_
  | refine L2.Rx.r_andV ?_ | refine L2.Rx.r_orV ?_ | refine L2.Rx.r_notV ?_ | refine L2.Rx.r_ifx ?_ | refine L2.Rx.r_chain ?_
  | refine L2.Rx.r_sl ?_ | refine L2.Rx.r_nopart ?_ | refine L2.Rx.r_part ?_ | refine L2.Rx.r_exint ?_ | refine L2.Rx.r_bm0 ?_ | refine L2.Rx.r_bm ?_
  | refine L2.Rx.r_lc ?_ | refine L2.Rx.r_rng1 ?_ | refine L2.Rx.r_yes ?_ | refine L2.Rx.r_tt ?_ | refine L2.Rx.r_ff ?_ | refine L2.Rx.r_m1 ?_ | refine L2.Rx.r_m0 ?_ | refine L2.Rx.r_isS ?_
  | (refine L2.Rx.r_wipe (by with_unfolding_all rfl) ?_) | (refine L2.Rx.r_tyL (by walk_at "hp") ?_)
  | refine L2.Rx.r_addS (by walk_at "len") ?_ | refine L2.Rx.r_lenS (by walk_at "len") ?_ | refine L2.Rx.r_slS (by walk_at "len") ?_
  | refine L2.Rx.r_dnotin ?_ | refine L2.Rx.r_dget ?_ | refine L2.Rx.r_dget1 ?_ | refine L2.Rx.r_dput ?_ | refine L2.Rx.r_dpop1 ?_ | refine L2.Rx.r_isN ?_
  | refine L2.Rx.r_for ?_ | refine L2.Rx.r_ilist ?_ | refine L2.Rx.r_itup ?_
  | refine L2.Rx.r_gcons ?_ | refine L2.Rx.r_gnil ?_ | (refine L2.Rx.r_gtupP (by assumption) (by walk_at "at") ?_)
  | (refine L2.Rx.r_rEq rfl ?_) | (refine L2.Rx.r_rNe rfl ?_)
  | refine L2.Rx.r_rU ?_ | refine L2.Rx.r_max2 ?_ | refine L2.Rx.r_min2 ?_ | refine L2.Rx.r_int1i ?_ | (refine L2.Rx.r_lenh (by walk_at "hp") ?_)
  | (refine L2.Rx.r_ixLh (by walk_at "hp") (by walk_at "at") ?_)
  | (refine L2.Rx.r_setL (by walk_at "hp") (by walk_at "at") ?_))
local macro_rules | `(tactic| walk_at "at") => `(tactic| with_unfolding_all rfl)
local macro_rules | `(tactic| walk_at "rd") => `(tactic| (repeat walk_at "rd1"))
local macro_rules | `(tactic| walk_at "hp") => `(tactic| first
  | assumption
  | exact L2.upd_same
  | (refine Eq.trans (L2.upd_ne ?_) ?_; (focus walk_at "ne"); (focus walk_at "hp"))
  | (refine L2.Rx.Kp.at0 (by assumption) ?_; walk_at "hp")
  | (refine L2.Rx.Kp.at1 (by assumption) ?_ ?_; (focus walk_at "ne"); (focus walk_at "hp")))
local macro_rules | `(tactic| walk_at "ne") => `(tactic| first
  | assumption | exact Ne.symm (by assumption)
  | (refine L2.ne_of_none (H := ?nH) (o := ?nO) ?nh ?nn; (case nn => assumption); (case nh => walk_at "hp"))
  | (refine Ne.symm (L2.ne_of_none (H := ?nH) (o := ?nO) ?nh ?nn); (case nn => assumption); (case nh => walk_at "hp")))
local macro_rules | `(tactic| walk_at "len") => `(tactic| (rw [PySem.sizeLine_eq]; omega))
local macro_rules | `(tactic| walk_at "nin") => `(tactic| first
  | exact List.not_mem_nil
  | (refine L2.Rx.nin1 ?_; walk_at "ne"))
local macro_rules | `(tactic| walk_at "none") => `(tactic| first
  | assumption
  | (refine L2.Rx.Kp.none0 (by assumption) ?_ ?_; (focus walk_at "nin"); (focus walk_at "none")))
namespace L2.Z
open PySem PySem.Spec PyProof.Rows L2.Rx
section
variable {F : Fr} {H H' : Hp} {S S' : List Addr} {σ : St} {env env' : List Sl} {ts : Ts} {w : Addr → Nat} {v x y z : V} {d d1 d2 d3 d4 d5 : PyData} {ds es : List PyData} {Q : VK} {i j : Nat} {s s1 s2 s3 s4 s5 : Sl} {xs ys : List V} {p : Addr} {t : V × Sl} {K : PySem.W.Frag} {kds : List (Key × PyData)} {k : Key}
/-- the two at the top change places -/
theorem Rs.swap {t u : V × Sl} (R : Rs F S H σ env (t :: u :: ts) w) : ∃ w', Rs F S H σ env (u :: t :: ts) w' := by
  refine ⟨fun a => if w a = 1000 + ts.length + 1 then 1000 + ts.length else if w a = 1000 + ts.length then 1000 + ts.length + 1 else w a, ?_⟩
  have m : ∀ a o, a ∉ S → H a = some o → a ∉ S ∧ H a = some o := fun a o n e => ⟨n, e⟩
  have hsm := R.small
  refine ⟨R.len, R.small, fun i s' e => ?_, R.nal, ⟨R.tmp.2.1.move m (fun a as o q => ⟨rfl, as, ?_⟩) (fun _ _ _ h => h), R.tmp.1.move m (fun a as o q => ⟨rfl, as, ?_⟩) (fun _ _ _ h => h), R.tmp.2.2.move m (fun a as o l u => ⟨rfl, as, ?_⟩) (fun _ _ _ _ _ h => h)⟩, R.sub, R.live0, R.mtb, R.kept, R.foot, R.lk⟩
  · obtain ⟨x, ex, sx⟩ := R.slots i s' e
    have hi := lt_of_get e
    refine ⟨x, ex, sx.move m (fun a as o q => ⟨rfl, as, ?_⟩) (fun _ _ _ h => h)⟩
    show (if w a = 1000 + ts.length + 1 then 1000 + ts.length else if w a = 1000 + ts.length then 1000 + ts.length + 1 else w a) = i
    rw [if_neg (by omega), if_neg (by omega)]
    exact q
  · show (if w a = 1000 + ts.length + 1 then 1000 + ts.length else if w a = 1000 + ts.length then 1000 + ts.length + 1 else w a) = 1000 + (t :: ts).length
    rw [if_neg (by omega), if_pos q, List.length_cons]
    omega
  · rw [List.length_cons] at q
    show (if w a = 1000 + ts.length + 1 then 1000 + ts.length else if w a = 1000 + ts.length then 1000 + ts.length + 1 else w a) = 1000 + ts.length
    rw [if_pos (by omega)]
  · show (if w a = 1000 + ts.length + 1 then 1000 + ts.length else if w a = 1000 + ts.length then 1000 + ts.length + 1 else w a) = w a
    rw [if_neg (by omega), if_neg (by omega)]
theorem Rp.jk (vs : List Nat) (R : Rp F H σ env ts) : Rp F H σ (jk env vs) ts := by
  obtain ⟨S, w, R⟩ := R
  exact ⟨S, w, R.jk⟩
theorem Rp.swap {t u : V × Sl} (R : Rp F H σ env (t :: u :: ts)) : Rp F H σ env (u :: t :: ts) := by
  obtain ⟨S, w, R⟩ := R
  obtain ⟨w', R⟩ := R.swap
  exact ⟨S, w', R⟩
/-! ### set comprehensions with two for -/
section
variable {P : Program} {ww : World} {T : Type}
abbrev soO (Fm : SetFam P ww T) (τ : T) : Sl := .obj fun a => Fm.O a τ
/-- what the first clause's turn reaches -/
def NxS (F : Fr) (Fm : SetFam P ww T) (ts : Ts) (vs : List Nat) (σ : St) (D : Addr) (env : List Sl) (I : T → Prop) (H : Hp) : Prop := ∃ τ, I τ ∧ Rp F H (wipe σ vs) env ((.ref D, soO Fm τ) :: ts)
def InnS (Fm : SetFam P ww T) (σ2 : St) (us : List Nat) (g2 : TG) (tt2 : TT) (te : TE) (D : Addr) (Nx : Hp → Prop) : It → Hp → Prop := fun J2 H4 => ∃ Wj : Nat → Nat → Hp → Prop, (∃ m, Wj 0 m H4) ∧ ∀ j n H, Wj j n H →
  (J2.stop j H ∧ Nx H) ∨ (J2.go j H ∧ ∃ Ny : Hp → Prop, (∀ H', Ny H' → ∃ n', n' < n ∧ Wj (j + 1) n' H') ∧ ∀ x H', J2.yld j H x H' → g2 x (wipe σ2 us) H' fun σ3 H5 => wipe σ3 us = wipe σ2 us ∧ tt2 σ3 H5 fun b H6 =>
    if b = true then te σ3 H6 fun y H7 => ∃ (k : Key) (τ : T), y = kV k ∧ H7 D = some (Fm.O D τ) ∧ Fm.room τ k ∧ Ny (upd H7 D (Fm.O D (Fm.put τ k))) else Ny H6)
theorem z_sf2T {Qd : Addr → Hp → Prop} {g g2 : TG} {tt tt2 : TT} {te : TE} {wj : TI} {vs us : List Nat} (Fm : SetFam P ww T) (hO : ∀ a τ, Mut (some (Fm.O a τ))) (R : Rp F H σ env ((x, .fz (.tuple ds)) :: ts)) (jn : jnk env vs = true) (ht : noAl ts = true) (I : Nat → T → Prop) (h0 : I 0 Fm.t0)
    (hs : ∀ (i : Nat) (d : PyData) (τ : T) (H' : Hp) (D : Addr) (v : V), ds[i]? = some d → I i τ → Rp F H' (wipe σ vs) env ((v, .fz d) :: (.ref D, soO Fm τ) :: (x, .fz (.tuple ds)) :: ts) → g v (wipe σ vs) H' fun σ2 H2 => wipe σ2 vs = wipe σ vs ∧ tt σ2 H2 fun b H3 =>
      if b = true then wj σ2 H3 (InnS Fm σ2 us g2 tt2 te D (NxS F Fm ((x, .fz (.tuple ds)) :: ts) vs σ D env (I (i + 1)))) else NxS F Fm ((x, .fz (.tuple ds)) :: ts) vs σ D env (I (i + 1)) H3)
    (hd : ∀ (τ : T) (H' : Hp) (D : Addr), I ds.length τ → Rp F H' σ env ((.ref D, soO Fm τ) :: ts) → Qd D H') :
    ∃ a, x = .ref a ∧ (∃ xs, SqT K H a xs) ∧ ∀ D, H D = none → ∃ W : Nat → Nat → Hp → Prop, (∃ m, W 0 m (upd H D (Fm.O D Fm.t0))) ∧ ∀ i m H, W i m H →
      ((Itt K a).stop i H ∧ Qd D H) ∨ ((Itt K a).go i H ∧ ∃ Nx : Hp → Prop, (∀ H', Nx H' → ∃ m', m' < m ∧ W (i + 1) m' H') ∧ ∀ x H', (Itt K a).yld i H x H' → g x (wipe σ vs) H' fun σ2 H2 => wipe σ2 vs = wipe σ vs ∧ tt σ2 H2 fun b H3 =>
        if b = true then wj σ2 H3 (fun J2 H4 => ∃ Wj : Nat → Nat → Hp → Prop, (∃ m, Wj 0 m H4) ∧ ∀ j n H, Wj j n H →
          (J2.stop j H ∧ Nx H) ∨ (J2.go j H ∧ ∃ Ny : Hp → Prop, (∀ H', Ny H' → ∃ n', n' < n ∧ Wj (j + 1) n' H') ∧ ∀ x H', J2.yld j H x H' → g2 x (wipe σ2 us) H' fun σ3 H5 => wipe σ3 us = wipe σ2 us ∧ tt2 σ3 H5 fun b H6 =>
            if b = true then te σ3 H6 fun y H7 => ∃ (k : Key) (τ : T), y = kV k ∧ H7 D = some (Fm.O D τ) ∧ Fm.room τ k ∧ Ny (upd H7 D (Fm.O D (Fm.put τ k))) else Ny H6)) else Nx H3) := by
  obtain ⟨a, rfl, sq⟩ := R.tupA (K := K)
  refine ⟨a, rfl, sq, fun D nD => ?_⟩
  have Y := ity_tup (F := F) (K := K) a ds
  obtain ⟨S, w, R⟩ := R
  have noa : noAl ((V.ref a, Sl.fz (.tuple ds)) :: ts) = true := noAl_cons rfl ht
  refine ⟨fun i m H' => m = ds.length - i ∧ i ≤ ds.length ∧ NxS F Fm ((.ref a, .fz (.tuple ds)) :: ts) vs σ D env (I i) H', ⟨ds.length, by simp, Nat.zero_le _, Fm.t0, h0, _, _, (R.newObj (o := fun a => Fm.O a Fm.t0) nD (hO _ _)).wipe2 (wipe_wipe _ _) jn (noAl_cons rfl noa)⟩, ?_⟩
  rintro i m H' ⟨rfl, hi, τ, hI, R'⟩
  have mt : ∀ t ∈ [(V.ref a, Sl.fz (.tuple ds))], t ∈ (V.ref D, soO Fm τ) :: (V.ref a, Sl.fz (.tuple ds)) :: ts := fun t m => by
    rw [List.mem_singleton.mp m]
    exact List.mem_cons_of_mem _ (List.mem_cons_self ..)
  by_cases hlt : i < ds.length
  · refine .inr ⟨Y.go mt hlt R', NxS F Fm ((.ref a, .fz (.tuple ds)) :: ts) vs σ D env (I (i + 1)), fun H2 p => ⟨ds.length - (i + 1), by omega, rfl, hlt, p⟩, fun u H2 y => ?_⟩
    obtain ⟨_, ⟨d, hd, rfl⟩, R2⟩ := Y.yld mt hlt R' y
    exact hs i d τ H2 D u hd hI R2
  · have e : i = ds.length := by omega
    subst e
    refine .inl ⟨Y.stop mt (Nat.le_refl _) R', hd τ H' D hI ?_⟩
    obtain ⟨S, w, R'⟩ := R'.drop2 ht
    exact ⟨S, w, R'.wipe2 (wipe_wipe _ _).symm jn (noAl_cons rfl ht)⟩
/-- what the second clause's turn reaches -/
def NyS (F : Fr) (Fm : SetFam P ww T) (ts : Ts) (us : List Nat) (σ2 : St) (D : Addr) (env2 : List Sl) (I : T → Prop) (H : Hp) : Prop := ∃ τ, I τ ∧ Rp F H (wipe σ2 us) env2 ((.ref D, soO Fm τ) :: ts)
theorem wipe_sub {σ : St} {vs us : List Nat} (h : ∀ i ∈ us, i ∈ vs) : wipe (wipe σ us) vs = wipe σ vs := by
  refine List.ext_getElem? fun i => ?_
  by_cases m : i ∈ vs
  · by_cases l : i < σ.length
    · rw [wipe_in m (by rw [wipe_length]; exact l), wipe_in m l]
    · rw [List.getElem?_eq_none (by rw [wipe_length, wipe_length]; omega), List.getElem?_eq_none (by rw [wipe_length]; omega)]
  · rw [wipe_out m, wipe_out m, wipe_out (fun z => m (h i z))]
theorem z_sfInT {σ2 : St} {g2 : TG} {tt2 : TT} {te : TE} {vs us : List Nat} {D : Addr} {Fm : SetFam P ww T} {τ0 : T} {env2 : List Sl} {I : T → Prop} (R : Rp F H σ2 env2 ((y, .fz (.tuple es)) :: (.ref D, soO Fm τ0) :: ts)) (jn : jnk env2 us = true) (ht : noAl ts = true) (hw : wipe σ2 vs = wipe σ vs) (su : ∀ i ∈ us, i ∈ vs) (ej : jk env2 vs = env)
    (I2 : Nat → T → Prop) (h0 : I2 0 τ0)
    (hs : ∀ (j : Nat) (d : PyData) (τ : T) (H' : Hp) (v : V), es[j]? = some d → I2 j τ → Rp F H' (wipe σ2 us) env2 ((v, .fz d) :: (.ref D, soO Fm τ) :: (y, .fz (.tuple es)) :: ts) → g2 v (wipe σ2 us) H' fun σ3 H5 => wipe σ3 us = wipe σ2 us ∧ tt2 σ3 H5 fun b H6 =>
      if b = true then te σ3 H6 fun y' H7 => ∃ (k : Key) (τ : T), y' = kV k ∧ H7 D = some (Fm.O D τ) ∧ Fm.room τ k ∧ NyS F Fm ((y, .fz (.tuple es)) :: ts) us σ2 D env2 (I2 (j + 1)) (upd H7 D (Fm.O D (Fm.put τ k))) else NyS F Fm ((y, .fz (.tuple es)) :: ts) us σ2 D env2 (I2 (j + 1)) H6)
    (hd : ∀ τ, I2 es.length τ → I τ) : ∃ a, y = .ref a ∧ (∃ xs, SqT K H a xs) ∧ InnS Fm σ2 us g2 tt2 te D (NxS F Fm ts vs σ D env I) (Itt K a) H := by
  obtain ⟨a, rfl, sq⟩ := R.tupA (K := K)
  refine ⟨a, rfl, sq, ?_⟩
  have Y := ity_tup (F := F) (K := K) a es
  obtain ⟨S, w, R⟩ := R.swap
  have noa : noAl ((V.ref a, Sl.fz (.tuple es)) :: ts) = true := noAl_cons rfl ht
  refine ⟨fun i m H' => m = es.length - i ∧ i ≤ es.length ∧ NyS F Fm ((.ref a, .fz (.tuple es)) :: ts) us σ2 D env2 (I2 i) H', ⟨es.length, by simp, Nat.zero_le _, τ0, h0, _, _, R.wipe2 (wipe_wipe _ _) jn (noAl_cons rfl noa)⟩, ?_⟩
  rintro i m H' ⟨rfl, hi, τ, hI, R'⟩
  have mt : ∀ t ∈ [(V.ref a, Sl.fz (.tuple es))], t ∈ (V.ref D, soO Fm τ) :: (V.ref a, Sl.fz (.tuple es)) :: ts := fun t m => by
    rw [List.mem_singleton.mp m]
    exact List.mem_cons_of_mem _ (List.mem_cons_self ..)
  by_cases hlt : i < es.length
  · refine .inr ⟨Y.go mt hlt R', NyS F Fm ((.ref a, .fz (.tuple es)) :: ts) us σ2 D env2 (I2 (i + 1)), fun H2 p => ⟨es.length - (i + 1), by omega, rfl, hlt, p⟩, fun u H2 y => ?_⟩
    obtain ⟨_, ⟨d, hd, rfl⟩, R2⟩ := Y.yld mt hlt R' y
    exact hs i d τ H2 u hd hI R2
  · have e : i = es.length := by omega
    subst e
    refine .inl ⟨Y.stop mt (Nat.le_refl _) R', τ, hd τ hI, ?_⟩
    obtain ⟨S, w, R'⟩ := R'.drop2 ht
    have R3 := R'.jk (vs := vs)
    rw [ej] at R3
    exact ⟨S, w, R3.wipe2 (by rw [wipe_wipe, wipe_sub su, hw]) (by rw [← ej]; exact jnk_jk _ _) (noAl_cons rfl ht)⟩
theorem z_sfAdd {σ2 σ3 : St} {us : List Nat} {D : Addr} {Fm : SetFam P ww T} {τ : T} {env2 env3 : List Sl} {I : T → Prop} (hO : ∀ a τ, Mut (some (Fm.O a τ))) (R : Rp F H σ3 env3 ((z, .fz d) :: (.ref D, soO Fm τ) :: ts)) (hk : d = kD k) (rm : Fm.room τ k) (hw : wipe σ3 us = wipe σ2 us) (ej : jk env3 us = env2) (ht : noAl ts = true) (hI : I (Fm.put τ k)) :
    ∃ (k : Key) (τ : T), z = kV k ∧ H D = some (Fm.O D τ) ∧ Fm.room τ k ∧ NyS F Fm ts us σ2 D env2 I (upd H D (Fm.O D (Fm.put τ k))) := by
  subst hk
  obtain ⟨S, w, R⟩ := R
  obtain ⟨a, ea, eh, kk⟩ := R.pop.objTop
  cases ea
  refine ⟨k, τ, key_of R.top, eh, rm, _, hI, S, w, ?_⟩
  have R2 := (kk (fun a => Fm.O a (Fm.put τ k)) (hO _ _)).jk (vs := us)
  rw [ej] at R2
  exact R2.wipe2 (by rw [wipe_wipe, hw]) (by rw [← ej]; exact jnk_jk _ _) (noAl_cons rfl ht)
end
theorem z_sortT {P : Program} {ww : World} {l : List Str} (R : Rp F H σ env ((x, soO (famT P ww) l) :: ts)) (h : ∀ (v : V) (H' : Hp) (ms : List Str), ms.Perm l → ms.Pairwise (fun x y => ¬ y.cps.toList < x.cps.toList) → Rp F H' σ env ((v, .own (ms.map PyData.str)) :: ts) → Q v H') : rSortT P ww [x] H Q := by
  obtain ⟨S, w, R⟩ := R
  obtain ⟨a, rfl, eh, _⟩ := R.objTop
  exact ⟨a, l, rfl, eh, fun p ms pm pw np => h _ _ ms pm pw ⟨_, _, R.pop.newL np (fz_strs ms)⟩⟩
/-! ### walks over a dict: nobody changes it meanwhile -/
theorem ity_items {a : Addr} {o : Obj} {kvs : List (Key × V)} {kds : List (Key × PyData)} (hL : (a, HO.frz o (.dK kvs)) ∈ F.L) (e : kvs.map Prod.fst = kds.map Prod.fst) : Ity F [(.ref a, .fz (dD kds))] kds.length (fun i s => ∃ z, kds[i]? = some z ∧ s = .prt (kD z.1) z.2) (Iti a o kvs) := by
  have ll : kvs.length = kds.length := by
    have := congrArg List.length e
    simpa using this
  refine ⟨fun {i H σ env ts} m h ⟨S, w, R⟩ => ⟨(R.lk _ hL).2, by omega⟩, fun {i H σ env ts u H'} m h ⟨S, w, R⟩ y => ?_, fun {i H σ env ts} m h ⟨S, w, R⟩ => ⟨(R.lk _ hL).2, by omega⟩⟩
  obtain ⟨t, k, v, ek, rfl, nt, rfl⟩ := y
  have f := R.tmp.mem (m _ (List.mem_cons_self ..))
  obtain ⟨b, kvs', eb, _, rd, e', fa⟩ := f.k
  cases eb
  have : kvs' = kvs := by
    have h2 := (R.lk _ hL).2
    rcases rd with rd | ⟨o', rd⟩
    · rw [h2] at rd; cases rd
    · rw [h2] at rd; cases rd; rfl
  subst this
  have hz : ∃ z, kds[i]? = some z ∧ z.1 = k := by
    have h1 : (kvs'.map Prod.fst)[i]? = some k := by rw [List.getElem?_map, ek]; rfl
    rw [e, List.getElem?_map] at h1
    cases hk : kds[i]? with
    | none => rw [hk] at h1; cases h1
    | some z => rw [hk] at h1; exact ⟨z, rfl, Option.some.inj h1⟩
  obtain ⟨z, hz, rfl⟩ := hz
  have fv : Fz S H v z.2 := by
    obtain ⟨d, hd, f⟩ := fa.at (i := i) (v := v) (by rw [List.getElem?_map, ek]; rfl)
    rw [List.getElem?_map, hz] at hd
    cases hd
    exact f
  have fk : Fz S H (kV z.1) (kD z.1) := by
    cases z.1 with
    | inl i => exact .int i
    | inr x => exact .str x
  have mv : ∀ {b : Addr} {u : HO}, b ∉ S → H b = some u → b ∉ S ∧ upd H t (.tup [kV z.1, v]) b = some u := fun n eb => ⟨n, by rw [upd_ne (fun q => by rw [q, nt] at eb; cases eb)]; exact eb⟩
  refine ⟨_, ⟨z, hz, rfl⟩, S, w, (R.upd0 nt).pushS (.prt (R.ninS nt) upd_same (fk.move fun _ _ => mv) (fv.move fun _ _ => mv))⟩
/-- the locks may be told or not -/
theorem Gr.reL {L L' : List (Addr × HO)} {K0 : PySem.W.Frag} {H0 : Hp} {S0 W : List Addr} {w : Addr → Nat} {id : Nat} {kvs : List (Key × V)} {kls : List (Key × List PyData)} {as : List Addr} (h : Gr ⟨K0, H0, S0, W, L⟩ S H w id kvs kls as) : Gr ⟨K0, H0, S0, W, L'⟩ S H w id kvs kls as := by
  induction h with
  | nil => exact .nil
  | cons a b c d _ ih => exact .cons a b ⟨c.s, c.z, c.w⟩ d ih
theorem Sr.reL {L L' : List (Addr × HO)} {K0 : PySem.W.Frag} {H0 : Hp} {S0 W : List Addr} {w : Addr → Nat} {id : Nat} {x : Option V} {s : Sl} (h : Sr ⟨K0, H0, S0, W, L⟩ S H σ w id x s) : Sr ⟨K0, H0, S0, W, L'⟩ S H σ w id x s := by
  cases h with
  | junk => exact .junk _
  | fz h => exact .fz h
  | own h1 h2 h3 => exact .own h1 h2 ⟨h3.s, h3.z, h3.w⟩
  | dic h1 h2 h3 h4 => exact .dic h1 h2 h3 ⟨h4.s, h4.z, h4.w⟩
  | grp h1 h2 h3 =>
    exact .grp h1 (Gr.reL h2) ⟨h3.s, h3.z, h3.w⟩
  | box h1 h2 h3 h4 => exact .box h1 h2 h3 h4
  | al h => exact .al h
  | scr a => exact .scr a
  | obj h1 h2 => exact .obj h1 ⟨h2.s, h2.z, h2.w⟩
  | prt a b c d => exact .prt a b c d
theorem Et.reL {L L' : List (Addr × HO)} {K0 : PySem.W.Frag} {H0 : Hp} {S0 W : List Addr} {w : Addr → Nat} : ∀ {ts : Ts}, Et ⟨K0, H0, S0, W, L⟩ S H σ w ts → Et ⟨K0, H0, S0, W, L'⟩ S H σ w ts
  | [], _ => trivial
  | t :: ts, h => ⟨h.1.reL, Et.reL h.2⟩
theorem Rs.reL {L L' : List (Addr × HO)} {K0 : PySem.W.Frag} {H0 : Hp} {S0 W : List Addr} {w : Addr → Nat} (R : Rs ⟨K0, H0, S0, W, L⟩ S H σ env ts w) (l : Lk ⟨K0, H0, S0, W, L'⟩ S H) : Rs ⟨K0, H0, S0, W, L'⟩ S H σ env ts w :=
  ⟨R.len, R.small, fun i s e => by obtain ⟨x, ex, sx⟩ := R.slots i s e; exact ⟨x, ex, sx.reL⟩, R.nal, R.tmp.reL, R.sub, R.live0, R.mtb, R.kept, R.foot, l⟩
theorem Rs.lockIt {K0 : PySem.W.Frag} {H0 : Hp} {S0 W : List Addr} (R : Rs ⟨K0, H0, S0, W, []⟩ S H σ env ts w) (e : env[i]? = some (.dic kds)) : ∃ (a : Addr) (kvs : List (Key × V)) (T : List Addr), σ[i]? = some (some (.ref a)) ∧ H a = some (.dK kvs) ∧ kvs.map Prod.fst = kds.map Prod.fst ∧ H0 a = none ∧
    ∀ od : Obj, Rs ⟨K0, H0, S0, W, [(a, .frz od (.dK kvs))]⟩ T (upd H a (.frz od (.dK kvs))) σ (env.set i (.fz (dD kds))) ts w := by
  obtain ⟨x, ex, sx⟩ := R.slots i _ e
  cases sx with
  | @dic a kvs _ h1 h2 h3 h4 =>
    have R1 := R.frzA (s' := .fz (dD kds)) (lt_of_get e) h4.w h4.z rfl fun x ex' => by
      rw [ex] at ex'
      cases ex'
      exact .fz (.dct nin_flt (.inl h1) h2 (flt_move h3))
    refine ⟨a, kvs, S.filter (fun b => decide (b ≠ a)), ex, h1, h2, h4.z, fun od => ?_⟩
    have ne : ∀ b ∈ S.filter (fun b => decide (b ≠ a)), b ≠ a := fun b hb z => nin_flt (by rw [z] at hb; exact hb)
    have R2 := R1.heapM (mv_lock (od := od) nin_flt h1) (fun b hb => upd_ne (ne b hb)) (fun c u n e => by rw [upd_ne (fun z => by rw [z] at e; rw [h4.z] at e; cases e)]; exact R1.kept c u n e) (fun _ h => nomatch h)
    exact R2.reL fun q hq => by
      rw [List.mem_singleton.mp hq]
      exact ⟨nin_flt, upd_same⟩
theorem Rs.unlockIt {K0 : PySem.W.Frag} {H0 : Hp} {S0 W : List Addr} {a : Addr} {od : Obj} {kvs : List (Key × V)} (R : Rs ⟨K0, H0, S0, W, [(a, .frz od (.dK kvs))]⟩ S H σ env ts w) (h0 : H0 a = none) : H a = some (.frz od (.dK kvs)) ∧ Rs ⟨K0, H0, S0, W, []⟩ S (upd H a (.dK kvs)) σ env ts w := by
  obtain ⟨n, e⟩ := R.lk _ (List.mem_cons_self ..)
  refine ⟨e, ?_⟩
  have R1 : Rs ⟨K0, H0, S0, W, []⟩ S H σ env ts w := R.reL fun _ h => nomatch h
  exact R1.heapM (mv_unlock n e) (fun b hb => upd_ne (fun z => n (by rw [z] at hb; exact hb))) (fun c u n e => by rw [upd_ne (fun z => by have e2 : H0 c = some u := e; rw [z, h0] at e2; cases e2)]; exact R1.kept c u n e) (fun _ h => nomatch h)
abbrev IvE (env : List Sl) (I : Nat → List PyData → Prop) : Nat → List Sl → List PyData → Prop := fun n env' acc => env' = env ∧ I n acc
/-- [.. for k, v in d.items() if ..], d a dict of slot i that is held as data behind it -/
theorem z_itemsLc {g : TG} {tt : TT} {te : TE} {vs : List Nat} {K0 : PySem.W.Frag} {H0 : Hp} {S0 W : List Addr} (R : Rp ⟨K0, H0, S0, W, []⟩ H σ env ts) (e : env[i]? = some (.dic kds)) (he : SetE env i (.fz (dD kds)) env') (jn : jnk env' vs = true) (ht : noAl ts = true) (I : Nat → List PyData → Prop) (h0 : I 0 [])
    (hs : ∀ (F : Fr) (tx : Ts) (n : Nat) (z : Key × PyData) (acc : List PyData) (H' : Hp) (D : Addr) (v : V), noAl tx = true → F.K = K0 → kds[n]? = some z → I n acc → acc.length ≤ n → Rp F H' (wipe σ vs) env' ((v, .prt (kD z.1) z.2) :: (.ref D, .own acc) :: tx) → g v (wipe σ vs) H' fun σ2 H2 => wipe σ2 vs = wipe σ vs ∧ tt σ2 H2 fun b H3 =>
      if b = true then te σ2 H3 fun y H4 => ∃ acc, H4 D = some (.lst acc) ∧ acc.length < sizeLine ∧ NxL F tx vs σ D (n + 1) (IvE env' I (n + 1)) (upd H4 D (.lst (acc ++ [y]))) else NxL F tx vs σ D (n + 1) (IvE env' I (n + 1)) H3)
    (hd : ∀ (acc : List PyData) (H' : Hp) (v : V), I kds.length acc → acc.length ≤ kds.length → Rp ⟨K0, H0, S0, W, []⟩ H' σ env' ((v, .own acc) :: ts) → Q v H') : tLockE (tLc (iItems (tVar i)) g tt te vs) σ H Q := by
  obtain ⟨S, w, R⟩ := R
  obtain ⟨a, kvs, T, ea, eh, ek, z0, R1⟩ := R.lockIt e
  rw [he.eq] at R1
  refine ⟨a, _, eh, trivial, fun od => ?_⟩
  have R2 := R1 od
  have ei : env'[i]? = some (.fz (dD kds)) := by
    rw [← he.eq, List.getElem?_set_self (lt_of_get e)]
  obtain ⟨v, ev, fv⟩ := R2.fzSlot ei
  rw [ea] at ev
  cases ev
  have R3 := R2.push fv
  refine ⟨_, ea, a, od, kvs, rfl, upd_same, ?_⟩
  refine z_lcG (Qd := fun D H' => H' a = some (.frz od (.dK kvs)) ∧ Q (.ref D) (upd H' a (.dK kvs))) (ity_items (List.mem_cons_self ..) ek) (fun t m => by rw [List.mem_singleton.mp m]; exact List.mem_cons_self ..) ⟨_, _, R3⟩ jn (noAl_cons rfl ht) (IvE env' I) ⟨rfl, h0⟩ ?_ ?_
  · rintro n s env2 acc H' D v hn ⟨z, hz, rfl⟩ ⟨rfl, hI⟩ la jn' R'
    exact hs _ _ n z acc H' D v (noAl_cons rfl ht) rfl hz hI la R'
  · rintro env2 acc H' D ⟨rfl, hI⟩ la R'
    obtain ⟨S, w, R'⟩ := R'.drop2 ht
    obtain ⟨e1, R4⟩ := R'.unlockIt z0
    exact ⟨e1, hd acc _ _ hI la ⟨S, w, R4⟩⟩
end
theorem nodup_le {α : Type} [DecidableEq α] : ∀ {a b : List α}, a.Nodup → (∀ x ∈ a, x ∈ b) → a.length ≤ b.length
  | [], _, _, _ => Nat.zero_le _
  | x :: a, b, n, h => by
    rw [List.nodup_cons] at n
    have hx := h x (List.mem_cons_self ..)
    have := nodup_le (a := a) (b := b.erase x) n.2 fun y hy => (List.mem_erase_of_ne (fun e => n.1 (by rw [← e]; exact hy))).mpr (h y (List.mem_cons_of_mem _ hy))
    rw [List.length_erase_of_mem hx] at this
    have := List.length_pos_of_mem hx
    rw [List.length_cons]
    omega
theorem _root_.L2.Rx.ms_2 {X : Cx} {o : Expr} {m : Str} {apos : Pos} {e f : Expr} {cpos : Pos} (h1 : attributeBase o m X.env (eval o X.env) = eval o X.env := by rfl)
    (h2 : ((backTo cpos (starEach [e, f] X.env)).all (fun x => !x.1) && (backToKw cpos (keywordEach [] X.env)).all (fun x => x.1.isSome) && decide (([e, f] : List Expr).length + ([] : List Keyword).length + (if ([] : List Keyword).isEmpty then 0 else 1) < 30)) = true := by rfl)
    (h3 : (apos.endLine == cpos.line) = true := by rfl) (h4 : backTo cpos (starEach [e, f] X.env) = [(false, eval e X.env), (false, eval f X.env)] := by rfl) : M2 X o m apos e f cpos := ⟨h1, h2, h3, h4⟩
theorem _root_.L2.Rx.r_dget2 {σ : St} {H : Hp} {Q : VK} {td ty tx : TE} (h : td σ H fun x H1 => ∃ a, x = .ref a ∧ IsD H1 a ∧ ty σ H1 fun y H2 => tx σ H2 fun z H3 => ∃ o, DGet H3 a y o ∧ Q (o.getD z) H3) : tDGet2 td ty tx σ H Q := h
/-! ### a dict of counts -/
def kdC (ns : List Str) (f : Str → Nat) : List (Key × PyData) := ns.map fun c => (.inr c, .int (f c))
theorem look_kdC (f : Str → Nat) (c : Str) : ∀ ns : List Str, lookD (kdC ns f) (.inr c) = if c ∈ ns then some (.int (f c)) else none
  | [] => rfl
  | n :: ns => by
    by_cases h : n = c
    · subst h
      simp [lookD, kdC, List.find?_cons]
    · have ih := look_kdC f c ns
      have h' : ¬ c = n := fun z => h z.symm
      simp [lookD, kdC, List.find?_cons, h, h'] at ih ⊢
      exact ih
theorem put_kdC (ns : List Str) (f : Str → Nat) (c : Str) (k : Nat) : putD (kdC ns f) (.inr c) (.int k) = kdC (if c ∈ ns then ns else ns ++ [c]) (fun x => if x = c then k else f x) := by
  unfold putD
  have an : ((kdC ns f).any fun z => decide (z.1 = .inr c)) = decide (c ∈ ns) := by
    rw [kdC, List.any_map, Bool.eq_iff_iff, List.any_eq_true, decide_eq_true_eq]
    constructor
    · rintro ⟨x, hx, e⟩
      simp at e
      rwa [← e]
    · intro h
      exact ⟨c, h, by simp⟩
  rw [an]
  by_cases h : c ∈ ns
  · rw [decide_eq_true h, if_pos rfl, if_pos h, kdC, kdC, List.map_map]
    refine List.map_congr_left fun x _ => ?_
    by_cases e : x = c
    · subst e; simp
    · simp [e]
  · rw [decide_eq_false h, if_neg (by decide), if_neg h, kdC, kdC, List.map_append]
    have : ns.map (fun x => ((Sum.inr x : Key), PyData.int (f x))) = ns.map fun x => ((Sum.inr x : Key), PyData.int ((if x = c then k else f x : Nat))) := by
      refine List.map_congr_left fun x hx => ?_
      have : ¬ x = c := fun e => h (by rw [← e]; exact hx)
      simp [this]
    rw [this]
    simp
end L2.Z

end
section
set_option Elab.async false
set_option linter.all false
set_option maxRecDepth 100000
set_option maxHeartbeats 4000000
local macro_rules | `(tactic| walk_at "rd1") => `(tactic| with_reducible first
  | refine L2.Rx.r_seq ?_ | refine L2.Rx.r_asg ?_ | refine L2.Rx.r_gname ?_ | refine L2.Rx.r_op ?_ | refine L2.Rx.r_c ?_
  | refine L2.Rx.r_var rfl ?_
  | refine L2.Rx.r_rI0 ?_ | refine L2.Rx.r_test ?_ | refine L2.Rx.r_bl ?_ | refine L2.Rx.r_if ?_ | refine L2.Rx.r_ret ?_
  | refine L2.Rx.r_cons ?_ | refine L2.Rx.r_nil ?_ | refine L2.Rx.r_call ?_ | refine L2.Rx.r_cb ?_ | refine L2.Rx.r_next ?_ | refine L2.Rx.r_drop ?_
  | refine L2.Rx.r_gsub ?_ | refine L2.Rx.r_tupF ?_ | refine L2.Rx.r_lst ?_ | refine L2.Rx.r_par ?_ | refine L2.Rx.r_par2 ?_
  | refine L2.Rx.r_un ?_ | refine L2.Rx.r_tb ?_ | refine L2.Rx.r_and ?_ | refine L2.Rx.r_or ?_ | refine L2.Rx.r_not ?_
  | refine L2.Rx.r_andV ?_ | refine L2.Rx.r_orV ?_ | refine L2.Rx.r_notV ?_ | refine L2.Rx.r_ifx ?_ | refine L2.Rx.r_chain ?_
  | refine L2.Rx.r_sl ?_ | refine L2.Rx.r_nopart ?_ | refine L2.Rx.r_part ?_ | refine L2.Rx.r_exint ?_ | refine L2.Rx.r_bm0 ?_ | refine L2.Rx.r_bm ?_
  | refine L2.Rx.r_lc ?_ | refine L2.Rx.r_rng1 ?_ | refine L2.Rx.r_yes ?_ | refine L2.Rx.r_tt ?_ | refine L2.Rx.r_ff ?_ | refine L2.Rx.r_m1 ?_ | refine L2.Rx.r_m0 ?_ | refine L2.Rx.r_isS ?_
  | (refine L2.Rx.r_wipe (by with_unfolding_all rfl) ?_) | (refine L2.Rx.r_tyL (by walk_at "hp") ?_)
  | refine L2.Rx.r_addS (by walk_at "len") ?_ | refine L2.Rx.r_lenS (by walk_at "len") ?_ | refine L2.Rx.r_slS (by walk_at "len") ?_
  | refine L2.Rx.r_dnotin ?_ | refine L2.Rx.r_dget ?_ | refine L2.Rx.r_dget1 ?_ | refine L2.Rx.r_dput ?_ | refine L2.Rx.r_dpop1 ?_ | refine L2.Rx.r_isN ?_
  | refine L2.Rx.r_for ?_ | refine L2.Rx.r_ilist ?_ | refine L2.Rx.r_itup ?_
  | refine L2.Rx.r_gcons ?_ | refine L2.Rx.r_gnil ?_ | (refine L2.Rx.r_gtupP (by assumption) (by walk_at "at") ?_)
  | (refine L2.Rx.r_rEq rfl ?_) | (refine L2.Rx.r_rNe rfl ?_)
  | refine L2.Rx.r_rU ?_ | refine L2.Rx.r_max2 ?_ | refine L2.Rx.r_min2 ?_ | refine L2.Rx.r_int1i ?_ | (refine L2.Rx.r_lenh (by walk_at "hp") ?_)
  | (refine L2.Rx.r_ixLh (by walk_at "hp") (by walk_at "at") ?_)
  | (refine L2.Rx.r_setL (by walk_at "hp") (by walk_at "at") ?_))
local macro_rules | `(tactic| walk_at "at") => `(tactic| with_unfolding_all rfl)
local macro_rules | `(tactic| walk_at "rd") => `(tactic| (repeat walk_at "rd1"))
local macro_rules | `(tactic| walk_at "hp") => `(tactic| first
  | assumption
  | exact L2.upd_same
  | (refine Eq.trans (L2.upd_ne ?_) ?_; (focus walk_at "ne"); (focus walk_at "hp"))
  | (refine L2.Rx.Kp.at0 (by assumption) ?_; walk_at "hp")
  | (refine L2.Rx.Kp.at1 (by assumption) ?_ ?_; (focus walk_at "ne"); (focus walk_at "hp")))
local macro_rules | `(tactic| walk_at "ne") => `(tactic| first
  | assumption | exact Ne.symm (by assumption)
  | (refine L2.ne_of_none (H := ?nH) (o := ?nO) ?nh ?nn; (case nn => assumption); (case nh => walk_at "hp"))
  | (refine Ne.symm (L2.ne_of_none (H := ?nH) (o := ?nO) ?nh ?nn); (case nn => assumption); (case nh => walk_at "hp")))
local macro_rules | `(tactic| walk_at "len") => `(tactic| (rw [PySem.sizeLine_eq]; omega))
local macro_rules | `(tactic| walk_at "nin") => `(tactic| first
  | exact List.not_mem_nil
  | (refine L2.Rx.nin1 ?_; walk_at "ne"))
local macro_rules | `(tactic| walk_at "none") => `(tactic| first
  | assumption
  | (refine L2.Rx.Kp.none0 (by assumption) ?_ ?_; (focus walk_at "nin"); (focus walk_at "none")))
namespace L2.Z
open PySem PySem.Spec L2.Rx in
theorem _root_.L2.Rx.RoomG.units65 {k : Nat} {A : Around} (r : RoomG k A) : A.units + 65 < cLine := by
  have := r.up.un
  omega
open PySem PySem.Spec PyProof.Rows L2.Rx
/-! ### x in xs, x not in xs: data in a list or a tuple of data -/
def rInA (K : PySem.W.Frag) (neg : Bool) : R2 := fun x y H Q => ∃ d e ds, Sq e ds ∧ Dp K H x d ∧ Dp K H y e ∧ SeqAt.shaped d = true ∧ SeqAt.shaped e = true ∧ Q (.bl (if neg then !(ds.any fun z => PyData.eqv z d) else ds.any fun z => PyData.eqv z d)) H
theorem op_inA {X : Cx} (hu : X.A.units + 65 < cLine) : OpR X (compareOp .In) (rInA X.K false) := by
  intro pins s σ H x y v u Q I rx ry h
  obtain ⟨d, e, ds, sq, hd, he, sd, se, q⟩ := h
  obtain ⟨as, r1⟩ := Dp.reads I d x v hd rx
  obtain ⟨bs, r2⟩ := Dp.reads I e y u he ry
  cases sq with
  | l => exact SeqAt.in_list_reads r2 r1 (SeqAt.canLay_of_shaped se) (SeqAt.canLay_of_shaped sd) (room_in_shaped sd hu) ⟨.bl _, H, I, rfl, q⟩
  | t => exact SeqAt.in_tuple_reads r2 r1 (SeqAt.canLay_of_shaped se) (SeqAt.canLay_of_shaped sd) (room_in_shaped sd hu) ⟨.bl _, H, I, rfl, q⟩
theorem op_notinA {X : Cx} (hu : X.A.units + 65 < cLine) : OpR X (compareOp .NotIn) (rInA X.K true) := by
  intro pins s σ H x y v u Q I rx ry h
  obtain ⟨d, e, ds, sq, hd, he, sd, se, q⟩ := h
  obtain ⟨as, r1⟩ := Dp.reads I d x v hd rx
  obtain ⟨bs, r2⟩ := Dp.reads I e y u he ry
  cases sq with
  | l => exact SeqAt.notIn_list_reads r2 r1 (SeqAt.canLay_of_shaped se) (SeqAt.canLay_of_shaped sd) (room_in_shaped sd hu) ⟨.bl _, H, I, rfl, q⟩
  | t => exact SeqAt.notIn_tuple_reads r2 r1 (SeqAt.canLay_of_shaped se) (SeqAt.canLay_of_shaped sd) (room_in_shaped sd hu) ⟨.bl _, H, I, rfl, q⟩
/-! ### data that tells what it is -/
theorem eqv_int (a b : Int) : PyData.eqv (.int a) (.int b) = decide (a = b) := by rw [PyData.eqv, Bool.eq_iff_iff, beq_iff_eq, decide_eq_true_eq]
theorem eqv_str (a b : Str) : PyData.eqv (.str a) (.str b) = decide (a = b) := by rw [PyData.eqv, Bool.eq_iff_iff, beq_iff_eq, decide_eq_true_eq]
theorem eqv_bool (a b : Bool) : PyData.eqv (.bool a) (.bool b) = decide (a = b) := by rw [PyData.eqv, Bool.eq_iff_iff, beq_iff_eq, decide_eq_true_eq]
theorem eqvs {α : Type} [DecidableEq α] {enc : α → PyData} (h : ∀ a b, PyData.eqv (enc a) (enc b) = decide (a = b)) : ∀ xs ys : List α, PyData.eqvAll (xs.map enc) (ys.map enc) = decide (xs = ys)
  | [], [] => by rw [List.map_nil, PyData.eqvAll, decide_eq_true rfl]
  | [], _ :: _ => by rw [List.map_nil, List.map_cons, PyData.eqvAll]; simp
  | _ :: _, [] => by rw [List.map_nil, List.map_cons, PyData.eqvAll]; simp
  | x :: xs, y :: ys => by
    rw [List.map_cons, List.map_cons, PyData.eqvAll, h, eqvs h xs ys]
    by_cases e : x = y <;> by_cases e2 : xs = ys <;> simp [e, e2]
theorem eqv_tup {α : Type} [DecidableEq α] {enc : α → PyData} (h : ∀ a b, PyData.eqv (enc a) (enc b) = decide (a = b)) (xs ys : List α) : PyData.eqv (.tuple (xs.map enc)) (.tuple (ys.map enc)) = decide (xs = ys) := by rw [PyData.eqv, eqvs h]
theorem eqv_lst {α : Type} [DecidableEq α] {enc : α → PyData} (h : ∀ a b, PyData.eqv (enc a) (enc b) = decide (a = b)) (xs ys : List α) : PyData.eqv (.list (xs.map enc)) (.list (ys.map enc)) = decide (xs = ys) := by rw [PyData.eqv, eqvs h]
theorem eqv_pr (a b : Str × Int) : PyData.eqv (prD a) (prD b) = decide (a = b) := by
  obtain ⟨a, i⟩ := a
  obtain ⟨b, j⟩ := b
  rw [prD, prD, PyData.eqv, PyData.eqvAll, PyData.eqvAll, PyData.eqvAll, eqv_str, eqv_int]
  by_cases e : a = b <;> by_cases e2 : i = j <;> simp [e, e2]
theorem eqv_log (a b : Lg) : PyData.eqv (logD a) (logD b) = decide (a = b) := eqv_tup eqv_pr a b
theorem eqv_logs (a b : List Lg) : PyData.eqv (logsD a) (logsD b) = decide (a = b) := eqv_tup eqv_log a b
theorem any_eqv {α : Type} [DecidableEq α] {enc : α → PyData} (h : ∀ a b, PyData.eqv (enc a) (enc b) = decide (a = b)) (x : α) (xs : List α) : ((xs.map enc).any fun z => PyData.eqv z (enc x)) = decide (x ∈ xs) := by
  rw [List.any_map, Bool.eq_iff_iff, List.any_eq_true, decide_eq_true_eq]
  constructor
  · rintro ⟨y, hy, e⟩
    have e2 : decide (y = x) = true := by rw [← h]; exact e
    rw [← of_decide_eq_true e2]
    exact hy
  · intro hx
    exact ⟨x, hx, by show PyData.eqv _ _ = true; rw [h, decide_eq_true rfl]⟩
theorem cmp_log {l : Lg} (h : ∀ z ∈ l, Cell z.1) : Cmp (logD l) := ⟨log_shp h, Nat.le_trans (log_depth l) (by decide)⟩
theorem cmp_logL {ls : List Lg} (h : ∀ l ∈ ls, ∀ z ∈ l, Cell z.1) : Cmp (.list (ls.map logD)) := by
  refine ⟨?_, ?_⟩
  · rw [shp]; exact shps_mem fun d hd => by obtain ⟨l, hl, rfl⟩ := List.mem_map.mp hd; exact log_shp (h l hl)
  · rw [PyData.depth]
    have := depth_mem (ds := ls.map logD) (n := 2) fun d hd => by obtain ⟨l, hl, rfl⟩ := List.mem_map.mp hd; exact log_depth l
    omega
theorem cmp_logs {ls : List Lg} (h : ∀ l ∈ ls, ∀ z ∈ l, Cell z.1) : Cmp (logsD ls) := by
  refine ⟨?_, ?_⟩
  · rw [logsD, shp]; exact shps_mem fun d hd => by obtain ⟨l, hl, rfl⟩ := List.mem_map.mp hd; exact log_shp (h l hl)
  · rw [logsD, PyData.depth]
    have := depth_mem (ds := ls.map logD) (n := 2) fun d hd => by obtain ⟨l, hl, rfl⟩ := List.mem_map.mp hd; exact log_depth l
    omega
theorem cmp_pr {z : Str × Int} (h : Cell z.1) : Cmp (prD z) := ⟨by rw [prD, shp, shps, shps, shps, shp, shp, h.ok]; rfl, Nat.le_trans (Nat.le_of_eq (pair_depth z)) (by decide)⟩
section
variable {F : Fr} {H : Hp} {σ : St} {env env' : List Sl} {ts : Ts} {v x y : V} {d d1 d2 : PyData} {ds es : List PyData} {Q : VK} {i : Nat} {s s1 s2 : Sl} {K : PySem.W.Frag}
theorem z_inA {neg : Bool} {α : Type} [DecidableEq α] {enc : α → PyData} {a : α} {as : List α} (hK : F.K = K) (R : Rp F H σ env ((y, s2) :: (x, s1) :: ts)) (e1 : asV env s1 = some (enc a)) (e2 : asV env s2 = some d) (q : Sq d (as.map enc)) (c1 : Cmp (enc a)) (c2 : Cmp d) (he : ∀ a b, PyData.eqv (enc a) (enc b) = decide (a = b))
    (h : ∀ v, Rp F H σ env ((v, .fz (.bool (if neg then !decide (a ∈ as) else decide (a ∈ as)))) :: ts) → Q v H) : rInA K neg x y H Q := by
  subst hK
  obtain ⟨A, B, R⟩ := R.q2 e1 e2 c1.noD c2.noD
  refine ⟨_, _, _, q, A.dp, B.dp, shaped_of c1.s c1.n, shaped_of c2.s c2.n, ?_⟩
  rw [any_eqv he]
  exact h _ (R.bl _)
theorem z_intB {b : Bool} (R : Rp F H σ env ((x, .fz (.bool b)) :: ts)) (h : ∀ v, Rp F H σ env ((v, .fz (.int (if b then 1 else 0))) :: ts) → Q v H) : rInt1 [x] H Q := by
  obtain ⟨S, w, R⟩ := R
  exact .inr ⟨b, by rw [R.top.b], h _ (Rp.int ⟨S, w, R.pop⟩ _)⟩
theorem z_rep {k : Int} (R : Rp F H σ env ((y, .fz (.int k)) :: (x, s) :: ts)) (e : asV env s = some (.list ds)) (k0 : -(2 ^ 63) ≤ k) (k1 : k < 2 ^ 63) (l : ds.length * k.toNat ≤ 1000000) (h : ∀ v H', Rp F H' σ env ((v, .own (List.replicate k.toNat ds).flatten) :: ts) → Q v H') : rRep x y H Q := by
  obtain ⟨S, w, R⟩ := R
  obtain ⟨p, xs, rfl, r, f⟩ := R.pop.valL e
  refine ⟨p, k, xs, rfl, R.top.i, r, k0, k1, by rw [f.len, sizeLine_eq]; omega, fun q nq => h _ _ ⟨_, _, R.pop.pop.newL nq ?_⟩⟩
  generalize k.toNat = n
  induction n with
  | zero => exact .nil
  | succ n ih => rw [List.replicate_succ, List.replicate_succ, List.flatten_cons, List.flatten_cons]; exact f.append ih
/-- the box holds at least so much -/
theorem Rp.boxMono {n m : Nat} (R : Rp F H σ env ts) (e : env[i]? = some (.box n)) (h : m ≤ n) (he : SetE env i (.box m) env') : Rp F H σ env' ts := by
  obtain ⟨S, w, R⟩ := R
  obtain ⟨b, _, B, _, k⟩ := R.boxSlot e
  have := k H m Kp.refl (B.mono h)
  rw [he.eq] at this
  exact ⟨S, w, this⟩
end
end L2.Z

end
section
set_option Elab.async false
set_option linter.all false
set_option maxRecDepth 100000
set_option maxHeartbeats 4000000
local macro_rules | `(tactic| walk_at "rd1") => `(tactic| with_reducible first
  | refine L2.Rx.r_seq ?_ | refine L2.Rx.r_asg ?_ | refine L2.Rx.r_gname ?_ | refine L2.Rx.r_op ?_ | refine L2.Rx.r_c ?_
  | refine L2.Rx.r_var rfl ?_
  | refine L2.Rx.r_rI0 ?_ | refine L2.Rx.r_test ?_ | refine L2.Rx.r_bl ?_ | refine L2.Rx.r_if ?_ | refine L2.Rx.r_ret ?_
  | refine L2.Rx.r_cons ?_ | refine L2.Rx.r_nil ?_ | refine L2.Rx.r_call ?_ | refine L2.Rx.r_cb ?_ | refine L2.Rx.r_next ?_ | refine L2.Rx.r_drop ?_
  | refine L2.Rx.r_gsub ?_ | refine L2.Rx.r_tupF ?_ | refine L2.Rx.r_lst ?_ | refine L2.Rx.r_par ?_ | refine L2.Rx.r_par2 ?_
  | refine L2.Rx.r_un ?_ | refine L2.Rx.r_tb ?_ | refine L2.Rx.r_and ?_ | refine L2.Rx.r_or ?_ | refine L2.Rx.r_not ?_
  | refine L2.Rx.r_andV ?_ | refine L2.Rx.r_orV ?_ | refine L2.Rx.r_notV ?_ | refine L2.Rx.r_ifx ?_ | refine L2.Rx.r_chain ?_
  | refine L2.Rx.r_sl ?_ | refine L2.Rx.r_nopart ?_ | refine L2.Rx.r_part ?_ | refine L2.Rx.r_exint ?_ | refine L2.Rx.r_bm0 ?_ | refine L2.Rx.r_bm ?_
  | refine L2.Rx.r_lc ?_ | refine L2.Rx.r_rng1 ?_ | refine L2.Rx.r_yes ?_ | refine L2.Rx.r_tt ?_ | refine L2.Rx.r_ff ?_ | refine L2.Rx.r_m1 ?_ | refine L2.Rx.r_m0 ?_ | refine L2.Rx.r_isS ?_
  | (refine L2.Rx.r_wipe (by with_unfolding_all rfl) ?_) | (refine L2.Rx.r_tyL (by walk_at "hp") ?_)
  | refine L2.Rx.r_addS (by walk_at "len") ?_ | refine L2.Rx.r_lenS (by walk_at "len") ?_ | refine L2.Rx.r_slS (by walk_at "len") ?_
  | refine L2.Rx.r_dnotin ?_ | refine L2.Rx.r_dget ?_ | refine L2.Rx.r_dget1 ?_ | refine L2.Rx.r_dput ?_ | refine L2.Rx.r_dpop1 ?_ | refine L2.Rx.r_isN ?_
  | refine L2.Rx.r_for ?_ | refine L2.Rx.r_ilist ?_ | refine L2.Rx.r_itup ?_
  | refine L2.Rx.r_gcons ?_ | refine L2.Rx.r_gnil ?_ | (refine L2.Rx.r_gtupP (by assumption) (by walk_at "at") ?_)
  | (refine L2.Rx.r_rEq rfl ?_) | (refine L2.Rx.r_rNe rfl ?_)
  | refine L2.Rx.r_rU ?_ | refine L2.Rx.r_max2 ?_ | refine L2.Rx.r_min2 ?_ | refine L2.Rx.r_int1i ?_ | (refine L2.Rx.r_lenh (by walk_at "hp") ?_)
  | (refine L2.Rx.r_ixLh (by walk_at "hp") (by walk_at "at") ?_)
  | (refine L2.Rx.r_setL (by walk_at "hp") (by walk_at "at") ?_))
local macro_rules | `(tactic| walk_at "at") => `(tactic| with_unfolding_all rfl)
local macro_rules | `(tactic| walk_at "rd") => `(tactic| (repeat walk_at "rd1"))
local macro_rules | `(tactic| walk_at "hp") => `(tactic| first
  | assumption
  | exact L2.upd_same
  | (refine Eq.trans (L2.upd_ne ?_) ?_; (focus walk_at "ne"); (focus walk_at "hp"))
  | (refine L2.Rx.Kp.at0 (by assumption) ?_; walk_at "hp")
  | (refine L2.Rx.Kp.at1 (by assumption) ?_ ?_; (focus walk_at "ne"); (focus walk_at "hp")))
local macro_rules | `(tactic| walk_at "ne") => `(tactic| first
  | assumption | exact Ne.symm (by assumption)
  | (refine L2.ne_of_none (H := ?nH) (o := ?nO) ?nh ?nn; (case nn => assumption); (case nh => walk_at "hp"))
  | (refine Ne.symm (L2.ne_of_none (H := ?nH) (o := ?nO) ?nh ?nn); (case nn => assumption); (case nh => walk_at "hp")))
local macro_rules | `(tactic| walk_at "len") => `(tactic| (rw [PySem.sizeLine_eq]; omega))
local macro_rules | `(tactic| walk_at "nin") => `(tactic| first
  | exact List.not_mem_nil
  | (refine L2.Rx.nin1 ?_; walk_at "ne"))
local macro_rules | `(tactic| walk_at "none") => `(tactic| first
  | assumption
  | (refine L2.Rx.Kp.none0 (by assumption) ?_ ?_; (focus walk_at "nin"); (focus walk_at "none")))
namespace L2.Z
open PySem PySem.Spec PyProof.Rows L2.Rx
/-! ### the paths of a tree -/
theorem mem_brp {c : Str} {bs : List (Int × Tr)} {p : Lg} (h : p ∈ brp c bs) : ∃ z ∈ bs, ∃ q ∈ z.2.paths, p = (c, z.1) :: q := by
  rw [brp_eq] at h
  obtain ⟨z, hz, h⟩ := List.mem_flatMap.mp h
  obtain ⟨q, hq, rfl⟩ := List.mem_map.mp h
  exact ⟨z, hz, q, hq, rfl⟩
theorem _root_.L2.Rx.Okt.path {n : Nat} {cs : List Str} {t : Tr} (h : Okt n cs t) : ∀ p ∈ t.paths, (p.map Prod.fst).Nodup ∧ (∀ c ∈ p.map Prod.fst, c ∈ cs) ∧ p.length ≤ n ∧ ∀ z ∈ p, 0 ≤ z.2 ∧ z.2 ≤ 1000000000 := by
  induction h with
  | lf n cs =>
    intro p hp
    rw [Tr.paths, List.mem_singleton] at hp
    subst hp
    exact ⟨List.nodup_nil, fun _ h => (nomatch h), Nat.zero_le _, fun _ h => (nomatch h)⟩
  | @nd n cs cs' c bs h1 h2 h3 h4 h5 h6 h7 h8 ih =>
    intro p hp
    rw [Tr.paths] at hp
    obtain ⟨z, hz, q, hq, rfl⟩ := mem_brp hp
    obtain ⟨a, b, l, d⟩ := ih z hz q hq
    refine ⟨?_, ?_, by rw [List.length_cons]; omega, ?_⟩
    · rw [List.map_cons, List.nodup_cons]
      exact ⟨fun m => h2 (b _ m), a⟩
    · intro x hx
      rw [List.map_cons] at hx
      rcases List.mem_cons.mp hx with e | m
      · exact e ▸ h1
      · exact h3 x (b x m)
    · intro y hy
      rcases List.mem_cons.mp hy with e | m
      · rw [e]; exact h7 z hz
      · exact d y m
theorem _root_.L2.Rx.Okt.apart {n : Nat} {cs : List Str} {t : Tr} (h : Okt n cs t) : t.paths.Pairwise fun p q => ¬ p.Perm q := by
  induction h with
  | lf n cs => rw [Tr.paths]; exact List.pairwise_singleton _ _
  | @nd n cs cs' c bs h1 h2 h3 h4 h5 h6 h7 h8 ih =>
    rw [Tr.paths]
    clear h4 h5 h7
    induction bs with
    | nil => rw [brp]; exact List.Pairwise.nil
    | cons z r ihr =>
      obtain ⟨v, t⟩ := z
      rw [List.map_cons, List.pairwise_cons] at h6
      rw [brp, List.pairwise_append]
      refine ⟨?_, ihr h6.2 (fun p hp => h8 p (List.mem_cons_of_mem _ hp)) (fun p hp => ih p (List.mem_cons_of_mem _ hp)), ?_⟩
      · rw [List.pairwise_map]
        exact (ih (v, t) (List.mem_cons_self ..)).imp fun ne pm => ne pm.cons_inv
      · intro p hp q hq pm
        obtain ⟨p', hp', rfl⟩ := List.mem_map.mp hp
        obtain ⟨z, hz, q', hq', rfl⟩ := mem_brp hq
        have m := pm.mem_iff.mp (List.mem_cons_self ..)
        rcases List.mem_cons.mp m with e | m
        · have : v = z.1 := (Prod.mk.inj e).2
          have := h6.1 z.1 (List.mem_map_of_mem hz)
          omega
        · exact h2 (((h8 z (List.mem_cons_of_mem _ hz)).path q' hq').2.1 c (List.mem_map_of_mem (f := Prod.fst) m))
theorem apart_nd {zs : List (Lg × Lg)} {ps : List Lg} (pm : (zs.map Prod.snd).Perm ps) (ap : ps.Pairwise fun p q => ¬ p.Perm q) (h : ∀ z ∈ zs, z.1.Perm z.2) : (zs.map Prod.fst).Nodup := by
  have a2 : (zs.map Prod.snd).Pairwise fun p q => ¬ p.Perm q := (pm.pairwise_iff (fun {x y} n e => n e.symm)).mpr ap
  rw [List.pairwise_map] at a2
  rw [List.nodup_iff_pairwise_ne, List.pairwise_map]
  refine List.Pairwise.imp_of_mem ?_ a2
  intro a b ha hb n e
  exact n ((h a ha).symm.trans (e ▸ h b hb))
/-! ### slices of tuples; xs.pop(i); the remainder -/
end L2.Z
namespace L2.Rx
open PySem PySem.Spec PyProof.Rows
def rSlF (K : PySem.W.Frag) : V → Option Int → Option Int → Hp → VK → Prop := fun x lo hi H Q => ∃ a xs, x = .ref a ∧ SqT K H a xs ∧
  ((HT.sIx xs.length 0 lo = 0 ∧ HT.sIx xs.length xs.length hi = xs.length) → Q (.ref a) H) ∧ (∀ (p : Addr) (o : Obj), H p = none → o.dict = none → Q (.ref p) (upd H p (.frz o (.tup (cutV xs lo hi)))))
theorem sl_tupF {X : Cx} : SlR X (rSlF X.K) := by
  intro pins s σ H x v vl vu lo hi sl Q I rx hs pl pu h
  obtain ⟨a, xs, rfl, hx, q1, q2⟩ := h
  cases rx
  obtain ⟨its, r, ht, hz⟩ := I.tuple hx
  have hlen : its.toArray.size = xs.length := by rw [List.size_toArray]; exact r.length.symm
  refine ⟨"tuple", _, PyProof.Rows.slot_tuple_getitem.lookup, ht.typeIs, ?_⟩
  by_cases hw : HT.sIx xs.length 0 lo = 0 ∧ HT.sIx xs.length xs.length hi = xs.length
  · exact getItem_tuple_whole ht hs pl pu (by rw [hlen]; exact hw) ⟨.ref a, H, I, rfl, q1 hw⟩
  · refine HT.getItem_tuple_cut ht hs pl pu (by rw [hlen]; exact hw) ?_ (by rw [hlen]; exact hz)
    rw [hlen]
    refine ⟨.ref s.heap.objs.size, _, I.laid (t' := s.toks) (o := .frz _ (.tup (cutV xs lo hi))) (fun b ob q => Heap.get?_push_of_some _ q) (Nat.le_refl _) ⟨Heap.get?_push_size _ rfl, ?_⟩, rfl, q2 _ _ (I.hok.fresh (Nat.le_refl _)) rfl⟩
    exact ⟨Nat.le_trans (cutV_length xs lo hi) hz, _, (r.drop (HT.sIx xs.length 0 lo)).take (HT.sIx xs.length xs.length hi - HT.sIx xs.length 0 lo), IsTup.new _ _⟩
end L2.Rx
namespace L2.Z
open PySem PySem.Spec PyProof.Rows L2.Rx
section
variable {F : Fr} {H H' : Hp} {S T : List Addr} {σ : St} {env env' : List Sl} {ts : Ts} {w : Addr → Nat} {v x y z : V} {d d1 d2 d3 : PyData} {ds es : List PyData} {Q : VK} {i j : Nat} {s s1 s2 s3 : Sl} {xs ys : List V} {p : Addr} {K : PySem.W.Frag}
theorem z_slT {lo hi : Option Int} (R : Rp F H σ env ((x, .fz (.tuple ds)) :: ts)) (h : ∀ v H', Rp F H' σ env ((v, .fz (.tuple (cutD ds lo hi))) :: ts) → Q v H') : rSlF K x lo hi H Q := by
  obtain ⟨S, w, R⟩ := R
  obtain ⟨a, xs, rfl, na, ra, f⟩ := R.top.t
  refine ⟨a, xs, rfl, ra.sq, fun e => ?_, fun p o np od => h _ _ ⟨_, _, R.pop.newT np od (f.cutV lo hi)⟩⟩
  have : cutD ds lo hi = ds := by
    unfold cutD
    rw [← f.len, e.1, e.2, List.drop_zero, Nat.sub_zero, f.len, List.take_length]
  refine h _ _ ⟨S, w, ?_⟩
  rw [this]
  exact R
theorem fz_rm : ∀ {ds : List PyData} {xs : List V} (n : Nat), FzAll S H xs ds → FzAll S H (xs.eraseIdx n) (ds.eraseIdx n)
  | _, _, 0, .nil => .nil
  | _, _, n + 1, .nil => .nil
  | _, _, 0, .cons _ h => h
  | _, _, n + 1, .cons g h => .cons g (fz_rm n h)
theorem y_popAt {k : Int} (R : Rp F H σ env ((y, .fz (.int k)) :: (x, .al i) :: ts)) (e : env[i]? = some (.own ds)) (k0 : 0 ≤ k) (k1 : k < 1000000000) (a : ds[k.toNat]? = some d) (he : SetE env i (.own (ds.eraseIdx k.toNat)) env') (h : ∀ v H', Rp F H' σ env' ((v, .fz d) :: ts) → Q v H') : rPopAt x [y] H Q := by
  have he := he.eq
  subst he
  obtain ⟨S, w, R⟩ := R
  obtain rfl := R.top.i
  obtain ⟨a', xs, e1, e2, e3, k'⟩ := R.pop.pop.ownSlot e
  have e4 := R.alSlot (List.mem_cons_of_mem _ (List.mem_cons_self ..))
  rw [e1] at e4
  cases e4
  obtain ⟨u, eu, fu⟩ := e3.at' a
  refine r_popAt e2 k0 k1 eu (h _ _ ⟨S, w, (k' _ _ (fz_rm _ e3)).push ?_⟩)
  obtain ⟨aS, _⟩ : a' ∈ S ∧ True := by
    obtain ⟨x, ex, sx⟩ := R.slots i _ e
    cases sx with | own _ _ m =>
      rw [e1] at ex
      cases ex
      exact ⟨m.s, trivial⟩
  exact fz_upd aS fu
theorem cutD_lo (ds : List PyData) (c : Nat) : cutD ds none (some (c : Int)) = ds.take c := by
  unfold cutD
  rw [HT.sIx_nat, HT.sIx_none, List.drop_zero, Nat.sub_zero]
  by_cases h : c ≤ ds.length
  · rw [Nat.min_eq_left h]
  · rw [Nat.min_eq_right (by omega), List.take_of_length_le (Nat.le_refl _), List.take_of_length_le (by omega)]
theorem cutD_hi (ds : List PyData) (c : Nat) : cutD ds (some ((c : Int) + 1)) none = ds.drop (c + 1) := by
  unfold cutD
  rw [show ((c : Int) + 1) = ((c + 1 : Nat) : Int) from rfl, HT.sIx_nat, HT.sIx_none]
  by_cases h : c + 1 ≤ ds.length
  · rw [Nat.min_eq_left h, List.take_of_length_le (by rw [List.length_drop]; omega)]
  · rw [Nat.min_eq_right (by omega), List.drop_of_length_le (Nat.le_refl _), List.drop_of_length_le (by omega), List.take_nil]
theorem cutD_one (ds : List PyData) (c : Nat) : cutD ds (some (c : Int)) (some ((c : Int) + 1)) = (ds.drop c).take 1 := by
  unfold cutD
  rw [show ((c : Int) + 1) = ((c + 1 : Nat) : Int) from rfl, HT.sIx_nat, HT.sIx_nat]
  by_cases h : c + 1 ≤ ds.length
  · rw [Nat.min_eq_left h, Nat.min_eq_left (by omega), Nat.add_sub_cancel_left]
  · rw [Nat.min_eq_right (by omega), Nat.min_eq_right (by omega), List.drop_of_length_le (Nat.le_refl _), List.drop_of_length_le (by omega), List.take_nil, List.take_nil]
end
/-! ### the order of a log's pairs is that of its cells -/
theorem lt_prD {x y : Str × Int} (h : x.1 ≠ y.1) : PySem.W.dataLt (prD x) (prD y) = decide (x.1.cps.toList < y.1.cps.toList) := by
  have e : PyData.eqv (.str x.1) (.str y.1) = false := by rw [eqv_str]; exact decide_eq_false h
  rw [prD, prD, PySem.W.dataLt_tuple, PySem.W.dataLt_all_no (by rw [PySem.W.alike]) e, PySem.W.dataLt_str]
theorem ord_iff {l : Lg} (nd : (l.map Prod.fst).Nodup) : (l.Pairwise fun x y => PySem.W.dataLt (prD y) (prD x) = false) ↔ (l.map Prod.fst).Pairwise fun a b => ¬ b.cps.toList < a.cps.toList := by
  rw [List.pairwise_map]
  have nd : l.Pairwise fun x y => x.1 ≠ y.1 := by
    rw [List.nodup_iff_pairwise_ne, List.pairwise_map] at nd
    exact nd
  constructor
  · intro h
    refine (h.and nd).imp fun {a b} ⟨h1, h2⟩ => ?_
    rw [lt_prD (Ne.symm h2)] at h1
    exact of_decide_eq_false h1
  · intro h
    refine (h.and nd).imp fun {a b} ⟨h1, h2⟩ => ?_
    rw [lt_prD (Ne.symm h2)]
    exact decide_eq_false h1
theorem ord_names {l m : Lg} (e : l.map Prod.fst = m.map Prod.fst) (nd : (m.map Prod.fst).Nodup) (h : m.Pairwise fun x y => PySem.W.dataLt (prD y) (prD x) = false) : l.Pairwise fun x y => PySem.W.dataLt (prD y) (prD x) = false := by
  rw [ord_iff (by rw [e]; exact nd), e]
  exact (ord_iff nd).mp h
/-- the log with the value at one place one more -/
def bump (l : Lg) (c : Nat) : Lg := l.take c ++ ((l.drop c).take 1).map (fun z => (z.1, (z.2 + 1) % 1000000000)) ++ l.drop (c + 1)
theorem bump_fst (l : Lg) (c : Nat) : (bump l c).map Prod.fst = l.map Prod.fst := by
  have e : l = l.take c ++ (l.drop c).take 1 ++ l.drop (c + 1) := by
    have h1 : l.drop c = (l.drop c).take 1 ++ (l.drop c).drop 1 := (List.take_append_drop 1 (l.drop c)).symm
    rw [List.drop_drop] at h1
    rw [List.append_assoc, ← h1, List.take_append_drop]
  unfold bump
  conv => rhs; rw [e]
  simp only [List.map_append, List.map_map]
  rfl
theorem bump_len (l : Lg) (c : Nat) : (bump l c).length = l.length := by
  have := congrArg List.length (bump_fst l c)
  rw [List.length_map, List.length_map] at this
  exact this
theorem bump_ok {l : Lg} (h : LgOk l) (c : Nat) : LgOk (bump l c) := by
  refine ⟨by rw [bump_fst]; exact h.nd, by rw [bump_len]; exact h.len, fun z hz => ?_, fun z hz => ?_⟩
  · have m : z.1 ∈ (bump l c).map Prod.fst := List.mem_map_of_mem hz
    rw [bump_fst] at m
    obtain ⟨y, hy, e⟩ := List.mem_map.mp m
    rw [← e]
    exact h.cell y hy
  · unfold bump at hz
    rcases List.mem_append.mp hz with hz | hz
    · rcases List.mem_append.mp hz with hz | hz
      · exact h.val z (List.mem_of_mem_take hz)
      · obtain ⟨y, hy, rfl⟩ := List.mem_map.mp hz
        have := Int.emod_nonneg (y.2 + 1) (by decide : (1000000000 : Int) ≠ 0)
        have := Int.emod_lt_of_pos (y.2 + 1) (by decide : (0 : Int) < 1000000000)
        exact ⟨by assumption, by show (y.2 + 1) % 1000000000 ≤ _; omega⟩
    · exact h.val z (List.mem_of_mem_drop hz)
theorem bump_d (l : Lg) (c : Nat) : (bump l c).map prD = (l.map prD).take c ++ ((l.drop c).take 1).map (fun z => PyData.tuple [.str z.1, .int ((z.2 + 1) % 1000000000)]) ++ (l.map prD).drop (c + 1) := by
  unfold bump
  rw [List.map_append, List.map_append, List.map_map, List.map_take, List.map_drop]
  rfl
/-! ### calls with every argument by its name -/
def pm10 {α : Type} : List α → List α
  | [a, b] => [b, a]
  | r => r
theorem vals_pm10 {zs : List V} {ws : List Value} (t0 : Vals zs ws) : Vals (pm10 zs) (pm10 ws) := by
  cases t0 with
  | nil => exact .nil
  | cons h1 t1 =>
    cases t1 with
    | nil => exact .cons h1 (.nil)
    | cons h2 t2 =>
      cases t2 with
      | nil => exact .cons h2 (.cons h1 (.nil))
      | cons h t => exact .cons h1 (.cons h2 (.cons h t))
def pm021 {α : Type} : List α → List α
  | [a, b, c] => [a, c, b]
  | r => r
theorem vals_pm021 {zs : List V} {ws : List Value} (t0 : Vals zs ws) : Vals (pm021 zs) (pm021 ws) := by
  cases t0 with
  | nil => exact .nil
  | cons h1 t1 =>
    cases t1 with
    | nil => exact .cons h1 (.nil)
    | cons h2 t2 =>
      cases t2 with
      | nil => exact .cons h1 (.cons h2 (.nil))
      | cons h3 t3 =>
        cases t3 with
        | nil => exact .cons h1 (.cons h3 (.cons h2 (.nil)))
        | cons h t => exact .cons h1 (.cons h2 (.cons h3 (.cons h t)))
def pm102 {α : Type} : List α → List α
  | [a, b, c] => [b, a, c]
  | r => r
theorem vals_pm102 {zs : List V} {ws : List Value} (t0 : Vals zs ws) : Vals (pm102 zs) (pm102 ws) := by
  cases t0 with
  | nil => exact .nil
  | cons h1 t1 =>
    cases t1 with
    | nil => exact .cons h1 (.nil)
    | cons h2 t2 =>
      cases t2 with
      | nil => exact .cons h1 (.cons h2 (.nil))
      | cons h3 t3 =>
        cases t3 with
        | nil => exact .cons h2 (.cons h1 (.cons h3 (.nil)))
        | cons h t => exact .cons h1 (.cons h2 (.cons h3 (.cons h t)))
def pm120 {α : Type} : List α → List α
  | [a, b, c] => [b, c, a]
  | r => r
theorem vals_pm120 {zs : List V} {ws : List Value} (t0 : Vals zs ws) : Vals (pm120 zs) (pm120 ws) := by
  cases t0 with
  | nil => exact .nil
  | cons h1 t1 =>
    cases t1 with
    | nil => exact .cons h1 (.nil)
    | cons h2 t2 =>
      cases t2 with
      | nil => exact .cons h1 (.cons h2 (.nil))
      | cons h3 t3 =>
        cases t3 with
        | nil => exact .cons h2 (.cons h3 (.cons h1 (.nil)))
        | cons h t => exact .cons h1 (.cons h2 (.cons h3 (.cons h t)))
def pm201 {α : Type} : List α → List α
  | [a, b, c] => [c, a, b]
  | r => r
theorem vals_pm201 {zs : List V} {ws : List Value} (t0 : Vals zs ws) : Vals (pm201 zs) (pm201 ws) := by
  cases t0 with
  | nil => exact .nil
  | cons h1 t1 =>
    cases t1 with
    | nil => exact .cons h1 (.nil)
    | cons h2 t2 =>
      cases t2 with
      | nil => exact .cons h1 (.cons h2 (.nil))
      | cons h3 t3 =>
        cases t3 with
        | nil => exact .cons h3 (.cons h1 (.cons h2 (.nil)))
        | cons h t => exact .cons h1 (.cons h2 (.cons h3 (.cons h t)))
def pm210 {α : Type} : List α → List α
  | [a, b, c] => [c, b, a]
  | r => r
theorem vals_pm210 {zs : List V} {ws : List Value} (t0 : Vals zs ws) : Vals (pm210 zs) (pm210 ws) := by
  cases t0 with
  | nil => exact .nil
  | cons h1 t1 =>
    cases t1 with
    | nil => exact .cons h1 (.nil)
    | cons h2 t2 =>
      cases t2 with
      | nil => exact .cons h1 (.cons h2 (.nil))
      | cons h3 t3 =>
        cases t3 with
        | nil => exact .cons h3 (.cons h2 (.cons h1 (.nil)))
        | cons h t => exact .cons h1 (.cons h2 (.cons h3 (.cons h t)))
/-! ### a comprehension inside a comprehension -/
theorem lookup_relS_fc {sc : Scope} : ∀ {names : List (Str × NameKind)} {x : Str}, names.lookup x = some .cell ∨ names.lookup x = some .free →
    (names.map fun (n, k) => if (k == NameKind.free && sc.kind == .function && sc.names.lookup n == some .cell) then (n, NameKind.cell) else (n, k)).lookup x = some .cell ∨ (names.map fun (n, k) => if (k == NameKind.free && sc.kind == .function && sc.names.lookup n == some .cell) then (n, NameKind.cell) else (n, k)).lookup x = some .free
  | [], _, h => by simp at h
  | (n, k₀) :: r, x, h => by
    have ih := @lookup_relS_fc sc r x
    show List.lookup x ((if (k₀ == NameKind.free && sc.kind == .function && sc.names.lookup n == some .cell) = true then (n, NameKind.cell) else (n, k₀)) :: (r.map _)) = _ ∨ List.lookup x ((if (k₀ == NameKind.free && sc.kind == .function && sc.names.lookup n == some .cell) = true then (n, NameKind.cell) else (n, k₀)) :: (r.map _)) = _
    cases hx : x == n with
    | true =>
      simp only [List.lookup_cons, hx] at h
      by_cases hc : (k₀ == NameKind.free && sc.kind == .function && sc.names.lookup n == some .cell) = true
      · rw [if_pos hc]; exact .inl (by simp only [List.lookup_cons, hx])
      · rw [if_neg hc]; simp only [List.lookup_cons, hx]; exact h
    | false =>
      simp only [List.lookup_cons, hx] at h
      by_cases hc : (k₀ == NameKind.free && sc.kind == .function && sc.names.lookup n == some .cell) = true
      · rw [if_pos hc]; simp only [List.lookup_cons, hx]; exact ih h
      · rw [if_neg hc]; simp only [List.lookup_cons, hx]; exact ih h
theorem blkOk_nest {N : List Str} {env : Env} {outer inner : Scope} {cl : List (Str × Addr)} {C : Addr} {own : List (Str × Nat)} (h : blkC N outer inner own = true) : BlkOk N (compEnvC outer cl C env).scope inner own := by
  obtain ⟨a, b, c, d, e⟩ := blkOk_by h
  exact ⟨a, b, c, fun y hy f => lookup_relS_fc (sc := env.scope) (d y hy f), e⟩
end L2.Z

end
section
set_option Elab.async false
set_option linter.all false
set_option maxRecDepth 100000
set_option maxHeartbeats 4000000
local macro_rules | `(tactic| walk_at "rd1") => `(tactic| with_reducible first
  | refine L2.Rx.r_seq ?_ | refine L2.Rx.r_asg ?_ | refine L2.Rx.r_gname ?_ | refine L2.Rx.r_op ?_ | refine L2.Rx.r_c ?_
  | refine L2.Rx.r_var rfl ?_
  | refine L2.Rx.r_rI0 ?_ | refine L2.Rx.r_test ?_ | refine L2.Rx.r_bl ?_ | refine L2.Rx.r_if ?_ | refine L2.Rx.r_ret ?_
  | refine L2.Rx.r_cons ?_ | refine L2.Rx.r_nil ?_ | refine L2.Rx.r_call ?_ | refine L2.Rx.r_cb ?_ | refine L2.Rx.r_next ?_ | refine L2.Rx.r_drop ?_
  | refine L2.Rx.r_gsub ?_ | refine L2.Rx.r_tupF ?_ | refine L2.Rx.r_lst ?_ | refine L2.Rx.r_par ?_ | refine L2.Rx.r_par2 ?_
  | refine L2.Rx.r_un ?_ | refine L2.Rx.r_tb ?_ | refine L2.Rx.r_and ?_ | refine L2.Rx.r_or ?_ | refine L2.Rx.r_not ?_
  | refine L2.Rx.r_andV ?_ | refine L2.Rx.r_orV ?_ | refine L2.Rx.r_notV ?_ | refine L2.Rx.r_ifx ?_ | refine L2.Rx.r_chain ?_
  | refine L2.Rx.r_sl ?_ | refine L2.Rx.r_nopart ?_ | refine L2.Rx.r_part ?_ | refine L2.Rx.r_exint ?_ | refine L2.Rx.r_bm0 ?_ | refine L2.Rx.r_bm ?_
  | refine L2.Rx.r_lc ?_ | refine L2.Rx.r_rng1 ?_ | refine L2.Rx.r_yes ?_ | refine L2.Rx.r_tt ?_ | refine L2.Rx.r_ff ?_ | refine L2.Rx.r_m1 ?_ | refine L2.Rx.r_m0 ?_ | refine L2.Rx.r_isS ?_
  | (refine L2.Rx.r_wipe (by with_unfolding_all rfl) ?_) | (refine L2.Rx.r_tyL (by walk_at "hp") ?_)
  | refine L2.Rx.r_addS (by walk_at "len") ?_ | refine L2.Rx.r_lenS (by walk_at "len") ?_ | refine L2.Rx.r_slS (by walk_at "len") ?_
  | refine L2.Rx.r_dnotin ?_ | refine L2.Rx.r_dget ?_ | refine L2.Rx.r_dget1 ?_ | refine L2.Rx.r_dput ?_ | refine L2.Rx.r_dpop1 ?_ | refine L2.Rx.r_isN ?_
  | refine L2.Rx.r_for ?_ | refine L2.Rx.r_ilist ?_ | refine L2.Rx.r_itup ?_
  | refine L2.Rx.r_gcons ?_ | refine L2.Rx.r_gnil ?_ | (refine L2.Rx.r_gtupP (by assumption) (by walk_at "at") ?_)
  | (refine L2.Rx.r_rEq rfl ?_) | (refine L2.Rx.r_rNe rfl ?_)
  | refine L2.Rx.r_rU ?_ | refine L2.Rx.r_max2 ?_ | refine L2.Rx.r_min2 ?_ | refine L2.Rx.r_int1i ?_ | (refine L2.Rx.r_lenh (by walk_at "hp") ?_)
  | (refine L2.Rx.r_ixLh (by walk_at "hp") (by walk_at "at") ?_)
  | (refine L2.Rx.r_setL (by walk_at "hp") (by walk_at "at") ?_))
local macro_rules | `(tactic| walk_at "at") => `(tactic| with_unfolding_all rfl)
local macro_rules | `(tactic| walk_at "rd") => `(tactic| (repeat walk_at "rd1"))
local macro_rules | `(tactic| walk_at "hp") => `(tactic| first
  | assumption
  | exact L2.upd_same
  | (refine Eq.trans (L2.upd_ne ?_) ?_; (focus walk_at "ne"); (focus walk_at "hp"))
  | (refine L2.Rx.Kp.at0 (by assumption) ?_; walk_at "hp")
  | (refine L2.Rx.Kp.at1 (by assumption) ?_ ?_; (focus walk_at "ne"); (focus walk_at "hp")))
local macro_rules | `(tactic| walk_at "ne") => `(tactic| first
  | assumption | exact Ne.symm (by assumption)
  | (refine L2.ne_of_none (H := ?nH) (o := ?nO) ?nh ?nn; (case nn => assumption); (case nh => walk_at "hp"))
  | (refine Ne.symm (L2.ne_of_none (H := ?nH) (o := ?nO) ?nh ?nn); (case nn => assumption); (case nh => walk_at "hp")))
local macro_rules | `(tactic| walk_at "len") => `(tactic| (rw [PySem.sizeLine_eq]; omega))
local macro_rules | `(tactic| walk_at "nin") => `(tactic| first
  | exact List.not_mem_nil
  | (refine L2.Rx.nin1 ?_; walk_at "ne"))
local macro_rules | `(tactic| walk_at "none") => `(tactic| first
  | assumption
  | (refine L2.Rx.Kp.none0 (by assumption) ?_ ?_; (focus walk_at "nin"); (focus walk_at "none")))
namespace L2.Z
open PySem PySem.Spec PyProof.Rows L2.Rx
/-! ### what repr may show: its depth, its weight -/
structure Sm (n k : Nat) (d : PyData) : Prop where
  f : fine d = true
  n : d.depth ≤ n
  w : d.weight ≤ k
section
variable {n k m : Nat} {d : PyData} {ds : List PyData}
theorem Sm.shw (h : Sm n k d) (hn : Nat.ble n 60 = true) (hk : Nat.ble k 1048576 = true) : Shw d := ⟨h.f, Nat.le_trans h.n (Nat.le_of_ble_eq_true hn), Nat.le_trans h.w (Nat.le_trans (Nat.le_of_ble_eq_true hk) (by decide))⟩
theorem Sm.mono {n' k' : Nat} (h : Sm n k d) (hn : n ≤ n') (hk : k ≤ k') : Sm n' k' d := ⟨h.f, Nat.le_trans h.n hn, Nat.le_trans h.w hk⟩
theorem sm_int {i : Int} (h : i.natAbs < 10 ^ 12) : Sm 0 41 (.int i) := by
  refine ⟨by rw [fine]; exact decide_eq_true h, by rw [PyData.depth]; exact Nat.le_refl _, ?_⟩
  rw [PyData.weight]
  split
  · omega
  · rename_i z
    have z' : i.natAbs ≠ 0 := fun e => z (by rw [Int.natAbs_eq_zero.mp e]; rfl)
    have := (Nat.log2_lt z').mpr (Nat.lt_trans h (show 10 ^ 12 < 2 ^ 40 by decide +kernel))
    omega
theorem sm_val {i : Int} (h0 : 0 ≤ i) (h1 : i ≤ 100000000000) : Sm 0 41 (.int i) := sm_int (by omega)
theorem sm_str {c : Str} (h : Cell c) : Sm 0 8 (.str c) := ⟨by rw [fine]; exact h.ok, by rw [PyData.depth]; exact Nat.le_refl _, by rw [PyData.weight]; exact h.2.1⟩
theorem sm_none : Sm 0 0 .none := ⟨by rw [fine], by rw [PyData.depth]; exact Nat.le_refl _, by rw [PyData.weight]; exact Nat.le_refl _⟩
theorem sm_bool (b : Bool) : Sm 0 0 (.bool b) := ⟨by rw [fine], by rw [PyData.depth]; exact Nat.le_refl _, by rw [PyData.weight]; exact Nat.le_refl _⟩
theorem sm_tup (h : ∀ d ∈ ds, Sm n k d) (l : ds.length ≤ m) : Sm (n + 1) (m * (k + 1)) (.tuple ds) := by
  refine ⟨by rw [fine]; exact fines_mem fun d hd => (h d hd).f, ?_, ?_⟩
  · rw [PyData.depth]
    have := depth_mem (n := n) fun d hd => (h d hd).n
    omega
  · rw [PyData.weight]
    exact Nat.le_trans (weight_mem fun d hd => (h d hd).w) (Nat.mul_le_mul_right _ l)
theorem sm_lst (h : ∀ d ∈ ds, Sm n k d) (l : ds.length ≤ m) : Sm (n + 1) (m * (k + 1)) (.list ds) := by
  refine ⟨by rw [fine]; exact fines_mem fun d hd => (h d hd).f, ?_, ?_⟩
  · rw [PyData.depth]
    have := depth_mem (n := n) fun d hd => (h d hd).n
    omega
  · rw [PyData.weight]
    exact Nat.le_trans (weight_mem fun d hd => (h d hd).w) (Nat.mul_le_mul_right _ l)
theorem all2 {P : PyData → Prop} {a b : PyData} (ha : P a) (hb : P b) : ∀ d ∈ [a, b], P d := fun d h => by
  rcases List.mem_cons.mp h with e | h
  · rw [e]; exact ha
  · rw [List.mem_singleton.mp h]; exact hb
theorem sm_l2 {a b : PyData} (ha : Sm n k a) (hb : Sm n k b) : Sm (n + 1) (2 * (k + 1)) (.list [a, b]) := sm_lst (all2 ha hb) (Nat.le_refl _)
theorem sm_map {α : Type} {enc : α → PyData} {as : List α} (h : ∀ a ∈ as, Sm n k (enc a)) : ∀ d ∈ as.map enc, Sm n k d := fun d hd => by
  obtain ⟨a, ha, rfl⟩ := List.mem_map.mp hd
  exact h a ha
theorem sm_cells {cs : List Str} (h : ∀ c ∈ cs, Cell c) (l : cs.length ≤ m) : Sm 1 (m * 9) (.tuple (cs.map PyData.str)) := sm_tup (sm_map fun c hc => sm_str (h c hc)) (by rw [List.length_map]; exact l)
theorem sm_cellsL {cs : List Str} (h : ∀ c ∈ cs, Cell c) (l : cs.length ≤ m) : Sm 1 (m * 9) (.list (cs.map PyData.str)) := sm_lst (sm_map fun c hc => sm_str (h c hc)) (by rw [List.length_map]; exact l)
theorem sm_pr {z : Str × Int} (h : Cell z.1) (v : 0 ≤ z.2 ∧ z.2 ≤ 1000000000) : Sm 1 84 (prD z) := sm_tup (all2 ((sm_str h).mono (Nat.le_refl _) (by decide)) (sm_val v.1 (by omega))) (Nat.le_refl 2)
theorem sm_log {l : Lg} (h : LgOk l) (hl : l.length ≤ m) : Sm 2 (m * 85) (logD l) := sm_tup (sm_map fun z hz => sm_pr (h.cell z hz) (h.val z hz)) (by rw [List.length_map]; exact hl)
theorem sm_logs {c : Nat} {ls : List Lg} (h : ∀ l ∈ ls, LgOk l ∧ l.length ≤ m) (hl : ls.length ≤ c) : Sm 3 (c * (m * 85 + 1)) (logsD ls) := sm_tup (sm_map fun l hm => sm_log (h l hm).1 (h l hm).2) (by rw [List.length_map]; exact hl)
theorem sm_opt {l : Lg} (h : LgOk l) (c : Str) : Sm 0 41 (optI (valL l c)) := by
  cases e : valL l c with
  | none => exact sm_none.mono (Nat.le_refl _) (by decide)
  | some i =>
    have := h.val _ (valL_mem e)
    exact sm_val this.1 (by have := this.2; show i ≤ _; omega)
end
/-! ### not in (None, v) -/
section
variable {F : Fr} {H H' : Hp} {S T : List Addr} {σ : St} {env env' : List Sl} {ts : Ts} {w : Addr → Nat} {v x y z : V} {d d1 d2 d3 : PyData} {ds es : List PyData} {Q : VK} {i j : Nat} {s s1 s2 s3 : Sl} {xs ys : List V} {p : Addr} {K : PySem.W.Frag}
theorem z_inD {neg : Bool} (hK : F.K = K) (R : Rp F H σ env ((y, s2) :: (x, s1) :: ts)) (e1 : asV env s1 = some d1) (e2 : asV env s2 = some d2) (q : Sq d2 ds) (c1 : Cmp d1) (c2 : Cmp d2)
    (h : ∀ v, Rp F H σ env ((v, .fz (.bool (if neg then !(ds.any fun z => PyData.eqv z d1) else ds.any fun z => PyData.eqv z d1))) :: ts) → Q v H) : rInA K neg x y H Q := by
  subst hK
  obtain ⟨A, B, R⟩ := R.q2 e1 e2 c1.noD c2.noD
  exact ⟨_, _, _, q, A.dp, B.dp, shaped_of c1.s c1.n, shaped_of c2.s c2.n, h _ (R.bl _)⟩
theorem cmp_opt (o : Option Int) : Cmp (optI o) := by
  cases o with
  | none => exact ⟨rfl, by decide +kernel⟩
  | some i => exact ⟨by rw [optI, shp], by rw [optI, PyData.depth]; decide⟩
theorem cmp_ni (i : Int) : Cmp (.tuple [.none, .int i]) := ⟨by rw [shp, shps, shps, shps, shp, shp]; rfl, by rw [PyData.depth, PyData.depthAll, PyData.depthAll, PyData.depthAll, PyData.depth, PyData.depth]; decide⟩
theorem any_ni (o : Option Int) (i : Int) : ([PyData.none, .int i].any fun z => PyData.eqv z (optI o)) = decide (o.getD i = i) := by
  cases o with
  | none => simp [optI, PyData.eqv]
  | some j =>
    rw [optI, List.any_cons, List.any_cons, List.any_nil, eqv_int, Bool.or_false]
    rw [show PyData.eqv .none (.int j) = false by rw [PyData.eqv]]
    rw [Bool.false_or, decide_eq_decide]
    exact ⟨fun h => h.symm, fun h => h.symm⟩
theorem repr_two {α : Type} (a b : α) (h : a = b) : [a, a] = [b, b] := by rw [h]
end
end L2.Z

end
section
set_option Elab.async false
set_option linter.all false
set_option maxRecDepth 100000
set_option maxHeartbeats 4000000
local macro_rules | `(tactic| walk_at "rd1") => `(tactic| with_reducible first
  | refine L2.Rx.r_seq ?_ | refine L2.Rx.r_asg ?_ | refine L2.Rx.r_gname ?_ | refine L2.Rx.r_op ?_ | refine L2.Rx.r_c ?_
  | refine L2.Rx.r_var rfl ?_
  | refine L2.Rx.r_rI0 ?_ | refine L2.Rx.r_test ?_ | refine L2.Rx.r_bl ?_ | refine L2.Rx.r_if ?_ | refine L2.Rx.r_ret ?_
  | refine L2.Rx.r_cons ?_ | refine L2.Rx.r_nil ?_ | refine L2.Rx.r_call ?_ | refine L2.Rx.r_cb ?_ | refine L2.Rx.r_next ?_ | refine L2.Rx.r_drop ?_
  | refine L2.Rx.r_gsub ?_ | refine L2.Rx.r_tupF ?_ | refine L2.Rx.r_lst ?_ | refine L2.Rx.r_par ?_ | refine L2.Rx.r_par2 ?_
  | refine L2.Rx.r_un ?_ | refine L2.Rx.r_tb ?_ | refine L2.Rx.r_and ?_ | refine L2.Rx.r_or ?_ | refine L2.Rx.r_not ?_
  | refine L2.Rx.r_andV ?_ | refine L2.Rx.r_orV ?_ | refine L2.Rx.r_notV ?_ | refine L2.Rx.r_ifx ?_ | refine L2.Rx.r_chain ?_
  | refine L2.Rx.r_sl ?_ | refine L2.Rx.r_nopart ?_ | refine L2.Rx.r_part ?_ | refine L2.Rx.r_exint ?_ | refine L2.Rx.r_bm0 ?_ | refine L2.Rx.r_bm ?_
  | refine L2.Rx.r_lc ?_ | refine L2.Rx.r_rng1 ?_ | refine L2.Rx.r_yes ?_ | refine L2.Rx.r_tt ?_ | refine L2.Rx.r_ff ?_ | refine L2.Rx.r_m1 ?_ | refine L2.Rx.r_m0 ?_ | refine L2.Rx.r_isS ?_
  | (refine L2.Rx.r_wipe (by with_unfolding_all rfl) ?_) | (refine L2.Rx.r_tyL (by walk_at "hp") ?_)
  | refine L2.Rx.r_addS (by walk_at "len") ?_ | refine L2.Rx.r_lenS (by walk_at "len") ?_ | refine L2.Rx.r_slS (by walk_at "len") ?_
  | refine L2.Rx.r_dnotin ?_ | refine L2.Rx.r_dget ?_ | refine L2.Rx.r_dget1 ?_ | refine L2.Rx.r_dput ?_ | refine L2.Rx.r_dpop1 ?_ | refine L2.Rx.r_isN ?_
  | refine L2.Rx.r_for ?_ | refine L2.Rx.r_ilist ?_ | refine L2.Rx.r_itup ?_
  | refine L2.Rx.r_gcons ?_ | refine L2.Rx.r_gnil ?_ | (refine L2.Rx.r_gtupP (by assumption) (by walk_at "at") ?_)
  | (refine L2.Rx.r_rEq rfl ?_) | (refine L2.Rx.r_rNe rfl ?_)
  | refine L2.Rx.r_rU ?_ | refine L2.Rx.r_max2 ?_ | refine L2.Rx.r_min2 ?_ | refine L2.Rx.r_int1i ?_ | (refine L2.Rx.r_lenh (by walk_at "hp") ?_)
  | (refine L2.Rx.r_ixLh (by walk_at "hp") (by walk_at "at") ?_)
  | (refine L2.Rx.r_setL (by walk_at "hp") (by walk_at "at") ?_))
local macro_rules | `(tactic| walk_at "at") => `(tactic| with_unfolding_all rfl)
local macro_rules | `(tactic| walk_at "rd") => `(tactic| (repeat walk_at "rd1"))
local macro_rules | `(tactic| walk_at "hp") => `(tactic| first
  | assumption
  | exact L2.upd_same
  | (refine Eq.trans (L2.upd_ne ?_) ?_; (focus walk_at "ne"); (focus walk_at "hp"))
  | (refine L2.Rx.Kp.at0 (by assumption) ?_; walk_at "hp")
  | (refine L2.Rx.Kp.at1 (by assumption) ?_ ?_; (focus walk_at "ne"); (focus walk_at "hp")))
local macro_rules | `(tactic| walk_at "ne") => `(tactic| first
  | assumption | exact Ne.symm (by assumption)
  | (refine L2.ne_of_none (H := ?nH) (o := ?nO) ?nh ?nn; (case nn => assumption); (case nh => walk_at "hp"))
  | (refine Ne.symm (L2.ne_of_none (H := ?nH) (o := ?nO) ?nh ?nn); (case nn => assumption); (case nh => walk_at "hp")))
local macro_rules | `(tactic| walk_at "len") => `(tactic| (rw [PySem.sizeLine_eq]; omega))
local macro_rules | `(tactic| walk_at "nin") => `(tactic| first
  | exact List.not_mem_nil
  | (refine L2.Rx.nin1 ?_; walk_at "ne"))
local macro_rules | `(tactic| walk_at "none") => `(tactic| first
  | assumption
  | (refine L2.Rx.Kp.none0 (by assumption) ?_ ?_; (focus walk_at "nin"); (focus walk_at "none")))
namespace L2.Z
open PySem PySem.Spec PyProof.Rows L2.Rx
/-! ### a law's entry: its script -/
theorem start_C {N : List Str} {a : Addr} {ns : List Int} {H : Hp} {env : List Sl} (K : PySem.W.Frag) (h : SqL K H a (ns.map V.int)) (l : Nat.ble 1 N.length = true) (ln : Nat.ble N.length 1000 = true) (he : Sl.scr ns :: List.replicate (N.length - 1) Sl.junk = env) : Rp ⟨K, H, [], [], []⟩ H (start N [.ref a]) env [] := by
  subst he
  have l := Nat.le_of_ble_eq_true l
  have ln := Nat.le_of_ble_eq_true ln
  have e0 : start N [.ref a] = some (.ref a) :: List.replicate (N.length - 1) none := rfl
  rw [e0]
  refine ⟨[], fun _ => 0, ⟨?_, ?_, fun i s e => ?_, fun i j e => ?_, trivial, fun _ h => h, fun _ h => (nomatch h), fun _ h => (nomatch h), Kp.refl, (fun _ h => nomatch h), (fun _ h => nomatch h)⟩⟩
  · rw [List.length_cons, List.length_cons, List.length_replicate, List.length_replicate]
  · rw [List.length_cons, List.length_replicate]; omega
  · cases i with
    | zero => cases e; exact ⟨_, rfl, .scr (h.imp (fun r => ⟨by simp, r⟩) id)⟩
    | succ i =>
      rw [List.getElem?_cons_succ, List.getElem?_replicate] at e
      split at e
      · cases e
        rename_i hi
        exact ⟨none, by rw [List.getElem?_cons_succ, List.getElem?_replicate, if_pos hi], .junk _⟩
      · cases e
  · cases i with
    | zero => cases e
    | succ i =>
      rw [List.getElem?_cons_succ, List.getElem?_replicate] at e
      split at e <;> cases e
section
variable {F : Fr} {H H' : Hp} {σ : St} {env env' : List Sl} {ts : Ts} {v x y : V} {d : PyData} {ds : List PyData} {Q : VK} {i : Nat} {K : PySem.W.Frag}
theorem z_lenC {ns : List Int} (hK : F.K = K) (R : Rp F H σ env ((x, .al i) :: ts)) (e : env[i]? = some (.scr ns)) (h : ∀ v, Rp F H σ env ((v, .fz (.int ns.length)) :: ts) → Q v H) : rLenQ K [x] H Q := by
  obtain ⟨S, w, R⟩ := R
  obtain ⟨x', ex, sx⟩ := R.slots i _ e
  have e4 := R.alSlot (i := i) (z := x) (List.mem_cons_self ..)
  rw [ex] at e4
  cases e4
  cases sx with
  | scr r => exact ⟨_, ns.map V.int, rfl, .inl (hK ▸ r.sq), by rw [List.length_map]; exact h _ (Rp.int ⟨S, w, R.pop⟩ _)⟩
end
/-! ### logs: parts and orders of them -/
theorem LgOk.perm {l m : Lg} (h : LgOk l) (p : m.Perm l) : LgOk m := ⟨(p.map Prod.fst).nodup_iff.mpr h.nd, by rw [p.length_eq]; exact h.len, fun z hz => h.cell z (p.mem_iff.mp hz), fun z hz => h.val z (p.mem_iff.mp hz)⟩
theorem LgOk.sub {l m : Lg} (h : LgOk l) (s : m.Sublist l) : LgOk m := ⟨h.nd.sublist (s.map Prod.fst), Nat.le_trans s.length_le h.len, fun z hz => h.cell z (s.subset hz), fun z hz => h.val z (s.subset hz)⟩
theorem LgOk.nil : LgOk [] := ⟨List.nodup_nil, Nat.zero_le _, fun _ h => (nomatch h), fun _ h => (nomatch h)⟩
/-- a pair of a cell in the place of that cell's pairs -/
theorem LgOk.swap {l : Lg} (h : LgOk l) {c : Str} {r : Int} (hc : Cell c) (r0 : 0 ≤ r) (r1 : r ≤ 1000000000) (n : l.length ≤ 59) : LgOk ((l.filter fun y => !decide (y.1 = c)) ++ [(c, r)]) := by
  have s : (l.filter fun y => !decide (y.1 = c)).Sublist l := List.filter_sublist
  have o := h.sub s
  refine ⟨?_, ?_, fun z hz => ?_, fun z hz => ?_⟩
  · rw [List.map_append, List.nodup_append]
    refine ⟨o.nd, List.pairwise_singleton _ _, fun a ha b hb => ?_⟩
    rw [List.map_cons, List.map_nil, List.mem_singleton] at hb
    subst hb
    obtain ⟨y, hy, rfl⟩ := List.mem_map.mp ha
    have := (List.mem_filter.mp hy).2
    rw [Bool.not_eq_true'] at this
    exact of_decide_eq_false this
  · rw [List.length_append, List.length_singleton]
    have := s.length_le
    omega
  · rcases List.mem_append.mp hz with m | m
    · exact o.cell z m
    · rw [List.mem_singleton.mp m]; exact hc
  · rcases List.mem_append.mp hz with m | m
    · exact o.val z m
    · rw [List.mem_singleton.mp m]; exact ⟨r0, r1⟩
theorem asc_eq : ∀ {a b : List Str}, a.Pairwise (fun x y => x.cps.toList < y.cps.toList) → b.Pairwise (fun x y => x.cps.toList < y.cps.toList) → (∀ c, c ∈ a ↔ c ∈ b) → a = b
  | [], [], _, _, _ => rfl
  | [], y :: b, _, _, h => absurd ((h y).mpr (List.mem_cons_self ..)) (by simp)
  | x :: a, [], _, _, h => absurd ((h x).mp (List.mem_cons_self ..)) (by simp)
  | x :: a, y :: b, ha, hb, h => by
    rw [List.pairwise_cons] at ha hb
    have irr : ∀ z : Str, ¬ z.cps.toList < z.cps.toList := fun z => List.lt_irrefl _
    have e : x = y := by
      rcases List.mem_cons.mp ((h x).mp (List.mem_cons_self ..)) with e | m
      · exact e
      · rcases List.mem_cons.mp ((h y).mpr (List.mem_cons_self ..)) with e | m2
        · exact e.symm
        · exact absurd (List.lt_trans (hb.1 x m) (ha.1 y m2)) (irr _)
    subst e
    congr 1
    refine asc_eq ha.2 hb.2 fun c => ⟨fun m => ?_, fun m => ?_⟩
    · rcases List.mem_cons.mp ((h c).mp (List.mem_cons_of_mem _ m)) with e | m2
      · subst e; exact absurd (ha.1 _ m) (irr _)
      · exact m2
    · rcases List.mem_cons.mp ((h c).mpr (List.mem_cons_of_mem _ m)) with e | m2
      · subst e; exact absurd (hb.1 _ m) (irr _)
      · exact m2
theorem isN_opt (l : Lg) (c : Str) : (!isN (optI (valL l c))) = decide (c ∈ l.map Prod.fst) := by
  unfold valL
  cases h : l.find? (fun z => decide (z.1 = c)) with
  | none =>
    rw [List.find?_eq_none] at h
    refine (decide_eq_false fun m => ?_).symm
    obtain ⟨z, hz, e⟩ := List.mem_map.mp m
    exact h z hz (decide_eq_true e)
  | some z =>
    have m := List.mem_of_find?_eq_some h
    have e := List.find?_some h
    exact (decide_eq_true (of_decide_eq_true e ▸ List.mem_map_of_mem m)).symm
theorem dec_eq {p : Prop} (a b : Decidable p) : @decide p a = @decide p b := by
  rw [Subsingleton.elim a b]
end L2.Z
namespace L2.Rx
open PySem PySem.Spec PyProof.Rows
def oIsN : V → V → Hp → VK → Prop := fun x y H Q => y = .non ∧ Q (.bl (decide (x = .non))) H
def oNotN : V → V → Hp → VK → Prop := fun x y H Q => y = .non ∧ Q (.bl (!decide (x = .non))) H
theorem op_isNd {X : Cx} : OpR X (compareOp .Is) oIsN := op_isN
theorem op_notNd {X : Cx} : OpR X (compareOp .IsNot) oNotN := op_notN
end L2.Rx
namespace L2.Z
open PySem PySem.Spec PyProof.Rows L2.Rx
section
variable {F : Fr} {H : Hp} {σ : St} {env : List Sl} {ts : Ts} {x y : V} {d : PyData} {Q : VK}
theorem z_isV (R : Rp F H σ env ((y, .fz .none) :: (x, .fz d) :: ts)) (h : ∀ v, Rp F H σ env ((v, .fz (.bool (isN d))) :: ts) → Q v H) : oIsN x y H Q := z_isN R fun R => h _ R
theorem z_notV (R : Rp F H σ env ((y, .fz .none) :: (x, .fz d) :: ts)) (h : ∀ v, Rp F H σ env ((v, .fz (.bool (!isN d))) :: ts) → Q v H) : oNotN x y H Q := z_notN R fun R => h _ R
end
section
variable {F : Fr} {H : Hp} {σ : St} {env env1 env2 : List Sl} {ts : Ts} {x y : V} {s1 s2 : Sl} {i j : Nat}
/-- a, b = x, y -/
@[elab_as_elim] theorem y_par {motive : St → Prop} (R : Rp F H σ env ((y, s2) :: (x, s1) :: ts)) (h1 : SetE env i s1 env1) (h2 : SetE env1 j s2 env2) (a1 : isAl s1 = false) (a2 : isAl s2 = false) (ht : noAl ts = true)
    (h : ∀ σ', Rp F H σ' env2 ts → motive σ') : motive ((σ.set i (some x)).set j (some y)) :=
  h _ ((R.swap.asg h1 a1 (by rw [noAl, List.all_cons, a2]; exact ht)).asg h2 a2 ht)
end
end L2.Z

end
section
set_option Elab.async false
set_option linter.all false
set_option maxRecDepth 100000
set_option maxHeartbeats 4000000
local macro_rules | `(tactic| walk_at "rd1") => `(tactic| with_reducible first
  | refine L2.Rx.r_seq ?_ | refine L2.Rx.r_asg ?_ | refine L2.Rx.r_gname ?_ | refine L2.Rx.r_op ?_ | refine L2.Rx.r_c ?_
  | refine L2.Rx.r_var rfl ?_
  | refine L2.Rx.r_rI0 ?_ | refine L2.Rx.r_test ?_ | refine L2.Rx.r_bl ?_ | refine L2.Rx.r_if ?_ | refine L2.Rx.r_ret ?_
  | refine L2.Rx.r_cons ?_ | refine L2.Rx.r_nil ?_ | refine L2.Rx.r_call ?_ | refine L2.Rx.r_cb ?_ | refine L2.Rx.r_next ?_ | refine L2.Rx.r_drop ?_
  | refine L2.Rx.r_gsub ?_ | refine L2.Rx.r_tupF ?_ | refine L2.Rx.r_lst ?_ | refine L2.Rx.r_par ?_ | refine L2.Rx.r_par2 ?_
  | refine L2.Rx.r_un ?_ | refine L2.Rx.r_tb ?_ | refine L2.Rx.r_and ?_ | refine L2.Rx.r_or ?_ | refine L2.Rx.r_not ?_
  | refine L2.Rx.r_andV ?_ | refine L2.Rx.r_orV ?_ | refine L2.Rx.r_notV ?_ | refine L2.Rx.r_ifx ?_ | refine L2.Rx.r_chain ?_
  | refine L2.Rx.r_sl ?_ | refine L2.Rx.r_nopart ?_ | refine L2.Rx.r_part ?_ | refine L2.Rx.r_exint ?_ | refine L2.Rx.r_bm0 ?_ | refine L2.Rx.r_bm ?_
  | refine L2.Rx.r_lc ?_ | refine L2.Rx.r_rng1 ?_ | refine L2.Rx.r_yes ?_ | refine L2.Rx.r_tt ?_ | refine L2.Rx.r_ff ?_ | refine L2.Rx.r_m1 ?_ | refine L2.Rx.r_m0 ?_ | refine L2.Rx.r_isS ?_
  | (refine L2.Rx.r_wipe (by with_unfolding_all rfl) ?_) | (refine L2.Rx.r_tyL (by walk_at "hp") ?_)
  | refine L2.Rx.r_addS (by walk_at "len") ?_ | refine L2.Rx.r_lenS (by walk_at "len") ?_ | refine L2.Rx.r_slS (by walk_at "len") ?_
  | refine L2.Rx.r_dnotin ?_ | refine L2.Rx.r_dget ?_ | refine L2.Rx.r_dget1 ?_ | refine L2.Rx.r_dput ?_ | refine L2.Rx.r_dpop1 ?_ | refine L2.Rx.r_isN ?_
  | refine L2.Rx.r_for ?_ | refine L2.Rx.r_ilist ?_ | refine L2.Rx.r_itup ?_
  | refine L2.Rx.r_gcons ?_ | refine L2.Rx.r_gnil ?_ | (refine L2.Rx.r_gtupP (by assumption) (by walk_at "at") ?_)
  | (refine L2.Rx.r_rEq rfl ?_) | (refine L2.Rx.r_rNe rfl ?_)
  | refine L2.Rx.r_rU ?_ | refine L2.Rx.r_max2 ?_ | refine L2.Rx.r_min2 ?_ | refine L2.Rx.r_int1i ?_ | (refine L2.Rx.r_lenh (by walk_at "hp") ?_)
  | (refine L2.Rx.r_ixLh (by walk_at "hp") (by walk_at "at") ?_)
  | (refine L2.Rx.r_setL (by walk_at "hp") (by walk_at "at") ?_))
local macro_rules | `(tactic| walk_at "at") => `(tactic| with_unfolding_all rfl)
local macro_rules | `(tactic| walk_at "rd") => `(tactic| (repeat walk_at "rd1"))
local macro_rules | `(tactic| walk_at "hp") => `(tactic| first
  | assumption
  | exact L2.upd_same
  | (refine Eq.trans (L2.upd_ne ?_) ?_; (focus walk_at "ne"); (focus walk_at "hp"))
  | (refine L2.Rx.Kp.at0 (by assumption) ?_; walk_at "hp")
  | (refine L2.Rx.Kp.at1 (by assumption) ?_ ?_; (focus walk_at "ne"); (focus walk_at "hp")))
local macro_rules | `(tactic| walk_at "ne") => `(tactic| first
  | assumption | exact Ne.symm (by assumption)
  | (refine L2.ne_of_none (H := ?nH) (o := ?nO) ?nh ?nn; (case nn => assumption); (case nh => walk_at "hp"))
  | (refine Ne.symm (L2.ne_of_none (H := ?nH) (o := ?nO) ?nh ?nn); (case nn => assumption); (case nh => walk_at "hp")))
local macro_rules | `(tactic| walk_at "len") => `(tactic| (rw [PySem.sizeLine_eq]; omega))
local macro_rules | `(tactic| walk_at "nin") => `(tactic| first
  | exact List.not_mem_nil
  | (refine L2.Rx.nin1 ?_; walk_at "ne"))
local macro_rules | `(tactic| walk_at "none") => `(tactic| first
  | assumption
  | (refine L2.Rx.Kp.none0 (by assumption) ?_ ?_; (focus walk_at "nin"); (focus walk_at "none")))
namespace L2.Ro
open PySem PySem.Spec PyProof.Rows L2.Rx L2.Z
def topS (i : Nat) : Stmt := PySem.Challenge.pw_readorder_k02_cells_and_values.main.body.getD i (.Pass ⟨0, 0, 0, 0⟩)
abbrev s_cells_of : Stmt := topS 1
theorem sc_cells_of : FnScope ["log", "cell", "value"] ["log"] (defScope s_cells_of) := ⟨rfl, rfl, rfl, by decide +kernel, rfl, by decide +kernel, by decide +kernel⟩
abbrev s_value_in : Stmt := topS 2
theorem sc_value_in : FnScope ["log", "cell"] ["log", "cell"] (defScope s_value_in) := ⟨rfl, rfl, rfl, by decide +kernel, rfl, by decide +kernel, by decide +kernel⟩
abbrev s_cells_in : Stmt := topS 3
theorem sc_cells_in : FnScope ["logs", "log", "cell"] ["logs"] (defScope s_cells_in) := ⟨rfl, rfl, rfl, by decide +kernel, rfl, by decide +kernel, by decide +kernel⟩
abbrev s_shared_cells : Stmt := topS 4
theorem sc_shared_cells : FnScope ["logs", "counts", "log", "cell", "many"] ["logs"] (defScope s_shared_cells) := ⟨rfl, rfl, rfl, by decide +kernel, rfl, by decide +kernel, by decide +kernel⟩
abbrev s_agrees : Stmt := topS 5
theorem sc_agrees : FnScope ["log", "known", "values", "cell", "value"] ["log", "known"] (defScope s_agrees) := ⟨rfl, rfl, rfl, by decide +kernel, rfl, by decide +kernel, by decide +kernel⟩
abbrev s_agreeing : Stmt := topS 6
theorem sc_agreeing : FnScope ["logs", "known", "log"] ["logs", "known"] (defScope s_agreeing) := ⟨rfl, rfl, rfl, by decide +kernel, rfl, by decide +kernel, by decide +kernel⟩
abbrev s_differing : Stmt := topS 7
theorem sc_differing : FnScope ["one", "other", "values", "cell", "value"] ["one", "other"] (defScope s_differing) := ⟨rfl, rfl, rfl, by decide +kernel, rfl, by decide +kernel, by decide +kernel⟩
abbrev s_box : Stmt := topS 9
theorem sc_box : FnScope ["_law_script", "_law_k", "_law_name", "_law_own"] ["_law_script", "_law_k"] (defScope s_box) := ⟨rfl, rfl, rfl, by decide +kernel, rfl, by decide +kernel, by decide +kernel⟩
abbrev s_take : Stmt := topS 10
theorem sc_take : FnScope ["_law_box_here", "_law_upon", "_law_digit", "_law_prime", "_law_drawn"] ["_law_box_here", "_law_upon"] (defScope s_take) := ⟨rfl, rfl, rfl, by decide +kernel, rfl, by decide +kernel, by decide +kernel⟩
abbrev s_of : Stmt := topS 11
theorem sc_of : FnScope ["_law_box_here", "_law_some"] ["_law_box_here", "_law_some"] (defScope s_of) := ⟨rfl, rfl, rfl, by decide +kernel, rfl, by decide +kernel, by decide +kernel⟩
abbrev s_cells : Stmt := topS 12
theorem sc_cells : FnScope ["_law_box_here", "_law_count", "_law_letters", "_law_start", "_law_leap", "_law_stem", "_law_cut", "_law_turn"] ["_law_box_here", "_law_count"] (defScope s_cells) := ⟨rfl, rfl, rfl, by decide +kernel, rfl, by decide +kernel, by decide +kernel⟩
abbrev s_values : Stmt := topS 13
theorem sc_values : FnScope ["_law_box_here", "_law_count", "_law_some", "_law_found", "_law_turn", "_law_value_here", "_law_spare", "_law_each"] ["_law_box_here", "_law_count"] (defScope s_values) := ⟨rfl, rfl, rfl, by decide +kernel, rfl, by decide +kernel, by decide +kernel⟩
abbrev s_tree : Stmt := topS 14
theorem sc_tree : FnScope ["_law_box_here", "_law_cells_here", "_law_budget", "_law_left", "_law_name", "_law_count", "_law_branches", "_law_value_here"] ["_law_box_here", "_law_cells_here", "_law_budget"] (defScope s_tree) := ⟨rfl, rfl, rfl, by decide +kernel, rfl, by decide +kernel, by decide +kernel⟩
abbrev s_leaves : Stmt := topS 15
theorem sc_leaves : FnScope ["_law_tree_here", "_law_found", "_law_waiting", "_law_here", "_law_pairs", "_law_value_here", "_law_below"] ["_law_tree_here"] (defScope s_leaves) := ⟨rfl, rfl, rfl, by decide +kernel, rfl, by decide +kernel, by decide +kernel⟩
abbrev s_loose : Stmt := topS 16
theorem sc_loose : FnScope ["_law_box_here", "_law_cells_here", "_law_count", "_law_found", "_law_turn", "_law_entry", "_law_name"] ["_law_box_here", "_law_cells_here", "_law_count"] (defScope s_loose) := ⟨rfl, rfl, rfl, by decide +kernel, rfl, by decide +kernel, by decide +kernel⟩
abbrev s_logs : Stmt := topS 17
theorem sc_logs : FnScope ["_law_box_here", "_law_cells_here", "_law_budget", "_law_way", "_law_found", "_law_at", "_law_entry", "_law_spot", "_law_changed", "_law_name", "_law_value_here"] ["_law_box_here", "_law_cells_here", "_law_budget"] (defScope s_logs) := ⟨rfl, rfl, rfl, by decide +kernel, rfl, by decide +kernel, by decide +kernel⟩
abbrev s_value : Stmt := topS 18
theorem sc_value : FnScope ["_law_entry", "_law_name", "_law_found", "_law_cell_name", "_law_value_here"] ["_law_entry", "_law_name"] (defScope s_value) := ⟨rfl, rfl, rfl, by decide +kernel, rfl, by decide +kernel, by decide +kernel⟩
abbrev s_two_right : Stmt := topS 19
theorem sc_two_right : FnScope ["_law_mine", "_law_its", "_law_names", "_law_name", "_law_due", "_law_value_here"] ["_law_mine", "_law_its", "_law_names"] (defScope s_two_right) := ⟨rfl, rfl, rfl, by decide +kernel, rfl, by decide +kernel, by decide +kernel⟩
abbrev s_agreeing_right : Stmt := topS 20
theorem sc_agreeing_right : FnScope ["_law_box_here", "_law_some", "_law_names", "_law_entry", "_law_pairs", "_law_name", "_law_due", "_law_pair", "_law_each"] ["_law_box_here", "_law_some", "_law_names"] (defScope s_agreeing_right) := ⟨rfl, rfl, rfl, by decide +kernel, rfl, by decide +kernel, by decide +kernel⟩
abbrev s_right : Stmt := topS 21
theorem sc_right : FnScope ["_law_box_here", "_law_some", "_law_names", "_law_text", "_law_every", "_law_due", "_law_turn", "_law_mine", "_law_its", "_law_name", "_law_entry"] ["_law_box_here", "_law_some", "_law_names"] (defScope s_right) := ⟨rfl, rfl, rfl, by decide +kernel, rfl, by decide +kernel, by decide +kernel⟩
abbrev s_law : Stmt := topS 22
theorem sc_law : FnScope ["_law_script", "_law_nth", "_law_box_here", "_law_turn", "_law_names"] ["_law_script"] (defScope s_law) := ⟨rfl, rfl, rfl, by decide +kernel, rfl, by decide +kernel, by decide +kernel⟩
/-- the built-ins that the text calls are not the module's -/
structure Zb (mg : Str → Option Value) : Prop where
  n_abs : mg "abs" = none
  n_all : mg "all" = none
  n_any : mg "any" = none
  n_dict : mg "dict" = none
  n_int : mg "int" = none
  n_len : mg "len" = none
  n_list : mg "list" = none
  n_max : mg "max" = none
  n_min : mg "min" = none
  n_range : mg "range" = none
  n_repr : mg "repr" = none
  n_sorted : mg "sorted" = none
  n_tuple : mg "tuple" = none
end L2.Ro

end
section
set_option Elab.async false
set_option linter.all false
set_option maxRecDepth 100000
set_option maxHeartbeats 4000000
local macro_rules | `(tactic| walk_at "rd1") => `(tactic| with_reducible first
  | refine L2.Rx.r_seq ?_ | refine L2.Rx.r_asg ?_ | refine L2.Rx.r_gname ?_ | refine L2.Rx.r_op ?_ | refine L2.Rx.r_c ?_
  | refine L2.Rx.r_var rfl ?_
  | refine L2.Rx.r_rI0 ?_ | refine L2.Rx.r_test ?_ | refine L2.Rx.r_bl ?_ | refine L2.Rx.r_if ?_ | refine L2.Rx.r_ret ?_
  | refine L2.Rx.r_cons ?_ | refine L2.Rx.r_nil ?_ | refine L2.Rx.r_call ?_ | refine L2.Rx.r_cb ?_ | refine L2.Rx.r_next ?_ | refine L2.Rx.r_drop ?_
  | refine L2.Rx.r_gsub ?_ | refine L2.Rx.r_tupF ?_ | refine L2.Rx.r_lst ?_ | refine L2.Rx.r_par ?_ | refine L2.Rx.r_par2 ?_
  | refine L2.Rx.r_un ?_ | refine L2.Rx.r_tb ?_ | refine L2.Rx.r_and ?_ | refine L2.Rx.r_or ?_ | refine L2.Rx.r_not ?_
  | refine L2.Rx.r_andV ?_ | refine L2.Rx.r_orV ?_ | refine L2.Rx.r_notV ?_ | refine L2.Rx.r_ifx ?_ | refine L2.Rx.r_chain ?_
  | refine L2.Rx.r_sl ?_ | refine L2.Rx.r_nopart ?_ | refine L2.Rx.r_part ?_ | refine L2.Rx.r_exint ?_ | refine L2.Rx.r_bm0 ?_ | refine L2.Rx.r_bm ?_
  | refine L2.Rx.r_lc ?_ | refine L2.Rx.r_rng1 ?_ | refine L2.Rx.r_yes ?_ | refine L2.Rx.r_tt ?_ | refine L2.Rx.r_ff ?_ | refine L2.Rx.r_m1 ?_ | refine L2.Rx.r_m0 ?_ | refine L2.Rx.r_isS ?_
  | (refine L2.Rx.r_wipe (by with_unfolding_all rfl) ?_) | (refine L2.Rx.r_tyL (by walk_at "hp") ?_)
  | refine L2.Rx.r_addS (by walk_at "len") ?_ | refine L2.Rx.r_lenS (by walk_at "len") ?_ | refine L2.Rx.r_slS (by walk_at "len") ?_
  | refine L2.Rx.r_dnotin ?_ | refine L2.Rx.r_dget ?_ | refine L2.Rx.r_dget1 ?_ | refine L2.Rx.r_dput ?_ | refine L2.Rx.r_dpop1 ?_ | refine L2.Rx.r_isN ?_
  | refine L2.Rx.r_for ?_ | refine L2.Rx.r_ilist ?_ | refine L2.Rx.r_itup ?_
  | refine L2.Rx.r_gcons ?_ | refine L2.Rx.r_gnil ?_ | (refine L2.Rx.r_gtupP (by assumption) (by walk_at "at") ?_)
  | (refine L2.Rx.r_rEq rfl ?_) | (refine L2.Rx.r_rNe rfl ?_)
  | refine L2.Rx.r_rU ?_ | refine L2.Rx.r_max2 ?_ | refine L2.Rx.r_min2 ?_ | refine L2.Rx.r_int1i ?_ | (refine L2.Rx.r_lenh (by walk_at "hp") ?_)
  | (refine L2.Rx.r_ixLh (by walk_at "hp") (by walk_at "at") ?_)
  | (refine L2.Rx.r_setL (by walk_at "hp") (by walk_at "at") ?_))
local macro_rules | `(tactic| walk_at "at") => `(tactic| with_unfolding_all rfl)
local macro_rules | `(tactic| walk_at "rd") => `(tactic| (repeat walk_at "rd1"))
local macro_rules | `(tactic| walk_at "hp") => `(tactic| first
  | assumption
  | exact L2.upd_same
  | (refine Eq.trans (L2.upd_ne ?_) ?_; (focus walk_at "ne"); (focus walk_at "hp"))
  | (refine L2.Rx.Kp.at0 (by assumption) ?_; walk_at "hp")
  | (refine L2.Rx.Kp.at1 (by assumption) ?_ ?_; (focus walk_at "ne"); (focus walk_at "hp")))
local macro_rules | `(tactic| walk_at "ne") => `(tactic| first
  | assumption | exact Ne.symm (by assumption)
  | (refine L2.ne_of_none (H := ?nH) (o := ?nO) ?nh ?nn; (case nn => assumption); (case nh => walk_at "hp"))
  | (refine Ne.symm (L2.ne_of_none (H := ?nH) (o := ?nO) ?nh ?nn); (case nn => assumption); (case nh => walk_at "hp")))
local macro_rules | `(tactic| walk_at "len") => `(tactic| (rw [PySem.sizeLine_eq]; omega))
local macro_rules | `(tactic| walk_at "nin") => `(tactic| first
  | exact List.not_mem_nil
  | (refine L2.Rx.nin1 ?_; walk_at "ne"))
local macro_rules | `(tactic| walk_at "none") => `(tactic| first
  | assumption
  | (refine L2.Rx.Kp.none0 (by assumption) ?_ ?_; (focus walk_at "nin"); (focus walk_at "none")))
set_option hygiene false
local macro_rules | `(tactic| walk_at "se") => `(tactic| first | exact L2.Z.SetE.z | exact L2.Z.SetE.s (L2.Z.SetE.z) | exact L2.Z.SetE.s (L2.Z.SetE.s (L2.Z.SetE.z)) | exact L2.Z.SetE.s (L2.Z.SetE.s (L2.Z.SetE.s (L2.Z.SetE.z))) | exact L2.Z.SetE.s (L2.Z.SetE.s (L2.Z.SetE.s (L2.Z.SetE.s (L2.Z.SetE.z)))) | exact L2.Z.SetE.s (L2.Z.SetE.s (L2.Z.SetE.s (L2.Z.SetE.s (L2.Z.SetE.s (L2.Z.SetE.z))))) | exact L2.Z.SetE.s (L2.Z.SetE.s (L2.Z.SetE.s (L2.Z.SetE.s (L2.Z.SetE.s (L2.Z.SetE.s (L2.Z.SetE.z)))))) | exact L2.Z.SetE.s (L2.Z.SetE.s (L2.Z.SetE.s (L2.Z.SetE.s (L2.Z.SetE.s (L2.Z.SetE.s (L2.Z.SetE.s (L2.Z.SetE.z))))))) | exact L2.Z.SetE.s (L2.Z.SetE.s (L2.Z.SetE.s (L2.Z.SetE.s (L2.Z.SetE.s (L2.Z.SetE.s (L2.Z.SetE.s (L2.Z.SetE.s (L2.Z.SetE.z)))))))) | exact L2.Z.SetE.s (L2.Z.SetE.s (L2.Z.SetE.s (L2.Z.SetE.s (L2.Z.SetE.s (L2.Z.SetE.s (L2.Z.SetE.s (L2.Z.SetE.s (L2.Z.SetE.s (L2.Z.SetE.z))))))))) | exact L2.Z.SetE.s (L2.Z.SetE.s (L2.Z.SetE.s (L2.Z.SetE.s (L2.Z.SetE.s (L2.Z.SetE.s (L2.Z.SetE.s (L2.Z.SetE.s (L2.Z.SetE.s (L2.Z.SetE.s (L2.Z.SetE.z)))))))))) | exact L2.Z.SetE.s (L2.Z.SetE.s (L2.Z.SetE.s (L2.Z.SetE.s (L2.Z.SetE.s (L2.Z.SetE.s (L2.Z.SetE.s (L2.Z.SetE.s (L2.Z.SetE.s (L2.Z.SetE.s (L2.Z.SetE.s (L2.Z.SetE.z))))))))))) | exact L2.Z.SetE.s (L2.Z.SetE.s (L2.Z.SetE.s (L2.Z.SetE.s (L2.Z.SetE.s (L2.Z.SetE.s (L2.Z.SetE.s (L2.Z.SetE.s (L2.Z.SetE.s (L2.Z.SetE.s (L2.Z.SetE.s (L2.Z.SetE.s (L2.Z.SetE.z)))))))))))) | exact L2.Z.SetE.s (L2.Z.SetE.s (L2.Z.SetE.s (L2.Z.SetE.s (L2.Z.SetE.s (L2.Z.SetE.s (L2.Z.SetE.s (L2.Z.SetE.s (L2.Z.SetE.s (L2.Z.SetE.s (L2.Z.SetE.s (L2.Z.SetE.s (L2.Z.SetE.s (L2.Z.SetE.z))))))))))))) | exact L2.Z.SetE.s (L2.Z.SetE.s (L2.Z.SetE.s (L2.Z.SetE.s (L2.Z.SetE.s (L2.Z.SetE.s (L2.Z.SetE.s (L2.Z.SetE.s (L2.Z.SetE.s (L2.Z.SetE.s (L2.Z.SetE.s (L2.Z.SetE.s (L2.Z.SetE.s (L2.Z.SetE.s (L2.Z.SetE.z)))))))))))))) | exact L2.Z.SetE.s (L2.Z.SetE.s (L2.Z.SetE.s (L2.Z.SetE.s (L2.Z.SetE.s (L2.Z.SetE.s (L2.Z.SetE.s (L2.Z.SetE.s (L2.Z.SetE.s (L2.Z.SetE.s (L2.Z.SetE.s (L2.Z.SetE.s (L2.Z.SetE.s (L2.Z.SetE.s (L2.Z.SetE.s (L2.Z.SetE.z))))))))))))))) | exact L2.Z.SetE.s (L2.Z.SetE.s (L2.Z.SetE.s (L2.Z.SetE.s (L2.Z.SetE.s (L2.Z.SetE.s (L2.Z.SetE.s (L2.Z.SetE.s (L2.Z.SetE.s (L2.Z.SetE.s (L2.Z.SetE.s (L2.Z.SetE.s (L2.Z.SetE.s (L2.Z.SetE.s (L2.Z.SetE.s (L2.Z.SetE.s (L2.Z.SetE.z)))))))))))))))) | exact L2.Z.SetE.s (L2.Z.SetE.s (L2.Z.SetE.s (L2.Z.SetE.s (L2.Z.SetE.s (L2.Z.SetE.s (L2.Z.SetE.s (L2.Z.SetE.s (L2.Z.SetE.s (L2.Z.SetE.s (L2.Z.SetE.s (L2.Z.SetE.s (L2.Z.SetE.s (L2.Z.SetE.s (L2.Z.SetE.s (L2.Z.SetE.s (L2.Z.SetE.s (L2.Z.SetE.z))))))))))))))))) | exact L2.Z.SetE.s (L2.Z.SetE.s (L2.Z.SetE.s (L2.Z.SetE.s (L2.Z.SetE.s (L2.Z.SetE.s (L2.Z.SetE.s (L2.Z.SetE.s (L2.Z.SetE.s (L2.Z.SetE.s (L2.Z.SetE.s (L2.Z.SetE.s (L2.Z.SetE.s (L2.Z.SetE.s (L2.Z.SetE.s (L2.Z.SetE.s (L2.Z.SetE.s (L2.Z.SetE.s (L2.Z.SetE.z)))))))))))))))))) | exact L2.Z.SetE.s (L2.Z.SetE.s (L2.Z.SetE.s (L2.Z.SetE.s (L2.Z.SetE.s (L2.Z.SetE.s (L2.Z.SetE.s (L2.Z.SetE.s (L2.Z.SetE.s (L2.Z.SetE.s (L2.Z.SetE.s (L2.Z.SetE.s (L2.Z.SetE.s (L2.Z.SetE.s (L2.Z.SetE.s (L2.Z.SetE.s (L2.Z.SetE.s (L2.Z.SetE.s (L2.Z.SetE.s (L2.Z.SetE.z))))))))))))))))))) | exact L2.Z.SetE.s (L2.Z.SetE.s (L2.Z.SetE.s (L2.Z.SetE.s (L2.Z.SetE.s (L2.Z.SetE.s (L2.Z.SetE.s (L2.Z.SetE.s (L2.Z.SetE.s (L2.Z.SetE.s (L2.Z.SetE.s (L2.Z.SetE.s (L2.Z.SetE.s (L2.Z.SetE.s (L2.Z.SetE.s (L2.Z.SetE.s (L2.Z.SetE.s (L2.Z.SetE.s (L2.Z.SetE.s (L2.Z.SetE.s (L2.Z.SetE.z)))))))))))))))))))) | exact L2.Z.SetE.s (L2.Z.SetE.s (L2.Z.SetE.s (L2.Z.SetE.s (L2.Z.SetE.s (L2.Z.SetE.s (L2.Z.SetE.s (L2.Z.SetE.s (L2.Z.SetE.s (L2.Z.SetE.s (L2.Z.SetE.s (L2.Z.SetE.s (L2.Z.SetE.s (L2.Z.SetE.s (L2.Z.SetE.s (L2.Z.SetE.s (L2.Z.SetE.s (L2.Z.SetE.s (L2.Z.SetE.s (L2.Z.SetE.s (L2.Z.SetE.s (L2.Z.SetE.z))))))))))))))))))))))
local macro_rules | `(tactic| walk_at "rf") => `(tactic| with_unfolding_all rfl)
local macro_rules | `(tactic| walk_at "sq") => `(tactic| first | exact L2.Z.Sq.t _ | exact L2.Z.Sq.l _)
local macro_rules | `(tactic| walk_at "nal") => `(tactic| rfl)
local macro_rules | `(tactic| walk_at "st") => `(tactic| with_reducible first
  | refine L2.Rx.r_seq ?_ | refine L2.Rx.r_asg ?_ | refine L2.Rx.r_op ?_
  | refine L2.Rx.r_test ?_ | refine L2.Rx.r_if ?_ | refine L2.Rx.r_ret ?_
  | refine L2.Rx.r_cons ?_ | refine L2.Rx.r_nil ?_ | refine L2.Rx.r_call ?_ | refine L2.Rx.r_cb ?_ | refine L2.Rx.r_next ?_ | refine L2.Rx.r_drop ?_
  | refine L2.Rx.r_gsub ?_ | refine L2.Rx.r_tupF ?_ | refine L2.Rx.r_lst ?_ | refine L2.Rx.r_par ?_ | refine L2.Rx.r_par2 ?_
  | refine L2.Rx.r_un ?_ | refine L2.Rx.r_tb ?_ | refine L2.Rx.r_and ?_ | refine L2.Rx.r_or ?_ | refine L2.Rx.r_not ?_
  | refine L2.Rx.r_andV ?_ | refine L2.Rx.r_orV ?_ | refine L2.Rx.r_notV ?_ | refine L2.Rx.r_ifx ?_ | refine L2.Rx.r_chain ?_
  | refine L2.Rx.r_sl ?_ | refine L2.Rx.r_nopart ?_ | refine L2.Rx.r_part ?_ | refine L2.Rx.r_bm0 ?_ | refine L2.Rx.r_bm ?_
  | refine L2.Rx.r_lc ?_ | refine L2.Rx.r_rng1 ?_ | refine L2.Rx.r_yes ?_ | refine L2.Rx.r_tt ?_ | refine L2.Rx.r_ff ?_ | refine L2.Rx.r_m1 ?_ | refine L2.Rx.r_m0 ?_
  | refine L2.Rx.r_dnotin ?_ | refine L2.Rx.r_dget ?_ | refine L2.Rx.r_dget1 ?_ | refine L2.Rx.r_dget2 ?_ | refine L2.Rx.r_dput ?_
  | refine L2.Rx.r_for ?_ | refine L2.Rx.r_ilist ?_ | refine L2.Rx.r_itup ?_
  | refine L2.Rx.r_gcons ?_ | refine L2.Rx.r_gnil ?_ | refine L2.Rx.r_kw ?_ | (show L2.Rx.tSf2 _ _ _ _ _ _ _ _ _ _ _ _ _; unfold L2.Rx.tSf2))
local macro_rules | `(tactic| walk_at "zv") => `(tactic| first
  | (refine L2.Z.z_int R (fun v R => ?_))
  | (refine L2.Z.z_str R (fun v R => ?_))
  | (refine L2.Z.z_bl R (fun v R => ?_))
  | (refine L2.Z.z_non R (fun v R => ?_))
  | (refine L2.Z.z_var R (by walk_at "rf") (fun v R => ?_))
  | (refine L2.Z.z_varA R (by walk_at "rf") (by rfl) (fun v R => ?_))
  | (refine L2.Z.y_lcName R (by decide) (by walk_at "se") (by rfl) (by rfl) (fun σ hw R => ?_))
  | (refine L2.Z.y_lcPair R (by decide) (by decide) (by walk_at "se") (by walk_at "se") (by rfl) (fun σ hw R => ?_))
  | (refine L2.Z.y_lcPairP R (by decide) (by decide) (by walk_at "se") (by walk_at "se") (by rfl) (fun σ hw R => ?_))
  | (refine L2.Z.y_name R (by walk_at "se") (by rfl) (by rfl) (fun σ R => ?_))
  | (refine L2.Z.z_gtup2 R (fun a b R => ?_))
  | (refine L2.Z.z_gtupP R (fun a b R => ?_))
  | (refine L2.Z.z_gtup3 R (fun a b c R => ?_))
  | (refine L2.Z.z_isD R (by walk_at "rf") (fun a R => ?_))
  | (refine L2.Z.z_isb R (fun R => ?_))
  | (refine L2.Z.z_isi R (fun R => ?_)))
local macro_rules | `(tactic| walk_at "zo") => `(tactic| first
  | (refine L2.Z.z_rI0i R (fun v R => ?_))
  | (refine L2.Z.z_rI0b R (fun v R => ?_))
  | (refine L2.Z.z_eqI R (fun v R => ?_))
  | (refine L2.Z.z_neI R (fun v R => ?_))
  | (refine L2.Z.z_eqS R (fun v R => ?_))
  | (refine L2.Z.z_neS R (fun v R => ?_))
  | (refine L2.Z.z_isV R (fun v R => ?_))
  | (refine L2.Z.z_notV R (fun v R => ?_))
  | (refine L2.Z.z_len R (by walk_at "rf") (by walk_at "sq") (fun v R => ?_))
  | (refine L2.Z.z_tup0 R (fun p o R => ?_); refine L2.Z.gen_R R (fun v H R => ?_))
  | (refine L2.Z.z_tup1 R (by walk_at "rf") (fun p o R => ?_); refine L2.Z.gen_R R (fun v H R => ?_))
  | (refine L2.Z.z_tup2 R (by walk_at "rf") (by walk_at "rf") (fun p o R => ?_); refine L2.Z.gen_R R (fun v H R => ?_))
  | (refine L2.Z.z_tup3 R (by walk_at "rf") (by walk_at "rf") (by walk_at "rf") (fun p o R => ?_); refine L2.Z.gen_R R (fun v H R => ?_))
  | (refine L2.Z.z_lst0 R (fun p R => ?_); refine L2.Z.gen_R R (fun v H R => ?_))
  | (refine L2.Z.z_lst1 R (by walk_at "rf") (fun p R => ?_); refine L2.Z.gen_R R (fun v H R => ?_))
  | (refine L2.Z.z_lst2 R (by walk_at "rf") (by walk_at "rf") (fun p R => ?_); refine L2.Z.gen_R R (fun v H R => ?_))
  | (refine L2.Z.z_lst3 R (by walk_at "rf") (by walk_at "rf") (by walk_at "rf") (fun p R => ?_); refine L2.Z.gen_R R (fun v H R => ?_))
  | (refine L2.Z.z_tupL R (by walk_at "rf") (fun v H R => ?_))
  | (refine L2.Z.z_tupT R (fun v R => ?_))
  | (refine L2.Z.z_listOf R (by walk_at "rf") (by walk_at "sq") (fun v H R => ?_))
  | (refine L2.Z.z_slL R (by walk_at "rf") (fun v H R => ?_))
  | (refine L2.Z.z_isStr R ?_)
  | (refine L2.Z.z_tyL R (by walk_at "rf") ?_)
  | (refine L2.Z.z_isD R (by walk_at "rf") (fun a R => ?_))
  | (refine L2.Z.z_dnew R (fun v H R => ?_))
  | (refine L2.Z.z_max2 R (fun v R => ?_))
  | (refine L2.Z.z_min2 R (fun v R => ?_)))
local macro_rules | `(tactic| walk_at "z1") => `(tactic| first | walk_at "st" | walk_at "zv" | walk_at "zo")
local macro_rules | `(tactic| walk_at "z") => `(tactic| (repeat walk_at "z1"))
local macro_rules | `(tactic| walk_at "ret") => `(tactic| refine L2.Z.z_retP R rfl (fun k f => q _ _ _ k f ?_))
local macro_rules | `(tactic| walk_at "fadd") => `(tactic| exact L2.Z.z_fAdd R rfl hw la ha hacc (by omega) rfl rfl rfl)
local macro_rules | `(tactic| walk_at "get") => `(tactic| first
  | (refine L2.Z.z_getL R (by walk_at "rf") (fun o R => ?_); refine L2.Z.gen_V R (fun v R => ?_))
  | (refine L2.Z.z_getL2 R (by walk_at "rf") (fun o R => ?_); refine L2.Z.gen_V R (fun v R => ?_))
  | (refine L2.Z.z_dinL R (by walk_at "rf") (fun a o R => ?_); refine L2.Z.gen_V R (fun v R => ?_))
  | (refine L2.Z.z_dninL R (by walk_at "rf") (fun a o R => ?_); refine L2.Z.gen_V R (fun v R => ?_))
  | (refine L2.Z.z_get1 R (by walk_at "rf") (by walk_at "rf") (fun o R => ?_); refine L2.Z.gen_V R (fun v R => ?_))
  | (refine L2.Z.z_get2 R (by walk_at "rf") (by walk_at "rf") (fun o R => ?_); refine L2.Z.gen_V R (fun v R => ?_))
  | (refine L2.Z.z_din R (by walk_at "rf") (by walk_at "rf") (fun a o R => ?_); refine L2.Z.gen_V R (fun v R => ?_))
  | (refine L2.Z.z_dnin R (by walk_at "rf") (by walk_at "rf") (fun a o R => ?_); refine L2.Z.gen_V R (fun v R => ?_)))
namespace L2.Ro
open PySem PySem.Spec PyProof.Rows L2.Rx L2.Z
def enc_log : Lg → List PyData := fun l => [logD l]
def post_cells_of : Lg → PyData → Prop := fun l d => d = .tuple ((l.map Prod.fst).map PyData.str)
section
variable {P : Program} {w : World} {K : PySem.W.Frag} {mg : Str → Option Value} {base : Heap}
theorem k_cells_of {f : Addr} {fd : FuncData} (F : Fun K "cells_of" "cells_of" s_cells_of f fd) (g : mg "cells_of" = some (.ref f)) (z : Zb mg)   : Kn P w K mg base CX0 1 "cells_of" (spP enc_log LgOk post_cells_of) := by
  refine ⟨f, fd, ["log"], fnG_body F sc_cells_of (fun vs H Q E h => ?_) (fun cdv A outer s H vs Q E hr h => ?_), g, F.kp, F.binds (fun _ _ _ _ _ _ us hl => match us, hl with | [_], _ => rfl)⟩
  · obtain ⟨S, l, f, mm, lo, q⟩ := h
    rw [f.len]
    rfl
  · obtain ⟨S, l, f, mm, lo, q⟩ := h
    have R : Rp ⟨K, H, S, [], []⟩ H (start ["log", "cell", "value"] vs) [.fz (logD l), .junk, .junk] [] := start_P K f mm rfl rfl rfl
    refine ⟨_, PSs.nox (pss_one (ps_ret (pe_callTy (show CallR _ _ (rTupOf K) from c_tuple) (by rfl) z.n_tuple (by decide +kernel) (pa_cons (pe_lc (own := [("cell", 1), ("value", 2)]) (g := (gTup K 2 (gCons (gName 1) (gCons (gName 2) gNil)))) (by rfl) sc_cells_of.nd (show PI _ _ _ (iTup K _) from pi_tup (pv 0)) (blkOk_by (own := [("cell", 1), ("value", 2)]) (N := ["log", "cell", "value"]) (sc := defScope s_cells_of) (by decide +kernel)) (fun _ _ _ _ _ => (show PG _ _ (gTup K 2 (gCons (gName 1) (gCons (gName 2) gNil))) from pg_tup rfl (pgs_cons (pg_name (i := 1) sc_cells_of.nd rfl (.inl rfl)) (pgs_cons (pg_name (i := 2) sc_cells_of.nd rfl (.inl rfl)) pgs_nil)))) (fun _ _ _ _ _ => pts_nil) (fun _ _ _ _ _ => (pv 1))) pa_nil)))), ?_⟩
    generalize start ["log", "cell", "value"] vs = σ at R ⊢
    walk_at "z"
    refine z_fT (vs := [1, 2]) (enc := prD) (as := l) (fun a => some (.str a.1)) R (by rfl) (by rfl) ?_ ?_
    · intro n a acc H D v ha hacc la R
      walk_at "z"
      have := lo.len
      walk_at "fadd"
    intro D H R
    rw [fm_some] at R
    walk_at "z"
    walk_at "ret"
    rw [post_cells_of, List.map_map]
    rfl
end
end L2.Ro

end
section
set_option Elab.async false
set_option linter.all false
set_option maxRecDepth 100000
set_option maxHeartbeats 4000000
local macro_rules | `(tactic| walk_at "rd1") => `(tactic| with_reducible first
  | refine L2.Rx.r_seq ?_ | refine L2.Rx.r_asg ?_ | refine L2.Rx.r_gname ?_ | refine L2.Rx.r_op ?_ | refine L2.Rx.r_c ?_
  | refine L2.Rx.r_var rfl ?_
  | refine L2.Rx.r_rI0 ?_ | refine L2.Rx.r_test ?_ | refine L2.Rx.r_bl ?_ | refine L2.Rx.r_if ?_ | refine L2.Rx.r_ret ?_
  | refine L2.Rx.r_cons ?_ | refine L2.Rx.r_nil ?_ | refine L2.Rx.r_call ?_ | refine L2.Rx.r_cb ?_ | refine L2.Rx.r_next ?_ | refine L2.Rx.r_drop ?_
  | refine L2.Rx.r_gsub ?_ | refine L2.Rx.r_tupF ?_ | refine L2.Rx.r_lst ?_ | refine L2.Rx.r_par ?_ | refine L2.Rx.r_par2 ?_
  | refine L2.Rx.r_un ?_ | refine L2.Rx.r_tb ?_ | refine L2.Rx.r_and ?_ | refine L2.Rx.r_or ?_ | refine L2.Rx.r_not ?_
  | refine L2.Rx.r_andV ?_ | refine L2.Rx.r_orV ?_ | refine L2.Rx.r_notV ?_ | refine L2.Rx.r_ifx ?_ | refine L2.Rx.r_chain ?_
  | refine L2.Rx.r_sl ?_ | refine L2.Rx.r_nopart ?_ | refine L2.Rx.r_part ?_ | refine L2.Rx.r_exint ?_ | refine L2.Rx.r_bm0 ?_ | refine L2.Rx.r_bm ?_
  | refine L2.Rx.r_lc ?_ | refine L2.Rx.r_rng1 ?_ | refine L2.Rx.r_yes ?_ | refine L2.Rx.r_tt ?_ | refine L2.Rx.r_ff ?_ | refine L2.Rx.r_m1 ?_ | refine L2.Rx.r_m0 ?_ | refine L2.Rx.r_isS ?_
  | (refine L2.Rx.r_wipe (by with_unfolding_all rfl) ?_) | (refine L2.Rx.r_tyL (by walk_at "hp") ?_)
  | refine L2.Rx.r_addS (by walk_at "len") ?_ | refine L2.Rx.r_lenS (by walk_at "len") ?_ | refine L2.Rx.r_slS (by walk_at "len") ?_
  | refine L2.Rx.r_dnotin ?_ | refine L2.Rx.r_dget ?_ | refine L2.Rx.r_dget1 ?_ | refine L2.Rx.r_dput ?_ | refine L2.Rx.r_dpop1 ?_ | refine L2.Rx.r_isN ?_
  | refine L2.Rx.r_for ?_ | refine L2.Rx.r_ilist ?_ | refine L2.Rx.r_itup ?_
  | refine L2.Rx.r_gcons ?_ | refine L2.Rx.r_gnil ?_ | (refine L2.Rx.r_gtupP (by assumption) (by walk_at "at") ?_)
  | (refine L2.Rx.r_rEq rfl ?_) | (refine L2.Rx.r_rNe rfl ?_)
  | refine L2.Rx.r_rU ?_ | refine L2.Rx.r_max2 ?_ | refine L2.Rx.r_min2 ?_ | refine L2.Rx.r_int1i ?_ | (refine L2.Rx.r_lenh (by walk_at "hp") ?_)
  | (refine L2.Rx.r_ixLh (by walk_at "hp") (by walk_at "at") ?_)
  | (refine L2.Rx.r_setL (by walk_at "hp") (by walk_at "at") ?_))
local macro_rules | `(tactic| walk_at "at") => `(tactic| with_unfolding_all rfl)
local macro_rules | `(tactic| walk_at "rd") => `(tactic| (repeat walk_at "rd1"))
local macro_rules | `(tactic| walk_at "hp") => `(tactic| first
  | assumption
  | exact L2.upd_same
  | (refine Eq.trans (L2.upd_ne ?_) ?_; (focus walk_at "ne"); (focus walk_at "hp"))
  | (refine L2.Rx.Kp.at0 (by assumption) ?_; walk_at "hp")
  | (refine L2.Rx.Kp.at1 (by assumption) ?_ ?_; (focus walk_at "ne"); (focus walk_at "hp")))
local macro_rules | `(tactic| walk_at "ne") => `(tactic| first
  | assumption | exact Ne.symm (by assumption)
  | (refine L2.ne_of_none (H := ?nH) (o := ?nO) ?nh ?nn; (case nn => assumption); (case nh => walk_at "hp"))
  | (refine Ne.symm (L2.ne_of_none (H := ?nH) (o := ?nO) ?nh ?nn); (case nn => assumption); (case nh => walk_at "hp")))
local macro_rules | `(tactic| walk_at "len") => `(tactic| (rw [PySem.sizeLine_eq]; omega))
local macro_rules | `(tactic| walk_at "nin") => `(tactic| first
  | exact List.not_mem_nil
  | (refine L2.Rx.nin1 ?_; walk_at "ne"))
local macro_rules | `(tactic| walk_at "none") => `(tactic| first
  | assumption
  | (refine L2.Rx.Kp.none0 (by assumption) ?_ ?_; (focus walk_at "nin"); (focus walk_at "none")))
set_option hygiene false
local macro_rules | `(tactic| walk_at "se") => `(tactic| first | exact L2.Z.SetE.z | exact L2.Z.SetE.s (L2.Z.SetE.z) | exact L2.Z.SetE.s (L2.Z.SetE.s (L2.Z.SetE.z)) | exact L2.Z.SetE.s (L2.Z.SetE.s (L2.Z.SetE.s (L2.Z.SetE.z))) | exact L2.Z.SetE.s (L2.Z.SetE.s (L2.Z.SetE.s (L2.Z.SetE.s (L2.Z.SetE.z)))) | exact L2.Z.SetE.s (L2.Z.SetE.s (L2.Z.SetE.s (L2.Z.SetE.s (L2.Z.SetE.s (L2.Z.SetE.z))))) | exact L2.Z.SetE.s (L2.Z.SetE.s (L2.Z.SetE.s (L2.Z.SetE.s (L2.Z.SetE.s (L2.Z.SetE.s (L2.Z.SetE.z)))))) | exact L2.Z.SetE.s (L2.Z.SetE.s (L2.Z.SetE.s (L2.Z.SetE.s (L2.Z.SetE.s (L2.Z.SetE.s (L2.Z.SetE.s (L2.Z.SetE.z))))))) | exact L2.Z.SetE.s (L2.Z.SetE.s (L2.Z.SetE.s (L2.Z.SetE.s (L2.Z.SetE.s (L2.Z.SetE.s (L2.Z.SetE.s (L2.Z.SetE.s (L2.Z.SetE.z)))))))) | exact L2.Z.SetE.s (L2.Z.SetE.s (L2.Z.SetE.s (L2.Z.SetE.s (L2.Z.SetE.s (L2.Z.SetE.s (L2.Z.SetE.s (L2.Z.SetE.s (L2.Z.SetE.s (L2.Z.SetE.z))))))))) | exact L2.Z.SetE.s (L2.Z.SetE.s (L2.Z.SetE.s (L2.Z.SetE.s (L2.Z.SetE.s (L2.Z.SetE.s (L2.Z.SetE.s (L2.Z.SetE.s (L2.Z.SetE.s (L2.Z.SetE.s (L2.Z.SetE.z)))))))))) | exact L2.Z.SetE.s (L2.Z.SetE.s (L2.Z.SetE.s (L2.Z.SetE.s (L2.Z.SetE.s (L2.Z.SetE.s (L2.Z.SetE.s (L2.Z.SetE.s (L2.Z.SetE.s (L2.Z.SetE.s (L2.Z.SetE.s (L2.Z.SetE.z))))))))))) | exact L2.Z.SetE.s (L2.Z.SetE.s (L2.Z.SetE.s (L2.Z.SetE.s (L2.Z.SetE.s (L2.Z.SetE.s (L2.Z.SetE.s (L2.Z.SetE.s (L2.Z.SetE.s (L2.Z.SetE.s (L2.Z.SetE.s (L2.Z.SetE.s (L2.Z.SetE.z)))))))))))) | exact L2.Z.SetE.s (L2.Z.SetE.s (L2.Z.SetE.s (L2.Z.SetE.s (L2.Z.SetE.s (L2.Z.SetE.s (L2.Z.SetE.s (L2.Z.SetE.s (L2.Z.SetE.s (L2.Z.SetE.s (L2.Z.SetE.s (L2.Z.SetE.s (L2.Z.SetE.s (L2.Z.SetE.z))))))))))))) | exact L2.Z.SetE.s (L2.Z.SetE.s (L2.Z.SetE.s (L2.Z.SetE.s (L2.Z.SetE.s (L2.Z.SetE.s (L2.Z.SetE.s (L2.Z.SetE.s (L2.Z.SetE.s (L2.Z.SetE.s (L2.Z.SetE.s (L2.Z.SetE.s (L2.Z.SetE.s (L2.Z.SetE.s (L2.Z.SetE.z)))))))))))))) | exact L2.Z.SetE.s (L2.Z.SetE.s (L2.Z.SetE.s (L2.Z.SetE.s (L2.Z.SetE.s (L2.Z.SetE.s (L2.Z.SetE.s (L2.Z.SetE.s (L2.Z.SetE.s (L2.Z.SetE.s (L2.Z.SetE.s (L2.Z.SetE.s (L2.Z.SetE.s (L2.Z.SetE.s (L2.Z.SetE.s (L2.Z.SetE.z))))))))))))))) | exact L2.Z.SetE.s (L2.Z.SetE.s (L2.Z.SetE.s (L2.Z.SetE.s (L2.Z.SetE.s (L2.Z.SetE.s (L2.Z.SetE.s (L2.Z.SetE.s (L2.Z.SetE.s (L2.Z.SetE.s (L2.Z.SetE.s (L2.Z.SetE.s (L2.Z.SetE.s (L2.Z.SetE.s (L2.Z.SetE.s (L2.Z.SetE.s (L2.Z.SetE.z)))))))))))))))) | exact L2.Z.SetE.s (L2.Z.SetE.s (L2.Z.SetE.s (L2.Z.SetE.s (L2.Z.SetE.s (L2.Z.SetE.s (L2.Z.SetE.s (L2.Z.SetE.s (L2.Z.SetE.s (L2.Z.SetE.s (L2.Z.SetE.s (L2.Z.SetE.s (L2.Z.SetE.s (L2.Z.SetE.s (L2.Z.SetE.s (L2.Z.SetE.s (L2.Z.SetE.s (L2.Z.SetE.z))))))))))))))))) | exact L2.Z.SetE.s (L2.Z.SetE.s (L2.Z.SetE.s (L2.Z.SetE.s (L2.Z.SetE.s (L2.Z.SetE.s (L2.Z.SetE.s (L2.Z.SetE.s (L2.Z.SetE.s (L2.Z.SetE.s (L2.Z.SetE.s (L2.Z.SetE.s (L2.Z.SetE.s (L2.Z.SetE.s (L2.Z.SetE.s (L2.Z.SetE.s (L2.Z.SetE.s (L2.Z.SetE.s (L2.Z.SetE.z)))))))))))))))))) | exact L2.Z.SetE.s (L2.Z.SetE.s (L2.Z.SetE.s (L2.Z.SetE.s (L2.Z.SetE.s (L2.Z.SetE.s (L2.Z.SetE.s (L2.Z.SetE.s (L2.Z.SetE.s (L2.Z.SetE.s (L2.Z.SetE.s (L2.Z.SetE.s (L2.Z.SetE.s (L2.Z.SetE.s (L2.Z.SetE.s (L2.Z.SetE.s (L2.Z.SetE.s (L2.Z.SetE.s (L2.Z.SetE.s (L2.Z.SetE.z))))))))))))))))))) | exact L2.Z.SetE.s (L2.Z.SetE.s (L2.Z.SetE.s (L2.Z.SetE.s (L2.Z.SetE.s (L2.Z.SetE.s (L2.Z.SetE.s (L2.Z.SetE.s (L2.Z.SetE.s (L2.Z.SetE.s (L2.Z.SetE.s (L2.Z.SetE.s (L2.Z.SetE.s (L2.Z.SetE.s (L2.Z.SetE.s (L2.Z.SetE.s (L2.Z.SetE.s (L2.Z.SetE.s (L2.Z.SetE.s (L2.Z.SetE.s (L2.Z.SetE.z)))))))))))))))))))) | exact L2.Z.SetE.s (L2.Z.SetE.s (L2.Z.SetE.s (L2.Z.SetE.s (L2.Z.SetE.s (L2.Z.SetE.s (L2.Z.SetE.s (L2.Z.SetE.s (L2.Z.SetE.s (L2.Z.SetE.s (L2.Z.SetE.s (L2.Z.SetE.s (L2.Z.SetE.s (L2.Z.SetE.s (L2.Z.SetE.s (L2.Z.SetE.s (L2.Z.SetE.s (L2.Z.SetE.s (L2.Z.SetE.s (L2.Z.SetE.s (L2.Z.SetE.s (L2.Z.SetE.z))))))))))))))))))))))
local macro_rules | `(tactic| walk_at "rf") => `(tactic| with_unfolding_all rfl)
local macro_rules | `(tactic| walk_at "sq") => `(tactic| first | exact L2.Z.Sq.t _ | exact L2.Z.Sq.l _)
local macro_rules | `(tactic| walk_at "nal") => `(tactic| rfl)
local macro_rules | `(tactic| walk_at "st") => `(tactic| with_reducible first
  | refine L2.Rx.r_seq ?_ | refine L2.Rx.r_asg ?_ | refine L2.Rx.r_op ?_
  | refine L2.Rx.r_test ?_ | refine L2.Rx.r_if ?_ | refine L2.Rx.r_ret ?_
  | refine L2.Rx.r_cons ?_ | refine L2.Rx.r_nil ?_ | refine L2.Rx.r_call ?_ | refine L2.Rx.r_cb ?_ | refine L2.Rx.r_next ?_ | refine L2.Rx.r_drop ?_
  | refine L2.Rx.r_gsub ?_ | refine L2.Rx.r_tupF ?_ | refine L2.Rx.r_lst ?_ | refine L2.Rx.r_par ?_ | refine L2.Rx.r_par2 ?_
  | refine L2.Rx.r_un ?_ | refine L2.Rx.r_tb ?_ | refine L2.Rx.r_and ?_ | refine L2.Rx.r_or ?_ | refine L2.Rx.r_not ?_
  | refine L2.Rx.r_andV ?_ | refine L2.Rx.r_orV ?_ | refine L2.Rx.r_notV ?_ | refine L2.Rx.r_ifx ?_ | refine L2.Rx.r_chain ?_
  | refine L2.Rx.r_sl ?_ | refine L2.Rx.r_nopart ?_ | refine L2.Rx.r_part ?_ | refine L2.Rx.r_bm0 ?_ | refine L2.Rx.r_bm ?_
  | refine L2.Rx.r_lc ?_ | refine L2.Rx.r_rng1 ?_ | refine L2.Rx.r_yes ?_ | refine L2.Rx.r_tt ?_ | refine L2.Rx.r_ff ?_ | refine L2.Rx.r_m1 ?_ | refine L2.Rx.r_m0 ?_
  | refine L2.Rx.r_dnotin ?_ | refine L2.Rx.r_dget ?_ | refine L2.Rx.r_dget1 ?_ | refine L2.Rx.r_dget2 ?_ | refine L2.Rx.r_dput ?_
  | refine L2.Rx.r_for ?_ | refine L2.Rx.r_ilist ?_ | refine L2.Rx.r_itup ?_
  | refine L2.Rx.r_gcons ?_ | refine L2.Rx.r_gnil ?_ | refine L2.Rx.r_kw ?_ | (show L2.Rx.tSf2 _ _ _ _ _ _ _ _ _ _ _ _ _; unfold L2.Rx.tSf2))
local macro_rules | `(tactic| walk_at "zv") => `(tactic| first
  | (refine L2.Z.z_int R (fun v R => ?_))
  | (refine L2.Z.z_str R (fun v R => ?_))
  | (refine L2.Z.z_bl R (fun v R => ?_))
  | (refine L2.Z.z_non R (fun v R => ?_))
  | (refine L2.Z.z_var R (by walk_at "rf") (fun v R => ?_))
  | (refine L2.Z.z_varA R (by walk_at "rf") (by rfl) (fun v R => ?_))
  | (refine L2.Z.y_lcName R (by decide) (by walk_at "se") (by rfl) (by rfl) (fun σ hw R => ?_))
  | (refine L2.Z.y_lcPair R (by decide) (by decide) (by walk_at "se") (by walk_at "se") (by rfl) (fun σ hw R => ?_))
  | (refine L2.Z.y_lcPairP R (by decide) (by decide) (by walk_at "se") (by walk_at "se") (by rfl) (fun σ hw R => ?_))
  | (refine L2.Z.y_name R (by walk_at "se") (by rfl) (by rfl) (fun σ R => ?_))
  | (refine L2.Z.z_gtup2 R (fun a b R => ?_))
  | (refine L2.Z.z_gtupP R (fun a b R => ?_))
  | (refine L2.Z.z_gtup3 R (fun a b c R => ?_))
  | (refine L2.Z.z_isD R (by walk_at "rf") (fun a R => ?_))
  | (refine L2.Z.z_isb R (fun R => ?_))
  | (refine L2.Z.z_isi R (fun R => ?_)))
local macro_rules | `(tactic| walk_at "zo") => `(tactic| first
  | (refine L2.Z.z_rI0i R (fun v R => ?_))
  | (refine L2.Z.z_rI0b R (fun v R => ?_))
  | (refine L2.Z.z_eqI R (fun v R => ?_))
  | (refine L2.Z.z_neI R (fun v R => ?_))
  | (refine L2.Z.z_eqS R (fun v R => ?_))
  | (refine L2.Z.z_neS R (fun v R => ?_))
  | (refine L2.Z.z_isV R (fun v R => ?_))
  | (refine L2.Z.z_notV R (fun v R => ?_))
  | (refine L2.Z.z_len R (by walk_at "rf") (by walk_at "sq") (fun v R => ?_))
  | (refine L2.Z.z_tup0 R (fun p o R => ?_); refine L2.Z.gen_R R (fun v H R => ?_))
  | (refine L2.Z.z_tup1 R (by walk_at "rf") (fun p o R => ?_); refine L2.Z.gen_R R (fun v H R => ?_))
  | (refine L2.Z.z_tup2 R (by walk_at "rf") (by walk_at "rf") (fun p o R => ?_); refine L2.Z.gen_R R (fun v H R => ?_))
  | (refine L2.Z.z_tup3 R (by walk_at "rf") (by walk_at "rf") (by walk_at "rf") (fun p o R => ?_); refine L2.Z.gen_R R (fun v H R => ?_))
  | (refine L2.Z.z_lst0 R (fun p R => ?_); refine L2.Z.gen_R R (fun v H R => ?_))
  | (refine L2.Z.z_lst1 R (by walk_at "rf") (fun p R => ?_); refine L2.Z.gen_R R (fun v H R => ?_))
  | (refine L2.Z.z_lst2 R (by walk_at "rf") (by walk_at "rf") (fun p R => ?_); refine L2.Z.gen_R R (fun v H R => ?_))
  | (refine L2.Z.z_lst3 R (by walk_at "rf") (by walk_at "rf") (by walk_at "rf") (fun p R => ?_); refine L2.Z.gen_R R (fun v H R => ?_))
  | (refine L2.Z.z_tupL R (by walk_at "rf") (fun v H R => ?_))
  | (refine L2.Z.z_tupT R (fun v R => ?_))
  | (refine L2.Z.z_listOf R (by walk_at "rf") (by walk_at "sq") (fun v H R => ?_))
  | (refine L2.Z.z_slL R (by walk_at "rf") (fun v H R => ?_))
  | (refine L2.Z.z_isStr R ?_)
  | (refine L2.Z.z_tyL R (by walk_at "rf") ?_)
  | (refine L2.Z.z_isD R (by walk_at "rf") (fun a R => ?_))
  | (refine L2.Z.z_dnew R (fun v H R => ?_))
  | (refine L2.Z.z_max2 R (fun v R => ?_))
  | (refine L2.Z.z_min2 R (fun v R => ?_)))
local macro_rules | `(tactic| walk_at "z1") => `(tactic| first | walk_at "st" | walk_at "zv" | walk_at "zo")
local macro_rules | `(tactic| walk_at "z") => `(tactic| (repeat walk_at "z1"))
local macro_rules | `(tactic| walk_at "ret") => `(tactic| refine L2.Z.z_retP R rfl (fun k f => q _ _ _ k f ?_))
local macro_rules | `(tactic| walk_at "fadd") => `(tactic| exact L2.Z.z_fAdd R rfl hw la ha hacc (by omega) rfl rfl rfl)
local macro_rules | `(tactic| walk_at "get") => `(tactic| first
  | (refine L2.Z.z_getL R (by walk_at "rf") (fun o R => ?_); refine L2.Z.gen_V R (fun v R => ?_))
  | (refine L2.Z.z_getL2 R (by walk_at "rf") (fun o R => ?_); refine L2.Z.gen_V R (fun v R => ?_))
  | (refine L2.Z.z_dinL R (by walk_at "rf") (fun a o R => ?_); refine L2.Z.gen_V R (fun v R => ?_))
  | (refine L2.Z.z_dninL R (by walk_at "rf") (fun a o R => ?_); refine L2.Z.gen_V R (fun v R => ?_))
  | (refine L2.Z.z_get1 R (by walk_at "rf") (by walk_at "rf") (fun o R => ?_); refine L2.Z.gen_V R (fun v R => ?_))
  | (refine L2.Z.z_get2 R (by walk_at "rf") (by walk_at "rf") (fun o R => ?_); refine L2.Z.gen_V R (fun v R => ?_))
  | (refine L2.Z.z_din R (by walk_at "rf") (by walk_at "rf") (fun a o R => ?_); refine L2.Z.gen_V R (fun v R => ?_))
  | (refine L2.Z.z_dnin R (by walk_at "rf") (by walk_at "rf") (fun a o R => ?_); refine L2.Z.gen_V R (fun v R => ?_)))
namespace L2.Ro
open PySem PySem.Spec PyProof.Rows L2.Rx L2.Z
def enc_logc : Lg × Str → List PyData := fun a => [logD a.1, .str a.2]
def post_value_in : Lg × Str → PyData → Prop := fun a d => d = optI (valL a.1 a.2)
section
variable {P : Program} {w : World} {K : PySem.W.Frag} {mg : Str → Option Value} {base : Heap}
theorem k_value_in0 {f : Addr} {fd : FuncData} (F : Fun K "value_in" "value_in" s_value_in f fd) (g : mg "value_in" = some (.ref f)) (z : Zb mg)   : FnG P w K mg base CX0 1 f fd ["log", "cell"] (spP enc_logc (fun a => LgOk a.1) post_value_in) := by
  refine fnG_body F sc_value_in (fun vs H Q E h => ?_) (fun cdv A outer s H vs Q E hr h => ?_)
  · obtain ⟨S, ⟨l, c⟩, f, mm, lo, q⟩ := h
    rw [f.len]
    rfl
  · obtain ⟨S, ⟨l, c⟩, f, mm, lo, q⟩ := h
    have R : Rp ⟨K, H, S, [], []⟩ H (start ["log", "cell"] vs) [.fz (logD l), .fz (.str c)] [] := start_P K f mm rfl rfl rfl
    refine ⟨_, PSs.nox (pss_one (ps_ret (pe_dget1 hr.hu (pe_callTy (show CallR _ _ (rDictP K) from (c_dictP rfl)) (by rfl) z.n_dict (by decide +kernel) (pa_cons (pv 0) pa_nil)) (pv 1) ms_1))), ?_⟩
    generalize start ["log", "cell"] vs = σ at R ⊢
    walk_at "z"
    refine z_dictL lo.nd R (by walk_at "rf") (by walk_at "sq") fun v H R => ?_
    walk_at "z"
    walk_at "get"
    walk_at "ret"
    rfl
end
theorem k_value_in {P : Program} {w : World} {K : PySem.W.Frag} {mg : Str → Option Value} {base : Heap} {f : Addr} {fd : FuncData} (F : Fun K "value_in" "value_in" s_value_in f fd) (g : mg "value_in" = some (.ref f)) (z : Zb mg)   : Kn P w K mg base CX0 1 "value_in" (spP enc_logc (fun a => LgOk a.1) post_value_in) :=
  ⟨f, fd, _, k_value_in0 F g z , g, F.kp, F.binds (fun _ _ _ _ _ _ us hl => match us, hl with | [_, _], _ => rfl)⟩
theorem k_value_in_cell_log {P : Program} {w : World} {K : PySem.W.Frag} {mg : Str → Option Value} {base : Heap} {f : Addr} {fd : FuncData} (F : Fun K "value_in" "value_in" s_value_in f fd) (g : mg "value_in" = some (.ref f)) (z : Zb mg)   : KnK P w K mg base CX0 1 "value_in" ["cell", "log"] pm10 (spP enc_logc (fun a => LgOk a.1) post_value_in) := by
  refine ⟨f, fd, _, pm10, k_value_in0 F g z , g, F.kp, bindsK F (fun _ _ _ _ _ _ ws hl => ?_), fun zs ws r => vals_pm10 r⟩
  rcases ws with _ | ⟨a, _ | ⟨b, _ | ⟨c, r⟩⟩⟩
  · cases hl
  · cases hl
  · rfl
  · simp [pm10] at hl
end L2.Ro

end
section
set_option Elab.async false
set_option linter.all false
set_option maxRecDepth 100000
set_option maxHeartbeats 4000000
local macro_rules | `(tactic| walk_at "rd1") => `(tactic| with_reducible first
  | refine L2.Rx.r_seq ?_ | refine L2.Rx.r_asg ?_ | refine L2.Rx.r_gname ?_ | refine L2.Rx.r_op ?_ | refine L2.Rx.r_c ?_
  | refine L2.Rx.r_var rfl ?_
  | refine L2.Rx.r_rI0 ?_ | refine L2.Rx.r_test ?_ | refine L2.Rx.r_bl ?_ | refine L2.Rx.r_if ?_ | refine L2.Rx.r_ret ?_
  | refine L2.Rx.r_cons ?_ | refine L2.Rx.r_nil ?_ | refine L2.Rx.r_call ?_ | refine L2.Rx.r_cb ?_ | refine L2.Rx.r_next ?_ | refine L2.Rx.r_drop ?_
  | refine L2.Rx.r_gsub ?_ | refine L2.Rx.r_tupF ?_ | refine L2.Rx.r_lst ?_ | refine L2.Rx.r_par ?_ | refine L2.Rx.r_par2 ?_
  | refine L2.Rx.r_un ?_ | refine L2.Rx.r_tb ?_ | refine L2.Rx.r_and ?_ | refine L2.Rx.r_or ?_ | refine L2.Rx.r_not ?_
  | refine L2.Rx.r_andV ?_ | refine L2.Rx.r_orV ?_ | refine L2.Rx.r_notV ?_ | refine L2.Rx.r_ifx ?_ | refine L2.Rx.r_chain ?_
  | refine L2.Rx.r_sl ?_ | refine L2.Rx.r_nopart ?_ | refine L2.Rx.r_part ?_ | refine L2.Rx.r_exint ?_ | refine L2.Rx.r_bm0 ?_ | refine L2.Rx.r_bm ?_
  | refine L2.Rx.r_lc ?_ | refine L2.Rx.r_rng1 ?_ | refine L2.Rx.r_yes ?_ | refine L2.Rx.r_tt ?_ | refine L2.Rx.r_ff ?_ | refine L2.Rx.r_m1 ?_ | refine L2.Rx.r_m0 ?_ | refine L2.Rx.r_isS ?_
  | (refine L2.Rx.r_wipe (by with_unfolding_all rfl) ?_) | (refine L2.Rx.r_tyL (by walk_at "hp") ?_)
  | refine L2.Rx.r_addS (by walk_at "len") ?_ | refine L2.Rx.r_lenS (by walk_at "len") ?_ | refine L2.Rx.r_slS (by walk_at "len") ?_
  | refine L2.Rx.r_dnotin ?_ | refine L2.Rx.r_dget ?_ | refine L2.Rx.r_dget1 ?_ | refine L2.Rx.r_dput ?_ | refine L2.Rx.r_dpop1 ?_ | refine L2.Rx.r_isN ?_
  | refine L2.Rx.r_for ?_ | refine L2.Rx.r_ilist ?_ | refine L2.Rx.r_itup ?_
  | refine L2.Rx.r_gcons ?_ | refine L2.Rx.r_gnil ?_ | (refine L2.Rx.r_gtupP (by assumption) (by walk_at "at") ?_)
  | (refine L2.Rx.r_rEq rfl ?_) | (refine L2.Rx.r_rNe rfl ?_)
  | refine L2.Rx.r_rU ?_ | refine L2.Rx.r_max2 ?_ | refine L2.Rx.r_min2 ?_ | refine L2.Rx.r_int1i ?_ | (refine L2.Rx.r_lenh (by walk_at "hp") ?_)
  | (refine L2.Rx.r_ixLh (by walk_at "hp") (by walk_at "at") ?_)
  | (refine L2.Rx.r_setL (by walk_at "hp") (by walk_at "at") ?_))
local macro_rules | `(tactic| walk_at "at") => `(tactic| with_unfolding_all rfl)
local macro_rules | `(tactic| walk_at "rd") => `(tactic| (repeat walk_at "rd1"))
local macro_rules | `(tactic| walk_at "hp") => `(tactic| first
  | assumption
  | exact L2.upd_same
  | (refine Eq.trans (L2.upd_ne ?_) ?_; (focus walk_at "ne"); (focus walk_at "hp"))
  | (refine L2.Rx.Kp.at0 (by assumption) ?_; walk_at "hp")
  | (refine L2.Rx.Kp.at1 (by assumption) ?_ ?_; (focus walk_at "ne"); (focus walk_at "hp")))
local macro_rules | `(tactic| walk_at "ne") => `(tactic| first
  | assumption | exact Ne.symm (by assumption)
  | (refine L2.ne_of_none (H := ?nH) (o := ?nO) ?nh ?nn; (case nn => assumption); (case nh => walk_at "hp"))
  | (refine Ne.symm (L2.ne_of_none (H := ?nH) (o := ?nO) ?nh ?nn); (case nn => assumption); (case nh => walk_at "hp")))
local macro_rules | `(tactic| walk_at "len") => `(tactic| (rw [PySem.sizeLine_eq]; omega))
local macro_rules | `(tactic| walk_at "nin") => `(tactic| first
  | exact List.not_mem_nil
  | (refine L2.Rx.nin1 ?_; walk_at "ne"))
local macro_rules | `(tactic| walk_at "none") => `(tactic| first
  | assumption
  | (refine L2.Rx.Kp.none0 (by assumption) ?_ ?_; (focus walk_at "nin"); (focus walk_at "none")))
set_option hygiene false
local macro_rules | `(tactic| walk_at "se") => `(tactic| first | exact L2.Z.SetE.z | exact L2.Z.SetE.s (L2.Z.SetE.z) | exact L2.Z.SetE.s (L2.Z.SetE.s (L2.Z.SetE.z)) | exact L2.Z.SetE.s (L2.Z.SetE.s (L2.Z.SetE.s (L2.Z.SetE.z))) | exact L2.Z.SetE.s (L2.Z.SetE.s (L2.Z.SetE.s (L2.Z.SetE.s (L2.Z.SetE.z)))) | exact L2.Z.SetE.s (L2.Z.SetE.s (L2.Z.SetE.s (L2.Z.SetE.s (L2.Z.SetE.s (L2.Z.SetE.z))))) | exact L2.Z.SetE.s (L2.Z.SetE.s (L2.Z.SetE.s (L2.Z.SetE.s (L2.Z.SetE.s (L2.Z.SetE.s (L2.Z.SetE.z)))))) | exact L2.Z.SetE.s (L2.Z.SetE.s (L2.Z.SetE.s (L2.Z.SetE.s (L2.Z.SetE.s (L2.Z.SetE.s (L2.Z.SetE.s (L2.Z.SetE.z))))))) | exact L2.Z.SetE.s (L2.Z.SetE.s (L2.Z.SetE.s (L2.Z.SetE.s (L2.Z.SetE.s (L2.Z.SetE.s (L2.Z.SetE.s (L2.Z.SetE.s (L2.Z.SetE.z)))))))) | exact L2.Z.SetE.s (L2.Z.SetE.s (L2.Z.SetE.s (L2.Z.SetE.s (L2.Z.SetE.s (L2.Z.SetE.s (L2.Z.SetE.s (L2.Z.SetE.s (L2.Z.SetE.s (L2.Z.SetE.z))))))))) | exact L2.Z.SetE.s (L2.Z.SetE.s (L2.Z.SetE.s (L2.Z.SetE.s (L2.Z.SetE.s (L2.Z.SetE.s (L2.Z.SetE.s (L2.Z.SetE.s (L2.Z.SetE.s (L2.Z.SetE.s (L2.Z.SetE.z)))))))))) | exact L2.Z.SetE.s (L2.Z.SetE.s (L2.Z.SetE.s (L2.Z.SetE.s (L2.Z.SetE.s (L2.Z.SetE.s (L2.Z.SetE.s (L2.Z.SetE.s (L2.Z.SetE.s (L2.Z.SetE.s (L2.Z.SetE.s (L2.Z.SetE.z))))))))))) | exact L2.Z.SetE.s (L2.Z.SetE.s (L2.Z.SetE.s (L2.Z.SetE.s (L2.Z.SetE.s (L2.Z.SetE.s (L2.Z.SetE.s (L2.Z.SetE.s (L2.Z.SetE.s (L2.Z.SetE.s (L2.Z.SetE.s (L2.Z.SetE.s (L2.Z.SetE.z)))))))))))) | exact L2.Z.SetE.s (L2.Z.SetE.s (L2.Z.SetE.s (L2.Z.SetE.s (L2.Z.SetE.s (L2.Z.SetE.s (L2.Z.SetE.s (L2.Z.SetE.s (L2.Z.SetE.s (L2.Z.SetE.s (L2.Z.SetE.s (L2.Z.SetE.s (L2.Z.SetE.s (L2.Z.SetE.z))))))))))))) | exact L2.Z.SetE.s (L2.Z.SetE.s (L2.Z.SetE.s (L2.Z.SetE.s (L2.Z.SetE.s (L2.Z.SetE.s (L2.Z.SetE.s (L2.Z.SetE.s (L2.Z.SetE.s (L2.Z.SetE.s (L2.Z.SetE.s (L2.Z.SetE.s (L2.Z.SetE.s (L2.Z.SetE.s (L2.Z.SetE.z)))))))))))))) | exact L2.Z.SetE.s (L2.Z.SetE.s (L2.Z.SetE.s (L2.Z.SetE.s (L2.Z.SetE.s (L2.Z.SetE.s (L2.Z.SetE.s (L2.Z.SetE.s (L2.Z.SetE.s (L2.Z.SetE.s (L2.Z.SetE.s (L2.Z.SetE.s (L2.Z.SetE.s (L2.Z.SetE.s (L2.Z.SetE.s (L2.Z.SetE.z))))))))))))))) | exact L2.Z.SetE.s (L2.Z.SetE.s (L2.Z.SetE.s (L2.Z.SetE.s (L2.Z.SetE.s (L2.Z.SetE.s (L2.Z.SetE.s (L2.Z.SetE.s (L2.Z.SetE.s (L2.Z.SetE.s (L2.Z.SetE.s (L2.Z.SetE.s (L2.Z.SetE.s (L2.Z.SetE.s (L2.Z.SetE.s (L2.Z.SetE.s (L2.Z.SetE.z)))))))))))))))) | exact L2.Z.SetE.s (L2.Z.SetE.s (L2.Z.SetE.s (L2.Z.SetE.s (L2.Z.SetE.s (L2.Z.SetE.s (L2.Z.SetE.s (L2.Z.SetE.s (L2.Z.SetE.s (L2.Z.SetE.s (L2.Z.SetE.s (L2.Z.SetE.s (L2.Z.SetE.s (L2.Z.SetE.s (L2.Z.SetE.s (L2.Z.SetE.s (L2.Z.SetE.s (L2.Z.SetE.z))))))))))))))))) | exact L2.Z.SetE.s (L2.Z.SetE.s (L2.Z.SetE.s (L2.Z.SetE.s (L2.Z.SetE.s (L2.Z.SetE.s (L2.Z.SetE.s (L2.Z.SetE.s (L2.Z.SetE.s (L2.Z.SetE.s (L2.Z.SetE.s (L2.Z.SetE.s (L2.Z.SetE.s (L2.Z.SetE.s (L2.Z.SetE.s (L2.Z.SetE.s (L2.Z.SetE.s (L2.Z.SetE.s (L2.Z.SetE.z)))))))))))))))))) | exact L2.Z.SetE.s (L2.Z.SetE.s (L2.Z.SetE.s (L2.Z.SetE.s (L2.Z.SetE.s (L2.Z.SetE.s (L2.Z.SetE.s (L2.Z.SetE.s (L2.Z.SetE.s (L2.Z.SetE.s (L2.Z.SetE.s (L2.Z.SetE.s (L2.Z.SetE.s (L2.Z.SetE.s (L2.Z.SetE.s (L2.Z.SetE.s (L2.Z.SetE.s (L2.Z.SetE.s (L2.Z.SetE.s (L2.Z.SetE.z))))))))))))))))))) | exact L2.Z.SetE.s (L2.Z.SetE.s (L2.Z.SetE.s (L2.Z.SetE.s (L2.Z.SetE.s (L2.Z.SetE.s (L2.Z.SetE.s (L2.Z.SetE.s (L2.Z.SetE.s (L2.Z.SetE.s (L2.Z.SetE.s (L2.Z.SetE.s (L2.Z.SetE.s (L2.Z.SetE.s (L2.Z.SetE.s (L2.Z.SetE.s (L2.Z.SetE.s (L2.Z.SetE.s (L2.Z.SetE.s (L2.Z.SetE.s (L2.Z.SetE.z)))))))))))))))))))) | exact L2.Z.SetE.s (L2.Z.SetE.s (L2.Z.SetE.s (L2.Z.SetE.s (L2.Z.SetE.s (L2.Z.SetE.s (L2.Z.SetE.s (L2.Z.SetE.s (L2.Z.SetE.s (L2.Z.SetE.s (L2.Z.SetE.s (L2.Z.SetE.s (L2.Z.SetE.s (L2.Z.SetE.s (L2.Z.SetE.s (L2.Z.SetE.s (L2.Z.SetE.s (L2.Z.SetE.s (L2.Z.SetE.s (L2.Z.SetE.s (L2.Z.SetE.s (L2.Z.SetE.z))))))))))))))))))))))
local macro_rules | `(tactic| walk_at "rf") => `(tactic| with_unfolding_all rfl)
local macro_rules | `(tactic| walk_at "sq") => `(tactic| first | exact L2.Z.Sq.t _ | exact L2.Z.Sq.l _)
local macro_rules | `(tactic| walk_at "nal") => `(tactic| rfl)
local macro_rules | `(tactic| walk_at "st") => `(tactic| with_reducible first
  | refine L2.Rx.r_seq ?_ | refine L2.Rx.r_asg ?_ | refine L2.Rx.r_op ?_
  | refine L2.Rx.r_test ?_ | refine L2.Rx.r_if ?_ | refine L2.Rx.r_ret ?_
  | refine L2.Rx.r_cons ?_ | refine L2.Rx.r_nil ?_ | refine L2.Rx.r_call ?_ | refine L2.Rx.r_cb ?_ | refine L2.Rx.r_next ?_ | refine L2.Rx.r_drop ?_
  | refine L2.Rx.r_gsub ?_ | refine L2.Rx.r_tupF ?_ | refine L2.Rx.r_lst ?_ | refine L2.Rx.r_par ?_ | refine L2.Rx.r_par2 ?_
  | refine L2.Rx.r_un ?_ | refine L2.Rx.r_tb ?_ | refine L2.Rx.r_and ?_ | refine L2.Rx.r_or ?_ | refine L2.Rx.r_not ?_
  | refine L2.Rx.r_andV ?_ | refine L2.Rx.r_orV ?_ | refine L2.Rx.r_notV ?_ | refine L2.Rx.r_ifx ?_ | refine L2.Rx.r_chain ?_
  | refine L2.Rx.r_sl ?_ | refine L2.Rx.r_nopart ?_ | refine L2.Rx.r_part ?_ | refine L2.Rx.r_bm0 ?_ | refine L2.Rx.r_bm ?_
  | refine L2.Rx.r_lc ?_ | refine L2.Rx.r_rng1 ?_ | refine L2.Rx.r_yes ?_ | refine L2.Rx.r_tt ?_ | refine L2.Rx.r_ff ?_ | refine L2.Rx.r_m1 ?_ | refine L2.Rx.r_m0 ?_
  | refine L2.Rx.r_dnotin ?_ | refine L2.Rx.r_dget ?_ | refine L2.Rx.r_dget1 ?_ | refine L2.Rx.r_dget2 ?_ | refine L2.Rx.r_dput ?_
  | refine L2.Rx.r_for ?_ | refine L2.Rx.r_ilist ?_ | refine L2.Rx.r_itup ?_
  | refine L2.Rx.r_gcons ?_ | refine L2.Rx.r_gnil ?_ | refine L2.Rx.r_kw ?_ | (show L2.Rx.tSf2 _ _ _ _ _ _ _ _ _ _ _ _ _; unfold L2.Rx.tSf2))
local macro_rules | `(tactic| walk_at "zv") => `(tactic| first
  | (refine L2.Z.z_int R (fun v R => ?_))
  | (refine L2.Z.z_str R (fun v R => ?_))
  | (refine L2.Z.z_bl R (fun v R => ?_))
  | (refine L2.Z.z_non R (fun v R => ?_))
  | (refine L2.Z.z_var R (by walk_at "rf") (fun v R => ?_))
  | (refine L2.Z.z_varA R (by walk_at "rf") (by rfl) (fun v R => ?_))
  | (refine L2.Z.y_lcName R (by decide) (by walk_at "se") (by rfl) (by rfl) (fun σ hw R => ?_))
  | (refine L2.Z.y_lcPair R (by decide) (by decide) (by walk_at "se") (by walk_at "se") (by rfl) (fun σ hw R => ?_))
  | (refine L2.Z.y_lcPairP R (by decide) (by decide) (by walk_at "se") (by walk_at "se") (by rfl) (fun σ hw R => ?_))
  | (refine L2.Z.y_name R (by walk_at "se") (by rfl) (by rfl) (fun σ R => ?_))
  | (refine L2.Z.z_gtup2 R (fun a b R => ?_))
  | (refine L2.Z.z_gtupP R (fun a b R => ?_))
  | (refine L2.Z.z_gtup3 R (fun a b c R => ?_))
  | (refine L2.Z.z_isD R (by walk_at "rf") (fun a R => ?_))
  | (refine L2.Z.z_isb R (fun R => ?_))
  | (refine L2.Z.z_isi R (fun R => ?_)))
local macro_rules | `(tactic| walk_at "zo") => `(tactic| first
  | (refine L2.Z.z_rI0i R (fun v R => ?_))
  | (refine L2.Z.z_rI0b R (fun v R => ?_))
  | (refine L2.Z.z_eqI R (fun v R => ?_))
  | (refine L2.Z.z_neI R (fun v R => ?_))
  | (refine L2.Z.z_eqS R (fun v R => ?_))
  | (refine L2.Z.z_neS R (fun v R => ?_))
  | (refine L2.Z.z_isV R (fun v R => ?_))
  | (refine L2.Z.z_notV R (fun v R => ?_))
  | (refine L2.Z.z_len R (by walk_at "rf") (by walk_at "sq") (fun v R => ?_))
  | (refine L2.Z.z_tup0 R (fun p o R => ?_); refine L2.Z.gen_R R (fun v H R => ?_))
  | (refine L2.Z.z_tup1 R (by walk_at "rf") (fun p o R => ?_); refine L2.Z.gen_R R (fun v H R => ?_))
  | (refine L2.Z.z_tup2 R (by walk_at "rf") (by walk_at "rf") (fun p o R => ?_); refine L2.Z.gen_R R (fun v H R => ?_))
  | (refine L2.Z.z_tup3 R (by walk_at "rf") (by walk_at "rf") (by walk_at "rf") (fun p o R => ?_); refine L2.Z.gen_R R (fun v H R => ?_))
  | (refine L2.Z.z_lst0 R (fun p R => ?_); refine L2.Z.gen_R R (fun v H R => ?_))
  | (refine L2.Z.z_lst1 R (by walk_at "rf") (fun p R => ?_); refine L2.Z.gen_R R (fun v H R => ?_))
  | (refine L2.Z.z_lst2 R (by walk_at "rf") (by walk_at "rf") (fun p R => ?_); refine L2.Z.gen_R R (fun v H R => ?_))
  | (refine L2.Z.z_lst3 R (by walk_at "rf") (by walk_at "rf") (by walk_at "rf") (fun p R => ?_); refine L2.Z.gen_R R (fun v H R => ?_))
  | (refine L2.Z.z_tupL R (by walk_at "rf") (fun v H R => ?_))
  | (refine L2.Z.z_tupT R (fun v R => ?_))
  | (refine L2.Z.z_listOf R (by walk_at "rf") (by walk_at "sq") (fun v H R => ?_))
  | (refine L2.Z.z_slL R (by walk_at "rf") (fun v H R => ?_))
  | (refine L2.Z.z_isStr R ?_)
  | (refine L2.Z.z_tyL R (by walk_at "rf") ?_)
  | (refine L2.Z.z_isD R (by walk_at "rf") (fun a R => ?_))
  | (refine L2.Z.z_dnew R (fun v H R => ?_))
  | (refine L2.Z.z_max2 R (fun v R => ?_))
  | (refine L2.Z.z_min2 R (fun v R => ?_)))
local macro_rules | `(tactic| walk_at "z1") => `(tactic| first | walk_at "st" | walk_at "zv" | walk_at "zo")
local macro_rules | `(tactic| walk_at "z") => `(tactic| (repeat walk_at "z1"))
local macro_rules | `(tactic| walk_at "ret") => `(tactic| refine L2.Z.z_retP R rfl (fun k f => q _ _ _ k f ?_))
local macro_rules | `(tactic| walk_at "fadd") => `(tactic| exact L2.Z.z_fAdd R rfl hw la ha hacc (by omega) rfl rfl rfl)
local macro_rules | `(tactic| walk_at "get") => `(tactic| first
  | (refine L2.Z.z_getL R (by walk_at "rf") (fun o R => ?_); refine L2.Z.gen_V R (fun v R => ?_))
  | (refine L2.Z.z_getL2 R (by walk_at "rf") (fun o R => ?_); refine L2.Z.gen_V R (fun v R => ?_))
  | (refine L2.Z.z_dinL R (by walk_at "rf") (fun a o R => ?_); refine L2.Z.gen_V R (fun v R => ?_))
  | (refine L2.Z.z_dninL R (by walk_at "rf") (fun a o R => ?_); refine L2.Z.gen_V R (fun v R => ?_))
  | (refine L2.Z.z_get1 R (by walk_at "rf") (by walk_at "rf") (fun o R => ?_); refine L2.Z.gen_V R (fun v R => ?_))
  | (refine L2.Z.z_get2 R (by walk_at "rf") (by walk_at "rf") (fun o R => ?_); refine L2.Z.gen_V R (fun v R => ?_))
  | (refine L2.Z.z_din R (by walk_at "rf") (by walk_at "rf") (fun a o R => ?_); refine L2.Z.gen_V R (fun v R => ?_))
  | (refine L2.Z.z_dnin R (by walk_at "rf") (by walk_at "rf") (fun a o R => ?_); refine L2.Z.gen_V R (fun v R => ?_)))
namespace L2.Ro
open PySem PySem.Spec PyProof.Rows L2.Rx L2.Z
section
variable {P : Program} {w : World} {K : PySem.W.Frag} {mg : Str → Option Value} {base : Heap}
theorem k_value {f : Addr} {fd : FuncData} (F : Fun K "_law_value" "_law_value" s_value f fd) (g : mg "_law_value" = some (.ref f)) (z : Zb mg)   : Kn P w K mg base CX0 1 "_law_value" (spP enc_logc (fun a => LgOk a.1) post_value_in) := by
  refine ⟨f, fd, ["_law_entry", "_law_name"], fnG_body F sc_value (fun vs H Q E h => ?_) (fun cdv A outer s H vs Q E hr h => ?_), g, F.kp, F.binds (fun _ _ _ _ _ _ us hl => match us, hl with | [_, _], _ => rfl)⟩
  · obtain ⟨S, ⟨l, c⟩, f, mm, lo, q⟩ := h
    rw [f.len]
    rfl
  · obtain ⟨S, ⟨l, c⟩, f, mm, lo, q⟩ := h
    have R : Rp ⟨K, H, S, [], []⟩ H (start ["_law_entry", "_law_name", "_law_found", "_law_cell_name", "_law_value_here"] vs) [.fz (logD l), .fz (.str c), .junk, .junk, .junk] [] := start_P K f mm rfl rfl rfl
    refine ⟨_, PSs.nox (pss_cons (ps_setLc (i := 2) (own := [("_law_cell_name", 3), ("_law_value_here", 4)]) (g := (gTup K 2 (gCons (gName 3) (gCons (gName 4) gNil)))) (by rfl) sc_value.nd rfl rfl (sw_true rfl rfl rfl (by decide +kernel)) (show PI _ _ _ (iTup K _) from pi_tup (pv 0)) (blkOk_by (own := [("_law_cell_name", 3), ("_law_value_here", 4)]) (N := ["_law_entry", "_law_name", "_law_found", "_law_cell_name", "_law_value_here"]) (sc := defScope s_value) (by decide +kernel)) (fun _ _ _ _ _ => (show PG _ _ (gTup K 2 (gCons (gName 3) (gCons (gName 4) gNil))) from pg_tup rfl (pgs_cons (pg_name (i := 3) sc_value.nd rfl (.inl rfl)) (pgs_cons (pg_name (i := 4) sc_value.nd rfl (.inl rfl)) pgs_nil)))) (fun _ _ _ _ _ => (pts_one (pt_cmpR op_eq (pv 3) (pv 1) (nomark _)))) (fun _ _ _ _ _ => (pv 4)))
      (pss_one (ps_ret (pe_ifExp (pt_cmpR (show OpR _ _ (rNeD K) from (op_neD hr.units)) (pv 2) (pe_lst pa_nil) (nomark _)) (pe_ix (show IxR _ (rIxL K) from ix_list) (pv 2) pe_int (fun _ _ => rfl)) pe_non)))), ?_⟩
    generalize start ["_law_entry", "_law_name", "_law_found", "_law_cell_name", "_law_value_here"] vs = σ at R ⊢
    walk_at "z"
    refine z_fT (vs := [3, 4]) (enc := prD) (as := l) (fun z => if decide (z.1 = c) = true then some (.int z.2) else none) R (by rfl) (by rfl) ?_ ?_
    · intro n a acc H D v ha hacc la R
      walk_at "z"
      have : l.length ≤ 60 := lo.len
      refine r_itb (fun hb => ?_) (fun hb => ?_)
      · walk_at "z"
        exact z_fAdd R rfl hw la ha hacc (by omega) (if_pos hb) rfl rfl
      · exact z_fSkip R hw la ha hacc (by simp [hb]) rfl rfl
    intro D H R
    rw [fm_if] at R
    walk_at "z"
    have cm : Cmp (.list ((l.filter fun z => decide (z.1 = c)).map fun z => PyData.int z.2)) := by
      refine ⟨?_, ?_⟩
      · rw [shp]
        refine shps_mem fun d hd => ?_
        obtain ⟨z, _, rfl⟩ := List.mem_map.mp hd
        rw [shp]
      · rw [PyData.depth]
        have : ∀ ns : Lg, PyData.depthAll (ns.map fun z => PyData.int z.2) = 0 := fun ns => by
          induction ns with
          | nil => rw [List.map_nil, PyData.depthAll]
          | cons a b ih => rw [List.map_cons, PyData.depthAll, ih, PyData.depth]; rfl
        rw [this]
        decide
    refine z_neD rfl R rfl rfl cm Cmp.nilL fun v R => ?_
    walk_at "z"
    refine r_itb (fun hb => ?_) (fun hb => ?_)
    · walk_at "z"
      cases ef : l.filter (fun z => decide (z.1 = c)) with
      | nil => rw [ef] at hb; cases hb
      | cons z r =>
        refine z_ixL R (by walk_at "rf") (d := .int z.2) (by rw [ef]; show atI _ ((0 : Nat) : Int) = _; exact atI_nat rfl) fun v R => ?_
        walk_at "ret"
        show _ = optI (valL l c)
        rw [valL, ← List.head?_filter, ef]
        rfl
    · walk_at "z"
      walk_at "ret"
      cases ef : l.filter (fun z => decide (z.1 = c)) with
      | nil =>
        show _ = optI (valL l c)
        rw [valL, ← List.head?_filter, ef]
        rfl
      | cons z r =>
        rw [ef] at hb
        cases hb
end
end L2.Ro

end
section
set_option Elab.async false
set_option linter.all false
set_option maxRecDepth 100000
set_option maxHeartbeats 4000000
local macro_rules | `(tactic| walk_at "rd1") => `(tactic| with_reducible first
  | refine L2.Rx.r_seq ?_ | refine L2.Rx.r_asg ?_ | refine L2.Rx.r_gname ?_ | refine L2.Rx.r_op ?_ | refine L2.Rx.r_c ?_
  | refine L2.Rx.r_var rfl ?_
  | refine L2.Rx.r_rI0 ?_ | refine L2.Rx.r_test ?_ | refine L2.Rx.r_bl ?_ | refine L2.Rx.r_if ?_ | refine L2.Rx.r_ret ?_
  | refine L2.Rx.r_cons ?_ | refine L2.Rx.r_nil ?_ | refine L2.Rx.r_call ?_ | refine L2.Rx.r_cb ?_ | refine L2.Rx.r_next ?_ | refine L2.Rx.r_drop ?_
  | refine L2.Rx.r_gsub ?_ | refine L2.Rx.r_tupF ?_ | refine L2.Rx.r_lst ?_ | refine L2.Rx.r_par ?_ | refine L2.Rx.r_par2 ?_
  | refine L2.Rx.r_un ?_ | refine L2.Rx.r_tb ?_ | refine L2.Rx.r_and ?_ | refine L2.Rx.r_or ?_ | refine L2.Rx.r_not ?_
  | refine L2.Rx.r_andV ?_ | refine L2.Rx.r_orV ?_ | refine L2.Rx.r_notV ?_ | refine L2.Rx.r_ifx ?_ | refine L2.Rx.r_chain ?_
  | refine L2.Rx.r_sl ?_ | refine L2.Rx.r_nopart ?_ | refine L2.Rx.r_part ?_ | refine L2.Rx.r_exint ?_ | refine L2.Rx.r_bm0 ?_ | refine L2.Rx.r_bm ?_
  | refine L2.Rx.r_lc ?_ | refine L2.Rx.r_rng1 ?_ | refine L2.Rx.r_yes ?_ | refine L2.Rx.r_tt ?_ | refine L2.Rx.r_ff ?_ | refine L2.Rx.r_m1 ?_ | refine L2.Rx.r_m0 ?_ | refine L2.Rx.r_isS ?_
  | (refine L2.Rx.r_wipe (by with_unfolding_all rfl) ?_) | (refine L2.Rx.r_tyL (by walk_at "hp") ?_)
  | refine L2.Rx.r_addS (by walk_at "len") ?_ | refine L2.Rx.r_lenS (by walk_at "len") ?_ | refine L2.Rx.r_slS (by walk_at "len") ?_
  | refine L2.Rx.r_dnotin ?_ | refine L2.Rx.r_dget ?_ | refine L2.Rx.r_dget1 ?_ | refine L2.Rx.r_dput ?_ | refine L2.Rx.r_dpop1 ?_ | refine L2.Rx.r_isN ?_
  | refine L2.Rx.r_for ?_ | refine L2.Rx.r_ilist ?_ | refine L2.Rx.r_itup ?_
  | refine L2.Rx.r_gcons ?_ | refine L2.Rx.r_gnil ?_ | (refine L2.Rx.r_gtupP (by assumption) (by walk_at "at") ?_)
  | (refine L2.Rx.r_rEq rfl ?_) | (refine L2.Rx.r_rNe rfl ?_)
  | refine L2.Rx.r_rU ?_ | refine L2.Rx.r_max2 ?_ | refine L2.Rx.r_min2 ?_ | refine L2.Rx.r_int1i ?_ | (refine L2.Rx.r_lenh (by walk_at "hp") ?_)
  | (refine L2.Rx.r_ixLh (by walk_at "hp") (by walk_at "at") ?_)
  | (refine L2.Rx.r_setL (by walk_at "hp") (by walk_at "at") ?_))
local macro_rules | `(tactic| walk_at "at") => `(tactic| with_unfolding_all rfl)
local macro_rules | `(tactic| walk_at "rd") => `(tactic| (repeat walk_at "rd1"))
local macro_rules | `(tactic| walk_at "hp") => `(tactic| first
  | assumption
  | exact L2.upd_same
  | (refine Eq.trans (L2.upd_ne ?_) ?_; (focus walk_at "ne"); (focus walk_at "hp"))
  | (refine L2.Rx.Kp.at0 (by assumption) ?_; walk_at "hp")
  | (refine L2.Rx.Kp.at1 (by assumption) ?_ ?_; (focus walk_at "ne"); (focus walk_at "hp")))
local macro_rules | `(tactic| walk_at "ne") => `(tactic| first
  | assumption | exact Ne.symm (by assumption)
  | (refine L2.ne_of_none (H := ?nH) (o := ?nO) ?nh ?nn; (case nn => assumption); (case nh => walk_at "hp"))
  | (refine Ne.symm (L2.ne_of_none (H := ?nH) (o := ?nO) ?nh ?nn); (case nn => assumption); (case nh => walk_at "hp")))
local macro_rules | `(tactic| walk_at "len") => `(tactic| (rw [PySem.sizeLine_eq]; omega))
local macro_rules | `(tactic| walk_at "nin") => `(tactic| first
  | exact List.not_mem_nil
  | (refine L2.Rx.nin1 ?_; walk_at "ne"))
local macro_rules | `(tactic| walk_at "none") => `(tactic| first
  | assumption
  | (refine L2.Rx.Kp.none0 (by assumption) ?_ ?_; (focus walk_at "nin"); (focus walk_at "none")))
set_option hygiene false
local macro_rules | `(tactic| walk_at "se") => `(tactic| first | exact L2.Z.SetE.z | exact L2.Z.SetE.s (L2.Z.SetE.z) | exact L2.Z.SetE.s (L2.Z.SetE.s (L2.Z.SetE.z)) | exact L2.Z.SetE.s (L2.Z.SetE.s (L2.Z.SetE.s (L2.Z.SetE.z))) | exact L2.Z.SetE.s (L2.Z.SetE.s (L2.Z.SetE.s (L2.Z.SetE.s (L2.Z.SetE.z)))) | exact L2.Z.SetE.s (L2.Z.SetE.s (L2.Z.SetE.s (L2.Z.SetE.s (L2.Z.SetE.s (L2.Z.SetE.z))))) | exact L2.Z.SetE.s (L2.Z.SetE.s (L2.Z.SetE.s (L2.Z.SetE.s (L2.Z.SetE.s (L2.Z.SetE.s (L2.Z.SetE.z)))))) | exact L2.Z.SetE.s (L2.Z.SetE.s (L2.Z.SetE.s (L2.Z.SetE.s (L2.Z.SetE.s (L2.Z.SetE.s (L2.Z.SetE.s (L2.Z.SetE.z))))))) | exact L2.Z.SetE.s (L2.Z.SetE.s (L2.Z.SetE.s (L2.Z.SetE.s (L2.Z.SetE.s (L2.Z.SetE.s (L2.Z.SetE.s (L2.Z.SetE.s (L2.Z.SetE.z)))))))) | exact L2.Z.SetE.s (L2.Z.SetE.s (L2.Z.SetE.s (L2.Z.SetE.s (L2.Z.SetE.s (L2.Z.SetE.s (L2.Z.SetE.s (L2.Z.SetE.s (L2.Z.SetE.s (L2.Z.SetE.z))))))))) | exact L2.Z.SetE.s (L2.Z.SetE.s (L2.Z.SetE.s (L2.Z.SetE.s (L2.Z.SetE.s (L2.Z.SetE.s (L2.Z.SetE.s (L2.Z.SetE.s (L2.Z.SetE.s (L2.Z.SetE.s (L2.Z.SetE.z)))))))))) | exact L2.Z.SetE.s (L2.Z.SetE.s (L2.Z.SetE.s (L2.Z.SetE.s (L2.Z.SetE.s (L2.Z.SetE.s (L2.Z.SetE.s (L2.Z.SetE.s (L2.Z.SetE.s (L2.Z.SetE.s (L2.Z.SetE.s (L2.Z.SetE.z))))))))))) | exact L2.Z.SetE.s (L2.Z.SetE.s (L2.Z.SetE.s (L2.Z.SetE.s (L2.Z.SetE.s (L2.Z.SetE.s (L2.Z.SetE.s (L2.Z.SetE.s (L2.Z.SetE.s (L2.Z.SetE.s (L2.Z.SetE.s (L2.Z.SetE.s (L2.Z.SetE.z)))))))))))) | exact L2.Z.SetE.s (L2.Z.SetE.s (L2.Z.SetE.s (L2.Z.SetE.s (L2.Z.SetE.s (L2.Z.SetE.s (L2.Z.SetE.s (L2.Z.SetE.s (L2.Z.SetE.s (L2.Z.SetE.s (L2.Z.SetE.s (L2.Z.SetE.s (L2.Z.SetE.s (L2.Z.SetE.z))))))))))))) | exact L2.Z.SetE.s (L2.Z.SetE.s (L2.Z.SetE.s (L2.Z.SetE.s (L2.Z.SetE.s (L2.Z.SetE.s (L2.Z.SetE.s (L2.Z.SetE.s (L2.Z.SetE.s (L2.Z.SetE.s (L2.Z.SetE.s (L2.Z.SetE.s (L2.Z.SetE.s (L2.Z.SetE.s (L2.Z.SetE.z)))))))))))))) | exact L2.Z.SetE.s (L2.Z.SetE.s (L2.Z.SetE.s (L2.Z.SetE.s (L2.Z.SetE.s (L2.Z.SetE.s (L2.Z.SetE.s (L2.Z.SetE.s (L2.Z.SetE.s (L2.Z.SetE.s (L2.Z.SetE.s (L2.Z.SetE.s (L2.Z.SetE.s (L2.Z.SetE.s (L2.Z.SetE.s (L2.Z.SetE.z))))))))))))))) | exact L2.Z.SetE.s (L2.Z.SetE.s (L2.Z.SetE.s (L2.Z.SetE.s (L2.Z.SetE.s (L2.Z.SetE.s (L2.Z.SetE.s (L2.Z.SetE.s (L2.Z.SetE.s (L2.Z.SetE.s (L2.Z.SetE.s (L2.Z.SetE.s (L2.Z.SetE.s (L2.Z.SetE.s (L2.Z.SetE.s (L2.Z.SetE.s (L2.Z.SetE.z)))))))))))))))) | exact L2.Z.SetE.s (L2.Z.SetE.s (L2.Z.SetE.s (L2.Z.SetE.s (L2.Z.SetE.s (L2.Z.SetE.s (L2.Z.SetE.s (L2.Z.SetE.s (L2.Z.SetE.s (L2.Z.SetE.s (L2.Z.SetE.s (L2.Z.SetE.s (L2.Z.SetE.s (L2.Z.SetE.s (L2.Z.SetE.s (L2.Z.SetE.s (L2.Z.SetE.s (L2.Z.SetE.z))))))))))))))))) | exact L2.Z.SetE.s (L2.Z.SetE.s (L2.Z.SetE.s (L2.Z.SetE.s (L2.Z.SetE.s (L2.Z.SetE.s (L2.Z.SetE.s (L2.Z.SetE.s (L2.Z.SetE.s (L2.Z.SetE.s (L2.Z.SetE.s (L2.Z.SetE.s (L2.Z.SetE.s (L2.Z.SetE.s (L2.Z.SetE.s (L2.Z.SetE.s (L2.Z.SetE.s (L2.Z.SetE.s (L2.Z.SetE.z)))))))))))))))))) | exact L2.Z.SetE.s (L2.Z.SetE.s (L2.Z.SetE.s (L2.Z.SetE.s (L2.Z.SetE.s (L2.Z.SetE.s (L2.Z.SetE.s (L2.Z.SetE.s (L2.Z.SetE.s (L2.Z.SetE.s (L2.Z.SetE.s (L2.Z.SetE.s (L2.Z.SetE.s (L2.Z.SetE.s (L2.Z.SetE.s (L2.Z.SetE.s (L2.Z.SetE.s (L2.Z.SetE.s (L2.Z.SetE.s (L2.Z.SetE.z))))))))))))))))))) | exact L2.Z.SetE.s (L2.Z.SetE.s (L2.Z.SetE.s (L2.Z.SetE.s (L2.Z.SetE.s (L2.Z.SetE.s (L2.Z.SetE.s (L2.Z.SetE.s (L2.Z.SetE.s (L2.Z.SetE.s (L2.Z.SetE.s (L2.Z.SetE.s (L2.Z.SetE.s (L2.Z.SetE.s (L2.Z.SetE.s (L2.Z.SetE.s (L2.Z.SetE.s (L2.Z.SetE.s (L2.Z.SetE.s (L2.Z.SetE.s (L2.Z.SetE.z)))))))))))))))))))) | exact L2.Z.SetE.s (L2.Z.SetE.s (L2.Z.SetE.s (L2.Z.SetE.s (L2.Z.SetE.s (L2.Z.SetE.s (L2.Z.SetE.s (L2.Z.SetE.s (L2.Z.SetE.s (L2.Z.SetE.s (L2.Z.SetE.s (L2.Z.SetE.s (L2.Z.SetE.s (L2.Z.SetE.s (L2.Z.SetE.s (L2.Z.SetE.s (L2.Z.SetE.s (L2.Z.SetE.s (L2.Z.SetE.s (L2.Z.SetE.s (L2.Z.SetE.s (L2.Z.SetE.z))))))))))))))))))))))
local macro_rules | `(tactic| walk_at "rf") => `(tactic| with_unfolding_all rfl)
local macro_rules | `(tactic| walk_at "sq") => `(tactic| first | exact L2.Z.Sq.t _ | exact L2.Z.Sq.l _)
local macro_rules | `(tactic| walk_at "nal") => `(tactic| rfl)
local macro_rules | `(tactic| walk_at "st") => `(tactic| with_reducible first
  | refine L2.Rx.r_seq ?_ | refine L2.Rx.r_asg ?_ | refine L2.Rx.r_op ?_
  | refine L2.Rx.r_test ?_ | refine L2.Rx.r_if ?_ | refine L2.Rx.r_ret ?_
  | refine L2.Rx.r_cons ?_ | refine L2.Rx.r_nil ?_ | refine L2.Rx.r_call ?_ | refine L2.Rx.r_cb ?_ | refine L2.Rx.r_next ?_ | refine L2.Rx.r_drop ?_
  | refine L2.Rx.r_gsub ?_ | refine L2.Rx.r_tupF ?_ | refine L2.Rx.r_lst ?_ | refine L2.Rx.r_par ?_ | refine L2.Rx.r_par2 ?_
  | refine L2.Rx.r_un ?_ | refine L2.Rx.r_tb ?_ | refine L2.Rx.r_and ?_ | refine L2.Rx.r_or ?_ | refine L2.Rx.r_not ?_
  | refine L2.Rx.r_andV ?_ | refine L2.Rx.r_orV ?_ | refine L2.Rx.r_notV ?_ | refine L2.Rx.r_ifx ?_ | refine L2.Rx.r_chain ?_
  | refine L2.Rx.r_sl ?_ | refine L2.Rx.r_nopart ?_ | refine L2.Rx.r_part ?_ | refine L2.Rx.r_bm0 ?_ | refine L2.Rx.r_bm ?_
  | refine L2.Rx.r_lc ?_ | refine L2.Rx.r_rng1 ?_ | refine L2.Rx.r_yes ?_ | refine L2.Rx.r_tt ?_ | refine L2.Rx.r_ff ?_ | refine L2.Rx.r_m1 ?_ | refine L2.Rx.r_m0 ?_
  | refine L2.Rx.r_dnotin ?_ | refine L2.Rx.r_dget ?_ | refine L2.Rx.r_dget1 ?_ | refine L2.Rx.r_dget2 ?_ | refine L2.Rx.r_dput ?_
  | refine L2.Rx.r_for ?_ | refine L2.Rx.r_ilist ?_ | refine L2.Rx.r_itup ?_
  | refine L2.Rx.r_gcons ?_ | refine L2.Rx.r_gnil ?_ | refine L2.Rx.r_kw ?_ | (show L2.Rx.tSf2 _ _ _ _ _ _ _ _ _ _ _ _ _; unfold L2.Rx.tSf2))
local macro_rules | `(tactic| walk_at "zv") => `(tactic| first
  | (refine L2.Z.z_int R (fun v R => ?_))
  | (refine L2.Z.z_str R (fun v R => ?_))
  | (refine L2.Z.z_bl R (fun v R => ?_))
  | (refine L2.Z.z_non R (fun v R => ?_))
  | (refine L2.Z.z_var R (by walk_at "rf") (fun v R => ?_))
  | (refine L2.Z.z_varA R (by walk_at "rf") (by rfl) (fun v R => ?_))
  | (refine L2.Z.y_lcName R (by decide) (by walk_at "se") (by rfl) (by rfl) (fun σ hw R => ?_))
  | (refine L2.Z.y_lcPair R (by decide) (by decide) (by walk_at "se") (by walk_at "se") (by rfl) (fun σ hw R => ?_))
  | (refine L2.Z.y_lcPairP R (by decide) (by decide) (by walk_at "se") (by walk_at "se") (by rfl) (fun σ hw R => ?_))
  | (refine L2.Z.y_name R (by walk_at "se") (by rfl) (by rfl) (fun σ R => ?_))
  | (refine L2.Z.z_gtup2 R (fun a b R => ?_))
  | (refine L2.Z.z_gtupP R (fun a b R => ?_))
  | (refine L2.Z.z_gtup3 R (fun a b c R => ?_))
  | (refine L2.Z.z_isD R (by walk_at "rf") (fun a R => ?_))
  | (refine L2.Z.z_isb R (fun R => ?_))
  | (refine L2.Z.z_isi R (fun R => ?_)))
local macro_rules | `(tactic| walk_at "zo") => `(tactic| first
  | (refine L2.Z.z_rI0i R (fun v R => ?_))
  | (refine L2.Z.z_rI0b R (fun v R => ?_))
  | (refine L2.Z.z_eqI R (fun v R => ?_))
  | (refine L2.Z.z_neI R (fun v R => ?_))
  | (refine L2.Z.z_eqS R (fun v R => ?_))
  | (refine L2.Z.z_neS R (fun v R => ?_))
  | (refine L2.Z.z_isV R (fun v R => ?_))
  | (refine L2.Z.z_notV R (fun v R => ?_))
  | (refine L2.Z.z_len R (by walk_at "rf") (by walk_at "sq") (fun v R => ?_))
  | (refine L2.Z.z_tup0 R (fun p o R => ?_); refine L2.Z.gen_R R (fun v H R => ?_))
  | (refine L2.Z.z_tup1 R (by walk_at "rf") (fun p o R => ?_); refine L2.Z.gen_R R (fun v H R => ?_))
  | (refine L2.Z.z_tup2 R (by walk_at "rf") (by walk_at "rf") (fun p o R => ?_); refine L2.Z.gen_R R (fun v H R => ?_))
  | (refine L2.Z.z_tup3 R (by walk_at "rf") (by walk_at "rf") (by walk_at "rf") (fun p o R => ?_); refine L2.Z.gen_R R (fun v H R => ?_))
  | (refine L2.Z.z_lst0 R (fun p R => ?_); refine L2.Z.gen_R R (fun v H R => ?_))
  | (refine L2.Z.z_lst1 R (by walk_at "rf") (fun p R => ?_); refine L2.Z.gen_R R (fun v H R => ?_))
  | (refine L2.Z.z_lst2 R (by walk_at "rf") (by walk_at "rf") (fun p R => ?_); refine L2.Z.gen_R R (fun v H R => ?_))
  | (refine L2.Z.z_lst3 R (by walk_at "rf") (by walk_at "rf") (by walk_at "rf") (fun p R => ?_); refine L2.Z.gen_R R (fun v H R => ?_))
  | (refine L2.Z.z_tupL R (by walk_at "rf") (fun v H R => ?_))
  | (refine L2.Z.z_tupT R (fun v R => ?_))
  | (refine L2.Z.z_listOf R (by walk_at "rf") (by walk_at "sq") (fun v H R => ?_))
  | (refine L2.Z.z_slL R (by walk_at "rf") (fun v H R => ?_))
  | (refine L2.Z.z_isStr R ?_)
  | (refine L2.Z.z_tyL R (by walk_at "rf") ?_)
  | (refine L2.Z.z_isD R (by walk_at "rf") (fun a R => ?_))
  | (refine L2.Z.z_dnew R (fun v H R => ?_))
  | (refine L2.Z.z_max2 R (fun v R => ?_))
  | (refine L2.Z.z_min2 R (fun v R => ?_)))
local macro_rules | `(tactic| walk_at "z1") => `(tactic| first | walk_at "st" | walk_at "zv" | walk_at "zo")
local macro_rules | `(tactic| walk_at "z") => `(tactic| (repeat walk_at "z1"))
local macro_rules | `(tactic| walk_at "ret") => `(tactic| refine L2.Z.z_retP R rfl (fun k f => q _ _ _ k f ?_))
local macro_rules | `(tactic| walk_at "fadd") => `(tactic| exact L2.Z.z_fAdd R rfl hw la ha hacc (by omega) rfl rfl rfl)
local macro_rules | `(tactic| walk_at "get") => `(tactic| first
  | (refine L2.Z.z_getL R (by walk_at "rf") (fun o R => ?_); refine L2.Z.gen_V R (fun v R => ?_))
  | (refine L2.Z.z_getL2 R (by walk_at "rf") (fun o R => ?_); refine L2.Z.gen_V R (fun v R => ?_))
  | (refine L2.Z.z_dinL R (by walk_at "rf") (fun a o R => ?_); refine L2.Z.gen_V R (fun v R => ?_))
  | (refine L2.Z.z_dninL R (by walk_at "rf") (fun a o R => ?_); refine L2.Z.gen_V R (fun v R => ?_))
  | (refine L2.Z.z_get1 R (by walk_at "rf") (by walk_at "rf") (fun o R => ?_); refine L2.Z.gen_V R (fun v R => ?_))
  | (refine L2.Z.z_get2 R (by walk_at "rf") (by walk_at "rf") (fun o R => ?_); refine L2.Z.gen_V R (fun v R => ?_))
  | (refine L2.Z.z_din R (by walk_at "rf") (by walk_at "rf") (fun a o R => ?_); refine L2.Z.gen_V R (fun v R => ?_))
  | (refine L2.Z.z_dnin R (by walk_at "rf") (by walk_at "rf") (fun a o R => ?_); refine L2.Z.gen_V R (fun v R => ?_)))
namespace L2.Ro
open PySem PySem.Spec PyProof.Rows L2.Rx L2.Z
def enc_2log : Lg × Lg → List PyData := fun a => [logD a.1, logD a.2]
def agr (l k : Lg) : Bool := k.all fun z => decide (valL l z.1 = some z.2)
def post_agrees : Lg × Lg → PyData → Prop := fun a d => d = .bool (agr a.1 a.2)
section
variable {P : Program} {w : World} {K : PySem.W.Frag} {mg : Str → Option Value} {base : Heap}
theorem k_agrees {f : Addr} {fd : FuncData} (F : Fun K "agrees" "agrees" s_agrees f fd) (g : mg "agrees" = some (.ref f)) (z : Zb mg)   : Kn P w K mg base CX0 1 "agrees" (spP enc_2log (fun a => LgOk a.1 ∧ a.2.length ≤ 60) post_agrees) := by
  refine ⟨f, fd, ["log", "known"], fnG_body F sc_agrees (fun vs H Q E h => ?_) (fun cdv A outer s H vs Q E hr h => ?_), g, F.kp, F.binds (fun _ _ _ _ _ _ us hl => match us, hl with | [_, _], _ => rfl)⟩
  · obtain ⟨S, ⟨l, k⟩, f, mm, ⟨lo, lk⟩, q⟩ := h
    rw [f.len]
    rfl
  · obtain ⟨S, ⟨l, k⟩, f, mm, ⟨lo, lk⟩, q⟩ := h
    have R : Rp ⟨K, H, S, [], []⟩ H (start ["log", "known", "values", "cell", "value"] vs) [.fz (logD l), .fz (logD k), .junk, .junk, .junk] [] := start_P K f mm rfl rfl rfl
    refine ⟨_, PSs.nox (pss_cons (ps_set (i := 2) sc_agrees.nd rfl (.inr rfl) (pe_callTy (show CallR _ _ (rDictP K) from (c_dictP rfl)) (by rfl) z.n_dict (by decide +kernel) (pa_cons (pv 0) pa_nil)))
      (pss_one (ps_ret (pe_callB (show CallR _ _ (rAll K) from (cr_all rfl)) (by rfl) z.n_all (by decide +kernel) (pa_cons (pe_lc (own := [("cell", 3), ("value", 4)]) (g := (gTup K 2 (gCons (gName 3) (gCons (gName 4) gNil)))) (by rfl) sc_agrees.nd (show PI _ _ _ (iTup K _) from pi_tup (pv 1)) (blkOk_by (own := [("cell", 3), ("value", 4)]) (N := ["log", "known", "values", "cell", "value"]) (sc := defScope s_agrees) (by decide +kernel)) (fun _ _ _ _ _ => (show PG _ _ (gTup K 2 (gCons (gName 3) (gCons (gName 4) gNil))) from pg_tup rfl (pgs_cons (pg_name (i := 3) sc_agrees.nd rfl (.inl rfl)) (pgs_cons (pg_name (i := 4) sc_agrees.nd rfl (.inl rfl)) pgs_nil)))) (fun _ _ _ _ _ => pts_nil) (fun _ _ _ _ _ => (pe_cmpR op_eq (pe_dget1 hr.hu (pv 2) (pv 3) ms_1) (pv 4) (nomark _)))) pa_nil))))), ?_⟩
    generalize start ["log", "known", "values", "cell", "value"] vs = σ at R ⊢
    walk_at "z"
    refine z_dictL lo.nd R (by walk_at "rf") (by walk_at "sq") fun v H R => ?_
    walk_at "z"
    refine z_fT (vs := [3, 4]) (enc := prD) (as := k) (fun z => some (.bool (decide (valL l z.1 = some z.2)))) R (by rfl) (by rfl) ?_ ?_
    · intro n a acc H D v ha hacc la R

      walk_at "z"
      walk_at "get"
      walk_at "z"
      refine z_eqO R fun v R => ?_
      have : k.length ≤ 60 := lk
      exact L2.Z.z_fAdd R rfl hw la ha hacc (by omega) rfl rfl rfl
    intro D H R
    rw [fm_some] at R
    walk_at "z"
    refine z_all (bs := k.map fun z => decide (valL l z.1 = some z.2)) R (by walk_at "rf") (by rw [List.map_map]; rfl) fun v R => ?_
    walk_at "ret"
    rw [post_agrees, agr, List.all_map]
    rfl
end
end L2.Ro

end
section
set_option Elab.async false
set_option linter.all false
set_option maxRecDepth 100000
set_option maxHeartbeats 4000000
local macro_rules | `(tactic| walk_at "rd1") => `(tactic| with_reducible first
  | refine L2.Rx.r_seq ?_ | refine L2.Rx.r_asg ?_ | refine L2.Rx.r_gname ?_ | refine L2.Rx.r_op ?_ | refine L2.Rx.r_c ?_
  | refine L2.Rx.r_var rfl ?_
  | refine L2.Rx.r_rI0 ?_ | refine L2.Rx.r_test ?_ | refine L2.Rx.r_bl ?_ | refine L2.Rx.r_if ?_ | refine L2.Rx.r_ret ?_
  | refine L2.Rx.r_cons ?_ | refine L2.Rx.r_nil ?_ | refine L2.Rx.r_call ?_ | refine L2.Rx.r_cb ?_ | refine L2.Rx.r_next ?_ | refine L2.Rx.r_drop ?_
  | refine L2.Rx.r_gsub ?_ | refine L2.Rx.r_tupF ?_ | refine L2.Rx.r_lst ?_ | refine L2.Rx.r_par ?_ | refine L2.Rx.r_par2 ?_
  | refine L2.Rx.r_un ?_ | refine L2.Rx.r_tb ?_ | refine L2.Rx.r_and ?_ | refine L2.Rx.r_or ?_ | refine L2.Rx.r_not ?_
  | refine L2.Rx.r_andV ?_ | refine L2.Rx.r_orV ?_ | refine L2.Rx.r_notV ?_ | refine L2.Rx.r_ifx ?_ | refine L2.Rx.r_chain ?_
  | refine L2.Rx.r_sl ?_ | refine L2.Rx.r_nopart ?_ | refine L2.Rx.r_part ?_ | refine L2.Rx.r_exint ?_ | refine L2.Rx.r_bm0 ?_ | refine L2.Rx.r_bm ?_
  | refine L2.Rx.r_lc ?_ | refine L2.Rx.r_rng1 ?_ | refine L2.Rx.r_yes ?_ | refine L2.Rx.r_tt ?_ | refine L2.Rx.r_ff ?_ | refine L2.Rx.r_m1 ?_ | refine L2.Rx.r_m0 ?_ | refine L2.Rx.r_isS ?_
  | (refine L2.Rx.r_wipe (by with_unfolding_all rfl) ?_) | (refine L2.Rx.r_tyL (by walk_at "hp") ?_)
  | refine L2.Rx.r_addS (by walk_at "len") ?_ | refine L2.Rx.r_lenS (by walk_at "len") ?_ | refine L2.Rx.r_slS (by walk_at "len") ?_
  | refine L2.Rx.r_dnotin ?_ | refine L2.Rx.r_dget ?_ | refine L2.Rx.r_dget1 ?_ | refine L2.Rx.r_dput ?_ | refine L2.Rx.r_dpop1 ?_ | refine L2.Rx.r_isN ?_
  | refine L2.Rx.r_for ?_ | refine L2.Rx.r_ilist ?_ | refine L2.Rx.r_itup ?_
  | refine L2.Rx.r_gcons ?_ | refine L2.Rx.r_gnil ?_ | (refine L2.Rx.r_gtupP (by assumption) (by walk_at "at") ?_)
  | (refine L2.Rx.r_rEq rfl ?_) | (refine L2.Rx.r_rNe rfl ?_)
  | refine L2.Rx.r_rU ?_ | refine L2.Rx.r_max2 ?_ | refine L2.Rx.r_min2 ?_ | refine L2.Rx.r_int1i ?_ | (refine L2.Rx.r_lenh (by walk_at "hp") ?_)
  | (refine L2.Rx.r_ixLh (by walk_at "hp") (by walk_at "at") ?_)
  | (refine L2.Rx.r_setL (by walk_at "hp") (by walk_at "at") ?_))
local macro_rules | `(tactic| walk_at "at") => `(tactic| with_unfolding_all rfl)
local macro_rules | `(tactic| walk_at "rd") => `(tactic| (repeat walk_at "rd1"))
local macro_rules | `(tactic| walk_at "hp") => `(tactic| first
  | assumption
  | exact L2.upd_same
  | (refine Eq.trans (L2.upd_ne ?_) ?_; (focus walk_at "ne"); (focus walk_at "hp"))
  | (refine L2.Rx.Kp.at0 (by assumption) ?_; walk_at "hp")
  | (refine L2.Rx.Kp.at1 (by assumption) ?_ ?_; (focus walk_at "ne"); (focus walk_at "hp")))
local macro_rules | `(tactic| walk_at "ne") => `(tactic| first
  | assumption | exact Ne.symm (by assumption)
  | (refine L2.ne_of_none (H := ?nH) (o := ?nO) ?nh ?nn; (case nn => assumption); (case nh => walk_at "hp"))
  | (refine Ne.symm (L2.ne_of_none (H := ?nH) (o := ?nO) ?nh ?nn); (case nn => assumption); (case nh => walk_at "hp")))
local macro_rules | `(tactic| walk_at "len") => `(tactic| (rw [PySem.sizeLine_eq]; omega))
local macro_rules | `(tactic| walk_at "nin") => `(tactic| first
  | exact List.not_mem_nil
  | (refine L2.Rx.nin1 ?_; walk_at "ne"))
local macro_rules | `(tactic| walk_at "none") => `(tactic| first
  | assumption
  | (refine L2.Rx.Kp.none0 (by assumption) ?_ ?_; (focus walk_at "nin"); (focus walk_at "none")))
set_option hygiene false
local macro_rules | `(tactic| walk_at "se") => `(tactic| first | exact L2.Z.SetE.z | exact L2.Z.SetE.s (L2.Z.SetE.z) | exact L2.Z.SetE.s (L2.Z.SetE.s (L2.Z.SetE.z)) | exact L2.Z.SetE.s (L2.Z.SetE.s (L2.Z.SetE.s (L2.Z.SetE.z))) | exact L2.Z.SetE.s (L2.Z.SetE.s (L2.Z.SetE.s (L2.Z.SetE.s (L2.Z.SetE.z)))) | exact L2.Z.SetE.s (L2.Z.SetE.s (L2.Z.SetE.s (L2.Z.SetE.s (L2.Z.SetE.s (L2.Z.SetE.z))))) | exact L2.Z.SetE.s (L2.Z.SetE.s (L2.Z.SetE.s (L2.Z.SetE.s (L2.Z.SetE.s (L2.Z.SetE.s (L2.Z.SetE.z)))))) | exact L2.Z.SetE.s (L2.Z.SetE.s (L2.Z.SetE.s (L2.Z.SetE.s (L2.Z.SetE.s (L2.Z.SetE.s (L2.Z.SetE.s (L2.Z.SetE.z))))))) | exact L2.Z.SetE.s (L2.Z.SetE.s (L2.Z.SetE.s (L2.Z.SetE.s (L2.Z.SetE.s (L2.Z.SetE.s (L2.Z.SetE.s (L2.Z.SetE.s (L2.Z.SetE.z)))))))) | exact L2.Z.SetE.s (L2.Z.SetE.s (L2.Z.SetE.s (L2.Z.SetE.s (L2.Z.SetE.s (L2.Z.SetE.s (L2.Z.SetE.s (L2.Z.SetE.s (L2.Z.SetE.s (L2.Z.SetE.z))))))))) | exact L2.Z.SetE.s (L2.Z.SetE.s (L2.Z.SetE.s (L2.Z.SetE.s (L2.Z.SetE.s (L2.Z.SetE.s (L2.Z.SetE.s (L2.Z.SetE.s (L2.Z.SetE.s (L2.Z.SetE.s (L2.Z.SetE.z)))))))))) | exact L2.Z.SetE.s (L2.Z.SetE.s (L2.Z.SetE.s (L2.Z.SetE.s (L2.Z.SetE.s (L2.Z.SetE.s (L2.Z.SetE.s (L2.Z.SetE.s (L2.Z.SetE.s (L2.Z.SetE.s (L2.Z.SetE.s (L2.Z.SetE.z))))))))))) | exact L2.Z.SetE.s (L2.Z.SetE.s (L2.Z.SetE.s (L2.Z.SetE.s (L2.Z.SetE.s (L2.Z.SetE.s (L2.Z.SetE.s (L2.Z.SetE.s (L2.Z.SetE.s (L2.Z.SetE.s (L2.Z.SetE.s (L2.Z.SetE.s (L2.Z.SetE.z)))))))))))) | exact L2.Z.SetE.s (L2.Z.SetE.s (L2.Z.SetE.s (L2.Z.SetE.s (L2.Z.SetE.s (L2.Z.SetE.s (L2.Z.SetE.s (L2.Z.SetE.s (L2.Z.SetE.s (L2.Z.SetE.s (L2.Z.SetE.s (L2.Z.SetE.s (L2.Z.SetE.s (L2.Z.SetE.z))))))))))))) | exact L2.Z.SetE.s (L2.Z.SetE.s (L2.Z.SetE.s (L2.Z.SetE.s (L2.Z.SetE.s (L2.Z.SetE.s (L2.Z.SetE.s (L2.Z.SetE.s (L2.Z.SetE.s (L2.Z.SetE.s (L2.Z.SetE.s (L2.Z.SetE.s (L2.Z.SetE.s (L2.Z.SetE.s (L2.Z.SetE.z)))))))))))))) | exact L2.Z.SetE.s (L2.Z.SetE.s (L2.Z.SetE.s (L2.Z.SetE.s (L2.Z.SetE.s (L2.Z.SetE.s (L2.Z.SetE.s (L2.Z.SetE.s (L2.Z.SetE.s (L2.Z.SetE.s (L2.Z.SetE.s (L2.Z.SetE.s (L2.Z.SetE.s (L2.Z.SetE.s (L2.Z.SetE.s (L2.Z.SetE.z))))))))))))))) | exact L2.Z.SetE.s (L2.Z.SetE.s (L2.Z.SetE.s (L2.Z.SetE.s (L2.Z.SetE.s (L2.Z.SetE.s (L2.Z.SetE.s (L2.Z.SetE.s (L2.Z.SetE.s (L2.Z.SetE.s (L2.Z.SetE.s (L2.Z.SetE.s (L2.Z.SetE.s (L2.Z.SetE.s (L2.Z.SetE.s (L2.Z.SetE.s (L2.Z.SetE.z)))))))))))))))) | exact L2.Z.SetE.s (L2.Z.SetE.s (L2.Z.SetE.s (L2.Z.SetE.s (L2.Z.SetE.s (L2.Z.SetE.s (L2.Z.SetE.s (L2.Z.SetE.s (L2.Z.SetE.s (L2.Z.SetE.s (L2.Z.SetE.s (L2.Z.SetE.s (L2.Z.SetE.s (L2.Z.SetE.s (L2.Z.SetE.s (L2.Z.SetE.s (L2.Z.SetE.s (L2.Z.SetE.z))))))))))))))))) | exact L2.Z.SetE.s (L2.Z.SetE.s (L2.Z.SetE.s (L2.Z.SetE.s (L2.Z.SetE.s (L2.Z.SetE.s (L2.Z.SetE.s (L2.Z.SetE.s (L2.Z.SetE.s (L2.Z.SetE.s (L2.Z.SetE.s (L2.Z.SetE.s (L2.Z.SetE.s (L2.Z.SetE.s (L2.Z.SetE.s (L2.Z.SetE.s (L2.Z.SetE.s (L2.Z.SetE.s (L2.Z.SetE.z)))))))))))))))))) | exact L2.Z.SetE.s (L2.Z.SetE.s (L2.Z.SetE.s (L2.Z.SetE.s (L2.Z.SetE.s (L2.Z.SetE.s (L2.Z.SetE.s (L2.Z.SetE.s (L2.Z.SetE.s (L2.Z.SetE.s (L2.Z.SetE.s (L2.Z.SetE.s (L2.Z.SetE.s (L2.Z.SetE.s (L2.Z.SetE.s (L2.Z.SetE.s (L2.Z.SetE.s (L2.Z.SetE.s (L2.Z.SetE.s (L2.Z.SetE.z))))))))))))))))))) | exact L2.Z.SetE.s (L2.Z.SetE.s (L2.Z.SetE.s (L2.Z.SetE.s (L2.Z.SetE.s (L2.Z.SetE.s (L2.Z.SetE.s (L2.Z.SetE.s (L2.Z.SetE.s (L2.Z.SetE.s (L2.Z.SetE.s (L2.Z.SetE.s (L2.Z.SetE.s (L2.Z.SetE.s (L2.Z.SetE.s (L2.Z.SetE.s (L2.Z.SetE.s (L2.Z.SetE.s (L2.Z.SetE.s (L2.Z.SetE.s (L2.Z.SetE.z)))))))))))))))))))) | exact L2.Z.SetE.s (L2.Z.SetE.s (L2.Z.SetE.s (L2.Z.SetE.s (L2.Z.SetE.s (L2.Z.SetE.s (L2.Z.SetE.s (L2.Z.SetE.s (L2.Z.SetE.s (L2.Z.SetE.s (L2.Z.SetE.s (L2.Z.SetE.s (L2.Z.SetE.s (L2.Z.SetE.s (L2.Z.SetE.s (L2.Z.SetE.s (L2.Z.SetE.s (L2.Z.SetE.s (L2.Z.SetE.s (L2.Z.SetE.s (L2.Z.SetE.s (L2.Z.SetE.z))))))))))))))))))))))
local macro_rules | `(tactic| walk_at "rf") => `(tactic| with_unfolding_all rfl)
local macro_rules | `(tactic| walk_at "sq") => `(tactic| first | exact L2.Z.Sq.t _ | exact L2.Z.Sq.l _)
local macro_rules | `(tactic| walk_at "nal") => `(tactic| rfl)
local macro_rules | `(tactic| walk_at "st") => `(tactic| with_reducible first
  | refine L2.Rx.r_seq ?_ | refine L2.Rx.r_asg ?_ | refine L2.Rx.r_op ?_
  | refine L2.Rx.r_test ?_ | refine L2.Rx.r_if ?_ | refine L2.Rx.r_ret ?_
  | refine L2.Rx.r_cons ?_ | refine L2.Rx.r_nil ?_ | refine L2.Rx.r_call ?_ | refine L2.Rx.r_cb ?_ | refine L2.Rx.r_next ?_ | refine L2.Rx.r_drop ?_
  | refine L2.Rx.r_gsub ?_ | refine L2.Rx.r_tupF ?_ | refine L2.Rx.r_lst ?_ | refine L2.Rx.r_par ?_ | refine L2.Rx.r_par2 ?_
  | refine L2.Rx.r_un ?_ | refine L2.Rx.r_tb ?_ | refine L2.Rx.r_and ?_ | refine L2.Rx.r_or ?_ | refine L2.Rx.r_not ?_
  | refine L2.Rx.r_andV ?_ | refine L2.Rx.r_orV ?_ | refine L2.Rx.r_notV ?_ | refine L2.Rx.r_ifx ?_ | refine L2.Rx.r_chain ?_
  | refine L2.Rx.r_sl ?_ | refine L2.Rx.r_nopart ?_ | refine L2.Rx.r_part ?_ | refine L2.Rx.r_bm0 ?_ | refine L2.Rx.r_bm ?_
  | refine L2.Rx.r_lc ?_ | refine L2.Rx.r_rng1 ?_ | refine L2.Rx.r_yes ?_ | refine L2.Rx.r_tt ?_ | refine L2.Rx.r_ff ?_ | refine L2.Rx.r_m1 ?_ | refine L2.Rx.r_m0 ?_
  | refine L2.Rx.r_dnotin ?_ | refine L2.Rx.r_dget ?_ | refine L2.Rx.r_dget1 ?_ | refine L2.Rx.r_dget2 ?_ | refine L2.Rx.r_dput ?_
  | refine L2.Rx.r_for ?_ | refine L2.Rx.r_ilist ?_ | refine L2.Rx.r_itup ?_
  | refine L2.Rx.r_gcons ?_ | refine L2.Rx.r_gnil ?_ | refine L2.Rx.r_kw ?_ | (show L2.Rx.tSf2 _ _ _ _ _ _ _ _ _ _ _ _ _; unfold L2.Rx.tSf2))
local macro_rules | `(tactic| walk_at "zv") => `(tactic| first
  | (refine L2.Z.z_int R (fun v R => ?_))
  | (refine L2.Z.z_str R (fun v R => ?_))
  | (refine L2.Z.z_bl R (fun v R => ?_))
  | (refine L2.Z.z_non R (fun v R => ?_))
  | (refine L2.Z.z_var R (by walk_at "rf") (fun v R => ?_))
  | (refine L2.Z.z_varA R (by walk_at "rf") (by rfl) (fun v R => ?_))
  | (refine L2.Z.y_lcName R (by decide) (by walk_at "se") (by rfl) (by rfl) (fun σ hw R => ?_))
  | (refine L2.Z.y_lcPair R (by decide) (by decide) (by walk_at "se") (by walk_at "se") (by rfl) (fun σ hw R => ?_))
  | (refine L2.Z.y_lcPairP R (by decide) (by decide) (by walk_at "se") (by walk_at "se") (by rfl) (fun σ hw R => ?_))
  | (refine L2.Z.y_name R (by walk_at "se") (by rfl) (by rfl) (fun σ R => ?_))
  | (refine L2.Z.z_gtup2 R (fun a b R => ?_))
  | (refine L2.Z.z_gtupP R (fun a b R => ?_))
  | (refine L2.Z.z_gtup3 R (fun a b c R => ?_))
  | (refine L2.Z.z_isD R (by walk_at "rf") (fun a R => ?_))
  | (refine L2.Z.z_isb R (fun R => ?_))
  | (refine L2.Z.z_isi R (fun R => ?_)))
local macro_rules | `(tactic| walk_at "zo") => `(tactic| first
  | (refine L2.Z.z_rI0i R (fun v R => ?_))
  | (refine L2.Z.z_rI0b R (fun v R => ?_))
  | (refine L2.Z.z_eqI R (fun v R => ?_))
  | (refine L2.Z.z_neI R (fun v R => ?_))
  | (refine L2.Z.z_eqS R (fun v R => ?_))
  | (refine L2.Z.z_neS R (fun v R => ?_))
  | (refine L2.Z.z_isV R (fun v R => ?_))
  | (refine L2.Z.z_notV R (fun v R => ?_))
  | (refine L2.Z.z_len R (by walk_at "rf") (by walk_at "sq") (fun v R => ?_))
  | (refine L2.Z.z_tup0 R (fun p o R => ?_); refine L2.Z.gen_R R (fun v H R => ?_))
  | (refine L2.Z.z_tup1 R (by walk_at "rf") (fun p o R => ?_); refine L2.Z.gen_R R (fun v H R => ?_))
  | (refine L2.Z.z_tup2 R (by walk_at "rf") (by walk_at "rf") (fun p o R => ?_); refine L2.Z.gen_R R (fun v H R => ?_))
  | (refine L2.Z.z_tup3 R (by walk_at "rf") (by walk_at "rf") (by walk_at "rf") (fun p o R => ?_); refine L2.Z.gen_R R (fun v H R => ?_))
  | (refine L2.Z.z_lst0 R (fun p R => ?_); refine L2.Z.gen_R R (fun v H R => ?_))
  | (refine L2.Z.z_lst1 R (by walk_at "rf") (fun p R => ?_); refine L2.Z.gen_R R (fun v H R => ?_))
  | (refine L2.Z.z_lst2 R (by walk_at "rf") (by walk_at "rf") (fun p R => ?_); refine L2.Z.gen_R R (fun v H R => ?_))
  | (refine L2.Z.z_lst3 R (by walk_at "rf") (by walk_at "rf") (by walk_at "rf") (fun p R => ?_); refine L2.Z.gen_R R (fun v H R => ?_))
  | (refine L2.Z.z_tupL R (by walk_at "rf") (fun v H R => ?_))
  | (refine L2.Z.z_tupT R (fun v R => ?_))
  | (refine L2.Z.z_listOf R (by walk_at "rf") (by walk_at "sq") (fun v H R => ?_))
  | (refine L2.Z.z_slL R (by walk_at "rf") (fun v H R => ?_))
  | (refine L2.Z.z_isStr R ?_)
  | (refine L2.Z.z_tyL R (by walk_at "rf") ?_)
  | (refine L2.Z.z_isD R (by walk_at "rf") (fun a R => ?_))
  | (refine L2.Z.z_dnew R (fun v H R => ?_))
  | (refine L2.Z.z_max2 R (fun v R => ?_))
  | (refine L2.Z.z_min2 R (fun v R => ?_)))
local macro_rules | `(tactic| walk_at "z1") => `(tactic| first | walk_at "st" | walk_at "zv" | walk_at "zo")
local macro_rules | `(tactic| walk_at "z") => `(tactic| (repeat walk_at "z1"))
local macro_rules | `(tactic| walk_at "ret") => `(tactic| refine L2.Z.z_retP R rfl (fun k f => q _ _ _ k f ?_))
local macro_rules | `(tactic| walk_at "fadd") => `(tactic| exact L2.Z.z_fAdd R rfl hw la ha hacc (by omega) rfl rfl rfl)
local macro_rules | `(tactic| walk_at "get") => `(tactic| first
  | (refine L2.Z.z_getL R (by walk_at "rf") (fun o R => ?_); refine L2.Z.gen_V R (fun v R => ?_))
  | (refine L2.Z.z_getL2 R (by walk_at "rf") (fun o R => ?_); refine L2.Z.gen_V R (fun v R => ?_))
  | (refine L2.Z.z_dinL R (by walk_at "rf") (fun a o R => ?_); refine L2.Z.gen_V R (fun v R => ?_))
  | (refine L2.Z.z_dninL R (by walk_at "rf") (fun a o R => ?_); refine L2.Z.gen_V R (fun v R => ?_))
  | (refine L2.Z.z_get1 R (by walk_at "rf") (by walk_at "rf") (fun o R => ?_); refine L2.Z.gen_V R (fun v R => ?_))
  | (refine L2.Z.z_get2 R (by walk_at "rf") (by walk_at "rf") (fun o R => ?_); refine L2.Z.gen_V R (fun v R => ?_))
  | (refine L2.Z.z_din R (by walk_at "rf") (by walk_at "rf") (fun a o R => ?_); refine L2.Z.gen_V R (fun v R => ?_))
  | (refine L2.Z.z_dnin R (by walk_at "rf") (by walk_at "rf") (fun a o R => ?_); refine L2.Z.gen_V R (fun v R => ?_)))
namespace L2.Ro
open PySem PySem.Spec PyProof.Rows L2.Rx L2.Z
def diffL (l k : Lg) : List Str := (l.filter fun z => !decide ((valL k z.1).getD z.2 = z.2)).map Prod.fst
def post_differing : Lg × Lg → PyData → Prop := fun a d => d = .tuple ((diffL a.1 a.2).map PyData.str)
section
variable {P : Program} {w : World} {K : PySem.W.Frag} {mg : Str → Option Value} {base : Heap}
theorem k_differing0 {f : Addr} {fd : FuncData} (F : Fun K "differing" "differing" s_differing f fd) (g : mg "differing" = some (.ref f)) (z : Zb mg)   : FnG P w K mg base CX0 1 f fd ["one", "other"] (spP enc_2log (fun a => LgOk a.1 ∧ LgOk a.2) post_differing) := by
  refine fnG_body F sc_differing (fun vs H Q E h => ?_) (fun cdv A outer s H vs Q E hr h => ?_)
  · obtain ⟨S, ⟨l, k⟩, f, mm, ⟨lo, lk⟩, q⟩ := h
    rw [f.len]
    rfl
  · obtain ⟨S, ⟨l, k⟩, f, mm, ⟨lo, lk⟩, q⟩ := h
    have R : Rp ⟨K, H, S, [], []⟩ H (start ["one", "other", "values", "cell", "value"] vs) [.fz (logD l), .fz (logD k), .junk, .junk, .junk] [] := start_P K f mm rfl rfl rfl
    refine ⟨_, PSs.nox (pss_cons (ps_set (i := 2) sc_differing.nd rfl (.inr rfl) (pe_callTy (show CallR _ _ (rDictP K) from (c_dictP rfl)) (by rfl) z.n_dict (by decide +kernel) (pa_cons (pv 1) pa_nil)))
      (pss_one (ps_ret (pe_callTy (show CallR _ _ (rTupOf K) from c_tuple) (by rfl) z.n_tuple (by decide +kernel) (pa_cons (pe_lc (own := [("cell", 3), ("value", 4)]) (g := (gTup K 2 (gCons (gName 3) (gCons (gName 4) gNil)))) (by rfl) sc_differing.nd (show PI _ _ _ (iTup K _) from pi_tup (pv 0)) (blkOk_by (own := [("cell", 3), ("value", 4)]) (N := ["one", "other", "values", "cell", "value"]) (sc := defScope s_differing) (by decide +kernel)) (fun _ _ _ _ _ => (show PG _ _ (gTup K 2 (gCons (gName 3) (gCons (gName 4) gNil))) from pg_tup rfl (pgs_cons (pg_name (i := 3) sc_differing.nd rfl (.inl rfl)) (pgs_cons (pg_name (i := 4) sc_differing.nd rfl (.inl rfl)) pgs_nil)))) (fun _ _ _ _ _ => (pts_one (pt_cmpR op_ne (pe_dget2 hr.hu (pv 2) (pv 3) (pv 4) ms_2) (pv 4) (nomark _)))) (fun _ _ _ _ _ => (pv 3))) pa_nil))))), ?_⟩
    generalize start ["one", "other", "values", "cell", "value"] vs = σ at R ⊢
    walk_at "z"
    refine z_dictL lk.nd R (by walk_at "rf") (by walk_at "sq") fun v H R => ?_
    walk_at "z"
    refine z_fT (vs := [3, 4]) (enc := prD) (as := l) (fun z => if (!decide ((valL k z.1).getD z.2 = z.2)) = true then some (.str z.1) else none) R (by rfl) (by rfl) ?_ ?_
    · intro n a acc H D v ha hacc la R
      walk_at "z"
      walk_at "get"
      walk_at "z"
      have : l.length ≤ 60 := lo.len
      refine r_itb (fun hb => ?_) (fun hb => ?_)
      · walk_at "z"
        exact z_fAdd R rfl hw la ha hacc (by omega) (if_pos hb) rfl rfl
      · exact z_fSkip R hw la ha hacc (if_neg (by rw [hb]; decide)) rfl rfl
    intro D H R
    rw [fm_if] at R
    walk_at "z"
    walk_at "ret"
    rw [post_differing, diffL, List.map_map]
    rfl
end
theorem k_differing {P : Program} {w : World} {K : PySem.W.Frag} {mg : Str → Option Value} {base : Heap} {f : Addr} {fd : FuncData} (F : Fun K "differing" "differing" s_differing f fd) (g : mg "differing" = some (.ref f)) (z : Zb mg)   : Kn P w K mg base CX0 1 "differing" (spP enc_2log (fun a => LgOk a.1 ∧ LgOk a.2) post_differing) :=
  ⟨f, fd, _, k_differing0 F g z , g, F.kp, F.binds (fun _ _ _ _ _ _ us hl => match us, hl with | [_, _], _ => rfl)⟩
theorem k_differing_other_one {P : Program} {w : World} {K : PySem.W.Frag} {mg : Str → Option Value} {base : Heap} {f : Addr} {fd : FuncData} (F : Fun K "differing" "differing" s_differing f fd) (g : mg "differing" = some (.ref f)) (z : Zb mg)   : KnK P w K mg base CX0 1 "differing" ["other", "one"] pm10 (spP enc_2log (fun a => LgOk a.1 ∧ LgOk a.2) post_differing) := by
  refine ⟨f, fd, _, pm10, k_differing0 F g z , g, F.kp, bindsK F (fun _ _ _ _ _ _ ws hl => ?_), fun zs ws r => vals_pm10 r⟩
  rcases ws with _ | ⟨a, _ | ⟨b, _ | ⟨c, r⟩⟩⟩
  · cases hl
  · cases hl
  · rfl
  · simp [pm10] at hl
end L2.Ro

end
section
set_option Elab.async false
set_option linter.all false
set_option maxRecDepth 100000
set_option maxHeartbeats 4000000
local macro_rules | `(tactic| walk_at "rd1") => `(tactic| with_reducible first
  | refine L2.Rx.r_seq ?_ | refine L2.Rx.r_asg ?_ | refine L2.Rx.r_gname ?_ | refine L2.Rx.r_op ?_ | refine L2.Rx.r_c ?_
  | refine L2.Rx.r_var rfl ?_
  | refine L2.Rx.r_rI0 ?_ | refine L2.Rx.r_test ?_ | refine L2.Rx.r_bl ?_ | refine L2.Rx.r_if ?_ | refine L2.Rx.r_ret ?_
  | refine L2.Rx.r_cons ?_ | refine L2.Rx.r_nil ?_ | refine L2.Rx.r_call ?_ | refine L2.Rx.r_cb ?_ | refine L2.Rx.r_next ?_ | refine L2.Rx.r_drop ?_
  | refine L2.Rx.r_gsub ?_ | refine L2.Rx.r_tupF ?_ | refine L2.Rx.r_lst ?_ | refine L2.Rx.r_par ?_ | refine L2.Rx.r_par2 ?_
  | refine L2.Rx.r_un ?_ | refine L2.Rx.r_tb ?_ | refine L2.Rx.r_and ?_ | refine L2.Rx.r_or ?_ | refine L2.Rx.r_not ?_
  | refine L2.Rx.r_andV ?_ | refine L2.Rx.r_orV ?_ | refine L2.Rx.r_notV ?_ | refine L2.Rx.r_ifx ?_ | refine L2.Rx.r_chain ?_
  | refine L2.Rx.r_sl ?_ | refine L2.Rx.r_nopart ?_ | refine L2.Rx.r_part ?_ | refine L2.Rx.r_exint ?_ | refine L2.Rx.r_bm0 ?_ | refine L2.Rx.r_bm ?_
  | refine L2.Rx.r_lc ?_ | refine L2.Rx.r_rng1 ?_ | refine L2.Rx.r_yes ?_ | refine L2.Rx.r_tt ?_ | refine L2.Rx.r_ff ?_ | refine L2.Rx.r_m1 ?_ | refine L2.Rx.r_m0 ?_ | refine L2.Rx.r_isS ?_
  | (refine L2.Rx.r_wipe (by with_unfolding_all rfl) ?_) | (refine L2.Rx.r_tyL (by walk_at "hp") ?_)
  | refine L2.Rx.r_addS (by walk_at "len") ?_ | refine L2.Rx.r_lenS (by walk_at "len") ?_ | refine L2.Rx.r_slS (by walk_at "len") ?_
  | refine L2.Rx.r_dnotin ?_ | refine L2.Rx.r_dget ?_ | refine L2.Rx.r_dget1 ?_ | refine L2.Rx.r_dput ?_ | refine L2.Rx.r_dpop1 ?_ | refine L2.Rx.r_isN ?_
  | refine L2.Rx.r_for ?_ | refine L2.Rx.r_ilist ?_ | refine L2.Rx.r_itup ?_
  | refine L2.Rx.r_gcons ?_ | refine L2.Rx.r_gnil ?_ | (refine L2.Rx.r_gtupP (by assumption) (by walk_at "at") ?_)
  | (refine L2.Rx.r_rEq rfl ?_) | (refine L2.Rx.r_rNe rfl ?_)
  | refine L2.Rx.r_rU ?_ | refine L2.Rx.r_max2 ?_ | refine L2.Rx.r_min2 ?_ | refine L2.Rx.r_int1i ?_ | (refine L2.Rx.r_lenh (by walk_at "hp") ?_)
  | (refine L2.Rx.r_ixLh (by walk_at "hp") (by walk_at "at") ?_)
  | (refine L2.Rx.r_setL (by walk_at "hp") (by walk_at "at") ?_))
local macro_rules | `(tactic| walk_at "at") => `(tactic| with_unfolding_all rfl)
local macro_rules | `(tactic| walk_at "rd") => `(tactic| (repeat walk_at "rd1"))
local macro_rules | `(tactic| walk_at "hp") => `(tactic| first
  | assumption
  | exact L2.upd_same
  | (refine Eq.trans (L2.upd_ne ?_) ?_; (focus walk_at "ne"); (focus walk_at "hp"))
  | (refine L2.Rx.Kp.at0 (by assumption) ?_; walk_at "hp")
  | (refine L2.Rx.Kp.at1 (by assumption) ?_ ?_; (focus walk_at "ne"); (focus walk_at "hp")))
local macro_rules | `(tactic| walk_at "ne") => `(tactic| first
  | assumption | exact Ne.symm (by assumption)
  | (refine L2.ne_of_none (H := ?nH) (o := ?nO) ?nh ?nn; (case nn => assumption); (case nh => walk_at "hp"))
  | (refine Ne.symm (L2.ne_of_none (H := ?nH) (o := ?nO) ?nh ?nn); (case nn => assumption); (case nh => walk_at "hp")))
local macro_rules | `(tactic| walk_at "len") => `(tactic| (rw [PySem.sizeLine_eq]; omega))
local macro_rules | `(tactic| walk_at "nin") => `(tactic| first
  | exact List.not_mem_nil
  | (refine L2.Rx.nin1 ?_; walk_at "ne"))
local macro_rules | `(tactic| walk_at "none") => `(tactic| first
  | assumption
  | (refine L2.Rx.Kp.none0 (by assumption) ?_ ?_; (focus walk_at "nin"); (focus walk_at "none")))
set_option hygiene false
local macro_rules | `(tactic| walk_at "se") => `(tactic| first | exact L2.Z.SetE.z | exact L2.Z.SetE.s (L2.Z.SetE.z) | exact L2.Z.SetE.s (L2.Z.SetE.s (L2.Z.SetE.z)) | exact L2.Z.SetE.s (L2.Z.SetE.s (L2.Z.SetE.s (L2.Z.SetE.z))) | exact L2.Z.SetE.s (L2.Z.SetE.s (L2.Z.SetE.s (L2.Z.SetE.s (L2.Z.SetE.z)))) | exact L2.Z.SetE.s (L2.Z.SetE.s (L2.Z.SetE.s (L2.Z.SetE.s (L2.Z.SetE.s (L2.Z.SetE.z))))) | exact L2.Z.SetE.s (L2.Z.SetE.s (L2.Z.SetE.s (L2.Z.SetE.s (L2.Z.SetE.s (L2.Z.SetE.s (L2.Z.SetE.z)))))) | exact L2.Z.SetE.s (L2.Z.SetE.s (L2.Z.SetE.s (L2.Z.SetE.s (L2.Z.SetE.s (L2.Z.SetE.s (L2.Z.SetE.s (L2.Z.SetE.z))))))) | exact L2.Z.SetE.s (L2.Z.SetE.s (L2.Z.SetE.s (L2.Z.SetE.s (L2.Z.SetE.s (L2.Z.SetE.s (L2.Z.SetE.s (L2.Z.SetE.s (L2.Z.SetE.z)))))))) | exact L2.Z.SetE.s (L2.Z.SetE.s (L2.Z.SetE.s (L2.Z.SetE.s (L2.Z.SetE.s (L2.Z.SetE.s (L2.Z.SetE.s (L2.Z.SetE.s (L2.Z.SetE.s (L2.Z.SetE.z))))))))) | exact L2.Z.SetE.s (L2.Z.SetE.s (L2.Z.SetE.s (L2.Z.SetE.s (L2.Z.SetE.s (L2.Z.SetE.s (L2.Z.SetE.s (L2.Z.SetE.s (L2.Z.SetE.s (L2.Z.SetE.s (L2.Z.SetE.z)))))))))) | exact L2.Z.SetE.s (L2.Z.SetE.s (L2.Z.SetE.s (L2.Z.SetE.s (L2.Z.SetE.s (L2.Z.SetE.s (L2.Z.SetE.s (L2.Z.SetE.s (L2.Z.SetE.s (L2.Z.SetE.s (L2.Z.SetE.s (L2.Z.SetE.z))))))))))) | exact L2.Z.SetE.s (L2.Z.SetE.s (L2.Z.SetE.s (L2.Z.SetE.s (L2.Z.SetE.s (L2.Z.SetE.s (L2.Z.SetE.s (L2.Z.SetE.s (L2.Z.SetE.s (L2.Z.SetE.s (L2.Z.SetE.s (L2.Z.SetE.s (L2.Z.SetE.z)))))))))))) | exact L2.Z.SetE.s (L2.Z.SetE.s (L2.Z.SetE.s (L2.Z.SetE.s (L2.Z.SetE.s (L2.Z.SetE.s (L2.Z.SetE.s (L2.Z.SetE.s (L2.Z.SetE.s (L2.Z.SetE.s (L2.Z.SetE.s (L2.Z.SetE.s (L2.Z.SetE.s (L2.Z.SetE.z))))))))))))) | exact L2.Z.SetE.s (L2.Z.SetE.s (L2.Z.SetE.s (L2.Z.SetE.s (L2.Z.SetE.s (L2.Z.SetE.s (L2.Z.SetE.s (L2.Z.SetE.s (L2.Z.SetE.s (L2.Z.SetE.s (L2.Z.SetE.s (L2.Z.SetE.s (L2.Z.SetE.s (L2.Z.SetE.s (L2.Z.SetE.z)))))))))))))) | exact L2.Z.SetE.s (L2.Z.SetE.s (L2.Z.SetE.s (L2.Z.SetE.s (L2.Z.SetE.s (L2.Z.SetE.s (L2.Z.SetE.s (L2.Z.SetE.s (L2.Z.SetE.s (L2.Z.SetE.s (L2.Z.SetE.s (L2.Z.SetE.s (L2.Z.SetE.s (L2.Z.SetE.s (L2.Z.SetE.s (L2.Z.SetE.z))))))))))))))) | exact L2.Z.SetE.s (L2.Z.SetE.s (L2.Z.SetE.s (L2.Z.SetE.s (L2.Z.SetE.s (L2.Z.SetE.s (L2.Z.SetE.s (L2.Z.SetE.s (L2.Z.SetE.s (L2.Z.SetE.s (L2.Z.SetE.s (L2.Z.SetE.s (L2.Z.SetE.s (L2.Z.SetE.s (L2.Z.SetE.s (L2.Z.SetE.s (L2.Z.SetE.z)))))))))))))))) | exact L2.Z.SetE.s (L2.Z.SetE.s (L2.Z.SetE.s (L2.Z.SetE.s (L2.Z.SetE.s (L2.Z.SetE.s (L2.Z.SetE.s (L2.Z.SetE.s (L2.Z.SetE.s (L2.Z.SetE.s (L2.Z.SetE.s (L2.Z.SetE.s (L2.Z.SetE.s (L2.Z.SetE.s (L2.Z.SetE.s (L2.Z.SetE.s (L2.Z.SetE.s (L2.Z.SetE.z))))))))))))))))) | exact L2.Z.SetE.s (L2.Z.SetE.s (L2.Z.SetE.s (L2.Z.SetE.s (L2.Z.SetE.s (L2.Z.SetE.s (L2.Z.SetE.s (L2.Z.SetE.s (L2.Z.SetE.s (L2.Z.SetE.s (L2.Z.SetE.s (L2.Z.SetE.s (L2.Z.SetE.s (L2.Z.SetE.s (L2.Z.SetE.s (L2.Z.SetE.s (L2.Z.SetE.s (L2.Z.SetE.s (L2.Z.SetE.z)))))))))))))))))) | exact L2.Z.SetE.s (L2.Z.SetE.s (L2.Z.SetE.s (L2.Z.SetE.s (L2.Z.SetE.s (L2.Z.SetE.s (L2.Z.SetE.s (L2.Z.SetE.s (L2.Z.SetE.s (L2.Z.SetE.s (L2.Z.SetE.s (L2.Z.SetE.s (L2.Z.SetE.s (L2.Z.SetE.s (L2.Z.SetE.s (L2.Z.SetE.s (L2.Z.SetE.s (L2.Z.SetE.s (L2.Z.SetE.s (L2.Z.SetE.z))))))))))))))))))) | exact L2.Z.SetE.s (L2.Z.SetE.s (L2.Z.SetE.s (L2.Z.SetE.s (L2.Z.SetE.s (L2.Z.SetE.s (L2.Z.SetE.s (L2.Z.SetE.s (L2.Z.SetE.s (L2.Z.SetE.s (L2.Z.SetE.s (L2.Z.SetE.s (L2.Z.SetE.s (L2.Z.SetE.s (L2.Z.SetE.s (L2.Z.SetE.s (L2.Z.SetE.s (L2.Z.SetE.s (L2.Z.SetE.s (L2.Z.SetE.s (L2.Z.SetE.z)))))))))))))))))))) | exact L2.Z.SetE.s (L2.Z.SetE.s (L2.Z.SetE.s (L2.Z.SetE.s (L2.Z.SetE.s (L2.Z.SetE.s (L2.Z.SetE.s (L2.Z.SetE.s (L2.Z.SetE.s (L2.Z.SetE.s (L2.Z.SetE.s (L2.Z.SetE.s (L2.Z.SetE.s (L2.Z.SetE.s (L2.Z.SetE.s (L2.Z.SetE.s (L2.Z.SetE.s (L2.Z.SetE.s (L2.Z.SetE.s (L2.Z.SetE.s (L2.Z.SetE.s (L2.Z.SetE.z))))))))))))))))))))))
local macro_rules | `(tactic| walk_at "rf") => `(tactic| with_unfolding_all rfl)
local macro_rules | `(tactic| walk_at "sq") => `(tactic| first | exact L2.Z.Sq.t _ | exact L2.Z.Sq.l _)
local macro_rules | `(tactic| walk_at "nal") => `(tactic| rfl)
local macro_rules | `(tactic| walk_at "st") => `(tactic| with_reducible first
  | refine L2.Rx.r_seq ?_ | refine L2.Rx.r_asg ?_ | refine L2.Rx.r_op ?_
  | refine L2.Rx.r_test ?_ | refine L2.Rx.r_if ?_ | refine L2.Rx.r_ret ?_
  | refine L2.Rx.r_cons ?_ | refine L2.Rx.r_nil ?_ | refine L2.Rx.r_call ?_ | refine L2.Rx.r_cb ?_ | refine L2.Rx.r_next ?_ | refine L2.Rx.r_drop ?_
  | refine L2.Rx.r_gsub ?_ | refine L2.Rx.r_tupF ?_ | refine L2.Rx.r_lst ?_ | refine L2.Rx.r_par ?_ | refine L2.Rx.r_par2 ?_
  | refine L2.Rx.r_un ?_ | refine L2.Rx.r_tb ?_ | refine L2.Rx.r_and ?_ | refine L2.Rx.r_or ?_ | refine L2.Rx.r_not ?_
  | refine L2.Rx.r_andV ?_ | refine L2.Rx.r_orV ?_ | refine L2.Rx.r_notV ?_ | refine L2.Rx.r_ifx ?_ | refine L2.Rx.r_chain ?_
  | refine L2.Rx.r_sl ?_ | refine L2.Rx.r_nopart ?_ | refine L2.Rx.r_part ?_ | refine L2.Rx.r_bm0 ?_ | refine L2.Rx.r_bm ?_
  | refine L2.Rx.r_lc ?_ | refine L2.Rx.r_rng1 ?_ | refine L2.Rx.r_yes ?_ | refine L2.Rx.r_tt ?_ | refine L2.Rx.r_ff ?_ | refine L2.Rx.r_m1 ?_ | refine L2.Rx.r_m0 ?_
  | refine L2.Rx.r_dnotin ?_ | refine L2.Rx.r_dget ?_ | refine L2.Rx.r_dget1 ?_ | refine L2.Rx.r_dget2 ?_ | refine L2.Rx.r_dput ?_
  | refine L2.Rx.r_for ?_ | refine L2.Rx.r_ilist ?_ | refine L2.Rx.r_itup ?_
  | refine L2.Rx.r_gcons ?_ | refine L2.Rx.r_gnil ?_ | refine L2.Rx.r_kw ?_ | (show L2.Rx.tSf2 _ _ _ _ _ _ _ _ _ _ _ _ _; unfold L2.Rx.tSf2))
local macro_rules | `(tactic| walk_at "zv") => `(tactic| first
  | (refine L2.Z.z_int R (fun v R => ?_))
  | (refine L2.Z.z_str R (fun v R => ?_))
  | (refine L2.Z.z_bl R (fun v R => ?_))
  | (refine L2.Z.z_non R (fun v R => ?_))
  | (refine L2.Z.z_var R (by walk_at "rf") (fun v R => ?_))
  | (refine L2.Z.z_varA R (by walk_at "rf") (by rfl) (fun v R => ?_))
  | (refine L2.Z.y_lcName R (by decide) (by walk_at "se") (by rfl) (by rfl) (fun σ hw R => ?_))
  | (refine L2.Z.y_lcPair R (by decide) (by decide) (by walk_at "se") (by walk_at "se") (by rfl) (fun σ hw R => ?_))
  | (refine L2.Z.y_lcPairP R (by decide) (by decide) (by walk_at "se") (by walk_at "se") (by rfl) (fun σ hw R => ?_))
  | (refine L2.Z.y_name R (by walk_at "se") (by rfl) (by rfl) (fun σ R => ?_))
  | (refine L2.Z.z_gtup2 R (fun a b R => ?_))
  | (refine L2.Z.z_gtupP R (fun a b R => ?_))
  | (refine L2.Z.z_gtup3 R (fun a b c R => ?_))
  | (refine L2.Z.z_isD R (by walk_at "rf") (fun a R => ?_))
  | (refine L2.Z.z_isb R (fun R => ?_))
  | (refine L2.Z.z_isi R (fun R => ?_)))
local macro_rules | `(tactic| walk_at "zo") => `(tactic| first
  | (refine L2.Z.z_rI0i R (fun v R => ?_))
  | (refine L2.Z.z_rI0b R (fun v R => ?_))
  | (refine L2.Z.z_eqI R (fun v R => ?_))
  | (refine L2.Z.z_neI R (fun v R => ?_))
  | (refine L2.Z.z_eqS R (fun v R => ?_))
  | (refine L2.Z.z_neS R (fun v R => ?_))
  | (refine L2.Z.z_isV R (fun v R => ?_))
  | (refine L2.Z.z_notV R (fun v R => ?_))
  | (refine L2.Z.z_len R (by walk_at "rf") (by walk_at "sq") (fun v R => ?_))
  | (refine L2.Z.z_tup0 R (fun p o R => ?_); refine L2.Z.gen_R R (fun v H R => ?_))
  | (refine L2.Z.z_tup1 R (by walk_at "rf") (fun p o R => ?_); refine L2.Z.gen_R R (fun v H R => ?_))
  | (refine L2.Z.z_tup2 R (by walk_at "rf") (by walk_at "rf") (fun p o R => ?_); refine L2.Z.gen_R R (fun v H R => ?_))
  | (refine L2.Z.z_tup3 R (by walk_at "rf") (by walk_at "rf") (by walk_at "rf") (fun p o R => ?_); refine L2.Z.gen_R R (fun v H R => ?_))
  | (refine L2.Z.z_lst0 R (fun p R => ?_); refine L2.Z.gen_R R (fun v H R => ?_))
  | (refine L2.Z.z_lst1 R (by walk_at "rf") (fun p R => ?_); refine L2.Z.gen_R R (fun v H R => ?_))
  | (refine L2.Z.z_lst2 R (by walk_at "rf") (by walk_at "rf") (fun p R => ?_); refine L2.Z.gen_R R (fun v H R => ?_))
  | (refine L2.Z.z_lst3 R (by walk_at "rf") (by walk_at "rf") (by walk_at "rf") (fun p R => ?_); refine L2.Z.gen_R R (fun v H R => ?_))
  | (refine L2.Z.z_tupL R (by walk_at "rf") (fun v H R => ?_))
  | (refine L2.Z.z_tupT R (fun v R => ?_))
  | (refine L2.Z.z_listOf R (by walk_at "rf") (by walk_at "sq") (fun v H R => ?_))
  | (refine L2.Z.z_slL R (by walk_at "rf") (fun v H R => ?_))
  | (refine L2.Z.z_isStr R ?_)
  | (refine L2.Z.z_tyL R (by walk_at "rf") ?_)
  | (refine L2.Z.z_isD R (by walk_at "rf") (fun a R => ?_))
  | (refine L2.Z.z_dnew R (fun v H R => ?_))
  | (refine L2.Z.z_max2 R (fun v R => ?_))
  | (refine L2.Z.z_min2 R (fun v R => ?_)))
local macro_rules | `(tactic| walk_at "z1") => `(tactic| first | walk_at "st" | walk_at "zv" | walk_at "zo")
local macro_rules | `(tactic| walk_at "z") => `(tactic| (repeat walk_at "z1"))
local macro_rules | `(tactic| walk_at "ret") => `(tactic| refine L2.Z.z_retP R rfl (fun k f => q _ _ _ k f ?_))
local macro_rules | `(tactic| walk_at "fadd") => `(tactic| exact L2.Z.z_fAdd R rfl hw la ha hacc (by omega) rfl rfl rfl)
local macro_rules | `(tactic| walk_at "get") => `(tactic| first
  | (refine L2.Z.z_getL R (by walk_at "rf") (fun o R => ?_); refine L2.Z.gen_V R (fun v R => ?_))
  | (refine L2.Z.z_getL2 R (by walk_at "rf") (fun o R => ?_); refine L2.Z.gen_V R (fun v R => ?_))
  | (refine L2.Z.z_dinL R (by walk_at "rf") (fun a o R => ?_); refine L2.Z.gen_V R (fun v R => ?_))
  | (refine L2.Z.z_dninL R (by walk_at "rf") (fun a o R => ?_); refine L2.Z.gen_V R (fun v R => ?_))
  | (refine L2.Z.z_get1 R (by walk_at "rf") (by walk_at "rf") (fun o R => ?_); refine L2.Z.gen_V R (fun v R => ?_))
  | (refine L2.Z.z_get2 R (by walk_at "rf") (by walk_at "rf") (fun o R => ?_); refine L2.Z.gen_V R (fun v R => ?_))
  | (refine L2.Z.z_din R (by walk_at "rf") (by walk_at "rf") (fun a o R => ?_); refine L2.Z.gen_V R (fun v R => ?_))
  | (refine L2.Z.z_dnin R (by walk_at "rf") (by walk_at "rf") (fun a o R => ?_); refine L2.Z.gen_V R (fun v R => ?_)))
namespace L2.Ro
open PySem PySem.Spec PyProof.Rows L2.Rx L2.Z
def enc_two : Lg × Lg × List Str → List PyData := fun a => [logD a.1, logD a.2.1, .list (a.2.2.map PyData.str)]
def post_true {α : Type} : α → PyData → Prop := fun _ d => d = .bool true
section
variable {P : Program} {w : World} {K : PySem.W.Frag} {mg : Str → Option Value} {base : Heap}
theorem k_two_right {f : Addr} {fd : FuncData} (F : Fun K "_law_two_right" "_law_two_right" s_two_right f fd) (g : mg "_law_two_right" = some (.ref f)) (z : Zb mg) (k_value : Kn P w K mg base CX0 1 "_law_value" (spP enc_logc (fun a => LgOk a.1) post_value_in)) (k_value_in : Kn P w K mg base CX0 1 "value_in" (spP enc_logc (fun a => LgOk a.1) post_value_in)) (k_value_in_cell_log : KnK P w K mg base CX0 1 "value_in" ["cell", "log"] pm10 (spP enc_logc (fun a => LgOk a.1) post_value_in)) (k_differing_other_one : KnK P w K mg base CX0 1 "differing" ["other", "one"] pm10 (spP enc_2log (fun a => LgOk a.1 ∧ LgOk a.2) post_differing)) (k_differing : Kn P w K mg base CX0 1 "differing" (spP enc_2log (fun a => LgOk a.1 ∧ LgOk a.2) post_differing))  : Kn P w K mg base CX0 2 "_law_two_right" (spP enc_two (fun a => LgOk a.1 ∧ LgOk a.2.1) post_true) := by
  refine ⟨f, fd, ["_law_mine", "_law_its", "_law_names"], fnG_body F sc_two_right (fun vs H Q E h => ?_) (fun cdv A outer s H vs Q E hr h => ?_), g, F.kp, F.binds (fun _ _ _ _ _ _ us hl => match us, hl with | [_, _, _], _ => rfl)⟩
  · obtain ⟨S, ⟨l, k, cs⟩, f, mm, ⟨lo, ko⟩, q⟩ := h
    rw [f.len]
    rfl
  · obtain ⟨S, ⟨l, k, cs⟩, f, mm, ⟨lo, ko⟩, q⟩ := h
    have R : Rp ⟨K, H, S, [], []⟩ H (start ["_law_mine", "_law_its", "_law_names", "_law_name", "_law_due", "_law_value_here"] vs) [.fz (logD l), .fz (logD k), .fz (.list (cs.map PyData.str)), .junk, .junk, .junk] [] := start_P K f mm rfl rfl rfl
    refine ⟨_, PSs.nox (pss_cons (ps_for PassesOwn.never rfl (show PI _ _ _ (iList K _) from pi_list (pv 2)) (pg_name (i := 3) sc_two_right.nd rfl (.inl rfl))
        (pss_cons (ps_set (i := 4) sc_two_right.nd rfl (.inl rfl) (k_value.call hr (by decide) (by rfl) (pa_cons (pv 0) (pa_cons (pv 3) pa_nil))))
        (pss_one (ps_if (pt_cmpR op_ne (pe_callB (show CallR _ _ (rRepr K) from (call_repr hr)) (by rfl) z.n_repr (by decide +kernel) (pa_cons (pe_lst (pa_cons (k_value_in.call hr (by decide) (by rfl) (pa_cons (pv 0) (pa_cons (pv 3) pa_nil))) (pa_cons (k_value_in_cell_log.call hr (by decide) (by rfl) (pk_cons (pv 3) (pk_cons (pv 0) pk_nil))) pa_nil))) pa_nil)) (pe_callB (show CallR _ _ (rRepr K) from (call_repr hr)) (by rfl) z.n_repr (by decide +kernel) (pa_cons (pe_lst (pa_cons (pv 4) (pa_cons (pv 4) pa_nil))) pa_nil)) (nomark _))
          (pss_one (ps_ret pe_bl))
          pss_nil))))
      (pss_cons (ps_set (i := 4) sc_two_right.nd rfl (.inl rfl) (pe_lst pa_nil))
      (pss_cons (ps_for PassesOwn.never rfl (show PI _ _ _ (iTup K _) from pi_tup (pv 0)) (show PG _ _ (gTup K 2 _) from pg_tup rfl (pgs_cons (pg_name (i := 3) sc_two_right.nd rfl (.inl rfl)) (pgs_cons (pg_name (i := 5) sc_two_right.nd rfl (.inl rfl)) pgs_nil)))
        (pss_one (ps_if (pt_cmpR (show OpR _ _ (rInA K true) from op_notinA hr.units65) (k_value.call hr (by decide) (by rfl) (pa_cons (pv 1) (pa_cons (pv 3) pa_nil))) (pe_tupF (pa_cons pe_non (pa_cons (pv 5) pa_nil))) (by rfl))
          (pss_one (ps_expr (show PE _ _ (tBM K _ _ _ _) from pe_bm PySem.F.plainAttrs_list PySem.F.slot_list_append PySem.F.type_list_append mt_append (pv 4) (pa_cons (pv 3) pa_nil))))
          pss_nil)))
      (pss_one (ps_ret (pe_cmpR op_eq (pe_callB (show CallR _ _ (rRepr K) from (call_repr hr)) (by rfl) z.n_repr (by decide +kernel) (pa_cons (pe_lst (pa_cons (k_differing.call hr (by decide) (by rfl) (pa_cons (pv 0) (pa_cons (pv 1) pa_nil))) (pa_cons (k_differing_other_one.call hr (by decide) (by rfl) (pk_cons (pv 1) (pk_cons (pv 0) pk_nil))) pa_nil))) pa_nil)) (pe_callB (show CallR _ _ (rRepr K) from (call_repr hr)) (by rfl) z.n_repr (by decide +kernel) (pa_cons (pe_op op_rep (pe_lst (pa_cons (pe_callTy (show CallR _ _ (rTupOf K) from c_tuple) (by rfl) z.n_tuple (by decide +kernel) (pa_cons (pv 4) pa_nil)) pa_nil)) pe_int) pa_nil)) (nomark _))))))), ?_⟩
    generalize start ["_law_mine", "_law_its", "_law_names", "_law_name", "_law_due", "_law_value_here"] vs = σ at R ⊢
    walk_at "z"
    refine z_forL R rfl (fun i env => env = [.fz (logD l), .fz (logD k), .fz (.list (cs.map PyData.str)), .junk, .junk, .junk]) rfl ?_ ?_
    · rintro i _ _ σ H v hi hd rfl R
      obtain ⟨c, hc, rfl⟩ := map_at hd
      walk_at "z"
      refine z_p2 (l, c) R rfl rfl rfl lo fun v H d hd R => ?_
      subst hd
      walk_at "z"
      refine z_p2 (l, c) R rfl rfl rfl lo fun v H d hd R => ?_
      subst hd
      walk_at "z"
      refine z_p2 (l, c) R.swap rfl rfl rfl lo fun v H d hd R => ?_
      subst hd
      walk_at "z"
      have sh := (sm_l2 (sm_opt lo c) (sm_opt lo c)).shw rfl rfl
      refine z_repr rfl R rfl sh fun v R => ?_
      walk_at "z"
      refine z_repr rfl R rfl sh fun v R => ?_
      walk_at "z"
      refine r_itb (fun h => ?_) (fun _ => ?_)
      · simp at h
      walk_at "z"
      exact ⟨_, rfl, R.jk [3, 4]⟩
    rintro _ σ H rfl R
    walk_at "z"
    refine z_forT R (fun i env => env = [.fz (logD l), .fz (logD k), .fz (.list (cs.map PyData.str)), .junk, .own ((diffL (l.take i) k).map PyData.str), .junk]) rfl ?_ ?_
    · rintro i _ _ σ H v hi hd rfl R
      obtain ⟨z, hz, rfl⟩ := map_at hd
      have l60 : l.length ≤ 60 := lo.len
      have dl : (diffL (l.take i) k).length ≤ 60 := by
        unfold diffL
        rw [List.length_map]
        exact Nat.le_trans (List.length_filter_le _ _) (by rw [List.length_take]; omega)
      have et : diffL (l.take (i + 1)) k = diffL (l.take i) k ++ if (!decide ((valL k z.1).getD z.2 = z.2)) = true then [z.1] else [] := by
        unfold diffL
        rw [List.take_add_one, hz]
        show List.map _ (List.filter _ (_ ++ [z])) = _
        rw [List.filter_append, List.map_append, List.filter_cons]
        split <;> rfl
      walk_at "z"
      refine z_p2 (k, z.1) R rfl rfl rfl ko fun v H d hd R => ?_
      subst hd
      walk_at "z"
      refine z_inD rfl R rfl rfl (Sq.t _) (cmp_opt _) (cmp_ni z.2) fun v R => ?_
      rw [if_pos rfl, any_ni] at R
      walk_at "z"
      refine r_itb (fun h => ?_) (fun h => ?_)
      · walk_at "z"
        refine y_app (P := True) R rfl rfl (by rw [List.length_map]; omega) (by walk_at "se") fun v H R => ?_
        walk_at "z"
        refine ⟨_, ?_, R.pop.jk [3, 5]⟩
        rw [et, if_pos h, List.map_append]
        rfl
      · walk_at "z"
        refine ⟨_, ?_, R.jk [3, 5]⟩
        rw [et, if_neg (by rw [h]; decide), List.append_nil]
        rfl
    rintro _ σ H rfl R
    rw [List.length_map, List.take_length] at R
    walk_at "z"
    refine z_p2 (l, k) R rfl rfl rfl ⟨lo, ko⟩ fun v H d hd R => ?_
    subst hd
    walk_at "z"
    refine z_p2 (l, k) R.swap rfl rfl rfl ⟨lo, ko⟩ fun v H d hd R => ?_
    subst hd
    walk_at "z"
    have dc : ∀ c ∈ diffL l k, Cell c := fun c hc => by
      obtain ⟨z, hz, rfl⟩ := List.mem_map.mp hc
      exact lo.cell z (List.mem_filter.mp hz).1
    have dl : (diffL l k).length ≤ 60 := by
      unfold diffL
      rw [List.length_map]
      exact Nat.le_trans (List.length_filter_le _ _) lo.len
    have sh := (sm_l2 (sm_cells dc dl) (sm_cells dc dl)).shw rfl rfl
    refine z_repr rfl R rfl sh fun v R => ?_
    walk_at "z"
    refine z_rep R rfl (by decide) (by decide) (by show 1 * 2 ≤ 1000000; decide) fun v H R => ?_
    walk_at "z"
    refine z_repr rfl R rfl sh fun v R => ?_
    walk_at "z"
    walk_at "ret"
    show _ = _
    simp
end
end L2.Ro

end
section
set_option Elab.async false
set_option linter.all false
set_option maxRecDepth 100000
set_option maxHeartbeats 4000000
local macro_rules | `(tactic| walk_at "rd1") => `(tactic| with_reducible first
  | refine L2.Rx.r_seq ?_ | refine L2.Rx.r_asg ?_ | refine L2.Rx.r_gname ?_ | refine L2.Rx.r_op ?_ | refine L2.Rx.r_c ?_
  | refine L2.Rx.r_var rfl ?_
  | refine L2.Rx.r_rI0 ?_ | refine L2.Rx.r_test ?_ | refine L2.Rx.r_bl ?_ | refine L2.Rx.r_if ?_ | refine L2.Rx.r_ret ?_
  | refine L2.Rx.r_cons ?_ | refine L2.Rx.r_nil ?_ | refine L2.Rx.r_call ?_ | refine L2.Rx.r_cb ?_ | refine L2.Rx.r_next ?_ | refine L2.Rx.r_drop ?_
  | refine L2.Rx.r_gsub ?_ | refine L2.Rx.r_tupF ?_ | refine L2.Rx.r_lst ?_ | refine L2.Rx.r_par ?_ | refine L2.Rx.r_par2 ?_
  | refine L2.Rx.r_un ?_ | refine L2.Rx.r_tb ?_ | refine L2.Rx.r_and ?_ | refine L2.Rx.r_or ?_ | refine L2.Rx.r_not ?_
  | refine L2.Rx.r_andV ?_ | refine L2.Rx.r_orV ?_ | refine L2.Rx.r_notV ?_ | refine L2.Rx.r_ifx ?_ | refine L2.Rx.r_chain ?_
  | refine L2.Rx.r_sl ?_ | refine L2.Rx.r_nopart ?_ | refine L2.Rx.r_part ?_ | refine L2.Rx.r_exint ?_ | refine L2.Rx.r_bm0 ?_ | refine L2.Rx.r_bm ?_
  | refine L2.Rx.r_lc ?_ | refine L2.Rx.r_rng1 ?_ | refine L2.Rx.r_yes ?_ | refine L2.Rx.r_tt ?_ | refine L2.Rx.r_ff ?_ | refine L2.Rx.r_m1 ?_ | refine L2.Rx.r_m0 ?_ | refine L2.Rx.r_isS ?_
  | (refine L2.Rx.r_wipe (by with_unfolding_all rfl) ?_) | (refine L2.Rx.r_tyL (by walk_at "hp") ?_)
  | refine L2.Rx.r_addS (by walk_at "len") ?_ | refine L2.Rx.r_lenS (by walk_at "len") ?_ | refine L2.Rx.r_slS (by walk_at "len") ?_
  | refine L2.Rx.r_dnotin ?_ | refine L2.Rx.r_dget ?_ | refine L2.Rx.r_dget1 ?_ | refine L2.Rx.r_dput ?_ | refine L2.Rx.r_dpop1 ?_ | refine L2.Rx.r_isN ?_
  | refine L2.Rx.r_for ?_ | refine L2.Rx.r_ilist ?_ | refine L2.Rx.r_itup ?_
  | refine L2.Rx.r_gcons ?_ | refine L2.Rx.r_gnil ?_ | (refine L2.Rx.r_gtupP (by assumption) (by walk_at "at") ?_)
  | (refine L2.Rx.r_rEq rfl ?_) | (refine L2.Rx.r_rNe rfl ?_)
  | refine L2.Rx.r_rU ?_ | refine L2.Rx.r_max2 ?_ | refine L2.Rx.r_min2 ?_ | refine L2.Rx.r_int1i ?_ | (refine L2.Rx.r_lenh (by walk_at "hp") ?_)
  | (refine L2.Rx.r_ixLh (by walk_at "hp") (by walk_at "at") ?_)
  | (refine L2.Rx.r_setL (by walk_at "hp") (by walk_at "at") ?_))
local macro_rules | `(tactic| walk_at "at") => `(tactic| with_unfolding_all rfl)
local macro_rules | `(tactic| walk_at "rd") => `(tactic| (repeat walk_at "rd1"))
local macro_rules | `(tactic| walk_at "hp") => `(tactic| first
  | assumption
  | exact L2.upd_same
  | (refine Eq.trans (L2.upd_ne ?_) ?_; (focus walk_at "ne"); (focus walk_at "hp"))
  | (refine L2.Rx.Kp.at0 (by assumption) ?_; walk_at "hp")
  | (refine L2.Rx.Kp.at1 (by assumption) ?_ ?_; (focus walk_at "ne"); (focus walk_at "hp")))
local macro_rules | `(tactic| walk_at "ne") => `(tactic| first
  | assumption | exact Ne.symm (by assumption)
  | (refine L2.ne_of_none (H := ?nH) (o := ?nO) ?nh ?nn; (case nn => assumption); (case nh => walk_at "hp"))
  | (refine Ne.symm (L2.ne_of_none (H := ?nH) (o := ?nO) ?nh ?nn); (case nn => assumption); (case nh => walk_at "hp")))
local macro_rules | `(tactic| walk_at "len") => `(tactic| (rw [PySem.sizeLine_eq]; omega))
local macro_rules | `(tactic| walk_at "nin") => `(tactic| first
  | exact List.not_mem_nil
  | (refine L2.Rx.nin1 ?_; walk_at "ne"))
local macro_rules | `(tactic| walk_at "none") => `(tactic| first
  | assumption
  | (refine L2.Rx.Kp.none0 (by assumption) ?_ ?_; (focus walk_at "nin"); (focus walk_at "none")))
namespace L2.Ro
open PySem PySem.Spec PyProof.Rows L2.Rx L2.Z
abbrev Path := List (Str × Int)
def inOrder (l : Path) : Prop := l.Pairwise fun x y => PySem.W.dataLt (prD y) (prD x) = false
def sp_leaves (K : PySem.W.Frag) : Sp := fun vs H Q _ => ∃ (v : V) (t : Tr) (n : Nat) (cs : List Str), vs = [v] ∧ Dq K H v t.d ∧ Okt n cs t ∧ (∀ c ∈ cs, Cell c) ∧ n ≤ 6 ∧
  ∀ (H' : Hp) (p : Addr) (ys : List V) (zs : List (Path × Path)), Kp [] H H' → Tm H' p ys → DqAll K H' ys (zs.map fun z => logD z.1) → (zs.map Prod.snd).Perm t.paths → (∀ z ∈ zs, z.1.Perm z.2 ∧ inOrder z.1) →
    zs.Pairwise (fun x y => PySem.W.dataLt (logD y.1) (logD x.1) = false) → Q (.ref p) H'
def itD (x : Tr × Path) : PyData := .tuple [x.1.d, logD x.2]
def exts (x : Tr × Path) : List Path := x.1.paths.map (x.2 ++ ·)
def ItOk (n : Nat) (x : Tr × Path) : Prop := (∃ m cs, Okt m cs x.1 ∧ (∀ c ∈ cs, Cell c) ∧ m + x.2.length ≤ n) ∧ ∀ z ∈ x.2, Cell z.1
theorem itD_shp {n : Nat} {x : Tr × Path} (h : ItOk n x) : shp (itD x) = true := by
  obtain ⟨⟨m, cs, h1, h2, h3⟩, h4⟩ := h
  rw [itD, shp, shps, shps, shps, h1.shp h2, logD, shp]
  rw [show shps (x.2.map prD) = true from ?_]
  · rfl
  · refine shps_mem fun d hd => ?_
    obtain ⟨z, hz, rfl⟩ := List.mem_map.mp hd
    rw [prD, shp, shps, shps, shps, shp, shp, (h4 z hz).ok]
    rfl
theorem itD_depth {n : Nat} {x : Tr × Path} (h : ItOk n x) : (itD x).depth ≤ 3 * n + 3 := by
  obtain ⟨⟨m, cs, h1, h2, h3⟩, h4⟩ := h
  rw [itD, PyData.depth, PyData.depthAll, PyData.depthAll, PyData.depthAll]
  have := h1.depth
  have := log_depth x.2
  omega
theorem itD_noL {n : Nat} {x : Tr × Path} (h : ItOk n x) : noL (itD x) = true := by
  obtain ⟨⟨m, cs, h1, h2, h3⟩, h4⟩ := h
  rw [itD, noL, noLs, noLs, noLs, h1.noL, log_noL]
  rfl
theorem its_shp {n : Nat} {wt : List (Tr × Path)} (h : ∀ x ∈ wt, ItOk n x) : shp (.list (wt.map itD)) = true := by
  rw [shp]
  refine shps_mem fun d hd => ?_
  obtain ⟨z, hz, rfl⟩ := List.mem_map.mp hd
  exact itD_shp (h z hz)
theorem its_depth {n : Nat} {wt : List (Tr × Path)} (h : ∀ x ∈ wt, ItOk n x) : (PyData.list (wt.map itD)).depth ≤ 3 * n + 4 := by
  rw [PyData.depth]
  have := depth_mem (ds := wt.map itD) (n := 3 * n + 3) fun d hd => by
    obtain ⟨z, hz, rfl⟩ := List.mem_map.mp hd
    exact itD_depth (h z hz)
  omega
theorem its_noL {n : Nat} {wt : List (Tr × Path)} (h : ∀ x ∈ wt, ItOk n x) : noLs (wt.map itD) = true := by
  refine noLs_mem fun d hd => ?_
  obtain ⟨z, hz, rfl⟩ := List.mem_map.mp hd
  exact itD_noL (h z hz)
theorem logs_noL (zs : List (Path × Path)) : noLs (zs.map fun z => logD z.1) = true := by
  refine noLs_mem fun d hd => ?_
  obtain ⟨z, hz, rfl⟩ := List.mem_map.mp hd
  exact log_noL z.1
theorem exts_len {n : Nat} : ∀ {wt : List (Tr × Path)}, (∀ x ∈ wt, ItOk n x) → wt.length ≤ (wt.flatMap exts).length
  | [], _ => Nat.le_refl _
  | x :: r, h => by
    have := exts_len (wt := r) fun y m => h y (List.mem_cons_of_mem _ m)
    obtain ⟨⟨m, cs, h1, _⟩, _⟩ := h x (List.mem_cons_self ..)
    have := h1.paths_pos
    rw [List.flatMap_cons, List.length_append, List.length_cons, exts, List.length_map]
    omega
theorem dpAll_split {K : PySem.W.Frag} {H : Hp} {es : List PyData} : ∀ {ds : List PyData} {ws : List V}, DqAll K H ws (ds ++ es) → ∃ w1 w2, ws = w1 ++ w2 ∧ DqAll K H w1 ds ∧ DqAll K H w2 es
  | [], ws, h => ⟨[], ws, rfl, .nil, h⟩
  | d :: ds, ws, h => by
    obtain ⟨v, vs, rfl, h1, h2⟩ := dp_cons h
    obtain ⟨w1, w2, rfl, a, b⟩ := dpAll_split h2
    exact ⟨v :: w1, w2, rfl, .cons h1 a, b⟩
theorem dp_log {K : PySem.W.Frag} {H : Hp} {v : V} {l : Path} (h : Dq K H v (logD l)) : ∃ a xs, v = .ref a ∧ Tm H a xs ∧ DqAll K H xs (l.map prD) := dp_tup h
def pot (wt : List (Tr × Path)) : Nat := (wt.map fun x => x.1.size).sum
theorem pot_app (a b : List (Tr × Path)) : pot (a ++ b) = pot a + pot b := by rw [pot, List.map_append, List.sum_append]; rfl
def belowOf (c : Str) (p : Path) (bs : List (Int × Tr)) : List (Tr × Path) := bs.map fun z => (z.2, p ++ [(c, z.1)])
theorem pot_below (c : Str) (p : Path) (bs : List (Int × Tr)) : pot (belowOf c p bs) = brz bs := by
  rw [brz_eq, pot, belowOf, List.map_map]
  rfl
theorem exts_below (c : Str) (p : Path) (bs : List (Int × Tr)) : (belowOf c p bs).flatMap exts = exts (.nd c bs, p) := by
  rw [exts, Tr.paths, belowOf]
  induction bs with
  | nil => rw [brp]; rfl
  | cons z r ih =>
    obtain ⟨v, t⟩ := z
    rw [brp, List.map_cons, List.flatMap_cons, ih, List.map_append, exts, List.map_map]
    congr 1
    refine List.map_congr_left fun s _ => ?_
    show p ++ [(c, v)] ++ s = p ++ (c, v) :: s
    rw [List.append_assoc]
    rfl
theorem brp_ne (c : Str) (bs : List (Int × Tr)) : ∀ s ∈ brp c bs, s ≠ [] := by
  intro s hs
  rw [brp_eq] at hs
  obtain ⟨z, _, hz⟩ := List.mem_flatMap.mp hs
  obtain ⟨u, _, rfl⟩ := List.mem_map.mp hz
  exact fun z => nomatch z
theorem okt_nd {m : Nat} {cs : List Str} {c : Str} {bs : List (Int × Tr)} (h : Okt m cs (.nd c bs)) : ∃ m' cs', m = m' + 1 ∧ c ∈ cs ∧ (∀ x ∈ cs', x ∈ cs) ∧ bs.length ≤ 3 ∧ ∀ p ∈ bs, Okt m' cs' p.2 := by
  cases h with
  | nd h1 h2 h3 h4 h5 h6 h7 h8 => exact ⟨_, _, rfl, h1, h3, h5, h8⟩
theorem brd_lng (bs : List (Int × Tr)) : (brd bs).length = bs.length := by rw [brd_eq, List.length_map]
section
variable {P : Program} {w : World} {K : PySem.W.Frag} {mg : Str → Option Value} {base : Heap}
theorem k_leaves {f : Addr} {fd : FuncData} (F : Fun K "_law_leaves" "_law_leaves" s_leaves f fd) (g : mg "_law_leaves" = some (.ref f)) (z : Zb mg)   : Kn P w K mg base CX0 1 "_law_leaves" (sp_leaves K) := by
  refine ⟨f, fd, ["_law_tree_here"], fnG_body F sc_leaves (fun vs H Q E h => ?_) (fun cdv A outer s H vs Q E hr h => ?_), g, F.kp, F.binds (fun _ _ _ _ _ _ us hl => match us, hl with | [_], _ => rfl)⟩
  · obtain ⟨v, t, n, cs, rfl, _⟩ := h
    rfl
  · obtain ⟨v, t, n, cs, rfl, dt, ot, hcs, hn, q⟩ := h
    refine ⟨_, PSs.nox (pss_cons (ps_par (i := 1) (j := 2) (by rfl) sc_leaves.nd rfl rfl (by decide) rfl rfl (pa_cons (pe_lst pa_nil) (pa_cons (pe_lst (pa_cons (pe_tupF (pa_cons (pv 0) (pa_cons (pe_tupF pa_nil) pa_nil))) pa_nil)) pa_nil)) (by rfl))
      (pss_cons (ps_while PassesOwn.never (pt_cmpR (show OpR _ _ (rNeD K) from (op_neD hr.units)) (pv 2) (pe_lst pa_nil) (nomark _))
        (pss_cons (ps_asg (show PE _ _ (tBM0 K _ _ _) from pe_bm0 PySem.F.plainAttrs_list PySem.F.slot_list_pop PySem.F.type_list_pop mt_pop (pv 2)) (show PG _ _ (gTup K 2 _) from pg_tup rfl (pgs_cons (pg_name (i := 3) sc_leaves.nd rfl (.inr rfl)) (pgs_cons (pg_name (i := 4) sc_leaves.nd rfl (.inr rfl)) pgs_nil))))
        (pss_one (ps_if (pt_cmpR (show OpR _ _ (rEqD K) from (op_eqD hr.units)) (pv 3) (pe_tupF pa_nil) (nomark _))
          (pss_one (ps_expr (show PE _ _ (tBM K _ _ _ _) from pe_bm PySem.F.plainAttrs_list PySem.F.slot_list_append PySem.F.type_list_append mt_append (pv 1) (pa_cons (pe_callTy (show CallR _ _ (rTupOf K) from c_tuple) (by rfl) z.n_tuple (by decide +kernel) (pa_cons (pe_callB (show CallR _ _ (rSortV K) from (call_sortV hr)) (by rfl) z.n_sorted (by decide +kernel) (pa_cons (pv 4) pa_nil)) pa_nil)) pa_nil))))
          (pss_one (ps_expr (show PE _ _ (tBM K _ _ _ _) from pe_bm PySem.F.plainAttrs_list PySem.F.slot_list_extend PySem.F.type_list_extend mt_extend (pv 2) (pa_cons (pe_lc (own := [("_law_value_here", 5), ("_law_below", 6)]) (g := (gTup K 2 (gCons (gName 5) (gCons (gName 6) gNil)))) (by rfl) sc_leaves.nd (show PI _ _ _ (iTup K _) from pi_tup (pe_ix (show IxR _ (rIxT K) from ix_tup) (pv 3) pe_int (fun _ _ => rfl))) (blkOk_by (own := [("_law_value_here", 5), ("_law_below", 6)]) (N := ["_law_tree_here", "_law_found", "_law_waiting", "_law_here", "_law_pairs", "_law_value_here", "_law_below"]) (sc := defScope s_leaves) (by decide +kernel)) (fun _ _ _ _ _ => (show PG _ _ (gTup K 2 (gCons (gName 5) (gCons (gName 6) gNil))) from pg_tup rfl (pgs_cons (pg_name (i := 5) sc_leaves.nd rfl (.inl rfl)) (pgs_cons (pg_name (i := 6) sc_leaves.nd rfl (.inl rfl)) pgs_nil)))) (fun _ _ _ _ _ => pts_nil) (fun _ _ _ _ _ => (pe_tupF (pa_cons (pv 6) (pa_cons (pe_op (show OpR _ _ (rCatF K) from op_catF) (pv 4) (pe_tupF (pa_cons (pe_tupF (pa_cons (pe_ix (show IxR _ (rIxT K) from ix_tup) (pv 3) pe_int (fun _ _ => rfl)) (pa_cons (pv 5) pa_nil))) pa_nil))) pa_nil))))) pa_nil))))))))
      (pss_one (ps_ret (pe_callTy (show CallR _ _ (rTupOf K) from c_tuple) (by rfl) z.n_tuple (by decide +kernel) (pa_cons (pe_callB (show CallR _ _ (rSortV K) from (call_sortV hr)) (by rfl) z.n_sorted (by decide +kernel) (pa_cons (pv 1) pa_nil)) pa_nil)))))), ?_⟩
    walk_at "rd"
    refine r_new rfl (fun fo nfo => ?_)
    refine gen_new nfo fun H1 kp1 hfo => ?_
    walk_at "rd"
    refine r_newF rfl fun e0 oe0 ne0 ode0 => ?_
    refine gen_newT ne0 ode0 fun H2 kp2 he0 => ?_
    walk_at "rd"
    refine r_newF rfl fun e1 oe1 ne1 ode1 => ?_
    refine gen_newT ne1 ode1 fun H3 kp3 he1 => ?_
    walk_at "rd"
    refine r_new rfl (fun wa nwa => ?_)
    refine gen_new nwa fun H4 kp4 hwa => ?_
    walk_at "rd"
    have lp : t.paths.length ≤ 729 := Nat.le_trans ot.paths_le (Nat.le_trans (Nat.pow_le_pow_right (by decide) hn) (by decide))
    have fw : fo ≠ wa := by
      have : H3 fo = some (.lst []) := kp3.at0 (kp2.at0 hfo)
      exact ne_of_none this nwa
    refine r_while ⟨fun m σ' H' => ∃ (zs : List (Path × Path)) (wt : List (Tr × Path)) (ys ws : List V) (a3 a4 a5 a6 : Option V), σ' = [some v, some (.ref fo), some (.ref wa), a3, a4, a5, a6] ∧ Kp [fo, wa] H4 H' ∧ H' fo = some (.lst ys) ∧ H' wa = some (.lst ws) ∧
      DqAll K H' ys (zs.map fun z => logD z.1) ∧ DqAll K H' ws (wt.map itD) ∧ (zs.map Prod.snd ++ wt.flatMap exts).Perm t.paths ∧ (∀ z ∈ zs, z.1.Perm z.2 ∧ inOrder z.1) ∧ (∀ x ∈ wt, ItOk n x) ∧ m = pot wt, ⟨_, [], [(t, [])], [], _, _, _, _, _, rfl, Kp.refl, kp4.at0 (kp3.at0 (kp2.at0 hfo)), hwa, .nil, ?_, ?_, (fun _ h => nomatch h), ?_, rfl⟩, ?_⟩
    · refine .cons (.tup (he1.keep0 kp4) (.cons (Dq.keep0 (((kp1.trans kp2).trans kp3).trans kp4) _ _ dt) (.cons (.tup (he0.keep0 (kp3.trans kp4)) .nil) .nil))) .nil
    · show ([] ++ exts (t, []) ++ []).Perm t.paths
      rw [List.append_nil, List.nil_append, exts]
      show (t.paths.map id).Perm t.paths
      rw [List.map_id]
    · intro x hx
      have e : x = (t, []) := by simpa using hx
      subst e
      exact ⟨⟨n, cs, ot, hcs, Nat.le_refl _⟩, fun _ h => nomatch h⟩
    rintro m σ' H5 ⟨zs, wt, ys, ws, a3, a4, a5, a6, rfl, kp5, hfo5, hwa5, dz, dw, pm, ro, io, rfl⟩
    walk_at "rd"
    refine r_new rfl (fun e2 ne2 => ?_)
    refine gen_new ne2 fun H6 kp6 he2 => ?_
    refine r_neL0 (.lst (.inl (.inl (kp6.at0 hwa5))) (DqAll.keep0 kp6 _ _ dw)) (its_shp io) (Nat.le_trans (its_depth io) (by omega)) he2 ?_
    walk_at "rd"
    refine r_itb (fun hb => ?_) (fun hb => ?_)
    · refine ⟨_, fun σ' H' h => h, ?_⟩
      obtain ⟨wt', x, rfl⟩ : ∃ wt' x, wt = wt' ++ [x] := by
        rcases List.eq_nil_or_concat wt with h | ⟨a, b, h⟩
        · rw [h] at hb
          cases hb
        · exact ⟨a, b, by rw [h, List.concat_eq_append]⟩
      rw [List.map_append] at dw
      obtain ⟨ws', w2, rfl, dw1, dw2⟩ := dpAll_split dw
      obtain ⟨w, _, rfl, dx, dn⟩ := dp_cons dw2
      cases dn
      obtain ⟨tr, p⟩ := x
      obtain ⟨a, _, rfl, sa, da⟩ := dp_tup dx
      obtain ⟨h, _, rfl, dh, da⟩ := dp_cons da
      obtain ⟨qv, _, rfl, dq, da⟩ := dp_cons da
      cases da
      have ix := io (tr, p) (List.mem_append_right _ (List.mem_cons_self ..))
      have io' : ∀ x ∈ wt', ItOk n x := fun x hx => io x (List.mem_append_left _ hx)
      have hwa6 := kp6.at0 hwa5
      walk_at "rd"
      refine r_pop hwa6 ?_
      refine gen_put fun H7 kp7 hwa7 => ?_
      have mu6 : Mu H6 [wa] := Mu.lst hwa6
      have up7 : ∀ d v, noL d = true → Dq K H5 v d → Dq K H7 v d := fun d v n h => Dq.keepS kp7 mu6 d v n (Dq.keep0 kp6 d v h)
      have up7s : ∀ ds vs, noLs ds = true → DqAll K H5 vs ds → DqAll K H7 vs ds := fun d v n h => DqAll.keepS kp7 mu6 d v n (DqAll.keep0 kp6 d v h)
      have dz7 := up7s _ _ (logs_noL zs) dz
      have dw7 := up7s _ _ (its_noL io') dw1
      have dh7 := up7 _ _ ix.1.choose_spec.choose_spec.1.noL dh
      have hfo7 : H7 fo = some (.lst ys) := kp7.at1 fw (kp6.at0 hfo5)
      have kp57 : Kp [fo, wa] H4 H7 := (kp5.trans (Kp.mono kp6 (by simp))).trans (kp7.mono (by simp))
      obtain ⟨qa, pys, rfl, sq7, dp7⟩ := dp_log (up7 _ _ (log_noL p) dq)
      have lall : zs.length + (wt'.flatMap exts).length + tr.paths.length = t.paths.length := by
        have := pm.length_eq
        rw [List.length_append, List.flatMap_append, List.length_append, List.length_map] at this
        rw [← this, Nat.add_assoc]
        congr 2
        rw [List.flatMap_cons, List.flatMap_nil, List.append_nil, exts, List.length_map]
      have lz : zs.length ≤ 729 := by omega
      have lw : wt'.length ≤ 729 := Nat.le_trans (exts_len io') (by omega)
      have lys : ys.length = zs.length := by rw [dqAll_len dz, List.length_map]
      have lws : ws'.length = wt'.length := by rw [dqAll_len dw1, List.length_map]
      refine r_gtupP ((sa.keep0 kp6).keepM kp7 mu6) rfl ?_
      walk_at "rd"
      refine r_newF rfl fun e3 oe3 ne3 ode3 => ?_
      refine gen_newT ne3 ode3 fun H8 kp8 he3 => ?_
      have hfo8 := kp8.at0 hfo7
      have hwa8 := kp8.at0 hwa7
      cases tr with
      | lf =>
        rw [Tr.d] at dh7
        refine r_eqT0 (Dq.keep0 kp8 _ _ dh7) (by decide +kernel) (by decide +kernel) he3 ?_
        walk_at "rd"
        refine r_tt ?_
        walk_at "rd"
        refine r_sortD (.inr (sq7.keep0 kp8).sq) (DqAll.keep0 kp8 _ _ dp7) (sb_pairs p) fun so bs sys pb wb db nso => ?_
        refine gen_new nso fun H9 kp9 hso => ?_
        walk_at "rd"
        refine r_tupL hso fun tp H10 ntp kp10 htp => ?_
        walk_at "rd"
        have k910 := kp9.trans kp10
        have hfo10 := k910.at0 hfo8
        refine r_app0 hfo10 (by omega) ?_
        refine gen_put fun H11 kp11 hfo11 => ?_
        have mu10 : Mu H10 [fo] := Mu.lst hfo10
        have htp11 : Tm H11 tp sys := htp.keepM kp11 mu10
        have up11 : ∀ ds vs, noLs ds = true → DqAll K H7 vs ds → DqAll K H11 vs ds := fun d v n h => DqAll.keepS kp11 mu10 d v n (DqAll.keep0 (kp8.trans k910) d v h)
        have pnl : noLs (bs.map prD) = true := by
          have := log_noL bs
          rw [logD, noL] at this
          exact this
        refine ⟨pot wt', ?_, zs ++ [(bs, p)], wt', _, ws', _, _, _, _, rfl, ?_, hfo11, kp11.at1 (Ne.symm fw) (k910.at0 hwa8), ?_, up11 _ _ (its_noL io') dw7, ?_, ?_, io', rfl⟩
        · rw [pot_app]
          show pot wt' < pot wt' + (Tr.lf.size + 0)
          rw [Tr.size]
          omega
        · exact (kp57.trans (Kp.mono (kp8.trans k910) (by simp))).trans (kp11.mono (by simp))
        · rw [List.map_append]
          exact DqAll.append (up11 _ _ (logs_noL zs) dz7) (.cons (.tup htp11 (DqAll.keepS kp11 mu10 _ _ pnl (DqAll.keep0 k910 _ _ db))) .nil)
        · refine List.Perm.trans ?_ pm
          rw [List.map_append, List.flatMap_append, List.append_assoc]
          refine List.Perm.append_left _ ?_
          have e : [(Tr.lf, p)].flatMap exts = [p] := by
            show [p ++ []] ++ [] = [p]
            rw [List.append_nil, List.append_nil]
          rw [e]
          exact List.perm_append_comm
        · intro z hz
          rcases List.mem_append.mp hz with h | h
          · exact ro z h
          · have e : z = (bs, p) := by simpa using h
            subst e
            exact ⟨pb, wb⟩
      | nd c bs =>
        obtain ⟨⟨m, cs1, ok, hcs1, hm⟩, hp⟩ := ix
        have okd := ok.depth
        have oks := ok.shp hcs1
        rw [Tr.d] at dh7 okd oks
        obtain ⟨m1, cs2, em, hc1, hs1, hl3, hsub⟩ := okt_nd ok
        obtain ⟨hh, _, rfl, sh, dd1⟩ := dp_tup dh7
        obtain ⟨c', _, rfl, dc, dd2⟩ := dp_cons dd1
        obtain rfl := dp_str dc
        obtain ⟨br, _, rfl, dbr, dd3⟩ := dp_cons dd2
        obtain rfl := dp_nil dd3
        obtain ⟨ba, bys, rfl, sba, dbs⟩ := dp_tup dbr
        have hm' : m + p.length ≤ n := hm
        refine r_eqT0 (Dq.keep0 kp8 _ _ dh7) oks (by omega) he3 ?_
        walk_at "rd"
        refine r_ff ?_
        walk_at "rd"
        refine r_ixT (sh.keep0 kp8).sq (by with_unfolding_all rfl) ?_
        refine r_walkT (sba.keep0 kp8).sq ?_
        intro D nD
        refine lc_tup (K := K) (a := ba) (xs := bys) (PvL D (fun j acc H' => DqAll K H' acc ((belowOf c p (bs.take j)).map itD) ∧ Kp [] H8 H')) ⟨[], upd_same, Nat.le_refl _, .nil, Kp.new nD⟩ (fun j H9 hj ⟨acc, ea, la, dacc, kp9⟩ => ((sba.keep0 kp8).keep0 kp9).sq) (fun j x H9 hx ⟨acc, ea, la, dacc, kp9⟩ => ?_) (fun H9 ⟨acc, ea, la, dacc, kp9⟩ => ?_)
        · rw [brd_eq] at dbs
          obtain ⟨d, hd, dx⟩ := DqAll.at dbs hx
          rw [List.getElem?_map] at hd
          obtain ⟨z, hz, rfl⟩ : ∃ z, bs[j]? = some z ∧ d = .tuple [.int z.1, z.2.d] := by
            cases e : bs[j]? with
            | none => rw [e] at hd; cases hd
            | some z => rw [e] at hd; exact ⟨z, rfl, (Option.some.inj hd).symm⟩
          have hj : j < bs.length := (List.getElem?_eq_some_iff.mp hz).1
          obtain ⟨xa, _, rfl, sx, dd5⟩ := dp_tup dx
          obtain ⟨v5, _, rfl, dv, dd6⟩ := dp_cons dd5
          obtain rfl := dp_int dv
          obtain ⟨w5, _, rfl, dw5, dd7⟩ := dp_cons dd6
          obtain rfl := dp_nil dd7
          have k79 := kp8.trans kp9
          refine r_gtupP (sx.keep0 k79) rfl ?_
          walk_at "rd"
          refine r_ixT (sh.keep0 k79).sq (by with_unfolding_all rfl) ?_
          walk_at "rd"
          refine r_newF rfl fun y1 oy1 ny1 ody1 => ?_
          refine gen_newT ny1 ody1 fun H10 kp10 hy1 => ?_
          walk_at "rd"
          refine r_newF rfl fun y2 oy2 ny2 ody2 => ?_
          refine gen_newT ny2 ody2 fun H11 kp11 hy2 => ?_
          walk_at "rd"
          have lpy : pys.length = p.length := by rw [dqAll_len dp7, List.length_map]
          refine r_catF (sq7.keep0 (k79.trans (kp10.trans kp11))) hy2 (by rw [lpy]; show _ + 1 ≤ _; omega) fun cp H12 kp12 scp => ?_
          walk_at "rd"
          refine r_newF rfl fun y3 oy3 ny3 ody3 => ?_
          refine gen_newT ny3 ody3 fun H13 kp13 hy3 => ?_
          have k913 := ((kp10.trans kp11).trans kp12).trans kp13
          have ea13 := k913.at0 ea
          refine PvL.step ea13 la (by omega) ⟨?_, (kp9.trans k913).new0 nD⟩
          have bnl : noLs ((belowOf c p (bs.take j)).map itD) = true := by
            refine noLs_mem fun d hd => ?_
            obtain ⟨u, hu, rfl⟩ := List.mem_map.mp hd
            obtain ⟨y, hy, rfl⟩ := List.mem_map.mp hu
            rw [itD, noL, noLs, noLs, noLs, (hsub y (List.mem_of_mem_take hy)).noL, log_noL]
            rfl
          have muD : Mu H13 [D] := Mu.lst ea13
          have e1 : belowOf c p (bs.take (j + 1)) = belowOf c p (bs.take j) ++ [(z.2, p ++ [(c, z.1)])] := by
            rw [List.take_add_one, hz, belowOf, List.map_append]
            rfl
          rw [e1, List.map_append]
          have hzo := hsub z (List.mem_of_getElem? hz)
          refine DqAll.append (DqAll.keepS Kp.put muD _ _ bnl (DqAll.keep0 k913 _ _ dacc)) (.cons ?_ .nil)
          refine Dq.keepS Kp.put muD (itD (z.2, p ++ [(c, z.1)])) _ (by rw [itD, noL, noLs, noLs, noLs, hzo.noL, log_noL]; rfl) ?_
          rw [itD]
          refine .tup hy3 (.cons (Dq.keep0 (k79.trans k913) _ _ dw5) (.cons ?_ .nil))
          rw [logD, List.map_append]
          refine .tup (scp.keep0 kp13) (DqAll.append (DqAll.keep0 (k79.trans k913) _ _ dp7) (.cons ?_ .nil))
          exact .tup (((hy1.keep0 kp11).keep0 kp12).keep0 kp13) (.cons (.str c) (.cons (.int z.1) .nil))
        · have lby : bys.length = bs.length := by rw [dqAll_len dbs, brd_lng]
          rw [List.take_of_length_le (by omega)] at dacc
          have lacc : acc.length = bs.length := by rw [dqAll_len dacc, List.length_map, belowOf, List.length_map]
          walk_at "rd"
          have hwa9 := kp9.at0 hwa8
          refine r_extend hwa9 ea (by omega) ?_
          refine gen_put fun H10 kp10 hwa10 => ?_
          have mu9 : Mu H9 [wa] := Mu.lst hwa9
          have up10 : ∀ ds vs, noLs ds = true → DqAll K H7 vs ds → DqAll K H10 vs ds := fun d v n h => DqAll.keepS kp10 mu9 d v n (DqAll.keep0 (kp8.trans kp9) d v h)
          have iob : ∀ x ∈ belowOf c p bs, ItOk n x := by
            intro x hx
            obtain ⟨z, hz, rfl⟩ := List.mem_map.mp hx
            refine ⟨⟨m1, cs2, hsub z hz, fun y hy => hcs1 y (hs1 y hy), ?_⟩, ?_⟩
            · rw [List.length_append]
              show m1 + (p.length + 1) ≤ n
              omega
            · intro y hy
              rcases List.mem_append.mp hy with h | h
              · exact hp y h
              · have e : y = (c, z.1) := by simpa using h
                subst e
                exact hcs1 c hc1
          refine ⟨pot (wt' ++ belowOf c p bs), ?_, zs, wt' ++ belowOf c p bs, ys, ws' ++ acc, _, _, _, _, rfl, ?_, kp10.at1 fw (kp9.at0 hfo8), hwa10, up10 _ _ (logs_noL zs) dz7, ?_, ?_, ro, ?_, rfl⟩
          · rw [pot_app, pot_app, pot_below]
            show _ < pot wt' + ((Tr.nd c bs).size + 0)
            rw [Tr.size]
            omega
          · exact (kp57.trans (Kp.mono (kp8.trans kp9) (by simp))).trans (kp10.mono (by simp))
          · rw [List.map_append]
            exact DqAll.append (up10 _ _ (its_noL io') dw7) (DqAll.keepS kp10 mu9 _ _ (its_noL iob) dacc)
          · refine List.Perm.trans (List.Perm.of_eq ?_) pm
            rw [List.flatMap_append, List.flatMap_append, exts_below, List.flatMap_cons, List.flatMap_nil, List.append_nil]
          · intro x hx
            rcases List.mem_append.mp hx with h | h
            · exact io' x h
            · exact iob x h
    · have e0 : wt = [] := by
        cases wt with
        | nil => rfl
        | cons a b => cases hb
      subst e0
      rw [List.flatMap_nil, List.append_nil] at pm
      walk_at "rd"
      have sbz : Sb (zs.map fun z => logD z.1) := by
        have := sb_logs (zs.map Prod.fst) ?_
        · rw [List.map_map] at this
          exact this
        · cases t with
          | lf =>
            right
            have := pm.length_eq
            rw [Tr.paths, List.length_map] at this
            rw [List.length_map, this]
            decide
          | nd c bs =>
            left
            intro l hl
            obtain ⟨z, hz, rfl⟩ := List.mem_map.mp hl
            have h1 : z.2 ≠ [] := by
              refine brp_ne c bs z.2 ?_
              rw [Tr.paths] at pm
              exact pm.mem_iff.mp (List.mem_map_of_mem hz)
            intro h0
            have := (ro z hz).1.length_eq
            rw [h0] at this
            exact h1 (List.length_eq_zero_iff.mp this.symm)
      refine r_sortD (enc := fun z : Path × Path => logD z.1) (.inl (.inl (.inl (kp6.at0 hfo5)))) (DqAll.keep0 kp6 _ _ dz) sbz fun so bs sys pb wb db nso => ?_
      refine gen_new nso fun H7 kp7 hso => ?_
      walk_at "rd"
      refine r_tupL hso fun tp H8 ntp kp8 htp => ?_
      have k03 := (kp1.trans kp2).trans kp3
      refine q H8 tp sys bs ?_ htp (DqAll.keep0 (kp7.trans kp8) _ _ db) ((pb.map Prod.snd).trans pm) (fun z hz => ro z (pb.mem_iff.mp hz)) wb
      refine ((Kp.trans (k03.trans kp4) Kp.refl).dropT kp5 ?_).trans ((kp6.trans kp7).trans kp8)
      intro a ha
      rcases List.mem_cons.mp ha with h | h
      · exact .inr (by rw [h]; exact nfo)
      · exact .inr (by rw [show a = wa by simpa using h]; exact k03.none0 (by simp) nwa)
end
section
variable {P : Program} {ww : World} {K : PySem.W.Frag} {F : Fr} {H : Hp} {σ : St} {env env' : List Sl} {ts : Ts} {x y b : V} {d : PyData} {ds : List PyData} {Q : VK} {E : XK} {i n m : Nat} {s : Sl}
theorem z_leaves {t : Tr} {nn : Nat} {cs : List Str} (R : Rp F H σ env ((x, .fz t.d) :: ts)) (hK : F.K = K) (ok : Okt nn cs t) (hc : ∀ c ∈ cs, Cell c) (h6 : nn ≤ 6)
    (h : ∀ (v : V) (H' : Hp) (zs : List (Path × Path)), (zs.map Prod.snd).Perm t.paths → (∀ z ∈ zs, z.1.Perm z.2 ∧ inOrder z.1) → zs.Pairwise (fun x y => PySem.W.dataLt (logD y.1) (logD x.1) = false) → Rp F H' σ env ((v, .fz (logsD (zs.map Prod.fst))) :: ts) → Q v H') : sp_leaves K [x] H Q E := by
  subst hK
  obtain ⟨S, w, R⟩ := R
  refine ⟨x, t, nn, cs, rfl, R.top.dq (noD_shp _ (ok.shp hc)), ok, hc, h6, fun H' p ys zs kp tm dz pm ro pw => h _ _ zs pm ro pw ?_⟩
  have R2 := R.pop.heap kp
  have nl : noLs (zs.map fun z => logD z.1) = true := noLs_mem fun d hd => by
    obtain ⟨z, _, rfl⟩ := List.mem_map.mp hd
    exact log_noL _
  have f := DqAll.fz (K := F.K) R2.mtb _ _ nl dz
  have np : p ∉ S := fun z => by
    obtain ⟨o, e, _⟩ := tm
    have := R2.mtb p z
    rw [e] at this
    exact this
  refine ⟨S, w, R2.push (.tup np tm ?_)⟩
  rw [List.map_map]
  exact f
end

end L2.Ro

end
section
set_option Elab.async false
set_option linter.all false
set_option maxRecDepth 100000
set_option maxHeartbeats 4000000
local macro_rules | `(tactic| walk_at "rd1") => `(tactic| with_reducible first
  | refine L2.Rx.r_seq ?_ | refine L2.Rx.r_asg ?_ | refine L2.Rx.r_gname ?_ | refine L2.Rx.r_op ?_ | refine L2.Rx.r_c ?_
  | refine L2.Rx.r_var rfl ?_
  | refine L2.Rx.r_rI0 ?_ | refine L2.Rx.r_test ?_ | refine L2.Rx.r_bl ?_ | refine L2.Rx.r_if ?_ | refine L2.Rx.r_ret ?_
  | refine L2.Rx.r_cons ?_ | refine L2.Rx.r_nil ?_ | refine L2.Rx.r_call ?_ | refine L2.Rx.r_cb ?_ | refine L2.Rx.r_next ?_ | refine L2.Rx.r_drop ?_
  | refine L2.Rx.r_gsub ?_ | refine L2.Rx.r_tupF ?_ | refine L2.Rx.r_lst ?_ | refine L2.Rx.r_par ?_ | refine L2.Rx.r_par2 ?_
  | refine L2.Rx.r_un ?_ | refine L2.Rx.r_tb ?_ | refine L2.Rx.r_and ?_ | refine L2.Rx.r_or ?_ | refine L2.Rx.r_not ?_
  | refine L2.Rx.r_andV ?_ | refine L2.Rx.r_orV ?_ | refine L2.Rx.r_notV ?_ | refine L2.Rx.r_ifx ?_ | refine L2.Rx.r_chain ?_
  | refine L2.Rx.r_sl ?_ | refine L2.Rx.r_nopart ?_ | refine L2.Rx.r_part ?_ | refine L2.Rx.r_exint ?_ | refine L2.Rx.r_bm0 ?_ | refine L2.Rx.r_bm ?_
  | refine L2.Rx.r_lc ?_ | refine L2.Rx.r_rng1 ?_ | refine L2.Rx.r_yes ?_ | refine L2.Rx.r_tt ?_ | refine L2.Rx.r_ff ?_ | refine L2.Rx.r_m1 ?_ | refine L2.Rx.r_m0 ?_ | refine L2.Rx.r_isS ?_
  | (refine L2.Rx.r_wipe (by with_unfolding_all rfl) ?_) | (refine L2.Rx.r_tyL (by walk_at "hp") ?_)
  | refine L2.Rx.r_addS (by walk_at "len") ?_ | refine L2.Rx.r_lenS (by walk_at "len") ?_ | refine L2.Rx.r_slS (by walk_at "len") ?_
  | refine L2.Rx.r_dnotin ?_ | refine L2.Rx.r_dget ?_ | refine L2.Rx.r_dget1 ?_ | refine L2.Rx.r_dput ?_ | refine L2.Rx.r_dpop1 ?_ | refine L2.Rx.r_isN ?_
  | refine L2.Rx.r_for ?_ | refine L2.Rx.r_ilist ?_ | refine L2.Rx.r_itup ?_
  | refine L2.Rx.r_gcons ?_ | refine L2.Rx.r_gnil ?_ | (refine L2.Rx.r_gtupP (by assumption) (by walk_at "at") ?_)
  | (refine L2.Rx.r_rEq rfl ?_) | (refine L2.Rx.r_rNe rfl ?_)
  | refine L2.Rx.r_rU ?_ | refine L2.Rx.r_max2 ?_ | refine L2.Rx.r_min2 ?_ | refine L2.Rx.r_int1i ?_ | (refine L2.Rx.r_lenh (by walk_at "hp") ?_)
  | (refine L2.Rx.r_ixLh (by walk_at "hp") (by walk_at "at") ?_)
  | (refine L2.Rx.r_setL (by walk_at "hp") (by walk_at "at") ?_))
local macro_rules | `(tactic| walk_at "at") => `(tactic| with_unfolding_all rfl)
local macro_rules | `(tactic| walk_at "rd") => `(tactic| (repeat walk_at "rd1"))
local macro_rules | `(tactic| walk_at "hp") => `(tactic| first
  | assumption
  | exact L2.upd_same
  | (refine Eq.trans (L2.upd_ne ?_) ?_; (focus walk_at "ne"); (focus walk_at "hp"))
  | (refine L2.Rx.Kp.at0 (by assumption) ?_; walk_at "hp")
  | (refine L2.Rx.Kp.at1 (by assumption) ?_ ?_; (focus walk_at "ne"); (focus walk_at "hp")))
local macro_rules | `(tactic| walk_at "ne") => `(tactic| first
  | assumption | exact Ne.symm (by assumption)
  | (refine L2.ne_of_none (H := ?nH) (o := ?nO) ?nh ?nn; (case nn => assumption); (case nh => walk_at "hp"))
  | (refine Ne.symm (L2.ne_of_none (H := ?nH) (o := ?nO) ?nh ?nn); (case nn => assumption); (case nh => walk_at "hp")))
local macro_rules | `(tactic| walk_at "len") => `(tactic| (rw [PySem.sizeLine_eq]; omega))
local macro_rules | `(tactic| walk_at "nin") => `(tactic| first
  | exact List.not_mem_nil
  | (refine L2.Rx.nin1 ?_; walk_at "ne"))
local macro_rules | `(tactic| walk_at "none") => `(tactic| first
  | assumption
  | (refine L2.Rx.Kp.none0 (by assumption) ?_ ?_; (focus walk_at "nin"); (focus walk_at "none")))
namespace L2.Ro
open PySem PySem.Spec PyProof.Rows L2.Rx L2.Z
def sp_take : Sp := fun vs H Q _ => ∃ (b : Addr) (n : Nat) (u : Int), vs = [.ref b, .int u] ∧ Box H b (n + 1) ∧ 0 < u ∧ u ≤ 1000000000 ∧
  ∀ H' r, Kp [b] H H' → Box H' b n → 0 ≤ r → r < u → Q (.int r) H'
section
variable {P : Program} {w : World} {K : PySem.W.Frag} {mg : Str → Option Value} {base : Heap}
theorem k_take {f : Addr} {fd : FuncData} (F : Fun K "_law_take" "_law_take" s_take f fd) (g : mg "_law_take" = some (.ref f)) (z : Zb mg)  : Kn P w K mg base CX0 1 "_law_take" sp_take := by
  refine ⟨f, fd, ["_law_box_here", "_law_upon"], fnG_body F sc_take (fun vs H Q E h => ?_) (fun cdv A outer s H vs Q E hr h => ?_), g, F.kp, F.binds (fun _ _ _ _ _ _ us hl => match us, hl with | [_, _], _ => rfl)⟩
  · obtain ⟨b, n, u, rfl, _⟩ := h
    rfl
  · obtain ⟨b, n, u, rfl, ⟨o, m, c, hb, o0, m0, m1, c0, c1⟩, u0, u1, q⟩ := h
    refine ⟨_, PSs.nox (pss_cons (ps_if (pt_cmpR op_gt (pe_ix (show IxR _ (rIxL K) from ix_list) (pv 0) pe_int (fun _ _ => rfl)) pe_int (nomark _))
        (pss_cons (ps_set (i := 2) sc_take.nd rfl (.inl rfl) (pe_op op_mod (pe_ix (show IxR _ (rIxL K) from ix_list) (pv 0) pe_int (fun _ _ => rfl)) (pv 1)))
        (pss_cons (ps_asg (pe_op op_fdiv (pe_ix (show IxR _ (rIxL K) from ix_list) (pv 0) pe_int (fun _ _ => rfl)) (pv 1)) (pg_sub (pv 0) pe_int set_list))
        (pss_one (ps_ret (pv 2)))))
        pss_nil)
      (pss_cons (ps_asg (pe_op op_add (pe_ix (show IxR _ (rIxL K) from ix_list) (pv 0) pe_int (fun _ _ => rfl)) pe_int) (pg_sub (pv 0) pe_int set_list))
      (pss_cons (ps_set (i := 3) sc_take.nd rfl (.inl rfl) (pe_ix (show IxR _ (rIxL K) from ix_list) (pe_lst (pa_cons pe_int (pa_cons pe_int (pa_cons pe_int (pa_cons pe_int (pa_cons pe_int (pa_cons pe_int (pa_cons pe_int pa_nil)))))))) (pe_op op_mod (pe_ix (show IxR _ (rIxL K) from ix_list) (pv 0) pe_int (fun _ _ => rfl)) pe_int) (fun _ _ => rfl)))
      (pss_cons (ps_set (i := 4) sc_take.nd rfl (.inl rfl) (pe_op op_mod (pe_op op_pow (pe_op op_add (pe_ix (show IxR _ (rIxL K) from ix_list) (pv 0) pe_int (fun _ _ => rfl)) (pe_op op_mul pe_int (pe_ix (show IxR _ (rIxL K) from ix_list) (pv 0) pe_int (fun _ _ => rfl)))) pe_int) (pv 3)))
      (pss_cons (ps_set (i := 4) sc_take.nd rfl (.inl rfl) (pe_op op_mod (pe_op op_mul (pv 4) (pe_op op_add (pe_op op_mod (pv 4) pe_int) (pe_ix (show IxR _ (rIxL K) from ix_list) (pv 0) pe_int (fun _ _ => rfl)))) (pv 3)))
      (pss_cons (ps_if (pt_cmpR op_gt (pv 1) (pe_op op_pow pe_int pe_int) (nomark _))
        (pss_one (ps_set (i := 4) sc_take.nd rfl (.inl rfl) (pe_op op_add (pe_op op_mul (pv 4) pe_int) (pe_op op_mod (pe_op op_add (pe_op op_mul (pe_ix (show IxR _ (rIxL K) from ix_list) (pv 0) pe_int (fun _ _ => rfl)) (pe_op op_add (pe_ix (show IxR _ (rIxL K) from ix_list) (pv 0) pe_int (fun _ _ => rfl)) pe_int)) (pe_op op_mul (pv 4) (pv 4))) pe_int))))
        pss_nil)
      (pss_one (ps_ret (pe_op op_mod (pe_op op_fdiv (pv 4) pe_int) (pv 1)))))))))), ?_⟩
    walk_at "rd"
    refine r_ite (fun ho => ?_) (fun ho => ?_)
    · walk_at "rd"
      refine r_rI u0 ?_
      walk_at "rd"
      refine r_div o0 u0 (by omega) (fun o' o'0 _ => ?_)
      walk_at "rd"
      refine q _ _ Kp.put ⟨_, _, _, upd_same, o'0, m0, m1, c0, by omega⟩ (Int.emod_nonneg _ (by omega)) (Int.emod_lt_of_pos _ u0)
    · walk_at "rd"
      refine r_new rfl (fun p np => ?_)
      walk_at "rd"
      refine r_mod (j := 7) (by decide) (fun i i0 i1 => ?_)
      refine r_pickL upd_same i0 i1 (fun v hv => ?_)
      obtain ⟨k, rfl, k0, k1⟩ : ∃ k : Int, v = .int k ∧ 0 < k ∧ k < 2147483648 := by
        simp only [List.mem_cons, List.mem_nil_iff, or_false] at hv
        rcases hv with rfl | rfl | rfl | rfl | rfl | rfl | rfl <;> exact ⟨_, rfl, by decide, by decide⟩
      clear hv
      walk_at "rd"
      refine r_mul (.inl (by omega)) ?_
      walk_at "rd"
      refine r_pow (by decide) (by decide) (by omega) ?_
      walk_at "rd"
      refine r_mod k0 (fun d d0 d1 => ?_)
      walk_at "rd"
      refine r_mod (j := 1009) (by decide) (fun e e0 e1 => ?_)
      walk_at "rd"
      refine r_mul (.inl (by omega)) ?_
      walk_at "rd"
      refine r_mod k0 (fun g g0 g1 => ?_)
      walk_at "rd"
      refine r_pow (by decide) (by decide) (by decide) ?_
      walk_at "rd"
      refine r_ite (fun hu => ?_) (fun hu => ?_)
      · walk_at "rd"
        refine r_mul (.inl (by omega)) ?_
        walk_at "rd"
        refine r_mul (.inl (by omega)) ?_
        walk_at "rd"
        refine r_mul (.inl (by omega)) ?_
        walk_at "rd"
        refine r_mod (j := 1000000007) (by decide) (fun t t0 t1 => ?_)
        walk_at "rd"
        refine r_div (by omega) (by decide) (by decide) (fun z z0 _ => ?_)
        walk_at "rd"
        refine r_mod u0 (fun r r0 r1 => ?_)
        refine q _ _ ((Kp.put (b := b)).trans (Kp.new np)) ⟨_, _, _, by walk_at "hp", o0, m0, m1, by omega, by omega⟩ r0 r1
      · walk_at "rd"
        refine r_div (by omega) (by decide) (by decide) (fun z z0 _ => ?_)
        walk_at "rd"
        refine r_mod u0 (fun r r0 r1 => ?_)
        refine q _ _ ((Kp.put (b := b)).trans (Kp.new np)) ⟨_, _, _, by walk_at "hp", o0, m0, m1, by omega, by omega⟩ r0 r1
end
section
variable {P : Program} {ww : World} {K : PySem.W.Frag} {F : Fr} {H : Hp} {σ : St} {env env' : List Sl} {ts : Ts} {x y b : V} {d : PyData} {ds : List PyData} {Q : VK} {E : XK} {i n m : Nat} {s : Sl}
theorem z_take {u : Int} (R : Rp F H σ env ((x, .fz (.int u)) :: (b, .al i) :: ts)) (hb : env[i]? = some (.box n)) (u0 : 0 < u) (u1 : u ≤ 1000000000) (hm : m + 1 ≤ n) (he : SetE env i (.box m) env')
    (h : ∀ (v : V) (H' : Hp) (r : Int), 0 ≤ r → r < u → Rp F H' σ env' ((v, .fz (.int r)) :: ts) → Q v H') : sp_take [b, x] H Q E := by
  obtain ⟨S, w, R⟩ := R
  obtain ⟨a, ea, B, aS, k⟩ := R.pop.pop.boxSlot hb
  have e4 := R.alSlot (i := i) (z := b) (List.mem_cons_of_mem _ (List.mem_cons_self ..))
  rw [ea] at e4
  cases e4
  refine ⟨a, m, u, by rw [R.top.i], B.mono hm, u0, u1, fun H' r kp B' r0 r1 => h _ _ r r0 r1 ?_⟩
  have R2 := k H' m kp B'
  rw [he.eq] at R2
  exact ⟨S, w, R2.push (.int r)⟩
end

end L2.Ro

end
section
set_option Elab.async false
set_option linter.all false
set_option maxRecDepth 100000
set_option maxHeartbeats 4000000
local macro_rules | `(tactic| walk_at "rd1") => `(tactic| with_reducible first
  | refine L2.Rx.r_seq ?_ | refine L2.Rx.r_asg ?_ | refine L2.Rx.r_gname ?_ | refine L2.Rx.r_op ?_ | refine L2.Rx.r_c ?_
  | refine L2.Rx.r_var rfl ?_
  | refine L2.Rx.r_rI0 ?_ | refine L2.Rx.r_test ?_ | refine L2.Rx.r_bl ?_ | refine L2.Rx.r_if ?_ | refine L2.Rx.r_ret ?_
  | refine L2.Rx.r_cons ?_ | refine L2.Rx.r_nil ?_ | refine L2.Rx.r_call ?_ | refine L2.Rx.r_cb ?_ | refine L2.Rx.r_next ?_ | refine L2.Rx.r_drop ?_
  | refine L2.Rx.r_gsub ?_ | refine L2.Rx.r_tupF ?_ | refine L2.Rx.r_lst ?_ | refine L2.Rx.r_par ?_ | refine L2.Rx.r_par2 ?_
  | refine L2.Rx.r_un ?_ | refine L2.Rx.r_tb ?_ | refine L2.Rx.r_and ?_ | refine L2.Rx.r_or ?_ | refine L2.Rx.r_not ?_
  | refine L2.Rx.r_andV ?_ | refine L2.Rx.r_orV ?_ | refine L2.Rx.r_notV ?_ | refine L2.Rx.r_ifx ?_ | refine L2.Rx.r_chain ?_
  | refine L2.Rx.r_sl ?_ | refine L2.Rx.r_nopart ?_ | refine L2.Rx.r_part ?_ | refine L2.Rx.r_exint ?_ | refine L2.Rx.r_bm0 ?_ | refine L2.Rx.r_bm ?_
  | refine L2.Rx.r_lc ?_ | refine L2.Rx.r_rng1 ?_ | refine L2.Rx.r_yes ?_ | refine L2.Rx.r_tt ?_ | refine L2.Rx.r_ff ?_ | refine L2.Rx.r_m1 ?_ | refine L2.Rx.r_m0 ?_ | refine L2.Rx.r_isS ?_
  | (refine L2.Rx.r_wipe (by with_unfolding_all rfl) ?_) | (refine L2.Rx.r_tyL (by walk_at "hp") ?_)
  | refine L2.Rx.r_addS (by walk_at "len") ?_ | refine L2.Rx.r_lenS (by walk_at "len") ?_ | refine L2.Rx.r_slS (by walk_at "len") ?_
  | refine L2.Rx.r_dnotin ?_ | refine L2.Rx.r_dget ?_ | refine L2.Rx.r_dget1 ?_ | refine L2.Rx.r_dput ?_ | refine L2.Rx.r_dpop1 ?_ | refine L2.Rx.r_isN ?_
  | refine L2.Rx.r_for ?_ | refine L2.Rx.r_ilist ?_ | refine L2.Rx.r_itup ?_
  | refine L2.Rx.r_gcons ?_ | refine L2.Rx.r_gnil ?_ | (refine L2.Rx.r_gtupP (by assumption) (by walk_at "at") ?_)
  | (refine L2.Rx.r_rEq rfl ?_) | (refine L2.Rx.r_rNe rfl ?_)
  | refine L2.Rx.r_rU ?_ | refine L2.Rx.r_max2 ?_ | refine L2.Rx.r_min2 ?_ | refine L2.Rx.r_int1i ?_ | (refine L2.Rx.r_lenh (by walk_at "hp") ?_)
  | (refine L2.Rx.r_ixLh (by walk_at "hp") (by walk_at "at") ?_)
  | (refine L2.Rx.r_setL (by walk_at "hp") (by walk_at "at") ?_))
local macro_rules | `(tactic| walk_at "at") => `(tactic| with_unfolding_all rfl)
local macro_rules | `(tactic| walk_at "rd") => `(tactic| (repeat walk_at "rd1"))
local macro_rules | `(tactic| walk_at "hp") => `(tactic| first
  | assumption
  | exact L2.upd_same
  | (refine Eq.trans (L2.upd_ne ?_) ?_; (focus walk_at "ne"); (focus walk_at "hp"))
  | (refine L2.Rx.Kp.at0 (by assumption) ?_; walk_at "hp")
  | (refine L2.Rx.Kp.at1 (by assumption) ?_ ?_; (focus walk_at "ne"); (focus walk_at "hp")))
local macro_rules | `(tactic| walk_at "ne") => `(tactic| first
  | assumption | exact Ne.symm (by assumption)
  | (refine L2.ne_of_none (H := ?nH) (o := ?nO) ?nh ?nn; (case nn => assumption); (case nh => walk_at "hp"))
  | (refine Ne.symm (L2.ne_of_none (H := ?nH) (o := ?nO) ?nh ?nn); (case nn => assumption); (case nh => walk_at "hp")))
local macro_rules | `(tactic| walk_at "len") => `(tactic| (rw [PySem.sizeLine_eq]; omega))
local macro_rules | `(tactic| walk_at "nin") => `(tactic| first
  | exact List.not_mem_nil
  | (refine L2.Rx.nin1 ?_; walk_at "ne"))
local macro_rules | `(tactic| walk_at "none") => `(tactic| first
  | assumption
  | (refine L2.Rx.Kp.none0 (by assumption) ?_ ?_; (focus walk_at "nin"); (focus walk_at "none")))
namespace L2.Ro
open PySem PySem.Spec PyProof.Rows L2.Rx L2.Z
/-- one of the items, or one sign of the text -/
def sp_of (K : PySem.W.Frag) : Sp := fun vs H Q _ => ∃ (b : Addr) (n : Nat) (x : V), vs = [.ref b, x] ∧ Box H b (n + 1) ∧
  ((∃ (p : Addr) (xs : List V), x = .ref p ∧ (SqL K H p xs ∨ SqT K H p xs) ∧ p ≠ b ∧ 0 < xs.length ∧ xs.length ≤ 1000000000 ∧ ∀ H' v, Kp [b] H H' → Box H' b n → v ∈ xs → Q v H') ∨
   (∃ z : Str, x = .str z ∧ 0 < z.length ∧ z.length ≤ 1000 ∧ ∀ H' c, Kp [b] H H' → Box H' b n → c ∈ z.cps.toList → Q (.str ⟨#[c]⟩) H'))
section
variable {P : Program} {w : World} {K : PySem.W.Frag} {mg : Str → Option Value} {base : Heap}
theorem k_of {f : Addr} {fd : FuncData} (F : Fun K "_law_of" "_law_of" s_of f fd) (g : mg "_law_of" = some (.ref f)) (z : Zb mg) (k_take : Kn P w K mg base CX0 1 "_law_take" sp_take)  : Kn P w K mg base CX0 2 "_law_of" (sp_of K) := by
  refine ⟨f, fd, ["_law_box_here", "_law_some"], fnG_body F sc_of (fun vs H Q E h => ?_) (fun cdv A outer s H vs Q E hr h => ?_), g, F.kp, F.binds (fun _ _ _ _ _ _ us hl => match us, hl with | [_, _], _ => rfl)⟩
  · obtain ⟨b, n, x, rfl, _⟩ := h
    rfl
  · obtain ⟨b, n, x, rfl, B, q⟩ := h
    refine ⟨_, PSs.nox (pss_one (ps_ret (pe_ix (show IxR _ (rIx K) from ix_seq) (pv 1) (k_take.call hr (by decide) (by rfl) (pa_cons (pv 0) (pa_cons (pe_callB (show CallR _ _ (rLenV K) from c_lenV) (by rfl) z.n_len (by decide +kernel) (pa_cons (pv 1) pa_nil)) pa_nil))) (fun _ _ => rfl)))), ?_⟩
    rcases q with ⟨p, xs, rfl, hs, ne, l0, l1, q⟩ | ⟨z, rfl, l0, l1, q⟩
    · walk_at "rd"
      refine .inl (r_len hs ?_)
      walk_at "rd"
      refine ⟨b, n, _, rfl, B, by omega, by omega, fun H' r k B' r0 r1 => ?_⟩
      obtain ⟨v, e, m⟩ := atI_int r0 r1
      rcases hs with hs | hs
      · exact .inl ⟨p, xs, r, v, rfl, rfl, kp1_sqL k ne hs, e, q H' v k B' m⟩
      · exact .inr (.inl ⟨p, xs, r, v, rfl, rfl, kp_sqT k (by simpa using ne) hs, e, q H' v k B' m⟩)
    · walk_at "rd"
      refine .inr (r_lenS (Nat.le_trans l1 (by decide)) ?_)
      walk_at "rd"
      refine ⟨b, n, _, rfl, B, by omega, by omega, fun H' r k B' r0 r1 => ?_⟩
      obtain ⟨j, rfl⟩ : ∃ j : Nat, r = (j : Int) := ⟨r.toNat, by omega⟩
      have hj : j < z.cps.toList.length := by
        have : z.length = z.cps.toList.length := by simp [Str.length]
        omega
      exact .inr (.inr ⟨z, j, z.cps.toList[j], rfl, rfl, Nat.le_trans l1 (by decide), atI_nat (List.getElem?_eq_getElem hj), q H' _ k B' (List.getElem_mem hj)⟩)
end
section
variable {P : Program} {ww : World} {K : PySem.W.Frag} {F : Fr} {H : Hp} {σ : St} {env env' : List Sl} {ts : Ts} {x y b : V} {d : PyData} {ds : List PyData} {Q : VK} {E : XK} {i n m : Nat} {s : Sl}
theorem z_of (R : Rp F H σ env ((x, s) :: (b, .al i) :: ts)) (e : asD s = some d) (q : Sq d ds) (l0 : 0 < ds.length) (l1 : ds.length ≤ 1000000000) (hb : env[i]? = some (.box n)) (hm : m + 1 ≤ n) (he : SetE env i (.box m) env')
    (h : ∀ (v : V) (H' : Hp) (d : PyData), d ∈ ds → Rp F H' σ env' ((v, .fz d) :: ts) → Q v H') : sp_of K [b, x] H Q E := by
  have R := R.fr [] e
  obtain ⟨S, w, R⟩ := R
  obtain ⟨a, ea, B, aS, k⟩ := R.pop.pop.boxSlot hb
  have e4 := R.alSlot (i := i) (z := b) (List.mem_cons_of_mem _ (List.mem_cons_self ..))
  rw [ea] at e4
  cases e4
  have key : ∀ (p : Addr) (xs : List V), (SqL K H p xs ∨ SqT K H p xs) → p ∉ S → FzAll S H xs ds → sp_of K [.ref a, .ref p] H Q E := fun p xs sq np f => by
    refine ⟨a, m, _, rfl, B.mono hm, .inl ⟨p, xs, rfl, sq, fun z => np (by rw [z]; exact aS), by rw [f.len]; exact l0, by rw [f.len]; exact l1, fun H' v kp B' mem => ?_⟩⟩
    obtain ⟨j, hj, ej⟩ := List.mem_iff_getElem.mp mem
    obtain ⟨d, hd, fd⟩ := f.at (i := j) (v := v) (by rw [List.getElem?_eq_getElem hj, ej])
    have R2 := k H' m kp B'
    rw [he.eq] at R2
    exact h _ _ d (List.mem_of_getElem? hd) ⟨S, w, R2.push (fd.move fun c o nc ec => ⟨nc, kp.at1 (fun z => nc (by rw [z]; exact aS)) ec⟩)⟩
  cases q with
  | l => obtain ⟨p, xs, rfl, np, r, f⟩ := R.top.l; exact key p xs (.inl (.inl (.inl r))) np f
  | t => obtain ⟨p, xs, rfl, np, r, f⟩ := R.top.t; exact key p xs (.inr r.sq) np f
theorem z_ofS {z : Str} (R : Rp F H σ env ((x, .fz (.str z)) :: (b, .al i) :: ts)) (l0 : 0 < z.length) (l1 : z.length ≤ 1000) (hb : env[i]? = some (.box n)) (hm : m + 1 ≤ n) (he : SetE env i (.box m) env')
    (h : ∀ (v : V) (H' : Hp) (c : Nat), c ∈ z.cps.toList → Rp F H' σ env' ((v, .fz (.str ⟨#[c]⟩)) :: ts) → Q v H') : sp_of K [b, x] H Q E := by
  obtain ⟨S, w, R⟩ := R
  obtain ⟨a, ea, B, aS, k⟩ := R.pop.pop.boxSlot hb
  have e4 := R.alSlot (i := i) (z := b) (List.mem_cons_of_mem _ (List.mem_cons_self ..))
  rw [ea] at e4
  cases e4
  refine ⟨a, m, x, rfl, B.mono hm, .inr ⟨z, R.top.s, l0, l1, fun H' c kp B' hc => h _ _ c hc ?_⟩⟩
  have R2 := k H' m kp B'
  rw [he.eq] at R2
  exact ⟨S, w, R2.push (.str _)⟩
end

end L2.Ro

end
section
set_option Elab.async false
set_option linter.all false
set_option maxRecDepth 100000
set_option maxHeartbeats 4000000
local macro_rules | `(tactic| walk_at "rd1") => `(tactic| with_reducible first
  | refine L2.Rx.r_seq ?_ | refine L2.Rx.r_asg ?_ | refine L2.Rx.r_gname ?_ | refine L2.Rx.r_op ?_ | refine L2.Rx.r_c ?_
  | refine L2.Rx.r_var rfl ?_
  | refine L2.Rx.r_rI0 ?_ | refine L2.Rx.r_test ?_ | refine L2.Rx.r_bl ?_ | refine L2.Rx.r_if ?_ | refine L2.Rx.r_ret ?_
  | refine L2.Rx.r_cons ?_ | refine L2.Rx.r_nil ?_ | refine L2.Rx.r_call ?_ | refine L2.Rx.r_cb ?_ | refine L2.Rx.r_next ?_ | refine L2.Rx.r_drop ?_
  | refine L2.Rx.r_gsub ?_ | refine L2.Rx.r_tupF ?_ | refine L2.Rx.r_lst ?_ | refine L2.Rx.r_par ?_ | refine L2.Rx.r_par2 ?_
  | refine L2.Rx.r_un ?_ | refine L2.Rx.r_tb ?_ | refine L2.Rx.r_and ?_ | refine L2.Rx.r_or ?_ | refine L2.Rx.r_not ?_
  | refine L2.Rx.r_andV ?_ | refine L2.Rx.r_orV ?_ | refine L2.Rx.r_notV ?_ | refine L2.Rx.r_ifx ?_ | refine L2.Rx.r_chain ?_
  | refine L2.Rx.r_sl ?_ | refine L2.Rx.r_nopart ?_ | refine L2.Rx.r_part ?_ | refine L2.Rx.r_exint ?_ | refine L2.Rx.r_bm0 ?_ | refine L2.Rx.r_bm ?_
  | refine L2.Rx.r_lc ?_ | refine L2.Rx.r_rng1 ?_ | refine L2.Rx.r_yes ?_ | refine L2.Rx.r_tt ?_ | refine L2.Rx.r_ff ?_ | refine L2.Rx.r_m1 ?_ | refine L2.Rx.r_m0 ?_ | refine L2.Rx.r_isS ?_
  | (refine L2.Rx.r_wipe (by with_unfolding_all rfl) ?_) | (refine L2.Rx.r_tyL (by walk_at "hp") ?_)
  | refine L2.Rx.r_addS (by walk_at "len") ?_ | refine L2.Rx.r_lenS (by walk_at "len") ?_ | refine L2.Rx.r_slS (by walk_at "len") ?_
  | refine L2.Rx.r_dnotin ?_ | refine L2.Rx.r_dget ?_ | refine L2.Rx.r_dget1 ?_ | refine L2.Rx.r_dput ?_ | refine L2.Rx.r_dpop1 ?_ | refine L2.Rx.r_isN ?_
  | refine L2.Rx.r_for ?_ | refine L2.Rx.r_ilist ?_ | refine L2.Rx.r_itup ?_
  | refine L2.Rx.r_gcons ?_ | refine L2.Rx.r_gnil ?_ | (refine L2.Rx.r_gtupP (by assumption) (by walk_at "at") ?_)
  | (refine L2.Rx.r_rEq rfl ?_) | (refine L2.Rx.r_rNe rfl ?_)
  | refine L2.Rx.r_rU ?_ | refine L2.Rx.r_max2 ?_ | refine L2.Rx.r_min2 ?_ | refine L2.Rx.r_int1i ?_ | (refine L2.Rx.r_lenh (by walk_at "hp") ?_)
  | (refine L2.Rx.r_ixLh (by walk_at "hp") (by walk_at "at") ?_)
  | (refine L2.Rx.r_setL (by walk_at "hp") (by walk_at "at") ?_))
local macro_rules | `(tactic| walk_at "at") => `(tactic| with_unfolding_all rfl)
local macro_rules | `(tactic| walk_at "rd") => `(tactic| (repeat walk_at "rd1"))
local macro_rules | `(tactic| walk_at "hp") => `(tactic| first
  | assumption
  | exact L2.upd_same
  | (refine Eq.trans (L2.upd_ne ?_) ?_; (focus walk_at "ne"); (focus walk_at "hp"))
  | (refine L2.Rx.Kp.at0 (by assumption) ?_; walk_at "hp")
  | (refine L2.Rx.Kp.at1 (by assumption) ?_ ?_; (focus walk_at "ne"); (focus walk_at "hp")))
local macro_rules | `(tactic| walk_at "ne") => `(tactic| first
  | assumption | exact Ne.symm (by assumption)
  | (refine L2.ne_of_none (H := ?nH) (o := ?nO) ?nh ?nn; (case nn => assumption); (case nh => walk_at "hp"))
  | (refine Ne.symm (L2.ne_of_none (H := ?nH) (o := ?nO) ?nh ?nn); (case nn => assumption); (case nh => walk_at "hp")))
local macro_rules | `(tactic| walk_at "len") => `(tactic| (rw [PySem.sizeLine_eq]; omega))
local macro_rules | `(tactic| walk_at "nin") => `(tactic| first
  | exact List.not_mem_nil
  | (refine L2.Rx.nin1 ?_; walk_at "ne"))
local macro_rules | `(tactic| walk_at "none") => `(tactic| first
  | assumption
  | (refine L2.Rx.Kp.none0 (by assumption) ?_ ?_; (focus walk_at "nin"); (focus walk_at "none")))
namespace L2.Ro
open PySem PySem.Spec PyProof.Rows L2.Rx L2.Z
def sp_cells : Sp := fun vs H Q _ => ∃ (b : Addr) (n : Nat) (k : Int), vs = [.ref b, .int k] ∧ Box H b (n + 20) ∧ 0 ≤ k ∧ k ≤ 26 ∧
  ∀ H' p cs, Kp [b] H H' → H p = none → Box H' b n → H' p = some (.lst (cs.map V.str)) → cs.length = k.toNat → Cells cs → Q (.ref p) H'
theorem letters_tl : (Str.ofString "abcdefghijklmnopqrstuvwxyz").cps.toList = List.range' 97 26 := by decide +kernel
/-- the i-th of the cells -/
def cellN (st : List Nat) (u l : Int) (c : Nat) (i : Nat) : Str := ⟨(st.take c ++ [97 + ((u + l * i) % 26).toNat] ++ st.drop c).toArray⟩
theorem leap_inj : ∀ l ∈ ([1, 3, 5, 7, 9, 11] : List Int), ∀ d : Nat, d < 26 → (l * d) % 26 = 0 → d = 0 := by decide +kernel
theorem cellN_cell {st : List Nat} {u l : Int} {c i : Nat} (hs : low st) (hl : st.length ≤ 7) : Cell (cellN st u l c i) := by
  have e : (cellN st u l c i).cps.toList = st.take c ++ [97 + ((u + l * i) % 26).toNat] ++ st.drop c := rfl
  have h26 : ((u + l * i) % 26).toNat < 26 := by
    have := Int.emod_lt_of_pos (u + l * i) (by decide : (0 : Int) < 26)
    omega
  refine ⟨?_, ?_, ?_⟩
  · rw [len_tl, e]
    simp only [List.length_append, List.length_singleton]
    omega
  · rw [len_tl, e]
    simp only [List.length_append, List.length_singleton, List.length_take, List.length_drop]
    omega
  · rw [e]
    intro x hx
    rcases List.mem_append.mp hx with hx | hx
    · rcases List.mem_append.mp hx with hx | hx
      · exact hs x (List.mem_of_mem_take hx)
      · have : x = 97 + ((u + l * i) % 26).toNat := by simpa using hx
        omega
    · exact hs x (List.mem_of_mem_drop hx)
theorem cellN_inj {st : List Nat} {u l : Int} {c i j : Nat} (hl : l ∈ ([1, 3, 5, 7, 9, 11] : List Int)) (hi : i < 26) (hj : j < 26) (e : cellN st u l c i = cellN st u l c j) : i = j := by
  have e1 : st.take c ++ [97 + ((u + l * i) % 26).toNat] ++ st.drop c = st.take c ++ [97 + ((u + l * j) % 26).toNat] ++ st.drop c := by
    have := congrArg (fun z : Str => z.cps.toList) e
    exact this
  have e2 := List.append_cancel_right e1
  have e3 := List.append_cancel_left e2
  have e4 : 97 + ((u + l * i) % 26).toNat = 97 + ((u + l * j) % 26).toNat := by simpa using e3
  have p1 := Int.emod_nonneg (u + l * i) (by decide : (26 : Int) ≠ 0)
  have p2 := Int.emod_nonneg (u + l * j) (by decide : (26 : Int) ≠ 0)
  have e5 : (u + l * i) % 26 = (u + l * j) % 26 := by omega
  rcases Nat.le_total i j with h | h
  · have e6 : (l * ((j - i : Nat) : Int)) % 26 = 0 := by
      have : l * ((j - i : Nat) : Int) = (u + l * j) - (u + l * i) := by
        rw [Int.ofNat_sub h, Int.mul_sub]
        omega
      rw [this]
      omega
    have := leap_inj l hl (j - i) (by omega) e6
    omega
  · have e6 : (l * ((i - j : Nat) : Int)) % 26 = 0 := by
      have : l * ((i - j : Nat) : Int) = (u + l * i) - (u + l * j) := by
        rw [Int.ofNat_sub h, Int.mul_sub]
        omega
      rw [this]
      omega
    have := leap_inj l hl (i - j) (by omega) e6
    omega
theorem cellN_all {st : List Nat} {u l : Int} {c n : Nat} (hs : low st) (h7 : st.length ≤ 7) (hl : l ∈ ([1, 3, 5, 7, 9, 11] : List Int)) (hn : n ≤ 26) : Cells ((List.range n).map (cellN st u l c)) := by
  refine ⟨?_, ?_⟩
  · rw [List.nodup_iff_pairwise_ne, List.pairwise_map]
    refine List.Pairwise.imp_of_mem (R := (· ≠ ·)) ?_ List.nodup_range
    intro i j hi hj ne e
    exact ne (cellN_inj hl (by have := List.mem_range.mp hi; omega) (by have := List.mem_range.mp hj; omega) e)
  · intro z hz
    obtain ⟨i, _, rfl⟩ := List.mem_map.mp hz
    exact cellN_cell hs h7
section
variable {P : Program} {w : World} {K : PySem.W.Frag} {mg : Str → Option Value} {base : Heap}
theorem k_cells {f : Addr} {fd : FuncData} (F : Fun K "_law_cells" "_law_cells" s_cells f fd) (g : mg "_law_cells" = some (.ref f)) (z : Zb mg) (k_take : Kn P w K mg base CX0 1 "_law_take" sp_take) (k_of : Kn P w K mg base CX0 2 "_law_of" (sp_of K))  : Kn P w K mg base CX0 3 "_law_cells" sp_cells := by
  refine ⟨f, fd, ["_law_box_here", "_law_count"], fnG_body F sc_cells (fun vs H Q E h => ?_) (fun cdv A outer s H vs Q E hr h => ?_), g, F.kp, F.binds (fun _ _ _ _ _ _ us hl => match us, hl with | [_, _], _ => rfl)⟩
  · obtain ⟨b, n, k, rfl, _⟩ := h
    rfl
  · obtain ⟨b, n, k, rfl, B, k0, k1, q⟩ := h
    refine ⟨_, PSs.nox (pss_cons (ps_set (i := 2) sc_cells.nd rfl (.inr rfl) pe_str)
      (pss_cons (ps_asg (pe_tupF (pa_cons (k_take.call hr (by decide) (by rfl) (pa_cons (pv 0) (pa_cons pe_int pa_nil))) (pa_cons (k_of.call hr (by decide) (by rfl) (pa_cons (pv 0) (pa_cons (pe_lst (pa_cons pe_int (pa_cons pe_int (pa_cons pe_int (pa_cons pe_int (pa_cons pe_int (pa_cons pe_int pa_nil))))))) pa_nil))) pa_nil))) (show PG _ _ (gTup K 2 _) from pg_tup rfl (pgs_cons (pg_name (i := 3) sc_cells.nd rfl (.inr rfl)) (pgs_cons (pg_name (i := 4) sc_cells.nd rfl (.inr rfl)) pgs_nil))))
      (pss_cons (ps_set (i := 5) sc_cells.nd rfl (.inr rfl) (show PE _ _ (tM1 (rJoin K) _ _) from pe_joinV pe_str (pe_lc (own := [("_law_turn", 7)]) (g := (gName 7)) (by rfl) sc_cells.nd (pi_range1 rfl z.n_range (pa_cons (k_of.call hr (by decide) (by rfl) (pa_cons (pv 0) (pa_cons (pe_lst (pa_cons pe_int (pa_cons pe_int (pa_cons pe_int (pa_cons pe_int (pa_cons pe_int (pa_cons pe_int pa_nil))))))) pa_nil))) pa_nil)) (blkOk_by (own := [("_law_turn", 7)]) (N := ["_law_box_here", "_law_count", "_law_letters", "_law_start", "_law_leap", "_law_stem", "_law_cut", "_law_turn"]) (sc := defScope s_cells) (by decide +kernel)) (fun _ _ _ _ _ => (pg_name (i := 7) sc_cells.nd rfl (.inl rfl))) (fun _ _ _ _ _ => pts_nil) (fun _ _ _ _ _ => (k_of.call hr (by decide) (by rfl) (pa_cons (pv 0) (pa_cons (pv 2) pa_nil)))))))
      (pss_cons (ps_set (i := 6) sc_cells.nd rfl (.inr rfl) (k_take.call hr (by decide) (by rfl) (pa_cons (pv 0) (pa_cons (pe_op op_add (pe_callB c_lenS (by rfl) z.n_len (by decide +kernel) (pa_cons (pv 5) pa_nil)) pe_int) pa_nil))))
      (pss_one (ps_ret (pe_lc (own := [("_law_turn", 7)]) (g := (gName 7)) (by rfl) sc_cells.nd (pi_range1 rfl z.n_range (pa_cons (pv 1) pa_nil)) (blkOk_by (own := [("_law_turn", 7)]) (N := ["_law_box_here", "_law_count", "_law_letters", "_law_start", "_law_leap", "_law_stem", "_law_cut", "_law_turn"]) (sc := defScope s_cells) (by decide +kernel)) (fun _ _ _ _ _ => (pg_name (i := 7) sc_cells.nd rfl (.inl rfl))) (fun _ _ _ _ _ => pts_nil) (fun _ _ _ _ _ => (pe_op op_addS (pe_op op_addS (pe_slice sl_str (pv 5) po_none (po_some (pv 6))) (pe_ix ix_str (pv 2) (pe_op op_mod (pe_op op_add (pv 3) (pe_op op_mul (pv 4) (pv 7))) pe_int) (fun _ _ => rfl))) (pe_slice sl_str (pv 5) (po_some (pv 6)) po_none)))))))))), ?_⟩
    walk_at "rd"
    obtain ⟨_, hb⟩ := B.lst
    refine ⟨b, n + 19, 26, rfl, B, by decide, by decide, fun H1 u kp1 B1 u0 u1 => ?_⟩
    walk_at "rd"
    obtain ⟨_, hb1⟩ := B1.lst
    refine r_new rfl (fun p np => ?_)
    refine gen_new np fun H2 kp2 hp => ?_
    walk_at "rd"
    have npb : p ≠ b := by walk_at "ne"
    refine ⟨b, n + 18, _, rfl, B1.keep kp2, .inl ⟨p, _, rfl, .inl (.inl (.inl hp)), npb, by decide, by decide, fun H3 l kp3 B3 hv => ?_⟩⟩
    obtain ⟨l, rfl, hl⟩ : ∃ i : Int, l = .int i ∧ i ∈ ([1, 3, 5, 7, 9, 11] : List Int) := by
      simp only [List.mem_cons, List.mem_nil_iff, or_false] at hv
      rcases hv with rfl | rfl | rfl | rfl | rfl | rfl <;> exact ⟨_, rfl, by decide⟩
    walk_at "rd"
    refine r_newF rfl fun t ot nt odt => ?_
    refine gen_newT nt odt fun H4 kp4 ht => ?_
    walk_at "rd"
    refine r_new rfl (fun r nr => ?_)
    refine gen_new nr fun H5 kp5 hr5 => ?_
    walk_at "rd"
    obtain ⟨_, hb3⟩ := B3.lst
    have nrb : r ≠ b := by walk_at "ne"
    refine ⟨b, n + 17, _, rfl, (B3.keep kp4).keep kp5, .inl ⟨r, _, rfl, .inl (.inl (.inl hr5)), nrb, by decide, by decide, fun H6 m kp6 B6 hm => ?_⟩⟩
    obtain ⟨m, rfl, m0, m7⟩ : ∃ i : Int, m = .int i ∧ 0 ≤ i ∧ i ≤ 7 := by
      simp only [List.mem_cons, List.mem_nil_iff, or_false] at hm
      rcases hm with rfl | rfl | rfl | rfl | rfl | rfl <;> exact ⟨_, rfl, by decide, by decide⟩
    walk_at "rd"
    refine r_rngv (by omega) (by omega) ?_
    intro D nD
    have nDb : D ≠ b := by
      obtain ⟨_, hb6⟩ := B6.lst
      walk_at "ne"
    refine lc_range (lo := 0) (n := m.toNat) (PvL D (fun i acc H' => ∃ ss : List Str, acc = ss.map V.str ∧ ss.length = i ∧ (∀ s ∈ ss, s.cps.size = 1 ∧ low s.cps.toList) ∧ Kp [b] H6 H' ∧ Box H' b (n + 17 - i))) ⟨[], upd_same, Nat.le_refl _, [], rfl, rfl, (fun _ h => nomatch h), Kp.to1 (Kp.new nD), B6.keep (Kp.new nD)⟩ (fun i H7 hi ⟨acc, ea, la, ss, eacc, ls, hs, kp7, B7⟩ => ?_) (fun H7 ⟨acc, ea, la, ss, eacc, ls, hs, kp7, B7⟩ => ?_)
    · walk_at "rd"
      refine ⟨b, n + 16 - i, _, rfl, B7.mono (by omega), .inr ⟨_, rfl, by decide +kernel, by decide +kernel, fun H8 c kp8 B8 hc => ?_⟩⟩
      have ea8 : H8 D = some (.lst acc) := by walk_at "hp"
      refine PvL.step ea8 la (by omega) ⟨ss ++ [⟨#[c]⟩], by rw [eacc, List.map_append]; rfl, by rw [List.length_append, ls]; rfl, ?_, (kp7.trans kp8).putNew nD, ?_⟩
      · intro s hs'
        rcases List.mem_append.mp hs' with h | h
        · exact hs s h
        · have e : s = ⟨#[c]⟩ := by simpa using h
          subst e
          refine ⟨rfl, fun x hx => ?_⟩
          have e : x = c := by simpa using hx
          subst e
          rw [letters_tl] at hc
          have := List.mem_range'.mp hc
          omega
      · obtain ⟨o, s, c', e, r⟩ := B8
        exact ⟨o, s, c', (upd_ne (Ne.symm nDb)).trans e, by omega⟩
    · subst eacc
      have hlen : ∀ zs : List Str, (∀ s ∈ zs, s.cps.size = 1 ∧ low s.cps.toList) → (zs.map (·.length)).sum = zs.length ∧ ((zs.map fun z => z.cps.toList).flatten).length = zs.length ∧ low ((zs.map fun z => z.cps.toList).flatten) := by
        intro zs
        induction zs with
        | nil => intro _; exact ⟨rfl, rfl, fun _ h => nomatch h⟩
        | cons y ys ih =>
          intro h
          obtain ⟨a, b, c⟩ := ih fun s m => h s (List.mem_cons_of_mem _ m)
          obtain ⟨h1, h2⟩ := h y (List.mem_cons_self ..)
          refine ⟨?_, ?_, ?_⟩
          · rw [List.map_cons, List.sum_cons, a, List.length_cons]
            show y.cps.size + _ = _
            omega
          · rw [List.map_cons, List.flatten_cons, List.length_append, b, List.length_cons, Array.length_toList, h1]
            omega
          · intro x hx
            rw [List.map_cons, List.flatten_cons] at hx
            rcases List.mem_append.mp hx with m | m
            · exact h2 x m
            · exact c x m
      obtain ⟨l1, l2, l3⟩ := hlen ss hs
      refine r_join ea (by rw [l1]; show ss.length + ss.length * 0 ≤ _; omega) ?_
      have ej := tl_joined (e := Str.ofString "") (by decide +kernel) ss
      generalize Txt.join (Str.ofString "") ss = stem at ej ⊢
      have es : low stem.cps.toList ∧ stem.cps.toList.length ≤ 7 := by
        rw [ej]
        exact ⟨l3, by rw [l2]; omega⟩
      have esl : stem.length ≤ 7 := by rw [len_tl]; exact es.2
      walk_at "rd"
      refine ⟨b, n + 9, _, rfl, B7.mono (by omega), by omega, by omega, fun H8 c kp8 B8 c0 c1 => ?_⟩
      walk_at "rd"
      refine r_rngv (by omega) (by omega) ?_
      intro E nE
      have nEb : E ≠ b := by
        obtain ⟨_, hb8⟩ := B8.lst
        walk_at "ne"
      refine lc_range (lo := 0) (n := k.toNat) (PvL E (fun i acc H' => acc = ((List.range i).map (cellN stem.cps.toList u l c.toNat)).map V.str ∧ Kp [] H8 H')) ⟨[], upd_same, Nat.le_refl _, rfl, Kp.new nE⟩ (fun i H9 hi ⟨acc, ea9, la9, eacc9, kp9⟩ => ?_) (fun H9 ⟨acc, ea9, la9, eacc9, kp9⟩ => ?_)
      · walk_at "rd"
        refine r_mul (.inr (by omega)) ?_
        walk_at "rd"
        refine r_modx (by decide) ?_
        have q0 := Int.emod_nonneg (u + l * (0 + (i : Int))) (by decide : (26 : Int) ≠ 0)
        have q1 := Int.emod_lt_of_pos (u + l * (0 + (i : Int))) (by decide : (0 : Int) < 26)
        have ex : atI (Str.ofString "abcdefghijklmnopqrstuvwxyz").cps.toList ((u + l * (0 + (i : Int))) % 26) = some (97 + ((u + l * (0 + (i : Int))) % 26).toNat) := by
          rw [letters_tl]
          obtain ⟨j, hj⟩ : ∃ j : Nat, (u + l * (0 + (i : Int))) % 26 = (j : Int) := ⟨((u + l * (0 + (i : Int))) % 26).toNat, by omega⟩
          rw [hj]
          refine atI_nat ?_
          rw [List.getElem?_range' (by omega)]
          show some (97 + 1 * j) = some (97 + j)
          rw [Nat.one_mul]
        refine r_ixS (by decide +kernel) ex ?_
        have lc1 : (cutS stem none (some c)).length ≤ 7 := Nat.le_trans (cutS_length _ _ _) esl
        have lc2 : (cutS stem (some c) none).length ≤ 7 := Nat.le_trans (cutS_length _ _ _) esl
        refine r_addS (by rw [sizeLine_eq]; show _ + 1 ≤ _; omega) ?_
        walk_at "rd"
        refine r_addS (by rw [sizeLine_eq, len_tl, tl_cat, List.length_append, ← len_tl, ← len_tl]; show _ + 1 + _ ≤ _; omega) ?_
        have ecell : cutS stem none (some c) ++ ⟨#[97 + ((u + l * (0 + (i : Int))) % 26).toNat]⟩ ++ cutS stem (some c) none = cellN stem.cps.toList u l c.toNat i := by
          obtain ⟨c', rfl⟩ : ∃ c' : Nat, c = (c' : Int) := ⟨c.toNat, by omega⟩
          refine str_ext ?_
          rw [tl_cat, tl_cat, cut_lo, cut_hi]
          show _ = stem.cps.toList.take c' ++ [97 + ((u + l * i) % 26).toNat] ++ stem.cps.toList.drop c'
          rw [Int.zero_add]
        rw [ecell]
        refine PvL.step ea9 la9 (by omega) ⟨?_, (kp9.trans (Kp.refl)).new0 nE⟩
        rw [eacc9, List.range_succ, List.map_append, List.map_append]
        rfl
      · exact q H9 E _ (((((kp1.trans (Kp.to1 kp2)).trans kp3).trans (Kp.to1 (kp4.trans kp5))).trans kp6).trans (kp7.trans kp8) |>.trans (Kp.to1 kp9)) (by walk_at "none") ((B8.keep kp9).mono (by omega)) (by rw [ea9, eacc9]) (by rw [List.length_map, List.length_range]) (cellN_all es.1 es.2 hl (by omega))
end
section
variable {P : Program} {ww : World} {K : PySem.W.Frag} {F : Fr} {H : Hp} {σ : St} {env env' : List Sl} {ts : Ts} {x y b : V} {d : PyData} {ds : List PyData} {Q : VK} {E : XK} {i n m : Nat} {s : Sl}
theorem z_cells {u : Int} (R : Rp F H σ env ((x, .fz (.int u)) :: (b, .al i) :: ts)) (hb : env[i]? = some (.box n)) (u0 : 0 ≤ u) (u1 : u ≤ 26) (hm : m + 20 ≤ n) (he : SetE env i (.box m) env')
    (h : ∀ (v : V) (H' : Hp) (cs : List Str), cs.length = u.toNat → Cells cs → Rp F H' σ env' ((v, .own (cs.map PyData.str)) :: ts) → Q v H') : sp_cells [b, x] H Q E := by
  obtain ⟨S, w, R⟩ := R
  obtain ⟨a, ea, B, aS, k⟩ := R.pop.pop.boxSlot hb
  have e4 := R.alSlot (i := i) (z := b) (List.mem_cons_of_mem _ (List.mem_cons_self ..))
  rw [ea] at e4
  cases e4
  refine ⟨a, m, u, by rw [R.top.i], B.mono hm, u0, u1, fun H' p cs kp np B' ep lc hc => h _ _ cs lc hc ?_⟩
  obtain ⟨S', w', R2⟩ := R.pop.pop.newAt hb ea np kp B' ep (fz_strs cs)
  rw [he.eq] at R2
  exact ⟨S', w', R2⟩
end

end L2.Ro

end
section
set_option Elab.async false
set_option linter.all false
set_option maxRecDepth 100000
set_option maxHeartbeats 4000000
local macro_rules | `(tactic| walk_at "rd1") => `(tactic| with_reducible first
  | refine L2.Rx.r_seq ?_ | refine L2.Rx.r_asg ?_ | refine L2.Rx.r_gname ?_ | refine L2.Rx.r_op ?_ | refine L2.Rx.r_c ?_
  | refine L2.Rx.r_var rfl ?_
  | refine L2.Rx.r_rI0 ?_ | refine L2.Rx.r_test ?_ | refine L2.Rx.r_bl ?_ | refine L2.Rx.r_if ?_ | refine L2.Rx.r_ret ?_
  | refine L2.Rx.r_cons ?_ | refine L2.Rx.r_nil ?_ | refine L2.Rx.r_call ?_ | refine L2.Rx.r_cb ?_ | refine L2.Rx.r_next ?_ | refine L2.Rx.r_drop ?_
  | refine L2.Rx.r_gsub ?_ | refine L2.Rx.r_tupF ?_ | refine L2.Rx.r_lst ?_ | refine L2.Rx.r_par ?_ | refine L2.Rx.r_par2 ?_
  | refine L2.Rx.r_un ?_ | refine L2.Rx.r_tb ?_ | refine L2.Rx.r_and ?_ | refine L2.Rx.r_or ?_ | refine L2.Rx.r_not ?_
  | refine L2.Rx.r_andV ?_ | refine L2.Rx.r_orV ?_ | refine L2.Rx.r_notV ?_ | refine L2.Rx.r_ifx ?_ | refine L2.Rx.r_chain ?_
  | refine L2.Rx.r_sl ?_ | refine L2.Rx.r_nopart ?_ | refine L2.Rx.r_part ?_ | refine L2.Rx.r_exint ?_ | refine L2.Rx.r_bm0 ?_ | refine L2.Rx.r_bm ?_
  | refine L2.Rx.r_lc ?_ | refine L2.Rx.r_rng1 ?_ | refine L2.Rx.r_yes ?_ | refine L2.Rx.r_tt ?_ | refine L2.Rx.r_ff ?_ | refine L2.Rx.r_m1 ?_ | refine L2.Rx.r_m0 ?_ | refine L2.Rx.r_isS ?_
  | (refine L2.Rx.r_wipe (by with_unfolding_all rfl) ?_) | (refine L2.Rx.r_tyL (by walk_at "hp") ?_)
  | refine L2.Rx.r_addS (by walk_at "len") ?_ | refine L2.Rx.r_lenS (by walk_at "len") ?_ | refine L2.Rx.r_slS (by walk_at "len") ?_
  | refine L2.Rx.r_dnotin ?_ | refine L2.Rx.r_dget ?_ | refine L2.Rx.r_dget1 ?_ | refine L2.Rx.r_dput ?_ | refine L2.Rx.r_dpop1 ?_ | refine L2.Rx.r_isN ?_
  | refine L2.Rx.r_for ?_ | refine L2.Rx.r_ilist ?_ | refine L2.Rx.r_itup ?_
  | refine L2.Rx.r_gcons ?_ | refine L2.Rx.r_gnil ?_ | (refine L2.Rx.r_gtupP (by assumption) (by walk_at "at") ?_)
  | (refine L2.Rx.r_rEq rfl ?_) | (refine L2.Rx.r_rNe rfl ?_)
  | refine L2.Rx.r_rU ?_ | refine L2.Rx.r_max2 ?_ | refine L2.Rx.r_min2 ?_ | refine L2.Rx.r_int1i ?_ | (refine L2.Rx.r_lenh (by walk_at "hp") ?_)
  | (refine L2.Rx.r_ixLh (by walk_at "hp") (by walk_at "at") ?_)
  | (refine L2.Rx.r_setL (by walk_at "hp") (by walk_at "at") ?_))
local macro_rules | `(tactic| walk_at "at") => `(tactic| with_unfolding_all rfl)
local macro_rules | `(tactic| walk_at "rd") => `(tactic| (repeat walk_at "rd1"))
local macro_rules | `(tactic| walk_at "hp") => `(tactic| first
  | assumption
  | exact L2.upd_same
  | (refine Eq.trans (L2.upd_ne ?_) ?_; (focus walk_at "ne"); (focus walk_at "hp"))
  | (refine L2.Rx.Kp.at0 (by assumption) ?_; walk_at "hp")
  | (refine L2.Rx.Kp.at1 (by assumption) ?_ ?_; (focus walk_at "ne"); (focus walk_at "hp")))
local macro_rules | `(tactic| walk_at "ne") => `(tactic| first
  | assumption | exact Ne.symm (by assumption)
  | (refine L2.ne_of_none (H := ?nH) (o := ?nO) ?nh ?nn; (case nn => assumption); (case nh => walk_at "hp"))
  | (refine Ne.symm (L2.ne_of_none (H := ?nH) (o := ?nO) ?nh ?nn); (case nn => assumption); (case nh => walk_at "hp")))
local macro_rules | `(tactic| walk_at "len") => `(tactic| (rw [PySem.sizeLine_eq]; omega))
local macro_rules | `(tactic| walk_at "nin") => `(tactic| first
  | exact List.not_mem_nil
  | (refine L2.Rx.nin1 ?_; walk_at "ne"))
local macro_rules | `(tactic| walk_at "none") => `(tactic| first
  | assumption
  | (refine L2.Rx.Kp.none0 (by assumption) ?_ ?_; (focus walk_at "nin"); (focus walk_at "none")))
set_option hygiene false
local macro_rules | `(tactic| walk_at "se") => `(tactic| first | exact L2.Z.SetE.z | exact L2.Z.SetE.s (L2.Z.SetE.z) | exact L2.Z.SetE.s (L2.Z.SetE.s (L2.Z.SetE.z)) | exact L2.Z.SetE.s (L2.Z.SetE.s (L2.Z.SetE.s (L2.Z.SetE.z))) | exact L2.Z.SetE.s (L2.Z.SetE.s (L2.Z.SetE.s (L2.Z.SetE.s (L2.Z.SetE.z)))) | exact L2.Z.SetE.s (L2.Z.SetE.s (L2.Z.SetE.s (L2.Z.SetE.s (L2.Z.SetE.s (L2.Z.SetE.z))))) | exact L2.Z.SetE.s (L2.Z.SetE.s (L2.Z.SetE.s (L2.Z.SetE.s (L2.Z.SetE.s (L2.Z.SetE.s (L2.Z.SetE.z)))))) | exact L2.Z.SetE.s (L2.Z.SetE.s (L2.Z.SetE.s (L2.Z.SetE.s (L2.Z.SetE.s (L2.Z.SetE.s (L2.Z.SetE.s (L2.Z.SetE.z))))))) | exact L2.Z.SetE.s (L2.Z.SetE.s (L2.Z.SetE.s (L2.Z.SetE.s (L2.Z.SetE.s (L2.Z.SetE.s (L2.Z.SetE.s (L2.Z.SetE.s (L2.Z.SetE.z)))))))) | exact L2.Z.SetE.s (L2.Z.SetE.s (L2.Z.SetE.s (L2.Z.SetE.s (L2.Z.SetE.s (L2.Z.SetE.s (L2.Z.SetE.s (L2.Z.SetE.s (L2.Z.SetE.s (L2.Z.SetE.z))))))))) | exact L2.Z.SetE.s (L2.Z.SetE.s (L2.Z.SetE.s (L2.Z.SetE.s (L2.Z.SetE.s (L2.Z.SetE.s (L2.Z.SetE.s (L2.Z.SetE.s (L2.Z.SetE.s (L2.Z.SetE.s (L2.Z.SetE.z)))))))))) | exact L2.Z.SetE.s (L2.Z.SetE.s (L2.Z.SetE.s (L2.Z.SetE.s (L2.Z.SetE.s (L2.Z.SetE.s (L2.Z.SetE.s (L2.Z.SetE.s (L2.Z.SetE.s (L2.Z.SetE.s (L2.Z.SetE.s (L2.Z.SetE.z))))))))))) | exact L2.Z.SetE.s (L2.Z.SetE.s (L2.Z.SetE.s (L2.Z.SetE.s (L2.Z.SetE.s (L2.Z.SetE.s (L2.Z.SetE.s (L2.Z.SetE.s (L2.Z.SetE.s (L2.Z.SetE.s (L2.Z.SetE.s (L2.Z.SetE.s (L2.Z.SetE.z)))))))))))) | exact L2.Z.SetE.s (L2.Z.SetE.s (L2.Z.SetE.s (L2.Z.SetE.s (L2.Z.SetE.s (L2.Z.SetE.s (L2.Z.SetE.s (L2.Z.SetE.s (L2.Z.SetE.s (L2.Z.SetE.s (L2.Z.SetE.s (L2.Z.SetE.s (L2.Z.SetE.s (L2.Z.SetE.z))))))))))))) | exact L2.Z.SetE.s (L2.Z.SetE.s (L2.Z.SetE.s (L2.Z.SetE.s (L2.Z.SetE.s (L2.Z.SetE.s (L2.Z.SetE.s (L2.Z.SetE.s (L2.Z.SetE.s (L2.Z.SetE.s (L2.Z.SetE.s (L2.Z.SetE.s (L2.Z.SetE.s (L2.Z.SetE.s (L2.Z.SetE.z)))))))))))))) | exact L2.Z.SetE.s (L2.Z.SetE.s (L2.Z.SetE.s (L2.Z.SetE.s (L2.Z.SetE.s (L2.Z.SetE.s (L2.Z.SetE.s (L2.Z.SetE.s (L2.Z.SetE.s (L2.Z.SetE.s (L2.Z.SetE.s (L2.Z.SetE.s (L2.Z.SetE.s (L2.Z.SetE.s (L2.Z.SetE.s (L2.Z.SetE.z))))))))))))))) | exact L2.Z.SetE.s (L2.Z.SetE.s (L2.Z.SetE.s (L2.Z.SetE.s (L2.Z.SetE.s (L2.Z.SetE.s (L2.Z.SetE.s (L2.Z.SetE.s (L2.Z.SetE.s (L2.Z.SetE.s (L2.Z.SetE.s (L2.Z.SetE.s (L2.Z.SetE.s (L2.Z.SetE.s (L2.Z.SetE.s (L2.Z.SetE.s (L2.Z.SetE.z)))))))))))))))) | exact L2.Z.SetE.s (L2.Z.SetE.s (L2.Z.SetE.s (L2.Z.SetE.s (L2.Z.SetE.s (L2.Z.SetE.s (L2.Z.SetE.s (L2.Z.SetE.s (L2.Z.SetE.s (L2.Z.SetE.s (L2.Z.SetE.s (L2.Z.SetE.s (L2.Z.SetE.s (L2.Z.SetE.s (L2.Z.SetE.s (L2.Z.SetE.s (L2.Z.SetE.s (L2.Z.SetE.z))))))))))))))))) | exact L2.Z.SetE.s (L2.Z.SetE.s (L2.Z.SetE.s (L2.Z.SetE.s (L2.Z.SetE.s (L2.Z.SetE.s (L2.Z.SetE.s (L2.Z.SetE.s (L2.Z.SetE.s (L2.Z.SetE.s (L2.Z.SetE.s (L2.Z.SetE.s (L2.Z.SetE.s (L2.Z.SetE.s (L2.Z.SetE.s (L2.Z.SetE.s (L2.Z.SetE.s (L2.Z.SetE.s (L2.Z.SetE.z)))))))))))))))))) | exact L2.Z.SetE.s (L2.Z.SetE.s (L2.Z.SetE.s (L2.Z.SetE.s (L2.Z.SetE.s (L2.Z.SetE.s (L2.Z.SetE.s (L2.Z.SetE.s (L2.Z.SetE.s (L2.Z.SetE.s (L2.Z.SetE.s (L2.Z.SetE.s (L2.Z.SetE.s (L2.Z.SetE.s (L2.Z.SetE.s (L2.Z.SetE.s (L2.Z.SetE.s (L2.Z.SetE.s (L2.Z.SetE.s (L2.Z.SetE.z))))))))))))))))))) | exact L2.Z.SetE.s (L2.Z.SetE.s (L2.Z.SetE.s (L2.Z.SetE.s (L2.Z.SetE.s (L2.Z.SetE.s (L2.Z.SetE.s (L2.Z.SetE.s (L2.Z.SetE.s (L2.Z.SetE.s (L2.Z.SetE.s (L2.Z.SetE.s (L2.Z.SetE.s (L2.Z.SetE.s (L2.Z.SetE.s (L2.Z.SetE.s (L2.Z.SetE.s (L2.Z.SetE.s (L2.Z.SetE.s (L2.Z.SetE.s (L2.Z.SetE.z)))))))))))))))))))) | exact L2.Z.SetE.s (L2.Z.SetE.s (L2.Z.SetE.s (L2.Z.SetE.s (L2.Z.SetE.s (L2.Z.SetE.s (L2.Z.SetE.s (L2.Z.SetE.s (L2.Z.SetE.s (L2.Z.SetE.s (L2.Z.SetE.s (L2.Z.SetE.s (L2.Z.SetE.s (L2.Z.SetE.s (L2.Z.SetE.s (L2.Z.SetE.s (L2.Z.SetE.s (L2.Z.SetE.s (L2.Z.SetE.s (L2.Z.SetE.s (L2.Z.SetE.s (L2.Z.SetE.z))))))))))))))))))))))
local macro_rules | `(tactic| walk_at "rf") => `(tactic| with_unfolding_all rfl)
local macro_rules | `(tactic| walk_at "sq") => `(tactic| first | exact L2.Z.Sq.t _ | exact L2.Z.Sq.l _)
local macro_rules | `(tactic| walk_at "nal") => `(tactic| rfl)
local macro_rules | `(tactic| walk_at "st") => `(tactic| with_reducible first
  | refine L2.Rx.r_seq ?_ | refine L2.Rx.r_asg ?_ | refine L2.Rx.r_op ?_
  | refine L2.Rx.r_test ?_ | refine L2.Rx.r_if ?_ | refine L2.Rx.r_ret ?_
  | refine L2.Rx.r_cons ?_ | refine L2.Rx.r_nil ?_ | refine L2.Rx.r_call ?_ | refine L2.Rx.r_cb ?_ | refine L2.Rx.r_next ?_ | refine L2.Rx.r_drop ?_
  | refine L2.Rx.r_gsub ?_ | refine L2.Rx.r_tupF ?_ | refine L2.Rx.r_lst ?_ | refine L2.Rx.r_par ?_ | refine L2.Rx.r_par2 ?_
  | refine L2.Rx.r_un ?_ | refine L2.Rx.r_tb ?_ | refine L2.Rx.r_and ?_ | refine L2.Rx.r_or ?_ | refine L2.Rx.r_not ?_
  | refine L2.Rx.r_andV ?_ | refine L2.Rx.r_orV ?_ | refine L2.Rx.r_notV ?_ | refine L2.Rx.r_ifx ?_ | refine L2.Rx.r_chain ?_
  | refine L2.Rx.r_sl ?_ | refine L2.Rx.r_nopart ?_ | refine L2.Rx.r_part ?_ | refine L2.Rx.r_bm0 ?_ | refine L2.Rx.r_bm ?_
  | refine L2.Rx.r_lc ?_ | refine L2.Rx.r_rng1 ?_ | refine L2.Rx.r_yes ?_ | refine L2.Rx.r_tt ?_ | refine L2.Rx.r_ff ?_ | refine L2.Rx.r_m1 ?_ | refine L2.Rx.r_m0 ?_
  | refine L2.Rx.r_dnotin ?_ | refine L2.Rx.r_dget ?_ | refine L2.Rx.r_dget1 ?_ | refine L2.Rx.r_dget2 ?_ | refine L2.Rx.r_dput ?_
  | refine L2.Rx.r_for ?_ | refine L2.Rx.r_ilist ?_ | refine L2.Rx.r_itup ?_
  | refine L2.Rx.r_gcons ?_ | refine L2.Rx.r_gnil ?_ | refine L2.Rx.r_kw ?_ | (show L2.Rx.tSf2 _ _ _ _ _ _ _ _ _ _ _ _ _; unfold L2.Rx.tSf2))
local macro_rules | `(tactic| walk_at "zv") => `(tactic| first
  | (refine L2.Z.z_int R (fun v R => ?_))
  | (refine L2.Z.z_str R (fun v R => ?_))
  | (refine L2.Z.z_bl R (fun v R => ?_))
  | (refine L2.Z.z_non R (fun v R => ?_))
  | (refine L2.Z.z_var R (by walk_at "rf") (fun v R => ?_))
  | (refine L2.Z.z_varA R (by walk_at "rf") (by rfl) (fun v R => ?_))
  | (refine L2.Z.y_lcName R (by decide) (by walk_at "se") (by rfl) (by rfl) (fun σ hw R => ?_))
  | (refine L2.Z.y_lcPair R (by decide) (by decide) (by walk_at "se") (by walk_at "se") (by rfl) (fun σ hw R => ?_))
  | (refine L2.Z.y_lcPairP R (by decide) (by decide) (by walk_at "se") (by walk_at "se") (by rfl) (fun σ hw R => ?_))
  | (refine L2.Z.y_name R (by walk_at "se") (by rfl) (by rfl) (fun σ R => ?_))
  | (refine L2.Z.z_gtup2 R (fun a b R => ?_))
  | (refine L2.Z.z_gtupP R (fun a b R => ?_))
  | (refine L2.Z.z_gtup3 R (fun a b c R => ?_))
  | (refine L2.Z.z_isD R (by walk_at "rf") (fun a R => ?_))
  | (refine L2.Z.z_isb R (fun R => ?_))
  | (refine L2.Z.z_isi R (fun R => ?_)))
local macro_rules | `(tactic| walk_at "zo") => `(tactic| first
  | (refine L2.Z.z_rI0i R (fun v R => ?_))
  | (refine L2.Z.z_rI0b R (fun v R => ?_))
  | (refine L2.Z.z_eqI R (fun v R => ?_))
  | (refine L2.Z.z_neI R (fun v R => ?_))
  | (refine L2.Z.z_eqS R (fun v R => ?_))
  | (refine L2.Z.z_neS R (fun v R => ?_))
  | (refine L2.Z.z_isV R (fun v R => ?_))
  | (refine L2.Z.z_notV R (fun v R => ?_))
  | (refine L2.Z.z_len R (by walk_at "rf") (by walk_at "sq") (fun v R => ?_))
  | (refine L2.Z.z_tup0 R (fun p o R => ?_); refine L2.Z.gen_R R (fun v H R => ?_))
  | (refine L2.Z.z_tup1 R (by walk_at "rf") (fun p o R => ?_); refine L2.Z.gen_R R (fun v H R => ?_))
  | (refine L2.Z.z_tup2 R (by walk_at "rf") (by walk_at "rf") (fun p o R => ?_); refine L2.Z.gen_R R (fun v H R => ?_))
  | (refine L2.Z.z_tup3 R (by walk_at "rf") (by walk_at "rf") (by walk_at "rf") (fun p o R => ?_); refine L2.Z.gen_R R (fun v H R => ?_))
  | (refine L2.Z.z_lst0 R (fun p R => ?_); refine L2.Z.gen_R R (fun v H R => ?_))
  | (refine L2.Z.z_lst1 R (by walk_at "rf") (fun p R => ?_); refine L2.Z.gen_R R (fun v H R => ?_))
  | (refine L2.Z.z_lst2 R (by walk_at "rf") (by walk_at "rf") (fun p R => ?_); refine L2.Z.gen_R R (fun v H R => ?_))
  | (refine L2.Z.z_lst3 R (by walk_at "rf") (by walk_at "rf") (by walk_at "rf") (fun p R => ?_); refine L2.Z.gen_R R (fun v H R => ?_))
  | (refine L2.Z.z_tupL R (by walk_at "rf") (fun v H R => ?_))
  | (refine L2.Z.z_tupT R (fun v R => ?_))
  | (refine L2.Z.z_listOf R (by walk_at "rf") (by walk_at "sq") (fun v H R => ?_))
  | (refine L2.Z.z_slL R (by walk_at "rf") (fun v H R => ?_))
  | (refine L2.Z.z_isStr R ?_)
  | (refine L2.Z.z_tyL R (by walk_at "rf") ?_)
  | (refine L2.Z.z_isD R (by walk_at "rf") (fun a R => ?_))
  | (refine L2.Z.z_dnew R (fun v H R => ?_))
  | (refine L2.Z.z_max2 R (fun v R => ?_))
  | (refine L2.Z.z_min2 R (fun v R => ?_)))
local macro_rules | `(tactic| walk_at "z1") => `(tactic| first | walk_at "st" | walk_at "zv" | walk_at "zo")
local macro_rules | `(tactic| walk_at "z") => `(tactic| (repeat walk_at "z1"))
local macro_rules | `(tactic| walk_at "ret") => `(tactic| refine L2.Z.z_retP R rfl (fun k f => q _ _ _ k f ?_))
local macro_rules | `(tactic| walk_at "fadd") => `(tactic| exact L2.Z.z_fAdd R rfl hw la ha hacc (by omega) rfl rfl rfl)
local macro_rules | `(tactic| walk_at "get") => `(tactic| first
  | (refine L2.Z.z_getL R (by walk_at "rf") (fun o R => ?_); refine L2.Z.gen_V R (fun v R => ?_))
  | (refine L2.Z.z_getL2 R (by walk_at "rf") (fun o R => ?_); refine L2.Z.gen_V R (fun v R => ?_))
  | (refine L2.Z.z_dinL R (by walk_at "rf") (fun a o R => ?_); refine L2.Z.gen_V R (fun v R => ?_))
  | (refine L2.Z.z_dninL R (by walk_at "rf") (fun a o R => ?_); refine L2.Z.gen_V R (fun v R => ?_))
  | (refine L2.Z.z_get1 R (by walk_at "rf") (by walk_at "rf") (fun o R => ?_); refine L2.Z.gen_V R (fun v R => ?_))
  | (refine L2.Z.z_get2 R (by walk_at "rf") (by walk_at "rf") (fun o R => ?_); refine L2.Z.gen_V R (fun v R => ?_))
  | (refine L2.Z.z_din R (by walk_at "rf") (by walk_at "rf") (fun a o R => ?_); refine L2.Z.gen_V R (fun v R => ?_))
  | (refine L2.Z.z_dnin R (by walk_at "rf") (by walk_at "rf") (fun a o R => ?_); refine L2.Z.gen_V R (fun v R => ?_)))
namespace L2.Ro
open PySem PySem.Spec PyProof.Rows L2.Rx L2.Z
def enc_logs : List Lg → List PyData := fun a => [logsD a]
structure LsOk (ls : List Lg) : Prop where
  len : ls.length ≤ 1000
  ok : ∀ l ∈ ls, LgOk l
  few : ∃ ns : List Str, ns.length ≤ 4000 ∧ ∀ l ∈ ls, ∀ c ∈ l.map Prod.fst, c ∈ ns
/-- ascending, each once, exactly the cells of the logs -/
def AllCells (ls : List Lg) (cs : List Str) : Prop := cs.Pairwise (fun x y => x.cps.toList < y.cps.toList) ∧ ∀ c, c ∈ cs ↔ ∃ l ∈ ls, c ∈ l.map Prod.fst
def post_cells_in : List Lg → PyData → Prop := fun ls d => ∃ cs : List Str, AllCells ls cs ∧ d = .tuple (cs.map PyData.str)
theorem strict_of {ms : List Str} (h : ms.Pairwise fun x y => ¬ y.cps.toList < x.cps.toList) (n : ms.Nodup) : ms.Pairwise fun x y => x.cps.toList < y.cps.toList := by
  refine (h.and n).imp fun {a b} ⟨h1, h2⟩ => ?_
  refine Classical.byContradiction fun h3 => h2 (str_ext ?_)
  exact List.le_antisymm (List.not_lt.mp h1) (List.not_lt.mp h3)
section
variable {P : Program} {w : World} {K : PySem.W.Frag} {mg : Str → Option Value} {base : Heap}
theorem k_cells_in0 {f : Addr} {fd : FuncData} (F : Fun K "cells_in" "cells_in" s_cells_in f fd) (g : mg "cells_in" = some (.ref f)) (z : Zb mg) (k_cells_of : Kn P w K mg base CX0 1 "cells_of" (spP enc_log LgOk post_cells_of))  : FnG P w K mg base CX0 2 f fd ["logs"] (spP enc_logs LsOk post_cells_in) := by
  refine fnG_body F sc_cells_in (fun vs H Q E h => ?_) (fun cdv A outer s H vs Q E hr h => ?_)
  · obtain ⟨S, ls, f, mm, lo, q⟩ := h
    rw [f.len]
    rfl
  · obtain ⟨S, ls, f, mm, lo, q⟩ := h
    have R : Rp ⟨K, H, S, [], []⟩ H (start ["logs", "log", "cell"] vs) [.fz (logsD ls), .junk, .junk] [] := start_P K f mm rfl rfl rfl
    refine ⟨_, PSs.nox (pss_one (ps_ret (pe_callTy (show CallR _ _ (rTupOf K) from c_tuple) (by rfl) z.n_tuple (by decide +kernel) (pa_cons (pe_callB (call_sortT rfl hr) (by rfl) z.n_sorted (by decide +kernel) (pa_cons (pe_sf2 (famT _ _) (own := [("log", 1), ("cell", 2)]) (us := [2]) (g := (gName 1)) (g2 := (gName 2)) rfl sc_cells_in.nd (show PI _ _ _ (iTup K _) from pi_tup (pv 0)) (blkOk_by (own := [("log", 1), ("cell", 2)]) (N := ["logs", "log", "cell"]) (sc := defScope s_cells_in) (by decide +kernel)) (by decide) (fun _ _ _ _ _ => (pg_name (i := 1) sc_cells_in.nd rfl (.inl rfl))) (fun _ _ _ _ _ => pts_nil) (fun _ _ _ _ _ => (show PI _ _ _ (iTup K _) from pi_tup (k_cells_of.call hr (by decide) (by rfl) (pa_cons (pv 1) pa_nil)))) (fun _ _ _ _ _ => (pg_name (i := 2) sc_cells_in.nd rfl (.inl rfl))) (fun _ _ _ _ _ => pts_nil) (fun _ _ _ _ _ => (pv 2))) pa_nil)) pa_nil)))), ?_⟩
    generalize start ["logs", "log", "cell"] vs = σ at R ⊢
    obtain ⟨ns, ns4, hns⟩ := lo.few
    walk_at "z"
    refine z_sf2T (vs := [1, 2]) (us := [2]) (famT _ _) (fun _ _ => trivial) R (by rfl) (by rfl) (fun i τ => τ.Nodup ∧ (∀ c, c ∈ τ ↔ ∃ l ∈ ls.take i, c ∈ l.map Prod.fst)) ⟨List.nodup_nil, fun c => by simp [famT]⟩ ?_ ?_
    · intro i d τ H D v hi hI R
      obtain ⟨l, hl, rfl⟩ := map_at hi
      have lok := lo.ok l (List.mem_of_getElem? hl)
      walk_at "z"
      refine z_p1 l R rfl rfl lok fun v H d hq R => ?_
      cases hq
      walk_at "z"
      have e1 : ls.take (i + 1) = ls.take i ++ [l] := by rw [List.take_add_one, hl]; rfl
      refine z_sfInT (vs := [1, 2]) (us := [2]) R (by rfl) (by rfl) hw (by decide) (by rfl) (fun j τ => τ.Nodup ∧ (∀ c, c ∈ τ ↔ (∃ l ∈ ls.take i, c ∈ l.map Prod.fst) ∨ c ∈ (l.map Prod.fst).take j)) ⟨hI.1, fun c => by rw [hI.2]; simp⟩ ?_ ?_
      · intro j d τ H v hj hI R
        obtain ⟨c, hc, rfl⟩ := map_at hj
        have hjl : j < l.length := by
          have := (List.getElem?_eq_some_iff.mp hc).1
          rwa [List.length_map] at this
        have rm : τ.length + 1 < scanBound := by
          have : τ.length ≤ ns.length := nodup_le hI.1 fun c hc => by
            rcases (hI.2 c).mp hc with ⟨m, hm, h⟩ | h
            · exact hns m (List.mem_of_mem_take hm) c h
            · exact hns l (List.mem_of_getElem? hl) c (List.mem_of_mem_take h)
          show τ.length + 1 < 4096
          omega
        walk_at "z"
        refine z_sfAdd (k := .inr c) (fun _ _ => trivial) R rfl ⟨rm, c, rfl⟩ hw (by rfl) (by rfl) ?_
        have et : (l.map Prod.fst).take (j + 1) = (l.map Prod.fst).take j ++ [c] := by rw [List.take_add_one, hc]; rfl
        show (addL τ c).Nodup ∧ ∀ c', c' ∈ addL τ c ↔ _
        rw [et]
        unfold addL
        split
        · rename_i hm
          refine ⟨hI.1, fun c' => ?_⟩
          rw [hI.2, List.mem_append, List.mem_singleton]
          refine ⟨fun h => h.elim .inl fun h => .inr (.inl h), fun h => h.elim .inl fun h => h.elim .inr fun h => ?_⟩
          rw [h]
          exact (hI.2 c).mp hm
        · rename_i hm
          refine ⟨List.nodup_cons.mpr ⟨hm, hI.1⟩, fun c' => ?_⟩
          · rw [List.mem_cons, hI.2, List.mem_append, List.mem_singleton]
            constructor
            · rintro (h | h | h)
              · exact .inr (.inr h)
              · exact .inl h
              · exact .inr (.inl h)
            · rintro (h | h | h)
              · exact .inr (.inl h)
              · exact .inr (.inr h)
              · exact .inl h
      · intro τ hI
        rw [List.length_map, List.length_map] at hI
        refine ⟨hI.1, fun c => ?_⟩
        · have tk : (l.map Prod.fst).take l.length = l.map Prod.fst := List.take_of_length_le (by rw [List.length_map]; exact Nat.le_refl _)
          rw [hI.2, e1, tk]
          constructor
          · rintro (⟨m, hm, hc⟩ | hc)
            · exact ⟨m, List.mem_append_left _ hm, hc⟩
            · exact ⟨l, List.mem_append_right _ (List.mem_singleton.mpr rfl), hc⟩
          · rintro ⟨m, hm, hc⟩
            rcases List.mem_append.mp hm with h | h
            · exact .inl ⟨m, h, hc⟩
            · rw [List.mem_singleton.mp h] at hc
              exact .inr hc
    · intro τ H D hI R
      show tNil _ _ _
      walk_at "z"
      refine z_sortT R fun v H ms pm pw R => ?_
      walk_at "z"
      walk_at "ret"
      rw [List.length_map, List.take_length] at hI
      refine ⟨ms, ⟨?_, fun c => (pm.mem_iff).trans (hI.2 c)⟩, rfl⟩
      exact strict_of pw (pm.nodup_iff.mpr hI.1)
end
theorem k_cells_in {P : Program} {w : World} {K : PySem.W.Frag} {mg : Str → Option Value} {base : Heap} {f : Addr} {fd : FuncData} (F : Fun K "cells_in" "cells_in" s_cells_in f fd) (g : mg "cells_in" = some (.ref f)) (z : Zb mg) (k_cells_of : Kn P w K mg base CX0 1 "cells_of" (spP enc_log LgOk post_cells_of))  : Kn P w K mg base CX0 2 "cells_in" (spP enc_logs LsOk post_cells_in) :=
  ⟨f, fd, _, k_cells_in0 F g z k_cells_of, g, F.kp, F.binds (fun _ _ _ _ _ _ us hl => match us, hl with | [_], _ => rfl)⟩
theorem k_cells_in_logs {P : Program} {w : World} {K : PySem.W.Frag} {mg : Str → Option Value} {base : Heap} {f : Addr} {fd : FuncData} (F : Fun K "cells_in" "cells_in" s_cells_in f fd) (g : mg "cells_in" = some (.ref f)) (z : Zb mg) (k_cells_of : Kn P w K mg base CX0 1 "cells_of" (spP enc_log LgOk post_cells_of))  : KnK P w K mg base CX0 2 "cells_in" ["logs"] id (spP enc_logs LsOk post_cells_in) := by
  refine ⟨f, fd, _, id, k_cells_in0 F g z k_cells_of, g, F.kp, bindsK F (fun _ _ _ _ _ _ ws hl => ?_), fun zs ws r => r⟩
  rcases ws with _ | ⟨a, _ | ⟨b, r⟩⟩
  · cases hl
  · rfl
  · simp at hl
end L2.Ro

end
section
set_option Elab.async false
set_option linter.all false
set_option maxRecDepth 100000
set_option maxHeartbeats 4000000
local macro_rules | `(tactic| walk_at "rd1") => `(tactic| with_reducible first
  | refine L2.Rx.r_seq ?_ | refine L2.Rx.r_asg ?_ | refine L2.Rx.r_gname ?_ | refine L2.Rx.r_op ?_ | refine L2.Rx.r_c ?_
  | refine L2.Rx.r_var rfl ?_
  | refine L2.Rx.r_rI0 ?_ | refine L2.Rx.r_test ?_ | refine L2.Rx.r_bl ?_ | refine L2.Rx.r_if ?_ | refine L2.Rx.r_ret ?_
  | refine L2.Rx.r_cons ?_ | refine L2.Rx.r_nil ?_ | refine L2.Rx.r_call ?_ | refine L2.Rx.r_cb ?_ | refine L2.Rx.r_next ?_ | refine L2.Rx.r_drop ?_
  | refine L2.Rx.r_gsub ?_ | refine L2.Rx.r_tupF ?_ | refine L2.Rx.r_lst ?_ | refine L2.Rx.r_par ?_ | refine L2.Rx.r_par2 ?_
  | refine L2.Rx.r_un ?_ | refine L2.Rx.r_tb ?_ | refine L2.Rx.r_and ?_ | refine L2.Rx.r_or ?_ | refine L2.Rx.r_not ?_
  | refine L2.Rx.r_andV ?_ | refine L2.Rx.r_orV ?_ | refine L2.Rx.r_notV ?_ | refine L2.Rx.r_ifx ?_ | refine L2.Rx.r_chain ?_
  | refine L2.Rx.r_sl ?_ | refine L2.Rx.r_nopart ?_ | refine L2.Rx.r_part ?_ | refine L2.Rx.r_exint ?_ | refine L2.Rx.r_bm0 ?_ | refine L2.Rx.r_bm ?_
  | refine L2.Rx.r_lc ?_ | refine L2.Rx.r_rng1 ?_ | refine L2.Rx.r_yes ?_ | refine L2.Rx.r_tt ?_ | refine L2.Rx.r_ff ?_ | refine L2.Rx.r_m1 ?_ | refine L2.Rx.r_m0 ?_ | refine L2.Rx.r_isS ?_
  | (refine L2.Rx.r_wipe (by with_unfolding_all rfl) ?_) | (refine L2.Rx.r_tyL (by walk_at "hp") ?_)
  | refine L2.Rx.r_addS (by walk_at "len") ?_ | refine L2.Rx.r_lenS (by walk_at "len") ?_ | refine L2.Rx.r_slS (by walk_at "len") ?_
  | refine L2.Rx.r_dnotin ?_ | refine L2.Rx.r_dget ?_ | refine L2.Rx.r_dget1 ?_ | refine L2.Rx.r_dput ?_ | refine L2.Rx.r_dpop1 ?_ | refine L2.Rx.r_isN ?_
  | refine L2.Rx.r_for ?_ | refine L2.Rx.r_ilist ?_ | refine L2.Rx.r_itup ?_
  | refine L2.Rx.r_gcons ?_ | refine L2.Rx.r_gnil ?_ | (refine L2.Rx.r_gtupP (by assumption) (by walk_at "at") ?_)
  | (refine L2.Rx.r_rEq rfl ?_) | (refine L2.Rx.r_rNe rfl ?_)
  | refine L2.Rx.r_rU ?_ | refine L2.Rx.r_max2 ?_ | refine L2.Rx.r_min2 ?_ | refine L2.Rx.r_int1i ?_ | (refine L2.Rx.r_lenh (by walk_at "hp") ?_)
  | (refine L2.Rx.r_ixLh (by walk_at "hp") (by walk_at "at") ?_)
  | (refine L2.Rx.r_setL (by walk_at "hp") (by walk_at "at") ?_))
local macro_rules | `(tactic| walk_at "at") => `(tactic| with_unfolding_all rfl)
local macro_rules | `(tactic| walk_at "rd") => `(tactic| (repeat walk_at "rd1"))
local macro_rules | `(tactic| walk_at "hp") => `(tactic| first
  | assumption
  | exact L2.upd_same
  | (refine Eq.trans (L2.upd_ne ?_) ?_; (focus walk_at "ne"); (focus walk_at "hp"))
  | (refine L2.Rx.Kp.at0 (by assumption) ?_; walk_at "hp")
  | (refine L2.Rx.Kp.at1 (by assumption) ?_ ?_; (focus walk_at "ne"); (focus walk_at "hp")))
local macro_rules | `(tactic| walk_at "ne") => `(tactic| first
  | assumption | exact Ne.symm (by assumption)
  | (refine L2.ne_of_none (H := ?nH) (o := ?nO) ?nh ?nn; (case nn => assumption); (case nh => walk_at "hp"))
  | (refine Ne.symm (L2.ne_of_none (H := ?nH) (o := ?nO) ?nh ?nn); (case nn => assumption); (case nh => walk_at "hp")))
local macro_rules | `(tactic| walk_at "len") => `(tactic| (rw [PySem.sizeLine_eq]; omega))
local macro_rules | `(tactic| walk_at "nin") => `(tactic| first
  | exact List.not_mem_nil
  | (refine L2.Rx.nin1 ?_; walk_at "ne"))
local macro_rules | `(tactic| walk_at "none") => `(tactic| first
  | assumption
  | (refine L2.Rx.Kp.none0 (by assumption) ?_ ?_; (focus walk_at "nin"); (focus walk_at "none")))
set_option hygiene false
local macro_rules | `(tactic| walk_at "se") => `(tactic| first | exact L2.Z.SetE.z | exact L2.Z.SetE.s (L2.Z.SetE.z) | exact L2.Z.SetE.s (L2.Z.SetE.s (L2.Z.SetE.z)) | exact L2.Z.SetE.s (L2.Z.SetE.s (L2.Z.SetE.s (L2.Z.SetE.z))) | exact L2.Z.SetE.s (L2.Z.SetE.s (L2.Z.SetE.s (L2.Z.SetE.s (L2.Z.SetE.z)))) | exact L2.Z.SetE.s (L2.Z.SetE.s (L2.Z.SetE.s (L2.Z.SetE.s (L2.Z.SetE.s (L2.Z.SetE.z))))) | exact L2.Z.SetE.s (L2.Z.SetE.s (L2.Z.SetE.s (L2.Z.SetE.s (L2.Z.SetE.s (L2.Z.SetE.s (L2.Z.SetE.z)))))) | exact L2.Z.SetE.s (L2.Z.SetE.s (L2.Z.SetE.s (L2.Z.SetE.s (L2.Z.SetE.s (L2.Z.SetE.s (L2.Z.SetE.s (L2.Z.SetE.z))))))) | exact L2.Z.SetE.s (L2.Z.SetE.s (L2.Z.SetE.s (L2.Z.SetE.s (L2.Z.SetE.s (L2.Z.SetE.s (L2.Z.SetE.s (L2.Z.SetE.s (L2.Z.SetE.z)))))))) | exact L2.Z.SetE.s (L2.Z.SetE.s (L2.Z.SetE.s (L2.Z.SetE.s (L2.Z.SetE.s (L2.Z.SetE.s (L2.Z.SetE.s (L2.Z.SetE.s (L2.Z.SetE.s (L2.Z.SetE.z))))))))) | exact L2.Z.SetE.s (L2.Z.SetE.s (L2.Z.SetE.s (L2.Z.SetE.s (L2.Z.SetE.s (L2.Z.SetE.s (L2.Z.SetE.s (L2.Z.SetE.s (L2.Z.SetE.s (L2.Z.SetE.s (L2.Z.SetE.z)))))))))) | exact L2.Z.SetE.s (L2.Z.SetE.s (L2.Z.SetE.s (L2.Z.SetE.s (L2.Z.SetE.s (L2.Z.SetE.s (L2.Z.SetE.s (L2.Z.SetE.s (L2.Z.SetE.s (L2.Z.SetE.s (L2.Z.SetE.s (L2.Z.SetE.z))))))))))) | exact L2.Z.SetE.s (L2.Z.SetE.s (L2.Z.SetE.s (L2.Z.SetE.s (L2.Z.SetE.s (L2.Z.SetE.s (L2.Z.SetE.s (L2.Z.SetE.s (L2.Z.SetE.s (L2.Z.SetE.s (L2.Z.SetE.s (L2.Z.SetE.s (L2.Z.SetE.z)))))))))))) | exact L2.Z.SetE.s (L2.Z.SetE.s (L2.Z.SetE.s (L2.Z.SetE.s (L2.Z.SetE.s (L2.Z.SetE.s (L2.Z.SetE.s (L2.Z.SetE.s (L2.Z.SetE.s (L2.Z.SetE.s (L2.Z.SetE.s (L2.Z.SetE.s (L2.Z.SetE.s (L2.Z.SetE.z))))))))))))) | exact L2.Z.SetE.s (L2.Z.SetE.s (L2.Z.SetE.s (L2.Z.SetE.s (L2.Z.SetE.s (L2.Z.SetE.s (L2.Z.SetE.s (L2.Z.SetE.s (L2.Z.SetE.s (L2.Z.SetE.s (L2.Z.SetE.s (L2.Z.SetE.s (L2.Z.SetE.s (L2.Z.SetE.s (L2.Z.SetE.z)))))))))))))) | exact L2.Z.SetE.s (L2.Z.SetE.s (L2.Z.SetE.s (L2.Z.SetE.s (L2.Z.SetE.s (L2.Z.SetE.s (L2.Z.SetE.s (L2.Z.SetE.s (L2.Z.SetE.s (L2.Z.SetE.s (L2.Z.SetE.s (L2.Z.SetE.s (L2.Z.SetE.s (L2.Z.SetE.s (L2.Z.SetE.s (L2.Z.SetE.z))))))))))))))) | exact L2.Z.SetE.s (L2.Z.SetE.s (L2.Z.SetE.s (L2.Z.SetE.s (L2.Z.SetE.s (L2.Z.SetE.s (L2.Z.SetE.s (L2.Z.SetE.s (L2.Z.SetE.s (L2.Z.SetE.s (L2.Z.SetE.s (L2.Z.SetE.s (L2.Z.SetE.s (L2.Z.SetE.s (L2.Z.SetE.s (L2.Z.SetE.s (L2.Z.SetE.z)))))))))))))))) | exact L2.Z.SetE.s (L2.Z.SetE.s (L2.Z.SetE.s (L2.Z.SetE.s (L2.Z.SetE.s (L2.Z.SetE.s (L2.Z.SetE.s (L2.Z.SetE.s (L2.Z.SetE.s (L2.Z.SetE.s (L2.Z.SetE.s (L2.Z.SetE.s (L2.Z.SetE.s (L2.Z.SetE.s (L2.Z.SetE.s (L2.Z.SetE.s (L2.Z.SetE.s (L2.Z.SetE.z))))))))))))))))) | exact L2.Z.SetE.s (L2.Z.SetE.s (L2.Z.SetE.s (L2.Z.SetE.s (L2.Z.SetE.s (L2.Z.SetE.s (L2.Z.SetE.s (L2.Z.SetE.s (L2.Z.SetE.s (L2.Z.SetE.s (L2.Z.SetE.s (L2.Z.SetE.s (L2.Z.SetE.s (L2.Z.SetE.s (L2.Z.SetE.s (L2.Z.SetE.s (L2.Z.SetE.s (L2.Z.SetE.s (L2.Z.SetE.z)))))))))))))))))) | exact L2.Z.SetE.s (L2.Z.SetE.s (L2.Z.SetE.s (L2.Z.SetE.s (L2.Z.SetE.s (L2.Z.SetE.s (L2.Z.SetE.s (L2.Z.SetE.s (L2.Z.SetE.s (L2.Z.SetE.s (L2.Z.SetE.s (L2.Z.SetE.s (L2.Z.SetE.s (L2.Z.SetE.s (L2.Z.SetE.s (L2.Z.SetE.s (L2.Z.SetE.s (L2.Z.SetE.s (L2.Z.SetE.s (L2.Z.SetE.z))))))))))))))))))) | exact L2.Z.SetE.s (L2.Z.SetE.s (L2.Z.SetE.s (L2.Z.SetE.s (L2.Z.SetE.s (L2.Z.SetE.s (L2.Z.SetE.s (L2.Z.SetE.s (L2.Z.SetE.s (L2.Z.SetE.s (L2.Z.SetE.s (L2.Z.SetE.s (L2.Z.SetE.s (L2.Z.SetE.s (L2.Z.SetE.s (L2.Z.SetE.s (L2.Z.SetE.s (L2.Z.SetE.s (L2.Z.SetE.s (L2.Z.SetE.s (L2.Z.SetE.z)))))))))))))))))))) | exact L2.Z.SetE.s (L2.Z.SetE.s (L2.Z.SetE.s (L2.Z.SetE.s (L2.Z.SetE.s (L2.Z.SetE.s (L2.Z.SetE.s (L2.Z.SetE.s (L2.Z.SetE.s (L2.Z.SetE.s (L2.Z.SetE.s (L2.Z.SetE.s (L2.Z.SetE.s (L2.Z.SetE.s (L2.Z.SetE.s (L2.Z.SetE.s (L2.Z.SetE.s (L2.Z.SetE.s (L2.Z.SetE.s (L2.Z.SetE.s (L2.Z.SetE.s (L2.Z.SetE.z))))))))))))))))))))))
local macro_rules | `(tactic| walk_at "rf") => `(tactic| with_unfolding_all rfl)
local macro_rules | `(tactic| walk_at "sq") => `(tactic| first | exact L2.Z.Sq.t _ | exact L2.Z.Sq.l _)
local macro_rules | `(tactic| walk_at "nal") => `(tactic| rfl)
local macro_rules | `(tactic| walk_at "st") => `(tactic| with_reducible first
  | refine L2.Rx.r_seq ?_ | refine L2.Rx.r_asg ?_ | refine L2.Rx.r_op ?_
  | refine L2.Rx.r_test ?_ | refine L2.Rx.r_if ?_ | refine L2.Rx.r_ret ?_
  | refine L2.Rx.r_cons ?_ | refine L2.Rx.r_nil ?_ | refine L2.Rx.r_call ?_ | refine L2.Rx.r_cb ?_ | refine L2.Rx.r_next ?_ | refine L2.Rx.r_drop ?_
  | refine L2.Rx.r_gsub ?_ | refine L2.Rx.r_tupF ?_ | refine L2.Rx.r_lst ?_ | refine L2.Rx.r_par ?_ | refine L2.Rx.r_par2 ?_
  | refine L2.Rx.r_un ?_ | refine L2.Rx.r_tb ?_ | refine L2.Rx.r_and ?_ | refine L2.Rx.r_or ?_ | refine L2.Rx.r_not ?_
  | refine L2.Rx.r_andV ?_ | refine L2.Rx.r_orV ?_ | refine L2.Rx.r_notV ?_ | refine L2.Rx.r_ifx ?_ | refine L2.Rx.r_chain ?_
  | refine L2.Rx.r_sl ?_ | refine L2.Rx.r_nopart ?_ | refine L2.Rx.r_part ?_ | refine L2.Rx.r_bm0 ?_ | refine L2.Rx.r_bm ?_
  | refine L2.Rx.r_lc ?_ | refine L2.Rx.r_rng1 ?_ | refine L2.Rx.r_yes ?_ | refine L2.Rx.r_tt ?_ | refine L2.Rx.r_ff ?_ | refine L2.Rx.r_m1 ?_ | refine L2.Rx.r_m0 ?_
  | refine L2.Rx.r_dnotin ?_ | refine L2.Rx.r_dget ?_ | refine L2.Rx.r_dget1 ?_ | refine L2.Rx.r_dget2 ?_ | refine L2.Rx.r_dput ?_
  | refine L2.Rx.r_for ?_ | refine L2.Rx.r_ilist ?_ | refine L2.Rx.r_itup ?_
  | refine L2.Rx.r_gcons ?_ | refine L2.Rx.r_gnil ?_ | refine L2.Rx.r_kw ?_ | (show L2.Rx.tSf2 _ _ _ _ _ _ _ _ _ _ _ _ _; unfold L2.Rx.tSf2))
local macro_rules | `(tactic| walk_at "zv") => `(tactic| first
  | (refine L2.Z.z_int R (fun v R => ?_))
  | (refine L2.Z.z_str R (fun v R => ?_))
  | (refine L2.Z.z_bl R (fun v R => ?_))
  | (refine L2.Z.z_non R (fun v R => ?_))
  | (refine L2.Z.z_var R (by walk_at "rf") (fun v R => ?_))
  | (refine L2.Z.z_varA R (by walk_at "rf") (by rfl) (fun v R => ?_))
  | (refine L2.Z.y_lcName R (by decide) (by walk_at "se") (by rfl) (by rfl) (fun σ hw R => ?_))
  | (refine L2.Z.y_lcPair R (by decide) (by decide) (by walk_at "se") (by walk_at "se") (by rfl) (fun σ hw R => ?_))
  | (refine L2.Z.y_lcPairP R (by decide) (by decide) (by walk_at "se") (by walk_at "se") (by rfl) (fun σ hw R => ?_))
  | (refine L2.Z.y_name R (by walk_at "se") (by rfl) (by rfl) (fun σ R => ?_))
  | (refine L2.Z.z_gtup2 R (fun a b R => ?_))
  | (refine L2.Z.z_gtupP R (fun a b R => ?_))
  | (refine L2.Z.z_gtup3 R (fun a b c R => ?_))
  | (refine L2.Z.z_isD R (by walk_at "rf") (fun a R => ?_))
  | (refine L2.Z.z_isb R (fun R => ?_))
  | (refine L2.Z.z_isi R (fun R => ?_)))
local macro_rules | `(tactic| walk_at "zo") => `(tactic| first
  | (refine L2.Z.z_rI0i R (fun v R => ?_))
  | (refine L2.Z.z_rI0b R (fun v R => ?_))
  | (refine L2.Z.z_eqI R (fun v R => ?_))
  | (refine L2.Z.z_neI R (fun v R => ?_))
  | (refine L2.Z.z_eqS R (fun v R => ?_))
  | (refine L2.Z.z_neS R (fun v R => ?_))
  | (refine L2.Z.z_isV R (fun v R => ?_))
  | (refine L2.Z.z_notV R (fun v R => ?_))
  | (refine L2.Z.z_len R (by walk_at "rf") (by walk_at "sq") (fun v R => ?_))
  | (refine L2.Z.z_tup0 R (fun p o R => ?_); refine L2.Z.gen_R R (fun v H R => ?_))
  | (refine L2.Z.z_tup1 R (by walk_at "rf") (fun p o R => ?_); refine L2.Z.gen_R R (fun v H R => ?_))
  | (refine L2.Z.z_tup2 R (by walk_at "rf") (by walk_at "rf") (fun p o R => ?_); refine L2.Z.gen_R R (fun v H R => ?_))
  | (refine L2.Z.z_tup3 R (by walk_at "rf") (by walk_at "rf") (by walk_at "rf") (fun p o R => ?_); refine L2.Z.gen_R R (fun v H R => ?_))
  | (refine L2.Z.z_lst0 R (fun p R => ?_); refine L2.Z.gen_R R (fun v H R => ?_))
  | (refine L2.Z.z_lst1 R (by walk_at "rf") (fun p R => ?_); refine L2.Z.gen_R R (fun v H R => ?_))
  | (refine L2.Z.z_lst2 R (by walk_at "rf") (by walk_at "rf") (fun p R => ?_); refine L2.Z.gen_R R (fun v H R => ?_))
  | (refine L2.Z.z_lst3 R (by walk_at "rf") (by walk_at "rf") (by walk_at "rf") (fun p R => ?_); refine L2.Z.gen_R R (fun v H R => ?_))
  | (refine L2.Z.z_tupL R (by walk_at "rf") (fun v H R => ?_))
  | (refine L2.Z.z_tupT R (fun v R => ?_))
  | (refine L2.Z.z_listOf R (by walk_at "rf") (by walk_at "sq") (fun v H R => ?_))
  | (refine L2.Z.z_slL R (by walk_at "rf") (fun v H R => ?_))
  | (refine L2.Z.z_isStr R ?_)
  | (refine L2.Z.z_tyL R (by walk_at "rf") ?_)
  | (refine L2.Z.z_isD R (by walk_at "rf") (fun a R => ?_))
  | (refine L2.Z.z_dnew R (fun v H R => ?_))
  | (refine L2.Z.z_max2 R (fun v R => ?_))
  | (refine L2.Z.z_min2 R (fun v R => ?_)))
local macro_rules | `(tactic| walk_at "z1") => `(tactic| first | walk_at "st" | walk_at "zv" | walk_at "zo")
local macro_rules | `(tactic| walk_at "z") => `(tactic| (repeat walk_at "z1"))
local macro_rules | `(tactic| walk_at "ret") => `(tactic| refine L2.Z.z_retP R rfl (fun k f => q _ _ _ k f ?_))
local macro_rules | `(tactic| walk_at "fadd") => `(tactic| exact L2.Z.z_fAdd R rfl hw la ha hacc (by omega) rfl rfl rfl)
local macro_rules | `(tactic| walk_at "get") => `(tactic| first
  | (refine L2.Z.z_getL R (by walk_at "rf") (fun o R => ?_); refine L2.Z.gen_V R (fun v R => ?_))
  | (refine L2.Z.z_getL2 R (by walk_at "rf") (fun o R => ?_); refine L2.Z.gen_V R (fun v R => ?_))
  | (refine L2.Z.z_dinL R (by walk_at "rf") (fun a o R => ?_); refine L2.Z.gen_V R (fun v R => ?_))
  | (refine L2.Z.z_dninL R (by walk_at "rf") (fun a o R => ?_); refine L2.Z.gen_V R (fun v R => ?_))
  | (refine L2.Z.z_get1 R (by walk_at "rf") (by walk_at "rf") (fun o R => ?_); refine L2.Z.gen_V R (fun v R => ?_))
  | (refine L2.Z.z_get2 R (by walk_at "rf") (by walk_at "rf") (fun o R => ?_); refine L2.Z.gen_V R (fun v R => ?_))
  | (refine L2.Z.z_din R (by walk_at "rf") (by walk_at "rf") (fun a o R => ?_); refine L2.Z.gen_V R (fun v R => ?_))
  | (refine L2.Z.z_dnin R (by walk_at "rf") (by walk_at "rf") (fun a o R => ?_); refine L2.Z.gen_V R (fun v R => ?_)))
namespace L2.Ro
open PySem PySem.Spec PyProof.Rows L2.Rx L2.Z
structure GLogs (ns : List Str) (ls : List Lg) : Prop where
  len : ls.length ≤ 1000
  ok : ∀ l ∈ ls, LgOk l
  sub : ∀ l ∈ ls, ∀ c ∈ l.map Prod.fst, c ∈ ns
  ord : ∀ l ∈ ls, inOrder l
  pw : ls.Pairwise fun x y => PySem.W.dataLt (logD y) (logD x) = false
  nd : ls.Nodup
def enc_ni : List Str × Nat → List PyData := fun a => [.list (a.1.map PyData.str), .int a.2]
def post_logs : List Str × Nat → PyData → Prop := fun a d => ∃ ls, GLogs a.1 ls ∧ ls ≠ [] ∧ d = logsD ls
section
variable {P : Program} {w : World} {K : PySem.W.Frag} {mg : Str → Option Value} {base : Heap}
theorem k_loose {f : Addr} {fd : FuncData} (F : Fun K "_law_loose" "_law_loose" s_loose f fd) (g : mg "_law_loose" = some (.ref f)) (z : Zb mg) (k_take : Kn P w K mg base CX0 1 "_law_take" sp_take)  : Kn P w K mg base CX0 2 "_law_loose" (spB enc_ni (fun a c => Cells a.1 ∧ a.1.length ≤ 9 ∧ 1 ≤ a.2 ∧ a.2 ≤ 13 ∧ c = 300) post_logs) := by
  refine ⟨f, fd, ["_law_box_here", "_law_cells_here", "_law_count"], fnG_body F sc_loose (fun vs H Q E h => ?_) (fun cdv A outer s H vs Q E hr h => ?_), g, F.kp, F.binds (fun _ _ _ _ _ _ us hl => match us, hl with | [_, _, _], _ => rfl)⟩
  · obtain ⟨b, vs', S, ⟨cs, n⟩, c, m, rfl, bS, f, mm, ⟨hc, lc, n1, n13, rfl⟩, B, q⟩ := h
    show vs'.length + 1 = _
    rw [f.len]
    rfl
  · obtain ⟨b, vs', S, ⟨cs, n⟩, c, m, rfl, bS, f, mm, ⟨hc, lc, n1, n13, rfl⟩, B, q⟩ := h
    have R : Rp ⟨K, H, S, [b], []⟩ H (start ["_law_box_here", "_law_cells_here", "_law_count", "_law_found", "_law_turn", "_law_entry", "_law_name"] (.ref b :: vs')) [.box (300 + m), .fz (.list (cs.map PyData.str)), .fz (.int n), .junk, .junk, .junk, .junk] [] := start_B K f mm bS B rfl rfl rfl
    refine ⟨_, PSs.nox (pss_cons (ps_set (i := 3) sc_loose.nd rfl (.inl rfl) (pe_lst pa_nil))
      (pss_cons (ps_for PassesOwn.never rfl (pi_range1 rfl z.n_range (pa_cons (pv 2) pa_nil)) (pg_name (i := 4) sc_loose.nd rfl (.inl rfl))
        (pss_cons (ps_set (i := 5) sc_loose.nd rfl (.inl rfl) (pe_callTy (show CallR _ _ (rTupOf K) from c_tuple) (by rfl) z.n_tuple (by decide +kernel) (pa_cons (pe_callB (show CallR _ _ (rSortV K) from (call_sortV hr)) (by rfl) z.n_sorted (by decide +kernel) (pa_cons (pe_lc (own := [("_law_name", 6)]) (g := (gName 6)) (by rfl) sc_loose.nd (show PI _ _ _ (iList K _) from pi_list (pv 1)) (blkOk_by (own := [("_law_name", 6)]) (N := ["_law_box_here", "_law_cells_here", "_law_count", "_law_found", "_law_turn", "_law_entry", "_law_name"]) (sc := defScope s_loose) (by decide +kernel)) (fun _ _ _ _ _ => (pg_name (i := 6) sc_loose.nd rfl (.inl rfl))) (fun _ _ _ _ _ => (pts_one (pt_cmpR op_gt (k_take.call hr (by decide) (by rfl) (pa_cons (pv 0) (pa_cons pe_int pa_nil))) pe_int (nomark _)))) (fun _ _ _ _ _ => (pe_tupF (pa_cons (pv 6) (pa_cons (k_take.call hr (by decide) (by rfl) (pa_cons (pv 0) (pa_cons pe_int pa_nil))) pa_nil))))) pa_nil)) pa_nil)))
        (pss_one (ps_expr (show PE _ _ (tBM K _ _ _ _) from pe_bm PySem.F.plainAttrs_list PySem.F.slot_list_extend PySem.F.type_list_extend mt_extend (pv 3) (pa_cons (pe_op op_rep (pe_lst (pa_cons (pv 5) pa_nil)) (pe_callTy c_int1 (by rfl) z.n_int (by decide +kernel) (pa_cons (pe_cmpR (show OpR _ _ (rInA K true) from op_notinA hr.units65) (pv 5) (pv 3) (by rfl)) pa_nil))) pa_nil))))))
      (pss_one (ps_ret (pe_callTy (show CallR _ _ (rTupOf K) from c_tuple) (by rfl) z.n_tuple (by decide +kernel) (pa_cons (pe_callB (show CallR _ _ (rSortV K) from (call_sortV hr)) (by rfl) z.n_sorted (by decide +kernel) (pa_cons (pv 3) pa_nil)) pa_nil)))))), ?_⟩
    generalize start ["_law_box_here", "_law_cells_here", "_law_count", "_law_found", "_law_turn", "_law_entry", "_law_name"] (.ref b :: vs') = σ at R ⊢
    have lc' : cs.length ≤ 9 := lc
    have n13' : n ≤ 13 := n13
    walk_at "z"
    refine z_forR R (by omega) (by omega) (fun i env => ∃ (k : Nat) (ls : List Lg), env = [.box k, .fz (.list (cs.map PyData.str)), .fz (.int n), .own (ls.map logD), .junk, .junk, .junk] ∧ m + 20 * (13 - i) ≤ k ∧ (∀ l ∈ ls, LgOk l ∧ (∀ c ∈ l.map Prod.fst, c ∈ cs) ∧ inOrder l) ∧ ls.Nodup ∧ ls.length ≤ i ∧ (0 < i → ls ≠ [])) ⟨300 + m, [], rfl, by omega, fun _ h => (nomatch h), List.nodup_nil, Nat.le_refl _, fun h => by omega⟩ ?_ ?_
    · rintro i _ σ H v hi ⟨k, ls, rfl, hk, hl', nd, li, ne⟩ R
      walk_at "z"
      refine z_lcL (vs := [6]) R rfl (by rfl) (by rfl) (fun j env acc => ∃ (k' : Nat) (l : Lg), env = [.box k', .fz (.list (cs.map PyData.str)), .fz (.int n), .own (ls.map logD), .fz (.int i), .junk, .junk] ∧ acc = l.map prD ∧ k ≤ k' + 2 * j ∧ (l.map Prod.fst).Sublist (cs.take j) ∧ ∀ z ∈ l, 0 ≤ z.2 ∧ z.2 ≤ 1000000000) ⟨k, [], rfl, rfl, by omega, List.Sublist.refl _, fun _ h => nomatch h⟩ ?_ ?_
      · rintro j d _ _ H D v hj hd ⟨k', l, rfl, rfl, hk', sl, vl⟩ la jn R
        obtain ⟨c, hc', rfl⟩ := map_at hd
        rw [List.length_map] at hj
        walk_at "z"
        refine z_take (m := k' - 1) R rfl (by decide) (by decide) (by omega) (by walk_at "se") fun v H r r0 r1 R => ?_
        walk_at "z"
        have et : cs.take (j + 1) = cs.take j ++ [c] := by rw [List.take_add_one, hc']; rfl
        refine r_ite (fun hp => ?_) (fun hp => ?_)
        · walk_at "z"
          refine z_take (m := k' - 2) R rfl (by decide) (by decide) (by omega) (by walk_at "se") fun v H r r0 r1 R => ?_
          walk_at "z"
          refine z_lcAdd R rfl hw la (by omega) rfl ⟨k' - 2, l ++ [(c, r)], rfl, by rw [List.map_append]; rfl, by omega, ?_, fun z hz => ?_⟩
          · rw [et, List.map_append]
            exact sl.append (List.Sublist.refl _)
          · rcases List.mem_append.mp hz with h | h
            · exact vl z h
            · rw [List.mem_singleton.mp h]
              exact ⟨r0, by show r ≤ _; omega⟩
        · refine z_lcSkip R hw la rfl ⟨k' - 1, l, rfl, rfl, by omega, ?_, vl⟩
          rw [et]
          exact sl.trans (List.sublist_append_left _ _)
      rintro _ _ H D ⟨k', l, rfl, rfl, hk', sl, vl⟩ la R
      rw [List.length_map, List.take_length] at sl
      have lok : ∀ m : Lg, m.Perm l → LgOk m ∧ ∀ c ∈ m.map Prod.fst, c ∈ cs := fun m pm => by
        have pn := pm.map Prod.fst
        have sub : ∀ c ∈ m.map Prod.fst, c ∈ cs := fun c h => sl.subset (pn.mem_iff.mp h)
        refine ⟨⟨pn.nodup_iff.mpr (hc.1.sublist sl), ?_, fun z hz => hc.2 _ (sub _ (List.mem_map_of_mem hz)), fun z hz => vl z (pm.mem_iff.mp hz)⟩, sub⟩
        rw [pm.length_eq, ← List.length_map (f := Prod.fst)]
        have := sl.length_le
        omega
      walk_at "z"
      refine z_sortD (K := K) (enc := prD) rfl R rfl (Sq.l _) rfl (fun z hz => noD_shp _ (cmp_pr ((lok l (List.Perm.refl _)).1.cell z hz)).s) (sb_pairs _) fun v H e pm pw R => ?_
      obtain ⟨eo, es⟩ := lok e pm
      walk_at "z"
      refine z_inA (K := K) (enc := logD) (a := e) (as := ls) rfl R rfl rfl (Sq.l _) (cmp_log eo.cell) (cmp_logL fun l hl => (hl' l hl).1.cell) eqv_log fun v R => ?_
      walk_at "z"
      refine z_intB R fun v R => ?_
      walk_at "z"
      refine z_rep R rfl (by by_cases h : e ∈ ls <;> simp [h]) (by by_cases h : e ∈ ls <;> simp [h]) (by by_cases h : e ∈ ls <;> simp [h]) fun v H R => ?_
      walk_at "z"
      have el : ∀ k : Int, (e ∈ ls → k = 0) → (e ∉ ls → k = 1) → (List.replicate k.toNat [PyData.tuple (List.map prD e)]).flatten = (if e ∈ ls then [] else [e]).map logD := fun k k0 k1 => by
        by_cases h : e ∈ ls
        · rw [k0 h, if_pos h]; rfl
        · rw [k1 h, if_neg h]; rfl
      rw [el _ (fun h => by simp [h]) (fun h => by simp [h])] at R
      refine y_ext R rfl (by rw [List.length_map, List.length_map]; split <;> simp <;> omega) (by walk_at "se") fun v H R => ?_
      walk_at "z"
      rw [← List.map_append] at R
      refine ⟨_, ⟨k', ls ++ (if e ∈ ls then [] else [e]), rfl, ?_, fun l hl => ?_, ?_, ?_, fun _ => ?_⟩, R.pop.jk [4, 5]⟩
      · rw [List.length_map] at hk'
        omega
      · rcases List.mem_append.mp hl with h | h
        · exact hl' l h
        · split at h
          · cases h
          · rw [List.mem_singleton.mp h]
            exact ⟨eo, es, pw⟩
      · split
        · rw [List.append_nil]; exact nd
        · rename_i hn
          exact List.nodup_append.mpr ⟨nd, List.pairwise_singleton _ _, fun a ha b hb e' => hn (by rw [← List.mem_singleton.mp hb, ← e']; exact ha)⟩
      · rw [List.length_append]
        split <;> simp <;> omega
      · split
        · rename_i hm
          intro z
          rw [List.append_nil] at z
          rw [z] at hm
          cases hm
        · simp
    · rintro _ σ H ⟨k, ls, rfl, hk, hl', nd, li, ne⟩ R
      walk_at "z"
      have li : ls.length ≤ n := by have : ((n : Nat) : Int).toNat = n := Int.toNat_natCast n; omega
      have sb : Sb (ls.map logD) := by
        refine sb_logs' ls
      refine z_sortD (K := K) (enc := logD) rfl R rfl (Sq.l _) rfl (fun l hl => noD_shp _ (cmp_log (hl' l hl).1.cell).s) sb fun v H bs pm pw R => ?_
      walk_at "z"
      refine z_retB (i := 0) (m := k) R rfl rfl fun kp B f => q _ _ _ kp (B.mono (by omega)) f ?_
      refine ⟨bs, ⟨by rw [pm.length_eq]; omega, fun l hl => (hl' l (pm.mem_iff.mp hl)).1, fun l hl => (hl' l (pm.mem_iff.mp hl)).2.1, fun l hl => (hl' l (pm.mem_iff.mp hl)).2.2, pw, pm.nodup_iff.mpr nd⟩, fun h => ?_, rfl⟩
      rw [h] at pm
      exact ne (by have : ((n : Nat) : Int).toNat = n := Int.toNat_natCast n; omega) (List.nil_perm.mp pm)
end
end L2.Ro

end
section
set_option Elab.async false
set_option linter.all false
set_option maxRecDepth 100000
set_option maxHeartbeats 4000000
local macro_rules | `(tactic| walk_at "rd1") => `(tactic| with_reducible first
  | refine L2.Rx.r_seq ?_ | refine L2.Rx.r_asg ?_ | refine L2.Rx.r_gname ?_ | refine L2.Rx.r_op ?_ | refine L2.Rx.r_c ?_
  | refine L2.Rx.r_var rfl ?_
  | refine L2.Rx.r_rI0 ?_ | refine L2.Rx.r_test ?_ | refine L2.Rx.r_bl ?_ | refine L2.Rx.r_if ?_ | refine L2.Rx.r_ret ?_
  | refine L2.Rx.r_cons ?_ | refine L2.Rx.r_nil ?_ | refine L2.Rx.r_call ?_ | refine L2.Rx.r_cb ?_ | refine L2.Rx.r_next ?_ | refine L2.Rx.r_drop ?_
  | refine L2.Rx.r_gsub ?_ | refine L2.Rx.r_tupF ?_ | refine L2.Rx.r_lst ?_ | refine L2.Rx.r_par ?_ | refine L2.Rx.r_par2 ?_
  | refine L2.Rx.r_un ?_ | refine L2.Rx.r_tb ?_ | refine L2.Rx.r_and ?_ | refine L2.Rx.r_or ?_ | refine L2.Rx.r_not ?_
  | refine L2.Rx.r_andV ?_ | refine L2.Rx.r_orV ?_ | refine L2.Rx.r_notV ?_ | refine L2.Rx.r_ifx ?_ | refine L2.Rx.r_chain ?_
  | refine L2.Rx.r_sl ?_ | refine L2.Rx.r_nopart ?_ | refine L2.Rx.r_part ?_ | refine L2.Rx.r_exint ?_ | refine L2.Rx.r_bm0 ?_ | refine L2.Rx.r_bm ?_
  | refine L2.Rx.r_lc ?_ | refine L2.Rx.r_rng1 ?_ | refine L2.Rx.r_yes ?_ | refine L2.Rx.r_tt ?_ | refine L2.Rx.r_ff ?_ | refine L2.Rx.r_m1 ?_ | refine L2.Rx.r_m0 ?_ | refine L2.Rx.r_isS ?_
  | (refine L2.Rx.r_wipe (by with_unfolding_all rfl) ?_) | (refine L2.Rx.r_tyL (by walk_at "hp") ?_)
  | refine L2.Rx.r_addS (by walk_at "len") ?_ | refine L2.Rx.r_lenS (by walk_at "len") ?_ | refine L2.Rx.r_slS (by walk_at "len") ?_
  | refine L2.Rx.r_dnotin ?_ | refine L2.Rx.r_dget ?_ | refine L2.Rx.r_dget1 ?_ | refine L2.Rx.r_dput ?_ | refine L2.Rx.r_dpop1 ?_ | refine L2.Rx.r_isN ?_
  | refine L2.Rx.r_for ?_ | refine L2.Rx.r_ilist ?_ | refine L2.Rx.r_itup ?_
  | refine L2.Rx.r_gcons ?_ | refine L2.Rx.r_gnil ?_ | (refine L2.Rx.r_gtupP (by assumption) (by walk_at "at") ?_)
  | (refine L2.Rx.r_rEq rfl ?_) | (refine L2.Rx.r_rNe rfl ?_)
  | refine L2.Rx.r_rU ?_ | refine L2.Rx.r_max2 ?_ | refine L2.Rx.r_min2 ?_ | refine L2.Rx.r_int1i ?_ | (refine L2.Rx.r_lenh (by walk_at "hp") ?_)
  | (refine L2.Rx.r_ixLh (by walk_at "hp") (by walk_at "at") ?_)
  | (refine L2.Rx.r_setL (by walk_at "hp") (by walk_at "at") ?_))
local macro_rules | `(tactic| walk_at "at") => `(tactic| with_unfolding_all rfl)
local macro_rules | `(tactic| walk_at "rd") => `(tactic| (repeat walk_at "rd1"))
local macro_rules | `(tactic| walk_at "hp") => `(tactic| first
  | assumption
  | exact L2.upd_same
  | (refine Eq.trans (L2.upd_ne ?_) ?_; (focus walk_at "ne"); (focus walk_at "hp"))
  | (refine L2.Rx.Kp.at0 (by assumption) ?_; walk_at "hp")
  | (refine L2.Rx.Kp.at1 (by assumption) ?_ ?_; (focus walk_at "ne"); (focus walk_at "hp")))
local macro_rules | `(tactic| walk_at "ne") => `(tactic| first
  | assumption | exact Ne.symm (by assumption)
  | (refine L2.ne_of_none (H := ?nH) (o := ?nO) ?nh ?nn; (case nn => assumption); (case nh => walk_at "hp"))
  | (refine Ne.symm (L2.ne_of_none (H := ?nH) (o := ?nO) ?nh ?nn); (case nn => assumption); (case nh => walk_at "hp")))
local macro_rules | `(tactic| walk_at "len") => `(tactic| (rw [PySem.sizeLine_eq]; omega))
local macro_rules | `(tactic| walk_at "nin") => `(tactic| first
  | exact List.not_mem_nil
  | (refine L2.Rx.nin1 ?_; walk_at "ne"))
local macro_rules | `(tactic| walk_at "none") => `(tactic| first
  | assumption
  | (refine L2.Rx.Kp.none0 (by assumption) ?_ ?_; (focus walk_at "nin"); (focus walk_at "none")))
namespace L2.Ro
open PySem PySem.Spec PyProof.Rows L2.Rx L2.Z
def sp_values : Sp := fun vs H Q _ => ∃ (b : Addr) (n : Nat) (k : Int), vs = [.ref b, .int k] ∧ Box H b (n + 10) ∧ 0 ≤ k ∧ k ≤ 4 ∧
  ∀ (H' : Hp) (p : Addr) (ms : List Int), Kp [b] H H' → H p = none → Box H' b n → H' p = some (.lst (ms.map V.int)) → ms.length = k.toNat → ms.Pairwise (· < ·) → (∀ m ∈ ms, 0 ≤ m ∧ m ≤ 1000000000) → Q (.ref p) H'
theorem spare_there {fs : List Int} (h : fs.length ≤ 4) : ∃ m, (([11, 12, 13, 14, 15] : List Int).filter fun e => !decide (e ∈ fs)).head? = some m := by
  cases e : ([11, 12, 13, 14, 15] : List Int).filter fun e => !decide (e ∈ fs) with
  | cons m _ => exact ⟨m, rfl⟩
  | nil =>
    have sub : ∀ x ∈ ([11, 12, 13, 14, 15] : List Int), x ∈ fs := by
      intro x hx
      have := List.filter_eq_nil_iff.mp e x hx
      simpa using this
    have := List.Nodup.length_le_of_subset (by decide : ([11, 12, 13, 14, 15] : List Int).Nodup) sub
    simp at this
    omega
section
variable {P : Program} {w : World} {K : PySem.W.Frag} {mg : Str → Option Value} {base : Heap}
theorem k_values {f : Addr} {fd : FuncData} (F : Fun K "_law_values" "_law_values" s_values f fd) (g : mg "_law_values" = some (.ref f)) (z : Zb mg) (k_take : Kn P w K mg base CX0 1 "_law_take" sp_take)  : Kn P w K mg base CX0 2 "_law_values" sp_values := by
  refine ⟨f, fd, ["_law_box_here", "_law_count"], fnG_body F sc_values (fun vs H Q E h => ?_) (fun cdv A outer s H vs Q E hr h => ?_), g, F.kp, F.binds (fun _ _ _ _ _ _ us hl => match us, hl with | [_, _], _ => rfl)⟩
  · obtain ⟨b, n, k, rfl, _⟩ := h
    rfl
  · obtain ⟨b, n, k, rfl, B, k0, k1, q⟩ := h
    refine ⟨_, PSs.nox (pss_cons (ps_set (i := 2) sc_values.nd rfl (.inl rfl) (pe_lst (pa_cons pe_int (pa_cons pe_int (pa_cons pe_int (pa_cons pe_int (pa_cons pe_int (pa_cons (pe_op op_pow pe_int pe_int) (pa_cons (pe_op op_add pe_int (k_take.call hr (by decide) (by rfl) (pa_cons (pv 0) (pa_cons (pe_op op_pow pe_int pe_int) pa_nil)))) pa_nil)))))))))
      (pss_cons (ps_set (i := 3) sc_values.nd rfl (.inr rfl) (pe_lst pa_nil))
      (pss_cons (ps_for PassesOwn.never rfl (pi_range1 rfl z.n_range (pa_cons (pv 1) pa_nil)) (pg_name (i := 4) sc_values.nd rfl (.inl rfl))
        (pss_cons (ps_set (i := 5) sc_values.nd rfl (.inl rfl) (pe_ix (show IxR _ (rIxL K) from ix_list) (pv 2) (k_take.call hr (by decide) (by rfl) (pa_cons (pv 0) (pa_cons pe_int pa_nil))) (fun _ _ => rfl)))
        (pss_cons (ps_set (i := 6) sc_values.nd rfl (.inl rfl) (pe_ix (show IxR _ (rIxL K) from ix_list) (pe_lc (own := [("_law_each", 7)]) (g := (gName 7)) (by rfl) sc_values.nd (show PI _ _ _ (iTup K _) from pi_tup (pe_tupF (pa_cons pe_int (pa_cons pe_int (pa_cons pe_int (pa_cons pe_int (pa_cons pe_int pa_nil))))))) (blkOk_by (own := [("_law_each", 7)]) (N := ["_law_box_here", "_law_count", "_law_some", "_law_found", "_law_turn", "_law_value_here", "_law_spare", "_law_each"]) (sc := defScope s_values) (by decide +kernel)) (fun _ _ _ _ _ => (pg_name (i := 7) sc_values.nd rfl (.inl rfl))) (fun _ _ _ _ _ => (pts_one (pt_cmpR (show OpR _ _ (rIn K true) from op_notIn_seq) (pv 7) (pv 3) (by rfl)))) (fun _ _ _ _ _ => (pv 7))) pe_int (fun _ _ => rfl)))
        (pss_one (ps_expr (show PE _ _ (tBM K _ _ _ _) from pe_bm PySem.F.plainAttrs_list PySem.F.slot_list_append PySem.F.type_list_append mt_append (pv 3) (pa_cons (pe_ifExp (pt_cmpR (show OpR _ _ (rIn K true) from op_notIn_seq) (pv 5) (pv 3) (by rfl)) (pv 5) (pv 6)) pa_nil)))))))
      (pss_one (ps_ret (pe_callB (show CallR _ _ (rSortV K) from (call_sortV hr)) (by rfl) z.n_sorted (by decide +kernel) (pa_cons (pv 3) pa_nil))))))), ?_⟩
    walk_at "rd"
    refine r_powx (v := 1000000000) (by decide +kernel) (by decide +kernel) ?_
    walk_at "rd"
    refine r_powx (v := 1000000000) (by decide +kernel) (by decide +kernel) ?_
    walk_at "rd"
    refine ⟨b, n + 9, _, rfl, B, by decide, by decide, fun H1 u kp1 B1 u0 u1 => ?_⟩
    walk_at "rd"
    refine r_new rfl (fun p np => ?_)
    refine gen_new np fun H2 kp2 hp => ?_
    walk_at "rd"
    refine r_new rfl (fun f nf => ?_)
    refine gen_new nf fun H3 kp3 hf => ?_
    walk_at "rd"
    refine r_rngv (by omega) (by omega) ?_
    refine for_range (lo := 0) (n := k.toNat) (fun i σ' H' => ∃ (t v s e : Option V) (fs : List Int), σ' = [some (.ref b), some (.int k), some (.ref p), some (.ref f), t, v, s, e] ∧ Kp [b] H1 H' ∧ H' f = some (.lst (fs.map V.int)) ∧ H' p = H2 p ∧ fs.length = i ∧ fs.Nodup ∧ (∀ m ∈ fs, 0 ≤ m ∧ m ≤ 1000000000) ∧ Box H' b (n + 9 - i)) ?_ ?_ ?_
    · refine ⟨_, _, _, _, [], rfl, Kp.to1 (kp2.trans kp3), hf, by rw [hp]; exact kp3.at0 hp, rfl, List.nodup_nil, (fun _ h => nomatch h), (B1.keep kp2).keep kp3⟩
    · rintro i σ' H4 hi ⟨t, v, s, e, fs, rfl, kp4, hf4, hp4, lf, nd, bd, B4⟩
      have fnb : f ≠ b := by
        obtain ⟨_, hb1⟩ := B1.lst
        walk_at "ne"
      have pnb : p ≠ b := by
        obtain ⟨_, hb1⟩ := B1.lst
        walk_at "ne"
      have fnp : f ≠ p := by walk_at "ne"
      walk_at "rd"
      refine ⟨b, n + 8 - i, _, rfl, B4.mono (by omega), by decide, by decide, fun H5 r kp5 B5 r0 r1 => ?_⟩
      have hp5 : H5 p = some (.lst (([0, 1, 2, 3, 7, 1000000000, 1 + u] : List Int).map V.int)) := kp5.at1 pnb (hp4.trans hp)
      have hf5 : H5 f = some (.lst (fs.map V.int)) := kp5.at1 fnb hf4
      refine r_pickI (.inl (.inl hp5)) r0 r1 (fun m hm => ?_)
      have mb : 0 ≤ m ∧ m ≤ 1000000000 := by
        simp only [List.mem_cons, List.mem_nil_iff, or_false] at hm
        omega
      walk_at "rd"
      refine r_newF rfl fun y oy ny ody => ?_
      refine gen_newT ny ody fun H6 kp6 hy => ?_
      walk_at "rd"
      refine r_walkT hy.sq ?_
      intro D nD
      have hf6 : H6 f = some (.lst (fs.map V.int)) := kp6.at0 hf5
      have fnD : f ≠ D := by walk_at "ne"
      refine lc_tup (K := K) (a := y) (xs := ([11, 12, 13, 14, 15] : List Int).map V.int) (PvL D (fun j acc H' => acc = (((([11, 12, 13, 14, 15] : List Int).take j).filter fun e => !decide (e ∈ fs)).map V.int) ∧ Kp [] H6 H')) ⟨[], upd_same, Nat.le_refl _, rfl, Kp.new nD⟩ (fun j H7 hj ⟨acc, ea, la, eacc, kp7⟩ => (hy.keep0 kp7).sq) (fun j x H7 hx ⟨acc, ea, la, eacc, kp7⟩ => ?_) (fun H7 ⟨acc, ea, la, eacc, kp7⟩ => ?_)
      · rw [List.getElem?_map] at hx
        obtain ⟨c, hc, rfl⟩ : ∃ c, ([11, 12, 13, 14, 15] : List Int)[j]? = some c ∧ x = V.int c := by
          cases q : ([11, 12, 13, 14, 15] : List Int)[j]? with
          | none => rw [q] at hx; cases hx
          | some c => rw [q] at hx; exact ⟨c, rfl, (Option.some.inj hx).symm⟩
        have hj5 : j < 5 := (List.getElem?_eq_some_iff.mp hc).1
        walk_at "rd"
        refine r_notinI (.inl (.inl (.inl (kp7.at0 hf6)))) ?_
        walk_at "rd"
        refine r_itn (fun hn => ?_) (fun hn => ?_)
        · walk_at "rd"
          refine PvL.step ea la (by omega) ⟨?_, kp7.new0 nD⟩
          rw [List.take_add_one, hc, List.filter_append, List.map_append, eacc]
          have : ([c] : List Int).filter (fun e => !decide (e ∈ fs)) = [c] := by simp [hn]
          rw [show (some c).toList = [c] from rfl, this]
          rfl
        · refine PvL.skip ea la ⟨?_, kp7⟩
          rw [List.take_add_one, hc, List.filter_append, List.map_append, eacc]
          have : ([c] : List Int).filter (fun e => !decide (e ∈ fs)) = [] := by simp [hn]
          rw [show (some c).toList = [c] from rfl, this]
          simp
      · obtain ⟨sp, hsp⟩ := spare_there (fs := fs) (by omega)
        have e5 : ([11, 12, 13, 14, 15] : List Int).take ((([11, 12, 13, 14, 15] : List Int).map V.int).length) = [11, 12, 13, 14, 15] := rfl
        rw [e5] at eacc
        obtain ⟨tl, etl⟩ : ∃ tl, (([11, 12, 13, 14, 15] : List Int).filter fun e => !decide (e ∈ fs)) = sp :: tl := by
          cases q : ([11, 12, 13, 14, 15] : List Int).filter fun e => !decide (e ∈ fs) with
          | nil => rw [q] at hsp; cases hsp
          | cons a r => rw [q] at hsp; cases hsp; exact ⟨r, rfl⟩
        have spin : sp ∈ ([11, 12, 13, 14, 15] : List Int) ∧ ¬ sp ∈ fs := by
          have : sp ∈ ([11, 12, 13, 14, 15] : List Int).filter fun e => !decide (e ∈ fs) := by rw [etl]; exact List.mem_cons_self ..
          have := List.mem_filter.mp this
          exact ⟨this.1, by simpa using this.2⟩
        have spb : 0 ≤ sp ∧ sp ≤ 1000000000 := by
          have := spin.1
          simp only [List.mem_cons, List.mem_nil_iff, or_false] at this
          omega
        subst eacc
        walk_at "rd"
        refine r_ixLh ea (by rw [etl]; exact atI_nat (j := 0) rfl) ?_
        have hf7 : H7 f = some (.lst (fs.map V.int)) := kp7.at0 hf6
        have kall : Kp [b] H4 H7 := (kp5.trans (Kp.to1 kp6)).trans (Kp.to1 kp7)
        have fin : ∀ m' : Int, 0 ≤ m' ∧ m' ≤ 1000000000 → ¬ m' ∈ fs → ∃ (t' v' s' e' : Option V) (fs' : List Int), [some (V.ref b), some (.int k), some (.ref p), some (.ref f), some (.int (0 + (i : Int))), some (.int m), some (.int sp), e] = [some (.ref b), some (.int k), some (.ref p), some (.ref f), t', v', s', e'] ∧ Kp [b] H1 (upd H7 f (.lst (fs.map V.int ++ [.int m']))) ∧
            (upd H7 f (.lst (fs.map V.int ++ [.int m']))) f = some (.lst (fs'.map V.int)) ∧ (upd H7 f (.lst (fs.map V.int ++ [.int m']))) p = H2 p ∧ fs'.length = i + 1 ∧ fs'.Nodup ∧ (∀ m ∈ fs', 0 ≤ m ∧ m ≤ 1000000000) ∧ Box (upd H7 f (.lst (fs.map V.int ++ [.int m']))) b (n + 9 - (i + 1)) := by
          intro m' hb' hn
          refine ⟨_, _, _, e, fs ++ [m'], rfl, ?_, ?_, ?_, ?_, ?_, ?_, ?_⟩
          · exact (kp4.trans kall).new0 (kp2.none0 List.not_mem_nil nf)
          · rw [upd_same, List.map_append]
            rfl
          · rw [upd_ne (Ne.symm fnp), ← hp4]
            rw [hp4, hp]
            exact kall.at1 pnb (hp4.trans hp)
          · rw [List.length_append, lf]
            rfl
          · rw [List.nodup_append]
            exact ⟨nd, by simp, by intro a ha c hc; have : c = m' := by simpa using hc
                                   subst this; intro z; subst z; exact hn ha⟩
          · intro c hc
            rcases List.mem_append.mp hc with h | h
            · exact bd c h
            · have : c = m' := by simpa using h
              subst this
              exact hb'
          · obtain ⟨o, sd, c, e', r⟩ := (B5.keep kp6).keep kp7
            exact ⟨o, sd, c, (upd_ne (Ne.symm fnb)).trans e', by omega⟩
        walk_at "rd"
        refine r_notinI (.inl (.inl (.inl hf7))) ?_
        walk_at "rd"
        have lf7 : (fs.map V.int).length < 1000000 := by
          rw [List.length_map]
          omega
        refine r_itn (fun hn => ?_) (fun hn => ?_)
        · walk_at "rd"
          refine r_app0 hf7 lf7 ?_
          obtain ⟨t', v', s', e', fs', es, rest⟩ := fin m mb hn
          exact ⟨t', v', s', e', fs', es, rest⟩
        · walk_at "rd"
          refine r_app0 hf7 lf7 ?_
          obtain ⟨t', v', s', e', fs', es, rest⟩ := fin sp spb spin.2
          exact ⟨t', v', s', e', fs', es, rest⟩
    · rintro σ' H4 ⟨t, v, s, e, fs, rfl, kp4, hf4, hp4, lf, nd, bd, B4⟩
      walk_at "rd"
      refine r_sortI (.inl (.inl (.inl hf4))) fun p' ms pm pw np' => ?_
      have bp : p' ∉ [b] := by
        obtain ⟨_, hb4⟩ := B4.lst
        exact nin1 (Ne.symm (ne_of_none hb4 np'))
      have kpn : Kp [b] H (upd H4 p' (.lst (ms.map V.int))) := (kp1.trans kp4).putNew ((kp1.trans kp4).none0 bp np')
      refine q _ p' ms kpn ((kp1.trans kp4).none0 bp np') ?_ upd_same (by rw [pm.length_eq, lf]) ?_ (fun m hm => bd m (pm.mem_iff.mp hm))
      · exact (B4.keep (Kp.new np')).mono (by omega)
      · have nd' : ms.Nodup := pm.nodup_iff.mpr nd
        refine (pw.and nd').imp fun {x y} h => ?_
        have := h.1
        have := h.2
        omega
end
end L2.Ro

end
section
set_option Elab.async false
set_option linter.all false
set_option maxRecDepth 100000
set_option maxHeartbeats 4000000
local macro_rules | `(tactic| walk_at "rd1") => `(tactic| with_reducible first
  | refine L2.Rx.r_seq ?_ | refine L2.Rx.r_asg ?_ | refine L2.Rx.r_gname ?_ | refine L2.Rx.r_op ?_ | refine L2.Rx.r_c ?_
  | refine L2.Rx.r_var rfl ?_
  | refine L2.Rx.r_rI0 ?_ | refine L2.Rx.r_test ?_ | refine L2.Rx.r_bl ?_ | refine L2.Rx.r_if ?_ | refine L2.Rx.r_ret ?_
  | refine L2.Rx.r_cons ?_ | refine L2.Rx.r_nil ?_ | refine L2.Rx.r_call ?_ | refine L2.Rx.r_cb ?_ | refine L2.Rx.r_next ?_ | refine L2.Rx.r_drop ?_
  | refine L2.Rx.r_gsub ?_ | refine L2.Rx.r_tupF ?_ | refine L2.Rx.r_lst ?_ | refine L2.Rx.r_par ?_ | refine L2.Rx.r_par2 ?_
  | refine L2.Rx.r_un ?_ | refine L2.Rx.r_tb ?_ | refine L2.Rx.r_and ?_ | refine L2.Rx.r_or ?_ | refine L2.Rx.r_not ?_
  | refine L2.Rx.r_andV ?_ | refine L2.Rx.r_orV ?_ | refine L2.Rx.r_notV ?_ | refine L2.Rx.r_ifx ?_ | refine L2.Rx.r_chain ?_
  | refine L2.Rx.r_sl ?_ | refine L2.Rx.r_nopart ?_ | refine L2.Rx.r_part ?_ | refine L2.Rx.r_exint ?_ | refine L2.Rx.r_bm0 ?_ | refine L2.Rx.r_bm ?_
  | refine L2.Rx.r_lc ?_ | refine L2.Rx.r_rng1 ?_ | refine L2.Rx.r_yes ?_ | refine L2.Rx.r_tt ?_ | refine L2.Rx.r_ff ?_ | refine L2.Rx.r_m1 ?_ | refine L2.Rx.r_m0 ?_ | refine L2.Rx.r_isS ?_
  | (refine L2.Rx.r_wipe (by with_unfolding_all rfl) ?_) | (refine L2.Rx.r_tyL (by walk_at "hp") ?_)
  | refine L2.Rx.r_addS (by walk_at "len") ?_ | refine L2.Rx.r_lenS (by walk_at "len") ?_ | refine L2.Rx.r_slS (by walk_at "len") ?_
  | refine L2.Rx.r_dnotin ?_ | refine L2.Rx.r_dget ?_ | refine L2.Rx.r_dget1 ?_ | refine L2.Rx.r_dput ?_ | refine L2.Rx.r_dpop1 ?_ | refine L2.Rx.r_isN ?_
  | refine L2.Rx.r_for ?_ | refine L2.Rx.r_ilist ?_ | refine L2.Rx.r_itup ?_
  | refine L2.Rx.r_gcons ?_ | refine L2.Rx.r_gnil ?_ | (refine L2.Rx.r_gtupP (by assumption) (by walk_at "at") ?_)
  | (refine L2.Rx.r_rEq rfl ?_) | (refine L2.Rx.r_rNe rfl ?_)
  | refine L2.Rx.r_rU ?_ | refine L2.Rx.r_max2 ?_ | refine L2.Rx.r_min2 ?_ | refine L2.Rx.r_int1i ?_ | (refine L2.Rx.r_lenh (by walk_at "hp") ?_)
  | (refine L2.Rx.r_ixLh (by walk_at "hp") (by walk_at "at") ?_)
  | (refine L2.Rx.r_setL (by walk_at "hp") (by walk_at "at") ?_))
local macro_rules | `(tactic| walk_at "at") => `(tactic| with_unfolding_all rfl)
local macro_rules | `(tactic| walk_at "rd") => `(tactic| (repeat walk_at "rd1"))
local macro_rules | `(tactic| walk_at "hp") => `(tactic| first
  | assumption
  | exact L2.upd_same
  | (refine Eq.trans (L2.upd_ne ?_) ?_; (focus walk_at "ne"); (focus walk_at "hp"))
  | (refine L2.Rx.Kp.at0 (by assumption) ?_; walk_at "hp")
  | (refine L2.Rx.Kp.at1 (by assumption) ?_ ?_; (focus walk_at "ne"); (focus walk_at "hp")))
local macro_rules | `(tactic| walk_at "ne") => `(tactic| first
  | assumption | exact Ne.symm (by assumption)
  | (refine L2.ne_of_none (H := ?nH) (o := ?nO) ?nh ?nn; (case nn => assumption); (case nh => walk_at "hp"))
  | (refine Ne.symm (L2.ne_of_none (H := ?nH) (o := ?nO) ?nh ?nn); (case nn => assumption); (case nh => walk_at "hp")))
local macro_rules | `(tactic| walk_at "len") => `(tactic| (rw [PySem.sizeLine_eq]; omega))
local macro_rules | `(tactic| walk_at "nin") => `(tactic| first
  | exact List.not_mem_nil
  | (refine L2.Rx.nin1 ?_; walk_at "ne"))
local macro_rules | `(tactic| walk_at "none") => `(tactic| first
  | assumption
  | (refine L2.Rx.Kp.none0 (by assumption) ?_ ?_; (focus walk_at "nin"); (focus walk_at "none")))
namespace L2.Ro
open PySem PySem.Spec PyProof.Rows L2.Rx L2.Z
def nTree : Nat → Nat
  | 0 => 0
  | n + 1 => 13 + 3 * nTree n
def sp_tree (K : PySem.W.Frag) (j : Nat) : Sp := fun vs H Q _ => ∃ (b l : Addr) (n : Nat) (k : Int) (cs : List Str), vs = [.ref b, .ref l, .int k] ∧ Box H b (n + nTree j) ∧ SqL K H l (cs.map V.str) ∧ l ≠ b ∧ Cells cs ∧ cs.length = j ∧ j ≤ 26 ∧ k ≤ 1000000000 ∧
  ∀ (H' : Hp) (v : V) (t : Tr), Kp [b] H H' → Box H' b n → Dq K H' v t.d → Okt j cs t → Q v H'
theorem brd_len (bs : List (Int × Tr)) : (brd bs).length = bs.length := by rw [brd_eq, List.length_map]
section
variable {P : Program} {w : World} {K : PySem.W.Frag} {mg : Str → Option Value} {base : Heap}
theorem k_tree1 {f : Addr} {fd : FuncData} (F : Fun K "_law_tree" "_law_tree" s_tree f fd) (g : mg "_law_tree" = some (.ref f)) (z : Zb mg) (n : Nat) (spx : Sp) (k_take : Kn P w K mg base CX0 1 "_law_take" sp_take) (k_values : Kn P w K mg base CX0 2 "_law_values" sp_values) (k_tree : Kn P w K mg base CX0 (n + 2) "_law_tree" spx) (hx : ∀ m, n = m + 1 → spx = sp_tree K m)  : FnG P w K mg base CX0 (n + 3) f fd ["_law_box_here", "_law_cells_here", "_law_budget"] (sp_tree K n) := by
  refine fnG_body F sc_tree (fun vs H Q E h => ?_) (fun cdv A outer s H vs Q E hr h => ?_)
  · obtain ⟨b, l, n, k, cs, rfl, _⟩ := h
    rfl
  · obtain ⟨b, l, m, k, cs, rfl, B, hl, lb, hc, hn, h26, hk, q⟩ := h
    refine ⟨_, PSs.nox (pss_cons (ps_if (PW.pt (pw_or (pt_cmpR (show OpR _ _ (rEqD K) from (op_eqD hr.units)) (pv 1) (pe_lst pa_nil) (nomark _)) (pw_or (pt_cmpR op_lt (pv 2) pe_int (nomark _)) (pw_or1 (pt_cmpR op_eq (k_take.call hr (by omega) (by rfl) (pa_cons (pv 0) (pa_cons pe_int pa_nil))) pe_int (nomark _))))))
        (pss_one (ps_ret (pe_tupF pa_nil)))
        pss_nil)
      (pss_cons (ps_set (i := 3) sc_tree.nd rfl (.inl rfl) (pe_callTy (show CallR _ _ (rListOf K) from c_list) (by rfl) z.n_list (by decide +kernel) (pa_cons (pv 1) pa_nil)))
      (pss_cons (ps_set (i := 4) sc_tree.nd rfl (.inl rfl) (show PE _ _ (tBM K _ _ _ _) from pe_bm PySem.F.plainAttrs_list PySem.F.slot_list_pop PySem.F.type_list_pop mt_popAt (pv 3) (pa_cons (k_take.call hr (by omega) (by rfl) (pa_cons (pv 0) (pa_cons (pe_callB (show CallR _ _ (rLenQ K) from c_len) (by rfl) z.n_len (by decide +kernel) (pa_cons (pv 3) pa_nil)) pa_nil))) pa_nil)))
      (pss_cons (ps_set (i := 5) sc_tree.nd rfl (.inl rfl) (pe_op op_add pe_int (k_take.call hr (by omega) (by rfl) (pa_cons (pv 0) (pa_cons (pe_callB (c_min2 rfl) (by rfl) z.n_min (by decide +kernel) (pa_cons pe_int (pa_cons (pv 2) pa_nil))) pa_nil)))))
      (pss_cons (ps_set (i := 6) sc_tree.nd rfl (.inl rfl) (pe_lst pa_nil))
      (pss_cons (ps_for PassesOwn.never rfl (show PI _ _ _ (iList K _) from pi_list (k_values.call hr (by omega) (by rfl) (pa_cons (pv 0) (pa_cons (pv 5) pa_nil)))) (pg_name (i := 7) sc_tree.nd rfl (.inl rfl))
        (pss_one (ps_expr (show PE _ _ (tBM K _ _ _ _) from pe_bm PySem.F.plainAttrs_list PySem.F.slot_list_append PySem.F.type_list_append mt_append (pv 6) (pa_cons (pe_tupF (pa_cons (pv 7) (pa_cons (k_tree.call hr (by omega) (by rfl) (pa_cons (pv 0) (pa_cons (pv 3) (pa_cons (pe_op op_fdiv (pv 2) (pv 5)) pa_nil)))) pa_nil))) pa_nil)))))
      (pss_one (ps_ret (pe_tupF (pa_cons (pv 4) (pa_cons (pe_callTy (show CallR _ _ (rTupOf K) from c_tuple) (by rfl) z.n_tuple (by decide +kernel) (pa_cons (pv 6) pa_nil)) pa_nil))))))))))), ?_⟩
    walk_at "rd"
    refine r_new rfl (fun e ne => ?_)
    refine gen_new ne fun H1 kp1 he => ?_
    have hl1 : SqL K H1 l (cs.map V.str) := kp_sqL kp1 (by simp) hl
    refine r_eqL0 (dpL_strs hl1) hc.shps (Nat.le_trans (depth_strs cs) (by decide)) he ?_
    walk_at "rd"
    have stop : ∀ (H2 : Hp), Kp [b] H H2 → Box H2 b m → ∀ (p : Addr) (H3 : Hp), H2 p = none → Kp [] H2 H3 → Tm H3 p [] → Q (.ref p) H3 := by
      intro H2 k2 B2 p H3 np k3 hp
      refine q _ _ .lf (k2.trans (Kp.to1 k3)) (B2.keep k3) ?_ (.lf _ _)
      rw [Tr.d]
      exact .tup hp .nil
    refine r_itb (fun hb => ?_) (fun hb => ?_)
    · walk_at "rd"
      exact r_newT rfl (stop _ (Kp.to1 kp1) ((B.keep kp1).mono (by omega)))
    obtain ⟨n', rfl⟩ : ∃ n', n = n' + 1 := by
      cases n with
      | zero =>
        have : cs = [] := List.length_eq_zero_iff.mp hn
        rw [this] at hb
        cases hb
      | succ n' => exact ⟨n', rfl⟩
    obtain rfl := hx n' rfl
    have eN : nTree (n' + 1) = 13 + 3 * nTree n' := rfl
    rw [eN] at B
    walk_at "rd"
    refine r_ite (fun hk1 => ?_) (fun hk1 => ?_)
    · walk_at "rd"
      exact r_newT rfl (stop _ (Kp.to1 kp1) ((B.keep kp1).mono (by omega)))
    walk_at "rd"
    refine ⟨b, m + 12 + 3 * nTree n', _, rfl, (B.keep kp1).mono (by omega), by decide, by decide, fun H2 u kp2 B2 u0 u1 => ?_⟩
    walk_at "rd"
    refine r_ite (fun hu => ?_) (fun hu => ?_)
    · walk_at "rd"
      exact r_newT rfl (stop _ ((Kp.to1 kp1).trans kp2) (B2.mono (by omega)))
    walk_at "rd"
    have hl2 : SqL K H2 l (cs.map V.str) := kp1_sqL kp2 lb hl1
    refine r_listOf (.inl hl2) fun f nf => ?_
    refine gen_new nf fun H3 kp3 hf => ?_
    have fb : f ≠ b := by
      obtain ⟨_, hb⟩ := B2.lst
      exact Ne.symm (ne_of_none hb nf)
    walk_at "rd"
    have lcs : (cs.map V.str).length = n' + 1 := by rw [List.length_map, hn]
    refine ⟨b, m + 11 + 3 * nTree n', _, rfl, (B2.keep kp3).mono (by omega), by omega, by omega, fun H4 i kp4 B4 i0 i1 => ?_⟩
    have hf4 : H4 f = some (.lst (cs.map V.str)) := kp4.at1 fb hf
    obtain ⟨c, hci⟩ : ∃ c, cs[i.toNat]? = some c := ⟨_, List.getElem?_eq_getElem (by omega)⟩
    refine r_popAt hf4 i0 (by omega) (by rw [List.getElem?_map, hci]; rfl) ?_
    rw [eraseIdx_map']
    have hcs' : ∀ x ∈ cs.eraseIdx i.toNat, x ∈ cs := fun x hx => (List.eraseIdx_sublist _ _).subset hx
    have hcn : c ∉ cs.eraseIdx i.toNat := by
      intro z
      obtain ⟨j, hj, ne', e'⟩ := List.mem_eraseIdx_iff_getElem.mp z
      obtain ⟨hi, e2⟩ := List.getElem?_eq_some_iff.mp hci
      exact ne' ((List.getElem_inj hc.1).mp (e'.trans e2.symm))
    have hcl : (cs.eraseIdx i.toNat).length = n' := by rw [List.length_eraseIdx_of_lt (by omega), hn]; rfl
    have hcc : Cells (cs.eraseIdx i.toNat) := ⟨List.Pairwise.sublist (List.eraseIdx_sublist _ _) hc.1, fun x hx => hc.2 x (hcs' x hx)⟩
    have hcm : c ∈ cs := List.mem_of_getElem? hci
    generalize cs.eraseIdx i.toNat = cs' at hcs' hcn hcl hcc ⊢
    refine gen_put fun H5 kp5 hf5 => ?_
    have B5 : Box H5 b (m + 11 + 3 * nTree n') := B4.keepS kp5 (nin1 (Ne.symm fb))
    walk_at "rd"
    have b3 : 0 < min 3 k ∧ min 3 k ≤ 3 := by omega
    refine ⟨b, m + 10 + 3 * nTree n', _, rfl, B5.mono (by omega), b3.1, by omega, fun H6 r kp6 B6 r0 r1 => ?_⟩
    walk_at "rd"
    refine r_new rfl (fun g ng => ?_)
    refine gen_new ng fun H7 kp7 hg => ?_
    have hf6 : H6 f = some (.lst (cs'.map V.str)) := kp6.at1 fb hf5
    have gb : g ≠ b := by
      obtain ⟨_, hb⟩ := B6.lst
      exact Ne.symm (ne_of_none hb ng)
    have gf : g ≠ f := Ne.symm (ne_of_none hf6 ng)
    walk_at "rd"
    refine ⟨b, m + 3 * nTree n', _, rfl, (B6.keep kp7).mono (by omega), by omega, by omega, fun H8 p ms kp8 np8 B8 hp8 lms pms bms => ?_⟩
    have hf8 : H8 f = some (.lst (cs'.map V.str)) := kp8.at1 fb (kp7.at0 hf6)
    have hg8 : H8 g = some (.lst []) := kp8.at1 gb hg
    have pb : p ≠ b := by
      obtain ⟨_, hb⟩ := B6.lst
      have := kp7.at0 hb
      exact Ne.symm (ne_of_none this np8)
    have pg : p ≠ g := Ne.symm (ne_of_none hg np8)
    refine r_walkL (.inl (.inl hp8)) ?_
    have l3 : ms.length ≤ 3 := by omega
    refine for_list (K := K) (a := p) (xs := ms.map V.int) (fun i σ' H' => ∃ (x : Option V) (bs : List (Int × Tr)) (ys : List V), σ' = [some (.ref b), some (.ref l), some (.int k), some (.ref f), some (.str c), some (.int (1 + r)), some (.ref g), x] ∧ Kp [b, g] H8 H' ∧ H' g = some (.lst ys) ∧ DqAll K H' ys (brd bs) ∧ bs.map Prod.fst = ms.take i ∧ (∀ z ∈ bs, Okt n' cs' z.2) ∧ Box H' b (m + (ms.length - i) * nTree n')) ?_ (fun i σ' H' hi ⟨x, bs, ys, e1, k9, _⟩ => .inl (.inl (k9 _ _ (by simp [pb, pg]) hp8))) ?_ ?_
    · refine ⟨_, [], [], rfl, Kp.refl, hg8, ?_, rfl, (fun _ h => nomatch h), B8.mono ?_⟩
      · rw [brd]
        exact .nil
      · have : ms.length * nTree n' ≤ 3 * nTree n' := Nat.mul_le_mul_right _ l3
        rw [Nat.sub_zero]
        omega
    · rintro i xv σ' H9 hx ⟨x, bs, ys, rfl, kp9, hg9, dp9, ebs, ok9, B9⟩
      obtain ⟨v, hv, rfl⟩ : ∃ v, ms[i]? = some v ∧ xv = V.int v := by
        rw [List.getElem?_map] at hx
        cases e : ms[i]? with
        | none => rw [e] at hx; cases hx
        | some v => rw [e] at hx; exact ⟨v, rfl, (Option.some.inj hx).symm⟩
      have hi : i < ms.length := (List.getElem?_eq_some_iff.mp hv).1
      obtain ⟨d, hd⟩ : ∃ d, ms.length - i = d + 1 := ⟨ms.length - i - 1, by omega⟩
      have hd' : ms.length - (i + 1) = d := by omega
      rw [hd, Nat.succ_mul] at B9
      have hf9 : H9 f = some (.lst (cs'.map V.str)) := kp9 _ _ (by simp [fb, Ne.symm gf]) hf8
      walk_at "rd"
      refine r_div (by omega) (by omega) (by omega) fun y y0 y1 => ?_
      walk_at "rd"
      refine ⟨b, f, m + d * nTree n', y, cs', rfl, B9.mono (by omega), .inl (.inl hf9), fb, hcc, hcl, by omega, by omega, fun H10 w t kp10 B10 dp10 ok10 => ?_⟩
      walk_at "rd"
      refine r_newF rfl fun a oa na oda => ?_
      refine gen_newT na oda fun H11 kp11 ha => ?_
      have hg11 : H11 g = some (.lst ys) := kp11.at0 (kp10.at1 gb hg9)
      have lys : ys.length < 1000000 := by
        rw [dqAll_len dp9, brd_len, ← List.length_map (f := Prod.fst), ebs, List.length_take]
        omega
      walk_at "rd"
      refine r_app0 hg11 lys ?_
      refine gen_put fun H12 kp12 hg12 => ?_
      have nls : noLs (brd bs) = true := by
        refine noLs_mem fun d hd => ?_
        rw [brd_eq] at hd
        obtain ⟨z, hz, rfl⟩ := List.mem_map.mp hd
        rw [noL, noLs, noLs, noLs, noL, (ok9 z hz).noL]
        rfl
      have dp12 : DqAll K H12 ys (brd bs) := DqAll.keepS kp12 (Mu.lst hg11) _ _ nls (DqAll.keep0 kp11 _ _ (DqAll.keepS kp10 B9.mu _ _ nls dp9))
      have dw12 : Dq K H12 w t.d := Dq.keepS kp12 (Mu.lst hg11) _ _ ok10.noL (Dq.keep0 kp11 _ _ dp10)
      have ha12 : Tm H12 a [.int v, w] := ha.keepM kp12 (Mu.lst hg11)
      refine ⟨_, bs ++ [(v, t)], _, rfl, ?_, hg12, ?_, ?_, ?_, ?_⟩
      · refine ((kp9.trans (kp10.mono (by simp))).trans (Kp.mono kp11 (by simp))).trans (kp12.mono (by simp))
      · rw [brd_eq, List.map_append, ← brd_eq]
        refine DqAll.append dp12 (.cons (.tup ha12 (.cons (.int v) (.cons dw12 .nil))) .nil)
      · rw [List.map_append, ebs, List.take_add_one, hv]
        rfl
      · intro z hz
        rcases List.mem_append.mp hz with h | h
        · exact ok9 z h
        · have e : z = (v, t) := by simpa using h
          subst e
          exact ok10
      · rw [hd']
        exact (B10.keep kp11).keepS kp12 (nin1 (Ne.symm gb))
    · rintro σ' H9 ⟨x, bs, ys, rfl, kp9, hg9, dp9, ebs, ok9, B9⟩
      walk_at "rd"
      refine r_tupL hg9 fun a H10 na kp10 ha => ?_
      walk_at "rd"
      refine r_newF rfl fun e oe ne ode => ?_
      refine gen_newT ne ode fun H11 kp11 he => ?_
      rw [List.length_map, List.take_length] at ebs
      have kA : Kp [b] H H2 := (Kp.to1 kp1).trans kp2
      have hfn : H f = none := kA.none0 (nin1 fb) nf
      have kB : Kp [b] H H6 := (((kA.trans (Kp.to1 kp3)).trans kp4).dropT kp5 (fun a m => .inr (by rw [show a = f by simpa using m]; exact hfn))).trans kp6
      have hgn : H g = none := kB.none0 (nin1 gb) ng
      have kC : Kp [b] H H8 := (kB.trans (Kp.to1 kp7)).trans kp8
      have kD : Kp [b] H H9 := kC.dropT kp9 fun a m => by
        rcases List.mem_cons.mp m with h | h
        · exact .inl (by rw [h]; exact List.mem_cons_self ..)
        · exact .inr (by rw [show a = g by simpa using h]; exact hgn)
      have lbs : bs.length = ms.length := by rw [← List.length_map (f := Prod.fst), ebs]
      refine q H11 _ (.nd c bs) (kD.trans (Kp.to1 (kp10.trans kp11))) (((B9.keep kp10).keep kp11).mono (by omega)) ?_ ?_
      · rw [Tr.d]
        exact .tup he (.cons (.str c) (.cons (.tup (ha.keep0 kp11) (DqAll.keep0 (kp10.trans kp11) _ _ dp9)) .nil))
      · refine .nd hcm hcn hcs' ?_ (by omega) (by rw [ebs]; exact pms) ?_ ok9
        · intro z
          rw [z] at lbs
          simp at lbs
          omega
        · intro z hz
          exact bms _ (by rw [← ebs]; exact List.mem_map_of_mem hz)
end
theorem fn_tree {P : Program} {w : World} {K : PySem.W.Frag} {mg : Str → Option Value} {base : Heap} {f : Addr} {fd : FuncData} (F : Fun K "_law_tree" "_law_tree" s_tree f fd) (g : mg "_law_tree" = some (.ref f)) (z : Zb mg)
    (k_take : Kn P w K mg base CX0 1 "_law_take" sp_take) (k_values : Kn P w K mg base CX0 2 "_law_values" sp_values) : ∀ n, FnG P w K mg base CX0 (n + 3) f fd ["_law_box_here", "_law_cells_here", "_law_budget"] (sp_tree K n)
  | 0 => k_tree1 F g z 0 (fun _ _ _ _ => False) k_take k_values ⟨f, fd, ["_law_box_here", "_law_cells_here", "_law_budget"], ⟨fun _ _ _ _ h => h.elim, fun _ _ _ _ _ _ _ _ _ _ _ _ _ h => h.elim⟩, g, F.kp, F.binds (fun _ _ _ _ _ _ us hl => match us, hl with | [_, _, _], _ => rfl)⟩ (fun m h => by omega)
  | n + 1 => k_tree1 F g z (n + 1) (sp_tree K n) k_take k_values ⟨f, fd, _, fn_tree F g z k_take k_values n, g, F.kp, F.binds (fun _ _ _ _ _ _ us hl => match us, hl with | [_, _, _], _ => rfl)⟩ (fun m h => by
    have : n = m := by omega
    rw [this])
def sp_treeA (K : PySem.W.Frag) : Sp := fun vs H Q E => ∃ j, j ≤ 9 ∧ sp_tree K j vs H Q E
theorem k_tree {P : Program} {w : World} {K : PySem.W.Frag} {mg : Str → Option Value} {base : Heap} {f : Addr} {fd : FuncData} (F : Fun K "_law_tree" "_law_tree" s_tree f fd) (g : mg "_law_tree" = some (.ref f)) (z : Zb mg)
    (k_take : Kn P w K mg base CX0 1 "_law_take" sp_take) (k_values : Kn P w K mg base CX0 2 "_law_values" sp_values) : Kn P w K mg base CX0 12 "_law_tree" (sp_treeA K) :=
  ⟨f, fd, ["_law_box_here", "_law_cells_here", "_law_budget"], ⟨fun vs H Q E ⟨j, hj, h⟩ => (fn_tree F g z k_take k_values j).len vs H Q E h,
    fun A outer s H args us vs Q E hr env b r ⟨j, hj, h⟩ => (fn_tree F g z k_take k_values j).run A outer s H args us vs Q E (hr.mono (by omega)) env b r h⟩, g, F.kp, F.binds (fun _ _ _ _ _ _ us hl => match us, hl with | [_, _, _], _ => rfl)⟩
section
variable {P : Program} {ww : World} {K : PySem.W.Frag} {F : Fr} {H : Hp} {σ : St} {env env' : List Sl} {ts : Ts} {x y b : V} {d : PyData} {ds : List PyData} {Q : VK} {E : XK} {i n m : Nat} {s : Sl}
theorem z_tree {u : Int} {cs : List Str} {l : V} (R : Rp F H σ env ((x, .fz (.int u)) :: (l, s) :: (b, .al i) :: ts)) (e : asD s = some (.list (cs.map PyData.str))) (hb : env[i]? = some (.box n)) (hc : Cells cs) (lc : cs.length ≤ 9) (u1 : u ≤ 1000000000) (hm : m + nTree cs.length ≤ n) (he : SetE env i (.box m) env')
    (h : ∀ (v : V) (H' : Hp) (t : Tr), Okt cs.length cs t → Rp F H' σ env' ((v, .fz t.d) :: ts) → Q v H') : sp_treeA K [b, l, x] H Q E := by
  have R := R.fr [_] e
  obtain ⟨S, w, R⟩ := R
  obtain ⟨a, ea, B, aS, k⟩ := R.pop.pop.pop.boxSlot hb
  have e4 := R.alSlot (i := i) (z := b) (List.mem_cons_of_mem _ (List.mem_cons_of_mem _ (List.mem_cons_self ..)))
  rw [ea] at e4
  cases e4
  obtain ⟨p, xs, rfl, np, r, f⟩ := R.pop.top.l
  have ex := f.strs
  subst ex
  refine ⟨cs.length, lc, a, p, m, u, cs, by rw [R.top.i], B.mono hm, .inl (.inl r), fun z => np (by rw [z]; exact aS), hc, rfl, by omega, u1, fun H' v t kp B' dq ok => h _ _ t ok ?_⟩
  have R2 := k H' m kp B'
  rw [he.eq] at R2
  exact ⟨S, w, R2.push (Dq.fz (K := K) R2.mtb _ _ ok.noL dq)⟩
end

end L2.Ro

end
section
set_option Elab.async false
set_option linter.all false
set_option maxRecDepth 100000
set_option maxHeartbeats 4000000
local macro_rules | `(tactic| walk_at "rd1") => `(tactic| with_reducible first
  | refine L2.Rx.r_seq ?_ | refine L2.Rx.r_asg ?_ | refine L2.Rx.r_gname ?_ | refine L2.Rx.r_op ?_ | refine L2.Rx.r_c ?_
  | refine L2.Rx.r_var rfl ?_
  | refine L2.Rx.r_rI0 ?_ | refine L2.Rx.r_test ?_ | refine L2.Rx.r_bl ?_ | refine L2.Rx.r_if ?_ | refine L2.Rx.r_ret ?_
  | refine L2.Rx.r_cons ?_ | refine L2.Rx.r_nil ?_ | refine L2.Rx.r_call ?_ | refine L2.Rx.r_cb ?_ | refine L2.Rx.r_next ?_ | refine L2.Rx.r_drop ?_
  | refine L2.Rx.r_gsub ?_ | refine L2.Rx.r_tupF ?_ | refine L2.Rx.r_lst ?_ | refine L2.Rx.r_par ?_ | refine L2.Rx.r_par2 ?_
  | refine L2.Rx.r_un ?_ | refine L2.Rx.r_tb ?_ | refine L2.Rx.r_and ?_ | refine L2.Rx.r_or ?_ | refine L2.Rx.r_not ?_
  | refine L2.Rx.r_andV ?_ | refine L2.Rx.r_orV ?_ | refine L2.Rx.r_notV ?_ | refine L2.Rx.r_ifx ?_ | refine L2.Rx.r_chain ?_
  | refine L2.Rx.r_sl ?_ | refine L2.Rx.r_nopart ?_ | refine L2.Rx.r_part ?_ | refine L2.Rx.r_exint ?_ | refine L2.Rx.r_bm0 ?_ | refine L2.Rx.r_bm ?_
  | refine L2.Rx.r_lc ?_ | refine L2.Rx.r_rng1 ?_ | refine L2.Rx.r_yes ?_ | refine L2.Rx.r_tt ?_ | refine L2.Rx.r_ff ?_ | refine L2.Rx.r_m1 ?_ | refine L2.Rx.r_m0 ?_ | refine L2.Rx.r_isS ?_
  | (refine L2.Rx.r_wipe (by with_unfolding_all rfl) ?_) | (refine L2.Rx.r_tyL (by walk_at "hp") ?_)
  | refine L2.Rx.r_addS (by walk_at "len") ?_ | refine L2.Rx.r_lenS (by walk_at "len") ?_ | refine L2.Rx.r_slS (by walk_at "len") ?_
  | refine L2.Rx.r_dnotin ?_ | refine L2.Rx.r_dget ?_ | refine L2.Rx.r_dget1 ?_ | refine L2.Rx.r_dput ?_ | refine L2.Rx.r_dpop1 ?_ | refine L2.Rx.r_isN ?_
  | refine L2.Rx.r_for ?_ | refine L2.Rx.r_ilist ?_ | refine L2.Rx.r_itup ?_
  | refine L2.Rx.r_gcons ?_ | refine L2.Rx.r_gnil ?_ | (refine L2.Rx.r_gtupP (by assumption) (by walk_at "at") ?_)
  | (refine L2.Rx.r_rEq rfl ?_) | (refine L2.Rx.r_rNe rfl ?_)
  | refine L2.Rx.r_rU ?_ | refine L2.Rx.r_max2 ?_ | refine L2.Rx.r_min2 ?_ | refine L2.Rx.r_int1i ?_ | (refine L2.Rx.r_lenh (by walk_at "hp") ?_)
  | (refine L2.Rx.r_ixLh (by walk_at "hp") (by walk_at "at") ?_)
  | (refine L2.Rx.r_setL (by walk_at "hp") (by walk_at "at") ?_))
local macro_rules | `(tactic| walk_at "at") => `(tactic| with_unfolding_all rfl)
local macro_rules | `(tactic| walk_at "rd") => `(tactic| (repeat walk_at "rd1"))
local macro_rules | `(tactic| walk_at "hp") => `(tactic| first
  | assumption
  | exact L2.upd_same
  | (refine Eq.trans (L2.upd_ne ?_) ?_; (focus walk_at "ne"); (focus walk_at "hp"))
  | (refine L2.Rx.Kp.at0 (by assumption) ?_; walk_at "hp")
  | (refine L2.Rx.Kp.at1 (by assumption) ?_ ?_; (focus walk_at "ne"); (focus walk_at "hp")))
local macro_rules | `(tactic| walk_at "ne") => `(tactic| first
  | assumption | exact Ne.symm (by assumption)
  | (refine L2.ne_of_none (H := ?nH) (o := ?nO) ?nh ?nn; (case nn => assumption); (case nh => walk_at "hp"))
  | (refine Ne.symm (L2.ne_of_none (H := ?nH) (o := ?nO) ?nh ?nn); (case nn => assumption); (case nh => walk_at "hp")))
local macro_rules | `(tactic| walk_at "len") => `(tactic| (rw [PySem.sizeLine_eq]; omega))
local macro_rules | `(tactic| walk_at "nin") => `(tactic| first
  | exact List.not_mem_nil
  | (refine L2.Rx.nin1 ?_; walk_at "ne"))
local macro_rules | `(tactic| walk_at "none") => `(tactic| first
  | assumption
  | (refine L2.Rx.Kp.none0 (by assumption) ?_ ?_; (focus walk_at "nin"); (focus walk_at "none")))
set_option hygiene false
local macro_rules | `(tactic| walk_at "se") => `(tactic| first | exact L2.Z.SetE.z | exact L2.Z.SetE.s (L2.Z.SetE.z) | exact L2.Z.SetE.s (L2.Z.SetE.s (L2.Z.SetE.z)) | exact L2.Z.SetE.s (L2.Z.SetE.s (L2.Z.SetE.s (L2.Z.SetE.z))) | exact L2.Z.SetE.s (L2.Z.SetE.s (L2.Z.SetE.s (L2.Z.SetE.s (L2.Z.SetE.z)))) | exact L2.Z.SetE.s (L2.Z.SetE.s (L2.Z.SetE.s (L2.Z.SetE.s (L2.Z.SetE.s (L2.Z.SetE.z))))) | exact L2.Z.SetE.s (L2.Z.SetE.s (L2.Z.SetE.s (L2.Z.SetE.s (L2.Z.SetE.s (L2.Z.SetE.s (L2.Z.SetE.z)))))) | exact L2.Z.SetE.s (L2.Z.SetE.s (L2.Z.SetE.s (L2.Z.SetE.s (L2.Z.SetE.s (L2.Z.SetE.s (L2.Z.SetE.s (L2.Z.SetE.z))))))) | exact L2.Z.SetE.s (L2.Z.SetE.s (L2.Z.SetE.s (L2.Z.SetE.s (L2.Z.SetE.s (L2.Z.SetE.s (L2.Z.SetE.s (L2.Z.SetE.s (L2.Z.SetE.z)))))))) | exact L2.Z.SetE.s (L2.Z.SetE.s (L2.Z.SetE.s (L2.Z.SetE.s (L2.Z.SetE.s (L2.Z.SetE.s (L2.Z.SetE.s (L2.Z.SetE.s (L2.Z.SetE.s (L2.Z.SetE.z))))))))) | exact L2.Z.SetE.s (L2.Z.SetE.s (L2.Z.SetE.s (L2.Z.SetE.s (L2.Z.SetE.s (L2.Z.SetE.s (L2.Z.SetE.s (L2.Z.SetE.s (L2.Z.SetE.s (L2.Z.SetE.s (L2.Z.SetE.z)))))))))) | exact L2.Z.SetE.s (L2.Z.SetE.s (L2.Z.SetE.s (L2.Z.SetE.s (L2.Z.SetE.s (L2.Z.SetE.s (L2.Z.SetE.s (L2.Z.SetE.s (L2.Z.SetE.s (L2.Z.SetE.s (L2.Z.SetE.s (L2.Z.SetE.z))))))))))) | exact L2.Z.SetE.s (L2.Z.SetE.s (L2.Z.SetE.s (L2.Z.SetE.s (L2.Z.SetE.s (L2.Z.SetE.s (L2.Z.SetE.s (L2.Z.SetE.s (L2.Z.SetE.s (L2.Z.SetE.s (L2.Z.SetE.s (L2.Z.SetE.s (L2.Z.SetE.z)))))))))))) | exact L2.Z.SetE.s (L2.Z.SetE.s (L2.Z.SetE.s (L2.Z.SetE.s (L2.Z.SetE.s (L2.Z.SetE.s (L2.Z.SetE.s (L2.Z.SetE.s (L2.Z.SetE.s (L2.Z.SetE.s (L2.Z.SetE.s (L2.Z.SetE.s (L2.Z.SetE.s (L2.Z.SetE.z))))))))))))) | exact L2.Z.SetE.s (L2.Z.SetE.s (L2.Z.SetE.s (L2.Z.SetE.s (L2.Z.SetE.s (L2.Z.SetE.s (L2.Z.SetE.s (L2.Z.SetE.s (L2.Z.SetE.s (L2.Z.SetE.s (L2.Z.SetE.s (L2.Z.SetE.s (L2.Z.SetE.s (L2.Z.SetE.s (L2.Z.SetE.z)))))))))))))) | exact L2.Z.SetE.s (L2.Z.SetE.s (L2.Z.SetE.s (L2.Z.SetE.s (L2.Z.SetE.s (L2.Z.SetE.s (L2.Z.SetE.s (L2.Z.SetE.s (L2.Z.SetE.s (L2.Z.SetE.s (L2.Z.SetE.s (L2.Z.SetE.s (L2.Z.SetE.s (L2.Z.SetE.s (L2.Z.SetE.s (L2.Z.SetE.z))))))))))))))) | exact L2.Z.SetE.s (L2.Z.SetE.s (L2.Z.SetE.s (L2.Z.SetE.s (L2.Z.SetE.s (L2.Z.SetE.s (L2.Z.SetE.s (L2.Z.SetE.s (L2.Z.SetE.s (L2.Z.SetE.s (L2.Z.SetE.s (L2.Z.SetE.s (L2.Z.SetE.s (L2.Z.SetE.s (L2.Z.SetE.s (L2.Z.SetE.s (L2.Z.SetE.z)))))))))))))))) | exact L2.Z.SetE.s (L2.Z.SetE.s (L2.Z.SetE.s (L2.Z.SetE.s (L2.Z.SetE.s (L2.Z.SetE.s (L2.Z.SetE.s (L2.Z.SetE.s (L2.Z.SetE.s (L2.Z.SetE.s (L2.Z.SetE.s (L2.Z.SetE.s (L2.Z.SetE.s (L2.Z.SetE.s (L2.Z.SetE.s (L2.Z.SetE.s (L2.Z.SetE.s (L2.Z.SetE.z))))))))))))))))) | exact L2.Z.SetE.s (L2.Z.SetE.s (L2.Z.SetE.s (L2.Z.SetE.s (L2.Z.SetE.s (L2.Z.SetE.s (L2.Z.SetE.s (L2.Z.SetE.s (L2.Z.SetE.s (L2.Z.SetE.s (L2.Z.SetE.s (L2.Z.SetE.s (L2.Z.SetE.s (L2.Z.SetE.s (L2.Z.SetE.s (L2.Z.SetE.s (L2.Z.SetE.s (L2.Z.SetE.s (L2.Z.SetE.z)))))))))))))))))) | exact L2.Z.SetE.s (L2.Z.SetE.s (L2.Z.SetE.s (L2.Z.SetE.s (L2.Z.SetE.s (L2.Z.SetE.s (L2.Z.SetE.s (L2.Z.SetE.s (L2.Z.SetE.s (L2.Z.SetE.s (L2.Z.SetE.s (L2.Z.SetE.s (L2.Z.SetE.s (L2.Z.SetE.s (L2.Z.SetE.s (L2.Z.SetE.s (L2.Z.SetE.s (L2.Z.SetE.s (L2.Z.SetE.s (L2.Z.SetE.z))))))))))))))))))) | exact L2.Z.SetE.s (L2.Z.SetE.s (L2.Z.SetE.s (L2.Z.SetE.s (L2.Z.SetE.s (L2.Z.SetE.s (L2.Z.SetE.s (L2.Z.SetE.s (L2.Z.SetE.s (L2.Z.SetE.s (L2.Z.SetE.s (L2.Z.SetE.s (L2.Z.SetE.s (L2.Z.SetE.s (L2.Z.SetE.s (L2.Z.SetE.s (L2.Z.SetE.s (L2.Z.SetE.s (L2.Z.SetE.s (L2.Z.SetE.s (L2.Z.SetE.z)))))))))))))))))))) | exact L2.Z.SetE.s (L2.Z.SetE.s (L2.Z.SetE.s (L2.Z.SetE.s (L2.Z.SetE.s (L2.Z.SetE.s (L2.Z.SetE.s (L2.Z.SetE.s (L2.Z.SetE.s (L2.Z.SetE.s (L2.Z.SetE.s (L2.Z.SetE.s (L2.Z.SetE.s (L2.Z.SetE.s (L2.Z.SetE.s (L2.Z.SetE.s (L2.Z.SetE.s (L2.Z.SetE.s (L2.Z.SetE.s (L2.Z.SetE.s (L2.Z.SetE.s (L2.Z.SetE.z))))))))))))))))))))))
local macro_rules | `(tactic| walk_at "rf") => `(tactic| with_unfolding_all rfl)
local macro_rules | `(tactic| walk_at "sq") => `(tactic| first | exact L2.Z.Sq.t _ | exact L2.Z.Sq.l _)
local macro_rules | `(tactic| walk_at "nal") => `(tactic| rfl)
local macro_rules | `(tactic| walk_at "st") => `(tactic| with_reducible first
  | refine L2.Rx.r_seq ?_ | refine L2.Rx.r_asg ?_ | refine L2.Rx.r_op ?_
  | refine L2.Rx.r_test ?_ | refine L2.Rx.r_if ?_ | refine L2.Rx.r_ret ?_
  | refine L2.Rx.r_cons ?_ | refine L2.Rx.r_nil ?_ | refine L2.Rx.r_call ?_ | refine L2.Rx.r_cb ?_ | refine L2.Rx.r_next ?_ | refine L2.Rx.r_drop ?_
  | refine L2.Rx.r_gsub ?_ | refine L2.Rx.r_tupF ?_ | refine L2.Rx.r_lst ?_ | refine L2.Rx.r_par ?_ | refine L2.Rx.r_par2 ?_
  | refine L2.Rx.r_un ?_ | refine L2.Rx.r_tb ?_ | refine L2.Rx.r_and ?_ | refine L2.Rx.r_or ?_ | refine L2.Rx.r_not ?_
  | refine L2.Rx.r_andV ?_ | refine L2.Rx.r_orV ?_ | refine L2.Rx.r_notV ?_ | refine L2.Rx.r_ifx ?_ | refine L2.Rx.r_chain ?_
  | refine L2.Rx.r_sl ?_ | refine L2.Rx.r_nopart ?_ | refine L2.Rx.r_part ?_ | refine L2.Rx.r_bm0 ?_ | refine L2.Rx.r_bm ?_
  | refine L2.Rx.r_lc ?_ | refine L2.Rx.r_rng1 ?_ | refine L2.Rx.r_yes ?_ | refine L2.Rx.r_tt ?_ | refine L2.Rx.r_ff ?_ | refine L2.Rx.r_m1 ?_ | refine L2.Rx.r_m0 ?_
  | refine L2.Rx.r_dnotin ?_ | refine L2.Rx.r_dget ?_ | refine L2.Rx.r_dget1 ?_ | refine L2.Rx.r_dget2 ?_ | refine L2.Rx.r_dput ?_
  | refine L2.Rx.r_for ?_ | refine L2.Rx.r_ilist ?_ | refine L2.Rx.r_itup ?_
  | refine L2.Rx.r_gcons ?_ | refine L2.Rx.r_gnil ?_ | refine L2.Rx.r_kw ?_ | (show L2.Rx.tSf2 _ _ _ _ _ _ _ _ _ _ _ _ _; unfold L2.Rx.tSf2))
local macro_rules | `(tactic| walk_at "zv") => `(tactic| first
  | (refine L2.Z.z_int R (fun v R => ?_))
  | (refine L2.Z.z_str R (fun v R => ?_))
  | (refine L2.Z.z_bl R (fun v R => ?_))
  | (refine L2.Z.z_non R (fun v R => ?_))
  | (refine L2.Z.z_var R (by walk_at "rf") (fun v R => ?_))
  | (refine L2.Z.z_varA R (by walk_at "rf") (by rfl) (fun v R => ?_))
  | (refine L2.Z.y_lcName R (by decide) (by walk_at "se") (by rfl) (by rfl) (fun σ hw R => ?_))
  | (refine L2.Z.y_lcPair R (by decide) (by decide) (by walk_at "se") (by walk_at "se") (by rfl) (fun σ hw R => ?_))
  | (refine L2.Z.y_lcPairP R (by decide) (by decide) (by walk_at "se") (by walk_at "se") (by rfl) (fun σ hw R => ?_))
  | (refine L2.Z.y_name R (by walk_at "se") (by rfl) (by rfl) (fun σ R => ?_))
  | (refine L2.Z.z_gtup2 R (fun a b R => ?_))
  | (refine L2.Z.z_gtupP R (fun a b R => ?_))
  | (refine L2.Z.z_gtup3 R (fun a b c R => ?_))
  | (refine L2.Z.z_isD R (by walk_at "rf") (fun a R => ?_))
  | (refine L2.Z.z_isb R (fun R => ?_))
  | (refine L2.Z.z_isi R (fun R => ?_)))
local macro_rules | `(tactic| walk_at "zo") => `(tactic| first
  | (refine L2.Z.z_rI0i R (fun v R => ?_))
  | (refine L2.Z.z_rI0b R (fun v R => ?_))
  | (refine L2.Z.z_eqI R (fun v R => ?_))
  | (refine L2.Z.z_neI R (fun v R => ?_))
  | (refine L2.Z.z_eqS R (fun v R => ?_))
  | (refine L2.Z.z_neS R (fun v R => ?_))
  | (refine L2.Z.z_isV R (fun v R => ?_))
  | (refine L2.Z.z_notV R (fun v R => ?_))
  | (refine L2.Z.z_len R (by walk_at "rf") (by walk_at "sq") (fun v R => ?_))
  | (refine L2.Z.z_tup0 R (fun p o R => ?_); refine L2.Z.gen_R R (fun v H R => ?_))
  | (refine L2.Z.z_tup1 R (by walk_at "rf") (fun p o R => ?_); refine L2.Z.gen_R R (fun v H R => ?_))
  | (refine L2.Z.z_tup2 R (by walk_at "rf") (by walk_at "rf") (fun p o R => ?_); refine L2.Z.gen_R R (fun v H R => ?_))
  | (refine L2.Z.z_tup3 R (by walk_at "rf") (by walk_at "rf") (by walk_at "rf") (fun p o R => ?_); refine L2.Z.gen_R R (fun v H R => ?_))
  | (refine L2.Z.z_lst0 R (fun p R => ?_); refine L2.Z.gen_R R (fun v H R => ?_))
  | (refine L2.Z.z_lst1 R (by walk_at "rf") (fun p R => ?_); refine L2.Z.gen_R R (fun v H R => ?_))
  | (refine L2.Z.z_lst2 R (by walk_at "rf") (by walk_at "rf") (fun p R => ?_); refine L2.Z.gen_R R (fun v H R => ?_))
  | (refine L2.Z.z_lst3 R (by walk_at "rf") (by walk_at "rf") (by walk_at "rf") (fun p R => ?_); refine L2.Z.gen_R R (fun v H R => ?_))
  | (refine L2.Z.z_tupL R (by walk_at "rf") (fun v H R => ?_))
  | (refine L2.Z.z_tupT R (fun v R => ?_))
  | (refine L2.Z.z_listOf R (by walk_at "rf") (by walk_at "sq") (fun v H R => ?_))
  | (refine L2.Z.z_slL R (by walk_at "rf") (fun v H R => ?_))
  | (refine L2.Z.z_isStr R ?_)
  | (refine L2.Z.z_tyL R (by walk_at "rf") ?_)
  | (refine L2.Z.z_isD R (by walk_at "rf") (fun a R => ?_))
  | (refine L2.Z.z_dnew R (fun v H R => ?_))
  | (refine L2.Z.z_max2 R (fun v R => ?_))
  | (refine L2.Z.z_min2 R (fun v R => ?_)))
local macro_rules | `(tactic| walk_at "z1") => `(tactic| first | walk_at "st" | walk_at "zv" | walk_at "zo")
local macro_rules | `(tactic| walk_at "z") => `(tactic| (repeat walk_at "z1"))
local macro_rules | `(tactic| walk_at "ret") => `(tactic| refine L2.Z.z_retP R rfl (fun k f => q _ _ _ k f ?_))
local macro_rules | `(tactic| walk_at "fadd") => `(tactic| exact L2.Z.z_fAdd R rfl hw la ha hacc (by omega) rfl rfl rfl)
local macro_rules | `(tactic| walk_at "get") => `(tactic| first
  | (refine L2.Z.z_getL R (by walk_at "rf") (fun o R => ?_); refine L2.Z.gen_V R (fun v R => ?_))
  | (refine L2.Z.z_getL2 R (by walk_at "rf") (fun o R => ?_); refine L2.Z.gen_V R (fun v R => ?_))
  | (refine L2.Z.z_dinL R (by walk_at "rf") (fun a o R => ?_); refine L2.Z.gen_V R (fun v R => ?_))
  | (refine L2.Z.z_dninL R (by walk_at "rf") (fun a o R => ?_); refine L2.Z.gen_V R (fun v R => ?_))
  | (refine L2.Z.z_get1 R (by walk_at "rf") (by walk_at "rf") (fun o R => ?_); refine L2.Z.gen_V R (fun v R => ?_))
  | (refine L2.Z.z_get2 R (by walk_at "rf") (by walk_at "rf") (fun o R => ?_); refine L2.Z.gen_V R (fun v R => ?_))
  | (refine L2.Z.z_din R (by walk_at "rf") (by walk_at "rf") (fun a o R => ?_); refine L2.Z.gen_V R (fun v R => ?_))
  | (refine L2.Z.z_dnin R (by walk_at "rf") (by walk_at "rf") (fun a o R => ?_); refine L2.Z.gen_V R (fun v R => ?_)))
namespace L2.Ro
open PySem PySem.Spec PyProof.Rows L2.Rx L2.Z
def enc_ck : List Str × Nat → List PyData := fun a => [.list (a.1.map PyData.str), .int a.2]
section
variable {P : Program} {w : World} {K : PySem.W.Frag} {mg : Str → Option Value} {base : Heap}
theorem k_logs {f : Addr} {fd : FuncData} (F : Fun K "_law_logs" "_law_logs" s_logs f fd) (g : mg "_law_logs" = some (.ref f)) (z : Zb mg) (k_take : Kn P w K mg base CX0 1 "_law_take" sp_take) (k_loose : Kn P w K mg base CX0 2 "_law_loose" (spB enc_ni (fun a c => Cells a.1 ∧ a.1.length ≤ 9 ∧ 1 ≤ a.2 ∧ a.2 ≤ 13 ∧ c = 300) post_logs)) (k_leaves : Kn P w K mg base CX0 1 "_law_leaves" (sp_leaves K)) (k_tree : Kn P w K mg base CX0 12 "_law_tree" (sp_treeA K))  : Kn P w K mg base CX0 13 "_law_logs" (spB enc_ck (fun a c => Cells a.1 ∧ 1 ≤ a.1.length ∧ a.1.length ≤ 6 ∧ 1 ≤ a.2 ∧ a.2 ≤ 12 ∧ c = 5000) post_logs) := by
  refine ⟨f, fd, ["_law_box_here", "_law_cells_here", "_law_budget"], fnG_body F sc_logs (fun vs H Q E h => ?_) (fun cdv A outer s H vs Q E hr h => ?_), g, F.kp, F.binds (fun _ _ _ _ _ _ us hl => match us, hl with | [_, _, _], _ => rfl)⟩
  · obtain ⟨b, vs', S, ⟨cs, n⟩, c, m, rfl, bS, f, mm, ⟨hc, l1, l6, n1, n12, rfl⟩, B, q⟩ := h
    show vs'.length + 1 = _
    rw [f.len]
    rfl
  · obtain ⟨b, vs', S, ⟨cs, n⟩, c, m, rfl, bS, f, mm, ⟨hc, l1, l6, n1, n12, rfl⟩, B, q⟩ := h
    have R : Rp ⟨K, H, S, [b], []⟩ H (start ["_law_box_here", "_law_cells_here", "_law_budget", "_law_way", "_law_found", "_law_at", "_law_entry", "_law_spot", "_law_changed", "_law_name", "_law_value_here"] (.ref b :: vs')) [.box (5000 + m), .fz (.list (cs.map PyData.str)), .fz (.int n), .junk, .junk, .junk, .junk, .junk, .junk, .junk, .junk] [] := start_B K f mm bS B rfl rfl rfl
    refine ⟨_, PSs.nox (pss_cons (ps_set (i := 3) sc_logs.nd rfl (.inl rfl) (k_take.call hr (by decide) (by rfl) (pa_cons (pv 0) (pa_cons pe_int pa_nil))))
      (pss_cons (ps_if (pt_cmpR op_eq (pv 3) pe_int (nomark _))
        (pss_one (ps_ret (k_loose.call hr (by decide) (by rfl) (pa_cons (pv 0) (pa_cons (pv 1) (pa_cons (pe_op op_add pe_int (k_take.call hr (by decide) (by rfl) (pa_cons (pv 0) (pa_cons (pv 2) pa_nil)))) pa_nil))))))
        pss_nil)
      (pss_cons (ps_set (i := 4) sc_logs.nd rfl (.inl rfl) (pe_callTy (show CallR _ _ (rListOf K) from c_list) (by rfl) z.n_list (by decide +kernel) (pa_cons (k_leaves.call hr (by decide) (by rfl) (pa_cons (k_tree.call hr (by decide) (by rfl) (pa_cons (pv 0) (pa_cons (pv 1) (pa_cons (pv 2) pa_nil)))) pa_nil)) pa_nil)))
      (pss_cons (ps_if (PW.pt (pw_and (pt_cmpR op_eq (pv 3) pe_int (nomark _)) (pw_and1 (pt_cmpR (show OpR _ _ (rNeD K) from (op_neD hr.units)) (pe_ix (show IxR _ (rIxL K) from ix_list) (pv 4) pe_int (fun _ _ => rfl)) (pe_tupF pa_nil) (nomark _)))))
        (pss_cons (ps_set (i := 5) sc_logs.nd rfl (.inl rfl) (k_take.call hr (by decide) (by rfl) (pa_cons (pv 0) (pa_cons (pe_callB (show CallR _ _ (rLenQ K) from c_len) (by rfl) z.n_len (by decide +kernel) (pa_cons (pv 4) pa_nil)) pa_nil))))
        (pss_cons (ps_set (i := 6) sc_logs.nd rfl (.inl rfl) (show PE _ _ (tBM K _ _ _ _) from pe_bm PySem.F.plainAttrs_list PySem.F.slot_list_pop PySem.F.type_list_pop mt_popAt (pv 4) (pa_cons (pv 5) pa_nil)))
        (pss_cons (ps_set (i := 7) sc_logs.nd rfl (.inl rfl) (pe_ifExp (pt_cmpR (show OpR _ _ (rNeD K) from (op_neD hr.units)) (pv 6) (pe_tupF pa_nil) (nomark _)) (k_take.call hr (by decide) (by rfl) (pa_cons (pv 0) (pa_cons (pe_callB (show CallR _ _ (rLenQ K) from c_len) (by rfl) z.n_len (by decide +kernel) (pa_cons (pv 6) pa_nil)) pa_nil))) pe_int))
        (pss_cons (ps_set (i := 8) sc_logs.nd rfl (.inl rfl) (pe_callTy (show CallR _ _ (rTupOf K) from c_tuple) (by rfl) z.n_tuple (by decide +kernel) (pa_cons (pe_lc (own := [("_law_name", 9), ("_law_value_here", 10)]) (g := (gTup K 2 (gCons (gName 9) (gCons (gName 10) gNil)))) (by rfl) sc_logs.nd (show PI _ _ _ (iTup K _) from pi_tup (pe_slice (show SlR _ (rSlF K) from sl_tupF) (pv 6) (po_some (pv 7)) (po_some (pe_op op_add (pv 7) pe_int)))) (blkOk_by (own := [("_law_name", 9), ("_law_value_here", 10)]) (N := ["_law_box_here", "_law_cells_here", "_law_budget", "_law_way", "_law_found", "_law_at", "_law_entry", "_law_spot", "_law_changed", "_law_name", "_law_value_here"]) (sc := defScope s_logs) (by decide +kernel)) (fun _ _ _ _ _ => (show PG _ _ (gTup K 2 (gCons (gName 9) (gCons (gName 10) gNil))) from pg_tup rfl (pgs_cons (pg_name (i := 9) sc_logs.nd rfl (.inl rfl)) (pgs_cons (pg_name (i := 10) sc_logs.nd rfl (.inl rfl)) pgs_nil)))) (fun _ _ _ _ _ => pts_nil) (fun _ _ _ _ _ => (pe_tupF (pa_cons (pv 9) (pa_cons (pe_op op_mod (pe_op op_add (pv 10) pe_int) (pe_op op_pow pe_int pe_int)) pa_nil))))) pa_nil)))
        (pss_cons (ps_set (i := 6) sc_logs.nd rfl (.inl rfl) (pe_op (show OpR _ _ (rCatF K) from op_catF) (pe_op (show OpR _ _ (rCatF K) from op_catF) (pe_slice (show SlR _ (rSlF K) from sl_tupF) (pv 6) po_none (po_some (pv 7))) (pv 8)) (pe_slice (show SlR _ (rSlF K) from sl_tupF) (pv 6) (po_some (pe_op op_add (pv 7) pe_int)) po_none)))
        (pss_one (ps_expr (show PE _ _ (tBM K _ _ _ _) from pe_bm PySem.F.plainAttrs_list PySem.F.slot_list_extend PySem.F.type_list_extend mt_extend (pv 4) (pa_cons (pe_op op_rep (pe_lst (pa_cons (pv 6) pa_nil)) (pe_callTy c_int1 (by rfl) z.n_int (by decide +kernel) (pa_cons (pe_cmpR (show OpR _ _ (rInA K true) from op_notinA hr.units65) (pv 6) (pv 4) (by rfl)) pa_nil))) pa_nil)))))))))
        pss_nil)
      (pss_one (ps_ret (pe_callTy (show CallR _ _ (rTupOf K) from c_tuple) (by rfl) z.n_tuple (by decide +kernel) (pa_cons (pe_callB (show CallR _ _ (rSortV K) from (call_sortV hr)) (by rfl) z.n_sorted (by decide +kernel) (pa_cons (pv 4) pa_nil)) pa_nil)))))))), ?_⟩
    generalize start ["_law_box_here", "_law_cells_here", "_law_budget", "_law_way", "_law_found", "_law_at", "_law_entry", "_law_spot", "_law_changed", "_law_name", "_law_value_here"] (.ref b :: vs') = σ at R ⊢
    rename Hp => H0
    have l1' : 1 ≤ cs.length := l1
    have l6' : cs.length ≤ 6 := l6
    have n12' : n ≤ 12 := n12
    walk_at "z"
    refine z_take (m := 4999 + m) R rfl (by decide) (by decide) (by omega) (by walk_at "se") fun v H r r0 r1 R => ?_
    walk_at "z"
    refine r_ite (fun hr0 => ?_) (fun hr0 => ?_)
    · walk_at "z"
      refine z_take (m := 4998 + m) R rfl (by omega) (by omega) (by omega) (by walk_at "se") fun v H r2 r20 r21 R => ?_
      walk_at "z"
      refine z_b2 (cs, (1 + r2).toNat) (c := 300) (m := 4698 + m) R rfl rfl rfl (by show [_, _] = [_, _]; rw [Int.toNat_of_nonneg (by omega)]) ⟨hc, by show cs.length ≤ _; omega, by show 1 ≤ (1 + r2).toNat; omega, by show (1 + r2).toNat ≤ _; omega, rfl⟩ (by omega) fun v H d hd R => ?_
      obtain ⟨ls, g, ne, rfl⟩ := hd
      refine z_retB (i := 0) (m := 4698 + m) R rfl rfl fun kp B f => q _ _ _ kp (B.mono (by omega)) f ⟨ls, g, ne, rfl⟩
    repeat walk_at "st"
    refine z_varA R (by walk_at "rf") (by rfl) (fun v R => ?_)
    repeat walk_at "st"
    refine z_var R (by walk_at "rf") (fun v R => ?_)
    repeat walk_at "st"
    refine z_var R (by walk_at "rf") (fun v R => ?_)
    repeat walk_at "st"
    have nt : nTree cs.length ≤ nTree 6 := by
      have : ∀ k : Nat, k ≤ 6 → nTree k ≤ nTree 6 := by decide +kernel
      exact this _ l6'
    have nt6 : nTree 6 = 4732 := by decide +kernel
    refine z_tree (m := 200 + m) R rfl rfl hc (by omega) (by omega) (by omega) (by walk_at "se") fun v H t ok R => ?_
    repeat walk_at "st"
    refine z_leaves R rfl ok hc.2 (by omega) fun v H zs pm ro pw R => ?_
    repeat walk_at "st"
    refine z_listOf R (by walk_at "rf") (by walk_at "sq") (fun v H R => ?_)
    repeat walk_at "st"
    refine y_name R (by walk_at "se") (by rfl) (by rfl) (fun σ R => ?_)
    have g0 : GLogs cs (zs.map Prod.fst) := by
      have pp := ok.path
      have zp : ∀ z ∈ zs, z.2 ∈ t.paths := fun z hz => pm.mem_iff.mp (List.mem_map_of_mem hz)
      have len : zs.length = t.paths.length := by rw [← pm.length_eq, List.length_map]
      have lp := ok.paths_le
      have l3 : 3 ^ cs.length ≤ 3 ^ 6 := Nat.pow_le_pow_right (by decide) l6'
      refine ⟨by rw [List.length_map, len]; exact Nat.le_trans lp (Nat.le_trans l3 (by decide)), fun l hl => ?_, fun l hl => ?_, fun l hl => ?_, ?_, apart_nd pm ok.apart fun z hz => (ro z hz).1⟩
      · obtain ⟨z, hz, rfl⟩ := List.mem_map.mp hl
        obtain ⟨a, b, c, d⟩ := pp z.2 (zp z hz)
        have p1 := (ro z hz).1
        have p2 := p1.map Prod.fst
        exact ⟨p2.nodup_iff.mpr a, by rw [p1.length_eq]; omega, fun y hy => hc.2 _ (b _ (p2.mem_iff.mp (List.mem_map_of_mem hy))), fun y hy => d y (p1.mem_iff.mp hy)⟩
      · obtain ⟨z, hz, rfl⟩ := List.mem_map.mp hl
        intro c hcc
        exact (pp z.2 (zp z hz)).2.1 c (((ro z hz).1.map Prod.fst).mem_iff.mp hcc)
      · obtain ⟨z, hz, rfl⟩ := List.mem_map.mp hl
        exact (ro z hz).2
      · rw [List.pairwise_map]
        exact pw
    have ne0 : zs.map Prod.fst ≠ [] := fun e => by
      have := ok.paths_pos
      rw [← pm.length_eq, List.length_map] at this
      have e2 := congrArg List.length e
      rw [List.length_map] at e2
      have : zs.length = 0 := e2
      omega
    have e0 : logsD (zs.map Prod.fst) = .tuple ((zs.map Prod.fst).map logD) := rfl
    generalize zs.map Prod.fst = ls at g0 ne0 R
    clear pm ro pw
    have g1 : ls.length ≤ 1000 ∧ (∀ l ∈ ls, LgOk l ∧ (∀ c ∈ l.map Prod.fst, c ∈ cs) ∧ inOrder l) := ⟨g0.len, fun l hl => ⟨g0.ok l hl, g0.sub l hl, g0.ord l hl⟩⟩
    have nd0 := g0.nd
    clear g0
    refine r_seq (r_cutS (fun σ' H' => ∃ (k : Nat) (ms : List Lg), m ≤ k ∧ ms.length ≤ 1000 ∧ (∀ l ∈ ms, LgOk l ∧ (∀ c ∈ l.map Prod.fst, c ∈ cs) ∧ inOrder l) ∧ ms.Nodup ∧ ms ≠ [] ∧ Rp ⟨K, H0, S, [b], []⟩ H' σ' [.box k, .fz (.list (cs.map PyData.str)), .fz (.int n), .fz (.int r), .own (ms.map logD), .junk, .junk, .junk, .junk, .junk, .junk] []) ?key ?h)
    case key =>
      rintro σ H ⟨k, ms, hk, ln, go, nd, ne, R⟩
      walk_at "z"
      refine z_sortD (K := K) (enc := logD) rfl R rfl (Sq.l _) rfl (fun l hl => noD_shp _ (cmp_log (go l hl).1.cell).s) (sb_logs' ms) fun v H bs pm pw R => ?_
      walk_at "z"
      refine z_retB (i := 0) (m := k) R rfl rfl fun kp B f => q _ _ _ kp (B.mono (by omega)) f ?_
      refine ⟨bs, ⟨by rw [pm.length_eq]; omega, fun l hl => (go l (pm.mem_iff.mp hl)).1, fun l hl => (go l (pm.mem_iff.mp hl)).2.1, fun l hl => (go l (pm.mem_iff.mp hl)).2.2, pw, pm.nodup_iff.mpr nd⟩, fun h => ?_, rfl⟩
      rw [h] at pm
      exact ne (List.nil_perm.mp pm)
    case h =>
      intro nx hn
      walk_at "z"
      have skip : ∀ {σ : St} {H : Hp}, Rp ⟨K, H0, S, [b], []⟩ H σ [.box (200 + m), .fz (.list (cs.map PyData.str)), .fz (.int n), .fz (.int r), .own (ls.map logD), .junk, .junk, .junk, .junk, .junk, .junk] [] → nx σ H := fun R => hn _ _ ⟨_, ls, by omega, g1.1, g1.2, nd0, ne0, R⟩
      refine r_itb (fun hr1 => ?_) (fun hr1 => ?_)
      · walk_at "z"
        obtain ⟨l0, lr, els⟩ : ∃ l0 lr, ls = l0 :: lr := by
          cases ls with
          | nil => exact absurd rfl ne0
          | cons a b => exact ⟨a, b, rfl⟩
        refine z_ixL R (by walk_at "rf") (d := logD l0) (by rw [els]; show atI _ ((0 : Nat) : Int) = _; exact atI_nat rfl) fun v R => ?_
        walk_at "z"
        refine z_neD rfl R rfl rfl (cmp_log (g1.2 l0 (by rw [els]; exact List.mem_cons_self ..)).1.cell) Cmp.nil fun v R => ?_
        walk_at "z"
        refine r_itb (fun hl0 => ?_) (fun hl0 => ?_)
        · walk_at "z"
          have ll : 0 < (ls.map logD).length := by rw [List.length_map, els]; exact Nat.succ_pos _
          have lm : (ls.map logD).length ≤ 1000 := by rw [List.length_map]; exact g1.1
          refine z_take (m := 199 + m) R rfl (by omega) (by omega) (by omega) (by walk_at "se") fun v H p p0 p1 R => ?_
          walk_at "z"
          obtain ⟨e, he⟩ : ∃ e, ls[p.toNat]? = some e := ⟨_, List.getElem?_eq_getElem (by rw [List.length_map] at p1; omega)⟩
          refine y_popAt R rfl p0 (by omega) (by rw [List.getElem?_map, he]; rfl) (by walk_at "se") fun v H R => ?_
          refine y_name R (by walk_at "se") (by rfl) (by rfl) (fun σ R => ?_)
          obtain ⟨go, sub, ord⟩ := g1.2 e (List.mem_of_getElem? he)
          refine r_seq (r_asg (r_cut (fun v H' => ∃ (k c : Nat), m ≤ k ∧ c ≤ 1000 ∧ Rp ⟨K, H0, S, [b], []⟩ H' σ [.box k, .fz (.list (cs.map PyData.str)), .fz (.int n), .fz (.int r), .own ((ls.eraseIdx p.toNat).map logD), .fz (.int p), .fz (logD e), .junk, .junk, .junk, .junk] [(v, .fz (.int c))]) ?k2 ?h2))
          case h2 =>
            intro Q' h'
            walk_at "z"
            refine z_neD rfl R rfl rfl (cmp_log go.cell) Cmp.nil fun v R => ?_
            walk_at "z"
            rw [← eraseIdx_map'] at h'
            refine r_itb (fun he0 => ?_) (fun he0 => ?_)
            · walk_at "z"
              have le : 0 < (e.map prD).length := by
                cases e with
                | nil => cases he0
                | cons a b => exact Nat.succ_pos _
              have l60 : (e.map prD).length ≤ 60 := by rw [List.length_map]; exact go.len
              refine z_take (m := 198 + m) R rfl (by omega) (by omega) (by omega) (by walk_at "se") fun v H c c0 c1 R => h' _ _ ⟨198 + m, c.toNat, by omega, by omega, ?_⟩
              rw [Int.toNat_of_nonneg c0]
              exact R
            · walk_at "z"
              exact h' _ _ ⟨199 + m, 0, by omega, by omega, R⟩
          case k2 =>
            rintro v H ⟨k, c, hk, c1, R⟩
            walk_at "z"
            refine z_slT R fun v H R => ?_
            rw [cutD_one, ← List.map_drop, ← List.map_take] at R
            walk_at "z"
            refine z_fT (vs := [9, 10]) (enc := prD) (as := (e.drop c).take 1) (fun z => some (.tuple [.str z.1, .int ((z.2 + 1) % 1000000000)])) R (by rfl) (by rfl) ?_ ?_
            · intro n a acc H D v ha hacc la R
              walk_at "z"
              refine z_rIi R ⟨by decide, by decide⟩ fun v R => ?_
              walk_at "z"
              refine z_rIi R (by decide) fun v R => ?_
              walk_at "z"
              have lt1 : ((e.drop c).take 1).length ≤ 1 := by rw [List.length_take]; omega
              walk_at "fadd"
            intro D H R
            rw [fm_some] at R
            walk_at "z"
            refine z_slT R fun v H R => ?_
            rw [cutD_lo] at R
            walk_at "z"
            have l60 : e.length ≤ 60 := go.len
            refine z_catF R (by simp only [List.length_take, List.length_map]; omega) fun v H R => ?_
            walk_at "z"
            refine z_slT R fun v H R => ?_
            rw [cutD_hi] at R
            walk_at "z"
            refine z_catF R (by simp only [List.length_append, List.length_take, List.length_map, List.length_drop]; omega) fun v H R => ?_
            have eb : (bump e c).map prD = _ := bump_d e c
            rw [← eb] at R
            have bo := bump_ok go c
            have bs : ∀ x ∈ (bump e c).map Prod.fst, x ∈ cs := by rw [bump_fst]; exact sub
            have bd : inOrder (bump e c) := ord_names (bump_fst e c) go.nd ord
            generalize bump e c = e' at R bo bs bd
            have sl : (ls.eraseIdx p.toNat).Sublist ls := List.eraseIdx_sublist _ _
            have gi : ∀ l ∈ ls.eraseIdx p.toNat, LgOk l ∧ (∀ c ∈ l.map Prod.fst, c ∈ cs) ∧ inOrder l := fun l hl => g1.2 l (sl.subset hl)
            have ndi := nd0.sublist sl
            have li : (ls.eraseIdx p.toNat).length < 1000 := by
              rw [List.length_map] at p1
              rw [List.length_eraseIdx_of_lt (by omega)]
              have := g1.1
              omega
            generalize ls.eraseIdx p.toNat = ms at R gi ndi li
            walk_at "z"
            refine z_inA (K := K) (enc := logD) (a := e') (as := ms) rfl R rfl rfl (Sq.l _) (cmp_log bo.cell) (cmp_logL fun l hl => (gi l hl).1.cell) eqv_log fun v R => ?_
            walk_at "z"
            refine z_intB R fun v R => ?_
            walk_at "z"
            refine z_rep R rfl (by by_cases h : e' ∈ ms <;> simp [h]) (by by_cases h : e' ∈ ms <;> simp [h]) (by by_cases h : e' ∈ ms <;> simp [h]) fun v H R => ?_
            walk_at "z"
            have el : ∀ k : Int, (e' ∈ ms → k = 0) → (e' ∉ ms → k = 1) → (List.replicate k.toNat [PyData.tuple (List.map prD e')]).flatten = (if e' ∈ ms then [] else [e']).map logD := fun k k0 k1 => by
              by_cases h : e' ∈ ms
              · rw [k0 h, if_pos h]; rfl
              · rw [k1 h, if_neg h]; rfl
            simp only [if_pos] at R
            rw [el _ (fun h => by simp [h]) (fun h => by simp [h])] at R
            refine y_ext R rfl (by rw [List.length_map, List.length_map]; split <;> simp <;> omega) (by walk_at "se") fun v H R => ?_
            walk_at "z"
            rw [← List.map_append] at R
            refine hn _ _ ⟨k, ms ++ (if e' ∈ ms then [] else [e']), hk, ?_, fun l hl => ?_, ?_, ?_, R.pop.jk [5, 6, 7, 8]⟩
            · rw [List.length_append]
              split <;> simp <;> omega
            · rcases List.mem_append.mp hl with h | h
              · exact gi l h
              · split at h
                · cases h
                · rw [List.mem_singleton.mp h]
                  exact ⟨bo, bs, bd⟩
            · split
              · rw [List.append_nil]; exact ndi
              · rename_i hn
                exact List.nodup_append.mpr ⟨ndi, List.pairwise_singleton _ _, fun a ha b hb e' => hn (by rw [← List.mem_singleton.mp hb, ← e']; exact ha)⟩
            · split
              · rename_i hm
                intro z
                rw [List.append_nil] at z
                rw [z] at hm
                cases hm
              · simp
        · walk_at "z"
          exact skip R
      · walk_at "z"
        exact skip R
end
end L2.Ro

end
section
set_option Elab.async false
set_option linter.all false
set_option maxRecDepth 100000
set_option maxHeartbeats 4000000
local macro_rules | `(tactic| walk_at "rd1") => `(tactic| with_reducible first
  | refine L2.Rx.r_seq ?_ | refine L2.Rx.r_asg ?_ | refine L2.Rx.r_gname ?_ | refine L2.Rx.r_op ?_ | refine L2.Rx.r_c ?_
  | refine L2.Rx.r_var rfl ?_
  | refine L2.Rx.r_rI0 ?_ | refine L2.Rx.r_test ?_ | refine L2.Rx.r_bl ?_ | refine L2.Rx.r_if ?_ | refine L2.Rx.r_ret ?_
  | refine L2.Rx.r_cons ?_ | refine L2.Rx.r_nil ?_ | refine L2.Rx.r_call ?_ | refine L2.Rx.r_cb ?_ | refine L2.Rx.r_next ?_ | refine L2.Rx.r_drop ?_
  | refine L2.Rx.r_gsub ?_ | refine L2.Rx.r_tupF ?_ | refine L2.Rx.r_lst ?_ | refine L2.Rx.r_par ?_ | refine L2.Rx.r_par2 ?_
  | refine L2.Rx.r_un ?_ | refine L2.Rx.r_tb ?_ | refine L2.Rx.r_and ?_ | refine L2.Rx.r_or ?_ | refine L2.Rx.r_not ?_
  | refine L2.Rx.r_andV ?_ | refine L2.Rx.r_orV ?_ | refine L2.Rx.r_notV ?_ | refine L2.Rx.r_ifx ?_ | refine L2.Rx.r_chain ?_
  | refine L2.Rx.r_sl ?_ | refine L2.Rx.r_nopart ?_ | refine L2.Rx.r_part ?_ | refine L2.Rx.r_exint ?_ | refine L2.Rx.r_bm0 ?_ | refine L2.Rx.r_bm ?_
  | refine L2.Rx.r_lc ?_ | refine L2.Rx.r_rng1 ?_ | refine L2.Rx.r_yes ?_ | refine L2.Rx.r_tt ?_ | refine L2.Rx.r_ff ?_ | refine L2.Rx.r_m1 ?_ | refine L2.Rx.r_m0 ?_ | refine L2.Rx.r_isS ?_
  | (refine L2.Rx.r_wipe (by with_unfolding_all rfl) ?_) | (refine L2.Rx.r_tyL (by walk_at "hp") ?_)
  | refine L2.Rx.r_addS (by walk_at "len") ?_ | refine L2.Rx.r_lenS (by walk_at "len") ?_ | refine L2.Rx.r_slS (by walk_at "len") ?_
  | refine L2.Rx.r_dnotin ?_ | refine L2.Rx.r_dget ?_ | refine L2.Rx.r_dget1 ?_ | refine L2.Rx.r_dput ?_ | refine L2.Rx.r_dpop1 ?_ | refine L2.Rx.r_isN ?_
  | refine L2.Rx.r_for ?_ | refine L2.Rx.r_ilist ?_ | refine L2.Rx.r_itup ?_
  | refine L2.Rx.r_gcons ?_ | refine L2.Rx.r_gnil ?_ | (refine L2.Rx.r_gtupP (by assumption) (by walk_at "at") ?_)
  | (refine L2.Rx.r_rEq rfl ?_) | (refine L2.Rx.r_rNe rfl ?_)
  | refine L2.Rx.r_rU ?_ | refine L2.Rx.r_max2 ?_ | refine L2.Rx.r_min2 ?_ | refine L2.Rx.r_int1i ?_ | (refine L2.Rx.r_lenh (by walk_at "hp") ?_)
  | (refine L2.Rx.r_ixLh (by walk_at "hp") (by walk_at "at") ?_)
  | (refine L2.Rx.r_setL (by walk_at "hp") (by walk_at "at") ?_))
local macro_rules | `(tactic| walk_at "at") => `(tactic| with_unfolding_all rfl)
local macro_rules | `(tactic| walk_at "rd") => `(tactic| (repeat walk_at "rd1"))
local macro_rules | `(tactic| walk_at "hp") => `(tactic| first
  | assumption
  | exact L2.upd_same
  | (refine Eq.trans (L2.upd_ne ?_) ?_; (focus walk_at "ne"); (focus walk_at "hp"))
  | (refine L2.Rx.Kp.at0 (by assumption) ?_; walk_at "hp")
  | (refine L2.Rx.Kp.at1 (by assumption) ?_ ?_; (focus walk_at "ne"); (focus walk_at "hp")))
local macro_rules | `(tactic| walk_at "ne") => `(tactic| first
  | assumption | exact Ne.symm (by assumption)
  | (refine L2.ne_of_none (H := ?nH) (o := ?nO) ?nh ?nn; (case nn => assumption); (case nh => walk_at "hp"))
  | (refine Ne.symm (L2.ne_of_none (H := ?nH) (o := ?nO) ?nh ?nn); (case nn => assumption); (case nh => walk_at "hp")))
local macro_rules | `(tactic| walk_at "len") => `(tactic| (rw [PySem.sizeLine_eq]; omega))
local macro_rules | `(tactic| walk_at "nin") => `(tactic| first
  | exact List.not_mem_nil
  | (refine L2.Rx.nin1 ?_; walk_at "ne"))
local macro_rules | `(tactic| walk_at "none") => `(tactic| first
  | assumption
  | (refine L2.Rx.Kp.none0 (by assumption) ?_ ?_; (focus walk_at "nin"); (focus walk_at "none")))
set_option hygiene false
local macro_rules | `(tactic| walk_at "se") => `(tactic| first | exact L2.Z.SetE.z | exact L2.Z.SetE.s (L2.Z.SetE.z) | exact L2.Z.SetE.s (L2.Z.SetE.s (L2.Z.SetE.z)) | exact L2.Z.SetE.s (L2.Z.SetE.s (L2.Z.SetE.s (L2.Z.SetE.z))) | exact L2.Z.SetE.s (L2.Z.SetE.s (L2.Z.SetE.s (L2.Z.SetE.s (L2.Z.SetE.z)))) | exact L2.Z.SetE.s (L2.Z.SetE.s (L2.Z.SetE.s (L2.Z.SetE.s (L2.Z.SetE.s (L2.Z.SetE.z))))) | exact L2.Z.SetE.s (L2.Z.SetE.s (L2.Z.SetE.s (L2.Z.SetE.s (L2.Z.SetE.s (L2.Z.SetE.s (L2.Z.SetE.z)))))) | exact L2.Z.SetE.s (L2.Z.SetE.s (L2.Z.SetE.s (L2.Z.SetE.s (L2.Z.SetE.s (L2.Z.SetE.s (L2.Z.SetE.s (L2.Z.SetE.z))))))) | exact L2.Z.SetE.s (L2.Z.SetE.s (L2.Z.SetE.s (L2.Z.SetE.s (L2.Z.SetE.s (L2.Z.SetE.s (L2.Z.SetE.s (L2.Z.SetE.s (L2.Z.SetE.z)))))))) | exact L2.Z.SetE.s (L2.Z.SetE.s (L2.Z.SetE.s (L2.Z.SetE.s (L2.Z.SetE.s (L2.Z.SetE.s (L2.Z.SetE.s (L2.Z.SetE.s (L2.Z.SetE.s (L2.Z.SetE.z))))))))) | exact L2.Z.SetE.s (L2.Z.SetE.s (L2.Z.SetE.s (L2.Z.SetE.s (L2.Z.SetE.s (L2.Z.SetE.s (L2.Z.SetE.s (L2.Z.SetE.s (L2.Z.SetE.s (L2.Z.SetE.s (L2.Z.SetE.z)))))))))) | exact L2.Z.SetE.s (L2.Z.SetE.s (L2.Z.SetE.s (L2.Z.SetE.s (L2.Z.SetE.s (L2.Z.SetE.s (L2.Z.SetE.s (L2.Z.SetE.s (L2.Z.SetE.s (L2.Z.SetE.s (L2.Z.SetE.s (L2.Z.SetE.z))))))))))) | exact L2.Z.SetE.s (L2.Z.SetE.s (L2.Z.SetE.s (L2.Z.SetE.s (L2.Z.SetE.s (L2.Z.SetE.s (L2.Z.SetE.s (L2.Z.SetE.s (L2.Z.SetE.s (L2.Z.SetE.s (L2.Z.SetE.s (L2.Z.SetE.s (L2.Z.SetE.z)))))))))))) | exact L2.Z.SetE.s (L2.Z.SetE.s (L2.Z.SetE.s (L2.Z.SetE.s (L2.Z.SetE.s (L2.Z.SetE.s (L2.Z.SetE.s (L2.Z.SetE.s (L2.Z.SetE.s (L2.Z.SetE.s (L2.Z.SetE.s (L2.Z.SetE.s (L2.Z.SetE.s (L2.Z.SetE.z))))))))))))) | exact L2.Z.SetE.s (L2.Z.SetE.s (L2.Z.SetE.s (L2.Z.SetE.s (L2.Z.SetE.s (L2.Z.SetE.s (L2.Z.SetE.s (L2.Z.SetE.s (L2.Z.SetE.s (L2.Z.SetE.s (L2.Z.SetE.s (L2.Z.SetE.s (L2.Z.SetE.s (L2.Z.SetE.s (L2.Z.SetE.z)))))))))))))) | exact L2.Z.SetE.s (L2.Z.SetE.s (L2.Z.SetE.s (L2.Z.SetE.s (L2.Z.SetE.s (L2.Z.SetE.s (L2.Z.SetE.s (L2.Z.SetE.s (L2.Z.SetE.s (L2.Z.SetE.s (L2.Z.SetE.s (L2.Z.SetE.s (L2.Z.SetE.s (L2.Z.SetE.s (L2.Z.SetE.s (L2.Z.SetE.z))))))))))))))) | exact L2.Z.SetE.s (L2.Z.SetE.s (L2.Z.SetE.s (L2.Z.SetE.s (L2.Z.SetE.s (L2.Z.SetE.s (L2.Z.SetE.s (L2.Z.SetE.s (L2.Z.SetE.s (L2.Z.SetE.s (L2.Z.SetE.s (L2.Z.SetE.s (L2.Z.SetE.s (L2.Z.SetE.s (L2.Z.SetE.s (L2.Z.SetE.s (L2.Z.SetE.z)))))))))))))))) | exact L2.Z.SetE.s (L2.Z.SetE.s (L2.Z.SetE.s (L2.Z.SetE.s (L2.Z.SetE.s (L2.Z.SetE.s (L2.Z.SetE.s (L2.Z.SetE.s (L2.Z.SetE.s (L2.Z.SetE.s (L2.Z.SetE.s (L2.Z.SetE.s (L2.Z.SetE.s (L2.Z.SetE.s (L2.Z.SetE.s (L2.Z.SetE.s (L2.Z.SetE.s (L2.Z.SetE.z))))))))))))))))) | exact L2.Z.SetE.s (L2.Z.SetE.s (L2.Z.SetE.s (L2.Z.SetE.s (L2.Z.SetE.s (L2.Z.SetE.s (L2.Z.SetE.s (L2.Z.SetE.s (L2.Z.SetE.s (L2.Z.SetE.s (L2.Z.SetE.s (L2.Z.SetE.s (L2.Z.SetE.s (L2.Z.SetE.s (L2.Z.SetE.s (L2.Z.SetE.s (L2.Z.SetE.s (L2.Z.SetE.s (L2.Z.SetE.z)))))))))))))))))) | exact L2.Z.SetE.s (L2.Z.SetE.s (L2.Z.SetE.s (L2.Z.SetE.s (L2.Z.SetE.s (L2.Z.SetE.s (L2.Z.SetE.s (L2.Z.SetE.s (L2.Z.SetE.s (L2.Z.SetE.s (L2.Z.SetE.s (L2.Z.SetE.s (L2.Z.SetE.s (L2.Z.SetE.s (L2.Z.SetE.s (L2.Z.SetE.s (L2.Z.SetE.s (L2.Z.SetE.s (L2.Z.SetE.s (L2.Z.SetE.z))))))))))))))))))) | exact L2.Z.SetE.s (L2.Z.SetE.s (L2.Z.SetE.s (L2.Z.SetE.s (L2.Z.SetE.s (L2.Z.SetE.s (L2.Z.SetE.s (L2.Z.SetE.s (L2.Z.SetE.s (L2.Z.SetE.s (L2.Z.SetE.s (L2.Z.SetE.s (L2.Z.SetE.s (L2.Z.SetE.s (L2.Z.SetE.s (L2.Z.SetE.s (L2.Z.SetE.s (L2.Z.SetE.s (L2.Z.SetE.s (L2.Z.SetE.s (L2.Z.SetE.z)))))))))))))))))))) | exact L2.Z.SetE.s (L2.Z.SetE.s (L2.Z.SetE.s (L2.Z.SetE.s (L2.Z.SetE.s (L2.Z.SetE.s (L2.Z.SetE.s (L2.Z.SetE.s (L2.Z.SetE.s (L2.Z.SetE.s (L2.Z.SetE.s (L2.Z.SetE.s (L2.Z.SetE.s (L2.Z.SetE.s (L2.Z.SetE.s (L2.Z.SetE.s (L2.Z.SetE.s (L2.Z.SetE.s (L2.Z.SetE.s (L2.Z.SetE.s (L2.Z.SetE.s (L2.Z.SetE.z))))))))))))))))))))))
local macro_rules | `(tactic| walk_at "rf") => `(tactic| with_unfolding_all rfl)
local macro_rules | `(tactic| walk_at "sq") => `(tactic| first | exact L2.Z.Sq.t _ | exact L2.Z.Sq.l _)
local macro_rules | `(tactic| walk_at "nal") => `(tactic| rfl)
local macro_rules | `(tactic| walk_at "st") => `(tactic| with_reducible first
  | refine L2.Rx.r_seq ?_ | refine L2.Rx.r_asg ?_ | refine L2.Rx.r_op ?_
  | refine L2.Rx.r_test ?_ | refine L2.Rx.r_if ?_ | refine L2.Rx.r_ret ?_
  | refine L2.Rx.r_cons ?_ | refine L2.Rx.r_nil ?_ | refine L2.Rx.r_call ?_ | refine L2.Rx.r_cb ?_ | refine L2.Rx.r_next ?_ | refine L2.Rx.r_drop ?_
  | refine L2.Rx.r_gsub ?_ | refine L2.Rx.r_tupF ?_ | refine L2.Rx.r_lst ?_ | refine L2.Rx.r_par ?_ | refine L2.Rx.r_par2 ?_
  | refine L2.Rx.r_un ?_ | refine L2.Rx.r_tb ?_ | refine L2.Rx.r_and ?_ | refine L2.Rx.r_or ?_ | refine L2.Rx.r_not ?_
  | refine L2.Rx.r_andV ?_ | refine L2.Rx.r_orV ?_ | refine L2.Rx.r_notV ?_ | refine L2.Rx.r_ifx ?_ | refine L2.Rx.r_chain ?_
  | refine L2.Rx.r_sl ?_ | refine L2.Rx.r_nopart ?_ | refine L2.Rx.r_part ?_ | refine L2.Rx.r_bm0 ?_ | refine L2.Rx.r_bm ?_
  | refine L2.Rx.r_lc ?_ | refine L2.Rx.r_rng1 ?_ | refine L2.Rx.r_yes ?_ | refine L2.Rx.r_tt ?_ | refine L2.Rx.r_ff ?_ | refine L2.Rx.r_m1 ?_ | refine L2.Rx.r_m0 ?_
  | refine L2.Rx.r_dnotin ?_ | refine L2.Rx.r_dget ?_ | refine L2.Rx.r_dget1 ?_ | refine L2.Rx.r_dget2 ?_ | refine L2.Rx.r_dput ?_
  | refine L2.Rx.r_for ?_ | refine L2.Rx.r_ilist ?_ | refine L2.Rx.r_itup ?_
  | refine L2.Rx.r_gcons ?_ | refine L2.Rx.r_gnil ?_ | refine L2.Rx.r_kw ?_ | (show L2.Rx.tSf2 _ _ _ _ _ _ _ _ _ _ _ _ _; unfold L2.Rx.tSf2))
local macro_rules | `(tactic| walk_at "zv") => `(tactic| first
  | (refine L2.Z.z_int R (fun v R => ?_))
  | (refine L2.Z.z_str R (fun v R => ?_))
  | (refine L2.Z.z_bl R (fun v R => ?_))
  | (refine L2.Z.z_non R (fun v R => ?_))
  | (refine L2.Z.z_var R (by walk_at "rf") (fun v R => ?_))
  | (refine L2.Z.z_varA R (by walk_at "rf") (by rfl) (fun v R => ?_))
  | (refine L2.Z.y_lcName R (by decide) (by walk_at "se") (by rfl) (by rfl) (fun σ hw R => ?_))
  | (refine L2.Z.y_lcPair R (by decide) (by decide) (by walk_at "se") (by walk_at "se") (by rfl) (fun σ hw R => ?_))
  | (refine L2.Z.y_lcPairP R (by decide) (by decide) (by walk_at "se") (by walk_at "se") (by rfl) (fun σ hw R => ?_))
  | (refine L2.Z.y_name R (by walk_at "se") (by rfl) (by rfl) (fun σ R => ?_))
  | (refine L2.Z.z_gtup2 R (fun a b R => ?_))
  | (refine L2.Z.z_gtupP R (fun a b R => ?_))
  | (refine L2.Z.z_gtup3 R (fun a b c R => ?_))
  | (refine L2.Z.z_isD R (by walk_at "rf") (fun a R => ?_))
  | (refine L2.Z.z_isb R (fun R => ?_))
  | (refine L2.Z.z_isi R (fun R => ?_)))
local macro_rules | `(tactic| walk_at "zo") => `(tactic| first
  | (refine L2.Z.z_rI0i R (fun v R => ?_))
  | (refine L2.Z.z_rI0b R (fun v R => ?_))
  | (refine L2.Z.z_eqI R (fun v R => ?_))
  | (refine L2.Z.z_neI R (fun v R => ?_))
  | (refine L2.Z.z_eqS R (fun v R => ?_))
  | (refine L2.Z.z_neS R (fun v R => ?_))
  | (refine L2.Z.z_isV R (fun v R => ?_))
  | (refine L2.Z.z_notV R (fun v R => ?_))
  | (refine L2.Z.z_len R (by walk_at "rf") (by walk_at "sq") (fun v R => ?_))
  | (refine L2.Z.z_tup0 R (fun p o R => ?_); refine L2.Z.gen_R R (fun v H R => ?_))
  | (refine L2.Z.z_tup1 R (by walk_at "rf") (fun p o R => ?_); refine L2.Z.gen_R R (fun v H R => ?_))
  | (refine L2.Z.z_tup2 R (by walk_at "rf") (by walk_at "rf") (fun p o R => ?_); refine L2.Z.gen_R R (fun v H R => ?_))
  | (refine L2.Z.z_tup3 R (by walk_at "rf") (by walk_at "rf") (by walk_at "rf") (fun p o R => ?_); refine L2.Z.gen_R R (fun v H R => ?_))
  | (refine L2.Z.z_lst0 R (fun p R => ?_); refine L2.Z.gen_R R (fun v H R => ?_))
  | (refine L2.Z.z_lst1 R (by walk_at "rf") (fun p R => ?_); refine L2.Z.gen_R R (fun v H R => ?_))
  | (refine L2.Z.z_lst2 R (by walk_at "rf") (by walk_at "rf") (fun p R => ?_); refine L2.Z.gen_R R (fun v H R => ?_))
  | (refine L2.Z.z_lst3 R (by walk_at "rf") (by walk_at "rf") (by walk_at "rf") (fun p R => ?_); refine L2.Z.gen_R R (fun v H R => ?_))
  | (refine L2.Z.z_tupL R (by walk_at "rf") (fun v H R => ?_))
  | (refine L2.Z.z_tupT R (fun v R => ?_))
  | (refine L2.Z.z_listOf R (by walk_at "rf") (by walk_at "sq") (fun v H R => ?_))
  | (refine L2.Z.z_slL R (by walk_at "rf") (fun v H R => ?_))
  | (refine L2.Z.z_isStr R ?_)
  | (refine L2.Z.z_tyL R (by walk_at "rf") ?_)
  | (refine L2.Z.z_isD R (by walk_at "rf") (fun a R => ?_))
  | (refine L2.Z.z_dnew R (fun v H R => ?_))
  | (refine L2.Z.z_max2 R (fun v R => ?_))
  | (refine L2.Z.z_min2 R (fun v R => ?_)))
local macro_rules | `(tactic| walk_at "z1") => `(tactic| first | walk_at "st" | walk_at "zv" | walk_at "zo")
local macro_rules | `(tactic| walk_at "z") => `(tactic| (repeat walk_at "z1"))
local macro_rules | `(tactic| walk_at "ret") => `(tactic| refine L2.Z.z_retP R rfl (fun k f => q _ _ _ k f ?_))
local macro_rules | `(tactic| walk_at "fadd") => `(tactic| exact L2.Z.z_fAdd R rfl hw la ha hacc (by omega) rfl rfl rfl)
local macro_rules | `(tactic| walk_at "get") => `(tactic| first
  | (refine L2.Z.z_getL R (by walk_at "rf") (fun o R => ?_); refine L2.Z.gen_V R (fun v R => ?_))
  | (refine L2.Z.z_getL2 R (by walk_at "rf") (fun o R => ?_); refine L2.Z.gen_V R (fun v R => ?_))
  | (refine L2.Z.z_dinL R (by walk_at "rf") (fun a o R => ?_); refine L2.Z.gen_V R (fun v R => ?_))
  | (refine L2.Z.z_dninL R (by walk_at "rf") (fun a o R => ?_); refine L2.Z.gen_V R (fun v R => ?_))
  | (refine L2.Z.z_get1 R (by walk_at "rf") (by walk_at "rf") (fun o R => ?_); refine L2.Z.gen_V R (fun v R => ?_))
  | (refine L2.Z.z_get2 R (by walk_at "rf") (by walk_at "rf") (fun o R => ?_); refine L2.Z.gen_V R (fun v R => ?_))
  | (refine L2.Z.z_din R (by walk_at "rf") (by walk_at "rf") (fun a o R => ?_); refine L2.Z.gen_V R (fun v R => ?_))
  | (refine L2.Z.z_dnin R (by walk_at "rf") (by walk_at "rf") (fun a o R => ?_); refine L2.Z.gen_V R (fun v R => ?_)))
namespace L2.Ro
open PySem PySem.Spec PyProof.Rows L2.Rx L2.Z
def enc_logs1 : List Lg × Lg → List PyData := fun a => [logsD a.1, logD a.2]
structure LsOkA (ls : List Lg) : Prop where
  len : ls.length ≤ 1000
  ok : ∀ l ∈ ls, LgOk l
def post_agreeing : List Lg × Lg → PyData → Prop := fun a d => d = logsD (a.1.filter fun l => agr l a.2)
section
variable {P : Program} {w : World} {K : PySem.W.Frag} {mg : Str → Option Value} {base : Heap}
theorem k_agreeing0 {f : Addr} {fd : FuncData} (F : Fun K "agreeing" "agreeing" s_agreeing f fd) (g : mg "agreeing" = some (.ref f)) (z : Zb mg) (k_agrees : Kn P w K mg base CX0 1 "agrees" (spP enc_2log (fun a => LgOk a.1 ∧ a.2.length ≤ 60) post_agrees))  : FnG P w K mg base CX0 2 f fd ["logs", "known"] (spP enc_logs1 (fun a => LsOkA a.1 ∧ a.2.length ≤ 60) post_agreeing) := by
  refine fnG_body F sc_agreeing (fun vs H Q E h => ?_) (fun cdv A outer s H vs Q E hr h => ?_)
  · obtain ⟨S, ⟨ls, k⟩, f, mm, ⟨lo, lk⟩, q⟩ := h
    rw [f.len]
    rfl
  · obtain ⟨S, ⟨ls, k⟩, f, mm, ⟨lo, lk⟩, q⟩ := h
    have R : Rp ⟨K, H, S, [], []⟩ H (start ["logs", "known", "log"] vs) [.fz (logsD ls), .fz (logD k), .junk] [] := start_P K f mm rfl rfl rfl
    refine ⟨_, PSs.nox (pss_one (ps_ret (pe_callTy (show CallR _ _ (rTupOf K) from c_tuple) (by rfl) z.n_tuple (by decide +kernel) (pa_cons (pe_lc (own := [("log", 2)]) (g := (gName 2)) (by rfl) sc_agreeing.nd (show PI _ _ _ (iTup K _) from pi_tup (pv 0)) (blkOk_by (own := [("log", 2)]) (N := ["logs", "known", "log"]) (sc := defScope s_agreeing) (by decide +kernel)) (fun _ _ _ _ _ => (pg_name (i := 2) sc_agreeing.nd rfl (.inl rfl))) (fun _ _ _ _ _ => (pts_one (pt_val (k_agrees.call hr (by decide) (by rfl) (pa_cons (pv 2) (pa_cons (pv 1) pa_nil)))))) (fun _ _ _ _ _ => (pv 2))) pa_nil)))), ?_⟩
    generalize start ["logs", "known", "log"] vs = σ at R ⊢
    walk_at "z"
    refine z_fT (vs := [2]) (enc := logD) (as := ls) (fun l => if agr l k = true then some (logD l) else none) R (by rfl) (by rfl) ?_ ?_
    · intro n a acc H D v ha hacc la R
      walk_at "z"
      refine z_p2 (a, k) R rfl rfl rfl ⟨lo.ok a (List.mem_of_getElem? ha), lk⟩ fun v H d hq R => ?_
      cases hq
      walk_at "z"
      have : ls.length ≤ 1000 := lo.len
      refine r_itb (fun hb => ?_) (fun hb => ?_)
      · walk_at "z"
        exact z_fAdd R rfl hw la ha hacc (by omega) (if_pos hb) rfl rfl
      · exact z_fSkip R hw la ha hacc (if_neg (by rw [hb]; decide)) rfl rfl
    intro D H R
    rw [fm_if] at R
    walk_at "z"
    walk_at "ret"
    rfl
end
theorem k_agreeing {P : Program} {w : World} {K : PySem.W.Frag} {mg : Str → Option Value} {base : Heap} {f : Addr} {fd : FuncData} (F : Fun K "agreeing" "agreeing" s_agreeing f fd) (g : mg "agreeing" = some (.ref f)) (z : Zb mg) (k_agrees : Kn P w K mg base CX0 1 "agrees" (spP enc_2log (fun a => LgOk a.1 ∧ a.2.length ≤ 60) post_agrees))  : Kn P w K mg base CX0 2 "agreeing" (spP enc_logs1 (fun a => LsOkA a.1 ∧ a.2.length ≤ 60) post_agreeing) :=
  ⟨f, fd, _, k_agreeing0 F g z k_agrees, g, F.kp, F.binds (fun _ _ _ _ _ _ us hl => match us, hl with | [_, _], _ => rfl)⟩
theorem k_agreeing_known_logs {P : Program} {w : World} {K : PySem.W.Frag} {mg : Str → Option Value} {base : Heap} {f : Addr} {fd : FuncData} (F : Fun K "agreeing" "agreeing" s_agreeing f fd) (g : mg "agreeing" = some (.ref f)) (z : Zb mg) (k_agrees : Kn P w K mg base CX0 1 "agrees" (spP enc_2log (fun a => LgOk a.1 ∧ a.2.length ≤ 60) post_agrees))  : KnK P w K mg base CX0 2 "agreeing" ["known", "logs"] pm10 (spP enc_logs1 (fun a => LsOkA a.1 ∧ a.2.length ≤ 60) post_agreeing) := by
  refine ⟨f, fd, _, pm10, k_agreeing0 F g z k_agrees, g, F.kp, bindsK F (fun _ _ _ _ _ _ ws hl => ?_), fun zs ws r => vals_pm10 r⟩
  rcases ws with _ | ⟨a, _ | ⟨b, _ | ⟨c, r⟩⟩⟩
  · cases hl
  · cases hl
  · rfl
  · simp [pm10] at hl
end L2.Ro

end
section
set_option Elab.async false
set_option linter.all false
set_option maxRecDepth 100000
set_option maxHeartbeats 4000000
local macro_rules | `(tactic| walk_at "rd1") => `(tactic| with_reducible first
  | refine L2.Rx.r_seq ?_ | refine L2.Rx.r_asg ?_ | refine L2.Rx.r_gname ?_ | refine L2.Rx.r_op ?_ | refine L2.Rx.r_c ?_
  | refine L2.Rx.r_var rfl ?_
  | refine L2.Rx.r_rI0 ?_ | refine L2.Rx.r_test ?_ | refine L2.Rx.r_bl ?_ | refine L2.Rx.r_if ?_ | refine L2.Rx.r_ret ?_
  | refine L2.Rx.r_cons ?_ | refine L2.Rx.r_nil ?_ | refine L2.Rx.r_call ?_ | refine L2.Rx.r_cb ?_ | refine L2.Rx.r_next ?_ | refine L2.Rx.r_drop ?_
  | refine L2.Rx.r_gsub ?_ | refine L2.Rx.r_tupF ?_ | refine L2.Rx.r_lst ?_ | refine L2.Rx.r_par ?_ | refine L2.Rx.r_par2 ?_
  | refine L2.Rx.r_un ?_ | refine L2.Rx.r_tb ?_ | refine L2.Rx.r_and ?_ | refine L2.Rx.r_or ?_ | refine L2.Rx.r_not ?_
  | refine L2.Rx.r_andV ?_ | refine L2.Rx.r_orV ?_ | refine L2.Rx.r_notV ?_ | refine L2.Rx.r_ifx ?_ | refine L2.Rx.r_chain ?_
  | refine L2.Rx.r_sl ?_ | refine L2.Rx.r_nopart ?_ | refine L2.Rx.r_part ?_ | refine L2.Rx.r_exint ?_ | refine L2.Rx.r_bm0 ?_ | refine L2.Rx.r_bm ?_
  | refine L2.Rx.r_lc ?_ | refine L2.Rx.r_rng1 ?_ | refine L2.Rx.r_yes ?_ | refine L2.Rx.r_tt ?_ | refine L2.Rx.r_ff ?_ | refine L2.Rx.r_m1 ?_ | refine L2.Rx.r_m0 ?_ | refine L2.Rx.r_isS ?_
  | (refine L2.Rx.r_wipe (by with_unfolding_all rfl) ?_) | (refine L2.Rx.r_tyL (by walk_at "hp") ?_)
  | refine L2.Rx.r_addS (by walk_at "len") ?_ | refine L2.Rx.r_lenS (by walk_at "len") ?_ | refine L2.Rx.r_slS (by walk_at "len") ?_
  | refine L2.Rx.r_dnotin ?_ | refine L2.Rx.r_dget ?_ | refine L2.Rx.r_dget1 ?_ | refine L2.Rx.r_dput ?_ | refine L2.Rx.r_dpop1 ?_ | refine L2.Rx.r_isN ?_
  | refine L2.Rx.r_for ?_ | refine L2.Rx.r_ilist ?_ | refine L2.Rx.r_itup ?_
  | refine L2.Rx.r_gcons ?_ | refine L2.Rx.r_gnil ?_ | (refine L2.Rx.r_gtupP (by assumption) (by walk_at "at") ?_)
  | (refine L2.Rx.r_rEq rfl ?_) | (refine L2.Rx.r_rNe rfl ?_)
  | refine L2.Rx.r_rU ?_ | refine L2.Rx.r_max2 ?_ | refine L2.Rx.r_min2 ?_ | refine L2.Rx.r_int1i ?_ | (refine L2.Rx.r_lenh (by walk_at "hp") ?_)
  | (refine L2.Rx.r_ixLh (by walk_at "hp") (by walk_at "at") ?_)
  | (refine L2.Rx.r_setL (by walk_at "hp") (by walk_at "at") ?_))
local macro_rules | `(tactic| walk_at "at") => `(tactic| with_unfolding_all rfl)
local macro_rules | `(tactic| walk_at "rd") => `(tactic| (repeat walk_at "rd1"))
local macro_rules | `(tactic| walk_at "hp") => `(tactic| first
  | assumption
  | exact L2.upd_same
  | (refine Eq.trans (L2.upd_ne ?_) ?_; (focus walk_at "ne"); (focus walk_at "hp"))
  | (refine L2.Rx.Kp.at0 (by assumption) ?_; walk_at "hp")
  | (refine L2.Rx.Kp.at1 (by assumption) ?_ ?_; (focus walk_at "ne"); (focus walk_at "hp")))
local macro_rules | `(tactic| walk_at "ne") => `(tactic| first
  | assumption | exact Ne.symm (by assumption)
  | (refine L2.ne_of_none (H := ?nH) (o := ?nO) ?nh ?nn; (case nn => assumption); (case nh => walk_at "hp"))
  | (refine Ne.symm (L2.ne_of_none (H := ?nH) (o := ?nO) ?nh ?nn); (case nn => assumption); (case nh => walk_at "hp")))
local macro_rules | `(tactic| walk_at "len") => `(tactic| (rw [PySem.sizeLine_eq]; omega))
local macro_rules | `(tactic| walk_at "nin") => `(tactic| first
  | exact List.not_mem_nil
  | (refine L2.Rx.nin1 ?_; walk_at "ne"))
local macro_rules | `(tactic| walk_at "none") => `(tactic| first
  | assumption
  | (refine L2.Rx.Kp.none0 (by assumption) ?_ ?_; (focus walk_at "nin"); (focus walk_at "none")))
set_option hygiene false
local macro_rules | `(tactic| walk_at "se") => `(tactic| first | exact L2.Z.SetE.z | exact L2.Z.SetE.s (L2.Z.SetE.z) | exact L2.Z.SetE.s (L2.Z.SetE.s (L2.Z.SetE.z)) | exact L2.Z.SetE.s (L2.Z.SetE.s (L2.Z.SetE.s (L2.Z.SetE.z))) | exact L2.Z.SetE.s (L2.Z.SetE.s (L2.Z.SetE.s (L2.Z.SetE.s (L2.Z.SetE.z)))) | exact L2.Z.SetE.s (L2.Z.SetE.s (L2.Z.SetE.s (L2.Z.SetE.s (L2.Z.SetE.s (L2.Z.SetE.z))))) | exact L2.Z.SetE.s (L2.Z.SetE.s (L2.Z.SetE.s (L2.Z.SetE.s (L2.Z.SetE.s (L2.Z.SetE.s (L2.Z.SetE.z)))))) | exact L2.Z.SetE.s (L2.Z.SetE.s (L2.Z.SetE.s (L2.Z.SetE.s (L2.Z.SetE.s (L2.Z.SetE.s (L2.Z.SetE.s (L2.Z.SetE.z))))))) | exact L2.Z.SetE.s (L2.Z.SetE.s (L2.Z.SetE.s (L2.Z.SetE.s (L2.Z.SetE.s (L2.Z.SetE.s (L2.Z.SetE.s (L2.Z.SetE.s (L2.Z.SetE.z)))))))) | exact L2.Z.SetE.s (L2.Z.SetE.s (L2.Z.SetE.s (L2.Z.SetE.s (L2.Z.SetE.s (L2.Z.SetE.s (L2.Z.SetE.s (L2.Z.SetE.s (L2.Z.SetE.s (L2.Z.SetE.z))))))))) | exact L2.Z.SetE.s (L2.Z.SetE.s (L2.Z.SetE.s (L2.Z.SetE.s (L2.Z.SetE.s (L2.Z.SetE.s (L2.Z.SetE.s (L2.Z.SetE.s (L2.Z.SetE.s (L2.Z.SetE.s (L2.Z.SetE.z)))))))))) | exact L2.Z.SetE.s (L2.Z.SetE.s (L2.Z.SetE.s (L2.Z.SetE.s (L2.Z.SetE.s (L2.Z.SetE.s (L2.Z.SetE.s (L2.Z.SetE.s (L2.Z.SetE.s (L2.Z.SetE.s (L2.Z.SetE.s (L2.Z.SetE.z))))))))))) | exact L2.Z.SetE.s (L2.Z.SetE.s (L2.Z.SetE.s (L2.Z.SetE.s (L2.Z.SetE.s (L2.Z.SetE.s (L2.Z.SetE.s (L2.Z.SetE.s (L2.Z.SetE.s (L2.Z.SetE.s (L2.Z.SetE.s (L2.Z.SetE.s (L2.Z.SetE.z)))))))))))) | exact L2.Z.SetE.s (L2.Z.SetE.s (L2.Z.SetE.s (L2.Z.SetE.s (L2.Z.SetE.s (L2.Z.SetE.s (L2.Z.SetE.s (L2.Z.SetE.s (L2.Z.SetE.s (L2.Z.SetE.s (L2.Z.SetE.s (L2.Z.SetE.s (L2.Z.SetE.s (L2.Z.SetE.z))))))))))))) | exact L2.Z.SetE.s (L2.Z.SetE.s (L2.Z.SetE.s (L2.Z.SetE.s (L2.Z.SetE.s (L2.Z.SetE.s (L2.Z.SetE.s (L2.Z.SetE.s (L2.Z.SetE.s (L2.Z.SetE.s (L2.Z.SetE.s (L2.Z.SetE.s (L2.Z.SetE.s (L2.Z.SetE.s (L2.Z.SetE.z)))))))))))))) | exact L2.Z.SetE.s (L2.Z.SetE.s (L2.Z.SetE.s (L2.Z.SetE.s (L2.Z.SetE.s (L2.Z.SetE.s (L2.Z.SetE.s (L2.Z.SetE.s (L2.Z.SetE.s (L2.Z.SetE.s (L2.Z.SetE.s (L2.Z.SetE.s (L2.Z.SetE.s (L2.Z.SetE.s (L2.Z.SetE.s (L2.Z.SetE.z))))))))))))))) | exact L2.Z.SetE.s (L2.Z.SetE.s (L2.Z.SetE.s (L2.Z.SetE.s (L2.Z.SetE.s (L2.Z.SetE.s (L2.Z.SetE.s (L2.Z.SetE.s (L2.Z.SetE.s (L2.Z.SetE.s (L2.Z.SetE.s (L2.Z.SetE.s (L2.Z.SetE.s (L2.Z.SetE.s (L2.Z.SetE.s (L2.Z.SetE.s (L2.Z.SetE.z)))))))))))))))) | exact L2.Z.SetE.s (L2.Z.SetE.s (L2.Z.SetE.s (L2.Z.SetE.s (L2.Z.SetE.s (L2.Z.SetE.s (L2.Z.SetE.s (L2.Z.SetE.s (L2.Z.SetE.s (L2.Z.SetE.s (L2.Z.SetE.s (L2.Z.SetE.s (L2.Z.SetE.s (L2.Z.SetE.s (L2.Z.SetE.s (L2.Z.SetE.s (L2.Z.SetE.s (L2.Z.SetE.z))))))))))))))))) | exact L2.Z.SetE.s (L2.Z.SetE.s (L2.Z.SetE.s (L2.Z.SetE.s (L2.Z.SetE.s (L2.Z.SetE.s (L2.Z.SetE.s (L2.Z.SetE.s (L2.Z.SetE.s (L2.Z.SetE.s (L2.Z.SetE.s (L2.Z.SetE.s (L2.Z.SetE.s (L2.Z.SetE.s (L2.Z.SetE.s (L2.Z.SetE.s (L2.Z.SetE.s (L2.Z.SetE.s (L2.Z.SetE.z)))))))))))))))))) | exact L2.Z.SetE.s (L2.Z.SetE.s (L2.Z.SetE.s (L2.Z.SetE.s (L2.Z.SetE.s (L2.Z.SetE.s (L2.Z.SetE.s (L2.Z.SetE.s (L2.Z.SetE.s (L2.Z.SetE.s (L2.Z.SetE.s (L2.Z.SetE.s (L2.Z.SetE.s (L2.Z.SetE.s (L2.Z.SetE.s (L2.Z.SetE.s (L2.Z.SetE.s (L2.Z.SetE.s (L2.Z.SetE.s (L2.Z.SetE.z))))))))))))))))))) | exact L2.Z.SetE.s (L2.Z.SetE.s (L2.Z.SetE.s (L2.Z.SetE.s (L2.Z.SetE.s (L2.Z.SetE.s (L2.Z.SetE.s (L2.Z.SetE.s (L2.Z.SetE.s (L2.Z.SetE.s (L2.Z.SetE.s (L2.Z.SetE.s (L2.Z.SetE.s (L2.Z.SetE.s (L2.Z.SetE.s (L2.Z.SetE.s (L2.Z.SetE.s (L2.Z.SetE.s (L2.Z.SetE.s (L2.Z.SetE.s (L2.Z.SetE.z)))))))))))))))))))) | exact L2.Z.SetE.s (L2.Z.SetE.s (L2.Z.SetE.s (L2.Z.SetE.s (L2.Z.SetE.s (L2.Z.SetE.s (L2.Z.SetE.s (L2.Z.SetE.s (L2.Z.SetE.s (L2.Z.SetE.s (L2.Z.SetE.s (L2.Z.SetE.s (L2.Z.SetE.s (L2.Z.SetE.s (L2.Z.SetE.s (L2.Z.SetE.s (L2.Z.SetE.s (L2.Z.SetE.s (L2.Z.SetE.s (L2.Z.SetE.s (L2.Z.SetE.s (L2.Z.SetE.z))))))))))))))))))))))
local macro_rules | `(tactic| walk_at "rf") => `(tactic| with_unfolding_all rfl)
local macro_rules | `(tactic| walk_at "sq") => `(tactic| first | exact L2.Z.Sq.t _ | exact L2.Z.Sq.l _)
local macro_rules | `(tactic| walk_at "nal") => `(tactic| rfl)
local macro_rules | `(tactic| walk_at "st") => `(tactic| with_reducible first
  | refine L2.Rx.r_seq ?_ | refine L2.Rx.r_asg ?_ | refine L2.Rx.r_op ?_
  | refine L2.Rx.r_test ?_ | refine L2.Rx.r_if ?_ | refine L2.Rx.r_ret ?_
  | refine L2.Rx.r_cons ?_ | refine L2.Rx.r_nil ?_ | refine L2.Rx.r_call ?_ | refine L2.Rx.r_cb ?_ | refine L2.Rx.r_next ?_ | refine L2.Rx.r_drop ?_
  | refine L2.Rx.r_gsub ?_ | refine L2.Rx.r_tupF ?_ | refine L2.Rx.r_lst ?_ | refine L2.Rx.r_par ?_ | refine L2.Rx.r_par2 ?_
  | refine L2.Rx.r_un ?_ | refine L2.Rx.r_tb ?_ | refine L2.Rx.r_and ?_ | refine L2.Rx.r_or ?_ | refine L2.Rx.r_not ?_
  | refine L2.Rx.r_andV ?_ | refine L2.Rx.r_orV ?_ | refine L2.Rx.r_notV ?_ | refine L2.Rx.r_ifx ?_ | refine L2.Rx.r_chain ?_
  | refine L2.Rx.r_sl ?_ | refine L2.Rx.r_nopart ?_ | refine L2.Rx.r_part ?_ | refine L2.Rx.r_bm0 ?_ | refine L2.Rx.r_bm ?_
  | refine L2.Rx.r_lc ?_ | refine L2.Rx.r_rng1 ?_ | refine L2.Rx.r_yes ?_ | refine L2.Rx.r_tt ?_ | refine L2.Rx.r_ff ?_ | refine L2.Rx.r_m1 ?_ | refine L2.Rx.r_m0 ?_
  | refine L2.Rx.r_dnotin ?_ | refine L2.Rx.r_dget ?_ | refine L2.Rx.r_dget1 ?_ | refine L2.Rx.r_dget2 ?_ | refine L2.Rx.r_dput ?_
  | refine L2.Rx.r_for ?_ | refine L2.Rx.r_ilist ?_ | refine L2.Rx.r_itup ?_
  | refine L2.Rx.r_gcons ?_ | refine L2.Rx.r_gnil ?_ | refine L2.Rx.r_kw ?_ | (show L2.Rx.tSf2 _ _ _ _ _ _ _ _ _ _ _ _ _; unfold L2.Rx.tSf2))
local macro_rules | `(tactic| walk_at "zv") => `(tactic| first
  | (refine L2.Z.z_int R (fun v R => ?_))
  | (refine L2.Z.z_str R (fun v R => ?_))
  | (refine L2.Z.z_bl R (fun v R => ?_))
  | (refine L2.Z.z_non R (fun v R => ?_))
  | (refine L2.Z.z_var R (by walk_at "rf") (fun v R => ?_))
  | (refine L2.Z.z_varA R (by walk_at "rf") (by rfl) (fun v R => ?_))
  | (refine L2.Z.y_lcName R (by decide) (by walk_at "se") (by rfl) (by rfl) (fun σ hw R => ?_))
  | (refine L2.Z.y_lcPair R (by decide) (by decide) (by walk_at "se") (by walk_at "se") (by rfl) (fun σ hw R => ?_))
  | (refine L2.Z.y_lcPairP R (by decide) (by decide) (by walk_at "se") (by walk_at "se") (by rfl) (fun σ hw R => ?_))
  | (refine L2.Z.y_name R (by walk_at "se") (by rfl) (by rfl) (fun σ R => ?_))
  | (refine L2.Z.z_gtup2 R (fun a b R => ?_))
  | (refine L2.Z.z_gtupP R (fun a b R => ?_))
  | (refine L2.Z.z_gtup3 R (fun a b c R => ?_))
  | (refine L2.Z.z_isD R (by walk_at "rf") (fun a R => ?_))
  | (refine L2.Z.z_isb R (fun R => ?_))
  | (refine L2.Z.z_isi R (fun R => ?_)))
local macro_rules | `(tactic| walk_at "zo") => `(tactic| first
  | (refine L2.Z.z_rI0i R (fun v R => ?_))
  | (refine L2.Z.z_rI0b R (fun v R => ?_))
  | (refine L2.Z.z_eqI R (fun v R => ?_))
  | (refine L2.Z.z_neI R (fun v R => ?_))
  | (refine L2.Z.z_eqS R (fun v R => ?_))
  | (refine L2.Z.z_neS R (fun v R => ?_))
  | (refine L2.Z.z_isV R (fun v R => ?_))
  | (refine L2.Z.z_notV R (fun v R => ?_))
  | (refine L2.Z.z_len R (by walk_at "rf") (by walk_at "sq") (fun v R => ?_))
  | (refine L2.Z.z_tup0 R (fun p o R => ?_); refine L2.Z.gen_R R (fun v H R => ?_))
  | (refine L2.Z.z_tup1 R (by walk_at "rf") (fun p o R => ?_); refine L2.Z.gen_R R (fun v H R => ?_))
  | (refine L2.Z.z_tup2 R (by walk_at "rf") (by walk_at "rf") (fun p o R => ?_); refine L2.Z.gen_R R (fun v H R => ?_))
  | (refine L2.Z.z_tup3 R (by walk_at "rf") (by walk_at "rf") (by walk_at "rf") (fun p o R => ?_); refine L2.Z.gen_R R (fun v H R => ?_))
  | (refine L2.Z.z_lst0 R (fun p R => ?_); refine L2.Z.gen_R R (fun v H R => ?_))
  | (refine L2.Z.z_lst1 R (by walk_at "rf") (fun p R => ?_); refine L2.Z.gen_R R (fun v H R => ?_))
  | (refine L2.Z.z_lst2 R (by walk_at "rf") (by walk_at "rf") (fun p R => ?_); refine L2.Z.gen_R R (fun v H R => ?_))
  | (refine L2.Z.z_lst3 R (by walk_at "rf") (by walk_at "rf") (by walk_at "rf") (fun p R => ?_); refine L2.Z.gen_R R (fun v H R => ?_))
  | (refine L2.Z.z_tupL R (by walk_at "rf") (fun v H R => ?_))
  | (refine L2.Z.z_tupT R (fun v R => ?_))
  | (refine L2.Z.z_listOf R (by walk_at "rf") (by walk_at "sq") (fun v H R => ?_))
  | (refine L2.Z.z_slL R (by walk_at "rf") (fun v H R => ?_))
  | (refine L2.Z.z_isStr R ?_)
  | (refine L2.Z.z_tyL R (by walk_at "rf") ?_)
  | (refine L2.Z.z_isD R (by walk_at "rf") (fun a R => ?_))
  | (refine L2.Z.z_dnew R (fun v H R => ?_))
  | (refine L2.Z.z_max2 R (fun v R => ?_))
  | (refine L2.Z.z_min2 R (fun v R => ?_)))
local macro_rules | `(tactic| walk_at "z1") => `(tactic| first | walk_at "st" | walk_at "zv" | walk_at "zo")
local macro_rules | `(tactic| walk_at "z") => `(tactic| (repeat walk_at "z1"))
local macro_rules | `(tactic| walk_at "ret") => `(tactic| refine L2.Z.z_retP R rfl (fun k f => q _ _ _ k f ?_))
local macro_rules | `(tactic| walk_at "fadd") => `(tactic| exact L2.Z.z_fAdd R rfl hw la ha hacc (by omega) rfl rfl rfl)
local macro_rules | `(tactic| walk_at "get") => `(tactic| first
  | (refine L2.Z.z_getL R (by walk_at "rf") (fun o R => ?_); refine L2.Z.gen_V R (fun v R => ?_))
  | (refine L2.Z.z_getL2 R (by walk_at "rf") (fun o R => ?_); refine L2.Z.gen_V R (fun v R => ?_))
  | (refine L2.Z.z_dinL R (by walk_at "rf") (fun a o R => ?_); refine L2.Z.gen_V R (fun v R => ?_))
  | (refine L2.Z.z_dninL R (by walk_at "rf") (fun a o R => ?_); refine L2.Z.gen_V R (fun v R => ?_))
  | (refine L2.Z.z_get1 R (by walk_at "rf") (by walk_at "rf") (fun o R => ?_); refine L2.Z.gen_V R (fun v R => ?_))
  | (refine L2.Z.z_get2 R (by walk_at "rf") (by walk_at "rf") (fun o R => ?_); refine L2.Z.gen_V R (fun v R => ?_))
  | (refine L2.Z.z_din R (by walk_at "rf") (by walk_at "rf") (fun a o R => ?_); refine L2.Z.gen_V R (fun v R => ?_))
  | (refine L2.Z.z_dnin R (by walk_at "rf") (by walk_at "rf") (fun a o R => ?_); refine L2.Z.gen_V R (fun v R => ?_)))
namespace L2.Ro
open PySem PySem.Spec PyProof.Rows L2.Rx L2.Z
def enc_agr : List Lg × List Str → List PyData := fun a => [logsD a.1, .list (a.2.map PyData.str)]
/-- logs over at most six cells, and at most six cells -/
structure GOk (ls : List Lg) (ns : List Str) : Prop where
  cells : Cells ns
  len : ns.length ≤ 6
  ne : ns ≠ []
  few : ls.length ≤ 1000
  ok : ∀ l ∈ ls, LgOk l
  sub : ∀ l ∈ ls, ∀ c ∈ l.map Prod.fst, c ∈ ns
theorem GOk.l6 {ls : List Lg} {ns : List Str} (g : GOk ls ns) {l : Lg} (h : l ∈ ls) : l.length ≤ 6 := by
  have := nodup_le (g.ok l h).nd fun c hc => g.sub l h c hc
  rw [List.length_map] at this
  exact Nat.le_trans this g.len
theorem agr_mem {l t : Lg} (h : LgOk l) : agr l t = t.all fun z => decide (z ∈ l) := by
  unfold agr
  congr 1
  funext z
  rw [decide_eq_decide]
  exact ⟨fun e => valL_mem e, fun m => valL_of h.nd m⟩
section
variable {P : Program} {w : World} {K : PySem.W.Frag} {mg : Str → Option Value} {base : Heap}
theorem k_agreeing_right {f : Addr} {fd : FuncData} (F : Fun K "_law_agreeing_right" "_law_agreeing_right" s_agreeing_right f fd) (g : mg "_law_agreeing_right" = some (.ref f)) (z : Zb mg) (k_take : Kn P w K mg base CX0 1 "_law_take" sp_take) (k_of : Kn P w K mg base CX0 2 "_law_of" (sp_of K)) (k_agreeing : Kn P w K mg base CX0 2 "agreeing" (spP enc_logs1 (fun a => LsOkA a.1 ∧ a.2.length ≤ 60) post_agreeing)) (k_agreeing_known_logs : KnK P w K mg base CX0 2 "agreeing" ["known", "logs"] pm10 (spP enc_logs1 (fun a => LsOkA a.1 ∧ a.2.length ≤ 60) post_agreeing))  : Kn P w K mg base CX0 3 "_law_agreeing_right" (spB enc_agr (fun a c => GOk a.1 a.2 ∧ c = 20) post_true) := by
  refine ⟨f, fd, ["_law_box_here", "_law_some", "_law_names"], fnG_body F sc_agreeing_right (fun vs H Q E h => ?_) (fun cdv A outer s H vs Q E hr h => ?_), g, F.kp, F.binds (fun _ _ _ _ _ _ us hl => match us, hl with | [_, _, _], _ => rfl)⟩
  · obtain ⟨b, vs', S, ⟨ls, ns⟩, c, m, rfl, bS, f, mm, ⟨g, rfl⟩, B, q⟩ := h
    show vs'.length + 1 = _
    rw [f.len]
    rfl
  · obtain ⟨b, vs', S, ⟨ls, ns⟩, c, m, rfl, bS, f, mm, ⟨g, rfl⟩, B, q⟩ := h
    have R : Rp ⟨K, H, S, [b], []⟩ H (start ["_law_box_here", "_law_some", "_law_names", "_law_entry", "_law_pairs", "_law_name", "_law_due", "_law_pair", "_law_each"] (.ref b :: vs')) [.box (20 + m), .fz (logsD ls), .fz (.list (ns.map PyData.str)), .junk, .junk, .junk, .junk, .junk, .junk] [] := start_B K f mm bS B rfl rfl rfl
    refine ⟨_, PSs.nox (pss_cons (ps_set (i := 3) sc_agreeing_right.nd rfl (.inl rfl) (k_of.call hr (by decide) (by rfl) (pa_cons (pv 0) (pa_cons (pe_op op_cat (pe_callTy (show CallR _ _ (rListOf K) from c_list) (by rfl) z.n_list (by decide +kernel) (pa_cons (pv 1) pa_nil)) (pe_lst (pa_cons (pe_tupF pa_nil) pa_nil))) pa_nil))))
      (pss_cons (ps_set (i := 4) sc_agreeing_right.nd rfl (.inr rfl) (pe_lc (own := [("_law_pair", 7)]) (g := (gName 7)) (by rfl) sc_agreeing_right.nd (show PI _ _ _ (iTup K _) from pi_tup (pv 3)) (blkOk_by (own := [("_law_pair", 7)]) (N := ["_law_box_here", "_law_some", "_law_names", "_law_entry", "_law_pairs", "_law_name", "_law_due", "_law_pair", "_law_each"]) (sc := defScope s_agreeing_right) (by decide +kernel)) (fun _ _ _ _ _ => (pg_name (i := 7) sc_agreeing_right.nd rfl (.inl rfl))) (fun _ _ _ _ _ => (pts_one (pt_cmpR op_eq (k_take.call hr (by decide) (by rfl) (pa_cons (pv 0) (pa_cons pe_int pa_nil))) pe_int (nomark _)))) (fun _ _ _ _ _ => (pv 7))))
      (pss_cons (ps_if (pt_cmpR op_eq (k_take.call hr (by decide) (by rfl) (pa_cons (pv 0) (pa_cons pe_int pa_nil))) pe_int (nomark _))
        (pss_cons (ps_set (i := 5) sc_agreeing_right.nd rfl (.inr rfl) (k_of.call hr (by decide) (by rfl) (pa_cons (pv 0) (pa_cons (pv 2) pa_nil))))
        (pss_one (ps_set (i := 4) sc_agreeing_right.nd rfl (.inr rfl) (pe_op op_cat (pe_lc (own := [("_law_pair", 7)]) (g := (gName 7)) (by rfl) sc_agreeing_right.nd (show PI _ _ _ (iList K _) from pi_list (pv 4)) (blkOk_by (own := [("_law_pair", 7)]) (N := ["_law_box_here", "_law_some", "_law_names", "_law_entry", "_law_pairs", "_law_name", "_law_due", "_law_pair", "_law_each"]) (sc := defScope s_agreeing_right) (by decide +kernel)) (fun _ _ _ _ _ => (pg_name (i := 7) sc_agreeing_right.nd rfl (.inl rfl))) (fun _ _ _ _ _ => (pts_one (pt_cmpR op_ne (pe_ix (show IxR _ (rIxT K) from ix_tup) (pv 7) pe_int (fun _ _ => rfl)) (pv 5) (nomark _)))) (fun _ _ _ _ _ => (pv 7))) (pe_lst (pa_cons (pe_tupF (pa_cons (pv 5) (pa_cons (k_take.call hr (by decide) (by rfl) (pa_cons (pv 0) (pa_cons pe_int pa_nil))) pa_nil))) pa_nil))))))
        pss_nil)
      (pss_cons (ps_set (i := 4) sc_agreeing_right.nd rfl (.inr rfl) (pe_callTy (show CallR _ _ (rTupOf K) from c_tuple) (by rfl) z.n_tuple (by decide +kernel) (pa_cons (pe_callB (show CallR _ _ (rSortV K) from (call_sortV hr)) (by rfl) z.n_sorted (by decide +kernel) (pa_cons (pv 4) pa_nil)) pa_nil)))
      (pss_cons (ps_set (i := 6) sc_agreeing_right.nd rfl (.inl rfl) (pe_callTy (show CallR _ _ (rTupOf K) from c_tuple) (by rfl) z.n_tuple (by decide +kernel) (pa_cons (pe_lc (own := [("_law_each", 8)]) (g := (gName 8)) (by rfl) sc_agreeing_right.nd (show PI _ _ _ (iTup K _) from pi_tup (pv 1)) (blkOk_by (own := [("_law_each", 8)]) (N := ["_law_box_here", "_law_some", "_law_names", "_law_entry", "_law_pairs", "_law_name", "_law_due", "_law_pair", "_law_each"]) (sc := defScope s_agreeing_right) (by decide +kernel)) (fun _ _ _ _ _ => (pg_name (i := 8) sc_agreeing_right.nd rfl (.inr rfl))) (fun _ _ _ _ _ => (pts_one (pt_val (pe_callB (show CallR _ _ (rAll K) from (cr_all rfl)) (by rfl) z.n_all (by decide +kernel) (pa_cons (pe_lc (own := [("_law_pair", 7)]) (g := (gName 7)) (by rfl) sc_agreeing_right.nd (show PI _ _ _ (iTup K _) from pi_tup (pv 4)) (blkOk_nest (own := [("_law_pair", 7)]) (N := ["_law_box_here", "_law_some", "_law_names", "_law_entry", "_law_pairs", "_law_name", "_law_due", "_law_pair", "_law_each"]) (by decide +kernel)) (fun _ _ _ _ _ => (pg_name (i := 7) sc_agreeing_right.nd rfl (.inl rfl))) (fun _ _ _ _ _ => pts_nil) (fun _ _ _ _ _ => (pe_cmpR (show OpR _ _ (rInA K false) from op_inA hr.units65) (pv 7) (pv 8) (by rfl)))) pa_nil))))) (fun _ _ _ _ _ => (pv 8))) pa_nil)))
      (pss_one (ps_ret (pe_cmpR op_eq (pe_callB (show CallR _ _ (rRepr K) from (call_repr hr)) (by rfl) z.n_repr (by decide +kernel) (pa_cons (pe_lst (pa_cons (k_agreeing.call hr (by decide) (by rfl) (pa_cons (pv 1) (pa_cons (pv 4) pa_nil))) (pa_cons (k_agreeing_known_logs.call hr (by decide) (by rfl) (pk_cons (pv 4) (pk_cons (pv 1) pk_nil))) pa_nil))) pa_nil)) (pe_callB (show CallR _ _ (rRepr K) from (call_repr hr)) (by rfl) z.n_repr (by decide +kernel) (pa_cons (pe_lst (pa_cons (pv 6) (pa_cons (pv 6) pa_nil))) pa_nil)) (nomark _))))))))), ?_⟩
    generalize start ["_law_box_here", "_law_some", "_law_names", "_law_entry", "_law_pairs", "_law_name", "_law_due", "_law_pair", "_law_each"] (.ref b :: vs') = σ at R ⊢
    rename Hp => H0
    have g : GOk ls ns := g
    have few : ls.length ≤ 1000 := g.few
    have hc : Cells ns := g.cells
    have n6 : ns.length ≤ 6 := g.len
    have n0 : 0 < ns.length := List.length_pos_iff.mpr g.ne
    have lg : ∀ l ∈ ls ++ [[]], LgOk l ∧ l.length ≤ 6 := fun l h => by
      rcases List.mem_append.mp h with h | h
      · exact ⟨g.ok l h, g.l6 h⟩
      · rw [List.mem_singleton.mp h]; exact ⟨.nil, Nat.zero_le _⟩
    walk_at "z"
    refine z_cat R (by walk_at "rf") (by walk_at "rf") (by rw [List.length_map]; simp; omega) fun v H R => ?_
    walk_at "z"
    have e0 : ls.map logD ++ [PyData.tuple []] = (ls ++ [[]]).map logD := by rw [List.map_append]; rfl
    rw [e0] at R
    refine z_of (m := 19 + m) R rfl (Sq.l _) (by simp) (by rw [List.length_map, List.length_append]; simp; omega) rfl (by omega) (by walk_at "se") fun v H d hd R => ?_
    obtain ⟨e, he, rfl⟩ := List.mem_map.mp hd
    obtain ⟨eo, e6⟩ := lg e he
    walk_at "z"
    refine z_lcT (vs := [7]) R (by rfl) (by rfl) (fun j env acc => ∃ (k' : Nat) (p : Lg), env = [.box k', .fz (logsD ls), .fz (.list (ns.map PyData.str)), .fz (logD e), .junk, .junk, .junk, .junk, .junk] ∧ acc = p.map prD ∧ 19 + m ≤ k' + j ∧ p.Sublist (e.take j)) ⟨19 + m, [], rfl, rfl, by omega, List.Sublist.refl _⟩ ?_ ?_
    · rintro j d _ _ H D v hj hd ⟨k', p, rfl, rfl, hk', sl⟩ la jn R
      obtain ⟨y, hy, rfl⟩ := map_at hd
      rw [List.length_map] at hj
      walk_at "z"
      refine z_take (m := k' - 1) R rfl (by decide) (by decide) (by omega) (by walk_at "se") fun v H r r0 r1 R => ?_
      walk_at "z"
      have et : e.take (j + 1) = e.take j ++ [y] := by rw [List.take_add_one, hy]; rfl
      refine r_ite (fun hp => ?_) (fun hp => ?_)
      · walk_at "z"
        refine z_lcAdd R rfl hw la (by omega) rfl ⟨k' - 1, p ++ [y], rfl, by rw [List.map_append]; rfl, by omega, ?_⟩
        rw [et]
        exact sl.append (List.Sublist.refl _)
      · refine z_lcSkip R hw la rfl ⟨k' - 1, p, rfl, rfl, by omega, ?_⟩
        rw [et]
        exact sl.trans (List.sublist_append_left _ _)
    rintro _ _ H D ⟨k', ps, rfl, rfl, hk', sl⟩ la R
    rw [List.length_map] at hk' sl
    rw [List.take_length] at sl
    have po := eo.sub sl
    have p6 : ps.length ≤ 6 := Nat.le_trans sl.length_le e6
    repeat walk_at "st"
    refine y_name R (by walk_at "se") (by rfl) (by rfl) (fun σ R => ?_)
    refine z_frzL 4 R rfl rfl fun R => ?_
    refine r_seq (r_cutS (fun σ' H' => ∃ (k : Nat) (p : Lg), m ≤ k ∧ LgOk p ∧ p.length ≤ 7 ∧ Rp ⟨K, H0, S, [b], []⟩ H' σ' [.box k, .fz (logsD ls), .fz (.list (ns.map PyData.str)), .junk, .fz (.list (p.map prD)), .junk, .junk, .junk, .junk] []) ?key ?h)
    case key =>
      clear sl po p6 hk' la
      rintro σ H ⟨k, p, hk, po, p7, R⟩
      walk_at "z"
      refine z_sortD (K := K) (enc := prD) rfl R rfl (Sq.l _) rfl (fun z hz => noD_shp _ (cmp_pr (po.cell z hz)).s) (sb_pairs _) fun v H t pm pw R => ?_
      have to := po.perm pm
      walk_at "z"
      refine z_fT (vs := [8]) (enc := logD) (as := ls) (fun l => if (t.all fun z => decide (z ∈ l)) = true then some (logD l) else none) R (by rfl) (by rfl) ?_ ?_
      · intro n l acc H D v hl hacc la R
        have lo := g.ok l (List.mem_of_getElem? hl)
        walk_at "z"
        refine z_fT (vs := [7]) (enc := prD) (as := t) (fun z => some (.bool (decide (z ∈ l)))) R (by rfl) (by rfl) ?_ ?_
        · intro n y acc H D v ha hacc la R
          have t60 : t.length ≤ 60 := to.len
          walk_at "z"
          refine z_inA (K := K) (enc := prD) (a := y) (as := l) rfl R rfl rfl (Sq.t _) (cmp_pr (to.cell y (List.mem_of_getElem? ha))) (cmp_log lo.cell) eqv_pr fun v R => ?_
          rw [if_neg Bool.false_ne_true] at R
          walk_at "z"
          exact z_fAdd R rfl hw la ha hacc (by omega) (congrArg (fun b => some (PyData.bool b)) (dec_eq _ _)) rfl rfl
        intro D2 H R
        rw [fm_some] at R
        walk_at "z"
        refine z_all (bs := t.map fun z => decide (z ∈ l)) R (by walk_at "rf") (by rw [List.map_map]; rfl) fun v R => ?_
        rw [List.all_map] at R
        walk_at "z"
        refine r_itb (fun hb => ?_) (fun hb => ?_)
        · walk_at "z"
          exact z_fAdd R rfl hw la hl hacc (by omega) (if_pos hb) rfl rfl
        · exact z_fSkip R hw la hl hacc (if_neg (fun h => Bool.noConfusion (h.symm.trans hb))) rfl rfl
      intro D H R
      rw [fm_if] at R
      have ef : (ls.filter fun l => t.all fun z => decide (z ∈ l)) = ls.filter fun l => agr l t := List.filter_congr fun l hl => (agr_mem (g.ok l hl)).symm
      rw [ef] at R
      walk_at "z"
      refine z_p2 (ls, t) R rfl rfl rfl ⟨⟨few, g.ok⟩, to.len⟩ fun v H d hd R => ?_
      cases hd
      walk_at "z"
      refine z_p2 (ls, t) R.swap rfl rfl rfl ⟨⟨few, g.ok⟩, to.len⟩ fun v H d hd R => ?_
      cases hd
      walk_at "z"
      have sf : ∀ l ∈ ls.filter (fun l => agr l t), LgOk l ∧ l.length ≤ 6 := fun l hl => ⟨g.ok l (List.mem_filter.mp hl).1, g.l6 (List.mem_filter.mp hl).1⟩
      have sA := sm_logs (c := 1000) sf (Nat.le_trans (List.length_filter_le _ _) few)
      have sh := (sm_l2 sA sA).shw rfl rfl
      refine z_repr rfl R rfl sh fun v R => ?_
      walk_at "z"
      refine z_repr rfl R rfl sh fun v R => ?_
      walk_at "z"
      refine z_retB (i := 0) (m := k) R rfl rfl fun kp B f => q _ _ _ kp (B.mono (by omega)) f ?_
      unfold post_true
      exact congrArg PyData.bool (decide_eq_true rfl)
    case h =>
      intro nx hn
      walk_at "z"
      refine z_take (m := k' - 1) R rfl (by decide) (by decide) (by omega) (by walk_at "se") fun v H r r0 r1 R => ?_
      walk_at "z"
      refine r_ite (fun h3 => ?_) (fun h3 => ?_)
      · walk_at "z"
        refine z_of (m := k' - 2) R rfl (Sq.l _) (by rw [List.length_map]; exact n0) (by rw [List.length_map]; omega) rfl (by omega) (by walk_at "se") fun v H d hd R => ?_
        obtain ⟨c, hcn, rfl⟩ := List.mem_map.mp hd
        walk_at "z"
        refine z_fL (vs := [7]) (enc := prD) (as := ps) (fun y => if (!decide (y.1 = c)) = true then some (prD y) else none) R rfl (by rfl) (by rfl) ?_ ?_
        · intro n y acc H D v hy hacc la R
          walk_at "z"
          refine z_ixT R (d := .str y.1) (by show atI _ ((0 : Nat) : Int) = _; exact atI_nat rfl) fun v R => ?_
          walk_at "z"
          refine r_itb (fun hb => ?_) (fun hb => ?_)
          · walk_at "z"
            exact z_fAdd R rfl hw la hy hacc (by omega) (if_pos hb) rfl rfl
          · exact z_fSkip R hw la hy hacc (if_neg (by rw [hb]; decide)) rfl rfl
        intro D H R
        rw [fm_if] at R
        walk_at "z"
        refine z_take (m := k' - 3) R rfl (by decide) (by decide) (by omega) (by walk_at "se") fun v H r r0 r1 R => ?_
        walk_at "z"
        have lf := List.length_filter_le (fun y : Str × Int => !decide (y.1 = c)) ps
        refine z_cat R (by walk_at "rf") (by walk_at "rf") (by rw [List.length_map]; simp; omega) fun v H R => ?_
        have e1 : (ps.filter fun y => !decide (y.1 = c)).map prD ++ [PyData.tuple [.str c, .int r]] = ((ps.filter fun y => !decide (y.1 = c)) ++ [(c, r)]).map prD := by rw [List.map_append]; rfl
        rw [e1] at R
        walk_at "z"
        refine z_frzL 4 R rfl rfl fun R => ?_
        exact hn _ _ ⟨k' - 3, _, by omega, po.swap (hc.2 c hcn) r0 (by omega) (by omega), by rw [List.length_append, List.length_singleton]; omega, R.jk [3, 5]⟩
      · walk_at "z"
        exact hn _ _ ⟨k' - 1, ps, by omega, po, by omega, R.jk [3]⟩
end
end L2.Ro

end
section
set_option Elab.async false
set_option linter.all false
set_option maxRecDepth 100000
set_option maxHeartbeats 4000000
local macro_rules | `(tactic| walk_at "rd1") => `(tactic| with_reducible first
  | refine L2.Rx.r_seq ?_ | refine L2.Rx.r_asg ?_ | refine L2.Rx.r_gname ?_ | refine L2.Rx.r_op ?_ | refine L2.Rx.r_c ?_
  | refine L2.Rx.r_var rfl ?_
  | refine L2.Rx.r_rI0 ?_ | refine L2.Rx.r_test ?_ | refine L2.Rx.r_bl ?_ | refine L2.Rx.r_if ?_ | refine L2.Rx.r_ret ?_
  | refine L2.Rx.r_cons ?_ | refine L2.Rx.r_nil ?_ | refine L2.Rx.r_call ?_ | refine L2.Rx.r_cb ?_ | refine L2.Rx.r_next ?_ | refine L2.Rx.r_drop ?_
  | refine L2.Rx.r_gsub ?_ | refine L2.Rx.r_tupF ?_ | refine L2.Rx.r_lst ?_ | refine L2.Rx.r_par ?_ | refine L2.Rx.r_par2 ?_
  | refine L2.Rx.r_un ?_ | refine L2.Rx.r_tb ?_ | refine L2.Rx.r_and ?_ | refine L2.Rx.r_or ?_ | refine L2.Rx.r_not ?_
  | refine L2.Rx.r_andV ?_ | refine L2.Rx.r_orV ?_ | refine L2.Rx.r_notV ?_ | refine L2.Rx.r_ifx ?_ | refine L2.Rx.r_chain ?_
  | refine L2.Rx.r_sl ?_ | refine L2.Rx.r_nopart ?_ | refine L2.Rx.r_part ?_ | refine L2.Rx.r_exint ?_ | refine L2.Rx.r_bm0 ?_ | refine L2.Rx.r_bm ?_
  | refine L2.Rx.r_lc ?_ | refine L2.Rx.r_rng1 ?_ | refine L2.Rx.r_yes ?_ | refine L2.Rx.r_tt ?_ | refine L2.Rx.r_ff ?_ | refine L2.Rx.r_m1 ?_ | refine L2.Rx.r_m0 ?_ | refine L2.Rx.r_isS ?_
  | (refine L2.Rx.r_wipe (by with_unfolding_all rfl) ?_) | (refine L2.Rx.r_tyL (by walk_at "hp") ?_)
  | refine L2.Rx.r_addS (by walk_at "len") ?_ | refine L2.Rx.r_lenS (by walk_at "len") ?_ | refine L2.Rx.r_slS (by walk_at "len") ?_
  | refine L2.Rx.r_dnotin ?_ | refine L2.Rx.r_dget ?_ | refine L2.Rx.r_dget1 ?_ | refine L2.Rx.r_dput ?_ | refine L2.Rx.r_dpop1 ?_ | refine L2.Rx.r_isN ?_
  | refine L2.Rx.r_for ?_ | refine L2.Rx.r_ilist ?_ | refine L2.Rx.r_itup ?_
  | refine L2.Rx.r_gcons ?_ | refine L2.Rx.r_gnil ?_ | (refine L2.Rx.r_gtupP (by assumption) (by walk_at "at") ?_)
  | (refine L2.Rx.r_rEq rfl ?_) | (refine L2.Rx.r_rNe rfl ?_)
  | refine L2.Rx.r_rU ?_ | refine L2.Rx.r_max2 ?_ | refine L2.Rx.r_min2 ?_ | refine L2.Rx.r_int1i ?_ | (refine L2.Rx.r_lenh (by walk_at "hp") ?_)
  | (refine L2.Rx.r_ixLh (by walk_at "hp") (by walk_at "at") ?_)
  | (refine L2.Rx.r_setL (by walk_at "hp") (by walk_at "at") ?_))
local macro_rules | `(tactic| walk_at "at") => `(tactic| with_unfolding_all rfl)
local macro_rules | `(tactic| walk_at "rd") => `(tactic| (repeat walk_at "rd1"))
local macro_rules | `(tactic| walk_at "hp") => `(tactic| first
  | assumption
  | exact L2.upd_same
  | (refine Eq.trans (L2.upd_ne ?_) ?_; (focus walk_at "ne"); (focus walk_at "hp"))
  | (refine L2.Rx.Kp.at0 (by assumption) ?_; walk_at "hp")
  | (refine L2.Rx.Kp.at1 (by assumption) ?_ ?_; (focus walk_at "ne"); (focus walk_at "hp")))
local macro_rules | `(tactic| walk_at "ne") => `(tactic| first
  | assumption | exact Ne.symm (by assumption)
  | (refine L2.ne_of_none (H := ?nH) (o := ?nO) ?nh ?nn; (case nn => assumption); (case nh => walk_at "hp"))
  | (refine Ne.symm (L2.ne_of_none (H := ?nH) (o := ?nO) ?nh ?nn); (case nn => assumption); (case nh => walk_at "hp")))
local macro_rules | `(tactic| walk_at "len") => `(tactic| (rw [PySem.sizeLine_eq]; omega))
local macro_rules | `(tactic| walk_at "nin") => `(tactic| first
  | exact List.not_mem_nil
  | (refine L2.Rx.nin1 ?_; walk_at "ne"))
local macro_rules | `(tactic| walk_at "none") => `(tactic| first
  | assumption
  | (refine L2.Rx.Kp.none0 (by assumption) ?_ ?_; (focus walk_at "nin"); (focus walk_at "none")))
set_option hygiene false
local macro_rules | `(tactic| walk_at "se") => `(tactic| first | exact L2.Z.SetE.z | exact L2.Z.SetE.s (L2.Z.SetE.z) | exact L2.Z.SetE.s (L2.Z.SetE.s (L2.Z.SetE.z)) | exact L2.Z.SetE.s (L2.Z.SetE.s (L2.Z.SetE.s (L2.Z.SetE.z))) | exact L2.Z.SetE.s (L2.Z.SetE.s (L2.Z.SetE.s (L2.Z.SetE.s (L2.Z.SetE.z)))) | exact L2.Z.SetE.s (L2.Z.SetE.s (L2.Z.SetE.s (L2.Z.SetE.s (L2.Z.SetE.s (L2.Z.SetE.z))))) | exact L2.Z.SetE.s (L2.Z.SetE.s (L2.Z.SetE.s (L2.Z.SetE.s (L2.Z.SetE.s (L2.Z.SetE.s (L2.Z.SetE.z)))))) | exact L2.Z.SetE.s (L2.Z.SetE.s (L2.Z.SetE.s (L2.Z.SetE.s (L2.Z.SetE.s (L2.Z.SetE.s (L2.Z.SetE.s (L2.Z.SetE.z))))))) | exact L2.Z.SetE.s (L2.Z.SetE.s (L2.Z.SetE.s (L2.Z.SetE.s (L2.Z.SetE.s (L2.Z.SetE.s (L2.Z.SetE.s (L2.Z.SetE.s (L2.Z.SetE.z)))))))) | exact L2.Z.SetE.s (L2.Z.SetE.s (L2.Z.SetE.s (L2.Z.SetE.s (L2.Z.SetE.s (L2.Z.SetE.s (L2.Z.SetE.s (L2.Z.SetE.s (L2.Z.SetE.s (L2.Z.SetE.z))))))))) | exact L2.Z.SetE.s (L2.Z.SetE.s (L2.Z.SetE.s (L2.Z.SetE.s (L2.Z.SetE.s (L2.Z.SetE.s (L2.Z.SetE.s (L2.Z.SetE.s (L2.Z.SetE.s (L2.Z.SetE.s (L2.Z.SetE.z)))))))))) | exact L2.Z.SetE.s (L2.Z.SetE.s (L2.Z.SetE.s (L2.Z.SetE.s (L2.Z.SetE.s (L2.Z.SetE.s (L2.Z.SetE.s (L2.Z.SetE.s (L2.Z.SetE.s (L2.Z.SetE.s (L2.Z.SetE.s (L2.Z.SetE.z))))))))))) | exact L2.Z.SetE.s (L2.Z.SetE.s (L2.Z.SetE.s (L2.Z.SetE.s (L2.Z.SetE.s (L2.Z.SetE.s (L2.Z.SetE.s (L2.Z.SetE.s (L2.Z.SetE.s (L2.Z.SetE.s (L2.Z.SetE.s (L2.Z.SetE.s (L2.Z.SetE.z)))))))))))) | exact L2.Z.SetE.s (L2.Z.SetE.s (L2.Z.SetE.s (L2.Z.SetE.s (L2.Z.SetE.s (L2.Z.SetE.s (L2.Z.SetE.s (L2.Z.SetE.s (L2.Z.SetE.s (L2.Z.SetE.s (L2.Z.SetE.s (L2.Z.SetE.s (L2.Z.SetE.s (L2.Z.SetE.z))))))))))))) | exact L2.Z.SetE.s (L2.Z.SetE.s (L2.Z.SetE.s (L2.Z.SetE.s (L2.Z.SetE.s (L2.Z.SetE.s (L2.Z.SetE.s (L2.Z.SetE.s (L2.Z.SetE.s (L2.Z.SetE.s (L2.Z.SetE.s (L2.Z.SetE.s (L2.Z.SetE.s (L2.Z.SetE.s (L2.Z.SetE.z)))))))))))))) | exact L2.Z.SetE.s (L2.Z.SetE.s (L2.Z.SetE.s (L2.Z.SetE.s (L2.Z.SetE.s (L2.Z.SetE.s (L2.Z.SetE.s (L2.Z.SetE.s (L2.Z.SetE.s (L2.Z.SetE.s (L2.Z.SetE.s (L2.Z.SetE.s (L2.Z.SetE.s (L2.Z.SetE.s (L2.Z.SetE.s (L2.Z.SetE.z))))))))))))))) | exact L2.Z.SetE.s (L2.Z.SetE.s (L2.Z.SetE.s (L2.Z.SetE.s (L2.Z.SetE.s (L2.Z.SetE.s (L2.Z.SetE.s (L2.Z.SetE.s (L2.Z.SetE.s (L2.Z.SetE.s (L2.Z.SetE.s (L2.Z.SetE.s (L2.Z.SetE.s (L2.Z.SetE.s (L2.Z.SetE.s (L2.Z.SetE.s (L2.Z.SetE.z)))))))))))))))) | exact L2.Z.SetE.s (L2.Z.SetE.s (L2.Z.SetE.s (L2.Z.SetE.s (L2.Z.SetE.s (L2.Z.SetE.s (L2.Z.SetE.s (L2.Z.SetE.s (L2.Z.SetE.s (L2.Z.SetE.s (L2.Z.SetE.s (L2.Z.SetE.s (L2.Z.SetE.s (L2.Z.SetE.s (L2.Z.SetE.s (L2.Z.SetE.s (L2.Z.SetE.s (L2.Z.SetE.z))))))))))))))))) | exact L2.Z.SetE.s (L2.Z.SetE.s (L2.Z.SetE.s (L2.Z.SetE.s (L2.Z.SetE.s (L2.Z.SetE.s (L2.Z.SetE.s (L2.Z.SetE.s (L2.Z.SetE.s (L2.Z.SetE.s (L2.Z.SetE.s (L2.Z.SetE.s (L2.Z.SetE.s (L2.Z.SetE.s (L2.Z.SetE.s (L2.Z.SetE.s (L2.Z.SetE.s (L2.Z.SetE.s (L2.Z.SetE.z)))))))))))))))))) | exact L2.Z.SetE.s (L2.Z.SetE.s (L2.Z.SetE.s (L2.Z.SetE.s (L2.Z.SetE.s (L2.Z.SetE.s (L2.Z.SetE.s (L2.Z.SetE.s (L2.Z.SetE.s (L2.Z.SetE.s (L2.Z.SetE.s (L2.Z.SetE.s (L2.Z.SetE.s (L2.Z.SetE.s (L2.Z.SetE.s (L2.Z.SetE.s (L2.Z.SetE.s (L2.Z.SetE.s (L2.Z.SetE.s (L2.Z.SetE.z))))))))))))))))))) | exact L2.Z.SetE.s (L2.Z.SetE.s (L2.Z.SetE.s (L2.Z.SetE.s (L2.Z.SetE.s (L2.Z.SetE.s (L2.Z.SetE.s (L2.Z.SetE.s (L2.Z.SetE.s (L2.Z.SetE.s (L2.Z.SetE.s (L2.Z.SetE.s (L2.Z.SetE.s (L2.Z.SetE.s (L2.Z.SetE.s (L2.Z.SetE.s (L2.Z.SetE.s (L2.Z.SetE.s (L2.Z.SetE.s (L2.Z.SetE.s (L2.Z.SetE.z)))))))))))))))))))) | exact L2.Z.SetE.s (L2.Z.SetE.s (L2.Z.SetE.s (L2.Z.SetE.s (L2.Z.SetE.s (L2.Z.SetE.s (L2.Z.SetE.s (L2.Z.SetE.s (L2.Z.SetE.s (L2.Z.SetE.s (L2.Z.SetE.s (L2.Z.SetE.s (L2.Z.SetE.s (L2.Z.SetE.s (L2.Z.SetE.s (L2.Z.SetE.s (L2.Z.SetE.s (L2.Z.SetE.s (L2.Z.SetE.s (L2.Z.SetE.s (L2.Z.SetE.s (L2.Z.SetE.z))))))))))))))))))))))
local macro_rules | `(tactic| walk_at "rf") => `(tactic| with_unfolding_all rfl)
local macro_rules | `(tactic| walk_at "sq") => `(tactic| first | exact L2.Z.Sq.t _ | exact L2.Z.Sq.l _)
local macro_rules | `(tactic| walk_at "nal") => `(tactic| rfl)
local macro_rules | `(tactic| walk_at "st") => `(tactic| with_reducible first
  | refine L2.Rx.r_seq ?_ | refine L2.Rx.r_asg ?_ | refine L2.Rx.r_op ?_
  | refine L2.Rx.r_test ?_ | refine L2.Rx.r_if ?_ | refine L2.Rx.r_ret ?_
  | refine L2.Rx.r_cons ?_ | refine L2.Rx.r_nil ?_ | refine L2.Rx.r_call ?_ | refine L2.Rx.r_cb ?_ | refine L2.Rx.r_next ?_ | refine L2.Rx.r_drop ?_
  | refine L2.Rx.r_gsub ?_ | refine L2.Rx.r_tupF ?_ | refine L2.Rx.r_lst ?_ | refine L2.Rx.r_par ?_ | refine L2.Rx.r_par2 ?_
  | refine L2.Rx.r_un ?_ | refine L2.Rx.r_tb ?_ | refine L2.Rx.r_and ?_ | refine L2.Rx.r_or ?_ | refine L2.Rx.r_not ?_
  | refine L2.Rx.r_andV ?_ | refine L2.Rx.r_orV ?_ | refine L2.Rx.r_notV ?_ | refine L2.Rx.r_ifx ?_ | refine L2.Rx.r_chain ?_
  | refine L2.Rx.r_sl ?_ | refine L2.Rx.r_nopart ?_ | refine L2.Rx.r_part ?_ | refine L2.Rx.r_bm0 ?_ | refine L2.Rx.r_bm ?_
  | refine L2.Rx.r_lc ?_ | refine L2.Rx.r_rng1 ?_ | refine L2.Rx.r_yes ?_ | refine L2.Rx.r_tt ?_ | refine L2.Rx.r_ff ?_ | refine L2.Rx.r_m1 ?_ | refine L2.Rx.r_m0 ?_
  | refine L2.Rx.r_dnotin ?_ | refine L2.Rx.r_dget ?_ | refine L2.Rx.r_dget1 ?_ | refine L2.Rx.r_dget2 ?_ | refine L2.Rx.r_dput ?_
  | refine L2.Rx.r_for ?_ | refine L2.Rx.r_ilist ?_ | refine L2.Rx.r_itup ?_
  | refine L2.Rx.r_gcons ?_ | refine L2.Rx.r_gnil ?_ | refine L2.Rx.r_kw ?_ | (show L2.Rx.tSf2 _ _ _ _ _ _ _ _ _ _ _ _ _; unfold L2.Rx.tSf2))
local macro_rules | `(tactic| walk_at "zv") => `(tactic| first
  | (refine L2.Z.z_int R (fun v R => ?_))
  | (refine L2.Z.z_str R (fun v R => ?_))
  | (refine L2.Z.z_bl R (fun v R => ?_))
  | (refine L2.Z.z_non R (fun v R => ?_))
  | (refine L2.Z.z_var R (by walk_at "rf") (fun v R => ?_))
  | (refine L2.Z.z_varA R (by walk_at "rf") (by rfl) (fun v R => ?_))
  | (refine L2.Z.y_lcName R (by decide) (by walk_at "se") (by rfl) (by rfl) (fun σ hw R => ?_))
  | (refine L2.Z.y_lcPair R (by decide) (by decide) (by walk_at "se") (by walk_at "se") (by rfl) (fun σ hw R => ?_))
  | (refine L2.Z.y_lcPairP R (by decide) (by decide) (by walk_at "se") (by walk_at "se") (by rfl) (fun σ hw R => ?_))
  | (refine L2.Z.y_name R (by walk_at "se") (by rfl) (by rfl) (fun σ R => ?_))
  | (refine L2.Z.z_gtup2 R (fun a b R => ?_))
  | (refine L2.Z.z_gtupP R (fun a b R => ?_))
  | (refine L2.Z.z_gtup3 R (fun a b c R => ?_))
  | (refine L2.Z.z_isD R (by walk_at "rf") (fun a R => ?_))
  | (refine L2.Z.z_isb R (fun R => ?_))
  | (refine L2.Z.z_isi R (fun R => ?_)))
local macro_rules | `(tactic| walk_at "zo") => `(tactic| first
  | (refine L2.Z.z_rI0i R (fun v R => ?_))
  | (refine L2.Z.z_rI0b R (fun v R => ?_))
  | (refine L2.Z.z_eqI R (fun v R => ?_))
  | (refine L2.Z.z_neI R (fun v R => ?_))
  | (refine L2.Z.z_eqS R (fun v R => ?_))
  | (refine L2.Z.z_neS R (fun v R => ?_))
  | (refine L2.Z.z_isV R (fun v R => ?_))
  | (refine L2.Z.z_notV R (fun v R => ?_))
  | (refine L2.Z.z_len R (by walk_at "rf") (by walk_at "sq") (fun v R => ?_))
  | (refine L2.Z.z_tup0 R (fun p o R => ?_); refine L2.Z.gen_R R (fun v H R => ?_))
  | (refine L2.Z.z_tup1 R (by walk_at "rf") (fun p o R => ?_); refine L2.Z.gen_R R (fun v H R => ?_))
  | (refine L2.Z.z_tup2 R (by walk_at "rf") (by walk_at "rf") (fun p o R => ?_); refine L2.Z.gen_R R (fun v H R => ?_))
  | (refine L2.Z.z_tup3 R (by walk_at "rf") (by walk_at "rf") (by walk_at "rf") (fun p o R => ?_); refine L2.Z.gen_R R (fun v H R => ?_))
  | (refine L2.Z.z_lst0 R (fun p R => ?_); refine L2.Z.gen_R R (fun v H R => ?_))
  | (refine L2.Z.z_lst1 R (by walk_at "rf") (fun p R => ?_); refine L2.Z.gen_R R (fun v H R => ?_))
  | (refine L2.Z.z_lst2 R (by walk_at "rf") (by walk_at "rf") (fun p R => ?_); refine L2.Z.gen_R R (fun v H R => ?_))
  | (refine L2.Z.z_lst3 R (by walk_at "rf") (by walk_at "rf") (by walk_at "rf") (fun p R => ?_); refine L2.Z.gen_R R (fun v H R => ?_))
  | (refine L2.Z.z_tupL R (by walk_at "rf") (fun v H R => ?_))
  | (refine L2.Z.z_tupT R (fun v R => ?_))
  | (refine L2.Z.z_listOf R (by walk_at "rf") (by walk_at "sq") (fun v H R => ?_))
  | (refine L2.Z.z_slL R (by walk_at "rf") (fun v H R => ?_))
  | (refine L2.Z.z_isStr R ?_)
  | (refine L2.Z.z_tyL R (by walk_at "rf") ?_)
  | (refine L2.Z.z_isD R (by walk_at "rf") (fun a R => ?_))
  | (refine L2.Z.z_dnew R (fun v H R => ?_))
  | (refine L2.Z.z_max2 R (fun v R => ?_))
  | (refine L2.Z.z_min2 R (fun v R => ?_)))
local macro_rules | `(tactic| walk_at "z1") => `(tactic| first | walk_at "st" | walk_at "zv" | walk_at "zo")
local macro_rules | `(tactic| walk_at "z") => `(tactic| (repeat walk_at "z1"))
local macro_rules | `(tactic| walk_at "ret") => `(tactic| refine L2.Z.z_retP R rfl (fun k f => q _ _ _ k f ?_))
local macro_rules | `(tactic| walk_at "fadd") => `(tactic| exact L2.Z.z_fAdd R rfl hw la ha hacc (by omega) rfl rfl rfl)
local macro_rules | `(tactic| walk_at "get") => `(tactic| first
  | (refine L2.Z.z_getL R (by walk_at "rf") (fun o R => ?_); refine L2.Z.gen_V R (fun v R => ?_))
  | (refine L2.Z.z_getL2 R (by walk_at "rf") (fun o R => ?_); refine L2.Z.gen_V R (fun v R => ?_))
  | (refine L2.Z.z_dinL R (by walk_at "rf") (fun a o R => ?_); refine L2.Z.gen_V R (fun v R => ?_))
  | (refine L2.Z.z_dninL R (by walk_at "rf") (fun a o R => ?_); refine L2.Z.gen_V R (fun v R => ?_))
  | (refine L2.Z.z_get1 R (by walk_at "rf") (by walk_at "rf") (fun o R => ?_); refine L2.Z.gen_V R (fun v R => ?_))
  | (refine L2.Z.z_get2 R (by walk_at "rf") (by walk_at "rf") (fun o R => ?_); refine L2.Z.gen_V R (fun v R => ?_))
  | (refine L2.Z.z_din R (by walk_at "rf") (by walk_at "rf") (fun a o R => ?_); refine L2.Z.gen_V R (fun v R => ?_))
  | (refine L2.Z.z_dnin R (by walk_at "rf") (by walk_at "rf") (fun a o R => ?_); refine L2.Z.gen_V R (fun v R => ?_)))
namespace L2.Ro
open PySem PySem.Spec PyProof.Rows L2.Rx L2.Z
def cntL (ls : List Lg) (c : Str) : Nat := (ls.filter fun l => decide (c ∈ l.map Prod.fst)).length
theorem cnt_app (ls : List Lg) (l : Lg) (c : Str) : cntL (ls ++ [l]) c = cntL ls c + if c ∈ l.map Prod.fst then 1 else 0 := by
  unfold cntL
  rw [List.filter_append, List.length_append]
  by_cases h : c ∈ l.map Prod.fst
  · rw [if_pos h, List.filter_cons, if_pos (decide_eq_true h)]; rfl
  · rw [if_neg h, List.filter_cons, if_neg (by simpa using h)]; rfl
theorem cnt_all (ls : List Lg) (c : Str) : cntL ls c = ls.length ↔ ∀ l ∈ ls, c ∈ l.map Prod.fst := by
  unfold cntL
  rw [List.length_filter_eq_length_iff]
  simp
/-- ascending, each once, exactly the cells that all the logs have -/
def AllShared (ls : List Lg) (cs : List Str) : Prop := cs.Pairwise (fun x y => x.cps.toList < y.cps.toList) ∧ ∀ c, c ∈ cs ↔ ls ≠ [] ∧ ∀ l ∈ ls, c ∈ l.map Prod.fst
def post_shared_cells : List Lg → PyData → Prop := fun ls d => ∃ cs : List Str, AllShared ls cs ∧ d = .tuple (cs.map PyData.str)
section
variable {P : Program} {w : World} {K : PySem.W.Frag} {mg : Str → Option Value} {base : Heap}
theorem k_shared_cells0 {f : Addr} {fd : FuncData} (F : Fun K "shared_cells" "shared_cells" s_shared_cells f fd) (g : mg "shared_cells" = some (.ref f)) (z : Zb mg) (k_cells_of : Kn P w K mg base CX0 1 "cells_of" (spP enc_log LgOk post_cells_of))  : FnG P w K mg base CX0 2 f fd ["logs"] (spP enc_logs LsOk post_shared_cells) := by
  refine fnG_body F sc_shared_cells (fun vs H Q E h => ?_) (fun cdv A outer s H vs Q E hr h => ?_)
  · obtain ⟨S, ls, f, mm, lo, q⟩ := h
    rw [f.len]
    rfl
  · obtain ⟨S, ls, f, mm, lo, q⟩ := h
    have R : Rp ⟨K, H, S, [], []⟩ H (start ["logs", "counts", "log", "cell", "many"] vs) [.fz (logsD ls), .junk, .junk, .junk, .junk] [] := start_P K f mm rfl rfl rfl
    refine ⟨_, PSs.nox (pss_cons (ps_set (i := 1) sc_shared_cells.nd rfl (.inl rfl) pe_dnewK)
      (pss_cons (ps_for PassesOwn.never rfl (show PI _ _ _ (iTup K _) from pi_tup (pv 0)) (pg_name (i := 2) sc_shared_cells.nd rfl (.inl rfl))
        (pss_one (ps_for PassesOwn.never rfl (show PI _ _ _ (iTup K _) from pi_tup (k_cells_of.call hr (by decide) (by rfl) (pa_cons (pv 2) pa_nil))) (pg_name (i := 3) sc_shared_cells.nd rfl (.inl rfl))
          (pss_one (ps_dput hr.hu (pv 1) (pv 3) (pe_op op_add (pe_dget2 hr.hu (pv 1) (pv 3) pe_int ms_2) pe_int) rfl)))))
      (pss_one (ps_ret (pe_callTy (show CallR _ _ (rTupOf K) from c_tuple) (by rfl) z.n_tuple (by decide +kernel) (pa_cons (pe_callB (show CallR _ _ (rSortV K) from (call_sortV hr)) (by rfl) z.n_sorted (by decide +kernel) (pa_cons (pe_lock (pe_lc (own := [("cell", 3), ("many", 4)]) (g := (gTup K 2 (gCons (gName 3) (gCons (gName 4) gNil)))) (by rfl) sc_shared_cells.nd (pi_items (pv 1)) (blkOk_by (own := [("cell", 3), ("many", 4)]) (N := ["logs", "counts", "log", "cell", "many"]) (sc := defScope s_shared_cells) (by decide +kernel)) (fun _ _ _ _ _ => (show PG _ _ (gTup K 2 (gCons (gName 3) (gCons (gName 4) gNil))) from pg_tup rfl (pgs_cons (pg_name (i := 3) sc_shared_cells.nd rfl (.inl rfl)) (pgs_cons (pg_name (i := 4) sc_shared_cells.nd rfl (.inl rfl)) pgs_nil)))) (fun _ _ _ _ _ => (pts_one (pt_cmpR op_eq (pv 4) (pe_callB (show CallR _ _ (rLenQ K) from c_len) (by rfl) z.n_len (by decide +kernel) (pa_cons (pv 0) pa_nil)) (nomark _)))) (fun _ _ _ _ _ => (pv 3)))) pa_nil)) pa_nil)))))), ?_⟩
    generalize start ["logs", "counts", "log", "cell", "many"] vs = σ at R ⊢
    obtain ⟨N0, ns4, hns⟩ := lo.few
    have sm : ∀ (ns : List Str) (i : Nat), ns.Nodup → (∀ c, c ∈ ns → 0 < cntL (ls.take i) c) → ns.length ≤ 4000 := fun ns i nd h => Nat.le_trans (nodup_le nd fun c hc => by
      have := h c hc
      obtain ⟨l, hl⟩ := List.exists_mem_of_length_pos (show 0 < (List.filter _ _).length from this)
      obtain ⟨h1, h2⟩ := List.mem_filter.mp hl
      exact hns l (List.mem_of_mem_take h1) c (of_decide_eq_true h2)) ns4
    walk_at "z"
    refine z_forT R (fun i env => ∃ (ns : List Str) (f : Str → Nat), env = [.fz (logsD ls), .dic (kdC ns f), .junk, .junk, .junk] ∧ ns.Nodup ∧ (∀ c, c ∈ ns ↔ 0 < f c) ∧ (∀ c, f c = cntL (ls.take i) c)) ⟨[], fun _ => 0, rfl, List.nodup_nil, fun c => by simp, fun c => by simp [cntL]⟩ ?_ ?_
    · rintro i d _ σ H v _ hd ⟨ns, f, rfl, nd, hm, hf⟩ R
      obtain ⟨l, hl', rfl⟩ := map_at hd
      have lok := lo.ok l (List.mem_of_getElem? hl')
      have e1 : ls.take (i + 1) = ls.take i ++ [l] := by rw [List.take_add_one, hl']; rfl
      walk_at "z"
      refine z_p1 l R rfl rfl lok fun v H d hq R => ?_
      cases hq
      walk_at "z"
      refine z_forT R (fun j env => ∃ (ns : List Str) (g : Str → Nat), env = [.fz (logsD ls), .dic (kdC ns g), .fz (logD l), .junk, .junk] ∧ ns.Nodup ∧ (∀ c, c ∈ ns ↔ 0 < g c) ∧ (∀ c, g c = f c + if c ∈ (l.map Prod.fst).take j then 1 else 0)) ⟨ns, f, rfl, nd, hm, fun c => by simp⟩ ?_ ?_
      · rintro j d _ σ H v hjl hd ⟨ns, g, rfl, nd, hm, hg⟩ R
        obtain ⟨c, hc, rfl⟩ := map_at hd
        rw [List.length_map, List.length_map] at hjl
        have et : (l.map Prod.fst).take (j + 1) = (l.map Prod.fst).take j ++ [c] := by rw [List.take_add_one, hc]; rfl
        have cn : c ∉ (l.map Prod.fst).take j := by
          intro h
          have nd2 : ((l.map Prod.fst).take (j + 1)).Nodup := lok.nd.sublist (List.take_sublist _ _)
          rw [et, List.nodup_append] at nd2
          exact nd2.2.2 c h c (List.mem_singleton.mpr rfl) rfl
        walk_at "z"
        refine z_get2 (k := .inr c) R (by walk_at "rf") rfl fun o R => ?_
        refine gen_V R fun v R => ?_
        have eg : (lookD (kdC ns g) (.inr c)).getD (PyData.int 0) = .int (g c) := by
          rw [look_kdC]
          by_cases h : c ∈ ns
          · rw [if_pos h]; rfl
          · rw [if_neg h]
            have : g c = 0 := Nat.eq_zero_of_not_pos fun z => h ((hm c).mpr z)
            rw [this]; rfl
        rw [eg] at R
        walk_at "z"
        have kl : (kdC ns g).length < 1000000 := by
          rw [kdC, List.length_map]
          have := sm ns (i + 1) nd fun c hc => by
            have h := (hm c).mp hc
            rw [hg, hf] at h
            rw [e1, cnt_app]
            split at h
            · rename_i h2
              rw [if_pos (List.mem_of_mem_take h2)]
              omega
            · omega
          omega
        have ec : ((g c : Int) + 1) = ((g c + 1 : Nat) : Int) := by simp
        rw [ec] at R
        refine y_dput (k := .inr c) R rfl rfl kl (by walk_at "se") fun H R => ?_
        rw [put_kdC] at R
        refine ⟨_, ⟨_, _, rfl, ?_, fun c' => ?_, fun c' => ?_⟩, R.jk [3]⟩
        · split
          · exact nd
          · rename_i h
            exact List.nodup_append.mpr ⟨nd, List.pairwise_singleton _ _, fun a ha b hb e => h (by rw [← List.mem_singleton.mp hb, ← e]; exact ha)⟩
        · by_cases e : c' = c
          · subst e
            simp only [if_pos]
            split <;> simp_all
          · rw [if_neg e]
            split
            · exact hm c'
            · rw [List.mem_append, List.mem_singleton]
              simp [e, hm c']
        · rw [et]
          by_cases e : c' = c
          · subst e
            rw [if_pos rfl, hg, if_neg cn, if_pos (by simp)]
          · rw [if_neg e, hg]
            simp [e]
      · rintro _ σ H ⟨ns, g, rfl, nd, hm, hg⟩ R
        refine ⟨_, ⟨ns, g, rfl, nd, hm, fun c => ?_⟩, R.jk [2]⟩
        · have tk : (l.map Prod.fst).take ((l.map Prod.fst).map PyData.str).length = l.map Prod.fst := List.take_of_length_le (by simp)
          rw [hg, tk, e1, cnt_app, hf]
    · rintro _ σ H ⟨ns, f, rfl, nd, hm, hf⟩ R
      walk_at "z"
      refine z_itemsLc (vs := [3, 4]) R rfl (by walk_at "se") (by rfl) (by rfl) (fun n acc => acc = (ns.take n).filterMap fun c => if f c = ls.length then some (.str c) else none) rfl ?_ ?_
      · intro F tx n z acc H D v htx hF hz hacc la R
        obtain ⟨c, hc, rfl⟩ : ∃ c, ns[n]? = some c ∧ z = (.inr c, .int (f c)) := by
          rw [kdC, List.getElem?_map] at hz
          cases e : ns[n]? with
          | none => rw [e] at hz; cases hz
          | some c => rw [e] at hz; exact ⟨c, rfl, (Option.some.inj hz).symm⟩
        have hn : n < ns.length := (List.getElem?_eq_some_iff.mp hc).1
        have few := sm ns (List.map logD ls).length nd fun c hc => by rw [← hf]; exact (hm c).mp hc
        refine y_lcPairP (d1 := .str c) (d2 := .int (f c)) R (by decide) (by decide) (by walk_at "se") (by walk_at "se") (noAl_cons rfl htx) fun σ hw R => ?_
        walk_at "z"
        have ez : (((f c : Nat) : Int) = ((List.map logD ls).length : Nat)) = (f c = ls.length) := propext (by rw [List.length_map]; exact Int.ofNat_inj)
        refine r_itb (fun hb => ?_) (fun hb => ?_)
        · walk_at "z"
          refine z_lcAdd R rfl hw la (by omega) htx ⟨rfl, ?_⟩
          rw [decide_eq_true_eq, ez] at hb
          show acc ++ _ = _
          rw [take_fm hc, if_pos hb, hacc]; rfl
        · refine z_lcSkip R hw la htx ⟨rfl, ?_⟩
          rw [decide_eq_false_iff_not, ez] at hb
          show acc = _
          rw [take_fm hc, if_neg hb, hacc]; simp
      · intro acc H v hacc la R
        have ek : (kdC ns f).length = ns.length := by rw [kdC, List.length_map]
        rw [ek, List.take_length] at hacc
        have e2 : acc = (ns.filter fun c => decide (f c = ls.length)).map PyData.str := by
          rw [hacc, ← fm_if]
          simp
        subst e2
        walk_at "z"
        refine z_sortD (K := K) (enc := PyData.str) rfl R rfl (Sq.l _) rfl (fun _ _ => by simp [noD]) (sb_strs _) fun v H cs pm pw R => ?_
        walk_at "z"
        walk_at "ret"
        rw [List.length_map, List.take_length] at hf
        refine ⟨cs, ⟨strict_of (pw.imp fun {a b} h => ?_) (pm.nodup_iff.mpr (nd.filter _)), fun c => ?_⟩, rfl⟩
        · rw [PySem.W.dataLt_str] at h
          exact of_decide_eq_false h
        · rw [pm.mem_iff, List.mem_filter, decide_eq_true_eq, hm, hf, cnt_all]
          constructor
          · rintro ⟨h, h2⟩
            refine ⟨fun e => ?_, h2⟩
            rw [e] at h
            simp [cntL] at h
          · rintro ⟨h, h2⟩
            refine ⟨?_, h2⟩
            rw [(cnt_all ls c).mpr h2]
            exact List.length_pos_iff.mpr h
end
theorem k_shared_cells {P : Program} {w : World} {K : PySem.W.Frag} {mg : Str → Option Value} {base : Heap} {f : Addr} {fd : FuncData} (F : Fun K "shared_cells" "shared_cells" s_shared_cells f fd) (g : mg "shared_cells" = some (.ref f)) (z : Zb mg) (k_cells_of : Kn P w K mg base CX0 1 "cells_of" (spP enc_log LgOk post_cells_of))  : Kn P w K mg base CX0 2 "shared_cells" (spP enc_logs LsOk post_shared_cells) :=
  ⟨f, fd, _, k_shared_cells0 F g z k_cells_of, g, F.kp, F.binds (fun _ _ _ _ _ _ us hl => match us, hl with | [_], _ => rfl)⟩
theorem k_shared_cells_logs {P : Program} {w : World} {K : PySem.W.Frag} {mg : Str → Option Value} {base : Heap} {f : Addr} {fd : FuncData} (F : Fun K "shared_cells" "shared_cells" s_shared_cells f fd) (g : mg "shared_cells" = some (.ref f)) (z : Zb mg) (k_cells_of : Kn P w K mg base CX0 1 "cells_of" (spP enc_log LgOk post_cells_of))  : KnK P w K mg base CX0 2 "shared_cells" ["logs"] id (spP enc_logs LsOk post_shared_cells) := by
  refine ⟨f, fd, _, id, k_shared_cells0 F g z k_cells_of, g, F.kp, bindsK F (fun _ _ _ _ _ _ ws hl => ?_), fun zs ws r => r⟩
  rcases ws with _ | ⟨a, _ | ⟨b, r⟩⟩
  · cases hl
  · rfl
  · simp at hl
end L2.Ro

end
section
set_option Elab.async false
set_option linter.all false
set_option maxRecDepth 100000
set_option maxHeartbeats 4000000
local macro_rules | `(tactic| walk_at "rd1") => `(tactic| with_reducible first
  | refine L2.Rx.r_seq ?_ | refine L2.Rx.r_asg ?_ | refine L2.Rx.r_gname ?_ | refine L2.Rx.r_op ?_ | refine L2.Rx.r_c ?_
  | refine L2.Rx.r_var rfl ?_
  | refine L2.Rx.r_rI0 ?_ | refine L2.Rx.r_test ?_ | refine L2.Rx.r_bl ?_ | refine L2.Rx.r_if ?_ | refine L2.Rx.r_ret ?_
  | refine L2.Rx.r_cons ?_ | refine L2.Rx.r_nil ?_ | refine L2.Rx.r_call ?_ | refine L2.Rx.r_cb ?_ | refine L2.Rx.r_next ?_ | refine L2.Rx.r_drop ?_
  | refine L2.Rx.r_gsub ?_ | refine L2.Rx.r_tupF ?_ | refine L2.Rx.r_lst ?_ | refine L2.Rx.r_par ?_ | refine L2.Rx.r_par2 ?_
  | refine L2.Rx.r_un ?_ | refine L2.Rx.r_tb ?_ | refine L2.Rx.r_and ?_ | refine L2.Rx.r_or ?_ | refine L2.Rx.r_not ?_
  | refine L2.Rx.r_andV ?_ | refine L2.Rx.r_orV ?_ | refine L2.Rx.r_notV ?_ | refine L2.Rx.r_ifx ?_ | refine L2.Rx.r_chain ?_
  | refine L2.Rx.r_sl ?_ | refine L2.Rx.r_nopart ?_ | refine L2.Rx.r_part ?_ | refine L2.Rx.r_exint ?_ | refine L2.Rx.r_bm0 ?_ | refine L2.Rx.r_bm ?_
  | refine L2.Rx.r_lc ?_ | refine L2.Rx.r_rng1 ?_ | refine L2.Rx.r_yes ?_ | refine L2.Rx.r_tt ?_ | refine L2.Rx.r_ff ?_ | refine L2.Rx.r_m1 ?_ | refine L2.Rx.r_m0 ?_ | refine L2.Rx.r_isS ?_
  | (refine L2.Rx.r_wipe (by with_unfolding_all rfl) ?_) | (refine L2.Rx.r_tyL (by walk_at "hp") ?_)
  | refine L2.Rx.r_addS (by walk_at "len") ?_ | refine L2.Rx.r_lenS (by walk_at "len") ?_ | refine L2.Rx.r_slS (by walk_at "len") ?_
  | refine L2.Rx.r_dnotin ?_ | refine L2.Rx.r_dget ?_ | refine L2.Rx.r_dget1 ?_ | refine L2.Rx.r_dput ?_ | refine L2.Rx.r_dpop1 ?_ | refine L2.Rx.r_isN ?_
  | refine L2.Rx.r_for ?_ | refine L2.Rx.r_ilist ?_ | refine L2.Rx.r_itup ?_
  | refine L2.Rx.r_gcons ?_ | refine L2.Rx.r_gnil ?_ | (refine L2.Rx.r_gtupP (by assumption) (by walk_at "at") ?_)
  | (refine L2.Rx.r_rEq rfl ?_) | (refine L2.Rx.r_rNe rfl ?_)
  | refine L2.Rx.r_rU ?_ | refine L2.Rx.r_max2 ?_ | refine L2.Rx.r_min2 ?_ | refine L2.Rx.r_int1i ?_ | (refine L2.Rx.r_lenh (by walk_at "hp") ?_)
  | (refine L2.Rx.r_ixLh (by walk_at "hp") (by walk_at "at") ?_)
  | (refine L2.Rx.r_setL (by walk_at "hp") (by walk_at "at") ?_))
local macro_rules | `(tactic| walk_at "at") => `(tactic| with_unfolding_all rfl)
local macro_rules | `(tactic| walk_at "rd") => `(tactic| (repeat walk_at "rd1"))
local macro_rules | `(tactic| walk_at "hp") => `(tactic| first
  | assumption
  | exact L2.upd_same
  | (refine Eq.trans (L2.upd_ne ?_) ?_; (focus walk_at "ne"); (focus walk_at "hp"))
  | (refine L2.Rx.Kp.at0 (by assumption) ?_; walk_at "hp")
  | (refine L2.Rx.Kp.at1 (by assumption) ?_ ?_; (focus walk_at "ne"); (focus walk_at "hp")))
local macro_rules | `(tactic| walk_at "ne") => `(tactic| first
  | assumption | exact Ne.symm (by assumption)
  | (refine L2.ne_of_none (H := ?nH) (o := ?nO) ?nh ?nn; (case nn => assumption); (case nh => walk_at "hp"))
  | (refine Ne.symm (L2.ne_of_none (H := ?nH) (o := ?nO) ?nh ?nn); (case nn => assumption); (case nh => walk_at "hp")))
local macro_rules | `(tactic| walk_at "len") => `(tactic| (rw [PySem.sizeLine_eq]; omega))
local macro_rules | `(tactic| walk_at "nin") => `(tactic| first
  | exact List.not_mem_nil
  | (refine L2.Rx.nin1 ?_; walk_at "ne"))
local macro_rules | `(tactic| walk_at "none") => `(tactic| first
  | assumption
  | (refine L2.Rx.Kp.none0 (by assumption) ?_ ?_; (focus walk_at "nin"); (focus walk_at "none")))
set_option hygiene false
local macro_rules | `(tactic| walk_at "se") => `(tactic| first | exact L2.Z.SetE.z | exact L2.Z.SetE.s (L2.Z.SetE.z) | exact L2.Z.SetE.s (L2.Z.SetE.s (L2.Z.SetE.z)) | exact L2.Z.SetE.s (L2.Z.SetE.s (L2.Z.SetE.s (L2.Z.SetE.z))) | exact L2.Z.SetE.s (L2.Z.SetE.s (L2.Z.SetE.s (L2.Z.SetE.s (L2.Z.SetE.z)))) | exact L2.Z.SetE.s (L2.Z.SetE.s (L2.Z.SetE.s (L2.Z.SetE.s (L2.Z.SetE.s (L2.Z.SetE.z))))) | exact L2.Z.SetE.s (L2.Z.SetE.s (L2.Z.SetE.s (L2.Z.SetE.s (L2.Z.SetE.s (L2.Z.SetE.s (L2.Z.SetE.z)))))) | exact L2.Z.SetE.s (L2.Z.SetE.s (L2.Z.SetE.s (L2.Z.SetE.s (L2.Z.SetE.s (L2.Z.SetE.s (L2.Z.SetE.s (L2.Z.SetE.z))))))) | exact L2.Z.SetE.s (L2.Z.SetE.s (L2.Z.SetE.s (L2.Z.SetE.s (L2.Z.SetE.s (L2.Z.SetE.s (L2.Z.SetE.s (L2.Z.SetE.s (L2.Z.SetE.z)))))))) | exact L2.Z.SetE.s (L2.Z.SetE.s (L2.Z.SetE.s (L2.Z.SetE.s (L2.Z.SetE.s (L2.Z.SetE.s (L2.Z.SetE.s (L2.Z.SetE.s (L2.Z.SetE.s (L2.Z.SetE.z))))))))) | exact L2.Z.SetE.s (L2.Z.SetE.s (L2.Z.SetE.s (L2.Z.SetE.s (L2.Z.SetE.s (L2.Z.SetE.s (L2.Z.SetE.s (L2.Z.SetE.s (L2.Z.SetE.s (L2.Z.SetE.s (L2.Z.SetE.z)))))))))) | exact L2.Z.SetE.s (L2.Z.SetE.s (L2.Z.SetE.s (L2.Z.SetE.s (L2.Z.SetE.s (L2.Z.SetE.s (L2.Z.SetE.s (L2.Z.SetE.s (L2.Z.SetE.s (L2.Z.SetE.s (L2.Z.SetE.s (L2.Z.SetE.z))))))))))) | exact L2.Z.SetE.s (L2.Z.SetE.s (L2.Z.SetE.s (L2.Z.SetE.s (L2.Z.SetE.s (L2.Z.SetE.s (L2.Z.SetE.s (L2.Z.SetE.s (L2.Z.SetE.s (L2.Z.SetE.s (L2.Z.SetE.s (L2.Z.SetE.s (L2.Z.SetE.z)))))))))))) | exact L2.Z.SetE.s (L2.Z.SetE.s (L2.Z.SetE.s (L2.Z.SetE.s (L2.Z.SetE.s (L2.Z.SetE.s (L2.Z.SetE.s (L2.Z.SetE.s (L2.Z.SetE.s (L2.Z.SetE.s (L2.Z.SetE.s (L2.Z.SetE.s (L2.Z.SetE.s (L2.Z.SetE.z))))))))))))) | exact L2.Z.SetE.s (L2.Z.SetE.s (L2.Z.SetE.s (L2.Z.SetE.s (L2.Z.SetE.s (L2.Z.SetE.s (L2.Z.SetE.s (L2.Z.SetE.s (L2.Z.SetE.s (L2.Z.SetE.s (L2.Z.SetE.s (L2.Z.SetE.s (L2.Z.SetE.s (L2.Z.SetE.s (L2.Z.SetE.z)))))))))))))) | exact L2.Z.SetE.s (L2.Z.SetE.s (L2.Z.SetE.s (L2.Z.SetE.s (L2.Z.SetE.s (L2.Z.SetE.s (L2.Z.SetE.s (L2.Z.SetE.s (L2.Z.SetE.s (L2.Z.SetE.s (L2.Z.SetE.s (L2.Z.SetE.s (L2.Z.SetE.s (L2.Z.SetE.s (L2.Z.SetE.s (L2.Z.SetE.z))))))))))))))) | exact L2.Z.SetE.s (L2.Z.SetE.s (L2.Z.SetE.s (L2.Z.SetE.s (L2.Z.SetE.s (L2.Z.SetE.s (L2.Z.SetE.s (L2.Z.SetE.s (L2.Z.SetE.s (L2.Z.SetE.s (L2.Z.SetE.s (L2.Z.SetE.s (L2.Z.SetE.s (L2.Z.SetE.s (L2.Z.SetE.s (L2.Z.SetE.s (L2.Z.SetE.z)))))))))))))))) | exact L2.Z.SetE.s (L2.Z.SetE.s (L2.Z.SetE.s (L2.Z.SetE.s (L2.Z.SetE.s (L2.Z.SetE.s (L2.Z.SetE.s (L2.Z.SetE.s (L2.Z.SetE.s (L2.Z.SetE.s (L2.Z.SetE.s (L2.Z.SetE.s (L2.Z.SetE.s (L2.Z.SetE.s (L2.Z.SetE.s (L2.Z.SetE.s (L2.Z.SetE.s (L2.Z.SetE.z))))))))))))))))) | exact L2.Z.SetE.s (L2.Z.SetE.s (L2.Z.SetE.s (L2.Z.SetE.s (L2.Z.SetE.s (L2.Z.SetE.s (L2.Z.SetE.s (L2.Z.SetE.s (L2.Z.SetE.s (L2.Z.SetE.s (L2.Z.SetE.s (L2.Z.SetE.s (L2.Z.SetE.s (L2.Z.SetE.s (L2.Z.SetE.s (L2.Z.SetE.s (L2.Z.SetE.s (L2.Z.SetE.s (L2.Z.SetE.z)))))))))))))))))) | exact L2.Z.SetE.s (L2.Z.SetE.s (L2.Z.SetE.s (L2.Z.SetE.s (L2.Z.SetE.s (L2.Z.SetE.s (L2.Z.SetE.s (L2.Z.SetE.s (L2.Z.SetE.s (L2.Z.SetE.s (L2.Z.SetE.s (L2.Z.SetE.s (L2.Z.SetE.s (L2.Z.SetE.s (L2.Z.SetE.s (L2.Z.SetE.s (L2.Z.SetE.s (L2.Z.SetE.s (L2.Z.SetE.s (L2.Z.SetE.z))))))))))))))))))) | exact L2.Z.SetE.s (L2.Z.SetE.s (L2.Z.SetE.s (L2.Z.SetE.s (L2.Z.SetE.s (L2.Z.SetE.s (L2.Z.SetE.s (L2.Z.SetE.s (L2.Z.SetE.s (L2.Z.SetE.s (L2.Z.SetE.s (L2.Z.SetE.s (L2.Z.SetE.s (L2.Z.SetE.s (L2.Z.SetE.s (L2.Z.SetE.s (L2.Z.SetE.s (L2.Z.SetE.s (L2.Z.SetE.s (L2.Z.SetE.s (L2.Z.SetE.z)))))))))))))))))))) | exact L2.Z.SetE.s (L2.Z.SetE.s (L2.Z.SetE.s (L2.Z.SetE.s (L2.Z.SetE.s (L2.Z.SetE.s (L2.Z.SetE.s (L2.Z.SetE.s (L2.Z.SetE.s (L2.Z.SetE.s (L2.Z.SetE.s (L2.Z.SetE.s (L2.Z.SetE.s (L2.Z.SetE.s (L2.Z.SetE.s (L2.Z.SetE.s (L2.Z.SetE.s (L2.Z.SetE.s (L2.Z.SetE.s (L2.Z.SetE.s (L2.Z.SetE.s (L2.Z.SetE.z))))))))))))))))))))))
local macro_rules | `(tactic| walk_at "rf") => `(tactic| with_unfolding_all rfl)
local macro_rules | `(tactic| walk_at "sq") => `(tactic| first | exact L2.Z.Sq.t _ | exact L2.Z.Sq.l _)
local macro_rules | `(tactic| walk_at "nal") => `(tactic| rfl)
local macro_rules | `(tactic| walk_at "st") => `(tactic| with_reducible first
  | refine L2.Rx.r_seq ?_ | refine L2.Rx.r_asg ?_ | refine L2.Rx.r_op ?_
  | refine L2.Rx.r_test ?_ | refine L2.Rx.r_if ?_ | refine L2.Rx.r_ret ?_
  | refine L2.Rx.r_cons ?_ | refine L2.Rx.r_nil ?_ | refine L2.Rx.r_call ?_ | refine L2.Rx.r_cb ?_ | refine L2.Rx.r_next ?_ | refine L2.Rx.r_drop ?_
  | refine L2.Rx.r_gsub ?_ | refine L2.Rx.r_tupF ?_ | refine L2.Rx.r_lst ?_ | refine L2.Rx.r_par ?_ | refine L2.Rx.r_par2 ?_
  | refine L2.Rx.r_un ?_ | refine L2.Rx.r_tb ?_ | refine L2.Rx.r_and ?_ | refine L2.Rx.r_or ?_ | refine L2.Rx.r_not ?_
  | refine L2.Rx.r_andV ?_ | refine L2.Rx.r_orV ?_ | refine L2.Rx.r_notV ?_ | refine L2.Rx.r_ifx ?_ | refine L2.Rx.r_chain ?_
  | refine L2.Rx.r_sl ?_ | refine L2.Rx.r_nopart ?_ | refine L2.Rx.r_part ?_ | refine L2.Rx.r_bm0 ?_ | refine L2.Rx.r_bm ?_
  | refine L2.Rx.r_lc ?_ | refine L2.Rx.r_rng1 ?_ | refine L2.Rx.r_yes ?_ | refine L2.Rx.r_tt ?_ | refine L2.Rx.r_ff ?_ | refine L2.Rx.r_m1 ?_ | refine L2.Rx.r_m0 ?_
  | refine L2.Rx.r_dnotin ?_ | refine L2.Rx.r_dget ?_ | refine L2.Rx.r_dget1 ?_ | refine L2.Rx.r_dget2 ?_ | refine L2.Rx.r_dput ?_
  | refine L2.Rx.r_for ?_ | refine L2.Rx.r_ilist ?_ | refine L2.Rx.r_itup ?_
  | refine L2.Rx.r_gcons ?_ | refine L2.Rx.r_gnil ?_ | refine L2.Rx.r_kw ?_ | (show L2.Rx.tSf2 _ _ _ _ _ _ _ _ _ _ _ _ _; unfold L2.Rx.tSf2))
local macro_rules | `(tactic| walk_at "zv") => `(tactic| first
  | (refine L2.Z.z_int R (fun v R => ?_))
  | (refine L2.Z.z_str R (fun v R => ?_))
  | (refine L2.Z.z_bl R (fun v R => ?_))
  | (refine L2.Z.z_non R (fun v R => ?_))
  | (refine L2.Z.z_var R (by walk_at "rf") (fun v R => ?_))
  | (refine L2.Z.z_varA R (by walk_at "rf") (by rfl) (fun v R => ?_))
  | (refine L2.Z.y_lcName R (by decide) (by walk_at "se") (by rfl) (by rfl) (fun σ hw R => ?_))
  | (refine L2.Z.y_lcPair R (by decide) (by decide) (by walk_at "se") (by walk_at "se") (by rfl) (fun σ hw R => ?_))
  | (refine L2.Z.y_lcPairP R (by decide) (by decide) (by walk_at "se") (by walk_at "se") (by rfl) (fun σ hw R => ?_))
  | (refine L2.Z.y_name R (by walk_at "se") (by rfl) (by rfl) (fun σ R => ?_))
  | (refine L2.Z.z_gtup2 R (fun a b R => ?_))
  | (refine L2.Z.z_gtupP R (fun a b R => ?_))
  | (refine L2.Z.z_gtup3 R (fun a b c R => ?_))
  | (refine L2.Z.z_isD R (by walk_at "rf") (fun a R => ?_))
  | (refine L2.Z.z_isb R (fun R => ?_))
  | (refine L2.Z.z_isi R (fun R => ?_)))
local macro_rules | `(tactic| walk_at "zo") => `(tactic| first
  | (refine L2.Z.z_rI0i R (fun v R => ?_))
  | (refine L2.Z.z_rI0b R (fun v R => ?_))
  | (refine L2.Z.z_eqI R (fun v R => ?_))
  | (refine L2.Z.z_neI R (fun v R => ?_))
  | (refine L2.Z.z_eqS R (fun v R => ?_))
  | (refine L2.Z.z_neS R (fun v R => ?_))
  | (refine L2.Z.z_isV R (fun v R => ?_))
  | (refine L2.Z.z_notV R (fun v R => ?_))
  | (refine L2.Z.z_len R (by walk_at "rf") (by walk_at "sq") (fun v R => ?_))
  | (refine L2.Z.z_tup0 R (fun p o R => ?_); refine L2.Z.gen_R R (fun v H R => ?_))
  | (refine L2.Z.z_tup1 R (by walk_at "rf") (fun p o R => ?_); refine L2.Z.gen_R R (fun v H R => ?_))
  | (refine L2.Z.z_tup2 R (by walk_at "rf") (by walk_at "rf") (fun p o R => ?_); refine L2.Z.gen_R R (fun v H R => ?_))
  | (refine L2.Z.z_tup3 R (by walk_at "rf") (by walk_at "rf") (by walk_at "rf") (fun p o R => ?_); refine L2.Z.gen_R R (fun v H R => ?_))
  | (refine L2.Z.z_lst0 R (fun p R => ?_); refine L2.Z.gen_R R (fun v H R => ?_))
  | (refine L2.Z.z_lst1 R (by walk_at "rf") (fun p R => ?_); refine L2.Z.gen_R R (fun v H R => ?_))
  | (refine L2.Z.z_lst2 R (by walk_at "rf") (by walk_at "rf") (fun p R => ?_); refine L2.Z.gen_R R (fun v H R => ?_))
  | (refine L2.Z.z_lst3 R (by walk_at "rf") (by walk_at "rf") (by walk_at "rf") (fun p R => ?_); refine L2.Z.gen_R R (fun v H R => ?_))
  | (refine L2.Z.z_tupL R (by walk_at "rf") (fun v H R => ?_))
  | (refine L2.Z.z_tupT R (fun v R => ?_))
  | (refine L2.Z.z_listOf R (by walk_at "rf") (by walk_at "sq") (fun v H R => ?_))
  | (refine L2.Z.z_slL R (by walk_at "rf") (fun v H R => ?_))
  | (refine L2.Z.z_isStr R ?_)
  | (refine L2.Z.z_tyL R (by walk_at "rf") ?_)
  | (refine L2.Z.z_isD R (by walk_at "rf") (fun a R => ?_))
  | (refine L2.Z.z_dnew R (fun v H R => ?_))
  | (refine L2.Z.z_max2 R (fun v R => ?_))
  | (refine L2.Z.z_min2 R (fun v R => ?_)))
local macro_rules | `(tactic| walk_at "z1") => `(tactic| first | walk_at "st" | walk_at "zv" | walk_at "zo")
local macro_rules | `(tactic| walk_at "z") => `(tactic| (repeat walk_at "z1"))
local macro_rules | `(tactic| walk_at "ret") => `(tactic| refine L2.Z.z_retP R rfl (fun k f => q _ _ _ k f ?_))
local macro_rules | `(tactic| walk_at "fadd") => `(tactic| exact L2.Z.z_fAdd R rfl hw la ha hacc (by omega) rfl rfl rfl)
local macro_rules | `(tactic| walk_at "get") => `(tactic| first
  | (refine L2.Z.z_getL R (by walk_at "rf") (fun o R => ?_); refine L2.Z.gen_V R (fun v R => ?_))
  | (refine L2.Z.z_getL2 R (by walk_at "rf") (fun o R => ?_); refine L2.Z.gen_V R (fun v R => ?_))
  | (refine L2.Z.z_dinL R (by walk_at "rf") (fun a o R => ?_); refine L2.Z.gen_V R (fun v R => ?_))
  | (refine L2.Z.z_dninL R (by walk_at "rf") (fun a o R => ?_); refine L2.Z.gen_V R (fun v R => ?_))
  | (refine L2.Z.z_get1 R (by walk_at "rf") (by walk_at "rf") (fun o R => ?_); refine L2.Z.gen_V R (fun v R => ?_))
  | (refine L2.Z.z_get2 R (by walk_at "rf") (by walk_at "rf") (fun o R => ?_); refine L2.Z.gen_V R (fun v R => ?_))
  | (refine L2.Z.z_din R (by walk_at "rf") (by walk_at "rf") (fun a o R => ?_); refine L2.Z.gen_V R (fun v R => ?_))
  | (refine L2.Z.z_dnin R (by walk_at "rf") (by walk_at "rf") (fun a o R => ?_); refine L2.Z.gen_V R (fun v R => ?_)))
namespace L2.Ro
open PySem PySem.Spec PyProof.Rows L2.Rx L2.Z
theorem asc_of {ms : List Str} (pw : ms.Pairwise fun x y => PySem.W.dataLt (.str y) (.str x) = false) (nd : ms.Nodup) : ms.Pairwise fun x y => x.cps.toList < y.cps.toList := strict_of (pw.imp fun {a b} h => by
  rw [PySem.W.dataLt_str] at h
  exact of_decide_eq_false h) nd
section
variable {P : Program} {w : World} {K : PySem.W.Frag} {mg : Str → Option Value} {base : Heap}
theorem k_right {f : Addr} {fd : FuncData} (F : Fun K "_law_right" "_law_right" s_right f fd) (g : mg "_law_right" = some (.ref f)) (z : Zb mg) (k_value : Kn P w K mg base CX0 1 "_law_value" (spP enc_logc (fun a => LgOk a.1) post_value_in)) (k_cells_in : Kn P w K mg base CX0 2 "cells_in" (spP enc_logs LsOk post_cells_in)) (k_cells_in_logs : KnK P w K mg base CX0 2 "cells_in" ["logs"] id (spP enc_logs LsOk post_cells_in)) (k_shared_cells : Kn P w K mg base CX0 2 "shared_cells" (spP enc_logs LsOk post_shared_cells)) (k_shared_cells_logs : KnK P w K mg base CX0 2 "shared_cells" ["logs"] id (spP enc_logs LsOk post_shared_cells)) (k_of : Kn P w K mg base CX0 2 "_law_of" (sp_of K)) (k_two_right : Kn P w K mg base CX0 2 "_law_two_right" (spP enc_two (fun a => LgOk a.1 ∧ LgOk a.2.1) post_true)) (k_agreeing_right : Kn P w K mg base CX0 3 "_law_agreeing_right" (spB enc_agr (fun a c => GOk a.1 a.2 ∧ c = 20) post_true))  : Kn P w K mg base CX0 4 "_law_right" (spB enc_agr (fun a c => GOk a.1 a.2 ∧ c = 100) post_true) := by
  refine ⟨f, fd, ["_law_box_here", "_law_some", "_law_names"], fnG_body F sc_right (fun vs H Q E h => ?_) (fun cdv A outer s H vs Q E hr h => ?_), g, F.kp, F.binds (fun _ _ _ _ _ _ us hl => match us, hl with | [_, _, _], _ => rfl)⟩
  · obtain ⟨b, vs', S, ⟨ls, ns⟩, c, m, rfl, bS, f, mm, ⟨g, rfl⟩, B, q⟩ := h
    show vs'.length + 1 = _
    rw [f.len]
    rfl
  · obtain ⟨b, vs', S, ⟨ls, ns⟩, c, m, rfl, bS, f, mm, ⟨g, rfl⟩, B, q⟩ := h
    have R : Rp ⟨K, H, S, [b], []⟩ H (start ["_law_box_here", "_law_some", "_law_names", "_law_text", "_law_every", "_law_due", "_law_turn", "_law_mine", "_law_its", "_law_name", "_law_entry"] (.ref b :: vs')) [.box (100 + m), .fz (logsD ls), .fz (.list (ns.map PyData.str)), .junk, .junk, .junk, .junk, .junk, .junk, .junk, .junk] [] := start_B K f mm bS B rfl rfl rfl
    refine ⟨_, PSs.nox (pss_cons (ps_par (i := 3) (j := 4) (by rfl) sc_right.nd rfl rfl (by decide) rfl rfl (pa_cons (pe_callB (show CallR _ _ (rRepr K) from (call_repr hr)) (by rfl) z.n_repr (by decide +kernel) (pa_cons (pv 1) pa_nil)) (pa_cons (pe_lc (own := [("_law_name", 9)]) (g := (gName 9)) (by rfl) sc_right.nd (show PI _ _ _ (iList K _) from pi_list (pv 2)) (blkOk_by (own := [("_law_name", 9)]) (N := ["_law_box_here", "_law_some", "_law_names", "_law_text", "_law_every", "_law_due", "_law_turn", "_law_mine", "_law_its", "_law_name", "_law_entry"]) (sc := defScope s_right) (by decide +kernel)) (fun _ _ _ _ _ => (pg_name (i := 9) sc_right.nd rfl (.inr rfl))) (fun _ _ _ _ _ => (pts_one (pt_val (pe_callB (show CallR _ _ (rAny K) from (cr_any rfl)) (by rfl) z.n_any (by decide +kernel) (pa_cons (pe_lc (own := [("_law_entry", 10)]) (g := (gName 10)) (by rfl) sc_right.nd (show PI _ _ _ (iTup K _) from pi_tup (pv 1)) (blkOk_nest (own := [("_law_entry", 10)]) (N := ["_law_box_here", "_law_some", "_law_names", "_law_text", "_law_every", "_law_due", "_law_turn", "_law_mine", "_law_its", "_law_name", "_law_entry"]) (by decide +kernel)) (fun _ _ _ _ _ => (pg_name (i := 10) sc_right.nd rfl (.inl rfl))) (fun _ _ _ _ _ => pts_nil) (fun _ _ _ _ _ => (pe_cmpR (show OpR _ _ oNotN from op_notNd) (k_value.call hr (by decide) (by rfl) (pa_cons (pv 10) (pa_cons (pv 9) pa_nil))) pe_non (nomark _)))) pa_nil))))) (fun _ _ _ _ _ => (pv 9))) pa_nil)) (by rfl))
      (pss_cons (ps_if (pt_cmpR op_ne (pe_callB (show CallR _ _ (rRepr K) from (call_repr hr)) (by rfl) z.n_repr (by decide +kernel) (pa_cons (pe_lst (pa_cons (k_cells_in.call hr (by decide) (by rfl) (pa_cons (pv 1) pa_nil)) (pa_cons (k_cells_in_logs.call hr (by decide) (by rfl) (pk_cons (pv 1) pk_nil)) pa_nil))) pa_nil)) (pe_callB (show CallR _ _ (rRepr K) from (call_repr hr)) (by rfl) z.n_repr (by decide +kernel) (pa_cons (pe_op op_rep (pe_lst (pa_cons (pe_callTy (show CallR _ _ (rTupOf K) from c_tuple) (by rfl) z.n_tuple (by decide +kernel) (pa_cons (pe_callB (show CallR _ _ (rSortV K) from (call_sortV hr)) (by rfl) z.n_sorted (by decide +kernel) (pa_cons (pv 4) pa_nil)) pa_nil)) pa_nil)) pe_int) pa_nil)) (nomark _))
        (pss_one (ps_ret pe_bl))
        pss_nil)
      (pss_cons (ps_setLc (i := 5) (own := [("_law_name", 9)]) (g := (gName 9)) (by rfl) sc_right.nd rfl rfl (sw_true rfl rfl rfl (by decide +kernel)) (show PI _ _ _ (iList K _) from pi_list (pv 4)) (blkOk_by (own := [("_law_name", 9)]) (N := ["_law_box_here", "_law_some", "_law_names", "_law_text", "_law_every", "_law_due", "_law_turn", "_law_mine", "_law_its", "_law_name", "_law_entry"]) (sc := defScope s_right) (by decide +kernel)) (fun _ _ _ _ _ => (pg_name (i := 9) sc_right.nd rfl (.inr rfl))) (fun _ _ _ _ _ => (pts_one (pt_val (pe_callB (show CallR _ _ (rAll K) from (cr_all rfl)) (by rfl) z.n_all (by decide +kernel) (pa_cons (pe_lc (own := [("_law_entry", 10)]) (g := (gName 10)) (by rfl) sc_right.nd (show PI _ _ _ (iTup K _) from pi_tup (pv 1)) (blkOk_nest (own := [("_law_entry", 10)]) (N := ["_law_box_here", "_law_some", "_law_names", "_law_text", "_law_every", "_law_due", "_law_turn", "_law_mine", "_law_its", "_law_name", "_law_entry"]) (by decide +kernel)) (fun _ _ _ _ _ => (pg_name (i := 10) sc_right.nd rfl (.inl rfl))) (fun _ _ _ _ _ => pts_nil) (fun _ _ _ _ _ => (pe_cmpR (show OpR _ _ oNotN from op_notNd) (k_value.call hr (by decide) (by rfl) (pa_cons (pv 10) (pa_cons (pv 9) pa_nil))) pe_non (nomark _)))) pa_nil))))) (fun _ _ _ _ _ => (pv 9)))
      (pss_cons (ps_if (pt_cmpR op_ne (pe_callB (show CallR _ _ (rRepr K) from (call_repr hr)) (by rfl) z.n_repr (by decide +kernel) (pa_cons (pe_lst (pa_cons (k_shared_cells.call hr (by decide) (by rfl) (pa_cons (pv 1) pa_nil)) (pa_cons (k_shared_cells_logs.call hr (by decide) (by rfl) (pk_cons (pv 1) pk_nil)) pa_nil))) pa_nil)) (pe_callB (show CallR _ _ (rRepr K) from (call_repr hr)) (by rfl) z.n_repr (by decide +kernel) (pa_cons (pe_op op_rep (pe_lst (pa_cons (pe_callTy (show CallR _ _ (rTupOf K) from c_tuple) (by rfl) z.n_tuple (by decide +kernel) (pa_cons (pe_callB (show CallR _ _ (rSortV K) from (call_sortV hr)) (by rfl) z.n_sorted (by decide +kernel) (pa_cons (pv 5) pa_nil)) pa_nil)) pa_nil)) pe_int) pa_nil)) (nomark _))
        (pss_one (ps_ret pe_bl))
        pss_nil)
      (pss_cons (ps_for PassesOwn.never rfl (pi_range1 rfl z.n_range (pa_cons pe_int pa_nil)) (pg_name (i := 6) sc_right.nd rfl (.inl rfl))
        (pss_cons (ps_if (pt_not (pt_val (k_agreeing_right.call hr (by decide) (by rfl) (pa_cons (pv 0) (pa_cons (pv 1) (pa_cons (pv 2) pa_nil))))))
          (pss_one (ps_ret pe_bl))
          pss_nil)
        (pss_one (ps_if (pt_cmpR (show OpR _ _ (rNeD K) from (op_neD hr.units)) (pv 1) (pe_tupF pa_nil) (nomark _))
          (pss_cons (ps_par (i := 7) (j := 8) (by rfl) sc_right.nd rfl rfl (by decide) rfl rfl (pa_cons (k_of.call hr (by decide) (by rfl) (pa_cons (pv 0) (pa_cons (pv 1) pa_nil))) (pa_cons (k_of.call hr (by decide) (by rfl) (pa_cons (pv 0) (pa_cons (pv 1) pa_nil))) pa_nil)) (by rfl))
          (pss_one (ps_if (pt_not (pt_val (k_two_right.call hr (by decide) (by rfl) (pa_cons (pv 7) (pa_cons (pv 8) (pa_cons (pv 2) pa_nil))))))
            (pss_one (ps_ret pe_bl))
            pss_nil)))
          pss_nil))))
      (pss_one (ps_ret (pe_cmpR op_eq (pe_callB (show CallR _ _ (rRepr K) from (call_repr hr)) (by rfl) z.n_repr (by decide +kernel) (pa_cons (pv 1) pa_nil)) (pv 3) (nomark _))))))))), ?_⟩
    generalize start ["_law_box_here", "_law_some", "_law_names", "_law_text", "_law_every", "_law_due", "_law_turn", "_law_mine", "_law_its", "_law_name", "_law_entry"] (.ref b :: vs') = σ at R ⊢
    rename Hp => H0
    have g : GOk ls ns := g
    have few : ls.length ≤ 1000 := g.few
    have hc : Cells ns := g.cells
    have n6 : ns.length ≤ 6 := g.len
    have lok : LsOk ls := ⟨few, g.ok, ns, by omega, g.sub⟩
    have shL := (sm_logs (m := 6) (c := 1000) (fun l hl => ⟨g.ok l hl, g.l6 hl⟩) few).shw rfl rfl
    walk_at "z"
    refine z_repr rfl R rfl shL fun v R => ?_
    walk_at "z"
    refine z_fL (vs := [9]) (enc := PyData.str) (as := ns) (fun c => if (ls.any fun l => decide (c ∈ l.map Prod.fst)) = true then some (.str c) else none) R rfl (by rfl) (by rfl) ?_ ?_
    · intro n c acc H D v hcn hacc la R
      walk_at "z"
      refine z_fT (vs := [10]) (enc := logD) (as := ls) (fun l => some (.bool (decide (c ∈ l.map Prod.fst)))) R (by rfl) (by rfl) ?_ ?_
      · intro n l acc H D v ha hacc la R
        walk_at "z"
        refine z_p2 (l, c) R rfl rfl rfl (g.ok l (List.mem_of_getElem? ha)) fun v H d hd R => ?_
        cases hd
        walk_at "z"
        rw [isN_opt] at R
        walk_at "fadd"
      intro D2 H R
      rw [fm_some] at R
      walk_at "z"
      refine z_any (bs := ls.map fun l => decide (c ∈ l.map Prod.fst)) R (by walk_at "rf") (by rw [List.map_map]; rfl) fun v R => ?_
      rw [List.any_map] at R
      walk_at "z"
      refine r_itb (fun hb => ?_) (fun hb => ?_)
      · walk_at "z"
        exact z_fAdd R rfl hw la hcn hacc (by omega) (if_pos hb) rfl rfl
      · exact z_fSkip R hw la hcn hacc (if_neg (fun h => Bool.noConfusion (h.symm.trans hb))) rfl rfl
    intro D H R
    rw [fm_if] at R
    walk_at "z"
    refine y_par R (by walk_at "se") (by walk_at "se") rfl rfl rfl fun σ R => ?_
    walk_at "z"
    refine z_p1 ls R rfl rfl lok fun v H d hd R => ?_
    obtain ⟨cs, ac, rfl⟩ := hd
    walk_at "z"
    refine z_p1 ls R rfl rfl lok fun v H d hd R => ?_
    obtain ⟨cs', ac', rfl⟩ := hd
    obtain rfl : cs = cs' := asc_eq ac.1 ac'.1 fun c => (ac.2 c).trans (ac'.2 c).symm
    walk_at "z"
    have csub : ∀ c ∈ cs, c ∈ ns := fun c h => by
      obtain ⟨l, hl, h⟩ := (ac.2 c).mp h
      exact g.sub l hl c h
    have nds : ∀ {a : List Str}, a.Pairwise (fun x y => x.cps.toList < y.cps.toList) → a.Nodup := fun h => by
      rw [List.nodup_iff_pairwise_ne]
      exact h.imp fun {x y} h e => by
        subst e
        exact List.lt_irrefl _ h
    have s1 := sm_cells (fun c h => hc.2 c (csub c h)) (Nat.le_trans (nodup_le (nds ac.1) csub) n6)
    have sh := (sm_l2 s1 s1).shw rfl rfl
    refine z_repr rfl R rfl sh fun v R => ?_
    walk_at "z"
    refine z_sortD (K := K) (enc := PyData.str) rfl R rfl (Sq.l _) rfl (fun _ _ => by simp [noD]) (sb_strs _) fun v H ms pm pw R => ?_
    obtain rfl : ms = cs := asc_eq (asc_of pw (pm.nodup_iff.mpr (hc.1.filter _))) ac.1 fun c => by
      rw [pm.mem_iff, List.mem_filter, ac.2 c, List.any_eq_true]
      exact ⟨fun ⟨_, l, hl, h⟩ => ⟨l, hl, of_decide_eq_true h⟩, fun ⟨l, hl, h⟩ => ⟨g.sub l hl c h, l, hl, decide_eq_true h⟩⟩
    walk_at "z"
    refine z_rep R rfl (by decide) (by decide) (by show 1 * 2 ≤ 1000000; decide) fun v H R => ?_
    walk_at "z"
    refine z_repr rfl R rfl sh fun v R => ?_
    repeat walk_at "st"
    refine z_neS R fun v R => ?_
    refine z_isb R fun R => ?_
    repeat walk_at "st"
    refine r_itb (fun h => ?_) (fun _ => ?_)
    · rw [Bool.not_eq_true', decide_eq_false_iff_not] at h
      exact absurd rfl h
    clear pw pm sh s1 csub
    repeat walk_at "st"
    refine z_frzL 4 R rfl rfl fun R => ?_
    walk_at "z"
    refine z_fL (vs := [9]) (enc := PyData.str) (as := ns.filter fun c => ls.any fun l => decide (c ∈ l.map Prod.fst)) (fun c => if (ls.all fun l => decide (c ∈ l.map Prod.fst)) = true then some (.str c) else none) R rfl (by rfl) (by rfl) ?_ ?_
    · intro n c acc H D v hcn hacc la R
      walk_at "z"
      refine z_fT (vs := [10]) (enc := logD) (as := ls) (fun l => some (.bool (decide (c ∈ l.map Prod.fst)))) R (by rfl) (by rfl) ?_ ?_
      · intro n l acc H D v ha hacc la R
        walk_at "z"
        refine z_p2 (l, c) R rfl rfl rfl (g.ok l (List.mem_of_getElem? ha)) fun v H d hd R => ?_
        cases hd
        walk_at "z"
        rw [isN_opt] at R
        walk_at "fadd"
      intro D2 H R
      rw [fm_some] at R
      walk_at "z"
      refine z_all (bs := ls.map fun l => decide (c ∈ l.map Prod.fst)) R (by walk_at "rf") (by rw [List.map_map]; rfl) fun v R => ?_
      rw [List.all_map] at R
      have lf := List.length_filter_le (fun c => ls.any fun l => decide (c ∈ l.map Prod.fst)) ns
      walk_at "z"
      refine r_itb (fun hb => ?_) (fun hb => ?_)
      · walk_at "z"
        exact z_fAdd R rfl hw la hcn hacc (by omega) (if_pos hb) rfl rfl
      · exact z_fSkip R hw la hcn hacc (if_neg (fun h => Bool.noConfusion (h.symm.trans hb))) rfl rfl
    intro D H R
    rw [fm_if] at R
    walk_at "z"
    refine z_p1 ls R rfl rfl lok fun v H d hd R => ?_
    obtain ⟨ds, ad, rfl⟩ := hd
    walk_at "z"
    refine z_p1 ls R rfl rfl lok fun v H d hd R => ?_
    obtain ⟨ds', ad', rfl⟩ := hd
    obtain rfl : ds = ds' := asc_eq ad.1 ad'.1 fun c => (ad.2 c).trans (ad'.2 c).symm
    walk_at "z"
    have dsub : ∀ c ∈ ds, c ∈ ns := fun c h => by
      obtain ⟨ne, h⟩ := (ad.2 c).mp h
      obtain ⟨l, hl⟩ := List.exists_mem_of_ne_nil _ ne
      exact g.sub l hl c (h l hl)
    have s1 := sm_cells (fun c h => hc.2 c (dsub c h)) (Nat.le_trans (nodup_le (nds ad.1) dsub) n6)
    have sh := (sm_l2 s1 s1).shw rfl rfl
    refine z_repr rfl R rfl sh fun v R => ?_
    walk_at "z"
    refine z_sortD (K := K) (enc := PyData.str) rfl R rfl (Sq.l _) rfl (fun _ _ => by simp [noD]) (sb_strs _) fun v H ks pm pw R => ?_
    obtain rfl : ks = ds := asc_eq (asc_of pw (pm.nodup_iff.mpr ((hc.1.filter _).filter _))) ad.1 fun c => by
      rw [pm.mem_iff, List.mem_filter, List.mem_filter, ad.2 c, List.any_eq_true, List.all_eq_true]
      constructor
      · rintro ⟨⟨_, l, hl, _⟩, h⟩
        exact ⟨List.ne_nil_of_mem hl, fun l hl => of_decide_eq_true (h l hl)⟩
      · rintro ⟨ne, h⟩
        obtain ⟨l, hl⟩ := List.exists_mem_of_ne_nil _ ne
        exact ⟨⟨g.sub l hl c (h l hl), l, hl, decide_eq_true (h l hl)⟩, fun l hl => decide_eq_true (h l hl)⟩
    walk_at "z"
    refine z_rep R rfl (by decide) (by decide) (by show 1 * 2 ≤ 1000000; decide) fun v H R => ?_
    walk_at "z"
    refine z_repr rfl R rfl sh fun v R => ?_
    repeat walk_at "st"
    refine z_neS R fun v R => ?_
    refine z_isb R fun R => ?_
    repeat walk_at "st"
    refine r_itb (fun h => ?_) (fun _ => ?_)
    · rw [Bool.not_eq_true', decide_eq_false_iff_not] at h
      exact absurd rfl h
    clear pw pm sh s1 dsub
    repeat walk_at "st"
    refine z_frzL 5 R rfl rfl fun R => ?_
    walk_at "z"
    generalize hE : PyData.list ((ns.filter fun c => ls.any fun l => decide (c ∈ l.map Prod.fst)).map PyData.str) = dE at R
    generalize hD : PyData.list (((ns.filter fun c => ls.any fun l => decide (c ∈ l.map Prod.fst)).filter fun c => ls.all fun l => decide (c ∈ l.map Prod.fst)).map PyData.str) = dD at R
    generalize hT : (logsD ls).shown = txt at R
    refine z_forR R (by decide) (by decide) (fun i env => ∃ k : Nat, env = [.box k, .fz (logsD ls), .fz (.list (ns.map PyData.str)), .fz (.str txt), .fz dE, .fz dD, .junk, .junk, .junk, .junk, .junk] ∧ m + 25 * (4 - i) ≤ k) ⟨100 + m, rfl, by omega⟩ ?_ ?_
    · rintro i _ σ H v hi ⟨k, rfl, hk⟩ R
      have hi : i < 4 := hi
      walk_at "z"
      refine z_b2 (ls, ns) (c := 20) (m := k - 20) R rfl rfl rfl rfl ⟨g, rfl⟩ (by omega) fun v H d hd R => ?_
      cases hd
      walk_at "z"
      refine r_itb (fun h => ?_) (fun _ => ?_)
      · simp at h
      walk_at "z"
      refine z_neD rfl R rfl rfl (cmp_logs fun l hl => (g.ok l hl).cell) Cmp.nil fun v R => ?_
      walk_at "z"
      refine r_itb (fun hl0 => ?_) (fun hl0 => ?_)
      · walk_at "z"
        have l0 : 0 < (ls.map logD).length := by
          cases ls with
          | nil => cases hl0
          | cons a b => exact Nat.succ_pos _
        have l1 : (ls.map logD).length ≤ 1000 := by rw [List.length_map]; exact few
        refine z_of (m := k - 21) R rfl (Sq.t _) l0 (by omega) rfl (by omega) (by walk_at "se") fun v H d hd R => ?_
        obtain ⟨a, ha, rfl⟩ := List.mem_map.mp hd
        walk_at "z"
        refine z_of (m := k - 22) R rfl (Sq.t _) l0 (by omega) rfl (by omega) (by walk_at "se") fun v H d hd R => ?_
        obtain ⟨e, he, rfl⟩ := List.mem_map.mp hd
        repeat walk_at "st"
        refine y_par R (by walk_at "se") (by walk_at "se") rfl rfl rfl fun σ R => ?_
        walk_at "z"
        refine z_p3 (a, e, ns) R rfl rfl rfl rfl ⟨g.ok a ha, g.ok e he⟩ fun v H d hd R => ?_
        cases hd
        walk_at "z"
        refine r_itb (fun h => ?_) (fun _ => ?_)
        · simp at h
        walk_at "z"
        exact ⟨_, ⟨k - 22, rfl, by omega⟩, R.jk [6, 7, 8]⟩
      · walk_at "z"
        exact ⟨_, ⟨k - 20, rfl, by omega⟩, R.jk [6]⟩
    rintro _ σ H ⟨k, rfl, hk⟩ R
    walk_at "z"
    refine z_repr rfl R rfl shL fun v R => ?_
    rw [hT] at R
    walk_at "z"
    refine z_retB (i := 0) (m := k) R rfl rfl fun kp B f => q _ _ _ kp (B.mono (by omega)) f ?_
    unfold post_true
    rw [decide_eq_true rfl]
end
end L2.Ro

end
section
set_option Elab.async false
set_option linter.all false
set_option maxRecDepth 100000
set_option maxHeartbeats 4000000
local macro_rules | `(tactic| walk_at "rd1") => `(tactic| with_reducible first
  | refine L2.Rx.r_seq ?_ | refine L2.Rx.r_asg ?_ | refine L2.Rx.r_gname ?_ | refine L2.Rx.r_op ?_ | refine L2.Rx.r_c ?_
  | refine L2.Rx.r_var rfl ?_
  | refine L2.Rx.r_rI0 ?_ | refine L2.Rx.r_test ?_ | refine L2.Rx.r_bl ?_ | refine L2.Rx.r_if ?_ | refine L2.Rx.r_ret ?_
  | refine L2.Rx.r_cons ?_ | refine L2.Rx.r_nil ?_ | refine L2.Rx.r_call ?_ | refine L2.Rx.r_cb ?_ | refine L2.Rx.r_next ?_ | refine L2.Rx.r_drop ?_
  | refine L2.Rx.r_gsub ?_ | refine L2.Rx.r_tupF ?_ | refine L2.Rx.r_lst ?_ | refine L2.Rx.r_par ?_ | refine L2.Rx.r_par2 ?_
  | refine L2.Rx.r_un ?_ | refine L2.Rx.r_tb ?_ | refine L2.Rx.r_and ?_ | refine L2.Rx.r_or ?_ | refine L2.Rx.r_not ?_
  | refine L2.Rx.r_andV ?_ | refine L2.Rx.r_orV ?_ | refine L2.Rx.r_notV ?_ | refine L2.Rx.r_ifx ?_ | refine L2.Rx.r_chain ?_
  | refine L2.Rx.r_sl ?_ | refine L2.Rx.r_nopart ?_ | refine L2.Rx.r_part ?_ | refine L2.Rx.r_exint ?_ | refine L2.Rx.r_bm0 ?_ | refine L2.Rx.r_bm ?_
  | refine L2.Rx.r_lc ?_ | refine L2.Rx.r_rng1 ?_ | refine L2.Rx.r_yes ?_ | refine L2.Rx.r_tt ?_ | refine L2.Rx.r_ff ?_ | refine L2.Rx.r_m1 ?_ | refine L2.Rx.r_m0 ?_ | refine L2.Rx.r_isS ?_
  | (refine L2.Rx.r_wipe (by with_unfolding_all rfl) ?_) | (refine L2.Rx.r_tyL (by walk_at "hp") ?_)
  | refine L2.Rx.r_addS (by walk_at "len") ?_ | refine L2.Rx.r_lenS (by walk_at "len") ?_ | refine L2.Rx.r_slS (by walk_at "len") ?_
  | refine L2.Rx.r_dnotin ?_ | refine L2.Rx.r_dget ?_ | refine L2.Rx.r_dget1 ?_ | refine L2.Rx.r_dput ?_ | refine L2.Rx.r_dpop1 ?_ | refine L2.Rx.r_isN ?_
  | refine L2.Rx.r_for ?_ | refine L2.Rx.r_ilist ?_ | refine L2.Rx.r_itup ?_
  | refine L2.Rx.r_gcons ?_ | refine L2.Rx.r_gnil ?_ | (refine L2.Rx.r_gtupP (by assumption) (by walk_at "at") ?_)
  | (refine L2.Rx.r_rEq rfl ?_) | (refine L2.Rx.r_rNe rfl ?_)
  | refine L2.Rx.r_rU ?_ | refine L2.Rx.r_max2 ?_ | refine L2.Rx.r_min2 ?_ | refine L2.Rx.r_int1i ?_ | (refine L2.Rx.r_lenh (by walk_at "hp") ?_)
  | (refine L2.Rx.r_ixLh (by walk_at "hp") (by walk_at "at") ?_)
  | (refine L2.Rx.r_setL (by walk_at "hp") (by walk_at "at") ?_))
local macro_rules | `(tactic| walk_at "at") => `(tactic| with_unfolding_all rfl)
local macro_rules | `(tactic| walk_at "rd") => `(tactic| (repeat walk_at "rd1"))
local macro_rules | `(tactic| walk_at "hp") => `(tactic| first
  | assumption
  | exact L2.upd_same
  | (refine Eq.trans (L2.upd_ne ?_) ?_; (focus walk_at "ne"); (focus walk_at "hp"))
  | (refine L2.Rx.Kp.at0 (by assumption) ?_; walk_at "hp")
  | (refine L2.Rx.Kp.at1 (by assumption) ?_ ?_; (focus walk_at "ne"); (focus walk_at "hp")))
local macro_rules | `(tactic| walk_at "ne") => `(tactic| first
  | assumption | exact Ne.symm (by assumption)
  | (refine L2.ne_of_none (H := ?nH) (o := ?nO) ?nh ?nn; (case nn => assumption); (case nh => walk_at "hp"))
  | (refine Ne.symm (L2.ne_of_none (H := ?nH) (o := ?nO) ?nh ?nn); (case nn => assumption); (case nh => walk_at "hp")))
local macro_rules | `(tactic| walk_at "len") => `(tactic| (rw [PySem.sizeLine_eq]; omega))
local macro_rules | `(tactic| walk_at "nin") => `(tactic| first
  | exact List.not_mem_nil
  | (refine L2.Rx.nin1 ?_; walk_at "ne"))
local macro_rules | `(tactic| walk_at "none") => `(tactic| first
  | assumption
  | (refine L2.Rx.Kp.none0 (by assumption) ?_ ?_; (focus walk_at "nin"); (focus walk_at "none")))
namespace L2.Ro
open PySem PySem.Spec PyProof.Rows L2.Rx L2.Z
def sp_box (K : PySem.W.Frag) : Sp := fun vs H Q _ => ∃ (a : Addr) (ns : List Int) (k : Int), vs = [.ref a, .int k] ∧ SqL K H a (ns.map V.int) ∧ 0 ≤ k ∧ k ≤ 1000 ∧
  ∀ H' p, Kp [] H H' → H p = none → Box H' p 1000000000 → Q (.ref p) H'
section
variable {P : Program} {w : World} {K : PySem.W.Frag} {mg : Str → Option Value} {base : Heap}
theorem k_box {f : Addr} {fd : FuncData} (F : Fun K "_law_box" "_law_box" s_box f fd) (g : mg "_law_box" = some (.ref f)) (z : Zb mg)  : Kn P w K mg base CX0 1 "_law_box" (sp_box K) := by
  refine ⟨f, fd, ["_law_script", "_law_k"], fnG_body F sc_box (fun vs H Q E h => ?_) (fun cdv A outer s H vs Q E hr h => ?_), g, F.kp, F.binds (fun _ _ _ _ _ _ us hl => match us, hl with | [_, _], _ => rfl)⟩
  · obtain ⟨a, ns, k, rfl, _⟩ := h
    rfl
  · obtain ⟨a, ns, k, rfl, hS, k0, k1, q⟩ := h
    refine ⟨_, PSs.nox (pss_cons (ps_set (i := 2) sc_box.nd rfl (.inl rfl) (pe_ifExp (pt_cmpR op_lt (pv 1) (pe_callB (show CallR _ _ (rLenQ K) from c_len) (by rfl) z.n_len (by decide +kernel) (pa_cons (pv 0) pa_nil)) (nomark _)) (pe_ix (show IxR _ (rIxL K) from ix_list) (pv 0) (pv 1) (fun _ _ => rfl)) (pe_op op_add (pe_op op_mul pe_int (pv 1)) pe_int)))
      (pss_cons (ps_set (i := 3) sc_box.nd rfl (.inl rfl) (pe_op op_mul (pe_op op_mod (pe_callB c_abs (by rfl) z.n_abs (by decide +kernel) (pa_cons (pv 2) pa_nil)) (pe_op op_powW (pe_op op_pow pe_int pe_int) pe_int)) (pe_callTy c_int1 (by rfl) z.n_int (by decide +kernel) (pa_cons (pe_cmpR op_ge (pe_callB c_abs (by rfl) z.n_abs (by decide +kernel) (pa_cons (pv 2) pa_nil)) (pe_op op_pow pe_int pe_int) (nomark _)) pa_nil))))
      (pss_one (ps_ret (pe_lst (pa_cons (pv 3) (pa_cons (pe_op op_mod (pe_op op_mul (pe_op op_add (pe_op op_add (pe_op op_mod (pv 2) pe_int) (pe_op op_mul (pe_op op_mul pe_int (pv 1)) (pv 1))) pe_int) pe_int) pe_int) (pa_cons pe_int pa_nil)))))))), ?_⟩
    refine r_seq (r_asg (r_cut (fun v H' => ∃ n, v = .int n ∧ H' = H) ?key ?h))
    case h =>
      intro Q' h'
      walk_at "rd"
      refine r_len (.inl hS) ?_
      walk_at "rd"
      refine r_ite (fun hk => ?_) (fun hk => ?_)
      · walk_at "rd"
        obtain ⟨v, e, m⟩ := atI_int k0 hk
        refine r_ixL hS e ?_
        obtain ⟨n, _, rfl⟩ := List.mem_map.mp m
        exact h' _ _ ⟨n, rfl, rfl⟩
      · walk_at "rd"
        refine r_mul (.inl (by omega)) ?_
        walk_at "rd"
        exact h' _ _ ⟨_, rfl, rfl⟩
    case key =>
      rintro v _ ⟨n, rfl, rfl⟩
      walk_at "rd"
      refine r_abs fun m m0 => ?_
      walk_at "rd"
      refine r_pow (by decide) (by decide) (by decide) ?_
      walk_at "rd"
      refine r_powW (by decide) (by decide +kernel) ?_
      walk_at "rd"
      refine r_mod (by decide +kernel) (fun o o0 _ => ?_)
      walk_at "rd"
      refine r_abs fun m' _ => ?_
      walk_at "rd"
      refine r_pow (by decide) (by decide) (by decide) ?_
      walk_at "rd"
      refine r_int1b fun c c0 c1 => ?_
      walk_at "rd"
      refine r_mul (.inr (by omega)) ?_
      walk_at "rd"
      refine r_mod (j := 2305843009213693951) (by decide) (fun t t0 t1 => ?_)
      walk_at "rd"
      refine r_mul (.inl (by omega)) ?_
      walk_at "rd"
      refine r_mul (.inr (by omega)) ?_
      walk_at "rd"
      refine r_mul (.inr (by omega)) ?_
      walk_at "rd"
      refine r_mod (j := 2305843009213693921) (by decide) (fun e e0 e1 => ?_)
      walk_at "rd"
      refine r_new rfl (fun p np => ?_)
      exact q _ p (Kp.new np) np ⟨_, _, _, upd_same, Int.mul_nonneg o0 c0, e0, by omega, by omega, by omega⟩
end
section
variable {P : Program} {ww : World} {K : PySem.W.Frag} {F : Fr} {H : Hp} {σ : St} {env env' : List Sl} {ts : Ts} {x y b : V} {d : PyData} {ds : List PyData} {Q : VK} {E : XK} {i n m : Nat} {s : Sl}
theorem z_box {u : Int} {ns : List Int} (hK : F.K = K) (R : Rp F H σ env ((y, .fz (.int u)) :: (x, .al i) :: ts)) (e : env[i]? = some (.scr ns)) (u0 : 0 ≤ u) (u1 : u ≤ 1000) (hW : F.W = [])
    (h : ∀ (v : V) (H' : Hp), Rp F H' σ env ((v, .box 1000000000) :: ts) → Q v H') : sp_box K [x, y] H Q E := by
  obtain ⟨S, w, R⟩ := R
  obtain ⟨x', ex, sx⟩ := R.slots i _ e
  have e4 := R.alSlot (i := i) (z := x) (List.mem_cons_of_mem _ (List.mem_cons_self ..))
  rw [ex] at e4
  cases e4
  cases sx with
  | scr r => exact ⟨_, ns, u, by rw [R.top.i], hK ▸ r.sq, u0, u1, fun H' p kp np B => h _ _ ⟨_, _, R.pop.pop.newBox hW kp np B⟩⟩
end

end L2.Ro

end
section
set_option Elab.async false
set_option linter.all false
set_option maxRecDepth 100000
set_option maxHeartbeats 4000000
local macro_rules | `(tactic| walk_at "rd1") => `(tactic| with_reducible first
  | refine L2.Rx.r_seq ?_ | refine L2.Rx.r_asg ?_ | refine L2.Rx.r_gname ?_ | refine L2.Rx.r_op ?_ | refine L2.Rx.r_c ?_
  | refine L2.Rx.r_var rfl ?_
  | refine L2.Rx.r_rI0 ?_ | refine L2.Rx.r_test ?_ | refine L2.Rx.r_bl ?_ | refine L2.Rx.r_if ?_ | refine L2.Rx.r_ret ?_
  | refine L2.Rx.r_cons ?_ | refine L2.Rx.r_nil ?_ | refine L2.Rx.r_call ?_ | refine L2.Rx.r_cb ?_ | refine L2.Rx.r_next ?_ | refine L2.Rx.r_drop ?_
  | refine L2.Rx.r_gsub ?_ | refine L2.Rx.r_tupF ?_ | refine L2.Rx.r_lst ?_ | refine L2.Rx.r_par ?_ | refine L2.Rx.r_par2 ?_
  | refine L2.Rx.r_un ?_ | refine L2.Rx.r_tb ?_ | refine L2.Rx.r_and ?_ | refine L2.Rx.r_or ?_ | refine L2.Rx.r_not ?_
  | refine L2.Rx.r_andV ?_ | refine L2.Rx.r_orV ?_ | refine L2.Rx.r_notV ?_ | refine L2.Rx.r_ifx ?_ | refine L2.Rx.r_chain ?_
  | refine L2.Rx.r_sl ?_ | refine L2.Rx.r_nopart ?_ | refine L2.Rx.r_part ?_ | refine L2.Rx.r_exint ?_ | refine L2.Rx.r_bm0 ?_ | refine L2.Rx.r_bm ?_
  | refine L2.Rx.r_lc ?_ | refine L2.Rx.r_rng1 ?_ | refine L2.Rx.r_yes ?_ | refine L2.Rx.r_tt ?_ | refine L2.Rx.r_ff ?_ | refine L2.Rx.r_m1 ?_ | refine L2.Rx.r_m0 ?_ | refine L2.Rx.r_isS ?_
  | (refine L2.Rx.r_wipe (by with_unfolding_all rfl) ?_) | (refine L2.Rx.r_tyL (by walk_at "hp") ?_)
  | refine L2.Rx.r_addS (by walk_at "len") ?_ | refine L2.Rx.r_lenS (by walk_at "len") ?_ | refine L2.Rx.r_slS (by walk_at "len") ?_
  | refine L2.Rx.r_dnotin ?_ | refine L2.Rx.r_dget ?_ | refine L2.Rx.r_dget1 ?_ | refine L2.Rx.r_dput ?_ | refine L2.Rx.r_dpop1 ?_ | refine L2.Rx.r_isN ?_
  | refine L2.Rx.r_for ?_ | refine L2.Rx.r_ilist ?_ | refine L2.Rx.r_itup ?_
  | refine L2.Rx.r_gcons ?_ | refine L2.Rx.r_gnil ?_ | (refine L2.Rx.r_gtupP (by assumption) (by walk_at "at") ?_)
  | (refine L2.Rx.r_rEq rfl ?_) | (refine L2.Rx.r_rNe rfl ?_)
  | refine L2.Rx.r_rU ?_ | refine L2.Rx.r_max2 ?_ | refine L2.Rx.r_min2 ?_ | refine L2.Rx.r_int1i ?_ | (refine L2.Rx.r_lenh (by walk_at "hp") ?_)
  | (refine L2.Rx.r_ixLh (by walk_at "hp") (by walk_at "at") ?_)
  | (refine L2.Rx.r_setL (by walk_at "hp") (by walk_at "at") ?_))
local macro_rules | `(tactic| walk_at "at") => `(tactic| with_unfolding_all rfl)
local macro_rules | `(tactic| walk_at "rd") => `(tactic| (repeat walk_at "rd1"))
local macro_rules | `(tactic| walk_at "hp") => `(tactic| first
  | assumption
  | exact L2.upd_same
  | (refine Eq.trans (L2.upd_ne ?_) ?_; (focus walk_at "ne"); (focus walk_at "hp"))
  | (refine L2.Rx.Kp.at0 (by assumption) ?_; walk_at "hp")
  | (refine L2.Rx.Kp.at1 (by assumption) ?_ ?_; (focus walk_at "ne"); (focus walk_at "hp")))
local macro_rules | `(tactic| walk_at "ne") => `(tactic| first
  | assumption | exact Ne.symm (by assumption)
  | (refine L2.ne_of_none (H := ?nH) (o := ?nO) ?nh ?nn; (case nn => assumption); (case nh => walk_at "hp"))
  | (refine Ne.symm (L2.ne_of_none (H := ?nH) (o := ?nO) ?nh ?nn); (case nn => assumption); (case nh => walk_at "hp")))
local macro_rules | `(tactic| walk_at "len") => `(tactic| (rw [PySem.sizeLine_eq]; omega))
local macro_rules | `(tactic| walk_at "nin") => `(tactic| first
  | exact List.not_mem_nil
  | (refine L2.Rx.nin1 ?_; walk_at "ne"))
local macro_rules | `(tactic| walk_at "none") => `(tactic| first
  | assumption
  | (refine L2.Rx.Kp.none0 (by assumption) ?_ ?_; (focus walk_at "nin"); (focus walk_at "none")))
set_option hygiene false
local macro_rules | `(tactic| walk_at "se") => `(tactic| first | exact L2.Z.SetE.z | exact L2.Z.SetE.s (L2.Z.SetE.z) | exact L2.Z.SetE.s (L2.Z.SetE.s (L2.Z.SetE.z)) | exact L2.Z.SetE.s (L2.Z.SetE.s (L2.Z.SetE.s (L2.Z.SetE.z))) | exact L2.Z.SetE.s (L2.Z.SetE.s (L2.Z.SetE.s (L2.Z.SetE.s (L2.Z.SetE.z)))) | exact L2.Z.SetE.s (L2.Z.SetE.s (L2.Z.SetE.s (L2.Z.SetE.s (L2.Z.SetE.s (L2.Z.SetE.z))))) | exact L2.Z.SetE.s (L2.Z.SetE.s (L2.Z.SetE.s (L2.Z.SetE.s (L2.Z.SetE.s (L2.Z.SetE.s (L2.Z.SetE.z)))))) | exact L2.Z.SetE.s (L2.Z.SetE.s (L2.Z.SetE.s (L2.Z.SetE.s (L2.Z.SetE.s (L2.Z.SetE.s (L2.Z.SetE.s (L2.Z.SetE.z))))))) | exact L2.Z.SetE.s (L2.Z.SetE.s (L2.Z.SetE.s (L2.Z.SetE.s (L2.Z.SetE.s (L2.Z.SetE.s (L2.Z.SetE.s (L2.Z.SetE.s (L2.Z.SetE.z)))))))) | exact L2.Z.SetE.s (L2.Z.SetE.s (L2.Z.SetE.s (L2.Z.SetE.s (L2.Z.SetE.s (L2.Z.SetE.s (L2.Z.SetE.s (L2.Z.SetE.s (L2.Z.SetE.s (L2.Z.SetE.z))))))))) | exact L2.Z.SetE.s (L2.Z.SetE.s (L2.Z.SetE.s (L2.Z.SetE.s (L2.Z.SetE.s (L2.Z.SetE.s (L2.Z.SetE.s (L2.Z.SetE.s (L2.Z.SetE.s (L2.Z.SetE.s (L2.Z.SetE.z)))))))))) | exact L2.Z.SetE.s (L2.Z.SetE.s (L2.Z.SetE.s (L2.Z.SetE.s (L2.Z.SetE.s (L2.Z.SetE.s (L2.Z.SetE.s (L2.Z.SetE.s (L2.Z.SetE.s (L2.Z.SetE.s (L2.Z.SetE.s (L2.Z.SetE.z))))))))))) | exact L2.Z.SetE.s (L2.Z.SetE.s (L2.Z.SetE.s (L2.Z.SetE.s (L2.Z.SetE.s (L2.Z.SetE.s (L2.Z.SetE.s (L2.Z.SetE.s (L2.Z.SetE.s (L2.Z.SetE.s (L2.Z.SetE.s (L2.Z.SetE.s (L2.Z.SetE.z)))))))))))) | exact L2.Z.SetE.s (L2.Z.SetE.s (L2.Z.SetE.s (L2.Z.SetE.s (L2.Z.SetE.s (L2.Z.SetE.s (L2.Z.SetE.s (L2.Z.SetE.s (L2.Z.SetE.s (L2.Z.SetE.s (L2.Z.SetE.s (L2.Z.SetE.s (L2.Z.SetE.s (L2.Z.SetE.z))))))))))))) | exact L2.Z.SetE.s (L2.Z.SetE.s (L2.Z.SetE.s (L2.Z.SetE.s (L2.Z.SetE.s (L2.Z.SetE.s (L2.Z.SetE.s (L2.Z.SetE.s (L2.Z.SetE.s (L2.Z.SetE.s (L2.Z.SetE.s (L2.Z.SetE.s (L2.Z.SetE.s (L2.Z.SetE.s (L2.Z.SetE.z)))))))))))))) | exact L2.Z.SetE.s (L2.Z.SetE.s (L2.Z.SetE.s (L2.Z.SetE.s (L2.Z.SetE.s (L2.Z.SetE.s (L2.Z.SetE.s (L2.Z.SetE.s (L2.Z.SetE.s (L2.Z.SetE.s (L2.Z.SetE.s (L2.Z.SetE.s (L2.Z.SetE.s (L2.Z.SetE.s (L2.Z.SetE.s (L2.Z.SetE.z))))))))))))))) | exact L2.Z.SetE.s (L2.Z.SetE.s (L2.Z.SetE.s (L2.Z.SetE.s (L2.Z.SetE.s (L2.Z.SetE.s (L2.Z.SetE.s (L2.Z.SetE.s (L2.Z.SetE.s (L2.Z.SetE.s (L2.Z.SetE.s (L2.Z.SetE.s (L2.Z.SetE.s (L2.Z.SetE.s (L2.Z.SetE.s (L2.Z.SetE.s (L2.Z.SetE.z)))))))))))))))) | exact L2.Z.SetE.s (L2.Z.SetE.s (L2.Z.SetE.s (L2.Z.SetE.s (L2.Z.SetE.s (L2.Z.SetE.s (L2.Z.SetE.s (L2.Z.SetE.s (L2.Z.SetE.s (L2.Z.SetE.s (L2.Z.SetE.s (L2.Z.SetE.s (L2.Z.SetE.s (L2.Z.SetE.s (L2.Z.SetE.s (L2.Z.SetE.s (L2.Z.SetE.s (L2.Z.SetE.z))))))))))))))))) | exact L2.Z.SetE.s (L2.Z.SetE.s (L2.Z.SetE.s (L2.Z.SetE.s (L2.Z.SetE.s (L2.Z.SetE.s (L2.Z.SetE.s (L2.Z.SetE.s (L2.Z.SetE.s (L2.Z.SetE.s (L2.Z.SetE.s (L2.Z.SetE.s (L2.Z.SetE.s (L2.Z.SetE.s (L2.Z.SetE.s (L2.Z.SetE.s (L2.Z.SetE.s (L2.Z.SetE.s (L2.Z.SetE.z)))))))))))))))))) | exact L2.Z.SetE.s (L2.Z.SetE.s (L2.Z.SetE.s (L2.Z.SetE.s (L2.Z.SetE.s (L2.Z.SetE.s (L2.Z.SetE.s (L2.Z.SetE.s (L2.Z.SetE.s (L2.Z.SetE.s (L2.Z.SetE.s (L2.Z.SetE.s (L2.Z.SetE.s (L2.Z.SetE.s (L2.Z.SetE.s (L2.Z.SetE.s (L2.Z.SetE.s (L2.Z.SetE.s (L2.Z.SetE.s (L2.Z.SetE.z))))))))))))))))))) | exact L2.Z.SetE.s (L2.Z.SetE.s (L2.Z.SetE.s (L2.Z.SetE.s (L2.Z.SetE.s (L2.Z.SetE.s (L2.Z.SetE.s (L2.Z.SetE.s (L2.Z.SetE.s (L2.Z.SetE.s (L2.Z.SetE.s (L2.Z.SetE.s (L2.Z.SetE.s (L2.Z.SetE.s (L2.Z.SetE.s (L2.Z.SetE.s (L2.Z.SetE.s (L2.Z.SetE.s (L2.Z.SetE.s (L2.Z.SetE.s (L2.Z.SetE.z)))))))))))))))))))) | exact L2.Z.SetE.s (L2.Z.SetE.s (L2.Z.SetE.s (L2.Z.SetE.s (L2.Z.SetE.s (L2.Z.SetE.s (L2.Z.SetE.s (L2.Z.SetE.s (L2.Z.SetE.s (L2.Z.SetE.s (L2.Z.SetE.s (L2.Z.SetE.s (L2.Z.SetE.s (L2.Z.SetE.s (L2.Z.SetE.s (L2.Z.SetE.s (L2.Z.SetE.s (L2.Z.SetE.s (L2.Z.SetE.s (L2.Z.SetE.s (L2.Z.SetE.s (L2.Z.SetE.z))))))))))))))))))))))
local macro_rules | `(tactic| walk_at "rf") => `(tactic| with_unfolding_all rfl)
local macro_rules | `(tactic| walk_at "sq") => `(tactic| first | exact L2.Z.Sq.t _ | exact L2.Z.Sq.l _)
local macro_rules | `(tactic| walk_at "nal") => `(tactic| rfl)
local macro_rules | `(tactic| walk_at "st") => `(tactic| with_reducible first
  | refine L2.Rx.r_seq ?_ | refine L2.Rx.r_asg ?_ | refine L2.Rx.r_op ?_
  | refine L2.Rx.r_test ?_ | refine L2.Rx.r_if ?_ | refine L2.Rx.r_ret ?_
  | refine L2.Rx.r_cons ?_ | refine L2.Rx.r_nil ?_ | refine L2.Rx.r_call ?_ | refine L2.Rx.r_cb ?_ | refine L2.Rx.r_next ?_ | refine L2.Rx.r_drop ?_
  | refine L2.Rx.r_gsub ?_ | refine L2.Rx.r_tupF ?_ | refine L2.Rx.r_lst ?_ | refine L2.Rx.r_par ?_ | refine L2.Rx.r_par2 ?_
  | refine L2.Rx.r_un ?_ | refine L2.Rx.r_tb ?_ | refine L2.Rx.r_and ?_ | refine L2.Rx.r_or ?_ | refine L2.Rx.r_not ?_
  | refine L2.Rx.r_andV ?_ | refine L2.Rx.r_orV ?_ | refine L2.Rx.r_notV ?_ | refine L2.Rx.r_ifx ?_ | refine L2.Rx.r_chain ?_
  | refine L2.Rx.r_sl ?_ | refine L2.Rx.r_nopart ?_ | refine L2.Rx.r_part ?_ | refine L2.Rx.r_bm0 ?_ | refine L2.Rx.r_bm ?_
  | refine L2.Rx.r_lc ?_ | refine L2.Rx.r_rng1 ?_ | refine L2.Rx.r_yes ?_ | refine L2.Rx.r_tt ?_ | refine L2.Rx.r_ff ?_ | refine L2.Rx.r_m1 ?_ | refine L2.Rx.r_m0 ?_
  | refine L2.Rx.r_dnotin ?_ | refine L2.Rx.r_dget ?_ | refine L2.Rx.r_dget1 ?_ | refine L2.Rx.r_dget2 ?_ | refine L2.Rx.r_dput ?_
  | refine L2.Rx.r_for ?_ | refine L2.Rx.r_ilist ?_ | refine L2.Rx.r_itup ?_
  | refine L2.Rx.r_gcons ?_ | refine L2.Rx.r_gnil ?_ | refine L2.Rx.r_kw ?_ | (show L2.Rx.tSf2 _ _ _ _ _ _ _ _ _ _ _ _ _; unfold L2.Rx.tSf2))
local macro_rules | `(tactic| walk_at "zv") => `(tactic| first
  | (refine L2.Z.z_int R (fun v R => ?_))
  | (refine L2.Z.z_str R (fun v R => ?_))
  | (refine L2.Z.z_bl R (fun v R => ?_))
  | (refine L2.Z.z_non R (fun v R => ?_))
  | (refine L2.Z.z_var R (by walk_at "rf") (fun v R => ?_))
  | (refine L2.Z.z_varA R (by walk_at "rf") (by rfl) (fun v R => ?_))
  | (refine L2.Z.y_lcName R (by decide) (by walk_at "se") (by rfl) (by rfl) (fun σ hw R => ?_))
  | (refine L2.Z.y_lcPair R (by decide) (by decide) (by walk_at "se") (by walk_at "se") (by rfl) (fun σ hw R => ?_))
  | (refine L2.Z.y_lcPairP R (by decide) (by decide) (by walk_at "se") (by walk_at "se") (by rfl) (fun σ hw R => ?_))
  | (refine L2.Z.y_name R (by walk_at "se") (by rfl) (by rfl) (fun σ R => ?_))
  | (refine L2.Z.z_gtup2 R (fun a b R => ?_))
  | (refine L2.Z.z_gtupP R (fun a b R => ?_))
  | (refine L2.Z.z_gtup3 R (fun a b c R => ?_))
  | (refine L2.Z.z_isD R (by walk_at "rf") (fun a R => ?_))
  | (refine L2.Z.z_isb R (fun R => ?_))
  | (refine L2.Z.z_isi R (fun R => ?_)))
local macro_rules | `(tactic| walk_at "zo") => `(tactic| first
  | (refine L2.Z.z_rI0i R (fun v R => ?_))
  | (refine L2.Z.z_rI0b R (fun v R => ?_))
  | (refine L2.Z.z_eqI R (fun v R => ?_))
  | (refine L2.Z.z_neI R (fun v R => ?_))
  | (refine L2.Z.z_eqS R (fun v R => ?_))
  | (refine L2.Z.z_neS R (fun v R => ?_))
  | (refine L2.Z.z_isV R (fun v R => ?_))
  | (refine L2.Z.z_notV R (fun v R => ?_))
  | (refine L2.Z.z_len R (by walk_at "rf") (by walk_at "sq") (fun v R => ?_))
  | (refine L2.Z.z_tup0 R (fun p o R => ?_); refine L2.Z.gen_R R (fun v H R => ?_))
  | (refine L2.Z.z_tup1 R (by walk_at "rf") (fun p o R => ?_); refine L2.Z.gen_R R (fun v H R => ?_))
  | (refine L2.Z.z_tup2 R (by walk_at "rf") (by walk_at "rf") (fun p o R => ?_); refine L2.Z.gen_R R (fun v H R => ?_))
  | (refine L2.Z.z_tup3 R (by walk_at "rf") (by walk_at "rf") (by walk_at "rf") (fun p o R => ?_); refine L2.Z.gen_R R (fun v H R => ?_))
  | (refine L2.Z.z_lst0 R (fun p R => ?_); refine L2.Z.gen_R R (fun v H R => ?_))
  | (refine L2.Z.z_lst1 R (by walk_at "rf") (fun p R => ?_); refine L2.Z.gen_R R (fun v H R => ?_))
  | (refine L2.Z.z_lst2 R (by walk_at "rf") (by walk_at "rf") (fun p R => ?_); refine L2.Z.gen_R R (fun v H R => ?_))
  | (refine L2.Z.z_lst3 R (by walk_at "rf") (by walk_at "rf") (by walk_at "rf") (fun p R => ?_); refine L2.Z.gen_R R (fun v H R => ?_))
  | (refine L2.Z.z_tupL R (by walk_at "rf") (fun v H R => ?_))
  | (refine L2.Z.z_tupT R (fun v R => ?_))
  | (refine L2.Z.z_listOf R (by walk_at "rf") (by walk_at "sq") (fun v H R => ?_))
  | (refine L2.Z.z_slL R (by walk_at "rf") (fun v H R => ?_))
  | (refine L2.Z.z_isStr R ?_)
  | (refine L2.Z.z_tyL R (by walk_at "rf") ?_)
  | (refine L2.Z.z_isD R (by walk_at "rf") (fun a R => ?_))
  | (refine L2.Z.z_dnew R (fun v H R => ?_))
  | (refine L2.Z.z_max2 R (fun v R => ?_))
  | (refine L2.Z.z_min2 R (fun v R => ?_)))
local macro_rules | `(tactic| walk_at "z1") => `(tactic| first | walk_at "st" | walk_at "zv" | walk_at "zo")
local macro_rules | `(tactic| walk_at "z") => `(tactic| (repeat walk_at "z1"))
local macro_rules | `(tactic| walk_at "ret") => `(tactic| refine L2.Z.z_retP R rfl (fun k f => q _ _ _ k f ?_))
local macro_rules | `(tactic| walk_at "fadd") => `(tactic| exact L2.Z.z_fAdd R rfl hw la ha hacc (by omega) rfl rfl rfl)
local macro_rules | `(tactic| walk_at "get") => `(tactic| first
  | (refine L2.Z.z_getL R (by walk_at "rf") (fun o R => ?_); refine L2.Z.gen_V R (fun v R => ?_))
  | (refine L2.Z.z_getL2 R (by walk_at "rf") (fun o R => ?_); refine L2.Z.gen_V R (fun v R => ?_))
  | (refine L2.Z.z_dinL R (by walk_at "rf") (fun a o R => ?_); refine L2.Z.gen_V R (fun v R => ?_))
  | (refine L2.Z.z_dninL R (by walk_at "rf") (fun a o R => ?_); refine L2.Z.gen_V R (fun v R => ?_))
  | (refine L2.Z.z_get1 R (by walk_at "rf") (by walk_at "rf") (fun o R => ?_); refine L2.Z.gen_V R (fun v R => ?_))
  | (refine L2.Z.z_get2 R (by walk_at "rf") (by walk_at "rf") (fun o R => ?_); refine L2.Z.gen_V R (fun v R => ?_))
  | (refine L2.Z.z_din R (by walk_at "rf") (by walk_at "rf") (fun a o R => ?_); refine L2.Z.gen_V R (fun v R => ?_))
  | (refine L2.Z.z_dnin R (by walk_at "rf") (by walk_at "rf") (fun a o R => ?_); refine L2.Z.gen_V R (fun v R => ?_)))
namespace L2.Ro
open PySem PySem.Spec PyProof.Rows L2.Rx L2.Z
/- the text takes the tactics of @ds -/
def sp_law (K : PySem.W.Frag) : Sp := fun vs H Q _ => ∃ (a : Addr) (ns : List Int), vs = [.ref a] ∧ SqL K H a (ns.map V.int) ∧ ∀ H', Q (.bl true) H'
theorem gok_of {ls : List Lg} {ns : List Str} (g : GLogs ns ls) (h : Cells ns) (l : 1 ≤ ns.length) (l6 : ns.length ≤ 6) : GOk ls ns := ⟨h, l6, List.length_pos_iff.mp l, g.len, g.ok, g.sub⟩
section
variable {P : Program} {w : World} {K : PySem.W.Frag} {mg : Str → Option Value} {base : Heap}
theorem k_law {f : Addr} {fd : FuncData} (F : Fun K "law" "law" s_law f fd) (g : mg "law" = some (.ref f)) (z : Zb mg) (k_box : Kn P w K mg base CX0 1 "_law_box" (sp_box K)) (k_take : Kn P w K mg base CX0 1 "_law_take" sp_take) (k_cells : Kn P w K mg base CX0 3 "_law_cells" sp_cells) (k_logs : Kn P w K mg base CX0 13 "_law_logs" (spB enc_ck (fun a c => Cells a.1 ∧ 1 ≤ a.1.length ∧ a.1.length ≤ 6 ∧ 1 ≤ a.2 ∧ a.2 ≤ 12 ∧ c = 5000) post_logs)) (k_right : Kn P w K mg base CX0 4 "_law_right" (spB enc_agr (fun a c => GOk a.1 a.2 ∧ c = 100) post_true))  : FnG P w K mg base CX0 14 f fd ["_law_script"] (sp_law K) := by
  refine fnG_body F sc_law (fun vs H Q E h => ?_) (fun cdv A outer s H vs Q E hr h => ?_)
  · obtain ⟨a, ns, rfl, _⟩ := h
    rfl
  · obtain ⟨a, ns, rfl, hS, q⟩ := h
    have R : Rp ⟨K, H, [], [], []⟩ H (start ["_law_script", "_law_nth", "_law_box_here", "_law_turn", "_law_names"] [.ref a]) [.scr ns, .junk, .junk, .junk, .junk] [] := start_C K hS rfl rfl rfl
    refine ⟨_, PSs.nox (pss_cons (ps_for PassesOwn.never rfl (pi_range1 rfl z.n_range (pa_cons (pe_callB (c_max2 rfl) (by rfl) z.n_max (by decide +kernel) (pa_cons pe_int (pa_cons (pe_callB (c_min2 rfl) (by rfl) z.n_min (by decide +kernel) (pa_cons pe_int (pa_cons (pe_callB (show CallR _ _ (rLenQ K) from c_len) (by rfl) z.n_len (by decide +kernel) (pa_cons (pv 0) pa_nil)) pa_nil))) pa_nil))) pa_nil)) (pg_name (i := 1) sc_law.nd rfl (.inl rfl))
        (pss_cons (ps_set (i := 2) sc_law.nd rfl (.inl rfl) (k_box.call hr (by decide) (by rfl) (pa_cons (pv 0) (pa_cons (pv 1) pa_nil))))
        (pss_cons (ps_if (pt_not (pt_val (k_right.call hr (by decide) (by rfl) (pa_cons (pv 2) (pa_cons (pe_tupF pa_nil) (pa_cons (k_cells.call hr (by decide) (by rfl) (pa_cons (pv 2) (pa_cons pe_int pa_nil))) pa_nil))))))
          (pss_one (ps_ret pe_bl))
          pss_nil)
        (pss_one (ps_for PassesOwn.never rfl (pi_range1 rfl z.n_range (pa_cons pe_int pa_nil)) (pg_name (i := 3) sc_law.nd rfl (.inl rfl))
          (pss_cons (ps_set (i := 4) sc_law.nd rfl (.inl rfl) (k_cells.call hr (by decide) (by rfl) (pa_cons (pv 2) (pa_cons (pe_op op_add pe_int (k_take.call hr (by decide) (by rfl) (pa_cons (pv 2) (pa_cons pe_int pa_nil)))) pa_nil))))
          (pss_one (ps_if (pt_not (pt_val (k_right.call hr (by decide) (by rfl) (pa_cons (pv 2) (pa_cons (k_logs.call hr (by decide) (by rfl) (pa_cons (pv 2) (pa_cons (pv 4) (pa_cons pe_int pa_nil)))) (pa_cons (pv 4) pa_nil))))))
            (pss_one (ps_ret pe_bl))
            pss_nil))))))))
      (pss_one (ps_ret pe_bl))), ?_⟩
    generalize start ["_law_script", "_law_nth", "_law_box_here", "_law_turn", "_law_names"] [V.ref a] = σ at R ⊢
    rename Hp => H0
    walk_at "z"
    refine z_lenC rfl R rfl fun v R => ?_
    walk_at "z"
    refine z_forR R (by omega) (by omega) (fun i env => env = [.scr ns, .junk, .junk, .junk, .junk]) rfl ?_ ?_
    · rintro i _ σ H v hi rfl R
      walk_at "z"
      refine z_box rfl R rfl (by omega) (by omega) rfl fun v H R => ?_
      walk_at "z"
      refine z_cells (m := 999999980) R rfl (by decide) (by decide) (by decide) (by walk_at "se") fun v H cs lc hc R => ?_
      walk_at "z"
      have lc2 : cs.length = 2 := lc
      have g2 : GOk [] cs := ⟨hc, by omega, fun e => (by rw [e] at lc2; cases lc2), Nat.zero_le _, fun _ h => (nomatch h), fun _ h => (nomatch h)⟩
      refine z_b2 ([], cs) (c := 100) (m := 999999880) R rfl rfl rfl rfl ⟨g2, rfl⟩ (by decide) fun v H d hd R => ?_
      cases hd
      walk_at "z"
      refine r_itb (fun h => ?_) (fun _ => ?_)
      · simp at h
      walk_at "z"
      refine z_forR R (by decide) (by decide) (fun j env => ∃ k : Nat, env = [.scr ns, .fz (.int (i : Int)), .box k, .junk, .junk] ∧ 100000 * (7 - j) ≤ k) ⟨_, rfl, by decide⟩ ?_ ?_
      · rintro j _ σ H v hj ⟨k, rfl, hk⟩ R
        have hj : j < 6 := hj
        walk_at "z"
        refine z_take (m := k - 1) R rfl (by decide) (by decide) (by omega) (by walk_at "se") fun v H r r0 r1 R => ?_
        walk_at "z"
        refine z_cells (m := k - 21) R rfl (by omega) (by omega) (by omega) (by walk_at "se") fun v H cs lc hc R => ?_
        repeat walk_at "st"
        refine y_name R (by walk_at "se") (by rfl) (by rfl) (fun σ R => ?_)
        refine z_frzL 4 R rfl rfl fun R => ?_
        walk_at "z"
        have c1 : 1 ≤ cs.length ∧ cs.length ≤ 6 := by omega
        refine z_b2 (cs, 12) (c := 5000) (m := k - 5021) R rfl rfl rfl rfl ⟨hc, c1.1, c1.2, show 1 ≤ 12 by decide, show 12 ≤ 12 by decide, rfl⟩ (by omega) fun v H d hd R => ?_
        obtain ⟨ls, gl, ne, rfl⟩ := hd
        walk_at "z"
        refine z_b2 (ls, cs) (c := 100) (m := k - 5121) R rfl rfl rfl rfl ⟨gok_of gl hc c1.1 c1.2, rfl⟩ (by omega) fun v H d hd R => ?_
        cases hd
        walk_at "z"
        refine r_itb (fun h => ?_) (fun _ => ?_)
        · simp at h
        walk_at "z"
        exact ⟨_, ⟨k - 5121, rfl, by omega⟩, R.jk [3, 4]⟩
      rintro _ σ H ⟨k, rfl, hk⟩ R
      walk_at "z"
      exact ⟨_, rfl, R.jk [1, 2]⟩
    rintro _ σ H rfl R
    walk_at "z"
    obtain ⟨S, w, R⟩ := R
    rw [R.top.b]
    exact q _
end
end L2.Ro

end
namespace L2.Ro
open PySem PySem.Spec PyProof.Rows L2.Rx
theorem all_mk {w : World} {K : PySem.W.Frag} {h : Heap} {mg : Str → Option Value} {fa : Addr} (X : K.In h) (G : h.Ns mainGlobals mg) (hfa : mg "law" = some (.ref fa))
    {f0 : Addr} {od0 an0 : Option Addr} {sl0 : Array (Option Value)} {oc0 kV0 dc0 pm0 cd0 ct0 : Value}
    (a0 : PySem.W.nsIn K mainGlobals "cells_of" = some (some (.ref f0))) (l0 : K.lookup f0 = some ⟨oc0, od0, .func (PySem.W.fnOf "cells_of" "cells_of" (defArgs s_cells_of) (defBody s_cells_of) (defScope s_cells_of) .none kV0 dc0 pm0 an0 cd0 ct0), sl0⟩) (c0 : PySem.W.codeIn K cd0 "cells_of" = true) (k0 : PySem.W.keepIn K (.ref f0) = true)
    {f1 : Addr} {od1 an1 : Option Addr} {sl1 : Array (Option Value)} {oc1 kV1 dc1 pm1 cd1 ct1 : Value}
    (a1 : PySem.W.nsIn K mainGlobals "value_in" = some (some (.ref f1))) (l1 : K.lookup f1 = some ⟨oc1, od1, .func (PySem.W.fnOf "value_in" "value_in" (defArgs s_value_in) (defBody s_value_in) (defScope s_value_in) .none kV1 dc1 pm1 an1 cd1 ct1), sl1⟩) (c1 : PySem.W.codeIn K cd1 "value_in" = true) (k1 : PySem.W.keepIn K (.ref f1) = true)
    {f2 : Addr} {od2 an2 : Option Addr} {sl2 : Array (Option Value)} {oc2 kV2 dc2 pm2 cd2 ct2 : Value}
    (a2 : PySem.W.nsIn K mainGlobals "cells_in" = some (some (.ref f2))) (l2 : K.lookup f2 = some ⟨oc2, od2, .func (PySem.W.fnOf "cells_in" "cells_in" (defArgs s_cells_in) (defBody s_cells_in) (defScope s_cells_in) .none kV2 dc2 pm2 an2 cd2 ct2), sl2⟩) (c2 : PySem.W.codeIn K cd2 "cells_in" = true) (k2 : PySem.W.keepIn K (.ref f2) = true)
    {f3 : Addr} {od3 an3 : Option Addr} {sl3 : Array (Option Value)} {oc3 kV3 dc3 pm3 cd3 ct3 : Value}
    (a3 : PySem.W.nsIn K mainGlobals "shared_cells" = some (some (.ref f3))) (l3 : K.lookup f3 = some ⟨oc3, od3, .func (PySem.W.fnOf "shared_cells" "shared_cells" (defArgs s_shared_cells) (defBody s_shared_cells) (defScope s_shared_cells) .none kV3 dc3 pm3 an3 cd3 ct3), sl3⟩) (c3 : PySem.W.codeIn K cd3 "shared_cells" = true) (k3 : PySem.W.keepIn K (.ref f3) = true)
    {f4 : Addr} {od4 an4 : Option Addr} {sl4 : Array (Option Value)} {oc4 kV4 dc4 pm4 cd4 ct4 : Value}
    (a4 : PySem.W.nsIn K mainGlobals "agrees" = some (some (.ref f4))) (l4 : K.lookup f4 = some ⟨oc4, od4, .func (PySem.W.fnOf "agrees" "agrees" (defArgs s_agrees) (defBody s_agrees) (defScope s_agrees) .none kV4 dc4 pm4 an4 cd4 ct4), sl4⟩) (c4 : PySem.W.codeIn K cd4 "agrees" = true) (k4 : PySem.W.keepIn K (.ref f4) = true)
    {f5 : Addr} {od5 an5 : Option Addr} {sl5 : Array (Option Value)} {oc5 kV5 dc5 pm5 cd5 ct5 : Value}
    (a5 : PySem.W.nsIn K mainGlobals "agreeing" = some (some (.ref f5))) (l5 : K.lookup f5 = some ⟨oc5, od5, .func (PySem.W.fnOf "agreeing" "agreeing" (defArgs s_agreeing) (defBody s_agreeing) (defScope s_agreeing) .none kV5 dc5 pm5 an5 cd5 ct5), sl5⟩) (c5 : PySem.W.codeIn K cd5 "agreeing" = true) (k5 : PySem.W.keepIn K (.ref f5) = true)
    {f6 : Addr} {od6 an6 : Option Addr} {sl6 : Array (Option Value)} {oc6 kV6 dc6 pm6 cd6 ct6 : Value}
    (a6 : PySem.W.nsIn K mainGlobals "differing" = some (some (.ref f6))) (l6 : K.lookup f6 = some ⟨oc6, od6, .func (PySem.W.fnOf "differing" "differing" (defArgs s_differing) (defBody s_differing) (defScope s_differing) .none kV6 dc6 pm6 an6 cd6 ct6), sl6⟩) (c6 : PySem.W.codeIn K cd6 "differing" = true) (k6 : PySem.W.keepIn K (.ref f6) = true)
    {f7 : Addr} {od7 an7 : Option Addr} {sl7 : Array (Option Value)} {oc7 kV7 dc7 pm7 cd7 ct7 : Value}
    (a7 : PySem.W.nsIn K mainGlobals "_law_box" = some (some (.ref f7))) (l7 : K.lookup f7 = some ⟨oc7, od7, .func (PySem.W.fnOf "_law_box" "_law_box" (defArgs s_box) (defBody s_box) (defScope s_box) .none kV7 dc7 pm7 an7 cd7 ct7), sl7⟩) (c7 : PySem.W.codeIn K cd7 "_law_box" = true) (k7 : PySem.W.keepIn K (.ref f7) = true)
    {f8 : Addr} {od8 an8 : Option Addr} {sl8 : Array (Option Value)} {oc8 kV8 dc8 pm8 cd8 ct8 : Value}
    (a8 : PySem.W.nsIn K mainGlobals "_law_take" = some (some (.ref f8))) (l8 : K.lookup f8 = some ⟨oc8, od8, .func (PySem.W.fnOf "_law_take" "_law_take" (defArgs s_take) (defBody s_take) (defScope s_take) .none kV8 dc8 pm8 an8 cd8 ct8), sl8⟩) (c8 : PySem.W.codeIn K cd8 "_law_take" = true) (k8 : PySem.W.keepIn K (.ref f8) = true)
    {f9 : Addr} {od9 an9 : Option Addr} {sl9 : Array (Option Value)} {oc9 kV9 dc9 pm9 cd9 ct9 : Value}
    (a9 : PySem.W.nsIn K mainGlobals "_law_of" = some (some (.ref f9))) (l9 : K.lookup f9 = some ⟨oc9, od9, .func (PySem.W.fnOf "_law_of" "_law_of" (defArgs s_of) (defBody s_of) (defScope s_of) .none kV9 dc9 pm9 an9 cd9 ct9), sl9⟩) (c9 : PySem.W.codeIn K cd9 "_law_of" = true) (k9 : PySem.W.keepIn K (.ref f9) = true)
    {f10 : Addr} {od10 an10 : Option Addr} {sl10 : Array (Option Value)} {oc10 kV10 dc10 pm10 cd10 ct10 : Value}
    (a10 : PySem.W.nsIn K mainGlobals "_law_cells" = some (some (.ref f10))) (l10 : K.lookup f10 = some ⟨oc10, od10, .func (PySem.W.fnOf "_law_cells" "_law_cells" (defArgs s_cells) (defBody s_cells) (defScope s_cells) .none kV10 dc10 pm10 an10 cd10 ct10), sl10⟩) (c10 : PySem.W.codeIn K cd10 "_law_cells" = true) (k10 : PySem.W.keepIn K (.ref f10) = true)
    {f11 : Addr} {od11 an11 : Option Addr} {sl11 : Array (Option Value)} {oc11 kV11 dc11 pm11 cd11 ct11 : Value}
    (a11 : PySem.W.nsIn K mainGlobals "_law_values" = some (some (.ref f11))) (l11 : K.lookup f11 = some ⟨oc11, od11, .func (PySem.W.fnOf "_law_values" "_law_values" (defArgs s_values) (defBody s_values) (defScope s_values) .none kV11 dc11 pm11 an11 cd11 ct11), sl11⟩) (c11 : PySem.W.codeIn K cd11 "_law_values" = true) (k11 : PySem.W.keepIn K (.ref f11) = true)
    {f12 : Addr} {od12 an12 : Option Addr} {sl12 : Array (Option Value)} {oc12 kV12 dc12 pm12 cd12 ct12 : Value}
    (a12 : PySem.W.nsIn K mainGlobals "_law_tree" = some (some (.ref f12))) (l12 : K.lookup f12 = some ⟨oc12, od12, .func (PySem.W.fnOf "_law_tree" "_law_tree" (defArgs s_tree) (defBody s_tree) (defScope s_tree) .none kV12 dc12 pm12 an12 cd12 ct12), sl12⟩) (c12 : PySem.W.codeIn K cd12 "_law_tree" = true) (k12 : PySem.W.keepIn K (.ref f12) = true)
    {f13 : Addr} {od13 an13 : Option Addr} {sl13 : Array (Option Value)} {oc13 kV13 dc13 pm13 cd13 ct13 : Value}
    (a13 : PySem.W.nsIn K mainGlobals "_law_leaves" = some (some (.ref f13))) (l13 : K.lookup f13 = some ⟨oc13, od13, .func (PySem.W.fnOf "_law_leaves" "_law_leaves" (defArgs s_leaves) (defBody s_leaves) (defScope s_leaves) .none kV13 dc13 pm13 an13 cd13 ct13), sl13⟩) (c13 : PySem.W.codeIn K cd13 "_law_leaves" = true) (k13 : PySem.W.keepIn K (.ref f13) = true)
    {f14 : Addr} {od14 an14 : Option Addr} {sl14 : Array (Option Value)} {oc14 kV14 dc14 pm14 cd14 ct14 : Value}
    (a14 : PySem.W.nsIn K mainGlobals "_law_loose" = some (some (.ref f14))) (l14 : K.lookup f14 = some ⟨oc14, od14, .func (PySem.W.fnOf "_law_loose" "_law_loose" (defArgs s_loose) (defBody s_loose) (defScope s_loose) .none kV14 dc14 pm14 an14 cd14 ct14), sl14⟩) (c14 : PySem.W.codeIn K cd14 "_law_loose" = true) (k14 : PySem.W.keepIn K (.ref f14) = true)
    {f15 : Addr} {od15 an15 : Option Addr} {sl15 : Array (Option Value)} {oc15 kV15 dc15 pm15 cd15 ct15 : Value}
    (a15 : PySem.W.nsIn K mainGlobals "_law_logs" = some (some (.ref f15))) (l15 : K.lookup f15 = some ⟨oc15, od15, .func (PySem.W.fnOf "_law_logs" "_law_logs" (defArgs s_logs) (defBody s_logs) (defScope s_logs) .none kV15 dc15 pm15 an15 cd15 ct15), sl15⟩) (c15 : PySem.W.codeIn K cd15 "_law_logs" = true) (k15 : PySem.W.keepIn K (.ref f15) = true)
    {f16 : Addr} {od16 an16 : Option Addr} {sl16 : Array (Option Value)} {oc16 kV16 dc16 pm16 cd16 ct16 : Value}
    (a16 : PySem.W.nsIn K mainGlobals "_law_value" = some (some (.ref f16))) (l16 : K.lookup f16 = some ⟨oc16, od16, .func (PySem.W.fnOf "_law_value" "_law_value" (defArgs s_value) (defBody s_value) (defScope s_value) .none kV16 dc16 pm16 an16 cd16 ct16), sl16⟩) (c16 : PySem.W.codeIn K cd16 "_law_value" = true) (k16 : PySem.W.keepIn K (.ref f16) = true)
    {f17 : Addr} {od17 an17 : Option Addr} {sl17 : Array (Option Value)} {oc17 kV17 dc17 pm17 cd17 ct17 : Value}
    (a17 : PySem.W.nsIn K mainGlobals "_law_two_right" = some (some (.ref f17))) (l17 : K.lookup f17 = some ⟨oc17, od17, .func (PySem.W.fnOf "_law_two_right" "_law_two_right" (defArgs s_two_right) (defBody s_two_right) (defScope s_two_right) .none kV17 dc17 pm17 an17 cd17 ct17), sl17⟩) (c17 : PySem.W.codeIn K cd17 "_law_two_right" = true) (k17 : PySem.W.keepIn K (.ref f17) = true)
    {f18 : Addr} {od18 an18 : Option Addr} {sl18 : Array (Option Value)} {oc18 kV18 dc18 pm18 cd18 ct18 : Value}
    (a18 : PySem.W.nsIn K mainGlobals "_law_agreeing_right" = some (some (.ref f18))) (l18 : K.lookup f18 = some ⟨oc18, od18, .func (PySem.W.fnOf "_law_agreeing_right" "_law_agreeing_right" (defArgs s_agreeing_right) (defBody s_agreeing_right) (defScope s_agreeing_right) .none kV18 dc18 pm18 an18 cd18 ct18), sl18⟩) (c18 : PySem.W.codeIn K cd18 "_law_agreeing_right" = true) (k18 : PySem.W.keepIn K (.ref f18) = true)
    {f19 : Addr} {od19 an19 : Option Addr} {sl19 : Array (Option Value)} {oc19 kV19 dc19 pm19 cd19 ct19 : Value}
    (a19 : PySem.W.nsIn K mainGlobals "_law_right" = some (some (.ref f19))) (l19 : K.lookup f19 = some ⟨oc19, od19, .func (PySem.W.fnOf "_law_right" "_law_right" (defArgs s_right) (defBody s_right) (defScope s_right) .none kV19 dc19 pm19 an19 cd19 ct19), sl19⟩) (c19 : PySem.W.codeIn K cd19 "_law_right" = true) (k19 : PySem.W.keepIn K (.ref f19) = true)
    {f20 : Addr} {od20 an20 : Option Addr} {sl20 : Array (Option Value)} {oc20 kV20 dc20 pm20 cd20 ct20 : Value}
    (a20 : PySem.W.nsIn K mainGlobals "law" = some (some (.ref f20))) (l20 : K.lookup f20 = some ⟨oc20, od20, .func (PySem.W.fnOf "law" "law" (defArgs s_law) (defBody s_law) (defScope s_law) .none kV20 dc20 pm20 an20 cd20 ct20), sl20⟩) (c20 : PySem.W.codeIn K cd20 "law" = true) (k20 : PySem.W.keepIn K (.ref f20) = true)
    (z0 : PySem.W.nsIn K mainGlobals "abs" = some none) (z1 : PySem.W.nsIn K mainGlobals "all" = some none) (z2 : PySem.W.nsIn K mainGlobals "any" = some none) (z3 : PySem.W.nsIn K mainGlobals "dict" = some none) (z4 : PySem.W.nsIn K mainGlobals "int" = some none) (z5 : PySem.W.nsIn K mainGlobals "len" = some none) (z6 : PySem.W.nsIn K mainGlobals "list" = some none) (z7 : PySem.W.nsIn K mainGlobals "max" = some none) (z8 : PySem.W.nsIn K mainGlobals "min" = some none) (z9 : PySem.W.nsIn K mainGlobals "range" = some none) (z10 : PySem.W.nsIn K mainGlobals "repr" = some none) (z11 : PySem.W.nsIn K mainGlobals "sorted" = some none) (z12 : PySem.W.nsIn K mainGlobals "tuple" = some none)
    : ∃ fd : FuncData, (∀ (s : Shared) (v : Value), BindsTo s fd ⟨[v], []⟩ [("_law_script", v)]) ∧ ∀ base : Heap, K.In base → base.Ns mainGlobals mg → FnG PySem.Challenge.rw_readorder_k02_cells_and_values.prog w K mg base CX0 14 fa fd ["_law_script"] (sp_law K) := by
  have e := hfa.symm.trans (PySem.W.mg_of X G a20)
  cases e
  have F0 := fun_mk (st := s_cells_of) l0 c0 k0
  have F1 := fun_mk (st := s_value_in) l1 c1 k1
  have F2 := fun_mk (st := s_cells_in) l2 c2 k2
  have F3 := fun_mk (st := s_shared_cells) l3 c3 k3
  have F4 := fun_mk (st := s_agrees) l4 c4 k4
  have F5 := fun_mk (st := s_agreeing) l5 c5 k5
  have F6 := fun_mk (st := s_differing) l6 c6 k6
  have F7 := fun_mk (st := s_box) l7 c7 k7
  have F8 := fun_mk (st := s_take) l8 c8 k8
  have F9 := fun_mk (st := s_of) l9 c9 k9
  have F10 := fun_mk (st := s_cells) l10 c10 k10
  have F11 := fun_mk (st := s_values) l11 c11 k11
  have F12 := fun_mk (st := s_tree) l12 c12 k12
  have F13 := fun_mk (st := s_leaves) l13 c13 k13
  have F14 := fun_mk (st := s_loose) l14 c14 k14
  have F15 := fun_mk (st := s_logs) l15 c15 k15
  have F16 := fun_mk (st := s_value) l16 c16 k16
  have F17 := fun_mk (st := s_two_right) l17 c17 k17
  have F18 := fun_mk (st := s_agreeing_right) l18 c18 k18
  have F19 := fun_mk (st := s_right) l19 c19 k19
  have F20 := fun_mk (st := s_law) l20 c20 k20
  have zb : Zb mg := ⟨PySem.W.mg_none_of X G z0, PySem.W.mg_none_of X G z1, PySem.W.mg_none_of X G z2, PySem.W.mg_none_of X G z3, PySem.W.mg_none_of X G z4, PySem.W.mg_none_of X G z5, PySem.W.mg_none_of X G z6, PySem.W.mg_none_of X G z7, PySem.W.mg_none_of X G z8, PySem.W.mg_none_of X G z9, PySem.W.mg_none_of X G z10, PySem.W.mg_none_of X G z11, PySem.W.mg_none_of X G z12⟩
  refine ⟨PySem.W.fnOf "law" "law" (defArgs s_law) (defBody s_law) (defScope s_law) .none kV20 dc20 pm20 an20 cd20 ct20, fun s v => .of_eq rfl, fun base _ _ => ?_⟩
  have qk_cells_of := k_cells_of (P := PySem.Challenge.rw_readorder_k02_cells_and_values.prog) (w := w) (base := base) F0 (PySem.W.mg_of X G a0) zb 
  have qk_value_in := k_value_in (P := PySem.Challenge.rw_readorder_k02_cells_and_values.prog) (w := w) (base := base) F1 (PySem.W.mg_of X G a1) zb 
  have qk_value_in_cell_log := k_value_in_cell_log (P := PySem.Challenge.rw_readorder_k02_cells_and_values.prog) (w := w) (base := base) F1 (PySem.W.mg_of X G a1) zb 
  have qk_value := k_value (P := PySem.Challenge.rw_readorder_k02_cells_and_values.prog) (w := w) (base := base) F16 (PySem.W.mg_of X G a16) zb 
  have qk_agrees := k_agrees (P := PySem.Challenge.rw_readorder_k02_cells_and_values.prog) (w := w) (base := base) F4 (PySem.W.mg_of X G a4) zb 
  have qk_differing := k_differing (P := PySem.Challenge.rw_readorder_k02_cells_and_values.prog) (w := w) (base := base) F6 (PySem.W.mg_of X G a6) zb 
  have qk_differing_other_one := k_differing_other_one (P := PySem.Challenge.rw_readorder_k02_cells_and_values.prog) (w := w) (base := base) F6 (PySem.W.mg_of X G a6) zb 
  have qk_two_right := k_two_right (P := PySem.Challenge.rw_readorder_k02_cells_and_values.prog) (w := w) (base := base) F17 (PySem.W.mg_of X G a17) zb qk_value qk_value_in qk_value_in_cell_log qk_differing_other_one qk_differing
  have qk_leaves := k_leaves (P := PySem.Challenge.rw_readorder_k02_cells_and_values.prog) (w := w) (base := base) F13 (PySem.W.mg_of X G a13) zb 
  have qk_take := k_take (P := PySem.Challenge.rw_readorder_k02_cells_and_values.prog) (w := w) (base := base) F8 (PySem.W.mg_of X G a8) zb 
  have qk_of := k_of (P := PySem.Challenge.rw_readorder_k02_cells_and_values.prog) (w := w) (base := base) F9 (PySem.W.mg_of X G a9) zb qk_take
  have qk_cells := k_cells (P := PySem.Challenge.rw_readorder_k02_cells_and_values.prog) (w := w) (base := base) F10 (PySem.W.mg_of X G a10) zb qk_take qk_of
  have qk_cells_in := k_cells_in (P := PySem.Challenge.rw_readorder_k02_cells_and_values.prog) (w := w) (base := base) F2 (PySem.W.mg_of X G a2) zb qk_cells_of
  have qk_cells_in_logs := k_cells_in_logs (P := PySem.Challenge.rw_readorder_k02_cells_and_values.prog) (w := w) (base := base) F2 (PySem.W.mg_of X G a2) zb qk_cells_of
  have qk_loose := k_loose (P := PySem.Challenge.rw_readorder_k02_cells_and_values.prog) (w := w) (base := base) F14 (PySem.W.mg_of X G a14) zb qk_take
  have qk_values := k_values (P := PySem.Challenge.rw_readorder_k02_cells_and_values.prog) (w := w) (base := base) F11 (PySem.W.mg_of X G a11) zb qk_take
  have qk_tree := k_tree (P := PySem.Challenge.rw_readorder_k02_cells_and_values.prog) (w := w) (base := base) F12 (PySem.W.mg_of X G a12) zb qk_take qk_values
  have qk_logs := k_logs (P := PySem.Challenge.rw_readorder_k02_cells_and_values.prog) (w := w) (base := base) F15 (PySem.W.mg_of X G a15) zb qk_take qk_loose qk_leaves qk_tree
  have qk_agreeing := k_agreeing (P := PySem.Challenge.rw_readorder_k02_cells_and_values.prog) (w := w) (base := base) F5 (PySem.W.mg_of X G a5) zb qk_agrees
  have qk_agreeing_known_logs := k_agreeing_known_logs (P := PySem.Challenge.rw_readorder_k02_cells_and_values.prog) (w := w) (base := base) F5 (PySem.W.mg_of X G a5) zb qk_agrees
  have qk_agreeing_right := k_agreeing_right (P := PySem.Challenge.rw_readorder_k02_cells_and_values.prog) (w := w) (base := base) F18 (PySem.W.mg_of X G a18) zb qk_take qk_of qk_agreeing qk_agreeing_known_logs
  have qk_shared_cells := k_shared_cells (P := PySem.Challenge.rw_readorder_k02_cells_and_values.prog) (w := w) (base := base) F3 (PySem.W.mg_of X G a3) zb qk_cells_of
  have qk_shared_cells_logs := k_shared_cells_logs (P := PySem.Challenge.rw_readorder_k02_cells_and_values.prog) (w := w) (base := base) F3 (PySem.W.mg_of X G a3) zb qk_cells_of
  have qk_right := k_right (P := PySem.Challenge.rw_readorder_k02_cells_and_values.prog) (w := w) (base := base) F19 (PySem.W.mg_of X G a19) zb qk_value qk_cells_in qk_cells_in_logs qk_shared_cells qk_shared_cells_logs qk_of qk_two_right qk_agreeing_right
  have qk_box := k_box (P := PySem.Challenge.rw_readorder_k02_cells_and_values.prog) (w := w) (base := base) F7 (PySem.W.mg_of X G a7) zb 
  exact k_law F20 (PySem.W.mg_of X G a20) zb qk_box qk_take qk_cells qk_logs qk_right
end L2.Ro
open PySem PySem.W PyProof.Rows
set_option maxHeartbeats 0 in
theorem PySem.Challenge.cw_readorder_k02_cells_and_values_holds : PySem.Challenge.rw_readorder_k02_cells_and_values.Holds := by
  w_on; o_law; k_head; (case hw => w_witness2)
  k_fill
  refine L2.Rx.walkG (l := PySem.Challenge.rw_readorder_k02_cells_and_values) (n := 63) (k := 14) (x := "_law_script") (sp := fun K => L2.Ro.sp_law K) rfl (by decide) rfl ⟨rfl, by decide, by decide⟩ (fun w h Y => PySem.W.kIn_of Y) ?F (fun _ _ a ns hl _ hS => ⟨a, ns, rfl, hS, fun _ => rfl⟩)
  case F =>
    intro w mg fa h KX G hmg
    refine' L2.Ro.all_mk KX G hmg (a0 := ?a0) (l0 := ?l0) (c0 := ?c0) (k0 := ?k0) (a1 := ?a1) (l1 := ?l1) (c1 := ?c1) (k1 := ?k1) (a2 := ?a2) (l2 := ?l2) (c2 := ?c2) (k2 := ?k2) (a3 := ?a3) (l3 := ?l3) (c3 := ?c3) (k3 := ?k3) (a4 := ?a4) (l4 := ?l4) (c4 := ?c4) (k4 := ?k4) (a5 := ?a5) (l5 := ?l5) (c5 := ?c5) (k5 := ?k5) (a6 := ?a6) (l6 := ?l6) (c6 := ?c6) (k6 := ?k6) (a7 := ?a7) (l7 := ?l7) (c7 := ?c7) (k7 := ?k7) (a8 := ?a8) (l8 := ?l8) (c8 := ?c8) (k8 := ?k8) (a9 := ?a9) (l9 := ?l9) (c9 := ?c9) (k9 := ?k9) (a10 := ?a10) (l10 := ?l10) (c10 := ?c10) (k10 := ?k10) (a11 := ?a11) (l11 := ?l11) (c11 := ?c11) (k11 := ?k11) (a12 := ?a12) (l12 := ?l12) (c12 := ?c12) (k12 := ?k12) (a13 := ?a13) (l13 := ?l13) (c13 := ?c13) (k13 := ?k13) (a14 := ?a14) (l14 := ?l14) (c14 := ?c14) (k14 := ?k14) (a15 := ?a15) (l15 := ?l15) (c15 := ?c15) (k15 := ?k15) (a16 := ?a16) (l16 := ?l16) (c16 := ?c16) (k16 := ?k16) (a17 := ?a17) (l17 := ?l17) (c17 := ?c17) (k17 := ?k17) (a18 := ?a18) (l18 := ?l18) (c18 := ?c18) (k18 := ?k18) (a19 := ?a19) (l19 := ?l19) (c19 := ?c19) (k19 := ?k19) (a20 := ?a20) (l20 := ?l20) (c20 := ?c20) (k20 := ?k20) (z0 := ?z0) (z1 := ?z1) (z2 := ?z2) (z3 := ?z3) (z4 := ?z4) (z5 := ?z5) (z6 := ?z6) (z7 := ?z7) (z8 := ?z8) (z9 := ?z9) (z10 := ?z10) (z11 := ?z11) (z12 := ?z12)
    (case a0 => k_is); (case l0 => k_is); (case c0 => k_is); (case k0 => k_is); (case a1 => k_is); (case l1 => k_is); (case c1 => k_is); (case k1 => k_is); (case a2 => k_is); (case l2 => k_is); (case c2 => k_is); (case k2 => k_is); (case a3 => k_is); (case l3 => k_is); (case c3 => k_is); (case k3 => k_is); (case a4 => k_is); (case l4 => k_is); (case c4 => k_is); (case k4 => k_is); (case a5 => k_is); (case l5 => k_is); (case c5 => k_is); (case k5 => k_is); (case a6 => k_is); (case l6 => k_is); (case c6 => k_is); (case k6 => k_is); (case a7 => k_is); (case l7 => k_is); (case c7 => k_is); (case k7 => k_is); (case a8 => k_is); (case l8 => k_is); (case c8 => k_is); (case k8 => k_is); (case a9 => k_is); (case l9 => k_is); (case c9 => k_is); (case k9 => k_is); (case a10 => k_is); (case l10 => k_is); (case c10 => k_is); (case k10 => k_is); (case a11 => k_is); (case l11 => k_is); (case c11 => k_is); (case k11 => k_is); (case a12 => k_is); (case l12 => k_is); (case c12 => k_is); (case k12 => k_is); (case a13 => k_is); (case l13 => k_is); (case c13 => k_is); (case k13 => k_is); (case a14 => k_is); (case l14 => k_is); (case c14 => k_is); (case k14 => k_is); (case a15 => k_is); (case l15 => k_is); (case c15 => k_is); (case k15 => k_is); (case a16 => k_is); (case l16 => k_is); (case c16 => k_is); (case k16 => k_is); (case a17 => k_is); (case l17 => k_is); (case c17 => k_is); (case k17 => k_is); (case a18 => k_is); (case l18 => k_is); (case c18 => k_is); (case k18 => k_is); (case a19 => k_is); (case l19 => k_is); (case c19 => k_is); (case k19 => k_is); (case a20 => k_is); (case l20 => k_is); (case c20 => k_is); (case k20 => k_is); (case z0 => k_is); (case z1 => k_is); (case z2 => k_is); (case z3 => k_is); (case z4 => k_is); (case z5 => k_is); (case z6 => k_is); (case z7 => k_is); (case z8 => k_is); (case z9 => k_is); (case z10 => k_is); (case z11 => k_is); (case z12 => k_is)
