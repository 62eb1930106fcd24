import PyProof.Rows.All
import Wide.All
import OpenK.AllK
import Wide.FinOn
import PySem.Challenge.RW_readorder_k05_runs_followed
import HandS.ForMost
import HandS.IsInst
import HandS.TupAny
import KE.SortData
import KE.KDictPairs
import PyProof.ReprRoads
import HandS.More
set_option Elab.async false
set_option linter.all false
set_option maxRecDepth 100000
set_option maxHeartbeats 4000000
section
set_option Elab.async false
set_option linter.all false
set_option maxRecDepth 100000
set_option maxHeartbeats 4000000
namespace L2.Rx
open PySem PySem.Spec PyProof.Rows

/-! ### readings, step by step -/
section
variable {σ : St} {H : Hp} {Q : VK} {nx : St → Hp → Prop} {rt : VK} {bk ct : St → Hp → Prop} {D : Ends} {E : XK} {K : PySem.W.Frag}
theorem r_seq {t u : TS} (h : t ⟨u ⟨nx, rt, bk, ct⟩, rt, bk, ct⟩ σ H) : tSeq t u ⟨nx, rt, bk, ct⟩ σ H := h
theorem r_next (h : nx σ H) : tNext ⟨nx, rt, bk, ct⟩ σ H := h
theorem r_if {c : TT} {t u : TS} (h : c σ H fun b H1 => if b = true then t D σ H1 else u D σ H1) : tIfS c t u D σ H := h
theorem r_ret {te : TE} (h : te σ H rt) : tRet te ⟨nx, rt, bk, ct⟩ σ H := h
theorem r_asg {te : TE} {g : TG} (h : te σ H fun x H1 => g x σ H1 nx) : tAsg te g ⟨nx, rt, bk, ct⟩ σ H := h
theorem r_drop {te : TE} (h : te σ H fun _ H1 => nx σ H1) : tDrop te ⟨nx, rt, bk, ct⟩ σ H := h
theorem r_gname {i : Nat} {v : V} {Q : St → Hp → Prop} (h : Q (σ.set i (some v)) H) : gName i v σ H Q := h
theorem r_gsub {to ti : TE} {t : TSet} {v : V} {Q : St → Hp → Prop} (h : to σ H fun o H1 => ti σ H1 fun i H2 => t o i v H2 fun H3 => Q σ H3) : gSub to ti t v σ H Q := h
theorem r_par {i j : Nat} {ta : TA} (h : ta σ H fun vs H1 => ∃ v w, vs = [v, w] ∧ nx ((σ.set i (some v)).set j (some w)) H1) : tPar i j ta ⟨nx, rt, bk, ct⟩ σ H := h
theorem r_par2 {v w : V} {q : V → V → Prop} (h : q v w) : ∃ v' w', [v, w] = [v', w'] ∧ q v' w' := ⟨v, w, rfl, h⟩
theorem r_var {i : Nat} {v : V} (e : σ[i]? = some (some v)) (h : Q v H) : tVar i σ H Q := ⟨v, e, h⟩
theorem r_c {v : V} (h : Q v H) : tC v σ H Q := h
theorem r_op {r : R2} {ta tb : TE} (h : ta σ H fun x H1 => tb σ H1 fun y H2 => r x y H2 Q) : tOp r ta tb σ H Q := h
theorem r_un {r : V → Hp → VK → Prop} {ta : TE} (h : ta σ H fun x H1 => r x H1 Q) : tUn r ta σ H Q := h
theorem r_test {t : TE} {Q : Bool → Hp → Prop} (h : t σ H fun x H' => ∃ k, x = .bl k ∧ Q k H') : tTest t σ H Q := h
theorem r_tb {t : TE} {Q : Bool → Hp → Prop} (h : t σ H fun x H1 => ∃ c, x = .bl c ∧ Q c H1) : tB t σ H Q := h
theorem r_bl {k : Bool} {q : Bool → Prop} (h : q k) : ∃ k', V.bl k = V.bl k' ∧ q k' := ⟨k, rfl, h⟩
theorem r_and {t u : TT} {Q : Bool → Hp → Prop} (h : t σ H fun c H1 => if c = true then u σ H1 Q else Q false H1) : tAnd t u σ H Q := h
theorem r_or {t u : TT} {Q : Bool → Hp → Prop} (h : t σ H fun c H1 => if c = true then Q true H1 else u σ H1 Q) : tOr t u σ H Q := h
theorem r_not {t : TT} {Q : Bool → Hp → Prop} (h : t σ H fun c H1 => Q (!c) H1) : tNot t σ H Q := h
theorem r_andV {ta tb : TE} (h : ta σ H fun x H1 => ∃ c, x = .bl c ∧ if c = true then tb σ H1 Q else Q (.bl false) H1) : tAndV ta tb σ H Q := h
theorem r_orV {ta tb : TE} (h : ta σ H fun x H1 => ∃ c, x = .bl c ∧ if c = true then Q (.bl true) H1 else tb σ H1 Q) : tOrV ta tb σ H Q := h
theorem r_notV {ta : TE} (h : ta σ H fun x H1 => ∃ c, x = .bl c ∧ Q (.bl (!c)) H1) : tNotV ta σ H Q := h
theorem r_ifx {t : TT} {ta tb : TE} (h : t σ H fun c H1 => if c = true then ta σ H1 Q else tb σ H1 Q) : tIf t ta tb σ H Q := h
theorem r_chain {r r' : R2} {ta tb tc : TE} (h : ta σ H fun x H1 => tb σ H1 fun y H2 => r x y H2 fun z H3 => ∃ k, z = .bl k ∧ (if k = true then tc σ H3 fun w' H4 => r' y w' H4 Q else Q (.bl false) H3)) : tChain r r' ta tb tc σ H Q := h
theorem r_nil {Q : List V → Hp → Prop} (h : Q [] H) : tNil σ H Q := h
theorem r_cons {ta : TE} {tr : TA} {Q : List V → Hp → Prop} (h : ta σ H fun x H1 => tr σ H1 fun xs H2 => Q (x :: xs) H2) : tCons ta tr σ H Q := h
theorem r_tup {t : TA} (h : t σ H fun xs H1 => xs.length ≤ sizeLine ∧ ∀ p, H1 p = none → Q (.ref p) (upd H1 p (.tup xs))) : tTup t σ H Q := h
theorem r_lst {t : TA} (h : t σ H fun xs H1 => xs.length ≤ sizeLine ∧ ∀ p, H1 p = none → Q (.ref p) (upd H1 p (.lst xs))) : tLst t σ H Q := h
theorem r_call {sp : Sp} {dvs : List V} {t : TA} (h : t σ H fun vs H1 => sp (vs ++ dvs) H1 Q E) : tCall sp dvs E t σ H Q := h
theorem r_cb {r : List V → Hp → VK → Prop} {t : TA} (h : t σ H fun vs H1 => r vs H1 Q) : tCB r t σ H Q := h
theorem r_sl {r : V → Option Int → Option Int → Hp → VK → Prop} {te : TE} {tl th : TO} (h : te σ H fun x H1 => tl σ H1 fun l H2 => th σ H2 fun u H3 => r x l u H3 Q) : tSl r te tl th σ H Q := h
theorem r_nopart {Q : Option Int → Hp → Prop} (h : Q none H) : tNoPart σ H Q := h
theorem r_part {t : TE} {Q : Option Int → Hp → Prop} (h : t σ H fun x H1 => ∃ i, x = .int i ∧ Q (some i) H1) : tPart t σ H Q := h
theorem r_exint {k : Int} {q : Int → Prop} (h : q k) : ∃ i, V.int k = V.int i ∧ q i := ⟨k, rfl, h⟩
theorem r_bm0 {T : String} {r : V → List V → Hp → VK → Prop} {to : TE} (h : to σ H fun x H1 => tyV K T x H1 ∧ r x [] H1 Q) : tBM0 K T r to σ H Q := h
theorem r_bm {T : String} {r : V → List V → Hp → VK → Prop} {to : TE} {t : TA} (h : to σ H fun x H1 => tyV K T x H1 ∧ t σ H1 fun xs H2 => r x xs H2 Q) : tBM K T r to t σ H Q := h
/-! values -/
theorem r_rI0 {g : Int → Int → V} {i j : Int} (h : Q (g i j) H) : rI0 g (.int i) (.int j) H Q := ⟨i, j, rfl, rfl, h⟩
theorem r_rI {C : Int → Int → Prop} {g : Int → Int → V} {i j : Int} (c : C i j) (h : Q (g i j) H) : rI C g (.int i) (.int j) H Q := ⟨i, j, rfl, rfl, c, h⟩
theorem r_rU {g : Int → V} {i : Int} (h : Q (g i) H) : rU g (.int i) H Q := ⟨i, rfl, h⟩
theorem r_rEq {x y : V} (s : scal x y = true) (h : Q (.bl (decide (x = y))) H) : rEq x y H Q := ⟨s, h⟩
theorem r_rNe {x y : V} (s : scal x y = true) (h : Q (.bl (!decide (x = y))) H) : rNe x y H Q := ⟨s, h⟩
theorem r_ixL {p : Addr} {xs : List V} {i : Int} {v : V} (h : SqL K H p xs) (a : atI xs i = some v) (q : Q v H) : rIxL K (.ref p) (.int i) H Q := ⟨p, xs, i, v, rfl, rfl, h, a, q⟩
theorem r_ixLh {p : Addr} {xs : List V} {i : Int} {v : V} (h : H p = some (.lst xs)) (a : atI xs i = some v) (q : Q v H) : rIxL K (.ref p) (.int i) H Q := ⟨p, xs, i, v, rfl, rfl, .inl (.inl h), a, q⟩
theorem r_ixTh {p : Addr} {xs : List V} {i : Int} {v : V} (h : H p = some (.tup xs)) (a : atI xs i = some v) (q : Q v H) : rIxT K (.ref p) (.int i) H Q := ⟨p, xs, i, v, rfl, rfl, .inl (.inl h), a, q⟩
theorem r_setL {p : Addr} {xs : List V} {k : Int} {j : Nat} {v : V} {Q : Hp → Prop} (h : H p = some (.lst xs)) (e : ixN xs.length k = some j) (q : Q (upd H p (.lst (xs.set j v)))) : rSetL (.ref p) (.int k) v H Q := ⟨p, xs, k, j, rfl, rfl, h, e, q⟩
theorem r_new {xs : List V} {q : Addr → Prop} (e : Nat.ble xs.length 1000 = true) (h : ∀ p, H p = none → q p) : xs.length ≤ sizeLine ∧ ∀ p, H p = none → q p := ⟨Nat.le_of_lt (small1000 (Nat.le_of_ble_eq_true e)), h⟩
theorem r_wipe {a b c d} {A : Prop} (e : wipe a b = wipe c d) (h : A) : wipe a b = wipe c d ∧ A := ⟨e, h⟩
theorem r_tyL {l : Addr} {xs : List V} {A : Prop} (e : H l = some (.lst xs)) (h : A) : tyV K "list" (.ref l) H ∧ A := ⟨.inl ⟨rfl, xs, .inl (.inl e)⟩, h⟩
theorem r_powx {i j v : Int} (e : (Nat.ble j.natAbs 1000000 && decide (0 ≤ j) && decide (i.natAbs < 2 ^ 64)) = true) (e2 : i ^ j.toNat = v) (q : Q (.int v) H) : rI CPow (fun i j => .int (i ^ j.toNat)) (.int i) (.int j) H Q := by
  subst e2
  simp only [Bool.and_eq_true, decide_eq_true_eq] at e
  exact ⟨i, j, rfl, rfl, ⟨e.1.2, by have := Nat.le_of_ble_eq_true e.1.1; omega, e.2⟩, q⟩
theorem r_app0 {l : Addr} {xs : List V} {y : V} (h : H l = some (.lst xs)) (z : xs.length < 1000000) (q : Q .non (upd H l (.lst (xs ++ [y])))) : rAppend (.ref l) [y] H Q :=
  ⟨l, xs, y, rfl, rfl, h, by rw [sizeLine_eq]; omega, q⟩
/-! tests -/
theorem r_ite {p A B : Prop} [Decidable p] (h1 : p → A) (h2 : ¬ p → B) : if decide p = true then A else B := by
  by_cases h : p
  · rw [if_pos (decide_eq_true h)]; exact h1 h
  · rw [if_neg (by simp [h])]; exact h2 h
theorem r_itn {p A B : Prop} [Decidable p] (h1 : ¬ p → A) (h2 : p → B) : if (!decide p) = true then A else B := by
  by_cases h : p
  · rw [if_neg (by simp [h])]; exact h2 h
  · rw [if_pos (by simp [h])]; exact h1 h
theorem r_itb {b : Bool} {A B : Prop} (h1 : b = true → A) (h2 : b = false → B) : if b = true then A else B := by
  cases b
  · rw [if_neg Bool.false_ne_true]; exact h2 rfl
  · rw [if_pos rfl]; exact h1 rfl
end

/-! letters -/
section
variable {σ : St} {H : Hp} {Q : VK} {K : PySem.W.Frag}
/-- % hands on a letter -/
theorem r_mod {i j : Int} (h : 0 < j) (q : ∀ r : Int, 0 ≤ r → r < j → Q (.int r) H) : rI (fun _ j => 0 < j) (fun i j => .int (i % j)) (.int i) (.int j) H Q :=
  ⟨i, j, rfl, rfl, h, q _ (Int.emod_nonneg _ (by omega)) (Int.emod_lt_of_pos _ h)⟩
theorem r_modx {i j : Int} (h : 0 < j) (q : Q (.int (i % j)) H) : rI (fun _ j => 0 < j) (fun i j => .int (i % j)) (.int i) (.int j) H Q := ⟨i, j, rfl, rfl, h, q⟩
/-- // by a positive divisor hands on a letter -/
theorem r_div {i j : Int} (h0 : 0 ≤ i) (h : 0 < j) (h1 : j < 1073741824) (q : ∀ r : Int, 0 ≤ r → r ≤ i → Q (.int r) H) : rI CDiv (fun i j => .int (i / j)) (.int i) (.int j) H Q :=
  ⟨i, j, rfl, rfl, ⟨h, h1⟩, q _ (Int.ediv_nonneg h0 (by omega)) (Int.ediv_le_self _ h0)⟩
theorem r_mul {i j : Int} (c : (-(2 ^ 64) < i ∧ i < 2 ^ 64) ∨ (-(2 ^ 64) < j ∧ j < 2 ^ 64)) (q : Q (.int (i * j)) H) : rI CMul (fun i j => .int (i * j)) (.int i) (.int j) H Q := ⟨i, j, rfl, rfl, c, q⟩
theorem r_pow {i j : Int} (h0 : 0 ≤ j) (h1 : j ≤ 1000000) (c : i.natAbs < 2 ^ 64) (q : Q (.int (i ^ j.toNat)) H) : rI CPow (fun i j => .int (i ^ j.toNat)) (.int i) (.int j) H Q := ⟨i, j, rfl, rfl, ⟨h0, h1, c⟩, q⟩
theorem atI_int {xs : List V} {i : Int} (h0 : 0 ≤ i) (h1 : i < xs.length) : ∃ v, atI xs i = some v ∧ v ∈ xs := by
  obtain ⟨k, rfl⟩ : ∃ k : Nat, i = (k : Int) := ⟨i.toNat, by omega⟩
  have hk : k < xs.length := by omega
  exact ⟨xs[k], atI_nat (List.getElem?_eq_getElem hk), List.getElem_mem hk⟩
theorem r_pickL {p : Addr} {xs : List V} {i : Int} (h : H p = some (.lst xs)) (h0 : 0 ≤ i) (h1 : i < xs.length) (q : ∀ v ∈ xs, Q v H) : rIxL K (.ref p) (.int i) H Q := by
  obtain ⟨v, e, m⟩ := atI_int h0 h1
  exact r_ixLh h e (q v m)
end
/-- what was tracked stands as it stood, but at S -/
def Kp (S : List Addr) (H H' : Hp) : Prop := ∀ a o, a ∉ S → H a = some o → H' a = some o
theorem Kp.refl {S : List Addr} {H : Hp} : Kp S H H := fun _ _ _ h => h
theorem Kp.trans {S : List Addr} {H H1 H2 : Hp} (a : Kp S H H1) (b : Kp S H1 H2) : Kp S H H2 := fun c o n h => b c o n (a c o n h)
theorem Kp.put {H : Hp} {b : Addr} {o : HO} : Kp [b] H (upd H b o) := fun a u n h => by
  rw [upd_ne (by simpa using n)]
  exact h
theorem Kp.new {S : List Addr} {H : Hp} {b : Addr} {o : HO} (n : H b = none) : Kp S H (upd H b o) := fun a u _ h => by
  rw [upd_ne (ne_of_none h n)]
  exact h
theorem Kp.mono {S T : List Addr} {H H' : Hp} (k : Kp S H H') (h : ∀ a ∈ S, a ∈ T) : Kp T H H' := fun a o n e => k a o (fun z => n (h a z)) e
theorem Kp.at1 {b a : Addr} {H H' : Hp} {o : HO} (k : Kp [b] H H') (n : a ≠ b) (e : H a = some o) : H' a = some o := k a o (by simpa using n) e
theorem Kp.at0 {a : Addr} {H H' : Hp} {o : HO} (k : Kp [] H H') (e : H a = some o) : H' a = some o := k a o (by simp) e
end L2.Rx

end
section
set_option Elab.async false
set_option linter.all false
set_option maxRecDepth 100000
set_option maxHeartbeats 4000000
local macro_rules | `(tactic| walk_at "rd1") => `(tactic| with_reducible first
  | refine L2.Rx.r_seq ?_ | refine L2.Rx.r_asg ?_ | refine L2.Rx.r_gname ?_ | refine L2.Rx.r_op ?_ | refine L2.Rx.r_c ?_
  | refine L2.Rx.r_var rfl ?_
  | refine L2.Rx.r_rI0 ?_ | refine L2.Rx.r_test ?_ | refine L2.Rx.r_bl ?_ | refine L2.Rx.r_if ?_ | refine L2.Rx.r_ret ?_
  | refine L2.Rx.r_cons ?_ | refine L2.Rx.r_nil ?_ | refine L2.Rx.r_call ?_ | refine L2.Rx.r_cb ?_ | refine L2.Rx.r_next ?_ | refine L2.Rx.r_drop ?_
  | refine L2.Rx.r_gsub ?_ | refine L2.Rx.r_tupF ?_ | refine L2.Rx.r_lst ?_ | refine L2.Rx.r_par ?_ | refine L2.Rx.r_par2 ?_
  | refine L2.Rx.r_un ?_ | refine L2.Rx.r_tb ?_ | refine L2.Rx.r_and ?_ | refine L2.Rx.r_or ?_ | refine L2.Rx.r_not ?_
  | refine L2.Rx.r_andV ?_ | refine L2.Rx.r_orV ?_ | refine L2.Rx.r_notV ?_ | refine L2.Rx.r_ifx ?_ | refine L2.Rx.r_chain ?_
  | refine L2.Rx.r_sl ?_ | refine L2.Rx.r_nopart ?_ | refine L2.Rx.r_part ?_ | refine L2.Rx.r_exint ?_ | refine L2.Rx.r_bm0 ?_ | refine L2.Rx.r_bm ?_
  | refine L2.Rx.r_lc ?_ | refine L2.Rx.r_rng1 ?_ | refine L2.Rx.r_yes ?_ | refine L2.Rx.r_tt ?_ | refine L2.Rx.r_ff ?_ | refine L2.Rx.r_m1 ?_ | refine L2.Rx.r_m0 ?_ | refine L2.Rx.r_isS ?_
  | (refine L2.Rx.r_wipe (by with_unfolding_all rfl) ?_) | (refine L2.Rx.r_tyL (by walk_at "hp") ?_)
  | refine L2.Rx.r_addS (by walk_at "len") ?_ | refine L2.Rx.r_lenS (by walk_at "len") ?_ | refine L2.Rx.r_slS (by walk_at "len") ?_
  | refine L2.Rx.r_dnotin ?_ | refine L2.Rx.r_dget ?_ | refine L2.Rx.r_dget1 ?_ | refine L2.Rx.r_dput ?_ | refine L2.Rx.r_dpop1 ?_ | refine L2.Rx.r_isN ?_
  | refine L2.Rx.r_for ?_ | refine L2.Rx.r_ilist ?_ | refine L2.Rx.r_itup ?_
  | refine L2.Rx.r_gcons ?_ | refine L2.Rx.r_gnil ?_ | (refine L2.Rx.r_gtupP (by assumption) (by walk_at "at") ?_)
  | (refine L2.Rx.r_rEq rfl ?_) | (refine L2.Rx.r_rNe rfl ?_)
  | refine L2.Rx.r_rU ?_ | refine L2.Rx.r_max2 ?_ | refine L2.Rx.r_min2 ?_ | refine L2.Rx.r_int1i ?_ | (refine L2.Rx.r_lenh (by walk_at "hp") ?_)
  | (refine L2.Rx.r_ixLh (by walk_at "hp") (by walk_at "at") ?_)
  | (refine L2.Rx.r_setL (by walk_at "hp") (by walk_at "at") ?_))
local macro_rules | `(tactic| walk_at "at") => `(tactic| with_unfolding_all rfl)
local macro_rules | `(tactic| walk_at "rd") => `(tactic| (repeat walk_at "rd1"))
local macro_rules | `(tactic| walk_at "hp") => `(tactic| first
  | assumption
  | exact L2.upd_same
  | (refine Eq.trans (L2.upd_ne ?_) ?_; (focus walk_at "ne"); (focus walk_at "hp"))
  | (refine L2.Rx.Kp.at0 (by assumption) ?_; walk_at "hp")
  | (refine L2.Rx.Kp.at1 (by assumption) ?_ ?_; (focus walk_at "ne"); (focus walk_at "hp")))
local macro_rules | `(tactic| walk_at "ne") => `(tactic| first
  | assumption | exact Ne.symm (by assumption)
  | (refine L2.ne_of_none (H := ?nH) (o := ?nO) ?nh ?nn; (case nn => assumption); (case nh => walk_at "hp"))
  | (refine Ne.symm (L2.ne_of_none (H := ?nH) (o := ?nO) ?nh ?nn); (case nn => assumption); (case nh => walk_at "hp")))
local macro_rules | `(tactic| walk_at "len") => `(tactic| (rw [PySem.sizeLine_eq]; omega))
local macro_rules | `(tactic| walk_at "nin") => `(tactic| first
  | exact List.not_mem_nil
  | (refine L2.Rx.nin1 ?_; walk_at "ne"))
local macro_rules | `(tactic| walk_at "none") => `(tactic| first
  | assumption
  | (refine L2.Rx.Kp.none0 (by assumption) ?_ ?_; (focus walk_at "nin"); (focus walk_at "none")))
namespace L2.Rx
open PySem PySem.Spec PyProof.Rows
/-! ### defs called where no repr is under way -/
structure RoomG (k : Nat) (A : Around) : Prop where
  up : Room k A
  gd : A.guards = some []
theorem RoomG.mono {j k : Nat} {A : Around} (r : RoomG k A) (h : j ≤ k) : RoomG j A := ⟨r.up.mono h, r.gd⟩
theorem RoomG.units {k : Nat} {A : Around} (r : RoomG k A) : A.units + 64 < cLine := r.up.units
theorem RoomG.hu {k : Nat} {A : Around} (r : RoomG k A) : A.units + 1 < cLine := hu_of r.up
/-- FnOk, asked where no repr is under way -/
structure FnG (P : Program) (w : World) (K : PySem.W.Frag) (mg : Str → Option Value) (base : Heap) (CX : CXT) (k : Nat) (f : Addr) (fd : FuncData) (ps : List Str) (sp : Sp) : Prop where
  len : ∀ vs H Q E, sp vs H Q E → vs.length = ps.length
  run : ∀ (A : Around) (outer : List Env) (s : Shared) (H : Hp) (args : Args) (us : List Value) (vs : List V) (Q : VK) (E : XK), RoomG k A → Env0 P w K mg base A outer s H →
    BindsTo s fd args (ps.zip us) → Vals vs us → sp vs H Q E → codeAny (model P w) A (.call (.ref f) args) (CR CX outer P w H s Q E) s
section
variable {P : Program} {w : World} {K : PySem.W.Frag} {mg : Str → Option Value} {base : Heap} {CX : CXT}
theorem fnG_body {x qual : Str} {st : Stmt} {f : Addr} {fd : FuncData} {N ps : List Str} {k : Nat} {sp : Sp} (F : Fun K x qual st f fd) (S : FnScope N ps (defScope st)) (len : ∀ vs H Q E, sp vs H Q E → vs.length = ps.length)
    (bd : ∀ (cdv : Value) (A : Around) (outer : List Env) (s : Shared) (H : Hp) (vs : List V) (Q : VK) (E : XK), RoomG k (A.deeper (envOfC qual (defScope st) s.heap.objs.size f cdv)) → sp vs H Q E →
      ∃ t, PSs (cxOf CX P w K mg base N qual (defScope st) f cdv A outer s H E) (defBody st) t ∧ t ⟨fun _ H' => Q .non H', Q, fun _ _ => False, fun _ _ => False⟩ (start N vs) H) : FnG P w K mg base CX (k + 1) f fd ps sp := by
  obtain ⟨oc, od, kV, doc, pm, an, cdv, ct, osl, rfl, lk, hcd⟩ := F.ex
  constructor
  · exact len
  intro A outer s H args us vs Q E room env bind rel want
  have kept : ∀ b o, base.get? b = some o → s.heap.get? b = some o := fun b o e => (env.bs b o e).1
  have KX : K.In s.heap := env.mod.kin.keeps kept
  have places : ∀ y ∈ ps.zip us, (defScope st).names.lookup y.1 = some .local ∨ ((defScope st).names.lookup y.1 = some .cell ∧ ((cellsFrom (s.heap.objs.size + 1) (defScope st).names []).lookup y.1).isSome = true) := by
    intro y hy
    cases S.par y.1 (List.of_mem_zip (show (y.1, y.2) ∈ ps.zip us from hy)).1 with
    | inl q => exact .inl q
    | inr q => exact .inr ⟨q, PySem.W.cellsFrom_some _ _ _ (.inl q)⟩
  refine codeAny_call_function (fd := PySem.W.fnOf x qual (defArgs st) (defBody st) (defScope st) .none kV doc pm an cdv ct) room.up.depth (KX _ _ lk) rfl S.co S.gen rfl (PySem.W.codeRec_of KX hcd) (bind _ _ _ _ ?_)
  refine wpAny_newFunctionEnv_cells S.kind places fun e he s1 entered => ?_
  cases he
  have lim : s.heap.NoLimit := env.mod.nolimit.keeps kept
  refine ⟨lim.keeps entered.toInCall.keep, codeAny_func ?_⟩
  obtain ⟨t, der, rd⟩ := bd cdv A outer s H vs Q E ⟨room.up.deeper _, room.gd⟩ want
  have I0 := inv_start (CX := CX) (qual := qual) (E := E) S room.up.hd env (len _ _ _ _ want) rel entered
  refine wpAny_mono (der.run [] s1 (start N vs) H _ I0 rd) ?_ (fun _ _ z => z)
  intro fl s' out
  cases fl with
  | ret u => obtain ⟨v, σ', H', J, rv, q⟩ := out; exact ⟨v, H', J.os, J.bare, J.base, J.hok, rv, q⟩
  | next => obtain ⟨σ', H', J, q⟩ := out; exact ⟨.non, H', J.os, J.bare, J.base, J.hok, rfl, q⟩
  | brk => obtain ⟨_, _, _, q⟩ := out; exact q.elim
  | cont => obtain ⟨_, _, _, q⟩ := out; exact q.elim
end
section
variable {X : Cx} {CX : CXT} {k : Nat} {f : Addr} {fd : FuncData} {ps ks : List Str} {sp : Sp} {E : XK} {x : Str} {p pos : Pos} {e : Expr} {es : List Expr} {kws : List Keyword} {t tk : TA}
theorem callG {pins : List (Addr × Obj)} {σ : St} {H : Hp} {s : Shared} {Q : VK} {args : Args} {us : List Value} {vs : List V} (F : FnG X.prog X.w X.K X.mg X.base CX k f fd ps sp) (hr : RoomG k X.A) (hx : Passes CX X E)
    (I : Inv X pins σ H s) (hb : us.length = ps.length → BindsTo s fd args (ps.zip us)) (r : Vals vs us) (h : sp vs H Q E) : wpAny (model X.prog X.w) X.A (call (.ref f) args.pos args.kw) (EP X pins σ Q) X.xe s := by
  have hl : us.length = ps.length := r.length.symm.trans (F.len _ _ _ _ h)
  refine wpAny_call (codeAny_mono (F.run X.A X.stack s H args us vs Q E hr I.env0 (hb hl) r h) ?_)
  intro res s' out
  cases res with
  | error err => exact hx pins σ H s err s' I out
  | ok fl =>
    cases fl with
    | ret u => exact I.after out
    | _ => exact False.elim out
end
/-- a def of the module that may be called by its name -/
structure Kn (P : Program) (w : World) (K : PySem.W.Frag) (mg : Str → Option Value) (base : Heap) (CX : CXT) (k : Nat) (x : Str) (sp : Sp) : Prop where
  ex : ∃ (f : Addr) (fd : FuncData) (ps : List Str), FnG P w K mg base CX k f fd ps sp ∧ mg x = some (.ref f) ∧ PySem.W.keepIn K (.ref f) = true ∧ Binds K fd ps []
/-- .. with all its arguments by name, in the order ks; g: the parameters' order -/
structure KnK (P : Program) (w : World) (K : PySem.W.Frag) (mg : Str → Option Value) (base : Heap) (CX : CXT) (k : Nat) (x : Str) (ks : List Str) (g : List V → List V) (sp : Sp) : Prop where
  ex : ∃ (f : Addr) (fd : FuncData) (ps : List Str) (gv : List Value → List Value), FnG P w K mg base CX k f fd ps sp ∧ mg x = some (.ref f) ∧ PySem.W.keepIn K (.ref f) = true ∧
    (∀ (s : Shared) (ws : List Value), K.In s.heap → (gv ws).length = ps.length → BindsTo s fd ⟨[], ks.zip ws⟩ (ps.zip (gv ws))) ∧ ∀ (zs : List V) (ws : List Value), Vals zs ws → Vals (g zs) (gv ws)
def tKw (g : List V → List V) (sp : Sp) (E : XK) (t : TA) : TE := fun σ H Q => t σ H fun vs H1 => sp (g vs) H1 Q E
theorem r_kw {g : List V → List V} {sp : Sp} {E : XK} {t : TA} {σ : St} {H : Hp} {Q : VK} (h : t σ H fun vs H1 => sp (g vs) H1 Q E) : tKw g sp E t σ H Q := h
section
variable {X : Cx} {CX : CXT} {k j : Nat} {sp : Sp} {E : XK} {x : Str} {p pos : Pos} {e : Expr} {es : List Expr} {t : TA}
theorem Kn.callX (c : Kn X.prog X.w X.K X.mg X.base CX k x sp) (hr : RoomG j X.A) (hk : k ≤ j) (hx : Passes CX X E) (hg : Gl X x) (ha : PA X (e :: es) t)
    (hdb : (x == ("__debug__" : Str)) = false := by decide) (he : starEach (e :: es) X.env = (false, eval e X.env) :: starEach es X.env := by rfl) (hpl : (backTo pos (starEach es X.env)).any (·.1) = false := by rfl) :
    PE X (.Call (.Name x p) (e :: es) [] pos) (tCall sp [] E t) := by
  obtain ⟨f, fd, ps, F, hm, kp, b⟩ := c.ex
  constructor
  intro pins s σ H Q I h
  refine wpAny_Call_Name_kw (ld_glob I hg hm ?_ hdb)
  refine PySem.W.callWith_K (h₀ := X.base) I.ok.mod.kin kp (thn (ha.run pos pins s σ H _ I h) ?_) he hpl
  rintro us s1 ⟨vs, H1, I1, r, q⟩
  refine ⟨I1.kIn, callG (args := ⟨us, []⟩) (us := us) F (hr.mono hk) hx I1 (fun hl => ?_) r (by rw [List.append_nil] at q; exact q)⟩
  have := b s1 us I1.kIn (by rw [List.append_nil]; exact hl)
  rw [List.append_nil] at this
  exact this
end
section
variable {X : Cx} {k j : Nat} {sp : Sp} {x : Str} {p pos : Pos} {e : Expr} {es : List Expr} {t : TA}
theorem Kn.call (c : Kn X.prog X.w X.K X.mg X.base CX0 k x sp) (hr : RoomG j X.A) (hk : k ≤ j) (hg : Gl X x) (ha : PA X (e :: es) t)
    (hdb : (x == ("__debug__" : Str)) = false := by decide) (he : starEach (e :: es) X.env = (false, eval e X.env) :: starEach es X.env := by rfl) (hpl : (backTo pos (starEach es X.env)).any (·.1) = false := by rfl) :
    PE X (.Call (.Name x p) (e :: es) [] pos) (tCall sp [] E0 t) := c.callX hr hk pass0 hg ha hdb he hpl
theorem Kn.mono {P : Program} {w : World} {K : PySem.W.Frag} {mg : Str → Option Value} {base : Heap} {CX : CXT} (c : Kn P w K mg base CX k x sp) (h : k ≤ j) : Kn P w K mg base CX j x sp := by
  obtain ⟨f, fd, ps, F, r⟩ := c.ex
  exact ⟨f, fd, ps, ⟨F.len, fun A outer s H args us vs Q E hr => F.run A outer s H args us vs Q E (hr.mono h)⟩, r⟩
end
/-! ### repr of data -/
def rRepr (K : PySem.W.Frag) : List V → Hp → VK → Prop := fun xs H Q => ∃ (v : V) (d : PyData), xs = [v] ∧ Dp K H v d ∧ d.showable = true ∧ d.depth ≤ 60 ∧ d.shown.length ≤ sizeLine ∧ Q (.str d.shown) H
theorem Dp.noDict {K : PySem.W.Frag} {H : Hp} : ∀ (d : PyData) (v : V), Dp K H v d → d.hasDict = false := by
  intro d v h
  exact Dp.rec (motive_1 := fun _ d _ => d.hasDict = false) (motive_2 := fun _ ds _ => PyData.hasDictAll ds = false) (by simp [PyData.hasDict]) (fun _ => by simp [PyData.hasDict]) (fun _ => by simp [PyData.hasDict]) (fun _ => by simp [PyData.hasDict])
    (fun _ _ ih => by simpa [PyData.hasDict] using ih) (fun _ _ ih => by simpa [PyData.hasDict] using ih) (by simp [PyData.hasDictAll]) (fun _ _ i1 i2 => by simp [PyData.hasDictAll, i1, i2]) h
theorem call_repr {X : Cx} {k : Nat} (hr : RoomG k X.A) : CallR X (.builtin "repr") (rRepr X.K) := by
  intro pins s σ H xs us Q I r h
  obtain ⟨v, d, rfl, hd, hs, hdp, hz, q⟩ := h
  obtain ⟨u, rfl, ru⟩ := vals1 r
  obtain ⟨as, rd⟩ := Dp.reads I d v u hd ru
  have nd := Dp.noDict d v hd
  have hu : X.A.units + (d.depth + 1) < cLine := by have := hr.units; omega
  have fin : ∀ h' t tk, (∀ b o, s.heap.get? b = some o → h'.get? b = some o) → EP X pins σ Q (.str d.shown t) { s with heap := h', toks := tk } := fun h' t tk hk =>
    ⟨.str d.shown, H, I.kept hk, ⟨t, rfl⟩, q⟩
  cases hd with
  | lst _ _ => cases ru; exact repr_of_reads' rd hs (PyData.noDict_hsm nd) hr.gd hu (fun _ _ e => e) fin hz
  | tup _ _ => cases ru; exact repr_of_reads' rd hs (PyData.noDict_hsm nd) hr.gd hu (fun _ _ e => e) fin hz
  | non => cases ru; exact PySem.P.repr_of_none ⟨.str _, H, I.tok _, ⟨_, rfl⟩, by simpa [PyData.shown] using q⟩
  | bl b => cases ru; exact PySem.P.repr_of_bool ⟨.str _, H, I.tok _, ⟨_, rfl⟩, by simpa [PyData.shown] using q⟩
  | int i => obtain ⟨t, rfl⟩ := ru; exact PySem.P.repr_of_int (by simpa [PyData.showable] using hs) ⟨.str _, H, I.tok _, ⟨_, rfl⟩, by simpa [PyData.shown] using q⟩
  | str y => obtain ⟨t, rfl⟩ := ru; exact PySem.P.repr_of_str ⟨.str _, H, I.tok _, ⟨_, rfl⟩, by simpa [PyData.shown] using q⟩ (by simpa [PyData.shown] using hz)
end L2.Rx

end
section
set_option Elab.async false
set_option linter.all false
set_option maxRecDepth 100000
set_option maxHeartbeats 4000000
local macro_rules | `(tactic| walk_at "rd1") => `(tactic| with_reducible first
  | refine L2.Rx.r_seq ?_ | refine L2.Rx.r_asg ?_ | refine L2.Rx.r_gname ?_ | refine L2.Rx.r_op ?_ | refine L2.Rx.r_c ?_
  | refine L2.Rx.r_var rfl ?_
  | refine L2.Rx.r_rI0 ?_ | refine L2.Rx.r_test ?_ | refine L2.Rx.r_bl ?_ | refine L2.Rx.r_if ?_ | refine L2.Rx.r_ret ?_
  | refine L2.Rx.r_cons ?_ | refine L2.Rx.r_nil ?_ | refine L2.Rx.r_call ?_ | refine L2.Rx.r_cb ?_ | refine L2.Rx.r_next ?_ | refine L2.Rx.r_drop ?_
  | refine L2.Rx.r_gsub ?_ | refine L2.Rx.r_tupF ?_ | refine L2.Rx.r_lst ?_ | refine L2.Rx.r_par ?_ | refine L2.Rx.r_par2 ?_
  | refine L2.Rx.r_un ?_ | refine L2.Rx.r_tb ?_ | refine L2.Rx.r_and ?_ | refine L2.Rx.r_or ?_ | refine L2.Rx.r_not ?_
  | refine L2.Rx.r_andV ?_ | refine L2.Rx.r_orV ?_ | refine L2.Rx.r_notV ?_ | refine L2.Rx.r_ifx ?_ | refine L2.Rx.r_chain ?_
  | refine L2.Rx.r_sl ?_ | refine L2.Rx.r_nopart ?_ | refine L2.Rx.r_part ?_ | refine L2.Rx.r_exint ?_ | refine L2.Rx.r_bm0 ?_ | refine L2.Rx.r_bm ?_
  | refine L2.Rx.r_lc ?_ | refine L2.Rx.r_rng1 ?_ | refine L2.Rx.r_yes ?_ | refine L2.Rx.r_tt ?_ | refine L2.Rx.r_ff ?_ | refine L2.Rx.r_m1 ?_ | refine L2.Rx.r_m0 ?_ | refine L2.Rx.r_isS ?_
  | (refine L2.Rx.r_wipe (by with_unfolding_all rfl) ?_) | (refine L2.Rx.r_tyL (by walk_at "hp") ?_)
  | refine L2.Rx.r_addS (by walk_at "len") ?_ | refine L2.Rx.r_lenS (by walk_at "len") ?_ | refine L2.Rx.r_slS (by walk_at "len") ?_
  | refine L2.Rx.r_dnotin ?_ | refine L2.Rx.r_dget ?_ | refine L2.Rx.r_dget1 ?_ | refine L2.Rx.r_dput ?_ | refine L2.Rx.r_dpop1 ?_ | refine L2.Rx.r_isN ?_
  | refine L2.Rx.r_for ?_ | refine L2.Rx.r_ilist ?_ | refine L2.Rx.r_itup ?_
  | refine L2.Rx.r_gcons ?_ | refine L2.Rx.r_gnil ?_ | (refine L2.Rx.r_gtupP (by assumption) (by walk_at "at") ?_)
  | (refine L2.Rx.r_rEq rfl ?_) | (refine L2.Rx.r_rNe rfl ?_)
  | refine L2.Rx.r_rU ?_ | refine L2.Rx.r_max2 ?_ | refine L2.Rx.r_min2 ?_ | refine L2.Rx.r_int1i ?_ | (refine L2.Rx.r_lenh (by walk_at "hp") ?_)
  | (refine L2.Rx.r_ixLh (by walk_at "hp") (by walk_at "at") ?_)
  | (refine L2.Rx.r_setL (by walk_at "hp") (by walk_at "at") ?_))
local macro_rules | `(tactic| walk_at "at") => `(tactic| with_unfolding_all rfl)
local macro_rules | `(tactic| walk_at "rd") => `(tactic| (repeat walk_at "rd1"))
local macro_rules | `(tactic| walk_at "hp") => `(tactic| first
  | assumption
  | exact L2.upd_same
  | (refine Eq.trans (L2.upd_ne ?_) ?_; (focus walk_at "ne"); (focus walk_at "hp"))
  | (refine L2.Rx.Kp.at0 (by assumption) ?_; walk_at "hp")
  | (refine L2.Rx.Kp.at1 (by assumption) ?_ ?_; (focus walk_at "ne"); (focus walk_at "hp")))
local macro_rules | `(tactic| walk_at "ne") => `(tactic| first
  | assumption | exact Ne.symm (by assumption)
  | (refine L2.ne_of_none (H := ?nH) (o := ?nO) ?nh ?nn; (case nn => assumption); (case nh => walk_at "hp"))
  | (refine Ne.symm (L2.ne_of_none (H := ?nH) (o := ?nO) ?nh ?nn); (case nn => assumption); (case nh => walk_at "hp")))
local macro_rules | `(tactic| walk_at "len") => `(tactic| (rw [PySem.sizeLine_eq]; omega))
local macro_rules | `(tactic| walk_at "nin") => `(tactic| first
  | exact List.not_mem_nil
  | (refine L2.Rx.nin1 ?_; walk_at "ne"))
local macro_rules | `(tactic| walk_at "none") => `(tactic| first
  | assumption
  | (refine L2.Rx.Kp.none0 (by assumption) ?_ ?_; (focus walk_at "nin"); (focus walk_at "none")))
namespace L2.Rx
open PySem PySem.Spec PyProof.Rows
/-! ### the law's call, where no repr is under way -/
theorem lawG {P : Program} {w : World} {K : PySem.W.Frag} {mg mb : Str → Option Value} {k : Nat} {fa a : Addr} {fd : FuncData} {x : Str} {sp : Sp} {st : Shared} {vs : List Value} {ns : List Int}
    (KX : K.In st.heap) (hns : st.heap.Ns mainGlobals mg) (hb : st.heap.Ns builtinsNs mb) (hbb : ∀ x : Str, x ≠ "__name__" → mb x = bootBuiltins x) (hlim : st.heap.NoLimit) (hg : st.gens = #[])
    (ha : st.heap.get? a = some { cls := .type "list", data := .seq vs.toArray }) (hi : IntsAre vs ns) (hl : ns.length ≤ sizeLine) (hr : Room k callerA)
    (F : ∀ base : Heap, K.In base → base.Ns mainGlobals mg → FnG P w K mg base CX0 k fa fd [x] sp) (hbind : ∀ (s : Shared) (u : Value), BindsTo s fd ⟨[u], []⟩ [(x, u)])
    (hsp : ∀ H : Hp, Only H → SqL K H a (ns.map V.int) → sp [.ref a] H (fun v _ => v = .bl true) E0) :
    codeAny (model P w) callerA (.call (.ref fa) ⟨[.ref a], []⟩) (fun r s' => r = .ok (.ret (.bool true)) ∧ OldK st.heap s'.heap ∧ s'.os = st.os ∧ AllBare s'.gens) st := by
  have rel := vals_ints hi
  -- the script's place, tracked or an object of the module
  have go : ∀ H : Hp, Only H → SqL K H a (ns.map V.int) → HOk P w H st.heap → (∀ b o, H b = some o → b = a ∧ K.lookup a = none) →
      codeAny (model P w) callerA (.call (.ref fa) ⟨[.ref a], []⟩) (fun r s' => r = .ok (.ret (.bool true)) ∧ OldK st.heap s'.heap ∧ s'.os = st.os ∧ AllBare s'.gens) st := by
    intro H only scr hok alone
    have keep : ∀ {b : Addr} {o : Obj}, st.heap.get? b = some o → (b = a → K.lookup a ≠ none ∨ o.data ≠ Data.seq vs.toArray) → (hidT st.heap H).get? b = some o := by
      intro b o e ne
      refine hidT_get e ?_
      cases q : H b with
      | none => rfl
      | some u =>
        obtain ⟨z, zk⟩ := alone b u q
        rcases ne z with n | n
        · exact absurd zk n
        · rw [z, ha] at e
          cases e
          exact absurd rfl n
    have nsk : ∀ {b : Addr} {m : Str → Option Value}, st.heap.Ns b m → (hidT st.heap H).Ns b m := by
      rintro b m ⟨o, es, ep, e, d, r⟩
      exact ⟨o, es, ep, keep e fun _ => .inr (by rw [d]; intro z; cases z), d, r⟩
    have kb : K.In (hidT st.heap H) := fun b o e => keep (KX b o e) fun z => .inl (by rw [← z, e]; simp)
    obtain ⟨mc, c1, c2⟩ := hlim
    have mod : Mod K mg (hidT st.heap H) := ⟨kb, nsk hns, ⟨mb, nsk hb, hbb⟩, mc, nsk c1, c2⟩
    have env : Env0 P w K mg (hidT st.heap H) callerA [] st H := ⟨rfl, mod, fun _ _ e => of_hidT e, Nat.le_of_eq (hidT_size _ _), trivial, fun b hb => absurd (show b ∈ ([] : List Addr) from hb) (by simp), hok, .of_eq hg⟩
    refine codeAny_mono ((F _ kb (nsk hns)).run callerA [] st H ⟨[.ref a], []⟩ [.ref a] [.ref a] _ _ ⟨hr, rfl⟩ env (hbind st (.ref a)) (.cons rfl .nil) (hsp H only scr)) ?_
    intro res s' out
    cases res with
    | error err => exact False.elim out
    | ok fl =>
      cases fl with
      | ret u =>
        obtain ⟨v, H', os, bare, un, hok', rv, rfl⟩ := out
        cases rv
        refine ⟨rfl, OldK.of_keep ?_, os, bare⟩
        intro b o e
        cases q : H b with
        | none => exact un.keep b o e q (fun z => absurd (show b ∈ ([] : List Addr) from z) (by simp)) (by simp)
        | some u =>
          rcases only b with z | ⟨ob, xs, z⟩
          · rw [q] at z
            cases z
          · have h1 := (hok b _ z).1
            have h2 := (hok' b _ (un.frzs b ob _ z)).1
            rw [e] at h1
            cases h1
            exact h2
      | _ => exact False.elim out
  cases hk : K.lookup a with
  | some o =>
    have e := KX a o hk
    rw [ha] at e
    cases e
    exact go (fun _ => none) (fun _ => .inl rfl) (.inr ⟨_, vs.toArray, _, hk, rfl, rfl, rfl, by rw [List.size_toArray, hi.length]; exact hl, by simpa using rel⟩) (fun b u z => nomatch (show (none : Option HO) = some u from z)) fun b u z => nomatch (show (none : Option HO) = some u from z)
  | none =>
    have only_a : ∀ b u, upd (fun _ => none) a (HO.frz { cls := .type "list", data := .seq vs.toArray } (.lst (ns.map V.int))) b = some u → b = a := by
      intro b u z
      by_cases hb : b = a
      · exact hb
      · rw [upd_ne hb] at z
        cases z
    refine go (upd (fun _ => none) a (HO.frz { cls := .type "list", data := .seq vs.toArray } (.lst (ns.map V.int)))) (fun b => ?_) (.inl (.inr ⟨_, upd_same⟩)) (fun b u z => ?_) (fun b u z => ⟨only_a b u z, hk⟩)
    · by_cases hb : b = a
      · rw [hb]
        exact .inr ⟨_, _, upd_same⟩
      · exact .inl (upd_ne hb)
    · have hb := only_a b u z
      subst hb
      rw [upd_same] at z
      cases z
      exact ⟨ha, by rw [List.length_map]; exact hl, vs, _, rel, ha⟩
/-- the goal that k_head leaves -/
theorem walkG {l : PySem.W.OpenLaw} {n k : Nat} {q : Program} {loose : List Str} {XP : (Str → Option Value) → Heap → Prop} {YP : World → Heap → Prop} {d : DefRec} {K : Params → PySem.W.Frag} {sp : PySem.W.Frag → Sp} {x : Str}
    (hn : l.most = some n) (hn2 : n ≤ sizeLine) (hdf : d.params.defaults = []) (hr : Room k callerA)
    (hY : ∀ (w : World) (h : Heap), YP w h → (K w.params).In h)
    (F : ∀ (w : World) (mg : Str → Option Value) (fa : Addr) (h : Heap), (K w.params).In h → h.Ns mainGlobals mg → mg d.name = some (.ref fa) →
      ∃ fd : FuncData, (∀ (s : Shared) (u : Value), BindsTo s fd ⟨[u], []⟩ [(x, u)]) ∧
        ∀ base : Heap, (K w.params).In base → base.Ns mainGlobals mg → FnG l.prog w (K w.params) mg base CX0 k fa fd [x] (sp (K w.params)))
    (hsp : ∀ (K : PySem.W.Frag) (H : Hp) (a : Addr) (ns : List Int), ns.length ≤ n → Only H → SqL K H a (ns.map V.int) → sp K [.ref a] H (fun v _ => v = .bl true) E0) :
    PySem.W.WalkO q loose XP YP l.row.toRowW d [] (fun f vs => PySem.call f vs) := by
  refine Att.attach_call hn hdf ?_
  intro w s₀ st mg mb fa o pm cd doc a vs ns G Y ho hd hcd hmg hobj hints hlen hg
  have KX := hY w _ Y
  obtain ⟨fd, bd, hF⟩ := F w mg fa _ KX G.T.g hmg
  exact lawG KX G.T.g G.T.b G.T.builtins G.T.nolimit hg hobj hints (Nat.le_trans hlen hn2) hr hF bd fun H only scr => hsp _ H a ns hlen only scr
end L2.Rx

end
section
set_option Elab.async false
set_option linter.all false
set_option maxRecDepth 100000
set_option maxHeartbeats 4000000
local macro_rules | `(tactic| walk_at "rd1") => `(tactic| with_reducible first
  | refine L2.Rx.r_seq ?_ | refine L2.Rx.r_asg ?_ | refine L2.Rx.r_gname ?_ | refine L2.Rx.r_op ?_ | refine L2.Rx.r_c ?_
  | refine L2.Rx.r_var rfl ?_
  | refine L2.Rx.r_rI0 ?_ | refine L2.Rx.r_test ?_ | refine L2.Rx.r_bl ?_ | refine L2.Rx.r_if ?_ | refine L2.Rx.r_ret ?_
  | refine L2.Rx.r_cons ?_ | refine L2.Rx.r_nil ?_ | refine L2.Rx.r_call ?_ | refine L2.Rx.r_cb ?_ | refine L2.Rx.r_next ?_ | refine L2.Rx.r_drop ?_
  | refine L2.Rx.r_gsub ?_ | refine L2.Rx.r_tupF ?_ | refine L2.Rx.r_lst ?_ | refine L2.Rx.r_par ?_ | refine L2.Rx.r_par2 ?_
  | refine L2.Rx.r_un ?_ | refine L2.Rx.r_tb ?_ | refine L2.Rx.r_and ?_ | refine L2.Rx.r_or ?_ | refine L2.Rx.r_not ?_
  | refine L2.Rx.r_andV ?_ | refine L2.Rx.r_orV ?_ | refine L2.Rx.r_notV ?_ | refine L2.Rx.r_ifx ?_ | refine L2.Rx.r_chain ?_
  | refine L2.Rx.r_sl ?_ | refine L2.Rx.r_nopart ?_ | refine L2.Rx.r_part ?_ | refine L2.Rx.r_exint ?_ | refine L2.Rx.r_bm0 ?_ | refine L2.Rx.r_bm ?_
  | refine L2.Rx.r_lc ?_ | refine L2.Rx.r_rng1 ?_ | refine L2.Rx.r_yes ?_ | refine L2.Rx.r_tt ?_ | refine L2.Rx.r_ff ?_ | refine L2.Rx.r_m1 ?_ | refine L2.Rx.r_m0 ?_ | refine L2.Rx.r_isS ?_
  | (refine L2.Rx.r_wipe (by with_unfolding_all rfl) ?_) | (refine L2.Rx.r_tyL (by walk_at "hp") ?_)
  | refine L2.Rx.r_addS (by walk_at "len") ?_ | refine L2.Rx.r_lenS (by walk_at "len") ?_ | refine L2.Rx.r_slS (by walk_at "len") ?_
  | refine L2.Rx.r_dnotin ?_ | refine L2.Rx.r_dget ?_ | refine L2.Rx.r_dget1 ?_ | refine L2.Rx.r_dput ?_ | refine L2.Rx.r_dpop1 ?_ | refine L2.Rx.r_isN ?_
  | refine L2.Rx.r_for ?_ | refine L2.Rx.r_ilist ?_ | refine L2.Rx.r_itup ?_
  | refine L2.Rx.r_gcons ?_ | refine L2.Rx.r_gnil ?_ | (refine L2.Rx.r_gtupP (by assumption) (by walk_at "at") ?_)
  | (refine L2.Rx.r_rEq rfl ?_) | (refine L2.Rx.r_rNe rfl ?_)
  | refine L2.Rx.r_rU ?_ | refine L2.Rx.r_max2 ?_ | refine L2.Rx.r_min2 ?_ | refine L2.Rx.r_int1i ?_ | (refine L2.Rx.r_lenh (by walk_at "hp") ?_)
  | (refine L2.Rx.r_ixLh (by walk_at "hp") (by walk_at "at") ?_)
  | (refine L2.Rx.r_setL (by walk_at "hp") (by walk_at "at") ?_))
local macro_rules | `(tactic| walk_at "at") => `(tactic| with_unfolding_all rfl)
local macro_rules | `(tactic| walk_at "rd") => `(tactic| (repeat walk_at "rd1"))
local macro_rules | `(tactic| walk_at "hp") => `(tactic| first
  | assumption
  | exact L2.upd_same
  | (refine Eq.trans (L2.upd_ne ?_) ?_; (focus walk_at "ne"); (focus walk_at "hp"))
  | (refine L2.Rx.Kp.at0 (by assumption) ?_; walk_at "hp")
  | (refine L2.Rx.Kp.at1 (by assumption) ?_ ?_; (focus walk_at "ne"); (focus walk_at "hp")))
local macro_rules | `(tactic| walk_at "ne") => `(tactic| first
  | assumption | exact Ne.symm (by assumption)
  | (refine L2.ne_of_none (H := ?nH) (o := ?nO) ?nh ?nn; (case nn => assumption); (case nh => walk_at "hp"))
  | (refine Ne.symm (L2.ne_of_none (H := ?nH) (o := ?nO) ?nh ?nn); (case nn => assumption); (case nh => walk_at "hp")))
local macro_rules | `(tactic| walk_at "len") => `(tactic| (rw [PySem.sizeLine_eq]; omega))
local macro_rules | `(tactic| walk_at "nin") => `(tactic| first
  | exact List.not_mem_nil
  | (refine L2.Rx.nin1 ?_; walk_at "ne"))
local macro_rules | `(tactic| walk_at "none") => `(tactic| first
  | assumption
  | (refine L2.Rx.Kp.none0 (by assumption) ?_ ?_; (focus walk_at "nin"); (focus walk_at "none")))
namespace L2.Rx
open PySem PySem.Spec PyProof.Rows
/-! ### sorted of a list or a tuple of alike data -/
open PySem.W in
theorem sortsAt_few {prog : Program} {w : World} {A : Around} {s : Shared} {vs : List Value} {ds : List PyData} (e : EachIs (fun v d => ∃ as, Reads s.heap v d as) vs ds) (hal : AllAlike ds) (hn : ∀ d ∈ ds, d ≠ .none) (hl : vs.length < 2) (hu : ∀ d, d ∈ ds → A.units + d.depth < cLine) :
    SortsAt prog w A s (dataKind s.heap ds) vs := by
  refine ⟨fun v hv => ?_, general', ?_, fun h2 => absurd hl (by omega)⟩
  · obtain ⟨d, hd, as, r⟩ := e.left v hv
    exact ⟨_, dataKind_some hal hd r⟩
  · intro E x y a b Q ha hb hq
    obtain ⟨d, as, hd, ra, rfl⟩ := dataKind_inv ha
    obtain ⟨d', as', hd', rb, rfl⟩ := dataKind_inv hb
    show wpAny _ _ (oneLt' false x y) _ _ _
    exact oneLt_alike (fun z => nomatch z) ra rb (hal d hd d' hd') (hn d hd) (Nat.lt_of_le_of_lt (Nat.add_le_add_left (Nat.min_le_left _ _) _) (hu d hd)) hq
/-- what may be sorted: alike data, none of them None, all tuples with an item or none a tuple; or fewer than two -/
def Sb (ds : List PyData) : Prop := PySem.W.AllAlike ds ∧ (∀ d ∈ ds, d.depth ≤ 60 ∧ d ≠ .none) ∧ (PySem.W.Sortable ds ∨ ds.length < 2)
theorem EachIs_zip {K : PySem.W.Frag} {H : Hp} {X : Cx} {pins : List (Addr × Obj)} {σ : St} {s : Shared} (I : Inv X pins σ H s) : ∀ {ds : List PyData} {ys : List V} {us : List Value}, DpAll X.K H ys ds → Vals ys us →
    PySem.W.EachIs (fun u (p : PyData × V) => RelV p.2 u) us (ds.zip ys) ∧ PySem.W.EachIs (fun u (p : PyData × V) => ∃ as, Reads s.heap u p.1 as) us (ds.zip ys)
  | [], _, _, h, r => by
    cases h
    cases r
    exact ⟨.nil, .nil⟩
  | d :: ds, _, _, h, r => by
    cases h with
    | cons h1 h2 =>
      cases r with
      | cons r1 r2 =>
        obtain ⟨a, b⟩ := EachIs_zip (K := K) I h2 r2
        exact ⟨.cons r1 a, .cons (Dp.reads I d _ _ h1 r1) b⟩
theorem vals_of_each : ∀ {us : List Value} {bs : List (PyData × V)}, PySem.W.EachIs (fun u p => RelV p.2 u) us bs → Vals (bs.map Prod.snd) us
  | _, _, .nil => .nil
  | _, _, .cons h t => .cons h (vals_of_each t)
def rSortV (K : PySem.W.Frag) : List V → Hp → VK → Prop := fun xs H Q => ∃ (a : Addr) (ys : List V) (ds : List PyData), xs = [.ref a] ∧ (SqL K H a ys ∨ SqT K H a ys) ∧ DpAll K H ys ds ∧ Sb ds ∧
  ∀ p, H p = none → Q (.ref p) (upd H p (.lst (((ds.zip ys).mergeSort (PySem.W.dataLe false Prod.fst)).map Prod.snd)))
theorem dpAll_len {K : PySem.W.Frag} {H : Hp} : ∀ {ys : List V} {ds : List PyData}, DpAll K H ys ds → ys.length = ds.length
  | _, [], h => by
    cases h
    rfl
  | _, d :: ds, h => by
    cases h with
    | cons _ h2 => rw [List.length_cons, List.length_cons, dpAll_len h2]
theorem zip_fst {α β : Type} : ∀ (xs : List α) (ys : List β), ys.length = xs.length → (xs.zip ys).map Prod.fst = xs
  | [], _, _ => rfl
  | x :: xs, [], h => by simp at h
  | x :: xs, y :: ys, h => by rw [List.zip_cons_cons, List.map_cons, zip_fst xs ys (by simpa using h)]
theorem zip_snd {α β : Type} : ∀ (xs : List α) (ys : List β), ys.length = xs.length → (xs.zip ys).map Prod.snd = ys
  | [], [], _ => rfl
  | [], y :: ys, h => by simp at h
  | x :: xs, [], h => by simp at h
  | x :: xs, y :: ys, h => by rw [List.zip_cons_cons, List.map_cons, zip_snd xs ys (by simpa using h)]
open PySem.W in
theorem call_sortV {X : Cx} {k : Nat} (hr : RoomG k X.A) : CallR X (.builtin "sorted") (rSortV X.K) := by
  intro pins s σ H xs us Q I r h
  obtain ⟨a, ys, ds, rfl, hs, hd, ⟨hal, hdep, hk⟩, q⟩ := h
  obtain ⟨u, rfl, ru⟩ := vals1 r
  cases ru
  obtain ⟨its, T, o, n, rv, hT, ho, hc, hdt, hz⟩ : ∃ (its : List Value) (T : String) (o : Obj) (n : Nat), Vals ys its ∧ (T = "list" ∨ T = "tuple") ∧ s.heap.get? a = some o ∧ o.cls = .type T ∧ o.data = .seq its.toArray n ∧ its.length ≤ sizeLine := by
    rcases hs with hs | hs
    · obtain ⟨its, rv, ⟨o, n, ho, hc, _, hd⟩, hz⟩ := I.list hs
      exact ⟨its, "list", o, n, rv, .inl rfl, ho, hc, hd, by rw [← rv.length]; exact hz⟩
    · obtain ⟨its, rv, ⟨o, ho, hc, n, hd⟩, hz⟩ := I.tuple hs
      exact ⟨its, "tuple", o, n, rv, .inr rfl, ho, hc, hd, by rw [← rv.length]; exact hz⟩
  refine Calls.call_function_entry kind_sorted plain_sorted entry_sorted (args_sorted1 _) ?_
  unfold Builtin.«sorted»
  refine wpAny_bind (m := checkCount "sorted" 1 1 _) (wpAny_pure (wpAny_bind (wpAny_collect_seq a hT ho hc hdt (fun h' hk' => ?_) (by simpa using hz))))
  have I1 : Inv X pins σ H { s with heap := h' } := I.kept (t' := s.toks) hk'
  rw [show its.toArray.toList = its from rfl]
  refine wpAny_bind (wpAny_newList ?_ hz)
  have hoL : (h'.push (seqObj "list" its.toArray 0)).get? h'.objs.size = some (seqObj "list" its.toArray 0) := Heap.get?_push_size _ rfl
  have I2 : Inv X pins σ H { s with heap := h'.push (seqObj "list" its.toArray 0) } := I1.kept (t' := s.toks) fun b o e => Heap.get?_push_of_some _ e
  have hlen : ys.length = ds.length := dpAll_len hd
  have old : ∀ b o, (h'.push (seqObj "list" its.toArray 0)).get? b = some o → b ≠ h'.objs.size → (sortingHeap (h'.push (seqObj "list" its.toArray 0)) h'.objs.size its).get? b = some o := fun b o e ne => sortingHeap_old ne e
  have hkeep : ∀ b o, h'.get? b = some o → (sortingHeap (h'.push (seqObj "list" its.toArray 0)) h'.objs.size its).get? b = some o := fun b o e => old b o (Heap.get?_push_of_some _ e) (Nat.ne_of_lt (Heap.lt_size e))
  have J : Inv X pins σ H { s with heap := sortingHeap (h'.push (seqObj "list" its.toArray 0)) h'.objs.size its } := I1.kept (t' := s.toks) hkeep
  obtain ⟨e1, _⟩ := EachIs_zip (K := X.K) I hd rv
  obtain ⟨_, e2⟩ := EachIs_zip (K := X.K) J hd rv
  have hmap : (ds.zip ys).map Prod.fst = ds := zip_fst _ _ hlen
  have e3 : EachIs (fun v d => ∃ as, Reads (sortingHeap (h'.push (seqObj "list" its.toArray 0)) h'.objs.size its) v d as) its ((ds.zip ys).map Prod.fst) := each_map (R := fun v d => ∃ as, Reads (sortingHeap (h'.push (seqObj "list" its.toArray 0)) h'.objs.size its) v d as) Prod.fst e2
  have hun : ∀ d ∈ (ds.zip ys).map Prod.fst, X.A.in1.in1.units + d.depth < cLine := fun d m => by
    rw [hmap] at m
    have h1 := (hdep d m).1
    have h2 := hr.units
    show X.A.units + 1 + 1 + d.depth < cLine
    omega
  have S : SortsAt X.prog X.w X.A.in1.in1 { s with heap := sortingHeap (h'.push (seqObj "list" its.toArray 0)) h'.objs.size its } (dataKind (sortingHeap (h'.push (seqObj "list" its.toArray 0)) h'.objs.size its) ((ds.zip ys).map Prod.fst)) its := by
    rcases hk with hk | hk
    · exact SortsAt.data (s := { s with heap := sortingHeap (h'.push (seqObj "list" its.toArray 0)) h'.objs.size its }) e3 (by rw [hmap]; exact hal) (by rw [hmap]; exact hk) hun
    · exact sortsAt_few (s := { s with heap := sortingHeap (h'.push (seqObj "list" its.toArray 0)) h'.objs.size its }) e3 (by rw [hmap]; exact hal) (fun d m => (hdep d (by rw [hmap] at m; exact m)).2) (by rw [← rv.length, hlen]; exact hk) hun
  show wpAny _ _ _ _ _ { s with heap := h'.push (seqObj "list" its.toArray 0) }
  refine wpAny_bind (wpAny_holding (wpAny_call_entry slot_list_sort ⟨_, hoL, rfl⟩ entry_list_sort ?body (args_list_sort _)))
  case body =>
    show wpAny (model X.prog X.w) X.A.in1.in1 (Builtin.«list.sort» ⟨[.ref h'.objs.size], []⟩) _ _ _
    refine list_sort_vals (s := { s with heap := h'.push (seqObj "list" its.toArray 0) }) hoL S hz ⟨_, rfl, wpAny_pure ⟨_, rfl, ?_⟩⟩
    obtain ⟨ep, he⟩ := sortedHeap_at (vs := its) (out := (sortVals (dataKind (sortingHeap (h'.push (seqObj "list" its.toArray 0)) h'.objs.size its) ((ds.zip ys).map Prod.fst)) false its its).toArray) hoL
    have out := sortVals_data (R := fun u (p : PyData × V) => RelV p.2 u) (h' := sortingHeap (h'.push (seqObj "list" its.toArray 0)) h'.objs.size its) false e1 e2 (by rw [hmap]; exact hal)
    have ov := vals_of_each out
    have ol : (((ds.zip ys).mergeSort (dataLe false Prod.fst)).map Prod.snd).length ≤ sizeLine := by
      rw [List.length_map, List.length_mergeSort, List.length_zip, hlen, Nat.min_self, ← hlen, rv.length]
      exact hz
    refine ⟨.ref h'.objs.size, _, I1.laid (t' := s.toks) (a := h'.objs.size) (o := .lst (((ds.zip ys).mergeSort (dataLe false Prod.fst)).map Prod.snd)) (fun b u e => ?_) (Nat.le_refl _) ⟨ol, _, ep, ov, he⟩, rfl, q _ (I1.hok.fresh (Nat.le_refl _))⟩
    have hb : b < h'.objs.size := Heap.lt_size e
    rw [sortedHeap_old (Nat.ne_of_lt hb) (by rw [size_push']; exact Nat.lt_succ_of_lt hb)]
    exact Heap.get?_push_of_some _ e
/-! ### cuts; wide powers; small rules -/
section
variable {σ : St} {H : Hp} {Q : VK} {nx : St → Hp → Prop} {rt : VK} {bk ct : St → Hp → Prop}
theorem r_cut {te : TE} (P : V → Hp → Prop) (key : ∀ v H', P v H' → Q v H') (h : ∀ Q' : VK, (∀ v H', P v H' → Q' v H') → te σ H Q') : te σ H Q := h Q key
theorem r_cutT {t : TT} {Q : Bool → Hp → Prop} (P : Bool → Hp → Prop) (key : ∀ v H', P v H' → Q v H') (h : ∀ Q' : Bool → Hp → Prop, (∀ v H', P v H' → Q' v H') → t σ H Q') : t σ H Q := h Q key
theorem r_cutS {t : TS} (P : St → Hp → Prop) (key : ∀ σ' H', P σ' H' → nx σ' H') (h : ∀ nx', (∀ σ' H', P σ' H' → nx' σ' H') → t ⟨nx', rt, bk, ct⟩ σ H) : t ⟨nx, rt, bk, ct⟩ σ H := h nx key
def CPowW (i j : Int) : Prop := 0 ≤ j ∧ (Builtin.Int.intBits i : Int) * j ≤ 2 ^ 27
theorem op_powW {X : Cx} : OpR X (binaryOp .Pow) (rI CPowW fun i j => .int (i ^ j.toNat)) := opI fun _ _ _ _ _ _ _ hc q => pow_int hc.1 hc.2 q
theorem r_powW {i j : Int} (h0 : 0 ≤ j) (h1 : (Builtin.Int.intBits i : Int) * j ≤ 2 ^ 27) (q : Q (.int (i ^ j.toNat)) H) : rI CPowW (fun i j => .int (i ^ j.toNat)) (.int i) (.int j) H Q := ⟨i, j, rfl, rfl, ⟨h0, h1⟩, q⟩
def rLenQ (K : PySem.W.Frag) : List V → Hp → VK → Prop := fun xs H Q => ∃ p ys, xs = [.ref p] ∧ (SqL K H p ys ∨ SqT K H p ys) ∧ Q (.int ys.length) H
def rLenS : List V → Hp → VK → Prop := fun xs H Q => ∃ z, xs = [.str z] ∧ z.length ≤ sizeLine ∧ Q (.int z.length) H
def rAbs : List V → Hp → VK → Prop := fun xs H Q => ∃ i, xs = [.int i] ∧ Q (.int (if i < 0 then -i else i)) H
def rMax2 : List V → Hp → VK → Prop := fun xs H Q => ∃ i j, xs = [.int i, .int j] ∧ Q (.int (if j > i then j else i)) H
def rMin2 : List V → Hp → VK → Prop := fun xs H Q => ∃ i j, xs = [.int i, .int j] ∧ Q (.int (if j < i then j else i)) H
def rInt1 : List V → Hp → VK → Prop := fun xs H Q => (∃ i, xs = [.int i] ∧ Q (.int i) H) ∨ ∃ k, xs = [.bl k] ∧ Q (.int (if k then 1 else 0)) H
variable {X : Cx} {K : PySem.W.Frag}
theorem c_len : CallR X (.builtin "len") (rLenQ X.K) := call_len_seq
theorem c_lenS : CallR X (.builtin "len") rLenS := call_len_str
theorem c_abs : CallR X (.builtin "abs") rAbs := call_abs
theorem c_max2 (hc : X.calm = true) : CallR X (.builtin "max") rMax2 := call_max2 hc
theorem c_min2 (hc : X.calm = true) : CallR X (.builtin "min") rMin2 := call_min2 hc
theorem c_int1 : CallR X (.type "int") rInt1 := call_int1
theorem r_len {p : Addr} {ys : List V} (h : SqL K H p ys ∨ SqT K H p ys) (q : Q (.int ys.length) H) : rLenQ K [.ref p] H Q := ⟨p, ys, rfl, h, q⟩
theorem r_lenh {p : Addr} {ys : List V} (h : H p = some (.lst ys)) (q : Q (.int ys.length) H) : rLenQ K [.ref p] H Q := ⟨p, ys, rfl, .inl (.inl (.inl h)), q⟩
theorem r_lenS {z : Str} (h : z.length ≤ sizeLine) (q : Q (.int z.length) H) : rLenS [.str z] H Q := ⟨z, rfl, h, q⟩
theorem r_abs {i : Int} (h : ∀ r, 0 ≤ r → Q (.int r) H) : rAbs [.int i] H Q := by
  refine ⟨i, rfl, ?_⟩
  split
  · exact h _ (by omega)
  · exact h _ (by omega)
theorem r_max2 {i j : Int} (h : Q (.int (max i j)) H) : rMax2 [.int i, .int j] H Q := by
  refine ⟨i, j, rfl, ?_⟩
  have e : (if j > i then j else i) = max i j := by split <;> omega
  rw [e]
  exact h
theorem r_min2 {i j : Int} (h : Q (.int (min i j)) H) : rMin2 [.int i, .int j] H Q := by
  refine ⟨i, j, rfl, ?_⟩
  have e : (if j < i then j else i) = min i j := by split <;> omega
  rw [e]
  exact h
theorem r_int1i {i : Int} (h : Q (.int i) H) : rInt1 [.int i] H Q := .inl ⟨i, rfl, h⟩
theorem r_int1b {k : Bool} (h : ∀ r, 0 ≤ r → r ≤ 1 → Q (.int r) H) : rInt1 [.bl k] H Q := by
  refine .inr ⟨k, rfl, ?_⟩
  split
  · exact h _ (by omega) (by omega)
  · exact h _ (by omega) (by omega)
end
/-- the law's box stands at b: its own digits, its seed, how many were drawn; n more may be drawn -/
def Box (H : Hp) (b : Addr) (n : Nat) : Prop := ∃ o m c : Int, H b = some (.lst [.int o, .int m, .int c]) ∧ 0 ≤ o ∧ 0 ≤ m ∧ m < 2305843009213693951 ∧ 0 ≤ c ∧ c + (n : Int) ≤ 1000000000
theorem Box.mono {H : Hp} {b : Addr} {n m : Nat} (B : Box H b n) (h : m ≤ n) : Box H b m := by
  obtain ⟨o, s, c, e, h1, h2, h3, h4, h5⟩ := B
  exact ⟨o, s, c, e, h1, h2, h3, h4, by omega⟩
theorem Box.keep {H H' : Hp} {b : Addr} {n : Nat} (B : Box H b n) (k : Kp [] H H') : Box H' b n := by
  obtain ⟨o, s, c, e, r⟩ := B
  exact ⟨o, s, c, k.at0 e, r⟩
theorem Box.lst {H : Hp} {b : Addr} {n : Nat} (B : Box H b n) : ∃ xs, H b = some (.lst xs) := by
  obtain ⟨o, s, c, e, _⟩ := B
  exact ⟨_, e⟩
/-! ### what is carried over -/
section
variable {K : PySem.W.Frag} {H H' : Hp} {S : List Addr} {p b : Addr} {xs : List V} {o : HO}
theorem kp_rd {u : HO} (k : Kp S H H') (n : p ∉ S) (h : Rd H p u) : Rd H' p u := by
  rcases h with h | ⟨o, h⟩
  · exact .inl (k p _ n h)
  · exact .inr ⟨o, k p _ n h⟩
theorem kp_sqL (k : Kp S H H') (n : p ∉ S) (h : SqL K H p xs) : SqL K H' p xs := by
  rcases h with h | h
  · exact .inl (kp_rd k n h)
  · exact .inr h
theorem kp_sqT (k : Kp S H H') (n : p ∉ S) (h : SqT K H p xs) : SqT K H' p xs := by
  rcases h with h | h
  · exact .inl (kp_rd k n h)
  · exact .inr h
theorem kp1_sqL (k : Kp [b] H H') (n : p ≠ b) (h : SqL K H p xs) : SqL K H' p xs := kp_sqL k (by simpa using n) h
/-- a tuple is not what may change -/
def Mu (H : Hp) (S : List Addr) : Prop := ∀ b ∈ S, Mut (H b)
theorem Mu.nil {H : Hp} : Mu H [] := fun _ h => nomatch h
theorem Mu.lst {ys : List V} (h : H b = some (.lst ys)) : Mu H [b] := fun c hc => by
  have e : c = b := by simpa using hc
  rw [e, h]
  exact True.intro
theorem Mu.cons (m : Mut (H b)) (h : Mu H S) : Mu H (b :: S) := fun c hc => by
  rcases List.mem_cons.mp hc with e | e
  · rw [e]
    exact m
  · exact h c e
theorem mu_sqT (k : Kp S H H') (m : Mu H S) (h : SqT K H p xs) : SqT K H' p xs := by
  rcases h with h | h
  · left
    rcases h with h | ⟨o, h⟩
    · exact .inl (k p _ (fun z => by have := m p z; rw [h] at this; exact this) h)
    · exact .inr ⟨o, k p _ (fun z => by have := m p z; rw [h] at this; exact this) h⟩
  · exact .inr h
end
section
variable {H : Hp} {Q : VK} {X : Cx} {K : PySem.W.Frag}
/-- len of a list, a tuple, a text -/
def rLenV (K : PySem.W.Frag) : List V → Hp → VK → Prop := fun xs H Q => rLenQ K xs H Q ∨ rLenS xs H Q
theorem c_lenV : CallR X (.builtin "len") (rLenV X.K) := c_len.or c_lenS
end
/-! ### comprehensions, loops -/
section
variable {σ : St} {H : Hp} {Q : VK} {R : It → Hp → Prop}
theorem r_lc {wi : TI} {g : TG} {tt : TT} {te : TE} {vs : List Nat} (h : wi σ H fun J H1 => ∀ D, H1 D = none → ∃ W : Nat → Nat → Hp → Prop, (∃ m, W 0 m (upd H1 D (.lst []))) ∧ ∀ i m H, W i m H →
  (J.stop i H ∧ Q (.ref D) H) ∨ (J.go i H ∧ ∃ Nx : Hp → Prop, (∀ H', Nx H' → ∃ m', m' < m ∧ W (i + 1) m' H') ∧ ∀ x H', J.yld i H x H' → g x (wipe σ vs) H' fun σ2 H2 => wipe σ2 vs = wipe σ vs ∧ tt σ2 H2 fun b H3 =>
    if b = true then te σ2 H3 fun y H4 => ∃ acc, H4 D = some (.lst acc) ∧ acc.length < sizeLine ∧ Nx (upd H4 D (.lst (acc ++ [y]))) else Nx H3)) : tLc wi g tt te vs σ H Q := h
theorem r_rng1 {ta : TA} (h : ta σ H fun vs H1 => ∃ j : Int, vs = [.int j] ∧ -(2 ^ 62) ≤ j ∧ j < 2 ^ 62 ∧ R (Itr 0 j.toNat) H1) : iRng1 ta σ H R := h
theorem r_rngv {j : Int} {q : Int → Prop} (h0 : -(2 ^ 62) ≤ j) (h1 : j < 2 ^ 62) (h : q j) : ∃ j', [V.int j] = [V.int j'] ∧ -(2 ^ 62) ≤ j' ∧ j' < 2 ^ 62 ∧ q j' := ⟨j, rfl, h0, h1, h⟩
theorem r_yes {Q : Bool → Hp → Prop} (h : Q true H) : tYes σ H Q := h
theorem r_tt {A B : Prop} (h : A) : if true = true then A else B := by rw [if_pos rfl]; exact h
theorem r_ff {A B : Prop} (h : B) : if false = true then A else B := by rw [if_neg Bool.false_ne_true]; exact h
theorem r_m1 {r : V → List V → Hp → VK → Prop} {to te : TE} (h : to σ H fun x H1 => (∃ a, x = .str a) ∧ te σ H1 fun y H2 => r x [y] H2 Q) : tM1 r to te σ H Q := h
theorem r_m0 {r : V → List V → Hp → VK → Prop} {to : TE} (h : to σ H fun x H1 => (∃ a, x = .str a) ∧ r x [] H1 Q) : tM0 r to σ H Q := h
theorem r_isS {z : Str} {q : Prop} (h : q) : (∃ a, V.str z = V.str a) ∧ q := ⟨⟨z, rfl⟩, h⟩
end
/-- what a comprehension has made so far stands at D -/
def PvL (D : Addr) (R : Nat → List V → Hp → Prop) (i : Nat) (H : Hp) : Prop := ∃ acc, H D = some (.lst acc) ∧ acc.length ≤ i ∧ R i acc H
theorem PvL.step {D : Addr} {R : Nat → List V → Hp → Prop} {i : Nat} {H : Hp} {acc : List V} {y : V} (h : H D = some (.lst acc)) (l : acc.length ≤ i) (li : i < 1000000) (r : R (i + 1) (acc ++ [y]) (upd H D (.lst (acc ++ [y])))) :
    ∃ acc, H D = some (.lst acc) ∧ acc.length < sizeLine ∧ PvL D R (i + 1) (upd H D (.lst (acc ++ [y]))) :=
  ⟨acc, h, by rw [sizeLine_eq]; omega, acc ++ [y], upd_same, by rw [List.length_append, List.length_singleton]; omega, r⟩
theorem PvL.skip {D : Addr} {R : Nat → List V → Hp → Prop} {i : Nat} {H : Hp} {acc : List V} (h : H D = some (.lst acc)) (l : acc.length ≤ i) (r : R (i + 1) acc H) : PvL D R (i + 1) H := ⟨acc, h, by omega, r⟩
/-! ### cells -/
def Cell (c : Str) : Prop := 1 ≤ c.length ∧ c.length ≤ 8 ∧ ∀ x ∈ c.cps.toList, 97 ≤ x ∧ x ≤ 122
def Cells (cs : List Str) : Prop := cs.Nodup ∧ ∀ c ∈ cs, Cell c
/-! ### texts -/
section
variable {σ : St} {H : Hp} {Q : VK} {X : Cx} {K : PySem.W.Frag}
def rAddS : R2 := fun x y H Q => ∃ i j, x = .str i ∧ y = .str j ∧ i.length + j.length ≤ sizeLine ∧ Q (.str (i ++ j)) H
theorem op_addS : OpR X (binaryOp .Add) rAddS := op_add_str
theorem r_addS {i j : Str} (l : i.length + j.length ≤ sizeLine) (h : Q (.str (i ++ j)) H) : rAddS (.str i) (.str j) H Q := ⟨i, j, rfl, rfl, l, h⟩
def rJoin (K : PySem.W.Frag) : V → List V → Hp → VK → Prop := fun x xs H Q => ∃ a p, ∃ ys : List Str, x = .str a ∧ xs = [.ref p] ∧ (SqL K H p (ys.map V.str) ∨ SqT K H p (ys.map V.str)) ∧ (ys.map (·.length)).sum + ys.length * a.length ≤ 16777216 ∧ Q (.str (Txt.join a ys)) H
theorem pe_joinV {o e : Expr} {to te : TE} {apos pos : Pos} (ho : PE X o to) (he : PE X e te) (hs : starEach [e] X.env = [(false, eval e X.env)] := by rfl) (hbase : attributeBase o "join" X.env (eval o X.env) = eval o X.env := by rfl) (hline : (apos.endLine == pos.line) = true := by rfl) :
    PE X (.Call (.Attribute o "join" apos) [e] [] pos) (tM1 (rJoin X.K) to te) := pe_join ho he hs hbase hline
theorem r_join {a : Str} {p : Addr} {ys : List Str} (h : H p = some (.lst (ys.map V.str))) (l : (ys.map (·.length)).sum + ys.length * a.length ≤ 16777216) (q : Q (.str (Txt.join a ys)) H) : rJoin K (.str a) [.ref p] H Q := ⟨a, p, ys, rfl, rfl, .inl (.inl (.inl h)), l, q⟩
theorem r_slS {z : Str} {lo hi : Option Int} (l : z.length ≤ sizeLine) (q : Q (.str (cutS z lo hi)) H) : rSlS (.str z) lo hi H Q := ⟨z, rfl, l, q⟩
theorem r_ixS {z : Str} {i : Int} {c : Nat} (l : z.length ≤ sizeLine) (a : atI z.cps.toList i = some c) (q : Q (.str ⟨#[c]⟩) H) : rIxS (.str z) (.int i) H Q := ⟨z, i, c, rfl, rfl, l, a, q⟩
theorem r_gtup {n : Nat} {t : TGs} {p : Addr} {xs : List V} {Q : St → Hp → Prop} (h : H p = some (.tup xs)) (l : xs.length = n) (q : t xs σ H Q) : gTup K n t (.ref p) σ H Q := ⟨p, xs, rfl, .inl (.inl h), l, q⟩
theorem r_gtupS {n : Nat} {t : TGs} {p : Addr} {xs : List V} {Q : St → Hp → Prop} (h : SqT K H p xs) (l : xs.length = n) (q : t xs σ H Q) : gTup K n t (.ref p) σ H Q := ⟨p, xs, rfl, h, l, q⟩
theorem r_gcons {t : TG} {u : TGs} {v : V} {r : List V} {Q : St → Hp → Prop} (h : t v σ H fun σ' H' => u r σ' H' Q) : gCons t u (v :: r) σ H Q := ⟨v, r, rfl, h⟩
theorem r_gnil {Q : St → Hp → Prop} (h : Q σ H) : gNil [] σ H Q := ⟨rfl, h⟩
end
abbrev low (l : List Nat) : Prop := ∀ x ∈ l, 97 ≤ x ∧ x ≤ 122
theorem len_tl (z : Str) : z.length = z.cps.toList.length := by simp [Str.length]
theorem joinL_flat : ∀ ps : List (List Nat), TL.joinL [] ps = ps.flatten
  | [] => rfl
  | [p] => by simp [TL.joinL]
  | p :: q :: r => by
    show p ++ ([] ++ TL.joinL [] (q :: r)) = _
    rw [joinL_flat (q :: r), List.nil_append]
    rfl
theorem tl_joined {e : Str} (he : e.cps.toList = []) (ys : List Str) : (Txt.join e ys).cps.toList = (ys.map fun z => z.cps.toList).flatten := by
  rw [TL.join_eq]
  have := TL.tl_join e ys
  rw [show TL.tl e = [] from he, joinL_flat] at this
  exact this
/-! ### new objects, at a letter of a heap -/
@[elab_as_elim] theorem gen_new {P : Hp → Prop} {H : Hp} {p : Addr} {o : HO} (np : H p = none) (h : ∀ H', Kp [] H H' → H' p = some o → P H') : P (upd H p o) := h _ (Kp.new np) upd_same
theorem Kp.to1 {S : List Addr} {H H' : Hp} (k : Kp [] H H') : Kp S H H' := fun a o _ e => k a o (by simp) e
theorem Kp.none0 {H H' : Hp} {S : List Addr} {a : Addr} (k : Kp S H H') (n : a ∉ S) (e : H' a = none) : H a = none := by
  cases q : H a with
  | none => rfl
  | some o =>
    rw [k a o n q] at e
    cases e
theorem Kp.new0 {S : List Addr} {p : Addr} {H H' : Hp} {o : HO} (k : Kp S H H') (n : H p = none) : Kp S H (L2.upd H' p o) := fun a u h e => by
  rw [L2.upd_ne (ne_of_none e n)]
  exact k a u h e
theorem Kp.putNew {b p : Addr} {H H' : Hp} {o : HO} (k : Kp [b] H H') (n : H p = none) : Kp [b] H (L2.upd H' p o) := fun a u h e => by
  rw [L2.upd_ne (ne_of_none e n)]
  exact k a u h e
theorem nin1 {a b : Addr} (h : a ≠ b) : a ∉ [b] := by simpa using h
theorem str_ext {x y : Str} (h : x.cps.toList = y.cps.toList) : x = y := by
  have e : x.cps = y.cps := Array.toList_inj.mp h
  cases x
  cases y
  cases e
  rfl
theorem tl_cat (x y : Str) : (x ++ y).cps.toList = x.cps.toList ++ y.cps.toList := TL.tl_append x y
theorem cut_lo (z : Str) (c : Nat) : (cutS z none (some (c : Int))).cps.toList = z.cps.toList.take c := by
  unfold cutS
  show List.take (HT.sIx z.length z.length (some (c : Int)) - HT.sIx z.length 0 none) (List.drop (HT.sIx z.length 0 none) z.cps.toList) = _
  rw [HT.sIx_nat, HT.sIx_none, List.drop_zero, Nat.sub_zero, len_tl]
  by_cases h : c ≤ z.cps.toList.length
  · rw [Nat.min_eq_left h]
  · rw [Nat.min_eq_right (by omega), List.take_of_length_le (Nat.le_refl _), List.take_of_length_le (by omega)]
theorem cut_hi (z : Str) (c : Nat) : (cutS z (some (c : Int)) none).cps.toList = z.cps.toList.drop c := by
  unfold cutS
  show List.take (HT.sIx z.length z.length none - HT.sIx z.length 0 (some (c : Int))) (List.drop (HT.sIx z.length 0 (some (c : Int))) z.cps.toList) = _
  rw [HT.sIx_nat, HT.sIx_none, len_tl]
  by_cases h : c ≤ z.cps.toList.length
  · rw [Nat.min_eq_left h, List.take_of_length_le (by rw [List.length_drop]; omega)]
  · rw [Nat.min_eq_right (by omega), List.drop_of_length_le (Nat.le_refl _), List.drop_of_length_le (by omega), List.take_nil]
/-! ### sorted, in words -/
section
variable {H : Hp} {Q : VK} {K : PySem.W.Frag} {X : Cx}
theorem sort_facts (zs : List (PyData × V)) : (zs.mergeSort (PySem.W.dataLe false Prod.fst)).Perm zs ∧ (zs.mergeSort (PySem.W.dataLe false Prod.fst)).Pairwise (fun a b => PySem.W.dataLt b.1 a.1 = false) := by
  refine ⟨List.mergeSort_perm _ _, ?_⟩
  have h := PySem.W.sort_pairwise (PySem.W.sortLe_total (listOrd itemOrd) false fun b : PyData × V => PySem.W.keyToks b.1) zs
  refine h.imp fun {a b} e => ?_
  have e' : (!PySem.W.dataLt b.1 a.1) = true := e
  simpa using e'
theorem r_sort {a : Addr} {ys : List V} {ds : List PyData} (hs : SqL K H a ys ∨ SqT K H a ys) (hd : DpAll K H ys ds) (sb : Sb ds)
    (h : ∀ (p : Addr) (zs : List (PyData × V)), zs.Perm (ds.zip ys) → zs.Pairwise (fun a b => PySem.W.dataLt b.1 a.1 = false) → H p = none → Q (.ref p) (upd H p (.lst (zs.map Prod.snd)))) : rSortV K [.ref a] H Q :=
  ⟨a, ys, ds, rfl, hs, hd, sb, fun p np => h p _ (sort_facts _).1 (sort_facts _).2 np⟩
theorem perm_map_inv {α β : Type} {f : α → β} {g : β → α} (hg : ∀ a, g (f a) = a) {xs : List α} {zs : List β} (h : zs.Perm (xs.map f)) : ∃ ys : List α, ys.Perm xs ∧ zs = ys.map f := by
  refine ⟨zs.map g, ?_, ?_⟩
  · have := h.map g
    rw [List.map_map, show g ∘ f = id from funext hg, List.map_id] at this
    exact this
  · rw [List.map_map]
    refine (List.map_congr_left (g := id) fun z hz => ?_).trans (List.map_id _) |>.symm
    obtain ⟨x, _, rfl⟩ := List.mem_map.mp (h.mem_iff.mp hz)
    show f (g (f x)) = f x
    rw [hg]
theorem dpAll_ints : ∀ ns : List Int, DpAll K H (ns.map V.int) (ns.map PyData.int)
  | [] => .nil
  | n :: r => .cons (.int n) (dpAll_ints r)
theorem dpAll_strs : ∀ ns : List Str, DpAll K H (ns.map V.str) (ns.map PyData.str)
  | [] => .nil
  | n :: r => .cons (.str n) (dpAll_strs r)
theorem zip_maps {α β γ : Type} (f : α → β) (g : α → γ) : ∀ xs : List α, (xs.map f).zip (xs.map g) = xs.map fun x => (f x, g x)
  | [] => rfl
  | x :: xs => by rw [List.map_cons, List.map_cons, List.zip_cons_cons, zip_maps f g xs, List.map_cons]
theorem sb_ints (ns : List Int) : Sb (ns.map PyData.int) := by
  refine ⟨PySem.W.AllAlike.of fun _ _ => by simp [PySem.W.alike], fun d hd => ?_, .inl (PySem.W.Sortable.others fun _ => ⟨by simp, by simp⟩)⟩
  obtain ⟨n, _, rfl⟩ := List.mem_map.mp hd
  exact ⟨by simp [PyData.depth], by simp⟩
theorem sb_strs (ns : List Str) : Sb (ns.map PyData.str) := by
  refine ⟨PySem.W.AllAlike.of fun _ _ => by simp [PySem.W.alike], fun d hd => ?_, .inl (PySem.W.Sortable.others fun _ => ⟨by simp, by simp⟩)⟩
  obtain ⟨n, _, rfl⟩ := List.mem_map.mp hd
  exact ⟨by simp [PyData.depth], by simp⟩
theorem r_sortI {a : Addr} {ns : List Int} (hs : SqL K H a (ns.map V.int) ∨ SqT K H a (ns.map V.int)) (h : ∀ (p : Addr) (ms : List Int), ms.Perm ns → ms.Pairwise (· ≤ ·) → H p = none → Q (.ref p) (upd H p (.lst (ms.map V.int)))) : rSortV K [.ref a] H Q := by
  refine r_sort hs (dpAll_ints ns) (sb_ints ns) fun p zs hp hw np => ?_
  rw [zip_maps] at hp
  obtain ⟨ms, pm, rfl⟩ := perm_map_inv (f := fun n : Int => (PyData.int n, V.int n)) (g := fun z => match z.1 with | .int i => i | _ => 0) (fun _ => rfl) hp
  rw [List.map_map]
  refine h p ms pm ?_ np
  rw [List.pairwise_map] at hw
  refine hw.imp fun {x y} e => ?_
  rw [PySem.W.dataLt_int] at e
  have := of_decide_eq_false e
  omega
theorem r_sortS {a : Addr} {ns : List Str} (hs : SqL K H a (ns.map V.str) ∨ SqT K H a (ns.map V.str)) (h : ∀ (p : Addr) (ms : List Str), ms.Perm ns → ms.Pairwise (fun x y => ¬ y.cps.toList < x.cps.toList) → H p = none → Q (.ref p) (upd H p (.lst (ms.map V.str)))) : rSortV K [.ref a] H Q := by
  refine r_sort hs (dpAll_strs ns) (sb_strs ns) fun p zs hp hw np => ?_
  rw [zip_maps] at hp
  obtain ⟨ms, pm, rfl⟩ := perm_map_inv (f := fun n : Str => (PyData.str n, V.str n)) (g := fun z => match z.1 with | .str i => i | _ => Str.empty) (fun _ => rfl) hp
  rw [List.map_map]
  refine h p ms pm ?_ np
  rw [List.pairwise_map] at hw
  refine hw.imp fun {x y} e => ?_
  rw [PySem.W.dataLt_str] at e
  exact of_decide_eq_false e
/-! in, not in: a list of ints, of texts -/
theorem inV_int (i : Int) : ∀ ns : List Int, inV (.int i) (ns.map V.int) = decide (i ∈ ns)
  | [] => by simp [inV]
  | n :: r => by
    have ih := inV_int i r
    unfold inV at ih ⊢
    rw [List.map_cons, List.any_cons, ih, Bool.eq_iff_iff]
    simp [eqV]
    exact or_congr eq_comm Iff.rfl
theorem inV_str (i : Str) : ∀ ns : List Str, inV (.str i) (ns.map V.str) = decide (i ∈ ns)
  | [] => by simp [inV]
  | n :: r => by
    have ih := inV_str i r
    unfold inV at ih ⊢
    rw [List.map_cons, List.any_cons, ih, Bool.eq_iff_iff]
    simp [eqV]
    exact or_congr eq_comm Iff.rfl
theorem flat_ints (ns : List Int) : (ns.map V.int).all flatV = true := by
  rw [List.all_eq_true]
  intro x hx
  obtain ⟨n, _, rfl⟩ := List.mem_map.mp hx
  rfl
theorem flat_strs (ns : List Str) : (ns.map V.str).all flatV = true := by
  rw [List.all_eq_true]
  intro x hx
  obtain ⟨n, _, rfl⟩ := List.mem_map.mp hx
  rfl
theorem r_inI {p : Addr} {i : Int} {ns : List Int} (h : SqL K H p (ns.map V.int) ∨ SqT K H p (ns.map V.int)) (q : Q (.bl (decide (i ∈ ns))) H) : rIn K false (.int i) (.ref p) H Q := ⟨p, _, rfl, h, rfl, flat_ints ns, by rw [inV_int]; exact q⟩
theorem r_notinI {p : Addr} {i : Int} {ns : List Int} (h : SqL K H p (ns.map V.int) ∨ SqT K H p (ns.map V.int)) (q : Q (.bl (!decide (i ∈ ns))) H) : rIn K true (.int i) (.ref p) H Q := ⟨p, _, rfl, h, rfl, flat_ints ns, by rw [inV_int]; exact q⟩
theorem r_inS {p : Addr} {i : Str} {ns : List Str} (h : SqL K H p (ns.map V.str) ∨ SqT K H p (ns.map V.str)) (q : Q (.bl (decide (i ∈ ns))) H) : rIn K false (.str i) (.ref p) H Q := ⟨p, _, rfl, h, rfl, flat_strs ns, by rw [inV_str]; exact q⟩
theorem r_notinS {p : Addr} {i : Str} {ns : List Str} (h : SqL K H p (ns.map V.str) ∨ SqT K H p (ns.map V.str)) (q : Q (.bl (!decide (i ∈ ns))) H) : rIn K true (.str i) (.ref p) H Q := ⟨p, _, rfl, h, rfl, flat_strs ns, by rw [inV_str]; exact q⟩
end
section
variable {σ : St} {H : Hp} {Q : VK} {K : PySem.W.Frag} {nx : St → Hp → Prop} {rt : VK} {bk ct : St → Hp → Prop}
theorem r_for {wi : TI} {g : TG} {tb : TS} {D : Ends} (h : wi σ H fun J H1 => ∃ W : Nat → Nat → St → Hp → Prop, (∃ m, W 0 m σ H1) ∧ ∀ i m σ H, W i m σ H →
  (J.stop i H ∧ D.nx σ H) ∨ (J.go i H ∧ ∃ N : St → Hp → Prop, (∀ σ' H', N σ' H' → ∃ m', m' < m ∧ W (i + 1) m' σ' H') ∧ ∀ x H', J.yld i H x H' → g x σ H' fun σ2 H2 => tb { D with nx := N, ct := N, bk := D.nx } σ2 H2)) : tFor wi g tb D σ H := h
theorem r_ilist {tl : TE} {R : It → Hp → Prop} (h : tl σ H fun x H1 => ∃ a, x = .ref a ∧ (∃ xs, SqL K H1 a xs) ∧ R (Itl K a) H1) : iList K tl σ H R := h
theorem r_itup {tl : TE} {R : It → Hp → Prop} (h : tl σ H fun x H1 => ∃ a, x = .ref a ∧ (∃ xs, SqT K H1 a xs) ∧ R (Itt K a) H1) : iTup K tl σ H R := h
theorem r_walkL {a : Addr} {xs : List V} {q : Addr → Prop} (h : SqL K H a xs) (k : q a) : ∃ a', V.ref a = .ref a' ∧ (∃ xs, SqL K H a' xs) ∧ q a' := ⟨a, rfl, ⟨xs, h⟩, k⟩
theorem r_walkT {a : Addr} {xs : List V} {q : Addr → Prop} (h : SqT K H a xs) (k : q a) : ∃ a', V.ref a = .ref a' ∧ (∃ xs, SqT K H a' xs) ∧ q a' := ⟨a, rfl, ⟨xs, h⟩, k⟩
theorem r_pickI {p : Addr} {ns : List Int} {i : Int} (h : SqL K H p (ns.map V.int)) (h0 : 0 ≤ i) (h1 : i < ns.length) (q : ∀ m ∈ ns, Q (.int m) H) : rIxL K (.ref p) (.int i) H Q := by
  obtain ⟨v, e, m⟩ := atI_int (xs := ns.map V.int) h0 (by rw [List.length_map]; exact h1)
  obtain ⟨j, hj, rfl⟩ := List.mem_map.mp m
  exact r_ixL h e (q j hj)
theorem r_app {l : Addr} {xs : List V} {y : V} (h : H l = some (.lst xs)) (z : xs.length < 1000000) (q : Q .non (upd H l (.lst (xs ++ [y])))) : tyV K "list" (.ref l) H ∧ rAppend (.ref l) [y] H Q :=
  ⟨.inl ⟨rfl, xs, .inl (.inl h)⟩, l, xs, y, rfl, rfl, h, by rw [sizeLine_eq]; omega, q⟩
end
section
variable {X : Cx} {K : PySem.W.Frag} {H : Hp} {Q : VK}
/-- a tuple made here: its object has no dict of its own -/
def Tm (H : Hp) (a : Addr) (xs : List V) : Prop := ∃ o : Obj, H a = some (.frz o (.tup xs)) ∧ o.dict = none
theorem Tm.sq {a : Addr} {xs : List V} (h : Tm H a xs) : SqT K H a xs := by
  obtain ⟨o, e, _⟩ := h
  exact .inl (.inr ⟨o, e⟩)
theorem Tm.keep {S : List Addr} {H' : Hp} {a : Addr} {xs : List V} (h : Tm H a xs) (k : Kp S H H') (n : a ∉ S) : Tm H' a xs := by
  obtain ⟨o, e, d⟩ := h
  exact ⟨o, k a _ n e, d⟩
theorem Tm.keep0 {H' : Hp} {a : Addr} {xs : List V} (h : Tm H a xs) (k : Kp [] H H') : Tm H' a xs := h.keep k (by simp)
theorem Tm.keepM {S : List Addr} {H' : Hp} {a : Addr} {xs : List V} (h : Tm H a xs) (k : Kp S H H') (m : Mu H S) : Tm H' a xs := by
  refine h.keep k fun z => ?_
  obtain ⟨o, e, _⟩ := h
  have := m a z
  rw [e] at this
  exact this
def tTupF (t : TA) : TE := fun σ H Q => t σ H fun xs H1 => xs.length ≤ sizeLine ∧ ∀ (p : Addr) (o : Obj), H1 p = none → o.dict = none → Q (.ref p) (upd H1 p (.frz o (.tup xs)))
theorem pe_tupF {es : List Expr} {t : TA} {pos : Pos} {x1 : Nat} (h : PA X es t) : PE X (.Tuple es x1 pos) (tTupF t) := by
  refine ⟨fun pins s σ H Q I hq => ?_⟩
  refine wpAny_Tuple_spliced (thn (h.run pos pins s σ H _ I hq) fun us s1 ⟨xs, H1, I1, r, z, q⟩ => ⟨by rw [← r.length]; exact z, ?_⟩)
  have hf : H1 s1.heap.objs.size = none := I1.hok.fresh (Nat.le_refl _)
  refine ⟨.ref s1.heap.objs.size, upd H1 s1.heap.objs.size (.frz _ (.tup xs)), I1.laid (t' := s1.toks) (fun b u e => Heap.get?_push_of_some _ e) (Nat.le_refl _) ⟨Heap.get?_push_size _ rfl, ?_⟩, rfl, q _ _ hf rfl⟩
  exact ⟨z, us, r, ⟨_, Heap.get?_push_size _ rfl, rfl, _, rfl⟩⟩
theorem r_tupF {σ : St} {t : TA} (h : t σ H fun xs H1 => xs.length ≤ sizeLine ∧ ∀ (p : Addr) (o : Obj), H1 p = none → o.dict = none → Q (.ref p) (upd H1 p (.frz o (.tup xs)))) : tTupF t σ H Q := h
theorem r_newT {xs : List V} (e : Nat.ble xs.length 1000 = true) (h : ∀ (p : Addr) (H' : Hp), H p = none → Kp [] H H' → Tm H' p xs → Q (.ref p) H') : xs.length ≤ sizeLine ∧ ∀ (p : Addr) (o : Obj), H p = none → o.dict = none → Q (.ref p) (upd H p (.frz o (.tup xs))) :=
  ⟨Nat.le_of_lt (small1000 (Nat.le_of_ble_eq_true e)), fun p o np od => h p _ np (Kp.new np) ⟨o, upd_same, od⟩⟩
theorem r_newF {xs : List V} {q : Addr → Obj → Prop} (e : Nat.ble xs.length 1000 = true) (h : ∀ (p : Addr) (o : Obj), H p = none → o.dict = none → q p o) : xs.length ≤ sizeLine ∧ ∀ (p : Addr) (o : Obj), H p = none → o.dict = none → q p o :=
  ⟨Nat.le_of_lt (small1000 (Nat.le_of_ble_eq_true e)), h⟩
@[elab_as_elim] theorem gen_newT {P : Hp → Prop} {p : Addr} {o : Obj} {xs : List V} (np : H p = none) (od : o.dict = none) (h : ∀ H', Kp [] H H' → Tm H' p xs → P H') : P (upd H p (.frz o (.tup xs))) := h _ (Kp.new np) ⟨o, upd_same, od⟩
/-- tuple(x), list(x), x a list or a tuple -/
def rTupOf (K : PySem.W.Frag) : List V → Hp → VK → Prop := fun xs H Q => ∃ p ys, xs = [.ref p] ∧ ((SqL K H p ys ∧ ∀ (l : Addr) (o : Obj), H l = none → o.dict = none → Q (.ref l) (upd H l (.frz o (.tup ys)))) ∨ (SqT K H p ys ∧ Q (.ref p) H))
def rListOf (K : PySem.W.Frag) : List V → Hp → VK → Prop := fun xs H Q => ∃ p ys, xs = [.ref p] ∧ (SqL K H p ys ∨ SqT K H p ys) ∧ ∀ l, H l = none → Q (.ref l) (upd H l (.lst ys))
theorem c_tuple : CallR X (.type "tuple") (rTupOf X.K) := by
  intro pins s σ H xs us Q I r h
  obtain ⟨p, ys, rfl, h⟩ := h
  obtain ⟨u, rfl, rx⟩ := vals1 r
  cases rx
  rcases h with ⟨hq, q⟩ | ⟨hq, q⟩
  · obtain ⟨its, r', pl, hz⟩ := I.list hq
    have hlen := r'.length
    refine call_tuple_list pl.isList (fun h' kp => ?_) (by simp only [List.size_toArray] <;> omega)
    have I1 : Inv X pins σ H { s with heap := h' } := I.kept (t' := s.toks) kp
    have I2 : Inv X pins σ (upd H h'.objs.size (.frz { cls := .type "tuple", data := .seq its.toArray } (.tup ys))) { s with heap := h'.push { cls := .type "tuple", data := .seq its.toArray } } :=
      I1.laid (t' := s.toks) (fun b o e => Heap.get?_push_of_some _ e) (Nat.le_refl _) (show ObjOk X.prog X.w _ _ _ (.frz _ (.tup ys)) from ⟨Heap.get?_push_size _ rfl, hz, its, r', IsTup.new _ _⟩)
    exact ⟨.ref h'.objs.size, _, I2, rfl, q _ _ (I1.hok.fresh (Nat.le_refl _)) rfl⟩
  · obtain ⟨its, r', pl, hz⟩ := I.tuple hq
    exact call_tuple_same pl ⟨.ref p, H, I, rfl, q⟩
theorem c_list : CallR X (.type "list") (rListOf X.K) := call_list_of
theorem r_tupL {p : Addr} {ys : List V} (h : H p = some (.lst ys)) (q : ∀ (l : Addr) (H' : Hp), H l = none → Kp [] H H' → Tm H' l ys → Q (.ref l) H') : rTupOf K [.ref p] H Q := ⟨p, ys, rfl, .inl ⟨.inl (.inl h), fun l o nl od => q l _ nl (Kp.new nl) ⟨o, upd_same, od⟩⟩⟩
theorem r_listOf {p : Addr} {ys : List V} (h : SqL K H p ys ∨ SqT K H p ys) (q : ∀ l, H l = none → Q (.ref l) (upd H l (.lst ys))) : rListOf K [.ref p] H Q := ⟨p, ys, rfl, h, q⟩
theorem r_gtupP {σ : St} {n : Nat} {t : TGs} {p : Addr} {xs : List V} {Q : St → Hp → Prop} (h : Tm H p xs) (l : xs.length = n) (q : t xs σ H Q) : gTup K n t (.ref p) σ H Q := ⟨p, xs, rfl, h.sq, l, q⟩
/-- t + u -/
def rCatF (K : PySem.W.Frag) : R2 := fun x y H Q => ∃ a b xs ys, x = .ref a ∧ y = .ref b ∧ SqT K H a xs ∧ SqT K H b ys ∧ xs.length + ys.length ≤ sizeLine ∧
  (xs = [] → Q (.ref b) H) ∧ (xs ≠ [] → ys = [] → Q (.ref a) H) ∧ (xs ≠ [] → ys ≠ [] → ∀ (p : Addr) (o : Obj), H p = none → o.dict = none → Q (.ref p) (upd H p (.frz o (.tup (xs ++ ys)))))
theorem nil_of {xs : List V} {us : List Value} (r : Vals xs us) : us = [] ↔ xs = [] := by
  cases r with
  | nil => simp
  | cons _ _ => simp
theorem op_catF : OpR X (binaryOp .Add) (rCatF X.K) := by
  intro pins s σ H x y v u Q I rx ry h
  obtain ⟨a, b, xs, ys, rfl, rfl, ha, hb, hz, q0, q1, q2⟩ := h
  cases rx
  cases ry
  obtain ⟨its, r1, p1, _⟩ := I.tuple ha
  obtain ⟨its2, r2, p2, _⟩ := I.tuple hb
  by_cases hx : xs = []
  · subst hx
    cases r1
    exact L2.cat_tup0 p1 p2 ⟨.ref b, H, I, rfl, q0 rfl⟩
  · refine HT.cat_tup p1 p2 (fun z => hx ((nil_of r1).mp z)) (fun z => ⟨.ref a, H, I, rfl, q1 hx ((nil_of r2).mp z)⟩) (fun z => ?_) (by rw [← r1.length, ← r2.length]; exact hz)
    refine ⟨.ref s.heap.objs.size, _, I.laid (t' := s.toks) (o := .frz _ (.tup (xs ++ ys))) (fun b ob q => Heap.get?_push_of_some _ q) (Nat.le_refl _) ⟨Heap.get?_push_size _ rfl, ?_⟩, rfl, q2 hx (fun w => z ((nil_of r2).mpr w)) _ _ (I.hok.fresh (Nat.le_refl _)) rfl⟩
    exact ⟨by rw [List.length_append]; exact hz, _, r1.append r2, IsTup.new _ _⟩
theorem r_catF {a b : Addr} {xs ys : List V} (ha : Tm H a xs) (hb : Tm H b ys) (l : xs.length + ys.length ≤ 1000000) (h : ∀ (p : Addr) (H' : Hp), Kp [] H H' → Tm H' p (xs ++ ys) → Q (.ref p) H') : rCatF K (.ref a) (.ref b) H Q := by
  refine ⟨a, b, xs, ys, rfl, rfl, ha.sq, hb.sq, by rw [sizeLine_eq]; omega, fun e => ?_, fun e e2 => ?_, fun e e2 p o np od => ?_⟩
  · refine h b H Kp.refl ?_
    rw [e]
    exact hb
  · refine h a H Kp.refl ?_
    rw [e2, List.append_nil]
    exact ha
  · exact h p _ (Kp.new np) ⟨o, upd_same, od⟩
/-- dict(x), x a list of pairs or a tuple of pairs made here -/
def rDictP (K : PySem.W.Frag) : List V → Hp → VK → Prop := fun xs H Q => ∃ (a : Addr) (ps : List Addr) (kvs : List (Key × V)), xs = [.ref a] ∧ (SqL K H a (ps.map V.ref) ∨ Tm H a (ps.map V.ref)) ∧ Paired (fun p kv => SqT K H p [kV kv.1, kv.2]) ps kvs ∧
  ∀ p, H p = none → Q (.ref p) (upd H p (.dK (mergeK [] kvs)))
theorem c_dictP (hcalm : X.calm = true) : CallR X (.type "dict") (rDictP X.K) := by
  intro pins s σ H xs us Q I r h
  obtain ⟨a, ps, kvs, ex, hq, hp, q⟩ := h
  rcases hq with hq | hq
  · exact call_dictP hcalm pins s σ H xs us Q I r ⟨a, ps, kvs, ex, hq, hp, q⟩
  subst ex
  obtain ⟨u, eu, rx⟩ := vals1 r
  subst eu
  cases rx
  obtain ⟨ob, eo, od⟩ := hq
  obtain ⟨ho, hz, its, rv, ⟨ob', ho', hc, n, hd⟩⟩ := (show ObjOk X.prog X.w H s.heap a (.frz ob (.tup (ps.map V.ref))) from I.hok a _ eo)
  have ee : ob' = ob := Option.some.inj (ho'.symm.trans ho)
  subst ee
  have ei := refs_at rv
  subst ei
  rw [List.length_map] at hz
  obtain ⟨prs, rel, hl, hpr⟩ := pairs_of I hp
  let us : Nat → Value := fun j => match ps[j]? with
    | some b => match s.heap.get? b with
      | some o => match o.data with
        | .seq its _ => its.getD 0 .none
        | _ => .none
      | none => .none
    | none => .none
  have hus : ∀ (j : Nat) (q : Key × Value), prs[j]? = some q → ∃ b, ps[j]? = some b ∧ IsTup s.heap b #[us j, q.2] ∧ (mixKind X.prog X.w).is q.1 (us j) = true := by
    intro j q' e
    obtain ⟨b, u, e1, e2, e3⟩ := hpr j q' e
    have eu : us j = u := by
      obtain ⟨o, g1, g2, m, g3⟩ := e2
      show (match ps[j]? with
        | some b => match s.heap.get? b with
          | some o => match o.data with
            | .seq its _ => its.getD 0 .none
            | _ => .none
          | none => .none
        | none => .none) = u
      rw [e1]
      simp only [g1, g3]
      rfl
    rw [eu]
    exact ⟨b, e1, e2, e3⟩
  have hlz : ((List.range prs.length).map fun j => (us j, ((prs[j]?.map Prod.snd).getD .none))).length = prs.length := by rw [List.length_map, List.length_range]
  have hat : ∀ j k v, ((List.range prs.length).map fun j => (us j, ((prs[j]?.map Prod.snd).getD .none)))[j]? = some (k, v) → ∃ q, prs[j]? = some q ∧ k = us j ∧ v = q.2 := by
    intro j k v e
    rw [List.getElem?_map] at e
    by_cases hj : j < prs.length
    · rw [List.getElem?_range hj] at e
      have e' : (us j, ((prs[j]?.map Prod.snd).getD .none)) = (k, v) := Option.some.inj e
      rw [List.getElem?_eq_getElem hj] at e' ⊢
      injection e' with e1 e2
      exact ⟨_, rfl, e1.symm, e2.symm⟩
    · rw [List.getElem?_eq_none (by rw [List.length_range]; omega)] at e
      cases e
  refine PySem.call_dict_pairs (knd := mixKind X.prog X.w) (kvs := prs) (PySem.PairArg.tuple a (ps.map Value.ref).toArray (fun j => (ps[j]?).getD 0) ((List.range prs.length).map fun j => (us j, ((prs[j]?.map Prod.snd).getD .none)))) (I.ok.hd hcalm)
    ⟨⟨_, n, ho, hc, od, hd⟩, by rw [hlz, List.size_toArray, List.length_map, hl], fun j k v e => ?_⟩ ⟨hlz.symm, fun j k v e => ?_⟩ (by rw [hlz, hl]; exact hz) fun h' tk hd' k => ?_
  · obtain ⟨q', e1, rfl, rfl⟩ := hat j k v e
    obtain ⟨b, e2, e3, e4⟩ := hus j q' e1
    have eb : (fun j => (ps[j]?).getD 0) j = b := by
      show (ps[j]?).getD 0 = b
      rw [e2]
      rfl
    rw [eb]
    exact ⟨by simp [e2], .inl e3⟩
  · obtain ⟨q', e1, rfl, rfl⟩ := hat j k v e
    obtain ⟨b, e2, e3, e4⟩ := hus j q' e1
    exact ⟨q'.1, e1, e4⟩
  · have hm : (s.heap.objs.size == sysModules) = false := beq_eq_false_iff_ne.mpr (Nat.ne_of_gt I.big)
    have hlen : (mergeK [] kvs).length ≤ sizeLine := by
      refine Nat.le_trans (length_mergeK kvs []) ?_
      rw [List.length_nil, Nat.zero_add, rel.length, hl]
      exact hz
    exact ⟨.ref s.heap.objs.size, upd H s.heap.objs.size (.dK (mergeK [] kvs)), I.laid (t' := tk) (fun b o e => k b o (by simp) e) (Nat.le_refl _) (show ObjOk X.prog X.w _ _ _ (.dK (mergeK [] kvs)) from ⟨hlen, hm, merged [] prs, KV.merge rel .nil, hd'⟩), rfl, q _ (I.hok.fresh (Nat.le_refl _))⟩
theorem r_dictP {a : Addr} {ps : List Addr} {kvs : List (Key × V)} (h : SqL K H a (ps.map V.ref) ∨ Tm H a (ps.map V.ref)) (g : Paired (fun p kv => SqT K H p [kV kv.1, kv.2]) ps kvs) (q : ∀ p, H p = none → Q (.ref p) (upd H p (.dK (mergeK [] kvs)))) : rDictP K [.ref a] H Q := ⟨a, ps, kvs, rfl, h, g, q⟩
end
end L2.Rx

end
section
set_option Elab.async false
set_option linter.all false
set_option maxRecDepth 100000
set_option maxHeartbeats 4000000
local macro_rules | `(tactic| walk_at "rd1") => `(tactic| with_reducible first
  | refine L2.Rx.r_seq ?_ | refine L2.Rx.r_asg ?_ | refine L2.Rx.r_gname ?_ | refine L2.Rx.r_op ?_ | refine L2.Rx.r_c ?_
  | refine L2.Rx.r_var rfl ?_
  | refine L2.Rx.r_rI0 ?_ | refine L2.Rx.r_test ?_ | refine L2.Rx.r_bl ?_ | refine L2.Rx.r_if ?_ | refine L2.Rx.r_ret ?_
  | refine L2.Rx.r_cons ?_ | refine L2.Rx.r_nil ?_ | refine L2.Rx.r_call ?_ | refine L2.Rx.r_cb ?_ | refine L2.Rx.r_next ?_ | refine L2.Rx.r_drop ?_
  | refine L2.Rx.r_gsub ?_ | refine L2.Rx.r_tupF ?_ | refine L2.Rx.r_lst ?_ | refine L2.Rx.r_par ?_ | refine L2.Rx.r_par2 ?_
  | refine L2.Rx.r_un ?_ | refine L2.Rx.r_tb ?_ | refine L2.Rx.r_and ?_ | refine L2.Rx.r_or ?_ | refine L2.Rx.r_not ?_
  | refine L2.Rx.r_andV ?_ | refine L2.Rx.r_orV ?_ | refine L2.Rx.r_notV ?_ | refine L2.Rx.r_ifx ?_ | refine L2.Rx.r_chain ?_
  | refine L2.Rx.r_sl ?_ | refine L2.Rx.r_nopart ?_ | refine L2.Rx.r_part ?_ | refine L2.Rx.r_exint ?_ | refine L2.Rx.r_bm0 ?_ | refine L2.Rx.r_bm ?_
  | refine L2.Rx.r_lc ?_ | refine L2.Rx.r_rng1 ?_ | refine L2.Rx.r_yes ?_ | refine L2.Rx.r_tt ?_ | refine L2.Rx.r_ff ?_ | refine L2.Rx.r_m1 ?_ | refine L2.Rx.r_m0 ?_ | refine L2.Rx.r_isS ?_
  | (refine L2.Rx.r_wipe (by with_unfolding_all rfl) ?_) | (refine L2.Rx.r_tyL (by walk_at "hp") ?_)
  | refine L2.Rx.r_addS (by walk_at "len") ?_ | refine L2.Rx.r_lenS (by walk_at "len") ?_ | refine L2.Rx.r_slS (by walk_at "len") ?_
  | refine L2.Rx.r_dnotin ?_ | refine L2.Rx.r_dget ?_ | refine L2.Rx.r_dget1 ?_ | refine L2.Rx.r_dput ?_ | refine L2.Rx.r_dpop1 ?_ | refine L2.Rx.r_isN ?_
  | refine L2.Rx.r_for ?_ | refine L2.Rx.r_ilist ?_ | refine L2.Rx.r_itup ?_
  | refine L2.Rx.r_gcons ?_ | refine L2.Rx.r_gnil ?_ | (refine L2.Rx.r_gtupP (by assumption) (by walk_at "at") ?_)
  | (refine L2.Rx.r_rEq rfl ?_) | (refine L2.Rx.r_rNe rfl ?_)
  | refine L2.Rx.r_rU ?_ | refine L2.Rx.r_max2 ?_ | refine L2.Rx.r_min2 ?_ | refine L2.Rx.r_int1i ?_ | (refine L2.Rx.r_lenh (by walk_at "hp") ?_)
  | (refine L2.Rx.r_ixLh (by walk_at "hp") (by walk_at "at") ?_)
  | (refine L2.Rx.r_setL (by walk_at "hp") (by walk_at "at") ?_))
local macro_rules | `(tactic| walk_at "at") => `(tactic| with_unfolding_all rfl)
local macro_rules | `(tactic| walk_at "rd") => `(tactic| (repeat walk_at "rd1"))
local macro_rules | `(tactic| walk_at "hp") => `(tactic| first
  | assumption
  | exact L2.upd_same
  | (refine Eq.trans (L2.upd_ne ?_) ?_; (focus walk_at "ne"); (focus walk_at "hp"))
  | (refine L2.Rx.Kp.at0 (by assumption) ?_; walk_at "hp")
  | (refine L2.Rx.Kp.at1 (by assumption) ?_ ?_; (focus walk_at "ne"); (focus walk_at "hp")))
local macro_rules | `(tactic| walk_at "ne") => `(tactic| first
  | assumption | exact Ne.symm (by assumption)
  | (refine L2.ne_of_none (H := ?nH) (o := ?nO) ?nh ?nn; (case nn => assumption); (case nh => walk_at "hp"))
  | (refine Ne.symm (L2.ne_of_none (H := ?nH) (o := ?nO) ?nh ?nn); (case nn => assumption); (case nh => walk_at "hp")))
local macro_rules | `(tactic| walk_at "len") => `(tactic| (rw [PySem.sizeLine_eq]; omega))
local macro_rules | `(tactic| walk_at "nin") => `(tactic| first
  | exact List.not_mem_nil
  | (refine L2.Rx.nin1 ?_; walk_at "ne"))
local macro_rules | `(tactic| walk_at "none") => `(tactic| first
  | assumption
  | (refine L2.Rx.Kp.none0 (by assumption) ?_ ?_; (focus walk_at "nin"); (focus walk_at "none")))
namespace L2.Rx
open PySem PySem.Spec PyProof.Rows
/-! ### data: none, bools, ints, texts, tuples of these: what may change does not reach it -/
mutual
def noL : PyData → Bool
  | .list _ => false
  | .dict _ => false
  | .tuple ds => noLs ds
  | .none => true
  | .bool _ => true
  | .int _ => true
  | .str _ => true
def noLs : List PyData → Bool
  | [] => true
  | d :: ds => noL d && noLs ds
end
mutual
/-- small enough to compare and to show -/
def shp : PyData → Bool
  | .list ds => shps ds
  | .dict _ => false
  | .tuple ds => shps ds
  | .str x => PyData.strOk x
  | .none => true
  | .bool _ => true
  | .int _ => true
def shps : List PyData → Bool
  | [] => true
  | d :: ds => shp d && shps ds
end
mutual
/-- data whose tuples are made here -/
inductive Dq (K : PySem.W.Frag) (H : Hp) : V → PyData → Prop
  | non : Dq K H .non .none
  | bl (b : Bool) : Dq K H (.bl b) (.bool b)
  | int (i : Int) : Dq K H (.int i) (.int i)
  | str (x : Str) : Dq K H (.str x) (.str x)
  | lst {a : Addr} {xs : List V} {ds : List PyData} : SqL K H a xs → DqAll K H xs ds → Dq K H (.ref a) (.list ds)
  | tup {a : Addr} {xs : List V} {ds : List PyData} : Tm H a xs → DqAll K H xs ds → Dq K H (.ref a) (.tuple ds)
inductive DqAll (K : PySem.W.Frag) (H : Hp) : List V → List PyData → Prop
  | nil : DqAll K H [] []
  | cons {v : V} {vs : List V} {d : PyData} {ds : List PyData} : Dq K H v d → DqAll K H vs ds → DqAll K H (v :: vs) (d :: ds)
end
section
variable {K : PySem.W.Frag} {H H' : Hp} {S : List Addr} {p b : Addr} {xs : List V}
mutual
theorem Dq.dp : ∀ (d : PyData) (v : V), Dq K H v d → Dp K H v d
  | .none, _, h => by cases h; exact .non
  | .bool b, _, h => by cases h; exact .bl b
  | .int i, _, h => by cases h; exact .int i
  | .str x, _, h => by cases h; exact .str x
  | .list ds, _, h => by
    cases h with
    | lst h1 h2 => exact .lst h1 (DqAll.dp ds _ h2)
  | .tuple ds, _, h => by
    cases h with
    | tup h1 h2 => exact .tup h1.sq (DqAll.dp ds _ h2)
  | .dict _, _, h => by cases h
theorem DqAll.dp : ∀ (ds : List PyData) (vs : List V), DqAll K H vs ds → DpAll K H vs ds
  | [], _, h => by cases h; exact .nil
  | d :: ds, _, h => by
    cases h with
    | cons h1 h2 => exact .cons (Dq.dp d _ h1) (DqAll.dp ds _ h2)
end
theorem dqAll_strs : ∀ ns : List Str, DqAll K H (ns.map V.str) (ns.map PyData.str)
  | [] => .nil
  | n :: r => .cons (.str n) (dqAll_strs r)
theorem dqAll_len {ys : List V} {ds : List PyData} (h : DqAll K H ys ds) : ys.length = ds.length := dpAll_len (DqAll.dp _ _ h)
mutual
theorem Dq.keep0 (k : Kp [] H H') : ∀ (d : PyData) (v : V), Dq K H v d → Dq K H' v d
  | .none, _, h => by cases h; exact .non
  | .bool b, _, h => by cases h; exact .bl b
  | .int i, _, h => by cases h; exact .int i
  | .str x, _, h => by cases h; exact .str x
  | .list ds, _, h => by
    cases h with
    | lst h1 h2 => exact .lst (kp_sqL k (by simp) h1) (DqAll.keep0 k ds _ h2)
  | .tuple ds, _, h => by
    cases h with
    | tup h1 h2 => exact .tup (h1.keep0 k) (DqAll.keep0 k ds _ h2)
  | .dict _, _, h => by cases h
theorem DqAll.keep0 (k : Kp [] H H') : ∀ (ds : List PyData) (vs : List V), DqAll K H vs ds → DqAll K H' vs ds
  | [], _, h => by cases h; exact .nil
  | d :: ds, _, h => by
    cases h with
    | cons h1 h2 => exact .cons (Dq.keep0 k d _ h1) (DqAll.keep0 k ds _ h2)
end
mutual
theorem Dq.keepS (k : Kp S H H') (m : Mu H S) : ∀ (d : PyData) (v : V), noL d = true → Dq K H v d → Dq K H' v d
  | .none, _, _, h => by cases h; exact .non
  | .bool b, _, _, h => by cases h; exact .bl b
  | .int i, _, _, h => by cases h; exact .int i
  | .str x, _, _, h => by cases h; exact .str x
  | .list ds, _, n, h => by rw [noL] at n; cases n
  | .tuple ds, _, n, h => by
    rw [noL] at n
    cases h with
    | tup h1 h2 => exact .tup (h1.keepM k m) (DqAll.keepS k m ds _ n h2)
  | .dict _, _, _, h => by cases h
theorem DqAll.keepS (k : Kp S H H') (m : Mu H S) : ∀ (ds : List PyData) (vs : List V), noLs ds = true → DqAll K H vs ds → DqAll K H' vs ds
  | [], _, _, h => by cases h; exact .nil
  | d :: ds, _, n, h => by
    rw [noLs, Bool.and_eq_true] at n
    cases h with
    | cons h1 h2 => exact .cons (Dq.keepS k m d _ n.1 h1) (DqAll.keepS k m ds _ n.2 h2)
end
mutual
theorem shp_lay : ∀ d : PyData, shp d = true → d.canLay0 = true
  | .none, _ => by rw [PyData.canLay0]
  | .bool b, _ => by rw [PyData.canLay0]
  | .int i, _ => by rw [PyData.canLay0]
  | .str x, h => by rw [PyData.canLay0]; rw [shp] at h; exact h
  | .list ds, h => by rw [PyData.canLay0]; rw [shp] at h; exact shps_lay ds h
  | .tuple ds, h => by rw [PyData.canLay0]; rw [shp] at h; exact shps_lay ds h
  | .dict _, h => by rw [shp] at h; cases h
theorem shps_lay : ∀ ds : List PyData, shps ds = true → PyData.canLayAll0 ds = true
  | [], _ => by rw [PyData.canLayAll0]
  | d :: ds, h => by
    rw [shps, Bool.and_eq_true] at h
    rw [PyData.canLayAll0, shp_lay d h.1, shps_lay ds h.2]
    rfl
end
theorem shaped_of {d : PyData} (h : shp d = true) (n : d.depth ≤ 64) : PySem.SeqAt.shaped d = true := by
  rw [PySem.SeqAt.shaped, shp_lay d h]
  exact decide_eq_true n
theorem shps_mem : ∀ {ds : List PyData}, (∀ d ∈ ds, shp d = true) → shps ds = true
  | [], _ => by rw [shps]
  | d :: ds, h => by rw [shps, h d (List.mem_cons_self ..), shps_mem fun e m => h e (List.mem_cons_of_mem _ m)]; rfl
theorem noLs_mem : ∀ {ds : List PyData}, (∀ d ∈ ds, noL d = true) → noLs ds = true
  | [], _ => by rw [noLs]
  | d :: ds, h => by rw [noLs, h d (List.mem_cons_self ..), noLs_mem fun e m => h e (List.mem_cons_of_mem _ m)]; rfl
theorem depth_mem : ∀ {ds : List PyData} {n : Nat}, (∀ d ∈ ds, d.depth ≤ n) → PyData.depthAll ds ≤ n
  | [], n, _ => by rw [PyData.depthAll]; omega
  | d :: ds, n, h => by
    rw [PyData.depthAll]
    have := h d (List.mem_cons_self ..)
    have := depth_mem (ds := ds) (n := n) fun e m => h e (List.mem_cons_of_mem _ m)
    omega
/-! taken apart -/
theorem dp_int {v : V} {i : Int} (h : Dq K H v (.int i)) : v = .int i := by cases h; rfl
theorem dp_str {v : V} {i : Str} (h : Dq K H v (.str i)) : v = .str i := by cases h; rfl
theorem dp_tup {v : V} {ds : List PyData} (h : Dq K H v (.tuple ds)) : ∃ a xs, v = .ref a ∧ Tm H a xs ∧ DqAll K H xs ds := by
  cases h with
  | tup h1 h2 => exact ⟨_, _, rfl, h1, h2⟩
theorem dp_nil {xs : List V} (h : DqAll K H xs []) : xs = [] := by cases h; rfl
theorem dp_cons {xs : List V} {d : PyData} {ds : List PyData} (h : DqAll K H xs (d :: ds)) : ∃ v vs, xs = v :: vs ∧ Dq K H v d ∧ DqAll K H vs ds := by
  cases h with
  | cons h1 h2 => exact ⟨_, _, rfl, h1, h2⟩
theorem DqAll.append {xs ys : List V} {ds es : List PyData} (h : DqAll K H xs ds) (g : DqAll K H ys es) : DqAll K H (xs ++ ys) (ds ++ es) := by
  induction ds generalizing xs with
  | nil => cases h; exact g
  | cons d ds ih =>
    cases h with
    | cons h1 h2 => exact .cons h1 (ih h2)
theorem DqAll.at {xs : List V} {ds : List PyData} {i : Nat} {v : V} (h : DqAll K H xs ds) (e : xs[i]? = some v) : ∃ d, ds[i]? = some d ∧ Dq K H v d := by
  induction ds generalizing xs i with
  | nil => cases h; cases e
  | cons d ds ih =>
    cases h with
    | cons h1 h2 =>
      cases i with
      | zero => cases e; exact ⟨d, rfl, h1⟩
      | succ i => exact ih h2 e
theorem dpL_strs {l : Addr} {ns : List Str} (h : SqL K H l (ns.map V.str)) : Dq K H (.ref l) (.list (ns.map PyData.str)) := .lst h (dqAll_strs ns)
/-! compared with () and [] -/
variable {Q : VK}
theorem eqvAll_nil : ∀ ds : List PyData, PyData.eqvAll ds [] = ds.isEmpty
  | [] => by rw [PyData.eqvAll]; rfl
  | d :: ds => by rw [PyData.eqvAll]; rfl
theorem r_eqL0 {v : V} {e : Addr} {ds : List PyData} (h : Dq K H v (.list ds)) (s : shp (.list ds) = true) (n : (PyData.list ds).depth ≤ 64) (he : H e = some (.lst [])) (q : Q (.bl ds.isEmpty) H) : rEqD K v (.ref e) H Q :=
  ⟨_, _, Dq.dp _ _ h, .lst (.inl (.inl he)) .nil, shaped_of s n, by decide +kernel, by rw [PyData.eqv, eqvAll_nil]; exact q⟩
theorem r_neL0 {v : V} {e : Addr} {ds : List PyData} (h : Dq K H v (.list ds)) (s : shp (.list ds) = true) (n : (PyData.list ds).depth ≤ 64) (he : H e = some (.lst [])) (q : Q (.bl (!ds.isEmpty)) H) : rNeD K v (.ref e) H Q :=
  ⟨_, _, Dq.dp _ _ h, .lst (.inl (.inl he)) .nil, shaped_of s n, by decide +kernel, by rw [PyData.eqv, eqvAll_nil]; exact q⟩
theorem r_eqT0 {v : V} {e : Addr} {ds : List PyData} (h : Dq K H v (.tuple ds)) (s : shp (.tuple ds) = true) (n : (PyData.tuple ds).depth ≤ 64) (he : Tm H e []) (q : Q (.bl ds.isEmpty) H) : rEqD K v (.ref e) H Q :=
  ⟨_, _, Dq.dp _ _ h, .tup he.sq .nil, shaped_of s n, by decide +kernel, by rw [PyData.eqv, eqvAll_nil]; exact q⟩
theorem r_neT0 {v : V} {e : Addr} {ds : List PyData} (h : Dq K H v (.tuple ds)) (s : shp (.tuple ds) = true) (n : (PyData.tuple ds).depth ≤ 64) (he : Tm H e []) (q : Q (.bl (!ds.isEmpty)) H) : rNeD K v (.ref e) H Q :=
  ⟨_, _, Dq.dp _ _ h, .tup he.sq .nil, shaped_of s n, by decide +kernel, by rw [PyData.eqv, eqvAll_nil]; exact q⟩
/-! cells -/
theorem Cell.ok {c : Str} (h : Cell c) : PyData.strOk c = true := by
  rw [PyData.strOk, ← Array.all_toList, List.all_eq_true]
  intro x hx
  have := h.2.2 x hx
  exact decide_eq_true (by omega)
theorem Cells.shps {cs : List Str} (h : Cells cs) : shp (.list (cs.map PyData.str)) = true := by
  rw [shp]
  refine shps_mem fun d hd => ?_
  obtain ⟨c, hc, rfl⟩ := List.mem_map.mp hd
  rw [shp]
  exact (h.2 c hc).ok
theorem depth_strs (cs : List Str) : (PyData.list (cs.map PyData.str)).depth ≤ 1 := by
  rw [PyData.depth]
  have := depth_mem (ds := cs.map PyData.str) (n := 0) fun d hd => by
    obtain ⟨c, hc, rfl⟩ := List.mem_map.mp hd
    rw [PyData.depth]
    exact Nat.le_refl _
  omega
theorem Kp.dropT {S T : List Addr} {H H1 H2 : Hp} (k : Kp S H H1) (j : Kp T H1 H2) (h : ∀ a ∈ T, a ∈ S ∨ H a = none) : Kp S H H2 := fun a o n e => by
  refine j a o (fun z => ?_) (k a o n e)
  rcases h a z with q | q
  · exact n q
  · rw [q] at e
    cases e
theorem Kp.upd1 {S : List Addr} {H H1 : Hp} {p : Addr} {o : HO} (k : Kp S H H1) (h : p ∈ S ∨ H p = none) : Kp S H (L2.upd H1 p o) := Kp.dropT k (Kp.put (b := p)) fun a m => by
  have e : a = p := by simpa using m
  rw [e]
  exact h
theorem _root_.L2.Rx.Box.keepS {S : List Addr} {H H' : Hp} {b : Addr} {n : Nat} (B : Box H b n) (k : Kp S H H') (h : b ∉ S) : Box H' b n := by
  obtain ⟨o, s, c, e, r⟩ := B
  exact ⟨o, s, c, k b _ h e, r⟩
theorem _root_.L2.Rx.Box.mu {H : Hp} {b : Addr} {n : Nat} (B : Box H b n) : Mu H [b] := by
  obtain ⟨o, s, c, e, r⟩ := B
  exact Mu.lst e
theorem r_popAt {l : Addr} {xs : List V} {i : Int} {v : V} (h : H l = some (.lst xs)) (h0 : 0 ≤ i) (h1 : i < 1000000000) (e : xs[i.toNat]? = some v) (q : Q v (upd H l (.lst (xs.eraseIdx i.toNat)))) : rPopAt (.ref l) [.int i] H Q := by
  have hl : i.toNat < xs.length := (List.getElem?_eq_some_iff.mp e).1
  refine ⟨l, xs, i, i.toNat, v, rfl, rfl, h, by omega, by omega, ?_, e, q⟩
  simp [PySem.seqIndex?, show ¬ i < 0 by omega, h0]
  omega
theorem eraseIdx_map' {α β : Type} (f : α → β) : ∀ (xs : List α) (i : Nat), (xs.map f).eraseIdx i = (xs.eraseIdx i).map f
  | [], _ => rfl
  | x :: xs, 0 => rfl
  | x :: xs, i + 1 => by rw [List.map_cons, List.eraseIdx_cons_succ, List.eraseIdx_cons_succ, List.map_cons, eraseIdx_map' f xs i]
@[elab_as_elim] theorem gen_put {P : Hp → Prop} {H : Hp} {p : Addr} {o : HO} (h : ∀ H', Kp [p] H H' → H' p = some o → P H') : P (L2.upd H p o) := h _ Kp.put L2.upd_same
/-! ### trees -/
inductive Tr | lf | nd (c : Str) (bs : List (Int × Tr))
mutual
def Tr.d : Tr → PyData
  | .lf => .tuple []
  | .nd c bs => .tuple [.str c, .tuple (brd bs)]
def brd : List (Int × Tr) → List PyData
  | [] => []
  | (v, t) :: r => .tuple [.int v, t.d] :: brd r
end
theorem brd_eq : ∀ bs : List (Int × Tr), brd bs = bs.map fun p => .tuple [.int p.1, p.2.d]
  | [] => by rw [brd]; rfl
  | (v, t) :: r => by rw [brd, brd_eq r]; rfl
/-- a tree over these cells, each path of which is of at most n nodes -/
inductive Okt : Nat → List Str → Tr → Prop
  | lf (n : Nat) (cs : List Str) : Okt n cs .lf
  | nd {n : Nat} {cs cs' : List Str} {c : Str} {bs : List (Int × Tr)} : c ∈ cs → c ∉ cs' → (∀ x ∈ cs', x ∈ cs) → bs ≠ [] → bs.length ≤ 3 → (bs.map Prod.fst).Pairwise (· < ·) → (∀ p ∈ bs, 0 ≤ p.1 ∧ p.1 ≤ 1000000000) → (∀ p ∈ bs, Okt n cs' p.2) → Okt (n + 1) cs (.nd c bs)
theorem Okt.noL {n : Nat} {cs : List Str} {t : Tr} (h : Okt n cs t) : noL t.d = true := by
  induction h with
  | lf n cs => rw [Tr.d, Rx.noL, noLs]
  | nd h1 h2 h3 h4 h5 h6 h7 h8 ih =>
    rw [Tr.d, Rx.noL, noLs, noLs, noLs, Rx.noL, Rx.noL]
    rw [show noLs (brd _) = true from ?_]
    · rfl
    · refine noLs_mem fun d hd => ?_
      rw [brd_eq] at hd
      obtain ⟨p, hp, rfl⟩ := List.mem_map.mp hd
      rw [Rx.noL, noLs, noLs, noLs, Rx.noL, ih p hp]
      rfl
theorem Okt.shp {n : Nat} {cs : List Str} {t : Tr} (h : Okt n cs t) (hc : ∀ c ∈ cs, Cell c) : shp t.d = true := by
  induction h with
  | lf n cs => rw [Tr.d, Rx.shp, Rx.shps]
  | nd h1 h2 h3 h4 h5 h6 h7 h8 ih =>
    rw [Tr.d, Rx.shp, Rx.shps, Rx.shps, Rx.shps, Rx.shp, Rx.shp, (hc _ h1).ok]
    rw [show Rx.shps (brd _) = true from ?_]
    · rfl
    · refine shps_mem fun d hd => ?_
      rw [brd_eq] at hd
      obtain ⟨p, hp, rfl⟩ := List.mem_map.mp hd
      rw [Rx.shp, Rx.shps, Rx.shps, Rx.shps, Rx.shp, ih p hp fun c m => hc c (h3 c m)]
      rfl
theorem Okt.depth {n : Nat} {cs : List Str} {t : Tr} (h : Okt n cs t) : t.d.depth ≤ 3 * n + 1 := by
  induction h with
  | lf n cs => rw [Tr.d, PyData.depth, PyData.depthAll]; omega
  | @nd n cs cs' c bs h1 h2 h3 h4 h5 h6 h7 h8 ih =>
    rw [Tr.d, PyData.depth, PyData.depthAll, PyData.depthAll, PyData.depthAll, PyData.depth, PyData.depth]
    have : PyData.depthAll (brd bs) ≤ 3 * n + 2 := by
      refine depth_mem fun d hd => ?_
      rw [brd_eq] at hd
      obtain ⟨p, hp, rfl⟩ := List.mem_map.mp hd
      rw [PyData.depth, PyData.depthAll, PyData.depthAll, PyData.depthAll, PyData.depth]
      have := ih p hp
      omega
    omega
end
end L2.Rx

end
section
set_option Elab.async false
set_option linter.all false
set_option maxRecDepth 100000
set_option maxHeartbeats 4000000
local macro_rules | `(tactic| walk_at "rd1") => `(tactic| with_reducible first
  | refine L2.Rx.r_seq ?_ | refine L2.Rx.r_asg ?_ | refine L2.Rx.r_gname ?_ | refine L2.Rx.r_op ?_ | refine L2.Rx.r_c ?_
  | refine L2.Rx.r_var rfl ?_
  | refine L2.Rx.r_rI0 ?_ | refine L2.Rx.r_test ?_ | refine L2.Rx.r_bl ?_ | refine L2.Rx.r_if ?_ | refine L2.Rx.r_ret ?_
  | refine L2.Rx.r_cons ?_ | refine L2.Rx.r_nil ?_ | refine L2.Rx.r_call ?_ | refine L2.Rx.r_cb ?_ | refine L2.Rx.r_next ?_ | refine L2.Rx.r_drop ?_
  | refine L2.Rx.r_gsub ?_ | refine L2.Rx.r_tupF ?_ | refine L2.Rx.r_lst ?_ | refine L2.Rx.r_par ?_ | refine L2.Rx.r_par2 ?_
  | refine L2.Rx.r_un ?_ | refine L2.Rx.r_tb ?_ | refine L2.Rx.r_and ?_ | refine L2.Rx.r_or ?_ | refine L2.Rx.r_not ?_
  | refine L2.Rx.r_andV ?_ | refine L2.Rx.r_orV ?_ | refine L2.Rx.r_notV ?_ | refine L2.Rx.r_ifx ?_ | refine L2.Rx.r_chain ?_
  | refine L2.Rx.r_sl ?_ | refine L2.Rx.r_nopart ?_ | refine L2.Rx.r_part ?_ | refine L2.Rx.r_exint ?_ | refine L2.Rx.r_bm0 ?_ | refine L2.Rx.r_bm ?_
  | refine L2.Rx.r_lc ?_ | refine L2.Rx.r_rng1 ?_ | refine L2.Rx.r_yes ?_ | refine L2.Rx.r_tt ?_ | refine L2.Rx.r_ff ?_ | refine L2.Rx.r_m1 ?_ | refine L2.Rx.r_m0 ?_ | refine L2.Rx.r_isS ?_
  | (refine L2.Rx.r_wipe (by with_unfolding_all rfl) ?_) | (refine L2.Rx.r_tyL (by walk_at "hp") ?_)
  | refine L2.Rx.r_addS (by walk_at "len") ?_ | refine L2.Rx.r_lenS (by walk_at "len") ?_ | refine L2.Rx.r_slS (by walk_at "len") ?_
  | refine L2.Rx.r_dnotin ?_ | refine L2.Rx.r_dget ?_ | refine L2.Rx.r_dget1 ?_ | refine L2.Rx.r_dput ?_ | refine L2.Rx.r_dpop1 ?_ | refine L2.Rx.r_isN ?_
  | refine L2.Rx.r_for ?_ | refine L2.Rx.r_ilist ?_ | refine L2.Rx.r_itup ?_
  | refine L2.Rx.r_gcons ?_ | refine L2.Rx.r_gnil ?_ | (refine L2.Rx.r_gtupP (by assumption) (by walk_at "at") ?_)
  | (refine L2.Rx.r_rEq rfl ?_) | (refine L2.Rx.r_rNe rfl ?_)
  | refine L2.Rx.r_rU ?_ | refine L2.Rx.r_max2 ?_ | refine L2.Rx.r_min2 ?_ | refine L2.Rx.r_int1i ?_ | (refine L2.Rx.r_lenh (by walk_at "hp") ?_)
  | (refine L2.Rx.r_ixLh (by walk_at "hp") (by walk_at "at") ?_)
  | (refine L2.Rx.r_setL (by walk_at "hp") (by walk_at "at") ?_))
local macro_rules | `(tactic| walk_at "at") => `(tactic| with_unfolding_all rfl)
local macro_rules | `(tactic| walk_at "rd") => `(tactic| (repeat walk_at "rd1"))
local macro_rules | `(tactic| walk_at "hp") => `(tactic| first
  | assumption
  | exact L2.upd_same
  | (refine Eq.trans (L2.upd_ne ?_) ?_; (focus walk_at "ne"); (focus walk_at "hp"))
  | (refine L2.Rx.Kp.at0 (by assumption) ?_; walk_at "hp")
  | (refine L2.Rx.Kp.at1 (by assumption) ?_ ?_; (focus walk_at "ne"); (focus walk_at "hp")))
local macro_rules | `(tactic| walk_at "ne") => `(tactic| first
  | assumption | exact Ne.symm (by assumption)
  | (refine L2.ne_of_none (H := ?nH) (o := ?nO) ?nh ?nn; (case nn => assumption); (case nh => walk_at "hp"))
  | (refine Ne.symm (L2.ne_of_none (H := ?nH) (o := ?nO) ?nh ?nn); (case nn => assumption); (case nh => walk_at "hp")))
local macro_rules | `(tactic| walk_at "len") => `(tactic| (rw [PySem.sizeLine_eq]; omega))
local macro_rules | `(tactic| walk_at "nin") => `(tactic| first
  | exact List.not_mem_nil
  | (refine L2.Rx.nin1 ?_; walk_at "ne"))
local macro_rules | `(tactic| walk_at "none") => `(tactic| first
  | assumption
  | (refine L2.Rx.Kp.none0 (by assumption) ?_ ?_; (focus walk_at "nin"); (focus walk_at "none")))
namespace L2.Rx
open PySem PySem.Spec PyProof.Rows
theorem perm_map_lift {α β : Type} {f : α → β} {bs cs : List β} (h : bs.Perm cs) : ∀ {zs : List α}, cs = zs.map f → ∃ zs' : List α, zs'.Perm zs ∧ bs = zs'.map f := by
  induction h with
  | nil =>
    intro zs e
    exact ⟨zs, List.Perm.refl _, e⟩
  | @cons x l1 l2 h ih =>
    intro zs e
    cases zs with
    | nil => cases e
    | cons z zs =>
      injection e with e1 e2
      obtain ⟨zs', p, e3⟩ := ih e2
      exact ⟨z :: zs', p.cons z, by rw [List.map_cons, e1, e3]⟩
  | @swap x y l =>
    intro zs e
    cases zs with
    | nil => cases e
    | cons z zs =>
      injection e with e1 e2
      cases zs with
      | nil => cases e2
      | cons z2 zs =>
        injection e2 with e2 e3
        exact ⟨z2 :: z :: zs, List.Perm.swap _ _ _, by rw [List.map_cons, List.map_cons, e1, e2, e3]⟩
  | trans h1 h2 ih1 ih2 =>
    intro zs e
    obtain ⟨zs', p, e2⟩ := ih2 e
    obtain ⟨zs'', p2, e3⟩ := ih1 e2
    exact ⟨zs'', p2.trans p, e3⟩
section
variable {K : PySem.W.Frag} {H H' : Hp} {Q : VK} {σ : St}
theorem dpAll_mem {ys : List V} {ds : List PyData} : DqAll K H ys ds → ∀ z ∈ ds.zip ys, Dq K H z.2 z.1 := by
  intro h
  induction ds generalizing ys with
  | nil => intro z hz; cases h; cases hz
  | cons d ds ih =>
    intro z hz
    cases h with
    | cons h1 h2 =>
      rw [List.zip_cons_cons] at hz
      rcases List.mem_cons.mp hz with e | e
      · rw [e]
        exact h1
      · exact ih h2 z e
theorem dpAll_of {zs : List (PyData × V)} (h : ∀ z ∈ zs, Dq K H z.2 z.1) : DqAll K H (zs.map Prod.snd) (zs.map Prod.fst) := by
  induction zs with
  | nil => exact .nil
  | cons z zs ih => exact .cons (h z (List.mem_cons_self ..)) (ih fun y m => h y (List.mem_cons_of_mem _ m))
/-- sorted of data that stand for things of Lean -/
theorem r_sortD {α : Type} {enc : α → PyData} {a : Addr} {ys : List V} {as : List α} (hs : SqL K H a ys ∨ SqT K H a ys) (hd : DqAll K H ys (as.map enc)) (sb : Sb (as.map enc))
    (h : ∀ (p : Addr) (bs : List α) (ys' : List V), bs.Perm as → bs.Pairwise (fun x y => PySem.W.dataLt (enc y) (enc x) = false) → DqAll K H ys' (bs.map enc) → H p = none → Q (.ref p) (upd H p (.lst ys'))) : rSortV K [.ref a] H Q := by
  refine r_sort hs (DqAll.dp _ _ hd) sb fun p zs hp hw np => ?_
  have hl : ys.length = (as.map enc).length := dqAll_len hd
  have e1 : (zs.map Prod.fst).Perm (as.map enc) := by
    have := hp.map Prod.fst
    rw [zip_fst _ _ hl] at this
    exact this
  obtain ⟨bs, pb, eb⟩ := perm_map_lift e1 rfl
  refine h p bs _ pb ?_ ?_ np
  · have : (zs.map Prod.fst).Pairwise (fun a b => PySem.W.dataLt b a = false) := by
      rw [List.pairwise_map]
      exact hw
    rw [eb, List.pairwise_map] at this
    exact this
  · rw [← eb]
    exact dpAll_of fun z hz => dpAll_mem hd z (hp.mem_iff.mp hz)
theorem r_extend {l b : Addr} {xs zs : List V} (h : H l = some (.lst xs)) (g : H b = some (.lst zs)) (z : xs.length + zs.length ≤ 1000000) (q : Q .non (upd H l (.lst (xs ++ zs)))) : rExtend (.ref l) [.ref b] H Q :=
  ⟨l, b, xs, zs, rfl, rfl, h, g, by rw [sizeLine_eq]; omega, q⟩
theorem r_pop {l : Addr} {xs : List V} {y : V} (h : H l = some (.lst (xs ++ [y]))) (q : Q y (upd H l (.lst xs))) : rPop (.ref l) [] H Q := by
  refine ⟨l, xs ++ [y], y, rfl, rfl, h, ?_, ?_⟩
  · rw [List.length_append, List.length_singleton, Nat.add_sub_cancel, List.getElem?_append_right (Nat.le_refl _), Nat.sub_self]
    rfl
  · rw [List.dropLast_concat]
    exact q
theorem r_ixT {p : Addr} {xs : List V} {i : Int} {v : V} (h : SqT K H p xs) (a : atI xs i = some v) (q : Q v H) : rIxT K (.ref p) (.int i) H Q := ⟨p, xs, i, v, rfl, rfl, h, a, q⟩
theorem r_while {c : TT} {tb : TS} {D : Ends} (h : ∃ W : Nat → St → Hp → Prop, (∃ m, W m σ H) ∧ ∀ m σ H, W m σ H →
  c σ H fun b H1 => if b = true then ∃ N : St → Hp → Prop, (∀ σ' H', N σ' H' → ∃ m', m' < m ∧ W m' σ' H') ∧ tb { D with nx := N, ct := N, bk := D.nx } σ H1 else D.nx σ H1) : tWhile c tb D σ H := h
/-! ### pairs, logs, paths -/
def prD (z : Str × Int) : PyData := .tuple [.str z.1, .int z.2]
def logD (l : List (Str × Int)) : PyData := .tuple (l.map prD)
mutual
def Tr.paths : Tr → List (List (Str × Int))
  | .lf => [[]]
  | .nd c bs => brp c bs
def brp (c : Str) : List (Int × Tr) → List (List (Str × Int))
  | [] => []
  | (v, t) :: r => t.paths.map ((c, v) :: ·) ++ brp c r
end
mutual
def Tr.size : Tr → Nat
  | .lf => 1
  | .nd _ bs => 1 + brz bs
def brz : List (Int × Tr) → Nat
  | [] => 0
  | (_, t) :: r => t.size + brz r
end
theorem brp_eq (c : Str) : ∀ bs : List (Int × Tr), brp c bs = bs.flatMap fun z => z.2.paths.map ((c, z.1) :: ·)
  | [] => by rw [brp]; rfl
  | (v, t) :: r => by rw [brp, brp_eq c r]; rfl
theorem brz_eq : ∀ bs : List (Int × Tr), brz bs = (bs.map fun z => z.2.size).sum
  | [] => by rw [brz]; rfl
  | (v, t) :: r => by rw [brz, brz_eq r, List.map_cons, List.sum_cons]
theorem Okt.paths_pos {n : Nat} {cs : List Str} {t : Tr} (h : Okt n cs t) : 1 ≤ t.paths.length := by
  induction h with
  | lf n cs => rw [Tr.paths]; exact Nat.le_refl _
  | @nd n cs cs' c bs h1 h2 h3 h4 h5 h6 h7 h8 ih =>
    cases bs with
    | nil => exact absurd rfl h4
    | cons z r =>
      obtain ⟨v, t⟩ := z
      rw [Tr.paths, brp, List.length_append, List.length_map]
      have := ih (v, t) (List.mem_cons_self ..)
      show 1 ≤ t.paths.length + _
      have : 1 ≤ t.paths.length := this
      omega
theorem Okt.paths_le {n : Nat} {cs : List Str} {t : Tr} (h : Okt n cs t) : t.paths.length ≤ 3 ^ n := by
  induction h with
  | lf n cs => rw [Tr.paths]; exact Nat.one_le_pow _ _ (by decide)
  | @nd n cs cs' c bs h1 h2 h3 h4 h5 h6 h7 h8 ih =>
    have : ∀ r : List (Int × Tr), (∀ z ∈ r, z.2.paths.length ≤ 3 ^ n) → (brp c r).length ≤ r.length * 3 ^ n := by
      intro r
      induction r with
      | nil => intro _; rw [brp]; simp
      | cons z r ihr =>
        intro hz
        obtain ⟨v, t⟩ := z
        rw [brp, List.length_append, List.length_map, List.length_cons, Nat.succ_mul]
        have a := ihr fun y m => hz y (List.mem_cons_of_mem _ m)
        have b : t.paths.length ≤ 3 ^ n := hz (v, t) (List.mem_cons_self ..)
        omega
    have a := this bs ih
    have b : bs.length * 3 ^ n ≤ 3 * 3 ^ n := Nat.mul_le_mul_right _ h5
    rw [Tr.paths, Nat.pow_succ]
    omega
theorem pair_noL (z : Str × Int) : noL (prD z) = true := by rw [prD, noL, noLs, noLs, noLs, noL, noL]; rfl
theorem log_noL (l : List (Str × Int)) : noL (logD l) = true := by
  rw [logD, noL]
  refine noLs_mem fun d hd => ?_
  obtain ⟨z, _, rfl⟩ := List.mem_map.mp hd
  exact pair_noL z
theorem pair_depth (z : Str × Int) : (prD z).depth = 1 := by
  rw [prD, PyData.depth, PyData.depthAll, PyData.depthAll, PyData.depthAll, PyData.depth, PyData.depth]
  rfl
theorem log_depth (l : List (Str × Int)) : (logD l).depth ≤ 2 := by
  rw [logD, PyData.depth]
  have := depth_mem (ds := l.map prD) (n := 1) fun d hd => by
    obtain ⟨z, _, rfl⟩ := List.mem_map.mp hd
    rw [pair_depth]
    exact Nat.le_refl _
  omega
theorem pair_alike (x y : Str × Int) : PySem.W.alike (prD x) (prD y) = true := by
  simp [prD, PySem.W.alike, PySem.W.alikeAll]
theorem pairs_alikeAll : ∀ l m : List (Str × Int), PySem.W.alikeAll (l.map prD) (m.map prD) = true
  | [], _ => by rw [List.map_nil, PySem.W.alikeAll]
  | _ :: _, [] => by rw [List.map_cons, List.map_nil, PySem.W.alikeAll]
  | x :: l, y :: m => by rw [List.map_cons, List.map_cons, PySem.W.alikeAll, pair_alike, pairs_alikeAll l m]; rfl
theorem log_alike (l m : List (Str × Int)) : PySem.W.alike (logD l) (logD m) = true := by
  rw [logD, logD, PySem.W.alike]
  exact pairs_alikeAll l m
theorem sb_pairs (l : List (Str × Int)) : Sb (l.map prD) := by
  refine ⟨PySem.W.AllAlike.of fun _ _ => pair_alike _ _, fun d hd => ?_, .inl (PySem.W.Sortable.tuples fun z => ⟨_, _, rfl⟩)⟩
  obtain ⟨z, _, rfl⟩ := List.mem_map.mp hd
  exact ⟨by rw [pair_depth]; decide, by rw [prD]; exact fun z => nomatch z⟩
theorem sb_logs (ls : List (List (Str × Int))) (h : (∀ l ∈ ls, l ≠ []) ∨ ls.length < 2) : Sb (ls.map logD) := by
  refine ⟨PySem.W.AllAlike.of fun _ _ => log_alike _ _, fun d hd => ?_, ?_⟩
  · obtain ⟨z, _, rfl⟩ := List.mem_map.mp hd
    exact ⟨Nat.le_trans (log_depth z) (by decide), by rw [logD]; exact fun z => nomatch z⟩
  · rcases h with h | h
    · refine .inl (.inl fun d hd => ?_)
      obtain ⟨l, hl, rfl⟩ := List.mem_map.mp hd
      cases l with
      | nil => exact absurd rfl (h _ hl)
      | cons z r => exact ⟨prD z, r.map prD, rfl⟩
    · right
      rw [List.length_map]
      exact h
end
end L2.Rx

end
section
set_option Elab.async false
set_option linter.all false
set_option maxRecDepth 100000
set_option maxHeartbeats 4000000
local macro_rules | `(tactic| walk_at "rd1") => `(tactic| with_reducible first
  | refine L2.Rx.r_seq ?_ | refine L2.Rx.r_asg ?_ | refine L2.Rx.r_gname ?_ | refine L2.Rx.r_op ?_ | refine L2.Rx.r_c ?_
  | refine L2.Rx.r_var rfl ?_
  | refine L2.Rx.r_rI0 ?_ | refine L2.Rx.r_test ?_ | refine L2.Rx.r_bl ?_ | refine L2.Rx.r_if ?_ | refine L2.Rx.r_ret ?_
  | refine L2.Rx.r_cons ?_ | refine L2.Rx.r_nil ?_ | refine L2.Rx.r_call ?_ | refine L2.Rx.r_cb ?_ | refine L2.Rx.r_next ?_ | refine L2.Rx.r_drop ?_
  | refine L2.Rx.r_gsub ?_ | refine L2.Rx.r_tupF ?_ | refine L2.Rx.r_lst ?_ | refine L2.Rx.r_par ?_ | refine L2.Rx.r_par2 ?_
  | refine L2.Rx.r_un ?_ | refine L2.Rx.r_tb ?_ | refine L2.Rx.r_and ?_ | refine L2.Rx.r_or ?_ | refine L2.Rx.r_not ?_
  | refine L2.Rx.r_andV ?_ | refine L2.Rx.r_orV ?_ | refine L2.Rx.r_notV ?_ | refine L2.Rx.r_ifx ?_ | refine L2.Rx.r_chain ?_
  | refine L2.Rx.r_sl ?_ | refine L2.Rx.r_nopart ?_ | refine L2.Rx.r_part ?_ | refine L2.Rx.r_exint ?_ | refine L2.Rx.r_bm0 ?_ | refine L2.Rx.r_bm ?_
  | refine L2.Rx.r_lc ?_ | refine L2.Rx.r_rng1 ?_ | refine L2.Rx.r_yes ?_ | refine L2.Rx.r_tt ?_ | refine L2.Rx.r_ff ?_ | refine L2.Rx.r_m1 ?_ | refine L2.Rx.r_m0 ?_ | refine L2.Rx.r_isS ?_
  | (refine L2.Rx.r_wipe (by with_unfolding_all rfl) ?_) | (refine L2.Rx.r_tyL (by walk_at "hp") ?_)
  | refine L2.Rx.r_addS (by walk_at "len") ?_ | refine L2.Rx.r_lenS (by walk_at "len") ?_ | refine L2.Rx.r_slS (by walk_at "len") ?_
  | refine L2.Rx.r_dnotin ?_ | refine L2.Rx.r_dget ?_ | refine L2.Rx.r_dget1 ?_ | refine L2.Rx.r_dput ?_ | refine L2.Rx.r_dpop1 ?_ | refine L2.Rx.r_isN ?_
  | refine L2.Rx.r_for ?_ | refine L2.Rx.r_ilist ?_ | refine L2.Rx.r_itup ?_
  | refine L2.Rx.r_gcons ?_ | refine L2.Rx.r_gnil ?_ | (refine L2.Rx.r_gtupP (by assumption) (by walk_at "at") ?_)
  | (refine L2.Rx.r_rEq rfl ?_) | (refine L2.Rx.r_rNe rfl ?_)
  | refine L2.Rx.r_rU ?_ | refine L2.Rx.r_max2 ?_ | refine L2.Rx.r_min2 ?_ | refine L2.Rx.r_int1i ?_ | (refine L2.Rx.r_lenh (by walk_at "hp") ?_)
  | (refine L2.Rx.r_ixLh (by walk_at "hp") (by walk_at "at") ?_)
  | (refine L2.Rx.r_setL (by walk_at "hp") (by walk_at "at") ?_))
local macro_rules | `(tactic| walk_at "at") => `(tactic| with_unfolding_all rfl)
local macro_rules | `(tactic| walk_at "rd") => `(tactic| (repeat walk_at "rd1"))
local macro_rules | `(tactic| walk_at "hp") => `(tactic| first
  | assumption
  | exact L2.upd_same
  | (refine Eq.trans (L2.upd_ne ?_) ?_; (focus walk_at "ne"); (focus walk_at "hp"))
  | (refine L2.Rx.Kp.at0 (by assumption) ?_; walk_at "hp")
  | (refine L2.Rx.Kp.at1 (by assumption) ?_ ?_; (focus walk_at "ne"); (focus walk_at "hp")))
local macro_rules | `(tactic| walk_at "ne") => `(tactic| first
  | assumption | exact Ne.symm (by assumption)
  | (refine L2.ne_of_none (H := ?nH) (o := ?nO) ?nh ?nn; (case nn => assumption); (case nh => walk_at "hp"))
  | (refine Ne.symm (L2.ne_of_none (H := ?nH) (o := ?nO) ?nh ?nn); (case nn => assumption); (case nh => walk_at "hp")))
local macro_rules | `(tactic| walk_at "len") => `(tactic| (rw [PySem.sizeLine_eq]; omega))
local macro_rules | `(tactic| walk_at "nin") => `(tactic| first
  | exact List.not_mem_nil
  | (refine L2.Rx.nin1 ?_; walk_at "ne"))
local macro_rules | `(tactic| walk_at "none") => `(tactic| first
  | assumption
  | (refine L2.Rx.Kp.none0 (by assumption) ?_ ?_; (focus walk_at "nin"); (focus walk_at "none")))
namespace L2.Rx
open PySem PySem.Spec PyProof.Rows
theorem ms_1 {X : Cx} {o : Expr} {m : Str} {apos : Pos} {e : Expr} {cpos : Pos} (h1 : attributeBase o m X.env (eval o X.env) = eval o X.env := by rfl)
    (h2 : ((backTo cpos (starEach [e] X.env)).all (fun x => !x.1) && (backToKw cpos (keywordEach [] X.env)).all (fun x => x.1.isSome) && decide (([e] : List Expr).length + ([] : List Keyword).length + (if ([] : List Keyword).isEmpty then 0 else 1) < 30)) = true := by rfl)
    (h3 : (apos.endLine == cpos.line) = true := by rfl) (h4 : backTo cpos (starEach [e] X.env) = [(false, eval e X.env)] := by rfl) : M1 X o m apos e cpos := ⟨h1, h2, h3, h4⟩
/-! ### dicts, in words -/
section
variable {σ : St} {H : Hp} {Q : VK} {K : PySem.W.Frag}
theorem r_dnotin {ty td : TE} (h : ty σ H fun y H1 => td σ H1 fun x H2 => ∃ a o, x = .ref a ∧ DGet H2 a y o ∧ Q (.bl (!o.isSome)) H2) : tDNotIn ty td σ H Q := h
theorem r_dget {ty td : TE} (h : td σ H fun x H1 => ty σ H1 fun y H2 => ∃ a v, x = .ref a ∧ DGet H2 a y (some v) ∧ Q v H2) : tDGet td ty σ H Q := h
theorem r_dget1 {ty td : TE} (h : td σ H fun x H1 => ∃ a, x = .ref a ∧ IsD H1 a ∧ ty σ H1 fun y H2 => ∃ o, DGet H2 a y o ∧ Q (o.getD .non) H2) : tDGet1 td ty σ H Q := h
theorem r_dhas {a : Addr} {kvs : List (Key × V)} {c : Str} {q : Option V → Prop} (e : H a = some (.dK kvs)) (h : q (valV kvs (.inr c))) : ∃ a' o, V.ref a = .ref a' ∧ DGet H a' (.str c) o ∧ q o := ⟨a, _, rfl, DGet.k (k := .inr c) e, h⟩
theorem r_dat {a : Addr} {kvs : List (Key × V)} {c : Str} {v : V} {q : V → Prop} (e : H a = some (.dK kvs)) (g : valV kvs (.inr c) = some v) (h : q v) : ∃ a' v, V.ref a = .ref a' ∧ DGet H a' (.str c) (some v) ∧ q v := by
  refine ⟨a, v, rfl, ?_, h⟩
  rw [← g]
  exact DGet.k (k := .inr c) e
theorem r_dref {a : Addr} {kvs : List (Key × V)} {q : Addr → Prop} (e : H a = some (.dK kvs)) (h : q a) : ∃ a', V.ref a = .ref a' ∧ IsD H a' ∧ q a' := ⟨a, rfl, .inl ⟨kvs, .inl e⟩, h⟩
theorem r_dgetI {a : Addr} {kvs : List (Key × V)} {i : Int} {q : Option V → Prop} (e : H a = some (.dK kvs)) (h : q (valV kvs (.inl i))) : ∃ o, DGet H a (.int i) o ∧ q o := ⟨_, DGet.k (k := .inl i) e, h⟩
theorem r_isN {A : Prop} (h : A) : V.non = V.non ∧ A := ⟨rfl, h⟩
end
theorem mergeK_app : ∀ (kvs acc : List (Key × V)), ((acc ++ kvs).map Prod.fst).Nodup → mergeK acc kvs = acc ++ kvs
  | [], acc, _ => by rw [List.append_nil]; rfl
  | kv :: kvs, acc, h => by
    have e : putK acc kv.1 kv.2 = acc ++ [kv] := by
      unfold putK
      rw [if_neg]
      intro z
      obtain ⟨x, hx, e⟩ := List.any_eq_true.mp z
      have e' := of_decide_eq_true e
      rw [List.map_append, List.nodup_append] at h
      exact h.2.2 x.1 (List.mem_map_of_mem hx) kv.1 (List.mem_map_of_mem (List.mem_cons_self ..)) e'
    show mergeK (putK acc kv.1 kv.2) kvs = _
    rw [e, mergeK_app kvs (acc ++ [kv]) (by rw [List.append_assoc]; exact h), List.append_assoc]
    rfl
theorem mergeK_nd {kvs : List (Key × V)} (h : (kvs.map Prod.fst).Nodup) : mergeK [] kvs = kvs := mergeK_app kvs [] h
/-! ### a run of a reader -/
def lookB (bs : List (Int × Tr)) (i : Int) : Option Tr := (bs.find? fun z => decide (z.1 = i)).map (·.2)
def run (env : Str → Option Int) : Nat → Tr → List Str → Str × List Str × Option Str
  | 0, _, acc => (Str.ofString "done", acc, none)
  | _ + 1, .lf, acc => (Str.ofString "done", acc, none)
  | n + 1, .nd c bs, acc => match env c with
    | none => (Str.ofString "unknown", acc, some c)
    | some i => match lookB bs i with
      | none => (Str.ofString "open", acc ++ [c], some c)
      | some t => run env n t (acc ++ [c])
def resD (r : Str × List Str × Option Str) : PyData := .tuple [.str r.1, .tuple (r.2.1.map PyData.str), match r.2.2 with | none => .none | some c => .str c]
theorem run_lf (env : Str → Option Int) (n : Nat) (acc : List Str) : run env n .lf acc = (Str.ofString "done", acc, none) := by
  cases n <;> rfl
theorem run_u {env : Str → Option Int} {n : Nat} {c : Str} {bs : List (Int × Tr)} {acc : List Str} (h : env c = none) : run env (n + 1) (.nd c bs) acc = (Str.ofString "unknown", acc, some c) := by
  rw [run, h]
theorem run_o {env : Str → Option Int} {n : Nat} {c : Str} {bs : List (Int × Tr)} {acc : List Str} {i : Int} (h : env c = some i) (g : lookB bs i = none) : run env (n + 1) (.nd c bs) acc = (Str.ofString "open", acc ++ [c], some c) := by
  rw [run, h]
  simp only [g]
theorem run_g {env : Str → Option Int} {n : Nat} {c : Str} {bs : List (Int × Tr)} {acc : List Str} {i : Int} {t : Tr} (h : env c = some i) (g : lookB bs i = some t) : run env (n + 1) (.nd c bs) acc = run env n t (acc ++ [c]) := by
  rw [run, h]
  simp only [g]
/-- what a dict of ints says of a cell -/
def envK (kvs : List (Key × V)) (c : Str) : Option Int := match valV kvs (.inr c) with
  | some (.int i) => some i
  | _ => none
def IntVals (kvs : List (Key × V)) : Prop := ∀ k v, valV kvs k = some v → ∃ i, v = .int i
theorem env_none {kvs : List (Key × V)} {c : Str} (h : valV kvs (.inr c) = none) : envK kvs c = none := by
  unfold envK
  rw [h]
theorem env_some {kvs : List (Key × V)} {c : Str} {i : Int} (h : valV kvs (.inr c) = some (.int i)) : envK kvs c = some i := by
  unfold envK
  rw [h]
theorem lookB_mem {bs : List (Int × Tr)} {i : Int} {t : Tr} (h : lookB bs i = some t) : ∃ z ∈ bs, z.1 = i ∧ z.2 = t := by
  unfold lookB at h
  cases e : bs.find? fun z => decide (z.1 = i) with
  | none => rw [e] at h; cases h
  | some z =>
    rw [e] at h
    exact ⟨z, List.mem_of_find?_eq_some e, of_decide_eq_true (List.find?_some (p := fun z : Int × Tr => decide (z.1 = i)) e), Option.some.inj h⟩
theorem brs_pairs {K : PySem.W.Frag} {H : Hp} : ∀ {bs : List (Int × Tr)} {bys : List V}, DqAll K H bys (brd bs) → ∃ (ps : List Addr) (kvs : List (Key × V)), bys = ps.map V.ref ∧ Paired (fun p kv => SqT K H p [kV kv.1, kv.2]) ps kvs ∧ kvs.map Prod.fst = bs.map (fun z => .inl z.1) ∧
    ∀ i, (valV kvs (.inl i) = none ∧ lookB bs i = none) ∨ ∃ a t, valV kvs (.inl i) = some (.ref a) ∧ lookB bs i = some t ∧ Dq K H (.ref a) t.d
  | [], bys, h => by
    rw [brd] at h
    obtain rfl := dp_nil h
    exact ⟨[], [], rfl, .nil, rfl, fun i => .inl ⟨rfl, rfl⟩⟩
  | (v, t) :: r, bys, h => by
    rw [brd] at h
    obtain ⟨x, vs, rfl, dx, dr⟩ := dp_cons h
    obtain ⟨ps, kvs, e1, pr, ek, look⟩ := brs_pairs dr
    obtain ⟨a, _, rfl, sa, d1⟩ := dp_tup dx
    obtain ⟨y, _, rfl, dv, d2⟩ := dp_cons d1
    obtain rfl := dp_int dv
    obtain ⟨w, _, rfl, dw, d3⟩ := dp_cons d2
    obtain rfl := dp_nil d3
    obtain ⟨wa, rfl⟩ : ∃ wa, w = .ref wa := by
      cases t with
      | lf => rw [Tr.d] at dw; obtain ⟨a, _, e, _⟩ := dp_tup dw; exact ⟨a, e⟩
      | nd c bs => rw [Tr.d] at dw; obtain ⟨a, _, e, _⟩ := dp_tup dw; exact ⟨a, e⟩
    refine ⟨a :: ps, (.inl v, .ref wa) :: kvs, by rw [e1]; rfl, .cons sa.sq pr, by rw [List.map_cons, List.map_cons, ek], fun i => ?_⟩
    by_cases hv : v = i
    · subst hv
      exact .inr ⟨wa, t, by simp [valV], by simp [lookB], dw⟩
    · have h1 : valV ((Sum.inl v, V.ref wa) :: kvs) (.inl i) = valV kvs (.inl i) := by simp [valV, hv]
      have h2 : lookB ((v, t) :: r) i = lookB r i := by simp [lookB, hv]
      rw [h1, h2]
      exact look i
/-- dict(l), l the pairs of a log -/
def kvsL (l : List (Str × Int)) : List (Key × V) := l.map fun z => (.inr z.1, .int z.2)
theorem log_pairs {K : PySem.W.Frag} {H : Hp} : ∀ {l : List (Str × Int)} {ys : List V}, DqAll K H ys (l.map prD) → ∃ ps : List Addr, ys = ps.map V.ref ∧ Paired (fun p kv => SqT K H p [kV kv.1, kv.2]) ps (kvsL l)
  | [], ys, h => by
    obtain rfl := dp_nil h
    exact ⟨[], rfl, .nil⟩
  | z :: r, ys, h => by
    obtain ⟨x, vs, rfl, dx, dr⟩ := dp_cons h
    obtain ⟨ps, e1, pr⟩ := log_pairs dr
    obtain ⟨a, _, rfl, sa, d1⟩ := dp_tup dx
    obtain ⟨y, _, rfl, dv, d2⟩ := dp_cons d1
    obtain rfl := dp_str dv
    obtain ⟨w, _, rfl, dw, d3⟩ := dp_cons d2
    obtain rfl := dp_int dw
    obtain rfl := dp_nil d3
    exact ⟨a :: ps, by rw [e1]; rfl, .cons sa.sq pr⟩
theorem putK_int {kvs : List (Key × V)} {k : Key} {i : Int} (h : ∀ kv ∈ kvs, ∃ i, kv.2 = V.int i) : ∀ kv ∈ putK kvs k (.int i), ∃ i, kv.2 = V.int i := by
  intro kv hkv
  unfold putK at hkv
  split at hkv
  · obtain ⟨x, hx, rfl⟩ := List.mem_map.mp hkv
    split
    · exact ⟨i, rfl⟩
    · exact h x hx
  · rcases List.mem_append.mp hkv with q | q
    · exact h kv q
    · have e : kv = (k, .int i) := by simpa using q
      subst e
      exact ⟨i, rfl⟩
theorem mergeK_int : ∀ {more kvs : List (Key × V)}, (∀ kv ∈ kvs, ∃ i, kv.2 = V.int i) → (∀ kv ∈ more, ∃ i, kv.2 = V.int i) → ∀ kv ∈ mergeK kvs more, ∃ i, kv.2 = V.int i
  | [], kvs, h, _ => h
  | m :: more, kvs, h, g => by
    obtain ⟨i, e⟩ := g m (List.mem_cons_self ..)
    show ∀ kv ∈ mergeK (putK kvs m.1 m.2) more, _
    rw [e]
    exact mergeK_int (putK_int h) fun kv q => g kv (List.mem_cons_of_mem _ q)
theorem intVals_of {kvs : List (Key × V)} (h : ∀ kv ∈ kvs, ∃ i, kv.2 = V.int i) : IntVals kvs := by
  intro k v e
  unfold valV at e
  cases f : kvs.find? fun kv => decide (kv.1 = k) with
  | none => rw [f] at e; cases e
  | some kv =>
    rw [f] at e
    obtain ⟨i, q⟩ := h kv (List.mem_of_find?_eq_some f)
    exact ⟨i, by rw [← q]; exact (Option.some.inj e).symm⟩
theorem intVals_log (l : List (Str × Int)) : IntVals (mergeK [] (kvsL l)) := intVals_of (mergeK_int (fun _ h => nomatch h) fun kv h => by
  obtain ⟨z, _, rfl⟩ := List.mem_map.mp h
  exact ⟨z.2, rfl⟩)
/-! ### dicts of texts and ints -/
def putE (es : List (Str × Int)) (c : Str) (i : Int) : List (Str × Int) := if (es.any fun z => decide (z.1 = c)) = true then es.map (fun z => if z.1 = c then (z.1, i) else z) else es ++ [(c, i)]
theorem putK_L (es : List (Str × Int)) (c : Str) (i : Int) : putK (kvsL es) (.inr c) (.int i) = kvsL (putE es c i) := by
  have e : ((kvsL es).any fun kv => decide (kv.1 = Sum.inr c)) = es.any fun z => decide (z.1 = c) := by
    rw [kvsL, List.any_map]
    congr 1
    funext z
    simp
  unfold putK putE
  rw [e]
  split
  · rw [kvsL, kvsL, List.map_map, List.map_map]
    refine List.map_congr_left fun z _ => ?_
    show (if (Sum.inr z.1 : Key) = Sum.inr c then _ else _) = _
    by_cases h : z.1 = c
    · rw [if_pos (by rw [h])]
      simp [h]
    · rw [if_neg (fun q => h (Sum.inr.inj q))]
      simp [h]
  · rw [kvsL, kvsL, List.map_append]
    rfl
theorem putE_len (es : List (Str × Int)) (c : Str) (i : Int) : (putE es c i).length ≤ es.length + 1 := by
  unfold putE
  split
  · rw [List.length_map]
    omega
  · rw [List.length_append]
    exact Nat.le_refl _
theorem putE_has (es : List (Str × Int)) (c : Str) (i : Int) : c ∈ (putE es c i).map Prod.fst ∧ ∀ x ∈ es.map Prod.fst, x ∈ (putE es c i).map Prod.fst := by
  unfold putE
  split
  · next h =>
    obtain ⟨z, hz, e⟩ := List.any_eq_true.mp h
    have e' := of_decide_eq_true e
    have same : (es.map (fun z => if z.1 = c then (z.1, i) else z)).map Prod.fst = es.map Prod.fst := by
      rw [List.map_map]
      refine List.map_congr_left fun z _ => ?_
      show (if z.1 = c then (z.1, i) else z).1 = z.1
      split <;> rfl
    rw [same]
    exact ⟨e' ▸ List.mem_map_of_mem hz, fun x hx => hx⟩
  · rw [List.map_append]
    exact ⟨List.mem_append_right _ (List.mem_cons_self ..), fun x hx => List.mem_append_left _ hx⟩
theorem mergeK_L : ∀ (l acc : List (Str × Int)), ∃ es, mergeK (kvsL acc) (kvsL l) = kvsL es ∧ es.length ≤ acc.length + l.length ∧ ∀ x, x ∈ acc.map Prod.fst ∨ x ∈ l.map Prod.fst → x ∈ es.map Prod.fst
  | [], acc => ⟨acc, rfl, Nat.le_refl _, fun x h => h.elim id fun z => nomatch z⟩
  | z :: l, acc => by
    obtain ⟨es, e, hl, hm⟩ := mergeK_L l (putE acc z.1 z.2)
    have z1 := putE_len acc z.1 z.2
    have z2 := putE_has acc z.1 z.2
    refine ⟨es, ?_, by rw [List.length_cons]; omega, fun x hx => hm x ?_⟩
    · rw [← e, ← putK_L]
      rfl
    · rcases hx with h | h
      · exact .inl (z2.2 x h)
      · rw [List.map_cons] at h
        rcases List.mem_cons.mp h with q | q
        · exact .inl (q ▸ z2.1)
        · exact .inr q
theorem valV_L {es : List (Str × Int)} {c : Str} (h : c ∈ es.map Prod.fst) : ∃ i, valV (kvsL es) (.inr c) = some (.int i) := by
  induction es with
  | nil => cases h
  | cons z r ih =>
    by_cases e : z.1 = c
    · exact ⟨z.2, by simp [valV, kvsL, e]⟩
    · rw [List.map_cons] at h
      obtain ⟨i, hi⟩ := ih ((List.mem_cons.mp h).resolve_left fun q => e q.symm)
      refine ⟨i, ?_⟩
      rw [← hi]
      simp [valV, kvsL, e]
theorem dropK_L (es : List (Str × Int)) (c : Str) : ∃ es', dropK (kvsL es) (.inr c) = kvsL es' ∧ es'.length ≤ es.length := by
  refine ⟨es.filter fun z => decide (z.1 ≠ c), ?_, List.length_filter_le _ _⟩
  unfold dropK
  rw [kvsL, kvsL, List.filter_map]
  congr 1
  refine List.filter_congr fun z _ => ?_
  simp
def rSortDS : List V → Hp → VK → Prop := fun xs H Q => ∃ (a : Addr) (kvs : List (Key × V)) (ks : List Str), xs = [.ref a] ∧ Rd H a (.dK kvs) ∧ kvs.map (·.1) = ks.map Sum.inr ∧ ks.length < 64 ∧
    ∀ ys p, ys.Perm ks → sortedS ys = true → H p = none → Q (.ref p) (upd H p (.lst (ys.map V.str)))
theorem c_sortDS {X : Cx} (hcalm : X.calm = true) : CallR X (.builtin "sorted") rSortDS := call_sortedD hcalm
section
variable {σ : St} {H : Hp} {Q : VK} {K : PySem.W.Frag} {nx : St → Hp → Prop} {rt : VK} {bk ct : St → Hp → Prop}
theorem r_sortDS {a : Addr} {es : List (Str × Int)} (h : H a = some (.dK (kvsL es))) (l : es.length < 64) (q : ∀ (ys : List Str) (p : Addr), ys.Perm (es.map Prod.fst) → H p = none → Q (.ref p) (upd H p (.lst (ys.map V.str)))) : rSortDS [.ref a] H Q :=
  ⟨a, kvsL es, es.map Prod.fst, rfl, .inl h, by rw [kvsL, List.map_map, List.map_map]; rfl, by rw [List.length_map]; exact l, fun ys p pm _ np => q ys p pm np⟩
theorem r_dput {td ty tv : TE} {D : Ends} (h : tv σ H fun v H1 => td σ H1 fun x H2 => ty σ H2 fun y H3 => ∃ a H4, x = .ref a ∧ DPut H3 a y v H4 ∧ D.nx σ H4) : sDPut td ty tv D σ H := h
theorem r_putL {a : Addr} {es : List (Str × Int)} {c : Str} {i : Int} {q : Hp → Prop} (h : H a = some (.dK (kvsL es))) (l : es.length ≤ 1000) (g : q (upd H a (.dK (kvsL (putE es c i))))) : ∃ a' H4, V.ref a = .ref a' ∧ DPut H a' (.str c) (.int i) H4 ∧ q H4 := by
  refine ⟨a, _, rfl, DPut.k (k := .inr c) h ?_, ?_⟩
  · rw [kvsL, List.length_map, sizeLine_eq]
    omega
  · rw [putK_L]
    exact g
theorem r_dpop1 {td ty : TE} (h : td σ H fun x H1 => ∃ a, x = .ref a ∧ IsD H1 a ∧ ty σ H1 fun y H2 => ∃ kvs k v, H2 a = some (.dK kvs) ∧ y = kV k ∧ valV kvs k = some v ∧ Q v (upd H2 a (.dK (dropK kvs k)))) : tDPop1 td ty σ H Q := h
theorem r_popL {a : Addr} {es : List (Str × Int)} {c : Str} {q : V → Hp → Prop} (h : H a = some (.dK (kvsL es))) (m : c ∈ es.map Prod.fst) (g : ∀ (v : V) (es' : List (Str × Int)), es'.length ≤ es.length → q v (upd H a (.dK (kvsL es')))) :
    ∃ kvs k v, H a = some (.dK kvs) ∧ V.str c = kV k ∧ valV kvs k = some v ∧ q v (upd H a (.dK (dropK kvs k))) := by
  obtain ⟨i, hi⟩ := valV_L m
  obtain ⟨es', e, l⟩ := dropK_L es c
  exact ⟨_, .inr c, _, h, rfl, hi, by rw [e]; exact g _ es' l⟩
theorem dq_mem {ys : List V} {ds : List PyData} {v : V} (h : DqAll K H ys ds) (m : v ∈ ys) : ∃ d ∈ ds, Dq K H v d := by
  obtain ⟨j, hj, e⟩ := List.mem_iff_getElem.mp m
  obtain ⟨d, hd, q⟩ := DqAll.at h (i := j) (by rw [List.getElem?_eq_getElem hj, e])
  exact ⟨d, List.mem_of_getElem? hd, q⟩
end
theorem log_shp {l : List (Str × Int)} (h : ∀ z ∈ l, Cell z.1) : shp (logD l) = true := by
  rw [logD, shp]
  refine shps_mem fun d hd => ?_
  obtain ⟨z, hz, rfl⟩ := List.mem_map.mp hd
  rw [prD, shp, shps, shps, shps, shp, shp, (h z hz).ok]
  rfl
end L2.Rx

end
section
set_option Elab.async false
set_option linter.all false
set_option maxRecDepth 100000
set_option maxHeartbeats 4000000
local macro_rules | `(tactic| walk_at "rd1") => `(tactic| with_reducible first
  | refine L2.Rx.r_seq ?_ | refine L2.Rx.r_asg ?_ | refine L2.Rx.r_gname ?_ | refine L2.Rx.r_op ?_ | refine L2.Rx.r_c ?_
  | refine L2.Rx.r_var rfl ?_
  | refine L2.Rx.r_rI0 ?_ | refine L2.Rx.r_test ?_ | refine L2.Rx.r_bl ?_ | refine L2.Rx.r_if ?_ | refine L2.Rx.r_ret ?_
  | refine L2.Rx.r_cons ?_ | refine L2.Rx.r_nil ?_ | refine L2.Rx.r_call ?_ | refine L2.Rx.r_cb ?_ | refine L2.Rx.r_next ?_ | refine L2.Rx.r_drop ?_
  | refine L2.Rx.r_gsub ?_ | refine L2.Rx.r_tupF ?_ | refine L2.Rx.r_lst ?_ | refine L2.Rx.r_par ?_ | refine L2.Rx.r_par2 ?_
  | refine L2.Rx.r_un ?_ | refine L2.Rx.r_tb ?_ | refine L2.Rx.r_and ?_ | refine L2.Rx.r_or ?_ | refine L2.Rx.r_not ?_
  | refine L2.Rx.r_andV ?_ | refine L2.Rx.r_orV ?_ | refine L2.Rx.r_notV ?_ | refine L2.Rx.r_ifx ?_ | refine L2.Rx.r_chain ?_
  | refine L2.Rx.r_sl ?_ | refine L2.Rx.r_nopart ?_ | refine L2.Rx.r_part ?_ | refine L2.Rx.r_exint ?_ | refine L2.Rx.r_bm0 ?_ | refine L2.Rx.r_bm ?_
  | refine L2.Rx.r_lc ?_ | refine L2.Rx.r_rng1 ?_ | refine L2.Rx.r_yes ?_ | refine L2.Rx.r_tt ?_ | refine L2.Rx.r_ff ?_ | refine L2.Rx.r_m1 ?_ | refine L2.Rx.r_m0 ?_ | refine L2.Rx.r_isS ?_
  | (refine L2.Rx.r_wipe (by with_unfolding_all rfl) ?_) | (refine L2.Rx.r_tyL (by walk_at "hp") ?_)
  | refine L2.Rx.r_addS (by walk_at "len") ?_ | refine L2.Rx.r_lenS (by walk_at "len") ?_ | refine L2.Rx.r_slS (by walk_at "len") ?_
  | refine L2.Rx.r_dnotin ?_ | refine L2.Rx.r_dget ?_ | refine L2.Rx.r_dget1 ?_ | refine L2.Rx.r_dput ?_ | refine L2.Rx.r_dpop1 ?_ | refine L2.Rx.r_isN ?_
  | refine L2.Rx.r_for ?_ | refine L2.Rx.r_ilist ?_ | refine L2.Rx.r_itup ?_
  | refine L2.Rx.r_gcons ?_ | refine L2.Rx.r_gnil ?_ | (refine L2.Rx.r_gtupP (by assumption) (by walk_at "at") ?_)
  | (refine L2.Rx.r_rEq rfl ?_) | (refine L2.Rx.r_rNe rfl ?_)
  | refine L2.Rx.r_rU ?_ | refine L2.Rx.r_max2 ?_ | refine L2.Rx.r_min2 ?_ | refine L2.Rx.r_int1i ?_ | (refine L2.Rx.r_lenh (by walk_at "hp") ?_)
  | (refine L2.Rx.r_ixLh (by walk_at "hp") (by walk_at "at") ?_)
  | (refine L2.Rx.r_setL (by walk_at "hp") (by walk_at "at") ?_))
local macro_rules | `(tactic| walk_at "at") => `(tactic| with_unfolding_all rfl)
local macro_rules | `(tactic| walk_at "rd") => `(tactic| (repeat walk_at "rd1"))
local macro_rules | `(tactic| walk_at "hp") => `(tactic| first
  | assumption
  | exact L2.upd_same
  | (refine Eq.trans (L2.upd_ne ?_) ?_; (focus walk_at "ne"); (focus walk_at "hp"))
  | (refine L2.Rx.Kp.at0 (by assumption) ?_; walk_at "hp")
  | (refine L2.Rx.Kp.at1 (by assumption) ?_ ?_; (focus walk_at "ne"); (focus walk_at "hp")))
local macro_rules | `(tactic| walk_at "ne") => `(tactic| first
  | assumption | exact Ne.symm (by assumption)
  | (refine L2.ne_of_none (H := ?nH) (o := ?nO) ?nh ?nn; (case nn => assumption); (case nh => walk_at "hp"))
  | (refine Ne.symm (L2.ne_of_none (H := ?nH) (o := ?nO) ?nh ?nn); (case nn => assumption); (case nh => walk_at "hp")))
local macro_rules | `(tactic| walk_at "len") => `(tactic| (rw [PySem.sizeLine_eq]; omega))
local macro_rules | `(tactic| walk_at "nin") => `(tactic| first
  | exact List.not_mem_nil
  | (refine L2.Rx.nin1 ?_; walk_at "ne"))
local macro_rules | `(tactic| walk_at "none") => `(tactic| first
  | assumption
  | (refine L2.Rx.Kp.none0 (by assumption) ?_ ?_; (focus walk_at "nin"); (focus walk_at "none")))
namespace L2.Rx
open PySem PySem.Spec PyProof.Rows
/-! ### repr -/
mutual
def fine : PyData → Bool
  | .list ds => fines ds
  | .dict _ => false
  | .tuple ds => fines ds
  | .str x => PyData.strOk x
  | .none => true
  | .bool _ => true
  | .int i => decide (i.natAbs < 10 ^ 12)
def fines : List PyData → Bool
  | [] => true
  | d :: ds => fine d && fines ds
end
theorem log2_small {n : Nat} (h : n < 10 ^ 12) : n.log2 < 1920 := by
  by_cases z : n = 0
  · subst z
    decide
  · exact (Nat.log2_lt z).mpr (Nat.lt_trans h (by decide +kernel))
mutual
theorem fine_all : ∀ d : PyData, fine d = true → d.showable = true ∧ d.intsShort 13 = true ∧ d.canLay0 = true
  | .none, _ => ⟨by rw [PyData.showable], by rw [PyData.intsShort], by rw [PyData.canLay0]⟩
  | .bool b, _ => ⟨by rw [PyData.showable], by rw [PyData.intsShort], by rw [PyData.canLay0]⟩
  | .int i, h => by
    rw [fine] at h
    have h' := of_decide_eq_true h
    exact ⟨by rw [PyData.showable]; exact decide_eq_true (log2_small h'), by rw [PyData.intsShort]; exact decide_eq_true (PyData.shown_int_le h'), by rw [PyData.canLay0]⟩
  | .str x, h => ⟨by rw [PyData.showable], by rw [PyData.intsShort], by rw [PyData.canLay0]; rw [fine] at h; exact h⟩
  | .list ds, h => by
    rw [fine] at h
    obtain ⟨a, b, c⟩ := fines_all ds h
    exact ⟨by rw [PyData.showable]; exact a, by rw [PyData.intsShort]; exact b, by rw [PyData.canLay0]; exact c⟩
  | .tuple ds, h => by
    rw [fine] at h
    obtain ⟨a, b, c⟩ := fines_all ds h
    exact ⟨by rw [PyData.showable]; exact a, by rw [PyData.intsShort]; exact b, by rw [PyData.canLay0]; exact c⟩
  | .dict _, h => by rw [fine] at h; cases h
theorem fines_all : ∀ ds : List PyData, fines ds = true → PyData.showableAll ds = true ∧ PyData.intsShortAll 13 ds = true ∧ PyData.canLayAll0 ds = true
  | [], _ => ⟨by rw [PyData.showableAll], by rw [PyData.intsShortAll], by rw [PyData.canLayAll0]⟩
  | d :: ds, h => by
    rw [fines, Bool.and_eq_true] at h
    obtain ⟨a, b, c⟩ := fine_all d h.1
    obtain ⟨a', b', c'⟩ := fines_all ds h.2
    exact ⟨by rw [PyData.showableAll, a, a']; rfl, by rw [PyData.intsShortAll, b, b']; rfl, by rw [PyData.canLayAll0, c, c']; rfl⟩
end
theorem fines_mem : ∀ {ds : List PyData}, (∀ d ∈ ds, fine d = true) → fines ds = true
  | [], _ => by rw [fines]
  | d :: ds, h => by rw [fines, h d (List.mem_cons_self ..), fines_mem fun e m => h e (List.mem_cons_of_mem _ m)]; rfl
theorem weight_mem {k : Nat} : ∀ {ds : List PyData}, (∀ d ∈ ds, d.weight ≤ k) → PyData.weightAll ds ≤ ds.length * (k + 1)
  | [], _ => by rw [PyData.weightAll]; simp
  | d :: ds, h => by
    rw [PyData.weightAll, List.length_cons, Nat.succ_mul]
    have := h d (List.mem_cons_self ..)
    have := weight_mem (k := k) (ds := ds) fun e m => h e (List.mem_cons_of_mem _ m)
    omega
theorem r_repr {K : PySem.W.Frag} {H : Hp} {Q : VK} {v : V} {d : PyData} (h : Dq K H v d) (f : fine d = true) (n : d.depth ≤ 60) (w : d.weight ≤ 2 ^ 20) (q : Q (.str d.shown) H) : rRepr K [v] H Q := by
  obtain ⟨a, b, c⟩ := fine_all d f
  exact ⟨v, d, rfl, Dq.dp _ _ h, a, n, PyData.shown_fits_of_layable0 (B := 13) (by decide) (by decide) (by
    show (d.canLay0 && decide (d.depth ≤ 64) && decide (d.weight ≤ 2 ^ 20)) = true
    rw [c, decide_eq_true (show d.depth ≤ 64 by omega), decide_eq_true w]
    rfl) b, q⟩
def wTree : Nat → Nat
  | 0 => 0
  | n + 1 => 3 * wTree n + 150
theorem Okt.weight {n : Nat} {cs : List Str} {t : Tr} (h : Okt n cs t) (hc : ∀ c ∈ cs, Cell c) : t.d.weight ≤ wTree n := by
  induction h with
  | lf n cs => rw [Tr.d, PyData.weight, PyData.weightAll]; omega
  | @nd n cs cs' c bs h1 h2 h3 h4 h5 h6 h7 h8 ih =>
    rw [Tr.d, PyData.weight, PyData.weightAll, PyData.weightAll, PyData.weightAll, PyData.weight, PyData.weight, wTree]
    have c8 : c.cps.size ≤ 8 := (hc c h1).2.1
    have hb : PyData.weightAll (brd bs) ≤ bs.length * (wTree n + 32 + 1) := by
      have := weight_mem (k := wTree n + 32) (ds := brd bs) fun d hd => by
        rw [brd_eq] at hd
        obtain ⟨p, hp, rfl⟩ := List.mem_map.mp hd
        rw [PyData.weight, PyData.weightAll, PyData.weightAll, PyData.weightAll, PyData.weight]
        have w1 := ih p hp fun c m => hc c (h3 c m)
        have w2 : (if p.1 == 0 then 0 else p.1.natAbs.log2 + 1) ≤ 30 := by
          split
          · omega
          · next hz =>
            have hp' := h7 p hp
            have nz : p.1.natAbs ≠ 0 := by
              intro z
              apply hz
              simp
              omega
            have : p.1.natAbs.log2 < 30 := (Nat.log2_lt nz).mpr (by omega)
            omega
        omega
      rw [brd_eq, List.length_map] at this
      rw [brd_eq]
      exact this
    have h5' : bs.length * (wTree n + 32 + 1) ≤ 3 * (wTree n + 32 + 1) := Nat.mul_le_mul_right _ h5
    omega
theorem Okt.fine {n : Nat} {cs : List Str} {t : Tr} (h : Okt n cs t) (hc : ∀ c ∈ cs, Cell c) : fine t.d = true := by
  induction h with
  | lf n cs => rw [Tr.d, Rx.fine, Rx.fines]
  | nd h1 h2 h3 h4 h5 h6 h7 h8 ih =>
    rw [Tr.d, Rx.fine, Rx.fines, Rx.fines, Rx.fines, Rx.fine, Rx.fine, (hc _ h1).ok]
    rw [show Rx.fines (brd _) = true from ?_]
    · rfl
    · refine fines_mem fun d hd => ?_
      rw [brd_eq] at hd
      obtain ⟨p, hp, rfl⟩ := List.mem_map.mp hd
      have hp' := h7 p hp
      rw [Rx.fine, Rx.fines, Rx.fines, Rx.fines, Rx.fine, ih p hp fun c m => hc c (h3 c m), decide_eq_true (show p.1.natAbs < 10 ^ 12 by omega)]
      rfl
/-! the answer of a run -/
def ResOk (k : Nat) (r : Str × List Str × Option Str) : Prop := r.1.length ≤ 8 ∧ PyData.strOk r.1 = true ∧ r.2.1.length ≤ k ∧ (∀ c ∈ r.2.1, Cell c) ∧ ∀ c, r.2.2 = some c → Cell c
theorem run_ok (env : Str → Option Int) : ∀ (n : Nat) {cs : List Str} {t : Tr} (acc : List Str) (k : Nat), Okt n cs t → (∀ c ∈ cs, Cell c) → (∀ c ∈ acc, Cell c) → acc.length + n ≤ k → ResOk k (run env n t acc) := by
  have dn : ∀ (acc : List Str) (k : Nat), (∀ c ∈ acc, Cell c) → acc.length ≤ k → ResOk k (Str.ofString "done", acc, none) := fun acc k h l => ⟨(by show (Str.ofString "done").length ≤ 8; decide +kernel), (by show PyData.strOk (Str.ofString "done") = true; decide +kernel), l, h, fun c e => nomatch e⟩
  intro n
  induction n with
  | zero => intro cs t acc k ok hc ha hk; exact dn acc k ha (by omega)
  | succ n ih =>
    intro cs t acc k ok hc ha hk
    cases t with
    | lf => exact dn acc k ha (by omega)
    | nd c bs =>
      cases ok with
      | @nd _ _ cs' _ _ h1 h2 h3 h4 h5 h6 h7 h8 =>
        have ha' : ∀ x ∈ acc ++ [c], Cell x := by
          intro x hx
          rcases List.mem_append.mp hx with h | h
          · exact ha x h
          · rw [show x = c by simpa using h]
            exact hc c h1
        have la : (acc ++ [c]).length = acc.length + 1 := by rw [List.length_append]; rfl
        cases e : env c with
        | none => rw [run_u e]; exact ⟨(by show (Str.ofString "unknown").length ≤ 8; decide +kernel), (by show PyData.strOk (Str.ofString "unknown") = true; decide +kernel), by show acc.length ≤ k; omega, ha, fun x q => by rw [← Option.some.inj q]; exact hc c h1⟩
        | some i =>
          cases g : lookB bs i with
          | none => rw [run_o e g]; exact ⟨(by show (Str.ofString "open").length ≤ 8; decide +kernel), (by show PyData.strOk (Str.ofString "open") = true; decide +kernel), by show (acc ++ [c]).length ≤ k; omega, ha', fun x q => by rw [← Option.some.inj q]; exact hc c h1⟩
          | some t =>
            obtain ⟨z, hz, _, rfl⟩ := lookB_mem g
            rw [run_g e g]
            exact ih (acc ++ [c]) k (h8 z hz) (fun x m => hc x (h3 x m)) ha' (by omega)
theorem res_fine {k : Nat} {r : Str × List Str × Option Str} (h : ResOk k r) (hk : k ≤ 60) : fine (resD r) = true ∧ (resD r).depth ≤ 60 ∧ (resD r).weight ≤ 2 ^ 20 := by
  obtain ⟨w, cs, l⟩ := r
  obtain ⟨h1, h2, h3, h4, h5⟩ := h
  have f1 : fines (cs.map PyData.str) = true := fines_mem fun d hd => by
    obtain ⟨c, hc, rfl⟩ := List.mem_map.mp hd
    rw [fine]
    exact (h4 c hc).ok
  have w1 : PyData.weightAll (cs.map PyData.str) ≤ 60 * 9 := by
    have := weight_mem (k := 8) (ds := cs.map PyData.str) fun d hd => by
      obtain ⟨c, hc, rfl⟩ := List.mem_map.mp hd
      rw [PyData.weight]
      exact (h4 c hc).2.1
    rw [List.length_map] at this
    have h3' : cs.length ≤ k := h3
    have : cs.length * 9 ≤ 60 * 9 := Nat.mul_le_mul_right _ (by omega)
    omega
  have d1 : PyData.depthAll (cs.map PyData.str) ≤ 0 := depth_mem fun d hd => by
    obtain ⟨c, hc, rfl⟩ := List.mem_map.mp hd
    rw [PyData.depth]
    exact Nat.le_refl _
  have h1' : w.cps.size ≤ 8 := h1
  cases l with
  | none =>
    refine ⟨?_, ?_, ?_⟩
    · rw [resD]
      show fine (.tuple [.str w, .tuple (cs.map PyData.str), .none]) = true
      rw [fine, fines, fines, fines, fines, fine, fine, fine, f1, h2]
      rfl
    · show (PyData.tuple [.str w, .tuple (cs.map PyData.str), .none]).depth ≤ 60
      rw [PyData.depth, PyData.depthAll, PyData.depthAll, PyData.depthAll, PyData.depthAll, PyData.depth, PyData.depth, PyData.depth]
      omega
    · show (PyData.tuple [.str w, .tuple (cs.map PyData.str), .none]).weight ≤ 2 ^ 20
      rw [PyData.weight, PyData.weightAll, PyData.weightAll, PyData.weightAll, PyData.weightAll, PyData.weight, PyData.weight, PyData.weight]
      omega
  | some c =>
    have hc := h5 c rfl
    have hc8 : c.cps.size ≤ 8 := hc.2.1
    refine ⟨?_, ?_, ?_⟩
    · show fine (.tuple [.str w, .tuple (cs.map PyData.str), .str c]) = true
      rw [fine, fines, fines, fines, fines, fine, fine, fine, f1, h2, hc.ok]
      rfl
    · show (PyData.tuple [.str w, .tuple (cs.map PyData.str), .str c]).depth ≤ 60
      rw [PyData.depth, PyData.depthAll, PyData.depthAll, PyData.depthAll, PyData.depthAll, PyData.depth, PyData.depth, PyData.depth]
      omega
    · show (PyData.tuple [.str w, .tuple (cs.map PyData.str), .str c]).weight ≤ 2 ^ 20
      rw [PyData.weight, PyData.weightAll, PyData.weightAll, PyData.weightAll, PyData.weightAll, PyData.weight, PyData.weight, PyData.weight]
      omega
/-! ### calls with all arguments by name -/
theorem bindsK {K : PySem.W.Frag} {x qual : Str} {st : Stmt} {f : Addr} {fd : FuncData} {ps ks : List Str} {gv : List Value → List Value} (F : Fun K x qual st f fd)
    (h : ∀ (kV doc pm : Value) (an : Option Addr) (cdv ct : Value) (ws : List Value), (gv ws).length = ps.length → bindArgs (PySem.W.fnOf x qual (defArgs st) (defBody st) (defScope st) .none kV doc pm an cdv ct) ⟨[], ks.zip ws⟩ = pure (ps.zip (gv ws))) :
    ∀ (s : Shared) (ws : List Value), K.In s.heap → (gv ws).length = ps.length → BindsTo s fd ⟨[], ks.zip ws⟩ (ps.zip (gv ws)) := by
  obtain ⟨oc, od, kV, doc, pm, an, cdv, ct, osl, rfl, lk, hcd⟩ := F.ex
  exact fun s ws _ hl => .of_eq (h kV doc pm an cdv ct ws hl)
section
variable {X : Cx} {k j : Nat} {sp : Sp} {x : Str} {p pos : Pos} {ks : List Str} {g : List V → List V} {kws : List Keyword} {tk : TA}
theorem KnK.call (c : KnK X.prog X.w X.K X.mg X.base CX0 k x ks g sp) (hr : RoomG j X.A) (hk : k ≤ j) (hg : Gl X x) (hkw : PK X kws tk)
    (hall : (backToKw pos (keywordEach kws X.env)).all (·.1.isSome) = true := by rfl) (hks : (backToKw pos (keywordEach kws X.env)).filterMap (·.1) = ks := by rfl) (hdb : (x == ("__debug__" : Str)) = false := by decide)
    (hpl : ((backTo pos (starEach [] X.env)).any (·.1) || (backToKw pos (keywordEach kws X.env)).any (·.1.isNone)) = false := by rfl) :
    PE X (.Call (.Name x p) [] kws pos) (tKw g sp E0 tk) := by
  obtain ⟨f, fd, ps, gv, F, hm, kp, hb, hrel⟩ := c.ex
  refine ⟨fun pins s σ H Q I h => ?_⟩
  refine wpAny_Call_Name_kw (ld_glob I hg hm ?_ hdb)
  refine PySem.W.callWith_KW0 (h₀ := X.base) I.ok.mod.kin kp hall ?_ hpl
  refine thn (hkw.run pos pins s σ H _ I h) fun ws s2 ⟨zs, H2, I2, rz, q2⟩ => ⟨I2.kIn, ?_⟩
  rw [hks]
  exact callG (args := ⟨[], ks.zip ws⟩) (us := gv ws) F (hr.mono hk) pass0 I2 (fun hl => hb s2 ws I2.kIn hl) (hrel _ _ rz) q2
end
/-! ### paths -/
theorem lookB_nd {bs : List (Int × Tr)} (nd : (bs.map Prod.fst).Nodup) {z : Int × Tr} (hz : z ∈ bs) : lookB bs z.1 = some z.2 := by
  induction bs with
  | nil => cases hz
  | cons y r ih =>
    rw [List.map_cons, List.nodup_cons] at nd
    rcases List.mem_cons.mp hz with e | e
    · subst e
      simp [lookB]
    · have ne : ¬ y.1 = z.1 := fun q => nd.1 (q ▸ List.mem_map_of_mem e)
      have := ih nd.2 e
      rw [← this]
      simp [lookB, ne]
theorem path_run (env : Str → Option Int) : ∀ (n : Nat) {cs : List Str} {t : Tr} (acc : List Str) {p : List (Str × Int)}, Okt n cs t → p ∈ t.paths → (∀ z ∈ p, env z.1 = some z.2) → run env n t acc = (Str.ofString "done", acc ++ p.map Prod.fst, none) := by
  intro n
  induction n with
  | zero =>
    intro cs t acc p ok hp he
    cases ok with
    | lf => rw [Tr.paths] at hp; rw [show p = [] by simpa using hp, run_lf, List.map_nil, List.append_nil]
  | succ n ih =>
    intro cs t acc p ok hp he
    cases ok with
    | lf => rw [Tr.paths] at hp; rw [show p = [] by simpa using hp, run_lf, List.map_nil, List.append_nil]
    | @nd _ _ cs' c bs h1 h2 h3 h4 h5 h6 h7 h8 =>
      rw [Tr.paths, brp_eq] at hp
      obtain ⟨z, hz, hq⟩ := List.mem_flatMap.mp hp
      obtain ⟨s, hs, rfl⟩ := List.mem_map.mp hq
      have e := he (c, z.1) (List.mem_cons_self ..)
      have nd : (bs.map Prod.fst).Nodup := h6.imp fun {a b} h => by omega
      rw [run_g e (lookB_nd nd hz), ih (acc ++ [c]) (h8 z hz) hs (fun y hy => he y (List.mem_cons_of_mem _ hy)), List.map_cons, List.append_assoc]
      rfl
theorem path_names {n : Nat} {cs : List Str} {t : Tr} (ok : Okt n cs t) : ∀ p ∈ t.paths, (p.map Prod.fst).Nodup ∧ (∀ x ∈ p.map Prod.fst, x ∈ cs) ∧ p.length ≤ n := by
  induction ok with
  | lf n cs =>
    intro p hp
    rw [Tr.paths] at hp
    rw [show p = [] by simpa using hp]
    exact ⟨List.nodup_nil, (fun _ h => nomatch h), Nat.zero_le _⟩
  | @nd n cs cs' c bs h1 h2 h3 h4 h5 h6 h7 h8 ih =>
    intro p hp
    rw [Tr.paths, brp_eq] at hp
    obtain ⟨z, hz, hq⟩ := List.mem_flatMap.mp hp
    obtain ⟨s, hs, rfl⟩ := List.mem_map.mp hq
    obtain ⟨a, b, c'⟩ := ih z hz s hs
    rw [List.map_cons, List.nodup_cons, List.length_cons]
    refine ⟨⟨fun q => h2 (b _ q), a⟩, fun x hx => ?_, by omega⟩
    rcases List.mem_cons.mp hx with e | e
    · rw [e]
      exact h1
    · exact h3 x (b x e)
theorem env_log {l : List (Str × Int)} (nd : (l.map Prod.fst).Nodup) : ∀ z ∈ l, envK (mergeK [] (kvsL l)) z.1 = some z.2 := by
  have e : mergeK [] (kvsL l) = kvsL l := mergeK_nd (by
    rw [kvsL, List.map_map, show (Prod.fst ∘ fun z : Str × Int => ((Sum.inr z.1 : Key), V.int z.2)) = Sum.inr ∘ Prod.fst from rfl, ← List.map_map]
    exact List.Pairwise.map _ (fun a b h z => h (Sum.inr.inj z)) nd)
  rw [e]
  intro z hz
  refine env_some ?_
  clear e
  induction l with
  | nil => cases hz
  | cons y r ih =>
    rw [List.map_cons, List.nodup_cons] at nd
    rcases List.mem_cons.mp hz with q | q
    · subst q
      simp [valV, kvsL]
    · have ne : ¬ y.1 = z.1 := fun s => nd.1 (s ▸ List.mem_map_of_mem q)
      have := ih nd.2 q
      rw [← this]
      simp [valV, kvsL, ne]
theorem names_up {l : List (Str × Int)} (nd : (l.map Prod.fst).Nodup) (h : l.Pairwise fun x y => PySem.W.dataLt (prD y) (prD x) = false) : (l.map Prod.fst).Pairwise fun x y => ¬ y.cps.toList < x.cps.toList := by
  rw [List.pairwise_map]
  rw [List.nodup_iff_pairwise_ne, List.pairwise_map] at nd
  refine (h.and nd).imp fun {x y} q => ?_
  obtain ⟨q1, q2⟩ := q
  rw [prD, prD, PySem.W.dataLt_pair (by rw [PySem.W.alike]) (by rw [PySem.W.alike])] at q1
  have ne : PyData.eqv (.str y.1) (.str x.1) = false := by
    rw [PyData.eqv]
    exact beq_eq_false_iff_ne.mpr fun z => q2 z.symm
  rw [ne, if_neg Bool.false_ne_true, PySem.W.dataLt_str] at q1
  exact of_decide_eq_false q1
theorem sorted_same {a b : List Str} (p : a.Perm b) (ha : a.Pairwise fun x y => ¬ y.cps.toList < x.cps.toList) (hb : b.Pairwise fun x y => ¬ y.cps.toList < x.cps.toList) : a = b :=
  List.Perm.eq_of_pairwise (fun x y _ _ h1 h2 => str_ext (List.le_antisymm h1 h2)) ha hb p
section
variable {σ : St} {H : Hp} {Q : VK} {K : PySem.W.Frag}
theorem r_dnew (h : ∀ p, H p = none → Q (.ref p) (upd H p (.dK []))) : tDNewK σ H Q := h
theorem dq_strs : ∀ {ns : List Str} {ys : List V}, DqAll K H ys (ns.map PyData.str) → ys = ns.map V.str
  | [], ys, h => dp_nil h
  | n :: r, ys, h => by
    obtain ⟨v, vs, rfl, d1, d2⟩ := dp_cons h
    rw [dp_str d1, dq_strs d2]
    rfl
theorem r_neSame {x y : V} {d : PyData} (h : Dq K H x d) (g : Dq K H y d) (s : shp d = true) (n : d.depth ≤ 64) (q : Q (.bl (!true)) H) : rNeD K x y H Q :=
  ⟨d, d, Dq.dp _ _ h, Dq.dp _ _ g, shaped_of s n, shaped_of s n, by rw [PySem.SeqAt.eqv_refl d (shp_lay d s)]; exact q⟩
end
theorem wTree_le : ∀ n, n ≤ 6 → wTree n ≤ 2 ^ 20 := by decide +kernel
end L2.Rx

end
section
set_option Elab.async false
set_option linter.all false
set_option maxRecDepth 100000
set_option maxHeartbeats 4000000
local macro_rules | `(tactic| walk_at "rd1") => `(tactic| with_reducible first
  | refine L2.Rx.r_seq ?_ | refine L2.Rx.r_asg ?_ | refine L2.Rx.r_gname ?_ | refine L2.Rx.r_op ?_ | refine L2.Rx.r_c ?_
  | refine L2.Rx.r_var rfl ?_
  | refine L2.Rx.r_rI0 ?_ | refine L2.Rx.r_test ?_ | refine L2.Rx.r_bl ?_ | refine L2.Rx.r_if ?_ | refine L2.Rx.r_ret ?_
  | refine L2.Rx.r_cons ?_ | refine L2.Rx.r_nil ?_ | refine L2.Rx.r_call ?_ | refine L2.Rx.r_cb ?_ | refine L2.Rx.r_next ?_ | refine L2.Rx.r_drop ?_
  | refine L2.Rx.r_gsub ?_ | refine L2.Rx.r_tupF ?_ | refine L2.Rx.r_lst ?_ | refine L2.Rx.r_par ?_ | refine L2.Rx.r_par2 ?_
  | refine L2.Rx.r_un ?_ | refine L2.Rx.r_tb ?_ | refine L2.Rx.r_and ?_ | refine L2.Rx.r_or ?_ | refine L2.Rx.r_not ?_
  | refine L2.Rx.r_andV ?_ | refine L2.Rx.r_orV ?_ | refine L2.Rx.r_notV ?_ | refine L2.Rx.r_ifx ?_ | refine L2.Rx.r_chain ?_
  | refine L2.Rx.r_sl ?_ | refine L2.Rx.r_nopart ?_ | refine L2.Rx.r_part ?_ | refine L2.Rx.r_exint ?_ | refine L2.Rx.r_bm0 ?_ | refine L2.Rx.r_bm ?_
  | refine L2.Rx.r_lc ?_ | refine L2.Rx.r_rng1 ?_ | refine L2.Rx.r_yes ?_ | refine L2.Rx.r_tt ?_ | refine L2.Rx.r_ff ?_ | refine L2.Rx.r_m1 ?_ | refine L2.Rx.r_m0 ?_ | refine L2.Rx.r_isS ?_
  | (refine L2.Rx.r_wipe (by with_unfolding_all rfl) ?_) | (refine L2.Rx.r_tyL (by walk_at "hp") ?_)
  | refine L2.Rx.r_addS (by walk_at "len") ?_ | refine L2.Rx.r_lenS (by walk_at "len") ?_ | refine L2.Rx.r_slS (by walk_at "len") ?_
  | refine L2.Rx.r_dnotin ?_ | refine L2.Rx.r_dget ?_ | refine L2.Rx.r_dget1 ?_ | refine L2.Rx.r_dput ?_ | refine L2.Rx.r_dpop1 ?_ | refine L2.Rx.r_isN ?_
  | refine L2.Rx.r_for ?_ | refine L2.Rx.r_ilist ?_ | refine L2.Rx.r_itup ?_
  | refine L2.Rx.r_gcons ?_ | refine L2.Rx.r_gnil ?_ | (refine L2.Rx.r_gtupP (by assumption) (by walk_at "at") ?_)
  | (refine L2.Rx.r_rEq rfl ?_) | (refine L2.Rx.r_rNe rfl ?_)
  | refine L2.Rx.r_rU ?_ | refine L2.Rx.r_max2 ?_ | refine L2.Rx.r_min2 ?_ | refine L2.Rx.r_int1i ?_ | (refine L2.Rx.r_lenh (by walk_at "hp") ?_)
  | (refine L2.Rx.r_ixLh (by walk_at "hp") (by walk_at "at") ?_)
  | (refine L2.Rx.r_setL (by walk_at "hp") (by walk_at "at") ?_))
local macro_rules | `(tactic| walk_at "at") => `(tactic| with_unfolding_all rfl)
local macro_rules | `(tactic| walk_at "rd") => `(tactic| (repeat walk_at "rd1"))
local macro_rules | `(tactic| walk_at "hp") => `(tactic| first
  | assumption
  | exact L2.upd_same
  | (refine Eq.trans (L2.upd_ne ?_) ?_; (focus walk_at "ne"); (focus walk_at "hp"))
  | (refine L2.Rx.Kp.at0 (by assumption) ?_; walk_at "hp")
  | (refine L2.Rx.Kp.at1 (by assumption) ?_ ?_; (focus walk_at "ne"); (focus walk_at "hp")))
local macro_rules | `(tactic| walk_at "ne") => `(tactic| first
  | assumption | exact Ne.symm (by assumption)
  | (refine L2.ne_of_none (H := ?nH) (o := ?nO) ?nh ?nn; (case nn => assumption); (case nh => walk_at "hp"))
  | (refine Ne.symm (L2.ne_of_none (H := ?nH) (o := ?nO) ?nh ?nn); (case nn => assumption); (case nh => walk_at "hp")))
local macro_rules | `(tactic| walk_at "len") => `(tactic| (rw [PySem.sizeLine_eq]; omega))
local macro_rules | `(tactic| walk_at "nin") => `(tactic| first
  | exact List.not_mem_nil
  | (refine L2.Rx.nin1 ?_; walk_at "ne"))
local macro_rules | `(tactic| walk_at "none") => `(tactic| first
  | assumption
  | (refine L2.Rx.Kp.none0 (by assumption) ?_ ?_; (focus walk_at "nin"); (focus walk_at "none")))
namespace L2.Ro
open PySem PySem.Spec PyProof.Rows L2.Rx
def topS (i : Nat) : Stmt := PySem.Challenge.pw_readorder_k05_runs_followed.main.body.getD i (.Pass ⟨0, 0, 0, 0⟩)
abbrev s_follow : Stmt := topS 1
theorem sc_follow : FnScope ["reader", "known", "values", "cells", "part", "cell", "branches"] ["reader", "known"] (defScope s_follow) := ⟨rfl, rfl, rfl, by decide +kernel, rfl, by decide +kernel, by decide +kernel⟩
abbrev s_box : Stmt := topS 3
theorem sc_box : FnScope ["_law_script", "_law_k", "_law_name", "_law_own"] ["_law_script", "_law_k"] (defScope s_box) := ⟨rfl, rfl, rfl, by decide +kernel, rfl, by decide +kernel, by decide +kernel⟩
abbrev s_take : Stmt := topS 4
theorem sc_take : FnScope ["_law_box_here", "_law_upon", "_law_digit", "_law_prime", "_law_drawn"] ["_law_box_here", "_law_upon"] (defScope s_take) := ⟨rfl, rfl, rfl, by decide +kernel, rfl, by decide +kernel, by decide +kernel⟩
abbrev s_of : Stmt := topS 5
theorem sc_of : FnScope ["_law_box_here", "_law_some"] ["_law_box_here", "_law_some"] (defScope s_of) := ⟨rfl, rfl, rfl, by decide +kernel, rfl, by decide +kernel, by decide +kernel⟩
abbrev s_cells : Stmt := topS 6
theorem sc_cells : FnScope ["_law_box_here", "_law_count", "_law_letters", "_law_start", "_law_leap", "_law_stem", "_law_cut", "_law_turn"] ["_law_box_here", "_law_count"] (defScope s_cells) := ⟨rfl, rfl, rfl, by decide +kernel, rfl, by decide +kernel, by decide +kernel⟩
abbrev s_values : Stmt := topS 7
theorem sc_values : FnScope ["_law_box_here", "_law_count", "_law_some", "_law_found", "_law_turn", "_law_value", "_law_spare", "_law_each"] ["_law_box_here", "_law_count"] (defScope s_values) := ⟨rfl, rfl, rfl, by decide +kernel, rfl, by decide +kernel, by decide +kernel⟩
abbrev s_tree : Stmt := topS 8
theorem sc_tree : FnScope ["_law_box_here", "_law_cells_here", "_law_budget", "_law_left", "_law_name", "_law_count", "_law_branches", "_law_value"] ["_law_box_here", "_law_cells_here", "_law_budget"] (defScope s_tree) := ⟨rfl, rfl, rfl, by decide +kernel, rfl, by decide +kernel, by decide +kernel⟩
abbrev s_leaves : Stmt := topS 9
theorem sc_leaves : FnScope ["_law_tree_here", "_law_found", "_law_waiting", "_law_here", "_law_pairs", "_law_value", "_law_below"] ["_law_tree_here"] (defScope s_leaves) := ⟨rfl, rfl, rfl, by decide +kernel, rfl, by decide +kernel, by decide +kernel⟩
abbrev s_due : Stmt := topS 10
theorem sc_due : FnScope ["_law_tree_here", "_law_values_here", "_law_cells_here", "_law_name", "_law_branches", "_law_below", "_law_value", "_law_rest"] ["_law_tree_here", "_law_values_here"] (defScope s_due) := ⟨rfl, rfl, rfl, by decide +kernel, rfl, by decide +kernel, by decide +kernel⟩
abbrev s_supplied : Stmt := topS 11
theorem sc_supplied : FnScope ["_law_box_here", "_law_entry", "_law_names", "_law_values_here", "_law_way", "_law_name"] ["_law_box_here", "_law_entry", "_law_names"] (defScope s_supplied) := ⟨rfl, rfl, rfl, by decide +kernel, rfl, by decide +kernel, by decide +kernel⟩
abbrev s_right : Stmt := topS 12
theorem sc_right : FnScope ["_law_box_here", "_law_tree_here", "_law_names", "_law_text", "_law_entry", "_law_found", "_law_turn", "_law_due_here", "_law_name", "_law_value"] ["_law_box_here", "_law_tree_here", "_law_names"] (defScope s_right) := ⟨rfl, rfl, rfl, by decide +kernel, rfl, by decide +kernel, by decide +kernel⟩
abbrev s_law : Stmt := topS 13
theorem sc_law : FnScope ["_law_script", "_law_nth", "_law_box_here", "_law_turn", "_law_names"] ["_law_script"] (defScope s_law) := ⟨rfl, rfl, rfl, by decide +kernel, rfl, by decide +kernel, by decide +kernel⟩
/-- the built-ins that the text calls are not the module's -/
structure Zb (mg : Str → Option Value) : Prop where
  n_abs : mg "abs" = none
  n_dict : mg "dict" = none
  n_int : mg "int" = none
  n_len : mg "len" = none
  n_list : mg "list" = none
  n_max : mg "max" = none
  n_min : mg "min" = none
  n_range : mg "range" = none
  n_repr : mg "repr" = none
  n_sorted : mg "sorted" = none
  n_tuple : mg "tuple" = none
end L2.Ro

end
section
set_option Elab.async false
set_option linter.all false
set_option maxRecDepth 100000
set_option maxHeartbeats 4000000
local macro_rules | `(tactic| walk_at "rd1") => `(tactic| with_reducible first
  | refine L2.Rx.r_seq ?_ | refine L2.Rx.r_asg ?_ | refine L2.Rx.r_gname ?_ | refine L2.Rx.r_op ?_ | refine L2.Rx.r_c ?_
  | refine L2.Rx.r_var rfl ?_
  | refine L2.Rx.r_rI0 ?_ | refine L2.Rx.r_test ?_ | refine L2.Rx.r_bl ?_ | refine L2.Rx.r_if ?_ | refine L2.Rx.r_ret ?_
  | refine L2.Rx.r_cons ?_ | refine L2.Rx.r_nil ?_ | refine L2.Rx.r_call ?_ | refine L2.Rx.r_cb ?_ | refine L2.Rx.r_next ?_ | refine L2.Rx.r_drop ?_
  | refine L2.Rx.r_gsub ?_ | refine L2.Rx.r_tupF ?_ | refine L2.Rx.r_lst ?_ | refine L2.Rx.r_par ?_ | refine L2.Rx.r_par2 ?_
  | refine L2.Rx.r_un ?_ | refine L2.Rx.r_tb ?_ | refine L2.Rx.r_and ?_ | refine L2.Rx.r_or ?_ | refine L2.Rx.r_not ?_
  | refine L2.Rx.r_andV ?_ | refine L2.Rx.r_orV ?_ | refine L2.Rx.r_notV ?_ | refine L2.Rx.r_ifx ?_ | refine L2.Rx.r_chain ?_
  | refine L2.Rx.r_sl ?_ | refine L2.Rx.r_nopart ?_ | refine L2.Rx.r_part ?_ | refine L2.Rx.r_exint ?_ | refine L2.Rx.r_bm0 ?_ | refine L2.Rx.r_bm ?_
  | refine L2.Rx.r_lc ?_ | refine L2.Rx.r_rng1 ?_ | refine L2.Rx.r_yes ?_ | refine L2.Rx.r_tt ?_ | refine L2.Rx.r_ff ?_ | refine L2.Rx.r_m1 ?_ | refine L2.Rx.r_m0 ?_ | refine L2.Rx.r_isS ?_
  | (refine L2.Rx.r_wipe (by with_unfolding_all rfl) ?_) | (refine L2.Rx.r_tyL (by walk_at "hp") ?_)
  | refine L2.Rx.r_addS (by walk_at "len") ?_ | refine L2.Rx.r_lenS (by walk_at "len") ?_ | refine L2.Rx.r_slS (by walk_at "len") ?_
  | refine L2.Rx.r_dnotin ?_ | refine L2.Rx.r_dget ?_ | refine L2.Rx.r_dget1 ?_ | refine L2.Rx.r_dput ?_ | refine L2.Rx.r_dpop1 ?_ | refine L2.Rx.r_isN ?_
  | refine L2.Rx.r_for ?_ | refine L2.Rx.r_ilist ?_ | refine L2.Rx.r_itup ?_
  | refine L2.Rx.r_gcons ?_ | refine L2.Rx.r_gnil ?_ | (refine L2.Rx.r_gtupP (by assumption) (by walk_at "at") ?_)
  | (refine L2.Rx.r_rEq rfl ?_) | (refine L2.Rx.r_rNe rfl ?_)
  | refine L2.Rx.r_rU ?_ | refine L2.Rx.r_max2 ?_ | refine L2.Rx.r_min2 ?_ | refine L2.Rx.r_int1i ?_ | (refine L2.Rx.r_lenh (by walk_at "hp") ?_)
  | (refine L2.Rx.r_ixLh (by walk_at "hp") (by walk_at "at") ?_)
  | (refine L2.Rx.r_setL (by walk_at "hp") (by walk_at "at") ?_))
local macro_rules | `(tactic| walk_at "at") => `(tactic| with_unfolding_all rfl)
local macro_rules | `(tactic| walk_at "rd") => `(tactic| (repeat walk_at "rd1"))
local macro_rules | `(tactic| walk_at "hp") => `(tactic| first
  | assumption
  | exact L2.upd_same
  | (refine Eq.trans (L2.upd_ne ?_) ?_; (focus walk_at "ne"); (focus walk_at "hp"))
  | (refine L2.Rx.Kp.at0 (by assumption) ?_; walk_at "hp")
  | (refine L2.Rx.Kp.at1 (by assumption) ?_ ?_; (focus walk_at "ne"); (focus walk_at "hp")))
local macro_rules | `(tactic| walk_at "ne") => `(tactic| first
  | assumption | exact Ne.symm (by assumption)
  | (refine L2.ne_of_none (H := ?nH) (o := ?nO) ?nh ?nn; (case nn => assumption); (case nh => walk_at "hp"))
  | (refine Ne.symm (L2.ne_of_none (H := ?nH) (o := ?nO) ?nh ?nn); (case nn => assumption); (case nh => walk_at "hp")))
local macro_rules | `(tactic| walk_at "len") => `(tactic| (rw [PySem.sizeLine_eq]; omega))
local macro_rules | `(tactic| walk_at "nin") => `(tactic| first
  | exact List.not_mem_nil
  | (refine L2.Rx.nin1 ?_; walk_at "ne"))
local macro_rules | `(tactic| walk_at "none") => `(tactic| first
  | assumption
  | (refine L2.Rx.Kp.none0 (by assumption) ?_ ?_; (focus walk_at "nin"); (focus walk_at "none")))
namespace L2.Ro
open PySem PySem.Spec PyProof.Rows L2.Rx
def sp_box (K : PySem.W.Frag) : Sp := fun vs H Q _ => ∃ (a : Addr) (ns : List Int) (k : Int), vs = [.ref a, .int k] ∧ SqL K H a (ns.map V.int) ∧ 0 ≤ k ∧ k ≤ 1000 ∧
  ∀ H' p, Kp [] H H' → H p = none → Box H' p 1000000000 → Q (.ref p) H'
section
variable {P : Program} {w : World} {K : PySem.W.Frag} {mg : Str → Option Value} {base : Heap}
theorem k_box {f : Addr} {fd : FuncData} (F : Fun K "_law_box" "_law_box" s_box f fd) (g : mg "_law_box" = some (.ref f)) (z : Zb mg)  : Kn P w K mg base CX0 1 "_law_box" (sp_box K) := by
  refine ⟨f, fd, ["_law_script", "_law_k"], fnG_body F sc_box (fun vs H Q E h => ?_) (fun cdv A outer s H vs Q E hr h => ?_), g, F.kp, F.binds (fun _ _ _ _ _ _ us hl => match us, hl with | [_, _], _ => rfl)⟩
  · obtain ⟨a, ns, k, rfl, _⟩ := h
    rfl
  · obtain ⟨a, ns, k, rfl, hS, k0, k1, q⟩ := h
    refine ⟨_, PSs.nox (pss_cons (ps_set (i := 2) sc_box.nd rfl (.inl rfl) (pe_ifExp (pt_cmpR op_lt (pv 1) (pe_callB (show CallR _ _ (rLenQ K) from c_len) (by rfl) z.n_len (by decide +kernel) (pa_cons (pv 0) pa_nil)) (nomark _)) (pe_ix (show IxR _ (rIxL K) from ix_list) (pv 0) (pv 1) (fun _ _ => rfl)) (pe_op op_add (pe_op op_mul pe_int (pv 1)) pe_int)))
      (pss_cons (ps_set (i := 3) sc_box.nd rfl (.inl rfl) (pe_op op_mul (pe_op op_mod (pe_callB c_abs (by rfl) z.n_abs (by decide +kernel) (pa_cons (pv 2) pa_nil)) (pe_op op_powW (pe_op op_pow pe_int pe_int) pe_int)) (pe_callTy c_int1 (by rfl) z.n_int (by decide +kernel) (pa_cons (pe_cmpR op_ge (pe_callB c_abs (by rfl) z.n_abs (by decide +kernel) (pa_cons (pv 2) pa_nil)) (pe_op op_pow pe_int pe_int) (nomark _)) pa_nil))))
      (pss_one (ps_ret (pe_lst (pa_cons (pv 3) (pa_cons (pe_op op_mod (pe_op op_mul (pe_op op_add (pe_op op_add (pe_op op_mod (pv 2) pe_int) (pe_op op_mul (pe_op op_mul pe_int (pv 1)) (pv 1))) pe_int) pe_int) pe_int) (pa_cons pe_int pa_nil)))))))), ?_⟩
    refine r_seq (r_asg (r_cut (fun v H' => ∃ n, v = .int n ∧ H' = H) ?key ?h))
    case h =>
      intro Q' h'
      walk_at "rd"
      refine r_len (.inl hS) ?_
      walk_at "rd"
      refine r_ite (fun hk => ?_) (fun hk => ?_)
      · walk_at "rd"
        obtain ⟨v, e, m⟩ := atI_int k0 hk
        refine r_ixL hS e ?_
        obtain ⟨n, _, rfl⟩ := List.mem_map.mp m
        exact h' _ _ ⟨n, rfl, rfl⟩
      · walk_at "rd"
        refine r_mul (.inl (by omega)) ?_
        walk_at "rd"
        exact h' _ _ ⟨_, rfl, rfl⟩
    case key =>
      rintro v _ ⟨n, rfl, rfl⟩
      walk_at "rd"
      refine r_abs fun m m0 => ?_
      walk_at "rd"
      refine r_pow (by decide) (by decide) (by decide) ?_
      walk_at "rd"
      refine r_powW (by decide) (by decide +kernel) ?_
      walk_at "rd"
      refine r_mod (by decide +kernel) (fun o o0 _ => ?_)
      walk_at "rd"
      refine r_abs fun m' _ => ?_
      walk_at "rd"
      refine r_pow (by decide) (by decide) (by decide) ?_
      walk_at "rd"
      refine r_int1b fun c c0 c1 => ?_
      walk_at "rd"
      refine r_mul (.inr (by omega)) ?_
      walk_at "rd"
      refine r_mod (j := 2305843009213693951) (by decide) (fun t t0 t1 => ?_)
      walk_at "rd"
      refine r_mul (.inl (by omega)) ?_
      walk_at "rd"
      refine r_mul (.inr (by omega)) ?_
      walk_at "rd"
      refine r_mul (.inr (by omega)) ?_
      walk_at "rd"
      refine r_mod (j := 2305843009213693921) (by decide) (fun e e0 e1 => ?_)
      walk_at "rd"
      refine r_new rfl (fun p np => ?_)
      exact q _ p (Kp.new np) np ⟨_, _, _, upd_same, Int.mul_nonneg o0 c0, e0, by omega, by omega, by omega⟩
end
end L2.Ro

end
section
set_option Elab.async false
set_option linter.all false
set_option maxRecDepth 100000
set_option maxHeartbeats 4000000
local macro_rules | `(tactic| walk_at "rd1") => `(tactic| with_reducible first
  | refine L2.Rx.r_seq ?_ | refine L2.Rx.r_asg ?_ | refine L2.Rx.r_gname ?_ | refine L2.Rx.r_op ?_ | refine L2.Rx.r_c ?_
  | refine L2.Rx.r_var rfl ?_
  | refine L2.Rx.r_rI0 ?_ | refine L2.Rx.r_test ?_ | refine L2.Rx.r_bl ?_ | refine L2.Rx.r_if ?_ | refine L2.Rx.r_ret ?_
  | refine L2.Rx.r_cons ?_ | refine L2.Rx.r_nil ?_ | refine L2.Rx.r_call ?_ | refine L2.Rx.r_cb ?_ | refine L2.Rx.r_next ?_ | refine L2.Rx.r_drop ?_
  | refine L2.Rx.r_gsub ?_ | refine L2.Rx.r_tupF ?_ | refine L2.Rx.r_lst ?_ | refine L2.Rx.r_par ?_ | refine L2.Rx.r_par2 ?_
  | refine L2.Rx.r_un ?_ | refine L2.Rx.r_tb ?_ | refine L2.Rx.r_and ?_ | refine L2.Rx.r_or ?_ | refine L2.Rx.r_not ?_
  | refine L2.Rx.r_andV ?_ | refine L2.Rx.r_orV ?_ | refine L2.Rx.r_notV ?_ | refine L2.Rx.r_ifx ?_ | refine L2.Rx.r_chain ?_
  | refine L2.Rx.r_sl ?_ | refine L2.Rx.r_nopart ?_ | refine L2.Rx.r_part ?_ | refine L2.Rx.r_exint ?_ | refine L2.Rx.r_bm0 ?_ | refine L2.Rx.r_bm ?_
  | refine L2.Rx.r_lc ?_ | refine L2.Rx.r_rng1 ?_ | refine L2.Rx.r_yes ?_ | refine L2.Rx.r_tt ?_ | refine L2.Rx.r_ff ?_ | refine L2.Rx.r_m1 ?_ | refine L2.Rx.r_m0 ?_ | refine L2.Rx.r_isS ?_
  | (refine L2.Rx.r_wipe (by with_unfolding_all rfl) ?_) | (refine L2.Rx.r_tyL (by walk_at "hp") ?_)
  | refine L2.Rx.r_addS (by walk_at "len") ?_ | refine L2.Rx.r_lenS (by walk_at "len") ?_ | refine L2.Rx.r_slS (by walk_at "len") ?_
  | refine L2.Rx.r_dnotin ?_ | refine L2.Rx.r_dget ?_ | refine L2.Rx.r_dget1 ?_ | refine L2.Rx.r_dput ?_ | refine L2.Rx.r_dpop1 ?_ | refine L2.Rx.r_isN ?_
  | refine L2.Rx.r_for ?_ | refine L2.Rx.r_ilist ?_ | refine L2.Rx.r_itup ?_
  | refine L2.Rx.r_gcons ?_ | refine L2.Rx.r_gnil ?_ | (refine L2.Rx.r_gtupP (by assumption) (by walk_at "at") ?_)
  | (refine L2.Rx.r_rEq rfl ?_) | (refine L2.Rx.r_rNe rfl ?_)
  | refine L2.Rx.r_rU ?_ | refine L2.Rx.r_max2 ?_ | refine L2.Rx.r_min2 ?_ | refine L2.Rx.r_int1i ?_ | (refine L2.Rx.r_lenh (by walk_at "hp") ?_)
  | (refine L2.Rx.r_ixLh (by walk_at "hp") (by walk_at "at") ?_)
  | (refine L2.Rx.r_setL (by walk_at "hp") (by walk_at "at") ?_))
local macro_rules | `(tactic| walk_at "at") => `(tactic| with_unfolding_all rfl)
local macro_rules | `(tactic| walk_at "rd") => `(tactic| (repeat walk_at "rd1"))
local macro_rules | `(tactic| walk_at "hp") => `(tactic| first
  | assumption
  | exact L2.upd_same
  | (refine Eq.trans (L2.upd_ne ?_) ?_; (focus walk_at "ne"); (focus walk_at "hp"))
  | (refine L2.Rx.Kp.at0 (by assumption) ?_; walk_at "hp")
  | (refine L2.Rx.Kp.at1 (by assumption) ?_ ?_; (focus walk_at "ne"); (focus walk_at "hp")))
local macro_rules | `(tactic| walk_at "ne") => `(tactic| first
  | assumption | exact Ne.symm (by assumption)
  | (refine L2.ne_of_none (H := ?nH) (o := ?nO) ?nh ?nn; (case nn => assumption); (case nh => walk_at "hp"))
  | (refine Ne.symm (L2.ne_of_none (H := ?nH) (o := ?nO) ?nh ?nn); (case nn => assumption); (case nh => walk_at "hp")))
local macro_rules | `(tactic| walk_at "len") => `(tactic| (rw [PySem.sizeLine_eq]; omega))
local macro_rules | `(tactic| walk_at "nin") => `(tactic| first
  | exact List.not_mem_nil
  | (refine L2.Rx.nin1 ?_; walk_at "ne"))
local macro_rules | `(tactic| walk_at "none") => `(tactic| first
  | assumption
  | (refine L2.Rx.Kp.none0 (by assumption) ?_ ?_; (focus walk_at "nin"); (focus walk_at "none")))
namespace L2.Ro
open PySem PySem.Spec PyProof.Rows L2.Rx
def sp_take : Sp := fun vs H Q _ => ∃ (b : Addr) (n : Nat) (u : Int), vs = [.ref b, .int u] ∧ Box H b (n + 1) ∧ 0 < u ∧ u ≤ 1000000000 ∧
  ∀ H' r, Kp [b] H H' → Box H' b n → 0 ≤ r → r < u → Q (.int r) H'
section
variable {P : Program} {w : World} {K : PySem.W.Frag} {mg : Str → Option Value} {base : Heap}
theorem k_take {f : Addr} {fd : FuncData} (F : Fun K "_law_take" "_law_take" s_take f fd) (g : mg "_law_take" = some (.ref f)) (z : Zb mg)  : Kn P w K mg base CX0 1 "_law_take" sp_take := by
  refine ⟨f, fd, ["_law_box_here", "_law_upon"], fnG_body F sc_take (fun vs H Q E h => ?_) (fun cdv A outer s H vs Q E hr h => ?_), g, F.kp, F.binds (fun _ _ _ _ _ _ us hl => match us, hl with | [_, _], _ => rfl)⟩
  · obtain ⟨b, n, u, rfl, _⟩ := h
    rfl
  · obtain ⟨b, n, u, rfl, ⟨o, m, c, hb, o0, m0, m1, c0, c1⟩, u0, u1, q⟩ := h
    refine ⟨_, PSs.nox (pss_cons (ps_if (pt_cmpR op_gt (pe_ix (show IxR _ (rIxL K) from ix_list) (pv 0) pe_int (fun _ _ => rfl)) pe_int (nomark _))
        (pss_cons (ps_set (i := 2) sc_take.nd rfl (.inl rfl) (pe_op op_mod (pe_ix (show IxR _ (rIxL K) from ix_list) (pv 0) pe_int (fun _ _ => rfl)) (pv 1)))
        (pss_cons (ps_asg (pe_op op_fdiv (pe_ix (show IxR _ (rIxL K) from ix_list) (pv 0) pe_int (fun _ _ => rfl)) (pv 1)) (pg_sub (pv 0) pe_int set_list))
        (pss_one (ps_ret (pv 2)))))
        pss_nil)
      (pss_cons (ps_asg (pe_op op_add (pe_ix (show IxR _ (rIxL K) from ix_list) (pv 0) pe_int (fun _ _ => rfl)) pe_int) (pg_sub (pv 0) pe_int set_list))
      (pss_cons (ps_set (i := 3) sc_take.nd rfl (.inl rfl) (pe_ix (show IxR _ (rIxL K) from ix_list) (pe_lst (pa_cons pe_int (pa_cons pe_int (pa_cons pe_int (pa_cons pe_int (pa_cons pe_int (pa_cons pe_int (pa_cons pe_int pa_nil)))))))) (pe_op op_mod (pe_ix (show IxR _ (rIxL K) from ix_list) (pv 0) pe_int (fun _ _ => rfl)) pe_int) (fun _ _ => rfl)))
      (pss_cons (ps_set (i := 4) sc_take.nd rfl (.inl rfl) (pe_op op_mod (pe_op op_pow (pe_op op_add (pe_ix (show IxR _ (rIxL K) from ix_list) (pv 0) pe_int (fun _ _ => rfl)) (pe_op op_mul pe_int (pe_ix (show IxR _ (rIxL K) from ix_list) (pv 0) pe_int (fun _ _ => rfl)))) pe_int) (pv 3)))
      (pss_cons (ps_set (i := 4) sc_take.nd rfl (.inl rfl) (pe_op op_mod (pe_op op_mul (pv 4) (pe_op op_add (pe_op op_mod (pv 4) pe_int) (pe_ix (show IxR _ (rIxL K) from ix_list) (pv 0) pe_int (fun _ _ => rfl)))) (pv 3)))
      (pss_cons (ps_if (pt_cmpR op_gt (pv 1) (pe_op op_pow pe_int pe_int) (nomark _))
        (pss_one (ps_set (i := 4) sc_take.nd rfl (.inl rfl) (pe_op op_add (pe_op op_mul (pv 4) pe_int) (pe_op op_mod (pe_op op_add (pe_op op_mul (pe_ix (show IxR _ (rIxL K) from ix_list) (pv 0) pe_int (fun _ _ => rfl)) (pe_op op_add (pe_ix (show IxR _ (rIxL K) from ix_list) (pv 0) pe_int (fun _ _ => rfl)) pe_int)) (pe_op op_mul (pv 4) (pv 4))) pe_int))))
        pss_nil)
      (pss_one (ps_ret (pe_op op_mod (pe_op op_fdiv (pv 4) pe_int) (pv 1)))))))))), ?_⟩
    walk_at "rd"
    refine r_ite (fun ho => ?_) (fun ho => ?_)
    · walk_at "rd"
      refine r_rI u0 ?_
      walk_at "rd"
      refine r_div o0 u0 (by omega) (fun o' o'0 _ => ?_)
      walk_at "rd"
      refine q _ _ Kp.put ⟨_, _, _, upd_same, o'0, m0, m1, c0, by omega⟩ (Int.emod_nonneg _ (by omega)) (Int.emod_lt_of_pos _ u0)
    · walk_at "rd"
      refine r_new rfl (fun p np => ?_)
      walk_at "rd"
      refine r_mod (j := 7) (by decide) (fun i i0 i1 => ?_)
      refine r_pickL upd_same i0 i1 (fun v hv => ?_)
      obtain ⟨k, rfl, k0, k1⟩ : ∃ k : Int, v = .int k ∧ 0 < k ∧ k < 2147483648 := by
        simp only [List.mem_cons, List.mem_nil_iff, or_false] at hv
        rcases hv with rfl | rfl | rfl | rfl | rfl | rfl | rfl <;> exact ⟨_, rfl, by decide, by decide⟩
      clear hv
      walk_at "rd"
      refine r_mul (.inl (by omega)) ?_
      walk_at "rd"
      refine r_pow (by decide) (by decide) (by omega) ?_
      walk_at "rd"
      refine r_mod k0 (fun d d0 d1 => ?_)
      walk_at "rd"
      refine r_mod (j := 1009) (by decide) (fun e e0 e1 => ?_)
      walk_at "rd"
      refine r_mul (.inl (by omega)) ?_
      walk_at "rd"
      refine r_mod k0 (fun g g0 g1 => ?_)
      walk_at "rd"
      refine r_pow (by decide) (by decide) (by decide) ?_
      walk_at "rd"
      refine r_ite (fun hu => ?_) (fun hu => ?_)
      · walk_at "rd"
        refine r_mul (.inl (by omega)) ?_
        walk_at "rd"
        refine r_mul (.inl (by omega)) ?_
        walk_at "rd"
        refine r_mul (.inl (by omega)) ?_
        walk_at "rd"
        refine r_mod (j := 1000000007) (by decide) (fun t t0 t1 => ?_)
        walk_at "rd"
        refine r_div (by omega) (by decide) (by decide) (fun z z0 _ => ?_)
        walk_at "rd"
        refine r_mod u0 (fun r r0 r1 => ?_)
        refine q _ _ ((Kp.put (b := b)).trans (Kp.new np)) ⟨_, _, _, by walk_at "hp", o0, m0, m1, by omega, by omega⟩ r0 r1
      · walk_at "rd"
        refine r_div (by omega) (by decide) (by decide) (fun z z0 _ => ?_)
        walk_at "rd"
        refine r_mod u0 (fun r r0 r1 => ?_)
        refine q _ _ ((Kp.put (b := b)).trans (Kp.new np)) ⟨_, _, _, by walk_at "hp", o0, m0, m1, by omega, by omega⟩ r0 r1
end
end L2.Ro

end
section
set_option Elab.async false
set_option linter.all false
set_option maxRecDepth 100000
set_option maxHeartbeats 4000000
local macro_rules | `(tactic| walk_at "rd1") => `(tactic| with_reducible first
  | refine L2.Rx.r_seq ?_ | refine L2.Rx.r_asg ?_ | refine L2.Rx.r_gname ?_ | refine L2.Rx.r_op ?_ | refine L2.Rx.r_c ?_
  | refine L2.Rx.r_var rfl ?_
  | refine L2.Rx.r_rI0 ?_ | refine L2.Rx.r_test ?_ | refine L2.Rx.r_bl ?_ | refine L2.Rx.r_if ?_ | refine L2.Rx.r_ret ?_
  | refine L2.Rx.r_cons ?_ | refine L2.Rx.r_nil ?_ | refine L2.Rx.r_call ?_ | refine L2.Rx.r_cb ?_ | refine L2.Rx.r_next ?_ | refine L2.Rx.r_drop ?_
  | refine L2.Rx.r_gsub ?_ | refine L2.Rx.r_tupF ?_ | refine L2.Rx.r_lst ?_ | refine L2.Rx.r_par ?_ | refine L2.Rx.r_par2 ?_
  | refine L2.Rx.r_un ?_ | refine L2.Rx.r_tb ?_ | refine L2.Rx.r_and ?_ | refine L2.Rx.r_or ?_ | refine L2.Rx.r_not ?_
  | refine L2.Rx.r_andV ?_ | refine L2.Rx.r_orV ?_ | refine L2.Rx.r_notV ?_ | refine L2.Rx.r_ifx ?_ | refine L2.Rx.r_chain ?_
  | refine L2.Rx.r_sl ?_ | refine L2.Rx.r_nopart ?_ | refine L2.Rx.r_part ?_ | refine L2.Rx.r_exint ?_ | refine L2.Rx.r_bm0 ?_ | refine L2.Rx.r_bm ?_
  | refine L2.Rx.r_lc ?_ | refine L2.Rx.r_rng1 ?_ | refine L2.Rx.r_yes ?_ | refine L2.Rx.r_tt ?_ | refine L2.Rx.r_ff ?_ | refine L2.Rx.r_m1 ?_ | refine L2.Rx.r_m0 ?_ | refine L2.Rx.r_isS ?_
  | (refine L2.Rx.r_wipe (by with_unfolding_all rfl) ?_) | (refine L2.Rx.r_tyL (by walk_at "hp") ?_)
  | refine L2.Rx.r_addS (by walk_at "len") ?_ | refine L2.Rx.r_lenS (by walk_at "len") ?_ | refine L2.Rx.r_slS (by walk_at "len") ?_
  | refine L2.Rx.r_dnotin ?_ | refine L2.Rx.r_dget ?_ | refine L2.Rx.r_dget1 ?_ | refine L2.Rx.r_dput ?_ | refine L2.Rx.r_dpop1 ?_ | refine L2.Rx.r_isN ?_
  | refine L2.Rx.r_for ?_ | refine L2.Rx.r_ilist ?_ | refine L2.Rx.r_itup ?_
  | refine L2.Rx.r_gcons ?_ | refine L2.Rx.r_gnil ?_ | (refine L2.Rx.r_gtupP (by assumption) (by walk_at "at") ?_)
  | (refine L2.Rx.r_rEq rfl ?_) | (refine L2.Rx.r_rNe rfl ?_)
  | refine L2.Rx.r_rU ?_ | refine L2.Rx.r_max2 ?_ | refine L2.Rx.r_min2 ?_ | refine L2.Rx.r_int1i ?_ | (refine L2.Rx.r_lenh (by walk_at "hp") ?_)
  | (refine L2.Rx.r_ixLh (by walk_at "hp") (by walk_at "at") ?_)
  | (refine L2.Rx.r_setL (by walk_at "hp") (by walk_at "at") ?_))
local macro_rules | `(tactic| walk_at "at") => `(tactic| with_unfolding_all rfl)
local macro_rules | `(tactic| walk_at "rd") => `(tactic| (repeat walk_at "rd1"))
local macro_rules | `(tactic| walk_at "hp") => `(tactic| first
  | assumption
  | exact L2.upd_same
  | (refine Eq.trans (L2.upd_ne ?_) ?_; (focus walk_at "ne"); (focus walk_at "hp"))
  | (refine L2.Rx.Kp.at0 (by assumption) ?_; walk_at "hp")
  | (refine L2.Rx.Kp.at1 (by assumption) ?_ ?_; (focus walk_at "ne"); (focus walk_at "hp")))
local macro_rules | `(tactic| walk_at "ne") => `(tactic| first
  | assumption | exact Ne.symm (by assumption)
  | (refine L2.ne_of_none (H := ?nH) (o := ?nO) ?nh ?nn; (case nn => assumption); (case nh => walk_at "hp"))
  | (refine Ne.symm (L2.ne_of_none (H := ?nH) (o := ?nO) ?nh ?nn); (case nn => assumption); (case nh => walk_at "hp")))
local macro_rules | `(tactic| walk_at "len") => `(tactic| (rw [PySem.sizeLine_eq]; omega))
local macro_rules | `(tactic| walk_at "nin") => `(tactic| first
  | exact List.not_mem_nil
  | (refine L2.Rx.nin1 ?_; walk_at "ne"))
local macro_rules | `(tactic| walk_at "none") => `(tactic| first
  | assumption
  | (refine L2.Rx.Kp.none0 (by assumption) ?_ ?_; (focus walk_at "nin"); (focus walk_at "none")))
namespace L2.Ro
open PySem PySem.Spec PyProof.Rows L2.Rx
/-- one of the items, or one sign of the text -/
def sp_of (K : PySem.W.Frag) : Sp := fun vs H Q _ => ∃ (b : Addr) (n : Nat) (x : V), vs = [.ref b, x] ∧ Box H b (n + 1) ∧
  ((∃ (p : Addr) (xs : List V), x = .ref p ∧ (SqL K H p xs ∨ SqT K H p xs) ∧ p ≠ b ∧ 0 < xs.length ∧ xs.length ≤ 1000000000 ∧ ∀ H' v, Kp [b] H H' → Box H' b n → v ∈ xs → Q v H') ∨
   (∃ z : Str, x = .str z ∧ 0 < z.length ∧ z.length ≤ 1000 ∧ ∀ H' c, Kp [b] H H' → Box H' b n → c ∈ z.cps.toList → Q (.str ⟨#[c]⟩) H'))
section
variable {P : Program} {w : World} {K : PySem.W.Frag} {mg : Str → Option Value} {base : Heap}
theorem k_of {f : Addr} {fd : FuncData} (F : Fun K "_law_of" "_law_of" s_of f fd) (g : mg "_law_of" = some (.ref f)) (z : Zb mg) (k_take : Kn P w K mg base CX0 1 "_law_take" sp_take)  : Kn P w K mg base CX0 2 "_law_of" (sp_of K) := by
  refine ⟨f, fd, ["_law_box_here", "_law_some"], fnG_body F sc_of (fun vs H Q E h => ?_) (fun cdv A outer s H vs Q E hr h => ?_), g, F.kp, F.binds (fun _ _ _ _ _ _ us hl => match us, hl with | [_, _], _ => rfl)⟩
  · obtain ⟨b, n, x, rfl, _⟩ := h
    rfl
  · obtain ⟨b, n, x, rfl, B, q⟩ := h
    refine ⟨_, PSs.nox (pss_one (ps_ret (pe_ix (show IxR _ (rIx K) from ix_seq) (pv 1) (k_take.call hr (by decide) (by rfl) (pa_cons (pv 0) (pa_cons (pe_callB (show CallR _ _ (rLenV K) from c_lenV) (by rfl) z.n_len (by decide +kernel) (pa_cons (pv 1) pa_nil)) pa_nil))) (fun _ _ => rfl)))), ?_⟩
    rcases q with ⟨p, xs, rfl, hs, ne, l0, l1, q⟩ | ⟨z, rfl, l0, l1, q⟩
    · walk_at "rd"
      refine .inl (r_len hs ?_)
      walk_at "rd"
      refine ⟨b, n, _, rfl, B, by omega, by omega, fun H' r k B' r0 r1 => ?_⟩
      obtain ⟨v, e, m⟩ := atI_int r0 r1
      rcases hs with hs | hs
      · exact .inl ⟨p, xs, r, v, rfl, rfl, kp1_sqL k ne hs, e, q H' v k B' m⟩
      · exact .inr (.inl ⟨p, xs, r, v, rfl, rfl, kp_sqT k (by simpa using ne) hs, e, q H' v k B' m⟩)
    · walk_at "rd"
      refine .inr (r_lenS (Nat.le_trans l1 (by decide)) ?_)
      walk_at "rd"
      refine ⟨b, n, _, rfl, B, by omega, by omega, fun H' r k B' r0 r1 => ?_⟩
      obtain ⟨j, rfl⟩ : ∃ j : Nat, r = (j : Int) := ⟨r.toNat, by omega⟩
      have hj : j < z.cps.toList.length := by
        have : z.length = z.cps.toList.length := by simp [Str.length]
        omega
      exact .inr (.inr ⟨z, j, z.cps.toList[j], rfl, rfl, Nat.le_trans l1 (by decide), atI_nat (List.getElem?_eq_getElem hj), q H' _ k B' (List.getElem_mem hj)⟩)
end
end L2.Ro

end
section
set_option Elab.async false
set_option linter.all false
set_option maxRecDepth 100000
set_option maxHeartbeats 4000000
local macro_rules | `(tactic| walk_at "rd1") => `(tactic| with_reducible first
  | refine L2.Rx.r_seq ?_ | refine L2.Rx.r_asg ?_ | refine L2.Rx.r_gname ?_ | refine L2.Rx.r_op ?_ | refine L2.Rx.r_c ?_
  | refine L2.Rx.r_var rfl ?_
  | refine L2.Rx.r_rI0 ?_ | refine L2.Rx.r_test ?_ | refine L2.Rx.r_bl ?_ | refine L2.Rx.r_if ?_ | refine L2.Rx.r_ret ?_
  | refine L2.Rx.r_cons ?_ | refine L2.Rx.r_nil ?_ | refine L2.Rx.r_call ?_ | refine L2.Rx.r_cb ?_ | refine L2.Rx.r_next ?_ | refine L2.Rx.r_drop ?_
  | refine L2.Rx.r_gsub ?_ | refine L2.Rx.r_tupF ?_ | refine L2.Rx.r_lst ?_ | refine L2.Rx.r_par ?_ | refine L2.Rx.r_par2 ?_
  | refine L2.Rx.r_un ?_ | refine L2.Rx.r_tb ?_ | refine L2.Rx.r_and ?_ | refine L2.Rx.r_or ?_ | refine L2.Rx.r_not ?_
  | refine L2.Rx.r_andV ?_ | refine L2.Rx.r_orV ?_ | refine L2.Rx.r_notV ?_ | refine L2.Rx.r_ifx ?_ | refine L2.Rx.r_chain ?_
  | refine L2.Rx.r_sl ?_ | refine L2.Rx.r_nopart ?_ | refine L2.Rx.r_part ?_ | refine L2.Rx.r_exint ?_ | refine L2.Rx.r_bm0 ?_ | refine L2.Rx.r_bm ?_
  | refine L2.Rx.r_lc ?_ | refine L2.Rx.r_rng1 ?_ | refine L2.Rx.r_yes ?_ | refine L2.Rx.r_tt ?_ | refine L2.Rx.r_ff ?_ | refine L2.Rx.r_m1 ?_ | refine L2.Rx.r_m0 ?_ | refine L2.Rx.r_isS ?_
  | (refine L2.Rx.r_wipe (by with_unfolding_all rfl) ?_) | (refine L2.Rx.r_tyL (by walk_at "hp") ?_)
  | refine L2.Rx.r_addS (by walk_at "len") ?_ | refine L2.Rx.r_lenS (by walk_at "len") ?_ | refine L2.Rx.r_slS (by walk_at "len") ?_
  | refine L2.Rx.r_dnotin ?_ | refine L2.Rx.r_dget ?_ | refine L2.Rx.r_dget1 ?_ | refine L2.Rx.r_dput ?_ | refine L2.Rx.r_dpop1 ?_ | refine L2.Rx.r_isN ?_
  | refine L2.Rx.r_for ?_ | refine L2.Rx.r_ilist ?_ | refine L2.Rx.r_itup ?_
  | refine L2.Rx.r_gcons ?_ | refine L2.Rx.r_gnil ?_ | (refine L2.Rx.r_gtupP (by assumption) (by walk_at "at") ?_)
  | (refine L2.Rx.r_rEq rfl ?_) | (refine L2.Rx.r_rNe rfl ?_)
  | refine L2.Rx.r_rU ?_ | refine L2.Rx.r_max2 ?_ | refine L2.Rx.r_min2 ?_ | refine L2.Rx.r_int1i ?_ | (refine L2.Rx.r_lenh (by walk_at "hp") ?_)
  | (refine L2.Rx.r_ixLh (by walk_at "hp") (by walk_at "at") ?_)
  | (refine L2.Rx.r_setL (by walk_at "hp") (by walk_at "at") ?_))
local macro_rules | `(tactic| walk_at "at") => `(tactic| with_unfolding_all rfl)
local macro_rules | `(tactic| walk_at "rd") => `(tactic| (repeat walk_at "rd1"))
local macro_rules | `(tactic| walk_at "hp") => `(tactic| first
  | assumption
  | exact L2.upd_same
  | (refine Eq.trans (L2.upd_ne ?_) ?_; (focus walk_at "ne"); (focus walk_at "hp"))
  | (refine L2.Rx.Kp.at0 (by assumption) ?_; walk_at "hp")
  | (refine L2.Rx.Kp.at1 (by assumption) ?_ ?_; (focus walk_at "ne"); (focus walk_at "hp")))
local macro_rules | `(tactic| walk_at "ne") => `(tactic| first
  | assumption | exact Ne.symm (by assumption)
  | (refine L2.ne_of_none (H := ?nH) (o := ?nO) ?nh ?nn; (case nn => assumption); (case nh => walk_at "hp"))
  | (refine Ne.symm (L2.ne_of_none (H := ?nH) (o := ?nO) ?nh ?nn); (case nn => assumption); (case nh => walk_at "hp")))
local macro_rules | `(tactic| walk_at "len") => `(tactic| (rw [PySem.sizeLine_eq]; omega))
local macro_rules | `(tactic| walk_at "nin") => `(tactic| first
  | exact List.not_mem_nil
  | (refine L2.Rx.nin1 ?_; walk_at "ne"))
local macro_rules | `(tactic| walk_at "none") => `(tactic| first
  | assumption
  | (refine L2.Rx.Kp.none0 (by assumption) ?_ ?_; (focus walk_at "nin"); (focus walk_at "none")))
namespace L2.Ro
open PySem PySem.Spec PyProof.Rows L2.Rx
def sp_cells : Sp := fun vs H Q _ => ∃ (b : Addr) (n : Nat) (k : Int), vs = [.ref b, .int k] ∧ Box H b (n + 20) ∧ 0 ≤ k ∧ k ≤ 26 ∧
  ∀ H' p cs, Kp [b] H H' → H p = none → Box H' b n → H' p = some (.lst (cs.map V.str)) → cs.length = k.toNat → Cells cs → Q (.ref p) H'
theorem letters_tl : (Str.ofString "abcdefghijklmnopqrstuvwxyz").cps.toList = List.range' 97 26 := by decide +kernel
/-- the i-th of the cells -/
def cellN (st : List Nat) (u l : Int) (c : Nat) (i : Nat) : Str := ⟨(st.take c ++ [97 + ((u + l * i) % 26).toNat] ++ st.drop c).toArray⟩
theorem leap_inj : ∀ l ∈ ([1, 3, 5, 7, 9, 11] : List Int), ∀ d : Nat, d < 26 → (l * d) % 26 = 0 → d = 0 := by decide +kernel
theorem cellN_cell {st : List Nat} {u l : Int} {c i : Nat} (hs : low st) (hl : st.length ≤ 7) : Cell (cellN st u l c i) := by
  have e : (cellN st u l c i).cps.toList = st.take c ++ [97 + ((u + l * i) % 26).toNat] ++ st.drop c := rfl
  have h26 : ((u + l * i) % 26).toNat < 26 := by
    have := Int.emod_lt_of_pos (u + l * i) (by decide : (0 : Int) < 26)
    omega
  refine ⟨?_, ?_, ?_⟩
  · rw [len_tl, e]
    simp only [List.length_append, List.length_singleton]
    omega
  · rw [len_tl, e]
    simp only [List.length_append, List.length_singleton, List.length_take, List.length_drop]
    omega
  · rw [e]
    intro x hx
    rcases List.mem_append.mp hx with hx | hx
    · rcases List.mem_append.mp hx with hx | hx
      · exact hs x (List.mem_of_mem_take hx)
      · have : x = 97 + ((u + l * i) % 26).toNat := by simpa using hx
        omega
    · exact hs x (List.mem_of_mem_drop hx)
theorem cellN_inj {st : List Nat} {u l : Int} {c i j : Nat} (hl : l ∈ ([1, 3, 5, 7, 9, 11] : List Int)) (hi : i < 26) (hj : j < 26) (e : cellN st u l c i = cellN st u l c j) : i = j := by
  have e1 : st.take c ++ [97 + ((u + l * i) % 26).toNat] ++ st.drop c = st.take c ++ [97 + ((u + l * j) % 26).toNat] ++ st.drop c := by
    have := congrArg (fun z : Str => z.cps.toList) e
    exact this
  have e2 := List.append_cancel_right e1
  have e3 := List.append_cancel_left e2
  have e4 : 97 + ((u + l * i) % 26).toNat = 97 + ((u + l * j) % 26).toNat := by simpa using e3
  have p1 := Int.emod_nonneg (u + l * i) (by decide : (26 : Int) ≠ 0)
  have p2 := Int.emod_nonneg (u + l * j) (by decide : (26 : Int) ≠ 0)
  have e5 : (u + l * i) % 26 = (u + l * j) % 26 := by omega
  rcases Nat.le_total i j with h | h
  · have e6 : (l * ((j - i : Nat) : Int)) % 26 = 0 := by
      have : l * ((j - i : Nat) : Int) = (u + l * j) - (u + l * i) := by
        rw [Int.ofNat_sub h, Int.mul_sub]
        omega
      rw [this]
      omega
    have := leap_inj l hl (j - i) (by omega) e6
    omega
  · have e6 : (l * ((i - j : Nat) : Int)) % 26 = 0 := by
      have : l * ((i - j : Nat) : Int) = (u + l * i) - (u + l * j) := by
        rw [Int.ofNat_sub h, Int.mul_sub]
        omega
      rw [this]
      omega
    have := leap_inj l hl (i - j) (by omega) e6
    omega
theorem cellN_all {st : List Nat} {u l : Int} {c n : Nat} (hs : low st) (h7 : st.length ≤ 7) (hl : l ∈ ([1, 3, 5, 7, 9, 11] : List Int)) (hn : n ≤ 26) : Cells ((List.range n).map (cellN st u l c)) := by
  refine ⟨?_, ?_⟩
  · rw [List.nodup_iff_pairwise_ne, List.pairwise_map]
    refine List.Pairwise.imp_of_mem (R := (· ≠ ·)) ?_ List.nodup_range
    intro i j hi hj ne e
    exact ne (cellN_inj hl (by have := List.mem_range.mp hi; omega) (by have := List.mem_range.mp hj; omega) e)
  · intro z hz
    obtain ⟨i, _, rfl⟩ := List.mem_map.mp hz
    exact cellN_cell hs h7
section
variable {P : Program} {w : World} {K : PySem.W.Frag} {mg : Str → Option Value} {base : Heap}
theorem k_cells {f : Addr} {fd : FuncData} (F : Fun K "_law_cells" "_law_cells" s_cells f fd) (g : mg "_law_cells" = some (.ref f)) (z : Zb mg) (k_take : Kn P w K mg base CX0 1 "_law_take" sp_take) (k_of : Kn P w K mg base CX0 2 "_law_of" (sp_of K))  : Kn P w K mg base CX0 3 "_law_cells" sp_cells := by
  refine ⟨f, fd, ["_law_box_here", "_law_count"], fnG_body F sc_cells (fun vs H Q E h => ?_) (fun cdv A outer s H vs Q E hr h => ?_), g, F.kp, F.binds (fun _ _ _ _ _ _ us hl => match us, hl with | [_, _], _ => rfl)⟩
  · obtain ⟨b, n, k, rfl, _⟩ := h
    rfl
  · obtain ⟨b, n, k, rfl, B, k0, k1, q⟩ := h
    refine ⟨_, PSs.nox (pss_cons (ps_set (i := 2) sc_cells.nd rfl (.inr rfl) pe_str)
      (pss_cons (ps_asg (pe_tupF (pa_cons (k_take.call hr (by decide) (by rfl) (pa_cons (pv 0) (pa_cons pe_int pa_nil))) (pa_cons (k_of.call hr (by decide) (by rfl) (pa_cons (pv 0) (pa_cons (pe_lst (pa_cons pe_int (pa_cons pe_int (pa_cons pe_int (pa_cons pe_int (pa_cons pe_int (pa_cons pe_int pa_nil))))))) pa_nil))) pa_nil))) (show PG _ _ (gTup K 2 _) from pg_tup rfl (pgs_cons (pg_name (i := 3) sc_cells.nd rfl (.inr rfl)) (pgs_cons (pg_name (i := 4) sc_cells.nd rfl (.inr rfl)) pgs_nil))))
      (pss_cons (ps_set (i := 5) sc_cells.nd rfl (.inr rfl) (show PE _ _ (tM1 (rJoin K) _ _) from pe_joinV pe_str (pe_lc (own := [("_law_turn", 7)]) (g := (gName 7)) (by rfl) sc_cells.nd (pi_range1 rfl z.n_range (pa_cons (k_of.call hr (by decide) (by rfl) (pa_cons (pv 0) (pa_cons (pe_lst (pa_cons pe_int (pa_cons pe_int (pa_cons pe_int (pa_cons pe_int (pa_cons pe_int (pa_cons pe_int pa_nil))))))) pa_nil))) pa_nil)) (blkOk_by (own := [("_law_turn", 7)]) (N := ["_law_box_here", "_law_count", "_law_letters", "_law_start", "_law_leap", "_law_stem", "_law_cut", "_law_turn"]) (sc := defScope s_cells) (by decide +kernel)) (fun _ _ _ _ _ => (pg_name (i := 7) sc_cells.nd rfl (.inl rfl))) (fun _ _ _ _ _ => pts_nil) (fun _ _ _ _ _ => (k_of.call hr (by decide) (by rfl) (pa_cons (pv 0) (pa_cons (pv 2) pa_nil)))))))
      (pss_cons (ps_set (i := 6) sc_cells.nd rfl (.inr rfl) (k_take.call hr (by decide) (by rfl) (pa_cons (pv 0) (pa_cons (pe_op op_add (pe_callB c_lenS (by rfl) z.n_len (by decide +kernel) (pa_cons (pv 5) pa_nil)) pe_int) pa_nil))))
      (pss_one (ps_ret (pe_lc (own := [("_law_turn", 7)]) (g := (gName 7)) (by rfl) sc_cells.nd (pi_range1 rfl z.n_range (pa_cons (pv 1) pa_nil)) (blkOk_by (own := [("_law_turn", 7)]) (N := ["_law_box_here", "_law_count", "_law_letters", "_law_start", "_law_leap", "_law_stem", "_law_cut", "_law_turn"]) (sc := defScope s_cells) (by decide +kernel)) (fun _ _ _ _ _ => (pg_name (i := 7) sc_cells.nd rfl (.inl rfl))) (fun _ _ _ _ _ => pts_nil) (fun _ _ _ _ _ => (pe_op op_addS (pe_op op_addS (pe_slice sl_str (pv 5) po_none (po_some (pv 6))) (pe_ix ix_str (pv 2) (pe_op op_mod (pe_op op_add (pv 3) (pe_op op_mul (pv 4) (pv 7))) pe_int) (fun _ _ => rfl))) (pe_slice sl_str (pv 5) (po_some (pv 6)) po_none)))))))))), ?_⟩
    walk_at "rd"
    obtain ⟨_, hb⟩ := B.lst
    refine ⟨b, n + 19, 26, rfl, B, by decide, by decide, fun H1 u kp1 B1 u0 u1 => ?_⟩
    walk_at "rd"
    obtain ⟨_, hb1⟩ := B1.lst
    refine r_new rfl (fun p np => ?_)
    refine gen_new np fun H2 kp2 hp => ?_
    walk_at "rd"
    have npb : p ≠ b := by walk_at "ne"
    refine ⟨b, n + 18, _, rfl, B1.keep kp2, .inl ⟨p, _, rfl, .inl (.inl (.inl hp)), npb, by decide, by decide, fun H3 l kp3 B3 hv => ?_⟩⟩
    obtain ⟨l, rfl, hl⟩ : ∃ i : Int, l = .int i ∧ i ∈ ([1, 3, 5, 7, 9, 11] : List Int) := by
      simp only [List.mem_cons, List.mem_nil_iff, or_false] at hv
      rcases hv with rfl | rfl | rfl | rfl | rfl | rfl <;> exact ⟨_, rfl, by decide⟩
    walk_at "rd"
    refine r_newF rfl fun t ot nt odt => ?_
    refine gen_newT nt odt fun H4 kp4 ht => ?_
    walk_at "rd"
    refine r_new rfl (fun r nr => ?_)
    refine gen_new nr fun H5 kp5 hr5 => ?_
    walk_at "rd"
    obtain ⟨_, hb3⟩ := B3.lst
    have nrb : r ≠ b := by walk_at "ne"
    refine ⟨b, n + 17, _, rfl, (B3.keep kp4).keep kp5, .inl ⟨r, _, rfl, .inl (.inl (.inl hr5)), nrb, by decide, by decide, fun H6 m kp6 B6 hm => ?_⟩⟩
    obtain ⟨m, rfl, m0, m7⟩ : ∃ i : Int, m = .int i ∧ 0 ≤ i ∧ i ≤ 7 := by
      simp only [List.mem_cons, List.mem_nil_iff, or_false] at hm
      rcases hm with rfl | rfl | rfl | rfl | rfl | rfl <;> exact ⟨_, rfl, by decide, by decide⟩
    walk_at "rd"
    refine r_rngv (by omega) (by omega) ?_
    intro D nD
    have nDb : D ≠ b := by
      obtain ⟨_, hb6⟩ := B6.lst
      walk_at "ne"
    refine lc_range (lo := 0) (n := m.toNat) (PvL D (fun i acc H' => ∃ ss : List Str, acc = ss.map V.str ∧ ss.length = i ∧ (∀ s ∈ ss, s.cps.size = 1 ∧ low s.cps.toList) ∧ Kp [b] H6 H' ∧ Box H' b (n + 17 - i))) ⟨[], upd_same, Nat.le_refl _, [], rfl, rfl, (fun _ h => nomatch h), Kp.to1 (Kp.new nD), B6.keep (Kp.new nD)⟩ (fun i H7 hi ⟨acc, ea, la, ss, eacc, ls, hs, kp7, B7⟩ => ?_) (fun H7 ⟨acc, ea, la, ss, eacc, ls, hs, kp7, B7⟩ => ?_)
    · walk_at "rd"
      refine ⟨b, n + 16 - i, _, rfl, B7.mono (by omega), .inr ⟨_, rfl, by decide +kernel, by decide +kernel, fun H8 c kp8 B8 hc => ?_⟩⟩
      have ea8 : H8 D = some (.lst acc) := by walk_at "hp"
      refine PvL.step ea8 la (by omega) ⟨ss ++ [⟨#[c]⟩], by rw [eacc, List.map_append]; rfl, by rw [List.length_append, ls]; rfl, ?_, (kp7.trans kp8).putNew nD, ?_⟩
      · intro s hs'
        rcases List.mem_append.mp hs' with h | h
        · exact hs s h
        · have e : s = ⟨#[c]⟩ := by simpa using h
          subst e
          refine ⟨rfl, fun x hx => ?_⟩
          have e : x = c := by simpa using hx
          subst e
          rw [letters_tl] at hc
          have := List.mem_range'.mp hc
          omega
      · obtain ⟨o, s, c', e, r⟩ := B8
        exact ⟨o, s, c', (upd_ne (Ne.symm nDb)).trans e, by omega⟩
    · subst eacc
      have hlen : ∀ zs : List Str, (∀ s ∈ zs, s.cps.size = 1 ∧ low s.cps.toList) → (zs.map (·.length)).sum = zs.length ∧ ((zs.map fun z => z.cps.toList).flatten).length = zs.length ∧ low ((zs.map fun z => z.cps.toList).flatten) := by
        intro zs
        induction zs with
        | nil => intro _; exact ⟨rfl, rfl, fun _ h => nomatch h⟩
        | cons y ys ih =>
          intro h
          obtain ⟨a, b, c⟩ := ih fun s m => h s (List.mem_cons_of_mem _ m)
          obtain ⟨h1, h2⟩ := h y (List.mem_cons_self ..)
          refine ⟨?_, ?_, ?_⟩
          · rw [List.map_cons, List.sum_cons, a, List.length_cons]
            show y.cps.size + _ = _
            omega
          · rw [List.map_cons, List.flatten_cons, List.length_append, b, List.length_cons, Array.length_toList, h1]
            omega
          · intro x hx
            rw [List.map_cons, List.flatten_cons] at hx
            rcases List.mem_append.mp hx with m | m
            · exact h2 x m
            · exact c x m
      obtain ⟨l1, l2, l3⟩ := hlen ss hs
      refine r_join ea (by rw [l1]; show ss.length + ss.length * 0 ≤ _; omega) ?_
      have ej := tl_joined (e := Str.ofString "") (by decide +kernel) ss
      generalize Txt.join (Str.ofString "") ss = stem at ej ⊢
      have es : low stem.cps.toList ∧ stem.cps.toList.length ≤ 7 := by
        rw [ej]
        exact ⟨l3, by rw [l2]; omega⟩
      have esl : stem.length ≤ 7 := by rw [len_tl]; exact es.2
      walk_at "rd"
      refine ⟨b, n + 9, _, rfl, B7.mono (by omega), by omega, by omega, fun H8 c kp8 B8 c0 c1 => ?_⟩
      walk_at "rd"
      refine r_rngv (by omega) (by omega) ?_
      intro E nE
      have nEb : E ≠ b := by
        obtain ⟨_, hb8⟩ := B8.lst
        walk_at "ne"
      refine lc_range (lo := 0) (n := k.toNat) (PvL E (fun i acc H' => acc = ((List.range i).map (cellN stem.cps.toList u l c.toNat)).map V.str ∧ Kp [] H8 H')) ⟨[], upd_same, Nat.le_refl _, rfl, Kp.new nE⟩ (fun i H9 hi ⟨acc, ea9, la9, eacc9, kp9⟩ => ?_) (fun H9 ⟨acc, ea9, la9, eacc9, kp9⟩ => ?_)
      · walk_at "rd"
        refine r_mul (.inr (by omega)) ?_
        walk_at "rd"
        refine r_modx (by decide) ?_
        have q0 := Int.emod_nonneg (u + l * (0 + (i : Int))) (by decide : (26 : Int) ≠ 0)
        have q1 := Int.emod_lt_of_pos (u + l * (0 + (i : Int))) (by decide : (0 : Int) < 26)
        have ex : atI (Str.ofString "abcdefghijklmnopqrstuvwxyz").cps.toList ((u + l * (0 + (i : Int))) % 26) = some (97 + ((u + l * (0 + (i : Int))) % 26).toNat) := by
          rw [letters_tl]
          obtain ⟨j, hj⟩ : ∃ j : Nat, (u + l * (0 + (i : Int))) % 26 = (j : Int) := ⟨((u + l * (0 + (i : Int))) % 26).toNat, by omega⟩
          rw [hj]
          refine atI_nat ?_
          rw [List.getElem?_range' (by omega)]
          show some (97 + 1 * j) = some (97 + j)
          rw [Nat.one_mul]
        refine r_ixS (by decide +kernel) ex ?_
        have lc1 : (cutS stem none (some c)).length ≤ 7 := Nat.le_trans (cutS_length _ _ _) esl
        have lc2 : (cutS stem (some c) none).length ≤ 7 := Nat.le_trans (cutS_length _ _ _) esl
        refine r_addS (by rw [sizeLine_eq]; show _ + 1 ≤ _; omega) ?_
        walk_at "rd"
        refine r_addS (by rw [sizeLine_eq, len_tl, tl_cat, List.length_append, ← len_tl, ← len_tl]; show _ + 1 + _ ≤ _; omega) ?_
        have ecell : cutS stem none (some c) ++ ⟨#[97 + ((u + l * (0 + (i : Int))) % 26).toNat]⟩ ++ cutS stem (some c) none = cellN stem.cps.toList u l c.toNat i := by
          obtain ⟨c', rfl⟩ : ∃ c' : Nat, c = (c' : Int) := ⟨c.toNat, by omega⟩
          refine str_ext ?_
          rw [tl_cat, tl_cat, cut_lo, cut_hi]
          show _ = stem.cps.toList.take c' ++ [97 + ((u + l * i) % 26).toNat] ++ stem.cps.toList.drop c'
          rw [Int.zero_add]
        rw [ecell]
        refine PvL.step ea9 la9 (by omega) ⟨?_, (kp9.trans (Kp.refl)).new0 nE⟩
        rw [eacc9, List.range_succ, List.map_append, List.map_append]
        rfl
      · exact q H9 E _ (((((kp1.trans (Kp.to1 kp2)).trans kp3).trans (Kp.to1 (kp4.trans kp5))).trans kp6).trans (kp7.trans kp8) |>.trans (Kp.to1 kp9)) (by walk_at "none") ((B8.keep kp9).mono (by omega)) (by rw [ea9, eacc9]) (by rw [List.length_map, List.length_range]) (cellN_all es.1 es.2 hl (by omega))
end
end L2.Ro

end
section
set_option Elab.async false
set_option linter.all false
set_option maxRecDepth 100000
set_option maxHeartbeats 4000000
local macro_rules | `(tactic| walk_at "rd1") => `(tactic| with_reducible first
  | refine L2.Rx.r_seq ?_ | refine L2.Rx.r_asg ?_ | refine L2.Rx.r_gname ?_ | refine L2.Rx.r_op ?_ | refine L2.Rx.r_c ?_
  | refine L2.Rx.r_var rfl ?_
  | refine L2.Rx.r_rI0 ?_ | refine L2.Rx.r_test ?_ | refine L2.Rx.r_bl ?_ | refine L2.Rx.r_if ?_ | refine L2.Rx.r_ret ?_
  | refine L2.Rx.r_cons ?_ | refine L2.Rx.r_nil ?_ | refine L2.Rx.r_call ?_ | refine L2.Rx.r_cb ?_ | refine L2.Rx.r_next ?_ | refine L2.Rx.r_drop ?_
  | refine L2.Rx.r_gsub ?_ | refine L2.Rx.r_tupF ?_ | refine L2.Rx.r_lst ?_ | refine L2.Rx.r_par ?_ | refine L2.Rx.r_par2 ?_
  | refine L2.Rx.r_un ?_ | refine L2.Rx.r_tb ?_ | refine L2.Rx.r_and ?_ | refine L2.Rx.r_or ?_ | refine L2.Rx.r_not ?_
  | refine L2.Rx.r_andV ?_ | refine L2.Rx.r_orV ?_ | refine L2.Rx.r_notV ?_ | refine L2.Rx.r_ifx ?_ | refine L2.Rx.r_chain ?_
  | refine L2.Rx.r_sl ?_ | refine L2.Rx.r_nopart ?_ | refine L2.Rx.r_part ?_ | refine L2.Rx.r_exint ?_ | refine L2.Rx.r_bm0 ?_ | refine L2.Rx.r_bm ?_
  | refine L2.Rx.r_lc ?_ | refine L2.Rx.r_rng1 ?_ | refine L2.Rx.r_yes ?_ | refine L2.Rx.r_tt ?_ | refine L2.Rx.r_ff ?_ | refine L2.Rx.r_m1 ?_ | refine L2.Rx.r_m0 ?_ | refine L2.Rx.r_isS ?_
  | (refine L2.Rx.r_wipe (by with_unfolding_all rfl) ?_) | (refine L2.Rx.r_tyL (by walk_at "hp") ?_)
  | refine L2.Rx.r_addS (by walk_at "len") ?_ | refine L2.Rx.r_lenS (by walk_at "len") ?_ | refine L2.Rx.r_slS (by walk_at "len") ?_
  | refine L2.Rx.r_dnotin ?_ | refine L2.Rx.r_dget ?_ | refine L2.Rx.r_dget1 ?_ | refine L2.Rx.r_dput ?_ | refine L2.Rx.r_dpop1 ?_ | refine L2.Rx.r_isN ?_
  | refine L2.Rx.r_for ?_ | refine L2.Rx.r_ilist ?_ | refine L2.Rx.r_itup ?_
  | refine L2.Rx.r_gcons ?_ | refine L2.Rx.r_gnil ?_ | (refine L2.Rx.r_gtupP (by assumption) (by walk_at "at") ?_)
  | (refine L2.Rx.r_rEq rfl ?_) | (refine L2.Rx.r_rNe rfl ?_)
  | refine L2.Rx.r_rU ?_ | refine L2.Rx.r_max2 ?_ | refine L2.Rx.r_min2 ?_ | refine L2.Rx.r_int1i ?_ | (refine L2.Rx.r_lenh (by walk_at "hp") ?_)
  | (refine L2.Rx.r_ixLh (by walk_at "hp") (by walk_at "at") ?_)
  | (refine L2.Rx.r_setL (by walk_at "hp") (by walk_at "at") ?_))
local macro_rules | `(tactic| walk_at "at") => `(tactic| with_unfolding_all rfl)
local macro_rules | `(tactic| walk_at "rd") => `(tactic| (repeat walk_at "rd1"))
local macro_rules | `(tactic| walk_at "hp") => `(tactic| first
  | assumption
  | exact L2.upd_same
  | (refine Eq.trans (L2.upd_ne ?_) ?_; (focus walk_at "ne"); (focus walk_at "hp"))
  | (refine L2.Rx.Kp.at0 (by assumption) ?_; walk_at "hp")
  | (refine L2.Rx.Kp.at1 (by assumption) ?_ ?_; (focus walk_at "ne"); (focus walk_at "hp")))
local macro_rules | `(tactic| walk_at "ne") => `(tactic| first
  | assumption | exact Ne.symm (by assumption)
  | (refine L2.ne_of_none (H := ?nH) (o := ?nO) ?nh ?nn; (case nn => assumption); (case nh => walk_at "hp"))
  | (refine Ne.symm (L2.ne_of_none (H := ?nH) (o := ?nO) ?nh ?nn); (case nn => assumption); (case nh => walk_at "hp")))
local macro_rules | `(tactic| walk_at "len") => `(tactic| (rw [PySem.sizeLine_eq]; omega))
local macro_rules | `(tactic| walk_at "nin") => `(tactic| first
  | exact List.not_mem_nil
  | (refine L2.Rx.nin1 ?_; walk_at "ne"))
local macro_rules | `(tactic| walk_at "none") => `(tactic| first
  | assumption
  | (refine L2.Rx.Kp.none0 (by assumption) ?_ ?_; (focus walk_at "nin"); (focus walk_at "none")))
namespace L2.Ro
open PySem PySem.Spec PyProof.Rows L2.Rx
def sp_values : Sp := fun vs H Q _ => ∃ (b : Addr) (n : Nat) (k : Int), vs = [.ref b, .int k] ∧ Box H b (n + 10) ∧ 0 ≤ k ∧ k ≤ 4 ∧
  ∀ (H' : Hp) (p : Addr) (ms : List Int), Kp [b] H H' → H p = none → Box H' b n → H' p = some (.lst (ms.map V.int)) → ms.length = k.toNat → ms.Pairwise (· < ·) → (∀ m ∈ ms, 0 ≤ m ∧ m ≤ 1000000000) → Q (.ref p) H'
theorem spare_there {fs : List Int} (h : fs.length ≤ 4) : ∃ m, (([11, 12, 13, 14, 15] : List Int).filter fun e => !decide (e ∈ fs)).head? = some m := by
  cases e : ([11, 12, 13, 14, 15] : List Int).filter fun e => !decide (e ∈ fs) with
  | cons m _ => exact ⟨m, rfl⟩
  | nil =>
    have sub : ∀ x ∈ ([11, 12, 13, 14, 15] : List Int), x ∈ fs := by
      intro x hx
      have := List.filter_eq_nil_iff.mp e x hx
      simpa using this
    have := List.Nodup.length_le_of_subset (by decide : ([11, 12, 13, 14, 15] : List Int).Nodup) sub
    simp at this
    omega
section
variable {P : Program} {w : World} {K : PySem.W.Frag} {mg : Str → Option Value} {base : Heap}
theorem k_values {f : Addr} {fd : FuncData} (F : Fun K "_law_values" "_law_values" s_values f fd) (g : mg "_law_values" = some (.ref f)) (z : Zb mg) (k_take : Kn P w K mg base CX0 1 "_law_take" sp_take)  : Kn P w K mg base CX0 2 "_law_values" sp_values := by
  refine ⟨f, fd, ["_law_box_here", "_law_count"], fnG_body F sc_values (fun vs H Q E h => ?_) (fun cdv A outer s H vs Q E hr h => ?_), g, F.kp, F.binds (fun _ _ _ _ _ _ us hl => match us, hl with | [_, _], _ => rfl)⟩
  · obtain ⟨b, n, k, rfl, _⟩ := h
    rfl
  · obtain ⟨b, n, k, rfl, B, k0, k1, q⟩ := h
    refine ⟨_, PSs.nox (pss_cons (ps_set (i := 2) sc_values.nd rfl (.inl rfl) (pe_lst (pa_cons pe_int (pa_cons pe_int (pa_cons pe_int (pa_cons pe_int (pa_cons pe_int (pa_cons (pe_op op_pow pe_int pe_int) (pa_cons (pe_op op_add pe_int (k_take.call hr (by decide) (by rfl) (pa_cons (pv 0) (pa_cons (pe_op op_pow pe_int pe_int) pa_nil)))) pa_nil)))))))))
      (pss_cons (ps_set (i := 3) sc_values.nd rfl (.inr rfl) (pe_lst pa_nil))
      (pss_cons (ps_for PassesOwn.never rfl (pi_range1 rfl z.n_range (pa_cons (pv 1) pa_nil)) (pg_name (i := 4) sc_values.nd rfl (.inl rfl))
        (pss_cons (ps_set (i := 5) sc_values.nd rfl (.inl rfl) (pe_ix (show IxR _ (rIxL K) from ix_list) (pv 2) (k_take.call hr (by decide) (by rfl) (pa_cons (pv 0) (pa_cons pe_int pa_nil))) (fun _ _ => rfl)))
        (pss_cons (ps_set (i := 6) sc_values.nd rfl (.inl rfl) (pe_ix (show IxR _ (rIxL K) from ix_list) (pe_lc (own := [("_law_each", 7)]) (g := (gName 7)) (by rfl) sc_values.nd (show PI _ _ _ (iTup K _) from pi_tup (pe_tupF (pa_cons pe_int (pa_cons pe_int (pa_cons pe_int (pa_cons pe_int (pa_cons pe_int pa_nil))))))) (blkOk_by (own := [("_law_each", 7)]) (N := ["_law_box_here", "_law_count", "_law_some", "_law_found", "_law_turn", "_law_value", "_law_spare", "_law_each"]) (sc := defScope s_values) (by decide +kernel)) (fun _ _ _ _ _ => (pg_name (i := 7) sc_values.nd rfl (.inl rfl))) (fun _ _ _ _ _ => (pts_one (pt_cmpR (show OpR _ _ (rIn K true) from op_notIn_seq) (pv 7) (pv 3) (by rfl)))) (fun _ _ _ _ _ => (pv 7))) pe_int (fun _ _ => rfl)))
        (pss_one (ps_expr (show PE _ _ (tBM K _ _ _ _) from pe_bm PySem.F.plainAttrs_list PySem.F.slot_list_append PySem.F.type_list_append mt_append (pv 3) (pa_cons (pe_ifExp (pt_cmpR (show OpR _ _ (rIn K true) from op_notIn_seq) (pv 5) (pv 3) (by rfl)) (pv 5) (pv 6)) pa_nil)))))))
      (pss_one (ps_ret (pe_callB (show CallR _ _ (rSortV K) from (call_sortV hr)) (by rfl) z.n_sorted (by decide +kernel) (pa_cons (pv 3) pa_nil))))))), ?_⟩
    walk_at "rd"
    refine r_powx (v := 1000000000) (by decide +kernel) (by decide +kernel) ?_
    walk_at "rd"
    refine r_powx (v := 1000000000) (by decide +kernel) (by decide +kernel) ?_
    walk_at "rd"
    refine ⟨b, n + 9, _, rfl, B, by decide, by decide, fun H1 u kp1 B1 u0 u1 => ?_⟩
    walk_at "rd"
    refine r_new rfl (fun p np => ?_)
    refine gen_new np fun H2 kp2 hp => ?_
    walk_at "rd"
    refine r_new rfl (fun f nf => ?_)
    refine gen_new nf fun H3 kp3 hf => ?_
    walk_at "rd"
    refine r_rngv (by omega) (by omega) ?_
    refine for_range (lo := 0) (n := k.toNat) (fun i σ' H' => ∃ (t v s e : Option V) (fs : List Int), σ' = [some (.ref b), some (.int k), some (.ref p), some (.ref f), t, v, s, e] ∧ Kp [b] H1 H' ∧ H' f = some (.lst (fs.map V.int)) ∧ H' p = H2 p ∧ fs.length = i ∧ fs.Nodup ∧ (∀ m ∈ fs, 0 ≤ m ∧ m ≤ 1000000000) ∧ Box H' b (n + 9 - i)) ?_ ?_ ?_
    · refine ⟨_, _, _, _, [], rfl, Kp.to1 (kp2.trans kp3), hf, by rw [hp]; exact kp3.at0 hp, rfl, List.nodup_nil, (fun _ h => nomatch h), (B1.keep kp2).keep kp3⟩
    · rintro i σ' H4 hi ⟨t, v, s, e, fs, rfl, kp4, hf4, hp4, lf, nd, bd, B4⟩
      have fnb : f ≠ b := by
        obtain ⟨_, hb1⟩ := B1.lst
        walk_at "ne"
      have pnb : p ≠ b := by
        obtain ⟨_, hb1⟩ := B1.lst
        walk_at "ne"
      have fnp : f ≠ p := by walk_at "ne"
      walk_at "rd"
      refine ⟨b, n + 8 - i, _, rfl, B4.mono (by omega), by decide, by decide, fun H5 r kp5 B5 r0 r1 => ?_⟩
      have hp5 : H5 p = some (.lst (([0, 1, 2, 3, 7, 1000000000, 1 + u] : List Int).map V.int)) := kp5.at1 pnb (hp4.trans hp)
      have hf5 : H5 f = some (.lst (fs.map V.int)) := kp5.at1 fnb hf4
      refine r_pickI (.inl (.inl hp5)) r0 r1 (fun m hm => ?_)
      have mb : 0 ≤ m ∧ m ≤ 1000000000 := by
        simp only [List.mem_cons, List.mem_nil_iff, or_false] at hm
        omega
      walk_at "rd"
      refine r_newF rfl fun y oy ny ody => ?_
      refine gen_newT ny ody fun H6 kp6 hy => ?_
      walk_at "rd"
      refine r_walkT hy.sq ?_
      intro D nD
      have hf6 : H6 f = some (.lst (fs.map V.int)) := kp6.at0 hf5
      have fnD : f ≠ D := by walk_at "ne"
      refine lc_tup (K := K) (a := y) (xs := ([11, 12, 13, 14, 15] : List Int).map V.int) (PvL D (fun j acc H' => acc = (((([11, 12, 13, 14, 15] : List Int).take j).filter fun e => !decide (e ∈ fs)).map V.int) ∧ Kp [] H6 H')) ⟨[], upd_same, Nat.le_refl _, rfl, Kp.new nD⟩ (fun j H7 hj ⟨acc, ea, la, eacc, kp7⟩ => (hy.keep0 kp7).sq) (fun j x H7 hx ⟨acc, ea, la, eacc, kp7⟩ => ?_) (fun H7 ⟨acc, ea, la, eacc, kp7⟩ => ?_)
      · rw [List.getElem?_map] at hx
        obtain ⟨c, hc, rfl⟩ : ∃ c, ([11, 12, 13, 14, 15] : List Int)[j]? = some c ∧ x = V.int c := by
          cases q : ([11, 12, 13, 14, 15] : List Int)[j]? with
          | none => rw [q] at hx; cases hx
          | some c => rw [q] at hx; exact ⟨c, rfl, (Option.some.inj hx).symm⟩
        have hj5 : j < 5 := (List.getElem?_eq_some_iff.mp hc).1
        walk_at "rd"
        refine r_notinI (.inl (.inl (.inl (kp7.at0 hf6)))) ?_
        walk_at "rd"
        refine r_itn (fun hn => ?_) (fun hn => ?_)
        · walk_at "rd"
          refine PvL.step ea la (by omega) ⟨?_, kp7.new0 nD⟩
          rw [List.take_add_one, hc, List.filter_append, List.map_append, eacc]
          have : ([c] : List Int).filter (fun e => !decide (e ∈ fs)) = [c] := by simp [hn]
          rw [show (some c).toList = [c] from rfl, this]
          rfl
        · refine PvL.skip ea la ⟨?_, kp7⟩
          rw [List.take_add_one, hc, List.filter_append, List.map_append, eacc]
          have : ([c] : List Int).filter (fun e => !decide (e ∈ fs)) = [] := by simp [hn]
          rw [show (some c).toList = [c] from rfl, this]
          simp
      · obtain ⟨sp, hsp⟩ := spare_there (fs := fs) (by omega)
        have e5 : ([11, 12, 13, 14, 15] : List Int).take ((([11, 12, 13, 14, 15] : List Int).map V.int).length) = [11, 12, 13, 14, 15] := rfl
        rw [e5] at eacc
        obtain ⟨tl, etl⟩ : ∃ tl, (([11, 12, 13, 14, 15] : List Int).filter fun e => !decide (e ∈ fs)) = sp :: tl := by
          cases q : ([11, 12, 13, 14, 15] : List Int).filter fun e => !decide (e ∈ fs) with
          | nil => rw [q] at hsp; cases hsp
          | cons a r => rw [q] at hsp; cases hsp; exact ⟨r, rfl⟩
        have spin : sp ∈ ([11, 12, 13, 14, 15] : List Int) ∧ ¬ sp ∈ fs := by
          have : sp ∈ ([11, 12, 13, 14, 15] : List Int).filter fun e => !decide (e ∈ fs) := by rw [etl]; exact List.mem_cons_self ..
          have := List.mem_filter.mp this
          exact ⟨this.1, by simpa using this.2⟩
        have spb : 0 ≤ sp ∧ sp ≤ 1000000000 := by
          have := spin.1
          simp only [List.mem_cons, List.mem_nil_iff, or_false] at this
          omega
        subst eacc
        walk_at "rd"
        refine r_ixLh ea (by rw [etl]; exact atI_nat (j := 0) rfl) ?_
        have hf7 : H7 f = some (.lst (fs.map V.int)) := kp7.at0 hf6
        have kall : Kp [b] H4 H7 := (kp5.trans (Kp.to1 kp6)).trans (Kp.to1 kp7)
        have fin : ∀ m' : Int, 0 ≤ m' ∧ m' ≤ 1000000000 → ¬ m' ∈ fs → ∃ (t' v' s' e' : Option V) (fs' : List Int), [some (V.ref b), some (.int k), some (.ref p), some (.ref f), some (.int (0 + (i : Int))), some (.int m), some (.int sp), e] = [some (.ref b), some (.int k), some (.ref p), some (.ref f), t', v', s', e'] ∧ Kp [b] H1 (upd H7 f (.lst (fs.map V.int ++ [.int m']))) ∧
            (upd H7 f (.lst (fs.map V.int ++ [.int m']))) f = some (.lst (fs'.map V.int)) ∧ (upd H7 f (.lst (fs.map V.int ++ [.int m']))) p = H2 p ∧ fs'.length = i + 1 ∧ fs'.Nodup ∧ (∀ m ∈ fs', 0 ≤ m ∧ m ≤ 1000000000) ∧ Box (upd H7 f (.lst (fs.map V.int ++ [.int m']))) b (n + 9 - (i + 1)) := by
          intro m' hb' hn
          refine ⟨_, _, _, e, fs ++ [m'], rfl, ?_, ?_, ?_, ?_, ?_, ?_, ?_⟩
          · exact (kp4.trans kall).new0 (kp2.none0 List.not_mem_nil nf)
          · rw [upd_same, List.map_append]
            rfl
          · rw [upd_ne (Ne.symm fnp), ← hp4]
            rw [hp4, hp]
            exact kall.at1 pnb (hp4.trans hp)
          · rw [List.length_append, lf]
            rfl
          · rw [List.nodup_append]
            exact ⟨nd, by simp, by intro a ha c hc; have : c = m' := by simpa using hc
                                   subst this; intro z; subst z; exact hn ha⟩
          · intro c hc
            rcases List.mem_append.mp hc with h | h
            · exact bd c h
            · have : c = m' := by simpa using h
              subst this
              exact hb'
          · obtain ⟨o, sd, c, e', r⟩ := (B5.keep kp6).keep kp7
            exact ⟨o, sd, c, (upd_ne (Ne.symm fnb)).trans e', by omega⟩
        walk_at "rd"
        refine r_notinI (.inl (.inl (.inl hf7))) ?_
        walk_at "rd"
        have lf7 : (fs.map V.int).length < 1000000 := by
          rw [List.length_map]
          omega
        refine r_itn (fun hn => ?_) (fun hn => ?_)
        · walk_at "rd"
          refine r_app0 hf7 lf7 ?_
          obtain ⟨t', v', s', e', fs', es, rest⟩ := fin m mb hn
          exact ⟨t', v', s', e', fs', es, rest⟩
        · walk_at "rd"
          refine r_app0 hf7 lf7 ?_
          obtain ⟨t', v', s', e', fs', es, rest⟩ := fin sp spb spin.2
          exact ⟨t', v', s', e', fs', es, rest⟩
    · rintro σ' H4 ⟨t, v, s, e, fs, rfl, kp4, hf4, hp4, lf, nd, bd, B4⟩
      walk_at "rd"
      refine r_sortI (.inl (.inl (.inl hf4))) fun p' ms pm pw np' => ?_
      have bp : p' ∉ [b] := by
        obtain ⟨_, hb4⟩ := B4.lst
        exact nin1 (Ne.symm (ne_of_none hb4 np'))
      have kpn : Kp [b] H (upd H4 p' (.lst (ms.map V.int))) := (kp1.trans kp4).putNew ((kp1.trans kp4).none0 bp np')
      refine q _ p' ms kpn ((kp1.trans kp4).none0 bp np') ?_ upd_same (by rw [pm.length_eq, lf]) ?_ (fun m hm => bd m (pm.mem_iff.mp hm))
      · exact (B4.keep (Kp.new np')).mono (by omega)
      · have nd' : ms.Nodup := pm.nodup_iff.mpr nd
        refine (pw.and nd').imp fun {x y} h => ?_
        have := h.1
        have := h.2
        omega
end
end L2.Ro

end
section
set_option Elab.async false
set_option linter.all false
set_option maxRecDepth 100000
set_option maxHeartbeats 4000000
local macro_rules | `(tactic| walk_at "rd1") => `(tactic| with_reducible first
  | refine L2.Rx.r_seq ?_ | refine L2.Rx.r_asg ?_ | refine L2.Rx.r_gname ?_ | refine L2.Rx.r_op ?_ | refine L2.Rx.r_c ?_
  | refine L2.Rx.r_var rfl ?_
  | refine L2.Rx.r_rI0 ?_ | refine L2.Rx.r_test ?_ | refine L2.Rx.r_bl ?_ | refine L2.Rx.r_if ?_ | refine L2.Rx.r_ret ?_
  | refine L2.Rx.r_cons ?_ | refine L2.Rx.r_nil ?_ | refine L2.Rx.r_call ?_ | refine L2.Rx.r_cb ?_ | refine L2.Rx.r_next ?_ | refine L2.Rx.r_drop ?_
  | refine L2.Rx.r_gsub ?_ | refine L2.Rx.r_tupF ?_ | refine L2.Rx.r_lst ?_ | refine L2.Rx.r_par ?_ | refine L2.Rx.r_par2 ?_
  | refine L2.Rx.r_un ?_ | refine L2.Rx.r_tb ?_ | refine L2.Rx.r_and ?_ | refine L2.Rx.r_or ?_ | refine L2.Rx.r_not ?_
  | refine L2.Rx.r_andV ?_ | refine L2.Rx.r_orV ?_ | refine L2.Rx.r_notV ?_ | refine L2.Rx.r_ifx ?_ | refine L2.Rx.r_chain ?_
  | refine L2.Rx.r_sl ?_ | refine L2.Rx.r_nopart ?_ | refine L2.Rx.r_part ?_ | refine L2.Rx.r_exint ?_ | refine L2.Rx.r_bm0 ?_ | refine L2.Rx.r_bm ?_
  | refine L2.Rx.r_lc ?_ | refine L2.Rx.r_rng1 ?_ | refine L2.Rx.r_yes ?_ | refine L2.Rx.r_tt ?_ | refine L2.Rx.r_ff ?_ | refine L2.Rx.r_m1 ?_ | refine L2.Rx.r_m0 ?_ | refine L2.Rx.r_isS ?_
  | (refine L2.Rx.r_wipe (by with_unfolding_all rfl) ?_) | (refine L2.Rx.r_tyL (by walk_at "hp") ?_)
  | refine L2.Rx.r_addS (by walk_at "len") ?_ | refine L2.Rx.r_lenS (by walk_at "len") ?_ | refine L2.Rx.r_slS (by walk_at "len") ?_
  | refine L2.Rx.r_dnotin ?_ | refine L2.Rx.r_dget ?_ | refine L2.Rx.r_dget1 ?_ | refine L2.Rx.r_dput ?_ | refine L2.Rx.r_dpop1 ?_ | refine L2.Rx.r_isN ?_
  | refine L2.Rx.r_for ?_ | refine L2.Rx.r_ilist ?_ | refine L2.Rx.r_itup ?_
  | refine L2.Rx.r_gcons ?_ | refine L2.Rx.r_gnil ?_ | (refine L2.Rx.r_gtupP (by assumption) (by walk_at "at") ?_)
  | (refine L2.Rx.r_rEq rfl ?_) | (refine L2.Rx.r_rNe rfl ?_)
  | refine L2.Rx.r_rU ?_ | refine L2.Rx.r_max2 ?_ | refine L2.Rx.r_min2 ?_ | refine L2.Rx.r_int1i ?_ | (refine L2.Rx.r_lenh (by walk_at "hp") ?_)
  | (refine L2.Rx.r_ixLh (by walk_at "hp") (by walk_at "at") ?_)
  | (refine L2.Rx.r_setL (by walk_at "hp") (by walk_at "at") ?_))
local macro_rules | `(tactic| walk_at "at") => `(tactic| with_unfolding_all rfl)
local macro_rules | `(tactic| walk_at "rd") => `(tactic| (repeat walk_at "rd1"))
local macro_rules | `(tactic| walk_at "hp") => `(tactic| first
  | assumption
  | exact L2.upd_same
  | (refine Eq.trans (L2.upd_ne ?_) ?_; (focus walk_at "ne"); (focus walk_at "hp"))
  | (refine L2.Rx.Kp.at0 (by assumption) ?_; walk_at "hp")
  | (refine L2.Rx.Kp.at1 (by assumption) ?_ ?_; (focus walk_at "ne"); (focus walk_at "hp")))
local macro_rules | `(tactic| walk_at "ne") => `(tactic| first
  | assumption | exact Ne.symm (by assumption)
  | (refine L2.ne_of_none (H := ?nH) (o := ?nO) ?nh ?nn; (case nn => assumption); (case nh => walk_at "hp"))
  | (refine Ne.symm (L2.ne_of_none (H := ?nH) (o := ?nO) ?nh ?nn); (case nn => assumption); (case nh => walk_at "hp")))
local macro_rules | `(tactic| walk_at "len") => `(tactic| (rw [PySem.sizeLine_eq]; omega))
local macro_rules | `(tactic| walk_at "nin") => `(tactic| first
  | exact List.not_mem_nil
  | (refine L2.Rx.nin1 ?_; walk_at "ne"))
local macro_rules | `(tactic| walk_at "none") => `(tactic| first
  | assumption
  | (refine L2.Rx.Kp.none0 (by assumption) ?_ ?_; (focus walk_at "nin"); (focus walk_at "none")))
namespace L2.Ro
open PySem PySem.Spec PyProof.Rows L2.Rx
def nTree : Nat → Nat
  | 0 => 0
  | n + 1 => 13 + 3 * nTree n
def sp_tree (K : PySem.W.Frag) (j : Nat) : Sp := fun vs H Q _ => ∃ (b l : Addr) (n : Nat) (k : Int) (cs : List Str), vs = [.ref b, .ref l, .int k] ∧ Box H b (n + nTree j) ∧ SqL K H l (cs.map V.str) ∧ l ≠ b ∧ Cells cs ∧ cs.length = j ∧ j ≤ 26 ∧ k ≤ 1000000000 ∧
  ∀ (H' : Hp) (v : V) (t : Tr), Kp [b] H H' → Box H' b n → Dq K H' v t.d → Okt j cs t → Q v H'
theorem brd_len (bs : List (Int × Tr)) : (brd bs).length = bs.length := by rw [brd_eq, List.length_map]
section
variable {P : Program} {w : World} {K : PySem.W.Frag} {mg : Str → Option Value} {base : Heap}
theorem k_tree1 {f : Addr} {fd : FuncData} (F : Fun K "_law_tree" "_law_tree" s_tree f fd) (g : mg "_law_tree" = some (.ref f)) (z : Zb mg) (n : Nat) (spx : Sp) (k_take : Kn P w K mg base CX0 1 "_law_take" sp_take) (k_values : Kn P w K mg base CX0 2 "_law_values" sp_values) (k_tree : Kn P w K mg base CX0 (n + 2) "_law_tree" spx) (hx : ∀ m, n = m + 1 → spx = sp_tree K m)  : FnG P w K mg base CX0 (n + 3) f fd ["_law_box_here", "_law_cells_here", "_law_budget"] (sp_tree K n) := by
  refine fnG_body F sc_tree (fun vs H Q E h => ?_) (fun cdv A outer s H vs Q E hr h => ?_)
  · obtain ⟨b, l, n, k, cs, rfl, _⟩ := h
    rfl
  · obtain ⟨b, l, m, k, cs, rfl, B, hl, lb, hc, hn, h26, hk, q⟩ := h
    refine ⟨_, PSs.nox (pss_cons (ps_if (PW.pt (pw_or (pt_cmpR (show OpR _ _ (rEqD K) from (op_eqD hr.units)) (pv 1) (pe_lst pa_nil) (nomark _)) (pw_or (pt_cmpR op_lt (pv 2) pe_int (nomark _)) (pw_or1 (pt_cmpR op_eq (k_take.call hr (by omega) (by rfl) (pa_cons (pv 0) (pa_cons pe_int pa_nil))) pe_int (nomark _))))))
        (pss_one (ps_ret (pe_tupF pa_nil)))
        pss_nil)
      (pss_cons (ps_set (i := 3) sc_tree.nd rfl (.inl rfl) (pe_callTy (show CallR _ _ (rListOf K) from c_list) (by rfl) z.n_list (by decide +kernel) (pa_cons (pv 1) pa_nil)))
      (pss_cons (ps_set (i := 4) sc_tree.nd rfl (.inl rfl) (show PE _ _ (tBM K _ _ _ _) from pe_bm PySem.F.plainAttrs_list PySem.F.slot_list_pop PySem.F.type_list_pop mt_popAt (pv 3) (pa_cons (k_take.call hr (by omega) (by rfl) (pa_cons (pv 0) (pa_cons (pe_callB (show CallR _ _ (rLenQ K) from c_len) (by rfl) z.n_len (by decide +kernel) (pa_cons (pv 3) pa_nil)) pa_nil))) pa_nil)))
      (pss_cons (ps_set (i := 5) sc_tree.nd rfl (.inl rfl) (pe_op op_add pe_int (k_take.call hr (by omega) (by rfl) (pa_cons (pv 0) (pa_cons (pe_callB (c_min2 rfl) (by rfl) z.n_min (by decide +kernel) (pa_cons pe_int (pa_cons (pv 2) pa_nil))) pa_nil)))))
      (pss_cons (ps_set (i := 6) sc_tree.nd rfl (.inl rfl) (pe_lst pa_nil))
      (pss_cons (ps_for PassesOwn.never rfl (show PI _ _ _ (iList K _) from pi_list (k_values.call hr (by omega) (by rfl) (pa_cons (pv 0) (pa_cons (pv 5) pa_nil)))) (pg_name (i := 7) sc_tree.nd rfl (.inl rfl))
        (pss_one (ps_expr (show PE _ _ (tBM K _ _ _ _) from pe_bm PySem.F.plainAttrs_list PySem.F.slot_list_append PySem.F.type_list_append mt_append (pv 6) (pa_cons (pe_tupF (pa_cons (pv 7) (pa_cons (k_tree.call hr (by omega) (by rfl) (pa_cons (pv 0) (pa_cons (pv 3) (pa_cons (pe_op op_fdiv (pv 2) (pv 5)) pa_nil)))) pa_nil))) pa_nil)))))
      (pss_one (ps_ret (pe_tupF (pa_cons (pv 4) (pa_cons (pe_callTy (show CallR _ _ (rTupOf K) from c_tuple) (by rfl) z.n_tuple (by decide +kernel) (pa_cons (pv 6) pa_nil)) pa_nil))))))))))), ?_⟩
    walk_at "rd"
    refine r_new rfl (fun e ne => ?_)
    refine gen_new ne fun H1 kp1 he => ?_
    have hl1 : SqL K H1 l (cs.map V.str) := kp_sqL kp1 (by simp) hl
    refine r_eqL0 (dpL_strs hl1) hc.shps (Nat.le_trans (depth_strs cs) (by decide)) he ?_
    walk_at "rd"
    have stop : ∀ (H2 : Hp), Kp [b] H H2 → Box H2 b m → ∀ (p : Addr) (H3 : Hp), H2 p = none → Kp [] H2 H3 → Tm H3 p [] → Q (.ref p) H3 := by
      intro H2 k2 B2 p H3 np k3 hp
      refine q _ _ .lf (k2.trans (Kp.to1 k3)) (B2.keep k3) ?_ (.lf _ _)
      rw [Tr.d]
      exact .tup hp .nil
    refine r_itb (fun hb => ?_) (fun hb => ?_)
    · walk_at "rd"
      exact r_newT rfl (stop _ (Kp.to1 kp1) ((B.keep kp1).mono (by omega)))
    obtain ⟨n', rfl⟩ : ∃ n', n = n' + 1 := by
      cases n with
      | zero =>
        have : cs = [] := List.length_eq_zero_iff.mp hn
        rw [this] at hb
        cases hb
      | succ n' => exact ⟨n', rfl⟩
    obtain rfl := hx n' rfl
    have eN : nTree (n' + 1) = 13 + 3 * nTree n' := rfl
    rw [eN] at B
    walk_at "rd"
    refine r_ite (fun hk1 => ?_) (fun hk1 => ?_)
    · walk_at "rd"
      exact r_newT rfl (stop _ (Kp.to1 kp1) ((B.keep kp1).mono (by omega)))
    walk_at "rd"
    refine ⟨b, m + 12 + 3 * nTree n', _, rfl, (B.keep kp1).mono (by omega), by decide, by decide, fun H2 u kp2 B2 u0 u1 => ?_⟩
    walk_at "rd"
    refine r_ite (fun hu => ?_) (fun hu => ?_)
    · walk_at "rd"
      exact r_newT rfl (stop _ ((Kp.to1 kp1).trans kp2) (B2.mono (by omega)))
    walk_at "rd"
    have hl2 : SqL K H2 l (cs.map V.str) := kp1_sqL kp2 lb hl1
    refine r_listOf (.inl hl2) fun f nf => ?_
    refine gen_new nf fun H3 kp3 hf => ?_
    have fb : f ≠ b := by
      obtain ⟨_, hb⟩ := B2.lst
      exact Ne.symm (ne_of_none hb nf)
    walk_at "rd"
    have lcs : (cs.map V.str).length = n' + 1 := by rw [List.length_map, hn]
    refine ⟨b, m + 11 + 3 * nTree n', _, rfl, (B2.keep kp3).mono (by omega), by omega, by omega, fun H4 i kp4 B4 i0 i1 => ?_⟩
    have hf4 : H4 f = some (.lst (cs.map V.str)) := kp4.at1 fb hf
    obtain ⟨c, hci⟩ : ∃ c, cs[i.toNat]? = some c := ⟨_, List.getElem?_eq_getElem (by omega)⟩
    refine r_popAt hf4 i0 (by omega) (by rw [List.getElem?_map, hci]; rfl) ?_
    rw [eraseIdx_map']
    have hcs' : ∀ x ∈ cs.eraseIdx i.toNat, x ∈ cs := fun x hx => (List.eraseIdx_sublist _ _).subset hx
    have hcn : c ∉ cs.eraseIdx i.toNat := by
      intro z
      obtain ⟨j, hj, ne', e'⟩ := List.mem_eraseIdx_iff_getElem.mp z
      obtain ⟨hi, e2⟩ := List.getElem?_eq_some_iff.mp hci
      exact ne' ((List.getElem_inj hc.1).mp (e'.trans e2.symm))
    have hcl : (cs.eraseIdx i.toNat).length = n' := by rw [List.length_eraseIdx_of_lt (by omega), hn]; rfl
    have hcc : Cells (cs.eraseIdx i.toNat) := ⟨List.Pairwise.sublist (List.eraseIdx_sublist _ _) hc.1, fun x hx => hc.2 x (hcs' x hx)⟩
    have hcm : c ∈ cs := List.mem_of_getElem? hci
    generalize cs.eraseIdx i.toNat = cs' at hcs' hcn hcl hcc ⊢
    refine gen_put fun H5 kp5 hf5 => ?_
    have B5 : Box H5 b (m + 11 + 3 * nTree n') := B4.keepS kp5 (nin1 (Ne.symm fb))
    walk_at "rd"
    have b3 : 0 < min 3 k ∧ min 3 k ≤ 3 := by omega
    refine ⟨b, m + 10 + 3 * nTree n', _, rfl, B5.mono (by omega), b3.1, by omega, fun H6 r kp6 B6 r0 r1 => ?_⟩
    walk_at "rd"
    refine r_new rfl (fun g ng => ?_)
    refine gen_new ng fun H7 kp7 hg => ?_
    have hf6 : H6 f = some (.lst (cs'.map V.str)) := kp6.at1 fb hf5
    have gb : g ≠ b := by
      obtain ⟨_, hb⟩ := B6.lst
      exact Ne.symm (ne_of_none hb ng)
    have gf : g ≠ f := Ne.symm (ne_of_none hf6 ng)
    walk_at "rd"
    refine ⟨b, m + 3 * nTree n', _, rfl, (B6.keep kp7).mono (by omega), by omega, by omega, fun H8 p ms kp8 np8 B8 hp8 lms pms bms => ?_⟩
    have hf8 : H8 f = some (.lst (cs'.map V.str)) := kp8.at1 fb (kp7.at0 hf6)
    have hg8 : H8 g = some (.lst []) := kp8.at1 gb hg
    have pb : p ≠ b := by
      obtain ⟨_, hb⟩ := B6.lst
      have := kp7.at0 hb
      exact Ne.symm (ne_of_none this np8)
    have pg : p ≠ g := Ne.symm (ne_of_none hg np8)
    refine r_walkL (.inl (.inl hp8)) ?_
    have l3 : ms.length ≤ 3 := by omega
    refine for_list (K := K) (a := p) (xs := ms.map V.int) (fun i σ' H' => ∃ (x : Option V) (bs : List (Int × Tr)) (ys : List V), σ' = [some (.ref b), some (.ref l), some (.int k), some (.ref f), some (.str c), some (.int (1 + r)), some (.ref g), x] ∧ Kp [b, g] H8 H' ∧ H' g = some (.lst ys) ∧ DqAll K H' ys (brd bs) ∧ bs.map Prod.fst = ms.take i ∧ (∀ z ∈ bs, Okt n' cs' z.2) ∧ Box H' b (m + (ms.length - i) * nTree n')) ?_ (fun i σ' H' hi ⟨x, bs, ys, e1, k9, _⟩ => .inl (.inl (k9 _ _ (by simp [pb, pg]) hp8))) ?_ ?_
    · refine ⟨_, [], [], rfl, Kp.refl, hg8, ?_, rfl, (fun _ h => nomatch h), B8.mono ?_⟩
      · rw [brd]
        exact .nil
      · have : ms.length * nTree n' ≤ 3 * nTree n' := Nat.mul_le_mul_right _ l3
        rw [Nat.sub_zero]
        omega
    · rintro i xv σ' H9 hx ⟨x, bs, ys, rfl, kp9, hg9, dp9, ebs, ok9, B9⟩
      obtain ⟨v, hv, rfl⟩ : ∃ v, ms[i]? = some v ∧ xv = V.int v := by
        rw [List.getElem?_map] at hx
        cases e : ms[i]? with
        | none => rw [e] at hx; cases hx
        | some v => rw [e] at hx; exact ⟨v, rfl, (Option.some.inj hx).symm⟩
      have hi : i < ms.length := (List.getElem?_eq_some_iff.mp hv).1
      obtain ⟨d, hd⟩ : ∃ d, ms.length - i = d + 1 := ⟨ms.length - i - 1, by omega⟩
      have hd' : ms.length - (i + 1) = d := by omega
      rw [hd, Nat.succ_mul] at B9
      have hf9 : H9 f = some (.lst (cs'.map V.str)) := kp9 _ _ (by simp [fb, Ne.symm gf]) hf8
      walk_at "rd"
      refine r_div (by omega) (by omega) (by omega) fun y y0 y1 => ?_
      walk_at "rd"
      refine ⟨b, f, m + d * nTree n', y, cs', rfl, B9.mono (by omega), .inl (.inl hf9), fb, hcc, hcl, by omega, by omega, fun H10 w t kp10 B10 dp10 ok10 => ?_⟩
      walk_at "rd"
      refine r_newF rfl fun a oa na oda => ?_
      refine gen_newT na oda fun H11 kp11 ha => ?_
      have hg11 : H11 g = some (.lst ys) := kp11.at0 (kp10.at1 gb hg9)
      have lys : ys.length < 1000000 := by
        rw [dqAll_len dp9, brd_len, ← List.length_map (f := Prod.fst), ebs, List.length_take]
        omega
      walk_at "rd"
      refine r_app0 hg11 lys ?_
      refine gen_put fun H12 kp12 hg12 => ?_
      have nls : noLs (brd bs) = true := by
        refine noLs_mem fun d hd => ?_
        rw [brd_eq] at hd
        obtain ⟨z, hz, rfl⟩ := List.mem_map.mp hd
        rw [noL, noLs, noLs, noLs, noL, (ok9 z hz).noL]
        rfl
      have dp12 : DqAll K H12 ys (brd bs) := DqAll.keepS kp12 (Mu.lst hg11) _ _ nls (DqAll.keep0 kp11 _ _ (DqAll.keepS kp10 B9.mu _ _ nls dp9))
      have dw12 : Dq K H12 w t.d := Dq.keepS kp12 (Mu.lst hg11) _ _ ok10.noL (Dq.keep0 kp11 _ _ dp10)
      have ha12 : Tm H12 a [.int v, w] := ha.keepM kp12 (Mu.lst hg11)
      refine ⟨_, bs ++ [(v, t)], _, rfl, ?_, hg12, ?_, ?_, ?_, ?_⟩
      · refine ((kp9.trans (kp10.mono (by simp))).trans (Kp.mono kp11 (by simp))).trans (kp12.mono (by simp))
      · rw [brd_eq, List.map_append, ← brd_eq]
        refine DqAll.append dp12 (.cons (.tup ha12 (.cons (.int v) (.cons dw12 .nil))) .nil)
      · rw [List.map_append, ebs, List.take_add_one, hv]
        rfl
      · intro z hz
        rcases List.mem_append.mp hz with h | h
        · exact ok9 z h
        · have e : z = (v, t) := by simpa using h
          subst e
          exact ok10
      · rw [hd']
        exact (B10.keep kp11).keepS kp12 (nin1 (Ne.symm gb))
    · rintro σ' H9 ⟨x, bs, ys, rfl, kp9, hg9, dp9, ebs, ok9, B9⟩
      walk_at "rd"
      refine r_tupL hg9 fun a H10 na kp10 ha => ?_
      walk_at "rd"
      refine r_newF rfl fun e oe ne ode => ?_
      refine gen_newT ne ode fun H11 kp11 he => ?_
      rw [List.length_map, List.take_length] at ebs
      have kA : Kp [b] H H2 := (Kp.to1 kp1).trans kp2
      have hfn : H f = none := kA.none0 (nin1 fb) nf
      have kB : Kp [b] H H6 := (((kA.trans (Kp.to1 kp3)).trans kp4).dropT kp5 (fun a m => .inr (by rw [show a = f by simpa using m]; exact hfn))).trans kp6
      have hgn : H g = none := kB.none0 (nin1 gb) ng
      have kC : Kp [b] H H8 := (kB.trans (Kp.to1 kp7)).trans kp8
      have kD : Kp [b] H H9 := kC.dropT kp9 fun a m => by
        rcases List.mem_cons.mp m with h | h
        · exact .inl (by rw [h]; exact List.mem_cons_self ..)
        · exact .inr (by rw [show a = g by simpa using h]; exact hgn)
      have lbs : bs.length = ms.length := by rw [← List.length_map (f := Prod.fst), ebs]
      refine q H11 _ (.nd c bs) (kD.trans (Kp.to1 (kp10.trans kp11))) (((B9.keep kp10).keep kp11).mono (by omega)) ?_ ?_
      · rw [Tr.d]
        exact .tup he (.cons (.str c) (.cons (.tup (ha.keep0 kp11) (DqAll.keep0 (kp10.trans kp11) _ _ dp9)) .nil))
      · refine .nd hcm hcn hcs' ?_ (by omega) (by rw [ebs]; exact pms) ?_ ok9
        · intro z
          rw [z] at lbs
          simp at lbs
          omega
        · intro z hz
          exact bms _ (by rw [← ebs]; exact List.mem_map_of_mem hz)
end
theorem fn_tree {P : Program} {w : World} {K : PySem.W.Frag} {mg : Str → Option Value} {base : Heap} {f : Addr} {fd : FuncData} (F : Fun K "_law_tree" "_law_tree" s_tree f fd) (g : mg "_law_tree" = some (.ref f)) (z : Zb mg)
    (k_take : Kn P w K mg base CX0 1 "_law_take" sp_take) (k_values : Kn P w K mg base CX0 2 "_law_values" sp_values) : ∀ n, FnG P w K mg base CX0 (n + 3) f fd ["_law_box_here", "_law_cells_here", "_law_budget"] (sp_tree K n)
  | 0 => k_tree1 F g z 0 (fun _ _ _ _ => False) k_take k_values ⟨f, fd, ["_law_box_here", "_law_cells_here", "_law_budget"], ⟨fun _ _ _ _ h => h.elim, fun _ _ _ _ _ _ _ _ _ _ _ _ _ h => h.elim⟩, g, F.kp, F.binds (fun _ _ _ _ _ _ us hl => match us, hl with | [_, _, _], _ => rfl)⟩ (fun m h => by omega)
  | n + 1 => k_tree1 F g z (n + 1) (sp_tree K n) k_take k_values ⟨f, fd, _, fn_tree F g z k_take k_values n, g, F.kp, F.binds (fun _ _ _ _ _ _ us hl => match us, hl with | [_, _, _], _ => rfl)⟩ (fun m h => by
    have : n = m := by omega
    rw [this])
def sp_treeA (K : PySem.W.Frag) : Sp := fun vs H Q E => ∃ j, j ≤ 9 ∧ sp_tree K j vs H Q E
theorem k_tree {P : Program} {w : World} {K : PySem.W.Frag} {mg : Str → Option Value} {base : Heap} {f : Addr} {fd : FuncData} (F : Fun K "_law_tree" "_law_tree" s_tree f fd) (g : mg "_law_tree" = some (.ref f)) (z : Zb mg)
    (k_take : Kn P w K mg base CX0 1 "_law_take" sp_take) (k_values : Kn P w K mg base CX0 2 "_law_values" sp_values) : Kn P w K mg base CX0 12 "_law_tree" (sp_treeA K) :=
  ⟨f, fd, ["_law_box_here", "_law_cells_here", "_law_budget"], ⟨fun vs H Q E ⟨j, hj, h⟩ => (fn_tree F g z k_take k_values j).len vs H Q E h,
    fun A outer s H args us vs Q E hr env b r ⟨j, hj, h⟩ => (fn_tree F g z k_take k_values j).run A outer s H args us vs Q E (hr.mono (by omega)) env b r h⟩, g, F.kp, F.binds (fun _ _ _ _ _ _ us hl => match us, hl with | [_, _, _], _ => rfl)⟩

end L2.Ro

end
section
set_option Elab.async false
set_option linter.all false
set_option maxRecDepth 100000
set_option maxHeartbeats 4000000
local macro_rules | `(tactic| walk_at "rd1") => `(tactic| with_reducible first
  | refine L2.Rx.r_seq ?_ | refine L2.Rx.r_asg ?_ | refine L2.Rx.r_gname ?_ | refine L2.Rx.r_op ?_ | refine L2.Rx.r_c ?_
  | refine L2.Rx.r_var rfl ?_
  | refine L2.Rx.r_rI0 ?_ | refine L2.Rx.r_test ?_ | refine L2.Rx.r_bl ?_ | refine L2.Rx.r_if ?_ | refine L2.Rx.r_ret ?_
  | refine L2.Rx.r_cons ?_ | refine L2.Rx.r_nil ?_ | refine L2.Rx.r_call ?_ | refine L2.Rx.r_cb ?_ | refine L2.Rx.r_next ?_ | refine L2.Rx.r_drop ?_
  | refine L2.Rx.r_gsub ?_ | refine L2.Rx.r_tupF ?_ | refine L2.Rx.r_lst ?_ | refine L2.Rx.r_par ?_ | refine L2.Rx.r_par2 ?_
  | refine L2.Rx.r_un ?_ | refine L2.Rx.r_tb ?_ | refine L2.Rx.r_and ?_ | refine L2.Rx.r_or ?_ | refine L2.Rx.r_not ?_
  | refine L2.Rx.r_andV ?_ | refine L2.Rx.r_orV ?_ | refine L2.Rx.r_notV ?_ | refine L2.Rx.r_ifx ?_ | refine L2.Rx.r_chain ?_
  | refine L2.Rx.r_sl ?_ | refine L2.Rx.r_nopart ?_ | refine L2.Rx.r_part ?_ | refine L2.Rx.r_exint ?_ | refine L2.Rx.r_bm0 ?_ | refine L2.Rx.r_bm ?_
  | refine L2.Rx.r_lc ?_ | refine L2.Rx.r_rng1 ?_ | refine L2.Rx.r_yes ?_ | refine L2.Rx.r_tt ?_ | refine L2.Rx.r_ff ?_ | refine L2.Rx.r_m1 ?_ | refine L2.Rx.r_m0 ?_ | refine L2.Rx.r_isS ?_
  | (refine L2.Rx.r_wipe (by with_unfolding_all rfl) ?_) | (refine L2.Rx.r_tyL (by walk_at "hp") ?_)
  | refine L2.Rx.r_addS (by walk_at "len") ?_ | refine L2.Rx.r_lenS (by walk_at "len") ?_ | refine L2.Rx.r_slS (by walk_at "len") ?_
  | refine L2.Rx.r_dnotin ?_ | refine L2.Rx.r_dget ?_ | refine L2.Rx.r_dget1 ?_ | refine L2.Rx.r_dput ?_ | refine L2.Rx.r_dpop1 ?_ | refine L2.Rx.r_isN ?_
  | refine L2.Rx.r_for ?_ | refine L2.Rx.r_ilist ?_ | refine L2.Rx.r_itup ?_
  | refine L2.Rx.r_gcons ?_ | refine L2.Rx.r_gnil ?_ | (refine L2.Rx.r_gtupP (by assumption) (by walk_at "at") ?_)
  | (refine L2.Rx.r_rEq rfl ?_) | (refine L2.Rx.r_rNe rfl ?_)
  | refine L2.Rx.r_rU ?_ | refine L2.Rx.r_max2 ?_ | refine L2.Rx.r_min2 ?_ | refine L2.Rx.r_int1i ?_ | (refine L2.Rx.r_lenh (by walk_at "hp") ?_)
  | (refine L2.Rx.r_ixLh (by walk_at "hp") (by walk_at "at") ?_)
  | (refine L2.Rx.r_setL (by walk_at "hp") (by walk_at "at") ?_))
local macro_rules | `(tactic| walk_at "at") => `(tactic| with_unfolding_all rfl)
local macro_rules | `(tactic| walk_at "rd") => `(tactic| (repeat walk_at "rd1"))
local macro_rules | `(tactic| walk_at "hp") => `(tactic| first
  | assumption
  | exact L2.upd_same
  | (refine Eq.trans (L2.upd_ne ?_) ?_; (focus walk_at "ne"); (focus walk_at "hp"))
  | (refine L2.Rx.Kp.at0 (by assumption) ?_; walk_at "hp")
  | (refine L2.Rx.Kp.at1 (by assumption) ?_ ?_; (focus walk_at "ne"); (focus walk_at "hp")))
local macro_rules | `(tactic| walk_at "ne") => `(tactic| first
  | assumption | exact Ne.symm (by assumption)
  | (refine L2.ne_of_none (H := ?nH) (o := ?nO) ?nh ?nn; (case nn => assumption); (case nh => walk_at "hp"))
  | (refine Ne.symm (L2.ne_of_none (H := ?nH) (o := ?nO) ?nh ?nn); (case nn => assumption); (case nh => walk_at "hp")))
local macro_rules | `(tactic| walk_at "len") => `(tactic| (rw [PySem.sizeLine_eq]; omega))
local macro_rules | `(tactic| walk_at "nin") => `(tactic| first
  | exact List.not_mem_nil
  | (refine L2.Rx.nin1 ?_; walk_at "ne"))
local macro_rules | `(tactic| walk_at "none") => `(tactic| first
  | assumption
  | (refine L2.Rx.Kp.none0 (by assumption) ?_ ?_; (focus walk_at "nin"); (focus walk_at "none")))
namespace L2.Ro
open PySem PySem.Spec PyProof.Rows L2.Rx
abbrev Path := List (Str × Int)
def inOrder (l : Path) : Prop := l.Pairwise fun x y => PySem.W.dataLt (prD y) (prD x) = false
def sp_leaves (K : PySem.W.Frag) : Sp := fun vs H Q _ => ∃ (v : V) (t : Tr) (n : Nat) (cs : List Str), vs = [v] ∧ Dq K H v t.d ∧ Okt n cs t ∧ (∀ c ∈ cs, Cell c) ∧ n ≤ 6 ∧
  ∀ (H' : Hp) (p : Addr) (ys : List V) (zs : List (Path × Path)), Kp [] H H' → Tm H' p ys → DqAll K H' ys (zs.map fun z => logD z.1) → (zs.map Prod.snd).Perm t.paths → (∀ z ∈ zs, z.1.Perm z.2 ∧ inOrder z.1) →
    zs.Pairwise (fun x y => PySem.W.dataLt (logD y.1) (logD x.1) = false) → Q (.ref p) H'
def itD (x : Tr × Path) : PyData := .tuple [x.1.d, logD x.2]
def exts (x : Tr × Path) : List Path := x.1.paths.map (x.2 ++ ·)
def ItOk (n : Nat) (x : Tr × Path) : Prop := (∃ m cs, Okt m cs x.1 ∧ (∀ c ∈ cs, Cell c) ∧ m + x.2.length ≤ n) ∧ ∀ z ∈ x.2, Cell z.1
theorem itD_shp {n : Nat} {x : Tr × Path} (h : ItOk n x) : shp (itD x) = true := by
  obtain ⟨⟨m, cs, h1, h2, h3⟩, h4⟩ := h
  rw [itD, shp, shps, shps, shps, h1.shp h2, logD, shp]
  rw [show shps (x.2.map prD) = true from ?_]
  · rfl
  · refine shps_mem fun d hd => ?_
    obtain ⟨z, hz, rfl⟩ := List.mem_map.mp hd
    rw [prD, shp, shps, shps, shps, shp, shp, (h4 z hz).ok]
    rfl
theorem itD_depth {n : Nat} {x : Tr × Path} (h : ItOk n x) : (itD x).depth ≤ 3 * n + 3 := by
  obtain ⟨⟨m, cs, h1, h2, h3⟩, h4⟩ := h
  rw [itD, PyData.depth, PyData.depthAll, PyData.depthAll, PyData.depthAll]
  have := h1.depth
  have := log_depth x.2
  omega
theorem itD_noL {n : Nat} {x : Tr × Path} (h : ItOk n x) : noL (itD x) = true := by
  obtain ⟨⟨m, cs, h1, h2, h3⟩, h4⟩ := h
  rw [itD, noL, noLs, noLs, noLs, h1.noL, log_noL]
  rfl
theorem its_shp {n : Nat} {wt : List (Tr × Path)} (h : ∀ x ∈ wt, ItOk n x) : shp (.list (wt.map itD)) = true := by
  rw [shp]
  refine shps_mem fun d hd => ?_
  obtain ⟨z, hz, rfl⟩ := List.mem_map.mp hd
  exact itD_shp (h z hz)
theorem its_depth {n : Nat} {wt : List (Tr × Path)} (h : ∀ x ∈ wt, ItOk n x) : (PyData.list (wt.map itD)).depth ≤ 3 * n + 4 := by
  rw [PyData.depth]
  have := depth_mem (ds := wt.map itD) (n := 3 * n + 3) fun d hd => by
    obtain ⟨z, hz, rfl⟩ := List.mem_map.mp hd
    exact itD_depth (h z hz)
  omega
theorem its_noL {n : Nat} {wt : List (Tr × Path)} (h : ∀ x ∈ wt, ItOk n x) : noLs (wt.map itD) = true := by
  refine noLs_mem fun d hd => ?_
  obtain ⟨z, hz, rfl⟩ := List.mem_map.mp hd
  exact itD_noL (h z hz)
theorem logs_noL (zs : List (Path × Path)) : noLs (zs.map fun z => logD z.1) = true := by
  refine noLs_mem fun d hd => ?_
  obtain ⟨z, hz, rfl⟩ := List.mem_map.mp hd
  exact log_noL z.1
theorem exts_len {n : Nat} : ∀ {wt : List (Tr × Path)}, (∀ x ∈ wt, ItOk n x) → wt.length ≤ (wt.flatMap exts).length
  | [], _ => Nat.le_refl _
  | x :: r, h => by
    have := exts_len (wt := r) fun y m => h y (List.mem_cons_of_mem _ m)
    obtain ⟨⟨m, cs, h1, _⟩, _⟩ := h x (List.mem_cons_self ..)
    have := h1.paths_pos
    rw [List.flatMap_cons, List.length_append, List.length_cons, exts, List.length_map]
    omega
theorem dpAll_split {K : PySem.W.Frag} {H : Hp} {es : List PyData} : ∀ {ds : List PyData} {ws : List V}, DqAll K H ws (ds ++ es) → ∃ w1 w2, ws = w1 ++ w2 ∧ DqAll K H w1 ds ∧ DqAll K H w2 es
  | [], ws, h => ⟨[], ws, rfl, .nil, h⟩
  | d :: ds, ws, h => by
    obtain ⟨v, vs, rfl, h1, h2⟩ := dp_cons h
    obtain ⟨w1, w2, rfl, a, b⟩ := dpAll_split h2
    exact ⟨v :: w1, w2, rfl, .cons h1 a, b⟩
theorem dp_log {K : PySem.W.Frag} {H : Hp} {v : V} {l : Path} (h : Dq K H v (logD l)) : ∃ a xs, v = .ref a ∧ Tm H a xs ∧ DqAll K H xs (l.map prD) := dp_tup h
def pot (wt : List (Tr × Path)) : Nat := (wt.map fun x => x.1.size).sum
theorem pot_app (a b : List (Tr × Path)) : pot (a ++ b) = pot a + pot b := by rw [pot, List.map_append, List.sum_append]; rfl
def belowOf (c : Str) (p : Path) (bs : List (Int × Tr)) : List (Tr × Path) := bs.map fun z => (z.2, p ++ [(c, z.1)])
theorem pot_below (c : Str) (p : Path) (bs : List (Int × Tr)) : pot (belowOf c p bs) = brz bs := by
  rw [brz_eq, pot, belowOf, List.map_map]
  rfl
theorem exts_below (c : Str) (p : Path) (bs : List (Int × Tr)) : (belowOf c p bs).flatMap exts = exts (.nd c bs, p) := by
  rw [exts, Tr.paths, belowOf]
  induction bs with
  | nil => rw [brp]; rfl
  | cons z r ih =>
    obtain ⟨v, t⟩ := z
    rw [brp, List.map_cons, List.flatMap_cons, ih, List.map_append, exts, List.map_map]
    congr 1
    refine List.map_congr_left fun s _ => ?_
    show p ++ [(c, v)] ++ s = p ++ (c, v) :: s
    rw [List.append_assoc]
    rfl
theorem brp_ne (c : Str) (bs : List (Int × Tr)) : ∀ s ∈ brp c bs, s ≠ [] := by
  intro s hs
  rw [brp_eq] at hs
  obtain ⟨z, _, hz⟩ := List.mem_flatMap.mp hs
  obtain ⟨u, _, rfl⟩ := List.mem_map.mp hz
  exact fun z => nomatch z
theorem okt_nd {m : Nat} {cs : List Str} {c : Str} {bs : List (Int × Tr)} (h : Okt m cs (.nd c bs)) : ∃ m' cs', m = m' + 1 ∧ c ∈ cs ∧ (∀ x ∈ cs', x ∈ cs) ∧ bs.length ≤ 3 ∧ ∀ p ∈ bs, Okt m' cs' p.2 := by
  cases h with
  | nd h1 h2 h3 h4 h5 h6 h7 h8 => exact ⟨_, _, rfl, h1, h3, h5, h8⟩
theorem brd_lng (bs : List (Int × Tr)) : (brd bs).length = bs.length := by rw [brd_eq, List.length_map]
section
variable {P : Program} {w : World} {K : PySem.W.Frag} {mg : Str → Option Value} {base : Heap}
theorem k_leaves {f : Addr} {fd : FuncData} (F : Fun K "_law_leaves" "_law_leaves" s_leaves f fd) (g : mg "_law_leaves" = some (.ref f)) (z : Zb mg)   : Kn P w K mg base CX0 1 "_law_leaves" (sp_leaves K) := by
  refine ⟨f, fd, ["_law_tree_here"], fnG_body F sc_leaves (fun vs H Q E h => ?_) (fun cdv A outer s H vs Q E hr h => ?_), g, F.kp, F.binds (fun _ _ _ _ _ _ us hl => match us, hl with | [_], _ => rfl)⟩
  · obtain ⟨v, t, n, cs, rfl, _⟩ := h
    rfl
  · obtain ⟨v, t, n, cs, rfl, dt, ot, hcs, hn, q⟩ := h
    refine ⟨_, PSs.nox (pss_cons (ps_par (i := 1) (j := 2) (by rfl) sc_leaves.nd rfl rfl (by decide) rfl rfl (pa_cons (pe_lst pa_nil) (pa_cons (pe_lst (pa_cons (pe_tupF (pa_cons (pv 0) (pa_cons (pe_tupF pa_nil) pa_nil))) pa_nil)) pa_nil)) (by rfl))
      (pss_cons (ps_while PassesOwn.never (pt_cmpR (show OpR _ _ (rNeD K) from (op_neD hr.units)) (pv 2) (pe_lst pa_nil) (nomark _))
        (pss_cons (ps_asg (show PE _ _ (tBM0 K _ _ _) from pe_bm0 PySem.F.plainAttrs_list PySem.F.slot_list_pop PySem.F.type_list_pop mt_pop (pv 2)) (show PG _ _ (gTup K 2 _) from pg_tup rfl (pgs_cons (pg_name (i := 3) sc_leaves.nd rfl (.inr rfl)) (pgs_cons (pg_name (i := 4) sc_leaves.nd rfl (.inr rfl)) pgs_nil))))
        (pss_one (ps_if (pt_cmpR (show OpR _ _ (rEqD K) from (op_eqD hr.units)) (pv 3) (pe_tupF pa_nil) (nomark _))
          (pss_one (ps_expr (show PE _ _ (tBM K _ _ _ _) from pe_bm PySem.F.plainAttrs_list PySem.F.slot_list_append PySem.F.type_list_append mt_append (pv 1) (pa_cons (pe_callTy (show CallR _ _ (rTupOf K) from c_tuple) (by rfl) z.n_tuple (by decide +kernel) (pa_cons (pe_callB (show CallR _ _ (rSortV K) from (call_sortV hr)) (by rfl) z.n_sorted (by decide +kernel) (pa_cons (pv 4) pa_nil)) pa_nil)) pa_nil))))
          (pss_one (ps_expr (show PE _ _ (tBM K _ _ _ _) from pe_bm PySem.F.plainAttrs_list PySem.F.slot_list_extend PySem.F.type_list_extend mt_extend (pv 2) (pa_cons (pe_lc (own := [("_law_value", 5), ("_law_below", 6)]) (g := (gTup K 2 (gCons (gName 5) (gCons (gName 6) gNil)))) (by rfl) sc_leaves.nd (show PI _ _ _ (iTup K _) from pi_tup (pe_ix (show IxR _ (rIxT K) from ix_tup) (pv 3) pe_int (fun _ _ => rfl))) (blkOk_by (own := [("_law_value", 5), ("_law_below", 6)]) (N := ["_law_tree_here", "_law_found", "_law_waiting", "_law_here", "_law_pairs", "_law_value", "_law_below"]) (sc := defScope s_leaves) (by decide +kernel)) (fun _ _ _ _ _ => (show PG _ _ (gTup K 2 (gCons (gName 5) (gCons (gName 6) gNil))) from pg_tup rfl (pgs_cons (pg_name (i := 5) sc_leaves.nd rfl (.inl rfl)) (pgs_cons (pg_name (i := 6) sc_leaves.nd rfl (.inl rfl)) pgs_nil)))) (fun _ _ _ _ _ => pts_nil) (fun _ _ _ _ _ => (pe_tupF (pa_cons (pv 6) (pa_cons (pe_op (show OpR _ _ (rCatF K) from op_catF) (pv 4) (pe_tupF (pa_cons (pe_tupF (pa_cons (pe_ix (show IxR _ (rIxT K) from ix_tup) (pv 3) pe_int (fun _ _ => rfl)) (pa_cons (pv 5) pa_nil))) pa_nil))) pa_nil))))) pa_nil))))))))
      (pss_one (ps_ret (pe_callTy (show CallR _ _ (rTupOf K) from c_tuple) (by rfl) z.n_tuple (by decide +kernel) (pa_cons (pe_callB (show CallR _ _ (rSortV K) from (call_sortV hr)) (by rfl) z.n_sorted (by decide +kernel) (pa_cons (pv 1) pa_nil)) pa_nil)))))), ?_⟩
    walk_at "rd"
    refine r_new rfl (fun fo nfo => ?_)
    refine gen_new nfo fun H1 kp1 hfo => ?_
    walk_at "rd"
    refine r_newF rfl fun e0 oe0 ne0 ode0 => ?_
    refine gen_newT ne0 ode0 fun H2 kp2 he0 => ?_
    walk_at "rd"
    refine r_newF rfl fun e1 oe1 ne1 ode1 => ?_
    refine gen_newT ne1 ode1 fun H3 kp3 he1 => ?_
    walk_at "rd"
    refine r_new rfl (fun wa nwa => ?_)
    refine gen_new nwa fun H4 kp4 hwa => ?_
    walk_at "rd"
    have lp : t.paths.length ≤ 729 := Nat.le_trans ot.paths_le (Nat.le_trans (Nat.pow_le_pow_right (by decide) hn) (by decide))
    have fw : fo ≠ wa := by
      have : H3 fo = some (.lst []) := kp3.at0 (kp2.at0 hfo)
      exact ne_of_none this nwa
    refine r_while ⟨fun m σ' H' => ∃ (zs : List (Path × Path)) (wt : List (Tr × Path)) (ys ws : List V) (a3 a4 a5 a6 : Option V), σ' = [some v, some (.ref fo), some (.ref wa), a3, a4, a5, a6] ∧ Kp [fo, wa] H4 H' ∧ H' fo = some (.lst ys) ∧ H' wa = some (.lst ws) ∧
      DqAll K H' ys (zs.map fun z => logD z.1) ∧ DqAll K H' ws (wt.map itD) ∧ (zs.map Prod.snd ++ wt.flatMap exts).Perm t.paths ∧ (∀ z ∈ zs, z.1.Perm z.2 ∧ inOrder z.1) ∧ (∀ x ∈ wt, ItOk n x) ∧ m = pot wt, ⟨_, [], [(t, [])], [], _, _, _, _, _, rfl, Kp.refl, kp4.at0 (kp3.at0 (kp2.at0 hfo)), hwa, .nil, ?_, ?_, (fun _ h => nomatch h), ?_, rfl⟩, ?_⟩
    · refine .cons (.tup (he1.keep0 kp4) (.cons (Dq.keep0 (((kp1.trans kp2).trans kp3).trans kp4) _ _ dt) (.cons (.tup (he0.keep0 (kp3.trans kp4)) .nil) .nil))) .nil
    · show ([] ++ exts (t, []) ++ []).Perm t.paths
      rw [List.append_nil, List.nil_append, exts]
      show (t.paths.map id).Perm t.paths
      rw [List.map_id]
    · intro x hx
      have e : x = (t, []) := by simpa using hx
      subst e
      exact ⟨⟨n, cs, ot, hcs, Nat.le_refl _⟩, fun _ h => nomatch h⟩
    rintro m σ' H5 ⟨zs, wt, ys, ws, a3, a4, a5, a6, rfl, kp5, hfo5, hwa5, dz, dw, pm, ro, io, rfl⟩
    walk_at "rd"
    refine r_new rfl (fun e2 ne2 => ?_)
    refine gen_new ne2 fun H6 kp6 he2 => ?_
    refine r_neL0 (.lst (.inl (.inl (kp6.at0 hwa5))) (DqAll.keep0 kp6 _ _ dw)) (its_shp io) (Nat.le_trans (its_depth io) (by omega)) he2 ?_
    walk_at "rd"
    refine r_itb (fun hb => ?_) (fun hb => ?_)
    · refine ⟨_, fun σ' H' h => h, ?_⟩
      obtain ⟨wt', x, rfl⟩ : ∃ wt' x, wt = wt' ++ [x] := by
        rcases List.eq_nil_or_concat wt with h | ⟨a, b, h⟩
        · rw [h] at hb
          cases hb
        · exact ⟨a, b, by rw [h, List.concat_eq_append]⟩
      rw [List.map_append] at dw
      obtain ⟨ws', w2, rfl, dw1, dw2⟩ := dpAll_split dw
      obtain ⟨w, _, rfl, dx, dn⟩ := dp_cons dw2
      cases dn
      obtain ⟨tr, p⟩ := x
      obtain ⟨a, _, rfl, sa, da⟩ := dp_tup dx
      obtain ⟨h, _, rfl, dh, da⟩ := dp_cons da
      obtain ⟨qv, _, rfl, dq, da⟩ := dp_cons da
      cases da
      have ix := io (tr, p) (List.mem_append_right _ (List.mem_cons_self ..))
      have io' : ∀ x ∈ wt', ItOk n x := fun x hx => io x (List.mem_append_left _ hx)
      have hwa6 := kp6.at0 hwa5
      walk_at "rd"
      refine r_pop hwa6 ?_
      refine gen_put fun H7 kp7 hwa7 => ?_
      have mu6 : Mu H6 [wa] := Mu.lst hwa6
      have up7 : ∀ d v, noL d = true → Dq K H5 v d → Dq K H7 v d := fun d v n h => Dq.keepS kp7 mu6 d v n (Dq.keep0 kp6 d v h)
      have up7s : ∀ ds vs, noLs ds = true → DqAll K H5 vs ds → DqAll K H7 vs ds := fun d v n h => DqAll.keepS kp7 mu6 d v n (DqAll.keep0 kp6 d v h)
      have dz7 := up7s _ _ (logs_noL zs) dz
      have dw7 := up7s _ _ (its_noL io') dw1
      have dh7 := up7 _ _ ix.1.choose_spec.choose_spec.1.noL dh
      have hfo7 : H7 fo = some (.lst ys) := kp7.at1 fw (kp6.at0 hfo5)
      have kp57 : Kp [fo, wa] H4 H7 := (kp5.trans (Kp.mono kp6 (by simp))).trans (kp7.mono (by simp))
      obtain ⟨qa, pys, rfl, sq7, dp7⟩ := dp_log (up7 _ _ (log_noL p) dq)
      have lall : zs.length + (wt'.flatMap exts).length + tr.paths.length = t.paths.length := by
        have := pm.length_eq
        rw [List.length_append, List.flatMap_append, List.length_append, List.length_map] at this
        rw [← this, Nat.add_assoc]
        congr 2
        rw [List.flatMap_cons, List.flatMap_nil, List.append_nil, exts, List.length_map]
      have lz : zs.length ≤ 729 := by omega
      have lw : wt'.length ≤ 729 := Nat.le_trans (exts_len io') (by omega)
      have lys : ys.length = zs.length := by rw [dqAll_len dz, List.length_map]
      have lws : ws'.length = wt'.length := by rw [dqAll_len dw1, List.length_map]
      refine r_gtupP ((sa.keep0 kp6).keepM kp7 mu6) rfl ?_
      walk_at "rd"
      refine r_newF rfl fun e3 oe3 ne3 ode3 => ?_
      refine gen_newT ne3 ode3 fun H8 kp8 he3 => ?_
      have hfo8 := kp8.at0 hfo7
      have hwa8 := kp8.at0 hwa7
      cases tr with
      | lf =>
        rw [Tr.d] at dh7
        refine r_eqT0 (Dq.keep0 kp8 _ _ dh7) (by decide +kernel) (by decide +kernel) he3 ?_
        walk_at "rd"
        refine r_tt ?_
        walk_at "rd"
        refine r_sortD (.inr (sq7.keep0 kp8).sq) (DqAll.keep0 kp8 _ _ dp7) (sb_pairs p) fun so bs sys pb wb db nso => ?_
        refine gen_new nso fun H9 kp9 hso => ?_
        walk_at "rd"
        refine r_tupL hso fun tp H10 ntp kp10 htp => ?_
        walk_at "rd"
        have k910 := kp9.trans kp10
        have hfo10 := k910.at0 hfo8
        refine r_app0 hfo10 (by omega) ?_
        refine gen_put fun H11 kp11 hfo11 => ?_
        have mu10 : Mu H10 [fo] := Mu.lst hfo10
        have htp11 : Tm H11 tp sys := htp.keepM kp11 mu10
        have up11 : ∀ ds vs, noLs ds = true → DqAll K H7 vs ds → DqAll K H11 vs ds := fun d v n h => DqAll.keepS kp11 mu10 d v n (DqAll.keep0 (kp8.trans k910) d v h)
        have pnl : noLs (bs.map prD) = true := by
          have := log_noL bs
          rw [logD, noL] at this
          exact this
        refine ⟨pot wt', ?_, zs ++ [(bs, p)], wt', _, ws', _, _, _, _, rfl, ?_, hfo11, kp11.at1 (Ne.symm fw) (k910.at0 hwa8), ?_, up11 _ _ (its_noL io') dw7, ?_, ?_, io', rfl⟩
        · rw [pot_app]
          show pot wt' < pot wt' + (Tr.lf.size + 0)
          rw [Tr.size]
          omega
        · exact (kp57.trans (Kp.mono (kp8.trans k910) (by simp))).trans (kp11.mono (by simp))
        · rw [List.map_append]
          exact DqAll.append (up11 _ _ (logs_noL zs) dz7) (.cons (.tup htp11 (DqAll.keepS kp11 mu10 _ _ pnl (DqAll.keep0 k910 _ _ db))) .nil)
        · refine List.Perm.trans ?_ pm
          rw [List.map_append, List.flatMap_append, List.append_assoc]
          refine List.Perm.append_left _ ?_
          have e : [(Tr.lf, p)].flatMap exts = [p] := by
            show [p ++ []] ++ [] = [p]
            rw [List.append_nil, List.append_nil]
          rw [e]
          exact List.perm_append_comm
        · intro z hz
          rcases List.mem_append.mp hz with h | h
          · exact ro z h
          · have e : z = (bs, p) := by simpa using h
            subst e
            exact ⟨pb, wb⟩
      | nd c bs =>
        obtain ⟨⟨m, cs1, ok, hcs1, hm⟩, hp⟩ := ix
        have okd := ok.depth
        have oks := ok.shp hcs1
        rw [Tr.d] at dh7 okd oks
        obtain ⟨m1, cs2, em, hc1, hs1, hl3, hsub⟩ := okt_nd ok
        obtain ⟨hh, _, rfl, sh, dd1⟩ := dp_tup dh7
        obtain ⟨c', _, rfl, dc, dd2⟩ := dp_cons dd1
        obtain rfl := dp_str dc
        obtain ⟨br, _, rfl, dbr, dd3⟩ := dp_cons dd2
        obtain rfl := dp_nil dd3
        obtain ⟨ba, bys, rfl, sba, dbs⟩ := dp_tup dbr
        have hm' : m + p.length ≤ n := hm
        refine r_eqT0 (Dq.keep0 kp8 _ _ dh7) oks (by omega) he3 ?_
        walk_at "rd"
        refine r_ff ?_
        walk_at "rd"
        refine r_ixT (sh.keep0 kp8).sq (by with_unfolding_all rfl) ?_
        refine r_walkT (sba.keep0 kp8).sq ?_
        intro D nD
        refine lc_tup (K := K) (a := ba) (xs := bys) (PvL D (fun j acc H' => DqAll K H' acc ((belowOf c p (bs.take j)).map itD) ∧ Kp [] H8 H')) ⟨[], upd_same, Nat.le_refl _, .nil, Kp.new nD⟩ (fun j H9 hj ⟨acc, ea, la, dacc, kp9⟩ => ((sba.keep0 kp8).keep0 kp9).sq) (fun j x H9 hx ⟨acc, ea, la, dacc, kp9⟩ => ?_) (fun H9 ⟨acc, ea, la, dacc, kp9⟩ => ?_)
        · rw [brd_eq] at dbs
          obtain ⟨d, hd, dx⟩ := DqAll.at dbs hx
          rw [List.getElem?_map] at hd
          obtain ⟨z, hz, rfl⟩ : ∃ z, bs[j]? = some z ∧ d = .tuple [.int z.1, z.2.d] := by
            cases e : bs[j]? with
            | none => rw [e] at hd; cases hd
            | some z => rw [e] at hd; exact ⟨z, rfl, (Option.some.inj hd).symm⟩
          have hj : j < bs.length := (List.getElem?_eq_some_iff.mp hz).1
          obtain ⟨xa, _, rfl, sx, dd5⟩ := dp_tup dx
          obtain ⟨v5, _, rfl, dv, dd6⟩ := dp_cons dd5
          obtain rfl := dp_int dv
          obtain ⟨w5, _, rfl, dw5, dd7⟩ := dp_cons dd6
          obtain rfl := dp_nil dd7
          have k79 := kp8.trans kp9
          refine r_gtupP (sx.keep0 k79) rfl ?_
          walk_at "rd"
          refine r_ixT (sh.keep0 k79).sq (by with_unfolding_all rfl) ?_
          walk_at "rd"
          refine r_newF rfl fun y1 oy1 ny1 ody1 => ?_
          refine gen_newT ny1 ody1 fun H10 kp10 hy1 => ?_
          walk_at "rd"
          refine r_newF rfl fun y2 oy2 ny2 ody2 => ?_
          refine gen_newT ny2 ody2 fun H11 kp11 hy2 => ?_
          walk_at "rd"
          have lpy : pys.length = p.length := by rw [dqAll_len dp7, List.length_map]
          refine r_catF (sq7.keep0 (k79.trans (kp10.trans kp11))) hy2 (by rw [lpy]; show _ + 1 ≤ _; omega) fun cp H12 kp12 scp => ?_
          walk_at "rd"
          refine r_newF rfl fun y3 oy3 ny3 ody3 => ?_
          refine gen_newT ny3 ody3 fun H13 kp13 hy3 => ?_
          have k913 := ((kp10.trans kp11).trans kp12).trans kp13
          have ea13 := k913.at0 ea
          refine PvL.step ea13 la (by omega) ⟨?_, (kp9.trans k913).new0 nD⟩
          have bnl : noLs ((belowOf c p (bs.take j)).map itD) = true := by
            refine noLs_mem fun d hd => ?_
            obtain ⟨u, hu, rfl⟩ := List.mem_map.mp hd
            obtain ⟨y, hy, rfl⟩ := List.mem_map.mp hu
            rw [itD, noL, noLs, noLs, noLs, (hsub y (List.mem_of_mem_take hy)).noL, log_noL]
            rfl
          have muD : Mu H13 [D] := Mu.lst ea13
          have e1 : belowOf c p (bs.take (j + 1)) = belowOf c p (bs.take j) ++ [(z.2, p ++ [(c, z.1)])] := by
            rw [List.take_add_one, hz, belowOf, List.map_append]
            rfl
          rw [e1, List.map_append]
          have hzo := hsub z (List.mem_of_getElem? hz)
          refine DqAll.append (DqAll.keepS Kp.put muD _ _ bnl (DqAll.keep0 k913 _ _ dacc)) (.cons ?_ .nil)
          refine Dq.keepS Kp.put muD (itD (z.2, p ++ [(c, z.1)])) _ (by rw [itD, noL, noLs, noLs, noLs, hzo.noL, log_noL]; rfl) ?_
          rw [itD]
          refine .tup hy3 (.cons (Dq.keep0 (k79.trans k913) _ _ dw5) (.cons ?_ .nil))
          rw [logD, List.map_append]
          refine .tup (scp.keep0 kp13) (DqAll.append (DqAll.keep0 (k79.trans k913) _ _ dp7) (.cons ?_ .nil))
          exact .tup (((hy1.keep0 kp11).keep0 kp12).keep0 kp13) (.cons (.str c) (.cons (.int z.1) .nil))
        · have lby : bys.length = bs.length := by rw [dqAll_len dbs, brd_lng]
          rw [List.take_of_length_le (by omega)] at dacc
          have lacc : acc.length = bs.length := by rw [dqAll_len dacc, List.length_map, belowOf, List.length_map]
          walk_at "rd"
          have hwa9 := kp9.at0 hwa8
          refine r_extend hwa9 ea (by omega) ?_
          refine gen_put fun H10 kp10 hwa10 => ?_
          have mu9 : Mu H9 [wa] := Mu.lst hwa9
          have up10 : ∀ ds vs, noLs ds = true → DqAll K H7 vs ds → DqAll K H10 vs ds := fun d v n h => DqAll.keepS kp10 mu9 d v n (DqAll.keep0 (kp8.trans kp9) d v h)
          have iob : ∀ x ∈ belowOf c p bs, ItOk n x := by
            intro x hx
            obtain ⟨z, hz, rfl⟩ := List.mem_map.mp hx
            refine ⟨⟨m1, cs2, hsub z hz, fun y hy => hcs1 y (hs1 y hy), ?_⟩, ?_⟩
            · rw [List.length_append]
              show m1 + (p.length + 1) ≤ n
              omega
            · intro y hy
              rcases List.mem_append.mp hy with h | h
              · exact hp y h
              · have e : y = (c, z.1) := by simpa using h
                subst e
                exact hcs1 c hc1
          refine ⟨pot (wt' ++ belowOf c p bs), ?_, zs, wt' ++ belowOf c p bs, ys, ws' ++ acc, _, _, _, _, rfl, ?_, kp10.at1 fw (kp9.at0 hfo8), hwa10, up10 _ _ (logs_noL zs) dz7, ?_, ?_, ro, ?_, rfl⟩
          · rw [pot_app, pot_app, pot_below]
            show _ < pot wt' + ((Tr.nd c bs).size + 0)
            rw [Tr.size]
            omega
          · exact (kp57.trans (Kp.mono (kp8.trans kp9) (by simp))).trans (kp10.mono (by simp))
          · rw [List.map_append]
            exact DqAll.append (up10 _ _ (its_noL io') dw7) (DqAll.keepS kp10 mu9 _ _ (its_noL iob) dacc)
          · refine List.Perm.trans (List.Perm.of_eq ?_) pm
            rw [List.flatMap_append, List.flatMap_append, exts_below, List.flatMap_cons, List.flatMap_nil, List.append_nil]
          · intro x hx
            rcases List.mem_append.mp hx with h | h
            · exact io' x h
            · exact iob x h
    · have e0 : wt = [] := by
        cases wt with
        | nil => rfl
        | cons a b => cases hb
      subst e0
      rw [List.flatMap_nil, List.append_nil] at pm
      walk_at "rd"
      have sbz : Sb (zs.map fun z => logD z.1) := by
        have := sb_logs (zs.map Prod.fst) ?_
        · rw [List.map_map] at this
          exact this
        · cases t with
          | lf =>
            right
            have := pm.length_eq
            rw [Tr.paths, List.length_map] at this
            rw [List.length_map, this]
            decide
          | nd c bs =>
            left
            intro l hl
            obtain ⟨z, hz, rfl⟩ := List.mem_map.mp hl
            have h1 : z.2 ≠ [] := by
              refine brp_ne c bs z.2 ?_
              rw [Tr.paths] at pm
              exact pm.mem_iff.mp (List.mem_map_of_mem hz)
            intro h0
            have := (ro z hz).1.length_eq
            rw [h0] at this
            exact h1 (List.length_eq_zero_iff.mp this.symm)
      refine r_sortD (enc := fun z : Path × Path => logD z.1) (.inl (.inl (.inl (kp6.at0 hfo5)))) (DqAll.keep0 kp6 _ _ dz) sbz fun so bs sys pb wb db nso => ?_
      refine gen_new nso fun H7 kp7 hso => ?_
      walk_at "rd"
      refine r_tupL hso fun tp H8 ntp kp8 htp => ?_
      have k03 := (kp1.trans kp2).trans kp3
      refine q H8 tp sys bs ?_ htp (DqAll.keep0 (kp7.trans kp8) _ _ db) ((pb.map Prod.snd).trans pm) (fun z hz => ro z (pb.mem_iff.mp hz)) wb
      refine ((Kp.trans (k03.trans kp4) Kp.refl).dropT kp5 ?_).trans ((kp6.trans kp7).trans kp8)
      intro a ha
      rcases List.mem_cons.mp ha with h | h
      · exact .inr (by rw [h]; exact nfo)
      · exact .inr (by rw [show a = wa by simpa using h]; exact k03.none0 (by simp) nwa)
end
end L2.Ro

end
section
set_option Elab.async false
set_option linter.all false
set_option maxRecDepth 100000
set_option maxHeartbeats 4000000
local macro_rules | `(tactic| walk_at "rd1") => `(tactic| with_reducible first
  | refine L2.Rx.r_seq ?_ | refine L2.Rx.r_asg ?_ | refine L2.Rx.r_gname ?_ | refine L2.Rx.r_op ?_ | refine L2.Rx.r_c ?_
  | refine L2.Rx.r_var rfl ?_
  | refine L2.Rx.r_rI0 ?_ | refine L2.Rx.r_test ?_ | refine L2.Rx.r_bl ?_ | refine L2.Rx.r_if ?_ | refine L2.Rx.r_ret ?_
  | refine L2.Rx.r_cons ?_ | refine L2.Rx.r_nil ?_ | refine L2.Rx.r_call ?_ | refine L2.Rx.r_cb ?_ | refine L2.Rx.r_next ?_ | refine L2.Rx.r_drop ?_
  | refine L2.Rx.r_gsub ?_ | refine L2.Rx.r_tupF ?_ | refine L2.Rx.r_lst ?_ | refine L2.Rx.r_par ?_ | refine L2.Rx.r_par2 ?_
  | refine L2.Rx.r_un ?_ | refine L2.Rx.r_tb ?_ | refine L2.Rx.r_and ?_ | refine L2.Rx.r_or ?_ | refine L2.Rx.r_not ?_
  | refine L2.Rx.r_andV ?_ | refine L2.Rx.r_orV ?_ | refine L2.Rx.r_notV ?_ | refine L2.Rx.r_ifx ?_ | refine L2.Rx.r_chain ?_
  | refine L2.Rx.r_sl ?_ | refine L2.Rx.r_nopart ?_ | refine L2.Rx.r_part ?_ | refine L2.Rx.r_exint ?_ | refine L2.Rx.r_bm0 ?_ | refine L2.Rx.r_bm ?_
  | refine L2.Rx.r_lc ?_ | refine L2.Rx.r_rng1 ?_ | refine L2.Rx.r_yes ?_ | refine L2.Rx.r_tt ?_ | refine L2.Rx.r_ff ?_ | refine L2.Rx.r_m1 ?_ | refine L2.Rx.r_m0 ?_ | refine L2.Rx.r_isS ?_
  | (refine L2.Rx.r_wipe (by with_unfolding_all rfl) ?_) | (refine L2.Rx.r_tyL (by walk_at "hp") ?_)
  | refine L2.Rx.r_addS (by walk_at "len") ?_ | refine L2.Rx.r_lenS (by walk_at "len") ?_ | refine L2.Rx.r_slS (by walk_at "len") ?_
  | refine L2.Rx.r_dnotin ?_ | refine L2.Rx.r_dget ?_ | refine L2.Rx.r_dget1 ?_ | refine L2.Rx.r_dput ?_ | refine L2.Rx.r_dpop1 ?_ | refine L2.Rx.r_isN ?_
  | refine L2.Rx.r_for ?_ | refine L2.Rx.r_ilist ?_ | refine L2.Rx.r_itup ?_
  | refine L2.Rx.r_gcons ?_ | refine L2.Rx.r_gnil ?_ | (refine L2.Rx.r_gtupP (by assumption) (by walk_at "at") ?_)
  | (refine L2.Rx.r_rEq rfl ?_) | (refine L2.Rx.r_rNe rfl ?_)
  | refine L2.Rx.r_rU ?_ | refine L2.Rx.r_max2 ?_ | refine L2.Rx.r_min2 ?_ | refine L2.Rx.r_int1i ?_ | (refine L2.Rx.r_lenh (by walk_at "hp") ?_)
  | (refine L2.Rx.r_ixLh (by walk_at "hp") (by walk_at "at") ?_)
  | (refine L2.Rx.r_setL (by walk_at "hp") (by walk_at "at") ?_))
local macro_rules | `(tactic| walk_at "at") => `(tactic| with_unfolding_all rfl)
local macro_rules | `(tactic| walk_at "rd") => `(tactic| (repeat walk_at "rd1"))
local macro_rules | `(tactic| walk_at "hp") => `(tactic| first
  | assumption
  | exact L2.upd_same
  | (refine Eq.trans (L2.upd_ne ?_) ?_; (focus walk_at "ne"); (focus walk_at "hp"))
  | (refine L2.Rx.Kp.at0 (by assumption) ?_; walk_at "hp")
  | (refine L2.Rx.Kp.at1 (by assumption) ?_ ?_; (focus walk_at "ne"); (focus walk_at "hp")))
local macro_rules | `(tactic| walk_at "ne") => `(tactic| first
  | assumption | exact Ne.symm (by assumption)
  | (refine L2.ne_of_none (H := ?nH) (o := ?nO) ?nh ?nn; (case nn => assumption); (case nh => walk_at "hp"))
  | (refine Ne.symm (L2.ne_of_none (H := ?nH) (o := ?nO) ?nh ?nn); (case nn => assumption); (case nh => walk_at "hp")))
local macro_rules | `(tactic| walk_at "len") => `(tactic| (rw [PySem.sizeLine_eq]; omega))
local macro_rules | `(tactic| walk_at "nin") => `(tactic| first
  | exact List.not_mem_nil
  | (refine L2.Rx.nin1 ?_; walk_at "ne"))
local macro_rules | `(tactic| walk_at "none") => `(tactic| first
  | assumption
  | (refine L2.Rx.Kp.none0 (by assumption) ?_ ?_; (focus walk_at "nin"); (focus walk_at "none")))
namespace L2.Ro
open PySem PySem.Spec PyProof.Rows L2.Rx
def sp_follow (K : PySem.W.Frag) : Sp := fun vs H Q _ => ∃ (v kn : V) (t : Tr) (n : Nat) (cs : List Str) (l : List (Str × Int)), vs = [v, kn] ∧ Dq K H v t.d ∧ Okt n cs t ∧ (∀ c ∈ cs, Cell c) ∧ n ≤ 6 ∧ Dq K H kn (logD l) ∧
  ∀ (H' : Hp) (r : V), Kp [] H H' → Dq K H' r (resD (run (envK (mergeK [] (kvsL l))) n t [])) → Q r H'
theorem okt_nd' {m : Nat} {cs : List Str} {c : Str} {bs : List (Int × Tr)} (h : Okt m cs (.nd c bs)) : ∃ m' cs', m = m' + 1 ∧ c ∈ cs ∧ (∀ x ∈ cs', x ∈ cs) ∧ bs.length ≤ 3 ∧ (bs.map Prod.fst).Nodup ∧ ∀ p ∈ bs, Okt m' cs' p.2 := by
  cases h with
  | nd h1 h2 h3 h4 h5 h6 h7 h8 => exact ⟨_, _, rfl, h1, h3, h5, h6.imp fun {a b} h => by omega, h8⟩
def swap2 (zs : List V) : List V := match zs with
  | [a, c] => [c, a]
  | zs => zs
def swap2v (zs : List Value) : List Value := match zs with
  | [a, c] => [c, a]
  | zs => zs
section
variable {P : Program} {w : World} {K : PySem.W.Frag} {mg : Str → Option Value} {base : Heap}
theorem k_follow0 {f : Addr} {fd : FuncData} (F : Fun K "follow" "follow" s_follow f fd) (g : mg "follow" = some (.ref f)) (z : Zb mg)   : FnG P w K mg base CX0 1 f fd ["reader", "known"] (sp_follow K) := by
  refine fnG_body F sc_follow (fun vs H Q E h => ?_) (fun cdv A outer s H vs Q E hr h => ?_)
  · obtain ⟨v, kn, t, n, cs, l, rfl, _⟩ := h
    rfl
  · obtain ⟨v, kn, t, n, cs, l, rfl, dt, ot, hcs, hn, dk, q⟩ := h
    refine ⟨_, PSs.nox (pss_cons (ps_set (i := 2) sc_follow.nd rfl (.inl rfl) (pe_callTy (show CallR _ _ (rDictP K) from (c_dictP rfl)) (by rfl) z.n_dict (by decide +kernel) (pa_cons (pv 1) pa_nil)))
      (pss_cons (ps_set (i := 3) sc_follow.nd rfl (.inl rfl) (pe_lst pa_nil))
      (pss_cons (ps_set (i := 4) sc_follow.nd rfl (.inl rfl) (pv 0))
      (pss_cons (ps_while PassesOwn.never (pt_cmpR (show OpR _ _ (rNeD K) from (op_neD hr.units)) (pv 4) (pe_tupF pa_nil) (nomark _))
        (pss_cons (ps_asg (pv 4) (show PG _ _ (gTup K 2 _) from pg_tup rfl (pgs_cons (pg_name (i := 5) sc_follow.nd rfl (.inl rfl)) (pgs_cons (pg_name (i := 6) sc_follow.nd rfl (.inl rfl)) pgs_nil))))
        (pss_cons (ps_if (pt_cmp (pc_dnotin hr.hu (pv 5) (pv 2)))
          (pss_one (ps_ret (pe_tupF (pa_cons pe_str (pa_cons (pe_callTy (show CallR _ _ (rTupOf K) from c_tuple) (by rfl) z.n_tuple (by decide +kernel) (pa_cons (pv 3) pa_nil)) (pa_cons (pv 5) pa_nil))))))
          pss_nil)
        (pss_cons (ps_expr (show PE _ _ (tBM K _ _ _ _) from pe_bm PySem.F.plainAttrs_list PySem.F.slot_list_append PySem.F.type_list_append mt_append (pv 3) (pa_cons (pv 5) pa_nil)))
        (pss_cons (ps_set (i := 4) sc_follow.nd rfl (.inl rfl) (pe_dget1 hr.hu (pe_callTy (show CallR _ _ (rDictP K) from (c_dictP rfl)) (by rfl) z.n_dict (by decide +kernel) (pa_cons (pv 6) pa_nil)) (pe_dget hr.hu (pv 2) (pv 5) (fun _ _ => rfl)) ms_1))
        (pss_one (ps_if (pt_cmpR op_isN (pv 4) pe_non (nomark _))
          (pss_one (ps_ret (pe_tupF (pa_cons pe_str (pa_cons (pe_callTy (show CallR _ _ (rTupOf K) from c_tuple) (by rfl) z.n_tuple (by decide +kernel) (pa_cons (pv 3) pa_nil)) (pa_cons (pv 5) pa_nil))))))
          pss_nil)))))))
      (pss_one (ps_ret (pe_tupF (pa_cons pe_str (pa_cons (pe_callTy (show CallR _ _ (rTupOf K) from c_tuple) (by rfl) z.n_tuple (by decide +kernel) (pa_cons (pv 3) pa_nil)) (pa_cons pe_non pa_nil)))))))))), ?_⟩
    obtain ⟨ka, kys, rfl, sk, dks⟩ := dp_tup dk
    obtain ⟨kps, rfl, kpr⟩ := log_pairs dks
    walk_at "rd"
    refine r_dictP (.inr sk) kpr fun d nd => ?_
    refine gen_new nd fun H1 kp1 hd => ?_
    have iv := intVals_log l
    generalize mergeK [] (kvsL l) = kvs at iv hd q ⊢
    walk_at "rd"
    refine r_new rfl (fun cl ncl => ?_)
    refine gen_new ncl fun H2 kp2 hcl => ?_
    walk_at "rd"
    have cb : cl ≠ d := Ne.symm (ne_of_none hd ncl)
    refine r_while ⟨fun m σ' H' => ∃ (w : V) (u : Tr) (acc cs' : List Str) (a5 a6 : Option V), σ' = [some v, some (.ref ka), some (.ref d), some (.ref cl), some w, a5, a6] ∧ Dq K H' w u.d ∧ Okt m cs' u ∧ (∀ c ∈ cs', Cell c) ∧ acc.length + m ≤ n ∧ H' cl = some (.lst (acc.map V.str)) ∧ H' d = some (.dK kvs) ∧ Kp [cl] H2 H' ∧
      run (envK kvs) m u acc = run (envK kvs) n t [], ⟨n, v, t, [], cs, _, _, rfl, Dq.keep0 (kp1.trans kp2) _ _ dt, ot, hcs, by simp, hcl, kp2.at0 hd, Kp.refl, rfl⟩, ?_⟩
    rintro m σ' H3 ⟨w, u, acc, cs', a5, a6, rfl, dw, ok, hc', lm, hcl3, hd3, kp3, er⟩
    have okd := ok.depth
    have oks := ok.shp hc'
    have k02 : Kp [] H H2 := kp1.trans kp2
    have nclH : H cl = none := kp1.none0 (by simp) ncl
    have fin : ∀ (H4 : Hp) (kk : Kp [] H3 H4) (r : V), Dq K H4 r (resD (run (envK kvs) n t [])) → Q r H4 := fun H4 kk r dr => q H4 r ((k02.dropT kp3 fun a ha => .inr (by rw [show a = cl by simpa using ha]; exact nclH)).trans kk) dr
    have sts : ∀ (H4 : Hp) (xs : List Str), DqAll K H4 (xs.map V.str) (xs.map PyData.str) := fun H4 xs => dqAll_strs xs
    walk_at "rd"
    refine r_newF rfl fun e oe ne oed => ?_
    refine gen_newT ne oed fun H4 kp4 he => ?_
    cases u with
    | lf =>
      rw [run_lf] at er
      rw [Tr.d] at dw
      refine r_neT0 (Dq.keep0 kp4 _ _ dw) (by decide +kernel) (by decide +kernel) he ?_
      walk_at "rd"
      refine r_ff ?_
      walk_at "rd"
      refine r_tupL (kp4.at0 hcl3) fun a H5 na kp5 ha => ?_
      walk_at "rd"
      refine r_newF rfl fun p op np opd => ?_
      refine gen_newT np opd fun H6 kp6 hp => ?_
      refine fin H6 ((kp4.trans kp5).trans kp6) _ ?_
      rw [← er, resD]
      exact .tup hp (.cons (.str _) (.cons (.tup (ha.keep0 kp6) (sts _ _)) (.cons .non .nil)))
    | nd c bs =>
      obtain ⟨m1, cs2, rfl, hc1, hs1, hl3, hnd, hsub⟩ := okt_nd' ok
      rw [Tr.d] at dw okd oks
      obtain ⟨hh, _, rfl, sh, dd1⟩ := dp_tup dw
      obtain ⟨c', _, rfl, dc, dd2⟩ := dp_cons dd1
      obtain rfl := dp_str dc
      obtain ⟨br, _, rfl, dbr, dd3⟩ := dp_cons dd2
      obtain rfl := dp_nil dd3
      obtain ⟨ba, bys, rfl, sba, dbs⟩ := dp_tup dbr
      refine r_neT0 (Dq.keep0 kp4 _ _ dw) oks (by omega) he ?_
      walk_at "rd"
      refine r_tt ?_
      refine ⟨_, fun σ' H' h => h, ?_⟩
      walk_at "rd"
      refine r_gtupP (sh.keep0 kp4) rfl ?_
      walk_at "rd"
      refine r_dhas (kp4.at0 hd3) ?_
      walk_at "rd"
      cases hv : valV kvs (.inr c) with
      | none =>
        refine r_tt ?_
        walk_at "rd"
        refine r_tupL (kp4.at0 hcl3) fun a H5 na kp5 ha => ?_
        walk_at "rd"
        refine r_newF rfl fun p op np opd => ?_
        refine gen_newT np opd fun H6 kp6 hp => ?_
        refine fin H6 ((kp4.trans kp5).trans kp6) _ ?_
        rw [← er, run_u (env_none hv), resD]
        exact .tup hp (.cons (.str _) (.cons (.tup (ha.keep0 kp6) (sts _ _)) (.cons (.str c) .nil)))
      | some vv =>
        obtain ⟨i, rfl⟩ := iv _ _ hv
        refine r_ff ?_
        have hcl4 := kp4.at0 hcl3
        walk_at "rd"
        refine r_app0 hcl4 (by rw [List.length_map]; omega) ?_
        refine gen_put fun H5 kp5 hcl5 => ?_
        have muc : Mu H4 [cl] := Mu.lst hcl4
        have hcl5' : H5 cl = some (.lst ((acc ++ [c]).map V.str)) := by
          rw [hcl5, List.map_append]
          rfl
        have dbs5 : DqAll K H5 bys (brd bs) := by
          refine DqAll.keepS kp5 muc _ _ ?_ (DqAll.keep0 kp4 _ _ dbs)
          refine noLs_mem fun d hd => ?_
          rw [brd_eq] at hd
          obtain ⟨z, hz, rfl⟩ := List.mem_map.mp hd
          rw [noL, noLs, noLs, noLs, noL, (hsub z hz).noL]
          rfl
        obtain ⟨bps, bkvs, rfl, bpr, bks, look⟩ := brs_pairs dbs5
        walk_at "rd"
        refine r_dictP (.inr ((sba.keep0 kp4).keepM kp5 muc)) bpr fun bd nbd => ?_
        refine gen_new nbd fun H6 kp6 hbd => ?_
        have nk : (bkvs.map Prod.fst).Nodup := by
          rw [bks, show (bs.map fun z => (Sum.inl z.1 : Key)) = (bs.map Prod.fst).map Sum.inl from (List.map_map ..).symm]
          exact List.Pairwise.map _ (fun a b h z => h (Sum.inl.inj z)) hnd
        rw [mergeK_nd nk] at hbd
        walk_at "rd"
        refine r_dref hbd ?_
        walk_at "rd"
        have hd6 : H6 d = some (.dK kvs) := kp6.at0 (kp5.at1 (Ne.symm cb) (kp4.at0 hd3))
        refine r_dat hd6 hv ?_
        refine r_dgetI hbd ?_
        have k36 : Kp [cl] H3 H6 := ((Kp.to1 kp4).trans kp5).trans (Kp.to1 kp6)
        rcases look i with ⟨e1, e2⟩ | ⟨wa, u', e1, e2, dw'⟩
        · rw [e1]
          walk_at "rd"
          refine r_ite (fun _ => ?_) (fun h => absurd rfl h)
          walk_at "rd"
          refine r_tupL (kp6.at0 hcl5') fun a H7 na kp7 ha => ?_
          walk_at "rd"
          refine r_newF rfl fun p op np opd => ?_
          refine gen_newT np opd fun H8 kp8 hp => ?_
          refine q H8 _ ((k02.dropT (kp3.trans k36) fun a ha => .inr (by rw [show a = cl by simpa using ha]; exact nclH)).trans (kp7.trans kp8)) ?_
          rw [← er, run_o (env_some hv) e2, resD]
          exact .tup hp (.cons (.str _) (.cons (.tup (ha.keep0 kp8) (sts _ _)) (.cons (.str c) .nil)))
        · rw [e1]
          walk_at "rd"
          refine r_ite (fun h => nomatch h) (fun _ => ?_)
          walk_at "rd"
          obtain ⟨z, hz, _, rfl⟩ := lookB_mem e2
          refine ⟨m1, Nat.lt_succ_self _, .ref wa, z.2, acc ++ [c], cs2, _, _, rfl, Dq.keep0 kp6 _ _ dw', hsub z hz, fun x hx => hc' x (hs1 x hx), by rw [List.length_append, List.length_singleton]; omega, kp6.at0 hcl5', hd6, kp3.trans k36, ?_⟩
          rw [← er, run_g (env_some hv) e2]
end
theorem k_follow {P : Program} {w : World} {K : PySem.W.Frag} {mg : Str → Option Value} {base : Heap} {f : Addr} {fd : FuncData} (F : Fun K "follow" "follow" s_follow f fd) (g : mg "follow" = some (.ref f)) (z : Zb mg) : Kn P w K mg base CX0 1 "follow" (sp_follow K) :=
  ⟨f, fd, _, k_follow0 F g z, g, F.kp, F.binds (fun _ _ _ _ _ _ us hl => match us, hl with | [_, _], _ => rfl)⟩
theorem k_follow_known_reader {P : Program} {w : World} {K : PySem.W.Frag} {mg : Str → Option Value} {base : Heap} {f : Addr} {fd : FuncData} (F : Fun K "follow" "follow" s_follow f fd) (g : mg "follow" = some (.ref f)) (z : Zb mg) : KnK P w K mg base CX0 1 "follow" ["known", "reader"] swap2 (sp_follow K) := by
  refine ⟨f, fd, _, swap2v, k_follow0 F g z, g, F.kp, bindsK F (fun _ _ _ _ _ _ ws hl => ?_), fun zs ws r => ?_⟩
  · rcases ws with _ | ⟨a, _ | ⟨c, _ | ⟨d, r⟩⟩⟩
    · cases hl
    · cases hl
    · rfl
    · simp [swap2v] at hl
  · cases r with
    | nil => exact .nil
    | cons h1 t1 =>
      cases t1 with
      | nil => exact .cons h1 .nil
      | cons h2 t2 =>
        cases t2 with
        | nil => exact .cons h2 (.cons h1 .nil)
        | cons h3 t3 => exact .cons h1 (.cons h2 (.cons h3 t3))

end L2.Ro

end
section
set_option Elab.async false
set_option linter.all false
set_option maxRecDepth 100000
set_option maxHeartbeats 4000000
local macro_rules | `(tactic| walk_at "rd1") => `(tactic| with_reducible first
  | refine L2.Rx.r_seq ?_ | refine L2.Rx.r_asg ?_ | refine L2.Rx.r_gname ?_ | refine L2.Rx.r_op ?_ | refine L2.Rx.r_c ?_
  | refine L2.Rx.r_var rfl ?_
  | refine L2.Rx.r_rI0 ?_ | refine L2.Rx.r_test ?_ | refine L2.Rx.r_bl ?_ | refine L2.Rx.r_if ?_ | refine L2.Rx.r_ret ?_
  | refine L2.Rx.r_cons ?_ | refine L2.Rx.r_nil ?_ | refine L2.Rx.r_call ?_ | refine L2.Rx.r_cb ?_ | refine L2.Rx.r_next ?_ | refine L2.Rx.r_drop ?_
  | refine L2.Rx.r_gsub ?_ | refine L2.Rx.r_tupF ?_ | refine L2.Rx.r_lst ?_ | refine L2.Rx.r_par ?_ | refine L2.Rx.r_par2 ?_
  | refine L2.Rx.r_un ?_ | refine L2.Rx.r_tb ?_ | refine L2.Rx.r_and ?_ | refine L2.Rx.r_or ?_ | refine L2.Rx.r_not ?_
  | refine L2.Rx.r_andV ?_ | refine L2.Rx.r_orV ?_ | refine L2.Rx.r_notV ?_ | refine L2.Rx.r_ifx ?_ | refine L2.Rx.r_chain ?_
  | refine L2.Rx.r_sl ?_ | refine L2.Rx.r_nopart ?_ | refine L2.Rx.r_part ?_ | refine L2.Rx.r_exint ?_ | refine L2.Rx.r_bm0 ?_ | refine L2.Rx.r_bm ?_
  | refine L2.Rx.r_lc ?_ | refine L2.Rx.r_rng1 ?_ | refine L2.Rx.r_yes ?_ | refine L2.Rx.r_tt ?_ | refine L2.Rx.r_ff ?_ | refine L2.Rx.r_m1 ?_ | refine L2.Rx.r_m0 ?_ | refine L2.Rx.r_isS ?_
  | (refine L2.Rx.r_wipe (by with_unfolding_all rfl) ?_) | (refine L2.Rx.r_tyL (by walk_at "hp") ?_)
  | refine L2.Rx.r_addS (by walk_at "len") ?_ | refine L2.Rx.r_lenS (by walk_at "len") ?_ | refine L2.Rx.r_slS (by walk_at "len") ?_
  | refine L2.Rx.r_dnotin ?_ | refine L2.Rx.r_dget ?_ | refine L2.Rx.r_dget1 ?_ | refine L2.Rx.r_dput ?_ | refine L2.Rx.r_dpop1 ?_ | refine L2.Rx.r_isN ?_
  | refine L2.Rx.r_for ?_ | refine L2.Rx.r_ilist ?_ | refine L2.Rx.r_itup ?_
  | refine L2.Rx.r_gcons ?_ | refine L2.Rx.r_gnil ?_ | (refine L2.Rx.r_gtupP (by assumption) (by walk_at "at") ?_)
  | (refine L2.Rx.r_rEq rfl ?_) | (refine L2.Rx.r_rNe rfl ?_)
  | refine L2.Rx.r_rU ?_ | refine L2.Rx.r_max2 ?_ | refine L2.Rx.r_min2 ?_ | refine L2.Rx.r_int1i ?_ | (refine L2.Rx.r_lenh (by walk_at "hp") ?_)
  | (refine L2.Rx.r_ixLh (by walk_at "hp") (by walk_at "at") ?_)
  | (refine L2.Rx.r_setL (by walk_at "hp") (by walk_at "at") ?_))
local macro_rules | `(tactic| walk_at "at") => `(tactic| with_unfolding_all rfl)
local macro_rules | `(tactic| walk_at "rd") => `(tactic| (repeat walk_at "rd1"))
local macro_rules | `(tactic| walk_at "hp") => `(tactic| first
  | assumption
  | exact L2.upd_same
  | (refine Eq.trans (L2.upd_ne ?_) ?_; (focus walk_at "ne"); (focus walk_at "hp"))
  | (refine L2.Rx.Kp.at0 (by assumption) ?_; walk_at "hp")
  | (refine L2.Rx.Kp.at1 (by assumption) ?_ ?_; (focus walk_at "ne"); (focus walk_at "hp")))
local macro_rules | `(tactic| walk_at "ne") => `(tactic| first
  | assumption | exact Ne.symm (by assumption)
  | (refine L2.ne_of_none (H := ?nH) (o := ?nO) ?nh ?nn; (case nn => assumption); (case nh => walk_at "hp"))
  | (refine Ne.symm (L2.ne_of_none (H := ?nH) (o := ?nO) ?nh ?nn); (case nn => assumption); (case nh => walk_at "hp")))
local macro_rules | `(tactic| walk_at "len") => `(tactic| (rw [PySem.sizeLine_eq]; omega))
local macro_rules | `(tactic| walk_at "nin") => `(tactic| first
  | exact List.not_mem_nil
  | (refine L2.Rx.nin1 ?_; walk_at "ne"))
local macro_rules | `(tactic| walk_at "none") => `(tactic| first
  | assumption
  | (refine L2.Rx.Kp.none0 (by assumption) ?_ ?_; (focus walk_at "nin"); (focus walk_at "none")))
namespace L2.Ro
open PySem PySem.Spec PyProof.Rows L2.Rx
def sp_due (K : PySem.W.Frag) : Sp := fun vs H Q _ => ∃ (v : V) (d : Addr) (t : Tr) (n : Nat) (cs : List Str) (kvs : List (Key × V)), vs = [v, .ref d] ∧ Dq K H v t.d ∧ Okt n cs t ∧ (∀ c ∈ cs, Cell c) ∧ n ≤ 6 ∧ H d = some (.dK kvs) ∧ IntVals kvs ∧
  ∀ (H' : Hp) (r : V), Kp [] H H' → Dq K H' r (resD (run (envK kvs) n t [])) → Q r H'
theorem okt_nd2 {m : Nat} {cs : List Str} {c : Str} {bs : List (Int × Tr)} (h : Okt m cs (.nd c bs)) : ∃ m' cs', m = m' + 1 ∧ c ∈ cs ∧ (∀ x ∈ cs', x ∈ cs) ∧ bs.length ≤ 3 ∧ (bs.map Prod.fst).Nodup ∧ ∀ p ∈ bs, Okt m' cs' p.2 := by
  cases h with
  | nd h1 h2 h3 h4 h5 h6 h7 h8 => exact ⟨_, _, rfl, h1, h3, h5, h6.imp fun {a b} h => by omega, h8⟩
def below (bs : List (Int × Tr)) (i : Int) : List (Int × Tr) := bs.filter fun z => decide (z.1 = i)
theorem below_look {bs : List (Int × Tr)} {i : Int} : lookB bs i = (below bs i).head?.map (·.2) := by
  rw [lookB, below, List.head?_filter]
section
variable {P : Program} {w : World} {K : PySem.W.Frag} {mg : Str → Option Value} {base : Heap}
theorem k_due {f : Addr} {fd : FuncData} (F : Fun K "_law_due" "_law_due" s_due f fd) (g : mg "_law_due" = some (.ref f)) (z : Zb mg)   : Kn P w K mg base CX0 1 "_law_due" (sp_due K) := by
  refine ⟨f, fd, ["_law_tree_here", "_law_values_here"], fnG_body F sc_due (fun vs H Q E h => ?_) (fun cdv A outer s H vs Q E hr h => ?_), g, F.kp, F.binds (fun _ _ _ _ _ _ us hl => match us, hl with | [_, _], _ => rfl)⟩
  · obtain ⟨v, d, t, n, cs, kvs, rfl, _⟩ := h
    rfl
  · obtain ⟨v, d, t, n, cs, kvs, rfl, dt, ot, hcs, hn, hd, iv, q⟩ := h
    refine ⟨_, PSs.nox (pss_cons (ps_set (i := 2) sc_due.nd rfl (.inl rfl) (pe_tupF pa_nil))
      (pss_cons (ps_while PassesOwn.never (pt_cmpR (show OpR _ _ (rNeD K) from (op_neD hr.units)) (pv 0) (pe_tupF pa_nil) (nomark _))
        (pss_cons (ps_asg (pv 0) (show PG _ _ (gTup K 2 _) from pg_tup rfl (pgs_cons (pg_name (i := 3) sc_due.nd rfl (.inr rfl)) (pgs_cons (pg_name (i := 4) sc_due.nd rfl (.inl rfl)) pgs_nil))))
        (pss_cons (ps_if (pt_cmp (pc_dnotin hr.hu (pv 3) (pv 1)))
          (pss_one (ps_ret (pe_tupF (pa_cons pe_str (pa_cons (pv 2) (pa_cons (pv 3) pa_nil))))))
          pss_nil)
        (pss_cons (ps_set (i := 2) sc_due.nd rfl (.inl rfl) (pe_op (show OpR _ _ (rCatF K) from op_catF) (pv 2) (pe_tupF (pa_cons (pv 3) pa_nil))))
        (pss_cons (ps_setLc (i := 5) (own := [("_law_value", 6), ("_law_rest", 7)]) (g := (gTup K 2 (gCons (gName 6) (gCons (gName 7) gNil)))) (by rfl) sc_due.nd rfl rfl (sw_true rfl rfl rfl (by decide +kernel)) (show PI _ _ _ (iTup K _) from pi_tup (pv 4)) (blkOk_by (own := [("_law_value", 6), ("_law_rest", 7)]) (N := ["_law_tree_here", "_law_values_here", "_law_cells_here", "_law_name", "_law_branches", "_law_below", "_law_value", "_law_rest"]) (sc := defScope s_due) (by decide +kernel)) (fun _ _ _ _ _ => (show PG _ _ (gTup K 2 (gCons (gName 6) (gCons (gName 7) gNil))) from pg_tup rfl (pgs_cons (pg_name (i := 6) sc_due.nd rfl (.inl rfl)) (pgs_cons (pg_name (i := 7) sc_due.nd rfl (.inl rfl)) pgs_nil)))) (fun _ _ _ _ _ => (pts_one (pt_cmpR op_eq (pv 6) (pe_dget hr.hu (pv 1) (pv 3) (fun _ _ => rfl)) (nomark _)))) (fun _ _ _ _ _ => (pv 7)))
        (pss_cons (ps_if (pt_cmpR (show OpR _ _ (rEqD K) from (op_eqD hr.units)) (pv 5) (pe_lst pa_nil) (nomark _))
          (pss_one (ps_ret (pe_tupF (pa_cons pe_str (pa_cons (pv 2) (pa_cons (pv 3) pa_nil))))))
          pss_nil)
        (pss_one (ps_set (i := 0) sc_due.nd rfl (.inl rfl) (pe_ix (show IxR _ (rIxL K) from ix_list) (pv 5) pe_int (fun _ _ => rfl))))))))))
      (pss_one (ps_ret (pe_tupF (pa_cons pe_str (pa_cons (pv 2) (pa_cons pe_non pa_nil)))))))), ?_⟩
    walk_at "rd"
    refine r_newF rfl fun c0 oc0 nc0 oc0d => ?_
    refine gen_newT nc0 oc0d fun H2 kp2 hc0 => ?_
    walk_at "rd"
    refine r_while ⟨fun m σ' H' => ∃ (w : V) (ca : Addr) (u : Tr) (acc cs' : List Str) (a3 a4 a5 a6 a7 : Option V), σ' = [some w, some (.ref d), some (.ref ca), a3, a4, a5, a6, a7] ∧ Dq K H' w u.d ∧ Okt m cs' u ∧ (∀ c ∈ cs', Cell c) ∧ acc.length + m ≤ n ∧ Tm H' ca (acc.map V.str) ∧ H' d = some (.dK kvs) ∧ Kp [] H H' ∧
      run (envK kvs) m u acc = run (envK kvs) n t [], ⟨n, v, c0, t, [], cs, _, _, _, _, _, rfl, Dq.keep0 kp2 _ _ dt, ot, hcs, by simp, hc0, kp2.at0 hd, kp2, rfl⟩, ?_⟩
    rintro m σ' H3 ⟨w, ca, u, acc, cs', a3, a4, a5, a6, a7, rfl, dw, ok, hc', lm, hca, hd3, kp3, er⟩
    have okd := ok.depth
    have oks := ok.shp hc'
    have fin : ∀ (H4 : Hp) (kk : Kp [] H3 H4) (r : V), Dq K H4 r (resD (run (envK kvs) n t [])) → Q r H4 := fun H4 kk r dr => q H4 r (kp3.trans kk) dr
    have sts : ∀ (H4 : Hp) (xs : List Str), DqAll K H4 (xs.map V.str) (xs.map PyData.str) := fun H4 xs => dqAll_strs xs
    walk_at "rd"
    refine r_newF rfl fun e oe ne oed => ?_
    refine gen_newT ne oed fun H4 kp4 he => ?_
    cases u with
    | lf =>
      rw [run_lf] at er
      rw [Tr.d] at dw
      refine r_neT0 (Dq.keep0 kp4 _ _ dw) (by decide +kernel) (by decide +kernel) he ?_
      walk_at "rd"
      refine r_ff ?_
      walk_at "rd"
      refine r_newF rfl fun p op np opd => ?_
      refine gen_newT np opd fun H6 kp6 hp => ?_
      refine fin H6 (kp4.trans kp6) _ ?_
      rw [← er, resD]
      exact .tup hp (.cons (.str _) (.cons (.tup (hca.keep0 (kp4.trans kp6)) (sts _ _)) (.cons .non .nil)))
    | nd c bs =>
      obtain ⟨m1, cs2, rfl, hc1, hs1, hl3, hnd, hsub⟩ := okt_nd2 ok
      rw [Tr.d] at dw okd oks
      obtain ⟨hh, _, rfl, sh, dd1⟩ := dp_tup dw
      obtain ⟨c', _, rfl, dc, dd2⟩ := dp_cons dd1
      obtain rfl := dp_str dc
      obtain ⟨br, _, rfl, dbr, dd3⟩ := dp_cons dd2
      obtain rfl := dp_nil dd3
      obtain ⟨ba, bys, rfl, sba, dbs⟩ := dp_tup dbr
      refine r_neT0 (Dq.keep0 kp4 _ _ dw) oks (by omega) he ?_
      walk_at "rd"
      refine r_tt ?_
      refine ⟨_, fun σ' H' h => h, ?_⟩
      walk_at "rd"
      refine r_gtupP (sh.keep0 kp4) rfl ?_
      walk_at "rd"
      refine r_dhas (kp4.at0 hd3) ?_
      walk_at "rd"
      cases hv : valV kvs (.inr c) with
      | none =>
        refine r_tt ?_
        walk_at "rd"
        refine r_newF rfl fun p op np opd => ?_
        refine gen_newT np opd fun H6 kp6 hp => ?_
        refine fin H6 (kp4.trans kp6) _ ?_
        rw [← er, run_u (env_none hv), resD]
        exact .tup hp (.cons (.str _) (.cons (.tup (hca.keep0 (kp4.trans kp6)) (sts _ _)) (.cons (.str c) .nil)))
      | some vv =>
        obtain ⟨i, rfl⟩ := iv _ _ hv
        refine r_ff ?_
        walk_at "rd"
        refine r_newF rfl fun y oy ny oyd => ?_
        refine gen_newT ny oyd fun H5 kp5 hy => ?_
        refine r_catF (hca.keep0 (kp4.trans kp5)) hy (by rw [List.length_map]; show _ + 1 ≤ _; omega) fun cp H6 kp6 scp => ?_
        have scp' : Tm H6 cp ((acc ++ [c]).map V.str) := by
          rw [List.map_append]
          exact scp
        have k36 := (kp4.trans kp5).trans kp6
        walk_at "rd"
        refine r_walkT (sba.keep0 k36).sq ?_
        intro D nD
        refine lc_tup (K := K) (a := ba) (xs := bys) (PvL D (fun j acc H' => DqAll K H' acc ((below (bs.take j) i).map fun z => z.2.d) ∧ Kp [] H6 H')) ⟨[], upd_same, Nat.le_refl _, .nil, Kp.new nD⟩ (fun j H9 hj ⟨acc, ea, la, dacc, kp9⟩ => ((sba.keep0 k36).keep0 kp9).sq) (fun j x H9 hx ⟨acc2, ea, la, dacc, kp9⟩ => ?_) (fun H9 ⟨acc2, ea, la, dacc, kp9⟩ => ?_)
        · rw [brd_eq] at dbs
          obtain ⟨dd, hdd, dx⟩ := DqAll.at dbs hx
          rw [List.getElem?_map] at hdd
          obtain ⟨z, hz, rfl⟩ : ∃ z, bs[j]? = some z ∧ dd = .tuple [.int z.1, z.2.d] := by
            cases e : bs[j]? with
            | none => rw [e] at hdd; cases hdd
            | some z => rw [e] at hdd; exact ⟨z, rfl, (Option.some.inj hdd).symm⟩
          have hj : j < bs.length := (List.getElem?_eq_some_iff.mp hz).1
          obtain ⟨xa, _, rfl, sx, dd5⟩ := dp_tup dx
          obtain ⟨v5, _, rfl, dv, dd6⟩ := dp_cons dd5
          obtain rfl := dp_int dv
          obtain ⟨w5, _, rfl, dw5, dd7⟩ := dp_cons dd6
          obtain rfl := dp_nil dd7
          have k39 := k36.trans kp9
          refine r_gtupP (sx.keep0 k39) rfl ?_
          walk_at "rd"
          have hd9 : H9 d = some (.dK kvs) := k39.at0 hd3
          refine r_dat hd9 hv ?_
          walk_at "rd"
          have bnl : noLs ((below (bs.take j) i).map fun z => z.2.d) = true := by
            refine noLs_mem fun d hd => ?_
            obtain ⟨y, hy, rfl⟩ := List.mem_map.mp hd
            exact (hsub y (List.mem_of_mem_take (List.mem_filter.mp hy).1)).noL
          have e1 : below (bs.take (j + 1)) i = below (bs.take j) i ++ if z.1 = i then [z] else [] := by
            rw [List.take_add_one, hz, below, List.filter_append]
            show _ ++ List.filter _ [z] = _
            by_cases h : z.1 = i
            · rw [if_pos h]
              simp [h]
              rfl
            · rw [if_neg h]
              simp [h]
              rfl
          have muD : Mu H9 [D] := Mu.lst ea
          refine r_ite (fun hq => ?_) (fun hq => ?_)
          · have hz1 : z.1 = i := by
              injection hq
            walk_at "rd"
            refine PvL.step ea la (by omega) ⟨?_, kp9.new0 nD⟩
            rw [e1, if_pos hz1, List.map_append]
            exact DqAll.append (DqAll.keepS Kp.put muD _ _ bnl dacc) (.cons (Dq.keepS Kp.put muD _ _ (hsub z (List.mem_of_getElem? hz)).noL (Dq.keep0 k39 _ _ dw5)) .nil)
          · refine PvL.skip ea la ⟨?_, kp9⟩
            rw [e1, if_neg (fun h => hq (by rw [h])), List.append_nil]
            exact dacc
        · have lby : bys.length = bs.length := by rw [dqAll_len dbs, brd_eq, List.length_map]
          rw [List.take_of_length_le (by omega)] at dacc
          walk_at "rd"
          refine r_new rfl (fun e4 ne4 => ?_)
          refine gen_new ne4 fun H10 kp10 he4 => ?_
          have bsub : ∀ z ∈ below bs i, Okt m1 cs2 z.2 := fun z hz => hsub z (List.mem_filter.mp hz).1
          have sh : shp (.list ((below bs i).map fun z => z.2.d)) = true := by
            rw [shp]
            refine shps_mem fun d hd => ?_
            obtain ⟨z, hz, rfl⟩ := List.mem_map.mp hd
            exact (bsub z hz).shp fun x hx => hc' x (hs1 x hx)
          have sd : (PyData.list ((below bs i).map fun z => z.2.d)).depth ≤ 64 := by
            rw [PyData.depth]
            have := depth_mem (ds := (below bs i).map fun z => z.2.d) (n := 3 * m1 + 1) fun d hd => by
              obtain ⟨z, hz, rfl⟩ := List.mem_map.mp hd
              exact (bsub z hz).depth
            omega
          refine r_eqL0 (.lst (.inl (.inl (kp10.at0 ea))) (DqAll.keep0 kp10 _ _ dacc)) sh sd he4 ?_
          walk_at "rd"
          cases hb : below bs i with
          | nil =>
            refine r_tt ?_
            walk_at "rd"
            refine r_newF rfl fun p op np opd => ?_
            refine gen_newT np opd fun H11 kp11 hp => ?_
            refine fin H11 (((k36.trans kp9).trans kp10).trans kp11) _ ?_
            rw [← er, run_o (env_some hv) (by rw [below_look, hb]; rfl), resD]
            exact .tup hp (.cons (.str _) (.cons (.tup (scp'.keep0 ((kp9.trans kp10).trans kp11)) (sts _ _)) (.cons (.str c) .nil)))
          | cons z r =>
            rw [hb, List.map_cons] at dacc
            obtain ⟨w', rest, rfl, dw', _⟩ := dp_cons dacc
            have hzb : z ∈ below bs i := by rw [hb]; exact List.mem_cons_self ..
            refine r_ff ?_
            walk_at "rd"
            refine r_ixLh (kp10.at0 ea) (atI_nat (j := 0) rfl) ?_
            walk_at "rd"
            refine ⟨m1, Nat.lt_succ_self _, w', cp, z.2, acc ++ [c], cs2, _, _, _, _, _, rfl, Dq.keep0 kp10 _ _ dw', bsub z hzb, fun x hx => hc' x (hs1 x hx), by rw [List.length_append, List.length_singleton]; omega, scp'.keep0 (kp9.trans kp10), ((k36.trans kp9).trans kp10).at0 hd3, kp3.trans ((k36.trans kp9).trans kp10), ?_⟩
            rw [← er, run_g (env_some hv) (by rw [below_look, hb]; rfl)]
end
end L2.Ro

end
section
set_option Elab.async false
set_option linter.all false
set_option maxRecDepth 100000
set_option maxHeartbeats 4000000
local macro_rules | `(tactic| walk_at "rd1") => `(tactic| with_reducible first
  | refine L2.Rx.r_seq ?_ | refine L2.Rx.r_asg ?_ | refine L2.Rx.r_gname ?_ | refine L2.Rx.r_op ?_ | refine L2.Rx.r_c ?_
  | refine L2.Rx.r_var rfl ?_
  | refine L2.Rx.r_rI0 ?_ | refine L2.Rx.r_test ?_ | refine L2.Rx.r_bl ?_ | refine L2.Rx.r_if ?_ | refine L2.Rx.r_ret ?_
  | refine L2.Rx.r_cons ?_ | refine L2.Rx.r_nil ?_ | refine L2.Rx.r_call ?_ | refine L2.Rx.r_cb ?_ | refine L2.Rx.r_next ?_ | refine L2.Rx.r_drop ?_
  | refine L2.Rx.r_gsub ?_ | refine L2.Rx.r_tupF ?_ | refine L2.Rx.r_lst ?_ | refine L2.Rx.r_par ?_ | refine L2.Rx.r_par2 ?_
  | refine L2.Rx.r_un ?_ | refine L2.Rx.r_tb ?_ | refine L2.Rx.r_and ?_ | refine L2.Rx.r_or ?_ | refine L2.Rx.r_not ?_
  | refine L2.Rx.r_andV ?_ | refine L2.Rx.r_orV ?_ | refine L2.Rx.r_notV ?_ | refine L2.Rx.r_ifx ?_ | refine L2.Rx.r_chain ?_
  | refine L2.Rx.r_sl ?_ | refine L2.Rx.r_nopart ?_ | refine L2.Rx.r_part ?_ | refine L2.Rx.r_exint ?_ | refine L2.Rx.r_bm0 ?_ | refine L2.Rx.r_bm ?_
  | refine L2.Rx.r_lc ?_ | refine L2.Rx.r_rng1 ?_ | refine L2.Rx.r_yes ?_ | refine L2.Rx.r_tt ?_ | refine L2.Rx.r_ff ?_ | refine L2.Rx.r_m1 ?_ | refine L2.Rx.r_m0 ?_ | refine L2.Rx.r_isS ?_
  | (refine L2.Rx.r_wipe (by with_unfolding_all rfl) ?_) | (refine L2.Rx.r_tyL (by walk_at "hp") ?_)
  | refine L2.Rx.r_addS (by walk_at "len") ?_ | refine L2.Rx.r_lenS (by walk_at "len") ?_ | refine L2.Rx.r_slS (by walk_at "len") ?_
  | refine L2.Rx.r_dnotin ?_ | refine L2.Rx.r_dget ?_ | refine L2.Rx.r_dget1 ?_ | refine L2.Rx.r_dput ?_ | refine L2.Rx.r_dpop1 ?_ | refine L2.Rx.r_isN ?_
  | refine L2.Rx.r_for ?_ | refine L2.Rx.r_ilist ?_ | refine L2.Rx.r_itup ?_
  | refine L2.Rx.r_gcons ?_ | refine L2.Rx.r_gnil ?_ | (refine L2.Rx.r_gtupP (by assumption) (by walk_at "at") ?_)
  | (refine L2.Rx.r_rEq rfl ?_) | (refine L2.Rx.r_rNe rfl ?_)
  | refine L2.Rx.r_rU ?_ | refine L2.Rx.r_max2 ?_ | refine L2.Rx.r_min2 ?_ | refine L2.Rx.r_int1i ?_ | (refine L2.Rx.r_lenh (by walk_at "hp") ?_)
  | (refine L2.Rx.r_ixLh (by walk_at "hp") (by walk_at "at") ?_)
  | (refine L2.Rx.r_setL (by walk_at "hp") (by walk_at "at") ?_))
local macro_rules | `(tactic| walk_at "at") => `(tactic| with_unfolding_all rfl)
local macro_rules | `(tactic| walk_at "rd") => `(tactic| (repeat walk_at "rd1"))
local macro_rules | `(tactic| walk_at "hp") => `(tactic| first
  | assumption
  | exact L2.upd_same
  | (refine Eq.trans (L2.upd_ne ?_) ?_; (focus walk_at "ne"); (focus walk_at "hp"))
  | (refine L2.Rx.Kp.at0 (by assumption) ?_; walk_at "hp")
  | (refine L2.Rx.Kp.at1 (by assumption) ?_ ?_; (focus walk_at "ne"); (focus walk_at "hp")))
local macro_rules | `(tactic| walk_at "ne") => `(tactic| first
  | assumption | exact Ne.symm (by assumption)
  | (refine L2.ne_of_none (H := ?nH) (o := ?nO) ?nh ?nn; (case nn => assumption); (case nh => walk_at "hp"))
  | (refine Ne.symm (L2.ne_of_none (H := ?nH) (o := ?nO) ?nh ?nn); (case nn => assumption); (case nh => walk_at "hp")))
local macro_rules | `(tactic| walk_at "len") => `(tactic| (rw [PySem.sizeLine_eq]; omega))
local macro_rules | `(tactic| walk_at "nin") => `(tactic| first
  | exact List.not_mem_nil
  | (refine L2.Rx.nin1 ?_; walk_at "ne"))
local macro_rules | `(tactic| walk_at "none") => `(tactic| first
  | assumption
  | (refine L2.Rx.Kp.none0 (by assumption) ?_ ?_; (focus walk_at "nin"); (focus walk_at "none")))
namespace L2.Ro
open PySem PySem.Spec PyProof.Rows L2.Rx
def sp_supplied (K : PySem.W.Frag) : Sp := fun vs H Q _ => ∃ (b nm : Addr) (en : V) (n : Nat) (l : List (Str × Int)) (names : List Str), vs = [.ref b, en, .ref nm] ∧ Box H b (n + 40) ∧ Dq K H en (logD l) ∧ (∀ z ∈ l, Cell z.1) ∧ l.length ≤ 26 ∧ H nm = some (.lst (names.map V.str)) ∧ nm ≠ b ∧ 0 < names.length ∧ names.length ≤ 26 ∧
  ∀ (H' : Hp) (r : V) (l' : List (Str × Int)), Kp [b] H H' → Box H' b n → Dq K H' r (logD l') → Q r H'
def SupI (H : Hp) (b ea nm : Addr) (way : Int) (m k : Nat) (need : List Str) (σ : St) (H' : Hp) : Prop := ∃ (d : Addr) (es : List (Str × Int)) (x : Option V), σ = [some (.ref b), some (.ref ea), some (.ref nm), some (.ref d), some (.int way), x] ∧
  H' d = some (.dK (kvsL es)) ∧ es.length ≤ k ∧ H d = none ∧ Kp [b] H H' ∧ Box H' b m ∧ ∀ x ∈ need, x ∈ es.map Prod.fst
section
variable {P : Program} {w : World} {K : PySem.W.Frag} {mg : Str → Option Value} {base : Heap}
theorem k_supplied {f : Addr} {fd : FuncData} (F : Fun K "_law_supplied" "_law_supplied" s_supplied f fd) (g : mg "_law_supplied" = some (.ref f)) (z : Zb mg) (k_take : Kn P w K mg base CX0 1 "_law_take" sp_take) (k_of : Kn P w K mg base CX0 2 "_law_of" (sp_of K))  : Kn P w K mg base CX0 3 "_law_supplied" (sp_supplied K) := by
  refine ⟨f, fd, ["_law_box_here", "_law_entry", "_law_names"], fnG_body F sc_supplied (fun vs H Q E h => ?_) (fun cdv A outer s H vs Q E hr h => ?_), g, F.kp, F.binds (fun _ _ _ _ _ _ us hl => match us, hl with | [_, _, _], _ => rfl)⟩
  · obtain ⟨b, nm, en, n, l, names, rfl, _⟩ := h
    rfl
  · obtain ⟨b, nm, en, n, l, names, rfl, B, de, hl, l26, hnm, nmb, n0, n26, q⟩ := h
    refine ⟨_, PSs.nox (pss_cons (ps_asg (pe_tupF (pa_cons (pe_callTy (show CallR _ _ (rDictP K) from (c_dictP rfl)) (by rfl) z.n_dict (by decide +kernel) (pa_cons (pe_callTy (show CallR _ _ (rListOf K) from c_list) (by rfl) z.n_list (by decide +kernel) (pa_cons (pv 1) pa_nil)) pa_nil)) (pa_cons (k_take.call hr (by decide) (by rfl) (pa_cons (pv 0) (pa_cons pe_int pa_nil))) pa_nil))) (show PG _ _ (gTup K 2 _) from pg_tup rfl (pgs_cons (pg_name (i := 3) sc_supplied.nd rfl (.inr rfl)) (pgs_cons (pg_name (i := 4) sc_supplied.nd rfl (.inl rfl)) pgs_nil))))
      (pss_cons (ps_if (PW.pt (pw_and (pt_cmpR op_eq (pv 4) pe_int (nomark _)) (pw_and1 (pt_cmpR (show OpR _ _ (rNeD K) from (op_neD hr.units)) (pv 1) (pe_tupF pa_nil) (nomark _)))))
        (pss_one (ps_dput hr.hu (pv 3) (pe_ix (show IxR _ (rIx K) from ix_seq) (k_of.call hr (by decide) (by rfl) (pa_cons (pv 0) (pa_cons (pv 1) pa_nil))) pe_int (fun _ _ => rfl)) (k_of.call hr (by decide) (by rfl) (pa_cons (pv 0) (pa_cons (pe_lst (pa_cons pe_int (pa_cons pe_int (pa_cons (pe_op op_pow pe_int pe_int) (pa_cons (k_take.call hr (by decide) (by rfl) (pa_cons (pv 0) (pa_cons (pe_op op_pow pe_int pe_int) pa_nil))) pa_nil))))) pa_nil))) rfl))
        pss_nil)
      (pss_cons (ps_if (PW.pt (pw_and (pt_cmpR op_eq (pv 4) pe_int (nomark _)) (pw_and1 (pt_cmpR (show OpR _ _ (rNeD K) from (op_neD hr.units)) (pv 1) (pe_tupF pa_nil) (nomark _)))))
        (pss_one (ps_expr (pe_dpop1 (pv 3) (pe_ix (show IxR _ (rIx K) from ix_seq) (k_of.call hr (by decide) (by rfl) (pa_cons (pv 0) (pa_cons (pv 1) pa_nil))) pe_int (fun _ _ => rfl)) ms_1)))
        pss_nil)
      (pss_cons (ps_if (pt_cmpR op_gt (pv 4) pe_int (nomark _))
        (pss_one (ps_dput hr.hu (pv 3) (k_of.call hr (by decide) (by rfl) (pa_cons (pv 0) (pa_cons (pv 2) pa_nil))) (k_take.call hr (by decide) (by rfl) (pa_cons (pv 0) (pa_cons pe_int pa_nil))) rfl))
        pss_nil)
      (pss_cons (ps_if (pt_cmpR op_eq (pv 4) pe_int (nomark _))
        (pss_one (ps_set (i := 3) sc_supplied.nd rfl (.inr rfl) (pe_callTy (show CallR _ _ (rDictP K) from (c_dictP rfl)) (by rfl) z.n_dict (by decide +kernel) (pa_cons (pe_lc (own := [("_law_name", 5)]) (g := (gName 5)) (by rfl) sc_supplied.nd (show PI _ _ _ (iList K _) from pi_list (pv 2)) (blkOk_by (own := [("_law_name", 5)]) (N := ["_law_box_here", "_law_entry", "_law_names", "_law_values_here", "_law_way", "_law_name"]) (sc := defScope s_supplied) (by decide +kernel)) (fun _ _ _ _ _ => (pg_name (i := 5) sc_supplied.nd rfl (.inl rfl))) (fun _ _ _ _ _ => pts_nil) (fun _ _ _ _ _ => (pe_tupF (pa_cons (pv 5) (pa_cons (k_take.call hr (by decide) (by rfl) (pa_cons (pv 0) (pa_cons pe_int pa_nil))) pa_nil))))) pa_nil))))
        pss_nil)
      (pss_one (ps_ret (pe_callTy (show CallR _ _ (rTupOf K) from c_tuple) (by rfl) z.n_tuple (by decide +kernel) (pa_cons (pe_lc (own := [("_law_name", 5)]) (g := (gName 5)) (by rfl) sc_supplied.nd (show PI _ _ _ (iList K _) from pi_list (pe_callB (show CallR _ _ rSortDS from (c_sortDS rfl)) (by rfl) z.n_sorted (by decide +kernel) (pa_cons (pv 3) pa_nil))) (blkOk_by (own := [("_law_name", 5)]) (N := ["_law_box_here", "_law_entry", "_law_names", "_law_values_here", "_law_way", "_law_name"]) (sc := defScope s_supplied) (by decide +kernel)) (fun _ _ _ _ _ => (pg_name (i := 5) sc_supplied.nd rfl (.inl rfl))) (fun _ _ _ _ _ => pts_nil) (fun _ _ _ _ _ => (pe_tupF (pa_cons (pv 5) (pa_cons (pe_dget hr.hu (pv 3) (pv 5) (fun _ _ => rfl)) pa_nil))))) pa_nil))))))))), ?_⟩
    obtain ⟨ea, eys, rfl, se, des⟩ := dp_tup de
    have leys : eys.length = l.length := by rw [dqAll_len des, List.length_map]
    obtain ⟨eps, rfl, epr⟩ := log_pairs des
    have bad : ∀ {H1 : Hp} {S : List Addr}, Box H1 b 0 → Tm H1 ea (eps.map V.ref) → ea ≠ b := by
      intro H1 S B1 t z
      subst z
      obtain ⟨_, e1⟩ := B1.lst
      obtain ⟨o, e2, _⟩ := t
      rw [e1] at e2
      cases e2
    have eab : ea ≠ b := bad (S := []) (B.mono (by omega)) se
    walk_at "rd"
    refine r_listOf (.inr se.sq) fun f nf => ?_
    refine gen_new nf fun H1 kp1 hf => ?_
    walk_at "rd"
    have epr1 : Paired (fun p kv => SqT K H1 p [kV kv.1, kv.2]) eps (kvsL l) := by
      obtain ⟨ps', e1, e2⟩ := log_pairs (DqAll.keep0 kp1 _ _ des)
      have e3 : eps = ps' := (List.map_inj_right (fun a b h => V.ref.inj h)).mp e1
      rw [e3]
      exact e2
    refine r_dictP (.inl (.inl (.inl hf))) epr1 fun d nd => ?_
    refine gen_new nd fun H2 kp2 hd => ?_
    obtain ⟨es, ee, les, hes⟩ := mergeK_L l []
    rw [show mergeK [] (kvsL l) = kvsL es from ee] at hd
    have les' : es.length ≤ 26 := by simp at les; omega
    have hdn : H d = none := kp1.none0 (by simp) nd
    have k02 := kp1.trans kp2
    walk_at "rd"
    refine ⟨b, n + 39, _, rfl, (B.keep k02).mono (by omega), by decide, by decide, fun H3 way kp3 B3 w0 w1 => ?_⟩
    have dnb : d ≠ b := by
      obtain ⟨_, hb⟩ := B.lst
      exact Ne.symm (ne_of_none hb hdn)
    have hd3 : H3 d = some (.dK (kvsL es)) := kp3.at1 dnb hd
    walk_at "rd"
    refine r_newF rfl fun y oy ny oyd => ?_
    refine gen_newT ny oyd fun H4 kp4 hy => ?_
    iterate 6 walk_at "rd1"
    have k04 : Kp [b] H H4 := ((Kp.to1 k02).trans kp3).trans (Kp.to1 kp4)
    have B4 := B3.keep kp4
    have keepL : ∀ {H' : Hp}, Kp [b] H H' → Tm H' ea (eps.map V.ref) ∧ DqAll K H' (eps.map V.ref) (l.map prD) ∧ H' nm = some (.lst (names.map V.str)) := by
      intro H' k
      have pn : noLs (l.map prD) = true := by
        have := log_noL l
        rw [logD, noL] at this
        exact this
      exact ⟨se.keepM k B.mu, DqAll.keepS k B.mu _ _ pn des, k.at1 nmb hnm⟩
    have ent : ∀ {H' : Hp} {v : V}, DqAll K H' (eps.map V.ref) (l.map prD) → v ∈ eps.map V.ref → ∃ (a : Addr) (z : Str × Int), z ∈ l ∧ v = .ref a ∧ Tm H' a [.str z.1, .int z.2] := by
      intro H' v dq vm
      obtain ⟨dd, hdd, dv⟩ := dq_mem dq vm
      obtain ⟨z, hz, rfl⟩ := List.mem_map.mp hdd
      obtain ⟨a, _, rfl, sa, d1⟩ := dp_tup dv
      obtain ⟨y1, _, rfl, dy1, d2⟩ := dp_cons d1
      obtain rfl := dp_str dy1
      obtain ⟨y2, _, rfl, dy2, d3⟩ := dp_cons d2
      obtain rfl := dp_int dy2
      obtain rfl := dp_nil d3
      exact ⟨a, z, hz, rfl, sa⟩
    refine r_seq ?_
    refine r_cutS (SupI H b ea nm way (n + 35) 27 (l.map Prod.fst)) ?_ ?_
    rotate_left
    · intro nx' hnx
      walk_at "rd"
      refine r_ite (fun hw => ?_) (fun hw => ?_)
      rotate_left
      · walk_at "rd"
        exact hnx _ _ ⟨d, es, _, rfl, kp4.at0 hd3, by omega, hdn, k04, B4.mono (by omega), fun x hx => hes x (.inr hx)⟩
      walk_at "rd"
      refine r_newF rfl fun e oe ne oed => ?_
      refine gen_newT ne oed fun H5 kp5 he => ?_
      have k05 := k04.trans (Kp.to1 kp5)
      obtain ⟨t5, q5, nm5⟩ := keepL k05
      refine r_neT0 (.tup t5 q5) (log_shp hl) (Nat.le_trans (log_depth l) (by decide)) he ?_
      walk_at "rd"
      have hd5 : H5 d = some (.dK (kvsL es)) := kp5.at0 (kp4.at0 hd3)
      have B5 := B4.keep kp5
      refine r_itb (fun hb => ?_) (fun hb => ?_)
      rotate_left
      · walk_at "rd"
        exact hnx _ _ ⟨d, es, _, rfl, hd5, by omega, hdn, k05, B5.mono (by omega), fun x hx => hes x (.inr hx)⟩
      have lpos : 0 < l.length := by
        cases l with
        | nil => cases hb
        | cons z r => exact Nat.succ_pos _
      walk_at "rd"
      refine r_powx (v := 1000000000) (by decide +kernel) (by decide +kernel) ?_
      walk_at "rd"
      refine r_powx (v := 1000000000) (by decide +kernel) (by decide +kernel) ?_
      walk_at "rd"
      refine ⟨b, n + 38, _, rfl, B5.mono (by omega), by decide, by decide, fun H6 u kp6 B6 u0 u1 => ?_⟩
      walk_at "rd"
      refine r_new rfl (fun p np => ?_)
      refine gen_new np fun H7 kp7 hp => ?_
      walk_at "rd"
      have pnb : p ≠ b := by
        obtain ⟨_, hb⟩ := B6.lst
        exact Ne.symm (ne_of_none hb np)
      refine ⟨b, n + 37, _, rfl, (B6.keep kp7).mono (by omega), .inl ⟨p, _, rfl, .inl (.inl (.inl hp)), pnb, Nat.succ_pos _, (by show 4 ≤ 1000000000; decide), fun H8 vv kp8 B8 hv => ?_⟩⟩
      obtain ⟨iv, rfl⟩ : ∃ i : Int, vv = .int i := by
        simp only [List.mem_cons, List.mem_nil_iff, or_false] at hv
        rcases hv with rfl | rfl | rfl | rfl <;> exact ⟨_, rfl⟩
      have k08 := ((k05.trans kp6).trans (Kp.to1 kp7)).trans kp8
      obtain ⟨t8, q8, nm8⟩ := keepL k08
      have hd8 : H8 d = some (.dK (kvsL es)) := kp8.at1 dnb (kp7.at0 (kp6.at1 dnb hd5))
      walk_at "rd"
      refine ⟨b, n + 36, _, rfl, B8.mono (by omega), .inl ⟨ea, _, rfl, .inr t8.sq, eab, by rw [List.length_map] at leys ⊢; omega, by rw [List.length_map] at leys ⊢; omega, fun H9 v kp9 B9 vm => ?_⟩⟩
      obtain ⟨t9, q9, nm9⟩ := keepL (k08.trans kp9)
      obtain ⟨xa, z, hz, rfl, sx⟩ := ent q9 vm
      walk_at "rd"
      refine .inr (.inl (r_ixT sx.sq (by with_unfolding_all rfl) ?_))
      refine r_putL (kp9.at1 dnb hd8) (by omega) ?_
      have pl := putE_len es z.1 iv
      refine hnx _ _ ⟨d, putE es z.1 iv, _, rfl, upd_same, by omega, hdn, (k08.trans kp9).upd1 (.inr hdn), (B9.keepS Kp.put (nin1 (Ne.symm dnb))).mono (by omega), fun x hx => (putE_has es z.1 iv).2 x (hes x (.inr hx))⟩
    rintro σ1 H5 ⟨d, es, x, rfl, hd5, les5, hdn, k05, B5, hes5⟩
    have dnb : d ≠ b := by
      obtain ⟨_, hb⟩ := B.lst
      exact Ne.symm (ne_of_none hb hdn)
    refine r_seq ?_
    refine r_cutS (SupI H b ea nm way (n + 33) 27 []) ?_ ?_
    rotate_left
    · intro nx' hnx
      walk_at "rd"
      refine r_ite (fun hw => ?_) (fun hw => ?_)
      rotate_left
      · walk_at "rd"
        exact hnx _ _ ⟨d, es, _, rfl, hd5, les5, hdn, k05, B5.mono (by omega), fun _ h => nomatch h⟩
      walk_at "rd"
      refine r_newF rfl fun e oe ne oed => ?_
      refine gen_newT ne oed fun H6 kp6 he => ?_
      have k06 := k05.trans (Kp.to1 kp6)
      obtain ⟨t6, q6, nm6⟩ := keepL k06
      refine r_neT0 (.tup t6 q6) (log_shp hl) (Nat.le_trans (log_depth l) (by decide)) he ?_
      walk_at "rd"
      have hd6 := kp6.at0 hd5
      have B6 := B5.keep kp6
      refine r_itb (fun hb => ?_) (fun hb => ?_)
      rotate_left
      · walk_at "rd"
        exact hnx _ _ ⟨d, es, _, rfl, hd6, les5, hdn, k06, B6.mono (by omega), fun _ h => nomatch h⟩
      have lpos : 0 < l.length := by
        cases l with
        | nil => cases hb
        | cons z r => exact Nat.succ_pos _
      walk_at "rd"
      refine r_dref hd6 ?_
      walk_at "rd"
      refine ⟨b, n + 34, _, rfl, B6.mono (by omega), .inl ⟨ea, _, rfl, .inr t6.sq, eab, by rw [List.length_map] at leys ⊢; omega, by rw [List.length_map] at leys ⊢; omega, fun H9 v kp9 B9 vm => ?_⟩⟩
      obtain ⟨t9, q9, nm9⟩ := keepL (k06.trans kp9)
      obtain ⟨xa, z, hz, rfl, sx⟩ := ent q9 vm
      walk_at "rd"
      refine .inr (.inl (r_ixT sx.sq (by with_unfolding_all rfl) ?_))
      refine r_popL (kp9.at1 dnb hd6) (hes5 z.1 (List.mem_map_of_mem hz)) fun pv es' les' => ?_
      walk_at "rd"
      refine hnx _ _ ⟨d, es', _, rfl, upd_same, by omega, hdn, (k06.trans kp9).upd1 (.inr hdn), (B9.keepS Kp.put (nin1 (Ne.symm dnb))).mono (by omega), fun _ h => nomatch h⟩
    rintro σ2 H6 ⟨d, es, x, rfl, hd6, les6, hdn, k06, B6, _⟩
    have dnb : d ≠ b := by
      obtain ⟨_, hb⟩ := B.lst
      exact Ne.symm (ne_of_none hb hdn)
    refine r_seq ?_
    refine r_cutS (SupI H b ea nm way (n + 30) 28 []) ?_ ?_
    rotate_left
    · intro nx' hnx
      walk_at "rd"
      refine r_ite (fun hw => ?_) (fun hw => ?_)
      rotate_left
      · walk_at "rd"
        exact hnx _ _ ⟨d, es, _, rfl, hd6, by omega, hdn, k06, B6.mono (by omega), fun _ h => nomatch h⟩
      walk_at "rd"
      refine ⟨b, n + 32, _, rfl, B6.mono (by omega), by decide, by decide, fun H7 iv kp7 B7 i0 i1 => ?_⟩
      walk_at "rd"
      obtain ⟨t7, q7, nm7⟩ := keepL (k06.trans kp7)
      refine ⟨b, n + 31, _, rfl, B7.mono (by omega), .inl ⟨nm, _, rfl, .inl (.inl (.inl nm7)), nmb, by rw [List.length_map]; omega, by rw [List.length_map]; omega, fun H9 v kp9 B9 vm => ?_⟩⟩
      obtain ⟨c, hc, rfl⟩ := List.mem_map.mp vm
      refine r_putL (kp9.at1 dnb (kp7.at1 dnb hd6)) (by omega) ?_
      have pl := putE_len es c iv
      refine hnx _ _ ⟨d, putE es c iv, _, rfl, upd_same, by omega, hdn, ((k06.trans kp7).trans kp9).upd1 (.inr hdn), (B9.keepS Kp.put (nin1 (Ne.symm dnb))).mono (by omega), fun _ h => nomatch h⟩
    rintro σ3 H7 ⟨d, es, x, rfl, hd7, les7, hdn, k07, B7, _⟩
    refine r_seq ?_
    refine r_cutS (SupI H b ea nm way n 28 []) ?_ ?_
    rotate_left
    · intro nx' hnx
      walk_at "rd"
      refine r_ite (fun hw => ?_) (fun hw => ?_)
      rotate_left
      · walk_at "rd"
        exact hnx _ _ ⟨d, es, _, rfl, hd7, by omega, hdn, k07, B7.mono (by omega), fun _ h => nomatch h⟩
      walk_at "rd"
      obtain ⟨t7, q7, nm7⟩ := keepL k07
      refine r_walkL (.inl (.inl nm7)) ?_
      intro D nD
      have nDb : D ≠ b := by
        obtain ⟨_, hb⟩ := B7.lst
        exact Ne.symm (ne_of_none hb nD)
      have nmD : nm ≠ D := ne_of_none nm7 nD
      refine lc_list (K := K) (a := nm) (xs := names.map V.str) (PvL D (fun j acc H' => ∃ l2 : List (Str × Int), DqAll K H' acc (l2.map prD) ∧ l2.length = j ∧ Kp [b] H7 H' ∧ Box H' b (n + 30 - j))) ⟨[], upd_same, Nat.le_refl _, [], .nil, rfl, Kp.to1 (Kp.new nD), B7.keep (Kp.new nD)⟩ (fun j H9 hj ⟨acc, ea', la, l2, dacc, ll, kp9, B9⟩ => .inl (.inl (kp9.at1 nmb nm7))) (fun j xv H9 hx ⟨acc, ea', la, l2, dacc, ll, kp9, B9⟩ => ?_) (fun H9 ⟨acc, ea', la, l2, dacc, ll, kp9, B9⟩ => ?_)
      · obtain ⟨c, hc, rfl⟩ := List.mem_map.mp (List.mem_of_getElem? hx)
        have hj : j < names.length := by
          have := (List.getElem?_eq_some_iff.mp hx).1
          rw [List.length_map] at this
          exact this
        walk_at "rd"
        refine ⟨b, n + 29 - j, _, rfl, B9.mono (by omega), by decide, by decide, fun H10 iv kp10 B10 i0 i1 => ?_⟩
        walk_at "rd"
        refine r_newF rfl fun y oy ny oyd => ?_
        refine gen_newT ny oyd fun H11 kp11 hy => ?_
        have ea11 := kp11.at0 (kp10.at1 nDb ea')
        have muD : Mu H11 [D] := Mu.lst ea11
        have pn : noLs (l2.map prD) = true := by
          have := log_noL l2
          rw [logD, noL] at this
          exact this
        refine PvL.step ea11 la (by omega) ⟨l2 ++ [(c, iv)], ?_, by rw [List.length_append, ll]; rfl, ((kp9.trans kp10).trans (Kp.to1 kp11)).putNew nD, ?_⟩
        · rw [List.map_append]
          refine DqAll.append (DqAll.keepS Kp.put muD _ _ pn (DqAll.keep0 kp11 _ _ (DqAll.keepS kp10 B9.mu _ _ pn dacc))) (.cons ?_ .nil)
          exact .tup (hy.keepM Kp.put muD) (.cons (.str c) (.cons (.int iv) .nil))
        · exact ((B10.keep kp11).keepS Kp.put (nin1 (Ne.symm nDb))).mono (by omega)
      · walk_at "rd"
        rw [List.length_map] at ll B9
        obtain ⟨ps2, e2, pr2⟩ := log_pairs dacc
        rw [e2] at ea'
        refine r_dictP (.inl (.inl (.inl ea'))) pr2 fun d2 nd2 => ?_
        refine gen_new nd2 fun H10 kp10 hd10 => ?_
        obtain ⟨es2, ee2, les2, hes2⟩ := mergeK_L l2 []
        rw [show mergeK [] (kvsL l2) = kvsL es2 from ee2] at hd10
        walk_at "rd"
        have k09 := k07.trans kp9
        have d2b : d2 ≠ b := by
          obtain ⟨_, hb⟩ := B9.lst
          exact Ne.symm (ne_of_none hb nd2)
        refine hnx _ _ ⟨d2, es2, _, rfl, hd10, by simp at les2; omega, k09.none0 (nin1 d2b) nd2, k09.trans (Kp.to1 kp10), (B9.keep kp10).mono (by omega), fun _ h => nomatch h⟩
    rintro σ4 H8 ⟨d, es, x, rfl, hd8, les8, hdn, k08, B8, _⟩
    walk_at "rd"
    refine r_sortDS hd8 (by omega) fun ks p pm np => ?_
    refine gen_new np fun H9 kp9 hp => ?_
    walk_at "rd"
    refine r_walkL (.inl (.inl hp)) ?_
    intro D nD
    have hd9 := kp9.at0 hd8
    refine lc_list (K := K) (a := p) (xs := ks.map V.str) (PvL D (fun j acc H' => ∃ l2 : List (Str × Int), DqAll K H' acc (l2.map prD) ∧ Kp [] H9 H')) ⟨[], upd_same, Nat.le_refl _, [], .nil, Kp.new nD⟩ (fun j H10 hj ⟨acc, ea', la, l2, dacc, kp10⟩ => .inl (.inl (kp10.at0 hp))) (fun j xv H10 hx ⟨acc, ea', la, l2, dacc, kp10⟩ => ?_) (fun H10 ⟨acc, ea', la, l2, dacc, kp10⟩ => ?_)
    · obtain ⟨c, hc, rfl⟩ := List.mem_map.mp (List.mem_of_getElem? hx)
      have hj : j < ks.length := by
        have := (List.getElem?_eq_some_iff.mp hx).1
        rw [List.length_map] at this
        exact this
      have lks : ks.length ≤ 28 := by
        rw [pm.length_eq, List.length_map]
        exact les8
      obtain ⟨iv, hiv⟩ := valV_L (pm.mem_iff.mp hc)
      walk_at "rd"
      refine r_dat (kp10.at0 hd9) hiv ?_
      walk_at "rd"
      refine r_newF rfl fun y oy ny oyd => ?_
      refine gen_newT ny oyd fun H11 kp11 hy => ?_
      have ea11 := kp11.at0 ea'
      have muD : Mu H11 [D] := Mu.lst ea11
      have pn : noLs (l2.map prD) = true := by
        have := log_noL l2
        rw [logD, noL] at this
        exact this
      refine PvL.step ea11 la (by omega) ⟨l2 ++ [(c, iv)], ?_, (kp10.trans kp11).new0 nD⟩
      rw [List.map_append]
      refine DqAll.append (DqAll.keepS Kp.put muD _ _ pn (DqAll.keep0 kp11 _ _ dacc)) (.cons ?_ .nil)
      exact .tup (hy.keepM Kp.put muD) (.cons (.str c) (.cons (.int iv) .nil))
    · walk_at "rd"
      refine r_tupL ea' fun r H11 nr kp11 hr11 => ?_
      refine q H11 _ l2 (k08.trans (Kp.to1 ((kp9.trans kp10).trans kp11))) (((B8.keep kp9).keep kp10).keep kp11) ?_
      rw [logD]
      exact .tup hr11 (DqAll.keep0 kp11 _ _ dacc)
end
end L2.Ro

end
section
set_option Elab.async false
set_option linter.all false
set_option maxRecDepth 100000
set_option maxHeartbeats 4000000
local macro_rules | `(tactic| walk_at "rd1") => `(tactic| with_reducible first
  | refine L2.Rx.r_seq ?_ | refine L2.Rx.r_asg ?_ | refine L2.Rx.r_gname ?_ | refine L2.Rx.r_op ?_ | refine L2.Rx.r_c ?_
  | refine L2.Rx.r_var rfl ?_
  | refine L2.Rx.r_rI0 ?_ | refine L2.Rx.r_test ?_ | refine L2.Rx.r_bl ?_ | refine L2.Rx.r_if ?_ | refine L2.Rx.r_ret ?_
  | refine L2.Rx.r_cons ?_ | refine L2.Rx.r_nil ?_ | refine L2.Rx.r_call ?_ | refine L2.Rx.r_cb ?_ | refine L2.Rx.r_next ?_ | refine L2.Rx.r_drop ?_
  | refine L2.Rx.r_gsub ?_ | refine L2.Rx.r_tupF ?_ | refine L2.Rx.r_lst ?_ | refine L2.Rx.r_par ?_ | refine L2.Rx.r_par2 ?_
  | refine L2.Rx.r_un ?_ | refine L2.Rx.r_tb ?_ | refine L2.Rx.r_and ?_ | refine L2.Rx.r_or ?_ | refine L2.Rx.r_not ?_
  | refine L2.Rx.r_andV ?_ | refine L2.Rx.r_orV ?_ | refine L2.Rx.r_notV ?_ | refine L2.Rx.r_ifx ?_ | refine L2.Rx.r_chain ?_
  | refine L2.Rx.r_sl ?_ | refine L2.Rx.r_nopart ?_ | refine L2.Rx.r_part ?_ | refine L2.Rx.r_exint ?_ | refine L2.Rx.r_bm0 ?_ | refine L2.Rx.r_bm ?_
  | refine L2.Rx.r_lc ?_ | refine L2.Rx.r_rng1 ?_ | refine L2.Rx.r_yes ?_ | refine L2.Rx.r_tt ?_ | refine L2.Rx.r_ff ?_ | refine L2.Rx.r_m1 ?_ | refine L2.Rx.r_m0 ?_ | refine L2.Rx.r_isS ?_
  | (refine L2.Rx.r_wipe (by with_unfolding_all rfl) ?_) | (refine L2.Rx.r_tyL (by walk_at "hp") ?_)
  | refine L2.Rx.r_addS (by walk_at "len") ?_ | refine L2.Rx.r_lenS (by walk_at "len") ?_ | refine L2.Rx.r_slS (by walk_at "len") ?_
  | refine L2.Rx.r_dnotin ?_ | refine L2.Rx.r_dget ?_ | refine L2.Rx.r_dget1 ?_ | refine L2.Rx.r_dput ?_ | refine L2.Rx.r_dpop1 ?_ | refine L2.Rx.r_isN ?_
  | refine L2.Rx.r_for ?_ | refine L2.Rx.r_ilist ?_ | refine L2.Rx.r_itup ?_
  | refine L2.Rx.r_gcons ?_ | refine L2.Rx.r_gnil ?_ | (refine L2.Rx.r_gtupP (by assumption) (by walk_at "at") ?_)
  | (refine L2.Rx.r_rEq rfl ?_) | (refine L2.Rx.r_rNe rfl ?_)
  | refine L2.Rx.r_rU ?_ | refine L2.Rx.r_max2 ?_ | refine L2.Rx.r_min2 ?_ | refine L2.Rx.r_int1i ?_ | (refine L2.Rx.r_lenh (by walk_at "hp") ?_)
  | (refine L2.Rx.r_ixLh (by walk_at "hp") (by walk_at "at") ?_)
  | (refine L2.Rx.r_setL (by walk_at "hp") (by walk_at "at") ?_))
local macro_rules | `(tactic| walk_at "at") => `(tactic| with_unfolding_all rfl)
local macro_rules | `(tactic| walk_at "rd") => `(tactic| (repeat walk_at "rd1"))
local macro_rules | `(tactic| walk_at "hp") => `(tactic| first
  | assumption
  | exact L2.upd_same
  | (refine Eq.trans (L2.upd_ne ?_) ?_; (focus walk_at "ne"); (focus walk_at "hp"))
  | (refine L2.Rx.Kp.at0 (by assumption) ?_; walk_at "hp")
  | (refine L2.Rx.Kp.at1 (by assumption) ?_ ?_; (focus walk_at "ne"); (focus walk_at "hp")))
local macro_rules | `(tactic| walk_at "ne") => `(tactic| first
  | assumption | exact Ne.symm (by assumption)
  | (refine L2.ne_of_none (H := ?nH) (o := ?nO) ?nh ?nn; (case nn => assumption); (case nh => walk_at "hp"))
  | (refine Ne.symm (L2.ne_of_none (H := ?nH) (o := ?nO) ?nh ?nn); (case nn => assumption); (case nh => walk_at "hp")))
local macro_rules | `(tactic| walk_at "len") => `(tactic| (rw [PySem.sizeLine_eq]; omega))
local macro_rules | `(tactic| walk_at "nin") => `(tactic| first
  | exact List.not_mem_nil
  | (refine L2.Rx.nin1 ?_; walk_at "ne"))
local macro_rules | `(tactic| walk_at "none") => `(tactic| first
  | assumption
  | (refine L2.Rx.Kp.none0 (by assumption) ?_ ?_; (focus walk_at "nin"); (focus walk_at "none")))
namespace L2.Ro
open PySem PySem.Spec PyProof.Rows L2.Rx
def sp_right (K : PySem.W.Frag) : Sp := fun vs H Q _ => ∃ (b nm : Addr) (v : V) (t : Tr) (m n : Nat) (names : List Str), vs = [.ref b, v, .ref nm] ∧ Box H b (m + 400) ∧ Dq K H v t.d ∧ Okt n names t ∧ Cells names ∧ n ≤ 6 ∧ H nm = some (.lst (names.map V.str)) ∧ nm ≠ b ∧ 0 < names.length ∧ names.length ≤ 26 ∧
  ∀ (H' : Hp), Kp [b] H H' → Box H' b m → Q (.bl true) H'
section
variable {P : Program} {w : World} {K : PySem.W.Frag} {mg : Str → Option Value} {base : Heap}
theorem k_right {f : Addr} {fd : FuncData} (F : Fun K "_law_right" "_law_right" s_right f fd) (g : mg "_law_right" = some (.ref f)) (z : Zb mg) (k_of : Kn P w K mg base CX0 2 "_law_of" (sp_of K)) (k_leaves : Kn P w K mg base CX0 1 "_law_leaves" (sp_leaves K)) (k_follow : Kn P w K mg base CX0 1 "follow" (sp_follow K)) (k_follow_known_reader : KnK P w K mg base CX0 1 "follow" ["known", "reader"] swap2 (sp_follow K)) (k_due : Kn P w K mg base CX0 1 "_law_due" (sp_due K)) (k_supplied : Kn P w K mg base CX0 3 "_law_supplied" (sp_supplied K))  : Kn P w K mg base CX0 4 "_law_right" (sp_right K) := by
  refine ⟨f, fd, ["_law_box_here", "_law_tree_here", "_law_names"], fnG_body F sc_right (fun vs H Q E h => ?_) (fun cdv A outer s H vs Q E hr h => ?_), g, F.kp, F.binds (fun _ _ _ _ _ _ us hl => match us, hl with | [_, _, _], _ => rfl)⟩
  · obtain ⟨b, nm, v, t, m, n, names, rfl, _⟩ := h
    rfl
  · obtain ⟨b, nm, v, t, m, n, names, rfl, B, dt, ok, hc, n6, hnm, nmb, l0, l26, q⟩ := h
    refine ⟨_, PSs.nox (pss_cons (ps_set (i := 3) sc_right.nd rfl (.inl rfl) (pe_callB (show CallR _ _ (rRepr K) from (call_repr hr)) (by rfl) z.n_repr (by decide +kernel) (pa_cons (pv 1) pa_nil)))
      (pss_cons (ps_for PassesOwn.never rfl (show PI _ _ _ (iTup K _) from pi_tup (k_leaves.call hr (by decide) (by rfl) (pa_cons (pv 1) pa_nil))) (pg_name (i := 4) sc_right.nd rfl (.inl rfl))
        (pss_cons (ps_set (i := 5) sc_right.nd rfl (.inl rfl) (k_follow.call hr (by decide) (by rfl) (pa_cons (pv 1) (pa_cons (pv 4) pa_nil))))
        (pss_one (ps_if (PW.pt (pw_or (pt_cmpR op_ne (pe_ix (show IxR _ (rIxT K) from ix_tup) (pv 5) pe_int (fun _ _ => rfl)) pe_str (nomark _)) (pw_or1 (pt_cmpR (show OpR _ _ (rNeD K) from (op_neD hr.units)) (pe_callB (show CallR _ _ (rSortV K) from (call_sortV hr)) (by rfl) z.n_sorted (by decide +kernel) (pa_cons (pe_ix (show IxR _ (rIxT K) from ix_tup) (pv 5) pe_int (fun _ _ => rfl)) pa_nil)) (pe_lc (own := [("_law_name", 8), ("_law_value", 9)]) (g := (gTup K 2 (gCons (gName 8) (gCons (gName 9) gNil)))) (by rfl) sc_right.nd (show PI _ _ _ (iTup K _) from pi_tup (pv 4)) (blkOk_by (own := [("_law_name", 8), ("_law_value", 9)]) (N := ["_law_box_here", "_law_tree_here", "_law_names", "_law_text", "_law_entry", "_law_found", "_law_turn", "_law_due_here", "_law_name", "_law_value"]) (sc := defScope s_right) (by decide +kernel)) (fun _ _ _ _ _ => (show PG _ _ (gTup K 2 (gCons (gName 8) (gCons (gName 9) gNil))) from pg_tup rfl (pgs_cons (pg_name (i := 8) sc_right.nd rfl (.inl rfl)) (pgs_cons (pg_name (i := 9) sc_right.nd rfl (.inl rfl)) pgs_nil)))) (fun _ _ _ _ _ => pts_nil) (fun _ _ _ _ _ => (pv 8))) (nomark _)))))
          (pss_one (ps_ret pe_bl))
          pss_nil))))
      (pss_cons (ps_for PassesOwn.never rfl (pi_range1 rfl z.n_range (pa_cons pe_int pa_nil)) (pg_name (i := 6) sc_right.nd rfl (.inl rfl))
        (pss_cons (ps_set (i := 4) sc_right.nd rfl (.inl rfl) (k_supplied.call hr (by decide) (by rfl) (pa_cons (pv 0) (pa_cons (k_of.call hr (by decide) (by rfl) (pa_cons (pv 0) (pa_cons (k_leaves.call hr (by decide) (by rfl) (pa_cons (pv 1) pa_nil)) pa_nil))) (pa_cons (pv 2) pa_nil)))))
        (pss_cons (ps_set (i := 7) sc_right.nd rfl (.inl rfl) (pe_callB (show CallR _ _ (rRepr K) from (call_repr hr)) (by rfl) z.n_repr (by decide +kernel) (pa_cons (k_due.call hr (by decide) (by rfl) (pa_cons (pv 1) (pa_cons (pe_callTy (show CallR _ _ (rDictP K) from (c_dictP rfl)) (by rfl) z.n_dict (by decide +kernel) (pa_cons (pe_callTy (show CallR _ _ (rListOf K) from c_list) (by rfl) z.n_list (by decide +kernel) (pa_cons (pv 4) pa_nil)) pa_nil)) pa_nil))) pa_nil)))
        (pss_one (ps_if (PW.pt (pw_or (pt_cmpR op_ne (pe_callB (show CallR _ _ (rRepr K) from (call_repr hr)) (by rfl) z.n_repr (by decide +kernel) (pa_cons (k_follow.call hr (by decide) (by rfl) (pa_cons (pv 1) (pa_cons (pv 4) pa_nil))) pa_nil)) (pv 7) (nomark _)) (pw_or1 (pt_cmpR op_ne (pe_callB (show CallR _ _ (rRepr K) from (call_repr hr)) (by rfl) z.n_repr (by decide +kernel) (pa_cons (k_follow_known_reader.call hr (by decide) (by rfl) (pk_cons (pv 4) (pk_cons (pv 1) pk_nil))) pa_nil)) (pv 7) (nomark _)))))
          (pss_one (ps_ret pe_bl))
          pss_nil)))))
      (pss_one (ps_ret (pe_and (pe_cmpR op_eq (pe_callB (show CallR _ _ (rRepr K) from (call_repr hr)) (by rfl) z.n_repr (by decide +kernel) (pa_cons (k_follow.call hr (by decide) (by rfl) (pa_cons (pv 1) (pa_cons (pe_tupF pa_nil) pa_nil))) pa_nil)) (pe_callB (show CallR _ _ (rRepr K) from (call_repr hr)) (by rfl) z.n_repr (by decide +kernel) (pa_cons (k_due.call hr (by decide) (by rfl) (pa_cons (pv 1) (pa_cons pe_dnewK pa_nil))) pa_nil)) (nomark _)) (pe_one (pe_cmpR op_eq (pe_callB (show CallR _ _ (rRepr K) from (call_repr hr)) (by rfl) z.n_repr (by decide +kernel) (pa_cons (pv 1) pa_nil)) (pv 3) (nomark _))))))))), ?_⟩
    have hcs := hc.2
    have tf := ok.fine hcs
    have td : t.d.depth ≤ 60 := by
      have := ok.depth
      omega
    have tw : t.d.weight ≤ 2 ^ 20 := Nat.le_trans (ok.weight hcs) (wTree_le n n6)
    have tn := ok.noL
    have rf := fun env => res_fine (run_ok env n [] 6 ok hcs (fun _ h => nomatch h) (by simp; exact n6)) (by decide)
    walk_at "rd"
    refine r_repr dt tf td tw ?_
    generalize et : t.d.shown = text
    walk_at "rd"
    refine ⟨v, t, n, names, rfl, dt, ok, hcs, n6, fun H1 lp lys zs kp1 tl dz pm ro pw => ?_⟩
    have zok : ∀ z ∈ zs, z.2 ∈ t.paths ∧ (z.1.map Prod.fst).Nodup ∧ (∀ y ∈ z.1, Cell y.1) ∧ z.1.length ≤ 6 := by
      intro z hz
      have h1 : z.2 ∈ t.paths := pm.mem_iff.mp (List.mem_map_of_mem hz)
      obtain ⟨a, b', c⟩ := path_names ok z.2 h1
      have hp := (ro z hz).1
      exact ⟨h1, (hp.map Prod.fst).nodup_iff.mpr a, fun y hy => hcs _ (b' _ ((hp.map Prod.fst).mem_iff.mp (List.mem_map_of_mem hy))), by rw [hp.length_eq]; omega⟩
    refine r_walkT tl.sq ?_
    refine for_tup (K := K) (a := lp) (xs := lys) (fun i σ' H' => ∃ (x4 x5 x6 x7 x8 x9 : Option V), σ' = [some (.ref b), some v, some (.ref nm), some (.str text), x4, x5, x6, x7, x8, x9] ∧ Kp [] H1 H') ⟨_, _, _, _, _, _, rfl, Kp.refl⟩ (fun i σ' H' hi ⟨x4, x5, x6, x7, x8, x9, _, k⟩ => (tl.keep0 k).sq) ?_ ?_
    · rintro i x σ' H2 hx ⟨x4, x5, x6, x7, x8, x9, rfl, kp2⟩
      obtain ⟨d, hd, dx⟩ := DqAll.at dz hx
      rw [List.getElem?_map] at hd
      obtain ⟨z, hz, rfl⟩ : ∃ z, zs[i]? = some z ∧ d = logD z.1 := by
        cases e : zs[i]? with
        | none => rw [e] at hd; cases hd
        | some z => rw [e] at hd; exact ⟨z, rfl, (Option.some.inj hd).symm⟩
      have hzm := List.mem_of_getElem? hz
      obtain ⟨z1, z2, z3, z4⟩ := zok z hzm
      obtain ⟨rp, rw'⟩ := ro z hzm
      have dx2 := Dq.keep0 kp2 _ _ dx
      have dt2 := Dq.keep0 (kp1.trans kp2) _ _ dt
      walk_at "rd"
      refine ⟨v, x, t, n, names, z.1, rfl, dt2, ok, hcs, n6, dx2, fun H3 r kp3 dr => ?_⟩
      rw [path_run _ n [] ok z1 (fun y hy => env_log z2 y (rp.mem_iff.mpr hy)), List.nil_append] at dr
      obtain ⟨ra, _, rfl, sr, d1⟩ := dp_tup dr
      obtain ⟨r1, _, rfl, dr1, d2⟩ := dp_cons d1
      obtain rfl := dp_str dr1
      obtain ⟨r2, _, rfl, dr2, d3⟩ := dp_cons d2
      obtain ⟨r3, _, rfl, dr3, d4⟩ := dp_cons d3
      obtain rfl := dp_nil d4
      obtain ⟨r2a, r2s, rfl, sr2, dr2s⟩ := dp_tup dr2
      obtain rfl := dq_strs dr2s
      walk_at "rd"
      refine r_ixT sr.sq (by with_unfolding_all rfl) ?_
      walk_at "rd"
      refine r_itn (fun h => absurd rfl h) (fun _ => ?_)
      walk_at "rd"
      refine r_ixT sr.sq (by with_unfolding_all rfl) ?_
      walk_at "rd"
      refine r_sortS (.inr sr2.sq) fun p ms pm2 pw2 np => ?_
      refine gen_new np fun H4 kp4 hp => ?_
      obtain ⟨xa, exs, rfl, sx, dxs⟩ := dp_log dx2
      walk_at "rd"
      refine r_walkT (sx.keep0 (kp3.trans kp4)).sq ?_
      intro D nD
      refine lc_tup (K := K) (a := xa) (xs := exs) (PvL D (fun j acc H' => acc = (z.1.take j).map (fun y => V.str y.1) ∧ Kp [] H4 H')) ⟨[], upd_same, Nat.le_refl _, rfl, Kp.new nD⟩ (fun j H9 hj ⟨acc, ea, la, eacc, kp9⟩ => (sx.keep0 ((kp3.trans kp4).trans kp9)).sq) (fun j y H9 hy ⟨acc, ea, la, eacc, kp9⟩ => ?_) (fun H9 ⟨acc, ea, la, eacc, kp9⟩ => ?_)
      · obtain ⟨dd, hdd, dy⟩ := DqAll.at dxs hy
        rw [List.getElem?_map] at hdd
        obtain ⟨u, hu, rfl⟩ : ∃ u, z.1[j]? = some u ∧ dd = prD u := by
          cases e : z.1[j]? with
          | none => rw [e] at hdd; cases hdd
          | some u => rw [e] at hdd; exact ⟨u, rfl, (Option.some.inj hdd).symm⟩
        have hj : j < z.1.length := (List.getElem?_eq_some_iff.mp hu).1
        obtain ⟨ya, _, rfl, sy, e1⟩ := dp_tup dy
        obtain ⟨y1, _, rfl, dy1, e2⟩ := dp_cons e1
        obtain rfl := dp_str dy1
        obtain ⟨y2, _, rfl, dy2, e3⟩ := dp_cons e2
        obtain rfl := dp_nil e3
        refine r_gtupP (sy.keep0 ((kp3.trans kp4).trans kp9)) rfl ?_
        walk_at "rd"
        refine PvL.step ea la (by omega) ⟨?_, kp9.new0 nD⟩
        rw [List.take_add_one, hu, List.map_append, eacc]
        rfl
      · have lex : exs.length = z.1.length := by rw [dqAll_len dxs, List.length_map]
        rw [List.take_of_length_le (by omega)] at eacc
        have es : ms = z.1.map Prod.fst := sorted_same (pm2.trans (rp.map Prod.fst).symm) pw2 (names_up z2 rw')
        have e2 : acc = (z.1.map Prod.fst).map V.str := by rw [eacc, List.map_map]; rfl
        rw [es] at hp
        have cz : shp (.list ((z.1.map Prod.fst).map PyData.str)) = true := Cells.shps ⟨z2, fun c hc' => by
          obtain ⟨y, hy, rfl⟩ := List.mem_map.mp hc'
          exact z3 y hy⟩
        refine r_neSame (.lst (.inl (.inl (kp9.at0 hp))) (dqAll_strs _)) (.lst (.inl (.inl (ea.trans (by rw [e2])))) (dqAll_strs _)) cz (Nat.le_trans (depth_strs _) (by decide)) ?_
        walk_at "rd"
        refine r_ff ?_
        walk_at "rd"
        exact ⟨_, _, _, _, _, _, rfl, ((kp2.trans kp3).trans kp4).trans kp9⟩
    rintro σ' H2 ⟨x4, x5, x6, x7, x8, x9, rfl, kp2⟩
    walk_at "rd"
    refine r_rngv (by decide) (by decide) ?_
    have k02 : Kp [b] H H2 := Kp.to1 (kp1.trans kp2)
    have keepT : ∀ {H' : Hp}, Kp [b] H H' → Dq K H' v t.d ∧ H' nm = some (.lst (names.map V.str)) := fun k => ⟨Dq.keepS k B.mu _ _ tn dt, k.at1 nmb hnm⟩
    refine for_range (lo := 0) (n := 8) (fun i σ' H' => ∃ (x4 x5 x6 x7 x8 x9 : Option V), σ' = [some (.ref b), some v, some (.ref nm), some (.str text), x4, x5, x6, x7, x8, x9] ∧ Kp [b] H H' ∧ Box H' b (m + 50 * (8 - i))) ⟨_, _, _, _, _, _, rfl, k02, (B.keep (kp1.trans kp2)).mono (by omega)⟩ ?_ ?_
    · rintro i σ' H3 hi ⟨x4, x5, x6, x7, x8, x9, rfl, k03, B3⟩
      obtain ⟨dt3, hnm3⟩ := keepT k03
      walk_at "rd"
      refine ⟨v, t, n, names, rfl, dt3, ok, hcs, n6, fun H4 lp lys zs kp4 tl dz pm ro pw => ?_⟩
      have zok : ∀ z ∈ zs, (z.1.map Prod.fst).Nodup ∧ (∀ y ∈ z.1, Cell y.1) ∧ z.1.length ≤ 6 := by
        intro z hz
        have h1 : z.2 ∈ t.paths := pm.mem_iff.mp (List.mem_map_of_mem hz)
        obtain ⟨a, b', c⟩ := path_names ok z.2 h1
        have hp := (ro z hz).1
        exact ⟨(hp.map Prod.fst).nodup_iff.mpr a, fun y hy => hcs _ (b' _ ((hp.map Prod.fst).mem_iff.mp (List.mem_map_of_mem hy))), by rw [hp.length_eq]; omega⟩
      have k04 := k03.trans (Kp.to1 kp4)
      have B4 := B3.keep kp4
      have llys : lys.length = t.paths.length := by rw [dqAll_len dz, List.length_map, ← pm.length_eq, List.length_map]
      have lpos := ok.paths_pos
      have lle : t.paths.length ≤ 729 := Nat.le_trans ok.paths_le (Nat.le_trans (Nat.pow_le_pow_right (by decide) n6) (by decide))
      have lpb : lp ≠ b := by
        intro z
        subst z
        obtain ⟨_, e1⟩ := B4.lst
        obtain ⟨o, e2, _⟩ := tl
        rw [e1] at e2
        cases e2
      walk_at "rd"
      refine ⟨b, m + 50 * (8 - i) - 1, _, rfl, B4.mono (by omega), .inl ⟨lp, _, rfl, .inr tl.sq, lpb, by omega, by omega, fun H5 x kp5 B5 xm => ?_⟩⟩
      obtain ⟨d, hd, dx⟩ := dq_mem dz xm
      obtain ⟨z, hz, rfl⟩ := List.mem_map.mp hd
      obtain ⟨z2, z3, z4⟩ := zok z hz
      have dx5 := Dq.keepS kp5 B4.mu _ _ (log_noL z.1) dx
      have k05 := k04.trans kp5
      obtain ⟨dt5, hnm5⟩ := keepT k05
      walk_at "rd"
      refine ⟨b, nm, x, m + 50 * (8 - (i + 1)), z.1, names, rfl, B5.mono (by omega), dx5, z3, by omega, hnm5, nmb, l0, l26, fun H6 r l' kp6 B6 dr => ?_⟩
      have k06 := k05.trans kp6
      obtain ⟨dt6, hnm6⟩ := keepT k06
      obtain ⟨ra, rys, rfl, sr, drs⟩ := dp_log dr
      walk_at "rd"
      refine r_listOf (.inr sr.sq) fun f nf => ?_
      refine gen_new nf fun H7 kp7 hf => ?_
      obtain ⟨ps, rfl, pr⟩ := log_pairs (DqAll.keep0 kp7 _ _ drs)
      walk_at "rd"
      refine r_dictP (.inl (.inl (.inl hf))) pr fun dd ndd => ?_
      refine gen_new ndd fun H8 kp8 hdd => ?_
      have k68 := kp7.trans kp8
      walk_at "rd"
      refine ⟨v, dd, t, n, names, _, rfl, Dq.keep0 k68 _ _ dt6, ok, hcs, n6, hdd, intVals_log l', fun H9 r2 kp9 dr2 => ?_⟩
      have rfl' := rf (envK (mergeK [] (kvsL l')))
      walk_at "rd"
      refine r_repr dr2 rfl'.1 rfl'.2.1 rfl'.2.2 ?_
      walk_at "rd"
      have k69 := k68.trans kp9
      refine ⟨v, .ref ra, t, n, names, l', rfl, Dq.keep0 k69 _ _ dt6, ok, hcs, n6, Dq.keep0 k69 _ _ dr, fun H10 r3 kp10 dr3 => ?_⟩
      walk_at "rd"
      refine r_repr dr3 rfl'.1 rfl'.2.1 rfl'.2.2 ?_
      walk_at "rd"
      refine r_itn (fun h => absurd rfl h) (fun _ => ?_)
      walk_at "rd"
      refine r_kw ?_
      walk_at "rd"
      have k610 := k69.trans kp10
      refine ⟨v, .ref ra, t, n, names, l', rfl, Dq.keep0 k610 _ _ dt6, ok, hcs, n6, Dq.keep0 k610 _ _ dr, fun H11 r4 kp11 dr4 => ?_⟩
      walk_at "rd"
      refine r_repr dr4 rfl'.1 rfl'.2.1 rfl'.2.2 ?_
      walk_at "rd"
      refine r_itn (fun h => absurd rfl h) (fun _ => ?_)
      walk_at "rd"
      exact ⟨_, _, _, _, _, _, rfl, k06.trans (Kp.to1 (k610.trans kp11)), (B6.keep (k610.trans kp11)).mono (by omega)⟩
    rintro σ' H3 ⟨x4, x5, x6, x7, x8, x9, rfl, k03, B3⟩
    obtain ⟨dt3, hnm3⟩ := keepT k03
    walk_at "rd"
    refine r_newF rfl fun e oe ne oed => ?_
    refine gen_newT ne oed fun H4 kp4 he => ?_
    have rf0 := rf (envK (mergeK [] (kvsL [])))
    refine ⟨v, .ref e, t, n, names, [], rfl, Dq.keep0 kp4 _ _ dt3, ok, hcs, n6, .tup he .nil, fun H5 r kp5 dr => ?_⟩
    walk_at "rd"
    refine r_repr dr rf0.1 rf0.2.1 rf0.2.2 ?_
    walk_at "rd"
    refine r_dnew fun dd ndd => ?_
    refine gen_new ndd fun H6 kp6 hdd => ?_
    walk_at "rd"
    have k36 := (kp4.trans kp5).trans kp6
    refine ⟨v, dd, t, n, names, [], rfl, Dq.keep0 k36 _ _ dt3, ok, hcs, n6, hdd, intVals_log [], fun H7 r2 kp7 dr2 => ?_⟩
    walk_at "rd"
    refine r_repr dr2 rf0.1 rf0.2.1 rf0.2.2 ?_
    walk_at "rd"
    refine r_ite (fun _ => ?_) (fun h => absurd rfl h)
    walk_at "rd"
    refine r_repr (Dq.keep0 (k36.trans kp7) _ _ dt3) tf td tw ?_
    walk_at "rd"
    rw [et, decide_eq_true (rfl : V.str text = V.str text)]
    exact q _ (k03.trans (Kp.to1 (k36.trans kp7))) ((B3.keep (k36.trans kp7)).mono (by omega))
end
end L2.Ro

end
section
set_option Elab.async false
set_option linter.all false
set_option maxRecDepth 100000
set_option maxHeartbeats 4000000
local macro_rules | `(tactic| walk_at "rd1") => `(tactic| with_reducible first
  | refine L2.Rx.r_seq ?_ | refine L2.Rx.r_asg ?_ | refine L2.Rx.r_gname ?_ | refine L2.Rx.r_op ?_ | refine L2.Rx.r_c ?_
  | refine L2.Rx.r_var rfl ?_
  | refine L2.Rx.r_rI0 ?_ | refine L2.Rx.r_test ?_ | refine L2.Rx.r_bl ?_ | refine L2.Rx.r_if ?_ | refine L2.Rx.r_ret ?_
  | refine L2.Rx.r_cons ?_ | refine L2.Rx.r_nil ?_ | refine L2.Rx.r_call ?_ | refine L2.Rx.r_cb ?_ | refine L2.Rx.r_next ?_ | refine L2.Rx.r_drop ?_
  | refine L2.Rx.r_gsub ?_ | refine L2.Rx.r_tupF ?_ | refine L2.Rx.r_lst ?_ | refine L2.Rx.r_par ?_ | refine L2.Rx.r_par2 ?_
  | refine L2.Rx.r_un ?_ | refine L2.Rx.r_tb ?_ | refine L2.Rx.r_and ?_ | refine L2.Rx.r_or ?_ | refine L2.Rx.r_not ?_
  | refine L2.Rx.r_andV ?_ | refine L2.Rx.r_orV ?_ | refine L2.Rx.r_notV ?_ | refine L2.Rx.r_ifx ?_ | refine L2.Rx.r_chain ?_
  | refine L2.Rx.r_sl ?_ | refine L2.Rx.r_nopart ?_ | refine L2.Rx.r_part ?_ | refine L2.Rx.r_exint ?_ | refine L2.Rx.r_bm0 ?_ | refine L2.Rx.r_bm ?_
  | refine L2.Rx.r_lc ?_ | refine L2.Rx.r_rng1 ?_ | refine L2.Rx.r_yes ?_ | refine L2.Rx.r_tt ?_ | refine L2.Rx.r_ff ?_ | refine L2.Rx.r_m1 ?_ | refine L2.Rx.r_m0 ?_ | refine L2.Rx.r_isS ?_
  | (refine L2.Rx.r_wipe (by with_unfolding_all rfl) ?_) | (refine L2.Rx.r_tyL (by walk_at "hp") ?_)
  | refine L2.Rx.r_addS (by walk_at "len") ?_ | refine L2.Rx.r_lenS (by walk_at "len") ?_ | refine L2.Rx.r_slS (by walk_at "len") ?_
  | refine L2.Rx.r_dnotin ?_ | refine L2.Rx.r_dget ?_ | refine L2.Rx.r_dget1 ?_ | refine L2.Rx.r_dput ?_ | refine L2.Rx.r_dpop1 ?_ | refine L2.Rx.r_isN ?_
  | refine L2.Rx.r_for ?_ | refine L2.Rx.r_ilist ?_ | refine L2.Rx.r_itup ?_
  | refine L2.Rx.r_gcons ?_ | refine L2.Rx.r_gnil ?_ | (refine L2.Rx.r_gtupP (by assumption) (by walk_at "at") ?_)
  | (refine L2.Rx.r_rEq rfl ?_) | (refine L2.Rx.r_rNe rfl ?_)
  | refine L2.Rx.r_rU ?_ | refine L2.Rx.r_max2 ?_ | refine L2.Rx.r_min2 ?_ | refine L2.Rx.r_int1i ?_ | (refine L2.Rx.r_lenh (by walk_at "hp") ?_)
  | (refine L2.Rx.r_ixLh (by walk_at "hp") (by walk_at "at") ?_)
  | (refine L2.Rx.r_setL (by walk_at "hp") (by walk_at "at") ?_))
local macro_rules | `(tactic| walk_at "at") => `(tactic| with_unfolding_all rfl)
local macro_rules | `(tactic| walk_at "rd") => `(tactic| (repeat walk_at "rd1"))
local macro_rules | `(tactic| walk_at "hp") => `(tactic| first
  | assumption
  | exact L2.upd_same
  | (refine Eq.trans (L2.upd_ne ?_) ?_; (focus walk_at "ne"); (focus walk_at "hp"))
  | (refine L2.Rx.Kp.at0 (by assumption) ?_; walk_at "hp")
  | (refine L2.Rx.Kp.at1 (by assumption) ?_ ?_; (focus walk_at "ne"); (focus walk_at "hp")))
local macro_rules | `(tactic| walk_at "ne") => `(tactic| first
  | assumption | exact Ne.symm (by assumption)
  | (refine L2.ne_of_none (H := ?nH) (o := ?nO) ?nh ?nn; (case nn => assumption); (case nh => walk_at "hp"))
  | (refine Ne.symm (L2.ne_of_none (H := ?nH) (o := ?nO) ?nh ?nn); (case nn => assumption); (case nh => walk_at "hp")))
local macro_rules | `(tactic| walk_at "len") => `(tactic| (rw [PySem.sizeLine_eq]; omega))
local macro_rules | `(tactic| walk_at "nin") => `(tactic| first
  | exact List.not_mem_nil
  | (refine L2.Rx.nin1 ?_; walk_at "ne"))
local macro_rules | `(tactic| walk_at "none") => `(tactic| first
  | assumption
  | (refine L2.Rx.Kp.none0 (by assumption) ?_ ?_; (focus walk_at "nin"); (focus walk_at "none")))
namespace L2.Ro
open PySem PySem.Spec PyProof.Rows L2.Rx
def sp_law (K : PySem.W.Frag) : Sp := fun vs H Q _ => ∃ (a : Addr) (ns : List Int), vs = [.ref a] ∧ SqL K H a (ns.map V.int) ∧ ∀ H', Q (.bl true) H'
theorem nTree_le : ∀ n, n ≤ 6 → nTree n ≤ 5000 := by decide +kernel
section
variable {P : Program} {w : World} {K : PySem.W.Frag} {mg : Str → Option Value} {base : Heap}
theorem k_law {f : Addr} {fd : FuncData} (F : Fun K "law" "law" s_law f fd) (g : mg "law" = some (.ref f)) (z : Zb mg) (k_box : Kn P w K mg base CX0 1 "_law_box" (sp_box K)) (k_take : Kn P w K mg base CX0 1 "_law_take" sp_take) (k_cells : Kn P w K mg base CX0 3 "_law_cells" sp_cells) (k_tree : Kn P w K mg base CX0 12 "_law_tree" (sp_treeA K)) (k_right : Kn P w K mg base CX0 4 "_law_right" (sp_right K))  : FnG P w K mg base CX0 13 f fd ["_law_script"] (sp_law K) := by
  refine fnG_body F sc_law (fun vs H Q E h => ?_) (fun cdv A outer s H vs Q E hr h => ?_)
  · obtain ⟨a, ns, rfl, _⟩ := h
    rfl
  · obtain ⟨a, ns, rfl, hS, q⟩ := h
    refine ⟨_, PSs.nox (pss_cons (ps_for PassesOwn.never rfl (pi_range1 rfl z.n_range (pa_cons (pe_callB (c_max2 rfl) (by rfl) z.n_max (by decide +kernel) (pa_cons pe_int (pa_cons (pe_callB (c_min2 rfl) (by rfl) z.n_min (by decide +kernel) (pa_cons pe_int (pa_cons (pe_callB (show CallR _ _ (rLenQ K) from c_len) (by rfl) z.n_len (by decide +kernel) (pa_cons (pv 0) pa_nil)) pa_nil))) pa_nil))) pa_nil)) (pg_name (i := 1) sc_law.nd rfl (.inl rfl))
        (pss_cons (ps_set (i := 2) sc_law.nd rfl (.inl rfl) (k_box.call hr (by decide) (by rfl) (pa_cons (pv 0) (pa_cons (pv 1) pa_nil))))
        (pss_one (ps_for PassesOwn.never rfl (pi_range1 rfl z.n_range (pa_cons pe_int pa_nil)) (pg_name (i := 3) sc_law.nd rfl (.inl rfl))
          (pss_cons (ps_set (i := 4) sc_law.nd rfl (.inl rfl) (k_cells.call hr (by decide) (by rfl) (pa_cons (pv 2) (pa_cons (pe_op op_add pe_int (k_take.call hr (by decide) (by rfl) (pa_cons (pv 2) (pa_cons pe_int pa_nil)))) pa_nil))))
          (pss_one (ps_if (pt_not (pt_val (k_right.call hr (by decide) (by rfl) (pa_cons (pv 2) (pa_cons (k_tree.call hr (by decide) (by rfl) (pa_cons (pv 2) (pa_cons (pv 4) (pa_cons pe_int pa_nil)))) (pa_cons (pv 4) pa_nil))))))
            (pss_one (ps_ret pe_bl))
            pss_nil)))))))
      (pss_one (ps_ret pe_bl))), ?_⟩
    walk_at "rd"
    refine r_len (.inl hS) ?_
    walk_at "rd"
    refine r_rngv (by omega) (by omega) ?_
    refine for_range (lo := 0) (n := (max 1 (min 3 (((ns.map V.int).length : Nat) : Int))).toNat) (fun i σ' H' => ∃ (x1 x2 x3 x4 : Option V), σ' = [some (.ref a), x1, x2, x3, x4] ∧ Kp [] H H') ⟨_, _, _, _, rfl, Kp.refl⟩ ?_ ?_
    · rintro i σ' H1 hi ⟨x1, x2, x3, x4, rfl, kp1⟩
      walk_at "rd"
      refine ⟨a, ns, _, rfl, kp_sqL kp1 (by simp) hS, by omega, by omega, fun H2 p kp2 np B => ?_⟩
      walk_at "rd"
      refine r_rngv (by decide) (by decide) ?_
      have npH : H p = none := kp1.none0 (by simp) np
      refine for_range (lo := 0) (n := 4) (fun j σ' H' => ∃ (x3 x4 : Option V), σ' = [some (.ref a), some (.int (0 + (i : Int))), some (.ref p), x3, x4] ∧ Kp [p] H2 H' ∧ Box H' p (1000000 * (5 - j))) ⟨_, _, rfl, Kp.refl, B.mono (by omega)⟩ ?_ ?_
      · rintro j σ' H3 hj ⟨x3, x4, rfl, kp3, B3⟩
        walk_at "rd"
        refine ⟨p, 1000000 * (5 - j) - 1, _, rfl, B3.mono (by omega), by decide, by decide, fun H4 r kp4 B4 r0 r1 => ?_⟩
        walk_at "rd"
        refine ⟨p, 1000000 * (5 - j) - 30, _, rfl, B4.mono (by omega), by omega, by omega, fun H5 cp cs kp5 ncp B5 hcp lcs Cs => ?_⟩
        have cpb : cp ≠ p := by
          obtain ⟨_, hb⟩ := B4.lst
          exact Ne.symm (ne_of_none hb ncp)
        have l6 : 0 < cs.length ∧ cs.length ≤ 6 := by omega
        have nt := nTree_le cs.length l6.2
        walk_at "rd"
        refine ⟨cs.length, by omega, p, cp, 1000000 * (5 - j) - 6000, 12, cs, rfl, B5.mono (by omega), .inl (.inl hcp), cpb, Cs, rfl, by omega, by decide, fun H6 v t kp6 B6 dt ok => ?_⟩
        walk_at "rd"
        refine ⟨p, cp, v, t, 1000000 * (5 - (j + 1)), cs.length, cs, rfl, B6.mono (by omega), dt, ok, Cs, l6.2, kp6.at1 cpb hcp, cpb, l6.1, by omega, fun H7 kp7 B7 => ?_⟩
        walk_at "rd"
        refine r_ff ?_
        walk_at "rd"
        exact ⟨_, _, rfl, (((kp3.trans kp4).trans kp5).trans kp6).trans kp7, B7⟩
      · rintro σ' H3 ⟨x3, x4, rfl, kp3, B3⟩
        walk_at "rd"
        exact ⟨_, _, _, _, rfl, (kp1.trans kp2).dropT kp3 fun c hc => .inr (by rw [show c = p by simpa using hc]; exact npH)⟩
    · rintro σ' H1 ⟨x1, x2, x3, x4, rfl, kp1⟩
      walk_at "rd"
      exact q _
end
end L2.Ro

end
namespace L2.Ro
open PySem PySem.Spec PyProof.Rows L2.Rx
theorem all_mk {w : World} {K : PySem.W.Frag} {h : Heap} {mg : Str → Option Value} {fa : Addr} (X : K.In h) (G : h.Ns mainGlobals mg) (hfa : mg "law" = some (.ref fa))
    {f0 : Addr} {od0 an0 : Option Addr} {sl0 : Array (Option Value)} {oc0 kV0 dc0 pm0 cd0 ct0 : Value}
    (a0 : PySem.W.nsIn K mainGlobals "follow" = some (some (.ref f0))) (l0 : K.lookup f0 = some ⟨oc0, od0, .func (PySem.W.fnOf "follow" "follow" (defArgs s_follow) (defBody s_follow) (defScope s_follow) .none kV0 dc0 pm0 an0 cd0 ct0), sl0⟩) (c0 : PySem.W.codeIn K cd0 "follow" = true) (k0 : PySem.W.keepIn K (.ref f0) = true)
    {f1 : Addr} {od1 an1 : Option Addr} {sl1 : Array (Option Value)} {oc1 kV1 dc1 pm1 cd1 ct1 : Value}
    (a1 : PySem.W.nsIn K mainGlobals "_law_box" = some (some (.ref f1))) (l1 : K.lookup f1 = some ⟨oc1, od1, .func (PySem.W.fnOf "_law_box" "_law_box" (defArgs s_box) (defBody s_box) (defScope s_box) .none kV1 dc1 pm1 an1 cd1 ct1), sl1⟩) (c1 : PySem.W.codeIn K cd1 "_law_box" = true) (k1 : PySem.W.keepIn K (.ref f1) = true)
    {f2 : Addr} {od2 an2 : Option Addr} {sl2 : Array (Option Value)} {oc2 kV2 dc2 pm2 cd2 ct2 : Value}
    (a2 : PySem.W.nsIn K mainGlobals "_law_take" = some (some (.ref f2))) (l2 : K.lookup f2 = some ⟨oc2, od2, .func (PySem.W.fnOf "_law_take" "_law_take" (defArgs s_take) (defBody s_take) (defScope s_take) .none kV2 dc2 pm2 an2 cd2 ct2), sl2⟩) (c2 : PySem.W.codeIn K cd2 "_law_take" = true) (k2 : PySem.W.keepIn K (.ref f2) = true)
    {f3 : Addr} {od3 an3 : Option Addr} {sl3 : Array (Option Value)} {oc3 kV3 dc3 pm3 cd3 ct3 : Value}
    (a3 : PySem.W.nsIn K mainGlobals "_law_of" = some (some (.ref f3))) (l3 : K.lookup f3 = some ⟨oc3, od3, .func (PySem.W.fnOf "_law_of" "_law_of" (defArgs s_of) (defBody s_of) (defScope s_of) .none kV3 dc3 pm3 an3 cd3 ct3), sl3⟩) (c3 : PySem.W.codeIn K cd3 "_law_of" = true) (k3 : PySem.W.keepIn K (.ref f3) = true)
    {f4 : Addr} {od4 an4 : Option Addr} {sl4 : Array (Option Value)} {oc4 kV4 dc4 pm4 cd4 ct4 : Value}
    (a4 : PySem.W.nsIn K mainGlobals "_law_cells" = some (some (.ref f4))) (l4 : K.lookup f4 = some ⟨oc4, od4, .func (PySem.W.fnOf "_law_cells" "_law_cells" (defArgs s_cells) (defBody s_cells) (defScope s_cells) .none kV4 dc4 pm4 an4 cd4 ct4), sl4⟩) (c4 : PySem.W.codeIn K cd4 "_law_cells" = true) (k4 : PySem.W.keepIn K (.ref f4) = true)
    {f5 : Addr} {od5 an5 : Option Addr} {sl5 : Array (Option Value)} {oc5 kV5 dc5 pm5 cd5 ct5 : Value}
    (a5 : PySem.W.nsIn K mainGlobals "_law_values" = some (some (.ref f5))) (l5 : K.lookup f5 = some ⟨oc5, od5, .func (PySem.W.fnOf "_law_values" "_law_values" (defArgs s_values) (defBody s_values) (defScope s_values) .none kV5 dc5 pm5 an5 cd5 ct5), sl5⟩) (c5 : PySem.W.codeIn K cd5 "_law_values" = true) (k5 : PySem.W.keepIn K (.ref f5) = true)
    {f6 : Addr} {od6 an6 : Option Addr} {sl6 : Array (Option Value)} {oc6 kV6 dc6 pm6 cd6 ct6 : Value}
    (a6 : PySem.W.nsIn K mainGlobals "_law_tree" = some (some (.ref f6))) (l6 : K.lookup f6 = some ⟨oc6, od6, .func (PySem.W.fnOf "_law_tree" "_law_tree" (defArgs s_tree) (defBody s_tree) (defScope s_tree) .none kV6 dc6 pm6 an6 cd6 ct6), sl6⟩) (c6 : PySem.W.codeIn K cd6 "_law_tree" = true) (k6 : PySem.W.keepIn K (.ref f6) = true)
    {f7 : Addr} {od7 an7 : Option Addr} {sl7 : Array (Option Value)} {oc7 kV7 dc7 pm7 cd7 ct7 : Value}
    (a7 : PySem.W.nsIn K mainGlobals "_law_leaves" = some (some (.ref f7))) (l7 : K.lookup f7 = some ⟨oc7, od7, .func (PySem.W.fnOf "_law_leaves" "_law_leaves" (defArgs s_leaves) (defBody s_leaves) (defScope s_leaves) .none kV7 dc7 pm7 an7 cd7 ct7), sl7⟩) (c7 : PySem.W.codeIn K cd7 "_law_leaves" = true) (k7 : PySem.W.keepIn K (.ref f7) = true)
    {f8 : Addr} {od8 an8 : Option Addr} {sl8 : Array (Option Value)} {oc8 kV8 dc8 pm8 cd8 ct8 : Value}
    (a8 : PySem.W.nsIn K mainGlobals "_law_due" = some (some (.ref f8))) (l8 : K.lookup f8 = some ⟨oc8, od8, .func (PySem.W.fnOf "_law_due" "_law_due" (defArgs s_due) (defBody s_due) (defScope s_due) .none kV8 dc8 pm8 an8 cd8 ct8), sl8⟩) (c8 : PySem.W.codeIn K cd8 "_law_due" = true) (k8 : PySem.W.keepIn K (.ref f8) = true)
    {f9 : Addr} {od9 an9 : Option Addr} {sl9 : Array (Option Value)} {oc9 kV9 dc9 pm9 cd9 ct9 : Value}
    (a9 : PySem.W.nsIn K mainGlobals "_law_supplied" = some (some (.ref f9))) (l9 : K.lookup f9 = some ⟨oc9, od9, .func (PySem.W.fnOf "_law_supplied" "_law_supplied" (defArgs s_supplied) (defBody s_supplied) (defScope s_supplied) .none kV9 dc9 pm9 an9 cd9 ct9), sl9⟩) (c9 : PySem.W.codeIn K cd9 "_law_supplied" = true) (k9 : PySem.W.keepIn K (.ref f9) = true)
    {f10 : Addr} {od10 an10 : Option Addr} {sl10 : Array (Option Value)} {oc10 kV10 dc10 pm10 cd10 ct10 : Value}
    (a10 : PySem.W.nsIn K mainGlobals "_law_right" = some (some (.ref f10))) (l10 : K.lookup f10 = some ⟨oc10, od10, .func (PySem.W.fnOf "_law_right" "_law_right" (defArgs s_right) (defBody s_right) (defScope s_right) .none kV10 dc10 pm10 an10 cd10 ct10), sl10⟩) (c10 : PySem.W.codeIn K cd10 "_law_right" = true) (k10 : PySem.W.keepIn K (.ref f10) = true)
    {f11 : Addr} {od11 an11 : Option Addr} {sl11 : Array (Option Value)} {oc11 kV11 dc11 pm11 cd11 ct11 : Value}
    (a11 : PySem.W.nsIn K mainGlobals "law" = some (some (.ref f11))) (l11 : K.lookup f11 = some ⟨oc11, od11, .func (PySem.W.fnOf "law" "law" (defArgs s_law) (defBody s_law) (defScope s_law) .none kV11 dc11 pm11 an11 cd11 ct11), sl11⟩) (c11 : PySem.W.codeIn K cd11 "law" = true) (k11 : PySem.W.keepIn K (.ref f11) = true)
    (z0 : PySem.W.nsIn K mainGlobals "abs" = some none) (z1 : PySem.W.nsIn K mainGlobals "dict" = some none) (z2 : PySem.W.nsIn K mainGlobals "int" = some none) (z3 : PySem.W.nsIn K mainGlobals "len" = some none) (z4 : PySem.W.nsIn K mainGlobals "list" = some none) (z5 : PySem.W.nsIn K mainGlobals "max" = some none) (z6 : PySem.W.nsIn K mainGlobals "min" = some none) (z7 : PySem.W.nsIn K mainGlobals "range" = some none) (z8 : PySem.W.nsIn K mainGlobals "repr" = some none) (z9 : PySem.W.nsIn K mainGlobals "sorted" = some none) (z10 : PySem.W.nsIn K mainGlobals "tuple" = some none)
    : ∃ fd : FuncData, (∀ (s : Shared) (v : Value), BindsTo s fd ⟨[v], []⟩ [("_law_script", v)]) ∧ ∀ base : Heap, K.In base → base.Ns mainGlobals mg → FnG PySem.Challenge.rw_readorder_k05_runs_followed.prog w K mg base CX0 13 fa fd ["_law_script"] (sp_law K) := by
  have e := hfa.symm.trans (PySem.W.mg_of X G a11)
  cases e
  have F0 := fun_mk (st := s_follow) l0 c0 k0
  have F1 := fun_mk (st := s_box) l1 c1 k1
  have F2 := fun_mk (st := s_take) l2 c2 k2
  have F3 := fun_mk (st := s_of) l3 c3 k3
  have F4 := fun_mk (st := s_cells) l4 c4 k4
  have F5 := fun_mk (st := s_values) l5 c5 k5
  have F6 := fun_mk (st := s_tree) l6 c6 k6
  have F7 := fun_mk (st := s_leaves) l7 c7 k7
  have F8 := fun_mk (st := s_due) l8 c8 k8
  have F9 := fun_mk (st := s_supplied) l9 c9 k9
  have F10 := fun_mk (st := s_right) l10 c10 k10
  have F11 := fun_mk (st := s_law) l11 c11 k11
  have zb : Zb mg := ⟨PySem.W.mg_none_of X G z0, PySem.W.mg_none_of X G z1, PySem.W.mg_none_of X G z2, PySem.W.mg_none_of X G z3, PySem.W.mg_none_of X G z4, PySem.W.mg_none_of X G z5, PySem.W.mg_none_of X G z6, PySem.W.mg_none_of X G z7, PySem.W.mg_none_of X G z8, PySem.W.mg_none_of X G z9, PySem.W.mg_none_of X G z10⟩
  refine ⟨PySem.W.fnOf "law" "law" (defArgs s_law) (defBody s_law) (defScope s_law) .none kV11 dc11 pm11 an11 cd11 ct11, fun s v => .of_eq rfl, fun base _ _ => ?_⟩
  have qk_box := k_box (P := PySem.Challenge.rw_readorder_k05_runs_followed.prog) (w := w) (base := base) F1 (PySem.W.mg_of X G a1) zb 
  have qk_take := k_take (P := PySem.Challenge.rw_readorder_k05_runs_followed.prog) (w := w) (base := base) F2 (PySem.W.mg_of X G a2) zb 
  have qk_of := k_of (P := PySem.Challenge.rw_readorder_k05_runs_followed.prog) (w := w) (base := base) F3 (PySem.W.mg_of X G a3) zb qk_take
  have qk_cells := k_cells (P := PySem.Challenge.rw_readorder_k05_runs_followed.prog) (w := w) (base := base) F4 (PySem.W.mg_of X G a4) zb qk_take qk_of
  have qk_values := k_values (P := PySem.Challenge.rw_readorder_k05_runs_followed.prog) (w := w) (base := base) F5 (PySem.W.mg_of X G a5) zb qk_take
  have qk_tree := k_tree (P := PySem.Challenge.rw_readorder_k05_runs_followed.prog) (w := w) (base := base) F6 (PySem.W.mg_of X G a6) zb qk_take qk_values
  have qk_leaves := k_leaves (P := PySem.Challenge.rw_readorder_k05_runs_followed.prog) (w := w) (base := base) F7 (PySem.W.mg_of X G a7) zb 
  have qk_follow := k_follow (P := PySem.Challenge.rw_readorder_k05_runs_followed.prog) (w := w) (base := base) F0 (PySem.W.mg_of X G a0) zb 
  have qk_follow_known_reader := k_follow_known_reader (P := PySem.Challenge.rw_readorder_k05_runs_followed.prog) (w := w) (base := base) F0 (PySem.W.mg_of X G a0) zb
  have qk_due := k_due (P := PySem.Challenge.rw_readorder_k05_runs_followed.prog) (w := w) (base := base) F8 (PySem.W.mg_of X G a8) zb 
  have qk_supplied := k_supplied (P := PySem.Challenge.rw_readorder_k05_runs_followed.prog) (w := w) (base := base) F9 (PySem.W.mg_of X G a9) zb qk_take qk_of
  have qk_right := k_right (P := PySem.Challenge.rw_readorder_k05_runs_followed.prog) (w := w) (base := base) F10 (PySem.W.mg_of X G a10) zb qk_of qk_leaves qk_follow qk_follow_known_reader qk_due qk_supplied
  exact k_law F11 (PySem.W.mg_of X G a11) zb qk_box qk_take qk_cells qk_tree qk_right
end L2.Ro
open PySem PySem.W PyProof.Rows
set_option maxHeartbeats 0 in
theorem PySem.Challenge.cw_readorder_k05_runs_followed_holds : PySem.Challenge.rw_readorder_k05_runs_followed.Holds := by
  w_on; o_law; k_head; (case hw => w_witness2)
  k_fill
  refine L2.Rx.walkG (l := PySem.Challenge.rw_readorder_k05_runs_followed) (n := 63) (k := 13) (x := "_law_script") (sp := fun K => L2.Ro.sp_law K) rfl (by decide) rfl ⟨rfl, by decide, by decide⟩ (fun w h Y => PySem.W.kIn_of Y) ?F (fun _ _ a ns hl _ hS => ⟨a, ns, rfl, hS, fun _ => rfl⟩)
  case F =>
    intro w mg fa h KX G hmg
    refine' L2.Ro.all_mk KX G hmg ?a0 ?l0 ?c0 ?k0 ?a1 ?l1 ?c1 ?k1 ?a2 ?l2 ?c2 ?k2 ?a3 ?l3 ?c3 ?k3 ?a4 ?l4 ?c4 ?k4 ?a5 ?l5 ?c5 ?k5 ?a6 ?l6 ?c6 ?k6 ?a7 ?l7 ?c7 ?k7 ?a8 ?l8 ?c8 ?k8 ?a9 ?l9 ?c9 ?k9 ?a10 ?l10 ?c10 ?k10 ?a11 ?l11 ?c11 ?k11 ?z0 ?z1 ?z2 ?z3 ?z4 ?z5 ?z6 ?z7 ?z8 ?z9 ?z10
    (case a0 => k_is); (case l0 => k_is); (case c0 => k_is); (case k0 => k_is); (case a1 => k_is); (case l1 => k_is); (case c1 => k_is); (case k1 => k_is); (case a2 => k_is); (case l2 => k_is); (case c2 => k_is); (case k2 => k_is); (case a3 => k_is); (case l3 => k_is); (case c3 => k_is); (case k3 => k_is); (case a4 => k_is); (case l4 => k_is); (case c4 => k_is); (case k4 => k_is); (case a5 => k_is); (case l5 => k_is); (case c5 => k_is); (case k5 => k_is); (case a6 => k_is); (case l6 => k_is); (case c6 => k_is); (case k6 => k_is); (case a7 => k_is); (case l7 => k_is); (case c7 => k_is); (case k7 => k_is); (case a8 => k_is); (case l8 => k_is); (case c8 => k_is); (case k8 => k_is); (case a9 => k_is); (case l9 => k_is); (case c9 => k_is); (case k9 => k_is); (case a10 => k_is); (case l10 => k_is); (case c10 => k_is); (case k10 => k_is); (case a11 => k_is); (case l11 => k_is); (case c11 => k_is); (case k11 => k_is); (case z0 => k_is); (case z1 => k_is); (case z2 => k_is); (case z3 => k_is); (case z4 => k_is); (case z5 => k_is); (case z6 => k_is); (case z7 => k_is); (case z8 => k_is); (case z9 => k_is); (case z10 => k_is)
