import PyProof.Rows.All
import Wide.All
import OpenK.AllK
import Wide.FinOn
import PySem.Challenge.RW_readorder_k07_errors_and_their_fields
import HandS.ForMost
import HandS.IsInst
import HandS.TupAny
import KE.SortData
import KE.KDictPairs
import PyProof.ReprRoads
import HandS.More
import HandS.ExcInit
import HandS.ExcIs
import HandS.ExcOwn
import HandS.ExcValue
set_option Elab.async false
set_option linter.all false
set_option maxRecDepth 100000
set_option maxHeartbeats 4000000
section
set_option Elab.async false
set_option linter.all false
set_option maxRecDepth 100000
set_option maxHeartbeats 4000000
namespace L2.Rx
open PySem PySem.Spec PyProof.Rows

/-! ### readings, step by step -/
section
variable {σ : St} {H : Hp} {Q : VK} {nx : St → Hp → Prop} {rt : VK} {bk ct : St → Hp → Prop} {D : Ends} {E : XK} {K : PySem.W.Frag}
theorem r_seq {t u : TS} (h : t ⟨u ⟨nx, rt, bk, ct⟩, rt, bk, ct⟩ σ H) : tSeq t u ⟨nx, rt, bk, ct⟩ σ H := h
theorem r_next (h : nx σ H) : tNext ⟨nx, rt, bk, ct⟩ σ H := h
theorem r_if {c : TT} {t u : TS} (h : c σ H fun b H1 => if b = true then t D σ H1 else u D σ H1) : tIfS c t u D σ H := h
theorem r_ret {te : TE} (h : te σ H rt) : tRet te ⟨nx, rt, bk, ct⟩ σ H := h
theorem r_asg {te : TE} {g : TG} (h : te σ H fun x H1 => g x σ H1 nx) : tAsg te g ⟨nx, rt, bk, ct⟩ σ H := h
theorem r_drop {te : TE} (h : te σ H fun _ H1 => nx σ H1) : tDrop te ⟨nx, rt, bk, ct⟩ σ H := h
theorem r_gname {i : Nat} {v : V} {Q : St → Hp → Prop} (h : Q (σ.set i (some v)) H) : gName i v σ H Q := h
theorem r_gsub {to ti : TE} {t : TSet} {v : V} {Q : St → Hp → Prop} (h : to σ H fun o H1 => ti σ H1 fun i H2 => t o i v H2 fun H3 => Q σ H3) : gSub to ti t v σ H Q := h
theorem r_par {i j : Nat} {ta : TA} (h : ta σ H fun vs H1 => ∃ v w, vs = [v, w] ∧ nx ((σ.set i (some v)).set j (some w)) H1) : tPar i j ta ⟨nx, rt, bk, ct⟩ σ H := h
theorem r_par2 {v w : V} {q : V → V → Prop} (h : q v w) : ∃ v' w', [v, w] = [v', w'] ∧ q v' w' := ⟨v, w, rfl, h⟩
theorem r_var {i : Nat} {v : V} (e : σ[i]? = some (some v)) (h : Q v H) : tVar i σ H Q := ⟨v, e, h⟩
theorem r_c {v : V} (h : Q v H) : tC v σ H Q := h
theorem r_op {r : R2} {ta tb : TE} (h : ta σ H fun x H1 => tb σ H1 fun y H2 => r x y H2 Q) : tOp r ta tb σ H Q := h
theorem r_un {r : V → Hp → VK → Prop} {ta : TE} (h : ta σ H fun x H1 => r x H1 Q) : tUn r ta σ H Q := h
theorem r_test {t : TE} {Q : Bool → Hp → Prop} (h : t σ H fun x H' => ∃ k, x = .bl k ∧ Q k H') : tTest t σ H Q := h
theorem r_tb {t : TE} {Q : Bool → Hp → Prop} (h : t σ H fun x H1 => ∃ c, x = .bl c ∧ Q c H1) : tB t σ H Q := h
theorem r_bl {k : Bool} {q : Bool → Prop} (h : q k) : ∃ k', V.bl k = V.bl k' ∧ q k' := ⟨k, rfl, h⟩
theorem r_and {t u : TT} {Q : Bool → Hp → Prop} (h : t σ H fun c H1 => if c = true then u σ H1 Q else Q false H1) : tAnd t u σ H Q := h
theorem r_or {t u : TT} {Q : Bool → Hp → Prop} (h : t σ H fun c H1 => if c = true then Q true H1 else u σ H1 Q) : tOr t u σ H Q := h
theorem r_not {t : TT} {Q : Bool → Hp → Prop} (h : t σ H fun c H1 => Q (!c) H1) : tNot t σ H Q := h
theorem r_andV {ta tb : TE} (h : ta σ H fun x H1 => ∃ c, x = .bl c ∧ if c = true then tb σ H1 Q else Q (.bl false) H1) : tAndV ta tb σ H Q := h
theorem r_orV {ta tb : TE} (h : ta σ H fun x H1 => ∃ c, x = .bl c ∧ if c = true then Q (.bl true) H1 else tb σ H1 Q) : tOrV ta tb σ H Q := h
theorem r_notV {ta : TE} (h : ta σ H fun x H1 => ∃ c, x = .bl c ∧ Q (.bl (!c)) H1) : tNotV ta σ H Q := h
theorem r_ifx {t : TT} {ta tb : TE} (h : t σ H fun c H1 => if c = true then ta σ H1 Q else tb σ H1 Q) : tIf t ta tb σ H Q := h
theorem r_chain {r r' : R2} {ta tb tc : TE} (h : ta σ H fun x H1 => tb σ H1 fun y H2 => r x y H2 fun z H3 => ∃ k, z = .bl k ∧ (if k = true then tc σ H3 fun w' H4 => r' y w' H4 Q else Q (.bl false) H3)) : tChain r r' ta tb tc σ H Q := h
theorem r_nil {Q : List V → Hp → Prop} (h : Q [] H) : tNil σ H Q := h
theorem r_cons {ta : TE} {tr : TA} {Q : List V → Hp → Prop} (h : ta σ H fun x H1 => tr σ H1 fun xs H2 => Q (x :: xs) H2) : tCons ta tr σ H Q := h
theorem r_tup {t : TA} (h : t σ H fun xs H1 => xs.length ≤ sizeLine ∧ ∀ p, H1 p = none → Q (.ref p) (upd H1 p (.tup xs))) : tTup t σ H Q := h
theorem r_lst {t : TA} (h : t σ H fun xs H1 => xs.length ≤ sizeLine ∧ ∀ p, H1 p = none → Q (.ref p) (upd H1 p (.lst xs))) : tLst t σ H Q := h
theorem r_call {sp : Sp} {dvs : List V} {t : TA} (h : t σ H fun vs H1 => sp (vs ++ dvs) H1 Q E) : tCall sp dvs E t σ H Q := h
theorem r_cb {r : List V → Hp → VK → Prop} {t : TA} (h : t σ H fun vs H1 => r vs H1 Q) : tCB r t σ H Q := h
theorem r_sl {r : V → Option Int → Option Int → Hp → VK → Prop} {te : TE} {tl th : TO} (h : te σ H fun x H1 => tl σ H1 fun l H2 => th σ H2 fun u H3 => r x l u H3 Q) : tSl r te tl th σ H Q := h
theorem r_nopart {Q : Option Int → Hp → Prop} (h : Q none H) : tNoPart σ H Q := h
theorem r_part {t : TE} {Q : Option Int → Hp → Prop} (h : t σ H fun x H1 => ∃ i, x = .int i ∧ Q (some i) H1) : tPart t σ H Q := h
theorem r_exint {k : Int} {q : Int → Prop} (h : q k) : ∃ i, V.int k = V.int i ∧ q i := ⟨k, rfl, h⟩
theorem r_bm0 {T : String} {r : V → List V → Hp → VK → Prop} {to : TE} (h : to σ H fun x H1 => tyV K T x H1 ∧ r x [] H1 Q) : tBM0 K T r to σ H Q := h
theorem r_bm {T : String} {r : V → List V → Hp → VK → Prop} {to : TE} {t : TA} (h : to σ H fun x H1 => tyV K T x H1 ∧ t σ H1 fun xs H2 => r x xs H2 Q) : tBM K T r to t σ H Q := h
/-! values -/
theorem r_rI0 {g : Int → Int → V} {i j : Int} (h : Q (g i j) H) : rI0 g (.int i) (.int j) H Q := ⟨i, j, rfl, rfl, h⟩
theorem r_rI {C : Int → Int → Prop} {g : Int → Int → V} {i j : Int} (c : C i j) (h : Q (g i j) H) : rI C g (.int i) (.int j) H Q := ⟨i, j, rfl, rfl, c, h⟩
theorem r_rU {g : Int → V} {i : Int} (h : Q (g i) H) : rU g (.int i) H Q := ⟨i, rfl, h⟩
theorem r_rEq {x y : V} (s : scal x y = true) (h : Q (.bl (decide (x = y))) H) : rEq x y H Q := ⟨s, h⟩
theorem r_rNe {x y : V} (s : scal x y = true) (h : Q (.bl (!decide (x = y))) H) : rNe x y H Q := ⟨s, h⟩
theorem r_ixL {p : Addr} {xs : List V} {i : Int} {v : V} (h : SqL K H p xs) (a : atI xs i = some v) (q : Q v H) : rIxL K (.ref p) (.int i) H Q := ⟨p, xs, i, v, rfl, rfl, h, a, q⟩
theorem r_ixLh {p : Addr} {xs : List V} {i : Int} {v : V} (h : H p = some (.lst xs)) (a : atI xs i = some v) (q : Q v H) : rIxL K (.ref p) (.int i) H Q := ⟨p, xs, i, v, rfl, rfl, .inl (.inl h), a, q⟩
theorem r_ixTh {p : Addr} {xs : List V} {i : Int} {v : V} (h : H p = some (.tup xs)) (a : atI xs i = some v) (q : Q v H) : rIxT K (.ref p) (.int i) H Q := ⟨p, xs, i, v, rfl, rfl, .inl (.inl h), a, q⟩
theorem r_setL {p : Addr} {xs : List V} {k : Int} {j : Nat} {v : V} {Q : Hp → Prop} (h : H p = some (.lst xs)) (e : ixN xs.length k = some j) (q : Q (upd H p (.lst (xs.set j v)))) : rSetL (.ref p) (.int k) v H Q := ⟨p, xs, k, j, rfl, rfl, h, e, q⟩
theorem r_new {xs : List V} {q : Addr → Prop} (e : Nat.ble xs.length 1000 = true) (h : ∀ p, H p = none → q p) : xs.length ≤ sizeLine ∧ ∀ p, H p = none → q p := ⟨Nat.le_of_lt (small1000 (Nat.le_of_ble_eq_true e)), h⟩
theorem r_wipe {a b c d} {A : Prop} (e : wipe a b = wipe c d) (h : A) : wipe a b = wipe c d ∧ A := ⟨e, h⟩
theorem r_tyL {l : Addr} {xs : List V} {A : Prop} (e : H l = some (.lst xs)) (h : A) : tyV K "list" (.ref l) H ∧ A := ⟨.inl ⟨rfl, xs, .inl (.inl e)⟩, h⟩
theorem r_powx {i j v : Int} (e : (Nat.ble j.natAbs 1000000 && decide (0 ≤ j) && decide (i.natAbs < 2 ^ 64)) = true) (e2 : i ^ j.toNat = v) (q : Q (.int v) H) : rI CPow (fun i j => .int (i ^ j.toNat)) (.int i) (.int j) H Q := by
  subst e2
  simp only [Bool.and_eq_true, decide_eq_true_eq] at e
  exact ⟨i, j, rfl, rfl, ⟨e.1.2, by have := Nat.le_of_ble_eq_true e.1.1; omega, e.2⟩, q⟩
theorem r_app0 {l : Addr} {xs : List V} {y : V} (h : H l = some (.lst xs)) (z : xs.length < 1000000) (q : Q .non (upd H l (.lst (xs ++ [y])))) : rAppend (.ref l) [y] H Q :=
  ⟨l, xs, y, rfl, rfl, h, by rw [sizeLine_eq]; omega, q⟩
/-! tests -/
theorem r_ite {p A B : Prop} [Decidable p] (h1 : p → A) (h2 : ¬ p → B) : if decide p = true then A else B := by
  by_cases h : p
  · rw [if_pos (decide_eq_true h)]; exact h1 h
  · rw [if_neg (by simp [h])]; exact h2 h
theorem r_itn {p A B : Prop} [Decidable p] (h1 : ¬ p → A) (h2 : p → B) : if (!decide p) = true then A else B := by
  by_cases h : p
  · rw [if_neg (by simp [h])]; exact h2 h
  · rw [if_pos (by simp [h])]; exact h1 h
theorem r_itb {b : Bool} {A B : Prop} (h1 : b = true → A) (h2 : b = false → B) : if b = true then A else B := by
  cases b
  · rw [if_neg Bool.false_ne_true]; exact h2 rfl
  · rw [if_pos rfl]; exact h1 rfl
end

/-! letters -/
section
variable {σ : St} {H : Hp} {Q : VK} {K : PySem.W.Frag}
/-- % hands on a letter -/
theorem r_mod {i j : Int} (h : 0 < j) (q : ∀ r : Int, 0 ≤ r → r < j → Q (.int r) H) : rI (fun _ j => 0 < j) (fun i j => .int (i % j)) (.int i) (.int j) H Q :=
  ⟨i, j, rfl, rfl, h, q _ (Int.emod_nonneg _ (by omega)) (Int.emod_lt_of_pos _ h)⟩
theorem r_modx {i j : Int} (h : 0 < j) (q : Q (.int (i % j)) H) : rI (fun _ j => 0 < j) (fun i j => .int (i % j)) (.int i) (.int j) H Q := ⟨i, j, rfl, rfl, h, q⟩
/-- // by a positive divisor hands on a letter -/
theorem r_div {i j : Int} (h0 : 0 ≤ i) (h : 0 < j) (h1 : j < 1073741824) (q : ∀ r : Int, 0 ≤ r → r ≤ i → Q (.int r) H) : rI CDiv (fun i j => .int (i / j)) (.int i) (.int j) H Q :=
  ⟨i, j, rfl, rfl, ⟨h, h1⟩, q _ (Int.ediv_nonneg h0 (by omega)) (Int.ediv_le_self _ h0)⟩
theorem r_mul {i j : Int} (c : (-(2 ^ 64) < i ∧ i < 2 ^ 64) ∨ (-(2 ^ 64) < j ∧ j < 2 ^ 64)) (q : Q (.int (i * j)) H) : rI CMul (fun i j => .int (i * j)) (.int i) (.int j) H Q := ⟨i, j, rfl, rfl, c, q⟩
theorem r_pow {i j : Int} (h0 : 0 ≤ j) (h1 : j ≤ 1000000) (c : i.natAbs < 2 ^ 64) (q : Q (.int (i ^ j.toNat)) H) : rI CPow (fun i j => .int (i ^ j.toNat)) (.int i) (.int j) H Q := ⟨i, j, rfl, rfl, ⟨h0, h1, c⟩, q⟩
theorem atI_int {xs : List V} {i : Int} (h0 : 0 ≤ i) (h1 : i < xs.length) : ∃ v, atI xs i = some v ∧ v ∈ xs := by
  obtain ⟨k, rfl⟩ : ∃ k : Nat, i = (k : Int) := ⟨i.toNat, by omega⟩
  have hk : k < xs.length := by omega
  exact ⟨xs[k], atI_nat (List.getElem?_eq_getElem hk), List.getElem_mem hk⟩
theorem r_pickL {p : Addr} {xs : List V} {i : Int} (h : H p = some (.lst xs)) (h0 : 0 ≤ i) (h1 : i < xs.length) (q : ∀ v ∈ xs, Q v H) : rIxL K (.ref p) (.int i) H Q := by
  obtain ⟨v, e, m⟩ := atI_int h0 h1
  exact r_ixLh h e (q v m)
end
/-- what was tracked stands as it stood, but at S -/
def Kp (S : List Addr) (H H' : Hp) : Prop := ∀ a o, a ∉ S → H a = some o → H' a = some o
theorem Kp.refl {S : List Addr} {H : Hp} : Kp S H H := fun _ _ _ h => h
theorem Kp.trans {S : List Addr} {H H1 H2 : Hp} (a : Kp S H H1) (b : Kp S H1 H2) : Kp S H H2 := fun c o n h => b c o n (a c o n h)
theorem Kp.put {H : Hp} {b : Addr} {o : HO} : Kp [b] H (upd H b o) := fun a u n h => by
  rw [upd_ne (by simpa using n)]
  exact h
theorem Kp.new {S : List Addr} {H : Hp} {b : Addr} {o : HO} (n : H b = none) : Kp S H (upd H b o) := fun a u _ h => by
  rw [upd_ne (ne_of_none h n)]
  exact h
theorem Kp.mono {S T : List Addr} {H H' : Hp} (k : Kp S H H') (h : ∀ a ∈ S, a ∈ T) : Kp T H H' := fun a o n e => k a o (fun z => n (h a z)) e
theorem Kp.at1 {b a : Addr} {H H' : Hp} {o : HO} (k : Kp [b] H H') (n : a ≠ b) (e : H a = some o) : H' a = some o := k a o (by simpa using n) e
theorem Kp.at0 {a : Addr} {H H' : Hp} {o : HO} (k : Kp [] H H') (e : H a = some o) : H' a = some o := k a o (by simp) e
end L2.Rx

end
section
set_option Elab.async false
set_option linter.all false
set_option maxRecDepth 100000
set_option maxHeartbeats 4000000
local macro_rules | `(tactic| walk_at "rd1") => `(tactic| with_reducible first
  | refine L2.Rx.r_seq ?_ | refine L2.Rx.r_asg ?_ | refine L2.Rx.r_gname ?_ | refine L2.Rx.r_op ?_ | refine L2.Rx.r_c ?_
  | refine L2.Rx.r_var rfl ?_
  | refine L2.Rx.r_rI0 ?_ | refine L2.Rx.r_test ?_ | refine L2.Rx.r_bl ?_ | refine L2.Rx.r_if ?_ | refine L2.Rx.r_ret ?_
  | refine L2.Rx.r_cons ?_ | refine L2.Rx.r_nil ?_ | refine L2.Rx.r_call ?_ | refine L2.Rx.r_cb ?_ | refine L2.Rx.r_next ?_ | refine L2.Rx.r_drop ?_
  | refine L2.Rx.r_gsub ?_ | refine L2.Rx.r_tupF ?_ | refine L2.Rx.r_lst ?_ | refine L2.Rx.r_par ?_ | refine L2.Rx.r_par2 ?_
  | refine L2.Rx.r_un ?_ | refine L2.Rx.r_tb ?_ | refine L2.Rx.r_and ?_ | refine L2.Rx.r_or ?_ | refine L2.Rx.r_not ?_
  | refine L2.Rx.r_andV ?_ | refine L2.Rx.r_orV ?_ | refine L2.Rx.r_notV ?_ | refine L2.Rx.r_ifx ?_ | refine L2.Rx.r_chain ?_
  | refine L2.Rx.r_sl ?_ | refine L2.Rx.r_nopart ?_ | refine L2.Rx.r_part ?_ | refine L2.Rx.r_exint ?_ | refine L2.Rx.r_bm0 ?_ | refine L2.Rx.r_bm ?_
  | refine L2.Rx.r_lc ?_ | refine L2.Rx.r_rng1 ?_ | refine L2.Rx.r_yes ?_ | refine L2.Rx.r_tt ?_ | refine L2.Rx.r_ff ?_ | refine L2.Rx.r_m1 ?_ | refine L2.Rx.r_m0 ?_ | refine L2.Rx.r_isS ?_
  | (refine L2.Rx.r_wipe (by with_unfolding_all rfl) ?_) | (refine L2.Rx.r_tyL (by walk_at "hp") ?_)
  | refine L2.Rx.r_addS (by walk_at "len") ?_ | refine L2.Rx.r_lenS (by walk_at "len") ?_ | refine L2.Rx.r_slS (by walk_at "len") ?_
  | refine L2.Rx.r_dnotin ?_ | refine L2.Rx.r_dget ?_ | refine L2.Rx.r_dget1 ?_ | refine L2.Rx.r_dput ?_ | refine L2.Rx.r_dpop1 ?_ | refine L2.Rx.r_isN ?_
  | refine L2.Rx.r_for ?_ | refine L2.Rx.r_ilist ?_ | refine L2.Rx.r_itup ?_
  | refine L2.Rx.r_gcons ?_ | refine L2.Rx.r_gnil ?_ | (refine L2.Rx.r_gtupP (by assumption) (by walk_at "at") ?_)
  | (refine L2.Rx.r_rEq rfl ?_) | (refine L2.Rx.r_rNe rfl ?_)
  | refine L2.Rx.r_rU ?_ | refine L2.Rx.r_max2 ?_ | refine L2.Rx.r_min2 ?_ | refine L2.Rx.r_int1i ?_ | (refine L2.Rx.r_lenh (by walk_at "hp") ?_)
  | (refine L2.Rx.r_ixLh (by walk_at "hp") (by walk_at "at") ?_)
  | (refine L2.Rx.r_setL (by walk_at "hp") (by walk_at "at") ?_))
local macro_rules | `(tactic| walk_at "at") => `(tactic| with_unfolding_all rfl)
local macro_rules | `(tactic| walk_at "rd") => `(tactic| (repeat walk_at "rd1"))
local macro_rules | `(tactic| walk_at "hp") => `(tactic| first
  | assumption
  | exact L2.upd_same
  | (refine Eq.trans (L2.upd_ne ?_) ?_; (focus walk_at "ne"); (focus walk_at "hp"))
  | (refine L2.Rx.Kp.at0 (by assumption) ?_; walk_at "hp")
  | (refine L2.Rx.Kp.at1 (by assumption) ?_ ?_; (focus walk_at "ne"); (focus walk_at "hp")))
local macro_rules | `(tactic| walk_at "ne") => `(tactic| first
  | assumption | exact Ne.symm (by assumption)
  | (refine L2.ne_of_none (H := ?nH) (o := ?nO) ?nh ?nn; (case nn => assumption); (case nh => walk_at "hp"))
  | (refine Ne.symm (L2.ne_of_none (H := ?nH) (o := ?nO) ?nh ?nn); (case nn => assumption); (case nh => walk_at "hp")))
local macro_rules | `(tactic| walk_at "len") => `(tactic| (rw [PySem.sizeLine_eq]; omega))
local macro_rules | `(tactic| walk_at "nin") => `(tactic| first
  | exact List.not_mem_nil
  | (refine L2.Rx.nin1 ?_; walk_at "ne"))
local macro_rules | `(tactic| walk_at "none") => `(tactic| first
  | assumption
  | (refine L2.Rx.Kp.none0 (by assumption) ?_ ?_; (focus walk_at "nin"); (focus walk_at "none")))
namespace L2.Rx
open PySem PySem.Spec PyProof.Rows
/-! ### defs called where no repr is under way -/
structure RoomG (k : Nat) (A : Around) : Prop where
  up : Room k A
  gd : A.guards = some []
theorem RoomG.mono {j k : Nat} {A : Around} (r : RoomG k A) (h : j ≤ k) : RoomG j A := ⟨r.up.mono h, r.gd⟩
theorem RoomG.units {k : Nat} {A : Around} (r : RoomG k A) : A.units + 64 < cLine := r.up.units
theorem RoomG.hu {k : Nat} {A : Around} (r : RoomG k A) : A.units + 1 < cLine := hu_of r.up
/-- FnOk, asked where no repr is under way -/
structure FnG (P : Program) (w : World) (K : PySem.W.Frag) (mg : Str → Option Value) (base : Heap) (CX : CXT) (k : Nat) (f : Addr) (fd : FuncData) (ps : List Str) (sp : Sp) : Prop where
  len : ∀ vs H Q E, sp vs H Q E → vs.length = ps.length
  run : ∀ (A : Around) (outer : List Env) (s : Shared) (H : Hp) (args : Args) (us : List Value) (vs : List V) (Q : VK) (E : XK), RoomG k A → Env0 P w K mg base A outer s H →
    BindsTo s fd args (ps.zip us) → Vals vs us → sp vs H Q E → codeAny (model P w) A (.call (.ref f) args) (CR CX outer P w H s Q E) s
section
variable {P : Program} {w : World} {K : PySem.W.Frag} {mg : Str → Option Value} {base : Heap} {CX : CXT}
theorem fnG_body {x qual : Str} {st : Stmt} {f : Addr} {fd : FuncData} {N ps : List Str} {k : Nat} {sp : Sp} (F : Fun K x qual st f fd) (S : FnScope N ps (defScope st)) (len : ∀ vs H Q E, sp vs H Q E → vs.length = ps.length)
    (bd : ∀ (cdv : Value) (A : Around) (outer : List Env) (s : Shared) (H : Hp) (vs : List V) (Q : VK) (E : XK), RoomG k (A.deeper (envOfC qual (defScope st) s.heap.objs.size f cdv)) → sp vs H Q E →
      ∃ t, PSs (cxOf CX P w K mg base N qual (defScope st) f cdv A outer s H E) (defBody st) t ∧ t ⟨fun _ H' => Q .non H', Q, fun _ _ => False, fun _ _ => False⟩ (start N vs) H) : FnG P w K mg base CX (k + 1) f fd ps sp := by
  obtain ⟨oc, od, kV, doc, pm, an, cdv, ct, osl, rfl, lk, hcd⟩ := F.ex
  constructor
  · exact len
  intro A outer s H args us vs Q E room env bind rel want
  have kept : ∀ b o, base.get? b = some o → s.heap.get? b = some o := fun b o e => (env.bs b o e).1
  have KX : K.In s.heap := env.mod.kin.keeps kept
  have places : ∀ y ∈ ps.zip us, (defScope st).names.lookup y.1 = some .local ∨ ((defScope st).names.lookup y.1 = some .cell ∧ ((cellsFrom (s.heap.objs.size + 1) (defScope st).names []).lookup y.1).isSome = true) := by
    intro y hy
    cases S.par y.1 (List.of_mem_zip (show (y.1, y.2) ∈ ps.zip us from hy)).1 with
    | inl q => exact .inl q
    | inr q => exact .inr ⟨q, PySem.W.cellsFrom_some _ _ _ (.inl q)⟩
  refine codeAny_call_function (fd := PySem.W.fnOf x qual (defArgs st) (defBody st) (defScope st) .none kV doc pm an cdv ct) room.up.depth (KX _ _ lk) rfl S.co S.gen rfl (PySem.W.codeRec_of KX hcd) (bind _ _ _ _ ?_)
  refine wpAny_newFunctionEnv_cells S.kind places fun e he s1 entered => ?_
  cases he
  have lim : s.heap.NoLimit := env.mod.nolimit.keeps kept
  refine ⟨lim.keeps entered.toInCall.keep, codeAny_func ?_⟩
  obtain ⟨t, der, rd⟩ := bd cdv A outer s H vs Q E ⟨room.up.deeper _, room.gd⟩ want
  have I0 := inv_start (CX := CX) (qual := qual) (E := E) S room.up.hd env (len _ _ _ _ want) rel entered
  refine wpAny_mono (der.run [] s1 (start N vs) H _ I0 rd) ?_ (fun _ _ z => z)
  intro fl s' out
  cases fl with
  | ret u => obtain ⟨v, σ', H', J, rv, q⟩ := out; exact ⟨v, H', J.os, J.bare, J.base, J.hok, rv, q⟩
  | next => obtain ⟨σ', H', J, q⟩ := out; exact ⟨.non, H', J.os, J.bare, J.base, J.hok, rfl, q⟩
  | brk => obtain ⟨_, _, _, q⟩ := out; exact q.elim
  | cont => obtain ⟨_, _, _, q⟩ := out; exact q.elim
end
section
variable {X : Cx} {CX : CXT} {k : Nat} {f : Addr} {fd : FuncData} {ps ks : List Str} {sp : Sp} {E : XK} {x : Str} {p pos : Pos} {e : Expr} {es : List Expr} {kws : List Keyword} {t tk : TA}
theorem callG {pins : List (Addr × Obj)} {σ : St} {H : Hp} {s : Shared} {Q : VK} {args : Args} {us : List Value} {vs : List V} (F : FnG X.prog X.w X.K X.mg X.base CX k f fd ps sp) (hr : RoomG k X.A) (hx : Passes CX X E)
    (I : Inv X pins σ H s) (hb : us.length = ps.length → BindsTo s fd args (ps.zip us)) (r : Vals vs us) (h : sp vs H Q E) : wpAny (model X.prog X.w) X.A (call (.ref f) args.pos args.kw) (EP X pins σ Q) X.xe s := by
  have hl : us.length = ps.length := r.length.symm.trans (F.len _ _ _ _ h)
  refine wpAny_call (codeAny_mono (F.run X.A X.stack s H args us vs Q E hr I.env0 (hb hl) r h) ?_)
  intro res s' out
  cases res with
  | error err => exact hx pins σ H s err s' I out
  | ok fl =>
    cases fl with
    | ret u => exact I.after out
    | _ => exact False.elim out
end
/-- a def of the module that may be called by its name -/
structure Kn (P : Program) (w : World) (K : PySem.W.Frag) (mg : Str → Option Value) (base : Heap) (CX : CXT) (k : Nat) (x : Str) (sp : Sp) : Prop where
  ex : ∃ (f : Addr) (fd : FuncData) (ps : List Str), FnG P w K mg base CX k f fd ps sp ∧ mg x = some (.ref f) ∧ PySem.W.keepIn K (.ref f) = true ∧ Binds K fd ps []
/-- .. with all its arguments by name, in the order ks; g: the parameters' order -/
structure KnK (P : Program) (w : World) (K : PySem.W.Frag) (mg : Str → Option Value) (base : Heap) (CX : CXT) (k : Nat) (x : Str) (ks : List Str) (g : List V → List V) (sp : Sp) : Prop where
  ex : ∃ (f : Addr) (fd : FuncData) (ps : List Str) (gv : List Value → List Value), FnG P w K mg base CX k f fd ps sp ∧ mg x = some (.ref f) ∧ PySem.W.keepIn K (.ref f) = true ∧
    (∀ (s : Shared) (ws : List Value), K.In s.heap → (gv ws).length = ps.length → BindsTo s fd ⟨[], ks.zip ws⟩ (ps.zip (gv ws))) ∧ ∀ (zs : List V) (ws : List Value), Vals zs ws → Vals (g zs) (gv ws)
def tKw (g : List V → List V) (sp : Sp) (E : XK) (t : TA) : TE := fun σ H Q => t σ H fun vs H1 => sp (g vs) H1 Q E
theorem r_kw {g : List V → List V} {sp : Sp} {E : XK} {t : TA} {σ : St} {H : Hp} {Q : VK} (h : t σ H fun vs H1 => sp (g vs) H1 Q E) : tKw g sp E t σ H Q := h
section
variable {X : Cx} {CX : CXT} {k j : Nat} {sp : Sp} {E : XK} {x : Str} {p pos : Pos} {e : Expr} {es : List Expr} {t : TA}
theorem Kn.callX (c : Kn X.prog X.w X.K X.mg X.base CX k x sp) (hr : RoomG j X.A) (hk : k ≤ j) (hx : Passes CX X E) (hg : Gl X x) (ha : PA X (e :: es) t)
    (hdb : (x == ("__debug__" : Str)) = false := by decide) (he : starEach (e :: es) X.env = (false, eval e X.env) :: starEach es X.env := by rfl) (hpl : (backTo pos (starEach es X.env)).any (·.1) = false := by rfl) :
    PE X (.Call (.Name x p) (e :: es) [] pos) (tCall sp [] E t) := by
  obtain ⟨f, fd, ps, F, hm, kp, b⟩ := c.ex
  constructor
  intro pins s σ H Q I h
  refine wpAny_Call_Name_kw (ld_glob I hg hm ?_ hdb)
  refine PySem.W.callWith_K (h₀ := X.base) I.ok.mod.kin kp (thn (ha.run pos pins s σ H _ I h) ?_) he hpl
  rintro us s1 ⟨vs, H1, I1, r, q⟩
  refine ⟨I1.kIn, callG (args := ⟨us, []⟩) (us := us) F (hr.mono hk) hx I1 (fun hl => ?_) r (by rw [List.append_nil] at q; exact q)⟩
  have := b s1 us I1.kIn (by rw [List.append_nil]; exact hl)
  rw [List.append_nil] at this
  exact this
end
section
variable {X : Cx} {k j : Nat} {sp : Sp} {x : Str} {p pos : Pos} {e : Expr} {es : List Expr} {t : TA}
theorem Kn.call (c : Kn X.prog X.w X.K X.mg X.base CX0 k x sp) (hr : RoomG j X.A) (hk : k ≤ j) (hg : Gl X x) (ha : PA X (e :: es) t)
    (hdb : (x == ("__debug__" : Str)) = false := by decide) (he : starEach (e :: es) X.env = (false, eval e X.env) :: starEach es X.env := by rfl) (hpl : (backTo pos (starEach es X.env)).any (·.1) = false := by rfl) :
    PE X (.Call (.Name x p) (e :: es) [] pos) (tCall sp [] E0 t) := c.callX hr hk pass0 hg ha hdb he hpl
theorem Kn.mono {P : Program} {w : World} {K : PySem.W.Frag} {mg : Str → Option Value} {base : Heap} {CX : CXT} (c : Kn P w K mg base CX k x sp) (h : k ≤ j) : Kn P w K mg base CX j x sp := by
  obtain ⟨f, fd, ps, F, r⟩ := c.ex
  exact ⟨f, fd, ps, ⟨F.len, fun A outer s H args us vs Q E hr => F.run A outer s H args us vs Q E (hr.mono h)⟩, r⟩
end
/-! ### repr of data -/
def rRepr (K : PySem.W.Frag) : List V → Hp → VK → Prop := fun xs H Q => ∃ (v : V) (d : PyData), xs = [v] ∧ Dp K H v d ∧ d.showable = true ∧ d.depth ≤ 60 ∧ d.shown.length ≤ sizeLine ∧ Q (.str d.shown) H
theorem Dp.noDict {K : PySem.W.Frag} {H : Hp} : ∀ (d : PyData) (v : V), Dp K H v d → d.hasDict = false := by
  intro d v h
  exact Dp.rec (motive_1 := fun _ d _ => d.hasDict = false) (motive_2 := fun _ ds _ => PyData.hasDictAll ds = false) (by simp [PyData.hasDict]) (fun _ => by simp [PyData.hasDict]) (fun _ => by simp [PyData.hasDict]) (fun _ => by simp [PyData.hasDict])
    (fun _ _ ih => by simpa [PyData.hasDict] using ih) (fun _ _ ih => by simpa [PyData.hasDict] using ih) (by simp [PyData.hasDictAll]) (fun _ _ i1 i2 => by simp [PyData.hasDictAll, i1, i2]) h
theorem call_repr {X : Cx} {k : Nat} (hr : RoomG k X.A) : CallR X (.builtin "repr") (rRepr X.K) := by
  intro pins s σ H xs us Q I r h
  obtain ⟨v, d, rfl, hd, hs, hdp, hz, q⟩ := h
  obtain ⟨u, rfl, ru⟩ := vals1 r
  obtain ⟨as, rd⟩ := Dp.reads I d v u hd ru
  have nd := Dp.noDict d v hd
  have hu : X.A.units + (d.depth + 1) < cLine := by have := hr.units; omega
  have fin : ∀ h' t tk, (∀ b o, s.heap.get? b = some o → h'.get? b = some o) → EP X pins σ Q (.str d.shown t) { s with heap := h', toks := tk } := fun h' t tk hk =>
    ⟨.str d.shown, H, I.kept hk, ⟨t, rfl⟩, q⟩
  cases hd with
  | lst _ _ => cases ru; exact repr_of_reads' rd hs (PyData.noDict_hsm nd) hr.gd hu (fun _ _ e => e) fin hz
  | tup _ _ => cases ru; exact repr_of_reads' rd hs (PyData.noDict_hsm nd) hr.gd hu (fun _ _ e => e) fin hz
  | non => cases ru; exact PySem.P.repr_of_none ⟨.str _, H, I.tok _, ⟨_, rfl⟩, by simpa [PyData.shown] using q⟩
  | bl b => cases ru; exact PySem.P.repr_of_bool ⟨.str _, H, I.tok _, ⟨_, rfl⟩, by simpa [PyData.shown] using q⟩
  | int i => obtain ⟨t, rfl⟩ := ru; exact PySem.P.repr_of_int (by simpa [PyData.showable] using hs) ⟨.str _, H, I.tok _, ⟨_, rfl⟩, by simpa [PyData.shown] using q⟩
  | str y => obtain ⟨t, rfl⟩ := ru; exact PySem.P.repr_of_str ⟨.str _, H, I.tok _, ⟨_, rfl⟩, by simpa [PyData.shown] using q⟩ (by simpa [PyData.shown] using hz)
end L2.Rx

end
section
set_option Elab.async false
set_option linter.all false
set_option maxRecDepth 100000
set_option maxHeartbeats 4000000
local macro_rules | `(tactic| walk_at "rd1") => `(tactic| with_reducible first
  | refine L2.Rx.r_seq ?_ | refine L2.Rx.r_asg ?_ | refine L2.Rx.r_gname ?_ | refine L2.Rx.r_op ?_ | refine L2.Rx.r_c ?_
  | refine L2.Rx.r_var rfl ?_
  | refine L2.Rx.r_rI0 ?_ | refine L2.Rx.r_test ?_ | refine L2.Rx.r_bl ?_ | refine L2.Rx.r_if ?_ | refine L2.Rx.r_ret ?_
  | refine L2.Rx.r_cons ?_ | refine L2.Rx.r_nil ?_ | refine L2.Rx.r_call ?_ | refine L2.Rx.r_cb ?_ | refine L2.Rx.r_next ?_ | refine L2.Rx.r_drop ?_
  | refine L2.Rx.r_gsub ?_ | refine L2.Rx.r_tupF ?_ | refine L2.Rx.r_lst ?_ | refine L2.Rx.r_par ?_ | refine L2.Rx.r_par2 ?_
  | refine L2.Rx.r_un ?_ | refine L2.Rx.r_tb ?_ | refine L2.Rx.r_and ?_ | refine L2.Rx.r_or ?_ | refine L2.Rx.r_not ?_
  | refine L2.Rx.r_andV ?_ | refine L2.Rx.r_orV ?_ | refine L2.Rx.r_notV ?_ | refine L2.Rx.r_ifx ?_ | refine L2.Rx.r_chain ?_
  | refine L2.Rx.r_sl ?_ | refine L2.Rx.r_nopart ?_ | refine L2.Rx.r_part ?_ | refine L2.Rx.r_exint ?_ | refine L2.Rx.r_bm0 ?_ | refine L2.Rx.r_bm ?_
  | refine L2.Rx.r_lc ?_ | refine L2.Rx.r_rng1 ?_ | refine L2.Rx.r_yes ?_ | refine L2.Rx.r_tt ?_ | refine L2.Rx.r_ff ?_ | refine L2.Rx.r_m1 ?_ | refine L2.Rx.r_m0 ?_ | refine L2.Rx.r_isS ?_
  | (refine L2.Rx.r_wipe (by with_unfolding_all rfl) ?_) | (refine L2.Rx.r_tyL (by walk_at "hp") ?_)
  | refine L2.Rx.r_addS (by walk_at "len") ?_ | refine L2.Rx.r_lenS (by walk_at "len") ?_ | refine L2.Rx.r_slS (by walk_at "len") ?_
  | refine L2.Rx.r_dnotin ?_ | refine L2.Rx.r_dget ?_ | refine L2.Rx.r_dget1 ?_ | refine L2.Rx.r_dput ?_ | refine L2.Rx.r_dpop1 ?_ | refine L2.Rx.r_isN ?_
  | refine L2.Rx.r_for ?_ | refine L2.Rx.r_ilist ?_ | refine L2.Rx.r_itup ?_
  | refine L2.Rx.r_gcons ?_ | refine L2.Rx.r_gnil ?_ | (refine L2.Rx.r_gtupP (by assumption) (by walk_at "at") ?_)
  | (refine L2.Rx.r_rEq rfl ?_) | (refine L2.Rx.r_rNe rfl ?_)
  | refine L2.Rx.r_rU ?_ | refine L2.Rx.r_max2 ?_ | refine L2.Rx.r_min2 ?_ | refine L2.Rx.r_int1i ?_ | (refine L2.Rx.r_lenh (by walk_at "hp") ?_)
  | (refine L2.Rx.r_ixLh (by walk_at "hp") (by walk_at "at") ?_)
  | (refine L2.Rx.r_setL (by walk_at "hp") (by walk_at "at") ?_))
local macro_rules | `(tactic| walk_at "at") => `(tactic| with_unfolding_all rfl)
local macro_rules | `(tactic| walk_at "rd") => `(tactic| (repeat walk_at "rd1"))
local macro_rules | `(tactic| walk_at "hp") => `(tactic| first
  | assumption
  | exact L2.upd_same
  | (refine Eq.trans (L2.upd_ne ?_) ?_; (focus walk_at "ne"); (focus walk_at "hp"))
  | (refine L2.Rx.Kp.at0 (by assumption) ?_; walk_at "hp")
  | (refine L2.Rx.Kp.at1 (by assumption) ?_ ?_; (focus walk_at "ne"); (focus walk_at "hp")))
local macro_rules | `(tactic| walk_at "ne") => `(tactic| first
  | assumption | exact Ne.symm (by assumption)
  | (refine L2.ne_of_none (H := ?nH) (o := ?nO) ?nh ?nn; (case nn => assumption); (case nh => walk_at "hp"))
  | (refine Ne.symm (L2.ne_of_none (H := ?nH) (o := ?nO) ?nh ?nn); (case nn => assumption); (case nh => walk_at "hp")))
local macro_rules | `(tactic| walk_at "len") => `(tactic| (rw [PySem.sizeLine_eq]; omega))
local macro_rules | `(tactic| walk_at "nin") => `(tactic| first
  | exact List.not_mem_nil
  | (refine L2.Rx.nin1 ?_; walk_at "ne"))
local macro_rules | `(tactic| walk_at "none") => `(tactic| first
  | assumption
  | (refine L2.Rx.Kp.none0 (by assumption) ?_ ?_; (focus walk_at "nin"); (focus walk_at "none")))
namespace L2.Rx
open PySem PySem.Spec PyProof.Rows
/-! ### the law's call, where no repr is under way -/
theorem lawG {P : Program} {w : World} {K : PySem.W.Frag} {mg mb : Str → Option Value} {k : Nat} {fa a : Addr} {fd : FuncData} {x : Str} {sp : Sp} {st : Shared} {vs : List Value} {ns : List Int}
    (KX : K.In st.heap) (hns : st.heap.Ns mainGlobals mg) (hb : st.heap.Ns builtinsNs mb) (hbb : ∀ x : Str, x ≠ "__name__" → mb x = bootBuiltins x) (hlim : st.heap.NoLimit) (hg : st.gens = #[])
    (ha : st.heap.get? a = some { cls := .type "list", data := .seq vs.toArray }) (hi : IntsAre vs ns) (hl : ns.length ≤ sizeLine) (hr : Room k callerA)
    (F : ∀ base : Heap, K.In base → base.Ns mainGlobals mg → FnG P w K mg base CX0 k fa fd [x] sp) (hbind : ∀ (s : Shared) (u : Value), BindsTo s fd ⟨[u], []⟩ [(x, u)])
    (hsp : ∀ H : Hp, Only H → SqL K H a (ns.map V.int) → sp [.ref a] H (fun v _ => v = .bl true) E0) :
    codeAny (model P w) callerA (.call (.ref fa) ⟨[.ref a], []⟩) (fun r s' => r = .ok (.ret (.bool true)) ∧ OldK st.heap s'.heap ∧ s'.os = st.os ∧ AllBare s'.gens) st := by
  have rel := vals_ints hi
  -- the script's place, tracked or an object of the module
  have go : ∀ H : Hp, Only H → SqL K H a (ns.map V.int) → HOk P w H st.heap → (∀ b o, H b = some o → b = a ∧ K.lookup a = none) →
      codeAny (model P w) callerA (.call (.ref fa) ⟨[.ref a], []⟩) (fun r s' => r = .ok (.ret (.bool true)) ∧ OldK st.heap s'.heap ∧ s'.os = st.os ∧ AllBare s'.gens) st := by
    intro H only scr hok alone
    have keep : ∀ {b : Addr} {o : Obj}, st.heap.get? b = some o → (b = a → K.lookup a ≠ none ∨ o.data ≠ Data.seq vs.toArray) → (hidT st.heap H).get? b = some o := by
      intro b o e ne
      refine hidT_get e ?_
      cases q : H b with
      | none => rfl
      | some u =>
        obtain ⟨z, zk⟩ := alone b u q
        rcases ne z with n | n
        · exact absurd zk n
        · rw [z, ha] at e
          cases e
          exact absurd rfl n
    have nsk : ∀ {b : Addr} {m : Str → Option Value}, st.heap.Ns b m → (hidT st.heap H).Ns b m := by
      rintro b m ⟨o, es, ep, e, d, r⟩
      exact ⟨o, es, ep, keep e fun _ => .inr (by rw [d]; intro z; cases z), d, r⟩
    have kb : K.In (hidT st.heap H) := fun b o e => keep (KX b o e) fun z => .inl (by rw [← z, e]; simp)
    obtain ⟨mc, c1, c2⟩ := hlim
    have mod : Mod K mg (hidT st.heap H) := ⟨kb, nsk hns, ⟨mb, nsk hb, hbb⟩, mc, nsk c1, c2⟩
    have env : Env0 P w K mg (hidT st.heap H) callerA [] st H := ⟨rfl, mod, fun _ _ e => of_hidT e, Nat.le_of_eq (hidT_size _ _), trivial, fun b hb => absurd (show b ∈ ([] : List Addr) from hb) (by simp), hok, .of_eq hg⟩
    refine codeAny_mono ((F _ kb (nsk hns)).run callerA [] st H ⟨[.ref a], []⟩ [.ref a] [.ref a] _ _ ⟨hr, rfl⟩ env (hbind st (.ref a)) (.cons rfl .nil) (hsp H only scr)) ?_
    intro res s' out
    cases res with
    | error err => exact False.elim out
    | ok fl =>
      cases fl with
      | ret u =>
        obtain ⟨v, H', os, bare, un, hok', rv, rfl⟩ := out
        cases rv
        refine ⟨rfl, OldK.of_keep ?_, os, bare⟩
        intro b o e
        cases q : H b with
        | none => exact un.keep b o e q (fun z => absurd (show b ∈ ([] : List Addr) from z) (by simp)) (by simp)
        | some u =>
          rcases only b with z | ⟨ob, xs, z⟩
          · rw [q] at z
            cases z
          · have h1 := (hok b _ z).1
            have h2 := (hok' b _ (un.frzs b ob _ z)).1
            rw [e] at h1
            cases h1
            exact h2
      | _ => exact False.elim out
  cases hk : K.lookup a with
  | some o =>
    have e := KX a o hk
    rw [ha] at e
    cases e
    exact go (fun _ => none) (fun _ => .inl rfl) (.inr ⟨_, vs.toArray, _, hk, rfl, rfl, rfl, by rw [List.size_toArray, hi.length]; exact hl, by simpa using rel⟩) (fun b u z => nomatch (show (none : Option HO) = some u from z)) fun b u z => nomatch (show (none : Option HO) = some u from z)
  | none =>
    have only_a : ∀ b u, upd (fun _ => none) a (HO.frz { cls := .type "list", data := .seq vs.toArray } (.lst (ns.map V.int))) b = some u → b = a := by
      intro b u z
      by_cases hb : b = a
      · exact hb
      · rw [upd_ne hb] at z
        cases z
    refine go (upd (fun _ => none) a (HO.frz { cls := .type "list", data := .seq vs.toArray } (.lst (ns.map V.int)))) (fun b => ?_) (.inl (.inr ⟨_, upd_same⟩)) (fun b u z => ?_) (fun b u z => ⟨only_a b u z, hk⟩)
    · by_cases hb : b = a
      · rw [hb]
        exact .inr ⟨_, _, upd_same⟩
      · exact .inl (upd_ne hb)
    · have hb := only_a b u z
      subst hb
      rw [upd_same] at z
      cases z
      exact ⟨ha, by rw [List.length_map]; exact hl, vs, _, rel, ha⟩
/-- the goal that k_head leaves -/
theorem walkG {l : PySem.W.OpenLaw} {n k : Nat} {q : Program} {loose : List Str} {XP : (Str → Option Value) → Heap → Prop} {YP : World → Heap → Prop} {d : DefRec} {K : Params → PySem.W.Frag} {sp : PySem.W.Frag → Sp} {x : Str}
    (hn : l.most = some n) (hn2 : n ≤ sizeLine) (hdf : d.params.defaults = []) (hr : Room k callerA)
    (hY : ∀ (w : World) (h : Heap), YP w h → (K w.params).In h)
    (F : ∀ (w : World) (mg : Str → Option Value) (fa : Addr) (h : Heap), (K w.params).In h → h.Ns mainGlobals mg → mg d.name = some (.ref fa) →
      ∃ fd : FuncData, (∀ (s : Shared) (u : Value), BindsTo s fd ⟨[u], []⟩ [(x, u)]) ∧
        ∀ base : Heap, (K w.params).In base → base.Ns mainGlobals mg → FnG l.prog w (K w.params) mg base CX0 k fa fd [x] (sp (K w.params)))
    (hsp : ∀ (K : PySem.W.Frag) (H : Hp) (a : Addr) (ns : List Int), ns.length ≤ n → Only H → SqL K H a (ns.map V.int) → sp K [.ref a] H (fun v _ => v = .bl true) E0) :
    PySem.W.WalkO q loose XP YP l.row.toRowW d [] (fun f vs => PySem.call f vs) := by
  refine Att.attach_call hn hdf ?_
  intro w s₀ st mg mb fa o pm cd doc a vs ns G Y ho hd hcd hmg hobj hints hlen hg
  have KX := hY w _ Y
  obtain ⟨fd, bd, hF⟩ := F w mg fa _ KX G.T.g hmg
  exact lawG KX G.T.g G.T.b G.T.builtins G.T.nolimit hg hobj hints (Nat.le_trans hlen hn2) hr hF bd fun H only scr => hsp _ H a ns hlen only scr
end L2.Rx

end
section
set_option Elab.async false
set_option linter.all false
set_option maxRecDepth 100000
set_option maxHeartbeats 4000000
local macro_rules | `(tactic| walk_at "rd1") => `(tactic| with_reducible first
  | refine L2.Rx.r_seq ?_ | refine L2.Rx.r_asg ?_ | refine L2.Rx.r_gname ?_ | refine L2.Rx.r_op ?_ | refine L2.Rx.r_c ?_
  | refine L2.Rx.r_var rfl ?_
  | refine L2.Rx.r_rI0 ?_ | refine L2.Rx.r_test ?_ | refine L2.Rx.r_bl ?_ | refine L2.Rx.r_if ?_ | refine L2.Rx.r_ret ?_
  | refine L2.Rx.r_cons ?_ | refine L2.Rx.r_nil ?_ | refine L2.Rx.r_call ?_ | refine L2.Rx.r_cb ?_ | refine L2.Rx.r_next ?_ | refine L2.Rx.r_drop ?_
  | refine L2.Rx.r_gsub ?_ | refine L2.Rx.r_tupF ?_ | refine L2.Rx.r_lst ?_ | refine L2.Rx.r_par ?_ | refine L2.Rx.r_par2 ?_
  | refine L2.Rx.r_un ?_ | refine L2.Rx.r_tb ?_ | refine L2.Rx.r_and ?_ | refine L2.Rx.r_or ?_ | refine L2.Rx.r_not ?_
  | refine L2.Rx.r_andV ?_ | refine L2.Rx.r_orV ?_ | refine L2.Rx.r_notV ?_ | refine L2.Rx.r_ifx ?_ | refine L2.Rx.r_chain ?_
  | refine L2.Rx.r_sl ?_ | refine L2.Rx.r_nopart ?_ | refine L2.Rx.r_part ?_ | refine L2.Rx.r_exint ?_ | refine L2.Rx.r_bm0 ?_ | refine L2.Rx.r_bm ?_
  | refine L2.Rx.r_lc ?_ | refine L2.Rx.r_rng1 ?_ | refine L2.Rx.r_yes ?_ | refine L2.Rx.r_tt ?_ | refine L2.Rx.r_ff ?_ | refine L2.Rx.r_m1 ?_ | refine L2.Rx.r_m0 ?_ | refine L2.Rx.r_isS ?_
  | (refine L2.Rx.r_wipe (by with_unfolding_all rfl) ?_) | (refine L2.Rx.r_tyL (by walk_at "hp") ?_)
  | refine L2.Rx.r_addS (by walk_at "len") ?_ | refine L2.Rx.r_lenS (by walk_at "len") ?_ | refine L2.Rx.r_slS (by walk_at "len") ?_
  | refine L2.Rx.r_dnotin ?_ | refine L2.Rx.r_dget ?_ | refine L2.Rx.r_dget1 ?_ | refine L2.Rx.r_dput ?_ | refine L2.Rx.r_dpop1 ?_ | refine L2.Rx.r_isN ?_
  | refine L2.Rx.r_for ?_ | refine L2.Rx.r_ilist ?_ | refine L2.Rx.r_itup ?_
  | refine L2.Rx.r_gcons ?_ | refine L2.Rx.r_gnil ?_ | (refine L2.Rx.r_gtupP (by assumption) (by walk_at "at") ?_)
  | (refine L2.Rx.r_rEq rfl ?_) | (refine L2.Rx.r_rNe rfl ?_)
  | refine L2.Rx.r_rU ?_ | refine L2.Rx.r_max2 ?_ | refine L2.Rx.r_min2 ?_ | refine L2.Rx.r_int1i ?_ | (refine L2.Rx.r_lenh (by walk_at "hp") ?_)
  | (refine L2.Rx.r_ixLh (by walk_at "hp") (by walk_at "at") ?_)
  | (refine L2.Rx.r_setL (by walk_at "hp") (by walk_at "at") ?_))
local macro_rules | `(tactic| walk_at "at") => `(tactic| with_unfolding_all rfl)
local macro_rules | `(tactic| walk_at "rd") => `(tactic| (repeat walk_at "rd1"))
local macro_rules | `(tactic| walk_at "hp") => `(tactic| first
  | assumption
  | exact L2.upd_same
  | (refine Eq.trans (L2.upd_ne ?_) ?_; (focus walk_at "ne"); (focus walk_at "hp"))
  | (refine L2.Rx.Kp.at0 (by assumption) ?_; walk_at "hp")
  | (refine L2.Rx.Kp.at1 (by assumption) ?_ ?_; (focus walk_at "ne"); (focus walk_at "hp")))
local macro_rules | `(tactic| walk_at "ne") => `(tactic| first
  | assumption | exact Ne.symm (by assumption)
  | (refine L2.ne_of_none (H := ?nH) (o := ?nO) ?nh ?nn; (case nn => assumption); (case nh => walk_at "hp"))
  | (refine Ne.symm (L2.ne_of_none (H := ?nH) (o := ?nO) ?nh ?nn); (case nn => assumption); (case nh => walk_at "hp")))
local macro_rules | `(tactic| walk_at "len") => `(tactic| (rw [PySem.sizeLine_eq]; omega))
local macro_rules | `(tactic| walk_at "nin") => `(tactic| first
  | exact List.not_mem_nil
  | (refine L2.Rx.nin1 ?_; walk_at "ne"))
local macro_rules | `(tactic| walk_at "none") => `(tactic| first
  | assumption
  | (refine L2.Rx.Kp.none0 (by assumption) ?_ ?_; (focus walk_at "nin"); (focus walk_at "none")))
namespace L2.Rx
open PySem PySem.Spec PyProof.Rows
/-! ### sorted of a list or a tuple of alike data -/
open PySem.W in
theorem sortsAt_few {prog : Program} {w : World} {A : Around} {s : Shared} {vs : List Value} {ds : List PyData} (e : EachIs (fun v d => ∃ as, Reads s.heap v d as) vs ds) (hal : AllAlike ds) (hn : ∀ d ∈ ds, d ≠ .none) (hl : vs.length < 2) (hu : ∀ d, d ∈ ds → A.units + d.depth < cLine) :
    SortsAt prog w A s (dataKind s.heap ds) vs := by
  refine ⟨fun v hv => ?_, general', ?_, fun h2 => absurd hl (by omega)⟩
  · obtain ⟨d, hd, as, r⟩ := e.left v hv
    exact ⟨_, dataKind_some hal hd r⟩
  · intro E x y a b Q ha hb hq
    obtain ⟨d, as, hd, ra, rfl⟩ := dataKind_inv ha
    obtain ⟨d', as', hd', rb, rfl⟩ := dataKind_inv hb
    show wpAny _ _ (oneLt' false x y) _ _ _
    exact oneLt_alike (fun z => nomatch z) ra rb (hal d hd d' hd') (hn d hd) (Nat.lt_of_le_of_lt (Nat.add_le_add_left (Nat.min_le_left _ _) _) (hu d hd)) hq
/-- what may be sorted: alike data, none of them None, all tuples with an item or none a tuple; or fewer than two -/
def Sb (ds : List PyData) : Prop := PySem.W.AllAlike ds ∧ (∀ d ∈ ds, d.depth ≤ 60 ∧ d ≠ .none) ∧ (PySem.W.Sortable ds ∨ ds.length < 2)
theorem EachIs_zip {K : PySem.W.Frag} {H : Hp} {X : Cx} {pins : List (Addr × Obj)} {σ : St} {s : Shared} (I : Inv X pins σ H s) : ∀ {ds : List PyData} {ys : List V} {us : List Value}, DpAll X.K H ys ds → Vals ys us →
    PySem.W.EachIs (fun u (p : PyData × V) => RelV p.2 u) us (ds.zip ys) ∧ PySem.W.EachIs (fun u (p : PyData × V) => ∃ as, Reads s.heap u p.1 as) us (ds.zip ys)
  | [], _, _, h, r => by
    cases h
    cases r
    exact ⟨.nil, .nil⟩
  | d :: ds, _, _, h, r => by
    cases h with
    | cons h1 h2 =>
      cases r with
      | cons r1 r2 =>
        obtain ⟨a, b⟩ := EachIs_zip (K := K) I h2 r2
        exact ⟨.cons r1 a, .cons (Dp.reads I d _ _ h1 r1) b⟩
theorem vals_of_each : ∀ {us : List Value} {bs : List (PyData × V)}, PySem.W.EachIs (fun u p => RelV p.2 u) us bs → Vals (bs.map Prod.snd) us
  | _, _, .nil => .nil
  | _, _, .cons h t => .cons h (vals_of_each t)
def rSortV (K : PySem.W.Frag) : List V → Hp → VK → Prop := fun xs H Q => ∃ (a : Addr) (ys : List V) (ds : List PyData), xs = [.ref a] ∧ (SqL K H a ys ∨ SqT K H a ys) ∧ DpAll K H ys ds ∧ Sb ds ∧
  ∀ p, H p = none → Q (.ref p) (upd H p (.lst (((ds.zip ys).mergeSort (PySem.W.dataLe false Prod.fst)).map Prod.snd)))
theorem dpAll_len {K : PySem.W.Frag} {H : Hp} : ∀ {ys : List V} {ds : List PyData}, DpAll K H ys ds → ys.length = ds.length
  | _, [], h => by
    cases h
    rfl
  | _, d :: ds, h => by
    cases h with
    | cons _ h2 => rw [List.length_cons, List.length_cons, dpAll_len h2]
theorem zip_fst {α β : Type} : ∀ (xs : List α) (ys : List β), ys.length = xs.length → (xs.zip ys).map Prod.fst = xs
  | [], _, _ => rfl
  | x :: xs, [], h => by simp at h
  | x :: xs, y :: ys, h => by rw [List.zip_cons_cons, List.map_cons, zip_fst xs ys (by simpa using h)]
theorem zip_snd {α β : Type} : ∀ (xs : List α) (ys : List β), ys.length = xs.length → (xs.zip ys).map Prod.snd = ys
  | [], [], _ => rfl
  | [], y :: ys, h => by simp at h
  | x :: xs, [], h => by simp at h
  | x :: xs, y :: ys, h => by rw [List.zip_cons_cons, List.map_cons, zip_snd xs ys (by simpa using h)]
open PySem.W in
theorem call_sortV {X : Cx} {k : Nat} (hr : RoomG k X.A) : CallR X (.builtin "sorted") (rSortV X.K) := by
  intro pins s σ H xs us Q I r h
  obtain ⟨a, ys, ds, rfl, hs, hd, ⟨hal, hdep, hk⟩, q⟩ := h
  obtain ⟨u, rfl, ru⟩ := vals1 r
  cases ru
  obtain ⟨its, T, o, n, rv, hT, ho, hc, hdt, hz⟩ : ∃ (its : List Value) (T : String) (o : Obj) (n : Nat), Vals ys its ∧ (T = "list" ∨ T = "tuple") ∧ s.heap.get? a = some o ∧ o.cls = .type T ∧ o.data = .seq its.toArray n ∧ its.length ≤ sizeLine := by
    rcases hs with hs | hs
    · obtain ⟨its, rv, ⟨o, n, ho, hc, _, hd⟩, hz⟩ := I.list hs
      exact ⟨its, "list", o, n, rv, .inl rfl, ho, hc, hd, by rw [← rv.length]; exact hz⟩
    · obtain ⟨its, rv, ⟨o, ho, hc, n, hd⟩, hz⟩ := I.tuple hs
      exact ⟨its, "tuple", o, n, rv, .inr rfl, ho, hc, hd, by rw [← rv.length]; exact hz⟩
  refine Calls.call_function_entry kind_sorted plain_sorted entry_sorted (args_sorted1 _) ?_
  unfold Builtin.«sorted»
  refine wpAny_bind (m := checkCount "sorted" 1 1 _) (wpAny_pure (wpAny_bind (wpAny_collect_seq a hT ho hc hdt (fun h' hk' => ?_) (by simpa using hz))))
  have I1 : Inv X pins σ H { s with heap := h' } := I.kept (t' := s.toks) hk'
  rw [show its.toArray.toList = its from rfl]
  refine wpAny_bind (wpAny_newList ?_ hz)
  have hoL : (h'.push (seqObj "list" its.toArray 0)).get? h'.objs.size = some (seqObj "list" its.toArray 0) := Heap.get?_push_size _ rfl
  have I2 : Inv X pins σ H { s with heap := h'.push (seqObj "list" its.toArray 0) } := I1.kept (t' := s.toks) fun b o e => Heap.get?_push_of_some _ e
  have hlen : ys.length = ds.length := dpAll_len hd
  have old : ∀ b o, (h'.push (seqObj "list" its.toArray 0)).get? b = some o → b ≠ h'.objs.size → (sortingHeap (h'.push (seqObj "list" its.toArray 0)) h'.objs.size its).get? b = some o := fun b o e ne => sortingHeap_old ne e
  have hkeep : ∀ b o, h'.get? b = some o → (sortingHeap (h'.push (seqObj "list" its.toArray 0)) h'.objs.size its).get? b = some o := fun b o e => old b o (Heap.get?_push_of_some _ e) (Nat.ne_of_lt (Heap.lt_size e))
  have J : Inv X pins σ H { s with heap := sortingHeap (h'.push (seqObj "list" its.toArray 0)) h'.objs.size its } := I1.kept (t' := s.toks) hkeep
  obtain ⟨e1, _⟩ := EachIs_zip (K := X.K) I hd rv
  obtain ⟨_, e2⟩ := EachIs_zip (K := X.K) J hd rv
  have hmap : (ds.zip ys).map Prod.fst = ds := zip_fst _ _ hlen
  have e3 : EachIs (fun v d => ∃ as, Reads (sortingHeap (h'.push (seqObj "list" its.toArray 0)) h'.objs.size its) v d as) its ((ds.zip ys).map Prod.fst) := each_map (R := fun v d => ∃ as, Reads (sortingHeap (h'.push (seqObj "list" its.toArray 0)) h'.objs.size its) v d as) Prod.fst e2
  have hun : ∀ d ∈ (ds.zip ys).map Prod.fst, X.A.in1.in1.units + d.depth < cLine := fun d m => by
    rw [hmap] at m
    have h1 := (hdep d m).1
    have h2 := hr.units
    show X.A.units + 1 + 1 + d.depth < cLine
    omega
  have S : SortsAt X.prog X.w X.A.in1.in1 { s with heap := sortingHeap (h'.push (seqObj "list" its.toArray 0)) h'.objs.size its } (dataKind (sortingHeap (h'.push (seqObj "list" its.toArray 0)) h'.objs.size its) ((ds.zip ys).map Prod.fst)) its := by
    rcases hk with hk | hk
    · exact SortsAt.data (s := { s with heap := sortingHeap (h'.push (seqObj "list" its.toArray 0)) h'.objs.size its }) e3 (by rw [hmap]; exact hal) (by rw [hmap]; exact hk) hun
    · exact sortsAt_few (s := { s with heap := sortingHeap (h'.push (seqObj "list" its.toArray 0)) h'.objs.size its }) e3 (by rw [hmap]; exact hal) (fun d m => (hdep d (by rw [hmap] at m; exact m)).2) (by rw [← rv.length, hlen]; exact hk) hun
  show wpAny _ _ _ _ _ { s with heap := h'.push (seqObj "list" its.toArray 0) }
  refine wpAny_bind (wpAny_holding (wpAny_call_entry slot_list_sort ⟨_, hoL, rfl⟩ entry_list_sort ?body (args_list_sort _)))
  case body =>
    show wpAny (model X.prog X.w) X.A.in1.in1 (Builtin.«list.sort» ⟨[.ref h'.objs.size], []⟩) _ _ _
    refine list_sort_vals (s := { s with heap := h'.push (seqObj "list" its.toArray 0) }) hoL S hz ⟨_, rfl, wpAny_pure ⟨_, rfl, ?_⟩⟩
    obtain ⟨ep, he⟩ := sortedHeap_at (vs := its) (out := (sortVals (dataKind (sortingHeap (h'.push (seqObj "list" its.toArray 0)) h'.objs.size its) ((ds.zip ys).map Prod.fst)) false its its).toArray) hoL
    have out := sortVals_data (R := fun u (p : PyData × V) => RelV p.2 u) (h' := sortingHeap (h'.push (seqObj "list" its.toArray 0)) h'.objs.size its) false e1 e2 (by rw [hmap]; exact hal)
    have ov := vals_of_each out
    have ol : (((ds.zip ys).mergeSort (dataLe false Prod.fst)).map Prod.snd).length ≤ sizeLine := by
      rw [List.length_map, List.length_mergeSort, List.length_zip, hlen, Nat.min_self, ← hlen, rv.length]
      exact hz
    refine ⟨.ref h'.objs.size, _, I1.laid (t' := s.toks) (a := h'.objs.size) (o := .lst (((ds.zip ys).mergeSort (dataLe false Prod.fst)).map Prod.snd)) (fun b u e => ?_) (Nat.le_refl _) ⟨ol, _, ep, ov, he⟩, rfl, q _ (I1.hok.fresh (Nat.le_refl _))⟩
    have hb : b < h'.objs.size := Heap.lt_size e
    rw [sortedHeap_old (Nat.ne_of_lt hb) (by rw [size_push']; exact Nat.lt_succ_of_lt hb)]
    exact Heap.get?_push_of_some _ e
/-! ### cuts; wide powers; small rules -/
section
variable {σ : St} {H : Hp} {Q : VK} {nx : St → Hp → Prop} {rt : VK} {bk ct : St → Hp → Prop}
theorem r_cut {te : TE} (P : V → Hp → Prop) (key : ∀ v H', P v H' → Q v H') (h : ∀ Q' : VK, (∀ v H', P v H' → Q' v H') → te σ H Q') : te σ H Q := h Q key
theorem r_cutT {t : TT} {Q : Bool → Hp → Prop} (P : Bool → Hp → Prop) (key : ∀ v H', P v H' → Q v H') (h : ∀ Q' : Bool → Hp → Prop, (∀ v H', P v H' → Q' v H') → t σ H Q') : t σ H Q := h Q key
theorem r_cutS {t : TS} (P : St → Hp → Prop) (key : ∀ σ' H', P σ' H' → nx σ' H') (h : ∀ nx', (∀ σ' H', P σ' H' → nx' σ' H') → t ⟨nx', rt, bk, ct⟩ σ H) : t ⟨nx, rt, bk, ct⟩ σ H := h nx key
def CPowW (i j : Int) : Prop := 0 ≤ j ∧ (Builtin.Int.intBits i : Int) * j ≤ 2 ^ 27
theorem op_powW {X : Cx} : OpR X (binaryOp .Pow) (rI CPowW fun i j => .int (i ^ j.toNat)) := opI fun _ _ _ _ _ _ _ hc q => pow_int hc.1 hc.2 q
theorem r_powW {i j : Int} (h0 : 0 ≤ j) (h1 : (Builtin.Int.intBits i : Int) * j ≤ 2 ^ 27) (q : Q (.int (i ^ j.toNat)) H) : rI CPowW (fun i j => .int (i ^ j.toNat)) (.int i) (.int j) H Q := ⟨i, j, rfl, rfl, ⟨h0, h1⟩, q⟩
def rLenQ (K : PySem.W.Frag) : List V → Hp → VK → Prop := fun xs H Q => ∃ p ys, xs = [.ref p] ∧ (SqL K H p ys ∨ SqT K H p ys) ∧ Q (.int ys.length) H
def rLenS : List V → Hp → VK → Prop := fun xs H Q => ∃ z, xs = [.str z] ∧ z.length ≤ sizeLine ∧ Q (.int z.length) H
def rAbs : List V → Hp → VK → Prop := fun xs H Q => ∃ i, xs = [.int i] ∧ Q (.int (if i < 0 then -i else i)) H
def rMax2 : List V → Hp → VK → Prop := fun xs H Q => ∃ i j, xs = [.int i, .int j] ∧ Q (.int (if j > i then j else i)) H
def rMin2 : List V → Hp → VK → Prop := fun xs H Q => ∃ i j, xs = [.int i, .int j] ∧ Q (.int (if j < i then j else i)) H
def rInt1 : List V → Hp → VK → Prop := fun xs H Q => (∃ i, xs = [.int i] ∧ Q (.int i) H) ∨ ∃ k, xs = [.bl k] ∧ Q (.int (if k then 1 else 0)) H
variable {X : Cx} {K : PySem.W.Frag}
theorem c_len : CallR X (.builtin "len") (rLenQ X.K) := call_len_seq
theorem c_lenS : CallR X (.builtin "len") rLenS := call_len_str
theorem c_abs : CallR X (.builtin "abs") rAbs := call_abs
theorem c_max2 (hc : X.calm = true) : CallR X (.builtin "max") rMax2 := call_max2 hc
theorem c_min2 (hc : X.calm = true) : CallR X (.builtin "min") rMin2 := call_min2 hc
theorem c_int1 : CallR X (.type "int") rInt1 := call_int1
theorem r_len {p : Addr} {ys : List V} (h : SqL K H p ys ∨ SqT K H p ys) (q : Q (.int ys.length) H) : rLenQ K [.ref p] H Q := ⟨p, ys, rfl, h, q⟩
theorem r_lenh {p : Addr} {ys : List V} (h : H p = some (.lst ys)) (q : Q (.int ys.length) H) : rLenQ K [.ref p] H Q := ⟨p, ys, rfl, .inl (.inl (.inl h)), q⟩
theorem r_lenS {z : Str} (h : z.length ≤ sizeLine) (q : Q (.int z.length) H) : rLenS [.str z] H Q := ⟨z, rfl, h, q⟩
theorem r_abs {i : Int} (h : ∀ r, 0 ≤ r → Q (.int r) H) : rAbs [.int i] H Q := by
  refine ⟨i, rfl, ?_⟩
  split
  · exact h _ (by omega)
  · exact h _ (by omega)
theorem r_max2 {i j : Int} (h : Q (.int (max i j)) H) : rMax2 [.int i, .int j] H Q := by
  refine ⟨i, j, rfl, ?_⟩
  have e : (if j > i then j else i) = max i j := by split <;> omega
  rw [e]
  exact h
theorem r_min2 {i j : Int} (h : Q (.int (min i j)) H) : rMin2 [.int i, .int j] H Q := by
  refine ⟨i, j, rfl, ?_⟩
  have e : (if j < i then j else i) = min i j := by split <;> omega
  rw [e]
  exact h
theorem r_int1i {i : Int} (h : Q (.int i) H) : rInt1 [.int i] H Q := .inl ⟨i, rfl, h⟩
theorem r_int1b {k : Bool} (h : ∀ r, 0 ≤ r → r ≤ 1 → Q (.int r) H) : rInt1 [.bl k] H Q := by
  refine .inr ⟨k, rfl, ?_⟩
  split
  · exact h _ (by omega) (by omega)
  · exact h _ (by omega) (by omega)
end
/-- the law's box stands at b: its own digits, its seed, how many were drawn; n more may be drawn -/
def Box (H : Hp) (b : Addr) (n : Nat) : Prop := ∃ o m c : Int, H b = some (.lst [.int o, .int m, .int c]) ∧ 0 ≤ o ∧ 0 ≤ m ∧ m < 2305843009213693951 ∧ 0 ≤ c ∧ c + (n : Int) ≤ 1000000000
theorem Box.mono {H : Hp} {b : Addr} {n m : Nat} (B : Box H b n) (h : m ≤ n) : Box H b m := by
  obtain ⟨o, s, c, e, h1, h2, h3, h4, h5⟩ := B
  exact ⟨o, s, c, e, h1, h2, h3, h4, by omega⟩
theorem Box.keep {H H' : Hp} {b : Addr} {n : Nat} (B : Box H b n) (k : Kp [] H H') : Box H' b n := by
  obtain ⟨o, s, c, e, r⟩ := B
  exact ⟨o, s, c, k.at0 e, r⟩
theorem Box.lst {H : Hp} {b : Addr} {n : Nat} (B : Box H b n) : ∃ xs, H b = some (.lst xs) := by
  obtain ⟨o, s, c, e, _⟩ := B
  exact ⟨_, e⟩
/-! ### what is carried over -/
section
variable {K : PySem.W.Frag} {H H' : Hp} {S : List Addr} {p b : Addr} {xs : List V} {o : HO}
theorem kp_rd {u : HO} (k : Kp S H H') (n : p ∉ S) (h : Rd H p u) : Rd H' p u := by
  rcases h with h | ⟨o, h⟩
  · exact .inl (k p _ n h)
  · exact .inr ⟨o, k p _ n h⟩
theorem kp_sqL (k : Kp S H H') (n : p ∉ S) (h : SqL K H p xs) : SqL K H' p xs := by
  rcases h with h | h
  · exact .inl (kp_rd k n h)
  · exact .inr h
theorem kp_sqT (k : Kp S H H') (n : p ∉ S) (h : SqT K H p xs) : SqT K H' p xs := by
  rcases h with h | h
  · exact .inl (kp_rd k n h)
  · exact .inr h
theorem kp1_sqL (k : Kp [b] H H') (n : p ≠ b) (h : SqL K H p xs) : SqL K H' p xs := kp_sqL k (by simpa using n) h
/-- a tuple is not what may change -/
def Mu (H : Hp) (S : List Addr) : Prop := ∀ b ∈ S, Mut (H b)
theorem Mu.nil {H : Hp} : Mu H [] := fun _ h => nomatch h
theorem Mu.lst {ys : List V} (h : H b = some (.lst ys)) : Mu H [b] := fun c hc => by
  have e : c = b := by simpa using hc
  rw [e, h]
  exact True.intro
theorem Mu.cons (m : Mut (H b)) (h : Mu H S) : Mu H (b :: S) := fun c hc => by
  rcases List.mem_cons.mp hc with e | e
  · rw [e]
    exact m
  · exact h c e
theorem mu_sqT (k : Kp S H H') (m : Mu H S) (h : SqT K H p xs) : SqT K H' p xs := by
  rcases h with h | h
  · left
    rcases h with h | ⟨o, h⟩
    · exact .inl (k p _ (fun z => by have := m p z; rw [h] at this; exact this) h)
    · exact .inr ⟨o, k p _ (fun z => by have := m p z; rw [h] at this; exact this) h⟩
  · exact .inr h
end
section
variable {H : Hp} {Q : VK} {X : Cx} {K : PySem.W.Frag}
/-- len of a list, a tuple, a text -/
def rLenV (K : PySem.W.Frag) : List V → Hp → VK → Prop := fun xs H Q => rLenQ K xs H Q ∨ rLenS xs H Q
theorem c_lenV : CallR X (.builtin "len") (rLenV X.K) := c_len.or c_lenS
end
/-! ### comprehensions, loops -/
section
variable {σ : St} {H : Hp} {Q : VK} {R : It → Hp → Prop}
theorem r_lc {wi : TI} {g : TG} {tt : TT} {te : TE} {vs : List Nat} (h : wi σ H fun J H1 => ∀ D, H1 D = none → ∃ W : Nat → Nat → Hp → Prop, (∃ m, W 0 m (upd H1 D (.lst []))) ∧ ∀ i m H, W i m H →
  (J.stop i H ∧ Q (.ref D) H) ∨ (J.go i H ∧ ∃ Nx : Hp → Prop, (∀ H', Nx H' → ∃ m', m' < m ∧ W (i + 1) m' H') ∧ ∀ x H', J.yld i H x H' → g x (wipe σ vs) H' fun σ2 H2 => wipe σ2 vs = wipe σ vs ∧ tt σ2 H2 fun b H3 =>
    if b = true then te σ2 H3 fun y H4 => ∃ acc, H4 D = some (.lst acc) ∧ acc.length < sizeLine ∧ Nx (upd H4 D (.lst (acc ++ [y]))) else Nx H3)) : tLc wi g tt te vs σ H Q := h
theorem r_rng1 {ta : TA} (h : ta σ H fun vs H1 => ∃ j : Int, vs = [.int j] ∧ -(2 ^ 62) ≤ j ∧ j < 2 ^ 62 ∧ R (Itr 0 j.toNat) H1) : iRng1 ta σ H R := h
theorem r_rngv {j : Int} {q : Int → Prop} (h0 : -(2 ^ 62) ≤ j) (h1 : j < 2 ^ 62) (h : q j) : ∃ j', [V.int j] = [V.int j'] ∧ -(2 ^ 62) ≤ j' ∧ j' < 2 ^ 62 ∧ q j' := ⟨j, rfl, h0, h1, h⟩
theorem r_yes {Q : Bool → Hp → Prop} (h : Q true H) : tYes σ H Q := h
theorem r_tt {A B : Prop} (h : A) : if true = true then A else B := by rw [if_pos rfl]; exact h
theorem r_ff {A B : Prop} (h : B) : if false = true then A else B := by rw [if_neg Bool.false_ne_true]; exact h
theorem r_m1 {r : V → List V → Hp → VK → Prop} {to te : TE} (h : to σ H fun x H1 => (∃ a, x = .str a) ∧ te σ H1 fun y H2 => r x [y] H2 Q) : tM1 r to te σ H Q := h
theorem r_m0 {r : V → List V → Hp → VK → Prop} {to : TE} (h : to σ H fun x H1 => (∃ a, x = .str a) ∧ r x [] H1 Q) : tM0 r to σ H Q := h
theorem r_isS {z : Str} {q : Prop} (h : q) : (∃ a, V.str z = V.str a) ∧ q := ⟨⟨z, rfl⟩, h⟩
end
/-- what a comprehension has made so far stands at D -/
def PvL (D : Addr) (R : Nat → List V → Hp → Prop) (i : Nat) (H : Hp) : Prop := ∃ acc, H D = some (.lst acc) ∧ acc.length ≤ i ∧ R i acc H
theorem PvL.step {D : Addr} {R : Nat → List V → Hp → Prop} {i : Nat} {H : Hp} {acc : List V} {y : V} (h : H D = some (.lst acc)) (l : acc.length ≤ i) (li : i < 1000000) (r : R (i + 1) (acc ++ [y]) (upd H D (.lst (acc ++ [y])))) :
    ∃ acc, H D = some (.lst acc) ∧ acc.length < sizeLine ∧ PvL D R (i + 1) (upd H D (.lst (acc ++ [y]))) :=
  ⟨acc, h, by rw [sizeLine_eq]; omega, acc ++ [y], upd_same, by rw [List.length_append, List.length_singleton]; omega, r⟩
theorem PvL.skip {D : Addr} {R : Nat → List V → Hp → Prop} {i : Nat} {H : Hp} {acc : List V} (h : H D = some (.lst acc)) (l : acc.length ≤ i) (r : R (i + 1) acc H) : PvL D R (i + 1) H := ⟨acc, h, by omega, r⟩
/-! ### cells -/
def Cell (c : Str) : Prop := 1 ≤ c.length ∧ c.length ≤ 8 ∧ ∀ x ∈ c.cps.toList, 97 ≤ x ∧ x ≤ 122
def Cells (cs : List Str) : Prop := cs.Nodup ∧ ∀ c ∈ cs, Cell c
/-! ### texts -/
section
variable {σ : St} {H : Hp} {Q : VK} {X : Cx} {K : PySem.W.Frag}
def rAddS : R2 := fun x y H Q => ∃ i j, x = .str i ∧ y = .str j ∧ i.length + j.length ≤ sizeLine ∧ Q (.str (i ++ j)) H
theorem op_addS : OpR X (binaryOp .Add) rAddS := op_add_str
theorem r_addS {i j : Str} (l : i.length + j.length ≤ sizeLine) (h : Q (.str (i ++ j)) H) : rAddS (.str i) (.str j) H Q := ⟨i, j, rfl, rfl, l, h⟩
def rJoin (K : PySem.W.Frag) : V → List V → Hp → VK → Prop := fun x xs H Q => ∃ a p, ∃ ys : List Str, x = .str a ∧ xs = [.ref p] ∧ (SqL K H p (ys.map V.str) ∨ SqT K H p (ys.map V.str)) ∧ (ys.map (·.length)).sum + ys.length * a.length ≤ 16777216 ∧ Q (.str (Txt.join a ys)) H
theorem pe_joinV {o e : Expr} {to te : TE} {apos pos : Pos} (ho : PE X o to) (he : PE X e te) (hs : starEach [e] X.env = [(false, eval e X.env)] := by rfl) (hbase : attributeBase o "join" X.env (eval o X.env) = eval o X.env := by rfl) (hline : (apos.endLine == pos.line) = true := by rfl) :
    PE X (.Call (.Attribute o "join" apos) [e] [] pos) (tM1 (rJoin X.K) to te) := pe_join ho he hs hbase hline
theorem r_join {a : Str} {p : Addr} {ys : List Str} (h : H p = some (.lst (ys.map V.str))) (l : (ys.map (·.length)).sum + ys.length * a.length ≤ 16777216) (q : Q (.str (Txt.join a ys)) H) : rJoin K (.str a) [.ref p] H Q := ⟨a, p, ys, rfl, rfl, .inl (.inl (.inl h)), l, q⟩
theorem r_slS {z : Str} {lo hi : Option Int} (l : z.length ≤ sizeLine) (q : Q (.str (cutS z lo hi)) H) : rSlS (.str z) lo hi H Q := ⟨z, rfl, l, q⟩
theorem r_ixS {z : Str} {i : Int} {c : Nat} (l : z.length ≤ sizeLine) (a : atI z.cps.toList i = some c) (q : Q (.str ⟨#[c]⟩) H) : rIxS (.str z) (.int i) H Q := ⟨z, i, c, rfl, rfl, l, a, q⟩
theorem r_gtup {n : Nat} {t : TGs} {p : Addr} {xs : List V} {Q : St → Hp → Prop} (h : H p = some (.tup xs)) (l : xs.length = n) (q : t xs σ H Q) : gTup K n t (.ref p) σ H Q := ⟨p, xs, rfl, .inl (.inl h), l, q⟩
theorem r_gtupS {n : Nat} {t : TGs} {p : Addr} {xs : List V} {Q : St → Hp → Prop} (h : SqT K H p xs) (l : xs.length = n) (q : t xs σ H Q) : gTup K n t (.ref p) σ H Q := ⟨p, xs, rfl, h, l, q⟩
theorem r_gcons {t : TG} {u : TGs} {v : V} {r : List V} {Q : St → Hp → Prop} (h : t v σ H fun σ' H' => u r σ' H' Q) : gCons t u (v :: r) σ H Q := ⟨v, r, rfl, h⟩
theorem r_gnil {Q : St → Hp → Prop} (h : Q σ H) : gNil [] σ H Q := ⟨rfl, h⟩
end
abbrev low (l : List Nat) : Prop := ∀ x ∈ l, 97 ≤ x ∧ x ≤ 122
theorem len_tl (z : Str) : z.length = z.cps.toList.length := by simp [Str.length]
theorem joinL_flat : ∀ ps : List (List Nat), TL.joinL [] ps = ps.flatten
  | [] => rfl
  | [p] => by simp [TL.joinL]
  | p :: q :: r => by
    show p ++ ([] ++ TL.joinL [] (q :: r)) = _
    rw [joinL_flat (q :: r), List.nil_append]
    rfl
theorem tl_joined {e : Str} (he : e.cps.toList = []) (ys : List Str) : (Txt.join e ys).cps.toList = (ys.map fun z => z.cps.toList).flatten := by
  rw [TL.join_eq]
  have := TL.tl_join e ys
  rw [show TL.tl e = [] from he, joinL_flat] at this
  exact this
/-! ### new objects, at a letter of a heap -/
@[elab_as_elim] theorem gen_new {P : Hp → Prop} {H : Hp} {p : Addr} {o : HO} (np : H p = none) (h : ∀ H', Kp [] H H' → H' p = some o → P H') : P (upd H p o) := h _ (Kp.new np) upd_same
theorem Kp.to1 {S : List Addr} {H H' : Hp} (k : Kp [] H H') : Kp S H H' := fun a o _ e => k a o (by simp) e
theorem Kp.none0 {H H' : Hp} {S : List Addr} {a : Addr} (k : Kp S H H') (n : a ∉ S) (e : H' a = none) : H a = none := by
  cases q : H a with
  | none => rfl
  | some o =>
    rw [k a o n q] at e
    cases e
theorem Kp.new0 {S : List Addr} {p : Addr} {H H' : Hp} {o : HO} (k : Kp S H H') (n : H p = none) : Kp S H (L2.upd H' p o) := fun a u h e => by
  rw [L2.upd_ne (ne_of_none e n)]
  exact k a u h e
theorem Kp.putNew {b p : Addr} {H H' : Hp} {o : HO} (k : Kp [b] H H') (n : H p = none) : Kp [b] H (L2.upd H' p o) := fun a u h e => by
  rw [L2.upd_ne (ne_of_none e n)]
  exact k a u h e
theorem nin1 {a b : Addr} (h : a ≠ b) : a ∉ [b] := by simpa using h
theorem str_ext {x y : Str} (h : x.cps.toList = y.cps.toList) : x = y := by
  have e : x.cps = y.cps := Array.toList_inj.mp h
  cases x
  cases y
  cases e
  rfl
theorem tl_cat (x y : Str) : (x ++ y).cps.toList = x.cps.toList ++ y.cps.toList := TL.tl_append x y
theorem cut_lo (z : Str) (c : Nat) : (cutS z none (some (c : Int))).cps.toList = z.cps.toList.take c := by
  unfold cutS
  show List.take (HT.sIx z.length z.length (some (c : Int)) - HT.sIx z.length 0 none) (List.drop (HT.sIx z.length 0 none) z.cps.toList) = _
  rw [HT.sIx_nat, HT.sIx_none, List.drop_zero, Nat.sub_zero, len_tl]
  by_cases h : c ≤ z.cps.toList.length
  · rw [Nat.min_eq_left h]
  · rw [Nat.min_eq_right (by omega), List.take_of_length_le (Nat.le_refl _), List.take_of_length_le (by omega)]
theorem cut_hi (z : Str) (c : Nat) : (cutS z (some (c : Int)) none).cps.toList = z.cps.toList.drop c := by
  unfold cutS
  show List.take (HT.sIx z.length z.length none - HT.sIx z.length 0 (some (c : Int))) (List.drop (HT.sIx z.length 0 (some (c : Int))) z.cps.toList) = _
  rw [HT.sIx_nat, HT.sIx_none, len_tl]
  by_cases h : c ≤ z.cps.toList.length
  · rw [Nat.min_eq_left h, List.take_of_length_le (by rw [List.length_drop]; omega)]
  · rw [Nat.min_eq_right (by omega), List.drop_of_length_le (Nat.le_refl _), List.drop_of_length_le (by omega), List.take_nil]
/-! ### sorted, in words -/
section
variable {H : Hp} {Q : VK} {K : PySem.W.Frag} {X : Cx}
theorem sort_facts (zs : List (PyData × V)) : (zs.mergeSort (PySem.W.dataLe false Prod.fst)).Perm zs ∧ (zs.mergeSort (PySem.W.dataLe false Prod.fst)).Pairwise (fun a b => PySem.W.dataLt b.1 a.1 = false) := by
  refine ⟨List.mergeSort_perm _ _, ?_⟩
  have h := PySem.W.sort_pairwise (PySem.W.sortLe_total (listOrd itemOrd) false fun b : PyData × V => PySem.W.keyToks b.1) zs
  refine h.imp fun {a b} e => ?_
  have e' : (!PySem.W.dataLt b.1 a.1) = true := e
  simpa using e'
theorem r_sort {a : Addr} {ys : List V} {ds : List PyData} (hs : SqL K H a ys ∨ SqT K H a ys) (hd : DpAll K H ys ds) (sb : Sb ds)
    (h : ∀ (p : Addr) (zs : List (PyData × V)), zs.Perm (ds.zip ys) → zs.Pairwise (fun a b => PySem.W.dataLt b.1 a.1 = false) → H p = none → Q (.ref p) (upd H p (.lst (zs.map Prod.snd)))) : rSortV K [.ref a] H Q :=
  ⟨a, ys, ds, rfl, hs, hd, sb, fun p np => h p _ (sort_facts _).1 (sort_facts _).2 np⟩
theorem perm_map_inv {α β : Type} {f : α → β} {g : β → α} (hg : ∀ a, g (f a) = a) {xs : List α} {zs : List β} (h : zs.Perm (xs.map f)) : ∃ ys : List α, ys.Perm xs ∧ zs = ys.map f := by
  refine ⟨zs.map g, ?_, ?_⟩
  · have := h.map g
    rw [List.map_map, show g ∘ f = id from funext hg, List.map_id] at this
    exact this
  · rw [List.map_map]
    refine (List.map_congr_left (g := id) fun z hz => ?_).trans (List.map_id _) |>.symm
    obtain ⟨x, _, rfl⟩ := List.mem_map.mp (h.mem_iff.mp hz)
    show f (g (f x)) = f x
    rw [hg]
theorem dpAll_ints : ∀ ns : List Int, DpAll K H (ns.map V.int) (ns.map PyData.int)
  | [] => .nil
  | n :: r => .cons (.int n) (dpAll_ints r)
theorem dpAll_strs : ∀ ns : List Str, DpAll K H (ns.map V.str) (ns.map PyData.str)
  | [] => .nil
  | n :: r => .cons (.str n) (dpAll_strs r)
theorem zip_maps {α β γ : Type} (f : α → β) (g : α → γ) : ∀ xs : List α, (xs.map f).zip (xs.map g) = xs.map fun x => (f x, g x)
  | [] => rfl
  | x :: xs => by rw [List.map_cons, List.map_cons, List.zip_cons_cons, zip_maps f g xs, List.map_cons]
theorem sb_ints (ns : List Int) : Sb (ns.map PyData.int) := by
  refine ⟨PySem.W.AllAlike.of fun _ _ => by simp [PySem.W.alike], fun d hd => ?_, .inl (PySem.W.Sortable.others fun _ => ⟨by simp, by simp⟩)⟩
  obtain ⟨n, _, rfl⟩ := List.mem_map.mp hd
  exact ⟨by simp [PyData.depth], by simp⟩
theorem sb_strs (ns : List Str) : Sb (ns.map PyData.str) := by
  refine ⟨PySem.W.AllAlike.of fun _ _ => by simp [PySem.W.alike], fun d hd => ?_, .inl (PySem.W.Sortable.others fun _ => ⟨by simp, by simp⟩)⟩
  obtain ⟨n, _, rfl⟩ := List.mem_map.mp hd
  exact ⟨by simp [PyData.depth], by simp⟩
theorem r_sortI {a : Addr} {ns : List Int} (hs : SqL K H a (ns.map V.int) ∨ SqT K H a (ns.map V.int)) (h : ∀ (p : Addr) (ms : List Int), ms.Perm ns → ms.Pairwise (· ≤ ·) → H p = none → Q (.ref p) (upd H p (.lst (ms.map V.int)))) : rSortV K [.ref a] H Q := by
  refine r_sort hs (dpAll_ints ns) (sb_ints ns) fun p zs hp hw np => ?_
  rw [zip_maps] at hp
  obtain ⟨ms, pm, rfl⟩ := perm_map_inv (f := fun n : Int => (PyData.int n, V.int n)) (g := fun z => match z.1 with | .int i => i | _ => 0) (fun _ => rfl) hp
  rw [List.map_map]
  refine h p ms pm ?_ np
  rw [List.pairwise_map] at hw
  refine hw.imp fun {x y} e => ?_
  rw [PySem.W.dataLt_int] at e
  have := of_decide_eq_false e
  omega
theorem r_sortS {a : Addr} {ns : List Str} (hs : SqL K H a (ns.map V.str) ∨ SqT K H a (ns.map V.str)) (h : ∀ (p : Addr) (ms : List Str), ms.Perm ns → ms.Pairwise (fun x y => ¬ y.cps.toList < x.cps.toList) → H p = none → Q (.ref p) (upd H p (.lst (ms.map V.str)))) : rSortV K [.ref a] H Q := by
  refine r_sort hs (dpAll_strs ns) (sb_strs ns) fun p zs hp hw np => ?_
  rw [zip_maps] at hp
  obtain ⟨ms, pm, rfl⟩ := perm_map_inv (f := fun n : Str => (PyData.str n, V.str n)) (g := fun z => match z.1 with | .str i => i | _ => Str.empty) (fun _ => rfl) hp
  rw [List.map_map]
  refine h p ms pm ?_ np
  rw [List.pairwise_map] at hw
  refine hw.imp fun {x y} e => ?_
  rw [PySem.W.dataLt_str] at e
  exact of_decide_eq_false e
/-! in, not in: a list of ints, of texts -/
theorem inV_int (i : Int) : ∀ ns : List Int, inV (.int i) (ns.map V.int) = decide (i ∈ ns)
  | [] => by simp [inV]
  | n :: r => by
    have ih := inV_int i r
    unfold inV at ih ⊢
    rw [List.map_cons, List.any_cons, ih, Bool.eq_iff_iff]
    simp [eqV]
    exact or_congr eq_comm Iff.rfl
theorem inV_str (i : Str) : ∀ ns : List Str, inV (.str i) (ns.map V.str) = decide (i ∈ ns)
  | [] => by simp [inV]
  | n :: r => by
    have ih := inV_str i r
    unfold inV at ih ⊢
    rw [List.map_cons, List.any_cons, ih, Bool.eq_iff_iff]
    simp [eqV]
    exact or_congr eq_comm Iff.rfl
theorem flat_ints (ns : List Int) : (ns.map V.int).all flatV = true := by
  rw [List.all_eq_true]
  intro x hx
  obtain ⟨n, _, rfl⟩ := List.mem_map.mp hx
  rfl
theorem flat_strs (ns : List Str) : (ns.map V.str).all flatV = true := by
  rw [List.all_eq_true]
  intro x hx
  obtain ⟨n, _, rfl⟩ := List.mem_map.mp hx
  rfl
theorem r_inI {p : Addr} {i : Int} {ns : List Int} (h : SqL K H p (ns.map V.int) ∨ SqT K H p (ns.map V.int)) (q : Q (.bl (decide (i ∈ ns))) H) : rIn K false (.int i) (.ref p) H Q := ⟨p, _, rfl, h, rfl, flat_ints ns, by rw [inV_int]; exact q⟩
theorem r_notinI {p : Addr} {i : Int} {ns : List Int} (h : SqL K H p (ns.map V.int) ∨ SqT K H p (ns.map V.int)) (q : Q (.bl (!decide (i ∈ ns))) H) : rIn K true (.int i) (.ref p) H Q := ⟨p, _, rfl, h, rfl, flat_ints ns, by rw [inV_int]; exact q⟩
theorem r_inS {p : Addr} {i : Str} {ns : List Str} (h : SqL K H p (ns.map V.str) ∨ SqT K H p (ns.map V.str)) (q : Q (.bl (decide (i ∈ ns))) H) : rIn K false (.str i) (.ref p) H Q := ⟨p, _, rfl, h, rfl, flat_strs ns, by rw [inV_str]; exact q⟩
theorem r_notinS {p : Addr} {i : Str} {ns : List Str} (h : SqL K H p (ns.map V.str) ∨ SqT K H p (ns.map V.str)) (q : Q (.bl (!decide (i ∈ ns))) H) : rIn K true (.str i) (.ref p) H Q := ⟨p, _, rfl, h, rfl, flat_strs ns, by rw [inV_str]; exact q⟩
end
section
variable {σ : St} {H : Hp} {Q : VK} {K : PySem.W.Frag} {nx : St → Hp → Prop} {rt : VK} {bk ct : St → Hp → Prop}
theorem r_for {wi : TI} {g : TG} {tb : TS} {D : Ends} (h : wi σ H fun J H1 => ∃ W : Nat → Nat → St → Hp → Prop, (∃ m, W 0 m σ H1) ∧ ∀ i m σ H, W i m σ H →
  (J.stop i H ∧ D.nx σ H) ∨ (J.go i H ∧ ∃ N : St → Hp → Prop, (∀ σ' H', N σ' H' → ∃ m', m' < m ∧ W (i + 1) m' σ' H') ∧ ∀ x H', J.yld i H x H' → g x σ H' fun σ2 H2 => tb { D with nx := N, ct := N, bk := D.nx } σ2 H2)) : tFor wi g tb D σ H := h
theorem r_ilist {tl : TE} {R : It → Hp → Prop} (h : tl σ H fun x H1 => ∃ a, x = .ref a ∧ (∃ xs, SqL K H1 a xs) ∧ R (Itl K a) H1) : iList K tl σ H R := h
theorem r_itup {tl : TE} {R : It → Hp → Prop} (h : tl σ H fun x H1 => ∃ a, x = .ref a ∧ (∃ xs, SqT K H1 a xs) ∧ R (Itt K a) H1) : iTup K tl σ H R := h
theorem r_walkL {a : Addr} {xs : List V} {q : Addr → Prop} (h : SqL K H a xs) (k : q a) : ∃ a', V.ref a = .ref a' ∧ (∃ xs, SqL K H a' xs) ∧ q a' := ⟨a, rfl, ⟨xs, h⟩, k⟩
theorem r_walkT {a : Addr} {xs : List V} {q : Addr → Prop} (h : SqT K H a xs) (k : q a) : ∃ a', V.ref a = .ref a' ∧ (∃ xs, SqT K H a' xs) ∧ q a' := ⟨a, rfl, ⟨xs, h⟩, k⟩
theorem r_pickI {p : Addr} {ns : List Int} {i : Int} (h : SqL K H p (ns.map V.int)) (h0 : 0 ≤ i) (h1 : i < ns.length) (q : ∀ m ∈ ns, Q (.int m) H) : rIxL K (.ref p) (.int i) H Q := by
  obtain ⟨v, e, m⟩ := atI_int (xs := ns.map V.int) h0 (by rw [List.length_map]; exact h1)
  obtain ⟨j, hj, rfl⟩ := List.mem_map.mp m
  exact r_ixL h e (q j hj)
theorem r_app {l : Addr} {xs : List V} {y : V} (h : H l = some (.lst xs)) (z : xs.length < 1000000) (q : Q .non (upd H l (.lst (xs ++ [y])))) : tyV K "list" (.ref l) H ∧ rAppend (.ref l) [y] H Q :=
  ⟨.inl ⟨rfl, xs, .inl (.inl h)⟩, l, xs, y, rfl, rfl, h, by rw [sizeLine_eq]; omega, q⟩
end
section
variable {X : Cx} {K : PySem.W.Frag} {H : Hp} {Q : VK}
/-- a tuple made here: its object has no dict of its own -/
def Tm (H : Hp) (a : Addr) (xs : List V) : Prop := ∃ o : Obj, H a = some (.frz o (.tup xs)) ∧ o.dict = none
theorem Tm.sq {a : Addr} {xs : List V} (h : Tm H a xs) : SqT K H a xs := by
  obtain ⟨o, e, _⟩ := h
  exact .inl (.inr ⟨o, e⟩)
theorem Tm.keep {S : List Addr} {H' : Hp} {a : Addr} {xs : List V} (h : Tm H a xs) (k : Kp S H H') (n : a ∉ S) : Tm H' a xs := by
  obtain ⟨o, e, d⟩ := h
  exact ⟨o, k a _ n e, d⟩
theorem Tm.keep0 {H' : Hp} {a : Addr} {xs : List V} (h : Tm H a xs) (k : Kp [] H H') : Tm H' a xs := h.keep k (by simp)
theorem Tm.keepM {S : List Addr} {H' : Hp} {a : Addr} {xs : List V} (h : Tm H a xs) (k : Kp S H H') (m : Mu H S) : Tm H' a xs := by
  refine h.keep k fun z => ?_
  obtain ⟨o, e, _⟩ := h
  have := m a z
  rw [e] at this
  exact this
def tTupF (t : TA) : TE := fun σ H Q => t σ H fun xs H1 => xs.length ≤ sizeLine ∧ ∀ (p : Addr) (o : Obj), H1 p = none → o.dict = none → Q (.ref p) (upd H1 p (.frz o (.tup xs)))
theorem pe_tupF {es : List Expr} {t : TA} {pos : Pos} {x1 : Nat} (h : PA X es t) : PE X (.Tuple es x1 pos) (tTupF t) := by
  refine ⟨fun pins s σ H Q I hq => ?_⟩
  refine wpAny_Tuple_spliced (thn (h.run pos pins s σ H _ I hq) fun us s1 ⟨xs, H1, I1, r, z, q⟩ => ⟨by rw [← r.length]; exact z, ?_⟩)
  have hf : H1 s1.heap.objs.size = none := I1.hok.fresh (Nat.le_refl _)
  refine ⟨.ref s1.heap.objs.size, upd H1 s1.heap.objs.size (.frz _ (.tup xs)), I1.laid (t' := s1.toks) (fun b u e => Heap.get?_push_of_some _ e) (Nat.le_refl _) ⟨Heap.get?_push_size _ rfl, ?_⟩, rfl, q _ _ hf rfl⟩
  exact ⟨z, us, r, ⟨_, Heap.get?_push_size _ rfl, rfl, _, rfl⟩⟩
theorem r_tupF {σ : St} {t : TA} (h : t σ H fun xs H1 => xs.length ≤ sizeLine ∧ ∀ (p : Addr) (o : Obj), H1 p = none → o.dict = none → Q (.ref p) (upd H1 p (.frz o (.tup xs)))) : tTupF t σ H Q := h
theorem r_newT {xs : List V} (e : Nat.ble xs.length 1000 = true) (h : ∀ (p : Addr) (H' : Hp), H p = none → Kp [] H H' → Tm H' p xs → Q (.ref p) H') : xs.length ≤ sizeLine ∧ ∀ (p : Addr) (o : Obj), H p = none → o.dict = none → Q (.ref p) (upd H p (.frz o (.tup xs))) :=
  ⟨Nat.le_of_lt (small1000 (Nat.le_of_ble_eq_true e)), fun p o np od => h p _ np (Kp.new np) ⟨o, upd_same, od⟩⟩
theorem r_newF {xs : List V} {q : Addr → Obj → Prop} (e : Nat.ble xs.length 1000 = true) (h : ∀ (p : Addr) (o : Obj), H p = none → o.dict = none → q p o) : xs.length ≤ sizeLine ∧ ∀ (p : Addr) (o : Obj), H p = none → o.dict = none → q p o :=
  ⟨Nat.le_of_lt (small1000 (Nat.le_of_ble_eq_true e)), h⟩
@[elab_as_elim] theorem gen_newT {P : Hp → Prop} {p : Addr} {o : Obj} {xs : List V} (np : H p = none) (od : o.dict = none) (h : ∀ H', Kp [] H H' → Tm H' p xs → P H') : P (upd H p (.frz o (.tup xs))) := h _ (Kp.new np) ⟨o, upd_same, od⟩
/-- tuple(x), list(x), x a list or a tuple -/
def rTupOf (K : PySem.W.Frag) : List V → Hp → VK → Prop := fun xs H Q => ∃ p ys, xs = [.ref p] ∧ ((SqL K H p ys ∧ ∀ (l : Addr) (o : Obj), H l = none → o.dict = none → Q (.ref l) (upd H l (.frz o (.tup ys)))) ∨ (SqT K H p ys ∧ Q (.ref p) H))
def rListOf (K : PySem.W.Frag) : List V → Hp → VK → Prop := fun xs H Q => ∃ p ys, xs = [.ref p] ∧ (SqL K H p ys ∨ SqT K H p ys) ∧ ∀ l, H l = none → Q (.ref l) (upd H l (.lst ys))
theorem c_tuple : CallR X (.type "tuple") (rTupOf X.K) := by
  intro pins s σ H xs us Q I r h
  obtain ⟨p, ys, rfl, h⟩ := h
  obtain ⟨u, rfl, rx⟩ := vals1 r
  cases rx
  rcases h with ⟨hq, q⟩ | ⟨hq, q⟩
  · obtain ⟨its, r', pl, hz⟩ := I.list hq
    have hlen := r'.length
    refine call_tuple_list pl.isList (fun h' kp => ?_) (by simp only [List.size_toArray] <;> omega)
    have I1 : Inv X pins σ H { s with heap := h' } := I.kept (t' := s.toks) kp
    have I2 : Inv X pins σ (upd H h'.objs.size (.frz { cls := .type "tuple", data := .seq its.toArray } (.tup ys))) { s with heap := h'.push { cls := .type "tuple", data := .seq its.toArray } } :=
      I1.laid (t' := s.toks) (fun b o e => Heap.get?_push_of_some _ e) (Nat.le_refl _) (show ObjOk X.prog X.w _ _ _ (.frz _ (.tup ys)) from ⟨Heap.get?_push_size _ rfl, hz, its, r', IsTup.new _ _⟩)
    exact ⟨.ref h'.objs.size, _, I2, rfl, q _ _ (I1.hok.fresh (Nat.le_refl _)) rfl⟩
  · obtain ⟨its, r', pl, hz⟩ := I.tuple hq
    exact call_tuple_same pl ⟨.ref p, H, I, rfl, q⟩
theorem c_list : CallR X (.type "list") (rListOf X.K) := call_list_of
theorem r_tupL {p : Addr} {ys : List V} (h : H p = some (.lst ys)) (q : ∀ (l : Addr) (H' : Hp), H l = none → Kp [] H H' → Tm H' l ys → Q (.ref l) H') : rTupOf K [.ref p] H Q := ⟨p, ys, rfl, .inl ⟨.inl (.inl h), fun l o nl od => q l _ nl (Kp.new nl) ⟨o, upd_same, od⟩⟩⟩
theorem r_listOf {p : Addr} {ys : List V} (h : SqL K H p ys ∨ SqT K H p ys) (q : ∀ l, H l = none → Q (.ref l) (upd H l (.lst ys))) : rListOf K [.ref p] H Q := ⟨p, ys, rfl, h, q⟩
theorem r_gtupP {σ : St} {n : Nat} {t : TGs} {p : Addr} {xs : List V} {Q : St → Hp → Prop} (h : Tm H p xs) (l : xs.length = n) (q : t xs σ H Q) : gTup K n t (.ref p) σ H Q := ⟨p, xs, rfl, h.sq, l, q⟩
/-- t + u -/
def rCatF (K : PySem.W.Frag) : R2 := fun x y H Q => ∃ a b xs ys, x = .ref a ∧ y = .ref b ∧ SqT K H a xs ∧ SqT K H b ys ∧ xs.length + ys.length ≤ sizeLine ∧
  (xs = [] → Q (.ref b) H) ∧ (xs ≠ [] → ys = [] → Q (.ref a) H) ∧ (xs ≠ [] → ys ≠ [] → ∀ (p : Addr) (o : Obj), H p = none → o.dict = none → Q (.ref p) (upd H p (.frz o (.tup (xs ++ ys)))))
theorem nil_of {xs : List V} {us : List Value} (r : Vals xs us) : us = [] ↔ xs = [] := by
  cases r with
  | nil => simp
  | cons _ _ => simp
theorem op_catF : OpR X (binaryOp .Add) (rCatF X.K) := by
  intro pins s σ H x y v u Q I rx ry h
  obtain ⟨a, b, xs, ys, rfl, rfl, ha, hb, hz, q0, q1, q2⟩ := h
  cases rx
  cases ry
  obtain ⟨its, r1, p1, _⟩ := I.tuple ha
  obtain ⟨its2, r2, p2, _⟩ := I.tuple hb
  by_cases hx : xs = []
  · subst hx
    cases r1
    exact L2.cat_tup0 p1 p2 ⟨.ref b, H, I, rfl, q0 rfl⟩
  · refine HT.cat_tup p1 p2 (fun z => hx ((nil_of r1).mp z)) (fun z => ⟨.ref a, H, I, rfl, q1 hx ((nil_of r2).mp z)⟩) (fun z => ?_) (by rw [← r1.length, ← r2.length]; exact hz)
    refine ⟨.ref s.heap.objs.size, _, I.laid (t' := s.toks) (o := .frz _ (.tup (xs ++ ys))) (fun b ob q => Heap.get?_push_of_some _ q) (Nat.le_refl _) ⟨Heap.get?_push_size _ rfl, ?_⟩, rfl, q2 hx (fun w => z ((nil_of r2).mpr w)) _ _ (I.hok.fresh (Nat.le_refl _)) rfl⟩
    exact ⟨by rw [List.length_append]; exact hz, _, r1.append r2, IsTup.new _ _⟩
theorem r_catF {a b : Addr} {xs ys : List V} (ha : Tm H a xs) (hb : Tm H b ys) (l : xs.length + ys.length ≤ 1000000) (h : ∀ (p : Addr) (H' : Hp), Kp [] H H' → Tm H' p (xs ++ ys) → Q (.ref p) H') : rCatF K (.ref a) (.ref b) H Q := by
  refine ⟨a, b, xs, ys, rfl, rfl, ha.sq, hb.sq, by rw [sizeLine_eq]; omega, fun e => ?_, fun e e2 => ?_, fun e e2 p o np od => ?_⟩
  · refine h b H Kp.refl ?_
    rw [e]
    exact hb
  · refine h a H Kp.refl ?_
    rw [e2, List.append_nil]
    exact ha
  · exact h p _ (Kp.new np) ⟨o, upd_same, od⟩
/-- dict(x), x a list of pairs or a tuple of pairs made here -/
def rDictP (K : PySem.W.Frag) : List V → Hp → VK → Prop := fun xs H Q => ∃ (a : Addr) (ps : List Addr) (kvs : List (Key × V)), xs = [.ref a] ∧ (SqL K H a (ps.map V.ref) ∨ Tm H a (ps.map V.ref)) ∧ Paired (fun p kv => SqT K H p [kV kv.1, kv.2]) ps kvs ∧
  ∀ p, H p = none → Q (.ref p) (upd H p (.dK (mergeK [] kvs)))
theorem c_dictP (hcalm : X.calm = true) : CallR X (.type "dict") (rDictP X.K) := by
  intro pins s σ H xs us Q I r h
  obtain ⟨a, ps, kvs, ex, hq, hp, q⟩ := h
  rcases hq with hq | hq
  · exact call_dictP hcalm pins s σ H xs us Q I r ⟨a, ps, kvs, ex, hq, hp, q⟩
  subst ex
  obtain ⟨u, eu, rx⟩ := vals1 r
  subst eu
  cases rx
  obtain ⟨ob, eo, od⟩ := hq
  obtain ⟨ho, hz, its, rv, ⟨ob', ho', hc, n, hd⟩⟩ := (show ObjOk X.prog X.w H s.heap a (.frz ob (.tup (ps.map V.ref))) from I.hok a _ eo)
  have ee : ob' = ob := Option.some.inj (ho'.symm.trans ho)
  subst ee
  have ei := refs_at rv
  subst ei
  rw [List.length_map] at hz
  obtain ⟨prs, rel, hl, hpr⟩ := pairs_of I hp
  let us : Nat → Value := fun j => match ps[j]? with
    | some b => match s.heap.get? b with
      | some o => match o.data with
        | .seq its _ => its.getD 0 .none
        | _ => .none
      | none => .none
    | none => .none
  have hus : ∀ (j : Nat) (q : Key × Value), prs[j]? = some q → ∃ b, ps[j]? = some b ∧ IsTup s.heap b #[us j, q.2] ∧ (mixKind X.prog X.w).is q.1 (us j) = true := by
    intro j q' e
    obtain ⟨b, u, e1, e2, e3⟩ := hpr j q' e
    have eu : us j = u := by
      obtain ⟨o, g1, g2, m, g3⟩ := e2
      show (match ps[j]? with
        | some b => match s.heap.get? b with
          | some o => match o.data with
            | .seq its _ => its.getD 0 .none
            | _ => .none
          | none => .none
        | none => .none) = u
      rw [e1]
      simp only [g1, g3]
      rfl
    rw [eu]
    exact ⟨b, e1, e2, e3⟩
  have hlz : ((List.range prs.length).map fun j => (us j, ((prs[j]?.map Prod.snd).getD .none))).length = prs.length := by rw [List.length_map, List.length_range]
  have hat : ∀ j k v, ((List.range prs.length).map fun j => (us j, ((prs[j]?.map Prod.snd).getD .none)))[j]? = some (k, v) → ∃ q, prs[j]? = some q ∧ k = us j ∧ v = q.2 := by
    intro j k v e
    rw [List.getElem?_map] at e
    by_cases hj : j < prs.length
    · rw [List.getElem?_range hj] at e
      have e' : (us j, ((prs[j]?.map Prod.snd).getD .none)) = (k, v) := Option.some.inj e
      rw [List.getElem?_eq_getElem hj] at e' ⊢
      injection e' with e1 e2
      exact ⟨_, rfl, e1.symm, e2.symm⟩
    · rw [List.getElem?_eq_none (by rw [List.length_range]; omega)] at e
      cases e
  refine PySem.call_dict_pairs (knd := mixKind X.prog X.w) (kvs := prs) (PySem.PairArg.tuple a (ps.map Value.ref).toArray (fun j => (ps[j]?).getD 0) ((List.range prs.length).map fun j => (us j, ((prs[j]?.map Prod.snd).getD .none)))) (I.ok.hd hcalm)
    ⟨⟨_, n, ho, hc, od, hd⟩, by rw [hlz, List.size_toArray, List.length_map, hl], fun j k v e => ?_⟩ ⟨hlz.symm, fun j k v e => ?_⟩ (by rw [hlz, hl]; exact hz) fun h' tk hd' k => ?_
  · obtain ⟨q', e1, rfl, rfl⟩ := hat j k v e
    obtain ⟨b, e2, e3, e4⟩ := hus j q' e1
    have eb : (fun j => (ps[j]?).getD 0) j = b := by
      show (ps[j]?).getD 0 = b
      rw [e2]
      rfl
    rw [eb]
    exact ⟨by simp [e2], .inl e3⟩
  · obtain ⟨q', e1, rfl, rfl⟩ := hat j k v e
    obtain ⟨b, e2, e3, e4⟩ := hus j q' e1
    exact ⟨q'.1, e1, e4⟩
  · have hm : (s.heap.objs.size == sysModules) = false := beq_eq_false_iff_ne.mpr (Nat.ne_of_gt I.big)
    have hlen : (mergeK [] kvs).length ≤ sizeLine := by
      refine Nat.le_trans (length_mergeK kvs []) ?_
      rw [List.length_nil, Nat.zero_add, rel.length, hl]
      exact hz
    exact ⟨.ref s.heap.objs.size, upd H s.heap.objs.size (.dK (mergeK [] kvs)), I.laid (t' := tk) (fun b o e => k b o (by simp) e) (Nat.le_refl _) (show ObjOk X.prog X.w _ _ _ (.dK (mergeK [] kvs)) from ⟨hlen, hm, merged [] prs, KV.merge rel .nil, hd'⟩), rfl, q _ (I.hok.fresh (Nat.le_refl _))⟩
theorem r_dictP {a : Addr} {ps : List Addr} {kvs : List (Key × V)} (h : SqL K H a (ps.map V.ref) ∨ Tm H a (ps.map V.ref)) (g : Paired (fun p kv => SqT K H p [kV kv.1, kv.2]) ps kvs) (q : ∀ p, H p = none → Q (.ref p) (upd H p (.dK (mergeK [] kvs)))) : rDictP K [.ref a] H Q := ⟨a, ps, kvs, rfl, h, g, q⟩
end
end L2.Rx

end
section
set_option Elab.async false
set_option linter.all false
set_option maxRecDepth 100000
set_option maxHeartbeats 4000000
local macro_rules | `(tactic| walk_at "rd1") => `(tactic| with_reducible first
  | refine L2.Rx.r_seq ?_ | refine L2.Rx.r_asg ?_ | refine L2.Rx.r_gname ?_ | refine L2.Rx.r_op ?_ | refine L2.Rx.r_c ?_
  | refine L2.Rx.r_var rfl ?_
  | refine L2.Rx.r_rI0 ?_ | refine L2.Rx.r_test ?_ | refine L2.Rx.r_bl ?_ | refine L2.Rx.r_if ?_ | refine L2.Rx.r_ret ?_
  | refine L2.Rx.r_cons ?_ | refine L2.Rx.r_nil ?_ | refine L2.Rx.r_call ?_ | refine L2.Rx.r_cb ?_ | refine L2.Rx.r_next ?_ | refine L2.Rx.r_drop ?_
  | refine L2.Rx.r_gsub ?_ | refine L2.Rx.r_tupF ?_ | refine L2.Rx.r_lst ?_ | refine L2.Rx.r_par ?_ | refine L2.Rx.r_par2 ?_
  | refine L2.Rx.r_un ?_ | refine L2.Rx.r_tb ?_ | refine L2.Rx.r_and ?_ | refine L2.Rx.r_or ?_ | refine L2.Rx.r_not ?_
  | refine L2.Rx.r_andV ?_ | refine L2.Rx.r_orV ?_ | refine L2.Rx.r_notV ?_ | refine L2.Rx.r_ifx ?_ | refine L2.Rx.r_chain ?_
  | refine L2.Rx.r_sl ?_ | refine L2.Rx.r_nopart ?_ | refine L2.Rx.r_part ?_ | refine L2.Rx.r_exint ?_ | refine L2.Rx.r_bm0 ?_ | refine L2.Rx.r_bm ?_
  | refine L2.Rx.r_lc ?_ | refine L2.Rx.r_rng1 ?_ | refine L2.Rx.r_yes ?_ | refine L2.Rx.r_tt ?_ | refine L2.Rx.r_ff ?_ | refine L2.Rx.r_m1 ?_ | refine L2.Rx.r_m0 ?_ | refine L2.Rx.r_isS ?_
  | (refine L2.Rx.r_wipe (by with_unfolding_all rfl) ?_) | (refine L2.Rx.r_tyL (by walk_at "hp") ?_)
  | refine L2.Rx.r_addS (by walk_at "len") ?_ | refine L2.Rx.r_lenS (by walk_at "len") ?_ | refine L2.Rx.r_slS (by walk_at "len") ?_
  | refine L2.Rx.r_dnotin ?_ | refine L2.Rx.r_dget ?_ | refine L2.Rx.r_dget1 ?_ | refine L2.Rx.r_dput ?_ | refine L2.Rx.r_dpop1 ?_ | refine L2.Rx.r_isN ?_
  | refine L2.Rx.r_for ?_ | refine L2.Rx.r_ilist ?_ | refine L2.Rx.r_itup ?_
  | refine L2.Rx.r_gcons ?_ | refine L2.Rx.r_gnil ?_ | (refine L2.Rx.r_gtupP (by assumption) (by walk_at "at") ?_)
  | (refine L2.Rx.r_rEq rfl ?_) | (refine L2.Rx.r_rNe rfl ?_)
  | refine L2.Rx.r_rU ?_ | refine L2.Rx.r_max2 ?_ | refine L2.Rx.r_min2 ?_ | refine L2.Rx.r_int1i ?_ | (refine L2.Rx.r_lenh (by walk_at "hp") ?_)
  | (refine L2.Rx.r_ixLh (by walk_at "hp") (by walk_at "at") ?_)
  | (refine L2.Rx.r_setL (by walk_at "hp") (by walk_at "at") ?_))
local macro_rules | `(tactic| walk_at "at") => `(tactic| with_unfolding_all rfl)
local macro_rules | `(tactic| walk_at "rd") => `(tactic| (repeat walk_at "rd1"))
local macro_rules | `(tactic| walk_at "hp") => `(tactic| first
  | assumption
  | exact L2.upd_same
  | (refine Eq.trans (L2.upd_ne ?_) ?_; (focus walk_at "ne"); (focus walk_at "hp"))
  | (refine L2.Rx.Kp.at0 (by assumption) ?_; walk_at "hp")
  | (refine L2.Rx.Kp.at1 (by assumption) ?_ ?_; (focus walk_at "ne"); (focus walk_at "hp")))
local macro_rules | `(tactic| walk_at "ne") => `(tactic| first
  | assumption | exact Ne.symm (by assumption)
  | (refine L2.ne_of_none (H := ?nH) (o := ?nO) ?nh ?nn; (case nn => assumption); (case nh => walk_at "hp"))
  | (refine Ne.symm (L2.ne_of_none (H := ?nH) (o := ?nO) ?nh ?nn); (case nn => assumption); (case nh => walk_at "hp")))
local macro_rules | `(tactic| walk_at "len") => `(tactic| (rw [PySem.sizeLine_eq]; omega))
local macro_rules | `(tactic| walk_at "nin") => `(tactic| first
  | exact List.not_mem_nil
  | (refine L2.Rx.nin1 ?_; walk_at "ne"))
local macro_rules | `(tactic| walk_at "none") => `(tactic| first
  | assumption
  | (refine L2.Rx.Kp.none0 (by assumption) ?_ ?_; (focus walk_at "nin"); (focus walk_at "none")))
namespace L2.Rx
open PySem PySem.Spec PyProof.Rows
/-! ### data: none, bools, ints, texts, tuples of these: what may change does not reach it -/
mutual
def noL : PyData → Bool
  | .list _ => false
  | .dict _ => false
  | .tuple ds => noLs ds
  | .none => true
  | .bool _ => true
  | .int _ => true
  | .str _ => true
def noLs : List PyData → Bool
  | [] => true
  | d :: ds => noL d && noLs ds
end
mutual
/-- small enough to compare and to show -/
def shp : PyData → Bool
  | .list ds => shps ds
  | .dict _ => false
  | .tuple ds => shps ds
  | .str x => PyData.strOk x
  | .none => true
  | .bool _ => true
  | .int _ => true
def shps : List PyData → Bool
  | [] => true
  | d :: ds => shp d && shps ds
end
mutual
/-- data whose tuples are made here -/
inductive Dq (K : PySem.W.Frag) (H : Hp) : V → PyData → Prop
  | non : Dq K H .non .none
  | bl (b : Bool) : Dq K H (.bl b) (.bool b)
  | int (i : Int) : Dq K H (.int i) (.int i)
  | str (x : Str) : Dq K H (.str x) (.str x)
  | lst {a : Addr} {xs : List V} {ds : List PyData} : SqL K H a xs → DqAll K H xs ds → Dq K H (.ref a) (.list ds)
  | tup {a : Addr} {xs : List V} {ds : List PyData} : Tm H a xs → DqAll K H xs ds → Dq K H (.ref a) (.tuple ds)
inductive DqAll (K : PySem.W.Frag) (H : Hp) : List V → List PyData → Prop
  | nil : DqAll K H [] []
  | cons {v : V} {vs : List V} {d : PyData} {ds : List PyData} : Dq K H v d → DqAll K H vs ds → DqAll K H (v :: vs) (d :: ds)
end
section
variable {K : PySem.W.Frag} {H H' : Hp} {S : List Addr} {p b : Addr} {xs : List V}
mutual
theorem Dq.dp : ∀ (d : PyData) (v : V), Dq K H v d → Dp K H v d
  | .none, _, h => by cases h; exact .non
  | .bool b, _, h => by cases h; exact .bl b
  | .int i, _, h => by cases h; exact .int i
  | .str x, _, h => by cases h; exact .str x
  | .list ds, _, h => by
    cases h with
    | lst h1 h2 => exact .lst h1 (DqAll.dp ds _ h2)
  | .tuple ds, _, h => by
    cases h with
    | tup h1 h2 => exact .tup h1.sq (DqAll.dp ds _ h2)
  | .dict _, _, h => by cases h
theorem DqAll.dp : ∀ (ds : List PyData) (vs : List V), DqAll K H vs ds → DpAll K H vs ds
  | [], _, h => by cases h; exact .nil
  | d :: ds, _, h => by
    cases h with
    | cons h1 h2 => exact .cons (Dq.dp d _ h1) (DqAll.dp ds _ h2)
end
theorem dqAll_strs : ∀ ns : List Str, DqAll K H (ns.map V.str) (ns.map PyData.str)
  | [] => .nil
  | n :: r => .cons (.str n) (dqAll_strs r)
theorem dqAll_len {ys : List V} {ds : List PyData} (h : DqAll K H ys ds) : ys.length = ds.length := dpAll_len (DqAll.dp _ _ h)
mutual
theorem Dq.keep0 (k : Kp [] H H') : ∀ (d : PyData) (v : V), Dq K H v d → Dq K H' v d
  | .none, _, h => by cases h; exact .non
  | .bool b, _, h => by cases h; exact .bl b
  | .int i, _, h => by cases h; exact .int i
  | .str x, _, h => by cases h; exact .str x
  | .list ds, _, h => by
    cases h with
    | lst h1 h2 => exact .lst (kp_sqL k (by simp) h1) (DqAll.keep0 k ds _ h2)
  | .tuple ds, _, h => by
    cases h with
    | tup h1 h2 => exact .tup (h1.keep0 k) (DqAll.keep0 k ds _ h2)
  | .dict _, _, h => by cases h
theorem DqAll.keep0 (k : Kp [] H H') : ∀ (ds : List PyData) (vs : List V), DqAll K H vs ds → DqAll K H' vs ds
  | [], _, h => by cases h; exact .nil
  | d :: ds, _, h => by
    cases h with
    | cons h1 h2 => exact .cons (Dq.keep0 k d _ h1) (DqAll.keep0 k ds _ h2)
end
mutual
theorem Dq.keepS (k : Kp S H H') (m : Mu H S) : ∀ (d : PyData) (v : V), noL d = true → Dq K H v d → Dq K H' v d
  | .none, _, _, h => by cases h; exact .non
  | .bool b, _, _, h => by cases h; exact .bl b
  | .int i, _, _, h => by cases h; exact .int i
  | .str x, _, _, h => by cases h; exact .str x
  | .list ds, _, n, h => by rw [noL] at n; cases n
  | .tuple ds, _, n, h => by
    rw [noL] at n
    cases h with
    | tup h1 h2 => exact .tup (h1.keepM k m) (DqAll.keepS k m ds _ n h2)
  | .dict _, _, _, h => by cases h
theorem DqAll.keepS (k : Kp S H H') (m : Mu H S) : ∀ (ds : List PyData) (vs : List V), noLs ds = true → DqAll K H vs ds → DqAll K H' vs ds
  | [], _, _, h => by cases h; exact .nil
  | d :: ds, _, n, h => by
    rw [noLs, Bool.and_eq_true] at n
    cases h with
    | cons h1 h2 => exact .cons (Dq.keepS k m d _ n.1 h1) (DqAll.keepS k m ds _ n.2 h2)
end
mutual
theorem shp_lay : ∀ d : PyData, shp d = true → d.canLay0 = true
  | .none, _ => by rw [PyData.canLay0]
  | .bool b, _ => by rw [PyData.canLay0]
  | .int i, _ => by rw [PyData.canLay0]
  | .str x, h => by rw [PyData.canLay0]; rw [shp] at h; exact h
  | .list ds, h => by rw [PyData.canLay0]; rw [shp] at h; exact shps_lay ds h
  | .tuple ds, h => by rw [PyData.canLay0]; rw [shp] at h; exact shps_lay ds h
  | .dict _, h => by rw [shp] at h; cases h
theorem shps_lay : ∀ ds : List PyData, shps ds = true → PyData.canLayAll0 ds = true
  | [], _ => by rw [PyData.canLayAll0]
  | d :: ds, h => by
    rw [shps, Bool.and_eq_true] at h
    rw [PyData.canLayAll0, shp_lay d h.1, shps_lay ds h.2]
    rfl
end
theorem shaped_of {d : PyData} (h : shp d = true) (n : d.depth ≤ 64) : PySem.SeqAt.shaped d = true := by
  rw [PySem.SeqAt.shaped, shp_lay d h]
  exact decide_eq_true n
theorem shps_mem : ∀ {ds : List PyData}, (∀ d ∈ ds, shp d = true) → shps ds = true
  | [], _ => by rw [shps]
  | d :: ds, h => by rw [shps, h d (List.mem_cons_self ..), shps_mem fun e m => h e (List.mem_cons_of_mem _ m)]; rfl
theorem noLs_mem : ∀ {ds : List PyData}, (∀ d ∈ ds, noL d = true) → noLs ds = true
  | [], _ => by rw [noLs]
  | d :: ds, h => by rw [noLs, h d (List.mem_cons_self ..), noLs_mem fun e m => h e (List.mem_cons_of_mem _ m)]; rfl
theorem depth_mem : ∀ {ds : List PyData} {n : Nat}, (∀ d ∈ ds, d.depth ≤ n) → PyData.depthAll ds ≤ n
  | [], n, _ => by rw [PyData.depthAll]; omega
  | d :: ds, n, h => by
    rw [PyData.depthAll]
    have := h d (List.mem_cons_self ..)
    have := depth_mem (ds := ds) (n := n) fun e m => h e (List.mem_cons_of_mem _ m)
    omega
/-! taken apart -/
theorem dp_int {v : V} {i : Int} (h : Dq K H v (.int i)) : v = .int i := by cases h; rfl
theorem dp_str {v : V} {i : Str} (h : Dq K H v (.str i)) : v = .str i := by cases h; rfl
theorem dp_tup {v : V} {ds : List PyData} (h : Dq K H v (.tuple ds)) : ∃ a xs, v = .ref a ∧ Tm H a xs ∧ DqAll K H xs ds := by
  cases h with
  | tup h1 h2 => exact ⟨_, _, rfl, h1, h2⟩
theorem dp_nil {xs : List V} (h : DqAll K H xs []) : xs = [] := by cases h; rfl
theorem dp_cons {xs : List V} {d : PyData} {ds : List PyData} (h : DqAll K H xs (d :: ds)) : ∃ v vs, xs = v :: vs ∧ Dq K H v d ∧ DqAll K H vs ds := by
  cases h with
  | cons h1 h2 => exact ⟨_, _, rfl, h1, h2⟩
theorem DqAll.append {xs ys : List V} {ds es : List PyData} (h : DqAll K H xs ds) (g : DqAll K H ys es) : DqAll K H (xs ++ ys) (ds ++ es) := by
  induction ds generalizing xs with
  | nil => cases h; exact g
  | cons d ds ih =>
    cases h with
    | cons h1 h2 => exact .cons h1 (ih h2)
theorem DqAll.at {xs : List V} {ds : List PyData} {i : Nat} {v : V} (h : DqAll K H xs ds) (e : xs[i]? = some v) : ∃ d, ds[i]? = some d ∧ Dq K H v d := by
  induction ds generalizing xs i with
  | nil => cases h; cases e
  | cons d ds ih =>
    cases h with
    | cons h1 h2 =>
      cases i with
      | zero => cases e; exact ⟨d, rfl, h1⟩
      | succ i => exact ih h2 e
theorem dpL_strs {l : Addr} {ns : List Str} (h : SqL K H l (ns.map V.str)) : Dq K H (.ref l) (.list (ns.map PyData.str)) := .lst h (dqAll_strs ns)
/-! compared with () and [] -/
variable {Q : VK}
theorem eqvAll_nil : ∀ ds : List PyData, PyData.eqvAll ds [] = ds.isEmpty
  | [] => by rw [PyData.eqvAll]; rfl
  | d :: ds => by rw [PyData.eqvAll]; rfl
theorem r_eqL0 {v : V} {e : Addr} {ds : List PyData} (h : Dq K H v (.list ds)) (s : shp (.list ds) = true) (n : (PyData.list ds).depth ≤ 64) (he : H e = some (.lst [])) (q : Q (.bl ds.isEmpty) H) : rEqD K v (.ref e) H Q :=
  ⟨_, _, Dq.dp _ _ h, .lst (.inl (.inl he)) .nil, shaped_of s n, by decide +kernel, by rw [PyData.eqv, eqvAll_nil]; exact q⟩
theorem r_neL0 {v : V} {e : Addr} {ds : List PyData} (h : Dq K H v (.list ds)) (s : shp (.list ds) = true) (n : (PyData.list ds).depth ≤ 64) (he : H e = some (.lst [])) (q : Q (.bl (!ds.isEmpty)) H) : rNeD K v (.ref e) H Q :=
  ⟨_, _, Dq.dp _ _ h, .lst (.inl (.inl he)) .nil, shaped_of s n, by decide +kernel, by rw [PyData.eqv, eqvAll_nil]; exact q⟩
theorem r_eqT0 {v : V} {e : Addr} {ds : List PyData} (h : Dq K H v (.tuple ds)) (s : shp (.tuple ds) = true) (n : (PyData.tuple ds).depth ≤ 64) (he : Tm H e []) (q : Q (.bl ds.isEmpty) H) : rEqD K v (.ref e) H Q :=
  ⟨_, _, Dq.dp _ _ h, .tup he.sq .nil, shaped_of s n, by decide +kernel, by rw [PyData.eqv, eqvAll_nil]; exact q⟩
theorem r_neT0 {v : V} {e : Addr} {ds : List PyData} (h : Dq K H v (.tuple ds)) (s : shp (.tuple ds) = true) (n : (PyData.tuple ds).depth ≤ 64) (he : Tm H e []) (q : Q (.bl (!ds.isEmpty)) H) : rNeD K v (.ref e) H Q :=
  ⟨_, _, Dq.dp _ _ h, .tup he.sq .nil, shaped_of s n, by decide +kernel, by rw [PyData.eqv, eqvAll_nil]; exact q⟩
/-! cells -/
theorem Cell.ok {c : Str} (h : Cell c) : PyData.strOk c = true := by
  rw [PyData.strOk, ← Array.all_toList, List.all_eq_true]
  intro x hx
  have := h.2.2 x hx
  exact decide_eq_true (by omega)
theorem Cells.shps {cs : List Str} (h : Cells cs) : shp (.list (cs.map PyData.str)) = true := by
  rw [shp]
  refine shps_mem fun d hd => ?_
  obtain ⟨c, hc, rfl⟩ := List.mem_map.mp hd
  rw [shp]
  exact (h.2 c hc).ok
theorem depth_strs (cs : List Str) : (PyData.list (cs.map PyData.str)).depth ≤ 1 := by
  rw [PyData.depth]
  have := depth_mem (ds := cs.map PyData.str) (n := 0) fun d hd => by
    obtain ⟨c, hc, rfl⟩ := List.mem_map.mp hd
    rw [PyData.depth]
    exact Nat.le_refl _
  omega
theorem Kp.dropT {S T : List Addr} {H H1 H2 : Hp} (k : Kp S H H1) (j : Kp T H1 H2) (h : ∀ a ∈ T, a ∈ S ∨ H a = none) : Kp S H H2 := fun a o n e => by
  refine j a o (fun z => ?_) (k a o n e)
  rcases h a z with q | q
  · exact n q
  · rw [q] at e
    cases e
theorem Kp.upd1 {S : List Addr} {H H1 : Hp} {p : Addr} {o : HO} (k : Kp S H H1) (h : p ∈ S ∨ H p = none) : Kp S H (L2.upd H1 p o) := Kp.dropT k (Kp.put (b := p)) fun a m => by
  have e : a = p := by simpa using m
  rw [e]
  exact h
theorem _root_.L2.Rx.Box.keepS {S : List Addr} {H H' : Hp} {b : Addr} {n : Nat} (B : Box H b n) (k : Kp S H H') (h : b ∉ S) : Box H' b n := by
  obtain ⟨o, s, c, e, r⟩ := B
  exact ⟨o, s, c, k b _ h e, r⟩
theorem _root_.L2.Rx.Box.mu {H : Hp} {b : Addr} {n : Nat} (B : Box H b n) : Mu H [b] := by
  obtain ⟨o, s, c, e, r⟩ := B
  exact Mu.lst e
theorem r_popAt {l : Addr} {xs : List V} {i : Int} {v : V} (h : H l = some (.lst xs)) (h0 : 0 ≤ i) (h1 : i < 1000000000) (e : xs[i.toNat]? = some v) (q : Q v (upd H l (.lst (xs.eraseIdx i.toNat)))) : rPopAt (.ref l) [.int i] H Q := by
  have hl : i.toNat < xs.length := (List.getElem?_eq_some_iff.mp e).1
  refine ⟨l, xs, i, i.toNat, v, rfl, rfl, h, by omega, by omega, ?_, e, q⟩
  simp [PySem.seqIndex?, show ¬ i < 0 by omega, h0]
  omega
theorem eraseIdx_map' {α β : Type} (f : α → β) : ∀ (xs : List α) (i : Nat), (xs.map f).eraseIdx i = (xs.eraseIdx i).map f
  | [], _ => rfl
  | x :: xs, 0 => rfl
  | x :: xs, i + 1 => by rw [List.map_cons, List.eraseIdx_cons_succ, List.eraseIdx_cons_succ, List.map_cons, eraseIdx_map' f xs i]
@[elab_as_elim] theorem gen_put {P : Hp → Prop} {H : Hp} {p : Addr} {o : HO} (h : ∀ H', Kp [p] H H' → H' p = some o → P H') : P (L2.upd H p o) := h _ Kp.put L2.upd_same
/-! ### trees -/
inductive Tr | lf | nd (c : Str) (bs : List (Int × Tr))
mutual
def Tr.d : Tr → PyData
  | .lf => .tuple []
  | .nd c bs => .tuple [.str c, .tuple (brd bs)]
def brd : List (Int × Tr) → List PyData
  | [] => []
  | (v, t) :: r => .tuple [.int v, t.d] :: brd r
end
theorem brd_eq : ∀ bs : List (Int × Tr), brd bs = bs.map fun p => .tuple [.int p.1, p.2.d]
  | [] => by rw [brd]; rfl
  | (v, t) :: r => by rw [brd, brd_eq r]; rfl
/-- a tree over these cells, each path of which is of at most n nodes -/
inductive Okt : Nat → List Str → Tr → Prop
  | lf (n : Nat) (cs : List Str) : Okt n cs .lf
  | nd {n : Nat} {cs cs' : List Str} {c : Str} {bs : List (Int × Tr)} : c ∈ cs → c ∉ cs' → (∀ x ∈ cs', x ∈ cs) → bs ≠ [] → bs.length ≤ 3 → (bs.map Prod.fst).Pairwise (· < ·) → (∀ p ∈ bs, 0 ≤ p.1 ∧ p.1 ≤ 1000000000) → (∀ p ∈ bs, Okt n cs' p.2) → Okt (n + 1) cs (.nd c bs)
theorem Okt.noL {n : Nat} {cs : List Str} {t : Tr} (h : Okt n cs t) : noL t.d = true := by
  induction h with
  | lf n cs => rw [Tr.d, Rx.noL, noLs]
  | nd h1 h2 h3 h4 h5 h6 h7 h8 ih =>
    rw [Tr.d, Rx.noL, noLs, noLs, noLs, Rx.noL, Rx.noL]
    rw [show noLs (brd _) = true from ?_]
    · rfl
    · refine noLs_mem fun d hd => ?_
      rw [brd_eq] at hd
      obtain ⟨p, hp, rfl⟩ := List.mem_map.mp hd
      rw [Rx.noL, noLs, noLs, noLs, Rx.noL, ih p hp]
      rfl
theorem Okt.shp {n : Nat} {cs : List Str} {t : Tr} (h : Okt n cs t) (hc : ∀ c ∈ cs, Cell c) : shp t.d = true := by
  induction h with
  | lf n cs => rw [Tr.d, Rx.shp, Rx.shps]
  | nd h1 h2 h3 h4 h5 h6 h7 h8 ih =>
    rw [Tr.d, Rx.shp, Rx.shps, Rx.shps, Rx.shps, Rx.shp, Rx.shp, (hc _ h1).ok]
    rw [show Rx.shps (brd _) = true from ?_]
    · rfl
    · refine shps_mem fun d hd => ?_
      rw [brd_eq] at hd
      obtain ⟨p, hp, rfl⟩ := List.mem_map.mp hd
      rw [Rx.shp, Rx.shps, Rx.shps, Rx.shps, Rx.shp, ih p hp fun c m => hc c (h3 c m)]
      rfl
theorem Okt.depth {n : Nat} {cs : List Str} {t : Tr} (h : Okt n cs t) : t.d.depth ≤ 3 * n + 1 := by
  induction h with
  | lf n cs => rw [Tr.d, PyData.depth, PyData.depthAll]; omega
  | @nd n cs cs' c bs h1 h2 h3 h4 h5 h6 h7 h8 ih =>
    rw [Tr.d, PyData.depth, PyData.depthAll, PyData.depthAll, PyData.depthAll, PyData.depth, PyData.depth]
    have : PyData.depthAll (brd bs) ≤ 3 * n + 2 := by
      refine depth_mem fun d hd => ?_
      rw [brd_eq] at hd
      obtain ⟨p, hp, rfl⟩ := List.mem_map.mp hd
      rw [PyData.depth, PyData.depthAll, PyData.depthAll, PyData.depthAll, PyData.depth]
      have := ih p hp
      omega
    omega
end
end L2.Rx

end
section
set_option Elab.async false
set_option linter.all false
set_option maxRecDepth 100000
set_option maxHeartbeats 4000000
local macro_rules | `(tactic| walk_at "rd1") => `(tactic| with_reducible first
  | refine L2.Rx.r_seq ?_ | refine L2.Rx.r_asg ?_ | refine L2.Rx.r_gname ?_ | refine L2.Rx.r_op ?_ | refine L2.Rx.r_c ?_
  | refine L2.Rx.r_var rfl ?_
  | refine L2.Rx.r_rI0 ?_ | refine L2.Rx.r_test ?_ | refine L2.Rx.r_bl ?_ | refine L2.Rx.r_if ?_ | refine L2.Rx.r_ret ?_
  | refine L2.Rx.r_cons ?_ | refine L2.Rx.r_nil ?_ | refine L2.Rx.r_call ?_ | refine L2.Rx.r_cb ?_ | refine L2.Rx.r_next ?_ | refine L2.Rx.r_drop ?_
  | refine L2.Rx.r_gsub ?_ | refine L2.Rx.r_tupF ?_ | refine L2.Rx.r_lst ?_ | refine L2.Rx.r_par ?_ | refine L2.Rx.r_par2 ?_
  | refine L2.Rx.r_un ?_ | refine L2.Rx.r_tb ?_ | refine L2.Rx.r_and ?_ | refine L2.Rx.r_or ?_ | refine L2.Rx.r_not ?_
  | refine L2.Rx.r_andV ?_ | refine L2.Rx.r_orV ?_ | refine L2.Rx.r_notV ?_ | refine L2.Rx.r_ifx ?_ | refine L2.Rx.r_chain ?_
  | refine L2.Rx.r_sl ?_ | refine L2.Rx.r_nopart ?_ | refine L2.Rx.r_part ?_ | refine L2.Rx.r_exint ?_ | refine L2.Rx.r_bm0 ?_ | refine L2.Rx.r_bm ?_
  | refine L2.Rx.r_lc ?_ | refine L2.Rx.r_rng1 ?_ | refine L2.Rx.r_yes ?_ | refine L2.Rx.r_tt ?_ | refine L2.Rx.r_ff ?_ | refine L2.Rx.r_m1 ?_ | refine L2.Rx.r_m0 ?_ | refine L2.Rx.r_isS ?_
  | (refine L2.Rx.r_wipe (by with_unfolding_all rfl) ?_) | (refine L2.Rx.r_tyL (by walk_at "hp") ?_)
  | refine L2.Rx.r_addS (by walk_at "len") ?_ | refine L2.Rx.r_lenS (by walk_at "len") ?_ | refine L2.Rx.r_slS (by walk_at "len") ?_
  | refine L2.Rx.r_dnotin ?_ | refine L2.Rx.r_dget ?_ | refine L2.Rx.r_dget1 ?_ | refine L2.Rx.r_dput ?_ | refine L2.Rx.r_dpop1 ?_ | refine L2.Rx.r_isN ?_
  | refine L2.Rx.r_for ?_ | refine L2.Rx.r_ilist ?_ | refine L2.Rx.r_itup ?_
  | refine L2.Rx.r_gcons ?_ | refine L2.Rx.r_gnil ?_ | (refine L2.Rx.r_gtupP (by assumption) (by walk_at "at") ?_)
  | (refine L2.Rx.r_rEq rfl ?_) | (refine L2.Rx.r_rNe rfl ?_)
  | refine L2.Rx.r_rU ?_ | refine L2.Rx.r_max2 ?_ | refine L2.Rx.r_min2 ?_ | refine L2.Rx.r_int1i ?_ | (refine L2.Rx.r_lenh (by walk_at "hp") ?_)
  | (refine L2.Rx.r_ixLh (by walk_at "hp") (by walk_at "at") ?_)
  | (refine L2.Rx.r_setL (by walk_at "hp") (by walk_at "at") ?_))
local macro_rules | `(tactic| walk_at "at") => `(tactic| with_unfolding_all rfl)
local macro_rules | `(tactic| walk_at "rd") => `(tactic| (repeat walk_at "rd1"))
local macro_rules | `(tactic| walk_at "hp") => `(tactic| first
  | assumption
  | exact L2.upd_same
  | (refine Eq.trans (L2.upd_ne ?_) ?_; (focus walk_at "ne"); (focus walk_at "hp"))
  | (refine L2.Rx.Kp.at0 (by assumption) ?_; walk_at "hp")
  | (refine L2.Rx.Kp.at1 (by assumption) ?_ ?_; (focus walk_at "ne"); (focus walk_at "hp")))
local macro_rules | `(tactic| walk_at "ne") => `(tactic| first
  | assumption | exact Ne.symm (by assumption)
  | (refine L2.ne_of_none (H := ?nH) (o := ?nO) ?nh ?nn; (case nn => assumption); (case nh => walk_at "hp"))
  | (refine Ne.symm (L2.ne_of_none (H := ?nH) (o := ?nO) ?nh ?nn); (case nn => assumption); (case nh => walk_at "hp")))
local macro_rules | `(tactic| walk_at "len") => `(tactic| (rw [PySem.sizeLine_eq]; omega))
local macro_rules | `(tactic| walk_at "nin") => `(tactic| first
  | exact List.not_mem_nil
  | (refine L2.Rx.nin1 ?_; walk_at "ne"))
local macro_rules | `(tactic| walk_at "none") => `(tactic| first
  | assumption
  | (refine L2.Rx.Kp.none0 (by assumption) ?_ ?_; (focus walk_at "nin"); (focus walk_at "none")))
namespace L2.Rx
open PySem PySem.Spec PyProof.Rows
theorem perm_map_lift {α β : Type} {f : α → β} {bs cs : List β} (h : bs.Perm cs) : ∀ {zs : List α}, cs = zs.map f → ∃ zs' : List α, zs'.Perm zs ∧ bs = zs'.map f := by
  induction h with
  | nil =>
    intro zs e
    exact ⟨zs, List.Perm.refl _, e⟩
  | @cons x l1 l2 h ih =>
    intro zs e
    cases zs with
    | nil => cases e
    | cons z zs =>
      injection e with e1 e2
      obtain ⟨zs', p, e3⟩ := ih e2
      exact ⟨z :: zs', p.cons z, by rw [List.map_cons, e1, e3]⟩
  | @swap x y l =>
    intro zs e
    cases zs with
    | nil => cases e
    | cons z zs =>
      injection e with e1 e2
      cases zs with
      | nil => cases e2
      | cons z2 zs =>
        injection e2 with e2 e3
        exact ⟨z2 :: z :: zs, List.Perm.swap _ _ _, by rw [List.map_cons, List.map_cons, e1, e2, e3]⟩
  | trans h1 h2 ih1 ih2 =>
    intro zs e
    obtain ⟨zs', p, e2⟩ := ih2 e
    obtain ⟨zs'', p2, e3⟩ := ih1 e2
    exact ⟨zs'', p2.trans p, e3⟩
section
variable {K : PySem.W.Frag} {H H' : Hp} {Q : VK} {σ : St}
theorem dpAll_mem {ys : List V} {ds : List PyData} : DqAll K H ys ds → ∀ z ∈ ds.zip ys, Dq K H z.2 z.1 := by
  intro h
  induction ds generalizing ys with
  | nil => intro z hz; cases h; cases hz
  | cons d ds ih =>
    intro z hz
    cases h with
    | cons h1 h2 =>
      rw [List.zip_cons_cons] at hz
      rcases List.mem_cons.mp hz with e | e
      · rw [e]
        exact h1
      · exact ih h2 z e
theorem dpAll_of {zs : List (PyData × V)} (h : ∀ z ∈ zs, Dq K H z.2 z.1) : DqAll K H (zs.map Prod.snd) (zs.map Prod.fst) := by
  induction zs with
  | nil => exact .nil
  | cons z zs ih => exact .cons (h z (List.mem_cons_self ..)) (ih fun y m => h y (List.mem_cons_of_mem _ m))
/-- sorted of data that stand for things of Lean -/
theorem r_sortD {α : Type} {enc : α → PyData} {a : Addr} {ys : List V} {as : List α} (hs : SqL K H a ys ∨ SqT K H a ys) (hd : DqAll K H ys (as.map enc)) (sb : Sb (as.map enc))
    (h : ∀ (p : Addr) (bs : List α) (ys' : List V), bs.Perm as → bs.Pairwise (fun x y => PySem.W.dataLt (enc y) (enc x) = false) → DqAll K H ys' (bs.map enc) → H p = none → Q (.ref p) (upd H p (.lst ys'))) : rSortV K [.ref a] H Q := by
  refine r_sort hs (DqAll.dp _ _ hd) sb fun p zs hp hw np => ?_
  have hl : ys.length = (as.map enc).length := dqAll_len hd
  have e1 : (zs.map Prod.fst).Perm (as.map enc) := by
    have := hp.map Prod.fst
    rw [zip_fst _ _ hl] at this
    exact this
  obtain ⟨bs, pb, eb⟩ := perm_map_lift e1 rfl
  refine h p bs _ pb ?_ ?_ np
  · have : (zs.map Prod.fst).Pairwise (fun a b => PySem.W.dataLt b a = false) := by
      rw [List.pairwise_map]
      exact hw
    rw [eb, List.pairwise_map] at this
    exact this
  · rw [← eb]
    exact dpAll_of fun z hz => dpAll_mem hd z (hp.mem_iff.mp hz)
theorem r_extend {l b : Addr} {xs zs : List V} (h : H l = some (.lst xs)) (g : H b = some (.lst zs)) (z : xs.length + zs.length ≤ 1000000) (q : Q .non (upd H l (.lst (xs ++ zs)))) : rExtend (.ref l) [.ref b] H Q :=
  ⟨l, b, xs, zs, rfl, rfl, h, g, by rw [sizeLine_eq]; omega, q⟩
theorem r_pop {l : Addr} {xs : List V} {y : V} (h : H l = some (.lst (xs ++ [y]))) (q : Q y (upd H l (.lst xs))) : rPop (.ref l) [] H Q := by
  refine ⟨l, xs ++ [y], y, rfl, rfl, h, ?_, ?_⟩
  · rw [List.length_append, List.length_singleton, Nat.add_sub_cancel, List.getElem?_append_right (Nat.le_refl _), Nat.sub_self]
    rfl
  · rw [List.dropLast_concat]
    exact q
theorem r_ixT {p : Addr} {xs : List V} {i : Int} {v : V} (h : SqT K H p xs) (a : atI xs i = some v) (q : Q v H) : rIxT K (.ref p) (.int i) H Q := ⟨p, xs, i, v, rfl, rfl, h, a, q⟩
theorem r_while {c : TT} {tb : TS} {D : Ends} (h : ∃ W : Nat → St → Hp → Prop, (∃ m, W m σ H) ∧ ∀ m σ H, W m σ H →
  c σ H fun b H1 => if b = true then ∃ N : St → Hp → Prop, (∀ σ' H', N σ' H' → ∃ m', m' < m ∧ W m' σ' H') ∧ tb { D with nx := N, ct := N, bk := D.nx } σ H1 else D.nx σ H1) : tWhile c tb D σ H := h
/-! ### pairs, logs, paths -/
def prD (z : Str × Int) : PyData := .tuple [.str z.1, .int z.2]
def logD (l : List (Str × Int)) : PyData := .tuple (l.map prD)
mutual
def Tr.paths : Tr → List (List (Str × Int))
  | .lf => [[]]
  | .nd c bs => brp c bs
def brp (c : Str) : List (Int × Tr) → List (List (Str × Int))
  | [] => []
  | (v, t) :: r => t.paths.map ((c, v) :: ·) ++ brp c r
end
mutual
def Tr.size : Tr → Nat
  | .lf => 1
  | .nd _ bs => 1 + brz bs
def brz : List (Int × Tr) → Nat
  | [] => 0
  | (_, t) :: r => t.size + brz r
end
theorem brp_eq (c : Str) : ∀ bs : List (Int × Tr), brp c bs = bs.flatMap fun z => z.2.paths.map ((c, z.1) :: ·)
  | [] => by rw [brp]; rfl
  | (v, t) :: r => by rw [brp, brp_eq c r]; rfl
theorem brz_eq : ∀ bs : List (Int × Tr), brz bs = (bs.map fun z => z.2.size).sum
  | [] => by rw [brz]; rfl
  | (v, t) :: r => by rw [brz, brz_eq r, List.map_cons, List.sum_cons]
theorem Okt.paths_pos {n : Nat} {cs : List Str} {t : Tr} (h : Okt n cs t) : 1 ≤ t.paths.length := by
  induction h with
  | lf n cs => rw [Tr.paths]; exact Nat.le_refl _
  | @nd n cs cs' c bs h1 h2 h3 h4 h5 h6 h7 h8 ih =>
    cases bs with
    | nil => exact absurd rfl h4
    | cons z r =>
      obtain ⟨v, t⟩ := z
      rw [Tr.paths, brp, List.length_append, List.length_map]
      have := ih (v, t) (List.mem_cons_self ..)
      show 1 ≤ t.paths.length + _
      have : 1 ≤ t.paths.length := this
      omega
theorem Okt.paths_le {n : Nat} {cs : List Str} {t : Tr} (h : Okt n cs t) : t.paths.length ≤ 3 ^ n := by
  induction h with
  | lf n cs => rw [Tr.paths]; exact Nat.one_le_pow _ _ (by decide)
  | @nd n cs cs' c bs h1 h2 h3 h4 h5 h6 h7 h8 ih =>
    have : ∀ r : List (Int × Tr), (∀ z ∈ r, z.2.paths.length ≤ 3 ^ n) → (brp c r).length ≤ r.length * 3 ^ n := by
      intro r
      induction r with
      | nil => intro _; rw [brp]; simp
      | cons z r ihr =>
        intro hz
        obtain ⟨v, t⟩ := z
        rw [brp, List.length_append, List.length_map, List.length_cons, Nat.succ_mul]
        have a := ihr fun y m => hz y (List.mem_cons_of_mem _ m)
        have b : t.paths.length ≤ 3 ^ n := hz (v, t) (List.mem_cons_self ..)
        omega
    have a := this bs ih
    have b : bs.length * 3 ^ n ≤ 3 * 3 ^ n := Nat.mul_le_mul_right _ h5
    rw [Tr.paths, Nat.pow_succ]
    omega
theorem pair_noL (z : Str × Int) : noL (prD z) = true := by rw [prD, noL, noLs, noLs, noLs, noL, noL]; rfl
theorem log_noL (l : List (Str × Int)) : noL (logD l) = true := by
  rw [logD, noL]
  refine noLs_mem fun d hd => ?_
  obtain ⟨z, _, rfl⟩ := List.mem_map.mp hd
  exact pair_noL z
theorem pair_depth (z : Str × Int) : (prD z).depth = 1 := by
  rw [prD, PyData.depth, PyData.depthAll, PyData.depthAll, PyData.depthAll, PyData.depth, PyData.depth]
  rfl
theorem log_depth (l : List (Str × Int)) : (logD l).depth ≤ 2 := by
  rw [logD, PyData.depth]
  have := depth_mem (ds := l.map prD) (n := 1) fun d hd => by
    obtain ⟨z, _, rfl⟩ := List.mem_map.mp hd
    rw [pair_depth]
    exact Nat.le_refl _
  omega
theorem pair_alike (x y : Str × Int) : PySem.W.alike (prD x) (prD y) = true := by
  simp [prD, PySem.W.alike, PySem.W.alikeAll]
theorem pairs_alikeAll : ∀ l m : List (Str × Int), PySem.W.alikeAll (l.map prD) (m.map prD) = true
  | [], _ => by rw [List.map_nil, PySem.W.alikeAll]
  | _ :: _, [] => by rw [List.map_cons, List.map_nil, PySem.W.alikeAll]
  | x :: l, y :: m => by rw [List.map_cons, List.map_cons, PySem.W.alikeAll, pair_alike, pairs_alikeAll l m]; rfl
theorem log_alike (l m : List (Str × Int)) : PySem.W.alike (logD l) (logD m) = true := by
  rw [logD, logD, PySem.W.alike]
  exact pairs_alikeAll l m
theorem sb_pairs (l : List (Str × Int)) : Sb (l.map prD) := by
  refine ⟨PySem.W.AllAlike.of fun _ _ => pair_alike _ _, fun d hd => ?_, .inl (PySem.W.Sortable.tuples fun z => ⟨_, _, rfl⟩)⟩
  obtain ⟨z, _, rfl⟩ := List.mem_map.mp hd
  exact ⟨by rw [pair_depth]; decide, by rw [prD]; exact fun z => nomatch z⟩
theorem sb_logs (ls : List (List (Str × Int))) (h : (∀ l ∈ ls, l ≠ []) ∨ ls.length < 2) : Sb (ls.map logD) := by
  refine ⟨PySem.W.AllAlike.of fun _ _ => log_alike _ _, fun d hd => ?_, ?_⟩
  · obtain ⟨z, _, rfl⟩ := List.mem_map.mp hd
    exact ⟨Nat.le_trans (log_depth z) (by decide), by rw [logD]; exact fun z => nomatch z⟩
  · rcases h with h | h
    · refine .inl (.inl fun d hd => ?_)
      obtain ⟨l, hl, rfl⟩ := List.mem_map.mp hd
      cases l with
      | nil => exact absurd rfl (h _ hl)
      | cons z r => exact ⟨prD z, r.map prD, rfl⟩
    · right
      rw [List.length_map]
      exact h
end
end L2.Rx

end
section
set_option Elab.async false
set_option linter.all false
set_option maxRecDepth 100000
set_option maxHeartbeats 4000000
local macro_rules | `(tactic| walk_at "rd1") => `(tactic| with_reducible first
  | refine L2.Rx.r_seq ?_ | refine L2.Rx.r_asg ?_ | refine L2.Rx.r_gname ?_ | refine L2.Rx.r_op ?_ | refine L2.Rx.r_c ?_
  | refine L2.Rx.r_var rfl ?_
  | refine L2.Rx.r_rI0 ?_ | refine L2.Rx.r_test ?_ | refine L2.Rx.r_bl ?_ | refine L2.Rx.r_if ?_ | refine L2.Rx.r_ret ?_
  | refine L2.Rx.r_cons ?_ | refine L2.Rx.r_nil ?_ | refine L2.Rx.r_call ?_ | refine L2.Rx.r_cb ?_ | refine L2.Rx.r_next ?_ | refine L2.Rx.r_drop ?_
  | refine L2.Rx.r_gsub ?_ | refine L2.Rx.r_tupF ?_ | refine L2.Rx.r_lst ?_ | refine L2.Rx.r_par ?_ | refine L2.Rx.r_par2 ?_
  | refine L2.Rx.r_un ?_ | refine L2.Rx.r_tb ?_ | refine L2.Rx.r_and ?_ | refine L2.Rx.r_or ?_ | refine L2.Rx.r_not ?_
  | refine L2.Rx.r_andV ?_ | refine L2.Rx.r_orV ?_ | refine L2.Rx.r_notV ?_ | refine L2.Rx.r_ifx ?_ | refine L2.Rx.r_chain ?_
  | refine L2.Rx.r_sl ?_ | refine L2.Rx.r_nopart ?_ | refine L2.Rx.r_part ?_ | refine L2.Rx.r_exint ?_ | refine L2.Rx.r_bm0 ?_ | refine L2.Rx.r_bm ?_
  | refine L2.Rx.r_lc ?_ | refine L2.Rx.r_rng1 ?_ | refine L2.Rx.r_yes ?_ | refine L2.Rx.r_tt ?_ | refine L2.Rx.r_ff ?_ | refine L2.Rx.r_m1 ?_ | refine L2.Rx.r_m0 ?_ | refine L2.Rx.r_isS ?_
  | (refine L2.Rx.r_wipe (by with_unfolding_all rfl) ?_) | (refine L2.Rx.r_tyL (by walk_at "hp") ?_)
  | refine L2.Rx.r_addS (by walk_at "len") ?_ | refine L2.Rx.r_lenS (by walk_at "len") ?_ | refine L2.Rx.r_slS (by walk_at "len") ?_
  | refine L2.Rx.r_dnotin ?_ | refine L2.Rx.r_dget ?_ | refine L2.Rx.r_dget1 ?_ | refine L2.Rx.r_dput ?_ | refine L2.Rx.r_dpop1 ?_ | refine L2.Rx.r_isN ?_
  | refine L2.Rx.r_for ?_ | refine L2.Rx.r_ilist ?_ | refine L2.Rx.r_itup ?_
  | refine L2.Rx.r_gcons ?_ | refine L2.Rx.r_gnil ?_ | (refine L2.Rx.r_gtupP (by assumption) (by walk_at "at") ?_)
  | (refine L2.Rx.r_rEq rfl ?_) | (refine L2.Rx.r_rNe rfl ?_)
  | refine L2.Rx.r_rU ?_ | refine L2.Rx.r_max2 ?_ | refine L2.Rx.r_min2 ?_ | refine L2.Rx.r_int1i ?_ | (refine L2.Rx.r_lenh (by walk_at "hp") ?_)
  | (refine L2.Rx.r_ixLh (by walk_at "hp") (by walk_at "at") ?_)
  | (refine L2.Rx.r_setL (by walk_at "hp") (by walk_at "at") ?_))
local macro_rules | `(tactic| walk_at "at") => `(tactic| with_unfolding_all rfl)
local macro_rules | `(tactic| walk_at "rd") => `(tactic| (repeat walk_at "rd1"))
local macro_rules | `(tactic| walk_at "hp") => `(tactic| first
  | assumption
  | exact L2.upd_same
  | (refine Eq.trans (L2.upd_ne ?_) ?_; (focus walk_at "ne"); (focus walk_at "hp"))
  | (refine L2.Rx.Kp.at0 (by assumption) ?_; walk_at "hp")
  | (refine L2.Rx.Kp.at1 (by assumption) ?_ ?_; (focus walk_at "ne"); (focus walk_at "hp")))
local macro_rules | `(tactic| walk_at "ne") => `(tactic| first
  | assumption | exact Ne.symm (by assumption)
  | (refine L2.ne_of_none (H := ?nH) (o := ?nO) ?nh ?nn; (case nn => assumption); (case nh => walk_at "hp"))
  | (refine Ne.symm (L2.ne_of_none (H := ?nH) (o := ?nO) ?nh ?nn); (case nn => assumption); (case nh => walk_at "hp")))
local macro_rules | `(tactic| walk_at "len") => `(tactic| (rw [PySem.sizeLine_eq]; omega))
local macro_rules | `(tactic| walk_at "nin") => `(tactic| first
  | exact List.not_mem_nil
  | (refine L2.Rx.nin1 ?_; walk_at "ne"))
local macro_rules | `(tactic| walk_at "none") => `(tactic| first
  | assumption
  | (refine L2.Rx.Kp.none0 (by assumption) ?_ ?_; (focus walk_at "nin"); (focus walk_at "none")))
namespace L2.Rx
open PySem PySem.Spec PyProof.Rows
theorem ms_1 {X : Cx} {o : Expr} {m : Str} {apos : Pos} {e : Expr} {cpos : Pos} (h1 : attributeBase o m X.env (eval o X.env) = eval o X.env := by rfl)
    (h2 : ((backTo cpos (starEach [e] X.env)).all (fun x => !x.1) && (backToKw cpos (keywordEach [] X.env)).all (fun x => x.1.isSome) && decide (([e] : List Expr).length + ([] : List Keyword).length + (if ([] : List Keyword).isEmpty then 0 else 1) < 30)) = true := by rfl)
    (h3 : (apos.endLine == cpos.line) = true := by rfl) (h4 : backTo cpos (starEach [e] X.env) = [(false, eval e X.env)] := by rfl) : M1 X o m apos e cpos := ⟨h1, h2, h3, h4⟩
/-! ### dicts, in words -/
section
variable {σ : St} {H : Hp} {Q : VK} {K : PySem.W.Frag}
theorem r_dnotin {ty td : TE} (h : ty σ H fun y H1 => td σ H1 fun x H2 => ∃ a o, x = .ref a ∧ DGet H2 a y o ∧ Q (.bl (!o.isSome)) H2) : tDNotIn ty td σ H Q := h
theorem r_dget {ty td : TE} (h : td σ H fun x H1 => ty σ H1 fun y H2 => ∃ a v, x = .ref a ∧ DGet H2 a y (some v) ∧ Q v H2) : tDGet td ty σ H Q := h
theorem r_dget1 {ty td : TE} (h : td σ H fun x H1 => ∃ a, x = .ref a ∧ IsD H1 a ∧ ty σ H1 fun y H2 => ∃ o, DGet H2 a y o ∧ Q (o.getD .non) H2) : tDGet1 td ty σ H Q := h
theorem r_dhas {a : Addr} {kvs : List (Key × V)} {c : Str} {q : Option V → Prop} (e : H a = some (.dK kvs)) (h : q (valV kvs (.inr c))) : ∃ a' o, V.ref a = .ref a' ∧ DGet H a' (.str c) o ∧ q o := ⟨a, _, rfl, DGet.k (k := .inr c) e, h⟩
theorem r_dat {a : Addr} {kvs : List (Key × V)} {c : Str} {v : V} {q : V → Prop} (e : H a = some (.dK kvs)) (g : valV kvs (.inr c) = some v) (h : q v) : ∃ a' v, V.ref a = .ref a' ∧ DGet H a' (.str c) (some v) ∧ q v := by
  refine ⟨a, v, rfl, ?_, h⟩
  rw [← g]
  exact DGet.k (k := .inr c) e
theorem r_dref {a : Addr} {kvs : List (Key × V)} {q : Addr → Prop} (e : H a = some (.dK kvs)) (h : q a) : ∃ a', V.ref a = .ref a' ∧ IsD H a' ∧ q a' := ⟨a, rfl, .inl ⟨kvs, .inl e⟩, h⟩
theorem r_dgetI {a : Addr} {kvs : List (Key × V)} {i : Int} {q : Option V → Prop} (e : H a = some (.dK kvs)) (h : q (valV kvs (.inl i))) : ∃ o, DGet H a (.int i) o ∧ q o := ⟨_, DGet.k (k := .inl i) e, h⟩
theorem r_isN {A : Prop} (h : A) : V.non = V.non ∧ A := ⟨rfl, h⟩
end
theorem mergeK_app : ∀ (kvs acc : List (Key × V)), ((acc ++ kvs).map Prod.fst).Nodup → mergeK acc kvs = acc ++ kvs
  | [], acc, _ => by rw [List.append_nil]; rfl
  | kv :: kvs, acc, h => by
    have e : putK acc kv.1 kv.2 = acc ++ [kv] := by
      unfold putK
      rw [if_neg]
      intro z
      obtain ⟨x, hx, e⟩ := List.any_eq_true.mp z
      have e' := of_decide_eq_true e
      rw [List.map_append, List.nodup_append] at h
      exact h.2.2 x.1 (List.mem_map_of_mem hx) kv.1 (List.mem_map_of_mem (List.mem_cons_self ..)) e'
    show mergeK (putK acc kv.1 kv.2) kvs = _
    rw [e, mergeK_app kvs (acc ++ [kv]) (by rw [List.append_assoc]; exact h), List.append_assoc]
    rfl
theorem mergeK_nd {kvs : List (Key × V)} (h : (kvs.map Prod.fst).Nodup) : mergeK [] kvs = kvs := mergeK_app kvs [] h
/-! ### a run of a reader -/
def lookB (bs : List (Int × Tr)) (i : Int) : Option Tr := (bs.find? fun z => decide (z.1 = i)).map (·.2)
def run (env : Str → Option Int) : Nat → Tr → List Str → Str × List Str × Option Str
  | 0, _, acc => (Str.ofString "done", acc, none)
  | _ + 1, .lf, acc => (Str.ofString "done", acc, none)
  | n + 1, .nd c bs, acc => match env c with
    | none => (Str.ofString "unknown", acc, some c)
    | some i => match lookB bs i with
      | none => (Str.ofString "open", acc ++ [c], some c)
      | some t => run env n t (acc ++ [c])
def resD (r : Str × List Str × Option Str) : PyData := .tuple [.str r.1, .tuple (r.2.1.map PyData.str), match r.2.2 with | none => .none | some c => .str c]
theorem run_lf (env : Str → Option Int) (n : Nat) (acc : List Str) : run env n .lf acc = (Str.ofString "done", acc, none) := by
  cases n <;> rfl
theorem run_u {env : Str → Option Int} {n : Nat} {c : Str} {bs : List (Int × Tr)} {acc : List Str} (h : env c = none) : run env (n + 1) (.nd c bs) acc = (Str.ofString "unknown", acc, some c) := by
  rw [run, h]
theorem run_o {env : Str → Option Int} {n : Nat} {c : Str} {bs : List (Int × Tr)} {acc : List Str} {i : Int} (h : env c = some i) (g : lookB bs i = none) : run env (n + 1) (.nd c bs) acc = (Str.ofString "open", acc ++ [c], some c) := by
  rw [run, h]
  simp only [g]
theorem run_g {env : Str → Option Int} {n : Nat} {c : Str} {bs : List (Int × Tr)} {acc : List Str} {i : Int} {t : Tr} (h : env c = some i) (g : lookB bs i = some t) : run env (n + 1) (.nd c bs) acc = run env n t (acc ++ [c]) := by
  rw [run, h]
  simp only [g]
/-- what a dict of ints says of a cell -/
def envK (kvs : List (Key × V)) (c : Str) : Option Int := match valV kvs (.inr c) with
  | some (.int i) => some i
  | _ => none
def IntVals (kvs : List (Key × V)) : Prop := ∀ k v, valV kvs k = some v → ∃ i, v = .int i
theorem env_none {kvs : List (Key × V)} {c : Str} (h : valV kvs (.inr c) = none) : envK kvs c = none := by
  unfold envK
  rw [h]
theorem env_some {kvs : List (Key × V)} {c : Str} {i : Int} (h : valV kvs (.inr c) = some (.int i)) : envK kvs c = some i := by
  unfold envK
  rw [h]
theorem lookB_mem {bs : List (Int × Tr)} {i : Int} {t : Tr} (h : lookB bs i = some t) : ∃ z ∈ bs, z.1 = i ∧ z.2 = t := by
  unfold lookB at h
  cases e : bs.find? fun z => decide (z.1 = i) with
  | none => rw [e] at h; cases h
  | some z =>
    rw [e] at h
    exact ⟨z, List.mem_of_find?_eq_some e, of_decide_eq_true (List.find?_some (p := fun z : Int × Tr => decide (z.1 = i)) e), Option.some.inj h⟩
theorem brs_pairs {K : PySem.W.Frag} {H : Hp} : ∀ {bs : List (Int × Tr)} {bys : List V}, DqAll K H bys (brd bs) → ∃ (ps : List Addr) (kvs : List (Key × V)), bys = ps.map V.ref ∧ Paired (fun p kv => SqT K H p [kV kv.1, kv.2]) ps kvs ∧ kvs.map Prod.fst = bs.map (fun z => .inl z.1) ∧
    ∀ i, (valV kvs (.inl i) = none ∧ lookB bs i = none) ∨ ∃ a t, valV kvs (.inl i) = some (.ref a) ∧ lookB bs i = some t ∧ Dq K H (.ref a) t.d
  | [], bys, h => by
    rw [brd] at h
    obtain rfl := dp_nil h
    exact ⟨[], [], rfl, .nil, rfl, fun i => .inl ⟨rfl, rfl⟩⟩
  | (v, t) :: r, bys, h => by
    rw [brd] at h
    obtain ⟨x, vs, rfl, dx, dr⟩ := dp_cons h
    obtain ⟨ps, kvs, e1, pr, ek, look⟩ := brs_pairs dr
    obtain ⟨a, _, rfl, sa, d1⟩ := dp_tup dx
    obtain ⟨y, _, rfl, dv, d2⟩ := dp_cons d1
    obtain rfl := dp_int dv
    obtain ⟨w, _, rfl, dw, d3⟩ := dp_cons d2
    obtain rfl := dp_nil d3
    obtain ⟨wa, rfl⟩ : ∃ wa, w = .ref wa := by
      cases t with
      | lf => rw [Tr.d] at dw; obtain ⟨a, _, e, _⟩ := dp_tup dw; exact ⟨a, e⟩
      | nd c bs => rw [Tr.d] at dw; obtain ⟨a, _, e, _⟩ := dp_tup dw; exact ⟨a, e⟩
    refine ⟨a :: ps, (.inl v, .ref wa) :: kvs, by rw [e1]; rfl, .cons sa.sq pr, by rw [List.map_cons, List.map_cons, ek], fun i => ?_⟩
    by_cases hv : v = i
    · subst hv
      exact .inr ⟨wa, t, by simp [valV], by simp [lookB], dw⟩
    · have h1 : valV ((Sum.inl v, V.ref wa) :: kvs) (.inl i) = valV kvs (.inl i) := by simp [valV, hv]
      have h2 : lookB ((v, t) :: r) i = lookB r i := by simp [lookB, hv]
      rw [h1, h2]
      exact look i
/-- dict(l), l the pairs of a log -/
def kvsL (l : List (Str × Int)) : List (Key × V) := l.map fun z => (.inr z.1, .int z.2)
theorem log_pairs {K : PySem.W.Frag} {H : Hp} : ∀ {l : List (Str × Int)} {ys : List V}, DqAll K H ys (l.map prD) → ∃ ps : List Addr, ys = ps.map V.ref ∧ Paired (fun p kv => SqT K H p [kV kv.1, kv.2]) ps (kvsL l)
  | [], ys, h => by
    obtain rfl := dp_nil h
    exact ⟨[], rfl, .nil⟩
  | z :: r, ys, h => by
    obtain ⟨x, vs, rfl, dx, dr⟩ := dp_cons h
    obtain ⟨ps, e1, pr⟩ := log_pairs dr
    obtain ⟨a, _, rfl, sa, d1⟩ := dp_tup dx
    obtain ⟨y, _, rfl, dv, d2⟩ := dp_cons d1
    obtain rfl := dp_str dv
    obtain ⟨w, _, rfl, dw, d3⟩ := dp_cons d2
    obtain rfl := dp_int dw
    obtain rfl := dp_nil d3
    exact ⟨a :: ps, by rw [e1]; rfl, .cons sa.sq pr⟩
theorem putK_int {kvs : List (Key × V)} {k : Key} {i : Int} (h : ∀ kv ∈ kvs, ∃ i, kv.2 = V.int i) : ∀ kv ∈ putK kvs k (.int i), ∃ i, kv.2 = V.int i := by
  intro kv hkv
  unfold putK at hkv
  split at hkv
  · obtain ⟨x, hx, rfl⟩ := List.mem_map.mp hkv
    split
    · exact ⟨i, rfl⟩
    · exact h x hx
  · rcases List.mem_append.mp hkv with q | q
    · exact h kv q
    · have e : kv = (k, .int i) := by simpa using q
      subst e
      exact ⟨i, rfl⟩
theorem mergeK_int : ∀ {more kvs : List (Key × V)}, (∀ kv ∈ kvs, ∃ i, kv.2 = V.int i) → (∀ kv ∈ more, ∃ i, kv.2 = V.int i) → ∀ kv ∈ mergeK kvs more, ∃ i, kv.2 = V.int i
  | [], kvs, h, _ => h
  | m :: more, kvs, h, g => by
    obtain ⟨i, e⟩ := g m (List.mem_cons_self ..)
    show ∀ kv ∈ mergeK (putK kvs m.1 m.2) more, _
    rw [e]
    exact mergeK_int (putK_int h) fun kv q => g kv (List.mem_cons_of_mem _ q)
theorem intVals_of {kvs : List (Key × V)} (h : ∀ kv ∈ kvs, ∃ i, kv.2 = V.int i) : IntVals kvs := by
  intro k v e
  unfold valV at e
  cases f : kvs.find? fun kv => decide (kv.1 = k) with
  | none => rw [f] at e; cases e
  | some kv =>
    rw [f] at e
    obtain ⟨i, q⟩ := h kv (List.mem_of_find?_eq_some f)
    exact ⟨i, by rw [← q]; exact (Option.some.inj e).symm⟩
theorem intVals_log (l : List (Str × Int)) : IntVals (mergeK [] (kvsL l)) := intVals_of (mergeK_int (fun _ h => nomatch h) fun kv h => by
  obtain ⟨z, _, rfl⟩ := List.mem_map.mp h
  exact ⟨z.2, rfl⟩)
/-! ### dicts of texts and ints -/
def putE (es : List (Str × Int)) (c : Str) (i : Int) : List (Str × Int) := if (es.any fun z => decide (z.1 = c)) = true then es.map (fun z => if z.1 = c then (z.1, i) else z) else es ++ [(c, i)]
theorem putK_L (es : List (Str × Int)) (c : Str) (i : Int) : putK (kvsL es) (.inr c) (.int i) = kvsL (putE es c i) := by
  have e : ((kvsL es).any fun kv => decide (kv.1 = Sum.inr c)) = es.any fun z => decide (z.1 = c) := by
    rw [kvsL, List.any_map]
    congr 1
    funext z
    simp
  unfold putK putE
  rw [e]
  split
  · rw [kvsL, kvsL, List.map_map, List.map_map]
    refine List.map_congr_left fun z _ => ?_
    show (if (Sum.inr z.1 : Key) = Sum.inr c then _ else _) = _
    by_cases h : z.1 = c
    · rw [if_pos (by rw [h])]
      simp [h]
    · rw [if_neg (fun q => h (Sum.inr.inj q))]
      simp [h]
  · rw [kvsL, kvsL, List.map_append]
    rfl
theorem putE_len (es : List (Str × Int)) (c : Str) (i : Int) : (putE es c i).length ≤ es.length + 1 := by
  unfold putE
  split
  · rw [List.length_map]
    omega
  · rw [List.length_append]
    exact Nat.le_refl _
theorem putE_has (es : List (Str × Int)) (c : Str) (i : Int) : c ∈ (putE es c i).map Prod.fst ∧ ∀ x ∈ es.map Prod.fst, x ∈ (putE es c i).map Prod.fst := by
  unfold putE
  split
  · next h =>
    obtain ⟨z, hz, e⟩ := List.any_eq_true.mp h
    have e' := of_decide_eq_true e
    have same : (es.map (fun z => if z.1 = c then (z.1, i) else z)).map Prod.fst = es.map Prod.fst := by
      rw [List.map_map]
      refine List.map_congr_left fun z _ => ?_
      show (if z.1 = c then (z.1, i) else z).1 = z.1
      split <;> rfl
    rw [same]
    exact ⟨e' ▸ List.mem_map_of_mem hz, fun x hx => hx⟩
  · rw [List.map_append]
    exact ⟨List.mem_append_right _ (List.mem_cons_self ..), fun x hx => List.mem_append_left _ hx⟩
theorem mergeK_L : ∀ (l acc : List (Str × Int)), ∃ es, mergeK (kvsL acc) (kvsL l) = kvsL es ∧ es.length ≤ acc.length + l.length ∧ ∀ x, x ∈ acc.map Prod.fst ∨ x ∈ l.map Prod.fst → x ∈ es.map Prod.fst
  | [], acc => ⟨acc, rfl, Nat.le_refl _, fun x h => h.elim id fun z => nomatch z⟩
  | z :: l, acc => by
    obtain ⟨es, e, hl, hm⟩ := mergeK_L l (putE acc z.1 z.2)
    have z1 := putE_len acc z.1 z.2
    have z2 := putE_has acc z.1 z.2
    refine ⟨es, ?_, by rw [List.length_cons]; omega, fun x hx => hm x ?_⟩
    · rw [← e, ← putK_L]
      rfl
    · rcases hx with h | h
      · exact .inl (z2.2 x h)
      · rw [List.map_cons] at h
        rcases List.mem_cons.mp h with q | q
        · exact .inl (q ▸ z2.1)
        · exact .inr q
theorem valV_L {es : List (Str × Int)} {c : Str} (h : c ∈ es.map Prod.fst) : ∃ i, valV (kvsL es) (.inr c) = some (.int i) := by
  induction es with
  | nil => cases h
  | cons z r ih =>
    by_cases e : z.1 = c
    · exact ⟨z.2, by simp [valV, kvsL, e]⟩
    · rw [List.map_cons] at h
      obtain ⟨i, hi⟩ := ih ((List.mem_cons.mp h).resolve_left fun q => e q.symm)
      refine ⟨i, ?_⟩
      rw [← hi]
      simp [valV, kvsL, e]
theorem dropK_L (es : List (Str × Int)) (c : Str) : ∃ es', dropK (kvsL es) (.inr c) = kvsL es' ∧ es'.length ≤ es.length := by
  refine ⟨es.filter fun z => decide (z.1 ≠ c), ?_, List.length_filter_le _ _⟩
  unfold dropK
  rw [kvsL, kvsL, List.filter_map]
  congr 1
  refine List.filter_congr fun z _ => ?_
  simp
def rSortDS : List V → Hp → VK → Prop := fun xs H Q => ∃ (a : Addr) (kvs : List (Key × V)) (ks : List Str), xs = [.ref a] ∧ Rd H a (.dK kvs) ∧ kvs.map (·.1) = ks.map Sum.inr ∧ ks.length < 64 ∧
    ∀ ys p, ys.Perm ks → sortedS ys = true → H p = none → Q (.ref p) (upd H p (.lst (ys.map V.str)))
theorem c_sortDS {X : Cx} (hcalm : X.calm = true) : CallR X (.builtin "sorted") rSortDS := call_sortedD hcalm
section
variable {σ : St} {H : Hp} {Q : VK} {K : PySem.W.Frag} {nx : St → Hp → Prop} {rt : VK} {bk ct : St → Hp → Prop}
theorem r_sortDS {a : Addr} {es : List (Str × Int)} (h : H a = some (.dK (kvsL es))) (l : es.length < 64) (q : ∀ (ys : List Str) (p : Addr), ys.Perm (es.map Prod.fst) → H p = none → Q (.ref p) (upd H p (.lst (ys.map V.str)))) : rSortDS [.ref a] H Q :=
  ⟨a, kvsL es, es.map Prod.fst, rfl, .inl h, by rw [kvsL, List.map_map, List.map_map]; rfl, by rw [List.length_map]; exact l, fun ys p pm _ np => q ys p pm np⟩
theorem r_dput {td ty tv : TE} {D : Ends} (h : tv σ H fun v H1 => td σ H1 fun x H2 => ty σ H2 fun y H3 => ∃ a H4, x = .ref a ∧ DPut H3 a y v H4 ∧ D.nx σ H4) : sDPut td ty tv D σ H := h
theorem r_putL {a : Addr} {es : List (Str × Int)} {c : Str} {i : Int} {q : Hp → Prop} (h : H a = some (.dK (kvsL es))) (l : es.length ≤ 1000) (g : q (upd H a (.dK (kvsL (putE es c i))))) : ∃ a' H4, V.ref a = .ref a' ∧ DPut H a' (.str c) (.int i) H4 ∧ q H4 := by
  refine ⟨a, _, rfl, DPut.k (k := .inr c) h ?_, ?_⟩
  · rw [kvsL, List.length_map, sizeLine_eq]
    omega
  · rw [putK_L]
    exact g
theorem r_dpop1 {td ty : TE} (h : td σ H fun x H1 => ∃ a, x = .ref a ∧ IsD H1 a ∧ ty σ H1 fun y H2 => ∃ kvs k v, H2 a = some (.dK kvs) ∧ y = kV k ∧ valV kvs k = some v ∧ Q v (upd H2 a (.dK (dropK kvs k)))) : tDPop1 td ty σ H Q := h
theorem r_popL {a : Addr} {es : List (Str × Int)} {c : Str} {q : V → Hp → Prop} (h : H a = some (.dK (kvsL es))) (m : c ∈ es.map Prod.fst) (g : ∀ (v : V) (es' : List (Str × Int)), es'.length ≤ es.length → q v (upd H a (.dK (kvsL es')))) :
    ∃ kvs k v, H a = some (.dK kvs) ∧ V.str c = kV k ∧ valV kvs k = some v ∧ q v (upd H a (.dK (dropK kvs k))) := by
  obtain ⟨i, hi⟩ := valV_L m
  obtain ⟨es', e, l⟩ := dropK_L es c
  exact ⟨_, .inr c, _, h, rfl, hi, by rw [e]; exact g _ es' l⟩
theorem dq_mem {ys : List V} {ds : List PyData} {v : V} (h : DqAll K H ys ds) (m : v ∈ ys) : ∃ d ∈ ds, Dq K H v d := by
  obtain ⟨j, hj, e⟩ := List.mem_iff_getElem.mp m
  obtain ⟨d, hd, q⟩ := DqAll.at h (i := j) (by rw [List.getElem?_eq_getElem hj, e])
  exact ⟨d, List.mem_of_getElem? hd, q⟩
end
theorem log_shp {l : List (Str × Int)} (h : ∀ z ∈ l, Cell z.1) : shp (logD l) = true := by
  rw [logD, shp]
  refine shps_mem fun d hd => ?_
  obtain ⟨z, hz, rfl⟩ := List.mem_map.mp hd
  rw [prD, shp, shps, shps, shps, shp, shp, (h z hz).ok]
  rfl
end L2.Rx

end
section
set_option Elab.async false
set_option linter.all false
set_option maxRecDepth 100000
set_option maxHeartbeats 4000000
local macro_rules | `(tactic| walk_at "rd1") => `(tactic| with_reducible first
  | refine L2.Rx.r_seq ?_ | refine L2.Rx.r_asg ?_ | refine L2.Rx.r_gname ?_ | refine L2.Rx.r_op ?_ | refine L2.Rx.r_c ?_
  | refine L2.Rx.r_var rfl ?_
  | refine L2.Rx.r_rI0 ?_ | refine L2.Rx.r_test ?_ | refine L2.Rx.r_bl ?_ | refine L2.Rx.r_if ?_ | refine L2.Rx.r_ret ?_
  | refine L2.Rx.r_cons ?_ | refine L2.Rx.r_nil ?_ | refine L2.Rx.r_call ?_ | refine L2.Rx.r_cb ?_ | refine L2.Rx.r_next ?_ | refine L2.Rx.r_drop ?_
  | refine L2.Rx.r_gsub ?_ | refine L2.Rx.r_tupF ?_ | refine L2.Rx.r_lst ?_ | refine L2.Rx.r_par ?_ | refine L2.Rx.r_par2 ?_
  | refine L2.Rx.r_un ?_ | refine L2.Rx.r_tb ?_ | refine L2.Rx.r_and ?_ | refine L2.Rx.r_or ?_ | refine L2.Rx.r_not ?_
  | refine L2.Rx.r_andV ?_ | refine L2.Rx.r_orV ?_ | refine L2.Rx.r_notV ?_ | refine L2.Rx.r_ifx ?_ | refine L2.Rx.r_chain ?_
  | refine L2.Rx.r_sl ?_ | refine L2.Rx.r_nopart ?_ | refine L2.Rx.r_part ?_ | refine L2.Rx.r_exint ?_ | refine L2.Rx.r_bm0 ?_ | refine L2.Rx.r_bm ?_
  | refine L2.Rx.r_lc ?_ | refine L2.Rx.r_rng1 ?_ | refine L2.Rx.r_yes ?_ | refine L2.Rx.r_tt ?_ | refine L2.Rx.r_ff ?_ | refine L2.Rx.r_m1 ?_ | refine L2.Rx.r_m0 ?_ | refine L2.Rx.r_isS ?_
  | (refine L2.Rx.r_wipe (by with_unfolding_all rfl) ?_) | (refine L2.Rx.r_tyL (by walk_at "hp") ?_)
  | refine L2.Rx.r_addS (by walk_at "len") ?_ | refine L2.Rx.r_lenS (by walk_at "len") ?_ | refine L2.Rx.r_slS (by walk_at "len") ?_
  | refine L2.Rx.r_dnotin ?_ | refine L2.Rx.r_dget ?_ | refine L2.Rx.r_dget1 ?_ | refine L2.Rx.r_dput ?_ | refine L2.Rx.r_dpop1 ?_ | refine L2.Rx.r_isN ?_
  | refine L2.Rx.r_for ?_ | refine L2.Rx.r_ilist ?_ | refine L2.Rx.r_itup ?_
  | refine L2.Rx.r_gcons ?_ | refine L2.Rx.r_gnil ?_ | (refine L2.Rx.r_gtupP (by assumption) (by walk_at "at") ?_)
  | (refine L2.Rx.r_rEq rfl ?_) | (refine L2.Rx.r_rNe rfl ?_)
  | refine L2.Rx.r_rU ?_ | refine L2.Rx.r_max2 ?_ | refine L2.Rx.r_min2 ?_ | refine L2.Rx.r_int1i ?_ | (refine L2.Rx.r_lenh (by walk_at "hp") ?_)
  | (refine L2.Rx.r_ixLh (by walk_at "hp") (by walk_at "at") ?_)
  | (refine L2.Rx.r_setL (by walk_at "hp") (by walk_at "at") ?_))
local macro_rules | `(tactic| walk_at "at") => `(tactic| with_unfolding_all rfl)
local macro_rules | `(tactic| walk_at "rd") => `(tactic| (repeat walk_at "rd1"))
local macro_rules | `(tactic| walk_at "hp") => `(tactic| first
  | assumption
  | exact L2.upd_same
  | (refine Eq.trans (L2.upd_ne ?_) ?_; (focus walk_at "ne"); (focus walk_at "hp"))
  | (refine L2.Rx.Kp.at0 (by assumption) ?_; walk_at "hp")
  | (refine L2.Rx.Kp.at1 (by assumption) ?_ ?_; (focus walk_at "ne"); (focus walk_at "hp")))
local macro_rules | `(tactic| walk_at "ne") => `(tactic| first
  | assumption | exact Ne.symm (by assumption)
  | (refine L2.ne_of_none (H := ?nH) (o := ?nO) ?nh ?nn; (case nn => assumption); (case nh => walk_at "hp"))
  | (refine Ne.symm (L2.ne_of_none (H := ?nH) (o := ?nO) ?nh ?nn); (case nn => assumption); (case nh => walk_at "hp")))
local macro_rules | `(tactic| walk_at "len") => `(tactic| (rw [PySem.sizeLine_eq]; omega))
local macro_rules | `(tactic| walk_at "nin") => `(tactic| first
  | exact List.not_mem_nil
  | (refine L2.Rx.nin1 ?_; walk_at "ne"))
local macro_rules | `(tactic| walk_at "none") => `(tactic| first
  | assumption
  | (refine L2.Rx.Kp.none0 (by assumption) ?_ ?_; (focus walk_at "nin"); (focus walk_at "none")))
namespace L2.Rx
open PySem PySem.Spec PyProof.Rows
/-! ### repr -/
mutual
def fine : PyData → Bool
  | .list ds => fines ds
  | .dict _ => false
  | .tuple ds => fines ds
  | .str x => PyData.strOk x
  | .none => true
  | .bool _ => true
  | .int i => decide (i.natAbs < 10 ^ 12)
def fines : List PyData → Bool
  | [] => true
  | d :: ds => fine d && fines ds
end
theorem log2_small {n : Nat} (h : n < 10 ^ 12) : n.log2 < 1920 := by
  by_cases z : n = 0
  · subst z
    decide
  · exact (Nat.log2_lt z).mpr (Nat.lt_trans h (by decide +kernel))
mutual
theorem fine_all : ∀ d : PyData, fine d = true → d.showable = true ∧ d.intsShort 13 = true ∧ d.canLay0 = true
  | .none, _ => ⟨by rw [PyData.showable], by rw [PyData.intsShort], by rw [PyData.canLay0]⟩
  | .bool b, _ => ⟨by rw [PyData.showable], by rw [PyData.intsShort], by rw [PyData.canLay0]⟩
  | .int i, h => by
    rw [fine] at h
    have h' := of_decide_eq_true h
    exact ⟨by rw [PyData.showable]; exact decide_eq_true (log2_small h'), by rw [PyData.intsShort]; exact decide_eq_true (PyData.shown_int_le h'), by rw [PyData.canLay0]⟩
  | .str x, h => ⟨by rw [PyData.showable], by rw [PyData.intsShort], by rw [PyData.canLay0]; rw [fine] at h; exact h⟩
  | .list ds, h => by
    rw [fine] at h
    obtain ⟨a, b, c⟩ := fines_all ds h
    exact ⟨by rw [PyData.showable]; exact a, by rw [PyData.intsShort]; exact b, by rw [PyData.canLay0]; exact c⟩
  | .tuple ds, h => by
    rw [fine] at h
    obtain ⟨a, b, c⟩ := fines_all ds h
    exact ⟨by rw [PyData.showable]; exact a, by rw [PyData.intsShort]; exact b, by rw [PyData.canLay0]; exact c⟩
  | .dict _, h => by rw [fine] at h; cases h
theorem fines_all : ∀ ds : List PyData, fines ds = true → PyData.showableAll ds = true ∧ PyData.intsShortAll 13 ds = true ∧ PyData.canLayAll0 ds = true
  | [], _ => ⟨by rw [PyData.showableAll], by rw [PyData.intsShortAll], by rw [PyData.canLayAll0]⟩
  | d :: ds, h => by
    rw [fines, Bool.and_eq_true] at h
    obtain ⟨a, b, c⟩ := fine_all d h.1
    obtain ⟨a', b', c'⟩ := fines_all ds h.2
    exact ⟨by rw [PyData.showableAll, a, a']; rfl, by rw [PyData.intsShortAll, b, b']; rfl, by rw [PyData.canLayAll0, c, c']; rfl⟩
end
theorem fines_mem : ∀ {ds : List PyData}, (∀ d ∈ ds, fine d = true) → fines ds = true
  | [], _ => by rw [fines]
  | d :: ds, h => by rw [fines, h d (List.mem_cons_self ..), fines_mem fun e m => h e (List.mem_cons_of_mem _ m)]; rfl
theorem weight_mem {k : Nat} : ∀ {ds : List PyData}, (∀ d ∈ ds, d.weight ≤ k) → PyData.weightAll ds ≤ ds.length * (k + 1)
  | [], _ => by rw [PyData.weightAll]; simp
  | d :: ds, h => by
    rw [PyData.weightAll, List.length_cons, Nat.succ_mul]
    have := h d (List.mem_cons_self ..)
    have := weight_mem (k := k) (ds := ds) fun e m => h e (List.mem_cons_of_mem _ m)
    omega
theorem r_repr {K : PySem.W.Frag} {H : Hp} {Q : VK} {v : V} {d : PyData} (h : Dq K H v d) (f : fine d = true) (n : d.depth ≤ 60) (w : d.weight ≤ 2 ^ 20) (q : Q (.str d.shown) H) : rRepr K [v] H Q := by
  obtain ⟨a, b, c⟩ := fine_all d f
  exact ⟨v, d, rfl, Dq.dp _ _ h, a, n, PyData.shown_fits_of_layable0 (B := 13) (by decide) (by decide) (by
    show (d.canLay0 && decide (d.depth ≤ 64) && decide (d.weight ≤ 2 ^ 20)) = true
    rw [c, decide_eq_true (show d.depth ≤ 64 by omega), decide_eq_true w]
    rfl) b, q⟩
def wTree : Nat → Nat
  | 0 => 0
  | n + 1 => 3 * wTree n + 150
theorem Okt.weight {n : Nat} {cs : List Str} {t : Tr} (h : Okt n cs t) (hc : ∀ c ∈ cs, Cell c) : t.d.weight ≤ wTree n := by
  induction h with
  | lf n cs => rw [Tr.d, PyData.weight, PyData.weightAll]; omega
  | @nd n cs cs' c bs h1 h2 h3 h4 h5 h6 h7 h8 ih =>
    rw [Tr.d, PyData.weight, PyData.weightAll, PyData.weightAll, PyData.weightAll, PyData.weight, PyData.weight, wTree]
    have c8 : c.cps.size ≤ 8 := (hc c h1).2.1
    have hb : PyData.weightAll (brd bs) ≤ bs.length * (wTree n + 32 + 1) := by
      have := weight_mem (k := wTree n + 32) (ds := brd bs) fun d hd => by
        rw [brd_eq] at hd
        obtain ⟨p, hp, rfl⟩ := List.mem_map.mp hd
        rw [PyData.weight, PyData.weightAll, PyData.weightAll, PyData.weightAll, PyData.weight]
        have w1 := ih p hp fun c m => hc c (h3 c m)
        have w2 : (if p.1 == 0 then 0 else p.1.natAbs.log2 + 1) ≤ 30 := by
          split
          · omega
          · next hz =>
            have hp' := h7 p hp
            have nz : p.1.natAbs ≠ 0 := by
              intro z
              apply hz
              simp
              omega
            have : p.1.natAbs.log2 < 30 := (Nat.log2_lt nz).mpr (by omega)
            omega
        omega
      rw [brd_eq, List.length_map] at this
      rw [brd_eq]
      exact this
    have h5' : bs.length * (wTree n + 32 + 1) ≤ 3 * (wTree n + 32 + 1) := Nat.mul_le_mul_right _ h5
    omega
theorem Okt.fine {n : Nat} {cs : List Str} {t : Tr} (h : Okt n cs t) (hc : ∀ c ∈ cs, Cell c) : fine t.d = true := by
  induction h with
  | lf n cs => rw [Tr.d, Rx.fine, Rx.fines]
  | nd h1 h2 h3 h4 h5 h6 h7 h8 ih =>
    rw [Tr.d, Rx.fine, Rx.fines, Rx.fines, Rx.fines, Rx.fine, Rx.fine, (hc _ h1).ok]
    rw [show Rx.fines (brd _) = true from ?_]
    · rfl
    · refine fines_mem fun d hd => ?_
      rw [brd_eq] at hd
      obtain ⟨p, hp, rfl⟩ := List.mem_map.mp hd
      have hp' := h7 p hp
      rw [Rx.fine, Rx.fines, Rx.fines, Rx.fines, Rx.fine, ih p hp fun c m => hc c (h3 c m), decide_eq_true (show p.1.natAbs < 10 ^ 12 by omega)]
      rfl
/-! the answer of a run -/
def ResOk (k : Nat) (r : Str × List Str × Option Str) : Prop := r.1.length ≤ 8 ∧ PyData.strOk r.1 = true ∧ r.2.1.length ≤ k ∧ (∀ c ∈ r.2.1, Cell c) ∧ ∀ c, r.2.2 = some c → Cell c
theorem run_ok (env : Str → Option Int) : ∀ (n : Nat) {cs : List Str} {t : Tr} (acc : List Str) (k : Nat), Okt n cs t → (∀ c ∈ cs, Cell c) → (∀ c ∈ acc, Cell c) → acc.length + n ≤ k → ResOk k (run env n t acc) := by
  have dn : ∀ (acc : List Str) (k : Nat), (∀ c ∈ acc, Cell c) → acc.length ≤ k → ResOk k (Str.ofString "done", acc, none) := fun acc k h l => ⟨(by show (Str.ofString "done").length ≤ 8; decide +kernel), (by show PyData.strOk (Str.ofString "done") = true; decide +kernel), l, h, fun c e => nomatch e⟩
  intro n
  induction n with
  | zero => intro cs t acc k ok hc ha hk; exact dn acc k ha (by omega)
  | succ n ih =>
    intro cs t acc k ok hc ha hk
    cases t with
    | lf => exact dn acc k ha (by omega)
    | nd c bs =>
      cases ok with
      | @nd _ _ cs' _ _ h1 h2 h3 h4 h5 h6 h7 h8 =>
        have ha' : ∀ x ∈ acc ++ [c], Cell x := by
          intro x hx
          rcases List.mem_append.mp hx with h | h
          · exact ha x h
          · rw [show x = c by simpa using h]
            exact hc c h1
        have la : (acc ++ [c]).length = acc.length + 1 := by rw [List.length_append]; rfl
        cases e : env c with
        | none => rw [run_u e]; exact ⟨(by show (Str.ofString "unknown").length ≤ 8; decide +kernel), (by show PyData.strOk (Str.ofString "unknown") = true; decide +kernel), by show acc.length ≤ k; omega, ha, fun x q => by rw [← Option.some.inj q]; exact hc c h1⟩
        | some i =>
          cases g : lookB bs i with
          | none => rw [run_o e g]; exact ⟨(by show (Str.ofString "open").length ≤ 8; decide +kernel), (by show PyData.strOk (Str.ofString "open") = true; decide +kernel), by show (acc ++ [c]).length ≤ k; omega, ha', fun x q => by rw [← Option.some.inj q]; exact hc c h1⟩
          | some t =>
            obtain ⟨z, hz, _, rfl⟩ := lookB_mem g
            rw [run_g e g]
            exact ih (acc ++ [c]) k (h8 z hz) (fun x m => hc x (h3 x m)) ha' (by omega)
theorem res_fine {k : Nat} {r : Str × List Str × Option Str} (h : ResOk k r) (hk : k ≤ 60) : fine (resD r) = true ∧ (resD r).depth ≤ 60 ∧ (resD r).weight ≤ 2 ^ 20 := by
  obtain ⟨w, cs, l⟩ := r
  obtain ⟨h1, h2, h3, h4, h5⟩ := h
  have f1 : fines (cs.map PyData.str) = true := fines_mem fun d hd => by
    obtain ⟨c, hc, rfl⟩ := List.mem_map.mp hd
    rw [fine]
    exact (h4 c hc).ok
  have w1 : PyData.weightAll (cs.map PyData.str) ≤ 60 * 9 := by
    have := weight_mem (k := 8) (ds := cs.map PyData.str) fun d hd => by
      obtain ⟨c, hc, rfl⟩ := List.mem_map.mp hd
      rw [PyData.weight]
      exact (h4 c hc).2.1
    rw [List.length_map] at this
    have h3' : cs.length ≤ k := h3
    have : cs.length * 9 ≤ 60 * 9 := Nat.mul_le_mul_right _ (by omega)
    omega
  have d1 : PyData.depthAll (cs.map PyData.str) ≤ 0 := depth_mem fun d hd => by
    obtain ⟨c, hc, rfl⟩ := List.mem_map.mp hd
    rw [PyData.depth]
    exact Nat.le_refl _
  have h1' : w.cps.size ≤ 8 := h1
  cases l with
  | none =>
    refine ⟨?_, ?_, ?_⟩
    · rw [resD]
      show fine (.tuple [.str w, .tuple (cs.map PyData.str), .none]) = true
      rw [fine, fines, fines, fines, fines, fine, fine, fine, f1, h2]
      rfl
    · show (PyData.tuple [.str w, .tuple (cs.map PyData.str), .none]).depth ≤ 60
      rw [PyData.depth, PyData.depthAll, PyData.depthAll, PyData.depthAll, PyData.depthAll, PyData.depth, PyData.depth, PyData.depth]
      omega
    · show (PyData.tuple [.str w, .tuple (cs.map PyData.str), .none]).weight ≤ 2 ^ 20
      rw [PyData.weight, PyData.weightAll, PyData.weightAll, PyData.weightAll, PyData.weightAll, PyData.weight, PyData.weight, PyData.weight]
      omega
  | some c =>
    have hc := h5 c rfl
    have hc8 : c.cps.size ≤ 8 := hc.2.1
    refine ⟨?_, ?_, ?_⟩
    · show fine (.tuple [.str w, .tuple (cs.map PyData.str), .str c]) = true
      rw [fine, fines, fines, fines, fines, fine, fine, fine, f1, h2, hc.ok]
      rfl
    · show (PyData.tuple [.str w, .tuple (cs.map PyData.str), .str c]).depth ≤ 60
      rw [PyData.depth, PyData.depthAll, PyData.depthAll, PyData.depthAll, PyData.depthAll, PyData.depth, PyData.depth, PyData.depth]
      omega
    · show (PyData.tuple [.str w, .tuple (cs.map PyData.str), .str c]).weight ≤ 2 ^ 20
      rw [PyData.weight, PyData.weightAll, PyData.weightAll, PyData.weightAll, PyData.weightAll, PyData.weight, PyData.weight, PyData.weight]
      omega
/-! ### calls with all arguments by name -/
theorem bindsK {K : PySem.W.Frag} {x qual : Str} {st : Stmt} {f : Addr} {fd : FuncData} {ps ks : List Str} {gv : List Value → List Value} (F : Fun K x qual st f fd)
    (h : ∀ (kV doc pm : Value) (an : Option Addr) (cdv ct : Value) (ws : List Value), (gv ws).length = ps.length → bindArgs (PySem.W.fnOf x qual (defArgs st) (defBody st) (defScope st) .none kV doc pm an cdv ct) ⟨[], ks.zip ws⟩ = pure (ps.zip (gv ws))) :
    ∀ (s : Shared) (ws : List Value), K.In s.heap → (gv ws).length = ps.length → BindsTo s fd ⟨[], ks.zip ws⟩ (ps.zip (gv ws)) := by
  obtain ⟨oc, od, kV, doc, pm, an, cdv, ct, osl, rfl, lk, hcd⟩ := F.ex
  exact fun s ws _ hl => .of_eq (h kV doc pm an cdv ct ws hl)
section
variable {X : Cx} {k j : Nat} {sp : Sp} {x : Str} {p pos : Pos} {ks : List Str} {g : List V → List V} {kws : List Keyword} {tk : TA}
theorem KnK.call (c : KnK X.prog X.w X.K X.mg X.base CX0 k x ks g sp) (hr : RoomG j X.A) (hk : k ≤ j) (hg : Gl X x) (hkw : PK X kws tk)
    (hall : (backToKw pos (keywordEach kws X.env)).all (·.1.isSome) = true := by rfl) (hks : (backToKw pos (keywordEach kws X.env)).filterMap (·.1) = ks := by rfl) (hdb : (x == ("__debug__" : Str)) = false := by decide)
    (hpl : ((backTo pos (starEach [] X.env)).any (·.1) || (backToKw pos (keywordEach kws X.env)).any (·.1.isNone)) = false := by rfl) :
    PE X (.Call (.Name x p) [] kws pos) (tKw g sp E0 tk) := by
  obtain ⟨f, fd, ps, gv, F, hm, kp, hb, hrel⟩ := c.ex
  refine ⟨fun pins s σ H Q I h => ?_⟩
  refine wpAny_Call_Name_kw (ld_glob I hg hm ?_ hdb)
  refine PySem.W.callWith_KW0 (h₀ := X.base) I.ok.mod.kin kp hall ?_ hpl
  refine thn (hkw.run pos pins s σ H _ I h) fun ws s2 ⟨zs, H2, I2, rz, q2⟩ => ⟨I2.kIn, ?_⟩
  rw [hks]
  exact callG (args := ⟨[], ks.zip ws⟩) (us := gv ws) F (hr.mono hk) pass0 I2 (fun hl => hb s2 ws I2.kIn hl) (hrel _ _ rz) q2
end
/-! ### paths -/
theorem lookB_nd {bs : List (Int × Tr)} (nd : (bs.map Prod.fst).Nodup) {z : Int × Tr} (hz : z ∈ bs) : lookB bs z.1 = some z.2 := by
  induction bs with
  | nil => cases hz
  | cons y r ih =>
    rw [List.map_cons, List.nodup_cons] at nd
    rcases List.mem_cons.mp hz with e | e
    · subst e
      simp [lookB]
    · have ne : ¬ y.1 = z.1 := fun q => nd.1 (q ▸ List.mem_map_of_mem e)
      have := ih nd.2 e
      rw [← this]
      simp [lookB, ne]
theorem path_run (env : Str → Option Int) : ∀ (n : Nat) {cs : List Str} {t : Tr} (acc : List Str) {p : List (Str × Int)}, Okt n cs t → p ∈ t.paths → (∀ z ∈ p, env z.1 = some z.2) → run env n t acc = (Str.ofString "done", acc ++ p.map Prod.fst, none) := by
  intro n
  induction n with
  | zero =>
    intro cs t acc p ok hp he
    cases ok with
    | lf => rw [Tr.paths] at hp; rw [show p = [] by simpa using hp, run_lf, List.map_nil, List.append_nil]
  | succ n ih =>
    intro cs t acc p ok hp he
    cases ok with
    | lf => rw [Tr.paths] at hp; rw [show p = [] by simpa using hp, run_lf, List.map_nil, List.append_nil]
    | @nd _ _ cs' c bs h1 h2 h3 h4 h5 h6 h7 h8 =>
      rw [Tr.paths, brp_eq] at hp
      obtain ⟨z, hz, hq⟩ := List.mem_flatMap.mp hp
      obtain ⟨s, hs, rfl⟩ := List.mem_map.mp hq
      have e := he (c, z.1) (List.mem_cons_self ..)
      have nd : (bs.map Prod.fst).Nodup := h6.imp fun {a b} h => by omega
      rw [run_g e (lookB_nd nd hz), ih (acc ++ [c]) (h8 z hz) hs (fun y hy => he y (List.mem_cons_of_mem _ hy)), List.map_cons, List.append_assoc]
      rfl
theorem path_names {n : Nat} {cs : List Str} {t : Tr} (ok : Okt n cs t) : ∀ p ∈ t.paths, (p.map Prod.fst).Nodup ∧ (∀ x ∈ p.map Prod.fst, x ∈ cs) ∧ p.length ≤ n := by
  induction ok with
  | lf n cs =>
    intro p hp
    rw [Tr.paths] at hp
    rw [show p = [] by simpa using hp]
    exact ⟨List.nodup_nil, (fun _ h => nomatch h), Nat.zero_le _⟩
  | @nd n cs cs' c bs h1 h2 h3 h4 h5 h6 h7 h8 ih =>
    intro p hp
    rw [Tr.paths, brp_eq] at hp
    obtain ⟨z, hz, hq⟩ := List.mem_flatMap.mp hp
    obtain ⟨s, hs, rfl⟩ := List.mem_map.mp hq
    obtain ⟨a, b, c'⟩ := ih z hz s hs
    rw [List.map_cons, List.nodup_cons, List.length_cons]
    refine ⟨⟨fun q => h2 (b _ q), a⟩, fun x hx => ?_, by omega⟩
    rcases List.mem_cons.mp hx with e | e
    · rw [e]
      exact h1
    · exact h3 x (b x e)
theorem env_log {l : List (Str × Int)} (nd : (l.map Prod.fst).Nodup) : ∀ z ∈ l, envK (mergeK [] (kvsL l)) z.1 = some z.2 := by
  have e : mergeK [] (kvsL l) = kvsL l := mergeK_nd (by
    rw [kvsL, List.map_map, show (Prod.fst ∘ fun z : Str × Int => ((Sum.inr z.1 : Key), V.int z.2)) = Sum.inr ∘ Prod.fst from rfl, ← List.map_map]
    exact List.Pairwise.map _ (fun a b h z => h (Sum.inr.inj z)) nd)
  rw [e]
  intro z hz
  refine env_some ?_
  clear e
  induction l with
  | nil => cases hz
  | cons y r ih =>
    rw [List.map_cons, List.nodup_cons] at nd
    rcases List.mem_cons.mp hz with q | q
    · subst q
      simp [valV, kvsL]
    · have ne : ¬ y.1 = z.1 := fun s => nd.1 (s ▸ List.mem_map_of_mem q)
      have := ih nd.2 q
      rw [← this]
      simp [valV, kvsL, ne]
theorem names_up {l : List (Str × Int)} (nd : (l.map Prod.fst).Nodup) (h : l.Pairwise fun x y => PySem.W.dataLt (prD y) (prD x) = false) : (l.map Prod.fst).Pairwise fun x y => ¬ y.cps.toList < x.cps.toList := by
  rw [List.pairwise_map]
  rw [List.nodup_iff_pairwise_ne, List.pairwise_map] at nd
  refine (h.and nd).imp fun {x y} q => ?_
  obtain ⟨q1, q2⟩ := q
  rw [prD, prD, PySem.W.dataLt_pair (by rw [PySem.W.alike]) (by rw [PySem.W.alike])] at q1
  have ne : PyData.eqv (.str y.1) (.str x.1) = false := by
    rw [PyData.eqv]
    exact beq_eq_false_iff_ne.mpr fun z => q2 z.symm
  rw [ne, if_neg Bool.false_ne_true, PySem.W.dataLt_str] at q1
  exact of_decide_eq_false q1
theorem sorted_same {a b : List Str} (p : a.Perm b) (ha : a.Pairwise fun x y => ¬ y.cps.toList < x.cps.toList) (hb : b.Pairwise fun x y => ¬ y.cps.toList < x.cps.toList) : a = b :=
  List.Perm.eq_of_pairwise (fun x y _ _ h1 h2 => str_ext (List.le_antisymm h1 h2)) ha hb p
section
variable {σ : St} {H : Hp} {Q : VK} {K : PySem.W.Frag}
theorem r_dnew (h : ∀ p, H p = none → Q (.ref p) (upd H p (.dK []))) : tDNewK σ H Q := h
theorem dq_strs : ∀ {ns : List Str} {ys : List V}, DqAll K H ys (ns.map PyData.str) → ys = ns.map V.str
  | [], ys, h => dp_nil h
  | n :: r, ys, h => by
    obtain ⟨v, vs, rfl, d1, d2⟩ := dp_cons h
    rw [dp_str d1, dq_strs d2]
    rfl
theorem r_neSame {x y : V} {d : PyData} (h : Dq K H x d) (g : Dq K H y d) (s : shp d = true) (n : d.depth ≤ 64) (q : Q (.bl (!true)) H) : rNeD K x y H Q :=
  ⟨d, d, Dq.dp _ _ h, Dq.dp _ _ g, shaped_of s n, shaped_of s n, by rw [PySem.SeqAt.eqv_refl d (shp_lay d s)]; exact q⟩
end
theorem wTree_le : ∀ n, n ≤ 6 → wTree n ≤ 2 ^ 20 := by decide +kernel
end L2.Rx

end
section
set_option Elab.async false
set_option linter.all false
set_option maxRecDepth 100000
set_option maxHeartbeats 4000000
local macro_rules | `(tactic| walk_at "rd1") => `(tactic| with_reducible first
  | refine L2.Rx.r_seq ?_ | refine L2.Rx.r_asg ?_ | refine L2.Rx.r_gname ?_ | refine L2.Rx.r_op ?_ | refine L2.Rx.r_c ?_
  | refine L2.Rx.r_var rfl ?_
  | refine L2.Rx.r_rI0 ?_ | refine L2.Rx.r_test ?_ | refine L2.Rx.r_bl ?_ | refine L2.Rx.r_if ?_ | refine L2.Rx.r_ret ?_
  | refine L2.Rx.r_cons ?_ | refine L2.Rx.r_nil ?_ | refine L2.Rx.r_call ?_ | refine L2.Rx.r_cb ?_ | refine L2.Rx.r_next ?_ | refine L2.Rx.r_drop ?_
  | refine L2.Rx.r_gsub ?_ | refine L2.Rx.r_tupF ?_ | refine L2.Rx.r_lst ?_ | refine L2.Rx.r_par ?_ | refine L2.Rx.r_par2 ?_
  | refine L2.Rx.r_un ?_ | refine L2.Rx.r_tb ?_ | refine L2.Rx.r_and ?_ | refine L2.Rx.r_or ?_ | refine L2.Rx.r_not ?_
  | refine L2.Rx.r_andV ?_ | refine L2.Rx.r_orV ?_ | refine L2.Rx.r_notV ?_ | refine L2.Rx.r_ifx ?_ | refine L2.Rx.r_chain ?_
  | refine L2.Rx.r_sl ?_ | refine L2.Rx.r_nopart ?_ | refine L2.Rx.r_part ?_ | refine L2.Rx.r_exint ?_ | refine L2.Rx.r_bm0 ?_ | refine L2.Rx.r_bm ?_
  | refine L2.Rx.r_lc ?_ | refine L2.Rx.r_rng1 ?_ | refine L2.Rx.r_yes ?_ | refine L2.Rx.r_tt ?_ | refine L2.Rx.r_ff ?_ | refine L2.Rx.r_m1 ?_ | refine L2.Rx.r_m0 ?_ | refine L2.Rx.r_isS ?_
  | (refine L2.Rx.r_wipe (by with_unfolding_all rfl) ?_) | (refine L2.Rx.r_tyL (by walk_at "hp") ?_)
  | refine L2.Rx.r_addS (by walk_at "len") ?_ | refine L2.Rx.r_lenS (by walk_at "len") ?_ | refine L2.Rx.r_slS (by walk_at "len") ?_
  | refine L2.Rx.r_dnotin ?_ | refine L2.Rx.r_dget ?_ | refine L2.Rx.r_dget1 ?_ | refine L2.Rx.r_dput ?_ | refine L2.Rx.r_dpop1 ?_ | refine L2.Rx.r_isN ?_
  | refine L2.Rx.r_for ?_ | refine L2.Rx.r_ilist ?_ | refine L2.Rx.r_itup ?_
  | refine L2.Rx.r_gcons ?_ | refine L2.Rx.r_gnil ?_ | (refine L2.Rx.r_gtupP (by assumption) (by walk_at "at") ?_)
  | (refine L2.Rx.r_rEq rfl ?_) | (refine L2.Rx.r_rNe rfl ?_)
  | refine L2.Rx.r_rU ?_ | refine L2.Rx.r_max2 ?_ | refine L2.Rx.r_min2 ?_ | refine L2.Rx.r_int1i ?_ | (refine L2.Rx.r_lenh (by walk_at "hp") ?_)
  | (refine L2.Rx.r_ixLh (by walk_at "hp") (by walk_at "at") ?_)
  | (refine L2.Rx.r_setL (by walk_at "hp") (by walk_at "at") ?_))
local macro_rules | `(tactic| walk_at "at") => `(tactic| with_unfolding_all rfl)
local macro_rules | `(tactic| walk_at "rd") => `(tactic| (repeat walk_at "rd1"))
local macro_rules | `(tactic| walk_at "hp") => `(tactic| first
  | assumption
  | exact L2.upd_same
  | (refine Eq.trans (L2.upd_ne ?_) ?_; (focus walk_at "ne"); (focus walk_at "hp"))
  | (refine L2.Rx.Kp.at0 (by assumption) ?_; walk_at "hp")
  | (refine L2.Rx.Kp.at1 (by assumption) ?_ ?_; (focus walk_at "ne"); (focus walk_at "hp")))
local macro_rules | `(tactic| walk_at "ne") => `(tactic| first
  | assumption | exact Ne.symm (by assumption)
  | (refine L2.ne_of_none (H := ?nH) (o := ?nO) ?nh ?nn; (case nn => assumption); (case nh => walk_at "hp"))
  | (refine Ne.symm (L2.ne_of_none (H := ?nH) (o := ?nO) ?nh ?nn); (case nn => assumption); (case nh => walk_at "hp")))
local macro_rules | `(tactic| walk_at "len") => `(tactic| (rw [PySem.sizeLine_eq]; omega))
local macro_rules | `(tactic| walk_at "nin") => `(tactic| first
  | exact List.not_mem_nil
  | (refine L2.Rx.nin1 ?_; walk_at "ne"))
local macro_rules | `(tactic| walk_at "none") => `(tactic| first
  | assumption
  | (refine L2.Rx.Kp.none0 (by assumption) ?_ ?_; (focus walk_at "nin"); (focus walk_at "none")))
namespace L2.Rx
open PySem PySem.Spec PyProof.Rows
/-! ### an own error's class called with keywords -/
section
open PySem.W PySem.Calls
variable {prog : Program} {w : World} {A : Around} {E : Value → Shared → Prop} {R : Result → Shared → Prop} {hp : Heap} {gs : Array GenState} {dr : Drawn} {tk : Nat} {os : OsState}
variable {cn qn : Str} {C N : Addr} {bs cm bB : List Value} {hd : Bool} {sn : List Str} {sub : List Value} {ab : Bool} {cl : Option Bool} {dd : Option Addr} {k0 k1 k2 k3 k5 : Option Value} {B nid iid : String} {rest : List Value} {kw : List (Str × Value)}
theorem xk_check (F : ExcBaseFacts B nid iid bB) (hT : ∀ Y : String, cm.contains (.type Y) = bB.contains (.type Y)) {Q : Unit → Shared → Prop}
    (hC : hp.get? C = some (excClassObj cn qn C N bs cm hd sn sub ab cl dd k0 k1 k2 k3 k5 nid)) (q : Q () ⟨hp, gs, dr, tk, os⟩) : wpAny (model prog w) A (checkBuiltinCall nid ⟨.ref C :: rest, kw⟩) Q E ⟨hp, gs, dr, tk, os⟩ := by
  have has : (Value.ref C :: cm).contains (.type B) = true := by
    rw [List.contains_cons, hT, F.hasB, Bool.or_true]
  have st := F.noStar
  simp only [checkBuiltinCall, F.newKind, F.newSplit, F.newRow]
  repeat (first | (refine wpAny_isSubtype_exc hC ?_; rw [has]) | refine wpAny_loadPart_at hC ?_ | refine wpAny_madeBy_exc hC ?_ | refine wpAny_staticBase_exc hC ?_ | simp only [bne_self_eq_false, Bool.false_eq_true, if_false] | wp_step)
  exact q
theorem xk_new (F : ExcBaseFacts B nid iid bB) (hT : ∀ Y : String, cm.contains (.type Y) = bB.contains (.type Y))
    (hC : hp.get? C = some (excClassObj cn qn C N bs cm hd sn sub ab cl dd k0 k1 k2 k3 k5 nid)) (hr : rest.length ≤ sizeLine)
    (q : R (.ok (.ret (.ref (hp.objs.size + 1)))) ⟨(hp.push (PySem.W.kdv_tup rest)).push (PySem.HandSPX.excO C hp.objs.size), gs, dr, tk, os⟩) :
    codeAny (model prog w) A (.builtin nid ⟨.ref C :: rest, kw⟩) R ⟨hp, gs, dr, tk, os⟩ := by
  have en := F.ends
  have c1 : (Value.ref C :: cm).contains (.type B) = true := by
    rw [List.contains_cons, hT, F.hasB, Bool.or_true]
  have c2 : (Value.ref C :: cm).contains (.type "AttributeError") = false := by
    rw [List.contains_cons, hT, F.noAttr]
    rfl
  have c3 : (Value.ref C :: cm).contains (.type "NameError") = false := by
    rw [List.contains_cons, hT, F.noName]
    rfl
  refine codeAny_builtinAt F.entry ?_
  unfold Builtin.«BaseException.__new__»
  refine PySem.wpAt_bind ?_
  show PySem.wpAt _ _ _ (stack >>= _) _ _ _
  refine PySem.wpAt_bind (PySem.wpAt_stack fun fr below => PySem.wpAt_of_wpAny ?_)
  wp_walk
  refine PySem.wpAt_of_wpAny ?_
  rw [F.owner]
  repeat (first | with_reducible refine wpAny_loadPart_at hC ?_ | with_reducible refine wpAny_madeHere_exc F.canon hC ?_ | (with_reducible refine wpAny_isSubtype_exc hC ?_; first | rw [c1] | rw [c2] | rw [c3]) | wp_step)
  show R _ _
  rw [Heap.size_push]
  exact q
theorem xk_type (F : ExcBaseFacts B nid iid bB) (hT : ∀ Y : String, cm.contains (.type Y) = bB.contains (.type Y)) {fI : Addr} {Q : Fin → Shared → Prop}
    (hC : hp.get? C = some (excClassObj cn qn C N bs cm hd sn sub ab cl dd k0 k1 k2 k3 k5 nid)) (hr : rest.length ≤ sizeLine)
    (hi : W.Looks (model prog w) hp (typeLookup (.ref C) "__init__") (some (.ref fI))) (hb : ∀ self, W.Looks (model prog w) hp (bindSpecial (.ref fI) self) (.ref fI, [self]))
    (q : codeAny (model prog w) A (.call (.ref fI) ⟨.ref (hp.objs.size + 1) :: rest, kw⟩)
      (fun r s' => match r with | .ok (.ret v) => v = .none ∧ Q (.done (.ret (.ref (hp.objs.size + 1)))) s' | .ok _ => False | .error e => E e s')
      ⟨(hp.push (PySem.W.kdv_tup rest)).push (PySem.HandSPX.excO C hp.objs.size), gs, dr, tk, os⟩) :
    wpAny (model prog w) A (Builtin.«type.__call__» ⟨.ref C :: rest, kw⟩) Q E ⟨hp, gs, dr, tk, os⟩ := by
  repeat (first | with_reducible refine wpAny_madeBy_exc hC ?_ | with_reducible refine wpAny_loadPart_at hC ?_ | wp_step)
  refine codeAny_call_builtin_code (Code.quiet_builtin _ F.quiet) (xk_check F hT hC ?_)
  refine xk_new F hT hC hr ?_
  show wpAny _ _ _ _ _ _
  have kk : ∀ b o, hp.get? b = some o → ((hp.push (PySem.W.kdv_tup rest)).push (PySem.HandSPX.excO C hp.objs.size)).get? b = some o := fun b o e => Heap.get?_push_of_some _ (Heap.get?_push_of_some _ e)
  have hC1 := kk _ _ hC
  have at1 : ((hp.push (PySem.W.kdv_tup rest)).push (PySem.HandSPX.excO C hp.objs.size)).get? (hp.objs.size + 1) = some (PySem.HandSPX.excO C hp.objs.size) := by heap_get
  have cC : (Value.ref C :: cm).contains (.ref C) = true := by simp
  have i1 := hi.keeps kk
  have b1 := (hb (.ref (hp.objs.size + 1))).keeps kk
  unfold isInstance
  repeat (first | with_reducible refine wpAny_loadPart_at at1 ?_ | (with_reducible refine wpAny_isSubtype_exc hC1 ?_; rw [cC]) | wp_step)
  show wpAny _ _ (typeLookup (.ref C) _) _ _ _
  refine i1.at ?_
  refine wpAny_holding (wpAny_bind (b1.at ?_))
  refine wpAny_bind (wpAny_call (codeAny_mono q fun r s' z => ?_))
  rcases r with e | (v | _ | _ | _) <;> first | exact z | exact z.elim | skip
  obtain ⟨rfl, z⟩ := z
  first
    | exact wpAny_pure (wpAny_pure z)
    | (wp_walk; exact z)
theorem xk_tcheck {Q : Unit → Shared → Prop} (hC : hp.get? C = some (excClassObj cn qn C N bs cm hd sn sub ab cl dd k0 k1 k2 k3 k5 nid))
    (q : Q () ⟨hp, gs, dr, tk, os⟩) : wpAny (model prog w) A (checkBuiltinCall "type.__call__" ⟨.ref C :: rest, kw⟩) Q E ⟨hp, gs, dr, tk, os⟩ := by
  have t3 := tc_sub
  have isT : (⟨hp, gs, dr, tk, os⟩ : Shared).TypeIs (.ref C) "type" := ⟨_, hC, rfl⟩
  simp only [checkBuiltinCall, tc_kind, tc_split]
  repeat (any_goals (first | assumption | with_reducible refine wpAny_onRaise ?_ | with_reducible refine wpAny_loadPart_at hC ?_ | with_reducible refine wpAny_map ?_ | wp_step))
theorem xk_call (F : ExcBaseFacts B nid iid bB) (hT : ∀ Y : String, cm.contains (.type Y) = bB.contains (.type Y)) {fI : Addr}
    (hC : hp.get? C = some (excClassObj cn qn C N bs cm hd sn sub ab cl dd k0 k1 k2 k3 k5 nid)) (hr : rest.length ≤ sizeLine)
    (hi : W.Looks (model prog w) hp (typeLookup (.ref C) "__init__") (some (.ref fI))) (hb : ∀ self, W.Looks (model prog w) hp (bindSpecial (.ref fI) self) (.ref fI, [self]))
    (q : codeAny (model prog w) (A.under (.builtin "type.__call__" ⟨.ref C :: rest, kw⟩)) (.call (.ref fI) ⟨.ref (hp.objs.size + 1) :: rest, kw⟩) (W.InitBack (hp.objs.size + 1) R)
      ⟨(hp.push (PySem.W.kdv_tup rest)).push (PySem.HandSPX.excO C hp.objs.size), gs, dr, tk, os⟩) :
    codeAny (model prog w) A (.call (.ref C) ⟨rest, kw⟩) R ⟨hp, gs, dr, tk, os⟩ := by
  have t1 := tc_lookup
  have t2 := tc_bind (.ref C)
  have isT : (⟨hp, gs, dr, tk, os⟩ : Shared).TypeIs (.ref C) "type" := ⟨_, hC, rfl⟩
  refine codeAny_of_tree ?_
  show wpAny _ _ (callAny (.ref C) _) _ _ _
  repeat (any_goals (first | assumption | wp_step | with_reducible refine wpAny_loadPart_at hC ?_))
  refine ⟨rfl, ?_⟩
  refine codeAny_call_builtin_at (Code.quiet_builtin _ (by decide +kernel)) entry_typeCall (xk_tcheck hC (xk_type F hT hC hr hi hb ?_))
  refine codeAny_mono q fun r s' z => ?_
  rcases r with e | (v | _ | _ | _) <;> exact z
end
/-! ### what the written part says of an own error's class -/
abbrev fnd (K : PySem.W.Frag) (C : Addr) (x : Str) : Option (Option Value) := PySem.W.findIn K (.ref C) x
structure EC (K : PySem.W.Frag) (C : Addr) : Prop where
  oex : OexC K C
  ga : fnd K C "__getattribute__" = some (some (.builtin "BaseException.__getattribute__"))
  gg : fnd K C "__getattr__" = some none
  hdc : PySem.W.hasDictIn K C = true
  ac : fnd K C "__class__" = some (some (.builtin "object.__class__"))
  mo : PySem.W.mroIn K C (.type "object") = some true
/-- of the slot that tells an object's class -/
structure ClsSlot (K : PySem.W.Frag) : Prop where
  gt : PySem.W.specialIn K (.builtin "object.__class__") "__get__" = some (some (.builtin "getset_descriptor.__get__"))
  tk : PySem.W.takesIn K (.builtin "object.__class__") = some true
section
open PySem.W PySem.Calls
variable {prog : Program} {w : World} {A : Around} {E : Value → Shared → Prop} {s : Shared} {K : Frag} {x D : Addr} {ox : Obj} {od : Option Obj}
theorem ec_find (T : EC K D) (S : ClsSlot K) : findObj K D od "__class__" = some (.bind (.builtin "getset_descriptor.__get__") (.builtin "object.__class__")) := by
  obtain ⟨cd, hc, _⟩ := any_some T.hdc
  have a := T.ac
  unfold fnd at a
  unfold findObj
  rw [hc, Option.bind_some, a, Option.bind_some]
  simp only [S.gt, S.tk, Option.bind_some]
theorem ec_class {Q : Option Value → Shared → Prop} (T : EC K D) (S : ClsSlot K) (Y : K.In s.heap) (I : InstAt s.heap x ox D od) (q : Q (some (.ref D)) { s with toks := s.toks + 1 }) : wpAny (model prog w) A (getAttr? (.ref x) "__class__") Q E s := by
  have fo := ec_find (od := od) T S
  obtain ⟨hp, gs, dr, tk, os⟩ := s
  have A0 := I.type (M := model prog w)
  have A1 := looks_findIn (M := model prog w) Y T.ga
  have A2 := looks_findIn (M := model prog w) Y T.gg
  have A3 := looks_find (M := model prog w) Y I fo
  have isb : Looks (model prog w) hp (isInstance (.ref x) (.type "BaseException")) true := A0.andThen (looks_subIn Y T.oex.exC)
  have n0 : (false && onTheHeap (Value.builtin "BaseException.__getattribute__")) = false := rfl
  have n2 : (Value.builtin "BaseException.__getattribute__" == Value.builtin "object.__getattribute__") = false := by decide +kernel
  have n1 : (onTheHeap (Value.ref D) && Value.builtin "BaseException.__getattribute__" == Value.builtin "object.__getattribute__") = false := by
    rw [n2]
    rfl
  unfold getAttr? getAttrBy? getAttrBy
  refine wpAny_bind (wpAny_mkText (wpAny_bind (wpAny_attempt (wpAny_holding (wpAny_bind (A0.at (wpAny_bind (A1.at ?_))))))))
  show wpAny _ _ (if (onTheHeap (Value.ref D) && Value.builtin "BaseException.__getattribute__" == Value.builtin "object.__getattribute__") = true then _ else _) _ _ _
  rw [n1, if_neg Bool.false_ne_true]
  unfold getAttrByItsOwn hookBefore
  refine wpAny_bind ?_
  rw [if_pos (show onTheHeap (Value.ref D) = true from rfl)]
  refine A2.at ?_
  refine wpAny_bind (wpAny_attempt (wpAny_holding ?_))
  unfold callGetattribute
  rw [n0, if_neg Bool.false_ne_true]
  unfold boundAndCalled
  rw [PySem.F.excAttr_ValueError.ga.bind (.ref x)]
  refine wpAny_bind (wpAny_pure ?_)
  show wpAny _ _ (call (.builtin "BaseException.__getattribute__") [.ref x, .str "__class__" tk]) _ _ _
  refine wpAny_call (codeAny_call_builtin PySem.F.excAttr_ValueError.ga.plain PySem.F.entry_bexc_ga ?_)
  refine @check_slot (model prog w) _ _ ⟨hp, gs, dr, tk + 1, os⟩ "BaseException.__getattribute__" "BaseException" "__getattribute__" (.ref x) [.str "__class__" tk] [] _ (by decide +kernel) (by decide +kernel) isb (PySem.F.args_bexc_ga (.ref x) (.str "__class__" tk)) ?_
  unfold Builtin.«object.__getattribute__»
  refine wpAny_bind (wpAny_of_eq (a := ((Value.ref x : Value), [Value.str "__class__" tk])) (by first | rfl | (simp only [slotArgs]; rfl)) ?_)
  refine wpAny_bind (wpAny_pure (wpAny_bind (A0.at (wpAny_bind (A3.at ?_)))))
  show wpAny _ _ (holding [Value.builtin "object.__class__"] (call (.builtin "getset_descriptor.__get__") [.builtin "object.__class__", .ref x, .ref D]) >>= ret) _ _ _
  refine wpAny_bind (wpAny_holding (wpAny_call (class_get (s := ⟨hp, gs, dr, tk + 1, os⟩) (ox := ox) (od := od) Y I T.mo ?_)))
  refine wpAny_pure ?_
  show wpAny _ _ (handedOut (.ref D)) _ _ _
  rw [handedOut_of (v := .ref D) rfl]
  first
    | exact wpAny_pure (wpAny_pure q)
    | exact wpAny_pure q
    | exact wpAny_pure (wpAny_bind (wpAny_pure (wpAny_pure q)))
theorem kx_exc (T : EC K D) (S : ClsSlot K) : KitX K (.ref x) (.ref D) (fun h => InstAt h x ox D od) where
  ty := fun _ _ _ J => J.type
  it := fun _ _ Y _ => by
    obtain ⟨cd, hc, _⟩ := any_some T.hdc
    unfold clsIn at hc
    split at hc
    · rename_i a1 a2 a3 a4 ho
      intro A1 Q1 E1 s1 kp q
      unfold isType loadHead
      exact wpAny_bind (wpAny_loadPart (kp _ _ (Y _ _ ho)) (wpAny_pure q))
    · cases hc
  ne := fun h tp dd its n sl Y ht => by
    obtain ⟨cd, hc, _⟩ := any_some T.hdc
    refine Bool.eq_false_iff.mpr fun z => ?_
    have e : D = tp := Value.ref.inj (beq_iff_eq.mp z)
    subst e
    unfold clsIn at hc
    split at hc
    · rename_i a1 a2 a3 a4 ho
      have z2 := (Y _ _ ho).symm.trans ht
      cases z2
    · cases hc
  ca := fun Y J q => ec_class T S Y J q
end
/-! ### errors as values: made, asked, read -/
/-- at v: an error of the class at C with these fields -/
def Ex (H : Hp) (v : V) (C : Addr) (fs : List (Str × V)) : Prop := ∃ a : Addr, v = .ref a ∧ ((H a = some (exo a C none) ∧ fs = []) ∨ ∃ dx : Addr, H a = some (exo a C (some dx)) ∧ H dx = some (exd dx fs))
theorem Ex.keep {S : List Addr} {H H' : Hp} {v : V} {C : Addr} {fs : List (Str × V)} (h : Ex H v C fs) (k : Kp S H H') (n : ∀ a ∈ S, ∃ xs, H a = some (.lst xs)) : Ex H' v C fs := by
  have out : ∀ {a : Addr} {o : HO}, H a = some o → (∀ xs, o ≠ .lst xs) → a ∉ S := fun {a o} e d z => by
    obtain ⟨xs, q⟩ := n a z
    rw [e] at q
    exact d xs (Option.some.inj q)
  have no1 : ∀ (a C : Addr) (d : Option Addr) xs, exo a C d ≠ .lst xs := fun a C d xs z => by
    have z' : HO.ext _ = HO.lst xs := z
    cases z'
  have no2 : ∀ (a : Addr) (fs : List (Str × V)) xs, exd a fs ≠ .lst xs := fun a fs xs z => by
    have z' : HO.ext _ = HO.lst xs := z
    cases z'
  obtain ⟨a, rfl, ⟨e, f⟩ | ⟨dx, e, f⟩⟩ := h
  · exact ⟨a, rfl, .inl ⟨k a _ (out e (no1 _ _ _)) e, f⟩⟩
  · exact ⟨a, rfl, .inr ⟨dx, k a _ (out e (no1 _ _ _)) e, k dx _ (out f (no2 _ _)) f⟩⟩
theorem Ex.keep0 {H H' : Hp} {v : V} {C : Addr} {fs : List (Str × V)} (h : Ex H v C fs) (k : Kp [] H H') : Ex H' v C fs := h.keep k fun _ z => nomatch z
section
variable {X : Cx} {pins : List (Addr × Obj)} {σ : St} {H : Hp} {s : Shared}
theorem ex_inst (I : Inv X pins σ H s) {v : V} {C : Addr} {fs : List (Str × V)} (h : Ex H v C fs) : ∃ (a : Addr) (ox : Obj) (od : Option Obj), v = .ref a ∧ PySem.W.InstAt s.heap a ox C od := by
  obtain ⟨a, rfl, ⟨e, _⟩ | ⟨dx, e, f⟩⟩ := h
  · obtain ⟨t, ho⟩ := exo_at I.hok e
    exact ⟨a, _, none, rfl, ho, rfl, rfl, True.intro⟩
  · obtain ⟨t, ho⟩ := exo_at I.hok e
    obtain ⟨mA, hn, _⟩ := exd_at I.hok f
    obtain ⟨od, hd, _⟩ := lookIn_ns hn
    exact ⟨a, _, some od, rfl, ho, rfl, rfl, hd⟩
end
/-- isinstance(x, c), x an own error -/
def rIsX (K : PySem.W.Frag) : List V → Hp → VK → Prop := fun xs H Q => ∃ (x c : V) (C : Addr) (fs : List (Str × V)) (u : Value) (b : Bool), xs = [x, c] ∧ Ex H x C fs ∧ EC K C ∧ ClsV c u ∧ PySem.W.kitOne K (.ref C) u = some b ∧ Q (.bl b) H
/-- isinstance(x, (c1, ..)) -/
def rIsXT (K : PySem.W.Frag) : List V → Hp → VK → Prop := fun xs H Q => ∃ (x : V) (tp : Addr) (cs : List V) (C : Addr) (fs : List (Str × V)) (us : List Value) (b : Bool), xs = [x, .ref tp] ∧ Tm H tp cs ∧ Paired ClsV cs us ∧ Ex H x C fs ∧ EC K C ∧ PySem.W.kitAny K (.ref C) us = some b ∧ Q (.bl b) H
/-- e.f, e an own error -/
def tXat (K : PySem.W.Frag) (f : Str) (te : TE) : TE := fun σ H Q => te σ H fun x H1 => ∃ (C : Addr) (fs : List (Str × V)) (v : V), Ex H1 x C fs ∧ EC K C ∧ fnd K C f = some none ∧ fs.lookup f = some v ∧ Q v H1
section
variable {X : Cx}
theorem call_isX (S : ClsSlot X.K) : CallR X (.builtin "isinstance") (rIsX X.K) := by
  intro pins s σ H xs us Q I r h
  obtain ⟨x, c, C, fs, u, b, rfl, hx, T, k, e, q⟩ := h
  obtain ⟨u1, u2, rfl, r1, r2⟩ := vals2 r
  have e2 := k.eq r2
  subst e2
  obtain ⟨a, ox, od, rfl, J⟩ := ex_inst I hx
  cases (show u1 = Value.ref a from r1)
  exact PySem.W.kia_one (kx_exc T S) I.kIn J e (fun z => nomatch z) fun tk => ⟨.bl b, H, I.tok tk, rfl, q⟩
theorem call_isXT (S : ClsSlot X.K) : CallR X (.builtin "isinstance") (rIsXT X.K) := by
  intro pins s σ H xs us Q I r h
  obtain ⟨x, tp, cs, C, fs, ws, b, rfl, hT, k, hx, T, e, q⟩ := h
  obtain ⟨u1, u2, rfl, r1, r2⟩ := vals2 r
  cases (show u2 = Value.ref tp from r2)
  obtain ⟨a, ox, od, rfl, J⟩ := ex_inst I hx
  cases (show u1 = Value.ref a from r1)
  obtain ⟨ob, eo, _⟩ := hT
  obtain ⟨_, _, its, rv, o, g1, g2, n, g3⟩ := (show ObjOk X.prog X.w H s.heap tp (.frz ob (.tup cs)) from I.hok tp _ eo)
  have e3 := ClsV.all k rv
  subst e3
  obtain ⟨oc, od2, dt, sl⟩ := o
  simp only at g2 g3
  subst g2 g3
  exact PySem.W.kia_tup (kx_exc T S) I.kIn J g1 e (fun z => nomatch z) fun tk => ⟨.bl b, H, I.tok tk, rfl, q⟩
theorem pe_xat {e : Expr} {te : TE} {pos : Pos} {f : Str} (he : PE X e te) (hb : attributeBase e f X.env (eval e X.env) = eval e X.env := by rfl) : PE X (.Attribute e f pos) (tXat X.K f te) := by
  refine ⟨fun pins s σ H Q I h => ?_⟩
  refine attr_of hb (thn (he.run pins s σ H _ I h) fun u s1 hh => ?_)
  obtain ⟨x, H1, I1, rx, C, fs, v, hx, T, hno, l, q⟩ := hh
  obtain ⟨a, rfl, ⟨_, e0⟩ | ⟨dx, ea, ed⟩⟩ := hx
  · rw [e0] at l
    cases l
  obtain rfl : u = Value.ref a := rx
  obtain ⟨t, ho⟩ := exo_at I1.hok ea
  obtain ⟨mA, hn, hr⟩ := exd_at I1.hok ed
  obtain ⟨od, hd, hl⟩ := lookIn_ns hn
  obtain ⟨y, hy, ry⟩ := RelO.some_of (v := v) (o := mA f) (by rw [← l]; exact hr f)
  have J : PySem.W.InstAt s1.heap a _ C (some od) := ⟨ho, rfl, rfl, hd⟩
  exact PySem.HandSPX.exc_get I1.kIn J T.ga T.gg T.oex.exC (PySem.W.findObj_own T.hdc hno rfl (by rw [hl, hy])) (handed_of ry) ⟨v, H1, I1.tok _, ry, q⟩
end
theorem RoomG.make {k : Nat} {A : Around} (r : RoomG (k + 1) A) (C : Addr) (us : List Value) (kw : List (Str × Value)) : RoomG k (A.under (.builtin "type.__call__" ⟨.ref C :: us, kw⟩)) := ⟨r.up.make C us kw, r.gd⟩
/-- C(..), C's own __init__ keeping sp: what is asked of vs, the arguments in the parameters' order -/
def mkAsk (C : Addr) (sp : Sp) (vs : List V) (H : Hp) (Q : VK) : Prop := vs.length ≤ 1000 ∧ ∀ a, H a = none → sp (.ref a :: vs) (upd H a (exo a C none)) (fun v H2 => v = .non ∧ Q (.ref a) H2) E0
def tMk (C : Addr) (sp : Sp) (ta : TA) : TE := fun σ H Q => ta σ H fun vs H1 => mkAsk C sp vs H1 Q
def tMkK (C : Addr) (g : List V → List V) (sp : Sp) (tk : TA) : TE := fun σ H Q => tk σ H fun vs H1 => vs.length ≤ 1000 ∧ mkAsk C sp (g vs) H1 Q
def tMk0 (C : Addr) : TE := fun _ H Q => ∀ a, H a = none → Q (.ref a) (upd H a (exo a C none))
/-- what the written part says of such a class with an __init__ of its own, at fI -/
structure IC (K : PySem.W.Frag) (C fI : Addr) : Prop where
  ec : EC K C
  ini : fnd K C "__init__" = some (some (.ref fI))
  tI : PySem.W.typeIn K (.ref fI) = some (.type "function")
section
variable {X : Cx} {C fI : Addr} {k : Nat} {fd : FuncData} {ps ks : List Str} {sp : Sp} {x : Str} {p pos : Pos} {e : Expr} {es : List Expr} {kws : List Keyword} {ta tk : TA}
theorem own_run {pins : List (Addr × Obj)} {σ : St} {H : Hp} {s : Shared} {Q : VK} {us ws : List Value} {kw : List (Str × Value)} {vs : List V} (T : IC X.K C fI) (F1 : FnG X.prog X.w X.K X.mg X.base CX0 k fI fd ps sp) (hr : RoomG (k + 1) X.A) (I : Inv X pins σ H s)
    (hb : ∀ (s' : Shared) (a : Addr), X.K.In s'.heap → (Value.ref a :: ws).length = ps.length → BindsTo s' fd ⟨Value.ref a :: us, kw⟩ (ps.zip (Value.ref a :: ws))) (rv : Vals vs ws) (hus : us.length ≤ sizeLine) (q : mkAsk C sp vs H Q) :
    wpAny (model X.prog X.w) X.A (call (.ref C) us kw) (EP X pins σ Q) X.xe s := by
  obtain ⟨cn, qn, N, bs, cm, sn, sub, ab, cl, dd, k0, k1, k2, k3, k5, hC, hbm⟩ := T.ec.oex.cls
  obtain ⟨hp, g, dr, tk, os⟩ := s
  have up : hp.objs.size ≤ hp.objs.size + 1 := Nat.le_succ _
  have hn : H (hp.objs.size + 1) = none := I.hok.fresh up
  have hq := q.2 (hp.objs.size + 1) hn
  have kk : ∀ b o, hp.get? b = some o → ((hp.push (PySem.W.kdv_tup us)).push (PySem.HandSPX.excO C hp.objs.size)).get? b = some o := fun b o e => Heap.get?_push_of_some _ (Heap.get?_push_of_some _ e)
  have at1 : ((hp.push (PySem.W.kdv_tup us)).push (PySem.HandSPX.excO C hp.objs.size)).get? (hp.objs.size + 1) = some (PySem.HandSPX.excO C hp.objs.size) := by heap_get
  have I2 : Inv X pins σ (upd H (hp.objs.size + 1) (exo (hp.objs.size + 1) C none)) ⟨(hp.push (PySem.W.kdv_tup us)).push (PySem.HandSPX.excO C hp.objs.size), g, dr, tk, os⟩ := I.laid (t' := tk) kk up (exo_ok at1)
  have r2 : Vals (V.ref (hp.objs.size + 1) :: vs) (Value.ref (hp.objs.size + 1) :: ws) := .cons rfl rv
  have hl : (Value.ref (hp.objs.size + 1) :: ws).length = ps.length := by
    rw [← r2.length]
    exact F1.len _ _ _ _ hq
  refine wpAny_call (xk_call F.excBase_ValueError (fun Y => PySem.HandSPX.refsVE_contains Y cm hbm) (I.kIn _ _ hC) hus (PySem.W.looks_findIn I.kIn T.ini) (fun self => PySem.W.bind_fn I.kIn self T.tI)
    (codeAny_mono (F1.run _ X.stack _ _ ⟨Value.ref (hp.objs.size + 1) :: us, kw⟩ (Value.ref (hp.objs.size + 1) :: ws) _ _ E0 (hr.make C us kw) (I2.env0.make C us kw) (hb _ _ I2.kIn hl) r2 hq) fun r s' hq' => ?_))
  cases r with
  | error er => exact pass0 pins σ _ _ er s' I2 hq'
  | ok fl =>
    cases fl with
    | ret u =>
      obtain ⟨v, H2, os2, bare2, un2, hok2, rv2, ev, q2⟩ := hq'
      subst ev
      exact ⟨rv2, .ref (hp.objs.size + 1), H2, I2.call' (ch := []) os2 un2 hok2 bare2 (fun b z => absurd z (by simp)), rfl, q2⟩
    | next => exact False.elim hq'
    | brk => exact False.elim hq'
    | cont => exact False.elim hq'
theorem pe_mk (T : IC X.K C fI) (F1 : FnG X.prog X.w X.K X.mg X.base CX0 k fI fd ps sp) (hb : Binds X.K fd ps []) (hr : RoomG (k + 1) X.A) (hm : X.mg x = some (.ref C)) (hg : Gl X x) (ha : PA X (e :: es) ta)
    (hdb : (x == ("__debug__" : Str)) = false := by decide) (he : starEach (e :: es) X.env = (false, eval e X.env) :: starEach es X.env := by rfl) (hpl : (backTo pos (starEach es X.env)).any (·.1) = false := by rfl) :
    PE X (.Call (.Name x p) (e :: es) [] pos) (tMk C sp ta) := by
  refine ⟨fun pins s σ H Q I h => ?_⟩
  refine wpAny_Call_Name_kw (ld_glob I hg hm ?_ hdb)
  refine PySem.W.callWith_K (h₀ := X.base) I.ok.mod.kin T.ec.oex.kC (thn (ha.run pos pins s σ H _ I h) fun us s1 ⟨vs, H1, I1, r1, q1⟩ => ⟨I1.kIn, ?_⟩) he hpl
  show wpAny _ _ (call (.ref C) us) _ _ _
  refine own_run (ws := us) T F1 hr I1 (fun s' a Y hl => ?_) r1 (by rw [← Paired.length r1, sizeLine_eq]; have := q1.1; omega) q1
  have := hb s' (Value.ref a :: us) Y (by rw [List.append_nil]; exact hl)
  rw [List.append_nil] at this
  exact this
theorem pe_mkK {g : List V → List V} {gv : List Value → List Value} (T : IC X.K C fI) (F1 : FnG X.prog X.w X.K X.mg X.base CX0 k fI fd ps sp)
    (hb : ∀ (s' : Shared) (a : Addr) (ws : List Value), X.K.In s'.heap → (Value.ref a :: gv ws).length = ps.length → BindsTo s' fd ⟨[Value.ref a], ks.zip ws⟩ (ps.zip (Value.ref a :: gv ws))) (hgv : ∀ (zs : List V) (ws : List Value), Vals zs ws → Vals (g zs) (gv ws))
    (hr : RoomG (k + 1) X.A) (hm : X.mg x = some (.ref C)) (hg : Gl X x) (hkw : PK X kws tk)
    (hall : (backToKw pos (keywordEach kws X.env)).all (·.1.isSome) = true := by rfl) (hks : (backToKw pos (keywordEach kws X.env)).filterMap (·.1) = ks := by rfl) (hdb : (x == ("__debug__" : Str)) = false := by decide)
    (hpl : ((backTo pos (starEach [] X.env)).any (·.1) || (backToKw pos (keywordEach kws X.env)).any (·.1.isNone)) = false := by rfl) :
    PE X (.Call (.Name x p) [] kws pos) (tMkK C g sp tk) := by
  refine ⟨fun pins s σ H Q I h => ?_⟩
  refine wpAny_Call_Name_kw (ld_glob I hg hm ?_ hdb)
  refine PySem.W.callWith_KW0 (h₀ := X.base) I.ok.mod.kin T.ec.oex.kC hall ?_ hpl
  refine thn (hkw.run pos pins s σ H _ I h) fun ws s1 ⟨zs, H1, I1, r1, _, q1⟩ => ⟨I1.kIn, ?_⟩
  rw [hks]
  exact own_run (us := []) (ws := gv ws) T F1 hr I1 (fun s' a Y hl => hb s' a ws Y hl) (hgv _ _ r1) (by rw [sizeLine_eq]; decide) q1
/-- C(), no __init__ of its own -/
theorem pe_mk0 (q : PySem.W.excIn X.K C [.type "ValueError", .type "Exception", .type "BaseException", .type "object"] "ValueError.__new__" = true) (kC : PySem.W.keepIn X.K (.ref C) = true) (hm : X.mg x = some (.ref C)) (hg : Gl X x)
    (hdb : (x == ("__debug__" : Str)) = false := by decide) : PE X (.Call (.Name x p) [] [] pos) (tMk0 C) := by
  refine ⟨fun pins s σ H Q I h => ?_⟩
  refine wpAny_Call_Name_kw (ld_glob I hg hm ?_ hdb)
  refine PySem.W.callWith_K0 I.kIn kC ?_
  show wpAny _ _ (call (.ref C) []) _ _ _
  obtain ⟨cm, N, cn, qn, bs, hd, sn, sub, ab, cl, dd, k0, k1, k2, k3, k5, mN, hC, hN, hni, T⟩ := exc_obj I.kIn q
  refine wpAny_call_exc_subT F.excBase_ValueError T hC hN hni (fun h' a hm => ?_) (by show 0 ≤ sizeLine; exact Nat.zero_le _)
  have hn : H a = none := I.hok.gone hm.new
  obtain ⟨t, ht, _, _⟩ := hm.there
  exact ⟨.ref a, upd H a (exo a C none), I.laidN hm.keeps hm.new hn (exo_ok ht), rfl, h a hn⟩
end
end L2.Rx

end
section
set_option Elab.async false
set_option linter.all false
set_option maxRecDepth 100000
set_option maxHeartbeats 4000000
local macro_rules | `(tactic| walk_at "rd1") => `(tactic| with_reducible first
  | refine L2.Rx.r_seq ?_ | refine L2.Rx.r_asg ?_ | refine L2.Rx.r_gname ?_ | refine L2.Rx.r_op ?_ | refine L2.Rx.r_c ?_
  | refine L2.Rx.r_var rfl ?_
  | refine L2.Rx.r_rI0 ?_ | refine L2.Rx.r_test ?_ | refine L2.Rx.r_bl ?_ | refine L2.Rx.r_if ?_ | refine L2.Rx.r_ret ?_
  | refine L2.Rx.r_cons ?_ | refine L2.Rx.r_nil ?_ | refine L2.Rx.r_call ?_ | refine L2.Rx.r_cb ?_ | refine L2.Rx.r_next ?_ | refine L2.Rx.r_drop ?_
  | refine L2.Rx.r_gsub ?_ | refine L2.Rx.r_tupF ?_ | refine L2.Rx.r_lst ?_ | refine L2.Rx.r_par ?_ | refine L2.Rx.r_par2 ?_
  | refine L2.Rx.r_un ?_ | refine L2.Rx.r_tb ?_ | refine L2.Rx.r_and ?_ | refine L2.Rx.r_or ?_ | refine L2.Rx.r_not ?_
  | refine L2.Rx.r_andV ?_ | refine L2.Rx.r_orV ?_ | refine L2.Rx.r_notV ?_ | refine L2.Rx.r_ifx ?_ | refine L2.Rx.r_chain ?_
  | refine L2.Rx.r_sl ?_ | refine L2.Rx.r_nopart ?_ | refine L2.Rx.r_part ?_ | refine L2.Rx.r_exint ?_ | refine L2.Rx.r_bm0 ?_ | refine L2.Rx.r_bm ?_
  | refine L2.Rx.r_lc ?_ | refine L2.Rx.r_rng1 ?_ | refine L2.Rx.r_yes ?_ | refine L2.Rx.r_tt ?_ | refine L2.Rx.r_ff ?_ | refine L2.Rx.r_m1 ?_ | refine L2.Rx.r_m0 ?_ | refine L2.Rx.r_isS ?_
  | (refine L2.Rx.r_wipe (by with_unfolding_all rfl) ?_) | (refine L2.Rx.r_tyL (by walk_at "hp") ?_)
  | refine L2.Rx.r_addS (by walk_at "len") ?_ | refine L2.Rx.r_lenS (by walk_at "len") ?_ | refine L2.Rx.r_slS (by walk_at "len") ?_
  | refine L2.Rx.r_dnotin ?_ | refine L2.Rx.r_dget ?_ | refine L2.Rx.r_dget1 ?_ | refine L2.Rx.r_dput ?_ | refine L2.Rx.r_dpop1 ?_ | refine L2.Rx.r_isN ?_
  | refine L2.Rx.r_for ?_ | refine L2.Rx.r_ilist ?_ | refine L2.Rx.r_itup ?_
  | refine L2.Rx.r_gcons ?_ | refine L2.Rx.r_gnil ?_ | (refine L2.Rx.r_gtupP (by assumption) (by walk_at "at") ?_)
  | (refine L2.Rx.r_rEq rfl ?_) | (refine L2.Rx.r_rNe rfl ?_)
  | refine L2.Rx.r_rU ?_ | refine L2.Rx.r_max2 ?_ | refine L2.Rx.r_min2 ?_ | refine L2.Rx.r_int1i ?_ | (refine L2.Rx.r_lenh (by walk_at "hp") ?_)
  | (refine L2.Rx.r_ixLh (by walk_at "hp") (by walk_at "at") ?_)
  | (refine L2.Rx.r_setL (by walk_at "hp") (by walk_at "at") ?_))
local macro_rules | `(tactic| walk_at "at") => `(tactic| with_unfolding_all rfl)
local macro_rules | `(tactic| walk_at "rd") => `(tactic| (repeat walk_at "rd1"))
local macro_rules | `(tactic| walk_at "hp") => `(tactic| first
  | assumption
  | exact L2.upd_same
  | (refine Eq.trans (L2.upd_ne ?_) ?_; (focus walk_at "ne"); (focus walk_at "hp"))
  | (refine L2.Rx.Kp.at0 (by assumption) ?_; walk_at "hp")
  | (refine L2.Rx.Kp.at1 (by assumption) ?_ ?_; (focus walk_at "ne"); (focus walk_at "hp")))
local macro_rules | `(tactic| walk_at "ne") => `(tactic| first
  | assumption | exact Ne.symm (by assumption)
  | (refine L2.ne_of_none (H := ?nH) (o := ?nO) ?nh ?nn; (case nn => assumption); (case nh => walk_at "hp"))
  | (refine Ne.symm (L2.ne_of_none (H := ?nH) (o := ?nO) ?nh ?nn); (case nn => assumption); (case nh => walk_at "hp")))
local macro_rules | `(tactic| walk_at "len") => `(tactic| (rw [PySem.sizeLine_eq]; omega))
local macro_rules | `(tactic| walk_at "nin") => `(tactic| first
  | exact List.not_mem_nil
  | (refine L2.Rx.nin1 ?_; walk_at "ne"))
local macro_rules | `(tactic| walk_at "none") => `(tactic| first
  | assumption
  | (refine L2.Rx.Kp.none0 (by assumption) ?_ ?_; (focus walk_at "nin"); (focus walk_at "none")))
namespace L2.Rx
open PySem PySem.Spec PyProof.Rows
/-! ### data that may hold lists and dicts, read as it stands -/
def Rp (K : PySem.W.Frag) (H : Hp) (v : V) (d : PyData) : Prop := ∀ (X : Cx) (pins : List (Addr × Obj)) (σ : St) (s : Shared) (u : Value), X.K = K → Inv X pins σ H s → RelV v u → ∃ as, Reads s.heap u d as ∧ sysModules ∉ as
def RpAll (K : PySem.W.Frag) (H : Hp) (vs : List V) (ds : List PyData) : Prop := ∀ (X : Cx) (pins : List (Addr × Obj)) (σ : St) (s : Shared) (us : List Value), X.K = K → Inv X pins σ H s → Vals vs us → ∃ as, ReadsAll s.heap us ds as ∧ sysModules ∉ as
section
variable {K : PySem.W.Frag} {H : Hp} {a : Addr} {xs : List V} {ds : List PyData}
theorem rp_non : Rp K H .non .none := fun X pins σ s u _ I r => by
  cases r
  exact ⟨_, Reads.none, by simp⟩
theorem rp_bl (b : Bool) : Rp K H (.bl b) (.bool b) := fun X pins σ s u _ I r => by
  cases r
  exact ⟨_, Reads.bool b, by simp⟩
theorem rp_int (i : Int) : Rp K H (.int i) (.int i) := fun X pins σ s u _ I r => by
  obtain ⟨t, rfl⟩ := r
  exact ⟨_, Reads.int i t, by simp⟩
theorem rp_str (x : Str) : Rp K H (.str x) (.str x) := fun X pins σ s u _ I r => by
  obtain ⟨t, rfl⟩ := r
  exact ⟨_, Reads.str x t, by simp⟩
theorem rp_nil : RpAll K H [] [] := fun X pins σ s us _ I r => by
  cases r
  exact ⟨_, ReadsAll.nil, by simp⟩
theorem rp_cons {v : V} {vs : List V} {d : PyData} {ds : List PyData} (h : Rp K H v d) (g : RpAll K H vs ds) : RpAll K H (v :: vs) (d :: ds) := fun X pins σ s us e I r => by
  cases r with
  | cons r1 r2 =>
    obtain ⟨as, q1, n1⟩ := h X pins σ s _ e I r1
    obtain ⟨bs, q2, n2⟩ := g X pins σ s _ e I r2
    exact ⟨_, ReadsAll.cons q1 q2, fun z => (List.mem_append.mp z).elim n1 n2⟩
theorem rp_tup (h : Tm H a xs) (g : RpAll K H xs ds) : Rp K H (.ref a) (.tuple ds) := fun X pins σ s u e I r => by
  cases r
  obtain ⟨its, rv, ⟨o, ho, hc, n, hd⟩, _⟩ := I.tuple h.sq
  obtain ⟨as, hr, hn⟩ := g X pins σ s _ e I rv
  exact ⟨_, Reads.tuple ho hc hd hr, hn⟩
theorem rp_lst (S : a ≠ sysModules) (h : H a = some (.lst xs)) (g : RpAll K H xs ds) : Rp K H (.ref a) (.list ds) := fun X pins σ s u e I r => by
  cases r
  obtain ⟨its, rv, ⟨o, n, ho, hc, _, hd⟩, _⟩ := I.list (show SqL X.K H a xs from .inl (.inl h))
  obtain ⟨as, hr, hn⟩ := g X pins σ s _ e I rv
  refine ⟨_, Reads.list ho hc hd hr, fun z => ?_⟩
  rcases List.mem_cons.mp z with q | q
  · exact S q.symm
  · exact hn q
theorem rp_d0 (h : H a = some (.dK [])) : Rp K H (.ref a) (.dict []) := fun X pins σ s u e I r => by
  cases r
  obtain ⟨_, hm, vs, rel, o, es, ep, ho, hx, hd, _, pr, _⟩ := dk_of I.hok h
  cases rel
  have en : es.toList = [] := by
    generalize es.toList = l at pr
    cases pr
    rfl
  refine ⟨_, Reads.dict ho hx.1 hd (as := []) (bs := []) (by rw [en]; exact ReadsAll.nil) (by rw [en]; exact ReadsAll.nil), ?_⟩
  intro z
  have z' : sysModules = a := by simpa using z
  rw [z'] at hm
  simp at hm
theorem rp_d1 {c : Str} {i : Int} (h : H a = some (.dK [(.inr c, .int i)])) : Rp K H (.ref a) (.dict [(.str c, .int i)]) := fun X pins σ s u e I r => by
  cases r
  obtain ⟨_, hm, vs, rel, o, es, ep, ho, hx, hd, _, pr, _⟩ := dk_of I.hok h
  cases rel with
  | @cons p q ps qs hq t =>
    cases t
    obtain ⟨h1, h2⟩ := hq
    obtain ⟨y, hy⟩ := h2
    generalize el : es.toList = l at pr
    cases pr with
    | @cons en kv es' kvs' k1 k2 k3 =>
      cases k3
      have k1' : keyIs q.1 en.key = true := k1
      rw [← h1] at k1'
      rcases keyIs_shape k1' with ⟨j, t, e1, e2⟩ | ⟨x, t, e1, e2⟩
      · cases e1
      · cases e1
        refine ⟨_, Reads.dict ho hx.1 hd (as := []) (bs := []) ?_ ?_, ?_⟩
        · rw [el]
          show ReadsAll _ [en.key] [.str c] []
          rw [e2]
          exact ReadsAll.cons (as := []) (bs := []) (Reads.str c t) ReadsAll.nil
        · rw [el]
          show ReadsAll _ [en.val] [.int i] []
          rw [k2, hy]
          exact ReadsAll.cons (as := []) (bs := []) (Reads.int i y) ReadsAll.nil
        · intro z
          have z' : sysModules = a := by simpa using z
          rw [z'] at hm
          simp at hm
end
/-! new lists, known not to be the table of modules -/
def tLstB (t : TA) : TE := fun σ H Q => t σ H fun xs H1 => xs.length ≤ sizeLine ∧ ∀ p, H1 p = none → p ≠ sysModules → Q (.ref p) (upd H1 p (.lst xs))
theorem pe_lstB {X : Cx} {es : List Expr} {t : TA} {pos : Pos} (h : PA X es t) : PE X (.List es pos) (tLstB t) := by
  refine ⟨fun pins s σ H Q I q0 => wpAny_List_spliced (thn (h.run pos pins s σ H _ I q0) fun us s1 ⟨xs, H1, I1, r, z, q⟩ => ⟨by rw [← r.length]; exact z, ?_⟩)⟩
  refine ⟨V.ref s1.heap.objs.size, upd H1 s1.heap.objs.size (.lst xs), I1.laid (t' := s1.toks) (fun b u e => Heap.get?_push_of_some _ e) (Nat.le_refl _) ?_, rfl, q _ (I1.hok.fresh (Nat.le_refl _)) (Nat.ne_of_gt I1.big)⟩
  exact ⟨z, us, 0, r, Heap.get?_push_size _ rfl⟩
theorem r_lstB {σ : St} {H : Hp} {Q : VK} {t : TA} (h : t σ H fun xs H1 => xs.length ≤ sizeLine ∧ ∀ p, H1 p = none → p ≠ sysModules → Q (.ref p) (upd H1 p (.lst xs))) : tLstB t σ H Q := h
theorem r_newB {H : Hp} {xs : List V} {q : Addr → Prop} (e : Nat.ble xs.length 1000 = true) (h : ∀ p, H p = none → p ≠ sysModules → q p) : xs.length ≤ sizeLine ∧ ∀ p, H p = none → p ≠ sysModules → q p := ⟨Nat.le_of_lt (small1000 (Nat.le_of_ble_eq_true e)), h⟩
def rSlLB (K : PySem.W.Frag) : V → Option Int → Option Int → Hp → VK → Prop := fun x lo hi H Q => ∃ a xs, x = .ref a ∧ SqL K H a xs ∧ ∀ p, H p = none → p ≠ sysModules → Q (.ref p) (upd H p (.lst (cutV xs lo hi)))
theorem sl_listB {X : Cx} : SlR X (rSlLB X.K) := by
  intro pins s σ H x v vl vu lo hi sl Q I rx hs pl pu h
  obtain ⟨a, xs, rfl, hx, q⟩ := h
  cases rx
  obtain ⟨its, r, ht, hz⟩ := I.list hx
  have hl := r.length
  refine ⟨"list", _, slot_list_getitem.lookup, ht.isList.typeIs, wpAny_getItem_list_slice ht.isList hs pl pu .none (by simp) ?_ (by rw [List.size_toArray] <;> omega)⟩
  rw [slicePick_cut, ← hl]
  refine ⟨V.ref s.heap.objs.size, _, I.laid (t' := s.toks) (o := .lst (cutV xs lo hi)) (fun b ob z => Heap.get?_push_of_some _ z) (Nat.le_refl _) ?_, rfl, q _ (I.hok.fresh (Nat.le_refl _)) (Nat.ne_of_gt I.big)⟩
  exact ⟨Nat.le_trans (cutV_length xs lo hi) hz, _, 0, (r.drop (HT.sIx xs.length 0 lo)).take _, Heap.get?_push_size _ rfl⟩
/-- as long as no more than S changes -/
def Sd (K : PySem.W.Frag) (S : List Addr) (H : Hp) (v : V) (d : PyData) : Prop := ∀ H', Kp S H H' → Rp K H' v d
theorem Sd.keep {K : PySem.W.Frag} {S : List Addr} {H H' : Hp} {v : V} {d : PyData} (h : Sd K S H v d) (k : Kp S H H') : Sd K S H' v d := fun H2 k2 => h H2 (k.trans k2)
theorem Sd.rp {K : PySem.W.Frag} {S : List Addr} {H : Hp} {v : V} {d : PyData} (h : Sd K S H v d) : Rp K H v d := h H Kp.refl
/-- repr of a list of such data -/
def rReprL (K : PySem.W.Frag) : List V → Hp → VK → Prop := fun xs H Q => ∃ (a : Addr) (d : PyData), xs = [.ref a] ∧ Rp K H (.ref a) d ∧ d.showable = true ∧ d.depth ≤ 60 ∧ d.shown.length ≤ sizeLine ∧ Q (.str d.shown) H
theorem call_reprL {X : Cx} {k : Nat} (hr : RoomG k X.A) : CallR X (.builtin "repr") (rReprL X.K) := by
  intro pins s σ H xs us Q I r h
  obtain ⟨a, d, rfl, hd, hs, hdp, hz, q⟩ := h
  obtain ⟨u, rfl, ru⟩ := vals1 r
  obtain ⟨as, rd, na⟩ := hd X pins σ s u rfl I ru
  cases ru
  exact repr_of_reads' rd hs (fun _ => na) hr.gd (by have := hr.units; omega) (fun _ _ e => e) (fun h' t tk hk => ⟨.str d.shown, H, I.kept hk, ⟨t, rfl⟩, q⟩) hz
/-! ### an own __init__ that stores its fields -/
def sp_in1 (K : PySem.W.Frag) (f : Str) : Sp := fun vs H Q _ => ∃ (a : Addr) (v : V) (C : Addr), vs = [.ref a, v] ∧ H a = some (exo a C none) ∧ OexC K C ∧ fnd K C f = some none ∧ ∀ dx, H dx = none → dx ≠ a → Q .non (upd (upd H dx (exd dx [(f, v)])) a (exo a C (some dx)))
def sp_in2 (K : PySem.W.Frag) (f g : Str) : Sp := fun vs H Q _ => ∃ (a : Addr) (v w : V) (C : Addr), vs = [.ref a, v, w] ∧ H a = some (exo a C none) ∧ OexC K C ∧ fnd K C f = some none ∧ fnd K C g = some none ∧
  ∀ dx H', Kp [] H (upd H a (exo a C none)) → dx ≠ a → H dx = none → (∀ b, b ≠ a → b ≠ dx → H' b = H b) → H' a = some (exo a C (some dx)) → H' dx = some (exd dx [(g, w), (f, v)]) → Q .non H'
/-- what is known of an own error's class with one field; with two -/
structure Mk1 (P : Program) (w : World) (K : PySem.W.Frag) (mg : Str → Option Value) (base : Heap) (C : Addr) (f : Str) : Prop where
  ex : ∃ (fI : Addr) (fd : FuncData), IC K C fI ∧ FnG P w K mg base CX0 1 fI fd ["self", f] (sp_in1 K f) ∧ Binds K fd ["self", f] [] ∧
    ∀ (s' : Shared) (a : Addr) (ws : List Value), K.In s'.heap → (Value.ref a :: ws).length = (["self", f] : List Str).length → BindsTo s' fd ⟨[Value.ref a], [f].zip ws⟩ ((["self", f] : List Str).zip (Value.ref a :: ws))
  ec : EC K C
  no : fnd K C f = some none
def turn2 {α : Type} (zs : List α) : List α := match zs with
  | [a, c] => [c, a]
  | zs => zs
structure Mk2 (P : Program) (w : World) (K : PySem.W.Frag) (mg : Str → Option Value) (base : Heap) (C : Addr) (f g : Str) : Prop where
  ex : ∃ (fI : Addr) (fd : FuncData), IC K C fI ∧ FnG P w K mg base CX0 1 fI fd ["self", f, g] (sp_in2 K f g) ∧ Binds K fd ["self", f, g] [] ∧
    ∀ (s' : Shared) (a : Addr) (ws : List Value), K.In s'.heap → (Value.ref a :: turn2 ws).length = (["self", f, g] : List Str).length → BindsTo s' fd ⟨[Value.ref a], [g, f].zip ws⟩ ((["self", f, g] : List Str).zip (Value.ref a :: turn2 ws))
  ec : EC K C
  no : fnd K C f = some none
  no2 : fnd K C g = some none
/-- .. without a field -/
structure Mk0 (K : PySem.W.Frag) (C : Addr) : Prop where
  ec : EC K C
  xc : PySem.W.excIn K C [.type "ValueError", .type "Exception", .type "BaseException", .type "object"] "ValueError.__new__" = true
theorem vals_turn2 (zs : List V) (ws : List Value) (r : Vals zs ws) : Vals (turn2 zs) (turn2 ws) := by
  cases r with
  | nil => exact .nil
  | cons r1 r2 =>
    cases r2 with
    | nil => exact .cons r1 .nil
    | cons r3 r4 =>
      cases r4 with
      | nil => exact .cons r3 (.cons r1 .nil)
      | cons r5 r6 => exact .cons r1 (.cons r3 (.cons r5 r6))
section
variable {X : Cx} {C : Addr} {f g : Str} {x : Str} {p pos pk pk2 : Pos} {e e2 : Expr} {ta tk : TA} {j : Nat}
theorem pe_mk1 (M : Mk1 X.prog X.w X.K X.mg X.base C f) (hr : RoomG j X.A) (h2 : 2 ≤ j) (hm : X.mg x = some (.ref C)) (hg : Gl X x) (ha : PA X [e] ta)
    (hdb : (x == ("__debug__" : Str)) = false := by decide) (he : starEach [e] X.env = (false, eval e X.env) :: starEach [] X.env := by rfl) (hpl : (backTo pos (starEach [] X.env)).any (·.1) = false := by rfl) :
    PE X (.Call (.Name x p) [e] [] pos) (tMk C (sp_in1 X.K f) ta) := by
  obtain ⟨fI, fd, T, F1, hb, _⟩ := M.ex
  exact pe_mk T F1 hb (hr.mono h2) hm hg ha hdb he hpl
theorem pe_mk2 (M : Mk2 X.prog X.w X.K X.mg X.base C f g) (hr : RoomG j X.A) (h2 : 2 ≤ j) (hm : X.mg x = some (.ref C)) (hg : Gl X x) (ha : PA X [e, e2] ta)
    (hdb : (x == ("__debug__" : Str)) = false := by decide) (he : starEach [e, e2] X.env = (false, eval e X.env) :: starEach [e2] X.env := by rfl) (hpl : (backTo pos (starEach [e2] X.env)).any (·.1) = false := by rfl) :
    PE X (.Call (.Name x p) [e, e2] [] pos) (tMk C (sp_in2 X.K f g) ta) := by
  obtain ⟨fI, fd, T, F1, hb, _⟩ := M.ex
  exact pe_mk T F1 hb (hr.mono h2) hm hg ha hdb he hpl
theorem pe_mk1K {kws : List Keyword} (M : Mk1 X.prog X.w X.K X.mg X.base C f) (hr : RoomG j X.A) (h2 : 2 ≤ j) (hm : X.mg x = some (.ref C)) (hg : Gl X x) (hkw : PK X kws tk)
    (hks : (backToKw pos (keywordEach kws X.env)).filterMap (·.1) = [f]) (hall : (backToKw pos (keywordEach kws X.env)).all (·.1.isSome) = true := by rfl) (hdb : (x == ("__debug__" : Str)) = false := by decide)
    (hpl : ((backTo pos (starEach [] X.env)).any (·.1) || (backToKw pos (keywordEach kws X.env)).any (·.1.isNone)) = false := by rfl) :
    PE X (.Call (.Name x p) [] kws pos) (tMkK C id (sp_in1 X.K f) tk) := by
  obtain ⟨fI, fd, T, F1, _, hb⟩ := M.ex
  exact pe_mkK (g := id) (gv := id) (ks := [f]) T F1 hb (fun _ _ r => r) (hr.mono h2) hm hg hkw hall hks hdb hpl
theorem pe_mk2K {kws : List Keyword} (M : Mk2 X.prog X.w X.K X.mg X.base C f g) (hr : RoomG j X.A) (h2 : 2 ≤ j) (hm : X.mg x = some (.ref C)) (hg : Gl X x) (hkw : PK X kws tk)
    (hks : (backToKw pos (keywordEach kws X.env)).filterMap (·.1) = [g, f]) (hall : (backToKw pos (keywordEach kws X.env)).all (·.1.isSome) = true := by rfl) (hdb : (x == ("__debug__" : Str)) = false := by decide)
    (hpl : ((backTo pos (starEach [] X.env)).any (·.1) || (backToKw pos (keywordEach kws X.env)).any (·.1.isNone)) = false := by rfl) :
    PE X (.Call (.Name x p) [] kws pos) (tMkK C turn2 (sp_in2 X.K f g) tk) := by
  obtain ⟨fI, fd, T, F1, _, hb⟩ := M.ex
  exact pe_mkK (g := turn2) (gv := turn2) (ks := [g, f]) T F1 hb vals_turn2 (hr.mono h2) hm hg hkw hall hks hdb hpl
theorem pe_mkN (M : Mk0 X.K C) (hm : X.mg x = some (.ref C)) (hg : Gl X x) (hdb : (x == ("__debug__" : Str)) = false := by decide) : PE X (.Call (.Name x p) [] [] pos) (tMk0 C) := pe_mk0 M.xc M.ec.oex.kC hm hg hdb
end
/-! readings of them -/
section
variable {P : Program} {w : World} {K : PySem.W.Frag} {mg : Str → Option Value} {base : Heap} {C : Addr} {f g : Str} {H : Hp} {Q : VK} {v u : V}
theorem ask0 (h : ∀ y H', Kp [] H H' → Ex H' y C [] → Q y H') (σ : St) : tMk0 C σ H Q := fun a na => h _ _ (Kp.new na) ⟨a, rfl, .inl ⟨upd_same, rfl⟩⟩
theorem ask1 (M : Mk1 P w K mg base C f) (h : ∀ y H', Kp [] H H' → Ex H' y C [(f, v)] → Q y H') : mkAsk C (sp_in1 K f) [v] H Q := by
  refine ⟨by show 1 ≤ 1000; decide, fun a na => ⟨a, v, C, rfl, upd_same, M.ec.oex, M.no, fun dx nx ne => ⟨rfl, h _ _ ?_ ⟨a, rfl, .inr ⟨dx, upd_same, ?_⟩⟩⟩⟩⟩
  · have nx' : H dx = none := by
      rw [upd_ne ne] at nx
      exact nx
    intro b o _ e
    rw [upd_ne (ne_of_none e na), upd_ne (ne_of_none e nx'), upd_ne (ne_of_none e na)]
    exact e
  · rw [upd_ne ne, upd_same]
theorem ask2 (M : Mk2 P w K mg base C f g) (h : ∀ y H', Kp [] H H' → Ex H' y C [(g, u), (f, v)] → Q y H') : mkAsk C (sp_in2 K f g) [v, u] H Q := by
  refine ⟨by show 2 ≤ 1000; decide, fun a na => ⟨a, v, u, C, rfl, upd_same, M.ec.oex, M.no, M.no2, fun dx H' _ ne nx same ea ed => ⟨rfl, h _ _ ?_ ⟨a, rfl, .inr ⟨dx, ea, ed⟩⟩⟩⟩⟩
  have nx' : H dx = none := by
    rw [upd_ne ne] at nx
    exact nx
  intro b o _ e
  rw [same b (ne_of_none e na) (ne_of_none e nx'), upd_ne (ne_of_none e na)]
  exact e
end
end L2.Rx

end
section
set_option Elab.async false
set_option linter.all false
set_option maxRecDepth 100000
set_option maxHeartbeats 4000000
local macro_rules | `(tactic| walk_at "rd1") => `(tactic| with_reducible first
  | refine L2.Rx.r_seq ?_ | refine L2.Rx.r_asg ?_ | refine L2.Rx.r_gname ?_ | refine L2.Rx.r_op ?_ | refine L2.Rx.r_c ?_
  | refine L2.Rx.r_var rfl ?_
  | refine L2.Rx.r_rI0 ?_ | refine L2.Rx.r_test ?_ | refine L2.Rx.r_bl ?_ | refine L2.Rx.r_if ?_ | refine L2.Rx.r_ret ?_
  | refine L2.Rx.r_cons ?_ | refine L2.Rx.r_nil ?_ | refine L2.Rx.r_call ?_ | refine L2.Rx.r_cb ?_ | refine L2.Rx.r_next ?_ | refine L2.Rx.r_drop ?_
  | refine L2.Rx.r_gsub ?_ | refine L2.Rx.r_tupF ?_ | refine L2.Rx.r_lst ?_ | refine L2.Rx.r_par ?_ | refine L2.Rx.r_par2 ?_
  | refine L2.Rx.r_un ?_ | refine L2.Rx.r_tb ?_ | refine L2.Rx.r_and ?_ | refine L2.Rx.r_or ?_ | refine L2.Rx.r_not ?_
  | refine L2.Rx.r_andV ?_ | refine L2.Rx.r_orV ?_ | refine L2.Rx.r_notV ?_ | refine L2.Rx.r_ifx ?_ | refine L2.Rx.r_chain ?_
  | refine L2.Rx.r_sl ?_ | refine L2.Rx.r_nopart ?_ | refine L2.Rx.r_part ?_ | refine L2.Rx.r_exint ?_ | refine L2.Rx.r_bm0 ?_ | refine L2.Rx.r_bm ?_
  | refine L2.Rx.r_lc ?_ | refine L2.Rx.r_rng1 ?_ | refine L2.Rx.r_yes ?_ | refine L2.Rx.r_tt ?_ | refine L2.Rx.r_ff ?_ | refine L2.Rx.r_m1 ?_ | refine L2.Rx.r_m0 ?_ | refine L2.Rx.r_isS ?_
  | (refine L2.Rx.r_wipe (by with_unfolding_all rfl) ?_) | (refine L2.Rx.r_tyL (by walk_at "hp") ?_)
  | refine L2.Rx.r_addS (by walk_at "len") ?_ | refine L2.Rx.r_lenS (by walk_at "len") ?_ | refine L2.Rx.r_slS (by walk_at "len") ?_
  | refine L2.Rx.r_dnotin ?_ | refine L2.Rx.r_dget ?_ | refine L2.Rx.r_dget1 ?_ | refine L2.Rx.r_dput ?_ | refine L2.Rx.r_dpop1 ?_ | refine L2.Rx.r_isN ?_
  | refine L2.Rx.r_for ?_ | refine L2.Rx.r_ilist ?_ | refine L2.Rx.r_itup ?_
  | refine L2.Rx.r_gcons ?_ | refine L2.Rx.r_gnil ?_ | (refine L2.Rx.r_gtupP (by assumption) (by walk_at "at") ?_)
  | (refine L2.Rx.r_rEq rfl ?_) | (refine L2.Rx.r_rNe rfl ?_)
  | refine L2.Rx.r_rU ?_ | refine L2.Rx.r_max2 ?_ | refine L2.Rx.r_min2 ?_ | refine L2.Rx.r_int1i ?_ | (refine L2.Rx.r_lenh (by walk_at "hp") ?_)
  | (refine L2.Rx.r_ixLh (by walk_at "hp") (by walk_at "at") ?_)
  | (refine L2.Rx.r_setL (by walk_at "hp") (by walk_at "at") ?_))
local macro_rules | `(tactic| walk_at "at") => `(tactic| with_unfolding_all rfl)
local macro_rules | `(tactic| walk_at "rd") => `(tactic| (repeat walk_at "rd1"))
local macro_rules | `(tactic| walk_at "hp") => `(tactic| first
  | assumption
  | exact L2.upd_same
  | (refine Eq.trans (L2.upd_ne ?_) ?_; (focus walk_at "ne"); (focus walk_at "hp"))
  | (refine L2.Rx.Kp.at0 (by assumption) ?_; walk_at "hp")
  | (refine L2.Rx.Kp.at1 (by assumption) ?_ ?_; (focus walk_at "ne"); (focus walk_at "hp")))
local macro_rules | `(tactic| walk_at "ne") => `(tactic| first
  | assumption | exact Ne.symm (by assumption)
  | (refine L2.ne_of_none (H := ?nH) (o := ?nO) ?nh ?nn; (case nn => assumption); (case nh => walk_at "hp"))
  | (refine Ne.symm (L2.ne_of_none (H := ?nH) (o := ?nO) ?nh ?nn); (case nn => assumption); (case nh => walk_at "hp")))
local macro_rules | `(tactic| walk_at "len") => `(tactic| (rw [PySem.sizeLine_eq]; omega))
local macro_rules | `(tactic| walk_at "nin") => `(tactic| first
  | exact List.not_mem_nil
  | (refine L2.Rx.nin1 ?_; walk_at "ne"))
local macro_rules | `(tactic| walk_at "none") => `(tactic| first
  | assumption
  | (refine L2.Rx.Kp.none0 (by assumption) ?_ ?_; (focus walk_at "nin"); (focus walk_at "none")))
namespace L2.Ro
open PySem PySem.Spec PyProof.Rows L2.Rx
def topS (i : Nat) : Stmt := PySem.Challenge.pw_readorder_k07_errors_and_their_fields.main.body.getD i (.Pass ⟨0, 0, 0, 0⟩)
abbrev s_box : Stmt := topS 21
theorem sc_box : FnScope ["_law_script", "_law_k", "_law_name", "_law_own"] ["_law_script", "_law_k"] (defScope s_box) := ⟨rfl, rfl, rfl, by decide +kernel, rfl, by decide +kernel, by decide +kernel⟩
abbrev s_take : Stmt := topS 22
theorem sc_take : FnScope ["_law_box_here", "_law_upon", "_law_digit", "_law_prime", "_law_drawn"] ["_law_box_here", "_law_upon"] (defScope s_take) := ⟨rfl, rfl, rfl, by decide +kernel, rfl, by decide +kernel, by decide +kernel⟩
abbrev s_of : Stmt := topS 23
theorem sc_of : FnScope ["_law_box_here", "_law_some"] ["_law_box_here", "_law_some"] (defScope s_of) := ⟨rfl, rfl, rfl, by decide +kernel, rfl, by decide +kernel, by decide +kernel⟩
abbrev s_made : Stmt := topS 24
theorem sc_made : FnScope ["_law_a", "_law_b", "_law_found"] ["_law_a", "_law_b"] (defScope s_made) := ⟨rfl, rfl, rfl, by decide +kernel, rfl, by decide +kernel, by decide +kernel⟩
abbrev s_made_by_name : Stmt := topS 25
theorem sc_made_by_name : FnScope ["_law_a", "_law_b", "_law_found"] ["_law_a", "_law_b"] (defScope s_made_by_name) := ⟨rfl, rfl, rfl, by decide +kernel, rfl, by decide +kernel, by decide +kernel⟩
abbrev s_kinds : Stmt := topS 26
theorem sc_kinds : FnScope ["_law_item", "_law_found"] ["_law_item"] (defScope s_kinds) := ⟨rfl, rfl, rfl, by decide +kernel, rfl, by decide +kernel, by decide +kernel⟩
abbrev s_fields : Stmt := topS 27
theorem sc_fields : FnScope ["_law_item"] ["_law_item"] (defScope s_fields) := ⟨rfl, rfl, rfl, by decide +kernel, rfl, by decide +kernel, by decide +kernel⟩
abbrev s_right : Stmt := topS 28
theorem sc_right : FnScope ["_law_box_here", "_law_some", "_law_a", "_law_b", "_law_counts", "_law_made_here", "_law_at", "_law_item", "_law_spot"] ["_law_box_here"] (defScope s_right) := ⟨rfl, rfl, rfl, by decide +kernel, rfl, by decide +kernel, by decide +kernel⟩
abbrev s_law : Stmt := topS 29
theorem sc_law : FnScope ["_law_script", "_law_nth", "_law_box_here", "_law_turn"] ["_law_script"] (defScope s_law) := ⟨rfl, rfl, rfl, by decide +kernel, rfl, by decide +kernel, by decide +kernel⟩
/-- the built-ins that the text calls are not the module's -/
structure Zb (mg : Str → Option Value) : Prop where
  n_LookupError : mg "LookupError" = none
  n_ValueError : mg "ValueError" = none
  n_abs : mg "abs" = none
  n_all : mg "all" = none
  n_enumerate : mg "enumerate" = none
  n_int : mg "int" = none
  n_isinstance : mg "isinstance" = none
  n_len : mg "len" = none
  n_max : mg "max" = none
  n_min : mg "min" = none
  n_range : mg "range" = none
  n_repr : mg "repr" = none
end L2.Ro

end
section
set_option Elab.async false
set_option linter.all false
set_option maxRecDepth 100000
set_option maxHeartbeats 4000000
local macro_rules | `(tactic| walk_at "rd1") => `(tactic| with_reducible first
  | refine L2.Rx.r_seq ?_ | refine L2.Rx.r_asg ?_ | refine L2.Rx.r_gname ?_ | refine L2.Rx.r_op ?_ | refine L2.Rx.r_c ?_
  | refine L2.Rx.r_var rfl ?_
  | refine L2.Rx.r_rI0 ?_ | refine L2.Rx.r_test ?_ | refine L2.Rx.r_bl ?_ | refine L2.Rx.r_if ?_ | refine L2.Rx.r_ret ?_
  | refine L2.Rx.r_cons ?_ | refine L2.Rx.r_nil ?_ | refine L2.Rx.r_call ?_ | refine L2.Rx.r_cb ?_ | refine L2.Rx.r_next ?_ | refine L2.Rx.r_drop ?_
  | refine L2.Rx.r_gsub ?_ | refine L2.Rx.r_tupF ?_ | refine L2.Rx.r_lst ?_ | refine L2.Rx.r_par ?_ | refine L2.Rx.r_par2 ?_
  | refine L2.Rx.r_un ?_ | refine L2.Rx.r_tb ?_ | refine L2.Rx.r_and ?_ | refine L2.Rx.r_or ?_ | refine L2.Rx.r_not ?_
  | refine L2.Rx.r_andV ?_ | refine L2.Rx.r_orV ?_ | refine L2.Rx.r_notV ?_ | refine L2.Rx.r_ifx ?_ | refine L2.Rx.r_chain ?_
  | refine L2.Rx.r_sl ?_ | refine L2.Rx.r_nopart ?_ | refine L2.Rx.r_part ?_ | refine L2.Rx.r_exint ?_ | refine L2.Rx.r_bm0 ?_ | refine L2.Rx.r_bm ?_
  | refine L2.Rx.r_lc ?_ | refine L2.Rx.r_rng1 ?_ | refine L2.Rx.r_yes ?_ | refine L2.Rx.r_tt ?_ | refine L2.Rx.r_ff ?_ | refine L2.Rx.r_m1 ?_ | refine L2.Rx.r_m0 ?_ | refine L2.Rx.r_isS ?_
  | (refine L2.Rx.r_wipe (by with_unfolding_all rfl) ?_) | (refine L2.Rx.r_tyL (by walk_at "hp") ?_)
  | refine L2.Rx.r_addS (by walk_at "len") ?_ | refine L2.Rx.r_lenS (by walk_at "len") ?_ | refine L2.Rx.r_slS (by walk_at "len") ?_
  | refine L2.Rx.r_dnotin ?_ | refine L2.Rx.r_dget ?_ | refine L2.Rx.r_dget1 ?_ | refine L2.Rx.r_dput ?_ | refine L2.Rx.r_dpop1 ?_ | refine L2.Rx.r_isN ?_
  | refine L2.Rx.r_for ?_ | refine L2.Rx.r_ilist ?_ | refine L2.Rx.r_itup ?_
  | refine L2.Rx.r_gcons ?_ | refine L2.Rx.r_gnil ?_ | (refine L2.Rx.r_gtupP (by assumption) (by walk_at "at") ?_)
  | (refine L2.Rx.r_rEq rfl ?_) | (refine L2.Rx.r_rNe rfl ?_)
  | refine L2.Rx.r_rU ?_ | refine L2.Rx.r_max2 ?_ | refine L2.Rx.r_min2 ?_ | refine L2.Rx.r_int1i ?_ | (refine L2.Rx.r_lenh (by walk_at "hp") ?_)
  | (refine L2.Rx.r_ixLh (by walk_at "hp") (by walk_at "at") ?_)
  | (refine L2.Rx.r_setL (by walk_at "hp") (by walk_at "at") ?_))
local macro_rules | `(tactic| walk_at "at") => `(tactic| with_unfolding_all rfl)
local macro_rules | `(tactic| walk_at "rd") => `(tactic| (repeat walk_at "rd1"))
local macro_rules | `(tactic| walk_at "hp") => `(tactic| first
  | assumption
  | exact L2.upd_same
  | (refine Eq.trans (L2.upd_ne ?_) ?_; (focus walk_at "ne"); (focus walk_at "hp"))
  | (refine L2.Rx.Kp.at0 (by assumption) ?_; walk_at "hp")
  | (refine L2.Rx.Kp.at1 (by assumption) ?_ ?_; (focus walk_at "ne"); (focus walk_at "hp")))
local macro_rules | `(tactic| walk_at "ne") => `(tactic| first
  | assumption | exact Ne.symm (by assumption)
  | (refine L2.ne_of_none (H := ?nH) (o := ?nO) ?nh ?nn; (case nn => assumption); (case nh => walk_at "hp"))
  | (refine Ne.symm (L2.ne_of_none (H := ?nH) (o := ?nO) ?nh ?nn); (case nn => assumption); (case nh => walk_at "hp")))
local macro_rules | `(tactic| walk_at "len") => `(tactic| (rw [PySem.sizeLine_eq]; omega))
local macro_rules | `(tactic| walk_at "nin") => `(tactic| first
  | exact List.not_mem_nil
  | (refine L2.Rx.nin1 ?_; walk_at "ne"))
local macro_rules | `(tactic| walk_at "none") => `(tactic| first
  | assumption
  | (refine L2.Rx.Kp.none0 (by assumption) ?_ ?_; (focus walk_at "nin"); (focus walk_at "none")))
namespace L2.Ro
open PySem PySem.Spec PyProof.Rows L2.Rx
def iniOf : Stmt → Stmt
  | .ClassDef _ _ _ (st :: _) _ _ _ _ _ _ _ => st
  | s => s
abbrev si_Stuck : Stmt := iniOf (topS 3)
theorem sci_Stuck : FnScope ["self", "group"] ["self", "group"] (defScope si_Stuck) := ⟨rfl, rfl, rfl, by decide +kernel, rfl, by decide +kernel, by decide +kernel⟩
theorem ki_Stuck {P : Program} {w : World} {K : PySem.W.Frag} {mg : Str → Option Value} {base : Heap} {f : Addr} {fd : FuncData} (F : Fun K "__init__" "Stuck.__init__" si_Stuck f fd) : FnG P w K mg base CX0 1 f fd ["self", "group"] (sp_in1 K "group") := by
  refine fnG_body F sci_Stuck (fun vs H Q E h => ?_) (fun cdv A outer s H vs Q E hr h => ?_)
  · obtain ⟨a, v, C, rfl, _⟩ := h
    rfl
  · obtain ⟨a, v, C, rfl, ea, T, hno, q⟩ := h
    refine ⟨_, PSs.nox (pss_one (ps_ost (pv 0) (pv 1))), ?_⟩
    exact r_var rfl (r_var rfl ⟨a, C, rfl, T, hno, .inl ⟨ea, fun dx n ne => q dx n ne⟩⟩)
abbrev si_NotALog : Stmt := iniOf (topS 4)
theorem sci_NotALog : FnScope ["self", "log"] ["self", "log"] (defScope si_NotALog) := ⟨rfl, rfl, rfl, by decide +kernel, rfl, by decide +kernel, by decide +kernel⟩
theorem ki_NotALog {P : Program} {w : World} {K : PySem.W.Frag} {mg : Str → Option Value} {base : Heap} {f : Addr} {fd : FuncData} (F : Fun K "__init__" "NotALog.__init__" si_NotALog f fd) : FnG P w K mg base CX0 1 f fd ["self", "log"] (sp_in1 K "log") := by
  refine fnG_body F sci_NotALog (fun vs H Q E h => ?_) (fun cdv A outer s H vs Q E hr h => ?_)
  · obtain ⟨a, v, C, rfl, _⟩ := h
    rfl
  · obtain ⟨a, v, C, rfl, ea, T, hno, q⟩ := h
    refine ⟨_, PSs.nox (pss_one (ps_ost (pv 0) (pv 1))), ?_⟩
    exact r_var rfl (r_var rfl ⟨a, C, rfl, T, hno, .inl ⟨ea, fun dx n ne => q dx n ne⟩⟩)
abbrev si_BadLog : Stmt := iniOf (topS 5)
theorem sci_BadLog : FnScope ["self", "log"] ["self", "log"] (defScope si_BadLog) := ⟨rfl, rfl, rfl, by decide +kernel, rfl, by decide +kernel, by decide +kernel⟩
theorem ki_BadLog {P : Program} {w : World} {K : PySem.W.Frag} {mg : Str → Option Value} {base : Heap} {f : Addr} {fd : FuncData} (F : Fun K "__init__" "BadLog.__init__" si_BadLog f fd) : FnG P w K mg base CX0 1 f fd ["self", "log"] (sp_in1 K "log") := by
  refine fnG_body F sci_BadLog (fun vs H Q E h => ?_) (fun cdv A outer s H vs Q E hr h => ?_)
  · obtain ⟨a, v, C, rfl, _⟩ := h
    rfl
  · obtain ⟨a, v, C, rfl, ea, T, hno, q⟩ := h
    refine ⟨_, PSs.nox (pss_one (ps_ost (pv 0) (pv 1))), ?_⟩
    exact r_var rfl (r_var rfl ⟨a, C, rfl, T, hno, .inl ⟨ea, fun dx n ne => q dx n ne⟩⟩)
abbrev si_BadLogs : Stmt := iniOf (topS 6)
theorem sci_BadLogs : FnScope ["self", "value"] ["self", "value"] (defScope si_BadLogs) := ⟨rfl, rfl, rfl, by decide +kernel, rfl, by decide +kernel, by decide +kernel⟩
theorem ki_BadLogs {P : Program} {w : World} {K : PySem.W.Frag} {mg : Str → Option Value} {base : Heap} {f : Addr} {fd : FuncData} (F : Fun K "__init__" "BadLogs.__init__" si_BadLogs f fd) : FnG P w K mg base CX0 1 f fd ["self", "value"] (sp_in1 K "value") := by
  refine fnG_body F sci_BadLogs (fun vs H Q E h => ?_) (fun cdv A outer s H vs Q E hr h => ?_)
  · obtain ⟨a, v, C, rfl, _⟩ := h
    rfl
  · obtain ⟨a, v, C, rfl, ea, T, hno, q⟩ := h
    refine ⟨_, PSs.nox (pss_one (ps_ost (pv 0) (pv 1))), ?_⟩
    exact r_var rfl (r_var rfl ⟨a, C, rfl, T, hno, .inl ⟨ea, fun dx n ne => q dx n ne⟩⟩)
abbrev si_BadOrder : Stmt := iniOf (topS 7)
theorem sci_BadOrder : FnScope ["self", "order"] ["self", "order"] (defScope si_BadOrder) := ⟨rfl, rfl, rfl, by decide +kernel, rfl, by decide +kernel, by decide +kernel⟩
theorem ki_BadOrder {P : Program} {w : World} {K : PySem.W.Frag} {mg : Str → Option Value} {base : Heap} {f : Addr} {fd : FuncData} (F : Fun K "__init__" "BadOrder.__init__" si_BadOrder f fd) : FnG P w K mg base CX0 1 f fd ["self", "order"] (sp_in1 K "order") := by
  refine fnG_body F sci_BadOrder (fun vs H Q E h => ?_) (fun cdv A outer s H vs Q E hr h => ?_)
  · obtain ⟨a, v, C, rfl, _⟩ := h
    rfl
  · obtain ⟨a, v, C, rfl, ea, T, hno, q⟩ := h
    refine ⟨_, PSs.nox (pss_one (ps_ost (pv 0) (pv 1))), ?_⟩
    exact r_var rfl (r_var rfl ⟨a, C, rfl, T, hno, .inl ⟨ea, fun dx n ne => q dx n ne⟩⟩)
abbrev si_BadCell : Stmt := iniOf (topS 8)
theorem sci_BadCell : FnScope ["self", "cell"] ["self", "cell"] (defScope si_BadCell) := ⟨rfl, rfl, rfl, by decide +kernel, rfl, by decide +kernel, by decide +kernel⟩
theorem ki_BadCell {P : Program} {w : World} {K : PySem.W.Frag} {mg : Str → Option Value} {base : Heap} {f : Addr} {fd : FuncData} (F : Fun K "__init__" "BadCell.__init__" si_BadCell f fd) : FnG P w K mg base CX0 1 f fd ["self", "cell"] (sp_in1 K "cell") := by
  refine fnG_body F sci_BadCell (fun vs H Q E h => ?_) (fun cdv A outer s H vs Q E hr h => ?_)
  · obtain ⟨a, v, C, rfl, _⟩ := h
    rfl
  · obtain ⟨a, v, C, rfl, ea, T, hno, q⟩ := h
    refine ⟨_, PSs.nox (pss_one (ps_ost (pv 0) (pv 1))), ?_⟩
    exact r_var rfl (r_var rfl ⟨a, C, rfl, T, hno, .inl ⟨ea, fun dx n ne => q dx n ne⟩⟩)
abbrev si_OrdersClash : Stmt := iniOf (topS 9)
theorem sci_OrdersClash : FnScope ["self", "one", "other"] ["self", "one", "other"] (defScope si_OrdersClash) := ⟨rfl, rfl, rfl, by decide +kernel, rfl, by decide +kernel, by decide +kernel⟩
theorem ki_OrdersClash {P : Program} {w : World} {K : PySem.W.Frag} {mg : Str → Option Value} {base : Heap} {f : Addr} {fd : FuncData} (F : Fun K "__init__" "OrdersClash.__init__" si_OrdersClash f fd) : FnG P w K mg base CX0 1 f fd ["self", "one", "other"] (sp_in2 K "one" "other") := by
  refine fnG_body F sci_OrdersClash (fun vs H Q E h => ?_) (fun cdv A outer s H vs Q E hr h => ?_)
  · obtain ⟨a, v, w, C, rfl, _⟩ := h
    rfl
  · obtain ⟨a, v, w, C, rfl, ea, T, hno, hno2, q⟩ := h
    refine ⟨_, PSs.nox (pss_cons (ps_ost (pv 0) (pv 1)) (pss_one (ps_ost (pv 0) (pv 2)))), ?_⟩
    refine r_seq ?_
    refine r_var rfl ?_
    refine r_var rfl ?_
    refine ⟨a, C, rfl, T, hno, .inl ⟨ea, fun dx n ne => ?_⟩⟩
    show tOst K _ (tVar 0) (tVar 2) _ _ _
    refine r_var rfl ?_
    refine r_var rfl ?_
    refine ⟨a, C, rfl, T, hno2, .inr ⟨dx, _, upd_same, by rw [upd_ne ne, upd_same], by show 1 ≤ 900; decide, ?_⟩⟩
    refine q dx _ ?_ ne n (fun b h1 h2 => by rw [upd_ne h2, upd_ne h1, upd_ne h2]) (by rw [upd_ne (Ne.symm ne), upd_same]) upd_same
    intro b o _ e
    by_cases hb : b = a
    · rw [hb, upd_same, ← ea, ← hb]
      exact e
    · rw [upd_ne hb]
      exact e
abbrev si_BadSnapshot : Stmt := iniOf (topS 10)
theorem sci_BadSnapshot : FnScope ["self", "snapshot"] ["self", "snapshot"] (defScope si_BadSnapshot) := ⟨rfl, rfl, rfl, by decide +kernel, rfl, by decide +kernel, by decide +kernel⟩
theorem ki_BadSnapshot {P : Program} {w : World} {K : PySem.W.Frag} {mg : Str → Option Value} {base : Heap} {f : Addr} {fd : FuncData} (F : Fun K "__init__" "BadSnapshot.__init__" si_BadSnapshot f fd) : FnG P w K mg base CX0 1 f fd ["self", "snapshot"] (sp_in1 K "snapshot") := by
  refine fnG_body F sci_BadSnapshot (fun vs H Q E h => ?_) (fun cdv A outer s H vs Q E hr h => ?_)
  · obtain ⟨a, v, C, rfl, _⟩ := h
    rfl
  · obtain ⟨a, v, C, rfl, ea, T, hno, q⟩ := h
    refine ⟨_, PSs.nox (pss_one (ps_ost (pv 0) (pv 1))), ?_⟩
    exact r_var rfl (r_var rfl ⟨a, C, rfl, T, hno, .inl ⟨ea, fun dx n ne => q dx n ne⟩⟩)
abbrev si_BadSwap : Stmt := iniOf (topS 11)
theorem sci_BadSwap : FnScope ["self", "place"] ["self", "place"] (defScope si_BadSwap) := ⟨rfl, rfl, rfl, by decide +kernel, rfl, by decide +kernel, by decide +kernel⟩
theorem ki_BadSwap {P : Program} {w : World} {K : PySem.W.Frag} {mg : Str → Option Value} {base : Heap} {f : Addr} {fd : FuncData} (F : Fun K "__init__" "BadSwap.__init__" si_BadSwap f fd) : FnG P w K mg base CX0 1 f fd ["self", "place"] (sp_in1 K "place") := by
  refine fnG_body F sci_BadSwap (fun vs H Q E h => ?_) (fun cdv A outer s H vs Q E hr h => ?_)
  · obtain ⟨a, v, C, rfl, _⟩ := h
    rfl
  · obtain ⟨a, v, C, rfl, ea, T, hno, q⟩ := h
    refine ⟨_, PSs.nox (pss_one (ps_ost (pv 0) (pv 1))), ?_⟩
    exact r_var rfl (r_var rfl ⟨a, C, rfl, T, hno, .inl ⟨ea, fun dx n ne => q dx n ne⟩⟩)
abbrev si_TooLarge : Stmt := iniOf (topS 13)
theorem sci_TooLarge : FnScope ["self", "limit"] ["self", "limit"] (defScope si_TooLarge) := ⟨rfl, rfl, rfl, by decide +kernel, rfl, by decide +kernel, by decide +kernel⟩
theorem ki_TooLarge {P : Program} {w : World} {K : PySem.W.Frag} {mg : Str → Option Value} {base : Heap} {f : Addr} {fd : FuncData} (F : Fun K "__init__" "TooLarge.__init__" si_TooLarge f fd) : FnG P w K mg base CX0 1 f fd ["self", "limit"] (sp_in1 K "limit") := by
  refine fnG_body F sci_TooLarge (fun vs H Q E h => ?_) (fun cdv A outer s H vs Q E hr h => ?_)
  · obtain ⟨a, v, C, rfl, _⟩ := h
    rfl
  · obtain ⟨a, v, C, rfl, ea, T, hno, q⟩ := h
    refine ⟨_, PSs.nox (pss_one (ps_ost (pv 0) (pv 1))), ?_⟩
    exact r_var rfl (r_var rfl ⟨a, C, rfl, T, hno, .inl ⟨ea, fun dx n ne => q dx n ne⟩⟩)
abbrev si_BadSizes : Stmt := iniOf (topS 14)
theorem sci_BadSizes : FnScope ["self", "sizes"] ["self", "sizes"] (defScope si_BadSizes) := ⟨rfl, rfl, rfl, by decide +kernel, rfl, by decide +kernel, by decide +kernel⟩
theorem ki_BadSizes {P : Program} {w : World} {K : PySem.W.Frag} {mg : Str → Option Value} {base : Heap} {f : Addr} {fd : FuncData} (F : Fun K "__init__" "BadSizes.__init__" si_BadSizes f fd) : FnG P w K mg base CX0 1 f fd ["self", "sizes"] (sp_in1 K "sizes") := by
  refine fnG_body F sci_BadSizes (fun vs H Q E h => ?_) (fun cdv A outer s H vs Q E hr h => ?_)
  · obtain ⟨a, v, C, rfl, _⟩ := h
    rfl
  · obtain ⟨a, v, C, rfl, ea, T, hno, q⟩ := h
    refine ⟨_, PSs.nox (pss_one (ps_ost (pv 0) (pv 1))), ?_⟩
    exact r_var rfl (r_var rfl ⟨a, C, rfl, T, hno, .inl ⟨ea, fun dx n ne => q dx n ne⟩⟩)
abbrev si_BadResults : Stmt := iniOf (topS 15)
theorem sci_BadResults : FnScope ["self", "results"] ["self", "results"] (defScope si_BadResults) := ⟨rfl, rfl, rfl, by decide +kernel, rfl, by decide +kernel, by decide +kernel⟩
theorem ki_BadResults {P : Program} {w : World} {K : PySem.W.Frag} {mg : Str → Option Value} {base : Heap} {f : Addr} {fd : FuncData} (F : Fun K "__init__" "BadResults.__init__" si_BadResults f fd) : FnG P w K mg base CX0 1 f fd ["self", "results"] (sp_in1 K "results") := by
  refine fnG_body F sci_BadResults (fun vs H Q E h => ?_) (fun cdv A outer s H vs Q E hr h => ?_)
  · obtain ⟨a, v, C, rfl, _⟩ := h
    rfl
  · obtain ⟨a, v, C, rfl, ea, T, hno, q⟩ := h
    refine ⟨_, PSs.nox (pss_one (ps_ost (pv 0) (pv 1))), ?_⟩
    exact r_var rfl (r_var rfl ⟨a, C, rfl, T, hno, .inl ⟨ea, fun dx n ne => q dx n ne⟩⟩)
abbrev si_BadText : Stmt := iniOf (topS 18)
theorem sci_BadText : FnScope ["self", "line"] ["self", "line"] (defScope si_BadText) := ⟨rfl, rfl, rfl, by decide +kernel, rfl, by decide +kernel, by decide +kernel⟩
theorem ki_BadText {P : Program} {w : World} {K : PySem.W.Frag} {mg : Str → Option Value} {base : Heap} {f : Addr} {fd : FuncData} (F : Fun K "__init__" "BadText.__init__" si_BadText f fd) : FnG P w K mg base CX0 1 f fd ["self", "line"] (sp_in1 K "line") := by
  refine fnG_body F sci_BadText (fun vs H Q E h => ?_) (fun cdv A outer s H vs Q E hr h => ?_)
  · obtain ⟨a, v, C, rfl, _⟩ := h
    rfl
  · obtain ⟨a, v, C, rfl, ea, T, hno, q⟩ := h
    refine ⟨_, PSs.nox (pss_one (ps_ost (pv 0) (pv 1))), ?_⟩
    exact r_var rfl (r_var rfl ⟨a, C, rfl, T, hno, .inl ⟨ea, fun dx n ne => q dx n ne⟩⟩)
abbrev si_BadCommand : Stmt := iniOf (topS 19)
theorem sci_BadCommand : FnScope ["self", "line"] ["self", "line"] (defScope si_BadCommand) := ⟨rfl, rfl, rfl, by decide +kernel, rfl, by decide +kernel, by decide +kernel⟩
theorem ki_BadCommand {P : Program} {w : World} {K : PySem.W.Frag} {mg : Str → Option Value} {base : Heap} {f : Addr} {fd : FuncData} (F : Fun K "__init__" "BadCommand.__init__" si_BadCommand f fd) : FnG P w K mg base CX0 1 f fd ["self", "line"] (sp_in1 K "line") := by
  refine fnG_body F sci_BadCommand (fun vs H Q E h => ?_) (fun cdv A outer s H vs Q E hr h => ?_)
  · obtain ⟨a, v, C, rfl, _⟩ := h
    rfl
  · obtain ⟨a, v, C, rfl, ea, T, hno, q⟩ := h
    refine ⟨_, PSs.nox (pss_one (ps_ost (pv 0) (pv 1))), ?_⟩
    exact r_var rfl (r_var rfl ⟨a, C, rfl, T, hno, .inl ⟨ea, fun dx n ne => q dx n ne⟩⟩)
end L2.Ro

end
section
set_option Elab.async false
set_option linter.all false
set_option maxRecDepth 100000
set_option maxHeartbeats 4000000
local macro_rules | `(tactic| walk_at "rd1") => `(tactic| with_reducible first
  | refine L2.Rx.r_seq ?_ | refine L2.Rx.r_asg ?_ | refine L2.Rx.r_gname ?_ | refine L2.Rx.r_op ?_ | refine L2.Rx.r_c ?_
  | refine L2.Rx.r_var rfl ?_
  | refine L2.Rx.r_rI0 ?_ | refine L2.Rx.r_test ?_ | refine L2.Rx.r_bl ?_ | refine L2.Rx.r_if ?_ | refine L2.Rx.r_ret ?_
  | refine L2.Rx.r_cons ?_ | refine L2.Rx.r_nil ?_ | refine L2.Rx.r_call ?_ | refine L2.Rx.r_cb ?_ | refine L2.Rx.r_next ?_ | refine L2.Rx.r_drop ?_
  | refine L2.Rx.r_gsub ?_ | refine L2.Rx.r_tupF ?_ | refine L2.Rx.r_lst ?_ | refine L2.Rx.r_par ?_ | refine L2.Rx.r_par2 ?_
  | refine L2.Rx.r_un ?_ | refine L2.Rx.r_tb ?_ | refine L2.Rx.r_and ?_ | refine L2.Rx.r_or ?_ | refine L2.Rx.r_not ?_
  | refine L2.Rx.r_andV ?_ | refine L2.Rx.r_orV ?_ | refine L2.Rx.r_notV ?_ | refine L2.Rx.r_ifx ?_ | refine L2.Rx.r_chain ?_
  | refine L2.Rx.r_sl ?_ | refine L2.Rx.r_nopart ?_ | refine L2.Rx.r_part ?_ | refine L2.Rx.r_exint ?_ | refine L2.Rx.r_bm0 ?_ | refine L2.Rx.r_bm ?_
  | refine L2.Rx.r_lc ?_ | refine L2.Rx.r_rng1 ?_ | refine L2.Rx.r_yes ?_ | refine L2.Rx.r_tt ?_ | refine L2.Rx.r_ff ?_ | refine L2.Rx.r_m1 ?_ | refine L2.Rx.r_m0 ?_ | refine L2.Rx.r_isS ?_
  | (refine L2.Rx.r_wipe (by with_unfolding_all rfl) ?_) | (refine L2.Rx.r_tyL (by walk_at "hp") ?_)
  | refine L2.Rx.r_addS (by walk_at "len") ?_ | refine L2.Rx.r_lenS (by walk_at "len") ?_ | refine L2.Rx.r_slS (by walk_at "len") ?_
  | refine L2.Rx.r_dnotin ?_ | refine L2.Rx.r_dget ?_ | refine L2.Rx.r_dget1 ?_ | refine L2.Rx.r_dput ?_ | refine L2.Rx.r_dpop1 ?_ | refine L2.Rx.r_isN ?_
  | refine L2.Rx.r_for ?_ | refine L2.Rx.r_ilist ?_ | refine L2.Rx.r_itup ?_
  | refine L2.Rx.r_gcons ?_ | refine L2.Rx.r_gnil ?_ | (refine L2.Rx.r_gtupP (by assumption) (by walk_at "at") ?_)
  | (refine L2.Rx.r_rEq rfl ?_) | (refine L2.Rx.r_rNe rfl ?_)
  | refine L2.Rx.r_rU ?_ | refine L2.Rx.r_max2 ?_ | refine L2.Rx.r_min2 ?_ | refine L2.Rx.r_int1i ?_ | (refine L2.Rx.r_lenh (by walk_at "hp") ?_)
  | (refine L2.Rx.r_ixLh (by walk_at "hp") (by walk_at "at") ?_)
  | (refine L2.Rx.r_setL (by walk_at "hp") (by walk_at "at") ?_))
local macro_rules | `(tactic| walk_at "at") => `(tactic| with_unfolding_all rfl)
local macro_rules | `(tactic| walk_at "rd") => `(tactic| (repeat walk_at "rd1"))
local macro_rules | `(tactic| walk_at "hp") => `(tactic| first
  | assumption
  | exact L2.upd_same
  | (refine Eq.trans (L2.upd_ne ?_) ?_; (focus walk_at "ne"); (focus walk_at "hp"))
  | (refine L2.Rx.Kp.at0 (by assumption) ?_; walk_at "hp")
  | (refine L2.Rx.Kp.at1 (by assumption) ?_ ?_; (focus walk_at "ne"); (focus walk_at "hp")))
local macro_rules | `(tactic| walk_at "ne") => `(tactic| first
  | assumption | exact Ne.symm (by assumption)
  | (refine L2.ne_of_none (H := ?nH) (o := ?nO) ?nh ?nn; (case nn => assumption); (case nh => walk_at "hp"))
  | (refine Ne.symm (L2.ne_of_none (H := ?nH) (o := ?nO) ?nh ?nn); (case nn => assumption); (case nh => walk_at "hp")))
local macro_rules | `(tactic| walk_at "len") => `(tactic| (rw [PySem.sizeLine_eq]; omega))
local macro_rules | `(tactic| walk_at "nin") => `(tactic| first
  | exact List.not_mem_nil
  | (refine L2.Rx.nin1 ?_; walk_at "ne"))
local macro_rules | `(tactic| walk_at "none") => `(tactic| first
  | assumption
  | (refine L2.Rx.Kp.none0 (by assumption) ?_ ?_; (focus walk_at "nin"); (focus walk_at "none")))
namespace L2.Ro
open PySem PySem.Spec PyProof.Rows L2.Rx
/-- what is known of the errors' classes -/
structure Er (P : Program) (w : World) (K : PySem.W.Frag) (mg : Str → Option Value) (base : Heap) (C : Nat → Addr) : Prop where
  cs : ClsSlot K
  g0 : mg "ReadError" = some (.ref (C 0))
  g1 : mg "NoLogs" = some (.ref (C 1))
  m1 : Mk0 K (C 1)
  g2 : mg "Stuck" = some (.ref (C 2))
  m2 : Mk1 P w K mg base (C 2) "group"
  g3 : mg "NotALog" = some (.ref (C 3))
  m3 : Mk1 P w K mg base (C 3) "log"
  g4 : mg "BadLog" = some (.ref (C 4))
  m4 : Mk1 P w K mg base (C 4) "log"
  g5 : mg "BadLogs" = some (.ref (C 5))
  m5 : Mk1 P w K mg base (C 5) "value"
  g6 : mg "BadOrder" = some (.ref (C 6))
  m6 : Mk1 P w K mg base (C 6) "order"
  g7 : mg "BadCell" = some (.ref (C 7))
  m7 : Mk1 P w K mg base (C 7) "cell"
  g8 : mg "OrdersClash" = some (.ref (C 8))
  m8 : Mk2 P w K mg base (C 8) "one" "other"
  g9 : mg "BadSnapshot" = some (.ref (C 9))
  m9 : Mk1 P w K mg base (C 9) "snapshot"
  g10 : mg "BadSwap" = some (.ref (C 10))
  m10 : Mk1 P w K mg base (C 10) "place"
  g11 : mg "DifferentLogs" = some (.ref (C 11))
  m11 : Mk0 K (C 11)
  g12 : mg "TooLarge" = some (.ref (C 12))
  m12 : Mk1 P w K mg base (C 12) "limit"
  g13 : mg "BadSizes" = some (.ref (C 13))
  m13 : Mk1 P w K mg base (C 13) "sizes"
  g14 : mg "BadResults" = some (.ref (C 14))
  m14 : Mk1 P w K mg base (C 14) "results"
  g15 : mg "Full" = some (.ref (C 15))
  m15 : Mk0 K (C 15)
  g16 : mg "NothingToUndo" = some (.ref (C 16))
  m16 : Mk0 K (C 16)
  g17 : mg "BadText" = some (.ref (C 17))
  m17 : Mk1 P w K mg base (C 17) "line"
  g18 : mg "BadCommand" = some (.ref (C 18))
  m18 : Mk1 P w K mg base (C 18) "line"
  kit : ∀ i j, i < 18 → j < 18 → PySem.W.kitOne K (.ref (C (i + 1))) (.ref (C (j + 1))) = some (decide (i = j))
  kr : ∀ i, i < 18 → PySem.W.kitOne K (.ref (C (i + 1))) (.ref (C 0)) = some true
  kv : ∀ i, i < 18 → PySem.W.kitOne K (.ref (C (i + 1))) (.type "ValueError") = some true
  kl : ∀ i, i < 18 → PySem.W.kitOne K (.ref (C (i + 1))) (.type "LookupError") = some false
/-- the fields of the error at place i, made with a and b -/
def fsOf (a b : V) : Nat → List (Str × V)
  | 1 => [("group", a)]
  | 2 => [("log", a)]
  | 3 => [("log", a)]
  | 4 => [("value", a)]
  | 5 => [("order", a)]
  | 6 => [("cell", a)]
  | 7 => [("other", b), ("one", a)]
  | 8 => [("snapshot", a)]
  | 9 => [("place", a)]
  | 11 => [("limit", a)]
  | 12 => [("sizes", a)]
  | 13 => [("results", a)]
  | 16 => [("line", a)]
  | 17 => [("line", a)]
  | _ => []
/-- .. in their order -/
def fvOf {α : Type} (a b : α) : Nat → List α
  | 0 => []
  | 1 => [a]
  | 2 => [a]
  | 3 => [a]
  | 4 => [a]
  | 5 => [a]
  | 6 => [a]
  | 7 => [a, b]
  | 8 => [a]
  | 9 => [a]
  | 10 => []
  | 11 => [a]
  | 12 => [a]
  | 13 => [a]
  | 14 => []
  | 15 => []
  | 16 => [a]
  | 17 => [a]
  | _ => []
def cnt18 : List Int := [0, 1, 1, 1, 1, 1, 1, 2, 1, 1, 0, 1, 1, 1, 0, 0, 1, 1]
theorem cnt_at {a b : V} : ∀ i : Nat, i < 18 → ∃ n : Int, atI (cnt18.map V.int) (i : Int) = some (.int n) ∧ cutV [a, b] none (some n) = fvOf a b i
  | 0, _ => ⟨0, by with_unfolding_all rfl, by with_unfolding_all rfl⟩
  | 1, _ => ⟨1, by with_unfolding_all rfl, by with_unfolding_all rfl⟩
  | 2, _ => ⟨1, by with_unfolding_all rfl, by with_unfolding_all rfl⟩
  | 3, _ => ⟨1, by with_unfolding_all rfl, by with_unfolding_all rfl⟩
  | 4, _ => ⟨1, by with_unfolding_all rfl, by with_unfolding_all rfl⟩
  | 5, _ => ⟨1, by with_unfolding_all rfl, by with_unfolding_all rfl⟩
  | 6, _ => ⟨1, by with_unfolding_all rfl, by with_unfolding_all rfl⟩
  | 7, _ => ⟨2, by with_unfolding_all rfl, by with_unfolding_all rfl⟩
  | 8, _ => ⟨1, by with_unfolding_all rfl, by with_unfolding_all rfl⟩
  | 9, _ => ⟨1, by with_unfolding_all rfl, by with_unfolding_all rfl⟩
  | 10, _ => ⟨0, by with_unfolding_all rfl, by with_unfolding_all rfl⟩
  | 11, _ => ⟨1, by with_unfolding_all rfl, by with_unfolding_all rfl⟩
  | 12, _ => ⟨1, by with_unfolding_all rfl, by with_unfolding_all rfl⟩
  | 13, _ => ⟨1, by with_unfolding_all rfl, by with_unfolding_all rfl⟩
  | 14, _ => ⟨0, by with_unfolding_all rfl, by with_unfolding_all rfl⟩
  | 15, _ => ⟨0, by with_unfolding_all rfl, by with_unfolding_all rfl⟩
  | 16, _ => ⟨1, by with_unfolding_all rfl, by with_unfolding_all rfl⟩
  | 17, _ => ⟨1, by with_unfolding_all rfl, by with_unfolding_all rfl⟩
  | n + 18, h => absurd h (by omega)
theorem Er.ec {P : Program} {w : World} {K : PySem.W.Frag} {mg : Str → Option Value} {base : Heap} {C : Nat → Addr} (er : Er P w K mg base C) : ∀ i, i < 18 → EC K (C (i + 1))
  | 0, _ => er.m1.ec
  | 1, _ => er.m2.ec
  | 2, _ => er.m3.ec
  | 3, _ => er.m4.ec
  | 4, _ => er.m5.ec
  | 5, _ => er.m6.ec
  | 6, _ => er.m7.ec
  | 7, _ => er.m8.ec
  | 8, _ => er.m9.ec
  | 9, _ => er.m10.ec
  | 10, _ => er.m11.ec
  | 11, _ => er.m12.ec
  | 12, _ => er.m13.ec
  | 13, _ => er.m14.ec
  | 14, _ => er.m15.ec
  | 15, _ => er.m16.ec
  | 16, _ => er.m17.ec
  | 17, _ => er.m18.ec
  | n + 18, h => absurd h (by omega)
theorem rp_fv {K : PySem.W.Frag} {H : Hp} {a b : V} {d e : PyData} (h : Rp K H a d) (g : Rp K H b e) : ∀ j, RpAll K H (fvOf a b j) (fvOf d e j)
  | 0 => rp_nil
  | 1 => rp_cons h rp_nil
  | 2 => rp_cons h rp_nil
  | 3 => rp_cons h rp_nil
  | 4 => rp_cons h rp_nil
  | 5 => rp_cons h rp_nil
  | 6 => rp_cons h rp_nil
  | 7 => rp_cons h (rp_cons g rp_nil)
  | 8 => rp_cons h rp_nil
  | 9 => rp_cons h rp_nil
  | 10 => rp_nil
  | 11 => rp_cons h rp_nil
  | 12 => rp_cons h rp_nil
  | 13 => rp_cons h rp_nil
  | 14 => rp_nil
  | 15 => rp_nil
  | 16 => rp_cons h rp_nil
  | 17 => rp_cons h rp_nil
  | n + 18 => rp_nil
theorem fv3 {α : Type} {a b : α} : ∀ j, fvOf a b j = [] ∨ fvOf a b j = [a] ∨ fvOf a b j = [a, b]
  | 0 => .inl rfl
  | 1 => .inr (.inl rfl)
  | 2 => .inr (.inl rfl)
  | 3 => .inr (.inl rfl)
  | 4 => .inr (.inl rfl)
  | 5 => .inr (.inl rfl)
  | 6 => .inr (.inl rfl)
  | 7 => .inr (.inr rfl)
  | 8 => .inr (.inl rfl)
  | 9 => .inr (.inl rfl)
  | 10 => .inl rfl
  | 11 => .inr (.inl rfl)
  | 12 => .inr (.inl rfl)
  | 13 => .inr (.inl rfl)
  | 14 => .inl rfl
  | 15 => .inl rfl
  | 16 => .inr (.inl rfl)
  | 17 => .inr (.inl rfl)
  | n + 18 => .inl rfl
def all18 (C : Nat → Addr) (a b : V) : List (Addr × List (Str × V)) := [(C 1, fsOf a b 0), (C 2, fsOf a b 1), (C 3, fsOf a b 2), (C 4, fsOf a b 3), (C 5, fsOf a b 4), (C 6, fsOf a b 5), (C 7, fsOf a b 6), (C 8, fsOf a b 7), (C 9, fsOf a b 8), (C 10, fsOf a b 9), (C 11, fsOf a b 10), (C 12, fsOf a b 11), (C 13, fsOf a b 12), (C 14, fsOf a b 13), (C 15, fsOf a b 14), (C 16, fsOf a b 15), (C 17, fsOf a b 16), (C 18, fsOf a b 17)]
theorem all_at {C : Nat → Addr} {a b : V} : ∀ i, i < 18 → (all18 C a b)[i]? = some (C (i + 1), fsOf a b i)
  | 0, _ => rfl
  | 1, _ => rfl
  | 2, _ => rfl
  | 3, _ => rfl
  | 4, _ => rfl
  | 5, _ => rfl
  | 6, _ => rfl
  | 7, _ => rfl
  | 8, _ => rfl
  | 9, _ => rfl
  | 10, _ => rfl
  | 11, _ => rfl
  | 12, _ => rfl
  | 13, _ => rfl
  | 14, _ => rfl
  | 15, _ => rfl
  | 16, _ => rfl
  | 17, _ => rfl
  | n + 18, h => absurd h (by omega)
def ExAll (H : Hp) (ys : List V) (cs : List (Addr × List (Str × V))) : Prop := Paired (fun (y : V) (c : Addr × List (Str × V)) => Ex H y c.1 c.2) ys cs
theorem ExAll.keep0 {H H' : Hp} {ys : List V} {cs : List (Addr × List (Str × V))} (h : ExAll H ys cs) (k : Kp [] H H') : ExAll H' ys cs := Paired.mapP h fun _ _ e => e.keep0 k
theorem ExAll.keep {S : List Addr} {H H' : Hp} {ys : List V} {cs : List (Addr × List (Str × V))} (h : ExAll H ys cs) (k : Kp S H H') (n : ∀ a ∈ S, ∃ xs, H a = some (.lst xs)) : ExAll H' ys cs := Paired.mapP h fun _ _ e => e.keep k n
theorem ExAll.append {H : Hp} : ∀ {ys zs : List V} {cs ds : List (Addr × List (Str × V))}, ExAll H ys cs → ExAll H zs ds → ExAll H (ys ++ zs) (cs ++ ds)
  | _, _, _, _, .nil, g => g
  | _, _, _, _, .cons h t, g => .cons h (ExAll.append t g)
theorem ExAll.len {H : Hp} : ∀ {ys : List V} {cs : List (Addr × List (Str × V))}, ExAll H ys cs → ys.length = cs.length
  | _, _, .nil => rfl
  | _, _, .cons _ t => congrArg (· + 1) (ExAll.len t)
theorem ExAll.at {H : Hp} : ∀ {ys : List V} {cs : List (Addr × List (Str × V))} {i : Nat} {y : V}, ExAll H ys cs → ys[i]? = some y → ∃ c, cs[i]? = some c ∧ Ex H y c.1 c.2
  | _, _, 0, _, .cons h _, e => ⟨_, rfl, by cases e; exact h⟩
  | _, _, i + 1, _, .cons _ t, e => ExAll.at (i := i) t (by simpa using e)
  | _, _, _, _, .nil, e => by cases e
/-- makes an error, wherever one stands -/
def MkE (te : TE) (σ : St) (C : Addr) (fs : List (Str × V)) : Prop := ∀ (H : Hp) (Q : VK), (∀ y H', Kp [] H H' → Ex H' y C fs → Q y H') → te σ H Q
def MkA (ta : TA) (σ : St) (cs : List (Addr × List (Str × V))) : Prop := ∀ (H : Hp) (Q : List V → Hp → Prop), (∀ ys H', Kp [] H H' → ExAll H' ys cs → Q ys H') → ta σ H Q
theorem mka_nil {σ : St} : MkA tNil σ [] := fun H Q h => h [] H Kp.refl .nil
theorem mka_cons {te : TE} {ta : TA} {σ : St} {C : Addr} {fs : List (Str × V)} {cs : List (Addr × List (Str × V))} (h : MkE te σ C fs) (g : MkA ta σ cs) : MkA (tCons te ta) σ ((C, fs) :: cs) :=
  fun H Q q => h H _ fun y H1 k1 e1 => g H1 _ fun ys H2 k2 e2 => q (y :: ys) H2 (k1.trans k2) (.cons (e1.keep0 k2) e2)
section
variable {P : Program} {w : World} {K : PySem.W.Frag} {mg : Str → Option Value} {base : Heap} {C : Addr} {f g : Str} {σ : St} {v u : V} {i j : Nat}
theorem mke0 : MkE (tMk0 C) σ C [] := fun H Q h => ask0 h σ
theorem mke1 (M : Mk1 P w K mg base C f) (e : σ[i]? = some (some v)) : MkE (tMk C (sp_in1 K f) (tCons (tVar i) tNil)) σ C [(f, v)] := fun H Q h => r_cons (r_var e (r_nil (ask1 M h)))
theorem mke2 (M : Mk2 P w K mg base C f g) (e : σ[i]? = some (some v)) (e2 : σ[j]? = some (some u)) : MkE (tMk C (sp_in2 K f g) (tCons (tVar i) (tCons (tVar j) tNil))) σ C [(g, u), (f, v)] :=
  fun H Q h => r_cons (r_var e (r_cons (r_var e2 (r_nil (ask2 M h)))))
theorem mke1K (M : Mk1 P w K mg base C f) (e : σ[i]? = some (some v)) : MkE (tMkK C id (sp_in1 K f) (tCons (tVar i) tNil)) σ C [(f, v)] := fun H Q h => r_cons (r_var e (r_nil ⟨by show 1 ≤ 1000; decide, ask1 M h⟩))
theorem mke2K (M : Mk2 P w K mg base C f g) (e : σ[i]? = some (some v)) (e2 : σ[j]? = some (some u)) : MkE (tMkK C turn2 (sp_in2 K f g) (tCons (tVar j) (tCons (tVar i) tNil))) σ C [(g, u), (f, v)] :=
  fun H Q h => r_cons (r_var e2 (r_cons (r_var e (r_nil ⟨by show 2 ≤ 1000; decide, ask2 M h⟩))))
end
/-- isinstance of an own error -/
theorem r_isX {K : PySem.W.Frag} {H : Hp} {Q : VK} {x c : V} {C : Addr} {fs : List (Str × V)} {u : Value} {b : Bool} (hx : Ex H x C fs) (T : EC K C) (cv : ClsV c u) (k : PySem.W.kitOne K (.ref C) u = some b) (q : Q (.bl b) H) : rIsX K [x, c] H Q := ⟨x, c, C, fs, u, b, rfl, hx, T, cv, k, q⟩
/-- isinstance of one error with one class after another -/
def IsA (ta : TA) (σ : St) (x : V) (C : Addr) (fs : List (Str × V)) (bs : List V) : Prop := ∀ (H : Hp) (Q : List V → Hp → Prop), Ex H x C fs → Q bs H → ta σ H Q
theorem isa_nil {σ : St} {x : V} {C : Addr} {fs : List (Str × V)} : IsA tNil σ x C fs [] := fun H Q _ q => q
theorem isa_cons {K : PySem.W.Frag} {tr : TA} {σ : St} {x c : V} {C : Addr} {fs : List (Str × V)} {bs : List V} {u : Value} {b : Bool} {i : Nat} (T : EC K C) (e : σ[i]? = some (some x)) (k : PySem.W.kitOne K (.ref C) u = some b) (cv : ClsV c u) (g : IsA tr σ x C fs bs) :
    IsA (tCons (tCB (rIsX K) (tCons (tVar i) (tCons (tC c) tNil))) tr) σ x C fs (.bl b :: bs) := fun H Q hx q => r_cons (r_cb (r_cons (r_var e (r_cons (r_c (r_nil (r_isX hx T cv k (g H _ hx q))))))))
theorem r_xat {K : PySem.W.Frag} {f : Str} {te : TE} {σ : St} {H : Hp} {Q : VK} (h : te σ H fun x H1 => ∃ (C : Addr) (fs : List (Str × V)) (v : V), Ex H1 x C fs ∧ EC K C ∧ fnd K C f = some none ∧ fs.lookup f = some v ∧ Q v H1) : tXat K f te σ H Q := h
theorem any2 {K : PySem.W.Frag} {t a b : Value} {p q : Bool} (h : PySem.W.kitOne K t a = some p) (g : PySem.W.kitOne K t b = some q) : PySem.W.kitAny K t [a, b] = some (p || q) :=
  kitAny_cons h (fun e => kitAny_cons g (fun e2 => by rw [e, e2]; exact kitAny_nil) (fun e2 => by rw [e2, Bool.or_true])) (fun e => by rw [e, Bool.true_or])
/-! ### from the written part -/
theorem ec_mk {K : PySem.W.Frag} {C : Addr} {nm q : Str} {N : Addr} {bs cm : List Value} {sn : List Str} {sub : List Value} {ab : Bool} {col : Option Bool} {dd : Option Addr} {m0 m1 m2 m3 m5 : Option Value}
    (xL : K.lookup C = some (excClassObj nm q C N bs cm true sn sub ab col dd m0 m1 m2 m3 m5 "ValueError.__new__")) (hm : PySem.HandSPX.refsVE cm = true) (sa : fnd K C "__setattr__" = some (some (.builtin "object.__setattr__")))
    (ga : fnd K C "__getattribute__" = some (some (.builtin "BaseException.__getattribute__"))) (gg : fnd K C "__getattr__" = some none) (kC : PySem.W.keepIn K (.ref C) = true) (eC : PySem.W.subIn K (.ref C) (.type "BaseException") = some true)
    (tC : PySem.W.typeIn K (.ref C) = some (.type "type")) (hC : PySem.W.hasDictIn K C = true) (ac : fnd K C "__class__" = some (some (.builtin "object.__class__"))) (mo : PySem.W.mroIn K C (.type "object") = some true) : EC K C :=
  ⟨⟨⟨nm, q, N, bs, cm, sn, sub, ab, col, dd, m0, m1, m2, m3, m5, xL, hm⟩, sa, eC, tC, kC⟩, ga, gg, hC, ac, mo⟩
def cmOf (C0 : Addr) : List Value := [.ref C0, .type "ValueError", .type "Exception", .type "BaseException", .type "object"]
/-- a class straight under C0 -/
structure Kc (K : PySem.W.Frag) (C0 C : Addr) : Prop where
  cl : ∃ cd : ClassData, PySem.W.clsIn K C = some cd ∧ cd.mro = .ref C :: cmOf C0
  ty : PySem.W.typeIn K (.ref C) = some (.type "type")
theorem kc_mk {K : PySem.W.Frag} {C C0 : Addr} {nm q : Str} {N : Addr} {bs : List Value} {sn : List Str} {sub : List Value} {ab : Bool} {col : Option Bool} {dd : Option Addr} {m0 m1 m2 m3 m5 : Option Value}
    (xL : K.lookup C = some (excClassObj nm q C N bs (cmOf C0) true sn sub ab col dd m0 m1 m2 m3 m5 "ValueError.__new__")) (tC : PySem.W.typeIn K (.ref C) = some (.type "type")) : Kc K C0 C := by
  have e : PySem.W.clsIn K C = some { name := nm, bases := bs, mro := .ref C :: cmOf C0, ns := N, qualname := q, hasDict := true, slotNames := sn, subclasses := sub, abstract := ab, collection := col, hasDel := false } := by
    unfold PySem.W.clsIn
    rw [xL]
  exact ⟨⟨_, e, rfl⟩, tC⟩
section
variable {K : PySem.W.Frag} {C0 C D : Addr}
theorem kc_sub (A : Kc K C0 C) (v : Value) : PySem.W.subIn K (.ref C) v = some ((Value.ref C :: cmOf C0).contains v) := by
  obtain ⟨cd, h, m⟩ := A.cl
  show PySem.W.mroIn K C v = _
  unfold PySem.W.mroIn
  rw [h, Option.bind_some, m]
  rfl
theorem kc_self : PySem.W.kitOne K (.ref C) (.ref C) = some true := by
  unfold PySem.W.kitOne
  rw [if_pos (beq_self_eq_true _)]
theorem ref_ne (n : C ≠ D) : (Value.ref C == Value.ref D) = false := beq_eq_false_iff_ne.mpr fun z => n (Value.ref.inj z)
theorem kc_cls (A : Kc K C0 C) (n : C ≠ D) (s : (PySem.W.clsIn K D).isSome = true) (t : PySem.W.typeIn K (.ref D) = some (.type "type")) : PySem.W.kitOne K (.ref C) (.ref D) = some ((Value.ref C :: cmOf C0).contains (.ref D)) := by
  unfold PySem.W.kitOne
  rw [ref_ne n, if_neg Bool.false_ne_true]
  show (if ((PySem.W.clsIn K D).isSome && PySem.W.typeIn K (.ref D) == some (.type "type")) = true then PySem.W.subIn K (.ref C) (.ref D) else none) = _
  rw [s, t, if_pos (by simp), kc_sub A]
theorem kc_kit (A : Kc K C0 C) (B : Kc K C0 D) (n : C ≠ D) (n0 : D ≠ C0) : PySem.W.kitOne K (.ref C) (.ref D) = some false := by
  obtain ⟨cd, h, _⟩ := B.cl
  rw [kc_cls A n (by rw [h]; rfl) B.ty, List.contains_cons, cmOf, List.contains_cons, ref_ne (Ne.symm n), ref_ne n0]
  rfl
theorem kc_root (A : Kc K C0 C) (n : C ≠ C0) (s : (PySem.W.clsIn K C0).isSome = true) (t : PySem.W.typeIn K (.ref C0) = some (.type "type")) : PySem.W.kitOne K (.ref C) (.ref C0) = some true := by
  rw [kc_cls A n s t, List.contains_cons, cmOf, List.contains_cons, beq_self_eq_true, Bool.true_or, Bool.or_true]
theorem kc_ty (A : Kc K C0 C) {T : String} (m : PySem.W.kitMeta T = true) : PySem.W.kitOne K (.ref C) (.type T) = some (([.type "ValueError", .type "Exception", .type "BaseException", .type "object"] : List Value).contains (.type T)) := by
  unfold PySem.W.kitOne
  rw [if_neg (by intro z; cases z)]
  show (if PySem.W.kitMeta T = true then PySem.W.subIn K (.ref C) (.type T) else none) = _
  rw [if_pos m, kc_sub A]
  rfl
theorem nd_ne {l : List Addr} (h : l.Nodup) {i j : Nat} (hi : i < l.length) (hj : j < l.length) (n : i ≠ j) : l.getD i 0 ≠ l.getD j 0 := by
  rw [List.getD_eq_getElem?_getD, List.getD_eq_getElem?_getD, List.getElem?_eq_getElem hi, List.getElem?_eq_getElem hj]
  intro z
  have pw := List.pairwise_iff_getElem.mp (List.nodup_iff_pairwise_ne.mp h)
  rcases Nat.lt_or_gt_of_ne n with q | q
  · exact pw i j hi hj q z
  · exact pw j i hj hi q z.symm
end
end L2.Ro

end
section
set_option Elab.async false
set_option linter.all false
set_option maxRecDepth 100000
set_option maxHeartbeats 4000000
local macro_rules | `(tactic| walk_at "rd1") => `(tactic| with_reducible first
  | refine L2.Rx.r_seq ?_ | refine L2.Rx.r_asg ?_ | refine L2.Rx.r_gname ?_ | refine L2.Rx.r_op ?_ | refine L2.Rx.r_c ?_
  | refine L2.Rx.r_var rfl ?_
  | refine L2.Rx.r_rI0 ?_ | refine L2.Rx.r_test ?_ | refine L2.Rx.r_bl ?_ | refine L2.Rx.r_if ?_ | refine L2.Rx.r_ret ?_
  | refine L2.Rx.r_cons ?_ | refine L2.Rx.r_nil ?_ | refine L2.Rx.r_call ?_ | refine L2.Rx.r_cb ?_ | refine L2.Rx.r_next ?_ | refine L2.Rx.r_drop ?_
  | refine L2.Rx.r_gsub ?_ | refine L2.Rx.r_tupF ?_ | refine L2.Rx.r_lst ?_ | refine L2.Rx.r_par ?_ | refine L2.Rx.r_par2 ?_
  | refine L2.Rx.r_un ?_ | refine L2.Rx.r_tb ?_ | refine L2.Rx.r_and ?_ | refine L2.Rx.r_or ?_ | refine L2.Rx.r_not ?_
  | refine L2.Rx.r_andV ?_ | refine L2.Rx.r_orV ?_ | refine L2.Rx.r_notV ?_ | refine L2.Rx.r_ifx ?_ | refine L2.Rx.r_chain ?_
  | refine L2.Rx.r_sl ?_ | refine L2.Rx.r_nopart ?_ | refine L2.Rx.r_part ?_ | refine L2.Rx.r_exint ?_ | refine L2.Rx.r_bm0 ?_ | refine L2.Rx.r_bm ?_
  | refine L2.Rx.r_lc ?_ | refine L2.Rx.r_rng1 ?_ | refine L2.Rx.r_yes ?_ | refine L2.Rx.r_tt ?_ | refine L2.Rx.r_ff ?_ | refine L2.Rx.r_m1 ?_ | refine L2.Rx.r_m0 ?_ | refine L2.Rx.r_isS ?_
  | (refine L2.Rx.r_wipe (by with_unfolding_all rfl) ?_) | (refine L2.Rx.r_tyL (by walk_at "hp") ?_)
  | refine L2.Rx.r_addS (by walk_at "len") ?_ | refine L2.Rx.r_lenS (by walk_at "len") ?_ | refine L2.Rx.r_slS (by walk_at "len") ?_
  | refine L2.Rx.r_dnotin ?_ | refine L2.Rx.r_dget ?_ | refine L2.Rx.r_dget1 ?_ | refine L2.Rx.r_dput ?_ | refine L2.Rx.r_dpop1 ?_ | refine L2.Rx.r_isN ?_
  | refine L2.Rx.r_for ?_ | refine L2.Rx.r_ilist ?_ | refine L2.Rx.r_itup ?_
  | refine L2.Rx.r_gcons ?_ | refine L2.Rx.r_gnil ?_ | (refine L2.Rx.r_gtupP (by assumption) (by walk_at "at") ?_)
  | (refine L2.Rx.r_rEq rfl ?_) | (refine L2.Rx.r_rNe rfl ?_)
  | refine L2.Rx.r_rU ?_ | refine L2.Rx.r_max2 ?_ | refine L2.Rx.r_min2 ?_ | refine L2.Rx.r_int1i ?_ | (refine L2.Rx.r_lenh (by walk_at "hp") ?_)
  | (refine L2.Rx.r_ixLh (by walk_at "hp") (by walk_at "at") ?_)
  | (refine L2.Rx.r_setL (by walk_at "hp") (by walk_at "at") ?_))
local macro_rules | `(tactic| walk_at "at") => `(tactic| with_unfolding_all rfl)
local macro_rules | `(tactic| walk_at "rd") => `(tactic| (repeat walk_at "rd1"))
local macro_rules | `(tactic| walk_at "hp") => `(tactic| first
  | assumption
  | exact L2.upd_same
  | (refine Eq.trans (L2.upd_ne ?_) ?_; (focus walk_at "ne"); (focus walk_at "hp"))
  | (refine L2.Rx.Kp.at0 (by assumption) ?_; walk_at "hp")
  | (refine L2.Rx.Kp.at1 (by assumption) ?_ ?_; (focus walk_at "ne"); (focus walk_at "hp")))
local macro_rules | `(tactic| walk_at "ne") => `(tactic| first
  | assumption | exact Ne.symm (by assumption)
  | (refine L2.ne_of_none (H := ?nH) (o := ?nO) ?nh ?nn; (case nn => assumption); (case nh => walk_at "hp"))
  | (refine Ne.symm (L2.ne_of_none (H := ?nH) (o := ?nO) ?nh ?nn); (case nn => assumption); (case nh => walk_at "hp")))
local macro_rules | `(tactic| walk_at "len") => `(tactic| (rw [PySem.sizeLine_eq]; omega))
local macro_rules | `(tactic| walk_at "nin") => `(tactic| first
  | exact List.not_mem_nil
  | (refine L2.Rx.nin1 ?_; walk_at "ne"))
local macro_rules | `(tactic| walk_at "none") => `(tactic| first
  | assumption
  | (refine L2.Rx.Kp.none0 (by assumption) ?_ ?_; (focus walk_at "nin"); (focus walk_at "none")))
namespace L2.Ro
open PySem PySem.Spec PyProof.Rows L2.Rx
def sp_box (K : PySem.W.Frag) : Sp := fun vs H Q _ => ∃ (a : Addr) (ns : List Int) (k : Int), vs = [.ref a, .int k] ∧ SqL K H a (ns.map V.int) ∧ 0 ≤ k ∧ k ≤ 1000 ∧
  ∀ H' p, Kp [] H H' → H p = none → Box H' p 1000000000 → Q (.ref p) H'
section
variable {P : Program} {w : World} {K : PySem.W.Frag} {mg : Str → Option Value} {base : Heap}
theorem k_box {f : Addr} {fd : FuncData} (F : Fun K "_law_box" "_law_box" s_box f fd) (g : mg "_law_box" = some (.ref f)) (z : Zb mg)  : Kn P w K mg base CX0 1 "_law_box" (sp_box K) := by
  refine ⟨f, fd, ["_law_script", "_law_k"], fnG_body F sc_box (fun vs H Q E h => ?_) (fun cdv A outer s H vs Q E hr h => ?_), g, F.kp, F.binds (fun _ _ _ _ _ _ us hl => match us, hl with | [_, _], _ => rfl)⟩
  · obtain ⟨a, ns, k, rfl, _⟩ := h
    rfl
  · obtain ⟨a, ns, k, rfl, hS, k0, k1, q⟩ := h
    refine ⟨_, PSs.nox (pss_cons (ps_set (i := 2) sc_box.nd rfl (.inl rfl) (pe_ifExp (pt_cmpR op_lt (pv 1) (pe_callB (show CallR _ _ (rLenQ K) from c_len) (by rfl) z.n_len (by decide +kernel) (pa_cons (pv 0) pa_nil)) (nomark _)) (pe_ix (show IxR _ (rIxL K) from ix_list) (pv 0) (pv 1) (fun _ _ => rfl)) (pe_op op_add (pe_op op_mul pe_int (pv 1)) pe_int)))
      (pss_cons (ps_set (i := 3) sc_box.nd rfl (.inl rfl) (pe_op op_mul (pe_op op_mod (pe_callB c_abs (by rfl) z.n_abs (by decide +kernel) (pa_cons (pv 2) pa_nil)) (pe_op op_powW (pe_op op_pow pe_int pe_int) pe_int)) (pe_callTy c_int1 (by rfl) z.n_int (by decide +kernel) (pa_cons (pe_cmpR op_ge (pe_callB c_abs (by rfl) z.n_abs (by decide +kernel) (pa_cons (pv 2) pa_nil)) (pe_op op_pow pe_int pe_int) (nomark _)) pa_nil))))
      (pss_one (ps_ret (pe_lst (pa_cons (pv 3) (pa_cons (pe_op op_mod (pe_op op_mul (pe_op op_add (pe_op op_add (pe_op op_mod (pv 2) pe_int) (pe_op op_mul (pe_op op_mul pe_int (pv 1)) (pv 1))) pe_int) pe_int) pe_int) (pa_cons pe_int pa_nil)))))))), ?_⟩
    refine r_seq (r_asg (r_cut (fun v H' => ∃ n, v = .int n ∧ H' = H) ?key ?h))
    case h =>
      intro Q' h'
      walk_at "rd"
      refine r_len (.inl hS) ?_
      walk_at "rd"
      refine r_ite (fun hk => ?_) (fun hk => ?_)
      · walk_at "rd"
        obtain ⟨v, e, m⟩ := atI_int k0 hk
        refine r_ixL hS e ?_
        obtain ⟨n, _, rfl⟩ := List.mem_map.mp m
        exact h' _ _ ⟨n, rfl, rfl⟩
      · walk_at "rd"
        refine r_mul (.inl (by omega)) ?_
        walk_at "rd"
        exact h' _ _ ⟨_, rfl, rfl⟩
    case key =>
      rintro v _ ⟨n, rfl, rfl⟩
      walk_at "rd"
      refine r_abs fun m m0 => ?_
      walk_at "rd"
      refine r_pow (by decide) (by decide) (by decide) ?_
      walk_at "rd"
      refine r_powW (by decide) (by decide +kernel) ?_
      walk_at "rd"
      refine r_mod (by decide +kernel) (fun o o0 _ => ?_)
      walk_at "rd"
      refine r_abs fun m' _ => ?_
      walk_at "rd"
      refine r_pow (by decide) (by decide) (by decide) ?_
      walk_at "rd"
      refine r_int1b fun c c0 c1 => ?_
      walk_at "rd"
      refine r_mul (.inr (by omega)) ?_
      walk_at "rd"
      refine r_mod (j := 2305843009213693951) (by decide) (fun t t0 t1 => ?_)
      walk_at "rd"
      refine r_mul (.inl (by omega)) ?_
      walk_at "rd"
      refine r_mul (.inr (by omega)) ?_
      walk_at "rd"
      refine r_mul (.inr (by omega)) ?_
      walk_at "rd"
      refine r_mod (j := 2305843009213693921) (by decide) (fun e e0 e1 => ?_)
      walk_at "rd"
      refine r_new rfl (fun p np => ?_)
      exact q _ p (Kp.new np) np ⟨_, _, _, upd_same, Int.mul_nonneg o0 c0, e0, by omega, by omega, by omega⟩
end
end L2.Ro

end
section
set_option Elab.async false
set_option linter.all false
set_option maxRecDepth 100000
set_option maxHeartbeats 4000000
local macro_rules | `(tactic| walk_at "rd1") => `(tactic| with_reducible first
  | refine L2.Rx.r_seq ?_ | refine L2.Rx.r_asg ?_ | refine L2.Rx.r_gname ?_ | refine L2.Rx.r_op ?_ | refine L2.Rx.r_c ?_
  | refine L2.Rx.r_var rfl ?_
  | refine L2.Rx.r_rI0 ?_ | refine L2.Rx.r_test ?_ | refine L2.Rx.r_bl ?_ | refine L2.Rx.r_if ?_ | refine L2.Rx.r_ret ?_
  | refine L2.Rx.r_cons ?_ | refine L2.Rx.r_nil ?_ | refine L2.Rx.r_call ?_ | refine L2.Rx.r_cb ?_ | refine L2.Rx.r_next ?_ | refine L2.Rx.r_drop ?_
  | refine L2.Rx.r_gsub ?_ | refine L2.Rx.r_tupF ?_ | refine L2.Rx.r_lst ?_ | refine L2.Rx.r_par ?_ | refine L2.Rx.r_par2 ?_
  | refine L2.Rx.r_un ?_ | refine L2.Rx.r_tb ?_ | refine L2.Rx.r_and ?_ | refine L2.Rx.r_or ?_ | refine L2.Rx.r_not ?_
  | refine L2.Rx.r_andV ?_ | refine L2.Rx.r_orV ?_ | refine L2.Rx.r_notV ?_ | refine L2.Rx.r_ifx ?_ | refine L2.Rx.r_chain ?_
  | refine L2.Rx.r_sl ?_ | refine L2.Rx.r_nopart ?_ | refine L2.Rx.r_part ?_ | refine L2.Rx.r_exint ?_ | refine L2.Rx.r_bm0 ?_ | refine L2.Rx.r_bm ?_
  | refine L2.Rx.r_lc ?_ | refine L2.Rx.r_rng1 ?_ | refine L2.Rx.r_yes ?_ | refine L2.Rx.r_tt ?_ | refine L2.Rx.r_ff ?_ | refine L2.Rx.r_m1 ?_ | refine L2.Rx.r_m0 ?_ | refine L2.Rx.r_isS ?_
  | (refine L2.Rx.r_wipe (by with_unfolding_all rfl) ?_) | (refine L2.Rx.r_tyL (by walk_at "hp") ?_)
  | refine L2.Rx.r_addS (by walk_at "len") ?_ | refine L2.Rx.r_lenS (by walk_at "len") ?_ | refine L2.Rx.r_slS (by walk_at "len") ?_
  | refine L2.Rx.r_dnotin ?_ | refine L2.Rx.r_dget ?_ | refine L2.Rx.r_dget1 ?_ | refine L2.Rx.r_dput ?_ | refine L2.Rx.r_dpop1 ?_ | refine L2.Rx.r_isN ?_
  | refine L2.Rx.r_for ?_ | refine L2.Rx.r_ilist ?_ | refine L2.Rx.r_itup ?_
  | refine L2.Rx.r_gcons ?_ | refine L2.Rx.r_gnil ?_ | (refine L2.Rx.r_gtupP (by assumption) (by walk_at "at") ?_)
  | (refine L2.Rx.r_rEq rfl ?_) | (refine L2.Rx.r_rNe rfl ?_)
  | refine L2.Rx.r_rU ?_ | refine L2.Rx.r_max2 ?_ | refine L2.Rx.r_min2 ?_ | refine L2.Rx.r_int1i ?_ | (refine L2.Rx.r_lenh (by walk_at "hp") ?_)
  | (refine L2.Rx.r_ixLh (by walk_at "hp") (by walk_at "at") ?_)
  | (refine L2.Rx.r_setL (by walk_at "hp") (by walk_at "at") ?_))
local macro_rules | `(tactic| walk_at "at") => `(tactic| with_unfolding_all rfl)
local macro_rules | `(tactic| walk_at "rd") => `(tactic| (repeat walk_at "rd1"))
local macro_rules | `(tactic| walk_at "hp") => `(tactic| first
  | assumption
  | exact L2.upd_same
  | (refine Eq.trans (L2.upd_ne ?_) ?_; (focus walk_at "ne"); (focus walk_at "hp"))
  | (refine L2.Rx.Kp.at0 (by assumption) ?_; walk_at "hp")
  | (refine L2.Rx.Kp.at1 (by assumption) ?_ ?_; (focus walk_at "ne"); (focus walk_at "hp")))
local macro_rules | `(tactic| walk_at "ne") => `(tactic| first
  | assumption | exact Ne.symm (by assumption)
  | (refine L2.ne_of_none (H := ?nH) (o := ?nO) ?nh ?nn; (case nn => assumption); (case nh => walk_at "hp"))
  | (refine Ne.symm (L2.ne_of_none (H := ?nH) (o := ?nO) ?nh ?nn); (case nn => assumption); (case nh => walk_at "hp")))
local macro_rules | `(tactic| walk_at "len") => `(tactic| (rw [PySem.sizeLine_eq]; omega))
local macro_rules | `(tactic| walk_at "nin") => `(tactic| first
  | exact List.not_mem_nil
  | (refine L2.Rx.nin1 ?_; walk_at "ne"))
local macro_rules | `(tactic| walk_at "none") => `(tactic| first
  | assumption
  | (refine L2.Rx.Kp.none0 (by assumption) ?_ ?_; (focus walk_at "nin"); (focus walk_at "none")))
namespace L2.Ro
open PySem PySem.Spec PyProof.Rows L2.Rx
def sp_take : Sp := fun vs H Q _ => ∃ (b : Addr) (n : Nat) (u : Int), vs = [.ref b, .int u] ∧ Box H b (n + 1) ∧ 0 < u ∧ u ≤ 1000000000 ∧
  ∀ H' r, Kp [b] H H' → Box H' b n → 0 ≤ r → r < u → Q (.int r) H'
section
variable {P : Program} {w : World} {K : PySem.W.Frag} {mg : Str → Option Value} {base : Heap}
theorem k_take {f : Addr} {fd : FuncData} (F : Fun K "_law_take" "_law_take" s_take f fd) (g : mg "_law_take" = some (.ref f)) (z : Zb mg)  : Kn P w K mg base CX0 1 "_law_take" sp_take := by
  refine ⟨f, fd, ["_law_box_here", "_law_upon"], fnG_body F sc_take (fun vs H Q E h => ?_) (fun cdv A outer s H vs Q E hr h => ?_), g, F.kp, F.binds (fun _ _ _ _ _ _ us hl => match us, hl with | [_, _], _ => rfl)⟩
  · obtain ⟨b, n, u, rfl, _⟩ := h
    rfl
  · obtain ⟨b, n, u, rfl, ⟨o, m, c, hb, o0, m0, m1, c0, c1⟩, u0, u1, q⟩ := h
    refine ⟨_, PSs.nox (pss_cons (ps_if (pt_cmpR op_gt (pe_ix (show IxR _ (rIxL K) from ix_list) (pv 0) pe_int (fun _ _ => rfl)) pe_int (nomark _))
        (pss_cons (ps_set (i := 2) sc_take.nd rfl (.inl rfl) (pe_op op_mod (pe_ix (show IxR _ (rIxL K) from ix_list) (pv 0) pe_int (fun _ _ => rfl)) (pv 1)))
        (pss_cons (ps_asg (pe_op op_fdiv (pe_ix (show IxR _ (rIxL K) from ix_list) (pv 0) pe_int (fun _ _ => rfl)) (pv 1)) (pg_sub (pv 0) pe_int set_list))
        (pss_one (ps_ret (pv 2)))))
        pss_nil)
      (pss_cons (ps_asg (pe_op op_add (pe_ix (show IxR _ (rIxL K) from ix_list) (pv 0) pe_int (fun _ _ => rfl)) pe_int) (pg_sub (pv 0) pe_int set_list))
      (pss_cons (ps_set (i := 3) sc_take.nd rfl (.inl rfl) (pe_ix (show IxR _ (rIxL K) from ix_list) (pe_lst (pa_cons pe_int (pa_cons pe_int (pa_cons pe_int (pa_cons pe_int (pa_cons pe_int (pa_cons pe_int (pa_cons pe_int pa_nil)))))))) (pe_op op_mod (pe_ix (show IxR _ (rIxL K) from ix_list) (pv 0) pe_int (fun _ _ => rfl)) pe_int) (fun _ _ => rfl)))
      (pss_cons (ps_set (i := 4) sc_take.nd rfl (.inl rfl) (pe_op op_mod (pe_op op_pow (pe_op op_add (pe_ix (show IxR _ (rIxL K) from ix_list) (pv 0) pe_int (fun _ _ => rfl)) (pe_op op_mul pe_int (pe_ix (show IxR _ (rIxL K) from ix_list) (pv 0) pe_int (fun _ _ => rfl)))) pe_int) (pv 3)))
      (pss_cons (ps_set (i := 4) sc_take.nd rfl (.inl rfl) (pe_op op_mod (pe_op op_mul (pv 4) (pe_op op_add (pe_op op_mod (pv 4) pe_int) (pe_ix (show IxR _ (rIxL K) from ix_list) (pv 0) pe_int (fun _ _ => rfl)))) (pv 3)))
      (pss_cons (ps_if (pt_cmpR op_gt (pv 1) (pe_op op_pow pe_int pe_int) (nomark _))
        (pss_one (ps_set (i := 4) sc_take.nd rfl (.inl rfl) (pe_op op_add (pe_op op_mul (pv 4) pe_int) (pe_op op_mod (pe_op op_add (pe_op op_mul (pe_ix (show IxR _ (rIxL K) from ix_list) (pv 0) pe_int (fun _ _ => rfl)) (pe_op op_add (pe_ix (show IxR _ (rIxL K) from ix_list) (pv 0) pe_int (fun _ _ => rfl)) pe_int)) (pe_op op_mul (pv 4) (pv 4))) pe_int))))
        pss_nil)
      (pss_one (ps_ret (pe_op op_mod (pe_op op_fdiv (pv 4) pe_int) (pv 1)))))))))), ?_⟩
    walk_at "rd"
    refine r_ite (fun ho => ?_) (fun ho => ?_)
    · walk_at "rd"
      refine r_rI u0 ?_
      walk_at "rd"
      refine r_div o0 u0 (by omega) (fun o' o'0 _ => ?_)
      walk_at "rd"
      refine q _ _ Kp.put ⟨_, _, _, upd_same, o'0, m0, m1, c0, by omega⟩ (Int.emod_nonneg _ (by omega)) (Int.emod_lt_of_pos _ u0)
    · walk_at "rd"
      refine r_new rfl (fun p np => ?_)
      walk_at "rd"
      refine r_mod (j := 7) (by decide) (fun i i0 i1 => ?_)
      refine r_pickL upd_same i0 i1 (fun v hv => ?_)
      obtain ⟨k, rfl, k0, k1⟩ : ∃ k : Int, v = .int k ∧ 0 < k ∧ k < 2147483648 := by
        simp only [List.mem_cons, List.mem_nil_iff, or_false] at hv
        rcases hv with rfl | rfl | rfl | rfl | rfl | rfl | rfl <;> exact ⟨_, rfl, by decide, by decide⟩
      clear hv
      walk_at "rd"
      refine r_mul (.inl (by omega)) ?_
      walk_at "rd"
      refine r_pow (by decide) (by decide) (by omega) ?_
      walk_at "rd"
      refine r_mod k0 (fun d d0 d1 => ?_)
      walk_at "rd"
      refine r_mod (j := 1009) (by decide) (fun e e0 e1 => ?_)
      walk_at "rd"
      refine r_mul (.inl (by omega)) ?_
      walk_at "rd"
      refine r_mod k0 (fun g g0 g1 => ?_)
      walk_at "rd"
      refine r_pow (by decide) (by decide) (by decide) ?_
      walk_at "rd"
      refine r_ite (fun hu => ?_) (fun hu => ?_)
      · walk_at "rd"
        refine r_mul (.inl (by omega)) ?_
        walk_at "rd"
        refine r_mul (.inl (by omega)) ?_
        walk_at "rd"
        refine r_mul (.inl (by omega)) ?_
        walk_at "rd"
        refine r_mod (j := 1000000007) (by decide) (fun t t0 t1 => ?_)
        walk_at "rd"
        refine r_div (by omega) (by decide) (by decide) (fun z z0 _ => ?_)
        walk_at "rd"
        refine r_mod u0 (fun r r0 r1 => ?_)
        refine q _ _ ((Kp.put (b := b)).trans (Kp.new np)) ⟨_, _, _, by walk_at "hp", o0, m0, m1, by omega, by omega⟩ r0 r1
      · walk_at "rd"
        refine r_div (by omega) (by decide) (by decide) (fun z z0 _ => ?_)
        walk_at "rd"
        refine r_mod u0 (fun r r0 r1 => ?_)
        refine q _ _ ((Kp.put (b := b)).trans (Kp.new np)) ⟨_, _, _, by walk_at "hp", o0, m0, m1, by omega, by omega⟩ r0 r1
end
end L2.Ro

end
section
set_option Elab.async false
set_option linter.all false
set_option maxRecDepth 100000
set_option maxHeartbeats 4000000
local macro_rules | `(tactic| walk_at "rd1") => `(tactic| with_reducible first
  | refine L2.Rx.r_seq ?_ | refine L2.Rx.r_asg ?_ | refine L2.Rx.r_gname ?_ | refine L2.Rx.r_op ?_ | refine L2.Rx.r_c ?_
  | refine L2.Rx.r_var rfl ?_
  | refine L2.Rx.r_rI0 ?_ | refine L2.Rx.r_test ?_ | refine L2.Rx.r_bl ?_ | refine L2.Rx.r_if ?_ | refine L2.Rx.r_ret ?_
  | refine L2.Rx.r_cons ?_ | refine L2.Rx.r_nil ?_ | refine L2.Rx.r_call ?_ | refine L2.Rx.r_cb ?_ | refine L2.Rx.r_next ?_ | refine L2.Rx.r_drop ?_
  | refine L2.Rx.r_gsub ?_ | refine L2.Rx.r_tupF ?_ | refine L2.Rx.r_lst ?_ | refine L2.Rx.r_par ?_ | refine L2.Rx.r_par2 ?_
  | refine L2.Rx.r_un ?_ | refine L2.Rx.r_tb ?_ | refine L2.Rx.r_and ?_ | refine L2.Rx.r_or ?_ | refine L2.Rx.r_not ?_
  | refine L2.Rx.r_andV ?_ | refine L2.Rx.r_orV ?_ | refine L2.Rx.r_notV ?_ | refine L2.Rx.r_ifx ?_ | refine L2.Rx.r_chain ?_
  | refine L2.Rx.r_sl ?_ | refine L2.Rx.r_nopart ?_ | refine L2.Rx.r_part ?_ | refine L2.Rx.r_exint ?_ | refine L2.Rx.r_bm0 ?_ | refine L2.Rx.r_bm ?_
  | refine L2.Rx.r_lc ?_ | refine L2.Rx.r_rng1 ?_ | refine L2.Rx.r_yes ?_ | refine L2.Rx.r_tt ?_ | refine L2.Rx.r_ff ?_ | refine L2.Rx.r_m1 ?_ | refine L2.Rx.r_m0 ?_ | refine L2.Rx.r_isS ?_
  | (refine L2.Rx.r_wipe (by with_unfolding_all rfl) ?_) | (refine L2.Rx.r_tyL (by walk_at "hp") ?_)
  | refine L2.Rx.r_addS (by walk_at "len") ?_ | refine L2.Rx.r_lenS (by walk_at "len") ?_ | refine L2.Rx.r_slS (by walk_at "len") ?_
  | refine L2.Rx.r_dnotin ?_ | refine L2.Rx.r_dget ?_ | refine L2.Rx.r_dget1 ?_ | refine L2.Rx.r_dput ?_ | refine L2.Rx.r_dpop1 ?_ | refine L2.Rx.r_isN ?_
  | refine L2.Rx.r_for ?_ | refine L2.Rx.r_ilist ?_ | refine L2.Rx.r_itup ?_
  | refine L2.Rx.r_gcons ?_ | refine L2.Rx.r_gnil ?_ | (refine L2.Rx.r_gtupP (by assumption) (by walk_at "at") ?_)
  | (refine L2.Rx.r_rEq rfl ?_) | (refine L2.Rx.r_rNe rfl ?_)
  | refine L2.Rx.r_rU ?_ | refine L2.Rx.r_max2 ?_ | refine L2.Rx.r_min2 ?_ | refine L2.Rx.r_int1i ?_ | (refine L2.Rx.r_lenh (by walk_at "hp") ?_)
  | (refine L2.Rx.r_ixLh (by walk_at "hp") (by walk_at "at") ?_)
  | (refine L2.Rx.r_setL (by walk_at "hp") (by walk_at "at") ?_))
local macro_rules | `(tactic| walk_at "at") => `(tactic| with_unfolding_all rfl)
local macro_rules | `(tactic| walk_at "rd") => `(tactic| (repeat walk_at "rd1"))
local macro_rules | `(tactic| walk_at "hp") => `(tactic| first
  | assumption
  | exact L2.upd_same
  | (refine Eq.trans (L2.upd_ne ?_) ?_; (focus walk_at "ne"); (focus walk_at "hp"))
  | (refine L2.Rx.Kp.at0 (by assumption) ?_; walk_at "hp")
  | (refine L2.Rx.Kp.at1 (by assumption) ?_ ?_; (focus walk_at "ne"); (focus walk_at "hp")))
local macro_rules | `(tactic| walk_at "ne") => `(tactic| first
  | assumption | exact Ne.symm (by assumption)
  | (refine L2.ne_of_none (H := ?nH) (o := ?nO) ?nh ?nn; (case nn => assumption); (case nh => walk_at "hp"))
  | (refine Ne.symm (L2.ne_of_none (H := ?nH) (o := ?nO) ?nh ?nn); (case nn => assumption); (case nh => walk_at "hp")))
local macro_rules | `(tactic| walk_at "len") => `(tactic| (rw [PySem.sizeLine_eq]; omega))
local macro_rules | `(tactic| walk_at "nin") => `(tactic| first
  | exact List.not_mem_nil
  | (refine L2.Rx.nin1 ?_; walk_at "ne"))
local macro_rules | `(tactic| walk_at "none") => `(tactic| first
  | assumption
  | (refine L2.Rx.Kp.none0 (by assumption) ?_ ?_; (focus walk_at "nin"); (focus walk_at "none")))
namespace L2.Ro
open PySem PySem.Spec PyProof.Rows L2.Rx
/-- one of the items, or one sign of the text -/
def sp_of (K : PySem.W.Frag) : Sp := fun vs H Q _ => ∃ (b : Addr) (n : Nat) (x : V), vs = [.ref b, x] ∧ Box H b (n + 1) ∧
  ((∃ (p : Addr) (xs : List V), x = .ref p ∧ (SqL K H p xs ∨ SqT K H p xs) ∧ p ≠ b ∧ 0 < xs.length ∧ xs.length ≤ 1000000000 ∧ ∀ H' v, Kp [b] H H' → Box H' b n → v ∈ xs → Q v H') ∨
   (∃ z : Str, x = .str z ∧ 0 < z.length ∧ z.length ≤ 1000 ∧ ∀ H' c, Kp [b] H H' → Box H' b n → c ∈ z.cps.toList → Q (.str ⟨#[c]⟩) H'))
section
variable {P : Program} {w : World} {K : PySem.W.Frag} {mg : Str → Option Value} {base : Heap}
theorem k_of {f : Addr} {fd : FuncData} (F : Fun K "_law_of" "_law_of" s_of f fd) (g : mg "_law_of" = some (.ref f)) (z : Zb mg) (k_take : Kn P w K mg base CX0 1 "_law_take" sp_take)  : Kn P w K mg base CX0 2 "_law_of" (sp_of K) := by
  refine ⟨f, fd, ["_law_box_here", "_law_some"], fnG_body F sc_of (fun vs H Q E h => ?_) (fun cdv A outer s H vs Q E hr h => ?_), g, F.kp, F.binds (fun _ _ _ _ _ _ us hl => match us, hl with | [_, _], _ => rfl)⟩
  · obtain ⟨b, n, x, rfl, _⟩ := h
    rfl
  · obtain ⟨b, n, x, rfl, B, q⟩ := h
    refine ⟨_, PSs.nox (pss_one (ps_ret (pe_ix (show IxR _ (rIx K) from ix_seq) (pv 1) (k_take.call hr (by decide) (by rfl) (pa_cons (pv 0) (pa_cons (pe_callB (show CallR _ _ (rLenV K) from c_lenV) (by rfl) z.n_len (by decide +kernel) (pa_cons (pv 1) pa_nil)) pa_nil))) (fun _ _ => rfl)))), ?_⟩
    rcases q with ⟨p, xs, rfl, hs, ne, l0, l1, q⟩ | ⟨z, rfl, l0, l1, q⟩
    · walk_at "rd"
      refine .inl (r_len hs ?_)
      walk_at "rd"
      refine ⟨b, n, _, rfl, B, by omega, by omega, fun H' r k B' r0 r1 => ?_⟩
      obtain ⟨v, e, m⟩ := atI_int r0 r1
      rcases hs with hs | hs
      · exact .inl ⟨p, xs, r, v, rfl, rfl, kp1_sqL k ne hs, e, q H' v k B' m⟩
      · exact .inr (.inl ⟨p, xs, r, v, rfl, rfl, kp_sqT k (by simpa using ne) hs, e, q H' v k B' m⟩)
    · walk_at "rd"
      refine .inr (r_lenS (Nat.le_trans l1 (by decide)) ?_)
      walk_at "rd"
      refine ⟨b, n, _, rfl, B, by omega, by omega, fun H' r k B' r0 r1 => ?_⟩
      obtain ⟨j, rfl⟩ : ∃ j : Nat, r = (j : Int) := ⟨r.toNat, by omega⟩
      have hj : j < z.cps.toList.length := by
        have : z.length = z.cps.toList.length := by simp [Str.length]
        omega
      exact .inr (.inr ⟨z, j, z.cps.toList[j], rfl, rfl, Nat.le_trans l1 (by decide), atI_nat (List.getElem?_eq_getElem hj), q H' _ k B' (List.getElem_mem hj)⟩)
end
end L2.Ro

end
section
set_option Elab.async false
set_option linter.all false
set_option maxRecDepth 100000
set_option maxHeartbeats 4000000
local macro_rules | `(tactic| walk_at "rd1") => `(tactic| with_reducible first
  | refine L2.Rx.r_seq ?_ | refine L2.Rx.r_asg ?_ | refine L2.Rx.r_gname ?_ | refine L2.Rx.r_op ?_ | refine L2.Rx.r_c ?_
  | refine L2.Rx.r_var rfl ?_
  | refine L2.Rx.r_rI0 ?_ | refine L2.Rx.r_test ?_ | refine L2.Rx.r_bl ?_ | refine L2.Rx.r_if ?_ | refine L2.Rx.r_ret ?_
  | refine L2.Rx.r_cons ?_ | refine L2.Rx.r_nil ?_ | refine L2.Rx.r_call ?_ | refine L2.Rx.r_cb ?_ | refine L2.Rx.r_next ?_ | refine L2.Rx.r_drop ?_
  | refine L2.Rx.r_gsub ?_ | refine L2.Rx.r_tupF ?_ | refine L2.Rx.r_lst ?_ | refine L2.Rx.r_par ?_ | refine L2.Rx.r_par2 ?_
  | refine L2.Rx.r_un ?_ | refine L2.Rx.r_tb ?_ | refine L2.Rx.r_and ?_ | refine L2.Rx.r_or ?_ | refine L2.Rx.r_not ?_
  | refine L2.Rx.r_andV ?_ | refine L2.Rx.r_orV ?_ | refine L2.Rx.r_notV ?_ | refine L2.Rx.r_ifx ?_ | refine L2.Rx.r_chain ?_
  | refine L2.Rx.r_sl ?_ | refine L2.Rx.r_nopart ?_ | refine L2.Rx.r_part ?_ | refine L2.Rx.r_exint ?_ | refine L2.Rx.r_bm0 ?_ | refine L2.Rx.r_bm ?_
  | refine L2.Rx.r_lc ?_ | refine L2.Rx.r_rng1 ?_ | refine L2.Rx.r_yes ?_ | refine L2.Rx.r_tt ?_ | refine L2.Rx.r_ff ?_ | refine L2.Rx.r_m1 ?_ | refine L2.Rx.r_m0 ?_ | refine L2.Rx.r_isS ?_
  | (refine L2.Rx.r_wipe (by with_unfolding_all rfl) ?_) | (refine L2.Rx.r_tyL (by walk_at "hp") ?_)
  | refine L2.Rx.r_addS (by walk_at "len") ?_ | refine L2.Rx.r_lenS (by walk_at "len") ?_ | refine L2.Rx.r_slS (by walk_at "len") ?_
  | refine L2.Rx.r_dnotin ?_ | refine L2.Rx.r_dget ?_ | refine L2.Rx.r_dget1 ?_ | refine L2.Rx.r_dput ?_ | refine L2.Rx.r_dpop1 ?_ | refine L2.Rx.r_isN ?_
  | refine L2.Rx.r_for ?_ | refine L2.Rx.r_ilist ?_ | refine L2.Rx.r_itup ?_
  | refine L2.Rx.r_gcons ?_ | refine L2.Rx.r_gnil ?_ | (refine L2.Rx.r_gtupP (by assumption) (by walk_at "at") ?_)
  | (refine L2.Rx.r_rEq rfl ?_) | (refine L2.Rx.r_rNe rfl ?_)
  | refine L2.Rx.r_rU ?_ | refine L2.Rx.r_max2 ?_ | refine L2.Rx.r_min2 ?_ | refine L2.Rx.r_int1i ?_ | (refine L2.Rx.r_lenh (by walk_at "hp") ?_)
  | (refine L2.Rx.r_ixLh (by walk_at "hp") (by walk_at "at") ?_)
  | (refine L2.Rx.r_setL (by walk_at "hp") (by walk_at "at") ?_))
local macro_rules | `(tactic| walk_at "at") => `(tactic| with_unfolding_all rfl)
local macro_rules | `(tactic| walk_at "rd") => `(tactic| (repeat walk_at "rd1"))
local macro_rules | `(tactic| walk_at "hp") => `(tactic| first
  | assumption
  | exact L2.upd_same
  | (refine Eq.trans (L2.upd_ne ?_) ?_; (focus walk_at "ne"); (focus walk_at "hp"))
  | (refine L2.Rx.Kp.at0 (by assumption) ?_; walk_at "hp")
  | (refine L2.Rx.Kp.at1 (by assumption) ?_ ?_; (focus walk_at "ne"); (focus walk_at "hp")))
local macro_rules | `(tactic| walk_at "ne") => `(tactic| first
  | assumption | exact Ne.symm (by assumption)
  | (refine L2.ne_of_none (H := ?nH) (o := ?nO) ?nh ?nn; (case nn => assumption); (case nh => walk_at "hp"))
  | (refine Ne.symm (L2.ne_of_none (H := ?nH) (o := ?nO) ?nh ?nn); (case nn => assumption); (case nh => walk_at "hp")))
local macro_rules | `(tactic| walk_at "len") => `(tactic| (rw [PySem.sizeLine_eq]; omega))
local macro_rules | `(tactic| walk_at "nin") => `(tactic| first
  | exact List.not_mem_nil
  | (refine L2.Rx.nin1 ?_; walk_at "ne"))
local macro_rules | `(tactic| walk_at "none") => `(tactic| first
  | assumption
  | (refine L2.Rx.Kp.none0 (by assumption) ?_ ?_; (focus walk_at "nin"); (focus walk_at "none")))
namespace L2.Ro
open PySem PySem.Spec PyProof.Rows L2.Rx
def sp_made (C : Nat → Addr) : Sp := fun vs H Q _ => ∃ a b : V, vs = [a, b] ∧ ∀ (H' : Hp) (l : Addr) (ys : List V), Kp [] H H' → H l = none → H' l = some (.lst ys) → ExAll H' ys (all18 C a b) → Q (.ref l) H'
section
variable {P : Program} {w : World} {K : PySem.W.Frag} {mg : Str → Option Value} {base : Heap}
theorem k_made {f : Addr} {fd : FuncData} (F : Fun K "_law_made" "_law_made" s_made f fd) (g : mg "_law_made" = some (.ref f)) (z : Zb mg) {C : Nat → Addr} (er : Er P w K mg base C)  : Kn P w K mg base CX0 3 "_law_made" (sp_made C) := by
  refine ⟨f, fd, ["_law_a", "_law_b"], fnG_body F sc_made (fun vs H Q E h => ?_) (fun cdv A outer s H vs Q E hr h => ?_), g, F.kp, F.binds (fun _ _ _ _ _ _ us hl => match us, hl with | [_, _], _ => rfl)⟩
  · obtain ⟨a, b, rfl, _⟩ := h
    rfl
  · obtain ⟨a, b, rfl, q⟩ := h
    refine ⟨_, PSs.nox (pss_cons (ps_set (i := 2) sc_made.nd rfl (.inl rfl) (pe_lst (pa_cons (pe_mkN er.m1 er.g1 (by rfl)) (pa_cons (pe_mk1 er.m2 hr (by decide) er.g2 (by rfl) (pa_cons (pv 0) pa_nil)) (pa_cons (pe_mk1 er.m3 hr (by decide) er.g3 (by rfl) (pa_cons (pv 0) pa_nil)) (pa_cons (pe_mk1 er.m4 hr (by decide) er.g4 (by rfl) (pa_cons (pv 0) pa_nil)) (pa_cons (pe_mk1 er.m5 hr (by decide) er.g5 (by rfl) (pa_cons (pv 0) pa_nil)) (pa_cons (pe_mk1 er.m6 hr (by decide) er.g6 (by rfl) (pa_cons (pv 0) pa_nil)) (pa_cons (pe_mk1 er.m7 hr (by decide) er.g7 (by rfl) (pa_cons (pv 0) pa_nil)) (pa_cons (pe_mk2 er.m8 hr (by decide) er.g8 (by rfl) (pa_cons (pv 0) (pa_cons (pv 1) pa_nil))) pa_nil))))))))))
      (pss_cons (ps_expr (show PE _ _ (tBM K _ _ _ _) from pe_bm PySem.F.plainAttrs_list PySem.F.slot_list_extend PySem.F.type_list_extend mt_extend (pv 2) (pa_cons (pe_lst (pa_cons (pe_mk1 er.m9 hr (by decide) er.g9 (by rfl) (pa_cons (pv 0) pa_nil)) (pa_cons (pe_mk1 er.m10 hr (by decide) er.g10 (by rfl) (pa_cons (pv 0) pa_nil)) (pa_cons (pe_mkN er.m11 er.g11 (by rfl)) (pa_cons (pe_mk1 er.m12 hr (by decide) er.g12 (by rfl) (pa_cons (pv 0) pa_nil)) (pa_cons (pe_mk1 er.m13 hr (by decide) er.g13 (by rfl) (pa_cons (pv 0) pa_nil)) (pa_cons (pe_mk1 er.m14 hr (by decide) er.g14 (by rfl) (pa_cons (pv 0) pa_nil)) (pa_cons (pe_mkN er.m15 er.g15 (by rfl)) pa_nil)))))))) pa_nil)))
      (pss_one (ps_ret (pe_op op_cat (pv 2) (pe_lst (pa_cons (pe_mkN er.m16 er.g16 (by rfl)) (pa_cons (pe_mk1 er.m17 hr (by decide) er.g17 (by rfl) (pa_cons (pv 0) pa_nil)) (pa_cons (pe_mk1 er.m18 hr (by decide) er.g18 (by rfl) (pa_cons (pv 0) pa_nil)) pa_nil))))))))), ?_⟩
    refine r_seq (r_asg ?_)
    refine (mka_cons mke0 (mka_cons (mke1 er.m2 rfl) (mka_cons (mke1 er.m3 rfl) (mka_cons (mke1 er.m4 rfl) (mka_cons (mke1 er.m5 rfl) (mka_cons (mke1 er.m6 rfl) (mka_cons (mke1 er.m7 rfl) (mka_cons (mke2 er.m8 rfl rfl) mka_nil)))))))) H _ fun ys1 H1 k1 x1 => ?_
    have l1 : ys1.length = 8 := x1.len
    refine ⟨by rw [l1, sizeLine_eq]; decide, fun fo nfo => ?_⟩
    refine gen_new nfo fun H2 k2 hfo => ?_
    refine r_gname ?_
    have x2 := x1.keep0 k2
    have nfH : H fo = none := k1.none0 (by simp) nfo
    refine r_seq (r_drop (r_bm (r_var rfl ⟨.inl ⟨rfl, _, .inl (.inl hfo)⟩, r_cons ?_⟩)))
    refine (mka_cons (mke1 er.m9 rfl) (mka_cons (mke1 er.m10 rfl) (mka_cons mke0 (mka_cons (mke1 er.m12 rfl) (mka_cons (mke1 er.m13 rfl) (mka_cons (mke1 er.m14 rfl) (mka_cons mke0 mka_nil))))))) H2 _ fun ysa Ha ka xa => ?_
    have la : ysa.length = 7 := xa.len
    refine ⟨by rw [la, sizeLine_eq]; decide, fun p np => ?_⟩
    refine gen_new np fun Hb kb hp => ?_
    refine r_nil ?_
    have hfb := kb.at0 (ka.at0 hfo)
    refine r_extend hfb hp (by rw [la]; first | (rw [l1]; decide) | (rw [List.length_append, l1]; simp [*]) | (simp [*])) ?_
    refine gen_put fun H3 kc hfc => ?_
    have only : ∀ z ∈ [fo], ∃ xs, Hb z = some (.lst xs) := fun z hz => by
      rw [show z = fo by simpa using hz]
      exact ⟨_, hfb⟩
    have x3 := ExAll.append ((x2.keep0 (ka.trans kb)).keep kc only) ((xa.keep0 kb).keep kc only)
    replace hfo := hfc
    have kk3 : Kp [fo] H2 H3 := (Kp.to1 (ka.trans kb)).trans kc
    clear only hfb hfc
    have le3 := x3.len
    refine r_ret (r_op (r_var rfl (r_lst ?_)))
    refine (mka_cons mke0 (mka_cons (mke1 er.m17 rfl) (mka_cons (mke1 er.m18 rfl) mka_nil))) H3 _ fun ysa Ha ka xa => ?_
    have la : ysa.length = 3 := xa.len
    refine ⟨by rw [la, sizeLine_eq]; decide, fun p np => ?_⟩
    refine gen_new np fun Hb kb hp => ?_
    refine ⟨_, _, _, _, rfl, rfl, kb.at0 (ka.at0 hfo), hp, by rw [la, le3, sizeLine_eq]; simp [*], fun r nr => ?_⟩
    refine gen_new nr fun Hc kc hr2 => ?_
    have kall : Kp [] H Hc := ((k1.trans k2).dropT (kk3.trans (Kp.to1 ((ka.trans kb).trans kc))) fun z hz => .inr (by rw [show z = fo by simpa using hz]; exact nfH))
    refine q Hc r _ kall ?_ hr2 ?_
    · exact Kp.none0 ((k1.trans k2).dropT (kk3.trans (Kp.to1 (ka.trans kb))) fun z hz => .inr (by rw [show z = fo by simpa using hz]; exact nfH)) (by simp) nr
    · exact ExAll.append (x3.keep0 ((ka.trans kb).trans kc)) (xa.keep0 (kb.trans kc))
end
end L2.Ro

end
section
set_option Elab.async false
set_option linter.all false
set_option maxRecDepth 100000
set_option maxHeartbeats 4000000
local macro_rules | `(tactic| walk_at "rd1") => `(tactic| with_reducible first
  | refine L2.Rx.r_seq ?_ | refine L2.Rx.r_asg ?_ | refine L2.Rx.r_gname ?_ | refine L2.Rx.r_op ?_ | refine L2.Rx.r_c ?_
  | refine L2.Rx.r_var rfl ?_
  | refine L2.Rx.r_rI0 ?_ | refine L2.Rx.r_test ?_ | refine L2.Rx.r_bl ?_ | refine L2.Rx.r_if ?_ | refine L2.Rx.r_ret ?_
  | refine L2.Rx.r_cons ?_ | refine L2.Rx.r_nil ?_ | refine L2.Rx.r_call ?_ | refine L2.Rx.r_cb ?_ | refine L2.Rx.r_next ?_ | refine L2.Rx.r_drop ?_
  | refine L2.Rx.r_gsub ?_ | refine L2.Rx.r_tupF ?_ | refine L2.Rx.r_lst ?_ | refine L2.Rx.r_par ?_ | refine L2.Rx.r_par2 ?_
  | refine L2.Rx.r_un ?_ | refine L2.Rx.r_tb ?_ | refine L2.Rx.r_and ?_ | refine L2.Rx.r_or ?_ | refine L2.Rx.r_not ?_
  | refine L2.Rx.r_andV ?_ | refine L2.Rx.r_orV ?_ | refine L2.Rx.r_notV ?_ | refine L2.Rx.r_ifx ?_ | refine L2.Rx.r_chain ?_
  | refine L2.Rx.r_sl ?_ | refine L2.Rx.r_nopart ?_ | refine L2.Rx.r_part ?_ | refine L2.Rx.r_exint ?_ | refine L2.Rx.r_bm0 ?_ | refine L2.Rx.r_bm ?_
  | refine L2.Rx.r_lc ?_ | refine L2.Rx.r_rng1 ?_ | refine L2.Rx.r_yes ?_ | refine L2.Rx.r_tt ?_ | refine L2.Rx.r_ff ?_ | refine L2.Rx.r_m1 ?_ | refine L2.Rx.r_m0 ?_ | refine L2.Rx.r_isS ?_
  | (refine L2.Rx.r_wipe (by with_unfolding_all rfl) ?_) | (refine L2.Rx.r_tyL (by walk_at "hp") ?_)
  | refine L2.Rx.r_addS (by walk_at "len") ?_ | refine L2.Rx.r_lenS (by walk_at "len") ?_ | refine L2.Rx.r_slS (by walk_at "len") ?_
  | refine L2.Rx.r_dnotin ?_ | refine L2.Rx.r_dget ?_ | refine L2.Rx.r_dget1 ?_ | refine L2.Rx.r_dput ?_ | refine L2.Rx.r_dpop1 ?_ | refine L2.Rx.r_isN ?_
  | refine L2.Rx.r_for ?_ | refine L2.Rx.r_ilist ?_ | refine L2.Rx.r_itup ?_
  | refine L2.Rx.r_gcons ?_ | refine L2.Rx.r_gnil ?_ | (refine L2.Rx.r_gtupP (by assumption) (by walk_at "at") ?_)
  | (refine L2.Rx.r_rEq rfl ?_) | (refine L2.Rx.r_rNe rfl ?_)
  | refine L2.Rx.r_rU ?_ | refine L2.Rx.r_max2 ?_ | refine L2.Rx.r_min2 ?_ | refine L2.Rx.r_int1i ?_ | (refine L2.Rx.r_lenh (by walk_at "hp") ?_)
  | (refine L2.Rx.r_ixLh (by walk_at "hp") (by walk_at "at") ?_)
  | (refine L2.Rx.r_setL (by walk_at "hp") (by walk_at "at") ?_))
local macro_rules | `(tactic| walk_at "at") => `(tactic| with_unfolding_all rfl)
local macro_rules | `(tactic| walk_at "rd") => `(tactic| (repeat walk_at "rd1"))
local macro_rules | `(tactic| walk_at "hp") => `(tactic| first
  | assumption
  | exact L2.upd_same
  | (refine Eq.trans (L2.upd_ne ?_) ?_; (focus walk_at "ne"); (focus walk_at "hp"))
  | (refine L2.Rx.Kp.at0 (by assumption) ?_; walk_at "hp")
  | (refine L2.Rx.Kp.at1 (by assumption) ?_ ?_; (focus walk_at "ne"); (focus walk_at "hp")))
local macro_rules | `(tactic| walk_at "ne") => `(tactic| first
  | assumption | exact Ne.symm (by assumption)
  | (refine L2.ne_of_none (H := ?nH) (o := ?nO) ?nh ?nn; (case nn => assumption); (case nh => walk_at "hp"))
  | (refine Ne.symm (L2.ne_of_none (H := ?nH) (o := ?nO) ?nh ?nn); (case nn => assumption); (case nh => walk_at "hp")))
local macro_rules | `(tactic| walk_at "len") => `(tactic| (rw [PySem.sizeLine_eq]; omega))
local macro_rules | `(tactic| walk_at "nin") => `(tactic| first
  | exact List.not_mem_nil
  | (refine L2.Rx.nin1 ?_; walk_at "ne"))
local macro_rules | `(tactic| walk_at "none") => `(tactic| first
  | assumption
  | (refine L2.Rx.Kp.none0 (by assumption) ?_ ?_; (focus walk_at "nin"); (focus walk_at "none")))
namespace L2.Ro
open PySem PySem.Spec PyProof.Rows L2.Rx
section
variable {P : Program} {w : World} {K : PySem.W.Frag} {mg : Str → Option Value} {base : Heap}
theorem k_made_by_name {f : Addr} {fd : FuncData} (F : Fun K "_law_made_by_name" "_law_made_by_name" s_made_by_name f fd) (g : mg "_law_made_by_name" = some (.ref f)) (z : Zb mg) {C : Nat → Addr} (er : Er P w K mg base C)  : Kn P w K mg base CX0 3 "_law_made_by_name" (sp_made C) := by
  refine ⟨f, fd, ["_law_a", "_law_b"], fnG_body F sc_made_by_name (fun vs H Q E h => ?_) (fun cdv A outer s H vs Q E hr h => ?_), g, F.kp, F.binds (fun _ _ _ _ _ _ us hl => match us, hl with | [_, _], _ => rfl)⟩
  · obtain ⟨a, b, rfl, _⟩ := h
    rfl
  · obtain ⟨a, b, rfl, q⟩ := h
    refine ⟨_, PSs.nox (pss_cons (ps_set (i := 2) sc_made_by_name.nd rfl (.inl rfl) (pe_lst (pa_cons (pe_mkN er.m1 er.g1 (by rfl)) (pa_cons (pe_mk1K er.m2 hr (by decide) er.g2 (by rfl) (pk_cons (pv 0) pk_nil) (by rfl)) (pa_cons (pe_mk1K er.m3 hr (by decide) er.g3 (by rfl) (pk_cons (pv 0) pk_nil) (by rfl)) (pa_cons (pe_mk1K er.m4 hr (by decide) er.g4 (by rfl) (pk_cons (pv 0) pk_nil) (by rfl)) (pa_cons (pe_mk1K er.m5 hr (by decide) er.g5 (by rfl) (pk_cons (pv 0) pk_nil) (by rfl)) (pa_cons (pe_mk1K er.m6 hr (by decide) er.g6 (by rfl) (pk_cons (pv 0) pk_nil) (by rfl)) pa_nil))))))))
      (pss_cons (ps_expr (show PE _ _ (tBM K _ _ _ _) from pe_bm PySem.F.plainAttrs_list PySem.F.slot_list_extend PySem.F.type_list_extend mt_extend (pv 2) (pa_cons (pe_lst (pa_cons (pe_mk1K er.m7 hr (by decide) er.g7 (by rfl) (pk_cons (pv 0) pk_nil) (by rfl)) (pa_cons (pe_mk2K er.m8 hr (by decide) er.g8 (by rfl) (pk_cons (pv 1) (pk_cons (pv 0) pk_nil)) (by rfl)) (pa_cons (pe_mk1K er.m9 hr (by decide) er.g9 (by rfl) (pk_cons (pv 0) pk_nil) (by rfl)) (pa_cons (pe_mk1K er.m10 hr (by decide) er.g10 (by rfl) (pk_cons (pv 0) pk_nil) (by rfl)) pa_nil))))) pa_nil)))
      (pss_cons (ps_expr (show PE _ _ (tBM K _ _ _ _) from pe_bm PySem.F.plainAttrs_list PySem.F.slot_list_extend PySem.F.type_list_extend mt_extend (pv 2) (pa_cons (pe_lst (pa_cons (pe_mkN er.m11 er.g11 (by rfl)) (pa_cons (pe_mk1K er.m12 hr (by decide) er.g12 (by rfl) (pk_cons (pv 0) pk_nil) (by rfl)) (pa_cons (pe_mk1K er.m13 hr (by decide) er.g13 (by rfl) (pk_cons (pv 0) pk_nil) (by rfl)) (pa_cons (pe_mk1K er.m14 hr (by decide) er.g14 (by rfl) (pk_cons (pv 0) pk_nil) (by rfl)) (pa_cons (pe_mkN er.m15 er.g15 (by rfl)) pa_nil)))))) pa_nil)))
      (pss_one (ps_ret (pe_op op_cat (pv 2) (pe_lst (pa_cons (pe_mkN er.m16 er.g16 (by rfl)) (pa_cons (pe_mk1K er.m17 hr (by decide) er.g17 (by rfl) (pk_cons (pv 0) pk_nil) (by rfl)) (pa_cons (pe_mk1K er.m18 hr (by decide) er.g18 (by rfl) (pk_cons (pv 0) pk_nil) (by rfl)) pa_nil)))))))))), ?_⟩
    refine r_seq (r_asg ?_)
    refine (mka_cons mke0 (mka_cons (mke1K er.m2 rfl) (mka_cons (mke1K er.m3 rfl) (mka_cons (mke1K er.m4 rfl) (mka_cons (mke1K er.m5 rfl) (mka_cons (mke1K er.m6 rfl) mka_nil)))))) H _ fun ys1 H1 k1 x1 => ?_
    have l1 : ys1.length = 6 := x1.len
    refine ⟨by rw [l1, sizeLine_eq]; decide, fun fo nfo => ?_⟩
    refine gen_new nfo fun H2 k2 hfo => ?_
    refine r_gname ?_
    have x2 := x1.keep0 k2
    have nfH : H fo = none := k1.none0 (by simp) nfo
    refine r_seq (r_drop (r_bm (r_var rfl ⟨.inl ⟨rfl, _, .inl (.inl hfo)⟩, r_cons ?_⟩)))
    refine (mka_cons (mke1K er.m7 rfl) (mka_cons (mke2K er.m8 rfl rfl) (mka_cons (mke1K er.m9 rfl) (mka_cons (mke1K er.m10 rfl) mka_nil)))) H2 _ fun ysa Ha ka xa => ?_
    have la : ysa.length = 4 := xa.len
    refine ⟨by rw [la, sizeLine_eq]; decide, fun p np => ?_⟩
    refine gen_new np fun Hb kb hp => ?_
    refine r_nil ?_
    have hfb := kb.at0 (ka.at0 hfo)
    refine r_extend hfb hp (by rw [la]; first | (rw [l1]; decide) | (rw [List.length_append, l1]; simp [*]) | (simp [*])) ?_
    refine gen_put fun H3 kc hfc => ?_
    have only : ∀ z ∈ [fo], ∃ xs, Hb z = some (.lst xs) := fun z hz => by
      rw [show z = fo by simpa using hz]
      exact ⟨_, hfb⟩
    have x3 := ExAll.append ((x2.keep0 (ka.trans kb)).keep kc only) ((xa.keep0 kb).keep kc only)
    replace hfo := hfc
    have kk3 : Kp [fo] H2 H3 := (Kp.to1 (ka.trans kb)).trans kc
    clear only hfb hfc
    have le3 := x3.len
    refine r_seq (r_drop (r_bm (r_var rfl ⟨.inl ⟨rfl, _, .inl (.inl hfo)⟩, r_cons ?_⟩)))
    refine (mka_cons mke0 (mka_cons (mke1K er.m12 rfl) (mka_cons (mke1K er.m13 rfl) (mka_cons (mke1K er.m14 rfl) (mka_cons mke0 mka_nil))))) H3 _ fun ysa Ha ka xa => ?_
    have la : ysa.length = 5 := xa.len
    refine ⟨by rw [la, sizeLine_eq]; decide, fun p np => ?_⟩
    refine gen_new np fun Hb kb hp => ?_
    refine r_nil ?_
    have hfb := kb.at0 (ka.at0 hfo)
    refine r_extend hfb hp (by rw [la]; first | (rw [l1]; decide) | (rw [List.length_append, l1]; simp [*]) | (simp [*])) ?_
    refine gen_put fun H4 kc hfc => ?_
    have only : ∀ z ∈ [fo], ∃ xs, Hb z = some (.lst xs) := fun z hz => by
      rw [show z = fo by simpa using hz]
      exact ⟨_, hfb⟩
    have x4 := ExAll.append ((x3.keep0 (ka.trans kb)).keep kc only) ((xa.keep0 kb).keep kc only)
    replace hfo := hfc
    have kk4 : Kp [fo] H2 H4 := kk3.trans ((Kp.to1 (ka.trans kb)).trans kc)
    clear only hfb hfc
    have le4 := x4.len
    refine r_ret (r_op (r_var rfl (r_lst ?_)))
    refine (mka_cons mke0 (mka_cons (mke1K er.m17 rfl) (mka_cons (mke1K er.m18 rfl) mka_nil))) H4 _ fun ysa Ha ka xa => ?_
    have la : ysa.length = 3 := xa.len
    refine ⟨by rw [la, sizeLine_eq]; decide, fun p np => ?_⟩
    refine gen_new np fun Hb kb hp => ?_
    refine ⟨_, _, _, _, rfl, rfl, kb.at0 (ka.at0 hfo), hp, by rw [la, le4, sizeLine_eq]; simp [*], fun r nr => ?_⟩
    refine gen_new nr fun Hc kc hr2 => ?_
    have kall : Kp [] H Hc := ((k1.trans k2).dropT (kk4.trans (Kp.to1 ((ka.trans kb).trans kc))) fun z hz => .inr (by rw [show z = fo by simpa using hz]; exact nfH))
    refine q Hc r _ kall ?_ hr2 ?_
    · exact Kp.none0 ((k1.trans k2).dropT (kk4.trans (Kp.to1 (ka.trans kb))) fun z hz => .inr (by rw [show z = fo by simpa using hz]; exact nfH)) (by simp) nr
    · exact ExAll.append (x4.keep0 ((ka.trans kb).trans kc)) (xa.keep0 (kb.trans kc))
end
end L2.Ro

end
section
set_option Elab.async false
set_option linter.all false
set_option maxRecDepth 100000
set_option maxHeartbeats 4000000
local macro_rules | `(tactic| walk_at "rd1") => `(tactic| with_reducible first
  | refine L2.Rx.r_seq ?_ | refine L2.Rx.r_asg ?_ | refine L2.Rx.r_gname ?_ | refine L2.Rx.r_op ?_ | refine L2.Rx.r_c ?_
  | refine L2.Rx.r_var rfl ?_
  | refine L2.Rx.r_rI0 ?_ | refine L2.Rx.r_test ?_ | refine L2.Rx.r_bl ?_ | refine L2.Rx.r_if ?_ | refine L2.Rx.r_ret ?_
  | refine L2.Rx.r_cons ?_ | refine L2.Rx.r_nil ?_ | refine L2.Rx.r_call ?_ | refine L2.Rx.r_cb ?_ | refine L2.Rx.r_next ?_ | refine L2.Rx.r_drop ?_
  | refine L2.Rx.r_gsub ?_ | refine L2.Rx.r_tupF ?_ | refine L2.Rx.r_lst ?_ | refine L2.Rx.r_par ?_ | refine L2.Rx.r_par2 ?_
  | refine L2.Rx.r_un ?_ | refine L2.Rx.r_tb ?_ | refine L2.Rx.r_and ?_ | refine L2.Rx.r_or ?_ | refine L2.Rx.r_not ?_
  | refine L2.Rx.r_andV ?_ | refine L2.Rx.r_orV ?_ | refine L2.Rx.r_notV ?_ | refine L2.Rx.r_ifx ?_ | refine L2.Rx.r_chain ?_
  | refine L2.Rx.r_sl ?_ | refine L2.Rx.r_nopart ?_ | refine L2.Rx.r_part ?_ | refine L2.Rx.r_exint ?_ | refine L2.Rx.r_bm0 ?_ | refine L2.Rx.r_bm ?_
  | refine L2.Rx.r_lc ?_ | refine L2.Rx.r_rng1 ?_ | refine L2.Rx.r_yes ?_ | refine L2.Rx.r_tt ?_ | refine L2.Rx.r_ff ?_ | refine L2.Rx.r_m1 ?_ | refine L2.Rx.r_m0 ?_ | refine L2.Rx.r_isS ?_
  | (refine L2.Rx.r_wipe (by with_unfolding_all rfl) ?_) | (refine L2.Rx.r_tyL (by walk_at "hp") ?_)
  | refine L2.Rx.r_addS (by walk_at "len") ?_ | refine L2.Rx.r_lenS (by walk_at "len") ?_ | refine L2.Rx.r_slS (by walk_at "len") ?_
  | refine L2.Rx.r_dnotin ?_ | refine L2.Rx.r_dget ?_ | refine L2.Rx.r_dget1 ?_ | refine L2.Rx.r_dput ?_ | refine L2.Rx.r_dpop1 ?_ | refine L2.Rx.r_isN ?_
  | refine L2.Rx.r_for ?_ | refine L2.Rx.r_ilist ?_ | refine L2.Rx.r_itup ?_
  | refine L2.Rx.r_gcons ?_ | refine L2.Rx.r_gnil ?_ | (refine L2.Rx.r_gtupP (by assumption) (by walk_at "at") ?_)
  | (refine L2.Rx.r_rEq rfl ?_) | (refine L2.Rx.r_rNe rfl ?_)
  | refine L2.Rx.r_rU ?_ | refine L2.Rx.r_max2 ?_ | refine L2.Rx.r_min2 ?_ | refine L2.Rx.r_int1i ?_ | (refine L2.Rx.r_lenh (by walk_at "hp") ?_)
  | (refine L2.Rx.r_ixLh (by walk_at "hp") (by walk_at "at") ?_)
  | (refine L2.Rx.r_setL (by walk_at "hp") (by walk_at "at") ?_))
local macro_rules | `(tactic| walk_at "at") => `(tactic| with_unfolding_all rfl)
local macro_rules | `(tactic| walk_at "rd") => `(tactic| (repeat walk_at "rd1"))
local macro_rules | `(tactic| walk_at "hp") => `(tactic| first
  | assumption
  | exact L2.upd_same
  | (refine Eq.trans (L2.upd_ne ?_) ?_; (focus walk_at "ne"); (focus walk_at "hp"))
  | (refine L2.Rx.Kp.at0 (by assumption) ?_; walk_at "hp")
  | (refine L2.Rx.Kp.at1 (by assumption) ?_ ?_; (focus walk_at "ne"); (focus walk_at "hp")))
local macro_rules | `(tactic| walk_at "ne") => `(tactic| first
  | assumption | exact Ne.symm (by assumption)
  | (refine L2.ne_of_none (H := ?nH) (o := ?nO) ?nh ?nn; (case nn => assumption); (case nh => walk_at "hp"))
  | (refine Ne.symm (L2.ne_of_none (H := ?nH) (o := ?nO) ?nh ?nn); (case nn => assumption); (case nh => walk_at "hp")))
local macro_rules | `(tactic| walk_at "len") => `(tactic| (rw [PySem.sizeLine_eq]; omega))
local macro_rules | `(tactic| walk_at "nin") => `(tactic| first
  | exact List.not_mem_nil
  | (refine L2.Rx.nin1 ?_; walk_at "ne"))
local macro_rules | `(tactic| walk_at "none") => `(tactic| first
  | assumption
  | (refine L2.Rx.Kp.none0 (by assumption) ?_ ?_; (focus walk_at "nin"); (focus walk_at "none")))
namespace L2.Ro
open PySem PySem.Spec PyProof.Rows L2.Rx
def sp_kinds (C : Nat → Addr) : Sp := fun vs H Q _ => ∃ (x : V) (j : Nat) (fs : List (Str × V)), vs = [x] ∧ j < 18 ∧ Ex H x (C (j + 1)) fs ∧ ∀ (H' : Hp) (l : Addr), Kp [] H H' → H l = none → H' l = some (.lst ((List.range 18).map fun i => V.bl (decide (j = i)))) → Q (.ref l) H'
section
variable {P : Program} {w : World} {K : PySem.W.Frag} {mg : Str → Option Value} {base : Heap}
theorem k_kinds {f : Addr} {fd : FuncData} (F : Fun K "_law_kinds" "_law_kinds" s_kinds f fd) (g : mg "_law_kinds" = some (.ref f)) (z : Zb mg) {C : Nat → Addr} (er : Er P w K mg base C)  : Kn P w K mg base CX0 1 "_law_kinds" (sp_kinds C) := by
  refine ⟨f, fd, ["_law_item"], fnG_body F sc_kinds (fun vs H Q E h => ?_) (fun cdv A outer s H vs Q E hr h => ?_), g, F.kp, F.binds (fun _ _ _ _ _ _ us hl => match us, hl with | [_], _ => rfl)⟩
  · obtain ⟨x, j, fs, rfl, _⟩ := h
    rfl
  · obtain ⟨x, j, fs, rfl, hj, hx, q⟩ := h
    refine ⟨_, PSs.nox (pss_cons (ps_set (i := 1) sc_kinds.nd rfl (.inl rfl) (pe_lst (pa_cons (pe_callB (show CallR _ _ (rIsX K) from call_isX er.cs) (by rfl) z.n_isinstance (by decide +kernel) (pa_cons (pv 0) (pa_cons (pe_glob (v := V.ref (C 1)) (by rfl) er.g1 rfl) pa_nil))) (pa_cons (pe_callB (show CallR _ _ (rIsX K) from call_isX er.cs) (by rfl) z.n_isinstance (by decide +kernel) (pa_cons (pv 0) (pa_cons (pe_glob (v := V.ref (C 2)) (by rfl) er.g2 rfl) pa_nil))) (pa_cons (pe_callB (show CallR _ _ (rIsX K) from call_isX er.cs) (by rfl) z.n_isinstance (by decide +kernel) (pa_cons (pv 0) (pa_cons (pe_glob (v := V.ref (C 3)) (by rfl) er.g3 rfl) pa_nil))) (pa_cons (pe_callB (show CallR _ _ (rIsX K) from call_isX er.cs) (by rfl) z.n_isinstance (by decide +kernel) (pa_cons (pv 0) (pa_cons (pe_glob (v := V.ref (C 4)) (by rfl) er.g4 rfl) pa_nil))) pa_nil))))))
      (pss_cons (ps_expr (show PE _ _ (tBM K _ _ _ _) from pe_bm PySem.F.plainAttrs_list PySem.F.slot_list_extend PySem.F.type_list_extend mt_extend (pv 1) (pa_cons (pe_lst (pa_cons (pe_callB (show CallR _ _ (rIsX K) from call_isX er.cs) (by rfl) z.n_isinstance (by decide +kernel) (pa_cons (pv 0) (pa_cons (pe_glob (v := V.ref (C 5)) (by rfl) er.g5 rfl) pa_nil))) (pa_cons (pe_callB (show CallR _ _ (rIsX K) from call_isX er.cs) (by rfl) z.n_isinstance (by decide +kernel) (pa_cons (pv 0) (pa_cons (pe_glob (v := V.ref (C 6)) (by rfl) er.g6 rfl) pa_nil))) (pa_cons (pe_callB (show CallR _ _ (rIsX K) from call_isX er.cs) (by rfl) z.n_isinstance (by decide +kernel) (pa_cons (pv 0) (pa_cons (pe_glob (v := V.ref (C 7)) (by rfl) er.g7 rfl) pa_nil))) pa_nil)))) pa_nil)))
      (pss_cons (ps_expr (show PE _ _ (tBM K _ _ _ _) from pe_bm PySem.F.plainAttrs_list PySem.F.slot_list_extend PySem.F.type_list_extend mt_extend (pv 1) (pa_cons (pe_lst (pa_cons (pe_callB (show CallR _ _ (rIsX K) from call_isX er.cs) (by rfl) z.n_isinstance (by decide +kernel) (pa_cons (pv 0) (pa_cons (pe_glob (v := V.ref (C 8)) (by rfl) er.g8 rfl) pa_nil))) (pa_cons (pe_callB (show CallR _ _ (rIsX K) from call_isX er.cs) (by rfl) z.n_isinstance (by decide +kernel) (pa_cons (pv 0) (pa_cons (pe_glob (v := V.ref (C 9)) (by rfl) er.g9 rfl) pa_nil))) (pa_cons (pe_callB (show CallR _ _ (rIsX K) from call_isX er.cs) (by rfl) z.n_isinstance (by decide +kernel) (pa_cons (pv 0) (pa_cons (pe_glob (v := V.ref (C 10)) (by rfl) er.g10 rfl) pa_nil))) pa_nil)))) pa_nil)))
      (pss_cons (ps_expr (show PE _ _ (tBM K _ _ _ _) from pe_bm PySem.F.plainAttrs_list PySem.F.slot_list_extend PySem.F.type_list_extend mt_extend (pv 1) (pa_cons (pe_lst (pa_cons (pe_callB (show CallR _ _ (rIsX K) from call_isX er.cs) (by rfl) z.n_isinstance (by decide +kernel) (pa_cons (pv 0) (pa_cons (pe_glob (v := V.ref (C 11)) (by rfl) er.g11 rfl) pa_nil))) (pa_cons (pe_callB (show CallR _ _ (rIsX K) from call_isX er.cs) (by rfl) z.n_isinstance (by decide +kernel) (pa_cons (pv 0) (pa_cons (pe_glob (v := V.ref (C 12)) (by rfl) er.g12 rfl) pa_nil))) (pa_cons (pe_callB (show CallR _ _ (rIsX K) from call_isX er.cs) (by rfl) z.n_isinstance (by decide +kernel) (pa_cons (pv 0) (pa_cons (pe_glob (v := V.ref (C 13)) (by rfl) er.g13 rfl) pa_nil))) pa_nil)))) pa_nil)))
      (pss_cons (ps_expr (show PE _ _ (tBM K _ _ _ _) from pe_bm PySem.F.plainAttrs_list PySem.F.slot_list_extend PySem.F.type_list_extend mt_extend (pv 1) (pa_cons (pe_lst (pa_cons (pe_callB (show CallR _ _ (rIsX K) from call_isX er.cs) (by rfl) z.n_isinstance (by decide +kernel) (pa_cons (pv 0) (pa_cons (pe_glob (v := V.ref (C 14)) (by rfl) er.g14 rfl) pa_nil))) (pa_cons (pe_callB (show CallR _ _ (rIsX K) from call_isX er.cs) (by rfl) z.n_isinstance (by decide +kernel) (pa_cons (pv 0) (pa_cons (pe_glob (v := V.ref (C 15)) (by rfl) er.g15 rfl) pa_nil))) (pa_cons (pe_callB (show CallR _ _ (rIsX K) from call_isX er.cs) (by rfl) z.n_isinstance (by decide +kernel) (pa_cons (pv 0) (pa_cons (pe_glob (v := V.ref (C 16)) (by rfl) er.g16 rfl) pa_nil))) pa_nil)))) pa_nil)))
      (pss_one (ps_ret (pe_op op_cat (pv 1) (pe_lst (pa_cons (pe_callB (show CallR _ _ (rIsX K) from call_isX er.cs) (by rfl) z.n_isinstance (by decide +kernel) (pa_cons (pv 0) (pa_cons (pe_glob (v := V.ref (C 17)) (by rfl) er.g17 rfl) pa_nil))) (pa_cons (pe_callB (show CallR _ _ (rIsX K) from call_isX er.cs) (by rfl) z.n_isinstance (by decide +kernel) (pa_cons (pv 0) (pa_cons (pe_glob (v := V.ref (C 18)) (by rfl) er.g18 rfl) pa_nil))) pa_nil))))))))))), ?_⟩
    have T := er.ec j hj
    refine r_seq (r_asg ?_)
    refine (isa_cons T rfl (er.kit j 0 hj (by decide)) (.own _) (isa_cons T rfl (er.kit j 1 hj (by decide)) (.own _) (isa_cons T rfl (er.kit j 2 hj (by decide)) (.own _) (isa_cons T rfl (er.kit j 3 hj (by decide)) (.own _) isa_nil)))) H _ hx ?_
    refine r_new rfl fun fo nfo => ?_
    refine gen_new nfo fun H2 k2 hfo => ?_
    refine r_gname ?_
    have kk2 : Kp [fo] H2 H2 := Kp.refl
    have x2 := hx.keep0 k2
    refine r_seq (r_drop (r_bm (r_var rfl ⟨.inl ⟨rfl, _, .inl (.inl hfo)⟩, r_cons ?_⟩)))
    refine (isa_cons T rfl (er.kit j 4 hj (by decide)) (.own _) (isa_cons T rfl (er.kit j 5 hj (by decide)) (.own _) (isa_cons T rfl (er.kit j 6 hj (by decide)) (.own _) isa_nil))) H2 _ x2 ?_
    refine r_new rfl fun p np => ?_
    refine gen_new np fun Hb kb hp => ?_
    refine r_nil ?_
    have hfb := kb.at0 hfo
    refine r_extend hfb hp (by simp) ?_
    refine gen_put fun H3 kc hfc => ?_
    have only : ∀ z ∈ [fo], ∃ xs, Hb z = some (.lst xs) := fun z hz => by
      rw [show z = fo by simpa using hz]
      exact ⟨_, hfb⟩
    have x3 := (x2.keep0 kb).keep kc only
    replace hfo := hfc
    have kk3 : Kp [fo] H2 H3 := kk2.trans ((Kp.to1 kb).trans kc)
    clear only hfb hfc
    refine r_seq (r_drop (r_bm (r_var rfl ⟨.inl ⟨rfl, _, .inl (.inl hfo)⟩, r_cons ?_⟩)))
    refine (isa_cons T rfl (er.kit j 7 hj (by decide)) (.own _) (isa_cons T rfl (er.kit j 8 hj (by decide)) (.own _) (isa_cons T rfl (er.kit j 9 hj (by decide)) (.own _) isa_nil))) H3 _ x3 ?_
    refine r_new rfl fun p np => ?_
    refine gen_new np fun Hb kb hp => ?_
    refine r_nil ?_
    have hfb := kb.at0 hfo
    refine r_extend hfb hp (by simp) ?_
    refine gen_put fun H4 kc hfc => ?_
    have only : ∀ z ∈ [fo], ∃ xs, Hb z = some (.lst xs) := fun z hz => by
      rw [show z = fo by simpa using hz]
      exact ⟨_, hfb⟩
    have x4 := (x3.keep0 kb).keep kc only
    replace hfo := hfc
    have kk4 : Kp [fo] H2 H4 := kk3.trans ((Kp.to1 kb).trans kc)
    clear only hfb hfc
    refine r_seq (r_drop (r_bm (r_var rfl ⟨.inl ⟨rfl, _, .inl (.inl hfo)⟩, r_cons ?_⟩)))
    refine (isa_cons T rfl (er.kit j 10 hj (by decide)) (.own _) (isa_cons T rfl (er.kit j 11 hj (by decide)) (.own _) (isa_cons T rfl (er.kit j 12 hj (by decide)) (.own _) isa_nil))) H4 _ x4 ?_
    refine r_new rfl fun p np => ?_
    refine gen_new np fun Hb kb hp => ?_
    refine r_nil ?_
    have hfb := kb.at0 hfo
    refine r_extend hfb hp (by simp) ?_
    refine gen_put fun H5 kc hfc => ?_
    have only : ∀ z ∈ [fo], ∃ xs, Hb z = some (.lst xs) := fun z hz => by
      rw [show z = fo by simpa using hz]
      exact ⟨_, hfb⟩
    have x5 := (x4.keep0 kb).keep kc only
    replace hfo := hfc
    have kk5 : Kp [fo] H2 H5 := kk4.trans ((Kp.to1 kb).trans kc)
    clear only hfb hfc
    refine r_seq (r_drop (r_bm (r_var rfl ⟨.inl ⟨rfl, _, .inl (.inl hfo)⟩, r_cons ?_⟩)))
    refine (isa_cons T rfl (er.kit j 13 hj (by decide)) (.own _) (isa_cons T rfl (er.kit j 14 hj (by decide)) (.own _) (isa_cons T rfl (er.kit j 15 hj (by decide)) (.own _) isa_nil))) H5 _ x5 ?_
    refine r_new rfl fun p np => ?_
    refine gen_new np fun Hb kb hp => ?_
    refine r_nil ?_
    have hfb := kb.at0 hfo
    refine r_extend hfb hp (by simp) ?_
    refine gen_put fun H6 kc hfc => ?_
    have only : ∀ z ∈ [fo], ∃ xs, Hb z = some (.lst xs) := fun z hz => by
      rw [show z = fo by simpa using hz]
      exact ⟨_, hfb⟩
    have x6 := (x5.keep0 kb).keep kc only
    replace hfo := hfc
    have kk6 : Kp [fo] H2 H6 := kk5.trans ((Kp.to1 kb).trans kc)
    clear only hfb hfc
    refine r_ret (r_op (r_var rfl (r_lst ?_)))
    refine (isa_cons T rfl (er.kit j 16 hj (by decide)) (.own _) (isa_cons T rfl (er.kit j 17 hj (by decide)) (.own _) isa_nil)) H6 _ x6 ?_
    refine r_new rfl fun p np => ?_
    refine gen_new np fun Hb kb hp => ?_
    refine ⟨_, _, _, _, rfl, rfl, kb.at0 hfo, hp, by rw [sizeLine_eq]; simp, fun r nr => ?_⟩
    refine gen_new nr fun Hc kc hr2 => ?_
    have kl : Kp [] H Hb := k2.dropT (kk6.trans (Kp.to1 kb)) fun z hz => .inr (by rw [show z = fo by simpa using hz]; exact nfo)
    exact q Hc r (kl.trans kc) (kl.none0 (by simp) nr) hr2
end
end L2.Ro

end
section
set_option Elab.async false
set_option linter.all false
set_option maxRecDepth 100000
set_option maxHeartbeats 4000000
local macro_rules | `(tactic| walk_at "rd1") => `(tactic| with_reducible first
  | refine L2.Rx.r_seq ?_ | refine L2.Rx.r_asg ?_ | refine L2.Rx.r_gname ?_ | refine L2.Rx.r_op ?_ | refine L2.Rx.r_c ?_
  | refine L2.Rx.r_var rfl ?_
  | refine L2.Rx.r_rI0 ?_ | refine L2.Rx.r_test ?_ | refine L2.Rx.r_bl ?_ | refine L2.Rx.r_if ?_ | refine L2.Rx.r_ret ?_
  | refine L2.Rx.r_cons ?_ | refine L2.Rx.r_nil ?_ | refine L2.Rx.r_call ?_ | refine L2.Rx.r_cb ?_ | refine L2.Rx.r_next ?_ | refine L2.Rx.r_drop ?_
  | refine L2.Rx.r_gsub ?_ | refine L2.Rx.r_tupF ?_ | refine L2.Rx.r_lst ?_ | refine L2.Rx.r_par ?_ | refine L2.Rx.r_par2 ?_
  | refine L2.Rx.r_un ?_ | refine L2.Rx.r_tb ?_ | refine L2.Rx.r_and ?_ | refine L2.Rx.r_or ?_ | refine L2.Rx.r_not ?_
  | refine L2.Rx.r_andV ?_ | refine L2.Rx.r_orV ?_ | refine L2.Rx.r_notV ?_ | refine L2.Rx.r_ifx ?_ | refine L2.Rx.r_chain ?_
  | refine L2.Rx.r_sl ?_ | refine L2.Rx.r_nopart ?_ | refine L2.Rx.r_part ?_ | refine L2.Rx.r_exint ?_ | refine L2.Rx.r_bm0 ?_ | refine L2.Rx.r_bm ?_
  | refine L2.Rx.r_lc ?_ | refine L2.Rx.r_rng1 ?_ | refine L2.Rx.r_yes ?_ | refine L2.Rx.r_tt ?_ | refine L2.Rx.r_ff ?_ | refine L2.Rx.r_m1 ?_ | refine L2.Rx.r_m0 ?_ | refine L2.Rx.r_isS ?_
  | (refine L2.Rx.r_wipe (by with_unfolding_all rfl) ?_) | (refine L2.Rx.r_tyL (by walk_at "hp") ?_)
  | refine L2.Rx.r_addS (by walk_at "len") ?_ | refine L2.Rx.r_lenS (by walk_at "len") ?_ | refine L2.Rx.r_slS (by walk_at "len") ?_
  | refine L2.Rx.r_dnotin ?_ | refine L2.Rx.r_dget ?_ | refine L2.Rx.r_dget1 ?_ | refine L2.Rx.r_dput ?_ | refine L2.Rx.r_dpop1 ?_ | refine L2.Rx.r_isN ?_
  | refine L2.Rx.r_for ?_ | refine L2.Rx.r_ilist ?_ | refine L2.Rx.r_itup ?_
  | refine L2.Rx.r_gcons ?_ | refine L2.Rx.r_gnil ?_ | (refine L2.Rx.r_gtupP (by assumption) (by walk_at "at") ?_)
  | (refine L2.Rx.r_rEq rfl ?_) | (refine L2.Rx.r_rNe rfl ?_)
  | refine L2.Rx.r_rU ?_ | refine L2.Rx.r_max2 ?_ | refine L2.Rx.r_min2 ?_ | refine L2.Rx.r_int1i ?_ | (refine L2.Rx.r_lenh (by walk_at "hp") ?_)
  | (refine L2.Rx.r_ixLh (by walk_at "hp") (by walk_at "at") ?_)
  | (refine L2.Rx.r_setL (by walk_at "hp") (by walk_at "at") ?_))
local macro_rules | `(tactic| walk_at "at") => `(tactic| with_unfolding_all rfl)
local macro_rules | `(tactic| walk_at "rd") => `(tactic| (repeat walk_at "rd1"))
local macro_rules | `(tactic| walk_at "hp") => `(tactic| first
  | assumption
  | exact L2.upd_same
  | (refine Eq.trans (L2.upd_ne ?_) ?_; (focus walk_at "ne"); (focus walk_at "hp"))
  | (refine L2.Rx.Kp.at0 (by assumption) ?_; walk_at "hp")
  | (refine L2.Rx.Kp.at1 (by assumption) ?_ ?_; (focus walk_at "ne"); (focus walk_at "hp")))
local macro_rules | `(tactic| walk_at "ne") => `(tactic| first
  | assumption | exact Ne.symm (by assumption)
  | (refine L2.ne_of_none (H := ?nH) (o := ?nO) ?nh ?nn; (case nn => assumption); (case nh => walk_at "hp"))
  | (refine Ne.symm (L2.ne_of_none (H := ?nH) (o := ?nO) ?nh ?nn); (case nn => assumption); (case nh => walk_at "hp")))
local macro_rules | `(tactic| walk_at "len") => `(tactic| (rw [PySem.sizeLine_eq]; omega))
local macro_rules | `(tactic| walk_at "nin") => `(tactic| first
  | exact List.not_mem_nil
  | (refine L2.Rx.nin1 ?_; walk_at "ne"))
local macro_rules | `(tactic| walk_at "none") => `(tactic| first
  | assumption
  | (refine L2.Rx.Kp.none0 (by assumption) ?_ ?_; (focus walk_at "nin"); (focus walk_at "none")))
namespace L2.Ro
open PySem PySem.Spec PyProof.Rows L2.Rx
def sp_fields (C : Nat → Addr) : Sp := fun vs H Q _ => ∃ (x : V) (j : Nat) (a b : V), vs = [x] ∧ j < 18 ∧ Ex H x (C (j + 1)) (fsOf a b j) ∧ ∀ (H' : Hp) (l : Addr), Kp [] H H' → H l = none → l ≠ sysModules → H' l = some (.lst (fvOf a b j)) → Q (.ref l) H'
section
variable {P : Program} {w : World} {K : PySem.W.Frag} {mg : Str → Option Value} {base : Heap}
theorem k_fields {f : Addr} {fd : FuncData} (F : Fun K "_law_fields" "_law_fields" s_fields f fd) (g : mg "_law_fields" = some (.ref f)) (z : Zb mg) {C : Nat → Addr} (er : Er P w K mg base C)  : Kn P w K mg base CX0 1 "_law_fields" (sp_fields C) := by
  refine ⟨f, fd, ["_law_item"], fnG_body F sc_fields (fun vs H Q E h => ?_) (fun cdv A outer s H vs Q E hr h => ?_), g, F.kp, F.binds (fun _ _ _ _ _ _ us hl => match us, hl with | [_], _ => rfl)⟩
  · obtain ⟨x, j, a, b, rfl, _⟩ := h
    rfl
  · obtain ⟨x, j, a, b, rfl, hj, hx, q⟩ := h
    refine ⟨_, PSs.nox (pss_cons (ps_if (pt_val (pe_callB (show CallR _ _ (rIsX K) from call_isX er.cs) (by rfl) z.n_isinstance (by decide +kernel) (pa_cons (pv 0) (pa_cons (pe_glob (v := V.ref (C 2)) (by rfl) er.g2 rfl) pa_nil))))
        (pss_one (ps_ret (pe_lstB (pa_cons (show PE _ _ (tXat K "group" _) from pe_xat (pv 0)) pa_nil))))
        pss_nil)
      (pss_cons (ps_if (pt_val (pe_callB (show CallR _ _ (rIsXT K) from call_isXT er.cs) (by rfl) z.n_isinstance (by decide +kernel) (pa_cons (pv 0) (pa_cons (pe_tupF (pa_cons (pe_glob (v := V.ref (C 3)) (by rfl) er.g3 rfl) (pa_cons (pe_glob (v := V.ref (C 4)) (by rfl) er.g4 rfl) pa_nil))) pa_nil))))
        (pss_one (ps_ret (pe_lstB (pa_cons (show PE _ _ (tXat K "log" _) from pe_xat (pv 0)) pa_nil))))
        pss_nil)
      (pss_cons (ps_if (pt_val (pe_callB (show CallR _ _ (rIsX K) from call_isX er.cs) (by rfl) z.n_isinstance (by decide +kernel) (pa_cons (pv 0) (pa_cons (pe_glob (v := V.ref (C 5)) (by rfl) er.g5 rfl) pa_nil))))
        (pss_one (ps_ret (pe_lstB (pa_cons (show PE _ _ (tXat K "value" _) from pe_xat (pv 0)) pa_nil))))
        pss_nil)
      (pss_cons (ps_if (pt_val (pe_callB (show CallR _ _ (rIsX K) from call_isX er.cs) (by rfl) z.n_isinstance (by decide +kernel) (pa_cons (pv 0) (pa_cons (pe_glob (v := V.ref (C 6)) (by rfl) er.g6 rfl) pa_nil))))
        (pss_one (ps_ret (pe_lstB (pa_cons (show PE _ _ (tXat K "order" _) from pe_xat (pv 0)) pa_nil))))
        pss_nil)
      (pss_cons (ps_if (pt_val (pe_callB (show CallR _ _ (rIsX K) from call_isX er.cs) (by rfl) z.n_isinstance (by decide +kernel) (pa_cons (pv 0) (pa_cons (pe_glob (v := V.ref (C 7)) (by rfl) er.g7 rfl) pa_nil))))
        (pss_one (ps_ret (pe_lstB (pa_cons (show PE _ _ (tXat K "cell" _) from pe_xat (pv 0)) pa_nil))))
        pss_nil)
      (pss_cons (ps_if (pt_val (pe_callB (show CallR _ _ (rIsX K) from call_isX er.cs) (by rfl) z.n_isinstance (by decide +kernel) (pa_cons (pv 0) (pa_cons (pe_glob (v := V.ref (C 8)) (by rfl) er.g8 rfl) pa_nil))))
        (pss_one (ps_ret (pe_lstB (pa_cons (show PE _ _ (tXat K "one" _) from pe_xat (pv 0)) (pa_cons (show PE _ _ (tXat K "other" _) from pe_xat (pv 0)) pa_nil)))))
        pss_nil)
      (pss_cons (ps_if (pt_val (pe_callB (show CallR _ _ (rIsX K) from call_isX er.cs) (by rfl) z.n_isinstance (by decide +kernel) (pa_cons (pv 0) (pa_cons (pe_glob (v := V.ref (C 9)) (by rfl) er.g9 rfl) pa_nil))))
        (pss_one (ps_ret (pe_lstB (pa_cons (show PE _ _ (tXat K "snapshot" _) from pe_xat (pv 0)) pa_nil))))
        pss_nil)
      (pss_cons (ps_if (pt_val (pe_callB (show CallR _ _ (rIsX K) from call_isX er.cs) (by rfl) z.n_isinstance (by decide +kernel) (pa_cons (pv 0) (pa_cons (pe_glob (v := V.ref (C 10)) (by rfl) er.g10 rfl) pa_nil))))
        (pss_one (ps_ret (pe_lstB (pa_cons (show PE _ _ (tXat K "place" _) from pe_xat (pv 0)) pa_nil))))
        pss_nil)
      (pss_cons (ps_if (pt_val (pe_callB (show CallR _ _ (rIsX K) from call_isX er.cs) (by rfl) z.n_isinstance (by decide +kernel) (pa_cons (pv 0) (pa_cons (pe_glob (v := V.ref (C 12)) (by rfl) er.g12 rfl) pa_nil))))
        (pss_one (ps_ret (pe_lstB (pa_cons (show PE _ _ (tXat K "limit" _) from pe_xat (pv 0)) pa_nil))))
        pss_nil)
      (pss_cons (ps_if (pt_val (pe_callB (show CallR _ _ (rIsX K) from call_isX er.cs) (by rfl) z.n_isinstance (by decide +kernel) (pa_cons (pv 0) (pa_cons (pe_glob (v := V.ref (C 13)) (by rfl) er.g13 rfl) pa_nil))))
        (pss_one (ps_ret (pe_lstB (pa_cons (show PE _ _ (tXat K "sizes" _) from pe_xat (pv 0)) pa_nil))))
        pss_nil)
      (pss_cons (ps_if (pt_val (pe_callB (show CallR _ _ (rIsX K) from call_isX er.cs) (by rfl) z.n_isinstance (by decide +kernel) (pa_cons (pv 0) (pa_cons (pe_glob (v := V.ref (C 14)) (by rfl) er.g14 rfl) pa_nil))))
        (pss_one (ps_ret (pe_lstB (pa_cons (show PE _ _ (tXat K "results" _) from pe_xat (pv 0)) pa_nil))))
        pss_nil)
      (pss_one (ps_ret (pe_ifExp (pt_val (pe_callB (show CallR _ _ (rIsXT K) from call_isXT er.cs) (by rfl) z.n_isinstance (by decide +kernel) (pa_cons (pv 0) (pa_cons (pe_tupF (pa_cons (pe_glob (v := V.ref (C 17)) (by rfl) er.g17 rfl) (pa_cons (pe_glob (v := V.ref (C 18)) (by rfl) er.g18 rfl) pa_nil))) pa_nil)))) (pe_lstB (pa_cons (show PE _ _ (tXat K "line" _) from pe_xat (pv 0)) pa_nil)) (pe_lstB pa_nil))))))))))))))), ?_⟩
    have T := er.ec j hj
    have k0 : Kp [] H H := Kp.refl
    walk_at "rd"
    refine r_isX hx T (.own _) (er.kit j 1 hj (by decide)) ?_
    walk_at "rd"
    refine r_ite (fun e => ?_) (fun n2 => ?_)
    · subst e
      walk_at "rd"
      refine r_lstB ?_
      walk_at "rd"
      refine r_xat (r_var rfl ⟨_, _, a, hx, er.m2.ec, er.m2.no, rfl, ?_⟩)
      walk_at "rd"
      refine r_newB rfl fun l nl bl => ?_
      refine gen_new nl fun Hz kz hz => ?_
      walk_at "rd"
      exact q Hz l (k0.trans kz) (k0.none0 (by simp) nl) bl hz
    walk_at "rd"
    refine r_newF rfl fun tp1 otp1 ntp1 odp1 => ?_
    refine gen_newT ntp1 odp1 fun Ht1 kt1 ht1 => ?_
    have hx' := hx.keep0 kt1
    have kc1 := k0.trans kt1
    walk_at "rd"
    refine ⟨_, tp1, _, _, _, [.ref (C 3), .ref (C 4)], _, rfl, ht1, .cons (.own _) (.cons (.own _) .nil), hx', T, any2 (er.kit j 2 hj (by decide)) (er.kit j 3 hj (by decide)), ?_⟩
    walk_at "rd"
    refine r_itb (fun e => ?_) (fun e => ?_)
    · have e' : j = 2 ∨ j = 3 := by simpa using e
      rcases e' with e' | e'
      · subst e'
        walk_at "rd"
        refine r_lstB ?_
        walk_at "rd"
        refine r_xat (r_var rfl ⟨_, _, a, hx', er.m3.ec, er.m3.no, rfl, ?_⟩)
        walk_at "rd"
        refine r_newB rfl fun l nl bl => ?_
        refine gen_new nl fun Hz kz hz => ?_
        walk_at "rd"
        exact q Hz l (kc1.trans kz) (kc1.none0 (by simp) nl) bl hz
      · subst e'
        walk_at "rd"
        refine r_lstB ?_
        walk_at "rd"
        refine r_xat (r_var rfl ⟨_, _, a, hx', er.m4.ec, er.m4.no, rfl, ?_⟩)
        walk_at "rd"
        refine r_newB rfl fun l nl bl => ?_
        refine gen_new nl fun Hz kz hz => ?_
        walk_at "rd"
        exact q Hz l (kc1.trans kz) (kc1.none0 (by simp) nl) bl hz
    have n3 : ¬ (j = 2 ∨ j = 3) := by simpa using e
    clear e
    walk_at "rd"
    refine r_isX hx' T (.own _) (er.kit j 4 hj (by decide)) ?_
    walk_at "rd"
    refine r_ite (fun e => ?_) (fun n5 => ?_)
    · subst e
      walk_at "rd"
      refine r_lstB ?_
      walk_at "rd"
      refine r_xat (r_var rfl ⟨_, _, a, hx', er.m5.ec, er.m5.no, rfl, ?_⟩)
      walk_at "rd"
      refine r_newB rfl fun l nl bl => ?_
      refine gen_new nl fun Hz kz hz => ?_
      walk_at "rd"
      exact q Hz l (kc1.trans kz) (kc1.none0 (by simp) nl) bl hz
    walk_at "rd"
    refine r_isX hx' T (.own _) (er.kit j 5 hj (by decide)) ?_
    walk_at "rd"
    refine r_ite (fun e => ?_) (fun n6 => ?_)
    · subst e
      walk_at "rd"
      refine r_lstB ?_
      walk_at "rd"
      refine r_xat (r_var rfl ⟨_, _, a, hx', er.m6.ec, er.m6.no, rfl, ?_⟩)
      walk_at "rd"
      refine r_newB rfl fun l nl bl => ?_
      refine gen_new nl fun Hz kz hz => ?_
      walk_at "rd"
      exact q Hz l (kc1.trans kz) (kc1.none0 (by simp) nl) bl hz
    walk_at "rd"
    refine r_isX hx' T (.own _) (er.kit j 6 hj (by decide)) ?_
    walk_at "rd"
    refine r_ite (fun e => ?_) (fun n7 => ?_)
    · subst e
      walk_at "rd"
      refine r_lstB ?_
      walk_at "rd"
      refine r_xat (r_var rfl ⟨_, _, a, hx', er.m7.ec, er.m7.no, rfl, ?_⟩)
      walk_at "rd"
      refine r_newB rfl fun l nl bl => ?_
      refine gen_new nl fun Hz kz hz => ?_
      walk_at "rd"
      exact q Hz l (kc1.trans kz) (kc1.none0 (by simp) nl) bl hz
    walk_at "rd"
    refine r_isX hx' T (.own _) (er.kit j 7 hj (by decide)) ?_
    walk_at "rd"
    refine r_ite (fun e => ?_) (fun n8 => ?_)
    · subst e
      walk_at "rd"
      refine r_lstB ?_
      walk_at "rd"
      refine r_xat (r_var rfl ⟨_, _, a, hx', er.m8.ec, er.m8.no, rfl, ?_⟩)
      walk_at "rd"
      refine r_xat (r_var rfl ⟨_, _, b, hx', er.m8.ec, er.m8.no2, rfl, ?_⟩)
      walk_at "rd"
      refine r_newB rfl fun l nl bl => ?_
      refine gen_new nl fun Hz kz hz => ?_
      walk_at "rd"
      exact q Hz l (kc1.trans kz) (kc1.none0 (by simp) nl) bl hz
    walk_at "rd"
    refine r_isX hx' T (.own _) (er.kit j 8 hj (by decide)) ?_
    walk_at "rd"
    refine r_ite (fun e => ?_) (fun n9 => ?_)
    · subst e
      walk_at "rd"
      refine r_lstB ?_
      walk_at "rd"
      refine r_xat (r_var rfl ⟨_, _, a, hx', er.m9.ec, er.m9.no, rfl, ?_⟩)
      walk_at "rd"
      refine r_newB rfl fun l nl bl => ?_
      refine gen_new nl fun Hz kz hz => ?_
      walk_at "rd"
      exact q Hz l (kc1.trans kz) (kc1.none0 (by simp) nl) bl hz
    walk_at "rd"
    refine r_isX hx' T (.own _) (er.kit j 9 hj (by decide)) ?_
    walk_at "rd"
    refine r_ite (fun e => ?_) (fun n10 => ?_)
    · subst e
      walk_at "rd"
      refine r_lstB ?_
      walk_at "rd"
      refine r_xat (r_var rfl ⟨_, _, a, hx', er.m10.ec, er.m10.no, rfl, ?_⟩)
      walk_at "rd"
      refine r_newB rfl fun l nl bl => ?_
      refine gen_new nl fun Hz kz hz => ?_
      walk_at "rd"
      exact q Hz l (kc1.trans kz) (kc1.none0 (by simp) nl) bl hz
    walk_at "rd"
    refine r_isX hx' T (.own _) (er.kit j 11 hj (by decide)) ?_
    walk_at "rd"
    refine r_ite (fun e => ?_) (fun n12 => ?_)
    · subst e
      walk_at "rd"
      refine r_lstB ?_
      walk_at "rd"
      refine r_xat (r_var rfl ⟨_, _, a, hx', er.m12.ec, er.m12.no, rfl, ?_⟩)
      walk_at "rd"
      refine r_newB rfl fun l nl bl => ?_
      refine gen_new nl fun Hz kz hz => ?_
      walk_at "rd"
      exact q Hz l (kc1.trans kz) (kc1.none0 (by simp) nl) bl hz
    walk_at "rd"
    refine r_isX hx' T (.own _) (er.kit j 12 hj (by decide)) ?_
    walk_at "rd"
    refine r_ite (fun e => ?_) (fun n13 => ?_)
    · subst e
      walk_at "rd"
      refine r_lstB ?_
      walk_at "rd"
      refine r_xat (r_var rfl ⟨_, _, a, hx', er.m13.ec, er.m13.no, rfl, ?_⟩)
      walk_at "rd"
      refine r_newB rfl fun l nl bl => ?_
      refine gen_new nl fun Hz kz hz => ?_
      walk_at "rd"
      exact q Hz l (kc1.trans kz) (kc1.none0 (by simp) nl) bl hz
    walk_at "rd"
    refine r_isX hx' T (.own _) (er.kit j 13 hj (by decide)) ?_
    walk_at "rd"
    refine r_ite (fun e => ?_) (fun n14 => ?_)
    · subst e
      walk_at "rd"
      refine r_lstB ?_
      walk_at "rd"
      refine r_xat (r_var rfl ⟨_, _, a, hx', er.m14.ec, er.m14.no, rfl, ?_⟩)
      walk_at "rd"
      refine r_newB rfl fun l nl bl => ?_
      refine gen_new nl fun Hz kz hz => ?_
      walk_at "rd"
      exact q Hz l (kc1.trans kz) (kc1.none0 (by simp) nl) bl hz
    walk_at "rd"
    refine r_newF rfl fun tp2 otp2 ntp2 odp2 => ?_
    refine gen_newT ntp2 odp2 fun Ht2 kt2 ht2 => ?_
    have hx'' := hx'.keep0 kt2
    have kc2 := kc1.trans kt2
    walk_at "rd"
    refine ⟨_, tp2, _, _, _, [.ref (C 17), .ref (C 18)], _, rfl, ht2, .cons (.own _) (.cons (.own _) .nil), hx'', T, any2 (er.kit j 16 hj (by decide)) (er.kit j 17 hj (by decide)), ?_⟩
    walk_at "rd"
    refine r_itb (fun e => ?_) (fun e => ?_)
    · have e' : j = 16 ∨ j = 17 := by simpa using e
      rcases e' with e' | e'
      · subst e'
        walk_at "rd"
        refine r_lstB ?_
        walk_at "rd"
        refine r_xat (r_var rfl ⟨_, _, a, hx'', er.m17.ec, er.m17.no, rfl, ?_⟩)
        walk_at "rd"
        refine r_newB rfl fun l nl bl => ?_
        refine gen_new nl fun Hz kz hz => ?_
        walk_at "rd"
        exact q Hz l (kc2.trans kz) (kc2.none0 (by simp) nl) bl hz
      · subst e'
        walk_at "rd"
        refine r_lstB ?_
        walk_at "rd"
        refine r_xat (r_var rfl ⟨_, _, a, hx'', er.m18.ec, er.m18.no, rfl, ?_⟩)
        walk_at "rd"
        refine r_newB rfl fun l nl bl => ?_
        refine gen_new nl fun Hz kz hz => ?_
        walk_at "rd"
        exact q Hz l (kc2.trans kz) (kc2.none0 (by simp) nl) bl hz
    have n17 : ¬ (j = 16 ∨ j = 17) := by simpa using e
    clear e
    walk_at "rd"
    refine r_lstB ?_
    walk_at "rd"
    refine r_newB rfl fun l nl bl => ?_
    refine gen_new nl fun Hz kz hz => ?_
    walk_at "rd"
    refine q Hz l (kc2.trans kz) (kc2.none0 (by simp) nl) bl (hz.trans ?_)
    have js : j = 0 ∨ j = 10 ∨ j = 14 ∨ j = 15 := by omega
    rcases js with rfl | rfl | rfl | rfl <;> rfl
end
end L2.Ro

end
section
set_option Elab.async false
set_option linter.all false
set_option maxRecDepth 100000
set_option maxHeartbeats 4000000
local macro_rules | `(tactic| walk_at "rd1") => `(tactic| with_reducible first
  | refine L2.Rx.r_seq ?_ | refine L2.Rx.r_asg ?_ | refine L2.Rx.r_gname ?_ | refine L2.Rx.r_op ?_ | refine L2.Rx.r_c ?_
  | refine L2.Rx.r_var rfl ?_
  | refine L2.Rx.r_rI0 ?_ | refine L2.Rx.r_test ?_ | refine L2.Rx.r_bl ?_ | refine L2.Rx.r_if ?_ | refine L2.Rx.r_ret ?_
  | refine L2.Rx.r_cons ?_ | refine L2.Rx.r_nil ?_ | refine L2.Rx.r_call ?_ | refine L2.Rx.r_cb ?_ | refine L2.Rx.r_next ?_ | refine L2.Rx.r_drop ?_
  | refine L2.Rx.r_gsub ?_ | refine L2.Rx.r_tupF ?_ | refine L2.Rx.r_lst ?_ | refine L2.Rx.r_par ?_ | refine L2.Rx.r_par2 ?_
  | refine L2.Rx.r_un ?_ | refine L2.Rx.r_tb ?_ | refine L2.Rx.r_and ?_ | refine L2.Rx.r_or ?_ | refine L2.Rx.r_not ?_
  | refine L2.Rx.r_andV ?_ | refine L2.Rx.r_orV ?_ | refine L2.Rx.r_notV ?_ | refine L2.Rx.r_ifx ?_ | refine L2.Rx.r_chain ?_
  | refine L2.Rx.r_sl ?_ | refine L2.Rx.r_nopart ?_ | refine L2.Rx.r_part ?_ | refine L2.Rx.r_exint ?_ | refine L2.Rx.r_bm0 ?_ | refine L2.Rx.r_bm ?_
  | refine L2.Rx.r_lc ?_ | refine L2.Rx.r_rng1 ?_ | refine L2.Rx.r_yes ?_ | refine L2.Rx.r_tt ?_ | refine L2.Rx.r_ff ?_ | refine L2.Rx.r_m1 ?_ | refine L2.Rx.r_m0 ?_ | refine L2.Rx.r_isS ?_
  | (refine L2.Rx.r_wipe (by with_unfolding_all rfl) ?_) | (refine L2.Rx.r_tyL (by walk_at "hp") ?_)
  | refine L2.Rx.r_addS (by walk_at "len") ?_ | refine L2.Rx.r_lenS (by walk_at "len") ?_ | refine L2.Rx.r_slS (by walk_at "len") ?_
  | refine L2.Rx.r_dnotin ?_ | refine L2.Rx.r_dget ?_ | refine L2.Rx.r_dget1 ?_ | refine L2.Rx.r_dput ?_ | refine L2.Rx.r_dpop1 ?_ | refine L2.Rx.r_isN ?_
  | refine L2.Rx.r_for ?_ | refine L2.Rx.r_ilist ?_ | refine L2.Rx.r_itup ?_
  | refine L2.Rx.r_gcons ?_ | refine L2.Rx.r_gnil ?_ | (refine L2.Rx.r_gtupP (by assumption) (by walk_at "at") ?_)
  | (refine L2.Rx.r_rEq rfl ?_) | (refine L2.Rx.r_rNe rfl ?_)
  | refine L2.Rx.r_rU ?_ | refine L2.Rx.r_max2 ?_ | refine L2.Rx.r_min2 ?_ | refine L2.Rx.r_int1i ?_ | (refine L2.Rx.r_lenh (by walk_at "hp") ?_)
  | (refine L2.Rx.r_ixLh (by walk_at "hp") (by walk_at "at") ?_)
  | (refine L2.Rx.r_setL (by walk_at "hp") (by walk_at "at") ?_))
local macro_rules | `(tactic| walk_at "at") => `(tactic| with_unfolding_all rfl)
local macro_rules | `(tactic| walk_at "rd") => `(tactic| (repeat walk_at "rd1"))
local macro_rules | `(tactic| walk_at "hp") => `(tactic| first
  | assumption
  | exact L2.upd_same
  | (refine Eq.trans (L2.upd_ne ?_) ?_; (focus walk_at "ne"); (focus walk_at "hp"))
  | (refine L2.Rx.Kp.at0 (by assumption) ?_; walk_at "hp")
  | (refine L2.Rx.Kp.at1 (by assumption) ?_ ?_; (focus walk_at "ne"); (focus walk_at "hp")))
local macro_rules | `(tactic| walk_at "ne") => `(tactic| first
  | assumption | exact Ne.symm (by assumption)
  | (refine L2.ne_of_none (H := ?nH) (o := ?nO) ?nh ?nn; (case nn => assumption); (case nh => walk_at "hp"))
  | (refine Ne.symm (L2.ne_of_none (H := ?nH) (o := ?nO) ?nh ?nn); (case nn => assumption); (case nh => walk_at "hp")))
local macro_rules | `(tactic| walk_at "len") => `(tactic| (rw [PySem.sizeLine_eq]; omega))
local macro_rules | `(tactic| walk_at "nin") => `(tactic| first
  | exact List.not_mem_nil
  | (refine L2.Rx.nin1 ?_; walk_at "ne"))
local macro_rules | `(tactic| walk_at "none") => `(tactic| first
  | assumption
  | (refine L2.Rx.Kp.none0 (by assumption) ?_ ?_; (focus walk_at "nin"); (focus walk_at "none")))
namespace L2.Ro
open PySem PySem.Spec PyProof.Rows L2.Rx
def D15 : List PyData := [.none, .bool true, .int (-1), .int 12, .int 1000000000, .str "", .str "a", .tuple [], .tuple [.str "a", .int 1], .tuple [.tuple [.str "a", .int 0]], .list [], .list [.int 1], .dict [], .dict [(.str "a", .int 1)], .tuple [.tuple []]]
def okD (d : PyData) : Bool := d.showable && (decide (d.depth ≤ 60) && decide (d.shown.length ≤ 1000000))
theorem d15_ok : (D15.all fun a => D15.all fun b => okD (.list []) && (okD (.list [a]) && okD (.list [a, b]))) = true := by decide +kernel
theorem okD_of {d : PyData} (h : okD d = true) : d.showable = true ∧ d.depth ≤ 60 ∧ d.shown.length ≤ sizeLine := by
  rw [okD, Bool.and_eq_true, Bool.and_eq_true] at h
  exact ⟨h.1, of_decide_eq_true h.2.1, Nat.le_trans (of_decide_eq_true h.2.2) (by rw [sizeLine_eq]; decide)⟩
theorem fv_ok {a b : PyData} (ha : a ∈ D15) (hb : b ∈ D15) (j : Nat) : (PyData.list (fvOf a b j)).showable = true ∧ (PyData.list (fvOf a b j)).depth ≤ 60 ∧ (PyData.list (fvOf a b j)).shown.length ≤ sizeLine := by
  have h := List.all_eq_true.mp (List.all_eq_true.mp d15_ok a ha) b hb
  rw [Bool.and_eq_true, Bool.and_eq_true] at h
  rcases fv3 (a := a) (b := b) j with e | e | e
  · rw [e]; exact okD_of h.1
  · rw [e]; exact okD_of h.2.1
  · rw [e]; exact okD_of h.2.2
def sp_right (K : PySem.W.Frag) : Sp := fun vs H Q _ => ∃ (p : Addr) (n : Nat), vs = [.ref p] ∧ Box H p (n + 10) ∧ ∀ H', Kp [p] H H' → Box H' p n → Q (.bl true) H'
/-- for .. in enumerate(list): each turn has a new pair -/
theorem for_enumT {K : PySem.W.Frag} {a : Addr} {xs : List V} {g : TG} {tb : TS} {D : Ends} {σ : St} {H : Hp} (Pv : Nat → St → Hp → Prop) (p0 : Pv 0 σ H) (there : ∀ i σ H, i ≤ xs.length → Pv i σ H → SqL K H a xs)
    (turn : ∀ i x T σ H, xs[i]? = some x → H T = none → Pv i σ H → g (.ref T) σ (upd H T (.tup [.int (i : Nat), x])) fun σ2 H2 => tb { D with nx := Pv (i + 1), ct := Pv (i + 1), bk := D.nx } σ2 H2) (done : ∀ σ H, Pv xs.length σ H → D.nx σ H) :
    ∃ W : Nat → Nat → St → Hp → Prop, (∃ m, W 0 m σ H) ∧ ∀ i m σ H, W i m σ H → ((Ite K a).stop i H ∧ D.nx σ H) ∨
      ((Ite K a).go i H ∧ ∃ N : St → Hp → Prop, (∀ σ' H', N σ' H' → ∃ m', m' < m ∧ W (i + 1) m' σ' H') ∧ ∀ x H', (Ite K a).yld i H x H' → g x σ H' fun σ2 H2 => tb { D with nx := N, ct := N, bk := D.nx } σ2 H2) := by
  refine ⟨fun i m σ H => m = xs.length - i ∧ i ≤ xs.length ∧ Pv i σ H, ⟨_, rfl, Nat.zero_le _, p0⟩, ?_⟩
  rintro i m σ H ⟨rfl, hi, pv⟩
  have q := there i σ H hi pv
  by_cases lt : i < xs.length
  · refine .inr ⟨⟨xs, xs[i], q, List.getElem?_eq_getElem lt⟩, Pv (i + 1), fun σ' H' pn => ⟨xs.length - (i + 1), by omega, rfl, lt, pn⟩, fun x H' y => ?_⟩
    obtain ⟨T, z, rfl, nT, rfl, hz⟩ := y
    exact turn i z T σ H (hz xs q) nT pv
  · have e : i = xs.length := by omega
    subst e
    exact .inl ⟨⟨xs, q, Nat.le_refl _⟩, done σ H pv⟩
theorem dqAll_bls {K : PySem.W.Frag} {H : Hp} : ∀ bs : List Bool, DqAll K H (bs.map V.bl) (bs.map PyData.bool)
  | [] => .nil
  | b :: r => .cons (.bl b) (dqAll_bls r)
theorem bls_ok (bs : List Bool) : shp (.list (bs.map PyData.bool)) = true ∧ (PyData.list (bs.map PyData.bool)).depth ≤ 64 := by
  refine ⟨?_, ?_⟩
  · rw [shp]
    refine shps_mem fun d hd => ?_
    obtain ⟨b, _, rfl⟩ := List.mem_map.mp hd
    rw [shp]
  · rw [PyData.depth]
    have := depth_mem (ds := bs.map PyData.bool) (n := 0) fun d hd => by
      obtain ⟨b, _, rfl⟩ := List.mem_map.mp hd
      rw [PyData.depth]
      exact Nat.le_refl _
    omega
section
variable {P : Program} {w : World} {K : PySem.W.Frag} {mg : Str → Option Value} {base : Heap}
theorem k_right {f : Addr} {fd : FuncData} (F : Fun K "_law_right" "_law_right" s_right f fd) (g : mg "_law_right" = some (.ref f)) (z : Zb mg) {C : Nat → Addr} (er : Er P w K mg base C) (k_of : Kn P w K mg base CX0 2 "_law_of" (sp_of K)) (k_made : Kn P w K mg base CX0 3 "_law_made" (sp_made C)) (k_made_by_name : Kn P w K mg base CX0 3 "_law_made_by_name" (sp_made C)) (k_kinds : Kn P w K mg base CX0 1 "_law_kinds" (sp_kinds C)) (k_fields : Kn P w K mg base CX0 1 "_law_fields" (sp_fields C))  : Kn P w K mg base CX0 4 "_law_right" (sp_right K) := by
  refine ⟨f, fd, ["_law_box_here"], fnG_body F sc_right (fun vs H Q E h => ?_) (fun cdv A outer s H vs Q E hr h => ?_), g, F.kp, F.binds (fun _ _ _ _ _ _ us hl => match us, hl with | [_], _ => rfl)⟩
  · obtain ⟨p, n, rfl, _⟩ := h
    rfl
  · obtain ⟨p, n, rfl, B, q⟩ := h
    refine ⟨_, PSs.nox (pss_cons (ps_set (i := 1) sc_right.nd rfl (.inl rfl) (pe_lstB (pa_cons pe_non (pa_cons pe_bl (pa_cons (pe_un un_neg pe_int) (pa_cons pe_int (pa_cons (pe_op op_pow pe_int pe_int) (pa_cons pe_str (pa_cons pe_str (pa_cons (pe_tupF pa_nil) (pa_cons (pe_tupF (pa_cons pe_str (pa_cons pe_int pa_nil))) (pa_cons (pe_tupF (pa_cons (pe_tupF (pa_cons pe_str (pa_cons pe_int pa_nil))) pa_nil)) (pa_cons (pe_lstB pa_nil) (pa_cons (pe_lstB (pa_cons pe_int pa_nil)) (pa_cons pe_dnewK (pa_cons (pe_disp (pps_cons pe_str pe_int pps_nil) (by rfl) (by rfl) (fun z => by cases z) (by decide)) (pa_cons (pe_tupF (pa_cons (pe_tupF pa_nil) pa_nil)) pa_nil)))))))))))))))))
      (pss_cons (ps_par (i := 2) (j := 3) (by rfl) sc_right.nd rfl rfl (by decide) rfl rfl (pa_cons (k_of.call hr (by decide) (by rfl) (pa_cons (pv 0) (pa_cons (pv 1) pa_nil))) (pa_cons (k_of.call hr (by decide) (by rfl) (pa_cons (pv 0) (pa_cons (pv 1) pa_nil))) pa_nil)) (by rfl))
      (pss_cons (ps_set (i := 4) sc_right.nd rfl (.inl rfl) (pe_lstB (pa_cons pe_int (pa_cons pe_int (pa_cons pe_int (pa_cons pe_int (pa_cons pe_int (pa_cons pe_int (pa_cons pe_int (pa_cons pe_int (pa_cons pe_int (pa_cons pe_int (pa_cons pe_int (pa_cons pe_int (pa_cons pe_int (pa_cons pe_int (pa_cons pe_int (pa_cons pe_int (pa_cons pe_int (pa_cons pe_int pa_nil))))))))))))))))))))
      (pss_cons (ps_for PassesOwn.never rfl (show PI _ _ _ (iTup K _) from pi_tup (pe_tupF (pa_cons (k_made.call hr (by decide) (by rfl) (pa_cons (pv 2) (pa_cons (pv 3) pa_nil))) (pa_cons (k_made_by_name.call hr (by decide) (by rfl) (pa_cons (pv 2) (pa_cons (pv 3) pa_nil))) pa_nil)))) (pg_name (i := 5) sc_right.nd rfl (.inl rfl))
        (pss_one (ps_for PassesOwn.never rfl (pi_enum (by rfl) z.n_enumerate (pa_cons (pv 5) pa_nil)) (show PG _ _ (gTup K 2 _) from pg_tup rfl (pgs_cons (pg_name (i := 6) sc_right.nd rfl (.inr rfl)) (pgs_cons (pg_name (i := 7) sc_right.nd rfl (.inl rfl)) pgs_nil)))
          (pss_cons (ps_if (pt_cmpR (show OpR _ _ (rNeD K) from (op_neD hr.units)) (k_kinds.call hr (by decide) (by rfl) (pa_cons (pv 7) pa_nil)) (pe_lc (own := [("_law_spot", 8)]) (g := (gName 8)) (by rfl) sc_right.nd (pi_range1 rfl z.n_range (pa_cons pe_int pa_nil)) (blkOk_by (own := [("_law_spot", 8)]) (N := ["_law_box_here", "_law_some", "_law_a", "_law_b", "_law_counts", "_law_made_here", "_law_at", "_law_item", "_law_spot"]) (sc := defScope s_right) (by decide +kernel)) (fun _ _ _ _ _ => (pg_name (i := 8) sc_right.nd rfl (.inl rfl))) (fun _ _ _ _ _ => pts_nil) (fun _ _ _ _ _ => (pe_cmpR op_eq (pv 8) (pv 6) (nomark _)))) (nomark _))
            (pss_one (ps_ret pe_bl))
            pss_nil)
          (pss_cons (ps_if (PW.pt (pw_or (pt_not (pt_val (pe_callB (show CallR _ _ (rIsX K) from call_isX er.cs) (by rfl) z.n_isinstance (by decide +kernel) (pa_cons (pv 7) (pa_cons (pe_glob (v := V.ref (C 0)) (by rfl) er.g0 rfl) pa_nil))))) (pw_or (pt_not (pt_val (pe_callB (show CallR _ _ (rIsX K) from call_isX er.cs) (by rfl) z.n_isinstance (by decide +kernel) (pa_cons (pv 7) (pa_cons (pe_bltn (v := .ty "ValueError") (by rfl) z.n_ValueError (by decide +kernel) rfl) pa_nil))))) (pw_or1 (pt_val (pe_callB (show CallR _ _ (rIsX K) from call_isX er.cs) (by rfl) z.n_isinstance (by decide +kernel) (pa_cons (pv 7) (pa_cons (pe_bltn (v := .ty "LookupError") (by rfl) z.n_LookupError (by decide +kernel) rfl) pa_nil))))))))
            (pss_one (ps_ret pe_bl))
            pss_nil)
          (pss_one (ps_if (pt_cmpR op_ne (pe_callB (show CallR _ _ (rReprL K) from call_reprL hr) (by rfl) z.n_repr (by decide +kernel) (pa_cons (k_fields.call hr (by decide) (by rfl) (pa_cons (pv 7) pa_nil)) pa_nil)) (pe_callB (show CallR _ _ (rReprL K) from call_reprL hr) (by rfl) z.n_repr (by decide +kernel) (pa_cons (pe_slice (show SlR _ (rSlLB K) from sl_listB) (pe_lstB (pa_cons (pv 2) (pa_cons (pv 3) pa_nil))) po_none (po_some (pe_ix (show IxR _ (rIxL K) from ix_list) (pv 4) (pv 6) (fun _ _ => rfl)))) pa_nil)) (nomark _))
            (pss_one (ps_ret pe_bl))
            pss_nil)))))))
      (pss_one (ps_ret pe_bl)))))), ?_⟩
    obtain ⟨bx, hbx⟩ := B.lst
    walk_at "rd"
    refine r_lstB ?_
    walk_at "rd"
    refine r_powx (v := 1000000000) (by decide +kernel) (by decide +kernel) ?_
    walk_at "rd"
    refine r_newF rfl fun t1 o1 n1 d1 => ?_
    refine gen_newT n1 d1 fun H1 k1 h1 => ?_
    walk_at "rd"
    refine r_newF rfl fun t2 o2 n2 d2 => ?_
    refine gen_newT n2 d2 fun H2 k2 h2 => ?_
    walk_at "rd"
    refine r_newF rfl fun t3 o3 n3 d3 => ?_
    refine gen_newT n3 d3 fun H3 k3 h3 => ?_
    walk_at "rd"
    refine r_newF rfl fun t4 o4 n4 d4 => ?_
    refine gen_newT n4 d4 fun H4 k4 h4 => ?_
    walk_at "rd"
    refine r_lstB ?_
    walk_at "rd"
    refine r_newB rfl fun l5 n5 b5 => ?_
    refine gen_new n5 fun H5 k5 h5 => ?_
    walk_at "rd"
    refine r_lstB ?_
    walk_at "rd"
    refine r_newB rfl fun l6 n6 b6 => ?_
    refine gen_new n6 fun H6 k6 h6 => ?_
    walk_at "rd"
    refine r_dnew fun d7 n7 => ?_
    refine gen_new n7 fun H7 k7 h7 => ?_
    walk_at "rd"
    intro d8 n8
    refine gen_new n8 fun H8 k8' h8' => ?_
    refine r_c (r_c ⟨h8', [(.inr "a", .int 1)], rfl, by decide, ?_⟩)
    refine gen_put fun H8' k8p h8 => ?_
    have k8 : Kp [] H7 H8' := k8'.dropT k8p fun z hz => .inr (by rw [show z = d8 by simpa using hz]; exact n8)
    walk_at "rd"
    refine r_newF rfl fun t9 o9 n9 od9 => ?_
    refine gen_newT n9 od9 fun H9 k9 h9 => ?_
    walk_at "rd"
    refine r_newF rfl fun t10 o10 n10 od10 => ?_
    refine gen_newT n10 od10 fun H10 k10 h10 => ?_
    walk_at "rd"
    refine r_newB rfl fun sl nsl _ => ?_
    refine gen_new nsl fun Hs ks hs => ?_
    have k9s := k10.trans ks
    have k8s := k9.trans k9s
    have k7s := k8.trans k8s
    have k6s := k7.trans k7s
    have k5s := k6.trans k6s
    have k4s := k5.trans k5s
    have k3s := k4.trans k4s
    have k2s := k3.trans k3s
    have k1s := k2.trans k2s
    have kas := k1.trans k1s
    have hbs := kas.at0 hbx
    have ub : ∀ {Hx : Hp} {x : Addr} {o : HO}, Kp [] Hx Hs → Hx p = some (.lst bx) → Hx x = none → x ≠ p := fun _ e nx => Ne.symm (ne_of_none e nx)
    have s5 : l5 ≠ p := ub (o := .lst bx) k4s ((((k1.trans k2).trans k3).trans k4).at0 hbx) n5
    have s6 : l6 ≠ p := ub (o := .lst bx) k5s (((((k1.trans k2).trans k3).trans k4).trans k5).at0 hbx) n6
    have s7 : d7 ≠ p := ub (o := .lst bx) k6s ((((((k1.trans k2).trans k3).trans k4).trans k5).trans k6).at0 hbx) n7
    have s8 : d8 ≠ p := ub (o := .lst bx) k7s (((((((k1.trans k2).trans k3).trans k4).trans k5).trans k6).trans k7).at0 hbx) n8
    have slp : sl ≠ p := ub (o := .lst bx) ks ((((((((((k1.trans k2).trans k3).trans k4).trans k5).trans k6).trans k7).trans k8).trans k9).trans k10).at0 hbx) nsl
    have mu : Mu Hs [p] := Mu.lst hbs
    have sd : ∀ x ∈ ([V.non, .bl true, .int (-1), .int 12, .int 1000000000, .str "", .str "a", .ref t1, .ref t2, .ref t4, .ref l5, .ref l6, .ref d7, .ref d8, .ref t10] : List V), ∃ d ∈ D15, Sd K [p] Hs x d := by
      intro x hx
      simp only [List.mem_cons, List.mem_nil_iff, or_false] at hx
      rcases hx with rfl | rfl | rfl | rfl | rfl | rfl | rfl | rfl | rfl | rfl | rfl | rfl | rfl | rfl | rfl
      · exact ⟨_, List.mem_of_getElem? (i := 0) rfl, fun H' k => rp_non⟩
      · exact ⟨_, List.mem_of_getElem? (i := 1) rfl, fun H' k => rp_bl true⟩
      · exact ⟨_, List.mem_of_getElem? (i := 2) rfl, fun H' k => rp_int _⟩
      · exact ⟨_, List.mem_of_getElem? (i := 3) rfl, fun H' k => rp_int _⟩
      · exact ⟨_, List.mem_of_getElem? (i := 4) rfl, fun H' k => rp_int _⟩
      · exact ⟨_, List.mem_of_getElem? (i := 5) rfl, fun H' k => rp_str _⟩
      · exact ⟨_, List.mem_of_getElem? (i := 6) rfl, fun H' k => rp_str _⟩
      · exact ⟨_, List.mem_of_getElem? (i := 7) rfl, fun H' k => rp_tup ((h1.keep0 k1s).keepM k mu) rp_nil⟩
      · exact ⟨_, List.mem_of_getElem? (i := 8) rfl, fun H' k => rp_tup ((h2.keep0 k2s).keepM k mu) (rp_cons (rp_str _) (rp_cons (rp_int _) rp_nil))⟩
      · exact ⟨_, List.mem_of_getElem? (i := 9) rfl, fun H' k => rp_tup ((h4.keep0 k4s).keepM k mu) (rp_cons (rp_tup ((h3.keep0 k3s).keepM k mu) (rp_cons (rp_str _) (rp_cons (rp_int _) rp_nil))) rp_nil)⟩
      · exact ⟨_, List.mem_of_getElem? (i := 10) rfl, fun H' k => rp_lst b5 (k.at1 s5 (k5s.at0 h5)) rp_nil⟩
      · exact ⟨_, List.mem_of_getElem? (i := 11) rfl, fun H' k => rp_lst b6 (k.at1 s6 (k6s.at0 h6)) (rp_cons (rp_int _) rp_nil)⟩
      · exact ⟨_, List.mem_of_getElem? (i := 12) rfl, fun H' k => rp_d0 (k.at1 s7 (k7s.at0 h7))⟩
      · exact ⟨_, List.mem_of_getElem? (i := 13) rfl, fun H' k => rp_d1 (k.at1 s8 (k8s.at0 h8))⟩
      · exact ⟨_, List.mem_of_getElem? (i := 14) rfl, fun H' k => rp_tup ((h10.keep0 ks).keepM k mu) (rp_cons (rp_tup ((h9.keep0 k9s).keepM k mu) rp_nil) rp_nil)⟩
    walk_at "rd"
    refine ⟨p, n + 9, .ref sl, rfl, B.keep kas, .inl ⟨sl, _, rfl, .inl (.inl (.inl hs)), slp, by simp, by simp, fun Ha va ka Ba ma => ?_⟩⟩
    walk_at "rd"
    refine ⟨p, n + 8, .ref sl, rfl, Ba, .inl ⟨sl, _, rfl, .inl (.inl (.inl (ka.at1 slp hs))), slp, by simp, by simp, fun Hb vb kb Bb mb => ?_⟩⟩
    walk_at "rd"
    refine r_lstB ?_
    walk_at "rd"
    refine r_newB rfl fun co nco _ => ?_
    refine gen_new nco fun Hc kc hco => ?_
    obtain ⟨da, mda, sa0⟩ := sd va ma
    obtain ⟨db, mdb, sb0⟩ := sd vb mb
    clear sd ma mb
    have ksc : Kp [p] Hs Hc := (ka.trans kb).trans (Kp.to1 kc)
    have sa := sa0.keep ksc
    have sb := sb0.keep ksc
    have Bc := Bb.keep kc
    have kHc : Kp [p] H Hc := (Kp.to1 kas).trans ksc
    walk_at "rd"
    refine ⟨va, vb, rfl, fun Hd l1 ys1 kd nl1 hl1 x1 => ?_⟩
    walk_at "rd"
    refine ⟨va, vb, rfl, fun He l2 ys2 ke nl2 hl2 x2 => ?_⟩
    walk_at "rd"
    refine r_newF rfl fun tt ott ntt odtt => ?_
    refine gen_newT ntt odtt fun Hf kf htt => ?_
    have kcf : Kp [] Hc Hf := (kd.trans ke).trans kf
    walk_at "rd"
    refine r_walkT htt.sq ?_
    refine for_tup (K := K) (a := tt) (xs := [.ref l1, .ref l2]) (fun i σ' H' => ∃ (y5 y6 y7 y8 : Option V), σ' = [some (.ref p), some (.ref sl), some va, some vb, some (.ref co), y5, y6, y7, y8] ∧ Kp [] Hf H') ⟨_, _, _, _, rfl, Kp.refl⟩ (fun i σ' H' hi ⟨_, _, _, _, _, k⟩ => (htt.keep0 k).sq) ?_ ?_
    · rintro i x σ' H1 hx ⟨y5, y6, y7, y8, rfl, kz⟩
      obtain ⟨l, ys, rfl, hl, xs⟩ : ∃ (l : Addr) (ys : List V), x = .ref l ∧ H1 l = some (.lst ys) ∧ ExAll H1 ys (all18 C va vb) := by
        match i, hx with
        | 0, hx => cases hx; exact ⟨l1, ys1, rfl, ((ke.trans kf).trans kz).at0 hl1, x1.keep0 ((ke.trans kf).trans kz)⟩
        | 1, hx => cases hx; exact ⟨l2, ys2, rfl, (kf.trans kz).at0 hl2, x2.keep0 (kf.trans kz)⟩
        | k + 2, hx => cases hx
      walk_at "rd"
      refine r_cons (r_var rfl (r_nil ⟨l, ys, rfl, .inl (.inl hl), ?_⟩))
      have lys : ys.length = 18 := xs.len
      have kc1 := kcf.trans kz
      refine for_enumT (K := K) (a := l) (xs := ys) (fun i σ' H' => ∃ (y6 y7 y8 : Option V), σ' = [some (.ref p), some (.ref sl), some va, some vb, some (.ref co), some (.ref l), y6, y7, y8] ∧ Kp [] H1 H') ⟨_, _, _, rfl, Kp.refl⟩ (fun i σ' H' hi ⟨_, _, _, _, k⟩ => .inl (.inl (k.at0 hl))) ?_ ?_
      · rintro j x T σ' H2 hx nT ⟨y6, y7, y8, rfl, k2⟩
        obtain ⟨c, hc, ex⟩ := xs.at hx
        have hj : j < 18 := by
          have := (List.getElem?_eq_some_iff.mp hx).1
          omega
        rw [all_at j hj] at hc
        obtain rfl := Option.some.inj hc
        refine gen_new nT fun H3 k3 hT => ?_
        refine r_gtupS (.inl (.inl hT)) rfl ?_
        walk_at "rd"
        have ex3 := ex.keep0 (k2.trans k3)
        refine ⟨x, j, _, rfl, hj, ex3, fun H4 kl k4 nkl hkl => ?_⟩
        walk_at "rd"
        refine r_rngv (by decide) (by decide) ?_
        intro D nD
        refine lc_range (lo := 0) (n := 18) (PvL D (fun i acc H' => acc = ((List.range i).map fun t => decide (j = t)).map V.bl ∧ Kp [] H4 H')) ⟨[], upd_same, Nat.le_refl _, rfl, Kp.new nD⟩ (fun i H9 hi ⟨acc, ea, la, eacc, kp9⟩ => ?_) (fun H9 ⟨acc, ea, la, eacc, kp9⟩ => ?_)
        · walk_at "rd"
          refine PvL.step ea la (by omega) ⟨?_, kp9.new0 nD⟩
          rw [List.range_succ, List.map_append, List.map_append, eacc]
          congr 1
          show [V.bl _] = [V.bl (decide (j = i))]
          congr 2
          refine decide_eq_decide.mpr ⟨fun e => ?_, fun e => ?_⟩
          · have := V.int.inj e
            omega
          · subst e
            congr 1
            omega
        · have eb := bls_ok ((List.range 18).map fun t => decide (j = t))
          refine r_neSame (d := .list (((List.range 18).map fun t => decide (j = t)).map PyData.bool)) (.lst (.inl (.inl ((kp9.at0 hkl).trans (by rw [List.map_map]; rfl)))) (dqAll_bls _)) (.lst (.inl (.inl (ea.trans (by rw [eacc])))) (dqAll_bls _)) eb.1 eb.2 ?_
          walk_at "rd"
          refine r_ff ?_
          walk_at "rd"
          have ex9 := ex3.keep0 (k4.trans kp9)
          have T9 := er.ec j hj
          refine r_isX ex9 T9 (.own _) (er.kr j hj) ?_
          walk_at "rd"
          refine r_ff ?_
          walk_at "rd"
          refine r_isX ex9 T9 (.ty _) (er.kv j hj) ?_
          walk_at "rd"
          refine r_ff ?_
          walk_at "rd"
          refine r_isX ex9 T9 (.ty _) (er.kl j hj) ?_
          walk_at "rd"
          refine ⟨x, j, va, vb, rfl, hj, ex9, fun H5 fl k5 nfl bfl hfl => ?_⟩
          have kc5 := (((((kc1.trans k2).trans k3).trans k4).trans kp9).trans k5)
          have fo := fv_ok mda mdb j
          walk_at "rd"
          refine ⟨fl, .list (fvOf da db j), rfl, rp_lst bfl hfl (rp_fv (sa.keep (Kp.to1 kc5)).rp (sb.keep (Kp.to1 kc5)).rp j), fo.1, fo.2.1, fo.2.2, ?_⟩
          walk_at "rd"
          refine r_lstB ?_
          walk_at "rd"
          refine r_newB rfl fun l9 n9 _ => ?_
          refine gen_new n9 fun H6 k6 h9 => ?_
          walk_at "rd"
          obtain ⟨m, em, cm⟩ := cnt_at (a := va) (b := vb) j hj
          refine r_ixL (.inl (.inl ((kc5.trans k6).at0 hco))) em ?_
          walk_at "rd"
          refine ⟨l9, [va, vb], rfl, .inl (.inl h9), fun pp npp bpp => ?_⟩
          rw [cm]
          refine gen_new npp fun H7 k7 hpp => ?_
          have kc7 := (kc5.trans k6).trans k7
          walk_at "rd"
          refine ⟨pp, .list (fvOf da db j), rfl, rp_lst bpp hpp (rp_fv (sa.keep (Kp.to1 kc7)).rp (sb.keep (Kp.to1 kc7)).rp j), fo.1, fo.2.1, fo.2.2, ?_⟩
          walk_at "rd"
          refine r_itn (fun h => absurd rfl h) (fun _ => ?_)
          walk_at "rd"
          exact ⟨_, _, _, rfl, (((((k2.trans k3).trans k4).trans kp9).trans k5).trans k6).trans k7⟩
      · rintro σ' H2 ⟨y6, y7, y8, rfl, k2⟩
        walk_at "rd"
        exact ⟨_, _, _, _, rfl, kz.trans k2⟩
    · rintro σ' H1 ⟨y5, y6, y7, y8, rfl, kz⟩
      walk_at "rd"
      exact q _ (kHc.trans (Kp.to1 (kcf.trans kz))) ((Bc.keep (kcf.trans kz)).mono (by omega))
end
end L2.Ro

end
section
set_option Elab.async false
set_option linter.all false
set_option maxRecDepth 100000
set_option maxHeartbeats 4000000
local macro_rules | `(tactic| walk_at "rd1") => `(tactic| with_reducible first
  | refine L2.Rx.r_seq ?_ | refine L2.Rx.r_asg ?_ | refine L2.Rx.r_gname ?_ | refine L2.Rx.r_op ?_ | refine L2.Rx.r_c ?_
  | refine L2.Rx.r_var rfl ?_
  | refine L2.Rx.r_rI0 ?_ | refine L2.Rx.r_test ?_ | refine L2.Rx.r_bl ?_ | refine L2.Rx.r_if ?_ | refine L2.Rx.r_ret ?_
  | refine L2.Rx.r_cons ?_ | refine L2.Rx.r_nil ?_ | refine L2.Rx.r_call ?_ | refine L2.Rx.r_cb ?_ | refine L2.Rx.r_next ?_ | refine L2.Rx.r_drop ?_
  | refine L2.Rx.r_gsub ?_ | refine L2.Rx.r_tupF ?_ | refine L2.Rx.r_lst ?_ | refine L2.Rx.r_par ?_ | refine L2.Rx.r_par2 ?_
  | refine L2.Rx.r_un ?_ | refine L2.Rx.r_tb ?_ | refine L2.Rx.r_and ?_ | refine L2.Rx.r_or ?_ | refine L2.Rx.r_not ?_
  | refine L2.Rx.r_andV ?_ | refine L2.Rx.r_orV ?_ | refine L2.Rx.r_notV ?_ | refine L2.Rx.r_ifx ?_ | refine L2.Rx.r_chain ?_
  | refine L2.Rx.r_sl ?_ | refine L2.Rx.r_nopart ?_ | refine L2.Rx.r_part ?_ | refine L2.Rx.r_exint ?_ | refine L2.Rx.r_bm0 ?_ | refine L2.Rx.r_bm ?_
  | refine L2.Rx.r_lc ?_ | refine L2.Rx.r_rng1 ?_ | refine L2.Rx.r_yes ?_ | refine L2.Rx.r_tt ?_ | refine L2.Rx.r_ff ?_ | refine L2.Rx.r_m1 ?_ | refine L2.Rx.r_m0 ?_ | refine L2.Rx.r_isS ?_
  | (refine L2.Rx.r_wipe (by with_unfolding_all rfl) ?_) | (refine L2.Rx.r_tyL (by walk_at "hp") ?_)
  | refine L2.Rx.r_addS (by walk_at "len") ?_ | refine L2.Rx.r_lenS (by walk_at "len") ?_ | refine L2.Rx.r_slS (by walk_at "len") ?_
  | refine L2.Rx.r_dnotin ?_ | refine L2.Rx.r_dget ?_ | refine L2.Rx.r_dget1 ?_ | refine L2.Rx.r_dput ?_ | refine L2.Rx.r_dpop1 ?_ | refine L2.Rx.r_isN ?_
  | refine L2.Rx.r_for ?_ | refine L2.Rx.r_ilist ?_ | refine L2.Rx.r_itup ?_
  | refine L2.Rx.r_gcons ?_ | refine L2.Rx.r_gnil ?_ | (refine L2.Rx.r_gtupP (by assumption) (by walk_at "at") ?_)
  | (refine L2.Rx.r_rEq rfl ?_) | (refine L2.Rx.r_rNe rfl ?_)
  | refine L2.Rx.r_rU ?_ | refine L2.Rx.r_max2 ?_ | refine L2.Rx.r_min2 ?_ | refine L2.Rx.r_int1i ?_ | (refine L2.Rx.r_lenh (by walk_at "hp") ?_)
  | (refine L2.Rx.r_ixLh (by walk_at "hp") (by walk_at "at") ?_)
  | (refine L2.Rx.r_setL (by walk_at "hp") (by walk_at "at") ?_))
local macro_rules | `(tactic| walk_at "at") => `(tactic| with_unfolding_all rfl)
local macro_rules | `(tactic| walk_at "rd") => `(tactic| (repeat walk_at "rd1"))
local macro_rules | `(tactic| walk_at "hp") => `(tactic| first
  | assumption
  | exact L2.upd_same
  | (refine Eq.trans (L2.upd_ne ?_) ?_; (focus walk_at "ne"); (focus walk_at "hp"))
  | (refine L2.Rx.Kp.at0 (by assumption) ?_; walk_at "hp")
  | (refine L2.Rx.Kp.at1 (by assumption) ?_ ?_; (focus walk_at "ne"); (focus walk_at "hp")))
local macro_rules | `(tactic| walk_at "ne") => `(tactic| first
  | assumption | exact Ne.symm (by assumption)
  | (refine L2.ne_of_none (H := ?nH) (o := ?nO) ?nh ?nn; (case nn => assumption); (case nh => walk_at "hp"))
  | (refine Ne.symm (L2.ne_of_none (H := ?nH) (o := ?nO) ?nh ?nn); (case nn => assumption); (case nh => walk_at "hp")))
local macro_rules | `(tactic| walk_at "len") => `(tactic| (rw [PySem.sizeLine_eq]; omega))
local macro_rules | `(tactic| walk_at "nin") => `(tactic| first
  | exact List.not_mem_nil
  | (refine L2.Rx.nin1 ?_; walk_at "ne"))
local macro_rules | `(tactic| walk_at "none") => `(tactic| first
  | assumption
  | (refine L2.Rx.Kp.none0 (by assumption) ?_ ?_; (focus walk_at "nin"); (focus walk_at "none")))
namespace L2.Ro
open PySem PySem.Spec PyProof.Rows L2.Rx
def sp_law (K : PySem.W.Frag) : Sp := fun vs H Q _ => ∃ (a : Addr) (ns : List Int), vs = [.ref a] ∧ SqL K H a (ns.map V.int) ∧ ∀ H', Q (.bl true) H'
section
variable {P : Program} {w : World} {K : PySem.W.Frag} {mg : Str → Option Value} {base : Heap}
theorem k_law {f : Addr} {fd : FuncData} (F : Fun K "law" "law" s_law f fd) (g : mg "law" = some (.ref f)) (z : Zb mg) {C : Nat → Addr} (er : Er P w K mg base C) (k_box : Kn P w K mg base CX0 1 "_law_box" (sp_box K)) (k_right : Kn P w K mg base CX0 4 "_law_right" (sp_right K))  : FnG P w K mg base CX0 13 f fd ["_law_script"] (sp_law K) := by
  refine fnG_body F sc_law (fun vs H Q E h => ?_) (fun cdv A outer s H vs Q E hr h => ?_)
  · obtain ⟨a, ns, rfl, _⟩ := h
    rfl
  · obtain ⟨a, ns, rfl, hS, q⟩ := h
    refine ⟨_, PSs.nox (pss_cons (ps_for PassesOwn.never rfl (pi_range1 rfl z.n_range (pa_cons (pe_callB (c_max2 rfl) (by rfl) z.n_max (by decide +kernel) (pa_cons pe_int (pa_cons (pe_callB (c_min2 rfl) (by rfl) z.n_min (by decide +kernel) (pa_cons pe_int (pa_cons (pe_callB (show CallR _ _ (rLenQ K) from c_len) (by rfl) z.n_len (by decide +kernel) (pa_cons (pv 0) pa_nil)) pa_nil))) pa_nil))) pa_nil)) (pg_name (i := 1) sc_law.nd rfl (.inl rfl))
        (pss_cons (ps_set (i := 2) sc_law.nd rfl (.inr rfl) (k_box.call hr (by decide) (by rfl) (pa_cons (pv 0) (pa_cons (pv 1) pa_nil))))
        (pss_one (ps_if (pt_not (pt_val (pe_callB (show CallR _ _ (rAll K) from (cr_all rfl)) (by rfl) z.n_all (by decide +kernel) (pa_cons (pe_lc (own := [("_law_turn", 3)]) (g := (gName 3)) (by rfl) sc_law.nd (pi_range1 rfl z.n_range (pa_cons pe_int pa_nil)) (blkOk_by (own := [("_law_turn", 3)]) (N := ["_law_script", "_law_nth", "_law_box_here", "_law_turn"]) (sc := defScope s_law) (by decide +kernel)) (fun _ _ _ _ _ => (pg_name (i := 3) sc_law.nd rfl (.inl rfl))) (fun _ _ _ _ _ => pts_nil) (fun _ _ _ _ _ => (k_right.call hr (by decide) (by rfl) (pa_cons (pv 2) pa_nil)))) pa_nil))))
          (pss_one (ps_ret pe_bl))
          pss_nil))))
      (pss_one (ps_ret pe_bl))), ?_⟩
    walk_at "rd"
    refine r_len (.inl hS) ?_
    walk_at "rd"
    refine r_rngv (by omega) (by omega) ?_
    refine for_range (lo := 0) (n := (max 1 (min 3 (((ns.map V.int).length : Nat) : Int))).toNat) (fun i σ' H' => ∃ (x1 x2 x3 : Option V), σ' = [some (.ref a), x1, x2, x3] ∧ Kp [] H H') ⟨_, _, _, rfl, Kp.refl⟩ ?_ ?_
    · rintro i σ' H1 hi ⟨x1, x2, x3, rfl, kp1⟩
      walk_at "rd"
      refine ⟨a, ns, _, rfl, kp_sqL kp1 (by simp) hS, by omega, by omega, fun H2 p kp2 np B => ?_⟩
      walk_at "rd"
      refine r_rngv (by decide) (by decide) ?_
      have npH : H p = none := kp1.none0 (by simp) np
      intro D nD
      have Dp : D ≠ p := by
        obtain ⟨_, hb⟩ := B.lst
        exact Ne.symm (ne_of_none hb nD)
      refine lc_range (lo := 0) (n := 3) (PvL D (fun i acc H' => acc = (List.replicate i true).map V.bl ∧ Kp [p] H2 H' ∧ Box H' p (1000 * (4 - i)))) ⟨[], upd_same, Nat.le_refl _, rfl, Kp.to1 (Kp.new nD), (B.mono (by omega)).keep (Kp.new nD)⟩ (fun i H9 hi ⟨acc, ea, la, eacc, kp9, B9⟩ => ?_) (fun H9 ⟨acc, ea, la, eacc, kp9, B9⟩ => ?_)
      · walk_at "rd"
        refine ⟨p, 1000 * (4 - (i + 1)), rfl, B9.mono (by omega), fun H10 kp10 B10 => ?_⟩
        refine PvL.step (kp10.at1 Dp ea) la (by omega) ⟨?_, (kp9.trans kp10).putNew nD, B10.keepS Kp.put (by simpa using Ne.symm Dp)⟩
        rw [List.replicate_succ', List.map_append, eacc]
        rfl
      · walk_at "rd"
        refine ⟨D, List.replicate 3 true, rfl, .inl (.inl (ea.trans (by rw [eacc]))), ?_⟩
        walk_at "rd"
        refine r_ff ?_
        walk_at "rd"
        exact ⟨_, _, _, rfl, (kp1.trans kp2).dropT kp9 fun c hc => .inr (by rw [show c = p by simpa using hc]; exact npH)⟩
    · rintro σ' H1 ⟨x1, x2, x3, rfl, kp1⟩
      walk_at "rd"
      exact q _
end
end L2.Ro

end
namespace L2.Ro
open PySem PySem.Spec PyProof.Rows L2.Rx
theorem all_mk {w : World} {K : PySem.W.Frag} {h : Heap} {mg : Str → Option Value} {fa : Addr} (X : K.In h) (G : h.Ns mainGlobals mg) (hfa : mg "law" = some (.ref fa))
    {f0 : Addr} {od0 an0 : Option Addr} {sl0 : Array (Option Value)} {oc0 kV0 dc0 pm0 cd0 ct0 : Value}
    (a0 : PySem.W.nsIn K mainGlobals "_law_box" = some (some (.ref f0))) (l0 : K.lookup f0 = some ⟨oc0, od0, .func (PySem.W.fnOf "_law_box" "_law_box" (defArgs s_box) (defBody s_box) (defScope s_box) .none kV0 dc0 pm0 an0 cd0 ct0), sl0⟩) (c0 : PySem.W.codeIn K cd0 "_law_box" = true) (k0 : PySem.W.keepIn K (.ref f0) = true)
    {f1 : Addr} {od1 an1 : Option Addr} {sl1 : Array (Option Value)} {oc1 kV1 dc1 pm1 cd1 ct1 : Value}
    (a1 : PySem.W.nsIn K mainGlobals "_law_take" = some (some (.ref f1))) (l1 : K.lookup f1 = some ⟨oc1, od1, .func (PySem.W.fnOf "_law_take" "_law_take" (defArgs s_take) (defBody s_take) (defScope s_take) .none kV1 dc1 pm1 an1 cd1 ct1), sl1⟩) (c1 : PySem.W.codeIn K cd1 "_law_take" = true) (k1 : PySem.W.keepIn K (.ref f1) = true)
    {f2 : Addr} {od2 an2 : Option Addr} {sl2 : Array (Option Value)} {oc2 kV2 dc2 pm2 cd2 ct2 : Value}
    (a2 : PySem.W.nsIn K mainGlobals "_law_of" = some (some (.ref f2))) (l2 : K.lookup f2 = some ⟨oc2, od2, .func (PySem.W.fnOf "_law_of" "_law_of" (defArgs s_of) (defBody s_of) (defScope s_of) .none kV2 dc2 pm2 an2 cd2 ct2), sl2⟩) (c2 : PySem.W.codeIn K cd2 "_law_of" = true) (k2 : PySem.W.keepIn K (.ref f2) = true)
    {f3 : Addr} {od3 an3 : Option Addr} {sl3 : Array (Option Value)} {oc3 kV3 dc3 pm3 cd3 ct3 : Value}
    (a3 : PySem.W.nsIn K mainGlobals "_law_made" = some (some (.ref f3))) (l3 : K.lookup f3 = some ⟨oc3, od3, .func (PySem.W.fnOf "_law_made" "_law_made" (defArgs s_made) (defBody s_made) (defScope s_made) .none kV3 dc3 pm3 an3 cd3 ct3), sl3⟩) (c3 : PySem.W.codeIn K cd3 "_law_made" = true) (k3 : PySem.W.keepIn K (.ref f3) = true)
    {f4 : Addr} {od4 an4 : Option Addr} {sl4 : Array (Option Value)} {oc4 kV4 dc4 pm4 cd4 ct4 : Value}
    (a4 : PySem.W.nsIn K mainGlobals "_law_made_by_name" = some (some (.ref f4))) (l4 : K.lookup f4 = some ⟨oc4, od4, .func (PySem.W.fnOf "_law_made_by_name" "_law_made_by_name" (defArgs s_made_by_name) (defBody s_made_by_name) (defScope s_made_by_name) .none kV4 dc4 pm4 an4 cd4 ct4), sl4⟩) (c4 : PySem.W.codeIn K cd4 "_law_made_by_name" = true) (k4 : PySem.W.keepIn K (.ref f4) = true)
    {f5 : Addr} {od5 an5 : Option Addr} {sl5 : Array (Option Value)} {oc5 kV5 dc5 pm5 cd5 ct5 : Value}
    (a5 : PySem.W.nsIn K mainGlobals "_law_kinds" = some (some (.ref f5))) (l5 : K.lookup f5 = some ⟨oc5, od5, .func (PySem.W.fnOf "_law_kinds" "_law_kinds" (defArgs s_kinds) (defBody s_kinds) (defScope s_kinds) .none kV5 dc5 pm5 an5 cd5 ct5), sl5⟩) (c5 : PySem.W.codeIn K cd5 "_law_kinds" = true) (k5 : PySem.W.keepIn K (.ref f5) = true)
    {f6 : Addr} {od6 an6 : Option Addr} {sl6 : Array (Option Value)} {oc6 kV6 dc6 pm6 cd6 ct6 : Value}
    (a6 : PySem.W.nsIn K mainGlobals "_law_fields" = some (some (.ref f6))) (l6 : K.lookup f6 = some ⟨oc6, od6, .func (PySem.W.fnOf "_law_fields" "_law_fields" (defArgs s_fields) (defBody s_fields) (defScope s_fields) .none kV6 dc6 pm6 an6 cd6 ct6), sl6⟩) (c6 : PySem.W.codeIn K cd6 "_law_fields" = true) (k6 : PySem.W.keepIn K (.ref f6) = true)
    {f7 : Addr} {od7 an7 : Option Addr} {sl7 : Array (Option Value)} {oc7 kV7 dc7 pm7 cd7 ct7 : Value}
    (a7 : PySem.W.nsIn K mainGlobals "_law_right" = some (some (.ref f7))) (l7 : K.lookup f7 = some ⟨oc7, od7, .func (PySem.W.fnOf "_law_right" "_law_right" (defArgs s_right) (defBody s_right) (defScope s_right) .none kV7 dc7 pm7 an7 cd7 ct7), sl7⟩) (c7 : PySem.W.codeIn K cd7 "_law_right" = true) (k7 : PySem.W.keepIn K (.ref f7) = true)
    {f8 : Addr} {od8 an8 : Option Addr} {sl8 : Array (Option Value)} {oc8 kV8 dc8 pm8 cd8 ct8 : Value}
    (a8 : PySem.W.nsIn K mainGlobals "law" = some (some (.ref f8))) (l8 : K.lookup f8 = some ⟨oc8, od8, .func (PySem.W.fnOf "law" "law" (defArgs s_law) (defBody s_law) (defScope s_law) .none kV8 dc8 pm8 an8 cd8 ct8), sl8⟩) (c8 : PySem.W.codeIn K cd8 "law" = true) (k8 : PySem.W.keepIn K (.ref f8) = true)
    (z0 : PySem.W.nsIn K mainGlobals "LookupError" = some none) (z1 : PySem.W.nsIn K mainGlobals "ValueError" = some none) (z2 : PySem.W.nsIn K mainGlobals "abs" = some none) (z3 : PySem.W.nsIn K mainGlobals "all" = some none) (z4 : PySem.W.nsIn K mainGlobals "enumerate" = some none) (z5 : PySem.W.nsIn K mainGlobals "int" = some none) (z6 : PySem.W.nsIn K mainGlobals "isinstance" = some none) (z7 : PySem.W.nsIn K mainGlobals "len" = some none) (z8 : PySem.W.nsIn K mainGlobals "max" = some none) (z9 : PySem.W.nsIn K mainGlobals "min" = some none) (z10 : PySem.W.nsIn K mainGlobals "range" = some none) (z11 : PySem.W.nsIn K mainGlobals "repr" = some none)
    {C0 N0 : Addr} {nm0 qn0 : Str} {bs0 sb0 : List Value} {sn0 : List Str} {ab0 : Bool} {co0 : Option Bool} {dd0 : Option Addr} {ma0 mb0 mc0 md0 me0 : Option Value}
    (cA0 : PySem.W.nsIn K mainGlobals "ReadError" = some (some (.ref C0)))
    (cL0 : K.lookup C0 = some (excClassObj nm0 qn0 C0 N0 bs0 [.type "ValueError", .type "Exception", .type "BaseException", .type "object"] true sn0 sb0 ab0 co0 dd0 ma0 mb0 mc0 md0 me0 "ValueError.__new__"))
    (cT0 : PySem.W.typeIn K (.ref C0) = some (.type "type"))
    {C1 N1 : Addr} {nm1 qn1 : Str} {bs1 sb1 : List Value} {sn1 : List Str} {ab1 : Bool} {co1 : Option Bool} {dd1 : Option Addr} {ma1 mb1 mc1 md1 me1 : Option Value}
    (cX1 : PySem.W.excIn K C1 [.type "ValueError", .type "Exception", .type "BaseException", .type "object"] "ValueError.__new__" = true)
    (cA1 : PySem.W.nsIn K mainGlobals "NoLogs" = some (some (.ref C1)))
    (cL1 : K.lookup C1 = some (excClassObj nm1 qn1 C1 N1 bs1 (cmOf C0) true sn1 sb1 ab1 co1 dd1 ma1 mb1 mc1 md1 me1 "ValueError.__new__"))
    (cT1 : PySem.W.typeIn K (.ref C1) = some (.type "type"))
    (cS1 : PySem.W.findIn K (.ref C1) "__setattr__" = some (some (.builtin "object.__setattr__")))
    (cG1 : PySem.W.findIn K (.ref C1) "__getattribute__" = some (some (.builtin "BaseException.__getattribute__")))
    (cH1 : PySem.W.findIn K (.ref C1) "__getattr__" = some none)
    (cK1 : PySem.W.keepIn K (.ref C1) = true)
    (cE1 : PySem.W.subIn K (.ref C1) (.type "BaseException") = some true)
    (cD1 : PySem.W.hasDictIn K C1 = true)
    (cY1 : PySem.W.findIn K (.ref C1) "__class__" = some (some (.builtin "object.__class__")))
    (cM1 : PySem.W.mroIn K C1 (.type "object") = some true)
    {C2 N2 : Addr} {nm2 qn2 : Str} {bs2 sb2 : List Value} {sn2 : List Str} {ab2 : Bool} {co2 : Option Bool} {dd2 : Option Addr} {ma2 mb2 mc2 md2 me2 : Option Value}
    {fi2 : Addr} {od_2 an_2 : Option Addr} {oc_2 kV_2 dc_2 pm_2 cd_2 ct_2 : Value} {sl_2 : Array (Option Value)}
    (cA2 : PySem.W.nsIn K mainGlobals "Stuck" = some (some (.ref C2)))
    (cL2 : K.lookup C2 = some (excClassObj nm2 qn2 C2 N2 bs2 (cmOf C0) true sn2 sb2 ab2 co2 dd2 ma2 mb2 mc2 md2 me2 "ValueError.__new__"))
    (cT2 : PySem.W.typeIn K (.ref C2) = some (.type "type"))
    (cS2 : PySem.W.findIn K (.ref C2) "__setattr__" = some (some (.builtin "object.__setattr__")))
    (cG2 : PySem.W.findIn K (.ref C2) "__getattribute__" = some (some (.builtin "BaseException.__getattribute__")))
    (cH2 : PySem.W.findIn K (.ref C2) "__getattr__" = some none)
    (cK2 : PySem.W.keepIn K (.ref C2) = true)
    (cE2 : PySem.W.subIn K (.ref C2) (.type "BaseException") = some true)
    (cD2 : PySem.W.hasDictIn K C2 = true)
    (cY2 : PySem.W.findIn K (.ref C2) "__class__" = some (some (.builtin "object.__class__")))
    (cM2 : PySem.W.mroIn K C2 (.type "object") = some true)
    (cN0_2 : PySem.W.findIn K (.ref C2) "group" = some none)
    (cI2 : PySem.W.findIn K (.ref C2) "__init__" = some (some (.ref fi2)))
    (cJ2 : PySem.W.typeIn K (.ref fi2) = some (.type "function"))
    (cF2 : K.lookup fi2 = some ⟨oc_2, od_2, .func (PySem.W.fnOf "__init__" "Stuck.__init__" (defArgs si_Stuck) (defBody si_Stuck) (defScope si_Stuck) .none kV_2 dc_2 pm_2 an_2 cd_2 ct_2), sl_2⟩)
    (cC2 : PySem.W.codeIn K cd_2 "Stuck.__init__" = true)
    (cP2 : PySem.W.keepIn K (.ref fi2) = true)
    {C3 N3 : Addr} {nm3 qn3 : Str} {bs3 sb3 : List Value} {sn3 : List Str} {ab3 : Bool} {co3 : Option Bool} {dd3 : Option Addr} {ma3 mb3 mc3 md3 me3 : Option Value}
    {fi3 : Addr} {od_3 an_3 : Option Addr} {oc_3 kV_3 dc_3 pm_3 cd_3 ct_3 : Value} {sl_3 : Array (Option Value)}
    (cA3 : PySem.W.nsIn K mainGlobals "NotALog" = some (some (.ref C3)))
    (cL3 : K.lookup C3 = some (excClassObj nm3 qn3 C3 N3 bs3 (cmOf C0) true sn3 sb3 ab3 co3 dd3 ma3 mb3 mc3 md3 me3 "ValueError.__new__"))
    (cT3 : PySem.W.typeIn K (.ref C3) = some (.type "type"))
    (cS3 : PySem.W.findIn K (.ref C3) "__setattr__" = some (some (.builtin "object.__setattr__")))
    (cG3 : PySem.W.findIn K (.ref C3) "__getattribute__" = some (some (.builtin "BaseException.__getattribute__")))
    (cH3 : PySem.W.findIn K (.ref C3) "__getattr__" = some none)
    (cK3 : PySem.W.keepIn K (.ref C3) = true)
    (cE3 : PySem.W.subIn K (.ref C3) (.type "BaseException") = some true)
    (cD3 : PySem.W.hasDictIn K C3 = true)
    (cY3 : PySem.W.findIn K (.ref C3) "__class__" = some (some (.builtin "object.__class__")))
    (cM3 : PySem.W.mroIn K C3 (.type "object") = some true)
    (cN0_3 : PySem.W.findIn K (.ref C3) "log" = some none)
    (cI3 : PySem.W.findIn K (.ref C3) "__init__" = some (some (.ref fi3)))
    (cJ3 : PySem.W.typeIn K (.ref fi3) = some (.type "function"))
    (cF3 : K.lookup fi3 = some ⟨oc_3, od_3, .func (PySem.W.fnOf "__init__" "NotALog.__init__" (defArgs si_NotALog) (defBody si_NotALog) (defScope si_NotALog) .none kV_3 dc_3 pm_3 an_3 cd_3 ct_3), sl_3⟩)
    (cC3 : PySem.W.codeIn K cd_3 "NotALog.__init__" = true)
    (cP3 : PySem.W.keepIn K (.ref fi3) = true)
    {C4 N4 : Addr} {nm4 qn4 : Str} {bs4 sb4 : List Value} {sn4 : List Str} {ab4 : Bool} {co4 : Option Bool} {dd4 : Option Addr} {ma4 mb4 mc4 md4 me4 : Option Value}
    {fi4 : Addr} {od_4 an_4 : Option Addr} {oc_4 kV_4 dc_4 pm_4 cd_4 ct_4 : Value} {sl_4 : Array (Option Value)}
    (cA4 : PySem.W.nsIn K mainGlobals "BadLog" = some (some (.ref C4)))
    (cL4 : K.lookup C4 = some (excClassObj nm4 qn4 C4 N4 bs4 (cmOf C0) true sn4 sb4 ab4 co4 dd4 ma4 mb4 mc4 md4 me4 "ValueError.__new__"))
    (cT4 : PySem.W.typeIn K (.ref C4) = some (.type "type"))
    (cS4 : PySem.W.findIn K (.ref C4) "__setattr__" = some (some (.builtin "object.__setattr__")))
    (cG4 : PySem.W.findIn K (.ref C4) "__getattribute__" = some (some (.builtin "BaseException.__getattribute__")))
    (cH4 : PySem.W.findIn K (.ref C4) "__getattr__" = some none)
    (cK4 : PySem.W.keepIn K (.ref C4) = true)
    (cE4 : PySem.W.subIn K (.ref C4) (.type "BaseException") = some true)
    (cD4 : PySem.W.hasDictIn K C4 = true)
    (cY4 : PySem.W.findIn K (.ref C4) "__class__" = some (some (.builtin "object.__class__")))
    (cM4 : PySem.W.mroIn K C4 (.type "object") = some true)
    (cN0_4 : PySem.W.findIn K (.ref C4) "log" = some none)
    (cI4 : PySem.W.findIn K (.ref C4) "__init__" = some (some (.ref fi4)))
    (cJ4 : PySem.W.typeIn K (.ref fi4) = some (.type "function"))
    (cF4 : K.lookup fi4 = some ⟨oc_4, od_4, .func (PySem.W.fnOf "__init__" "BadLog.__init__" (defArgs si_BadLog) (defBody si_BadLog) (defScope si_BadLog) .none kV_4 dc_4 pm_4 an_4 cd_4 ct_4), sl_4⟩)
    (cC4 : PySem.W.codeIn K cd_4 "BadLog.__init__" = true)
    (cP4 : PySem.W.keepIn K (.ref fi4) = true)
    {C5 N5 : Addr} {nm5 qn5 : Str} {bs5 sb5 : List Value} {sn5 : List Str} {ab5 : Bool} {co5 : Option Bool} {dd5 : Option Addr} {ma5 mb5 mc5 md5 me5 : Option Value}
    {fi5 : Addr} {od_5 an_5 : Option Addr} {oc_5 kV_5 dc_5 pm_5 cd_5 ct_5 : Value} {sl_5 : Array (Option Value)}
    (cA5 : PySem.W.nsIn K mainGlobals "BadLogs" = some (some (.ref C5)))
    (cL5 : K.lookup C5 = some (excClassObj nm5 qn5 C5 N5 bs5 (cmOf C0) true sn5 sb5 ab5 co5 dd5 ma5 mb5 mc5 md5 me5 "ValueError.__new__"))
    (cT5 : PySem.W.typeIn K (.ref C5) = some (.type "type"))
    (cS5 : PySem.W.findIn K (.ref C5) "__setattr__" = some (some (.builtin "object.__setattr__")))
    (cG5 : PySem.W.findIn K (.ref C5) "__getattribute__" = some (some (.builtin "BaseException.__getattribute__")))
    (cH5 : PySem.W.findIn K (.ref C5) "__getattr__" = some none)
    (cK5 : PySem.W.keepIn K (.ref C5) = true)
    (cE5 : PySem.W.subIn K (.ref C5) (.type "BaseException") = some true)
    (cD5 : PySem.W.hasDictIn K C5 = true)
    (cY5 : PySem.W.findIn K (.ref C5) "__class__" = some (some (.builtin "object.__class__")))
    (cM5 : PySem.W.mroIn K C5 (.type "object") = some true)
    (cN0_5 : PySem.W.findIn K (.ref C5) "value" = some none)
    (cI5 : PySem.W.findIn K (.ref C5) "__init__" = some (some (.ref fi5)))
    (cJ5 : PySem.W.typeIn K (.ref fi5) = some (.type "function"))
    (cF5 : K.lookup fi5 = some ⟨oc_5, od_5, .func (PySem.W.fnOf "__init__" "BadLogs.__init__" (defArgs si_BadLogs) (defBody si_BadLogs) (defScope si_BadLogs) .none kV_5 dc_5 pm_5 an_5 cd_5 ct_5), sl_5⟩)
    (cC5 : PySem.W.codeIn K cd_5 "BadLogs.__init__" = true)
    (cP5 : PySem.W.keepIn K (.ref fi5) = true)
    {C6 N6 : Addr} {nm6 qn6 : Str} {bs6 sb6 : List Value} {sn6 : List Str} {ab6 : Bool} {co6 : Option Bool} {dd6 : Option Addr} {ma6 mb6 mc6 md6 me6 : Option Value}
    {fi6 : Addr} {od_6 an_6 : Option Addr} {oc_6 kV_6 dc_6 pm_6 cd_6 ct_6 : Value} {sl_6 : Array (Option Value)}
    (cA6 : PySem.W.nsIn K mainGlobals "BadOrder" = some (some (.ref C6)))
    (cL6 : K.lookup C6 = some (excClassObj nm6 qn6 C6 N6 bs6 (cmOf C0) true sn6 sb6 ab6 co6 dd6 ma6 mb6 mc6 md6 me6 "ValueError.__new__"))
    (cT6 : PySem.W.typeIn K (.ref C6) = some (.type "type"))
    (cS6 : PySem.W.findIn K (.ref C6) "__setattr__" = some (some (.builtin "object.__setattr__")))
    (cG6 : PySem.W.findIn K (.ref C6) "__getattribute__" = some (some (.builtin "BaseException.__getattribute__")))
    (cH6 : PySem.W.findIn K (.ref C6) "__getattr__" = some none)
    (cK6 : PySem.W.keepIn K (.ref C6) = true)
    (cE6 : PySem.W.subIn K (.ref C6) (.type "BaseException") = some true)
    (cD6 : PySem.W.hasDictIn K C6 = true)
    (cY6 : PySem.W.findIn K (.ref C6) "__class__" = some (some (.builtin "object.__class__")))
    (cM6 : PySem.W.mroIn K C6 (.type "object") = some true)
    (cN0_6 : PySem.W.findIn K (.ref C6) "order" = some none)
    (cI6 : PySem.W.findIn K (.ref C6) "__init__" = some (some (.ref fi6)))
    (cJ6 : PySem.W.typeIn K (.ref fi6) = some (.type "function"))
    (cF6 : K.lookup fi6 = some ⟨oc_6, od_6, .func (PySem.W.fnOf "__init__" "BadOrder.__init__" (defArgs si_BadOrder) (defBody si_BadOrder) (defScope si_BadOrder) .none kV_6 dc_6 pm_6 an_6 cd_6 ct_6), sl_6⟩)
    (cC6 : PySem.W.codeIn K cd_6 "BadOrder.__init__" = true)
    (cP6 : PySem.W.keepIn K (.ref fi6) = true)
    {C7 N7 : Addr} {nm7 qn7 : Str} {bs7 sb7 : List Value} {sn7 : List Str} {ab7 : Bool} {co7 : Option Bool} {dd7 : Option Addr} {ma7 mb7 mc7 md7 me7 : Option Value}
    {fi7 : Addr} {od_7 an_7 : Option Addr} {oc_7 kV_7 dc_7 pm_7 cd_7 ct_7 : Value} {sl_7 : Array (Option Value)}
    (cA7 : PySem.W.nsIn K mainGlobals "BadCell" = some (some (.ref C7)))
    (cL7 : K.lookup C7 = some (excClassObj nm7 qn7 C7 N7 bs7 (cmOf C0) true sn7 sb7 ab7 co7 dd7 ma7 mb7 mc7 md7 me7 "ValueError.__new__"))
    (cT7 : PySem.W.typeIn K (.ref C7) = some (.type "type"))
    (cS7 : PySem.W.findIn K (.ref C7) "__setattr__" = some (some (.builtin "object.__setattr__")))
    (cG7 : PySem.W.findIn K (.ref C7) "__getattribute__" = some (some (.builtin "BaseException.__getattribute__")))
    (cH7 : PySem.W.findIn K (.ref C7) "__getattr__" = some none)
    (cK7 : PySem.W.keepIn K (.ref C7) = true)
    (cE7 : PySem.W.subIn K (.ref C7) (.type "BaseException") = some true)
    (cD7 : PySem.W.hasDictIn K C7 = true)
    (cY7 : PySem.W.findIn K (.ref C7) "__class__" = some (some (.builtin "object.__class__")))
    (cM7 : PySem.W.mroIn K C7 (.type "object") = some true)
    (cN0_7 : PySem.W.findIn K (.ref C7) "cell" = some none)
    (cI7 : PySem.W.findIn K (.ref C7) "__init__" = some (some (.ref fi7)))
    (cJ7 : PySem.W.typeIn K (.ref fi7) = some (.type "function"))
    (cF7 : K.lookup fi7 = some ⟨oc_7, od_7, .func (PySem.W.fnOf "__init__" "BadCell.__init__" (defArgs si_BadCell) (defBody si_BadCell) (defScope si_BadCell) .none kV_7 dc_7 pm_7 an_7 cd_7 ct_7), sl_7⟩)
    (cC7 : PySem.W.codeIn K cd_7 "BadCell.__init__" = true)
    (cP7 : PySem.W.keepIn K (.ref fi7) = true)
    {C8 N8 : Addr} {nm8 qn8 : Str} {bs8 sb8 : List Value} {sn8 : List Str} {ab8 : Bool} {co8 : Option Bool} {dd8 : Option Addr} {ma8 mb8 mc8 md8 me8 : Option Value}
    {fi8 : Addr} {od_8 an_8 : Option Addr} {oc_8 kV_8 dc_8 pm_8 cd_8 ct_8 : Value} {sl_8 : Array (Option Value)}
    (cA8 : PySem.W.nsIn K mainGlobals "OrdersClash" = some (some (.ref C8)))
    (cL8 : K.lookup C8 = some (excClassObj nm8 qn8 C8 N8 bs8 (cmOf C0) true sn8 sb8 ab8 co8 dd8 ma8 mb8 mc8 md8 me8 "ValueError.__new__"))
    (cT8 : PySem.W.typeIn K (.ref C8) = some (.type "type"))
    (cS8 : PySem.W.findIn K (.ref C8) "__setattr__" = some (some (.builtin "object.__setattr__")))
    (cG8 : PySem.W.findIn K (.ref C8) "__getattribute__" = some (some (.builtin "BaseException.__getattribute__")))
    (cH8 : PySem.W.findIn K (.ref C8) "__getattr__" = some none)
    (cK8 : PySem.W.keepIn K (.ref C8) = true)
    (cE8 : PySem.W.subIn K (.ref C8) (.type "BaseException") = some true)
    (cD8 : PySem.W.hasDictIn K C8 = true)
    (cY8 : PySem.W.findIn K (.ref C8) "__class__" = some (some (.builtin "object.__class__")))
    (cM8 : PySem.W.mroIn K C8 (.type "object") = some true)
    (cN0_8 : PySem.W.findIn K (.ref C8) "one" = some none)
    (cN1_8 : PySem.W.findIn K (.ref C8) "other" = some none)
    (cI8 : PySem.W.findIn K (.ref C8) "__init__" = some (some (.ref fi8)))
    (cJ8 : PySem.W.typeIn K (.ref fi8) = some (.type "function"))
    (cF8 : K.lookup fi8 = some ⟨oc_8, od_8, .func (PySem.W.fnOf "__init__" "OrdersClash.__init__" (defArgs si_OrdersClash) (defBody si_OrdersClash) (defScope si_OrdersClash) .none kV_8 dc_8 pm_8 an_8 cd_8 ct_8), sl_8⟩)
    (cC8 : PySem.W.codeIn K cd_8 "OrdersClash.__init__" = true)
    (cP8 : PySem.W.keepIn K (.ref fi8) = true)
    {C9 N9 : Addr} {nm9 qn9 : Str} {bs9 sb9 : List Value} {sn9 : List Str} {ab9 : Bool} {co9 : Option Bool} {dd9 : Option Addr} {ma9 mb9 mc9 md9 me9 : Option Value}
    {fi9 : Addr} {od_9 an_9 : Option Addr} {oc_9 kV_9 dc_9 pm_9 cd_9 ct_9 : Value} {sl_9 : Array (Option Value)}
    (cA9 : PySem.W.nsIn K mainGlobals "BadSnapshot" = some (some (.ref C9)))
    (cL9 : K.lookup C9 = some (excClassObj nm9 qn9 C9 N9 bs9 (cmOf C0) true sn9 sb9 ab9 co9 dd9 ma9 mb9 mc9 md9 me9 "ValueError.__new__"))
    (cT9 : PySem.W.typeIn K (.ref C9) = some (.type "type"))
    (cS9 : PySem.W.findIn K (.ref C9) "__setattr__" = some (some (.builtin "object.__setattr__")))
    (cG9 : PySem.W.findIn K (.ref C9) "__getattribute__" = some (some (.builtin "BaseException.__getattribute__")))
    (cH9 : PySem.W.findIn K (.ref C9) "__getattr__" = some none)
    (cK9 : PySem.W.keepIn K (.ref C9) = true)
    (cE9 : PySem.W.subIn K (.ref C9) (.type "BaseException") = some true)
    (cD9 : PySem.W.hasDictIn K C9 = true)
    (cY9 : PySem.W.findIn K (.ref C9) "__class__" = some (some (.builtin "object.__class__")))
    (cM9 : PySem.W.mroIn K C9 (.type "object") = some true)
    (cN0_9 : PySem.W.findIn K (.ref C9) "snapshot" = some none)
    (cI9 : PySem.W.findIn K (.ref C9) "__init__" = some (some (.ref fi9)))
    (cJ9 : PySem.W.typeIn K (.ref fi9) = some (.type "function"))
    (cF9 : K.lookup fi9 = some ⟨oc_9, od_9, .func (PySem.W.fnOf "__init__" "BadSnapshot.__init__" (defArgs si_BadSnapshot) (defBody si_BadSnapshot) (defScope si_BadSnapshot) .none kV_9 dc_9 pm_9 an_9 cd_9 ct_9), sl_9⟩)
    (cC9 : PySem.W.codeIn K cd_9 "BadSnapshot.__init__" = true)
    (cP9 : PySem.W.keepIn K (.ref fi9) = true)
    {C10 N10 : Addr} {nm10 qn10 : Str} {bs10 sb10 : List Value} {sn10 : List Str} {ab10 : Bool} {co10 : Option Bool} {dd10 : Option Addr} {ma10 mb10 mc10 md10 me10 : Option Value}
    {fi10 : Addr} {od_10 an_10 : Option Addr} {oc_10 kV_10 dc_10 pm_10 cd_10 ct_10 : Value} {sl_10 : Array (Option Value)}
    (cA10 : PySem.W.nsIn K mainGlobals "BadSwap" = some (some (.ref C10)))
    (cL10 : K.lookup C10 = some (excClassObj nm10 qn10 C10 N10 bs10 (cmOf C0) true sn10 sb10 ab10 co10 dd10 ma10 mb10 mc10 md10 me10 "ValueError.__new__"))
    (cT10 : PySem.W.typeIn K (.ref C10) = some (.type "type"))
    (cS10 : PySem.W.findIn K (.ref C10) "__setattr__" = some (some (.builtin "object.__setattr__")))
    (cG10 : PySem.W.findIn K (.ref C10) "__getattribute__" = some (some (.builtin "BaseException.__getattribute__")))
    (cH10 : PySem.W.findIn K (.ref C10) "__getattr__" = some none)
    (cK10 : PySem.W.keepIn K (.ref C10) = true)
    (cE10 : PySem.W.subIn K (.ref C10) (.type "BaseException") = some true)
    (cD10 : PySem.W.hasDictIn K C10 = true)
    (cY10 : PySem.W.findIn K (.ref C10) "__class__" = some (some (.builtin "object.__class__")))
    (cM10 : PySem.W.mroIn K C10 (.type "object") = some true)
    (cN0_10 : PySem.W.findIn K (.ref C10) "place" = some none)
    (cI10 : PySem.W.findIn K (.ref C10) "__init__" = some (some (.ref fi10)))
    (cJ10 : PySem.W.typeIn K (.ref fi10) = some (.type "function"))
    (cF10 : K.lookup fi10 = some ⟨oc_10, od_10, .func (PySem.W.fnOf "__init__" "BadSwap.__init__" (defArgs si_BadSwap) (defBody si_BadSwap) (defScope si_BadSwap) .none kV_10 dc_10 pm_10 an_10 cd_10 ct_10), sl_10⟩)
    (cC10 : PySem.W.codeIn K cd_10 "BadSwap.__init__" = true)
    (cP10 : PySem.W.keepIn K (.ref fi10) = true)
    {C11 N11 : Addr} {nm11 qn11 : Str} {bs11 sb11 : List Value} {sn11 : List Str} {ab11 : Bool} {co11 : Option Bool} {dd11 : Option Addr} {ma11 mb11 mc11 md11 me11 : Option Value}
    (cX11 : PySem.W.excIn K C11 [.type "ValueError", .type "Exception", .type "BaseException", .type "object"] "ValueError.__new__" = true)
    (cA11 : PySem.W.nsIn K mainGlobals "DifferentLogs" = some (some (.ref C11)))
    (cL11 : K.lookup C11 = some (excClassObj nm11 qn11 C11 N11 bs11 (cmOf C0) true sn11 sb11 ab11 co11 dd11 ma11 mb11 mc11 md11 me11 "ValueError.__new__"))
    (cT11 : PySem.W.typeIn K (.ref C11) = some (.type "type"))
    (cS11 : PySem.W.findIn K (.ref C11) "__setattr__" = some (some (.builtin "object.__setattr__")))
    (cG11 : PySem.W.findIn K (.ref C11) "__getattribute__" = some (some (.builtin "BaseException.__getattribute__")))
    (cH11 : PySem.W.findIn K (.ref C11) "__getattr__" = some none)
    (cK11 : PySem.W.keepIn K (.ref C11) = true)
    (cE11 : PySem.W.subIn K (.ref C11) (.type "BaseException") = some true)
    (cD11 : PySem.W.hasDictIn K C11 = true)
    (cY11 : PySem.W.findIn K (.ref C11) "__class__" = some (some (.builtin "object.__class__")))
    (cM11 : PySem.W.mroIn K C11 (.type "object") = some true)
    {C12 N12 : Addr} {nm12 qn12 : Str} {bs12 sb12 : List Value} {sn12 : List Str} {ab12 : Bool} {co12 : Option Bool} {dd12 : Option Addr} {ma12 mb12 mc12 md12 me12 : Option Value}
    {fi12 : Addr} {od_12 an_12 : Option Addr} {oc_12 kV_12 dc_12 pm_12 cd_12 ct_12 : Value} {sl_12 : Array (Option Value)}
    (cA12 : PySem.W.nsIn K mainGlobals "TooLarge" = some (some (.ref C12)))
    (cL12 : K.lookup C12 = some (excClassObj nm12 qn12 C12 N12 bs12 (cmOf C0) true sn12 sb12 ab12 co12 dd12 ma12 mb12 mc12 md12 me12 "ValueError.__new__"))
    (cT12 : PySem.W.typeIn K (.ref C12) = some (.type "type"))
    (cS12 : PySem.W.findIn K (.ref C12) "__setattr__" = some (some (.builtin "object.__setattr__")))
    (cG12 : PySem.W.findIn K (.ref C12) "__getattribute__" = some (some (.builtin "BaseException.__getattribute__")))
    (cH12 : PySem.W.findIn K (.ref C12) "__getattr__" = some none)
    (cK12 : PySem.W.keepIn K (.ref C12) = true)
    (cE12 : PySem.W.subIn K (.ref C12) (.type "BaseException") = some true)
    (cD12 : PySem.W.hasDictIn K C12 = true)
    (cY12 : PySem.W.findIn K (.ref C12) "__class__" = some (some (.builtin "object.__class__")))
    (cM12 : PySem.W.mroIn K C12 (.type "object") = some true)
    (cN0_12 : PySem.W.findIn K (.ref C12) "limit" = some none)
    (cI12 : PySem.W.findIn K (.ref C12) "__init__" = some (some (.ref fi12)))
    (cJ12 : PySem.W.typeIn K (.ref fi12) = some (.type "function"))
    (cF12 : K.lookup fi12 = some ⟨oc_12, od_12, .func (PySem.W.fnOf "__init__" "TooLarge.__init__" (defArgs si_TooLarge) (defBody si_TooLarge) (defScope si_TooLarge) .none kV_12 dc_12 pm_12 an_12 cd_12 ct_12), sl_12⟩)
    (cC12 : PySem.W.codeIn K cd_12 "TooLarge.__init__" = true)
    (cP12 : PySem.W.keepIn K (.ref fi12) = true)
    {C13 N13 : Addr} {nm13 qn13 : Str} {bs13 sb13 : List Value} {sn13 : List Str} {ab13 : Bool} {co13 : Option Bool} {dd13 : Option Addr} {ma13 mb13 mc13 md13 me13 : Option Value}
    {fi13 : Addr} {od_13 an_13 : Option Addr} {oc_13 kV_13 dc_13 pm_13 cd_13 ct_13 : Value} {sl_13 : Array (Option Value)}
    (cA13 : PySem.W.nsIn K mainGlobals "BadSizes" = some (some (.ref C13)))
    (cL13 : K.lookup C13 = some (excClassObj nm13 qn13 C13 N13 bs13 (cmOf C0) true sn13 sb13 ab13 co13 dd13 ma13 mb13 mc13 md13 me13 "ValueError.__new__"))
    (cT13 : PySem.W.typeIn K (.ref C13) = some (.type "type"))
    (cS13 : PySem.W.findIn K (.ref C13) "__setattr__" = some (some (.builtin "object.__setattr__")))
    (cG13 : PySem.W.findIn K (.ref C13) "__getattribute__" = some (some (.builtin "BaseException.__getattribute__")))
    (cH13 : PySem.W.findIn K (.ref C13) "__getattr__" = some none)
    (cK13 : PySem.W.keepIn K (.ref C13) = true)
    (cE13 : PySem.W.subIn K (.ref C13) (.type "BaseException") = some true)
    (cD13 : PySem.W.hasDictIn K C13 = true)
    (cY13 : PySem.W.findIn K (.ref C13) "__class__" = some (some (.builtin "object.__class__")))
    (cM13 : PySem.W.mroIn K C13 (.type "object") = some true)
    (cN0_13 : PySem.W.findIn K (.ref C13) "sizes" = some none)
    (cI13 : PySem.W.findIn K (.ref C13) "__init__" = some (some (.ref fi13)))
    (cJ13 : PySem.W.typeIn K (.ref fi13) = some (.type "function"))
    (cF13 : K.lookup fi13 = some ⟨oc_13, od_13, .func (PySem.W.fnOf "__init__" "BadSizes.__init__" (defArgs si_BadSizes) (defBody si_BadSizes) (defScope si_BadSizes) .none kV_13 dc_13 pm_13 an_13 cd_13 ct_13), sl_13⟩)
    (cC13 : PySem.W.codeIn K cd_13 "BadSizes.__init__" = true)
    (cP13 : PySem.W.keepIn K (.ref fi13) = true)
    {C14 N14 : Addr} {nm14 qn14 : Str} {bs14 sb14 : List Value} {sn14 : List Str} {ab14 : Bool} {co14 : Option Bool} {dd14 : Option Addr} {ma14 mb14 mc14 md14 me14 : Option Value}
    {fi14 : Addr} {od_14 an_14 : Option Addr} {oc_14 kV_14 dc_14 pm_14 cd_14 ct_14 : Value} {sl_14 : Array (Option Value)}
    (cA14 : PySem.W.nsIn K mainGlobals "BadResults" = some (some (.ref C14)))
    (cL14 : K.lookup C14 = some (excClassObj nm14 qn14 C14 N14 bs14 (cmOf C0) true sn14 sb14 ab14 co14 dd14 ma14 mb14 mc14 md14 me14 "ValueError.__new__"))
    (cT14 : PySem.W.typeIn K (.ref C14) = some (.type "type"))
    (cS14 : PySem.W.findIn K (.ref C14) "__setattr__" = some (some (.builtin "object.__setattr__")))
    (cG14 : PySem.W.findIn K (.ref C14) "__getattribute__" = some (some (.builtin "BaseException.__getattribute__")))
    (cH14 : PySem.W.findIn K (.ref C14) "__getattr__" = some none)
    (cK14 : PySem.W.keepIn K (.ref C14) = true)
    (cE14 : PySem.W.subIn K (.ref C14) (.type "BaseException") = some true)
    (cD14 : PySem.W.hasDictIn K C14 = true)
    (cY14 : PySem.W.findIn K (.ref C14) "__class__" = some (some (.builtin "object.__class__")))
    (cM14 : PySem.W.mroIn K C14 (.type "object") = some true)
    (cN0_14 : PySem.W.findIn K (.ref C14) "results" = some none)
    (cI14 : PySem.W.findIn K (.ref C14) "__init__" = some (some (.ref fi14)))
    (cJ14 : PySem.W.typeIn K (.ref fi14) = some (.type "function"))
    (cF14 : K.lookup fi14 = some ⟨oc_14, od_14, .func (PySem.W.fnOf "__init__" "BadResults.__init__" (defArgs si_BadResults) (defBody si_BadResults) (defScope si_BadResults) .none kV_14 dc_14 pm_14 an_14 cd_14 ct_14), sl_14⟩)
    (cC14 : PySem.W.codeIn K cd_14 "BadResults.__init__" = true)
    (cP14 : PySem.W.keepIn K (.ref fi14) = true)
    {C15 N15 : Addr} {nm15 qn15 : Str} {bs15 sb15 : List Value} {sn15 : List Str} {ab15 : Bool} {co15 : Option Bool} {dd15 : Option Addr} {ma15 mb15 mc15 md15 me15 : Option Value}
    (cX15 : PySem.W.excIn K C15 [.type "ValueError", .type "Exception", .type "BaseException", .type "object"] "ValueError.__new__" = true)
    (cA15 : PySem.W.nsIn K mainGlobals "Full" = some (some (.ref C15)))
    (cL15 : K.lookup C15 = some (excClassObj nm15 qn15 C15 N15 bs15 (cmOf C0) true sn15 sb15 ab15 co15 dd15 ma15 mb15 mc15 md15 me15 "ValueError.__new__"))
    (cT15 : PySem.W.typeIn K (.ref C15) = some (.type "type"))
    (cS15 : PySem.W.findIn K (.ref C15) "__setattr__" = some (some (.builtin "object.__setattr__")))
    (cG15 : PySem.W.findIn K (.ref C15) "__getattribute__" = some (some (.builtin "BaseException.__getattribute__")))
    (cH15 : PySem.W.findIn K (.ref C15) "__getattr__" = some none)
    (cK15 : PySem.W.keepIn K (.ref C15) = true)
    (cE15 : PySem.W.subIn K (.ref C15) (.type "BaseException") = some true)
    (cD15 : PySem.W.hasDictIn K C15 = true)
    (cY15 : PySem.W.findIn K (.ref C15) "__class__" = some (some (.builtin "object.__class__")))
    (cM15 : PySem.W.mroIn K C15 (.type "object") = some true)
    {C16 N16 : Addr} {nm16 qn16 : Str} {bs16 sb16 : List Value} {sn16 : List Str} {ab16 : Bool} {co16 : Option Bool} {dd16 : Option Addr} {ma16 mb16 mc16 md16 me16 : Option Value}
    (cX16 : PySem.W.excIn K C16 [.type "ValueError", .type "Exception", .type "BaseException", .type "object"] "ValueError.__new__" = true)
    (cA16 : PySem.W.nsIn K mainGlobals "NothingToUndo" = some (some (.ref C16)))
    (cL16 : K.lookup C16 = some (excClassObj nm16 qn16 C16 N16 bs16 (cmOf C0) true sn16 sb16 ab16 co16 dd16 ma16 mb16 mc16 md16 me16 "ValueError.__new__"))
    (cT16 : PySem.W.typeIn K (.ref C16) = some (.type "type"))
    (cS16 : PySem.W.findIn K (.ref C16) "__setattr__" = some (some (.builtin "object.__setattr__")))
    (cG16 : PySem.W.findIn K (.ref C16) "__getattribute__" = some (some (.builtin "BaseException.__getattribute__")))
    (cH16 : PySem.W.findIn K (.ref C16) "__getattr__" = some none)
    (cK16 : PySem.W.keepIn K (.ref C16) = true)
    (cE16 : PySem.W.subIn K (.ref C16) (.type "BaseException") = some true)
    (cD16 : PySem.W.hasDictIn K C16 = true)
    (cY16 : PySem.W.findIn K (.ref C16) "__class__" = some (some (.builtin "object.__class__")))
    (cM16 : PySem.W.mroIn K C16 (.type "object") = some true)
    {C17 N17 : Addr} {nm17 qn17 : Str} {bs17 sb17 : List Value} {sn17 : List Str} {ab17 : Bool} {co17 : Option Bool} {dd17 : Option Addr} {ma17 mb17 mc17 md17 me17 : Option Value}
    {fi17 : Addr} {od_17 an_17 : Option Addr} {oc_17 kV_17 dc_17 pm_17 cd_17 ct_17 : Value} {sl_17 : Array (Option Value)}
    (cA17 : PySem.W.nsIn K mainGlobals "BadText" = some (some (.ref C17)))
    (cL17 : K.lookup C17 = some (excClassObj nm17 qn17 C17 N17 bs17 (cmOf C0) true sn17 sb17 ab17 co17 dd17 ma17 mb17 mc17 md17 me17 "ValueError.__new__"))
    (cT17 : PySem.W.typeIn K (.ref C17) = some (.type "type"))
    (cS17 : PySem.W.findIn K (.ref C17) "__setattr__" = some (some (.builtin "object.__setattr__")))
    (cG17 : PySem.W.findIn K (.ref C17) "__getattribute__" = some (some (.builtin "BaseException.__getattribute__")))
    (cH17 : PySem.W.findIn K (.ref C17) "__getattr__" = some none)
    (cK17 : PySem.W.keepIn K (.ref C17) = true)
    (cE17 : PySem.W.subIn K (.ref C17) (.type "BaseException") = some true)
    (cD17 : PySem.W.hasDictIn K C17 = true)
    (cY17 : PySem.W.findIn K (.ref C17) "__class__" = some (some (.builtin "object.__class__")))
    (cM17 : PySem.W.mroIn K C17 (.type "object") = some true)
    (cN0_17 : PySem.W.findIn K (.ref C17) "line" = some none)
    (cI17 : PySem.W.findIn K (.ref C17) "__init__" = some (some (.ref fi17)))
    (cJ17 : PySem.W.typeIn K (.ref fi17) = some (.type "function"))
    (cF17 : K.lookup fi17 = some ⟨oc_17, od_17, .func (PySem.W.fnOf "__init__" "BadText.__init__" (defArgs si_BadText) (defBody si_BadText) (defScope si_BadText) .none kV_17 dc_17 pm_17 an_17 cd_17 ct_17), sl_17⟩)
    (cC17 : PySem.W.codeIn K cd_17 "BadText.__init__" = true)
    (cP17 : PySem.W.keepIn K (.ref fi17) = true)
    {C18 N18 : Addr} {nm18 qn18 : Str} {bs18 sb18 : List Value} {sn18 : List Str} {ab18 : Bool} {co18 : Option Bool} {dd18 : Option Addr} {ma18 mb18 mc18 md18 me18 : Option Value}
    {fi18 : Addr} {od_18 an_18 : Option Addr} {oc_18 kV_18 dc_18 pm_18 cd_18 ct_18 : Value} {sl_18 : Array (Option Value)}
    (cA18 : PySem.W.nsIn K mainGlobals "BadCommand" = some (some (.ref C18)))
    (cL18 : K.lookup C18 = some (excClassObj nm18 qn18 C18 N18 bs18 (cmOf C0) true sn18 sb18 ab18 co18 dd18 ma18 mb18 mc18 md18 me18 "ValueError.__new__"))
    (cT18 : PySem.W.typeIn K (.ref C18) = some (.type "type"))
    (cS18 : PySem.W.findIn K (.ref C18) "__setattr__" = some (some (.builtin "object.__setattr__")))
    (cG18 : PySem.W.findIn K (.ref C18) "__getattribute__" = some (some (.builtin "BaseException.__getattribute__")))
    (cH18 : PySem.W.findIn K (.ref C18) "__getattr__" = some none)
    (cK18 : PySem.W.keepIn K (.ref C18) = true)
    (cE18 : PySem.W.subIn K (.ref C18) (.type "BaseException") = some true)
    (cD18 : PySem.W.hasDictIn K C18 = true)
    (cY18 : PySem.W.findIn K (.ref C18) "__class__" = some (some (.builtin "object.__class__")))
    (cM18 : PySem.W.mroIn K C18 (.type "object") = some true)
    (cN0_18 : PySem.W.findIn K (.ref C18) "line" = some none)
    (cI18 : PySem.W.findIn K (.ref C18) "__init__" = some (some (.ref fi18)))
    (cJ18 : PySem.W.typeIn K (.ref fi18) = some (.type "function"))
    (cF18 : K.lookup fi18 = some ⟨oc_18, od_18, .func (PySem.W.fnOf "__init__" "BadCommand.__init__" (defArgs si_BadCommand) (defBody si_BadCommand) (defScope si_BadCommand) .none kV_18 dc_18 pm_18 an_18 cd_18 ct_18), sl_18⟩)
    (cC18 : PySem.W.codeIn K cd_18 "BadCommand.__init__" = true)
    (cP18 : PySem.W.keepIn K (.ref fi18) = true)
    (cs1 : PySem.W.specialIn K (.builtin "object.__class__") "__get__" = some (some (.builtin "getset_descriptor.__get__"))) (cs2 : PySem.W.takesIn K (.builtin "object.__class__") = some true)
    (cnd : ([C0, C1, C2, C3, C4, C5, C6, C7, C8, C9, C10, C11, C12, C13, C14, C15, C16, C17, C18] : List Addr).Nodup)
    : ∃ fd : FuncData, (∀ (s : Shared) (v : Value), BindsTo s fd ⟨[v], []⟩ [("_law_script", v)]) ∧ ∀ base : Heap, K.In base → base.Ns mainGlobals mg → FnG PySem.Challenge.rw_readorder_k07_errors_and_their_fields.prog w K mg base CX0 13 fa fd ["_law_script"] (sp_law K) := by
  have e := hfa.symm.trans (PySem.W.mg_of X G a8)
  cases e
  have F0 := fun_mk (st := s_box) l0 c0 k0
  have F1 := fun_mk (st := s_take) l1 c1 k1
  have F2 := fun_mk (st := s_of) l2 c2 k2
  have F3 := fun_mk (st := s_made) l3 c3 k3
  have F4 := fun_mk (st := s_made_by_name) l4 c4 k4
  have F5 := fun_mk (st := s_kinds) l5 c5 k5
  have F6 := fun_mk (st := s_fields) l6 c6 k6
  have F7 := fun_mk (st := s_right) l7 c7 k7
  have F8 := fun_mk (st := s_law) l8 c8 k8
  have zb : Zb mg := ⟨PySem.W.mg_none_of X G z0, PySem.W.mg_none_of X G z1, PySem.W.mg_none_of X G z2, PySem.W.mg_none_of X G z3, PySem.W.mg_none_of X G z4, PySem.W.mg_none_of X G z5, PySem.W.mg_none_of X G z6, PySem.W.mg_none_of X G z7, PySem.W.mg_none_of X G z8, PySem.W.mg_none_of X G z9, PySem.W.mg_none_of X G z10, PySem.W.mg_none_of X G z11⟩
  refine ⟨PySem.W.fnOf "law" "law" (defArgs s_law) (defBody s_law) (defScope s_law) .none kV8 dc8 pm8 an8 cd8 ct8, fun s v => .of_eq rfl, fun base _ _ => ?_⟩
  let C : Nat → Addr := fun i => ([C0, C1, C2, C3, C4, C5, C6, C7, C8, C9, C10, C11, C12, C13, C14, C15, C16, C17, C18] : List Addr).getD i 0
  have ec1 : EC K C1 := ec_mk cL1 rfl cS1 cG1 cH1 cK1 cE1 cT1 cD1 cY1 cM1
  have kc1 : Kc K C0 C1 := kc_mk cL1 cT1
  have mm1 : Mk0 K C1 := ⟨ec1, cX1⟩
  have ec2 : EC K C2 := ec_mk cL2 rfl cS2 cG2 cH2 cK2 cE2 cT2 cD2 cY2 cM2
  have kc2 : Kc K C0 C2 := kc_mk cL2 cT2
  have FI2 := fun_mk (st := si_Stuck) cF2 cC2 cP2
  have mm2 : Mk1 PySem.Challenge.rw_readorder_k07_errors_and_their_fields.prog w K mg base C2 "group" := ⟨⟨fi2, _, ⟨ec2, cI2, cJ2⟩, ki_Stuck FI2, FI2.binds (fun _ _ _ _ _ _ us hl => match us, hl with | [_, _], _ => rfl), fun s' a ws Y hl => match ws, hl with | [_], _ => .of_eq rfl⟩, ec2, cN0_2⟩
  have ec3 : EC K C3 := ec_mk cL3 rfl cS3 cG3 cH3 cK3 cE3 cT3 cD3 cY3 cM3
  have kc3 : Kc K C0 C3 := kc_mk cL3 cT3
  have FI3 := fun_mk (st := si_NotALog) cF3 cC3 cP3
  have mm3 : Mk1 PySem.Challenge.rw_readorder_k07_errors_and_their_fields.prog w K mg base C3 "log" := ⟨⟨fi3, _, ⟨ec3, cI3, cJ3⟩, ki_NotALog FI3, FI3.binds (fun _ _ _ _ _ _ us hl => match us, hl with | [_, _], _ => rfl), fun s' a ws Y hl => match ws, hl with | [_], _ => .of_eq rfl⟩, ec3, cN0_3⟩
  have ec4 : EC K C4 := ec_mk cL4 rfl cS4 cG4 cH4 cK4 cE4 cT4 cD4 cY4 cM4
  have kc4 : Kc K C0 C4 := kc_mk cL4 cT4
  have FI4 := fun_mk (st := si_BadLog) cF4 cC4 cP4
  have mm4 : Mk1 PySem.Challenge.rw_readorder_k07_errors_and_their_fields.prog w K mg base C4 "log" := ⟨⟨fi4, _, ⟨ec4, cI4, cJ4⟩, ki_BadLog FI4, FI4.binds (fun _ _ _ _ _ _ us hl => match us, hl with | [_, _], _ => rfl), fun s' a ws Y hl => match ws, hl with | [_], _ => .of_eq rfl⟩, ec4, cN0_4⟩
  have ec5 : EC K C5 := ec_mk cL5 rfl cS5 cG5 cH5 cK5 cE5 cT5 cD5 cY5 cM5
  have kc5 : Kc K C0 C5 := kc_mk cL5 cT5
  have FI5 := fun_mk (st := si_BadLogs) cF5 cC5 cP5
  have mm5 : Mk1 PySem.Challenge.rw_readorder_k07_errors_and_their_fields.prog w K mg base C5 "value" := ⟨⟨fi5, _, ⟨ec5, cI5, cJ5⟩, ki_BadLogs FI5, FI5.binds (fun _ _ _ _ _ _ us hl => match us, hl with | [_, _], _ => rfl), fun s' a ws Y hl => match ws, hl with | [_], _ => .of_eq rfl⟩, ec5, cN0_5⟩
  have ec6 : EC K C6 := ec_mk cL6 rfl cS6 cG6 cH6 cK6 cE6 cT6 cD6 cY6 cM6
  have kc6 : Kc K C0 C6 := kc_mk cL6 cT6
  have FI6 := fun_mk (st := si_BadOrder) cF6 cC6 cP6
  have mm6 : Mk1 PySem.Challenge.rw_readorder_k07_errors_and_their_fields.prog w K mg base C6 "order" := ⟨⟨fi6, _, ⟨ec6, cI6, cJ6⟩, ki_BadOrder FI6, FI6.binds (fun _ _ _ _ _ _ us hl => match us, hl with | [_, _], _ => rfl), fun s' a ws Y hl => match ws, hl with | [_], _ => .of_eq rfl⟩, ec6, cN0_6⟩
  have ec7 : EC K C7 := ec_mk cL7 rfl cS7 cG7 cH7 cK7 cE7 cT7 cD7 cY7 cM7
  have kc7 : Kc K C0 C7 := kc_mk cL7 cT7
  have FI7 := fun_mk (st := si_BadCell) cF7 cC7 cP7
  have mm7 : Mk1 PySem.Challenge.rw_readorder_k07_errors_and_their_fields.prog w K mg base C7 "cell" := ⟨⟨fi7, _, ⟨ec7, cI7, cJ7⟩, ki_BadCell FI7, FI7.binds (fun _ _ _ _ _ _ us hl => match us, hl with | [_, _], _ => rfl), fun s' a ws Y hl => match ws, hl with | [_], _ => .of_eq rfl⟩, ec7, cN0_7⟩
  have ec8 : EC K C8 := ec_mk cL8 rfl cS8 cG8 cH8 cK8 cE8 cT8 cD8 cY8 cM8
  have kc8 : Kc K C0 C8 := kc_mk cL8 cT8
  have FI8 := fun_mk (st := si_OrdersClash) cF8 cC8 cP8
  have mm8 : Mk2 PySem.Challenge.rw_readorder_k07_errors_and_their_fields.prog w K mg base C8 "one" "other" := ⟨⟨fi8, _, ⟨ec8, cI8, cJ8⟩, ki_OrdersClash FI8, FI8.binds (fun _ _ _ _ _ _ us hl => match us, hl with | [_, _, _], _ => rfl), fun s' a ws Y hl => by
    match ws, hl with
    | [_, _], _ => exact .of_eq rfl
    | [], h => exact absurd h (by simp [turn2])
    | [_], h => exact absurd h (by simp [turn2])
    | _ :: _ :: _ :: _, h => exact absurd h (by simp [turn2])⟩, ec8, cN0_8, cN1_8⟩
  have ec9 : EC K C9 := ec_mk cL9 rfl cS9 cG9 cH9 cK9 cE9 cT9 cD9 cY9 cM9
  have kc9 : Kc K C0 C9 := kc_mk cL9 cT9
  have FI9 := fun_mk (st := si_BadSnapshot) cF9 cC9 cP9
  have mm9 : Mk1 PySem.Challenge.rw_readorder_k07_errors_and_their_fields.prog w K mg base C9 "snapshot" := ⟨⟨fi9, _, ⟨ec9, cI9, cJ9⟩, ki_BadSnapshot FI9, FI9.binds (fun _ _ _ _ _ _ us hl => match us, hl with | [_, _], _ => rfl), fun s' a ws Y hl => match ws, hl with | [_], _ => .of_eq rfl⟩, ec9, cN0_9⟩
  have ec10 : EC K C10 := ec_mk cL10 rfl cS10 cG10 cH10 cK10 cE10 cT10 cD10 cY10 cM10
  have kc10 : Kc K C0 C10 := kc_mk cL10 cT10
  have FI10 := fun_mk (st := si_BadSwap) cF10 cC10 cP10
  have mm10 : Mk1 PySem.Challenge.rw_readorder_k07_errors_and_their_fields.prog w K mg base C10 "place" := ⟨⟨fi10, _, ⟨ec10, cI10, cJ10⟩, ki_BadSwap FI10, FI10.binds (fun _ _ _ _ _ _ us hl => match us, hl with | [_, _], _ => rfl), fun s' a ws Y hl => match ws, hl with | [_], _ => .of_eq rfl⟩, ec10, cN0_10⟩
  have ec11 : EC K C11 := ec_mk cL11 rfl cS11 cG11 cH11 cK11 cE11 cT11 cD11 cY11 cM11
  have kc11 : Kc K C0 C11 := kc_mk cL11 cT11
  have mm11 : Mk0 K C11 := ⟨ec11, cX11⟩
  have ec12 : EC K C12 := ec_mk cL12 rfl cS12 cG12 cH12 cK12 cE12 cT12 cD12 cY12 cM12
  have kc12 : Kc K C0 C12 := kc_mk cL12 cT12
  have FI12 := fun_mk (st := si_TooLarge) cF12 cC12 cP12
  have mm12 : Mk1 PySem.Challenge.rw_readorder_k07_errors_and_their_fields.prog w K mg base C12 "limit" := ⟨⟨fi12, _, ⟨ec12, cI12, cJ12⟩, ki_TooLarge FI12, FI12.binds (fun _ _ _ _ _ _ us hl => match us, hl with | [_, _], _ => rfl), fun s' a ws Y hl => match ws, hl with | [_], _ => .of_eq rfl⟩, ec12, cN0_12⟩
  have ec13 : EC K C13 := ec_mk cL13 rfl cS13 cG13 cH13 cK13 cE13 cT13 cD13 cY13 cM13
  have kc13 : Kc K C0 C13 := kc_mk cL13 cT13
  have FI13 := fun_mk (st := si_BadSizes) cF13 cC13 cP13
  have mm13 : Mk1 PySem.Challenge.rw_readorder_k07_errors_and_their_fields.prog w K mg base C13 "sizes" := ⟨⟨fi13, _, ⟨ec13, cI13, cJ13⟩, ki_BadSizes FI13, FI13.binds (fun _ _ _ _ _ _ us hl => match us, hl with | [_, _], _ => rfl), fun s' a ws Y hl => match ws, hl with | [_], _ => .of_eq rfl⟩, ec13, cN0_13⟩
  have ec14 : EC K C14 := ec_mk cL14 rfl cS14 cG14 cH14 cK14 cE14 cT14 cD14 cY14 cM14
  have kc14 : Kc K C0 C14 := kc_mk cL14 cT14
  have FI14 := fun_mk (st := si_BadResults) cF14 cC14 cP14
  have mm14 : Mk1 PySem.Challenge.rw_readorder_k07_errors_and_their_fields.prog w K mg base C14 "results" := ⟨⟨fi14, _, ⟨ec14, cI14, cJ14⟩, ki_BadResults FI14, FI14.binds (fun _ _ _ _ _ _ us hl => match us, hl with | [_, _], _ => rfl), fun s' a ws Y hl => match ws, hl with | [_], _ => .of_eq rfl⟩, ec14, cN0_14⟩
  have ec15 : EC K C15 := ec_mk cL15 rfl cS15 cG15 cH15 cK15 cE15 cT15 cD15 cY15 cM15
  have kc15 : Kc K C0 C15 := kc_mk cL15 cT15
  have mm15 : Mk0 K C15 := ⟨ec15, cX15⟩
  have ec16 : EC K C16 := ec_mk cL16 rfl cS16 cG16 cH16 cK16 cE16 cT16 cD16 cY16 cM16
  have kc16 : Kc K C0 C16 := kc_mk cL16 cT16
  have mm16 : Mk0 K C16 := ⟨ec16, cX16⟩
  have ec17 : EC K C17 := ec_mk cL17 rfl cS17 cG17 cH17 cK17 cE17 cT17 cD17 cY17 cM17
  have kc17 : Kc K C0 C17 := kc_mk cL17 cT17
  have FI17 := fun_mk (st := si_BadText) cF17 cC17 cP17
  have mm17 : Mk1 PySem.Challenge.rw_readorder_k07_errors_and_their_fields.prog w K mg base C17 "line" := ⟨⟨fi17, _, ⟨ec17, cI17, cJ17⟩, ki_BadText FI17, FI17.binds (fun _ _ _ _ _ _ us hl => match us, hl with | [_, _], _ => rfl), fun s' a ws Y hl => match ws, hl with | [_], _ => .of_eq rfl⟩, ec17, cN0_17⟩
  have ec18 : EC K C18 := ec_mk cL18 rfl cS18 cG18 cH18 cK18 cE18 cT18 cD18 cY18 cM18
  have kc18 : Kc K C0 C18 := kc_mk cL18 cT18
  have FI18 := fun_mk (st := si_BadCommand) cF18 cC18 cP18
  have mm18 : Mk1 PySem.Challenge.rw_readorder_k07_errors_and_their_fields.prog w K mg base C18 "line" := ⟨⟨fi18, _, ⟨ec18, cI18, cJ18⟩, ki_BadCommand FI18, FI18.binds (fun _ _ _ _ _ _ us hl => match us, hl with | [_, _], _ => rfl), fun s' a ws Y hl => match ws, hl with | [_], _ => .of_eq rfl⟩, ec18, cN0_18⟩
  have kc : ∀ i, i < 18 → Kc K C0 (C (i + 1)) := fun i hi => match i, hi with
    | 0, _ => kc1
    | 1, _ => kc2
    | 2, _ => kc3
    | 3, _ => kc4
    | 4, _ => kc5
    | 5, _ => kc6
    | 6, _ => kc7
    | 7, _ => kc8
    | 8, _ => kc9
    | 9, _ => kc10
    | 10, _ => kc11
    | 11, _ => kc12
    | 12, _ => kc13
    | 13, _ => kc14
    | 14, _ => kc15
    | 15, _ => kc16
    | 16, _ => kc17
    | 17, _ => kc18
    | n + 18, h => absurd h (by omega)
  have ne : ∀ i j, i < 19 → j < 19 → i ≠ j → C i ≠ C j := fun i j hi hj n => nd_ne cnd hi hj n
  have s0 : (PySem.W.clsIn K C0).isSome = true := by
    unfold PySem.W.clsIn
    rw [cL0]
    rfl
  have kF : ∀ i j, i < 18 → j < 18 → PySem.W.kitOne K (.ref (C (i + 1))) (.ref (C (j + 1))) = some (decide (i = j)) := fun i j hi hj => by
    by_cases e : i = j
    · rw [decide_eq_true e, ← e]
      exact kc_self
    · rw [decide_eq_false e]
      exact kc_kit (kc i hi) (kc j hj) (ne _ _ (by omega) (by omega) (by omega)) (ne _ 0 (by omega) (by omega) (by omega))
  have kR : ∀ i, i < 18 → PySem.W.kitOne K (.ref (C (i + 1))) (.ref (C 0)) = some true := fun i hi => kc_root (kc i hi) (ne _ 0 (by omega) (by omega) (by omega)) s0 cT0
  have kV : ∀ i, i < 18 → PySem.W.kitOne K (.ref (C (i + 1))) (.type "ValueError") = some true := fun i hi => (kc_ty (T := "ValueError") (kc i hi) (by decide +kernel)).trans (by decide +kernel)
  have kL : ∀ i, i < 18 → PySem.W.kitOne K (.ref (C (i + 1))) (.type "LookupError") = some false := fun i hi => (kc_ty (T := "LookupError") (kc i hi) (by decide +kernel)).trans (by decide +kernel)
  have er : Er PySem.Challenge.rw_readorder_k07_errors_and_their_fields.prog w K mg base C := { cs := ⟨cs1, cs2⟩, g0 := PySem.W.mg_of X G cA0, g1 := PySem.W.mg_of X G cA1, m1 := mm1, g2 := PySem.W.mg_of X G cA2, m2 := mm2, g3 := PySem.W.mg_of X G cA3, m3 := mm3, g4 := PySem.W.mg_of X G cA4, m4 := mm4, g5 := PySem.W.mg_of X G cA5, m5 := mm5, g6 := PySem.W.mg_of X G cA6, m6 := mm6, g7 := PySem.W.mg_of X G cA7, m7 := mm7, g8 := PySem.W.mg_of X G cA8, m8 := mm8, g9 := PySem.W.mg_of X G cA9, m9 := mm9, g10 := PySem.W.mg_of X G cA10, m10 := mm10, g11 := PySem.W.mg_of X G cA11, m11 := mm11, g12 := PySem.W.mg_of X G cA12, m12 := mm12, g13 := PySem.W.mg_of X G cA13, m13 := mm13, g14 := PySem.W.mg_of X G cA14, m14 := mm14, g15 := PySem.W.mg_of X G cA15, m15 := mm15, g16 := PySem.W.mg_of X G cA16, m16 := mm16, g17 := PySem.W.mg_of X G cA17, m17 := mm17, g18 := PySem.W.mg_of X G cA18, m18 := mm18, kit := kF, kr := kR, kv := kV, kl := kL }
  have qk_box := k_box (P := PySem.Challenge.rw_readorder_k07_errors_and_their_fields.prog) (w := w) (base := base) F0 (PySem.W.mg_of X G a0) zb 
  have qk_take := k_take (P := PySem.Challenge.rw_readorder_k07_errors_and_their_fields.prog) (w := w) (base := base) F1 (PySem.W.mg_of X G a1) zb 
  have qk_of := k_of (P := PySem.Challenge.rw_readorder_k07_errors_and_their_fields.prog) (w := w) (base := base) F2 (PySem.W.mg_of X G a2) zb qk_take
  have qk_made := k_made (P := PySem.Challenge.rw_readorder_k07_errors_and_their_fields.prog) (w := w) (base := base) F3 (PySem.W.mg_of X G a3) zb er 
  have qk_made_by_name := k_made_by_name (P := PySem.Challenge.rw_readorder_k07_errors_and_their_fields.prog) (w := w) (base := base) F4 (PySem.W.mg_of X G a4) zb er 
  have qk_kinds := k_kinds (P := PySem.Challenge.rw_readorder_k07_errors_and_their_fields.prog) (w := w) (base := base) F5 (PySem.W.mg_of X G a5) zb er 
  have qk_fields := k_fields (P := PySem.Challenge.rw_readorder_k07_errors_and_their_fields.prog) (w := w) (base := base) F6 (PySem.W.mg_of X G a6) zb er 
  have qk_right := k_right (P := PySem.Challenge.rw_readorder_k07_errors_and_their_fields.prog) (w := w) (base := base) F7 (PySem.W.mg_of X G a7) zb er qk_of qk_made qk_made_by_name qk_kinds qk_fields
  exact k_law F8 (PySem.W.mg_of X G a8) zb er qk_box qk_right
end L2.Ro
open PySem PySem.W PyProof.Rows
set_option maxHeartbeats 0 in
theorem PySem.Challenge.cw_readorder_k07_errors_and_their_fields_holds : PySem.Challenge.rw_readorder_k07_errors_and_their_fields.Holds := by
  w_on; o_law; k_head; (case hw => w_witness2)
  k_fill
  refine L2.Rx.walkG (l := PySem.Challenge.rw_readorder_k07_errors_and_their_fields) (n := 63) (k := 13) (x := "_law_script") (sp := fun K => L2.Ro.sp_law K) rfl (by decide) rfl ⟨rfl, by decide, by decide⟩ (fun w h Y => PySem.W.kIn_of Y) ?F (fun _ _ a ns hl _ hS => ⟨a, ns, rfl, hS, fun _ => rfl⟩)
  case F =>
    intro w mg fa h KX G hmg
    refine' L2.Ro.all_mk KX G hmg (a0 := ?a0) (l0 := ?l0) (c0 := ?c0) (k0 := ?k0) (a1 := ?a1) (l1 := ?l1) (c1 := ?c1) (k1 := ?k1) (a2 := ?a2) (l2 := ?l2) (c2 := ?c2) (k2 := ?k2) (a3 := ?a3) (l3 := ?l3) (c3 := ?c3) (k3 := ?k3) (a4 := ?a4) (l4 := ?l4) (c4 := ?c4) (k4 := ?k4) (a5 := ?a5) (l5 := ?l5) (c5 := ?c5) (k5 := ?k5) (a6 := ?a6) (l6 := ?l6) (c6 := ?c6) (k6 := ?k6) (a7 := ?a7) (l7 := ?l7) (c7 := ?c7) (k7 := ?k7) (a8 := ?a8) (l8 := ?l8) (c8 := ?c8) (k8 := ?k8) (z0 := ?z0) (z1 := ?z1) (z2 := ?z2) (z3 := ?z3) (z4 := ?z4) (z5 := ?z5) (z6 := ?z6) (z7 := ?z7) (z8 := ?z8) (z9 := ?z9) (z10 := ?z10) (z11 := ?z11) (cA0 := ?cA0) (cL0 := ?cL0) (cT0 := ?cT0) (cA1 := ?cA1) (cL1 := ?cL1) (cT1 := ?cT1) (cS1 := ?cS1) (cG1 := ?cG1) (cH1 := ?cH1) (cK1 := ?cK1) (cE1 := ?cE1) (cD1 := ?cD1) (cY1 := ?cY1) (cM1 := ?cM1) (cA2 := ?cA2) (cL2 := ?cL2) (cT2 := ?cT2) (cS2 := ?cS2) (cG2 := ?cG2) (cH2 := ?cH2) (cK2 := ?cK2) (cE2 := ?cE2) (cD2 := ?cD2) (cY2 := ?cY2) (cM2 := ?cM2) (cN0_2 := ?cN0_2) (cI2 := ?cI2) (cJ2 := ?cJ2) (cF2 := ?cF2) (cC2 := ?cC2) (cP2 := ?cP2) (cA3 := ?cA3) (cL3 := ?cL3) (cT3 := ?cT3) (cS3 := ?cS3) (cG3 := ?cG3) (cH3 := ?cH3) (cK3 := ?cK3) (cE3 := ?cE3) (cD3 := ?cD3) (cY3 := ?cY3) (cM3 := ?cM3) (cN0_3 := ?cN0_3) (cI3 := ?cI3) (cJ3 := ?cJ3) (cF3 := ?cF3) (cC3 := ?cC3) (cP3 := ?cP3) (cA4 := ?cA4) (cL4 := ?cL4) (cT4 := ?cT4) (cS4 := ?cS4) (cG4 := ?cG4) (cH4 := ?cH4) (cK4 := ?cK4) (cE4 := ?cE4) (cD4 := ?cD4) (cY4 := ?cY4) (cM4 := ?cM4) (cN0_4 := ?cN0_4) (cI4 := ?cI4) (cJ4 := ?cJ4) (cF4 := ?cF4) (cC4 := ?cC4) (cP4 := ?cP4) (cA5 := ?cA5) (cL5 := ?cL5) (cT5 := ?cT5) (cS5 := ?cS5) (cG5 := ?cG5) (cH5 := ?cH5) (cK5 := ?cK5) (cE5 := ?cE5) (cD5 := ?cD5) (cY5 := ?cY5) (cM5 := ?cM5) (cN0_5 := ?cN0_5) (cI5 := ?cI5) (cJ5 := ?cJ5) (cF5 := ?cF5) (cC5 := ?cC5) (cP5 := ?cP5) (cA6 := ?cA6) (cL6 := ?cL6) (cT6 := ?cT6) (cS6 := ?cS6) (cG6 := ?cG6) (cH6 := ?cH6) (cK6 := ?cK6) (cE6 := ?cE6) (cD6 := ?cD6) (cY6 := ?cY6) (cM6 := ?cM6) (cN0_6 := ?cN0_6) (cI6 := ?cI6) (cJ6 := ?cJ6) (cF6 := ?cF6) (cC6 := ?cC6) (cP6 := ?cP6) (cA7 := ?cA7) (cL7 := ?cL7) (cT7 := ?cT7) (cS7 := ?cS7) (cG7 := ?cG7) (cH7 := ?cH7) (cK7 := ?cK7) (cE7 := ?cE7) (cD7 := ?cD7) (cY7 := ?cY7) (cM7 := ?cM7) (cN0_7 := ?cN0_7) (cI7 := ?cI7) (cJ7 := ?cJ7) (cF7 := ?cF7) (cC7 := ?cC7) (cP7 := ?cP7) (cA8 := ?cA8) (cL8 := ?cL8) (cT8 := ?cT8) (cS8 := ?cS8) (cG8 := ?cG8) (cH8 := ?cH8) (cK8 := ?cK8) (cE8 := ?cE8) (cD8 := ?cD8) (cY8 := ?cY8) (cM8 := ?cM8) (cN0_8 := ?cN0_8) (cN1_8 := ?cN1_8) (cI8 := ?cI8) (cJ8 := ?cJ8) (cF8 := ?cF8) (cC8 := ?cC8) (cP8 := ?cP8) (cA9 := ?cA9) (cL9 := ?cL9) (cT9 := ?cT9) (cS9 := ?cS9) (cG9 := ?cG9) (cH9 := ?cH9) (cK9 := ?cK9) (cE9 := ?cE9) (cD9 := ?cD9) (cY9 := ?cY9) (cM9 := ?cM9) (cN0_9 := ?cN0_9) (cI9 := ?cI9) (cJ9 := ?cJ9) (cF9 := ?cF9) (cC9 := ?cC9) (cP9 := ?cP9) (cA10 := ?cA10) (cL10 := ?cL10) (cT10 := ?cT10) (cS10 := ?cS10) (cG10 := ?cG10) (cH10 := ?cH10) (cK10 := ?cK10) (cE10 := ?cE10) (cD10 := ?cD10) (cY10 := ?cY10) (cM10 := ?cM10) (cN0_10 := ?cN0_10) (cI10 := ?cI10) (cJ10 := ?cJ10) (cF10 := ?cF10) (cC10 := ?cC10) (cP10 := ?cP10) (cA11 := ?cA11) (cL11 := ?cL11) (cT11 := ?cT11) (cS11 := ?cS11) (cG11 := ?cG11) (cH11 := ?cH11) (cK11 := ?cK11) (cE11 := ?cE11) (cD11 := ?cD11) (cY11 := ?cY11) (cM11 := ?cM11) (cA12 := ?cA12) (cL12 := ?cL12) (cT12 := ?cT12) (cS12 := ?cS12) (cG12 := ?cG12) (cH12 := ?cH12) (cK12 := ?cK12) (cE12 := ?cE12) (cD12 := ?cD12) (cY12 := ?cY12) (cM12 := ?cM12) (cN0_12 := ?cN0_12) (cI12 := ?cI12) (cJ12 := ?cJ12) (cF12 := ?cF12) (cC12 := ?cC12) (cP12 := ?cP12) (cA13 := ?cA13) (cL13 := ?cL13) (cT13 := ?cT13) (cS13 := ?cS13) (cG13 := ?cG13) (cH13 := ?cH13) (cK13 := ?cK13) (cE13 := ?cE13) (cD13 := ?cD13) (cY13 := ?cY13) (cM13 := ?cM13) (cN0_13 := ?cN0_13) (cI13 := ?cI13) (cJ13 := ?cJ13) (cF13 := ?cF13) (cC13 := ?cC13) (cP13 := ?cP13) (cA14 := ?cA14) (cL14 := ?cL14) (cT14 := ?cT14) (cS14 := ?cS14) (cG14 := ?cG14) (cH14 := ?cH14) (cK14 := ?cK14) (cE14 := ?cE14) (cD14 := ?cD14) (cY14 := ?cY14) (cM14 := ?cM14) (cN0_14 := ?cN0_14) (cI14 := ?cI14) (cJ14 := ?cJ14) (cF14 := ?cF14) (cC14 := ?cC14) (cP14 := ?cP14) (cA15 := ?cA15) (cL15 := ?cL15) (cT15 := ?cT15) (cS15 := ?cS15) (cG15 := ?cG15) (cH15 := ?cH15) (cK15 := ?cK15) (cE15 := ?cE15) (cD15 := ?cD15) (cY15 := ?cY15) (cM15 := ?cM15) (cA16 := ?cA16) (cL16 := ?cL16) (cT16 := ?cT16) (cS16 := ?cS16) (cG16 := ?cG16) (cH16 := ?cH16) (cK16 := ?cK16) (cE16 := ?cE16) (cD16 := ?cD16) (cY16 := ?cY16) (cM16 := ?cM16) (cA17 := ?cA17) (cL17 := ?cL17) (cT17 := ?cT17) (cS17 := ?cS17) (cG17 := ?cG17) (cH17 := ?cH17) (cK17 := ?cK17) (cE17 := ?cE17) (cD17 := ?cD17) (cY17 := ?cY17) (cM17 := ?cM17) (cN0_17 := ?cN0_17) (cI17 := ?cI17) (cJ17 := ?cJ17) (cF17 := ?cF17) (cC17 := ?cC17) (cP17 := ?cP17) (cA18 := ?cA18) (cL18 := ?cL18) (cT18 := ?cT18) (cS18 := ?cS18) (cG18 := ?cG18) (cH18 := ?cH18) (cK18 := ?cK18) (cE18 := ?cE18) (cD18 := ?cD18) (cY18 := ?cY18) (cM18 := ?cM18) (cN0_18 := ?cN0_18) (cI18 := ?cI18) (cJ18 := ?cJ18) (cF18 := ?cF18) (cC18 := ?cC18) (cP18 := ?cP18) (cs1 := ?cs1) (cs2 := ?cs2) (cX1 := ?cX1) (cX11 := ?cX11) (cX15 := ?cX15) (cX16 := ?cX16) (cnd := ?cnd)
    (case a0 => k_is); (case l0 => k_is); (case c0 => k_is); (case k0 => k_is); (case a1 => k_is); (case l1 => k_is); (case c1 => k_is); (case k1 => k_is); (case a2 => k_is); (case l2 => k_is); (case c2 => k_is); (case k2 => k_is); (case a3 => k_is); (case l3 => k_is); (case c3 => k_is); (case k3 => k_is); (case a4 => k_is); (case l4 => k_is); (case c4 => k_is); (case k4 => k_is); (case a5 => k_is); (case l5 => k_is); (case c5 => k_is); (case k5 => k_is); (case a6 => k_is); (case l6 => k_is); (case c6 => k_is); (case k6 => k_is); (case a7 => k_is); (case l7 => k_is); (case c7 => k_is); (case k7 => k_is); (case a8 => k_is); (case l8 => k_is); (case c8 => k_is); (case k8 => k_is); (case z0 => k_is); (case z1 => k_is); (case z2 => k_is); (case z3 => k_is); (case z4 => k_is); (case z5 => k_is); (case z6 => k_is); (case z7 => k_is); (case z8 => k_is); (case z9 => k_is); (case z10 => k_is); (case z11 => k_is); (case cA0 => k_is); (case cL0 => k_is); (case cT0 => k_is); (case cA1 => k_is); (case cL1 => k_is); (case cT1 => k_is); (case cS1 => k_is); (case cG1 => k_is); (case cH1 => k_is); (case cK1 => k_is); (case cE1 => k_is); (case cD1 => k_is); (case cY1 => k_is); (case cM1 => k_is); (case cA2 => k_is); (case cL2 => k_is); (case cT2 => k_is); (case cS2 => k_is); (case cG2 => k_is); (case cH2 => k_is); (case cK2 => k_is); (case cE2 => k_is); (case cD2 => k_is); (case cY2 => k_is); (case cM2 => k_is); (case cN0_2 => k_is); (case cI2 => k_is); (case cJ2 => k_is); (case cF2 => k_is); (case cC2 => k_is); (case cP2 => k_is); (case cA3 => k_is); (case cL3 => k_is); (case cT3 => k_is); (case cS3 => k_is); (case cG3 => k_is); (case cH3 => k_is); (case cK3 => k_is); (case cE3 => k_is); (case cD3 => k_is); (case cY3 => k_is); (case cM3 => k_is); (case cN0_3 => k_is); (case cI3 => k_is); (case cJ3 => k_is); (case cF3 => k_is); (case cC3 => k_is); (case cP3 => k_is); (case cA4 => k_is); (case cL4 => k_is); (case cT4 => k_is); (case cS4 => k_is); (case cG4 => k_is); (case cH4 => k_is); (case cK4 => k_is); (case cE4 => k_is); (case cD4 => k_is); (case cY4 => k_is); (case cM4 => k_is); (case cN0_4 => k_is); (case cI4 => k_is); (case cJ4 => k_is); (case cF4 => k_is); (case cC4 => k_is); (case cP4 => k_is); (case cA5 => k_is); (case cL5 => k_is); (case cT5 => k_is); (case cS5 => k_is); (case cG5 => k_is); (case cH5 => k_is); (case cK5 => k_is); (case cE5 => k_is); (case cD5 => k_is); (case cY5 => k_is); (case cM5 => k_is); (case cN0_5 => k_is); (case cI5 => k_is); (case cJ5 => k_is); (case cF5 => k_is); (case cC5 => k_is); (case cP5 => k_is); (case cA6 => k_is); (case cL6 => k_is); (case cT6 => k_is); (case cS6 => k_is); (case cG6 => k_is); (case cH6 => k_is); (case cK6 => k_is); (case cE6 => k_is); (case cD6 => k_is); (case cY6 => k_is); (case cM6 => k_is); (case cN0_6 => k_is); (case cI6 => k_is); (case cJ6 => k_is); (case cF6 => k_is); (case cC6 => k_is); (case cP6 => k_is); (case cA7 => k_is); (case cL7 => k_is); (case cT7 => k_is); (case cS7 => k_is); (case cG7 => k_is); (case cH7 => k_is); (case cK7 => k_is); (case cE7 => k_is); (case cD7 => k_is); (case cY7 => k_is); (case cM7 => k_is); (case cN0_7 => k_is); (case cI7 => k_is); (case cJ7 => k_is); (case cF7 => k_is); (case cC7 => k_is); (case cP7 => k_is); (case cA8 => k_is); (case cL8 => k_is); (case cT8 => k_is); (case cS8 => k_is); (case cG8 => k_is); (case cH8 => k_is); (case cK8 => k_is); (case cE8 => k_is); (case cD8 => k_is); (case cY8 => k_is); (case cM8 => k_is); (case cN0_8 => k_is); (case cN1_8 => k_is); (case cI8 => k_is); (case cJ8 => k_is); (case cF8 => k_is); (case cC8 => k_is); (case cP8 => k_is); (case cA9 => k_is); (case cL9 => k_is); (case cT9 => k_is); (case cS9 => k_is); (case cG9 => k_is); (case cH9 => k_is); (case cK9 => k_is); (case cE9 => k_is); (case cD9 => k_is); (case cY9 => k_is); (case cM9 => k_is); (case cN0_9 => k_is); (case cI9 => k_is); (case cJ9 => k_is); (case cF9 => k_is); (case cC9 => k_is); (case cP9 => k_is); (case cA10 => k_is); (case cL10 => k_is); (case cT10 => k_is); (case cS10 => k_is); (case cG10 => k_is); (case cH10 => k_is); (case cK10 => k_is); (case cE10 => k_is); (case cD10 => k_is); (case cY10 => k_is); (case cM10 => k_is); (case cN0_10 => k_is); (case cI10 => k_is); (case cJ10 => k_is); (case cF10 => k_is); (case cC10 => k_is); (case cP10 => k_is); (case cA11 => k_is); (case cL11 => k_is); (case cT11 => k_is); (case cS11 => k_is); (case cG11 => k_is); (case cH11 => k_is); (case cK11 => k_is); (case cE11 => k_is); (case cD11 => k_is); (case cY11 => k_is); (case cM11 => k_is); (case cA12 => k_is); (case cL12 => k_is); (case cT12 => k_is); (case cS12 => k_is); (case cG12 => k_is); (case cH12 => k_is); (case cK12 => k_is); (case cE12 => k_is); (case cD12 => k_is); (case cY12 => k_is); (case cM12 => k_is); (case cN0_12 => k_is); (case cI12 => k_is); (case cJ12 => k_is); (case cF12 => k_is); (case cC12 => k_is); (case cP12 => k_is); (case cA13 => k_is); (case cL13 => k_is); (case cT13 => k_is); (case cS13 => k_is); (case cG13 => k_is); (case cH13 => k_is); (case cK13 => k_is); (case cE13 => k_is); (case cD13 => k_is); (case cY13 => k_is); (case cM13 => k_is); (case cN0_13 => k_is); (case cI13 => k_is); (case cJ13 => k_is); (case cF13 => k_is); (case cC13 => k_is); (case cP13 => k_is); (case cA14 => k_is); (case cL14 => k_is); (case cT14 => k_is); (case cS14 => k_is); (case cG14 => k_is); (case cH14 => k_is); (case cK14 => k_is); (case cE14 => k_is); (case cD14 => k_is); (case cY14 => k_is); (case cM14 => k_is); (case cN0_14 => k_is); (case cI14 => k_is); (case cJ14 => k_is); (case cF14 => k_is); (case cC14 => k_is); (case cP14 => k_is); (case cA15 => k_is); (case cL15 => k_is); (case cT15 => k_is); (case cS15 => k_is); (case cG15 => k_is); (case cH15 => k_is); (case cK15 => k_is); (case cE15 => k_is); (case cD15 => k_is); (case cY15 => k_is); (case cM15 => k_is); (case cA16 => k_is); (case cL16 => k_is); (case cT16 => k_is); (case cS16 => k_is); (case cG16 => k_is); (case cH16 => k_is); (case cK16 => k_is); (case cE16 => k_is); (case cD16 => k_is); (case cY16 => k_is); (case cM16 => k_is); (case cA17 => k_is); (case cL17 => k_is); (case cT17 => k_is); (case cS17 => k_is); (case cG17 => k_is); (case cH17 => k_is); (case cK17 => k_is); (case cE17 => k_is); (case cD17 => k_is); (case cY17 => k_is); (case cM17 => k_is); (case cN0_17 => k_is); (case cI17 => k_is); (case cJ17 => k_is); (case cF17 => k_is); (case cC17 => k_is); (case cP17 => k_is); (case cA18 => k_is); (case cL18 => k_is); (case cT18 => k_is); (case cS18 => k_is); (case cG18 => k_is); (case cH18 => k_is); (case cK18 => k_is); (case cE18 => k_is); (case cD18 => k_is); (case cY18 => k_is); (case cM18 => k_is); (case cN0_18 => k_is); (case cI18 => k_is); (case cJ18 => k_is); (case cF18 => k_is); (case cC18 => k_is); (case cP18 => k_is); (case cs1 => k_is); (case cs2 => k_is); (case cX1 => k_exc); (case cX11 => k_exc); (case cX15 => k_exc); (case cX16 => k_exc); (case cnd => decide)
